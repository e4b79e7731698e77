import PyProof.Rows.All
import Wide.All
import OpenK.AllK
import Wide.FinOn
import Lean
import PyProof.EqAt
import PyProof.EqKinds
import PyProof.TupleCall
import PyProof.Rows.SortRuns
import PyProof.DictUpdate
import PyProof.AttrMissHeap
import PyProof.IsiH_list
import KE.KDictOf
import PyProof.DictCompW
import PyProof.Rows.SetFrom
import KE.KDictList
import PySem.Challenge.RW_yesnowords_k91_whole_kinds_closed
set_option Elab.async false
set_option linter.all false
set_option compiler.extract_closed false
set_option bootstrap.genMatcherCode false
set_option genSizeOf false
set_option genSizeOfSpec false
set_option maxHeartbeats 2000000
section
open Lean
abbrev nY:=Syntax
def nM:=mkAtom
def nK (k:Name)(xs:List nY):nY:=.node .none (`Lean.Parser.Term++k) xs.toArray
def nC (xs:List nY):nY:=mkNullNode ((xs.intersperse (nM ",")).toArray)
def nB (k a b:String)(x:List nY):nY:=.node .none (.mkSimple k) #[nM a,nC x,nM b]
def nP:nY:=nK `hygienicLParen [nM "(",.node .none `hygieneInfo #[mkIdent .anonymous]]
def nT (w:String):nY:=if w.front.isDigit then Syntax.mkNumLit w else if w.front=='.' then nK `dotIdent [nM ".",mkIdent (w.drop 1).toString.toName] else if w=="_" then nK `hole [nM "_"] else mkIdent w.toName
def nA:List nY->nY
 |[f]=>f
 |f::r=>nK `app [f,mkNullNode r.toArray]
 |[]=>.missing
def nG:Nat->List Char->String->List nY->List nY->List nY×List Char
 |0,cs,_,_,r=>(r,cs)
 |n+1,cs,w,a,r=>
  let b:=if w=="" then a else nT w::a
  let e:=(if b.isEmpty then r else nA b.reverse::r).reverse
  match cs with
  |[]=>(e,cs)
  |c::cs=>
   let sub:=λ(k:_->nY) b=>
    let(x,ds):=nG n cs "" [] []
    match ds with
    |'.'::es=>let f:=es.takeWhile Char.isAlphanum;nG n (es.drop f.length) "" (nK `proj [k x,nM ".",mkIdent (String.ofList f).toName]::b) r
    |_=>nG n ds "" (k x::b) r
   let fin:=λds (f:nY->nY)=>let(x,ds):=nG n ds "" [] [];(r.reverse++match x with|y::z=>f y::z|_=>[],ds)
   if c==')'||c==']'||c=='⟩' then (e,cs)
   else if c==',' then nG n cs "" [] (nA b.reverse::r)
   else if c==' ' then nG n cs "" b r
   else if c=='(' then sub (λxs=>match xs with|[x]=>nK `paren [nP,x,nM ")"]|[.missing,x,y]=>nK `typeAscription [nP,x,nM ":",mkNullNode #[y],nM ")"]|x::y=>nK `tuple [nP,mkNullNode #[x,nM ",",nC y],nM ")"]|_=>.missing) b
   else if c=='⟨' then sub (λx=>nK `anonymousCtor [nM "⟨",nC x,nM "⟩"]) b
   else if c=='[' then if w=="#v" then sub (λx=>.node .none `Vector.«term#v[_,]» #[nM "#v[",nC x,nM "]"]) a else if w=="#" then sub (nB "term#[_,]" "#[" "]") a else sub (nB "term[_]" "[" "]") b
   else if c=='"' then let s:=cs.takeWhile (·!='"');nG n (cs.drop (s.length+1)) "" (Syntax.mkStrLit (String.ofList s)::b) r
   else if c=='λ' then let s:=cs.takeWhile (·!='=');fin (cs.drop (s.length+2)) λx=>nA (nK `fun [nM "λ",nK `basicFun [mkNullNode (((String.ofList s).splitOn " ").map nT).toArray,mkNullNode,nM "=>",x]]::b).reverse
   else if "+-*^/%<=&:".contains c then
    let s:=c::cs.takeWhile ("=&:/\\".contains ·)
    if s==[':'] then nG n cs "" [] (nA b.reverse::.missing::r) else fin (cs.drop (s.length-1)) λx=>.node .none (.mkSimple s!"term_{String.ofList s}_") #[nA b.reverse,nM (String.ofList s),x]
   else nG n cs (w.push c) a r
def nD (t:String)(i j:Nat):Option nY:=((t.splitOn "|")[10*(j-7)+i]?).map λs=>nA (nG 999 s.toList "" [] []).1
end
open Lean in
local macro_rules | `(#v[$a,$b])=>(do nD "⟨#v[0,0,5],rfl,λ_ _ _ _ _ _ us hl=>len2 us hl λ_ _=>rfl⟩|(gSeq (gSet [0] 5 (zac [true,false] (Ψ \"_law_take\") (gCns (zaa 0) (gCns (gArg (gOp2 oIx (gArg (zau (gCns #v[2] (gCns #v[5] (gCns #v[5] gA0))))) (zaa 2))) gA0)))) (zgk (gApp 3 (gOp2 oIx (gArg (zau (gCns #v[5,4] (gCns (gArg (gOpN oInt (gCns (gArg (gOp2 oEq (zaa 5) #v[0])) gA0))) (gCns (gArg (gOpN oInt (gCns (gArg (gOp2 (oI yes2 λi j=>.bl (decide (j<i))) (zaa 5) #v[0])) gA0))) gA0))))) (zaa 2)))))|(model X.prog X.w)|⟨#v[0,0,5],rfl,λ_ _ _ _ _ _ us hl=>len1 us hl λ_=>rfl⟩|[some (st3,true),some (.tup [.int (m : Nat),.int (t : Nat)],false),some (.tup [.int (m : Nat),.int (s : Nat)],false),some (.int (m : Nat),false),some (.lst X,false),some (.lst Y,true),some (.int (u : Nat),false),some (.int (v : Nat),false),some (.lst Z,false),some (.int x,false),some (.tup D,false),none]|(.ListComp elt [⟨tg,iter,ifs,0⟩,⟨tg2,iter2,ifs2,0⟩] scope pos)|(.ListComp elt (⟨tg,iter,ifs,0⟩ :: gs) scope pos)|[#v[tuW is s,6],#v[(m:Nat),0],some (.dct (dK43 is s m) (castL (List.range (2 ^ m))),true)]||((h3.update a (Obj.mapSeq λ_=>(#[]:Array Value))).push (seqObj \"tuple\" vs.toArray 0))|(.frl (ns.map W.int),false)|(gArg (gOp2 (oI cPow λi j=>.int (i ^ j.toNat)) (gArg (gC (.int 10))) (gArg (gC (.int 60)))))||(.bl false,false)|(s.heap.push (seqObj \"list\" #[] 0))|[.int (m:Nat),.int (t:Nat)]|[#v[st1,5],#v[klW,2],#v[kdW m t,6],#v[(castL L),2],w4,w5]|(gCns #v[2,4] (gCns #v[1,4] gA0))|[#v[(m:Nat),0],#v[(wordOf (tab (2 ^ m) f)),0],#v[(wordOf (tab (2 ^ m) (zam f))),0]]|(.bl true,false)||(Obj.mapSeq λ_=>(#[]:Array Value))|(gOpN oLen (gCns (gArg (zac [false] (Ψ \"terms\") (gCns #v[2,4] gA0))) gA0))|[#v[st,5],#v[n,0],#v[way,0],#v[(xs.map W.int),2],#v[(0+(i:Nat)),0],v5]||(gArg (gOpN oLen (gCns (zaa 0) gA0)))|[#v[tuW is s,6],#v[(p:Nat),0],#v[(castL is),3],#v[(s:Nat),0],none]|(gRet (gC (.bl false)))|[#v[(m:Nat),0],#v[[.tup L,.int (s:Nat)],3],#v[L,3],#v[(s:Nat),0]]|⟨#v[0,0,5],rfl,λ_ _ _ _ _ _ us hl=>len3 us hl λ_ _ _=>rfl⟩||(gAug [] (oI yes2 λi j=>.int (Builtin.bitOr i j)) 1 (gArg (gOp2 #v[0,0,1] #v[1] (zaa 2))))|[some #v[0,8],#v[[.int 0,.int 0,.int 0],2],none,none,none,none]|(seqObj \"list\" vs.toArray 0)|[#v[m,0],#v[(rowF m f 0),0],#v[((tab (i+1) (rowF m f)).map W.int),2],#v[(0+(i:Nat)),0]]||[#v[st1,5],#v[klW,2],#v[kdW m t,6],#v[[.int 0],2],none,none]|(.ListComp elt gens scope pos)|[#v[st,5],#v[(m:Nat),0],#v[[],2],#v[[.int 0],2],none,none]|(.frl ((n0::nr).map W.int),false)|(gArg (gOp2 #v[0,0,1] #v[1] (zaa 1)))||(gArg (gOp2 oIx (zaa 0) #v[0]))|(oI yes2 λi j=>.bl (decide (j<i)))|(s.heap.objs.size+1)|[v0,#v[kdW m t,6],v2,#v[(m:Nat),0],v4,v5,#v[(u:Nat),0],v7,v8,v9,v10,v11]|[W.int (m:Nat),W.int (t:Nat)]|(zbb (gCns #v[3,4] (gCns (gArg (zac [true,false] (Ψ \"_law_take\") (gCns (zaa 1) (gCns (gArg (gOp2 oAdd (zaa 3) #v[1])) gA0)))) gA0)))|[#v[m,0],#v[(rowF m f 0),0],#v[((tab 1 (rowF m f)).map W.int),2],none]|(gCns #v[2,4] gA0)|[#v[kdW m t,6],#v[x,0],v2,v3,#v[(P.map tmW),3]]|(gArg (gOp2 oIx (zaa 1) #v[1]))|(gArg (gOp2 oIx (zaa 1) #v[0]))|[#v[#v[5,8],3],#v[(u:Nat),0],#v[(m:Nat),0],#v[(t:Nat),0],#v[P,3]]|(gArg (gOp2 oAdd (gArg (gOp2 oMult (gArg (gOp2 oIx (zaa 1) (gArg (gC (.int 1))))) (gArg (gC (.int 48271))))) (zaa 5)))|[v0,v1,#v[(wordOf (tab (2 ^ m) (zam f))),0]]|((s.heap.update a #v[1,9]).push (seqObj \"tuple\" vs.toArray 0))||[v0,v1,#v[kdW m t,6],#v[(castL L),2],v4,v5]|[v0,#v[(i:Nat),0],#v[(wordOf (tab n f)),0]]|[some #v[0,8],#v[[.int a0,.int 0,.int 0],2],v2,v3,none,none]|(seqObj \"list\" #[] 0)|(oI yes2 λi j=>.int (Builtin.bitXor i j))|(oI yes2 λi j=>.int (Builtin.bitAnd i j))|(gCns #v[1,4] gA0)|[some #v[9,10],some (.lst [.int a0,.int 0,.int 0],true),some (.int wt,false),some (.int n,false),none,none]|[#v[kdW m t,6],#v[(ds.map W.int),3],none]|(gOp2 oAdd (gArg (gSl (zaa 3) zbx (ze5 (gC (.int 40))))) (gArg (gSl (zaa 3) (ze5 (gOp1 oNeg #v[20])) zbx)))||[.int (m:Nat),.int (s:Nat)]|(gSeq (zbo 1 (gC (.int 0)) (gOp2 oAdd (gArg (gOp2 oIx (zaa 1) (gArg (gC (.int 0))))) (gArg (gOp2 oMult (gArg (gOp2 (oI (λ_ j=>decide (0<j)) λi j=>.int (i%j)) (gArg (gOpN oAbs (gCns (zaa 3) gA0))) #v[1,8])) (zaa 2))))) (gSet [] 2 (gOp2 oMult (zaa 2) #v[1,8])))|(oI (λ_ j=>decide (0<j)) λi j=>.int (i%j))|[#v[x,6],#v[(castL B),1],#v[(b:Nat),0],#v[(l:Nat),0]]|[#v[st,5],#v[kdW m t,6],#v[(w:Nat),0],none,none,none]|[#v[[.int (m:Nat),.int (most:Nat)],3],#v[(wordOf (tab (2^m) f)),0],#v[(m:Nat),0],#v[(most:Nat),0]]||(gCns (zaa 1) gA0)|(gCns #v[0,4] gA0)|||[#v[tuW is s,6],#v[(m:Nat),0],v2]|(oI cPow λi j=>.int (i^j.toNat))|[some #v[0,8],#v[st,5],none,none,none,none]|[#v[st',5],#v[n,0],#v[way,0],#v[(xs.map W.int),2],#v[(0+(i:Nat)),0],#v[one,0]]|(seqObj \"list\" #[] e1)|(gArg (gOp2 oIx (zaa 0) #v[2]))|[some #v[9,10],some (.lst [.int 0,.int 0,.int 0],true),none,none,none,none]|(gArg (gOp2 oAdd #v[2] (gArg (gOpN oMin (gCns #v[5] (gCns #v[5,9] gA0))))))|(gCns #v[0,4] (gCns (gArg (gOp2 oIx (zaa 2) (zaa 3))) (gCns #v[3,4] gA0)))|[some (x,false),some (.int (w:Nat),false),some (.int (w:Nat),false),none]|[v0,#v[kdW m t,6],v2,#v[(m:Nat),0],v4,v5,#v[(u:Nat),0],v7,v8,v9,v10,w11]|[some (st2,true),some (.int n,false),some (.int 3,false),none,none,none]|[some (st1,true),some (.int n,false),some (.int 3,false),none,none,none]|[.int i,.int j]|[#v[kdW m t,6],#v[(ds.map W.int),3],#v[((chz (zab m t) ds).map tmW),3]]|(gArg (gC (.int 2305843009213693951)))|(gArg (gOp2 #v[0,0,1] #v[1] (zaa 0)))|[.int (m:Nat),.int (t:Nat)]|[.int (m:Nat),.int (s:Nat)]|[.int (a:Nat),.int (b:Nat)]|[#v[st1,5],#v[#v[5,8],3],#v[(v:Nat),0],v3,#v[T1,6],#v[(u:Nat),0]]|[#v[st',5],#v[(m:Nat),0],#v[(castL is),2],#v[(castL su),2],v4,v5]|(oI yes2 λi j=>.int (i+j))||(gCns (gArg (gOp1 zdl (zaa 0))) gA0)|[some (.int (m:Nat),false),some (.tup (ts.map tmW),false),none]|(gOp2 oEq (gArg (zac [false,false] (Ψ \"says\") #v[7,8])) #v[1])|(.bl (decide (i=j)),false)|[v0,#v[kdW m t,6],v2,#v[(m:Nat),0],v4,v5,v6,v7,v8,v9,v10,v11]|[#v[(m:Nat),0],#v[tuW is s,6],#v[(castL is),3],#v[(s:Nat),0]]|(gCns (zaa 3) gA0)|(gCns #v[1,4] (gCns #v[6,4] gA0))|[⟨tg,iter,[],0⟩]|[#v[(ts.map tmW),3]]|(gCns #v[0] gA0)|[#v[(castL M),1],#v[0,0],none]|[#v[x,6],some (.lst (castL B),o),#v[(b:Nat),0],w3]|(gOpN zan (gCns (zaa 4) gA0))|(gArg (gC (.bl true)))|[.int m,.int (wordOf (tab (2^m.toNat) f)),.int j]|[#v[st1,5],#v[klW,2],#v[kdW m t,6],#v[C,2],w4,w5]|[none,none,some 2]|[none,none,some 0]|[#v[x,6],#v[[],2],none,none]|(gCns #v[3,4] gA0)|(gCns #v[2] gA0)|(gCns #v[1] gA0)|(gArg (zbb (gCns #v[3,4] (gCns #v[11,4] gA0))))|(gCns (zaa 0) (gCns (gArg (gC (.int 2))) gA0))||[#v[x,6],some (.lst (castL (bo ws)),o),w2,w3]|(gArg (zac [false] (Ψ \"how_many\") #v[9,11]))|[#v[(wordOf (tab n f)),0]]|[#v[(m:Nat),0],#v[tuW is s,6],#v[(w:Nat),0]]|(gArg (zac [false] (Ψ \"all_yes\") #v[7,14]))|(gCns (gArg (gOp2 oIxD (zaa 2) #v[0])) gA0)|(gCns (gArg (gOp2 oAdd (zaa 3) #v[1])) gA0)|[.int (m:Nat),.int (wordOf (tab (2^m) f))]|[#v[x,6],#v[(w:Nat),0],#v[(w:Nat),0],none]|(gCns (gArg #v[2,9]) gA0)|[v0,v1,#v[kdW m t,6],v3,#v[(k:Nat),0],v5]|(oI yes2 λi j=>.int (Builtin.bitOr i j))|(gCns #v[0,11] gA0)|[none,none,none]|[#v[(wordOf (tab n f)),0],#v[(p:Nat),0]]|(gOp2 oEq (zaa 2) #v[1])|[.int a0,.int b,.int 0]|[.int (wordOf (tab n f)),.int (p:Nat)]" (<-a.raw.isNatLit?) (<-b.raw.isNatLit?):Option _).elim Macro.throwUnsupported pure
local macro_rules|`(tactic|symm)=>`(tactic|first|lia|omega|omega +splitDisjunctions)
set_option maxRecDepth 100000
open Option renaming some → Za, none → Zb
open Bool renaming false → Zc, true → Zd
open PySem renaming Value → Ze, Shared → Zf, Addr → Zh, Expr → Zi
open PySem.W renaming Frag → Zg
open PySem renaming wpAny_bind → Aa, wpAny_pure → Aj, mem_of_lookup → By, wpAny_mono → Ci, wpAny_holding → Ct, wpAny_truthy_bool → Di, wpAny_newObj_type → Dj, wpAny_field → Dk, wpAny_loadPart' → Dq, wpAny_rule → Dr, wpAny_callSpecial?_slot → Dt, wpAny_seqItems → Eb, wpAny_isNot_plain → Eo, wpAny_standAt → Ew, wpAny_pyIter_list → Fc, wpAny_call_entry → Ft, wpAny_setField_rec → Fz, wpAny_pyIter_tuple → Gw, wpAny_Call_Name_kw → Gx, wpAny_letGo → Gy, wpAny_passesOwn → Hs, codeAny_builtin → Ht, wpAny_tryCatch → Ia, wpAny_pyIter_enum → Ib, sizeLine_eq → Ic, wpAny_newList → Ig, wpAny_comprehension_free → Ih, wpAny_attempt → Ii
open List renaming getElem?_eq_getElem → Ab, length_map → Ac, mem_cons_of_mem → Ai, getElem?_map → Ak, size_toArray → Am, mem_cons_self → An, mem_cons → Ao, getElem?_eq_some_iff → Ap, mem_singleton → As, getD_eq_getElem?_getD → Au, mem_append_right → Av, map_cons → Ax, mem_range → Az, length_append → Bb, mem_map → Bd, length_range → Be, append_assoc → Bf, length_cons → Bg, mem_append → Bh, all_eq_true → Bi, mem_filter → Bl, mem_of_getElem? → Bn, not_mem_nil → Br, lookup_cons → Bs, nodup_cons → Bt, append_nil → Bu, nodup_iff_pairwise_ne → Bw, map_append → Bx, map_map → Ca, all_cons → Cb, pairwise_cons → Ce, take_append_drop → Cf, pairwise_append → Ch, getElem?_eq_none → Ck, take_length → Cp, mem_append_left → Cq, getElem?_append_left → Cr, drop_eq_getElem_cons → Cs, map_congr_left → Cv, pairwise_map → Cy, zip_cons_cons → Da, getElem?_append_right → Db, any_cons → Dd, length_take → De, replicate_succ → Df, mem_iff_getElem → Dm, getElem?_set_ne → Dn, filter_cons → Do, sum_cons → Ds, take_zero → Dy, take_succ → Dz, ext_getElem? → Ea, filter_nil → Ei, take_succ_cons → Ek, take_of_length_le → El, getElem?_set_self → Em, filter_append → Es, length_replicate → Ev, range_succ → Ex, find?_cons → Ey, getElem_mem → Ff, filter_cons_of_pos → Fg, filter_cons_of_neg → Fh, of_mem_zip → Fu, length_set → Fv, contains_iff_mem → Fy, drop_zero → Ga, any_eq_true → Gd, eraseDups_cons → Gf, length_nil → Gi, pairwise_singleton → Gm, take_sublist → Gp, take_add_one → Gq, foldl_append → Gr, flatten_cons → Gs, length_drop → Gz, getElem?_mapIdx → Hd, length_zipWith → Hk, getElem?_range → Hl, filter_congr → Hv, drop_sublist → Hw
open PySem.Heap renaming get?_push_of_some → Ad, lt_size → Ar, get?_push_size → Ay, size_push → Ec, get?_update_other → Ed, get?_update_self → Hm, get?_push_ne → Ie
open Bool renaming and_eq_true → Ae, false_ne_true → Ah, not_eq_true → Bo, or_eq_true → Co, not_eq_false' → Dc, false_and → Ee, eq_iff_iff → Ej, and_false → Fj, false_eq_true → Fq, not_true → Fw, and_true → Fx, xor_false → Gu, not_false → Gv
open Nat renaming le_refl → Af, lt_of_lt_of_le → Aw, ne_of_lt → Bc, pow_le_pow_right → Bj, xor_assoc → Bk, zero_le → Bm, xor_zero → Bv, testBit_xor → Cc, zero_testBit → Cg, lt_irrefl → Cj, le_trans → Cm, xor_self → Cw, mod_two_eq_zero_or_one → Cz, pow_pos → Dl, zero_add → Dv, testBit_lt_two_pow → Dw, testBit_eq_decide_div_mod_eq → Dx, le_add_right → Ep, xor_lt_two_pow → Er, lt_succ_of_lt → Ez, testBit_two_pow → Fb, zero_xor → Fm, lt_succ_self → Gc, lt_of_le_of_lt → Gk, le_of_succ_le → Go, pow_lt_pow_right → Hb, add_sub_cancel' → Hj, xor_comm → Hn
open PyProof.Rows renaming wpS_pure → Ba, wpS_bind → Bq, wpS_forRange → Cu, callWith_type1 → Dp, wpS_mono → Eu, slot_tuple_getitem → Fa, listUpdate_at → Gj, get?_update_seq → Hg, wpS_get → Ij
open LawfulBEq renaming eq_of_beq → Bp
open Array renaming toList_append → Bz, length_toList → Cn, toList_push → Eh, getElem?_eq_none → Fs, perm_iff_toList_perm → Gb, toList_reverse → He
open PySem.W renaming kia_one → Dg
open PySem.Heap.SameBut renaming update → Dh
open Int renaming toNat_natCast → Ef, eq_ofNat_of_zero_le → Eg, natCast_nonneg → Et, zero_add → Fp, emod_nonneg → Hh, lt_of_lt_of_le → Hq, emod_lt_of_pos → Hr
open Option renaming bind_some → Fe, isSome_iff_exists → Hz
open PySem.F renaming slot_tuple_iterator_next → Gh, plain_max_loop → Ho, args_tuple_add_2 → Hy
open LawfulMonad renaming pure_bind → Hi
open Prod.mk renaming inj → Hu
def Ag:=@decide_eq_true
def Aq:=@of_decide_eq_true
def At:=@decide_eq_false
def Du:=@decide_eq_true_eq
def Ge:=@beq_eq_false_iff_ne
def Gn:=@if_true
def Ha:=@or_false
namespace PySem.W.Fast
def tw8685735076550024277:=0
def tw5783708851661439027:=0
def tw5889834439205387706:=0
def tw3060882024461806243:=0
def tw15415406537053881749:=0
def tw10001329500794420159:=0
def tw8456020724204705774:=0
def tw9880765797908647042:=0
def tw18339508972467704378:=0
def tw14397357907862284728:=0
def tw17239276226700244577:=0
def tw15344600709259092404:=0
def tw10037684609138336532:=0
def tw17824605543552127085:=0
def tw11494338929822121699:=0
def tw2113190309044975688:=0
def tw17144612585266576407:=0
def tw3817979070330060093:=0
def tw6987685977163871282:=0
def tw17419617655305323728:=0
def tw3650446632906728622:=0
def tw241033385651149200:=0
def tw4411631715229539551:=0
def tw13888620917206254034:=0
def tw5824825309240835512:=0
def tw12027766997699865455:=0
def tw11445968677135865007:=0
def tw8016903729760104583:=0
def tw7085410410541580259:=0
def tw5060434844798474237:=0
def tw5653681910335534984:=0
def tw4352265790831474315:=0
def tw7846123855923720302:=0
def tw5899234793832174387:=0
def tw17752893182544381219:=0
def tw10663818481488920057:=0
def tw2307005994601944097:=0
def tw1562573394025300500:=0
def tw12676123848028803695:=0
def tw1456816914332197175:=0
def tw10677588506904957249:=0
def tw5647901461948519658:=0
def tw6406078298572759814:=0
def tw15058161802564497563:=0
def tw18085594521833674670:=0
def tw17047310058760711878:=0
def tw15347513686042559119:=0
def tw707620288942302956:=0
def tw2270622123312589532:=0
def tw8901775323709324452:=0
def tw5751607619957921267:=0
def tw1766756010997474868:=0
def tw11244766848659985524:=0
def tw12863699106295328900:=0
def tw4697463379033701866:=0
def tw17668748255364573081:=0
def tw1885531744500840319:=0
def tw12382530993786516059:=0
def tw16300207430418773024:=0
def tw11303873110812829045:=0
def tw5015807850343832323:=0
def tw7642659363273832370:=0
def tw4614006820935964639:=0
def tw15328196230652612503:=0
def tw8081288186399423451:=0
def tw7470749937378608774:=0
def tw2820271607432343010:=0
def tw4926973029351158575:=0
def tw10369170994365761393:=0
def tw9679722867124398443:=0
def tw6955188324716585053:=0
def tw17819737655578892607:=0
def tw13470842458901730251:=0
def tw17832188288816988669:=0
def tw1006828525636165529:=0
def tw17868264268063622414:=0
def tw17865463312831552320:=0
def tw6593992897167138633:=0
def tw14217446835528817178:=0
def tw6146518250192751567:=0
def tw15568147779292177237:=0
def tw10282765820003372296:=0
def tw16964063634160722121:=0
def tw1831325999580255207:=0
def tw5817128059570053033:=0
def tw12950177199693468561:=0
def tw6431785842499429477:=0
def tw17655598480176761056:=0
def tw16649186645756677582:=0
def tw13457274590978054684:=0
def tw6599068647532209711:=0
def tw6539007397983541632:=0
def tw18136256204016286569:=0
def tw13637208530924440263:=0
def tw12195330545004612650:=0
def tw3419695608006343944:=0
def tw17622223243144032421:=0
def tw11331402733622028059:=0
def tw2019344125187675568:=0
def tw4381800658837192868:=0
def tw15283011771221306675:=0
def tw12015224264518871704:=0
def tw1350937349217135508:=0
def tw10908549505890089888:=0
def tw14667159800939757849:=0
def tw2653394224754200269:=0
def tw12464733306765906582:=0
def tw5464254517143925044:=0
def tw16268518350031100154:=0
def tw3903467927824631196:=0
def tw17546268060484016019:=0
def tw1745715189217601305:=0
def tw2172089985694552984:=0
def tw16881498221723207595:=0
def tw2438908827216239976:=0
def tw16069054012434999338:=0
def tw8700341995751694495:=0
def tw10818913202948251435:=0
def tw6290956798531952222:=0
def tw4680009180308777390:=0
def tw7936192266835217027:=0
def tw11257955869831375095:=0
def tw12680636664854477954:=0
def tw18115702916703052730:=0
def tw13135294953000521218:=0
def tw1680457415712479969:=0
def tw11612428255873427336:=0
def tw13674244575994953149:=0
def tw17007874716705029260:=0
def tw4611586501616127100:=0
def tw12705896085708663011:=0
def tw12509932328610096321:=0
def tw693918761822617630:=0
def tw13259282201127007247:=0
def tw3641305639858312385:=0
def tw7633640629942251816:=0
def tw8077850776769215513:=0
def tw13477908724457985508:=0
def tw11627451498904905659:=0
def tw11019463321058291765:=0
def tw1163807173834036546:=0
def tw7870352222945497034:=0
def tw7081459538632989271:=0
def tw16579902964441536197:=0
def tw10387366191220277011:=0
def tw1145891575361108331:=0
def tw7388572971809235639:=0
def tw5610882924836616057:=0
def tw9904941358844996378:=0
def tw14029546197763019730:=0
def tw16573103577308829726:=0
def tw782122179272939150:=0
def tw11748261954319015622:=0
def tw7668349184896713579:=0
def tw5789968921690868298:=0
def tw14038731133031960269:=0
def tw4637727718995668888:=0
def tw15005252917411427363:=0
def tw5808564559638364903:=0
def tw4769071232163969512:=0
def tw12712947839940873311:=0
def tw6583218683354966316:=0
def tw9172464875280660250:=0
def tw11752077209746084429:=0
def tw16107232703811750340:=0
def tw6234752305997073042:=0
def tw5488531658944336413:=0
def tw13237584559952510113:=0
def tw7909873290539043523:=0
def tw12184417598788627935:=0
def tw15893197064630339640:=0
def tw7736878030855961498:=0
def tw10826473993586753908:=0
def tw6282876593138040605:=0
def tw2944097367349507241:=0
def tw878199204736417337:=0
def tw8983113561573694960:=0
def tw16170809349317138168:=0
def tw10347125678453735483:=0
def tw7125669035649373748:=0
def tw14816136385492127065:=0
def tw8474046918087737333:=0
def tw18323736604179650886:=0
def tw14237524720223075731:=0
def tw1212547689192660477:=0
def tw16689429537538147527:=0
def tw8264994320704573617:=0
def tw17607457813937075060:=0
def tw5828934145352215427:=0
def tw1338067155213158873:=0
def tw14541109181414903184:=0
def tw14019905517711258136:=0
def tw5150590140013387583:=0
def tw10189276454936900677:=0
def tw1219676344357952634:=0
def tw14382009109471852139:=0
def tw8507880191765572139:=0
def tw6142585234725864207:=0
def tw14055425623389416904:=0
def tw7435382726257722420:=0
def tw6575263151437421497:=0
def tw14202061179775430132:=0
def tw10364944082900892572:=0
def tw13571000504365640680:=0
def tw2119519987126005131:=0
def tw1315249775691267424:=0
def tw11248828096495618377:=0
def tw2871013310764589564:=0
def tw11620668191030582331:=0
def tw16106592530829028131:=0
def tw14532957700505833016:=0
def tw17499070552994470459:=0
def tw3567949732736961538:=0
def tw17173870344903640098:=0
def tw4300232986463627374:=0
def tw185658032431021074:=0
def tw14957771920259335487:=0
def tw17571061944621857708:=0
def tw9129020344646663076:=0
def tw10750096514994480031:=0
def tw8321102532825977157:=0
def tw2879485412296936775:=0
def tw16660937076713134465:=0
def tw2947241173172016821:=0
def tw11225721155384017349:=0
def tw3790977580730475252:=0
def tw3084051271080809758:=0
def tw6419919055426134703:=0
def tw3796526240825120882:=0
def tw10565966429811527604:=0
def tw528160390061314569:=0
def tw14441558384904798476:=0
def tw2365573056874450272:=0
def tw11518560066004604096:=0
def tw8022710957476063260:=0
def tw17325751168230455642:=0
def tw6010988934290684161:=0
def tw11594385308272755261:=0
def tw1544807230360966242:=0
def tw3082247322324588493:=0
def tw1874557515502289122:=0
def tw10266916056332714679:=0
def tw8818598307810897956:=0
def tw13446031099171074945:=0
def tw13309715653011835790:=0
def tw3432073194480931801:=0
def tw17644131022041627770:=0
def tw13755166978605968680:=0
def tw15569968581852811069:=0
def tw3967008739862354175:=0
def tw17220571419762279815:=0
def tw894599963508749003:=0
def tw644566292398825069:=0
def tw16634389474902090299:=0
def tw16696955685949282487:=0
def tw17227379006470207022:=0
def tw11514611473194639200:=0
def tw10133508788513020282:=0
def tw17164940583095788389:=0
def tw17640380717489072097:=0
def tw16632321102674285373:=0
def tw2166164426454120867:=0
end PySem.W.Fast
theorem bS {α β}{o:Option α}{f:α->Option β}{b}(h:o.bind f=Za b):∃a,o=Za a/\f a=Za b:=Option.bind_eq_some_iff.mp h
theorem sI {α}{a b:α}(h:Za a=Za b):a=b:=Option.some.inj h
namespace L2
open PySem PySem.Spec PyProof.Rows
theorem aG {P:Prop}(h:∀G:Prop,(P->G)->G):P:=h P id
end L2
set_option hygiene false
local macro_rules | `(tactic| nofun) => `(tactic| refine L2.aG fun _ qG=>?_)
local macro_rules | `(tactic| ac_rfl) => `(tactic| (refine qG ?_;clear qG))
local macro_rules | `(#v[$x]) => `((gArg (gC (.int $x))))
local macro_rules | `(#v[$x,0]) => `(some (.int $x,false))
local macro_rules | `(#v[$x,1]) => `(some (.lst $x,false))
local macro_rules | `(#v[$x,2]) => `(some (.lst $x,true))
local macro_rules | `(#v[$x,3]) => `(some (.tup $x,false))
local macro_rules | `(#v[$x,4]) => `((gArg (gVar $x)))
local macro_rules | `(#v[$x,5]) => `(some ($x,true))
local macro_rules | `(#v[$x,6]) => `(some ($x,false))
local macro_rules | `(#v[0,0,0]) => `((oI yes2 fun i j=>.int (i - j)))
local macro_rules | `(#v[0,0,1]) => `((oI cPow fun i j=>.int (i * 2 ^ j.toNat)))
local macro_rules | `(#v[0,0,2]) => `((oI (fun _ j=>decide (0 < j)) fun i j=>.int (i % j)))
local macro_rules | `(#v[0,0,3]) => `((oI cDiv fun i j=>.int (i / j)))
local macro_rules | `(#v[]) => `((by symm))
local macro_rules | `(#v[0,0,5]) => `(⟨by kernel_rfl,by kernel_rfl,by kernel_rfl,by decide +kernel,rfl,by decide +kernel,by decide +kernel⟩)
local macro_rules | `(#v[0,9]) => `((by decide))
local macro_rules | `(#v[0,0,7]) => `((by decide +kernel))

set_option hygiene true
namespace L2
open PySem PySem.Spec PyProof.Rows
noncomputable abbrev Key:=Sum Int Str
noncomputable def ztc:Key->Ze->Bool
 |.inl k,v=>Ze.isInt k v
 |.inr x,v=>Ze.isStrOf x v
noncomputable def keyH (w:World):Key->Int
 |.inl k=>hashInt k
 |.inr x=>hashStr w x
theorem keyIs_shape:∀{k:Key}{v:Ze},ztc k v=Zd->(∃i t,k=Sum.inl i/\v=Ze.int i t)\/(∃x t,k=Sum.inr x/\v=Ze.str x t)
 | .inl i,v,h=>by
  obtain⟨t,e⟩:=Ze.isInt_shape (k:=i) (v:=v) h;exact .inl ⟨i,t,rfl,e⟩
 | .inr x,v,h=>by
  obtain⟨t,e⟩:=Ze.isStrOf_shape (x:=x) (v:=v) h;exact .inr ⟨x,t,rfl,e⟩
theorem zux (i:Int)(t:Tok):ztc (.inl i) (.int i t)=Zd:=by simp [ztc,Ze.isInt]
theorem zxq (x:Str)(t:Tok):ztc (.inr x) (.str x t)=Zd:=by simp [ztc,Ze.isStrOf]
theorem ycy (a b:Int):decide ((Sum.inl a:Key)=Sum.inl b)=(a==b):=by
 by_cases e:a=b
 ·subst e;simp
 ·have h : ¬ (Sum.inl a:Key)=Sum.inl b:=λq=>e (Sum.inl.inj q);rw[At h];exact (Ge.mpr e).symm
theorem yfn (a b:Str):decide ((Sum.inr a:Key)=Sum.inr b)=decide (a=b):=by
 by_cases e:a=b
 ·subst e;simp
 ·have h : ¬ (Sum.inr a:Key)=Sum.inr b:=λq=>e (Sum.inr.inj q);rw[At h,At e]
theorem yee (a:Int)(b:Str):decide ((Sum.inl a:Key)=Sum.inr b)=Zc:=At (λq=>nomatch q)
theorem ye8 (a:Str)(b:Int):decide ((Sum.inr a:Key)=Sum.inl b)=Zc:=At (λq=>nomatch q)
noncomputable def zca (prog:Program) (w:World):PySem.KeyKind prog w Key where
 is:=ztc
 hash:=keyH w
 inj:=λv a b f d=>by
  rcases keyIs_shape f with⟨i,t,rfl,rfl⟩|⟨x,t,rfl,rfl⟩
  ·rcases keyIs_shape d with⟨j,u,rfl,e⟩|⟨y,u,rfl,e⟩
   ·injection e with e1 _;rw[e1]
   ·exact nomatch e
  ·rcases keyIs_shape d with⟨j,u,rfl,e⟩|⟨y,u,rfl,e⟩
   ·exact nomatch e
   ·injection e with e1 _;rw[e1]
 byValue:=λk v h=>by
  rcases keyIs_shape h with⟨i,t,rfl,rfl⟩|⟨x,t,rfl,rfl⟩<;>rfl
 pyHash:=λc h=>by
  rcases keyIs_shape c with⟨i,t,rfl,rfl⟩|⟨x,t,rfl,rfl⟩
  ·exact wpAny_pyHash_int h
  ·exact wpAny_pyHash_str h
 eqBool:=λg c h=>by
  rcases keyIs_shape g with⟨i,t,rfl,rfl⟩|⟨x,t,rfl,rfl⟩
  ·rcases keyIs_shape c with⟨j,u,rfl,rfl⟩|⟨y,u,rfl,rfl⟩
   ·rw[ycy] at h;exact wpAny_eqBool_int h
   ·rw[yee] at h;exact SeqAt.EqAt.int_str i t y u _ _ _ _ h
  ·rcases keyIs_shape c with⟨j,u,rfl,rfl⟩|⟨y,u,rfl,rfl⟩
   ·rw[ye8] at h;exact SeqAt.EqAt.str_int x t j u _ _ _ _ h
   ·rw[yfn] at h;exact wpAny_eqBool_str h
 «strs»:=λk x t v h=>by
  rcases keyIs_shape h with⟨i,u,rfl,e⟩|⟨y,u,rfl,e⟩
  ·exact nomatch e
  ·injection e with e1 _;subst e1;cases v<;>rfl
theorem zp6 (prog:Program)(w:World)(i:Int)(t:Tok):(zca prog w).is (.inl i) (.int i t)=Zd:=zux i t
theorem zpr (prog:Program)(w:World)(x:Str)(t:Tok):(zca prog w).is (.inr x) (.str x t)=Zd:=zxq x t
inductive V where
 |non|bl (b:Bool)|int (i:Int)|str (x:Str)|byt (b:Array UInt8)|flt (b:UInt64)|ref (a:Zh)|ty (n:String)
 deriving DecidableEq
noncomputable def RelV:V->Ze->Prop
 |.non,u=>u=Ze.none
 |.bl b,u=>u=Ze.bool b
 |.int i,u=>∃t,u=Ze.int i t
 |.str x,u=>∃t,u=Ze.str x t
 |.byt b,u=>∃t,u=Ze.bytes b t
 |.flt b,u=>∃t,u=Ze.float b t
 |.ref a,u=>u=Ze.ref a
 |.ty n,u=>u=Ze.type n
noncomputable abbrev Vals:List V->List Ze->Prop:=Paired RelV
theorem Vals.length {xs:List V}{us:List Ze}(r:Vals xs us):xs.length=us.length:=Paired.length r
theorem Vals.get:∀{xs:List V}{us:List Ze}{i:Nat}{x:V},Vals xs us->xs[i]?=Za x->∃u,us[i]?=Za u/\RelV x u
 |_,_,_,_,.nil,e=>by simp at e
 |_,_,0,_,.cons r _,e=>by simp at e;subst e;exact⟨_,rfl,r⟩
 | _,_,i+1,x,.cons _ t,e=>by
  obtain⟨u,a,h⟩:=Vals.get (i:=i) (x:=x) t (by simpa using e);exact⟨u,by simpa using a,h⟩
theorem Vals.set {x:V}{u:Ze}(r:RelV x u):∀{xs:List V}{us:List Ze} (i:Nat),Vals xs us->Vals (xs.set i x) (us.set i u)
 |_,_,_,.nil=>.nil
 |_,_,0,.cons _ t=>.cons r t
 |_,_,i+1,.cons q t=>.cons q (Vals.set r i t)
theorem Vals.append:∀{xs ys:List V}{us ws:List Ze},Vals xs us->Vals ys ws->Vals (xs++ys) (us++ws)
 |_,_,_,_,.nil,s=>s
 |_,_,_,_,.cons r t,s=>.cons r (Vals.append t s)
theorem Vals.take:∀{xs:List V}{us:List Ze} (n:Nat),Vals xs us->Vals (xs.take n) (us.take n)
 |_,_,0,_=>.nil
 |_,_,_+1,.nil=>.nil
 |_,_,n+1,.cons r t=>.cons r (Vals.take n t)
theorem Vals.drop:∀{xs:List V}{us:List Ze} (n:Nat),Vals xs us->Vals (xs.drop n) (us.drop n)
 |_,_,0,r=>r
 |_,_,_+1,.nil=>.nil
 |_,_,n+1,.cons _ t=>Vals.drop n t
noncomputable def RelO:Option V->Option Ze->Prop
 |some v,Za u=>RelV v u
 |none,Zb=>True
 |_,_=>False
noncomputable def KV {κ:Type}:List (κ×V)->List (κ×Ze)->Prop:=Paired λ(p:κ×V) (q:κ×Ze)=>p.1=q.1/\RelV p.2 q.2
noncomputable def kV:Key->V
 |.inl i=>.int i
 |.inr x=>.str x
inductive HO where
 /-- a list -/
 |lst (xs:List V)
 /-- a tuple (never changes) -/
 |tup (xs:List V)
 /-- a dict whose keys are ints and texts;one whose keys are tuples of ints and texts (the empty one is both) -/
 |dK (kvs:List (Key×V))|dT (kvs:List (List Key×V))
 /-- a set of ints: its members,its size -/
 |set (S:Int->Bool) (n:Nat)
 /-- an instance of the class at C,its dict at dx,its attributes -/
 |ins (C dx:Zh) (fs:List (Str×V))
 /-- the dict of the instance at x -/
 |own (x:Zh)
 /-- the dict of an exception -/
 |xd (fs:List (Str×V))
 /-- a bound method,f of x -/
 |met (f x:Zh)
 /-- a range object lo,lo+1,.. below hi -/
 |rng (lo hi:Int)
 /-- a thing that is known to the object (the script;a dict while a loop walks it): read,never written while it is so -/
 |frz (o:Obj) (u:HO)
 /-- a code object's table -/
 |tbl (ps:Array Ze)
 /-- any other thing,by what is Zd of its one object (a def of one's own: SetO a S n:=HO.ext λh=>..) -/
 |ext (φ:Heap->Prop)
noncomputable abbrev Hp:=Zh->Option HO
noncomputable def upd (H:Hp) (a:Zh) (o:HO):Hp:=λb=>if b=a then Za o else H b
theorem upd_same:upd H a o a=Za o:=by unfold upd;rw[if_pos rfl]
theorem upd_ne (h:b≠a):upd H a o b=H b:=by unfold upd;rw[if_neg h]
theorem zwn {o u:HO}:upd (upd H a o) a u=upd H a u:=by
 funext b;unfold upd;split<;>rfl
theorem zae {H:Hp}{a b:Zh}{o:HO}(h:H a=Za o)(h':H b=Zb):a≠b:=by
 intro e;subst e;rw[h] at h';cases h'
noncomputable def zm2 (h:Heap) (a:Zh) (items:Array Ze):Prop:=∃o,h.get? a=Za o/\(o.cls=.type "tuple"/\∃n,o.data=.seq items n)/\o.dict=Zb
theorem zm2.t (x:zm2 h a items):IsTup h a items:=let ⟨o,e,r,_⟩:=x;⟨o,e,r⟩
theorem zm2.new (h:Heap)(items:Array Ze):zm2 (h.push { cls:=.type "tuple",data:=.seq items }) h.objs.size items:=⟨_,Ay _ rfl,⟨rfl,_,rfl⟩,rfl⟩
section
variable (P:Program) (w:World)
noncomputable def zbn (H:Hp) (h:Heap) (a:Zh):HO->Prop
 |.lst b=>b.length<=sizeLine/\∃(i:List Ze) (n:Nat),Vals b i/\h.get? a=Za { cls:=.type "list",data:=.seq i.toArray n }
 |.tup b=>b.length<=sizeLine/\∃i:List Ze,Vals b i/\zm2 h a i.toArray
 |.dK kvs=>kvs.length<=sizeLine/\(a==sysModules)=Zc/\∃j,KV kvs j/\h.DictOf (zca P w) a j
 | .dT kvs=>kvs.length<=sizeLine/\(a==sysModules)=Zc/\∃b:List (List Key×Zh×Ze),
  Paired (λ(p:List Key×V) (q:List Key×Zh×Ze)=>p.1=q.1/\H q.2.1=Za (.tup (p.1.map kV))/\RelV p.2 q.2.2) kvs b /\
  ∃o g r,h.get? a=Za o/\o.ExactDict/\o.data=.dict g r/\g.toList=b.map (entryOfKey (tupleKind (zca P w)))/\(b.map (·.1)).Nodup
 |.set S n=>h.SetOf (intKind P w) a S n
 | .ins C d fs=>H d=Za (.own a)/\fs.length<=1000/\d≠a/\h.get? a=Za (PySem.W.instObj C d) /\
  ∃mA,h.Ns1 d mA/\(∀f,RelO (fs.lookup f) (mA f))/\PySem.Within mA (fs.map (·.1))
 |.own _=>∃o,h.get? a=Za o
 |.xd fs=>∃mA,h.Ns1 a mA/\∀f,RelO (fs.lookup f) (mA f)
 |.rng l k=>∃t u v,h.get? a=Za { cls:=.type "range",data:=.fields #[.int l t,.int k u,.int 1 v] }
 |.frz o u=>h.get? a=Za o/\zbn H h a u
 |.tbl m=>h.get? a=Za { cls:=.none,data:=.fields m }
 |.met f x=>h.get? a=Za (PySem.W.methodObj (.ref f) (.ref x))
 |.ext φ=>φ h/\(∃o,h.get? a=Za o)/\∀e c:Heap,φ e->(∀o,e.get? a=Za o->c.get? a=Za o)->φ c
noncomputable def HOk (H:Hp) (h:Heap):Prop:=∀a o,H a=Za o->zbn P w H h a o
end
section
variable {P:Program}{w:World}{H H' : Hp}{h h' : Heap}{a:Zh}{o:HO}
theorem zbn.lt (x:zbn P w H h a o):a<h.objs.size:=by
 cases o with
 |lst b=>obtain⟨_,_,_,_,e⟩:=x;exact Ar e
 |tup b=>obtain⟨_,_,_,p⟩:=x;exact p.t.lt
 |dK kvs=>obtain⟨_,_,_,_,o,_,_,e,_⟩:=x;exact Ar e
 |dT kvs=>obtain⟨_,_,_,_,o,_,_,e,_⟩:=x;exact Ar e
 |set S n=>obtain⟨o,_,_,_,e,_⟩:=x;exact Ar e
 |ins C g fs=>obtain⟨_,_,_,e,_⟩:=x;exact Ar e
 |own y=>obtain⟨_,e⟩:=x;exact Ar e
 |xd fs=>obtain⟨_,⟨_,_,_,e,_⟩,_⟩:=x;exact Ar e
 |rng l d=>obtain⟨_,_,_,e⟩:=x;exact Ar e
 |frz c u=>obtain⟨e,_⟩:=x;exact Ar e
 |tbl i=>exact Ar (show h.get? a=Za _ from x)
 |met f y=>exact Ar (show h.get? a=Za _ from x)
 |ext φ=>obtain⟨_,⟨_,e⟩,_⟩:=x;exact Ar e
theorem Paired.mapP {α β:Type}{F G:α->β->Prop}:∀{c:List α}{l:List β},Paired F c l->(∀a b,F a b->G a b)->Paired G c l
 |_,_,.nil,_=>.nil
 |_,_,.cons r t,f=>.cons (f _ _ r) (Paired.mapP t f)
theorem zbn.stay (x:zbn P w H h a o) (k:∀b u,(b=a\/H b=Za (.own a))->h.get? b=Za u->h'.get? b=Za u)
  (F:∀b,H b=Za (.own a)->H' b=Za (.own a)) (B:∀b xs,H b=Za (.tup xs)->H' b=Za (.tup xs)):zbn P w H' h' a o:=by
 induction o with
 |lst xs=>obtain⟨z,l,n,r,e⟩:=x;exact⟨z,l,n,r,k _ _ (.inl rfl) e⟩
 |tup xs=>obtain⟨z,l,r,g,e,c⟩:=x;exact⟨z,l,r,g,k _ _ (.inl rfl) e,c⟩
 |dK kvs=>obtain⟨z,y,D,r,g,j,i,e,c⟩:=x;exact⟨z,y,D,r,g,j,i,k _ _ (.inl rfl) e,c⟩
 | dT kvs =>
  obtain⟨z,y,xs,r,g,j,i,e,c⟩:=x;exact⟨z,y,xs,Paired.mapP r λp q z=>⟨z.1,B _ _ z.2.1,z.2.2⟩,g,j,i,k _ _ (.inl rfl) e,c⟩
 |set S n=>obtain⟨g,j,i,t,e,c⟩:=x;exact⟨g,j,i,t,k _ _ (.inl rfl) e,c⟩
 | ins C J fs =>
  obtain⟨d,z,ne,e,mA,⟨m,j,i,E,c⟩,r⟩:=x;exact⟨F _ d,z,ne,k _ _ (.inl rfl) e,mA,⟨m,j,i,k _ _ (.inr d) E,c⟩,r⟩
 |own y=>obtain⟨g,e⟩:=x;exact⟨g,k _ _ (.inl rfl) e⟩
 |xd fs=>obtain⟨mA,⟨m,j,i,e,c⟩,r⟩:=x;exact⟨mA,⟨m,j,i,k _ _ (.inl rfl) e,c⟩,r⟩
 |rng K L=>obtain⟨t,u,v,e⟩:=x;exact⟨t,u,v,k _ _ (.inl rfl) e⟩
 |frz g u I=>obtain⟨e,q⟩:=x;exact⟨k _ _ (.inl rfl) e,I q⟩
 | tbl s =>
  have e:h.get? a=Za { cls:=.none,data:=.fields s }:=x;show h'.get? a=Za { cls:=.none,data:=.fields s };exact k a _ (.inl rfl) e
 | met f y =>
  have e:h.get? a=Za (PySem.W.methodObj (.ref f) (.ref y)):=x;show h'.get? a=Za (PySem.W.methodObj (.ref f) (.ref y));exact k a _ (.inl rfl) e
 |ext φ=>obtain⟨p,⟨o,e⟩,A⟩:=x;exact⟨A _ _ p λo q=>k _ _ (.inl rfl) q,⟨o,k _ _ (.inl rfl) e⟩,A⟩
theorem HOk.lt (x:HOk P w H h)(e:H a=Za o):a<h.objs.size:=(x a o e).lt
theorem HOk.fresh (x:HOk P w H h)(e:h.objs.size<=a):H a=Zb:=by
 cases q:H a with
 |none=>rfl
 |some u=>exact absurd (Aw (x.lt q) e) (Cj _)
theorem HOk.kept (x:HOk P w H h)(k:∀b u,h.get? b=Za u->h'.get? b=Za u):HOk P w H h':=λa o e =>
 (x a o e).stay (λb u _ q=>k b u q) (λ_ q=>q) λ_ _ q=>q
theorem HOk.laid (x:HOk P w H h)(k:∀b u,h.get? b=Za u->h'.get? b=Za u)(g:h.objs.size<=a)(new:zbn P w (upd H a o) h' a o):HOk P w (upd H a o) h':=λb u e=>by
 have f:=x.fresh g;by_cases d:b=a
 ·subst d;rw[upd_same] at e;obtain rfl:=sI e;exact new
 ·rw[upd_ne d] at e;exact (x b u e).stay (λc v _ q=>k c v q) (λc q=>by rw[upd_ne (zae q f)];exact q) λc i q=>by rw[upd_ne (zae q f)];exact q
end
noncomputable def Rd (H:Hp) (a:Zh) (u:HO):Prop:=H a=Za u\/∃o,H a=Za (.frz o u)
theorem Rd.ok {w:World}{u:HO}(r:Rd H a u)(x:HOk P w H h):zbn P w H h a u:=by
 rcases r with r|⟨o,r⟩
 ·exact x a u r
 ·obtain⟨_,q⟩:=x a _ r;exact q
noncomputable def Mut:Option HO->Prop
 |some (.lst _)=>True
 |some (.dK _)=>True
 |some (.dT _)=>True
 |some (.set _ _)=>True
 |some (.ins _ _ _)=>True
 |some (.ext _)=>True
 |_=>False
section
variable {w:World}{x e:Zh}
theorem HOk.write (ok:HOk P w H h) (m:Mut (H x)) (o:e=x\/H e=Za (.own x)) (k:∀b u,b≠e->h.get? b=Za u->h'.get? b=Za u) (j:∃u,h'.get? e=Za u)
  (new:zbn P w (upd H x o') h' x o'):HOk P w (upd H x o') h':=λb u q=>by
 have n:∀c y,H c=Za (.own y)->c≠x:=λc y r z=>by subst z;rw[r] at m;exact m
 have d:∀c i,H c=Za (.tup i)->c≠x:=λc i r z=>by subst z;rw[r] at m;exact m
 by_cases f:b=x
 ·subst f;rw[upd_same] at q;obtain rfl:=sI q;exact new
 ·rw[upd_ne f] at q;by_cases a:b=e
  ·have l:H b=Za (.own x):=by
    rcases o with z|z
    ·exact absurd (a.trans z) f
    ·rw[a];exact z
   rw[q] at l;obtain rfl:=sI l;obtain⟨v,p⟩:=j;exact⟨v,by rw[a];exact p⟩
  ·refine (ok b u q).stay (λc v g r=>k c v ?_ r) (λc r=>by rw[upd_ne (n c b r)];exact r) λc i r=>by rw[upd_ne (d c i r)];exact r
   rcases g with rfl|g
   ·exact a
   ·rintro rfl;rcases o with z|z
    ·exact n c b g z
    ·rw[g] at z;cases z;exact f rfl
end
structure Un (fs ex:List Zh) (H H':Hp) (h h':Heap):Prop where
 keep:∀b o,h.get? b=Za o->H b=Zb->b ∉ fs->b ∉ ex->h'.get? b=Za o
 slot:∀b o,h.get? b=Za o->H b=Zb->b∈fs->b ∉ ex->∃sl,h'.get? b=Za { o with slots:=sl }
 free:∀b o,h.get? b=Za o->H b=Zb->b ∉ ex->H' b=Zb
 there:∀b o,h.get? b=Za o->b ∉ ex->∃o',h'.get? b=Za o'
 tups:∀b xs,H b=Za (.tup xs)->H' b=Za (.tup xs)
 frzs:∀b o u,H b=Za (.frz o u)->H' b=Za (.frz o u)
 tbls:∀b ps,H b=Za (.tbl ps)->∃more,H' b=Za (.tbl (ps++more))
section
variable {fs fs' ex ex' : List Zh}{H H1 H2:Hp}{h h1 h2 h' : Heap}{a x e:Zh}{o:HO}
theorem Un.any (u:Un fs ex H H1 h h1){o:Obj}(q:h.get? b=Za o)(n:H b=Zb)(a:b ∉ ex):∃s,h1.get? b=Za { o with slots:=s }:=by
 by_cases c:b∈fs
 ·exact u.slot b o q n c a
 ·exact⟨o.slots,u.keep b o q n c a⟩
theorem Un.kept (k:∀b u,h.get? b=Za u->h'.get? b=Za u):Un fs ex H H h h' :=
 ⟨λb o q _ _ _=>k b o q,λb o q _ _ _=>⟨o.slots,k b o q⟩,λ_ _ _ n _=>n,λb o q _=>⟨o,k b o q⟩,λ_ _ q=>q,λ_ _ _ q=>q,λ_ p q=>⟨#[],by rw[q];simp⟩⟩
theorem Un.refl:Un fs ex H H h h:=Un.kept λ_ _ q=>q
theorem Un.laid (k:∀b u,h.get? b=Za u->h'.get? b=Za u)(d:h.objs.size<=a)(c:H a=Zb):Un fs ex H (upd H a o) h h' where
 keep:=λb u q _ _ _=>k b u q
 slot:=λb u q _ _ _=>⟨u.slots,k b u q⟩
 free:=λb u q n _=>by rw[upd_ne (Bc (Aw (Ar q) d))];exact n
 there:=λb u q _=>⟨u,k b u q⟩
 tups:=λb x q=>by rw[upd_ne (zae q c)];exact q
 frzs:=λb u x q=>by rw[upd_ne (zae q c)];exact q
 tbls:=λb p q=>⟨#[],by rw[upd_ne (zae q c),q];simp⟩
theorem Un.write (m:Mut (H x))(i:e=x\/H e=Za (.own x))(k:∀b u,b≠e->h.get? b=Za u->h'.get? b=Za u)(c:∃u,h'.get? e=Za u):Un fs ex H (upd H x o) h h':=by
 have g:∀b,H b=Zb->b≠x:=λb n z=>by subst z;rw[n] at m;exact m
 have f:∀b,H b=Zb->b≠e:=λb n z=>by
  subst z;rcases i with r|r
  ·exact g b n r
  ·rw[n] at r;cases r
 have d:∀b u,H b=Za u->¬ Mut (Za u)->b≠x:=λb u q nm z=>by subst z;rw[q] at m;exact nm m
 refine⟨λb u q n _ _=>k b u (f b n) q,λb u q n _ _=>⟨u.slots,k b u (f b n) q⟩,λb u q n _=>by rw[upd_ne (g b n)];exact n,λb u q _=>?_,
  λb j q=>by rw[upd_ne (d b _ q λz=>z)];exact q,λb u j q=>by rw[upd_ne (d b _ q λz=>z)];exact q,λb p q=>⟨#[],by rw[upd_ne (d b _ q λz=>z),q];simp⟩⟩
 by_cases a:b=e
 ·subst a;exact c
 ·exact⟨u,k b u a q⟩
end
noncomputable def trk (h:Heap) (H:Hp):List Zh:=(List.range h.objs.size).filter λa=>(H a).isSome
noncomputable def hidT (h:Heap) (H:Hp):Heap:=PySem.W.hideAll h (trk h H)
theorem zzu (h:Heap)(H:Hp):(hidT h H).objs.size=h.objs.size:=PySem.W.hideAll_size _ _
theorem z4c (e:h.get? b=Za o)(n:H b=Zb):(hidT h H).get? b=Za o :=
 PySem.W.hideAll_get _ e λa=>by
  have q:(H b).isSome=Zd:=(Bl.mp a).2;rw[n] at q;simp at q
theorem z7u (e:(hidT h H).get? b=Za o):h.get? b=Za o/\H b=Zb:=by
 have a:h.get? b=Za o:=PySem.W.of_hideAll (trk h H) e;refine⟨a,?_⟩;cases q:H b with
 |none=>rfl
 | some x =>
  have c:b∈trk h H:=Bl.mpr ⟨Az.mpr (Ar a),by simp [q]⟩;have z:(hidT h H).get? b=Zb:=PySem.W.hideAll_none (trk h H) c;rw[z] at e;cases e
noncomputable def z9z (g h:Heap) (L:Zh):List (Zh×Obj):=(List.range h.objs.size).filterMap λa=>if a=L\/(g.get? a).isSome=Zd then Zb else (h.get? a).map λo=>(a,o)
noncomputable def rest (g h:Heap) (L d:Zh):List (Zh×Obj):=(z9z g h L).filter λp=>decide (p.1≠d)
structure Mod (K:Zg) (mg:Str->Option Ze) (base:Heap):Prop where
 kin:K.In base
 glob:base.Ns mainGlobals mg
 blt:∃mb,base.Ns builtinsNs mb/\∀x:Str,x≠"__name__" -> mb x=bootBuiltins x
 nolimit:base.NoLimit
 bmn:∃(b:Zh) (ob:Obj),mg "__builtins__" = Za (.ref b)/\b≠builtinsNs/\base.get? b=Za ob/\ob.cls=.type "module"/\ob.dict=Za builtinsNs/\ob.data=.plain
structure Cx where
 prog:Program
 w:World
 K:Zg
 mg:Str->Option Ze
 base:Heap
 A:Around
 N:List Str
 s₀:Zf
 H₀:Hp
 env:Env
 outer:List Env
 stack:List Env
 ex:List Zh
 fn:Str->Bool
 calm:Bool
 pn:List (Zh×Obj)
 xe:Ze->Zf->Prop
noncomputable def frs (l:List Env):List Zh:=l.filterMap (·.frame)
noncomputable abbrev Cx.fs (X:Cx):List Zh:=frs X.outer
noncomputable def Vis (s:Scope) (x:Str):Prop:=s.names.lookup x=Za .local\/s.names.lookup x=Za .cell\/s.names.lookup x=Za .free
noncomputable def Loc (s:Scope) (x:Str):Prop:=s.names.lookup x=Za .local\/s.names.lookup x=Za .cell
noncomputable def Look (env:Env) (h:Heap) (m:Str->Option Ze) (x:Str) (u:Ze):Prop :=
 (env.kindOf x=Za .local/\m x=Za u)\/((env.kindOf x=Za .cell\/env.kindOf x=Za .free)/\∃c,env.cells.lookup x=Za c/\h.IsCell c (Za u))
structure Cx.Ok (X:Cx):Prop where
 mod:Mod X.K X.mg X.base
 kind:X.env.scope.kind=.function
 glob:X.env.globals=mainGlobals
 blt:X.env.builtins=builtinsNs
 above:X.s₀.heap.objs.size<=X.env.locals
 inj:∀x y c,X.env.cells.lookup x=Za c->X.env.cells.lookup y=Za c->x=y
 has:∀x,(X.env.kindOf x=Za .cell\/X.env.kindOf x=Za .free)->∃c,X.env.cells.lookup x=Za c
 cab:∀x c,X.fn x=Zd->X.env.cells.lookup x=Za c->X.s₀.heap.objs.size<=c
 hd:X.calm=Zd->X.A.handled=Zb
 frames:X.A.frames=Za X.stack
 stk:X.stack=X.outer\/(X.stack=X.env::X.outer/\X.env.frame=Za X.env.locals)
 exf:∀b∈X.ex,b≠X.env.locals/\∀x c,X.env.cells.lookup x=Za c->c≠b
 bs:∀b o,X.base.get? b=Za o->X.s₀.heap.get? b=Za o/\X.H₀ b=Zb
 bsz:X.base.objs.size<=X.s₀.heap.objs.size
 noex:∀b o,X.base.get? b=Za o->b ∉ X.ex
 exfs:∀b∈X.ex,b ∉ X.fs
 funs:X.s₀.heap.FunFrames X.base X.outer
 frf:∀b∈X.fs,X.H₀ b=Zb
structure Inv (X:Cx) (pins:List (Zh×Obj)) (σ:List (Option V)) (H:Hp) (s:Zf):Prop where
 ok:X.Ok
 os:s.os=X.s₀.os
 bare:AllBare s.gens
 base:Un X.fs X.ex X.H₀ H X.s₀.heap s.heap
 loc:∃m,s.heap.Ns X.env.locals m/\∀(i:Nat) (x:Str) (v:V),X.N[i]?=Za x->σ[i]?=Za (Za v)->Vis X.env.scope x->∃u,RelV v u/\Look X.env s.heap m x u
 cell:∀x c,X.env.cells.lookup x=Za c->∃v,s.heap.IsCell c v
 free:H X.env.locals=Zb
 freeC:∀x c,X.env.cells.lookup x=Za c->H c=Zb
 pin:∀p∈X.pn++pins,s.heap.get? p.1=Za p.2/\H p.1=Zb/\p.1≠X.env.locals/\p.1 ∉ X.fs/\∀v,p.2.data≠.cell v
 hok:HOk X.prog X.w H s.heap
 len:σ.length=X.N.length
section
variable {X:Cx}{pins:List (Zh × Obj)}{σ:List (Option V)}{H H' : Hp}{s:Zf}{h' : Heap}
theorem Cx.Ok.nofr (ok:X.Ok){b:Zh}{o:Obj}(e:X.base.get? b=Za o):b ∉ X.fs:=λh=>by
 have:=(ok.funs.mem h).1;rw[e] at this;cases this
theorem Inv.bs (I:Inv X pins σ H s):∀b o,X.base.get? b=Za o->s.heap.get? b=Za o/\H b=Zb:=λb o e =>
 ⟨I.base.keep b o (I.ok.bs b o e).1 (I.ok.bs b o e).2 (I.ok.nofr e) (I.ok.noex b o e),I.base.free b o (I.ok.bs b o e).1 (I.ok.bs b o e).2 (I.ok.noex b o e)⟩
theorem Inv.bk (I:Inv X pins σ H s):∀b o,X.base.get? b=Za o->s.heap.get? b=Za o:=λb o e=>(I.bs b o e).1
theorem Inv.mod (I:Inv X pins σ H s):Mod X.K X.mg X.base:=I.ok.mod
theorem Inv.kIn (I:Inv X pins σ H s):X.K.In s.heap:=I.ok.mod.kin.keeps I.bk
theorem Inv.lt (I:Inv X pins σ H s):X.env.locals<s.heap.objs.size:=let ⟨_,h,_⟩:=I.loc;h.lt
theorem Inv.sz (I:Inv X pins σ H s):X.s₀.heap.objs.size<=s.heap.objs.size:=Cm I.ok.above (Nat.le_of_lt I.lt)
theorem Inv.nofs (I:Inv X pins σ H s)(h:s.heap.objs.size<=a):a ∉ X.fs:=λc=>by
 obtain⟨_,o,b,_⟩:=I.ok.funs.mem c;exact absurd (Aw (Ar b) (Cm I.sz h)) (Cj _)
theorem Inv.cne (I:Inv X pins σ H s):∀x c,X.env.cells.lookup x=Za c->c≠X.env.locals:=λx c e z=>by
 obtain⟨v,o,d,b⟩:=I.cell x c e;obtain⟨m,⟨f,g,i,a,h,_⟩,_⟩:=I.loc;rw[z,a] at d;obtain rfl:=sI d;rw[h] at b;cases b
theorem Inv.funs (I:Inv X pins σ H s):s.heap.FunFrames X.base X.outer:=by
 have all:∀(l:List Env),(∀b∈frs l,b∈X.fs)->X.s₀.heap.FunFrames X.base l->s.heap.FunFrames X.base l:=by
  intro l
  induction l with
  |nil=>intro _ _;trivial
  | cons env r i =>
   intro d f;nofun;obtain⟨j,⟨L,o,c,n,m,g⟩,k⟩:=f;ac_rfl;have a:L∈X.fs:=d L (by unfold frs;rw[List.filterMap_cons,c];exact An);obtain⟨p,e⟩:=I.base.slot L o m (I.ok.frf L a) a λz=>I.ok.exfs L z a;exact⟨j,⟨L,_,c,n,e,g⟩,i (λb h=>d b (by unfold frs;rw[List.filterMap_cons,c];exact Ai _ h)) k⟩
 exact all X.outer (λ_ h=>h) I.ok.funs
theorem Inv.stack (I:Inv X pins σ H s):s.heap.FunFrames X.base X.stack:=by
 rcases I.ok.stk with e|⟨e,h⟩
 ·rw[e];exact I.funs
 ·rw[e];obtain⟨m,a,_⟩:=I.loc;refine .cons (by rw[I.ok.kind];decide) h a ?_ I.funs;exact Heap.get?_none_of_le (Cm I.ok.bsz I.ok.above)
theorem Inv.stkSub (I:Inv X pins σ H s):∀b∈frs X.stack,b∈X.env.locals::X.fs:=λb h=>by
 rcases I.ok.stk with e|⟨e,a⟩
 ·rw[e] at h;exact Ai _ h
 ·rw[e] at h;unfold frs at h;rw[List.filterMap_cons,a] at h;exact h
theorem Inv.stkFree (I:Inv X pins σ H s):∀b∈frs X.stack,H b=Zb:=λb h=>by
 rcases Ao.mp (I.stkSub b h) with e|h
 ·rw[e];exact I.free
 ·obtain⟨_,o,a,_⟩:=I.ok.funs.mem h;exact I.base.free b o a (I.ok.frf b h) λz=>I.ok.exfs b z h
theorem Inv.step {g':Array GenState}{t':Nat}{d':Drawn}{ch:List Zh} (I:Inv X pins σ H s)
  (g:∀b∈ch,(b∈X.ex\/X.s₀.heap.objs.size<=b)/\b≠X.env.locals/\(∀x c,X.env.cells.lookup x=Za c->c≠b)/\∀p∈X.pn++pins,p.1≠b)
  (keep:∀b o,b≠X.env.locals->b ∉ X.fs->b ∉ ch->s.heap.get? b=Za o->H b=Zb->h'.get? b=Za o)
  (slot:∀b o,b≠X.env.locals->b∈X.fs->b ∉ ch->s.heap.get? b=Za o->H b=Zb->∃E,h'.get? b=Za { o with slots:=E }) (free:∀b o,b ∉ ch->s.heap.get? b=Za o->H b=Zb->H' b=Zb)
  (there:∀b o,b ∉ ch->s.heap.get? b=Za o->∃A,h'.get? b=Za A)
  (tups:∀b xs,H b=Za (.tup xs)->H' b=Za (.tup xs)) (frzs:∀b o u,H b=Za (.frz o u)->H' b=Za (.frz o u)) (tbls:∀b D,H b=Za (.tbl D)->∃more,H' b=Za (.tbl (D++more)))
  (ns:∀m,s.heap.Ns X.env.locals m->h'.Ns X.env.locals m) (F:HOk X.prog X.w H' h') (R:AllBare g') :
  Inv X pins σ H' { s with heap:=h',gens:=g',drawn:=d',toks:=t' }:=by
 have B:∀b o,X.s₀.heap.get? b=Za o->b≠X.env.locals:=λb o e=>Bc (Aw (Ar e) I.ok.above);have t:∀b o,X.s₀.heap.get? b=Za o->b ∉ X.ex->b ∉ ch:=λb o e h w=>by
  rcases (g b w).1 with z|z
  ·exact h z
  ·exact absurd (Aw (Ar e) z) (Cj _)
 have a:∀x c,X.env.cells.lookup x=Za c->∀v,s.heap.IsCell c v->h'.IsCell c v:=λx c e v ⟨o,y,J⟩=>by
  have f:c ∉ ch:=λz=>(g c z).2.2.1 x c e rfl;by_cases N:c∈X.fs
  ·obtain⟨E,q⟩:=slot c o (I.cne x c e) N f y (I.freeC x c e);exact⟨_,q,J⟩
  ·exact⟨o,keep c o (I.cne x c e) N f y (I.freeC x c e),J⟩
 refine⟨I.ok,I.os,R,⟨λb o e n w h=>?_,λb o e n w h=>?_,λb o e n h=>?_,λb o e h=>?_,λb xs e=>tups b xs (I.base.tups b xs e),λb o xs e=>frzs b o xs (I.base.frzs b o xs e),λb D e=>?_⟩,?_,λx c e=>?_,?_,λx c e=>?_,λp M=>?_,F,I.len⟩
 ·exact keep b o (B b o e) w (t b o e h) (I.base.keep b o e n w h) (I.base.free b o e n h)
 ·obtain⟨E,j⟩:=I.base.slot b o e n w h;obtain⟨K,C⟩:=slot b _ (B b o e) w (t b o e h) j (I.base.free b o e n h);exact⟨K,C⟩
 ·obtain⟨A, j⟩:=I.base.there b o e h;exact free b A (t b o e h) j (I.base.free b o e n h)
 ·obtain⟨A, j⟩:=I.base.there b o e h;exact there b A (t b o e h) j
 ·obtain⟨U,j⟩:=I.base.tbls b D e;obtain⟨P,C⟩:=tbls b _ j;exact⟨U++P,by rw[C,Array.append_assoc]⟩
 ·obtain⟨m,Q,O⟩:=I.loc;refine⟨m,ns m Q,λi x v j C S=>?_⟩;obtain⟨u,r,l⟩:=O i x v j C S;refine⟨u,r,?_⟩;rcases l with l|⟨k,c,e,z⟩
  ·exact .inl l
  ·exact .inr ⟨k,c,e,a x c e _ z⟩
 ·obtain⟨v,z⟩:=I.cell x c e;exact⟨v,a x c e v z⟩
 ·obtain⟨m,⟨o,_,_,y,_⟩,_⟩:=I.loc;exact free _ o (λz=>(g _ z).2.1 rfl) y I.free
 ·obtain⟨v,o,y,J⟩:=I.cell x c e;exact free c o (λz=>(g c z).2.2.1 x c e rfl) y (I.freeC x c e)
 ·obtain⟨e,n,ne,L,d⟩:=I.pin p M;have f:p.1 ∉ ch:=λz=>(g p.1 z).2.2.2 p M rfl;exact⟨keep p.1 p.2 ne L f e n,free p.1 p.2 f e n,ne,L,d⟩
theorem Inv.un {t':Nat}(I:Inv X pins σ H s)(u:Un X.fs [] H H' s.heap h')(c:HOk X.prog X.w H' h'):Inv X pins σ H' { s with heap:=h',toks:=t' }:=by
 obtain⟨m,⟨o,t,v,g,r⟩,_⟩:=id I.loc;obtain⟨l,i⟩:=u.any g I.free (by simp);exact I.step (g':=s.gens) (d':=s.drawn) (ch:=[]) (λ_ z=>nomatch z) (λb o _ a _ e n=>u.keep b o e n a (by simp)) (λb o _ a _ e n=>u.slot b o e n a (by simp)) (λb o _ e n=>u.free b o e n (by simp)) (λb o _ e=>u.there b o e (by simp)) u.tups u.frzs u.tbls (λq j=>by
  obtain⟨p,f,d,h,k⟩:=j;rw[g] at h;obtain rfl:=sI h;exact⟨_,f,d,i,k⟩) c I.bare
theorem Inv.call {g':Array GenState}{t':Nat}{d':Drawn}{ch:List Zh} (I:Inv X pins σ H s) (u:Un (frs X.stack) ch H H' s.heap h') (g:HOk X.prog X.w H' h') (v:AllBare g')
  (a:∀b∈ch,(b∈X.ex\/X.s₀.heap.objs.size<=b)/\b≠X.env.locals/\(∀x c,X.env.cells.lookup x=Za c->c≠b)/\∀p∈X.pn++pins,p.1≠b) :
  Inv X pins σ H' { s with heap:=h',gens:=g',drawn:=d',toks:=t' }:=by
 obtain⟨m,⟨o,B,A,k,r⟩,_⟩:=id I.loc;obtain⟨w,f⟩:=u.any k I.free λz=>(a _ z).2.1 rfl;exact I.step (ch:=ch) a (λb o f l h e n=>u.keep b o e n (λz=>(Ao.mp (I.stkSub b z)).elim f l) h) (λb o _ _ h e n=>u.any e n h) (λb o h e n=>u.free b o e n h) (λb o h e=>u.there b o e h) u.tups u.frzs u.tbls (λC q=>by
  obtain⟨y,j,i,d,t⟩:=q;rw[k] at d;obtain rfl:=sI d;exact⟨_,j,i,f,t⟩) g v
theorem Inv.turned {t':Nat}{it:Zh} (I:Inv X pins σ H s) (k:∀b o,b≠it->s.heap.get? b=Za o->h'.get? b=Za o) (A:H it=Zb) (d:it≠X.env.locals)
  (w:it∈X.ex\/X.s₀.heap.objs.size<=it) (f:∀x c,X.env.cells.lookup x=Za c->c≠it) (g:∀p∈X.pn++pins,p.1≠it):Inv X pins σ H { s with heap:=h',toks:=t' }:=by
 have a:∀b u,H b=Za u->b≠it:=λb u e z=>by rw[z,A] at e;cases e
 refine I.step (g':=s.gens) (d':=s.drawn) (ch:=[it]) (λb j=>?_) (λb o _ _ h e _=>k b o (λz=>h (by simp [z])) e) (λb o _ _ h e _=>⟨o.slots,k b o (λz=>h (by simp [z])) e⟩) (λ_ _ _ _ n=>n)
  (λb o h e=>⟨o,k b o (λz=>h (by simp [z])) e⟩) (λ_ _ e=>e) (λ_ _ _ e=>e) (λb B e=>⟨#[],by rw[e];simp⟩) (λm l=>?_) (λb u e=>?_) I.bare
 ·have e:b=it:=by simpa using j
  subst e;exact⟨w,d,f,g⟩
 ·obtain⟨o,y,i,t,r⟩:=l;exact⟨o,y,i,k _ o (Ne.symm d) t,r⟩
 ·refine (I.hok b u e).stay (λc v h q=>k c v ?_ q) (λ_ q=>q) λ_ _ q=>q;rcases h with z|z
  ·rw[z];exact a b u e
  ·exact a c _ z
theorem Inv.tok (I:Inv X pins σ H s)(t:Nat):Inv X pins σ H { s with toks:=t }:=I.un (h':=s.heap) (t':=t) Un.refl I.hok
theorem Inv.kept {t':Nat}(I:Inv X pins σ H s)(k:∀b u,s.heap.get? b=Za u->h'.get? b=Za u):Inv X pins σ H { s with heap:=h',toks:=t' }:=I.un (Un.kept k) (I.hok.kept k)
theorem Inv.laid {t':Nat} (I:Inv X pins σ H s) (k:∀b u,s.heap.get? b=Za u->h'.get? b=Za u) (h:s.heap.objs.size<=a) (new:zbn X.prog X.w (upd H a o) h' a o) :
 Inv X pins σ (upd H a o) { s with heap:=h',toks:=t' }:=I.un (Un.laid k h (I.hok.fresh h)) (I.hok.laid k h new)
theorem Inv.write {x e:Zh}{t':Nat} (I:Inv X pins σ H s) (m:Mut (H x)) (a:e=x\/H e=Za (.own x)) (k:∀b u,b≠e->s.heap.get? b=Za u->h'.get? b=Za u) (h:∃u,h'.get? e=Za u)
 (new:zbn X.prog X.w (upd H x o) h' x o):Inv X pins σ (upd H x o) { s with heap:=h',toks:=t' }:=I.un (Un.write m a k h) (I.hok.write m a k h new)
theorem Inv.pins_of {pins':List (Zh×Obj)}(I:Inv X pins σ H s)(h:∀p∈pins',s.heap.get? p.1=Za p.2/\H p.1=Zb/\p.1≠X.env.locals/\p.1 ∉ X.fs/\∀v,p.2.data≠.cell v):Inv X pins' σ H s :=
 ⟨I.ok,I.os,I.bare,I.base,I.loc,I.cell,I.free,I.freeC,λp a=>(Bh.mp a).elim (λz=>I.pin p (Cq _ z)) (h p),I.hok,I.len⟩
theorem zq1 {N:List Str}(hN:N.Nodup){i j:Nat}{x:Str}(a:N[i]?=Za x)(b:N[j]?=Za x):i=j:=by
 obtain⟨d,e⟩:=Ap.mp a;obtain⟨h,c⟩:=Ap.mp b;exact (List.getElem_inj hN).mp (e.trans c.symm)
theorem zms {E:Ze->Zf->Prop}{i:Nat}{x:Str}{v:V}{u:Ze}{Q:Unit->Zf->Prop} (I:Inv X pins σ H s) (hN:X.N.Nodup) (U:X.N[i]?=Za x) (w:Loc X.env.scope x) (r:RelV v u)
  (h:∀s',Inv X pins (σ.set i (Za v)) H s'->(∃a,Heap.SameBut a s.heap s'.heap/\(a=X.env.locals\/X.env.cells.lookup x=Za a))->Q () s') (hf:X.fn x=Zd\/X.env.scope.names.lookup x=Za .local:=by first|exact .inl rfl|exact .inr rfl|assumption):wpAny M A (storeName X.env x u) Q E s:=by
 obtain⟨m,hn,hl⟩:=id I.loc;have O:(X.env.scope.kind == .class || (X.env.scope.kind == .module && X.env.locals != X.env.globals))=Zc:=by rw[I.ok.kind];rfl
 have F:i<σ.length:=by rw[I.len];exact (Ap.mp U).1
 have cne:=I.cne;have t:∀{a:Zh}{h' : Heap},(∃o,s.heap.get? a=Za o/\H a=Zb)->Heap.SameBut a s.heap h'->HOk X.prog X.w H h':=λ{a h'} ha f b ob e=>by
  obtain⟨_,_,B⟩:=ha;refine (I.hok b ob e).stay (λc Y l q=>(f.2 c ?_).trans q) (λ_ q=>q) λ_ _ q=>q;rintro rfl;rcases l with rfl|l
  ·rw[B] at e;cases e
  ·rw[B] at l;cases l
 rcases w with D|D
 ·refine wpAny_storeName_local D hn (λh' hn' f => ?_) O;obtain⟨oL,_,_,hoL,_⟩:=id hn;refine h _ ⟨I.ok,I.os,I.bare,⟨λb o e n J w=>?_,λb o e n J w=>?_,I.base.free,λb o e w=>?_,I.base.tups,I.base.frzs,I.base.tbls⟩,⟨_,hn',λj y v' g C e3=>?_⟩,λy c e=>?_,I.free,I.freeC,λp hp=>?_,t ⟨oL,hoL,I.free⟩ f,by simpa using I.len⟩ ⟨_,f,.inl rfl⟩
  ·exact (f.2 b (Bc (Aw (Ar e) I.ok.above))).trans (I.base.keep b o e n J w)
  ·obtain⟨sl,g⟩:=I.base.slot b o e n J w;exact⟨sl,(f.2 b (Bc (Aw (Ar e) I.ok.above))).trans g⟩
  ·obtain⟨o', g⟩:=I.base.there b o e w;exact⟨o',(f.2 b (Bc (Aw (Ar e) I.ok.above))).trans g⟩
  ·by_cases L : j = i
   ·subst L;rw[U] at g;obtain rfl:=sI g;rw[Em F] at C;cases C;exact⟨u,r,.inl ⟨D,by simp⟩⟩
   ·rw[Dn (Ne.symm L)] at C;obtain⟨u',r',q⟩:=hl j y v' g C e3;refine⟨u',r',?_⟩;rcases q with⟨k,e⟩|⟨k,c,e,z⟩
    ·refine .inl ⟨k, ?_⟩;have:y≠x:=λe=>L (zq1 hN g (e ▸ U));simp [this,e]
    ·exact .inr ⟨k,c,e,z.sameBut f (cne y c e)⟩
  ·obtain⟨Y, z⟩:=I.cell y c e;exact⟨Y,z.sameBut f (cne y c e)⟩
  ·obtain⟨e,n,ne,nf,d⟩:=I.pin p hp;exact⟨(f.2 p.1 ne).trans e,n,ne,nf,d⟩
 ·have K:X.fn x=Zd:=by
   rcases hf with z|z
   ·exact z
   ·rw[z] at D;cases D
  obtain⟨c,l⟩:=I.ok.has x (.inl D);obtain⟨Y,z⟩:=I.cell x c l;refine wpAny_storeName_cell I.ok.kind D l z (λh' R f=>?_);obtain⟨oc,N,S⟩:=id z;refine h { s with heap:=h' } ⟨I.ok,I.os,I.bare,⟨λb o e n J w=>?_,λb o e n J w=>?_,I.base.free,λb o e w=>?_,I.base.tups,I.base.frzs,I.base.tbls⟩,⟨m,hn.sameBut f (Ne.symm (cne x c l)),λj y v' g C e3=>?_⟩,λy Z e=>?_,I.free,I.freeC,λp hp=>?_,t ⟨oc,N,I.freeC x c l⟩ f,by simpa using I.len⟩ ⟨c,f,.inr l⟩
  ·exact (f.2 b (Bc (Aw (Ar e) (I.ok.cab x c K l)))).trans (I.base.keep b o e n J w)
  ·obtain⟨sl,g⟩:=I.base.slot b o e n J w;exact⟨sl,(f.2 b (Bc (Aw (Ar e) (I.ok.cab x c K l)))).trans g⟩
  ·obtain⟨o', g⟩:=I.base.there b o e w;exact⟨o',(f.2 b (Bc (Aw (Ar e) (I.ok.cab x c K l)))).trans g⟩
  ·by_cases L : j = i
   ·subst L;rw[U] at g;obtain rfl:=sI g;rw[Em F] at C;cases C;exact⟨u,r,.inr ⟨.inl D,c,l,R⟩⟩
   ·rw[Dn (Ne.symm L)] at C;obtain⟨u',r',q⟩:=hl j y v' g C e3;refine⟨u',r',?_⟩;rcases q with q|⟨k,Z,e,z'⟩
    ·exact .inl q
    ·refine .inr ⟨k,Z, e,z'.sameBut f ?_⟩;rintro rfl;exact L (zq1 hN g (I.ok.inj _ _ _ e l ▸ U))
  ·by_cases P : Z = c
   ·subst P;exact⟨_,R⟩
   ·obtain⟨w2,z2⟩:=I.cell y Z e;exact⟨w2,z2.sameBut f P⟩
  ·obtain⟨e,n,ne,nf,d⟩:=I.pin p hp;refine⟨(f.2 p.1 ?_).trans e,n,ne,nf,d⟩;intro q;rw[q,N] at e;have q' : oc=p.2:=sI e;exact d Y (by rw[<-q'];exact S)
theorem zf6 {x:Str}{v:V}{u:Ze} (I:Inv X pins σ H s) (hN:X.N.Nodup) (b:X.N[i]?=Za x) (d:Loc X.env.scope x) (r:RelV v u)
  (h:∀s',Inv X pins (σ.set i (Za v)) H s'->Q () s') (c:X.fn x=Zd\/X.env.scope.names.lookup x=Za .local:=by first|exact .inl rfl|exact .inr rfl|assumption):wpAny M A (storeName X.env x u) Q E s :=
 zms I hN b d r (λs' a _=>h s' a) c
theorem Inv.call' {s':Zf} (I:Inv X pins σ H s) (i:s'.os=s.os) (u:Un (frs X.stack) ch H H' s.heap s'.heap) (h:HOk X.prog X.w H' s'.heap) (f:AllBare s'.gens)
  (a:∀b∈ch,(b∈X.ex\/X.s₀.heap.objs.size<=b)/\b≠X.env.locals/\(∀x c,X.env.cells.lookup x=Za c->c≠b)/\∀p∈X.pn++pins,p.1≠b):Inv X pins σ H' s':=by
 obtain⟨h',g,d,t,o⟩:=s';have e:o=s.os:=i;subst e;exact I.call (g':=g) (t':=t) (d':=d) u h f a
end
noncomputable abbrev XK:=Ze->Option Zh->Hp->Prop
noncomputable abbrev St:=List (Option V)
noncomputable abbrev VK:=V->Hp->Prop
noncomputable abbrev TE:=St->Hp->VK->Prop
noncomputable abbrev TT:=St->Hp->(Bool->Hp->Prop)->Prop
noncomputable abbrev TA:=St->Hp->(List V->Hp->Prop)->Prop
structure Ends where
 nx:St->Hp->Prop
 rt:VK
 bk:St->Hp->Prop:=λ_ _=>False
 ct:St->Hp->Prop:=λ_ _=>False
noncomputable abbrev TS:=Ends->St->Hp->Prop
noncomputable def EP (X:Cx) (pins:List (Zh×Obj)) (σ:St) (Q:VK) (u:Ze) (s':Zf):Prop:=∃v H,Inv X pins σ H s'/\RelV v u/\Q v H
noncomputable def TP (X:Cx) (pins:List (Zh×Obj)) (σ:St) (Q:Bool->Hp->Prop) (b:Bool) (s':Zf):Prop:=∃H,Inv X pins σ H s'/\Q b H
noncomputable def AP (X:Cx) (pins:List (Zh×Obj)) (σ:St) (Q:List V->Hp->Prop) (us:List Ze) (s':Zf):Prop:=∃v H,Inv X pins σ H s'/\Vals v us/\Q v H
noncomputable def SP (X:Cx) (pins:List (Zh×Obj)) (D:Ends) (f:Flow) (s':Zf):Prop :=
 match f with
 |.next=>∃a H,Inv X pins a H s'/\D.nx a H
 |.brk=>∃a H,Inv X pins a H s'/\D.bk a H
 |.cont=>∃a H,Inv X pins a H s'/\D.ct a H
 |.ret u=>∃v a H,Inv X pins a H s'/\RelV v u/\D.rt v H
noncomputable def PE (X:Cx) (e:Zi) (t:TE):Prop :=
 ∀(pins:List (Zh×Obj)) (s:Zf) (σ:St) (H:Hp) (Q:VK),Inv X pins σ H s->t σ H Q->wpAny #v[2,7] X.A (eval e X.env) (EP X pins σ Q) X.xe s
noncomputable def PT (X:Cx) (e:Zi) (t:TT):Prop :=
 ∀(pins:List (Zh×Obj)) (s:Zf) (σ:St) (H:Hp) (Q:Bool->Hp->Prop),Inv X pins σ H s->t σ H Q->wpAny #v[2,7] X.A (isTrue e X.env (eval e X.env)) (TP X pins σ Q) X.xe s
noncomputable def PW (X:Cx) (e:Zi) (t:TT):Prop :=
 ∀(w:Sem Ze) (pins:List (Zh×Obj)) (s:Zf) (σ:St) (H:Hp) (Q:Bool->Hp->Prop),Inv X pins σ H s->t σ H Q->wpAny #v[2,7] X.A (isTrue e X.env w) (TP X pins σ Q) X.xe s
theorem PW.pt {t:TT}(h:PW X e t):PT X e t:=h _
noncomputable def PA (X:Cx) (es:List Zi) (t:TA):Prop :=
 ∀(pos:Pos) (pins:List (Zh×Obj)) (s:Zf) (σ:St) (H:Hp) (Q:List V->Hp->Prop),Inv X pins σ H s->t σ H Q->wpAny #v[2,7] X.A (spliced (backTo pos (starEach es X.env))) (AP X pins σ Q) X.xe s
noncomputable def PS (X:Cx) (st:Stmt) (t:TS):Prop :=
 ∀(pins:List (Zh×Obj)) (s:Zf) (σ:St) (H:Hp) (D:Ends),Inv X pins σ H s->t D σ H->wpAny #v[2,7] X.A (exec st X.env) (SP X pins D) X.xe s
noncomputable def PSs (X:Cx) (st:List Stmt) (t:TS):Prop :=
 ∀(pins:List (Zh×Obj)) (s:Zf) (σ:St) (H:Hp) (D:Ends),Inv X pins σ H s->t D σ H->wpAny #v[2,7] X.A (execs st X.env) (SP X pins D) X.xe s
theorem thn {α:Type}{t:Sem α}{Q Q':α->Zf->Prop}{M:Model}{A:Around}{E:Ze->Zf->Prop}{s:Zf}(h:wpAny M A t Q E s)(b:∀a s,Q a s->Q' a s):wpAny M A t Q' E s:=Ci h b λ_ _ x=>x
section
variable {X:Cx}
theorem bin {a b:Zi}{t i:TE} (w:PE X a t) (j:PE X b i) {pins:List (Zh×Obj)}{s:Zf}{σ:St}{H:Hp}{R:V->V->Hp->Prop} (I:Inv X pins σ H s) (h:t σ H λx g=>i σ g λy c=>R x y c)
  {α:Type}{Q:α->Zf->Prop}{f:Ze->Ze->Sem α}
  (p:∀v u e x y c,Inv X pins σ c e->RelV x v->RelV y u->R x y c->wpAny #v[2,7] X.A (f v u) Q X.xe e) :
  wpAny #v[2,7] X.A (eval a X.env) (λv s₁=>wpAny #v[2,7] X.A (eval b X.env) (λu d=>wpAny #v[2,7] X.A (f v u) Q X.xe d) X.xe s₁) X.xe s:=by
 refine thn (w pins s σ H _ I h) λv l ⟨x,g,n,o,m⟩=>?_;refine thn (j pins l σ g _ n m) λu e ⟨y,c,k,r,q⟩=>?_;exact p v u e x y c k o r q
noncomputable def tVar (i:Nat):TE:=λσ H Q=>∃v,σ[i]?=Za (Za v)/\Q v H
noncomputable def tC (v:V):TE:=λ_ H Q=>Q v H
theorem zvc {x:Str}{pos:Pos}(hN:X.N[i]?=Za x)(j:Vis X.env.scope x)(d:(x==("__debug__" : Str))=Zc:=by decide)(f:(x==("__classdict__" : Str))=Zc:=by decide):PE X (.Name x pos) (tVar i):=by
 intro pins s σ H Q I h;nofun;obtain⟨v,e,h⟩:=h;obtain⟨m,o,n⟩:=I.loc;obtain⟨u,r,l⟩:=n i x v hN e j;ac_rfl;have fin:EP X pins σ Q u s:=⟨v,H,I,r,h⟩;rcases l with⟨b,k⟩|⟨b,c,g,a⟩
 ·exact wpAny_Name (wpAny_loadName_local I.ok.kind b o k fin) d
 ·rcases b with b|b
  ·exact wpAny_Name (wpAny_loadName_cell I.ok.kind b g a fin) d
  ·exact wpAny_Name (wpAny_loadName_free I.ok.kind b g a fin f) d
theorem ybu {i j pos}:PE X (.Constant (.int i) j pos) (tC (.int i)):=λ_ _ _ H _ I h=>wpAny_Constant_int ⟨.int i,H,I.tok _,⟨_,rfl⟩,h⟩
theorem yhm {b j pos}:PE X (.Constant (.bool b) j pos) (tC (.bl b)):=λ_ _ _ H _ I h=>Constant_bool ⟨.bl b,H,I,rfl,h⟩
theorem yfp {j pos}:PE X (.Constant .none j pos) (tC .non):=λ_ _ _ H _ I h=>Constant_none ⟨.non,H,I,rfl,h⟩
theorem yfx {x j pos}:PE X (.Constant (.str x) j pos) (tC (.str x)):=λ_ _ _ H _ I h=>Calls.Constant_str ⟨.str x,H,I.tok _,⟨_,rfl⟩,h⟩
noncomputable def Gl (X:Cx) (x:Str):Prop:=X.env.kindOf x=Za .globalImplicit
theorem zw0 {pins:List (Zh×Obj)}{s:Zf}{σ:St}{x:Str}{u:Ze}{pos:Pos} (I:Inv X pins σ H s) (b:Gl X x) (a:X.mg x=Za u) (h:Q u s)
  (c:(x==("__debug__" : Str))=Zc:=by decide):wpAny #v[2,7] X.A (eval (.Name x pos) X.env) Q E s :=
 Calls.Name_function_global I.ok.kind b (Calls.loadGlobal_global (by rw[I.ok.glob];exact I.mod.glob.keeps I.bk) a h) c
theorem zd0 {pins:List (Zh×Obj)}{s:Zf}{σ:St}{x:Str}{u:Ze}{pos:Pos} (I:Inv X pins σ H s) (d:Gl X x) (c:X.mg x=Zb) (b:bootBuiltins x=Za u) (h:Q u s)
  (g:x≠"__name__" := by decide) (e:(x==("__debug__" : Str))=Zc:=by decide):wpAny #v[2,7] X.A (eval (.Name x pos) X.env) Q E s:=by
 obtain⟨m,f,a⟩:=I.mod.blt;exact Calls.Name_function_global I.ok.kind d (Calls.loadGlobal_builtin (by rw[I.ok.glob];exact I.mod.glob.keeps I.bk) c (by rw[I.ok.blt];exact f.keeps I.bk) ((a x g).trans b) h) e
theorem z96 {x:Str}{v:V}{u:Ze}{pos:Pos}(c:Gl X x)(b:X.mg x=Zb)(a:bootBuiltins x=Za u)(r:RelV v u)(e:x≠"__name__" := by decide)(d:(x==("__debug__" : Str))=Zc:=by decide):PE X (.Name x pos) (tC v) :=
 λ_ _ _ H _ I h=>zd0 I c b a ⟨v,H,I,r,h⟩ e d
variable {a b:Zi}{ta tb:TE}{pos:Pos}
noncomputable def PC (X:Cx) (op:CmpOp) (a b:Zi) (t:TE):Prop :=
 ∀(pins:List (Zh×Obj)) (s:Zf) (σ:St) (H:Hp) (Q:VK),Inv X pins σ H s->t σ H Q ->
  wpAny #v[2,7] X.A (eval a X.env) (λv s₁=>wpAny #v[2,7] X.A (eval b X.env) (λu c=>wpAny #v[2,7] X.A (compareOp op v u) (EP X pins σ Q) X.xe c) X.xe s₁) X.xe s
theorem z03 (b:Zi){op:CmpOp}(h:op≠.In)(a:op≠.NotIn):behindInMarks op b=Zc:=by
 have c:(op==CmpOp.In)=Zc:=by cases op<;>first|rfl|exact absurd rfl h
 have e:(op==CmpOp.NotIn)=Zc:=by cases op<;>first|rfl|exact absurd rfl a
 cases b<;>simp [behindInMarks,c,e]
noncomputable def tB (t:TE):TT:=λσ H Q=>t σ H λx a=>∃c,x=.bl c/\Q c a
theorem yiv {op:CmpOp}{t:TE}(h:PC X op a b t)(e:behindInMarks op b=Zc:=by first|exact z03 _ #v[0,9] #v[0,9]|rfl):PT X (.Compare a [op] [b] pos) (tB t):=by
 intro pins s σ H Q I g;refine wpAny_isTrue_Compare1 (thn (h pins s σ H _ I g) λv m e=>thn e λu n f=>thn f λc l ⟨x,k,j,r,i⟩=>?_) e;obtain⟨d,rfl,q⟩:=i;cases r;exact Di ⟨k,j,q⟩
theorem yfd {e:Zi}{t:TE}(h:PE X e t)(c:∀w,isTrue e X.env w=(do let v <- w;standAt e.pos;holding [v] (truthy v)):=by intro _;rfl):PT X e (tB t):=by
 intro pins s σ H Q I a;refine isTrue_plain (thn (h pins s σ H _ I a) λv i ⟨x,g,f,r,b⟩=>?_) (c _);obtain⟨d,rfl,q⟩:=b;cases r;exact Di ⟨g,f,q⟩
variable {tA tB' : TT}{rest:List Zi}
noncomputable def tAnd (t u:TT):TT:=λσ H Q=>t σ H λc a=>if c=Zd then u σ a Q else Q Zc a
noncomputable def tOr (t u:TT):TT:=λσ H Q=>t σ H λc a=>if c=Zd then Q Zd a else u σ a Q
noncomputable def tNot (t:TT):TT:=λσ H Q=>t σ H λc a=>Q (!c) a
theorem z6w (b:PT X a tA):PW X (.BoolOp .And [a] pos) tA:=by
 intro w pins s σ H Q I h;refine isTrue_and (thn (b pins s σ H Q I h) λc d e=>?_);cases c with
 |true=>exact isTrue_and_nil e
 |false=>exact e
theorem yec (b:PT X a tA):PW X (.BoolOp .Or [a] pos) tA:=by
 intro w pins s σ H Q I h;refine isTrue_or (thn (b pins s σ H Q I h) λc d e=>?_);cases c with
 |false=>exact isTrue_or_nil e
 |true=>exact e
theorem ydv (i:PT X a tA)(f:PW X (.BoolOp .And (b::rest) pos) tB'):PW X (.BoolOp .And (a::b::rest) pos) (tAnd tA tB'):=by
 intro w pins s σ H Q I h;refine isTrue_and (thn (i pins s σ H _ I h) λc g ⟨e,d,q⟩=>?_);cases c with
 |true=>exact f w pins g σ e Q d q
 |false=>exact⟨e,d,q⟩
theorem ygl (i:PT X a tA)(f:PW X (.BoolOp .Or (b::rest) pos) tB'):PW X (.BoolOp .Or (a::b::rest) pos) (tOr tA tB'):=by
 intro w pins s σ H Q I h;refine isTrue_or (thn (i pins s σ H _ I h) λc g ⟨e,d,q⟩=>?_);cases c with
 |true=>exact⟨e,d,q⟩
 |false=>exact f w pins g σ e Q d q
theorem yb0 (d:PT X a tA):PT X (.UnaryOp .Not a pos) (tNot tA):=by
 intro pins s σ H Q I h;exact isTrue_not (d pins s σ H (λc b=>Q (!c) b) I h)
noncomputable def yd7 (ta tb:TE):TE:=λσ H Q=>ta σ H λx a=>∃c,x=.bl c/\if c=Zd then tb σ a Q else Q (.bl Zc) a
noncomputable def ybz (ta:TE):TE:=λσ H Q=>ta σ H λx a=>∃c,x=.bl c/\Q (.bl (!c)) a
theorem yek {op}{t:TE}(h:PE X a t):PE X (.BoolOp op [a] pos) t:=λpins s σ H Q I b=>BoolOp_one (h pins s σ H Q I b)
theorem ye2 (i:PE X a ta)(f:PE X (.BoolOp .And (b::rest) pos) tb):PE X (.BoolOp .And (a::b::rest) pos) (yd7 ta tb):=by
 intro pins s σ H Q I h;refine BoolOp_and (thn (i pins s σ H _ I h) λv g ⟨x,e,d,r,q⟩=>?_);obtain⟨c,rfl,q⟩:=q;cases r;refine Di ?_;cases c with
 |true=>exact f pins g σ e Q d q
 |false=>exact⟨.bl Zc,e,d,rfl,q⟩
theorem yfh (d:PE X a ta):PE X (.UnaryOp .Not a pos) (ybz ta):=by
 intro pins s σ H Q I h;refine UnaryOp_ (thn (d pins s σ H _ I h) λv f ⟨x,e,b,r,q⟩=>?_);obtain⟨c,rfl,q⟩:=q;cases r;exact not_of (Di ⟨.bl (!c),e,b,rfl,q⟩)
noncomputable def tIf (t:TT) (ta tb:TE):TE:=λσ H Q=>t σ H λc a=>if c=Zd then ta σ a Q else tb σ a Q
theorem z1h {c:Zi}(k:PT X c tA)(j:PE X a ta)(i:PE X b tb):PE X (.IfExp c a b pos) (tIf tA ta tb):=by
 intro pins s σ H Q I h;refine wpAny_IfExp (thn (k pins s σ H _ I h) λd e ⟨g,f,q⟩=>?_);cases d with
 |true=>exact j pins e σ g Q f q
 |false=>exact i pins e σ g Q f q
end
noncomputable def SqL (K:Zg) (H:Hp) (a:Zh) (xs:List V):Prop :=
 Rd H a (.lst xs) \/
  ∃(o:Obj) (i:Array Ze) (n:Nat),K.lookup a=Za o/\o.cls=.type "list"/\o.dict=Zb/\o.data=.seq i n/\i.size<=sizeLine/\Vals xs i.toList
noncomputable def SqT (K:Zg) (H:Hp) (a:Zh) (xs:List V):Prop :=
 Rd H a (.tup xs) \/
  ∃(o:Obj) (i:Array Ze) (n:Nat),K.lookup a=Za o/\o.cls=.type "tuple"/\o.data=.seq i n/\i.size<=sizeLine/\Vals xs i.toList
noncomputable def absV:Ze->Option V
 |.none=>Za .non
 |.bool b=>Za (.bl b)
 |.int i _=>Za (.int i)
 |.str x _=>Za (.str x)
 |.bytes b _=>Za (.byt b)
 |.float b _=>Za (.flt b)
 |.ref a=>Za (.ref a)
 |.type n=>Za (.ty n)
 |_=>Zb
theorem RelV.abs {x:V}{u:Ze}(r:RelV x u):absV u=Za x:=by
 cases x with
 |non=>cases r;rfl
 |bl _=>cases r;rfl
 |int _=>obtain⟨t,rfl⟩:=r;rfl
 |str _=>obtain⟨t,rfl⟩:=r;rfl
 |byt _=>obtain⟨t,rfl⟩:=r;rfl
 |flt _=>obtain⟨t,rfl⟩:=r;rfl
 |ref _=>cases r;rfl
 |ty _=>cases r;rfl
theorem RelV.inj {x y:V}{u:Ze}(r:RelV x u)(q:RelV y u):x=y:=sI (r.abs.symm.trans q.abs)
theorem Vals.inj:∀{xs ys:List V}{us:List Ze},Vals xs us->Vals ys us->xs=ys
 |_,_,_,.nil,.nil=>rfl
 |_,_,_,.cons r t,.cons b a=>by rw[r.inj b,Vals.inj t a]
section
variable {pins:List (Zh × Obj)}{σ:St}{s:Zf}{xs ys:List V}
theorem Inv.list (I:Inv X pins σ H s)(h:SqL X.K H a xs):∃i:List Ze,Vals xs i/\PlainL s.heap a i.toArray/\xs.length<=sizeLine:=by
 rcases h with h|⟨o,i,n,f,d,b,c,g,r⟩
 ·obtain⟨z,i,n,r,e⟩:=h.ok I.hok;exact⟨i,r,⟨_,n,e,rfl,rfl,rfl⟩,z⟩
 ·refine⟨i.toList,r,⟨o,n,I.kIn a o f,d,b,by simpa using c⟩, ?_⟩;have e:=r.length;simp only [Cn] at e;symm
theorem Inv.tuple (I:Inv X pins σ H s)(h:SqT X.K H a xs):∃i:List Ze,Vals xs i/\IsTup s.heap a i.toArray/\xs.length<=sizeLine:=by
 rcases h with h|⟨o,i,n,d,c,b,f,r⟩
 ·obtain⟨z,i,r,p⟩:=h.ok I.hok;exact⟨i,r,p.t,z⟩
 ·refine⟨i.toList,r,⟨o,I.kIn a o d,c,n,by simpa using b⟩, ?_⟩;have e:=r.length;simp only [Cn] at e;symm
theorem Inv.list_inj (I:Inv X pins σ H s)(h:SqL X.K H a xs)(h':SqL X.K H a ys):xs=ys:=by
 obtain⟨i,r,⟨o,n,e,_,_,d⟩,_⟩:=I.list h;obtain⟨its',f,⟨g,j,b,_,_,c⟩,_⟩:=I.list h';rw[e] at b;obtain rfl:=sI b;rw[d] at c;injection c with d1 _;have:i=its':=by simpa using congrArg Array.toList d1
 subst this;exact r.inj f
theorem Inv.tuple_inj (I:Inv X pins σ H s)(h:SqT X.K H a xs)(h':SqT X.K H a ys):xs=ys:=by
 obtain⟨i,r,⟨o,e,_,n,d⟩,_⟩:=I.tuple h;obtain⟨its',f,⟨g,b,_,j,c⟩,_⟩:=I.tuple h';rw[e] at b;obtain rfl:=sI b;rw[d] at c;injection c with d1 _;have:i=its':=by simpa using congrArg Array.toList d1
 subst this;exact r.inj f
end
noncomputable abbrev Cx.wish (X:Cx) (E:Ze->Zf->Prop):Cx:={ X with xe:=E }
noncomputable abbrev Cx.nox (X:Cx):Cx:=X.wish λ_ _=>False
theorem Cx.Ok.wish {X:Cx}(ok:X.Ok)(E:Ze->Zf->Prop):(X.wish E).Ok :=
 ⟨ok.mod,ok.kind,ok.glob,ok.blt,ok.above,ok.inj,ok.has,ok.cab,ok.hd,ok.frames,ok.stk,ok.exf,ok.bs,ok.bsz,ok.noex,ok.exfs,ok.funs,ok.frf⟩
theorem Cx.Ok.unwish {X:Cx}{E:Ze->Zf->Prop}(ok:(X.wish E).Ok):X.Ok :=
 ⟨ok.mod,ok.kind,ok.glob,ok.blt,ok.above,ok.inj,ok.has,ok.cab,ok.hd,ok.frames,ok.stk,ok.exf,ok.bs,ok.bsz,ok.noex,ok.exfs,ok.funs,ok.frf⟩
section
variable {pins:List (Zh × Obj)}{σ:St}{s:Zf}
theorem Inv.wish (I:Inv X pins σ H s)(E:Ze->Zf->Prop):Inv (X.wish E) pins σ H s:=⟨I.ok.wish E,I.os,I.bare,I.base,I.loc,I.cell,I.free,I.freeC,I.pin,I.hok,I.len⟩
theorem Inv.unwish (I:Inv (X.wish E) pins σ H s):Inv X pins σ H s:=⟨I.ok.unwish,I.os,I.bare,I.base,I.loc,I.cell,I.free,I.freeC,I.pin,I.hok,I.len⟩
theorem SP.unwish {s':Zf}(h:SP (X.wish E) pins D f s'):SP X pins D f s':=by
 cases f with
 |next=>obtain⟨a,H,I,q⟩:=h;exact⟨a,H,I.unwish,q⟩
 |brk=>obtain⟨a,H,I,q⟩:=h;exact⟨a,H,I.unwish,q⟩
 |cont=>obtain⟨a,H,I,q⟩:=h;exact⟨a,H,I.unwish,q⟩
 |ret u=>obtain⟨v,a,H,I,r,q⟩:=h;exact⟨v,a,H,I.unwish,r,q⟩
theorem PSs.nox {st:List Stmt}{t:TS}(h:PSs X.nox st t):PSs X st t:=λpins s σ H D I a =>
 Ci (h pins s σ H D (I.wish _) a) (λ_ _ q=>q.unwish) λ_ _ z=>False.elim z
end
section
variable {X:Cx}{st:Stmt}{rest:List Stmt}{t u:TS}{e:Zi}{te:TE}{pos:Pos}
noncomputable def z7k:TS:=λD σ H=>D.nx σ H
noncomputable def tSeq (t u:TS):TS:=λD σ H=>t { D with nx:=u D } σ H
theorem ybd:PSs X [] z7k:=λ_ _ σ H _ I h=>wpAny_execs_nil ⟨σ,H,I,h⟩
theorem z4j (g:PS X st t) (b:PSs X rest u):PSs X (st::rest) (tSeq t u):=by
 intro pins s σ H D I h;refine wpAny_execs_cons (thn (g pins s σ H { D with nx:=u D } I h) λf c q=>?_);cases f with
 | next =>
  obtain⟨a,e,d,q⟩:=q;exact b pins c a e D d q
 |ret v=>exact q
 |brk=>exact q
 |cont=>exact q
theorem z69 (a:PS X st t):PSs X [st] t:=by
 intro pins s σ H D I h;refine wpAny_execs_cons (thn (a pins s σ H D I h) λf b q=>?_);cases f with
 |next=>exact wpAny_execs_nil q
 |ret v=>exact q
 |brk=>exact q
 |cont=>exact q
theorem yaf:PS X (.Pass pos) z7k:=λ_ _ σ H _ I h=>wpAny_Pass ⟨σ,H,I,h⟩
theorem Inv.quiet {pins:List (Zh×Obj)}{σ:St}{s:Zf}(I:Inv X pins σ H s):interactive X.env=Zc:=by simp [interactive,I.ok.kind]
noncomputable def yfe (te:TE):TS:=λD σ H=>te σ H λ_ a=>D.nx σ a
theorem yag (a:PE X e te)(c:swapsWith e Zb pos.line X.env=pure Zc:=by rfl):PS X (.Expr e pos) (yfe te):=by
 intro pins s σ H D I h;exact wpAny_Expr_any (thn (a pins s σ H _ I h) λv f ⟨x,d,b,r,q⟩=>⟨σ,d,b,q⟩) I.quiet c
noncomputable def tRet (te:TE):TS:=λD σ H=>te σ H D.rt
theorem z6b (a:PE X e te):PS X (.Return (Za e) pos) (tRet te):=by
 intro pins s σ H D I h;exact wpAny_Return_some (thn (a pins s σ H _ I h) λv d ⟨x,c,b,r,q⟩=>⟨x,σ,c,b,r,q⟩)
noncomputable def tIfS (c:TT) (t u:TS):TS:=λD σ H=>c σ H λb a=>if b=Zd then t D σ a else u D σ a
theorem ygj {tc:TT}(k:PT X c tc)(j:PSs X a t)(i:PSs X b u):PS X (.If c a b pos) (tIfS tc t u):=by
 intro pins s σ H D I h;refine wpAny_If (thn (k pins s σ H _ I h) λd e ⟨g,f,q⟩=>?_);cases d with
 |true=>exact j pins e σ g D f q
 |false=>exact i pins e σ g D f q
end
noncomputable abbrev TG:=V->St->Hp->(St->Hp->Prop)->Prop
noncomputable abbrev TGs:=List V->St->Hp->(St->Hp->Prop)->Prop
noncomputable def PG (X:Cx) (a:Zi) (t:TG):Prop :=
 ∀(pins:List (Zh×Obj)) (s:Zf) (σ:St) (H:Hp) (v:V) (u:Ze) (Q:St->Hp->Prop),Inv X pins σ H s->RelV v u->t v σ H Q ->
  wpAny #v[2,7] X.A (assign a X.env u) (λ_ d=>∃b c,Inv X pins b c d/\Q b c) X.xe s
noncomputable def PGs (X:Cx) (ts:List Zi) (t:TGs):Prop :=
 ∀(pins:List (Zh×Obj)) (s:Zf) (σ:St) (H:Hp) (c:List V) (u:List Ze) (Q:St->Hp->Prop),Inv X pins σ H s->Vals c u->t c σ H Q ->
  wpAny #v[2,7] X.A (assignInOrder ((assignEach ts X.env).map (·.2)) u) (λ_ d=>∃a b,Inv X pins a b d/\Q a b) X.xe s
noncomputable abbrev TSet:=V->V->V->Hp->(Hp->Prop)->Prop
noncomputable def PSet (X:Cx) (t:TSet):Prop :=
 ∀(pins:List (Zh×Obj)) (s:Zf) (σ:St) (H:Hp) (o i v:V) (a c u:Ze) (Q:Hp->Prop),Inv X pins σ H s->RelV o a->RelV i c->RelV v u->t o i v H Q ->
  wpAny #v[2,7] X.A (setItem a c u) (λ_ d=>∃b,Inv X pins σ b d/\Q b) X.xe s
noncomputable abbrev TIp:=V->V->Hp->VK->Prop
noncomputable def PIp (X:Cx) (op:Operator) (t:TIp):Prop :=
 ∀(pins:List (Zh×Obj)) (s:Zf) (σ:St) (H:Hp) (x y:V) (v u:Ze) (Q:VK),Inv X pins σ H s->RelV x v->RelV y u->t x y H Q ->
  wpAny #v[2,7] X.A (inplaceOp op v u) (EP X pins σ Q) X.xe s
section
variable {X:Cx}{pos:Pos}
noncomputable def zon (i:Nat):TG:=λv σ H Q=>Q (σ.set i (Za v)) H
theorem zv4 {x:Str}(hN:X.N.Nodup)(b:X.N[i]?=Za x)(d:Loc X.env.scope x)(c:X.fn x=Zd\/X.env.scope.names.lookup x=Za .local:=by first|exact .inl rfl|exact .inr rfl|assumption):PG X (.Name x pos) (zon i):=by
 intro pins s σ H v u Q I r h;exact wpAny_assign_Name (zf6 I hN b d r (λe a=>⟨_,H,a,h⟩) c)
noncomputable def gNil:TGs:=λv σ H Q=>v=[]/\Q σ H
noncomputable def z4m (t:TG) (u:TGs):TGs:=λb σ H Q=>∃v r,b=v::r/\t v σ H λa c=>u r a c Q
theorem z8n:PGs X [] gNil:=by
 intro pins s σ H v u Q I r h;obtain⟨e,h⟩:=h;subst e;cases r;exact assignInOrder_nil ⟨σ,H,I,h⟩
theorem z4n {e:Zi}{es:List Zi}{t:TG}{u:TGs} (f:PG X e t) (a:PGs X es u)
  (i:(assignEach (e::es) X.env).map (·.2)=assign e X.env::(assignEach es X.env).map (·.2):=by rfl):PGs X (e::es) (z4m t u):=by
 intro pins s σ H l k Q I r h;obtain⟨v,m,b,h⟩:=h;subst b;cases r with
 | cons r d =>
  rw[i];refine assignInOrder_cons (thn (f pins s σ H _ _ _ I r h) λ_ c ⟨σ1,j,g,q⟩=>?_);exact a pins c σ1 j _ _ Q g d q
noncomputable def gTup (K:Zg) (n:Nat) (t:TGs):TG:=λv σ H Q=>∃a x,v=.ref a/\SqT K H a x/\x.length=n/\t x σ H Q
theorem ye5 {t:TGs} (q:X.calm=Zd) (h:PGs X es t)
  (y:(assignEach es X.env).length=n:=by rfl) (d:(assignEach es X.env).findIdx? (·.1)=Zb:=by rfl):PG X (.Tuple es k pos) (gTup X.K n t):=by
 intro pins s σ H v u Q I r c;nofun;obtain⟨a,z,j,g,l,c⟩:=c;ac_rfl;subst j;cases r;nofun;obtain⟨m,f,i,A⟩:=I.tuple g;ac_rfl;refine assign_Tuple_tuple (I.ok.hd q) i (by simp [y,<-l,f.length]) d λw x=>?_;have p:Inv X pins σ H { s with heap:=w }:=I.kept (t':=s.toks) λb o e=>x b o (Bc (Ar e)) e;exact h pins _ σ H z _ Q p (by simpa using f) c
noncomputable def gSub (c a:TE) (t:TSet):TG:=λv σ H Q=>c σ H λo e=>a σ e λi b=>t o i v b λd=>Q σ d
theorem ydw {c b:TE}{t:TSet} (p:PE X o c) (B:PE X i b) (l:PSet X t)
  (C:∀v,assign (.Subscript o i pos) X.env v=(do
   let a <- holding [v] (eval o X.env)
   let iv <- holding [v,a] (eval i X.env)
   standAt pos
   holding [v,a,iv] (setItem a iv v)
   release [v,a,iv] []):=by intro _;rfl):PG X (.Subscript o i pos) (gSub c b t):=by
 intro pins s σ H v u Q I r h;rw[C];refine Aa (Ct (thn (p pins s σ H _ I h) λa g ⟨x,D,k,m,j⟩=>?_));refine Aa (Ct (thn (B pins g σ D _ k j) λiv A ⟨y,f,d,e,q⟩=>?_));refine Aa (Ew (Aa (Ct (thn (l pins A σ f x y v a iv u _ d m e r q) λ_ E ⟨z,n,w⟩=>?_))));exact wpAny_release ⟨σ,z,n,w⟩
noncomputable def tAsg (te:TE) (g:TG):TS:=λD σ H=>te σ H λx a=>g x σ a D.nx
theorem z5l {t e:Zi}{te:TE} (f:PE X e te) (c:PG X t g) (k:swapsWithSole [t] e pos.line X.env=pure Zc:=by rfl) (a:swappedStores [t] e X.env=pure Zb:=by rfl)
  (i:(assignEach [t] X.env).map (·.2)=[assign t X.env]:=by rfl):PS X (.Assign [t] e pos) (tAsg te g):=by
 intro pins s σ H D I h;refine wpAny_Assign_stores (thn (f pins s σ H _ I h) λv b ⟨x,l,j,r,d⟩=>?_) k a;rw[i];exact thn (c pins b σ l x v _ j r d) λ_ m q=>q
theorem zzc {i:Nat}{x:Str}{e:Zi}{te:TE}{pos':Pos} (hN:X.N.Nodup) (a:X.N[i]?=Za x) (j:Loc X.env.scope x) (c:PE X e te) (f:swapsWith e (Za (.Name x pos')) pos.line X.env=pure Zc:=by rfl) (g:X.fn x=Zd\/X.env.scope.names.lookup x=Za .local:=by first | exact .inl rfl | exact .inr rfl | assumption) :
  PS X (.Assign [.Name x pos'] e pos) (tAsg te (zon i)):=by
 intro pins s σ H D I h;refine wpAny_Assign_Name (thn (c pins s σ H _ I h) λv l ⟨y,k,d,r,q⟩=>?_) f;exact zf6 d hN a j r (λm b=>⟨_,k,b,q⟩) g
noncomputable def tPar (i j:Nat) (t:TA):TS:=λD σ H=>t σ H λa b=>∃v w,a=[v,w]/\D.nx ((σ.set i (Za v)).set j (Za w)) b
theorem yfr {i j:Nat}{x y:Str}{a b:Zi}{z:TA}{k m pt:Pos}{kt k2 pt2} (hc:X.calm=Zd) (hN:X.N.Nodup) (U:X.N[i]?=Za x) (Y:X.N[j]?=Za y) (f:i≠j)
  (t:X.env.scope.names.lookup x=Za .local) (A:X.env.scope.names.lookup y=Za .local) (Z:PA X [a,b] z)
  (R:swappedStores [.Tuple [.Name x k,.Name y m] kt pt] (.Tuple [a,b] k2 pt2) X.env=pure (Za [x,y]))
  (L:swapsWithSole [.Tuple [.Name x k,.Name y m] kt pt] (.Tuple [a,b] k2 pt2) pos.line X.env=pure Zc:=by rfl) :
  PS X (.Assign [.Tuple [.Name x k,.Name y m] kt pt] (.Tuple [a,b] k2 pt2) pos) (tPar i j z):=by
 intro pins s σ H D I h;rw [exec_Assign_arm];refine Aa (Ew ?_);rw [L];refine Aa (Aj ?_);rw [if_neg (by decide)];refine Aa (Tuple_ (thn (Z _ pins s σ H _ I h) λS c ⟨vs,C,K,N,g⟩=>?_));refine aG λ_ qG=>?_;obtain ⟨v,w,J,g⟩:=g;refine qG ?_;clear qG;subst J;obtain ⟨d,u,rfl,P,r⟩ : ∃d u,S=[d,u]/\RelV v d/\RelV w u:=by
  cases N with
  | cons p q =>
   cases q with
   | cons M E =>
    cases E;exact⟨_,_,rfl,p,M⟩
 refine Dj ?_ (by show 2<=sizeLine;decide);have F:Inv X pins σ C { c with heap:=c.heap.push { cls:=.type "tuple",data:=.seq [d,u].toArray } }:=K.kept (t':=c.toks) λb o e=>Ad _ e;rw[R];refine Aa (Aj ?_);show wpAny #v[2,7] X.A (do rule "assign.swapped-stores";let items <- unpackItems (.ref c.heap.objs.size) 2 Zb;assignInOrder [λv=>bindName X.env y v,λv=>bindName X.env x v] items.reverse;pure Flow.next) _ _ _;refine Aa (Dr (Aa (unpackItems_tuple (items:=#[d,u]) (I.ok.hd hc) (IsTup.new c.heap _) λn l=>?_)));have O:=F.kept (h':=n) (t':=c.toks) λb o e=>l b o (Bc (Ar e)) e;show wpAny _ _ (assignInOrder [λv=>bindName X.env y v,λv=>bindName X.env x v] [u,d]>>=λ_=>pure Flow.next) _ _ _;refine Aa (assignInOrder_cons (wpAny_bindName (zf6 O hN Y (.inl A) r (λs2 Q=>?_) (.inr A))));refine assignInOrder_cons (wpAny_bindName (zf6 Q hN U (.inl t) P (λs3 B=>assignInOrder_nil (Aj ?_)) (.inr t)));rw[List.set_comm _ _ (Ne.symm f)] at B;exact⟨_,C,B,g⟩
noncomputable def tAug (i:Nat) (te:TE) (t:TIp):TS:=λD σ H=>∃x,σ[i]?=Za (Za x)/\te σ H λy b=>t x y b λz a=>D.nx (σ.set i (Za z)) a
theorem z0h {x:Str}{te:TE}{op:Operator}{t:TIp}{pos':Pos} (hN:X.N.Nodup) (j:X.N[i]?=Za x) (g:Loc X.env.scope x) (O:PE X e te) (N:PIp X op t) (P:X.fn x=Zd\/X.env.scope.names.lookup x=Za .local:=by first | exact .inl rfl | exact .inr rfl | assumption) :
  PS X (.AugAssign (.Name x pos') op e pos) (tAug i te t):=by
 intro pins s σ H D I h;obtain⟨v,A,h⟩:=h;obtain⟨m,L,n⟩:=I.loc;have vis:Vis X.env.scope x:=by rcases g with k|k;exact .inl k;exact .inr (.inl k)
 obtain⟨u,r,l⟩:=n i x v j A vis;refine wpAny_AugAssign_Name ?_;have go:wpAny #v[2,7] X.A (eval e X.env) (λw d=>wpAny #v[2,7] X.A (inplaceOp op u w) (λr f=>wpAny #v[2,7] X.A (storeName X.env x r) (λ_=>SP X pins D .next) X.xe f) X.xe d) X.xe s:=by
  refine thn (O pins s σ H _ I h) λw C ⟨y,R,J,K,F⟩=>?_;refine thn (N pins C σ R v y u w _ J r K F) λz U ⟨S,B,o,p,q⟩=>?_;exact zf6 o hN j g p (λY M=>⟨_,B,M,q⟩) P
 rcases l with⟨a,E⟩|⟨a,c,Q,b⟩
 ·exact wpAny_loadName_local I.ok.kind a L E go
 ·rcases a with a|a
  ·exact wpAny_loadName_cell I.ok.kind a Q b go
  ·rcases g with k|k
   ·have:X.env.scope.names.lookup x=Za .free:=a;rw[k] at this;cases this
   ·have:X.env.scope.names.lookup x=Za .free:=a;rw[k] at this;cases this
end
section
variable {pos:Pos}
end
structure It where
 go:Nat->Hp->Prop
 yld:Nat->Hp->V->Hp->Prop
 stop:Nat->Hp->Prop
noncomputable def FpOk (X:Cx) (pins:List (Zh×Obj)) (H:Hp) (b:Zh):Prop :=
 H b=Zb/\b≠X.env.locals/\b ∉ X.fs/\(b∈X.ex\/X.s₀.heap.objs.size<=b)/\(∀x c,X.env.cells.lookup x=Za c->c≠b)/\∀p∈X.pn++pins,p.1≠b
theorem Inv.fpOk {pins:List (Zh×Obj)}{σ:St}{s:Zf}(I:Inv X pins σ H s)(h:s.heap.objs.size<=b)(d:H' b=Zb):FpOk X pins H' b:=by
 refine⟨d,Nat.ne_of_gt (Aw I.lt h),I.nofs h,.inr (Cm I.sz h),λx c e z=>?_,λp a z=>?_⟩
 ·obtain⟨v,q⟩:=I.cell x c e;exact absurd (Aw q.lt (by rw[z];exact h)) (Cj _)
 ·exact absurd (Aw (Ar (I.pin p a).1) (by rw[z];exact h)) (Cj _)
structure Turn (P:Program) (w:World) (K:Zg) (tg:Zi) (J:It) (fp:List Zh) (it:Zh) (tn:Nat->Heap->Prop):Prop where
 mem:it∈fp
 obj:∀i h,tn i h->∀b∈fp,∃o,h.get? b=Za o/\∀v,o.data≠.cell v
 keep:∀i h h',tn i h->(∀b∈fp,∀o,h.get? b=Za o->h'.get? b=Za o)->tn i h'
 item:∀(X:Cx),X.prog=P->X.w=w->X.K=K->X.calm=Zd->∀(i:Nat) (pins:List (Zh×Obj)) (s:Zf) (σ:St) (H:Hp) (E:Ze->Zf->Prop),Inv X pins σ H s->(∀b∈fp,FpOk X pins H b)->tn i s.heap->J.go i H ->
  wpAny (model P w) X.A (pyNext (.ref it)) (λr s1=>∃u,r=Za u /\
   wpAny (model P w) X.A (letOwnedTupleGo tg (.ref it) u) (λ_ s2=>∃x H',Inv X pins σ H' s2/\RelV x u/\J.yld i H x H'/\tn (i+1) s2.heap/\∀b∈fp,H' b=Zb) E s1) E s
 done:∀(X:Cx),X.prog=P->X.w=w->X.K=K->X.calm=Zd->∀(i:Nat) (pins:List (Zh×Obj)) (s:Zf) (σ:St) (H:Hp) (E:Ze->Zf->Prop),Inv X pins σ H s->(∀b∈fp,FpOk X pins H b)->tn i s.heap->J.stop i H ->
  wpAny (model P w) X.A (pyNext (.ref it)) (λr s1=>r=Zb/\Inv X pins σ H s1) E s
 self:∀(A:Around) (i:Nat) (s:Zf) (Q:Ze->Zf->Prop) (E:Ze->Zf->Prop),tn i s.heap->Q (.ref it) s->wpAny (model P w) A (pyIter (.ref it)) Q E s
noncomputable abbrev TI:=St->Hp->(It->Hp->Prop)->Prop
noncomputable def PIE (X:Cx) (pins:List (Zh×Obj)) (σ:St) (c:Zi) (R:It->Hp->Prop) (i:Ze) (s:Zf):Prop :=
 ∃(a:Zh) (fp:List Zh) (t:Nat->Heap->Prop) (J:It) (H:Hp),i=.ref a/\Inv X pins σ H s/\Turn X.prog X.w X.K c J fp a t/\t 0 s.heap/\(∀b∈fp,FpOk X pins H b)/\R J H
noncomputable def PI (X:Cx) (t iter:Zi) (w:TI):Prop :=
 ∀(pins:List (Zh×Obj)) (s:Zf) (σ:St) (H:Hp) (R:It->Hp->Prop),Inv X pins σ H s->w σ H R ->
  wpAny #v[2,7] X.A (eval iter X.env) (λv a=>wpAny #v[2,7] X.A (pyIter v) (PIE X pins σ t R) X.xe a) X.xe s
theorem z63 {s:Zf}{t:Zi}{u:Ze}{vs:Array Ze} (c:s.heap.get? it=Za o) (d:o.cls=.type n) (b:o.data=.fields vs)
    (e:["enumerate","zip","dict_itemiterator","dict_reverseitemiterator","odict_iterator","itertools.zip_longest","itertools.pairwise"].contains n=Zc) (a:Q () s):wpAny M A (letOwnedTupleGo t (.ref it) u) Q E s:=by
  unfold letOwnedTupleGo;cases t<;>first
    |exact Aj a
    | (cases u<;>first
        |exact Aj a
        | (refine Aa (wpAny_load c ?_)
           rw[d,b];show wpAny M A (if (["enumerate","zip","dict_itemiterator","dict_reverseitemiterator","odict_iterator","itertools.zip_longest","itertools.pairwise"].contains n&&vs[0]? == Za (rawInt _))=Zd then _ else _) Q E s;rw[if_neg (by intro h;rw[e,Ee] at h;cases h)];exact Aj a))
noncomputable def Itl (K:Zg) (a:Zh):It :=
 ⟨λi H=>∃b x,SqL K H a b/\b[i]?=Za x,λi H x c=>c=H/\∀b,SqL K H a b->b[i]?=Za x,λi H=>∃b,SqL K H a b/\b.length<=i⟩
noncomputable def Itt (K:Zg) (a:Zh):It :=
 ⟨λi H=>∃b x,SqT K H a b/\b[i]?=Za x,λi H x c=>c=H/\∀b,SqT K H a b->b[i]?=Za x,λi H=>∃b,SqT K H a b/\b.length<=i⟩
noncomputable def Itr (l:Int) (n:Nat):It:=⟨λi _=>i<n,λi H x a=>a=H/\x=.int (l+i),λi _=>n<=i⟩
theorem zww {w:World}{K:Zg}{U:Zi}(a it:Zh):Turn P w K U (Itl K a) [it] it (λi h=>h.IsListIter it a i) where
 mem:=by simp
 obj:=λi h f b g=>by
  have e:b=it:=by simpa using g
  subst e;nofun;obtain⟨o,e,c,d⟩:=f;ac_rfl;exact⟨o,e,λv z=>by rw[d] at z;cases z⟩
 keep:=λi h l f k=>f.at λo e=>k it (by simp) o e
 item:=by
  intro X r F hK L i pins s σ H E I n f B;subst r F hK;nofun;obtain⟨N,x,m,A⟩:=B;obtain⟨J,C,p,M⟩:=I.list m;obtain⟨u,hu,O⟩:=C.get A;obtain⟨D,q,Q,f3,t,y⟩:=n it (by simp);ac_rfl;refine wpAny_pyNext_list_item f p.isList (x:=u) (by simpa using hu) λl j Y=>?_;have S:Inv X pins σ H { s with heap:=l }:=I.turned (t':=s.toks) (λb o g e=>(Y.2 b g).trans e) D q f3 t y;nofun;obtain⟨o,e,c,d⟩:=id j;ac_rfl;exact⟨u,rfl,z63 (s:={ s with heap:=l }) e c d #v[0,9] ⟨x,H,S,O,⟨rfl,λys R=>by rw[I.list_inj R m];exact A⟩,j,λb g=>(n b g).1⟩⟩
 done:=by
  intro X r F hK L i pins s σ H E I n f B;subst r F hK;nofun;obtain⟨N,m,A⟩:=B;obtain⟨J,C,p,M⟩:=I.list m;obtain⟨D,q,Q,f3,t,y⟩:=n it (by simp);ac_rfl;have hl:=C.length;exact wpAny_pyNext_list_end (I.ok.hd L) f p.isList (by simp;symm) λl Z=>⟨rfl,I.turned (t':=s.toks) (λb o g e=>Z b o g e) D q f3 t y⟩
 self:=λ_ _ _ _ _ f h=>wpAny_pyIter_listiter f h
theorem zte {w:World}{K:Zg}{U:Zi}(a it:Zh):Turn P w K U (Itt K a) [it] it (λi h=>h.IsTupleIter it a i) where
 mem:=by simp
 obj:=λi h f b g=>by
  have e:b=it:=by simpa using g
  subst e;nofun;obtain⟨o,e,c,d⟩:=f;ac_rfl;exact⟨o,e,λv z=>by rw[d] at z;cases z⟩
 keep:=λi h m f k=>f.at λo e=>k it (by simp) o e
 item:=by
  intro X t J hK L i pins s σ H E I q f C;subst t J hK;nofun;obtain⟨N,x,n,B⟩:=C;obtain⟨j,D,p,M⟩:=I.tuple n;obtain⟨u,hu,O⟩:=D.get B;obtain⟨F,r,Q,f3,y,A⟩:=q it (by simp);ac_rfl;refine wpAny_pyNext_tuple_item f (show s.heap.IsTuple a j.toArray from p) (x:=u) (by simpa using hu) λm l Y=>?_;have S:Inv X pins σ H { s with heap:=m }:=I.turned (t':=s.toks) (λb o g e=>(Y.2 b g).trans e) F r f3 y A;nofun;obtain⟨o,e,c,d⟩:=id l;ac_rfl;exact⟨u,rfl,z63 (s:={ s with heap:=m }) e c d #v[0,9] ⟨x,H,S,O,⟨rfl,λys R=>by rw[I.tuple_inj R n];exact B⟩,l,λb g=>(q b g).1⟩⟩
 done:=by
  intro X t J hK L i pins s σ H E I q f C;subst t J hK;nofun;obtain⟨N,n,B⟩:=C;obtain⟨j,D,p,M⟩:=I.tuple n;obtain⟨F,r,Q,f3,y,A⟩:=q it (by simp);ac_rfl;have hl:=D.length;exact wpAny_pyNext_tuple_end (I.ok.hd L) f (show s.heap.IsTuple a j.toArray from p) (by simp;symm) λm Z=>⟨rfl,I.turned (t':=s.toks) (λb o g e=>Z b o g e) F r f3 y A⟩
 self:=λ_ _ _ _ _ f h=>wpAny_pyIter_tupleiter f h
theorem zs5 {w:World}{K:Zg}{J:Zi}(it:Zh)(l:Int)(n:Nat):Turn P w K J (Itr l n) [it] it (λi h=>IsRangeIter h it (l+(i:Nat)*1) ((n:Int)-(i:Nat)) 1) where
 mem:=by simp
 obj:=λi h a b c=>by
  have e:b=it:=by simpa using c
  subst e;exact⟨_,a,λv z=>by
   have B:Data.fields _=Data.cell v:=z;cases B⟩
 keep:=λi h f a k=>k it (by simp) _ a
 item:=by
  intro X m x hK y i pins s σ H E I g a r;subst m x hK;nofun;obtain⟨u,j,D,f3,p,q⟩:=g it (by simp);ac_rfl;have W:=Walks.range (prog:=X.prog) (w:=X.w) (I.ok.hd y) it l 1 n;refine W.item i s _ _ r a λv f A L d C=>?_;obtain⟨t,rfl⟩:=L;have F:Inv X pins σ H { s with heap:=f,toks:=A }:=I.turned (λb o c e=>C b o (by simpa using c) e) u j f3 p q;refine⟨_,rfl,z63 (s:={ s with heap:=f,toks:=A }) (n := "range_iterator") d rfl rfl #v[0,9] ⟨.int (l+i),H,F,⟨t,?_⟩,⟨rfl,rfl⟩,d,λb c=>(g b c).1⟩⟩;rw[Int.mul_one]
 done:=by
  intro X m x hK y i pins s σ H E I g a r;subst m x hK;nofun;obtain⟨u,j,D,f3,p,q⟩:=g it (by simp);ac_rfl;exact wpAny_pyNext_range_end (I.ok.hd y) a (by have:n<=i:=r;symm) λf M=>⟨rfl,I.turned (t':=s.toks) (λb o c e=>M b o c e) u j f3 p q⟩
 self:=λ_ _ _ _ _ a h=>wpAny_pyIter_rangeiter a h
section
variable {tg:Zi}
theorem zq7 {pins:List (Zh×Obj)}{σ:St}{s:Zf}{l h:Int}{t u v:Tok}{tk:Nat} (I:Inv X pins σ H s) (j:-(2^62)<=l) (c:l<2^62) (d:-(2^62)<=h) (h4:h<2^62)
  (q:R (Itr l (h-l).toNat) H):wpAny #v[2,7] X.A (pyIter (.ref s.heap.objs.size)) (PIE X pins σ tg R) E { s with heap:=s.heap.push { cls:=.type "range",data:=.fields #[.int l t,.int h u,.int 1 v] },toks:=tk }:=by
 refine wpAny_pyIter_range (IsRange.new ..) (small_one j c d h4) ?_;have a:Inv X pins σ H { s with heap:=s.heap.push { cls:=.type "range",data:=.fields #[.int l t,.int h u,.int 1 v] },toks:=tk }:=I.kept λb o e=>Ad _ e;refine⟨(s.heap.push { cls:=.type "range",data:=.fields #[.int l t,.int h u,.int 1 v] }).objs.size,[(s.heap.push { cls:=.type "range",data:=.fields #[.int l t,.int h u,.int 1 v] }).objs.size],_,_,H,rfl,
  a.kept (t':=tk) λb o e=>Ad _ e,zs5 _ l (h-l).toNat,?_,λb f=>?_,q⟩
 ·have g:l+((0:Nat):Int)*1=l:=by simp
  have i:(((h-l).toNat:Nat):Int)-((0:Nat):Int)=Builtin.Range.rangeSize l h 1:=by rw[rangeSize_one];split<;>symm
  show IsRangeIter _ _ (l+((0:Nat):Int)*1) ((((h-l).toNat:Nat):Int)-((0:Nat):Int)) 1;rw[g,i];exact Ay _ rfl
 ·have e:b=(s.heap.push { cls:=.type "range", data:=.fields #[.int l t,.int h u,.int 1 v] }).objs.size:=by simpa using f
  subst e;exact a.fpOk (Af _) (a.hok.fresh (Af _))
noncomputable def ydl (t:TA):TI:=λσ H R=>t σ H λv a=>∃j:Int,v=[.int j]/\-(2^62)<=j/\j<2^62/\R (Itr 0 j.toNat) a
noncomputable def ygh (t:TA):TI:=λσ H R=>t σ H λb a=>∃i j:Int,b=#v[3,16]/\(-(2^62)<=i/\i<2^62/\-(2^62)<=j/\j<2^62)/\R (Itr i (j-i).toNat) a
theorem zx7 {c:TA}{p pos:Pos} (f:Gl X "range") (g:X.mg "range" = Zb) (m:PA X [a] c) (n:starEach [a] X.env=[(Zc,eval a X.env)]:=by rfl):PI X tg (.Call (.Name "range" p) [a] [] pos) (ydl c):=by
 intro pins s σ H R I h;refine Call_ (zd0 I f g boot_range (Dp (thn (m pos pins s σ H _ I h) λu w ⟨x,o,l,k,b⟩=>?_) n rfl));nofun;obtain⟨j,e,b,d,q⟩:=b;ac_rfl;subst e;cases k with
 | cons r i =>
  cases i;obtain⟨t,rfl⟩:=r;exact call_range_1 (zq7 l #v[] #v[] b d (by simpa using q))
theorem zz0 {g:TA}{p pos:Pos} (w:Gl X "range") (m:X.mg "range" = Zb) (y:PA X [a,b] g) (o:starEach [a,b] X.env=[(Zc,eval a X.env),(Zc,eval b X.env)]:=by rfl) (c:starEach [b] X.env=[(Zc,eval b X.env)]:=by rfl) :
  PI X tg (.Call (.Name "range" p) [a,b] [] pos) (ygh g):=by
 intro pins s σ H R I h;refine Call_ (zd0 I w m boot_range (Dp (thn (y pos pins s σ H _ I h) λC z ⟨A,D,n,u,d⟩=>?_) (by rw[o,c]) (by rw[c];rfl)));nofun;obtain⟨i,j,e,⟨d,k,x,l⟩,q⟩:=d;ac_rfl;subst e;cases u with
 | cons r f =>
  cases f with
  | cons v f =>
   cases f;obtain⟨t,rfl⟩:=r;obtain⟨B,rfl⟩:=v;exact call_range_2 (zq7 n d k x l q)
noncomputable def tFor (w:TI) (g:TG) (t:TS):TS:=λD σ H=>w σ H λJ e=>∃W:Nat->Nat->St->Hp->Prop,(∃m,W 0 m σ e)/\∀i m σ H,W i m σ H ->
 (J.stop i H/\D.nx σ H)\/(J.go i H/\∃N:St->Hp->Prop,(∀a b,N a b->∃c,c<m/\W (i+1) c a b)/\∀x b,J.yld i H x b->g x σ b λσ2 d=>t { D with nx:=N,ct:=N,bk:=D.nx } σ2 d)
noncomputable def zi5 (fp:List Zh) (h:Heap):List (Zh×Obj):=fp.filterMap λb=>(h.get? b).map λo=>(b,o)
theorem zce (a:b∈fp)(e:h.get? b=Za o):(b,o)∈zi5 fp h:=List.mem_filterMap.mpr ⟨b,a,by rw[e];rfl⟩
theorem z0i {p:Zh×Obj} (d:p∈zi5 fp h):p.1∈fp/\h.get? p.1=Za p.2:=by
 obtain⟨b,a,e⟩:=List.mem_filterMap.mp d;cases q:h.get? b with
 |none=>rw[q] at e;cases e
 | some o =>
  rw[q] at e;have c:(b,o)=p:=sI e;subst c;exact⟨a,q⟩
theorem Inv.pinned {pins:List (Zh×Obj)}{σ:St}{s:Zf}(I:Inv X pins σ H s)(i:∀b∈fp,FpOk X pins H b)(g:∀b∈fp,∃o,s.heap.get? b=Za o/\∀v,o.data≠.cell v):Inv X (pins++zi5 fp s.heap) σ H s :=
 I.pins_of λp k=>(Bh.mp k).elim (λz=>I.pin p (Av _ z)) λz=>by
  nofun;obtain⟨h,e⟩:=z0i z;obtain⟨j,c,f,_⟩:=i p.1 h;obtain⟨o,a,d⟩:=g p.1 h;ac_rfl;rw[e] at a;obtain rfl:=sI a;exact⟨e,j,c,f,d⟩
theorem Inv.unpinned {pins a:List (Zh×Obj)}{σ:St}{s:Zf}(I:Inv X (pins++a) σ H s):Inv X pins σ H s:=I.pins_of λp h=>I.pin p (Av _ (Cq _ h))
theorem yca {iter:Zi}{body:List Stmt}{U:TI}{g:TG}{S:TS}{pos:Pos} (A:PassesOwn #v[2,7] X.A X.env X.xe) (hc:X.calm=Zd) (hi:PI X tg iter U) (hg:PG X tg g) (c:PSs X body S)
  (hs:∀x,foldedSetIterable iter X.env x=pure x:=by intro _;rfl):PS X (.For tg iter body [] pos) (tFor U g S):=by
 intro pins s σ H D I h;refine wpAny_For (thn (hi pins s σ H _ I h) λv s1 h1=>thn h1 λitv s2 h2=>?_) hs;nofun;obtain⟨it,fp,tn,J,H2,e,I2,T,L,R,W,⟨m0,w0⟩,turn⟩:=h2;ac_rfl;subst e;have l:∀{t:Hp},(∀b∈fp,t b=Zb)->∀b∈fp,FpOk X pins t b:=λhn b c=>⟨hn b c,(R b c).2⟩;refine codeAny_forLoop_any (λn Q=>∃i p t,Inv X pins p t Q/\tn i Q.heap/\(∀b∈fp,t b=Zb)/\W i n p t) ?_ m0 ⟨0,σ,H2,I2,L,λb c=>(R b c).1,w0⟩;rintro n s3 ⟨i,j,E,Z,C,B,w3⟩;rcases turn i n j E w3 with⟨stop,qn⟩|⟨go,N,hN,step⟩
 ·refine Hs A (thn (T.done X rfl rfl rfl hc i pins s3 j E X.xe Z (l B) C stop) λr s4 ⟨K,I4⟩ => ?_);subst K;exact wpAny_execs_nil ⟨j,E,I4,qn⟩
 ·refine Hs A (thn (T.item X rfl rfl rfl hc i pins s3 j E X.xe Z (l B) C go) λr s4 ⟨u,K,h4⟩ => ?_);subst K;refine Hs A (thn h4 λ_ s5 ⟨x,Y,I5,r5,y5,y,P⟩=>?_);have F:=I5.pinned (l P) (T.obj _ _ y);refine Hs A (thn (hg _ s5 j Y x u _ F r5 (step x Y y5)) λ_ s6 ⟨O,H6,I6,q6⟩=>?_);refine Hs A (thn (c _ s6 O H6 _ I6 q6) λf M w=>?_);have again:∀{a:St}{q:Hp},Inv X (pins++zi5 fp s5.heap) a q M->N a q->∃m,m<n/\∃i p t,Inv X pins p t M/\tn i M.heap/\(∀b∈fp,t b=Zb)/\W i m p t:=λ{a q} k z=>by
   obtain⟨m',hm,w7⟩:=hN a q z;refine⟨m',hm,i+1,a,q,k.unpinned,T.keep _ _ _ y λb c o e=>(k.pin (b,o) (Av _ (Av _ (zce c e)))).1,λb c=>?_,w7⟩;obtain⟨o,e,d⟩:=T.obj _ _ y b c;exact (k.pin (b,o) (Av _ (Av _ (zce c e)))).2.1
  cases f with
  |next=>obtain⟨a,q,k,z⟩:=w;exact again k z
  |cont=>obtain⟨a,q,k,z⟩:=w;exact again k z
  |brk=>obtain⟨a,q,k,w⟩:=w;exact⟨a,q,k.unpinned,w⟩
  |ret v=>obtain⟨x7,a,q,k,r7,w⟩:=w;exact⟨x7,a,q,k.unpinned,r7,w⟩
end
noncomputable abbrev R2:=V->V->Hp->VK->Prop
noncomputable def OpR (X:Cx) (f:Ze->Ze->Sem Ze) (r:R2):Prop :=
 ∀(pins:List (Zh×Obj)) (s:Zf) (σ:St) (H:Hp) (x y:V) (v u:Ze) (Q:VK),Inv X pins σ H s->RelV x v->RelV y u->r x y H Q ->
  wpAny #v[2,7] X.A (f v u) (EP X pins σ Q) X.xe s
noncomputable def UnR (X:Cx) (f:Ze->Sem Ze) (r:V->Hp->VK->Prop):Prop :=
 ∀(pins:List (Zh×Obj)) (s:Zf) (σ:St) (H:Hp) (x:V) (v:Ze) (Q:VK),Inv X pins σ H s->RelV x v->r x H Q ->
  wpAny #v[2,7] X.A (f v) (EP X pins σ Q) X.xe s
noncomputable def zfz (X:Cx) (f:Ze) (r:List V->Hp->VK->Prop):Prop :=
 ∀(pins:List (Zh×Obj)) (s:Zf) (σ:St) (H:Hp) (x:List V) (u:List Ze) (Q:VK),Inv X pins σ H s->Vals x u->r x H Q ->
  wpAny #v[2,7] X.A (call f u) (EP X pins σ Q) X.xe s
noncomputable def tOp (r:R2) (b t:TE):TE:=λσ H Q=>b σ H λx c=>t σ c λy a=>r x y a Q
noncomputable def tUn (r:V->Hp->VK->Prop) (t:TE):TE:=λσ H Q=>t σ H λx a=>r x a Q
noncomputable def rI (C:Int->Int->Prop) (g:Int->Int->V):R2:=λx y H Q=>∃i j,x=.int i/\y=.int j/\C i j/\Q (g i j) H
noncomputable def rI0 (g:Int->Int->V):R2:=λx y H Q=>∃i j,x=.int i/\y=.int j/\Q (g i j) H
noncomputable def rU (g:Int->V):V->Hp->VK->Prop:=λx H Q=>∃i,x=.int i/\Q (g i) H
section
variable {X:Cx}{a b c:Zi}{ta tb tc:TE}{pos:Pos}
theorem binT (n:PE X a ta) (i:PE X b tb) {pins:List (Zh×Obj)}{s:Zf}{σ:St}{H:Hp}{R:V->V->Hp->Prop} (I:Inv X pins σ H s)
  (h:ta σ H λx g=>tb σ g λy c=>R x y c) {Q:Ze->Zf->Prop}{f:Ze->Ze->Sem Ze}
  (o:∀v u e x y c,Inv X pins σ c e->RelV x v->RelV y u->R x y c->wpAny #v[2,7] X.A (f v u) Q X.xe e) :
  wpAny #v[2,7] X.A (eval a X.env) (λv s₁=>wpAny #v[2,7] X.A (eval b X.env) (λu d=>wpAny #v[2,7] X.A (f v u) Q X.xe d) X.xe s₁) X.xe s:=by
 refine thn (n pins s σ H _ I h) λv j ⟨x,g,m,p,k⟩=>?_;refine thn (i pins j σ g _ m k) λu e ⟨y,c,l,r,q⟩=>?_;exact o v u e x y c l p r q
theorem yg4 {op:Operator}{r:R2}(f:OpR X (binaryOp op) r)(g:PE X a ta)(c:PE X b tb):PE X (.BinOp a op b pos) (tOp r ta tb):=by
 intro pins s σ H Q I h;exact wpAny_BinOp (binT g c I h λv u j x y d e i k q=>f pins j σ d x y v u Q e i k q)
theorem yhn {op:UnaryOp}{r:V->Hp->VK->Prop}(c:UnR X (unaryOp op) r)(e:PE X a ta):PE X (.UnaryOp op a pos) (tUn r ta):=by
 intro pins s σ H Q I h;exact UnaryOp_ (thn (e pins s σ H _ I h) λv b ⟨x,g,d,f,q⟩=>c pins b σ g x v Q d f q)
theorem opI {C:Int->Int->Prop}{g:Int->Int->Int}
  (rule:∀(i j:Int) (t u:Tok) (s:Zf) (Q:Ze->Zf->Prop) (E:Ze->Zf->Prop),C i j->Q (.int (g i j) s.toks) { s with toks:=s.toks+1 }->wpAny #v[2,7] X.A (f (.int i t) (.int j u)) Q E s) :
  OpR X f (rI C λi j=>.int (g i j)):=by
 intro pins s σ H x y v u Q I r c h;obtain⟨i,j,rfl,rfl,b,q⟩:=h;obtain⟨t,rfl⟩:=r;obtain⟨a,rfl⟩:=c;exact rule i j t a s _ _ b ⟨.int (g i j),H,I.tok _,⟨_,rfl⟩,q⟩
theorem opI0 {f:Ze->Ze->Sem Ze}{g:Int->Int->Int}
  (rule:∀(i j:Int) (t u:Tok) (s:Zf) (Q:Ze->Zf->Prop) (E:Ze->Zf->Prop),Q (.int (g i j) s.toks) { s with toks:=s.toks+1 }->wpAny #v[2,7] X.A (f (.int i t) (.int j u)) Q E s) :
  OpR X f (rI0 λi j=>.int (g i j)):=by
 intro pins s σ H x y v u Q I r b h;obtain⟨i,j,rfl,rfl,q⟩:=h;obtain⟨t,rfl⟩:=r;obtain⟨a,rfl⟩:=b;exact rule i j t a s _ _ ⟨.int (g i j),H,I.tok _,⟨_,rfl⟩,q⟩
theorem opB0 {f:Ze->Ze->Sem Ze}{g:Int->Int->Bool}
  (rule:∀(i j:Int) (t u:Tok) (s:Zf) (Q:Ze->Zf->Prop) (E:Ze->Zf->Prop),Q (.bool (g i j)) s->wpAny #v[2,7] X.A (f (.int i t) (.int j u)) Q E s) :
  OpR X f (rI0 λi j=>.bl (g i j)):=by
 intro pins s σ H x y v u Q I r b h;obtain⟨i,j,rfl,rfl,q⟩:=h;obtain⟨t,rfl⟩:=r;obtain⟨a,rfl⟩:=b;exact rule i j t a s _ _ ⟨.bl (g i j),H,I,rfl,q⟩
noncomputable def CPow (i j:Int):Prop:=0<=j/\j<=1000000/\i.natAbs<2^64
noncomputable def CMul (i j:Int):Prop:=(-(2^64)<i/\i<2^64)\/(-(2^64)<j/\j<2^64)
theorem CMul.ok (h:CMul i j):IntMulOk i j:=by
 rcases h with⟨a,b⟩|⟨a,b⟩
 ·exact .of_left (intBits_le_64 a b)
 ·exact .of_right (intBits_le_64 a b)
theorem zta (k:Nat):(0:Int)<=2^k:=by
 rw[two_pow_cast];exact Et _
theorem ycl:OpR X (binaryOp .Add) (rI0 λi j=>.int (i+j)):=opI0 λ_ _ _ _ _ _ _ q=>add_int q
theorem yfl:OpR X (binaryOp .Sub) (rI0 λi j=>.int (i-j)):=opI0 λ_ _ _ _ _ _ _ q=>sub_int q
theorem yb7:OpR X (binaryOp .Mult) (rI CMul λi j=>.int (i*j)):=opI λ_ _ _ _ _ _ _ h q=>mul_int q h.ok
theorem yfm:OpR X (binaryOp .Mod) (rI (λ_ j=>0<j) λi j=>.int (i%j)):=opI λi j _ _ _ _ _ h q=>by
 have a:(0:Int)<j:=h;exact mod_int' #v[] (by rw[Int.fmod_eq_emod_of_nonneg i #v[]];exact q)
theorem yfq:OpR X (binaryOp .Pow) (rI CPow λi j=>.int (i^j.toNat)):=opI λ_ _ _ _ _ _ _ h q=>pow_int_small h.1 h.2.1 h.2.2 q
theorem yge:OpR X (binaryOp .LShift) (rI CPow λi j=>.int (i*2^j.toNat)):=opI λ_ _ _ _ _ _ _ h q=>lshift_int_small h.1 h.2.1 h.2.2 q
theorem yc7:OpR X (binaryOp .RShift) (rI (λ_ j=>0<=j) λi j=>.int (i/2^j.toNat)):=opI λi j _ _ _ _ _ h q =>
 rshift_int h (by rw[Int.fdiv_eq_ediv_of_nonneg i (zta _)];exact q)
theorem yfi:OpR X (binaryOp .BitAnd) (rI0 λi j=>.int (Builtin.bitAnd i j)):=opI0 λ_ _ _ _ _ _ _ q=>and_int q
theorem yg7:OpR X (binaryOp .BitOr) (rI0 λi j=>.int (Builtin.bitOr i j)):=opI0 λ_ _ _ _ _ _ _ q=>or_int q
theorem yga:OpR X (binaryOp .BitXor) (rI0 λi j=>.int (Builtin.bitXor i j)):=opI0 λ_ _ _ _ _ _ _ q=>xor_int q
theorem zwz:OpR X (inplaceOp .Add) (rI0 λi j=>.int (i+j)):=opI0 λ_ _ _ _ _ _ _ q=>iadd_int q
theorem z9e:OpR X (inplaceOp .Sub) (rI0 λi j=>.int (i-j)):=opI0 λ_ _ _ _ _ _ _ q=>isub_int q
theorem z6s:OpR X (inplaceOp .Mult) (rI CMul λi j=>.int (i*j)):=opI λ_ _ _ _ _ _ _ h q=>imul_int q h.ok
theorem yan:OpR X (inplaceOp .BitAnd) (rI0 λi j=>.int (Builtin.bitAnd i j)):=opI0 λ_ _ _ _ _ _ _ q=>iand_int q
theorem yff:OpR X (inplaceOp .BitOr) (rI0 λi j=>.int (Builtin.bitOr i j)):=opI0 λ_ _ _ _ _ _ _ q=>ior_int q
theorem z9a:OpR X (inplaceOp .BitXor) (rI0 λi j=>.int (Builtin.bitXor i j)):=opI0 λ_ _ _ _ _ _ _ q=>ixor_int q
theorem unI {f:Ze->Sem Ze}{g:Int->Int}
  (rule:∀(i:Int) (t:Tok) (s:Zf) (Q:Ze->Zf->Prop) (E:Ze->Zf->Prop),Q (.int (g i) s.toks) { s with toks:=s.toks+1 }->wpAny #v[2,7] X.A (f (.int i t)) Q E s) :
  UnR X f (rU λi=>.int (g i)):=by
 intro pins s σ H x v Q I r h;obtain⟨i,rfl,q⟩:=h;obtain⟨t,rfl⟩:=r;exact rule i t s _ _ ⟨.int (g i),H,I.tok _,⟨_,rfl⟩,q⟩
theorem yej:UnR X (unaryOp .USub) (rU λi=>.int (-i)):=unI λ_ _ _ _ _ q=>neg_int q
end
noncomputable def scal:V->V->Bool
 |.non,.non=>Zd|.non,.int _=>Zd|.int _,.non=>Zd|.non,.bl _=>Zd|.bl _,.non=>Zd|.non,.str _=>Zd|.str _,.non=>Zd
 |.int _,.int _=>Zd|.bl _,.bl _=>Zd|.str _,.str _=>Zd|.byt _,.byt _=>Zd
 |.int _,.str _=>Zd|.str _,.int _=>Zd|.bl _,.str _=>Zd|.str _,.bl _=>Zd
 |_,_=>Zc
noncomputable def rEq:R2:=λx y H Q=>scal x y=Zd/\Q (.bl (decide (x=y))) H
noncomputable def rNe:R2:=λx y H Q=>scal x y=Zd/\Q (.bl (!decide (x=y))) H
theorem zvi:decide (V.int i=V.int j)=(i==j):=by
 rw[Ej];simp
theorem z6k:decide (V.bl i=V.bl j)=(i==j):=by
 rw[Ej];simp
theorem zw5:decide (V.str i=V.str j)=(i==j):=by
 rw[Ej];simp
theorem zu7:decide (V.byt i=V.byt j)=(i.toList==j.toList):=by
 rw[Ej];cases i;cases j;simp
section
variable {X:Cx}{a b c:Zi}{ta tb tc:TE}{pos:Pos}
theorem zal {pins:List (Zh×Obj)}{σ:St}{s:Zf}(I:Inv X pins σ H s)(q:Q (.bl k) H)(e:k=k'):EP X pins σ Q (.bool k') s:=by
 subst e;exact⟨.bl k,H,I,rfl,q⟩
theorem yhs:OpR X (compareOp .Eq) rEq:=by
 intro pins s σ H x y v u Q I c r h;obtain⟨b,q⟩:=h;cases x with
 | non =>
  cases c;cases y with
  |non=>cases r;exact PySem.EqNone.eq_none_none (zal I q (by simp))
  |bl j=>cases r;exact PySem.EqNone.eq_none_bool (zal I q (by simp))
  |int j=>obtain⟨a,rfl⟩:=r;exact PySem.EqNone.eq_none_int (zal I q (by simp))
  |str j=>obtain⟨a,rfl⟩:=r;exact PySem.EqNone.eq_none_str (zal I q (by simp))
  |_=>exact absurd (show Zc=Zd from b) Ah
 | bl i =>
  cases c;cases y with
  |non=>cases r;exact PySem.EqNone.eq_bool_none (zal I q (by simp))
  |bl j=>cases r;exact eq_bool (zal I q z6k)
  |str j=>obtain⟨a,rfl⟩:=r;exact PySem.EqMixed.eq_bool_str (zal I q (by simp))
  |_=>exact absurd (show Zc=Zd from b) Ah
 | int i =>
  obtain⟨t,rfl⟩:=c;cases y with
  |non=>cases r;exact PySem.EqNone.eq_int_none (zal I q (by simp))
  |int j=>obtain⟨a,rfl⟩:=r;exact eq_int (zal I q zvi)
  |str j=>obtain⟨a,rfl⟩:=r;exact PySem.EqMixed.eq_int_str (zal I q (by simp))
  |_=>exact absurd (show Zc=Zd from b) Ah
 | str i =>
  obtain⟨t,rfl⟩:=c;cases y with
  |non=>cases r;exact PySem.EqNone.eq_str_none (zal I q (by simp))
  |bl j=>cases r;exact PySem.EqMixed.eq_str_bool (zal I q (by simp))
  |int j=>obtain⟨a,rfl⟩:=r;exact PySem.EqMixed.eq_str_int (zal I q (by simp))
  |str j=>obtain⟨a,rfl⟩:=r;exact eq_str (zal I q zw5)
  |_=>exact absurd (show Zc=Zd from b) Ah
 | byt i =>
  obtain⟨t,rfl⟩:=c;cases y with
  |byt j=>obtain⟨a,rfl⟩:=r;exact PySem.W.eq_bytes (zal I q zu7)
  |_=>exact absurd (show Zc=Zd from b) Ah
 |_=>cases y<;>exact absurd (show Zc=Zd from b) Ah
theorem yij:OpR X (compareOp .NotEq) rNe:=by
 intro pins s σ H x y v u Q I c r h;obtain⟨b,q⟩:=h;cases x with
 | non =>
  cases c;cases y with
  |non=>cases r;exact PySem.EqNone.ne_none_none (zal I q (by simp))
  |bl j=>cases r;exact PySem.EqNone.ne_none_bool (zal I q (by simp))
  |int j=>obtain⟨a,rfl⟩:=r;exact PySem.EqNone.ne_none_int (zal I q (by simp))
  |str j=>obtain⟨a,rfl⟩:=r;exact PySem.EqNone.ne_none_str (zal I q (by simp))
  |_=>exact absurd (show Zc=Zd from b) Ah
 | bl i =>
  cases c;cases y with
  |non=>cases r;exact PySem.EqNone.ne_bool_none (zal I q (by simp))
  |bl j=>cases r;exact ne_bool (zal I q (congrArg not z6k))
  |str j=>obtain⟨a,rfl⟩:=r;exact PySem.EqMixed.ne_bool_str (zal I q (by simp))
  |_=>exact absurd (show Zc=Zd from b) Ah
 | int i =>
  obtain⟨t,rfl⟩:=c;cases y with
  |non=>cases r;exact PySem.EqNone.ne_int_none (zal I q (by simp))
  |int j=>obtain⟨a,rfl⟩:=r;exact ne_int (zal I q (congrArg not zvi))
  |str j=>obtain⟨a,rfl⟩:=r;exact PySem.EqMixed.ne_int_str (zal I q (by simp))
  |_=>exact absurd (show Zc=Zd from b) Ah
 | str i =>
  obtain⟨t,rfl⟩:=c;cases y with
  |non=>cases r;exact PySem.EqNone.ne_str_none (zal I q (by simp))
  |bl j=>cases r;exact PySem.EqMixed.ne_str_bool (zal I q (by simp))
  |int j=>obtain⟨a,rfl⟩:=r;exact PySem.EqMixed.ne_str_int (zal I q (by simp))
  |str j=>obtain⟨a,rfl⟩:=r;exact ne_str (zal I q (congrArg not zw5))
  |_=>exact absurd (show Zc=Zd from b) Ah
 | byt i =>
  obtain⟨t,rfl⟩:=c;cases y with
  |byt j=>obtain⟨a,rfl⟩:=r;exact PySem.W.ne_bytes (zal I q (congrArg not zu7))
  |_=>exact absurd (show Zc=Zd from b) Ah
 |_=>cases y<;>exact absurd (show Zc=Zd from b) Ah
theorem yig:OpR X (compareOp .Lt) (rI0 λi j=>.bl (decide (i<j))):=opB0 λ_ _ _ _ _ _ _ q=>lt_int q
theorem ygz:OpR X (compareOp .LtE) (rI0 λi j=>.bl (decide (i<=j))):=opB0 λ_ _ _ _ _ _ _ q=>le_int q
theorem yg3:OpR X (compareOp .Gt) (rI0 λi j=>.bl (decide (j<i))):=opB0 λ_ _ _ _ _ _ _ q=>gt_int q
theorem yhh:OpR X (compareOp .GtE) (rI0 λi j=>.bl (decide (j<=i))):=opB0 λ_ _ _ _ _ _ _ q=>ge_int q
theorem yab:OpR X (compareOp .IsNot) (λx y H Q=>y=.non/\Q (.bl (!decide (x=.non))) H):=by
 intro pins s σ H x y v u Q I r a h;obtain⟨rfl,q⟩:=h;cases a;refine isnot_none_gen (zal I q ?_);cases x<;>first
  |(cases r;rfl)
  |(obtain⟨t,rfl⟩:=r;rfl)
theorem OpR.or {r a:R2}(h:OpR X f r)(h':OpR X f a):OpR X f (λx y H Q=>r x y H Q\/a x y H Q):=by
 intro pins s σ H x y v u Q I b c q;rcases q with q|q
 ·exact h pins s σ H x y v u Q I b c q
 ·exact h' pins s σ H x y v u Q I b c q
theorem z0a {op:CmpOp}{r:R2}(g:OpR X (compareOp op) r)(i:PE X a ta)(c:PE X b tb)(e:behindInMarks op b=Zc):PE X (.Compare a [op] [b] pos) (tOp r ta tb):=by
 intro pins s σ H Q I h;exact wpAny_Compare1 (binT i c I h λv u k x y d f j l q=>g pins k σ d x y v u Q f j l q) e
noncomputable def z8e (t:TE):TT:=λσ H Q=>t σ H λx a=>∃k,x=.bl k/\Q k a
theorem zy3 {op:CmpOp}{r:R2}(w:OpR X (compareOp op) r)(D:PE X a ta)(d:PE X b tb)(m:behindInMarks op b=Zc):PT X (.Compare a [op] [b] pos) (z8e (tOp r ta tb)):=by
 intro pins s σ H Q I h;refine wpAny_isTrue_Compare1 (thn (D pins s σ H _ I h) λv l ⟨x,E,o,p,n⟩=>thn (d pins l σ E _ o n) λu C ⟨y,j,g,i,q⟩ =>
  thn (w pins C σ j x y v u _ g p i q) λc F ⟨z,B,t,f,k,e,A⟩=>?_) m
 subst e;cases f;exact Di ⟨B,t,A⟩
noncomputable def zxb (r e:R2) (ta tb tc:TE):TE:=λσ H Q=>ta σ H λx b=>tb σ b λy c=>r x y c λz a=>∃k,z=.bl k /\
 (if k=Zd then tc σ a λw d=>e y w d Q else Q (.bl Zc) a)
theorem z1n {op o:CmpOp}{r i:R2} (M:OpR X (compareOp op) r) (f:OpR X (compareOp o) i) (S:PE X a ta) (p:PE X b tb) (U:PE X c tc)
  (F:lastMarks [op,o] [b,c]=Zc:=by with_unfolding_all rfl):PE X (.Compare a [op,o] [b,c] pos) (zxb r i ta tb tc):=by
 intro pins s σ H Q I h;refine Compare_chain (thn (S pins s σ H _ I h) λv E ⟨x,Z,K,L,J⟩=>chain_link (thn (p pins E σ Z _ K J) λu O ⟨y,C,w,g,m⟩ =>
  thn (M pins O σ C x y v u _ w L g m) λd P ⟨z,l,j,n,k,e,q⟩=>?_)) F
 subst e;cases n;refine Di ?_;cases k with
 |false=>exact ite_ff ⟨.bl Zc,l,j,rfl,q⟩
 |true=>exact ite_tt (chain_last (thn (U pins P σ l _ j q) λD R ⟨t,Y,N,B,A⟩=>f pins R σ Y y t u D Q N g B A))
theorem z3s {op o:CmpOp}{r i:R2} (S:OpR X (compareOp op) r) (f:OpR X (compareOp o) i) (ha:PE X a ta) (n:PE X b tb) (hc:PE X c tc)
  (L:lastMarks [op,o] [b,c]=Zc:=by with_unfolding_all rfl):PT X (.Compare a [op,o] [b,c] pos) (z8e (zxb r i ta tb tc)):=by
 intro pins s σ H Q I h;refine isTrue_chain (thn (ha pins s σ H _ I h) λv K ⟨x,H1,N,O,M⟩=>test_link (thn (n pins K σ H1 _ N M) λu Y ⟨y,F,B,g,m⟩ =>
  thn (S pins Y σ F x y v u _ B O g m) λd Z ⟨z,l,j,p,k,e,q⟩=>?_)) L
 subst e;cases p;refine Di ?_;cases k with
 | false =>
  obtain⟨k',A,t⟩:=q;cases A;exact ite_ff ⟨l,j,t⟩
 | true =>
  refine ite_tt (test_last (thn (hc pins Z σ l _ j q) λJ s4 ⟨w,H4,U,D,C⟩=>thn (f pins s4 σ H4 y w u J _ U g D C) λd' s5 ⟨z2,P,I5,r5,k2,R,E⟩=>?_));subst R;cases r5;exact Di ⟨P,I5,E⟩
theorem zru:(sizeLine:Nat)<2^63:=by rw[Ic];decide
theorem zs9:OpR X (binaryOp .Add) (λx y H Q=>∃i j,x=.str i/\y=.str j/\i.length+j.length<=sizeLine/\Q (.str (i++j)) H):=by
 intro pins s σ H x y v u Q I r c h;obtain⟨i,j,rfl,rfl,b,q⟩:=h;obtain⟨t,rfl⟩:=r;obtain⟨a,rfl⟩:=c;exact add_str (λa d=>⟨.str (i++j),H,I.tok _,⟨_,rfl⟩,q⟩) b
theorem vals1 {x:V}{us:List Ze}(r:Vals [x] us):∃u,us=[u]/\RelV x u:=by
 cases r with
 |cons b a=>cases a;exact⟨_,rfl,b⟩
theorem ych {x y:V}{us:List Ze} (r:Vals [x,y] us):∃u w,us=[u,w]/\RelV x u/\RelV y w:=by
 cases r with
 | cons c b =>
  cases b with
  |cons a d=>cases d;exact⟨_,_,rfl,c,a⟩
theorem z4g:zfz X (.builtin "abs") (λxs H Q=>∃i,xs=[.int i]/\Q (.int (if i<0 then -i else i)) H):=by
 intro pins s σ H xs a Q I r h;obtain⟨i,rfl,q⟩:=h;obtain⟨u,rfl,t,rfl⟩:=vals1 r;exact call_abs_int λu b=>⟨.int (if i<0 then -i else i),H,I.tok _,⟨_,rfl⟩,q⟩
theorem zw7 (b:X.calm=Zd):zfz X (.builtin "max") (λxs H Q=>∃i j,xs=#v[3,16]/\Q (.int (if j > i then j else i)) H):=by
 intro pins s σ H xs c Q I r h;nofun;obtain⟨i,j,rfl,q⟩:=h;obtain⟨u,w,rfl,⟨t,rfl⟩,⟨d,rfl⟩⟩:=ych r;ac_rfl;refine max_two_ints (I.ok.hd b) λf e k=>⟨_,H,I.kept k,?_,q⟩;by_cases a:j > i
 ·rw[if_pos a,if_pos a];exact⟨_,rfl⟩
 ·rw[if_neg a,if_neg a];exact⟨_,rfl⟩
theorem zv7 (b:X.calm=Zd):zfz X (.builtin "min") (λxs H Q=>∃i j,xs=#v[3,16]/\Q (.int (if j<i then j else i)) H):=by
 intro pins s σ H xs c Q I r h;obtain⟨i,j,rfl,q⟩:=h;obtain⟨u,w,rfl,⟨t,rfl⟩,⟨d,rfl⟩⟩:=ych r;refine min_two_ints (I.ok.hd b) λf e k=>⟨_,H,I.kept k,?_,q⟩;by_cases a:j<i
 ·rw[if_pos a,if_pos a];exact⟨_,rfl⟩
 ·rw[if_neg a,if_neg a];exact⟨_,rfl⟩
theorem z0n:zfz X (.type "int") (λxs H Q=>(∃i,xs=[.int i]/\Q (.int i) H)\/∃k,xs=[.bl k]/\Q (.int (if k then 1 else 0)) H):=by
 intro pins s σ H xs b Q I r h;rcases h with⟨i,rfl,q⟩|⟨k,rfl,q⟩
 ·obtain⟨u,rfl,t,rfl⟩:=vals1 r;exact call_int_int ⟨.int i,H,I,⟨_,rfl⟩,q⟩
 ·obtain⟨u,rfl,a⟩:=vals1 r;cases a;exact call_int_bool ⟨.int (if k then 1 else 0),H,I.tok _,⟨_,rfl⟩,q⟩
end
structure ObjM (h:Heap) (x dx C:Zh) (mA:Str->Option Ze):Prop where
 obj:h.get? x=Za (PySem.W.instObj C dx)
 ns:h.Ns1 dx mA
 ne:dx≠x
theorem zwg {h:Heap}{d:Zh}{mA:Str->Option Ze}(n:h.Ns1 d mA):∃c,h.get? d=Za c/\∀name,PySem.W.lookIn name c=Za (mA name):=by
 nofun;obtain⟨o,f,p,m,k,l,_,j⟩:=n;ac_rfl;refine⟨o,m,λname=>?_⟩;have e:=j name;unfold nsFind findBy at e;rw[<-Array.find?_toList] at e;unfold PySem.W.lookIn;rw[k];dsimp only;split
 ·rename_i y q;rw[q] at e;exact congrArg Za e
 ·rename_i q;rw [q] at e;have a:f.toList.any (·.refKey)=Zc:=by
   rw[List.any_eq_false];intro y i;obtain⟨z,t,b⟩:=l y (Array.mem_toList_iff.mp i);simp [DictEntry.refKey,b]
  have g : ¬ f.toList.any (·.refKey)=Zd:=by rw[a];exact Ah
  rw[if_neg g];exact congrArg Za e
theorem ObjM.look {x d C:Zh}(I:ObjM h x d C mA):∃o,PySem.W.InstAt h x (PySem.W.instObj C d) C (Za o)/\∀name,PySem.W.lookIn name o=Za (mA name) :=
 let ⟨o,b,a⟩:=zwg I.ns
 ⟨o,⟨I.obj,rfl,rfl,b⟩,a⟩
section
variable {prog:Program}{w:World}{s:Zf}{K:Zg}{x dx C f:Zh}{v:Ze}
end
theorem RelO.some_of {v:V}(r:RelO (Za v) o):∃u,o=Za u/\RelV v u:=by
 cases o with
 |none=>exact (show False from r).elim
 |some u=>exact⟨u,rfl,r⟩
section
variable {w:World}
theorem z9o (b:HOk P w H h)(e:H a=Za (.ins C dx fs)):∃mA,ObjM h a dx C mA/\(∀f,RelO (fs.lookup f) (mA f))/\PySem.Within mA (fs.map (·.1))/\fs.length<=1000/\H dx=Za (.own a):=by
 nofun;obtain⟨d,z,ne,o,mA,n,r,q⟩:=(show zbn P w H h a (.ins C dx fs) from b a _ e);ac_rfl;exact⟨mA,⟨o,n,ne⟩,r,q,z,d⟩
end
structure Cls (K:Zg) (C:Zh):Prop where
 pg:PySem.W.plainGet K C Str.empty=Zd
 hd:PySem.W.hasDictIn K C=Zd
 po:PySem.W.plainOver K C=Zd
 sa:PySem.W.findIn K (.ref C) "__setattr__" = Za (Za (.builtin "object.__setattr__"))
theorem Cls.get {K:Zg}(c:Cls K C)(f:Str):PySem.W.plainGet K C f=Zd:=c.pg
section
variable {pins:List (Zh × Obj)}{σ:St}{s:Zf}{v:V}
end
section
variable {o e value:Zi}{pos pos' tpos:Pos}{ta tv:TE}
end
section
variable {pins:List (Zh × Obj)}{σ:St}{s:Zf}
inductive TyOf (K:Zg) (H:Hp):V->Ze->Prop where
 |non:TyOf K H .non (.type "NoneType")
 |bl (x:Bool):TyOf K H (.bl x) (.type "bool")
 |int (i:Int):TyOf K H (.int i) (.type "int")
 |str (x:Str):TyOf K H (.str x) (.type "str")
 |flt (x:UInt64):TyOf K H (.flt x) (.type "float")
 |lst {a:Zh}{xs:List V} (e:H a=Za (.lst xs)):TyOf K H (.ref a) (.type "list")
 |frz {a:Zh}{o:Obj}{xs:List V} (e:H a=Za (.frz o (.lst xs))):TyOf K H (.ref a) (.type "list")
 |tup {a:Zh}{xs:List V} (e:H a=Za (.tup xs)):TyOf K H (.ref a) (.type "tuple")
 |dK {a:Zh}{kvs:List (Key×V)} (e:H a=Za (.dK kvs)):TyOf K H (.ref a) (.type "dict")
 |dT {a:Zh}{kvs:List (List Key×V)} (e:H a=Za (.dT kvs)):TyOf K H (.ref a) (.type "dict")
 | ins {a C dx:Zh}{fs:List (Str×V)} (e:H a=Za (.ins C dx fs)) (cl:Cls K C) (ha:PySem.W.findIn K (.ref C) "__class__" = Za (Za (.builtin "object.__class__")))
  (hn:PySem.W.specialIn K (.builtin "object.__class__") "__get__" = Za (Za (.builtin "getset_descriptor.__get__"))) (htk:PySem.W.takesIn K (.builtin "object.__class__")=Za Zd)
  (hm:PySem.W.mroIn K C (.type "object")=Za Zd):TyOf K H (.ref a) (.ref C)
theorem zzs {x:V}{u t:Ze} (I:Inv X pins σ H s) (r:RelV x u) (F:TyOf X.K H x t) (e:PySem.W.kitOne X.K t c=Za b) (h:∀tk,Q (.bool b) { s with toks:=tk }) :
  wpAny #v[2,7] A (call (.builtin "isinstance") [u,c]) Q E s:=by
 cases F with
 |non=>cases (show u=Ze.none from r);exact Dg PySem.W.kitx_none I.kIn True.intro e (λz=>nomatch z) h
 |bl y=>cases (show u=Ze.bool y from r);exact Dg PySem.W.kitx_bool I.kIn True.intro e (λz=>nomatch z) h
 |int i=>obtain⟨t,q⟩:=(show ∃t,u=Ze.int i t from r);cases q;exact Dg PySem.W.kitx_int I.kIn True.intro e (λz=>nomatch z) h
 |str y=>obtain⟨t,q⟩:=(show ∃t,u=Ze.str y t from r);cases q;exact Dg PySem.W.kitx_str I.kIn True.intro e (λz=>nomatch z) h
 |flt y=>obtain⟨t,q⟩:=(show ∃t,u=Ze.float y t from r);cases q;exact Dg PySem.W.kitx_float I.kIn True.intro e (λz=>nomatch z) h
 | @lst a g d =>
  cases (show u=Ze.ref a from r);obtain⟨_,_,n,_,f⟩:=(show zbn X.prog X.w H s.heap a (.lst g) from I.hok a _ d);exact Dg PySem.W.kitx_list I.kIn ⟨_,f,rfl⟩ e (λz=>nomatch z) h
 | @frz a m g d =>
  cases (show u=Ze.ref a from r);obtain⟨_,_,_,n,_,f⟩:=(show zbn X.prog X.w H s.heap a (.frz m (.lst g)) from I.hok a _ d);exact Dg PySem.W.kitx_list I.kIn ⟨_,f,rfl⟩ e (λz=>nomatch z) h
 | @tup a g d =>
  cases (show u=Ze.ref a from r);obtain⟨_,_,_,p⟩:=(show zbn X.prog X.w H s.heap a (.tup g) from I.hok a _ d);obtain⟨o,f,j,_⟩:=p;exact Dg PySem.W.kitx_tuple I.kIn ⟨o,f,j.1⟩ e (λz=>nomatch z) h
 | @dK a kvs d =>
  cases (show u=Ze.ref a from r);obtain⟨_,_,N,_,p⟩:=(show zbn X.prog X.w H s.heap a (.dK kvs) from I.hok a _ d);obtain⟨o,K,D,f,j,_⟩:=p;exact Dg PySem.W.kitx_dict I.kIn ⟨o,f,j.1⟩ e (λz=>nomatch z) h
 | @dT a kvs d =>
  cases (show u=Ze.ref a from r);obtain⟨_,_,g,_,o,K,D,f,j,_⟩:=(show zbn X.prog X.w H s.heap a (.dT kvs) from I.hok a _ d);exact Dg PySem.W.kitx_dict I.kIn ⟨o,f,j.1⟩ e (λz=>nomatch z) h
 | @ins a C M fs d l L B k w =>
  cases (show u=Ze.ref a from r);obtain⟨mA,O,_⟩:=z9o I.hok d;obtain⟨P,J,_⟩:=O.look;exact Dg (PySem.W.kitx_own (l.get _) l.hd L B k w) I.kIn J e (λz=>nomatch z) h
end
structure Room (k:Nat) (A:Around):Prop where
 hd:A.handled=Zb
 dp:A.depth+3*k+5<recursionLimit
 un:A.units+16*k+200<cLine
 gd:A.guards=Za []
theorem Room.mono (r:Room k A)(h:j<=k):Room j A:=⟨r.hd,by have:=r.dp;symm,by have:=r.un;symm,r.gd⟩
theorem Room.deeper (r:Room (k+1) A)(env:Env):Room k (A.deeper env) :=
 ⟨r.hd,by have:=r.dp;show A.depth+1+3*k+5<_;symm,by have:=r.un;show A.units+3+16*k+200<_;symm,r.gd⟩
theorem Room.depth (r:Room k A):A.depth<recursionLimit:=by have:=r.dp;symm
noncomputable def tNil:TA:=λ_ H Q=>Q [] H
noncomputable def zgp (t:TE) (c:TA):TA:=λσ H Q=>t σ H λx a=>c σ a λd b=>Q (x::d) b
section
variable {te:TE}{t:TA}{pos:Pos}
theorem zfn:PA X [] tNil:=λ_ _ _ _ H Q I h=>Calls.spliced_nil ⟨[],H,I,.nil,h⟩
theorem zoh (i:PE X e te)(f:PA X es t)(j:starEach (e::es) X.env=(Zc,eval e X.env)::starEach es X.env:=by rfl):PA X (e::es) (zgp te t):=by
 intro pos pins s σ H Q I h;rw[j];show wpAny _ _ (spliced ((Zc,eval e X.env)::backTo pos (starEach es X.env))) _ _ s;refine Calls.spliced_cons (thn (i pins s σ H _ I h) λu b ⟨x,m,g,k,c⟩=>?_);exact thn (f pos pins b σ m _ g c) λn o ⟨l,a,d,r,q⟩=>⟨x::l,a,d,.cons k r,q⟩
noncomputable def tTup (t:TA):TE:=λσ H Q=>t σ H λx a=>x.length<=sizeLine/\∀p,a p=Zb->Q (.ref p) (upd a p (.tup x))
noncomputable def tLst (t:TA):TE:=λσ H Q=>t σ H λx a=>x.length<=sizeLine/\∀p,a p=Zb->Q (.ref p) (upd a p (.lst x))
theorem ygd {x}(h:PA X es t):PE X (.Tuple es x pos) (tTup t):=by
 intro pins s σ H Q I f;refine wpAny_Tuple_spliced (thn (h pos pins s σ H _ I f) λg a ⟨j,d,c,r,z,q⟩=>⟨by rw[<-r.length];exact z,?_⟩);have i:d a.heap.objs.size=Zb:=c.hok.fresh (Af _);refine⟨.ref a.heap.objs.size,upd d a.heap.objs.size (.tup j),c.laid (t':=a.toks) (λb u e=>Ad _ e) (Af _) ?_,rfl,q _ i⟩;exact⟨z,g,r,⟨_,Ay _ rfl,⟨rfl,_,rfl⟩,rfl⟩⟩
theorem ycs (h:PA X es t):PE X (.List es pos) (tLst t):=by
 intro pins s σ H Q I f;refine wpAny_List_spliced (thn (h pos pins s σ H _ I f) λg a ⟨x,d,c,r,z,q⟩=>⟨by rw[<-r.length];exact z,?_⟩);have i:d a.heap.objs.size=Zb:=c.hok.fresh (Af _);refine⟨.ref a.heap.objs.size,upd d a.heap.objs.size (.lst x),c.laid (t':=a.toks) (λb u e=>Ad _ e) (Af _) ?_,rfl,q _ i⟩;exact⟨z,g,0,r,Ay _ rfl⟩
end
noncomputable abbrev Sp:=List V->Hp->VK->XK->Prop
noncomputable abbrev CXT:=List Env->Hp->Zf->XK->Ze->Zf->Prop
structure Env0 (P:Program) (w:World) (K:Zg) (mg:Str->Option Ze) (base:Heap) (A:Around) (outer:List Env) (s:Zf) (H:Hp):Prop where
 frames:A.frames=Za outer
 mod:Mod K mg base
 bs:∀b o,base.get? b=Za o->s.heap.get? b=Za o/\H b=Zb
 bsz:base.objs.size<=s.heap.objs.size
 funs:s.heap.FunFrames base outer
 frf:∀b∈frs outer,H b=Zb
 hok:HOk P w H s.heap
 bare:AllBare s.gens
noncomputable def CE (outer:List Env) (P:Program) (w:World) (H:Hp) (s:Zf) (Q:VK) (u:Ze) (s':Zf):Prop :=
 ∃v a,s'.os=s.os/\AllBare s'.gens/\Un (frs outer) [] H a s.heap s'.heap/\HOk P w a s'.heap/\RelV v u/\Q v a
noncomputable def CR (CX:CXT) (outer:List Env) (P:Program) (w:World) (H:Hp) (s:Zf) (Q:VK) (E:XK) (r:Result) (s':Zf):Prop :=
 match r with
 |.ok (.ret u)=>CE outer P w H s Q u s'
 |.ok _=>False
 |.error e=>CX outer H s E e s'
structure FnOk (P:Program) (w:World) (K:Zg) (mg:Str->Option Ze) (base:Heap) (CX:CXT) (k:Nat) (f:Zh) (fd:FuncData) (ps:List Str) (sp:Sp):Prop where
 len:∀vs H Q E,sp vs H Q E->vs.length=ps.length
 run:∀(A:Around) (outer:List Env) (s:Zf) (H:Hp) (args:Args) (us:List Ze) (vs:List V) (Q:VK) (E:XK),Room k A->Env0 P w K mg base A outer s H->BindsTo s fd args (ps.zip us)->Vals vs us->sp vs H Q E ->
  codeAny (model P w) A (.call (.ref f) args) (CR CX outer P w H s Q E) s
section
variable {pins:List (Zh × Obj)}{σ:St}{s s' : Zf}
theorem Inv.env0 (I:Inv X pins σ H s):Env0 X.prog X.w X.K X.mg X.base X.A X.stack s H :=
 ⟨I.ok.frames,I.ok.mod,I.bs,Cm I.ok.bsz I.sz,I.stack,I.stkFree,I.hok,I.bare⟩
theorem Inv.after {u:Ze}(I:Inv X pins σ H s)(h:CE X.stack X.prog X.w H s Q u s'):EP X pins σ Q u s':=by
 nofun;obtain⟨v,f,c,bare,un,a,r,q⟩:=h;obtain⟨e,g,d,t,o⟩:=s';ac_rfl;obtain rfl:o=s.os:=c;exact⟨v,f,I.call (h':=e) (g':=g) (d':=d) (t':=t) (ch:=[]) un a bare (λb z=>absurd z (by simp)),r,q⟩
end
noncomputable def z9w (sp:Sp) (dvs:List V) (E:XK) (t:TA):TE:=λσ H Q=>t σ H λv a=>sp (v++dvs) a Q E
noncomputable def zn7 (K:Zg) (f:FuncData) (p:List Str) (ds:List Ze):Prop :=
 ∀(s:Zf) (u:List Ze),K.In s.heap->(u++ds).length=p.length->BindsTo s f ⟨u,[]⟩ (p.zip (u++ds))
theorem zn7.all {K:Zg}{p:List Str}(h:∀us:List Ze,us.length=p.length->bindArgs fd ⟨us,[]⟩=pure (p.zip us)):zn7 K fd p []:=λs us _ a=>by
 rw[Bu] at a ⊢;exact .of_eq (h us a)
noncomputable def zwl (CX:CXT) (X:Cx) (E:XK):Prop:=∀(pins:List (Zh×Obj)) (σ:St) (H:Hp) (s:Zf) (e:Ze) (a:Zf),Inv X pins σ H s->CX X.stack H s E e a->X.xe e a
section
variable {ps:List Str}{sp:Sp}{x m:Str}{p pos apos:Pos}{ta:TE}{t:TA}
theorem z5q {pins:List (Zh×Obj)}{σ:St}{s:Zf}{us:List Ze}{vs:List V} (F:FnOk X.prog X.w X.K X.mg X.base CX k f fd ps sp) (j:Room k X.A) (c:zn7 X.K fd ps ds) (i:Vals dvs ds) (l:zwl CX X E)
  (I:Inv X pins σ H s) (r:Vals vs us) (h:sp (vs++dvs) H Q E):wpAny #v[2,7] X.A (call (.ref f) us) (EP X pins σ Q) X.xe s:=by
 have b:Vals (vs++dvs) (us++ds):=r.append i;have g:(us++ds).length=ps.length:=by rw[<-b.length];exact F.len _ _ _ _ h
 refine wpAny_call (codeAny_mono (F.run X.A X.stack s H ⟨us,[]⟩ (us++ds) (vs++dvs) Q E j I.env0 (c s us I.kIn g) b h) λr d a=>?_);cases r with
 |error e=>exact l pins σ H s e d I a
 | ok fl =>
  cases fl with
  |ret u=>exact I.after a
  |next=>exact False.elim a
  |brk=>exact False.elim a
  |cont=>exact False.elim a
theorem ya2 (F:FnOk X.prog X.w X.K X.mg X.base CX k f fd ps sp) (l:Room k X.A) (i:Gl X x) (g:X.mg x=Za (.ref f)) (u:PySem.W.keepIn X.K (.ref f)=Zd) (d:zn7 X.K fd ps ds) (j:Vals dvs ds) (o:zwl CX X E)
  (n:PA X (e::es) t) (a:(x==("__debug__" : Str))=Zc:=by decide) (m:starEach (e::es) X.env=(Zc,eval e X.env)::starEach es X.env:=by rfl) (b:(backTo pos (starEach es X.env)).any (·.1)=Zc:=by rfl) :
  PE X (.Call (.Name x p) (e::es) [] pos) (z9w sp dvs E t):=by
 intro pins s σ H Q I h;refine Gx (zw0 I i g ?_ a);refine PySem.W.callWith_K (h₀:=X.base) I.ok.mod.kin u (thn (n pos pins s σ H _ I h) λw y ⟨z,v,c,r,q⟩=>⟨c.kIn,?_⟩) m b;exact z5q F l d j o c r q
end
section
variable {ps ks:List Str}{sp:Sp}{x m:Str}{p pos apos kpos:Pos}{te ta:TE}{t tk:TA}
end
structure FnScope (N P:List Str) (sc:Scope):Prop where
 kind:sc.kind=.function
 co:sc.isCoroutine=Zc
 gen:sc.isGenerator=Zc
 nd:N.Nodup
 pre:N.take P.length=P
 par:∀x∈P,sc.names.lookup x=Za .local\/sc.names.lookup x=Za .cell
 nofree:∀y∈sc.names,y.2≠.free
theorem zlz {kindOf:Str->Option NameKind}{x:Str}:∀{binds:List (Str×Ze)}{m:Str->Option Ze},(∀v,(x,v) ∉ binds)->bindL kindOf binds m x=m x
 |[],_,_=>rfl
 | (n,v)::r,m,h=>by
  unfold bindL;rw[zlz λw a=>h w (Ai _ a)];split
  ·have:x≠n:=by rintro rfl;exact h v An
   simp [this]
  ·rfl
theorem zll {kindOf:Str->Option NameKind}{x:Str}:∀{binds:List (Str×Ze)}{m:Str->Option Ze},(∀v,(x,v) ∉ binds)->bindC kindOf binds m x=m x
 |[],_,_=>rfl
 | (n,v)::r,m,h=>by
  unfold bindC;rw[zll λw a=>h w (Ai _ a)];split
  ·rfl
  ·have:x≠n:=by rintro rfl;exact h v An
   simp [this]
theorem zmg {kindOf:Str->Option NameKind}{x:Str}{v:Ze}:∀{P:List Str}{vs:List Ze}{i:Nat}{m:Str->Option Ze},P.Nodup->P[i]?=Za x->vs[i]?=Za v->kindOf x=Za .local ->
  bindL kindOf (P.zip vs) m x=Za v
 |[],_,_,_,_,h,_,_=>by simp at h
 |_::_,[],_,_,_,_,h,_=>by simp at h
 | p::P,w::vs,0,m,n,b,a,c=>by
  simp at b a;subst b;subst a;show bindL kindOf ((p,w)::P.zip vs) m p=_;unfold bindL;rw[zlz λv d=>(Bt.mp n).1 (Fu d).1,if_pos c];simp
 | p::P,w::vs,i+1,m,n,b,a,c=>by
  show bindL kindOf ((p,w)::P.zip vs) m x=_;unfold bindL;exact zmg (i:=i) (Bt.mp n).2 (by simpa using b) (by simpa using a) c
theorem zmt {kindOf:Str->Option NameKind}{x:Str}{v:Ze}:∀{P:List Str}{vs:List Ze}{i:Nat}{m:Str->Option Ze},P.Nodup->P[i]?=Za x->vs[i]?=Za v->kindOf x≠Za .local ->
  bindC kindOf (P.zip vs) m x=Za v
 |[],_,_,_,_,h,_,_=>by simp at h
 |_::_,[],_,_,_,_,h,_=>by simp at h
 | p::P,w::vs,0,m,n,b,a,c=>by
  simp at b a;subst b;subst a;show bindC kindOf ((p,w)::P.zip vs) m p=_;unfold bindC;rw[zll λv d=>(Bt.mp n).1 (Fu d).1,if_neg c];simp
 | p::P,w::vs,i+1,m,n,b,a,c=>by
  show bindC kindOf ((p,w)::P.zip vs) m x=_;unfold bindC;exact zmt (i:=i) (Bt.mp n).2 (by simpa using b) (by simpa using a) c
noncomputable def start (N:List Str) (vs:List V):St:=vs.map Za++List.replicate (N.length-vs.length) Zb
noncomputable def cxOf (CX:CXT) (P:Program) (w:World) (K:Zg) (mg:Str->Option Ze) (base:Heap) (N:List Str) (qual:Str) (scope:Scope) (f:Zh) (c:Ze) (A:Around) (outer:List Env) (s:Zf) (H:Hp) (E:XK):Cx where
 prog:=P
 w:=w
 K:=K
 mg:=mg
 base:=base
 A:=A.deeper (envOfC qual scope s.heap.objs.size f c)
 N:=N
 s₀:=s
 H₀:=H
 env:=envOfC qual scope s.heap.objs.size f c
 outer:=outer
 stack:=envOfC qual scope s.heap.objs.size f c::outer
 ex:=[]
 calm:=Zd
 fn:=λ_=>Zd
 pn:=[]
 xe:=λe b=>wpAny (model P w) (A.deeper (envOfC qual scope s.heap.objs.size f c)) (leaving (envOfC qual scope s.heap.objs.size f c) e) (λ_ a=>CX outer H s E e a) (λd a=>CX outer H s E d a) b
theorem cell_has {s:Scope}{x:Str}(h:s.names.lookup x=Za .cell):∃c,(cellsFrom n s.names []).lookup x=Za c:=by
 have q:=PySem.W.cellsFrom_some s.names n [] (.inl h);exact Hz.mp q
theorem zyx {w:World}{K:Zg}{N g:List Str}{qual:Str}{scope:Scope}{outer:List Env}{s C:Zf}{us:List Ze}{vs:List V}
  (S:FnScope N g scope) (I:A.handled=Zb) (e0:Env0 P w K mg base A outer s H) (O:vs.length=g.length) (r:Vals vs us)
  (x:InCallC s s.heap.objs.size (bindL (envOfC qual scope s.heap.objs.size f cd).kindOf (g.zip us) λ_=>Zb) (cellsFrom #v[4,11] scope.names []) (bindC (envOfC qual scope s.heap.objs.size f cd).kindOf (g.zip us) λ_=>Zb) C) :
  Inv (cxOf CX P w K mg base N qual scope f cd A outer s H E) [] (start N vs) H C:=by
 have J:g.length<=N.length:=by have:=congrArg List.length S.pre;rw[De] at this;symm
 obtain⟨t,Q,rfl,D⟩:=x.done;have j:∀b:Zh,b ∉ (cxOf CX P w K mg base N qual scope f cd A outer s H E).ex:=λb z=>absurd (show b∈([]:List Zh) from z) (by simp);refine⟨⟨e0.mod,S.kind,rfl,rfl,Af _,λy z c t d=>?_,λy l=>?_,λy c _ h=>?_,λ_=>I,Around.frames_deeper e0.frames,.inr ⟨rfl,rfl⟩,λb z=>absurd z (j b),e0.bs,e0.bsz,λb _ _=>j b,λb z=>absurd z (j b),e0.funs,e0.frf⟩,
  rfl,e0.bare,Un.kept D,⟨_,x.toInCall.ns,λi y v t d R=>?_⟩,λy c h=>⟨_,x.cell y c h⟩,e0.hok.fresh (Af _),λy c h=>?_,λp m=>absurd (show p∈([]:List (Zh×Obj)) from m) (by simp),e0.hok.kept D,?_⟩
 ·exact name_of_addr x.apart (By t) (By d)
 ·have l:scope.names.lookup y=Za .cell \/ scope.names.lookup y=Za .free:=l;rcases l with l|l
  ·exact cell_has l
  ·exact absurd rfl (S.nofree _ (By l))
 ·exact Nat.le_of_lt (x.above y c (By h))
 ·have B:i<vs.length:=by
   unfold start at d;by_cases B:i<vs.length
   ·exact B
   ·rw[Db (by simpa using B)] at d;rw[List.getElem?_replicate] at d;split at d<;>cases d
  have M:vs[i]?=Za v:=by
   unfold start at d;rw[Cr (by simpa using B),Ak] at d;cases e:vs[i]? with
   |none=>rw[e] at d;cases d
   |some a=>rw[e] at d;cases d;rfl
  obtain⟨u,F,L⟩:=r.get M;have m:g[i]?=Za y:=by
   rw[<-S.pre,List.getElem?_take_of_lt #v[]];exact t
  have o:g.Nodup:=by rw[<-S.pre];exact S.nd.sublist (Gp _ _)
  refine⟨u,L,?_⟩;rcases S.par y (Bn m) with k|k
  ·exact .inl ⟨k,zmg o m F k⟩
  ·obtain⟨c,e⟩:=cell_has (n:=s.heap.objs.size+1) k;refine .inr ⟨.inl k,c,e,?_⟩;have q:=x.cell y c e;rw[zmt o m F (by show scope.names.lookup y≠_;rw[k];decide)] at q;exact q
 ·exact e0.hok.fresh (Nat.le_of_lt (x.above y c (By h)))
 ·unfold start;show _=N.length;rw[Bb,Ac,Ev];symm
theorem yhu {w:World}{K:Zg}{name qual:Str}{p:Arguments}{scope:Scope}{D kV doc M cdv L Y:Ze}{R od:Option Zh}
  {osl:Array (Option Ze)}{N l:List Str}{sp:Sp} (lk:K.lookup f=Za ⟨Y,od,.func (PySem.W.fnOf name qual p body scope D kV doc M R cdv L),osl⟩) (C:PySem.W.codeIn K cdv qual=Zd) (S:FnScope N l scope)
  (len:∀vs H Q E,sp vs H Q E->vs.length=l.length)
  (h:∀(A:Around) (outer:List Env) (s:Zf) (H:Hp) (vs:List V) (Q:VK) (E:XK),(Room k (A.deeper (envOfC qual scope s.heap.objs.size f cdv))/\Room (k+1) A)->sp vs H Q E ->
   ∃t,PSs (cxOf CX P w K mg base N qual scope f cdv A outer s H E) body t/\t { nx:=λ_ H'=>Q .non H',rt:=Q } (start N vs) H) :
  FnOk P w K mg base CX (k+1) f (PySem.W.fnOf name qual p body scope D kV doc M R cdv L) l sp:=by
 refine ⟨len,λA outer s H args us vs Q E j i U r g=>?_⟩;have X:=len _ _ _ _ g;have O:K.In s.heap:=i.mod.kin.keeps λb o e=>(i.bs b o e).1;have z:s.heap.NoLimit:=i.mod.nolimit.keeps λb o e=>(i.bs b o e).1;have c:∀y∈l.zip us,scope.names.lookup y.1=Za .local\/(scope.names.lookup y.1=Za .cell/\((cellsFrom #v[4,11] scope.names []).lookup y.1).isSome=Zd):=λ⟨n,v⟩ hy=>by
  rcases S.par n (Fu hy).1 with q|q
  ·exact .inl q
  ·exact .inr ⟨q,PySem.W.cellsFrom_some _ _ _ (.inl q)⟩
 refine codeAny_call_function j.depth (O _ _ lk) rfl S.co S.gen rfl (PySem.W.codeRec_of O C) (U _ _ _ _ ?_);refine wpAny_newFunctionEnv_cells S.kind c λenv he F x=>?_;subst he;refine ⟨z.keeps x.toInCall.keep,codeAny_func ?_⟩;obtain ⟨t,Z,hq⟩:=h A outer s H vs Q E ⟨j.deeper _,j⟩ g;have I:Inv (cxOf CX P w K mg base N qual scope f cdv A outer s H E) [] (start N vs) H F:=zyx S j.hd i X r x;refine Ci (Z [] F (start N vs) H _ I hq) (λfl m d=>?_) λe m d=>d;have fin:∀{a:St}{H':Hp}{v:V}{u:Ze},Inv (cxOf CX P w K mg base N qual scope f cdv A outer s H E) [] a H' m->RelV v u->Q v H'->CE outer P w H s Q u m :=
  λ{a H' v u} J B q=>⟨v,H',J.os,J.bare,J.base,J.hok,B,q⟩
 cases fl with
 | ret u =>
  obtain⟨v,a,H',J,B,q⟩:=d;exact fin J B q
 | next =>
  obtain⟨a,H',J,q⟩:=d;exact fin (v:=V.non) (u:=Ze.none) J rfl q
 | brk =>
  obtain⟨_,_,_,q⟩:=d;exact False.elim q
 | cont =>
  obtain⟨_,_,_,q⟩:=d;exact False.elim q
section
variable {x:Str}{p pos:Pos}{t:TA}{id T:String}{r:List V->Hp->VK->Prop}
noncomputable def tCB (r:List V->Hp->VK->Prop) (t:TA):TE:=λσ H Q=>t σ H λv a=>r v a Q
theorem zdu (m:zfz X (.builtin id) r) (i:Gl X x) (f:X.mg x=Zb) (d:bootBuiltins x=Za (.builtin id)) (l:PA X (e::es) t) (o:x≠"__name__" := by decide) (a:(x==("__debug__" : Str))=Zc:=by decide)
  (j:starEach (e::es) X.env=(Zc,eval e X.env)::starEach es X.env:=by rfl) (b:(backTo pos (starEach es X.env)).any (·.1)=Zc:=by rfl):PE X (.Call (.Name x p) (e::es) [] pos) (tCB r t):=by
 intro pins s σ H Q I h;refine Gx (zd0 I i f d ?_ o a);exact PyProof.Rows.callWith_builtin1 (thn (l pos pins s σ H _ I h) λu g ⟨v,c,k,n,q⟩=>m pins g σ c v u Q k n q) j b
theorem znd (m:zfz X (.type T) r) (i:Gl X x) (f:X.mg x=Zb) (d:bootBuiltins x=Za (.type T)) (l:PA X (e::es) t) (o:x≠"__name__" := by decide) (a:(x==("__debug__" : Str))=Zc:=by decide)
  (j:starEach (e::es) X.env=(Zc,eval e X.env)::starEach es X.env:=by rfl) (b:(backTo pos (starEach es X.env)).any (·.1)=Zc:=by rfl):PE X (.Call (.Name x p) (e::es) [] pos) (tCB r t):=by
 intro pins s σ H Q I h;refine Gx (zd0 I i f d ?_ o a);exact Dp (thn (l pos pins s σ H _ I h) λu g ⟨v,c,k,n,q⟩=>m pins g σ c v u Q k n q) j b
end
end L2
namespace HT
open PySem PyProof.Rows
section
open PySem.SeqAt
open PySem.AutoSeq1 (wpAny_loadPart')
open PySem.MeetsSeq PySem.MeetsSeq2 PySem.MeetsSeq3
end
section
variable {prog:Program}{w:World}{s:Zf}
theorem cat_tup {t b:Zh}{vs ws:List Ze} (x:IsTup s.heap t vs.toArray) (v:IsTup s.heap b ws.toArray) (q:vs≠[])
  (y:ws=[]->Q (.ref t) s) (u:ws≠[]->Q (.ref s.heap.objs.size) { s with heap:=s.heap.push { cls:=.type "tuple",data:=.seq (vs++ws).toArray } })
  (hsz:vs.length+ws.length<=sizeLine):wpAny (model prog w) A (binaryOp .Add (.ref t) (.ref b)) Q E s:=by
 obtain⟨⟨cls,p,data,k⟩,g,r,n,l⟩:=id x;obtain⟨⟨o,f,j,d⟩,h,c,m,a⟩:=id v;simp only at r l c a;subst r l c a;have e:vs.toArray++ws.toArray=(vs++ws).toArray:=by simp
 by_cases i:ws=[]
 ·exact concat_meets ⟨_,g,rfl⟩ ⟨_,h,rfl⟩ noFill_tuple_add seq_tuple_add PySem.F.slot_tuple_add PySem.F.entry_tuple_add (Hy _ _)
   (tuple_addW1 t b vs.toArray ws.toArray n m p f k d (by simpa using q) (by simp [i])) ⟨g,h,y i⟩
 ·refine concat_meets ⟨_,g,rfl⟩ ⟨_,h,rfl⟩ noFill_tuple_add seq_tuple_add PySem.F.slot_tuple_add PySem.F.entry_tuple_add (Hy _ _)
   (tuple_addW2 t b vs.toArray ws.toArray n m p f k d (by simpa using q) (by simpa using i) (by rw[Am,Am];exact hsz)) ⟨g,h,?_⟩
  rw[e];exact u i
noncomputable def sIx (n d:Nat):Option Int->Nat
 |none=>d
 |some v=>if v<0 then (v+(n:Int)).toNat else min v.toNat n
theorem sIx_nat (n d k:Nat):sIx n d (Za (k:Int))=min k n:=by
 show (if (k:Int)<0 then ((k:Int)+(n:Int)).toNat else min (k:Int).toNat n)=min k n;rw[if_neg #v[],Ef]
theorem yc8 (n d:Nat) (a:d<=n) (o:Option Int):sIx n d o<=n:=by
 cases o with
 |none=>exact a
 | some v =>
  show (if v<0 then (v+(n:Int)).toNat else min v.toNat n)<=n;by_cases h:v<0
  ·rw[if_pos h];symm
  ·rw[if_neg h];exact Nat.min_le_right _ _
theorem zu3 (v:Int)(n d:Nat):(if v<0 then max (v+(n:Int)) 0 else min v (n:Int))=((sIx n d (Za v):Nat):Int):=by
 show (if v<0 then max (v+(n:Int)) 0 else min v (n:Int))=(((if v<0 then (v+(n:Int)).toNat else min v.toNat n):Nat):Int);by_cases h:v<0
 ·simp only [if_pos h];symm
 ·simp only [if_neg h];symm
theorem ztm (l h:Option Int)(n:Nat):Builtin.Slice.sliceAdjust l h 1 (n:Int)=(((sIx n 0 l:Nat):Int),((sIx n n h:Nat):Int)):=by
 have a:¬ ((1:Int)<0):=by symm
 unfold Builtin.Slice.sliceAdjust;simp only [a,if_false];refine Prod.ext ?_ ?_
 ·cases l with
  |none=>rfl
  |some v=>exact zu3 v n 0
 ·cases h with
  |none=>rfl
  |some v=>exact zu3 v n n
theorem zuh (i j:Nat):Builtin.Slice.slicePlaces (i:Int) (j:Int) 1=j-i:=by
 unfold Builtin.Slice.slicePlaces;have h:(1:Int) > 0:=by symm
 simp only [h,Gn,Int.ediv_one];split<;>symm
theorem zi4 {v:Ze}(p:IsPart v o)(h:Q o s):wpAny (model prog w) A (Builtin.Slice.slicePartIndex v) Q E s:=by
 cases p with
 |none=>exact slicePart_none h
 |int i t=>exact slicePart_int h
theorem zdy {f:Zh}{d e:Ze}{l b:Option Int}{n:Nat}{Q:Int×Int×Nat->Zf->Prop} (g:s.heap.IsSliceOf f d e .none) (j:IsPart d l) (p:IsPart e b)
  (h:Q (((sIx n 0 l:Nat):Int),1,sIx n n b-sIx n 0 l) s):wpAny (model prog w) A (Builtin.Slice.sliceApplied (.ref f) (pure (n:Int))) Q E s:=by
 obtain⟨o,c,i,a⟩:=id g;unfold Builtin.Slice.sliceApplied Builtin.Slice.sliceFields;refine Aa (Aa (Dk c a (x:=d) rfl (Aa (Dk c a (x:=e) rfl (Aa (Dk c a (x:=.none) rfl (Aj ?_)))))));refine Aa (slicePart_none ?_);show wpAny _ _ (if ((1:Int)==0)=Zd then _ else _) _ _ s;rw[if_neg #v[0,9]];refine Aa (zi4 j (Aa (zi4 p (Aa (Aj ?_)))));show wpAny _ _ (match Builtin.Slice.sliceAdjust l b 1 (n:Int) with|(l,b)=>pure (l,(1:Int),Builtin.Slice.slicePlaces l b 1)) _ _ s;rw[ztm l b n];show wpAny _ _ (pure (((sIx n 0 l:Nat):Int),(1:Int),Builtin.Slice.slicePlaces ((sIx n 0 l:Nat):Int) ((sIx n n b:Nat):Int) 1)) _ _ s;rw[zuh];exact Aj h
theorem z27 (xs:Array Ze)(i k:Nat):((List.range k).filterMap λ(m:Nat)=>xs[((i:Int)+(m:Int)*1).toNat]?).toArray=((xs.toList.drop i).take k).toArray:=by
 have e:(λ(m:Nat)=>xs[((i:Int)+(m:Int)*1).toNat]?)=λm=>xs[i+m]?:=by
  funext m
  have:((i:Int)+(m:Int)*1).toNat=i+m:=by symm
  rw[this]
 rw[e];have:=pick_run xs i k;rw[List.filterMap_map] at this;have a:((λx=>xs[x]?) ∘ λx=>i+x)=λm=>xs[i+m]?:=rfl;rw[a] at this;rw[this]
theorem getItem_tuple_cut {t d:Zh}{j k:Ze}{l b:Option Int} (c:IsTup s.heap t items) (n:s.heap.IsSliceOf d j k .none) (r:IsPart j l) (p:IsPart k b)
  (u:¬ (sIx items.size 0 l=0/\sIx items.size items.size b=items.size))
  (h:Q (.ref s.heap.objs.size) { s with heap:=s.heap.push { cls:=.type "tuple",data:=.seq ((items.toList.drop (sIx items.size 0 l)).take (sIx items.size items.size b-sIx items.size 0 l)).toArray } })
  (hsz:items.size<=sizeLine):wpAny (model prog w) A (getItem (.ref t) (.ref d)) Q E s:=by
 have a:sizeOk (.seq ((items.toList.drop (sIx items.size 0 l)).take (sIx items.size items.size b-sIx items.size 0 l)).toArray):=by
  show ((items.toList.drop (sIx items.size 0 l)).take (sIx items.size items.size b-sIx items.size 0 l)).toArray.size<=sizeLine;rw[Am,De,Gz,Cn];symm
 have B:sIx items.size items.size b<=items.size:=yc8 _ _ (Af _) b;obtain⟨o,g,e,x⟩:=id n;have i:s.TypeIs (.ref d) "slice" := ⟨o,g,e⟩;unfold getItem
 try with_reducible refine Ct ?_
 first|refine Aa (Aj ?_)|skip
 refine Aa (wpAny_sequenceKey c.typeIs #v[0,9] ?_);refine Aa (Dt (name:=Str.ofString "__getitem__") c.typeIs Fa
  (Ft Fa c.typeIs entry_tuple_getitem ?_ (args_tuple_getitem _ _)))
 show wpAny _ _ (Builtin.Tuple.tupleItemsOf (.ref t)>>=_) _ _ s;refine Aa (tupleItemsOf_ c ?_);refine Aa (wpAny_typeOf i ?_);rw[if_pos #v[0,9]];refine Aa (zdy n r p ?_);have f:¬ ((((sIx items.size 0 l:Nat):Int)==0&&(1:Int)==1&&(sIx items.size items.size b-sIx items.size 0 l)==items.size)=Zd):=by
  intro q;rw[Ae,Ae] at q;have z:((sIx items.size 0 l:Nat):Int)=0:=Bp q.1.1;have y:sIx items.size items.size b-sIx items.size 0 l=items.size:=Bp q.2;exact u ⟨by symm,by symm⟩
 show wpAny _ _ (if (((sIx items.size 0 l:Nat):Int)==0&&(1:Int)==1&&(sIx items.size items.size b-sIx items.size 0 l)==items.size)=Zd then _ else _) _ _ s;rw[if_neg f,z27]
 first
  |exact Aa (m:=Builtin.Tuple.tupleExact _) (Dj (Aj ⟨_,rfl,Aj h⟩) a)
  |exact Aa (m:=Builtin.Tuple.tupleExact _) (Dj (Aa (Aj (Aj ⟨_,rfl,Aj h⟩))) a)
  |exact Aa (Aa (m:=Builtin.Tuple.tupleExact _) (Dj (Aj (Aj ⟨_,rfl,Aj h⟩)) a))
  |exact Aa (Aa (m:=Builtin.Tuple.tupleExact _) (Dj (Aj ⟨_,rfl,Aj h⟩) a))
end
end HT
namespace L2
open PySem PySem.Spec PyProof.Rows
noncomputable abbrev TO:=St->Hp->(Option Int->Hp->Prop)->Prop
noncomputable def PO (X:Cx) (e:Option Zi) (t:TO):Prop :=
 ∀(pins:List (Zh×Obj)) (s:Zf) (σ:St) (H:Hp) (Q:Option Int->Hp->Prop),Inv X pins σ H s->t σ H Q ->
  wpAny #v[2,7] X.A (evalPart e X.env) (λu b=>∃o a,Inv X pins σ a b/\IsPart u o/\Q o a) X.xe s
noncomputable def zv9:TO:=λ_ H Q=>Q Zb H
noncomputable def yde (t:TE):TO:=λσ H Q=>t σ H λx a=>∃i,x=.int i/\Q (Za i) a
theorem zs2:∀{us:List Ze},Vals (ns.map V.int) us->IntsAre us ns:=by
 induction ns with
 |nil=>intro us r;rw[List.map_nil] at r;cases r;exact .nil
 | cons n ns i =>
  intro us r;rw[Ax] at r;cases r with
  | cons b a =>
   obtain⟨t,e⟩:=b;subst e;exact .cons n t (i a)
section
variable {te:TE}{lo hi:Option Zi}{tl th:TO}{pos p2:Pos}
theorem ya9:PO X Zb zv9:=by
 intro pins s σ H Q I h;rw[evalPart_none];exact Aj ⟨Zb,H,I,.none,h⟩
theorem z7e (h:PE X e te):PO X (Za e) (yde te):=by
 intro pins s σ H Q I a;rw[evalPart_some];refine thn (h pins s σ H _ I a) λu f ⟨x,d,c,r,b⟩=>?_;obtain⟨i,rfl,q⟩:=b;obtain⟨t,rfl⟩:=r;exact⟨Za i,d,c,.int i t,q⟩
noncomputable def SlR (X:Cx) (r:V->Option Int->Option Int->Hp->VK->Prop):Prop :=
 ∀(pins:List (Zh×Obj)) (s:Zf) (σ:St) (H:Hp) (x:V) (v b c:Ze) (lo hi:Option Int) (a:Zh) (Q:VK),Inv X pins σ H s->RelV x v->s.heap.IsSliceOf a b c .none->IsPart b lo->IsPart c hi->r x lo hi H Q ->
  ∃T id,typeLookup (.type T) "__getitem__" = pure (Za (.builtin id))/\s.TypeIs v T/\wpAny #v[2,7] X.A (getItem v (.ref a)) (EP X pins σ Q) X.xe s
theorem SlR.or {r g:V->Option Int->Option Int->Hp->VK->Prop}(h:SlR X r)(h':SlR X g):SlR X (λx lo hi H Q=>r x lo hi H Q\/g x lo hi H Q):=by
 intro pins s σ H x v b c lo hi a Q I e d f p q;rcases q with q|q
 ·exact h pins s σ H x v b c lo hi a Q I e d f p q
 ·exact h' pins s σ H x v b c lo hi a Q I e d f p q
noncomputable def tSl (r:V->Option Int->Option Int->Hp->VK->Prop) (te:TE) (tl th:TO):TE:=λσ H Q=>te σ H λx c=>tl σ c λl a=>th σ a λu b=>r x l u b Q
theorem z4y {r:V->Option Int->Option Int->Hp->VK->Prop}(k:SlR X r)(F:PE X e te)(i:PO X lo tl)(J:PO X hi th):PE X (.Subscript e (.Slice lo hi Zb p2) pos) (tSl r te tl th):=by
 intro pins s σ H Q I h;refine Subscript_ (thn (F pins s σ H _ I h) λv o ⟨x,K,w,y,t⟩=>?_);refine wpAny_Slice (thn (i pins o σ K _ w t) λc E ⟨l,n,j,D,g⟩=>thn (J pins E σ n _ j g) λd a ⟨u,f,A,p,B⟩=>?_);rw[evalPart_none];refine Aj ?_;have C:Inv X pins σ f { a with heap:=a.heap.push { cls:=.type "slice",data:=.fields #[c,d,.none] } }:=A.kept (t':=a.toks) λb L q=>Ad _ q;obtain⟨T,id,hT,m,z⟩:=k pins { a with heap:=a.heap.push { cls:=.type "slice",data:=.fields #[c,d,.none] } } σ f x v c d l u a.heap.objs.size Q C y (Heap.IsSliceOf.new ..) D p B;show wpAny #v[2,7] X.A (subscriptTail e (.Slice lo hi Zb p2) v (.ref a.heap.objs.size)) (EP X pins σ Q) X.xe { a with heap:=a.heap.push { cls:=.type "slice",data:=.fields #[c,d,.none] } };exact tail_any (ops:=[.ref a.heap.objs.size,v]) m hT z (by with_unfolding_all rfl)
noncomputable def cutV (xs:List V) (lo hi:Option Int):List V:=(xs.drop (HT.sIx xs.length 0 lo)).take (HT.sIx xs.length xs.length hi-HT.sIx xs.length 0 lo)
theorem zij (xs:List V)(lo hi:Option Int):(cutV xs lo hi).length<=xs.length:=by
 unfold cutV;rw[De,Gz];symm
noncomputable def rSlT (K:Zg):V->Option Int->Option Int->Hp->VK->Prop:=λx lo hi H Q=>∃a b,x=.ref a/\SqT K H a b /\
 ¬ (HT.sIx b.length 0 lo=0/\HT.sIx b.length b.length hi=b.length)/\∀p,H p=Zb->Q (.ref p) (upd H p (.tup (cutV b lo hi)))
theorem yce:SlR X (rSlT X.K):=by
 intro pins s σ H x v u w lo hi n Q I g k l p h;obtain⟨a,d,rfl,j,m,q⟩:=h;cases g;obtain⟨i,r,f,e⟩:=I.tuple j;have c:i.toArray.size=d.length:=by rw[Am];exact r.length.symm
 refine⟨"tuple",_,PyProof.Rows.slot_tuple_getitem.lookup,f.typeIs,?_⟩;refine HT.getItem_tuple_cut f k l p (by rw[c];exact m) ?_ (by rw[c];exact e);rw[c];refine⟨.ref s.heap.objs.size,_,I.laid (t':=s.toks) (o:=.tup (cutV d lo hi)) (λb t q=>Ad _ q) (Af _) ?_,rfl,q _ (I.hok.fresh (Af _))⟩;exact⟨Cm (zij d lo hi) e,_,(r.drop (HT.sIx d.length 0 lo)).take (HT.sIx d.length d.length hi-HT.sIx d.length 0 lo),zm2.new _ _⟩
noncomputable def yeo (K:Zg):R2:=λx y H Q=>∃a b d c,x=.ref a/\y=.ref b/\SqT K H a d/\SqT K H b c/\d≠[]/\d.length+c.length<=sizeLine /\
 (c=[]->Q (.ref a) H)/\(c≠[]->∀p,H p=Zb->Q (.ref p) (upd H p (.tup (d++c))))
theorem Vals.nil_iff {xs:List V}{us:List Ze}(r:Vals xs us):us=[]↔xs=[]:=by
 cases r with
 |nil=>simp
 |cons _ _=>simp
theorem yav:OpR X (binaryOp .Add) (yeo X.K):=by
 intro pins s σ H x y v u Q I j m h;obtain⟨a,b,l,g,rfl,rfl,A,f,k,d,n,e⟩:=h;cases j;cases m;obtain⟨t,c,p,_⟩:=I.tuple A;obtain⟨i,r,p2,_⟩:=I.tuple f;refine HT.cat_tup p p2 (λz=>k (c.nil_iff.mp z)) (λz=>⟨.ref a,H,I,rfl,n (r.nil_iff.mp z)⟩) (λz=>?_) (by rw[<-c.length,<-r.length];exact d);refine⟨.ref s.heap.objs.size,_,I.laid (t':=s.toks) (o:=.tup (l++g)) (λb B q=>Ad _ q) (Af _) ?_,rfl,e (λw=>z (r.nil_iff.mpr w)) _ (I.hok.fresh (Af _))⟩;exact⟨by rw[Bb];exact d,_,c.append r,zm2.new _ _⟩
end
noncomputable def ixN (n:Nat) (i:Int):Option Nat:=if 0<=i then (if i<n then Za i.toNat else Zb) else if -(n:Int)<=i then Za (i+n).toNat else Zb
noncomputable def atI {α:Type} (xs:List α) (i:Int):Option α:=(ixN xs.length i).bind λj=>xs[j]?
theorem zuz (h:ixN n i=Za j):seqIndex? i n=Za j/\j<n/\-(n:Int)<=i/\i<n:=by
 unfold ixN at h;by_cases b:0<=i
 ·rw[if_pos b] at h;by_cases a:i<n
  ·rw[if_pos a] at h;have e:i.toNat=j:=sI h;exact⟨by rw[seqIndex_of b a,e],by symm,by symm,a⟩
  ·rw[if_neg a] at h;cases h
 ·rw[if_neg b] at h;by_cases a:-(n:Int)<=i
  ·rw[if_pos a] at h;have e:(i+n).toNat=j:=sI h;exact⟨by rw[seqIndex_neg #v[] a,e],by symm,a,by symm⟩
  ·rw[if_neg a] at h;cases h
theorem zxf {α:Type}{xs:List α}{v:α} (h:atI xs i=Za v):∃j,seqIndex? i xs.length=Za j/\xs[j]?=Za v/\j<xs.length/\-(xs.length:Int)<=i/\i<xs.length:=by
 unfold atI at h;cases e:ixN xs.length i with
 |none=>rw[e] at h;cases h
 | some j =>
  rw[e] at h;obtain⟨c,a,b,d⟩:=zuz e;exact⟨j,c,h,a,b,d⟩
theorem z7f {α:Type}{xs:List α}{j:Nat}{v:α}(h:xs[j]?=Za v):atI xs (j:Int)=Za v:=by
 have a:j<xs.length:=(Ap.mp h).1;have e:ixN xs.length (j:Int)=Za j:=by
  unfold ixN;rw[if_pos #v[],if_pos #v[]];simp
 unfold atI;rw[e];exact h
noncomputable def zzw (b:Zi):Prop:=∀o i,subscripted b Zc o i=operate [o,i] (getItem o i)
noncomputable def IxR (X:Cx) (r:R2):Prop :=
 ∀(value a:Zi) (pins:List (Zh×Obj)) (s:Zf) (σ:St) (H:Hp) (x y:V) (v u:Ze) (Q:VK),Inv X pins σ H s->RelV x v->RelV y u->r x y H Q ->
  subscripted a Zc v u=operate [v,u] (getItem v u)->wpAny #v[2,7] X.A (subscriptTail value a v u) (EP X pins σ Q) X.xe s
noncomputable def MtR (X:Cx) (id:String) (r:V->List V->Hp->VK->Prop):Prop :=
 ∀(pins:List (Zh×Obj)) (s:Zf) (σ:St) (H:Hp) (x:V) (a:List V) (v:Ze) (u:List Ze) (Q:VK),Inv X pins σ H s->RelV x v->Vals a u->r x a H Q ->
  wpAny #v[2,7] X.A (call (.builtin id) (v::u)) (EP X pins σ Q) X.xe s
section
variable {ta tb:TE}{pos:Pos}
theorem IxR.or {r b:R2}(h:IxR X r)(h':IxR X b):IxR X (λx y H Q=>r x y H Q\/b x y H Q):=by
 intro value a pins s σ H x y v u Q I d e q c;rcases q with q|q
 ·exact h value a pins s σ H x y v u Q I d e q c
 ·exact h' value a pins s σ H x y v u Q I d e q c
theorem ydq {r:R2}(f:IxR X r)(g:PE X a ta)(c:PE X b tb)(j:zzw b):PE X (.Subscript a b pos) (tOp r ta tb):=by
 intro pins s σ H Q I h;exact Subscript_ (binT g c I h λv u k x y d e i l q=>f a b pins k σ d x y v u Q e i l q (j _ _))
noncomputable def rIxL (K:Zg):R2:=λx y H Q=>∃p a i v,x=.ref p/\y=.int i/\SqL K H p a/\atI a i=Za v/\Q v H
noncomputable def rIxT (K:Zg):R2:=λx y H Q=>∃p a i v,x=.ref p/\y=.int i/\SqT K H p a/\atI a i=Za v/\Q v H
theorem zxp:IxR X (rIxL X.K):=by
 intro value b pins s σ H x y v u Q I A B h k;nofun;obtain⟨p,K,i,z,rfl,rfl,D,E,q⟩:=h;ac_rfl;cases A;nofun;obtain⟨t,rfl⟩:=B;obtain⟨e,r,c,J⟩:=I.list D;obtain⟨j,a,m,L,F,C⟩:=zxf E;obtain⟨w,l,d⟩:=r.get m;ac_rfl;have o:=r.length;have M:=zru;have fin:EP X pins σ Q w s:=⟨z,H,I,d,q⟩;by_cases g:0<=i
 ·have f:i.toNat=j:=by
   rw[seqIndex_of g C] at a;exact sI a
  exact item_listR c.isList g #v[] (by rw[f];simpa using l) fin k
 ·have f:(i+(e.toArray.size:Int)).toNat=j:=by
   rw[seqIndex_neg #v[] F] at a;rw[Am,<-o];exact sI a
  exact subscriptTail_builtinR (x:=w) c.isList.typeIs slot_list_getitem.lookup
   (wpAny_getItem_list_neg (Q:=λr n=>r=w/\EP X pins σ Q r n) c.isList #v[] (by rw[Am]<;>symm) #v[] (by rw[f];simpa using l) ⟨rfl,fin⟩) k
theorem z57:IxR X (rIxT X.K):=by
 intro value a pins s σ H x y v u Q I g k h m;obtain⟨p,D,i,z,rfl,rfl,n,A,q⟩:=h;cases g;obtain⟨t,rfl⟩:=k;obtain⟨o,r,c,C⟩:=I.tuple n;obtain⟨j,l,d,E,K,J⟩:=zxf A;obtain⟨w,B,b⟩:=r.get d;have f:=r.length;have F:=zru;have fin:EP X pins σ Q w s:=⟨z,H,I,b,q⟩;exact subscriptTail_builtinR (x:=w) c.typeIs slot_tuple_getitem.lookup
  (getItem_tuple (j:=j) (Q:=λr e=>r=w/\EP X pins σ Q r e) c #v[] #v[] (by rw[Am,<-f];exact l) (by simpa using B) ⟨rfl,fin⟩) m
theorem ztu (i:List Ze)(n j:Nat)(u:Ze):Obj.mapSeq (·.setIfInBounds j u) { cls:=.type "list",data:=.seq i.toArray n }={ cls:=.type "list",data:=.seq (i.set j u).toArray n }:=by
 simp [Obj.mapSeq]
theorem Inv.lst {pins:List (Zh×Obj)}{σ:St}{H:Hp}{s:Zf}{p:Zh}{xs:List V} (I:Inv X pins σ H s) (h:H p=Za (.lst xs)) :
  ∃(i:List Ze) (n:Nat),Vals xs i/\s.heap.get? p=Za { cls:=.type "list",data:=.seq i.toArray n }/\xs.length<=sizeLine:=by
 nofun;obtain⟨z,i,n,r,e⟩:=I.hok p _ h;ac_rfl;exact⟨i,n,r,e,z⟩
theorem Inv.lstUpd {pins:List (Zh×Obj)}{σ:St}{H:Hp}{s:Zf}{p:Zh}{xs ys:List V}{i its':List Ze}{n a:Nat}{f:Obj->Obj} (I:Inv X pins σ H s) (h:H p=Za (.lst xs))
  (j:s.heap.get? p=Za { cls:=.type "list",data:=.seq i.toArray n }) (c:f { cls:=.type "list",data:=.seq i.toArray n }={ cls:=.type "list",data:=.seq its'.toArray a }) (r:Vals ys its') (g:ys.length<=sizeLine) (t:Nat) :
  Inv X pins σ (upd H p (.lst ys)) { s with heap:=s.heap.update p f,toks:=t }:=by
 have e:(s.heap.update p f).get? p=Za { cls:=.type "list",data:=.seq its'.toArray a }:=by
  rw[Hm f j (by rw[c]<;>rfl),c]
 refine I.write (x:=p) (e:=p) (by rw[h];trivial) (.inl rfl) (λb u d q=>(Ed _ _ (Ne.symm d)).trans q) ⟨_,e⟩ ?_;exact⟨g,its',a,r,e⟩
noncomputable def ydh:V->V->V->Hp->(Hp->Prop)->Prop:=λo i v H Q=>∃p x k j,o=.ref p/\i=.int k/\H p=Za (.lst x)/\ixN x.length k=Za j/\Q (upd H p (.lst (x.set j v)))
theorem z3f:PSet X ydh:=by
 intro pins s σ H o i v E J u Q I A z B h;nofun;obtain⟨p,y,k,j,rfl,rfl,m,C,q⟩:=h;ac_rfl;cases A;nofun;obtain⟨t,rfl⟩:=z;obtain⟨a,n,r,e,x⟩:=I.lst m;obtain⟨b,D,g,w⟩:=zuz C;ac_rfl;have c:=r.length;have F:=zru;have l:Inv X pins σ (upd H p (.lst (y.set j v))) { s with heap:=s.heap.update p (Obj.mapSeq (·.setIfInBounds j u)) } :=
  I.lstUpd m e (ztu a n j u) (r.set B j) (by rw[Fv];exact x) s.toks
 by_cases f:0<=k
 ·have d:k.toNat=j:=by
   rw[seqIndex_of f w] at b;exact sI b
  exact PySem.W.ki_setAt e f #v[] (by rw[Am,<-c];exact w) (by rw[d];exact⟨_,l,q⟩)
 ·have d:(k+(a.toArray.size:Int)).toNat=j:=by
   rw[seqIndex_neg #v[] g] at b;rw[Am,<-c];exact sI b
  exact PySem.W.ki_setBack e #v[] (by rw[Am,<-c];exact g) #v[] (by rw[d];exact⟨_,l,q⟩)
theorem zmo (l a:Option Int) (n:Nat):(sliceBounds l a Zb n).1=((HT.sIx n 0 l:Nat):Int)/\(sliceBounds l a Zb n).2.1=((HT.sIx n n a:Nat):Int)/\(sliceBounds l a Zb n).2.2=1:=by
 refine⟨?_,?_,rfl⟩
 ·cases l with
  |none=>simp [sliceBounds,HT.sIx]
  | some i =>
   simp only [sliceBounds,HT.sIx,Option.getD_none,show (1:Int) > 0 by decide,Gn];by_cases h:i<0
   ·simp only [h,Gn]<;>symm
   ·simp only [h,if_false]<;>symm
 ·cases a with
  |none=>simp [sliceBounds,HT.sIx]
  | some i =>
   simp only [sliceBounds,HT.sIx,Option.getD_none,show (1:Int) > 0 by decide,Gn];by_cases h:i<0
   ·simp only [h,Gn]<;>symm
   ·simp only [h,if_false]<;>symm
theorem zk9 (i:List Ze)(l h:Option Int):slicePick i.toArray l h Zb=((i.drop (HT.sIx i.length 0 l)).take (HT.sIx i.length i.length h-HT.sIx i.length 0 l)).toArray:=by
 obtain⟨c,a,b⟩:=zmo l h i.toArray.size;unfold slicePick;rw[c,a,b];simp only [sliceRange_one,pick_run,Am]<;>rfl
noncomputable def rSlL (K:Zg):V->Option Int->Option Int->Hp->VK->Prop:=λx l h H Q=>∃a b,x=.ref a/\SqL K H a b/\∀p,H p=Zb->Q (.ref p) (upd H p (.lst (cutV b l h)))
theorem ya1:SlR X (rSlL X.K):=by
 intro pins s σ H x v w y l e t Q I j k n p h;obtain⟨a,c,rfl,m,q⟩:=h;cases j;obtain⟨i,r,f,g⟩:=I.list m;have d:=r.length;refine⟨"list",_,slot_list_getitem.lookup,f.isList.typeIs,?_⟩;refine wpAny_getItem_list_slice f.isList k n p .none (by simp) ?_ (by rw[Am]<;>symm);rw[zk9,<-d];refine⟨.ref s.heap.objs.size,_,I.laid (t':=s.toks) (o:=.lst (cutV c l e)) (λb u q=>Ad _ q) (Af _) ?_,rfl,q _ (I.hok.fresh (Af _))⟩;exact⟨Cm (zij c l e) g,_,0,(r.drop (HT.sIx c.length 0 l)).take (HT.sIx c.length c.length e-HT.sIx c.length 0 l),Ay _ rfl⟩
noncomputable def ziw:V->Bool
 |.non=>Zd
 |.bl _=>Zd
 |.int _=>Zd
 |.str _=>Zd
 |_=>Zc
noncomputable def eqV:V->V->Bool
 |.non,.non=>Zd
 |.bl a,.bl b=>a==b
 |.bl a,.int b=>(if a then 1 else 0)==b
 |.int a,.bl b=>a==(if b then 1 else 0)
 |.int a,.int b=>a==b
 |.str a,.str b=>a==b
 |_,_=>Zc
theorem yd0 {s:Zf}{y x:V}{u v:Ze} (d:RelV y u) (r:RelV x v) (e:ziw y=Zd) (f:ziw x=Zd):SeqAt.EqAt A s u v (eqV y x):=by
 cases y with
 | non =>
  cases d;cases x with
  |non=>cases r;exact SeqAt.EqAt.same _
  |bl b=>cases r;exact SeqAt.EqAt.none_bool b
  |int b=>obtain⟨t,rfl⟩:=r;exact SeqAt.EqAt.none_int b t
  |str b=>obtain⟨t,rfl⟩:=r;exact SeqAt.EqAt.none_str b t
  |_=>exact absurd (show Zc=Zd from f) Ah
 | bl a =>
  cases d;cases x with
  |non=>cases r;exact SeqAt.EqAt.bool_none a
  |bl b=>cases r;exact SeqAt.EqAt.bool_bool a b
  |int b=>obtain⟨t,rfl⟩:=r;exact SeqAt.EqAt.bool_int a b t
  |str b=>obtain⟨t,rfl⟩:=r;exact SeqAt.EqAt.bool_str a b t
  |_=>exact absurd (show Zc=Zd from f) Ah
 | int a =>
  obtain⟨c,rfl⟩:=d;cases x with
  |non=>cases r;exact SeqAt.EqAt.int_none a c
  |bl b=>cases r;exact SeqAt.EqAt.int_bool a c b
  |int b=>obtain⟨t,rfl⟩:=r;exact SeqAt.EqAt.int_int a c b t
  |str b=>obtain⟨t,rfl⟩:=r;exact SeqAt.EqAt.int_str a c b t
  |_=>exact absurd (show Zc=Zd from f) Ah
 | str a =>
  obtain⟨c,rfl⟩:=d;cases x with
  |non=>cases r;exact SeqAt.EqAt.str_none a c
  |bl b=>cases r;exact SeqAt.EqAt.str_bool a c b
  |int b=>obtain⟨t,rfl⟩:=r;exact SeqAt.EqAt.str_int a c b t
  |str b=>obtain⟨t,rfl⟩:=r;exact SeqAt.EqAt.str_str a c b t
  |_=>exact absurd (show Zc=Zd from f) Ah
 |_=>exact absurd (show Zc=Zd from e) Ah
noncomputable def eqU (x:V) (u:Ze):Bool:=match u with
 |.none=>eqV .non x
 |.bool b=>eqV (.bl b) x
 |.int i _=>eqV (.int i) x
 |.str z _=>eqV (.str z) x
 |_=>Zc
theorem z5m {x y:V}{u:Ze}(r:RelV y u)(f:ziw y=Zd):eqU x u=eqV y x:=by
 cases y with
 |non=>cases r;rfl
 |bl b=>cases r;rfl
 |int i=>obtain⟨t,rfl⟩:=r;rfl
 |str z=>obtain⟨t,rfl⟩:=r;rfl
 |_=>exact absurd (show Zc=Zd from f) Ah
theorem zie {x:V}:∀{xs:List V}{us:List Ze},Vals xs us->xs.all ziw=Zd->us.any (eqU x)=xs.any λy=>eqV y x
 |_,_,.nil,_=>rfl
 | y::xs,u::us,.cons r t,f=>by
  rw[Cb,Ae] at f;rw[Dd,Dd,z5m r f.1,zie t f.2]
theorem zfk {s:Zf}{x:V}{v:Ze} (b:RelV x v) (a:ziw x=Zd):∀{xs:List V}{us:List Ze},Vals xs us->xs.all ziw=Zd->∀u∈us,SeqAt.EqAt A s u v (eqU x u)
 |_,_,.nil,_=>λu h=>by cases h
 | y::xs,u::us,.cons r t,f=>λc h=>by
  rw[Cb,Ae] at f;rcases Ao.mp h with rfl|h
  ·rw[z5m r f.1];exact yd0 r b f.1 a
  ·exact zfk b a t f.2 c h
noncomputable def inV (x:V) (xs:List V):Bool:=xs.any λy=>eqV y x
noncomputable def rIn (K:Zg) (n:Bool):R2:=λx y H Q=>∃p a,y=.ref p/\(SqL K H p a\/SqT K H p a)/\ziw x=Zd/\a.all ziw=Zd/\Q (.bl (if n then !inV x a else inV x a)) H
theorem zmi:OpR X (compareOp .In) (rIn X.K Zc):=by
 intro pins s σ H x y v u Q I d g h;obtain⟨p,j,rfl,a,f,fs,q⟩:=h;cases g;rcases a with a|a
 ·obtain⟨i,r,c,e⟩:=I.list a;refine SeqAt.in_listAt (eqU x) c.isList (λw b=>zfk d f r fs w (by simpa using b)) ⟨.bl _,H,I,rfl,?_⟩;rw[show i.toArray.any (eqU x)=i.any (eqU x) by simp,zie r fs];exact q
 ·obtain⟨i,r,c,e⟩:=I.tuple a;refine SeqAt.in_tupleAt (eqU x) c (λw b=>zfk d f r fs w (by simpa using b)) ⟨.bl _,H,I,rfl,?_⟩;rw[show i.toArray.any (eqU x)=i.any (eqU x) by simp,zie r fs];exact q
theorem zgt:OpR X (compareOp .NotIn) (rIn X.K Zd):=by
 intro pins s σ H x y v u Q I d g h;obtain⟨p,j,rfl,a,f,fs,q⟩:=h;cases g;rcases a with a|a
 ·obtain⟨i,r,c,e⟩:=I.list a;refine SeqAt.notIn_listAt (eqU x) c.isList (λw b=>zfk d f r fs w (by simpa using b)) ⟨.bl _,H,I,rfl,?_⟩;rw[show i.toArray.any (eqU x)=i.any (eqU x) by simp,zie r fs];exact q
 ·obtain⟨i,r,c,e⟩:=I.tuple a;refine SeqAt.notIn_tupleAt (eqU x) c (λw b=>zfk d f r fs w (by simpa using b)) ⟨.bl _,H,I,rfl,?_⟩;rw[show i.toArray.any (eqU x)=i.any (eqU x) by simp,zie r fs];exact q
theorem zl7:zfz X (.builtin "len") (λxs H Q=>∃p ys,xs=[.ref p]/\(SqL X.K H p ys\/SqT X.K H p ys)/\Q (.int ys.length) H):=by
 intro pins s σ H xs g Q I r h;obtain⟨p,ys,rfl,b,q⟩:=h;obtain⟨u,rfl,f⟩:=vals1 r;cases f;have j:=zru;rcases b with b|b
 ·obtain⟨i,d, c,e⟩:=I.list b;have a:=d.length;exact Calls.call_len_list c.isList (by simp only [Am]<;>symm) ⟨.int ys.length,H,I.tok _,⟨s.toks+1,by rw[Am,a]⟩,q⟩
 ·obtain⟨i,d, c,e⟩:=I.tuple b;have a:=d.length;exact len_tuple c (by simp only [Am]<;>symm) ⟨.int ys.length,H,I.tok _,⟨s.toks+1,by rw[Am,a]⟩,q⟩
theorem zk3:zfz X (.type "tuple") (λxs H Q=>∃p ys,xs=[.ref p]/\((SqL X.K H p ys/\∀l,H l=Zb->Q (.ref l) (upd H l (.tup ys)))\/(SqT X.K H p ys/\Q (.ref p) H))):=by
 intro pins s σ H xs v Q I r h;obtain⟨p,ys,rfl,h⟩:=h;obtain⟨u,rfl,n⟩:=vals1 r;cases n;rcases h with⟨c,q⟩|⟨c,q⟩
 ·obtain ⟨i,f, d,g⟩:=I.list c;have k:=f.length;refine call_tuple_list d.isList (λa t=>?_) (by simp only [Am]<;>symm);have j:Inv X pins σ H { s with heap:=a }:=I.kept (t':=s.toks) t;have m:Inv X pins σ (upd H a.objs.size (.tup ys)) { s with heap:=a.push { cls:=.type "tuple",data:=.seq i.toArray } } :=
   j.laid (t':=s.toks) (λb o e=>Ad _ e) (Af _) (show zbn X.prog X.w _ _ _ (.tup ys) from ⟨g,i,f,zm2.new _ _⟩)
  exact⟨.ref a.objs.size,_,m,rfl,q _ (j.hok.fresh (Af _))⟩
 ·obtain⟨i,f, d,g⟩:=I.tuple c;exact call_tuple_same d ⟨.ref p,H,I,rfl,q⟩
noncomputable def tyV (K:Zg) (T:String) (x:V) (H:Hp):Prop:=match x with
 |.str _=>T = "str"
 |.int _=>T = "int"
 | .ref p=>(T = "list"/\∃a,SqL K H p a)\/(T = "tuple"/\∃o,K.lookup p=Za o/\o.cls=.type "tuple"/\o.dict=Zb) \/
  (T = "dict"/\((∃kvs,H p=Za (.dK kvs))\/∃kvs,H p=Za (.dT kvs)))\/(T = "set"/\∃S n,H p=Za (.set S n))
 |_=>False
theorem z5d {pins:List (Zh×Obj)}{σ:St}{s:Zf}{x:V}{v:Ze} (I:Inv X pins σ H s) (r:RelV x v) (d:tyV X.K T x H) :
  s.TypeIs v T/\∀a,v=.ref a->∃j,s.heap.get? a=Za j/\j.dict=Zb:=by
 cases x with
 | str z =>
  obtain⟨t,rfl⟩:=r;cases (show T = "str" from d);exact⟨typeIs_str s z t,λ_ e=>nomatch e⟩
 | int i =>
  obtain⟨t,rfl⟩:=r;cases (show T = "int" from d);exact⟨typeIs_int s i t,λ_ e=>nomatch e⟩
 | ref p =>
  cases r;rcases d with⟨rfl,u,l⟩|⟨rfl,o,h,q,g⟩|⟨rfl,h⟩|⟨rfl,S,n,h⟩
  ·obtain ⟨m,_,k,_⟩:=I.list l
   refine⟨k.isList.typeIs,λa e=>?_⟩;cases e;obtain⟨o,n,e,c,g,_⟩:=k;exact⟨o,e,g⟩
  ·refine ⟨⟨o,I.kIn p o h,q⟩,λa e => ?_⟩
   cases e;exact⟨o,I.kIn _ o h,g⟩
  ·have z:∃o,s.heap.get? p=Za o/\o.ExactDict:=by
    rcases h with⟨kvs,h⟩|⟨kvs,h⟩
    ·obtain ⟨_,_,_,_,o,_,_,e,b,_⟩:=I.hok p _ h
     exact⟨o,e,b⟩
    ·obtain ⟨_,_,_,_,o,_,_,e,b,_⟩:=I.hok p _ h
     exact⟨o,e,b⟩
   obtain⟨o,e,b⟩:=z;refine⟨⟨o,e,b.1⟩,λa f=>?_⟩;cases f;exact⟨o,e,b.2.1⟩
  ·obtain ⟨o,_,_,_,e,b,_⟩:=I.hok p _ h
   refine⟨⟨o,e,b.1⟩,λa f=>?_⟩;cases f;exact⟨o,e,b.2.1⟩
 |_=>exact False.elim d
noncomputable def tBM0 (K:Zg) (T:String) (r:V->List V->Hp->VK->Prop) (t:TE):TE:=λσ H Q=>t σ H λx a=>tyV K T x a/\r x [] a Q
noncomputable def tBM (K:Zg) (T:String) (r:V->List V->Hp->VK->Prop) (c:TE) (t:TA):TE:=λσ H Q=>c σ H λx a=>tyV K T x a/\t σ a λd b=>r x d b Q
variable {to:TE}{t:TA}{T id:String}{r:V->List V->Hp->VK->Prop}
theorem yeb (p:PlainAttrs T) (slot:Slot T name id) (c:typeOf (.builtin id)=pure (.type "method_descriptor")) (i:MtR X id r) (k:PE X o to)
  (b:attributeBase o name X.env (eval o X.env)=eval o X.env:=by rfl) (a:(apos.endLine==cpos.line)=Zd:=by rfl):PE X (.Call (.Attribute o name apos) [] [] cpos) (tBM0 X.K T r to):=by
 intro pins s σ H Q I h;refine wpAny_Call_method0_late b a (thn (k pins s σ H _ I h) λv g ⟨x,l,d,e,t,q⟩=>?_);obtain⟨j,f⟩:=z5d d e t;exact⟨T,id,p,slot,c,j,f,Calls.callWith_builtin rfl (PySem.evalArgs_none (i pins g σ l x [] v [] Q d e .nil q))⟩
theorem yht (p:PlainAttrs T) (slot:Slot T name id) (f:typeOf (.builtin id)=pure (.type "method_descriptor")) (u:MtR X id r) (C:PE X o to) (F:PA X (e::es) t)
  (c:attributeBase o name X.env (eval o X.env)=eval o X.env:=by rfl)
  (d:((backTo cpos (starEach (e::es) X.env)).all (λx=>!x.1)&&(backToKw cpos (keywordEach [] X.env)).all (λx=>x.1.isSome)
   && decide ((e::es).length+([]:List Keyword).length+(if ([]:List Keyword).isEmpty then 0 else 1)<30))=Zd:=by rfl)
  (b:(apos.endLine==cpos.line)=Zd:=by rfl) (z:starEach (e::es) X.env=(Zc,eval e X.env)::starEach es X.env:=by rfl) (a:(backTo cpos (starEach es X.env)).any (·.1)=Zc:=by rfl) :
  PE X (.Call (.Attribute o name apos) (e::es) [] cpos) (tBM X.K T r to t):=by
 intro pins s σ H Q I h;refine wpAny_Call_method_late c d b rfl (thn (C pins s σ H _ I h) λv n ⟨x,J,g,i,B,w⟩=>?_);obtain⟨y,j⟩:=z5d g i B;refine⟨T,id,p,slot,f,y,j,?_⟩;have hA:=F cpos pins n σ J _ g w;rw[z] at hA ⊢;refine Calls.callWith_builtin (by show (Zc||(backTo cpos (starEach es X.env)).any (·.1))=Zc;rw[a]<;>rfl) (Calls.evalArgs_plain ?_);exact thn hA λE D ⟨A,m,k,l,q⟩=>u pins D σ m x A v E Q k i l q
end
noncomputable def MtM (X:Cx) (id:String) (r:V->List V->Hp->VK->Prop):Prop :=
 ∀(pins:List (Zh×Obj)) (s:Zf) (σ:St) (H:Hp) (x:V) (a:List V) (v:Ze) (u:List Ze) (Q:VK),Inv X pins σ H s->RelV x v->Vals a u->r x a H Q ->
  wpAny #v[2,7] X.A (call (.builtin id) (v::u)) (EP X pins σ Q) X.xe s
theorem Vals.one:∀{x:V}{us:List Ze},Vals [x] us->∃u,us=[u]/\RelV x u
 |_,_,.cons r .nil=>⟨_,rfl,r⟩
theorem Vals.rep {xs:List V}{us:List Ze} (h:Vals xs us):∀k:Nat,Vals (List.replicate k xs).flatten (List.replicate k us).flatten
 |0=>.nil
 | k+1=>by
  rw[Df,Df,Gs,Gs];exact Vals.append h (Vals.rep h k)
theorem zmm (i:List Ze):∀(k:Nat) (acc:List Ze),
  List.foldl (λb x=>b++x) acc.toArray (List.replicate k i.toArray)=(acc++(List.replicate k i).flatten).toArray
 |0,acc=>by simp
 | k+1,acc=>by
  have e:acc.toArray++i.toArray=(acc++i).toArray:=by simp
  have a:(acc++i)++(List.replicate k i).flatten=acc++(List.replicate (k+1) i).flatten:=by
   rw[Df,Gs,Bf]
  rw[<-a,<-zmm i k (acc++i),<-e,Df,List.foldl_cons]
section
variable {pins:List (Zh × Obj)}{σ:St}{s:Zf}{xs ys zs:List V}
theorem Inv.lset {i its':List Ze}{n:Nat}{f:Array Ze->Array Ze}{t':Nat} (I:Inv X pins σ H s) (hH:H l=Za (.lst xs))
  (e:s.heap.get? l=Za { cls:=.type "list",data:=.seq i.toArray n }) (c:f i.toArray=its'.toArray) (a:Vals ys its') (b:ys.length<=sizeLine) :
  Inv X pins σ (upd H l (.lst ys)) { s with heap:=s.heap.update l (Obj.mapSeq f),toks:=t' }:=by
 have q:=PySem.IsL.update e f;rw[c] at q;refine I.write (x:=l) (e:=l) (by rw[hH];exact trivial) (.inl rfl) (λg u h d=>(Ed s.heap (Obj.mapSeq f) (Ne.symm h)).trans d) ⟨_,q⟩ ?_;exact⟨b,its',_,a,q⟩
theorem Inv.lnew {t':Nat} (I:Inv X pins σ H s) (h:Vals ys its) (a:ys.length<=sizeLine) :
  Inv X pins σ (upd H s.heap.objs.size (.lst ys)) { s with heap:=s.heap.push { cls:=.type "list",data:=.seq its.toArray },toks:=t' } :=
 I.laid (λ_ _ q=>Ad _ q) (Af _) ⟨a,its,0,h,Ay _ rfl⟩
theorem Inv.fresh (I:Inv X pins σ H s):H s.heap.objs.size=Zb:=I.hok.fresh (Af _)
theorem Inv.lstM (I:Inv X pins σ H s)(hH:H l=Za (.lst xs)):xs.length<=sizeLine/\∃(i:List Ze) (n:Nat),Vals xs i/\xs.length=i.length/\s.heap.get? l=Za { cls:=.type "list",data:=.seq i.toArray n }:=by
 nofun;obtain⟨z,i,n,r,e⟩:=I.hok l _ hH;ac_rfl;exact⟨z,i,n,r,r.length,e⟩
theorem zkr (h:n<=sizeLine):Builtin.List.listTooLong n=Zc:=by
 unfold Builtin.List.listTooLong;exact At #v[]
end
section
variable {X:Cx}
noncomputable def zyf:V->List V->Hp->VK->Prop:=λx v H Q=>∃l a y,x=.ref l/\v=[y]/\H l=Za (.lst a)/\a.length<sizeLine/\Q .non (upd H l (.lst (a++[y])))
theorem zlo:MtM X "list.append" zyf:=by
 intro pins s σ H x k v d Q I c b h;obtain⟨l,j,y,rfl,rfl,hH,g,q⟩:=h;cases c;obtain⟨u,rfl,a⟩:=b.one;obtain⟨z,i,n,r,f,e⟩:=I.lstM hH;refine call_meets F.slot_list_append ⟨_,e,rfl⟩ F.entry_list_append (F.args_list_append_2 _ _) (PySem.list_append l i.toArray n u (by rw[Am];symm)) ⟨e,?_⟩;refine⟨.non,_,I.lset (its':=i++[u]) hH e (by simp) (r.append (.cons a .nil)) ?_,rfl,q⟩;rw[Bb,List.length_singleton];symm
noncomputable def z6u:V->List V->Hp->VK->Prop:=λx v H Q=>∃l b a z,x=.ref l/\v=[.ref b]/\H l=Za (.lst a)/\H b=Za (.lst z)/\a.length+z.length<=sizeLine/\Q .non (upd H l (.lst (a++z)))
theorem yd3:MtM X "list.extend" z6u:=by
 intro pins s σ H x C v D Q I f p h;nofun;obtain⟨l,b,B,A,rfl,rfl,hH,hB,y,q⟩:=h;ac_rfl;cases f;obtain⟨u,rfl,j⟩:=p.one;cases j;nofun;obtain⟨z,a,n,r,w,e⟩:=I.lstM hH;obtain⟨t,i,m,g,k,o⟩:=I.lstM hB;ac_rfl;have d:a.toArray.size+i.toArray.size<=sizeLine:=by rw[Am,Am];symm
 have c:¬ (!a.toArray.isEmpty&&Builtin.List.listTooLong (a.toArray.size+i.toArray.size))=Zd:=by
  rw[zkr d,Fj];exact Ah
 refine call_meets F.slot_list_extend ⟨_,e,rfl⟩ F.entry_list_extend (F.args_list_extend_2 _ _)
  (AutoSeq1.list_extend_list_list_0 l a.toArray n b i.toArray m c (by rw[Am];symm) #v[]) ⟨e,o,?_⟩
 refine⟨.non,_,I.lset (its':=a++i) hH e (by simp) (r.append g) ?_,rfl,q⟩;rw[Bb];symm
noncomputable def rCat:R2:=λx y H Q=>∃l b a z,x=.ref l/\y=.ref b/\H l=Za (.lst a)/\H b=Za (.lst z)/\a.length+z.length<=sizeLine/\∀p,H p=Zb->Q (.ref p) (upd H p (.lst (a++z)))
theorem yd2:OpR X (binaryOp .Add) rCat:=by
 intro pins s σ H x y v u Q I g k h;nofun;obtain⟨l,b,A,t,rfl,rfl,hH,hB,p,q⟩:=h;ac_rfl;cases g;cases k;nofun;obtain⟨z,a,n,r,o,e⟩:=I.lstM hH;obtain⟨m,i,w,j,f,d⟩:=I.lstM hB;ac_rfl;refine PySem.P.add_list e d ?_ (by rw[Am,Am];symm);have c:a.toArray++i.toArray=(a++i).toArray:=by simp
 rw[c];exact⟨.ref _,_,I.lnew (t':=s.toks) (r.append j) (by rw[Bb];symm),rfl,q _ I.fresh⟩
noncomputable def rRep:R2:=λx y H Q=>∃l k a,x=.ref l/\y=.int k/\H l=Za (.lst a)/\-(2^63)<=k/\k<2^63/\a.length*k.toNat<=sizeLine /\
 ∀p,H p=Zb->Q (.ref p) (upd H p (.lst (List.replicate k.toNat a).flatten))
theorem yaz {α:Type}(xs:List α)(k:Nat):(List.replicate k xs).flatten.length=k*xs.length:=by
 induction k with
 |zero=>simp
 |succ k i=>rw[Df,Gs,Bb,i,Nat.succ_mul,Nat.add_comm]
theorem ydx:OpR X (binaryOp .Mult) rRep:=by
 intro pins s σ H x y v u Q I C D h;nofun;obtain⟨l,k,K,rfl,rfl,hH,E,w,p,q⟩:=h;ac_rfl;cases C;nofun;obtain⟨t,rfl⟩:=D;obtain⟨z,i,n,r,B,e⟩:=I.lstM hH;ac_rfl;have d:i.toArray.size*k.toNat<=sizeLine:=by rw[Am,<-B];exact p
 have c:¬ i.toArray.size*k.toNat > (2^63-1)/8:=by
  have:(sizeLine:Nat)<=(2^63-1)/8:=by decide
  symm
 have g:¬ (!Builtin.List.listFitsIndex k)=Zd:=by
  rw[fitsIndex_both E w];exact Ah
 have b:¬ Builtin.List.listTooLong (i.toArray.size*k.toNat)=Zd:=by
  rw[zkr d];exact Ah
 have f:List.foldl (λo j=>o++j) #[] (List.replicate (if i.toArray.isEmpty=Zd then 0 else k.toNat) i.toArray)=(List.replicate k.toNat i).flatten.toArray:=by
  have J:∀m:Nat,List.foldl (λo j=>o++j) #[] (List.replicate m i.toArray)=(List.replicate m i).flatten.toArray:=λm=>by
   have:=zmm i m [];rw[List.nil_append] at this;exact this
  rw[J];cases i with
  |nil=>simp
  |cons a L=>rw[if_neg (by simp)]
 refine wpAny_binaryOp_repeat_ref (T := "list") (U := "int") #v[0,9] ⟨_,e,rfl⟩ (λA=>typeIs_int A k t) noFill_list_mul F.fills_int_mul F.slot_int_rmul repeat_list F.slot_int_index.lookup
  (call_meets F.slot_int_rmul (typeIs_int s k t) F.entry_int_rmul (F.args_int_rmul_2 _ _) (int___rmul___int_list k t l i.toArray n)
   ⟨e,rfl,⟨_,e,rfl⟩,call_meets F.slot_list_mul ⟨_,e,rfl⟩ F.entry_list_mul (F.args_list_mul_2 _ _) (AutoListH.list___mul___list_int_3 l i.toArray n k t g c b) ⟨e,?_⟩⟩)
 rw[f];exact⟨.ref _,_,I.lnew (t':=s.toks) (r.rep k.toNat) (by rw[yaz,Nat.mul_comm];exact p),rfl,q _ I.fresh⟩
end
section
variable {prog:Program}{w:World}{s:Zf}
end
section
end
end L2
namespace Att
open PySem PySem.W PySem.Calls PyProof.Rows
theorem zio:∀(ns:List Int) (vs:List Ze),WellAll P h vs (ns.map WData.int)->IntsAre vs ns:=by
 intro ns
 induction ns with
 | nil =>
  intro vs w;rw[List.map_nil] at w;cases w;exact .nil
 | cons n ns i =>
  intro vs w;rw[Ax] at w;cases w with
  | cons a b =>
   cases a;exact .cons _ _ (i _ b)
theorem zvz {l:OpenLaw}{n:Nat} (u:l.most=Za n) {P:Params}{h:Heap}{args:List WData}{c:List Ze}
  (b:l.row.toRowW.claim.pre args=Zd) (k:WellAll P h c args) :
  ∃a vs ns,c=[Ze.ref a]/\args=[WData.list (ns.map WData.int)]/\h.get? a=Za { cls:=.type "list",data:=.seq vs.toArray }/\IntsAre vs ns/\ns.length<=n:=by
 have j:WShape.hasAll [] args [.list .int]=Zd:=(pre_splitW b).1;have m:l.pre.holds [] { args:=args }=Zd:=(pre_splitW b).2;obtain ⟨d,r,rfl,t,o⟩:=hasAllW_cons j;obtain rfl:=hasAllW_nil o;obtain ⟨z,rfl,s⟩:=hasW_list t;obtain ⟨ns,rfl⟩:=items_int s;have f:ns.length<=n:=by
  unfold OpenLaw.pre at m;have i:(WTm.not (.lt (.lit (.int (n:Int))) (.len (.arg 0)))).holds [] { args:=[.list (ns.map .int)] }=Zd:=by
   have i:=(holds_andW m).1;rw[u] at i;exact i
  have g:=condW_of i (w_not (w_lt w_lit (w_len_list (w_arg rfl))));rw[Ac] at g;refine Nat.le_of_not_lt λq=>?_;have p:(n:Int)<((ns.length:Nat):Int):=by symm
  first
   |(rw[Ag p] at g;exact absurd g #v[0,9])
   |(simp at g;symm)
 cases k with
 | cons w y =>
  cases y;cases w with
  |list x e=>exact⟨_,_,ns,rfl,rfl,x,zio ns _ e,f⟩
theorem z0t (l:OpenLaw)(args:List WData):l.row.toRowW.claim.post args (.bool Zd) args=Zd :=
 postW_of (r:=l.row.toRowW) (X:=(Zd==Zd))
  (show WShape.has [] (.bool Zd) .bool=Zd by first|rfl|decide|simp [WShape.has,WShape.arms,WShape.armsAll])
  (show (WTm.eq .res (.lit (.bool Zd))).value [] { args:=args,res:=Za (.bool Zd),after:=args }=Za (.bool (Zd==Zd)) from w_eq_bool (w_res rfl) w_lit) rfl
theorem attach_call {l:OpenLaw}{n:Nat}{q:Program}{b:List Str}{X:(Str->Option Ze)->Heap->Prop}{x:World->Heap->Prop}{d:DefRec}
  (I:l.most=Za n) (s:d.params.defaults=[])
  (call:∀(w:World) (s₀ s₁:Zf) (m v:Str->Option Ze) (g:Zh) (o:Obj) (p j doc:Ze) (a:Zh) (vs:List Ze) (ns:List Int),
   Ground q b [] X w s₀ m v s₁.heap->x w s₁.heap ->
   s₁.heap.get? g=Za o->o.data=.func (docDef d.name d.params d.body d.scope p j doc)->s₁.heap.CodeRec j d.name->m d.name=Za (.ref g) ->
   s₁.heap.get? a=Za { cls:=.type "list",data:=.seq vs.toArray }->IntsAre vs ns->ns.length<=n->s₁.gens=#[] ->
   codeAny (model l.prog w) callerA (.call (.ref g) ⟨[.ref a],[]⟩) (λr s'=>r=.ok (.ret (.bool Zd))/\OldK s₁.heap s'.heap/\s'.os=s₁.os/\AllBare s'.gens) s₁) :
  WalkO q b X x l.row.toRowW d [] (λf vs=>PySem.call f vs):=by
 intro w s₀ s₁ m v G Y g o p j doc C kV K D t hD u J args y N c z H k A;obtain rfl:C=.none:=Dflts.none hD s;obtain rfl:kV=.none:=Dflts.noKw hD;obtain⟨a,vs,ns,rfl,rfl,i,h,e⟩:=zvz I c k;refine enter_call (codeAny_mono (call w s₀ s₁ m v g o p j doc a vs ns G Y K (fd_plain D) t u i h e J) λr s' L=>?_);obtain⟨rfl,B,E,M⟩:=L;exact⟨.inl ⟨.bool Zd,.bool Zd,[],rfl,λ_=>rfl,.bool Zd,z0t l _,λ_=>⟨List.Pairwise.nil,λ_ F=>(nomatch F)⟩⟩,B,E,M⟩
section
variable {prog:Program}{w:World}{s:Zf}{K:Frag}
end
end Att
namespace L2
open PySem PySem.Spec PyProof.Rows
theorem znv:∀{vs:List Ze}{ns:List Int},IntsAre vs ns->Vals (ns.map V.int) vs
 |_,_,.nil=>.nil
 |_,_,.cons n t h=>.cons ⟨t,rfl⟩ (znv h)
noncomputable def zgd (s:Stmt):Arguments:=match s with
 |.FunctionDef _ a _ _ _ _ _ _ _ _=>a
 |_=>{ posonlyargs:=[],args:=[],vararg:=Zb,kwonlyargs:=[],kw_defaults:=[],kwarg:=Zb,defaults:=[] }
noncomputable def zd6 (s:Stmt):List Stmt:=match s with
 |.FunctionDef _ _ b _ _ _ _ _ _ _=>b
 |_=>[]
noncomputable def za0 (s:Stmt):Scope:=match s with
 |.FunctionDef _ _ _ _ _ _ a _ _ _=>a
 |_=>{ kind:=.function,names:=[],isGenerator:=Zc,isCoroutine:=Zc }
noncomputable abbrev CX0:CXT:=λ_ _ _ _ _ _=>False
noncomputable abbrev E0:XK:=λ_ _ _=>False
theorem yd6:zwl CX0 X E0:=λ_ _ _ _ _ _ _ h=>h.elim
structure Fun (K:Zg) (x qual:Str) (st:Stmt) (f:Zh) (fd:FuncData):Prop where
 ex:∃(oc:Ze) (od:Option Zh) (kV doc pm:Ze) (an:Option Zh) (cdv ct:Ze) (osl:Array (Option Ze)),
  fd=PySem.W.fnOf x qual (zgd st) (zd6 st) (za0 st) .none kV doc pm an cdv ct/\K.lookup f=Za ⟨oc,od,.func fd,osl⟩/\PySem.W.codeIn K cdv qual=Zd
 kp:PySem.W.keepIn K (.ref f)=Zd
section
variable {w:World}{K:Zg}
theorem Fun.binds {x qual:Str}{st:Stmt}{b:List Str} (F:Fun K x qual st f fd)
  (h:∀(kV doc p:Ze) (a:Option Zh) (cdv c:Ze) (us:List Ze),us.length=b.length->bindArgs (PySem.W.fnOf x qual (zgd st) (zd6 st) (za0 st) .none kV doc p a cdv c) ⟨us,[]⟩=pure (b.zip us)):zn7 K fd b []:=by
 obtain⟨e,o,kV,doc,p,a,cdv,c,osl,rfl,l,d⟩:=F.ex;exact .all (h kV doc p a cdv c)
theorem z47 {x qual:Str}{st:Stmt}{o:Ze}{d b:Option Zh}{osl:Array (Option Ze)}{kV doc p cdv a:Ze} (l:K.lookup f=Za ⟨o,d,.func (PySem.W.fnOf x qual (zgd st) (zd6 st) (za0 st) .none kV doc p b cdv a),osl⟩)
 (c:PySem.W.codeIn K cdv qual=Zd) (k:PySem.W.keepIn K (.ref f)=Zd):Fun K x qual st f (PySem.W.fnOf x qual (zgd st) (zd6 st) (za0 st) .none kV doc p b cdv a):=⟨⟨o,d,kV,doc,p,b,cdv,a,osl,rfl,l,c⟩,k⟩
end
section
end
theorem iteF {A B:Prop}(h:B):if Zc=Zd then A else B:=by
 rw[if_neg Ah];exact h
theorem iteT {A B:Prop}(h:A):if Zd=Zd then A else B:=by
 rw[if_pos rfl];exact h
noncomputable def Same (H H':Hp):Prop:=∀b o,H b=Za o->H' b=Za o
theorem Same.refl (H:Hp):Same H H:=λ_ _ h=>h
theorem Same.trans (a:Same H H1)(b:Same H1 H2):Same H H2:=λc o h=>b c o (a c o h)
theorem Same.free (e:Same H H') (h:H' l=Option.none):H l=Option.none:=by
 cases q:H l with
 |none=>rfl
 | some o =>
  rw[e l o q] at h;cases h
theorem Same.seq {K:Zg}{xs:List V}(e:Same H H')(h:SqL K H a xs):SqL K H' a xs:=by
 rcases h with (h|⟨o,h⟩)|h
 ·exact .inl (.inl (e _ _ h))
 ·exact .inl (.inr ⟨o,e _ _ h⟩)
 ·exact .inr h
noncomputable def capSt (cap:List (Option Nat)) (σ:St):St:=cap.map λo=>match o with
 |some i=>(σ[i]?).getD Zb
 |none=>Zb
noncomputable def zgx (cap:List (Option Nat)) (Nc N:List Str) (scope:Scope):Bool :=
 decide (cap.length=Nc.length)&&(cap.zip Nc).all λp=>match p.1 with
  |some i=>decide (N[i]?=Za p.2)&&decide (scope.names.lookup p.2=Za NameKind.free)
  |none=>Zd
theorem zv8 {cap Nc N scope}(h:zgx cap Nc N scope=Zd):cap.length=Nc.length:=by
 unfold zgx at h;rw[Ae] at h;exact Aq h.1
theorem zuv {scope:Scope}(h:zgx cap Nc N scope=Zd){j i:Nat}{x:Str}(c:cap[j]?=Za (Za i))(a:Nc[j]?=Za x):N[i]?=Za x/\scope.names.lookup x=Za .free:=by
 unfold zgx at h;rw[Ae] at h;have b:(Za i,x)∈cap.zip Nc:=by
  refine Bn (i:=j) ?_;rw[List.getElem?_zip_eq_some];exact⟨c,a⟩
 have q:=Bi.mp h.2 _ b;simp only [Ae,Du] at q;exact q
noncomputable def zfp (scope:Scope) (out:Scope):Bool:=scope.names.all λp=>!(p.2==NameKind.free)||decide (out.names.lookup p.1=Za .cell)||decide (out.names.lookup p.1=Za .free)
theorem zgi:∀(names:List (Str × NameKind)) (acc:List (Str × Zh)),(∀x,(x,NameKind.free)∈names->∃c,env.cells.lookup x=Za c)->(∀x c,acc.lookup x=Za c->env.cells.lookup x=Za c) ->
    ∃f,(forIn names acc fun (p:Str × NameKind) q=>if p.2 == NameKind.free then do let c <- cellOf env p.1;pure (ForInStep.yield ((p.1,c)::q)) else pure (ForInStep.yield q):Sem (List (Str × Zh)))=pure f /\
      (∀x c,f.lookup x=Za c->env.cells.lookup x=Za c)/\(∀x,(x,NameKind.free)∈names\/(∃c,acc.lookup x=Za c)->∃c,f.lookup x=Za c)
  | [],acc,_,j=>⟨acc,by rw [List.forIn_nil],j,fun x h=>by
      rcases h with h|h
      · cases h
      · exact h⟩
  | (n,k)::r,acc,m,j=>by
    rw[List.forIn_cons];by_cases s:(k == NameKind.free)=Zd
    · have t : k = .free := by simpa using s
      subst t;obtain ⟨c,o⟩:=m n An;have l : ∀x d,((n,c)::acc).lookup x=Za d->env.cells.lookup x=Za d:=fun x d h=>by
        rw[Bs] at h;cases e:x == n with
        | true => rw [e] at h; obtain rfl := sI h; have : x = n := by simpa using e
                  rw[this];exact o
        |false=>rw[e] at h;exact j x d h
      obtain⟨f,e,a,b⟩:=zgi r ((n,c)::acc) (λx h=>m x (Ai _ h)) l;refine⟨f,?_,a,λx h=>b x ?_⟩
      · rw [<- e]
        have g:cellOf env n=pure c:=by unfold cellOf;rw[o]
        simp only [g]
        rfl
      · have gen:∀y d,acc.lookup y=Za d->∃v,((n,c)::acc).lookup y=Za v:=fun y d u=>by
          rw[Bs];cases e:y == n with
          |true=>exact⟨_,rfl⟩
          |false=>exact⟨d,u⟩
        rcases h with h|⟨d,h⟩
        · rcases Ao.mp h with h | h
          · injection h with h _
            subst h;exact .inr ⟨c,by rw[Bs];simp⟩
          · exact .inl h
        · exact .inr (gen x d h)
    · have i : (k == NameKind.free) = Zc := by simpa using s
      obtain⟨f,e,a,b⟩:=zgi r acc (λx h=>m x (Ai _ h)) j;refine⟨f,?_,a,λx h=>b x ?_⟩
      · rw [<- e]
        simp only [i]
        rfl
      · rcases h with h | h
        · rcases Ao.mp h with h | h
          · injection h with _ h
            subst h;simp at i
          · exact .inl h
        · exact .inr h
theorem zch (h:∀x,(x,NameKind.free)∈scope.names->∃c,env.cells.lookup x=Za c) :
  ∃d,closureFor scope env=pure d/\(∀x c,d.lookup x=Za c->env.cells.lookup x=Za c)/\(∀x,(x,NameKind.free)∈scope.names->∃c,d.lookup x=Za c):=by
 nofun;obtain⟨d,e,a,b⟩:=zgi scope.names [] h (λx c f=>by simp at f);refine qG ?_;refine⟨d,?_,a,λx f=>b x (.inl f)⟩;exact congrArg (λm=>m>>=λr=>pure r) e |>.trans (by rw[Hi])
noncomputable def zaw (X:Cx) (Nc:List Str) (scope:Scope) (c:List (Str×Zh)) (C:Zh) (s:Zf) (H:Hp) (fp:List Zh):Cx where
 prog:=X.prog
 w:=X.w
 K:=X.K
 mg:=X.mg
 base:=X.base
 A:=X.A
 N:=Nc
 s₀:=s
 H₀:=H
 env:=compEnvC scope c C X.env
 outer:=X.stack
 stack:=X.stack
 ex:=fp
 fn:=λx=>decide (scope.names.lookup x=Za NameKind.cell)
 calm:=X.calm
 pn:=[]
 xe:=λ_ _=>False
noncomputable def zin:TT:=λσ H Q=>Q Zd H
noncomputable def PTs (X:Cx) (ifs:List Zi) (t:TT):Prop :=
 ∀(pins:List (Zh×Obj)) (s:Zf) (σ:St) (H:Hp) (Q:Bool->Hp->Prop),Inv X pins σ H s->t σ H Q ->
  wpAny #v[2,7] X.A (forIn ifs Zd λc r=>if r=Zd then do let ok <- isTrue c X.env (eval c X.env);pure (ForInStep.yield ok) else pure (ForInStep.yield r)) (TP X pins σ Q) X.xe s
theorem zz1:PTs X [] zin:=λpins s σ H Q I h=>by
 exact Aj ⟨H,I,h⟩
theorem yba (h:PT X c t):PTs X [c] t:=λpins s σ H Q I q=>by
 rw[List.forIn_cons];refine Aa (Aa (thn (h pins s σ H Q I q) λb d a=>?_));refine Aj ?_;exact Aj a
section
theorem zbm {env:Env}:∀{names:List (Str×NameKind)}{x:Str},names.lookup x=Za .free ->
  (names.map λ(n,k)=>if (k == NameKind.free && env.scope.kind == .function && env.kindOf n == some .cell) then (n,NameKind.cell) else (n,k)).lookup x=Za .cell \/
  (names.map λ(n,k)=>if (k == NameKind.free && env.scope.kind == .function && env.kindOf n == some .cell) then (n,NameKind.cell) else (n,k)).lookup x=Za .free
 |[],_,h=>by simp at h
 | (n,k)::r,x,h=>by
  have i:=@zbm env r x;rw[Ax];rw[Bs] at h;cases hx:x==n with
  | true =>
   rw[hx] at h;obtain rfl:=sI h;dsimp only;split
   ·rw[Bs,hx];exact .inl rfl
   ·rw[Bs,hx];exact .inr rfl
  | false =>
   rw[hx] at h;dsimp only;split
   ·rw[Bs,hx];exact i h
   ·rw[Bs,hx];exact i h
theorem zb6 {env:Env}:∀{names:List (Str×NameKind)}{x:Str}{k:NameKind},(k=.cell\/k=.free) ->
  (names.map λ(n,k)=>if (k == NameKind.free && env.scope.kind == .function && env.kindOf n == some .cell) then (n,NameKind.cell) else (n,k)).lookup x=Za k->names.lookup x=Za .free\/names.lookup x=Za .cell
 |[],_,_,_,h=>by simp at h
 | (n,c)::r,x,k,a,h=>by
  rw[Ax] at h;rw[Bs];cases hx:x==n with
  | true =>
   dsimp only at h;split at h
   ·rename_i b
    simp only [Ae,beq_iff_eq] at b;rw[b.1.1];exact .inl rfl
   ·rw [Bs,hx] at h
    obtain rfl:=sI h;rcases a with rfl|rfl
    ·exact .inr rfl
    ·exact .inl rfl
  | false =>
   dsimp only at h;split at h
   ·rw[Bs,hx] at h;exact zb6 a h
   ·rw[Bs,hx] at h;exact zb6 a h
theorem zc8 (h:zfp scope out=Zd)(a:(x,NameKind.free)∈scope.names):out.names.lookup x=Za .cell\/out.names.lookup x=Za .free:=by
 have q:=Bi.mp h _ a;simpa using q
theorem capSt_get {j:Nat}{v:V} (h:(capSt cap σ)[j]?=Za (Za v)):∃i,cap[j]?=Za (Za i)/\σ[i]?=Za (Za v):=by
 unfold capSt at h;rw[Ak] at h;cases e:cap[j]? with
 |none=>rw[e] at h;cases h
 | some o =>
  rw[e] at h;cases o with
  |none=>cases h
  | some i =>
   refine⟨i,rfl,?_⟩;have a:(σ[i]?).getD Zb=Za v:=sI h;cases e2:σ[i]? with
   |none=>rw[e2] at a;cases a
   |some z=>rw[e2] at a;exact congrArg Za a
theorem zbr {env:Env}:∀{names:List (Str×NameKind)}{x:Str}{k:NameKind},k≠.free->names.lookup x=Za k ->
  (names.map λ(n,k)=>if (k == NameKind.free && env.scope.kind == .function && env.kindOf n == some .cell) then (n,NameKind.cell) else (n,k)).lookup x=Za k
 |[],_,_,_,h=>by simp at h
 | (n,a)::r,x,k,b,h=>by
  have i:=@zbr env r x k b;rw[Ax];rw[Bs] at h;cases hx:x==n with
  | true =>
   rw[hx] at h;obtain rfl:=sI h;have:(a==NameKind.free)=Zc:=by cases a<;>first|rfl|exact absurd rfl b
   dsimp only;rw[this,Ee,Ee,if_neg Ah,Bs,hx]
  | false =>
   rw[hx] at h;dsimp only;split
   ·rw[Bs,hx];exact i h
   ·rw[Bs,hx];exact i h
noncomputable def zew (scope:Scope):Bool:=scope.names.all λp=>!(p.2==NameKind.cell)||decide (scope.names.lookup p.1=Za .cell)
theorem zs0 (h:zew scope=Zd)(a:(x,NameKind.cell)∈scope.names):scope.names.lookup x=Za .cell:=by
 have q:=Bi.mp h _ a;simpa using q
theorem zc4:∀(names:List (Str×NameKind)) (n:Nat) (acc:List (Str×Zh)),cellsFrom n names acc=cellsFrom n names []++acc
 |[],_,_=>rfl
 | (x,k)::r,n,acc=>by
  unfold cellsFrom;split
  ·rw[zc4 r (n+1) ((x,n)::acc),zc4 r (n+1) [(x,n)],Bf];rfl
  ·exact zc4 r n acc
theorem zhx:∀(names:List (Str×NameKind)) (n:Nat) {x:Str}{c:Zh},(x,c)∈cellsFrom n names []->(x,NameKind.cell)∈names
 |[],_,_,_,h=>by cases h
 | (y,k)::r,n,x,c,h=>by
  unfold cellsFrom at h;split at h
  ·rename_i a
   rw[zc4] at h;rcases Bh.mp h with h|h
   ·exact Ai _ (zhx r _ h)
   ·have e:=As.mp h
    cases e;have:k=NameKind.cell:=by simpa using a
    rw[this];exact An
  ·exact Ai _ (zhx r _ h)
theorem cells_of (h:(cellsFrom n names cl).lookup x=Za c):(cellsFrom n names []).lookup x=Za c\/((cellsFrom n names []).lookup x=Zb/\cl.lookup x=Za c):=by
 rw[zc4,List.lookup_append] at h;cases e:(cellsFrom n names []).lookup x with
 |some d=>rw[e] at h;exact .inl h
 |none=>rw[e] at h;exact .inr ⟨rfl,h⟩
theorem zjb (h:zew scope=Zd) (a:scope.names.lookup x=Za .free) (b:cl.lookup x=Za c):(cellsFrom n scope.names cl).lookup x=Za c:=by
 rw[zc4,List.lookup_append];cases e:(cellsFrom n scope.names []).lookup x with
 |none=>exact b
 | some d =>
  have:=zs0 h (zhx _ _ (By e));rw[a] at this;cases this
theorem zqk {scope:Scope}{L:List (Str×Zh)}{cap:List (Option Nat)}{fp:List Zh}{h4:Heap}{tk:Nat}
  (I:Inv X pins σ H3 s3) (hk:scope.kind=.function) (n:zgx cap Nc X.N scope=Zd) (K:zfp scope X.env.scope=Zd) (M:zew scope=Zd)
  (C:∀x c,L.lookup x=Za c->X.env.cells.lookup x=Za c) (Y:∀x,(x,NameKind.free)∈scope.names->∃c,L.lookup x=Za c)
  (S:∀b∈fp,FpOk X pins H3 b) (Z:∀b∈fp,b<s3.heap.objs.size)
  (Q:h4.Ns s3.heap.objs.size (λ_=>Zb)) (f:∀b o,s3.heap.get? b=Za o->h4.get? b=Za o) (D:CellsOk h4 (s3.heap.objs.size+1) (cellsFrom (s3.heap.objs.size+1) scope.names [])) :
  Inv (zaw X Nc scope (cellsFrom (s3.heap.objs.size+1) scope.names L) s3.heap.objs.size s3 H3 fp) [] (capSt cap σ) H3 { s3 with heap:=h4,toks:=tk }:=by
 have A:∀b∈fp,b ∉ frs X.stack:=λb t z=>by
  obtain⟨_,g1,g2,_⟩:=S b t;rcases Ao.mp (I.stkSub b z) with e|e
  ·exact g1 e
  ·exact g2 e
 have own:∀x c,(cellsFrom (s3.heap.objs.size+1) scope.names []).lookup x=Za c->h4.IsCell c Zb/\s3.heap.objs.size+1<=c:=λx c h=>D.empty x c (By h);have J:∀x c,L.lookup x=Za c->c<s3.heap.objs.size:=λx c h=>by
  obtain⟨v,q⟩:=I.cell x c (C x c h);exact q.lt
 refine⟨⟨I.mod,hk,I.ok.glob,I.ok.blt,Af _,λx y c F N=>?_,λx w=>?_,λx c h h'=>?_,I.ok.hd,I.ok.frames,.inl rfl,λb t=>⟨Bc (Z b t),λx c h=>?_⟩,
  λb o e=>I.bs b o e,Cm I.ok.bsz I.sz,λb o e t=>?_,A,I.stack,I.stkFree⟩,rfl,I.bare,Un.kept f,⟨_,Q,λj x v F N h3=>?_⟩,λx c h=>?_,I.hok.fresh (Af _),λx c h=>?_,λp hp=>absurd (show p∈([]:List (Zh×Obj)) from hp) (by simp),I.hok.kept f,?_⟩
 ·rcases cells_of F with E|⟨_,E⟩
  ·rcases cells_of N with s|⟨_,s⟩
   ·exact name_of_addr D.apart (By E) (By s)
   ·have a:=(own x c E).2;have b:=J y c s;exact absurd (Aw b (Go a)) (Cj _)
  ·rcases cells_of N with s|⟨_,s⟩
   ·have a:=(own y c s).2;have b:=J x c E;exact absurd (Aw b (Go a)) (Cj _)
   ·exact I.ok.inj x y c (C x c E) (C y c s)
 ·have g:scope.names.lookup x=Za .free\/scope.names.lookup x=Za .cell:=by
   rcases w with w|w
   ·exact zb6 (.inl rfl) w
   ·exact zb6 (env:=X.env) (.inr rfl) w
  rcases g with g|g
  ·obtain⟨c,e⟩:=Y x (By g);exact⟨c,zjb M g e⟩
  ·exact Hz.mp (PySem.W.cellsFrom_some scope.names _ L (.inl g))
 ·have w:=Aq h;rcases cells_of h' with z|⟨z,_⟩
  ·exact Go (own x c z).2
  ·obtain⟨d,e⟩:=cell_has w;rw[z] at e;cases e
 ·rcases cells_of h with z|⟨_,z⟩
  ·have a:=(own x c z).2;have:=Z b t;exact Ne.symm (Bc (Aw this (Go a)))
  ·exact (S b t).2.2.2.2.1 x c (C x c z)
 ·rcases (S b t).2.2.2.1 with z|z
  ·exact I.ok.noex b o e z
  ·have F:=Ar e;exact absurd (Aw F (Cm I.ok.bsz z)) (Cj _)
 ·obtain ⟨i,e1,e2⟩:=capSt_get N;have R:=F;obtain ⟨n1,H⟩:=zuv n e1 R;have vis:Vis X.env.scope x:=by
   rcases zc8 K (By H) with z|z
   ·exact .inr (.inl z)
   ·exact .inr (.inr z)
  obtain⟨m,hn,hl⟩:=I.loc;obtain⟨u,r,l⟩:=hl i x v n1 e2 vis;refine⟨u,r,?_⟩;rcases l with⟨P,_⟩|⟨_,c,e,z⟩
  ·have k:X.env.scope.names.lookup x=Za .local:=P;rcases zc8 K (By H) with z|z
   ·rw[z] at k;cases k
   ·rw[z] at k;cases k
  ·obtain⟨c', U⟩:=Y x (By H);have:=C x c' U;rw[e] at this;obtain rfl:=sI this;refine .inr ⟨zbm H,c,zjb M H U,?_⟩;obtain⟨o,B,O⟩:=z;exact⟨o,f _ _ B,O⟩
 ·rcases cells_of h with z|⟨_,z⟩
  ·exact⟨Zb,(own x c z).1⟩
  ·obtain⟨v,o,B, O⟩:=I.cell x c (C x c z);exact⟨v,o,f _ _ B,O⟩
 ·rcases cells_of h with z|⟨_,z⟩
  ·exact I.hok.fresh (Go (own x c z).2)
  ·exact I.freeC x c (C x c z)
 ·show (capSt cap σ).length=Nc.length;rw[<-zv8 n];unfold capSt;rw[Ac]
theorem zft
  (a:∀h',h'.Ns s.heap.objs.size (λ_=>Zb)->(∀b o,s.heap.get? b=Za o->h'.get? b=Za o)->CellsOk h' #v[4,11] (cellsFrom #v[4,11] scope.names []) ->
   Q (newEnv scope s.heap.objs.size globals (cellsFrom #v[4,11] scope.names cl) qual Zb .none (Za outer) builtinsNs) { s with heap:=h' }) :
  wpAny M A (newFunctionEnv scope globals cl [] qual Zb .none (Za outer)) Q E s:=by
 simp only [newFunctionEnv,Option.isSome_some,Gn];refine Aa (wpAny_alloc ?_);refine Aa (wpAny_layCells _ (λname kind c=>by cases hkc:kind==NameKind.cell<;>simp [hkc]) _ _ _ _ ?_);have ok:=cellsFrom_ok scope.names (s.heap.push { cls:=.type "dict",data:=.dict #[] }) #v[4,11] [] ⟨λ_ _ h=>(nomatch h),List.Pairwise.nil⟩ (by rw[Ec];exact Af _);rw[Ec] at ok;rw[show ({ s with heap:=s.heap.push { cls:=.type "dict",data:=.dict #[] } }:Zf).heap.objs.size=s.heap.objs.size+1 from Ec ..];refine Aa ?_;exact Aj (Aj (a _ ((Heap.Ns.new s.heap (.type "dict")).keeps (pushCells_keeps _ _)) (λb o e=>pushCells_keeps _ _ b o (Ad _ e)) ok))
end
noncomputable abbrev TM:=St->Hp->(St->Hp->Prop)->Prop
noncomputable def PM (X:Cx) (em:Sem Unit) (t:TM):Prop :=
 ∀(pins:List (Zh×Obj)) (s:Zf) (σ:St) (H:Hp) (N:St->Hp->Prop),Inv X pins σ H s->t σ H N ->
  wpAny #v[2,7] X.A em (λ_ c=>∃a b,Inv X pins a b c/\N a b) X.xe s
noncomputable def zjs (e:Zi) (d:Nat) (tg iter:Zi) (ifs:List Zi) (em:Sem Unit) (it acc:Ze) (env:Env):Sem Fin:=do
 standAt iter.pos
 match <- pyNext it with
 |none=>pure (.done .next)
 | some v =>
  letOwnedTupleGo tg it v
  assign tg env v
  let mut ok:=Zd
  for c in ifs do
   if ok then ok <- isTrue c env (eval c env)
  if ok then em
  again (.compLoop e d it acc env)
noncomputable def zf2 (J:It) (g:TG) (tc:TT) (t:TM) (σ:St) (H:Hp) (Q:St->Hp->Prop):Prop:=∃W:Nat->Nat->St->Hp->Prop,(∃m,W 0 m σ H) /\
 ∀i m σc d,W i m σc d->(J.stop i d/\Q σc d)\/(J.go i d/\∃N:St->Hp->Prop,(∀a c,N a c->∃e,e<m/\W (i+1) e a c)/\∀x c,J.yld i d x c->g x σc c λσ2 h =>
  tc σ2 h λb f=>if b=Zd then t σ2 f N else N σ2 f)
noncomputable def zu9 (w:TI) (cap:List (Option Nat)) (g:TG) (tc:TT) (t:Zh->TM):TE:=λσ H Q=>w σ H λJ b=>∀a,b a=Zb->zf2 J g tc (t a) (capSt cap σ) (upd b a (.lst [])) λ_ c=>Q (.ref a) c
section
theorem zl2
  (E:∀v s,¬ X.xe v s) (U:X.calm=Zd) (ht:compTurn #v[7,10] d (.ref it) acc X.env=zjs #v[7,10] d tg iter ifs em (.ref it) acc X.env)
  (hg:PG X tg g) (hs:PTs X ifs tc) (F:PM X em tm) (I:Inv X pins σ H s) (T:Turn X.prog X.w X.K tg J fp it tn) (st:tn 0 s.heap) (f:∀b∈fp,FpOk X pins H b)
  (hW:zf2 J g tc tm σ H N0)
  (hR:∀a H' s',Inv X pins a H' s'->N0 a H'->R (.ok .next) s'):codeAny #v[2,7] X.A (.compLoop #v[7,10] d (.ref it) acc X.env) R s:=by
 have h:∀{H':Hp},(∀b∈fp,H' b=Zb)->∀b∈fp,FpOk X pins H' b:=λhn b k=>⟨hn b k,(f b k).2⟩;nofun;obtain⟨W,⟨m0,w0⟩,turn⟩:=hW;refine qG ?_;refine codeAny_loop rfl (λn s'=>∃i a H',Inv X pins a H' s'/\tn i s'.heap/\(∀b∈fp,H' b=Zb)/\W i n a H') ?_ m0 ⟨0,σ,H,I,st,λb k=>(f b k).1,w0⟩;rintro n P ⟨i,c,y,O,w,t,w3⟩;refine wpAny_noted ?_;rw[ht];refine Aa (Ew (Aa ?_));rcases turn i n c y w3 with⟨stop,qn⟩|⟨go,N,hN,step⟩
 ·refine Ci (T.done X rfl rfl rfl U i pins P c y (λ_ _=>False) O (h t) w stop) (λr Q ⟨C,I4⟩ => ?_) λ_ _ z=>z.elim;subst C;exact Aj (hR c y Q I4 qn)
 ·refine Ci (T.item X rfl rfl rfl U i pins P c y (λ_ _=>False) O (h t) w go) (λr Q ⟨u,C,h4⟩ => ?_) λ_ _ z=>z.elim;subst C;refine Aa (Ci h4 (λ_ Y ⟨x,M,I5,r5,Z,l,D⟩=>?_) λ_ _ z=>z.elim);have B:=I5.pinned (h D) (T.obj _ _ l);refine Aa (Ci (hg _ Y c M x u _ B r5 (step x M Z)) (λ_ s6 ⟨q,H6,I6,q6⟩=>?_) λv s z=>(E v s z).elim);refine Aa (Ci (hs _ s6 q H6 _ I6 q6) (λok s7 ⟨H7,L,S⟩=>?_) λv s z=>(E v s z).elim);have again:∀{A:Zf}{j:St}{p:Hp},Inv X (pins++zi5 fp Y.heap) j p A->N j p->∃m,m<n/\∃i a H',Inv X pins a H' A/\tn i A.heap/\(∀b∈fp,H' b=Zb)/\W i m a H':=λ{A j p} K nx=>by
   obtain⟨m',F,wx⟩:=hN j p nx;refine⟨m',F,i+1,j,p,K.unpinned,T.keep _ _ _ l λb k o e=>(K.pin (b,o) (Av _ (Av _ (zce k e)))).1,λb k=>?_,wx⟩;obtain⟨o,e,d⟩:=T.obj _ _ l b k;exact (K.pin (b,o) (Av _ (Av _ (zce k e)))).2.1
  cases ok with
  |false=>exact Aj ⟨rfl,again L S⟩
  |true=>exact Aa (Ci (F _ s7 q H7 N L S) (λ_ s8 ⟨σ8,H8,I8,n8⟩=>Aj ⟨rfl,again I8 n8⟩) λv s z=>(E v s z).elim)
noncomputable def zuq (acc:Zh) (te:TE):TM:=λσ H N=>te σ H λy b=>∃a,b acc=Za (.lst a)/\a.length<sizeLine/\N σ (upd b acc (.lst (a++[y])))
noncomputable def yel (elt:Zi) (acc:Ze) (env:Env):Sem Unit:=do let _ <- call (.builtin "list.append") [acc,<-eval elt env]
theorem z5f (l:PE X elt te):PM X (yel elt (.ref acc) X.env) (zuq acc te):=by
 intro pins s σ H N I h;refine Aa (thn (l pins s σ H _ I h) λi c ⟨y,f,a,r,m,n,j,q⟩=>?_);refine Aa (thn (zlo _ c σ f (.ref acc) [y] _ [i] (λ_ k=>N σ k) a rfl (.cons r .nil) ⟨_,m,y,rfl,rfl,n,j,q⟩) λ_ g ⟨_,e,b,_,d⟩=>?_);exact Aj ⟨σ,e,b,d⟩
noncomputable def tTwo (w:TI) (g:TG) (tc:TT) (t:TM):TM:=λσ H N=>w σ H λJ a=>zf2 J g tc t σ a N
noncomputable def z1l (e iter:Zi) (acc:Ze) (env:Env):Sem Unit:=do
 let x <- eval iter env
 standAt iter.pos
 let x <- foldedSetIterable iter env x
 let _ <- runOwn (.compStart e 1 (<- holding [x] (pyIter x)) acc env) env
theorem z3j :
  compTurn #v[5,7] 0 it acc env=zjs #v[5,7] 0 tg iter ifs (z1l #v[5,7] iter2 acc env) it acc env:=by
 unfold zjs z1l;simp only [bind_assoc]
 rfl
theorem zv5
  (b:codeAny (model prog w) A (.compLoop #v[5,7] 1 it acc env) R s)
  (h:wpAny (model prog w) A (pyIter it) (λi s'=>codeAny (model prog w) A (.compLoop #v[5,7] 1 i acc env) R s')
   (notedBy (model prog w) A env λx s'=>R (.error x) s') s) :
  codeAny (model prog w) A (.compStart #v[5,7] 1 it acc env) R s:=by
 refine codeAny_of_tree ?_;refine wpAny_notedAt ?_;refine Aa (wpAny_askSetting (wpAny_ite ?_));split
 ·first
   |exact Aa (Aj (Aj (And.intro rfl b)))
   |exact Aj (And.intro rfl b)
 ·first
   |exact Aa (Dr (Aa (Ew (Aa (Ci h (λi s' a=>Aj (And.intro rfl a)) λ_ _ x=>x)))))
   |(refine Aa (Dr ?_);show wpAny _ _ (standAt iter2.pos>>=_) _ _ s;exact Aa (Ew (Aa (Ci h (λi s' a=>Aj (And.intro rfl a)) λ_ _ x=>x))))
theorem yex (k:∀v s,¬ X.xe v s) (A:X.calm=Zd) (y:PI X tg2 iter2 wi) (u:PG X tg2 g) (l:PTs X ifs2 tc) (z:PE X elt te) (p:∀x,foldedSetIterable iter2 X.env x=pure x) :
  PM X (z1l #v[5,7] iter2 (.ref acc) X.env) (tTwo wi g tc (zuq acc te)):=by
 intro pins s σ H N I h;refine Aa (thn (y pins s σ H _ I h) λv D o=>Aa (Ew (Aa (wpAny_of_eq (p v) (Aa (Ct (thn o λq w i=>?_)))))));nofun;obtain⟨t,fp,E,J,C,e,j,T,c,m,hW⟩:=i;refine qG ?_;subst e;refine Aa (wpAny_runOwn ?_);have loop:codeAny #v[2,7] X.A (.compLoop #v[5,7] 1 (.ref t) (.ref acc) X.env) (λr b=>match r with|.ok f=>(λ_ b=>wpAny #v[2,7] X.A (pure ()) (λ_ b=>∃a d,Inv X pins a d b/\N a d) X.xe b) f b|.error e=>cameBackBy #v[2,7] X.A X.env X.xe e b) w :=
  zl2 k A rfl u l (z5f z) j T c m hW λa d b n B=>Aj ⟨a,d,n,B⟩
 exact zv5 loop (T.self _ 0 _ _ _ c loop)
end
theorem HOk.but (x:HOk P w H h)(f:H a=Zb)(g:Heap.SameBut a h h'):HOk P w H h':=λb o e=>by
 refine (x b o e).stay (λc i d q=>(g.2 c ?_).trans q) (λ_ q=>q) λ_ _ q=>q;rintro rfl;rcases d with rfl|d
 ·rw[f] at e;cases e
 ·rw[f] at d;cases d
section
theorem zje {elt tg iter:Zi}{ifs:List Zi}{gs:List Comprehension}{scope:Scope}{pos:Pos}{d:List (Str×Zh)}{Nc:List Str}{cap:List (Option Nat)}{g:TG}{tc:TT}{em:Ze->Env->Sem Unit}{tm:Zh->TM}{pins:List (Zh×Obj)}{σ:St}{H:Hp}{s:Zf}{it:Zh}{fp:List Zh}{tn:Nat->Heap->Prop}{J:It}{Q:VK}{RR:Ze->Zh->Result->Zf->Prop}{E:Ze->Zf->Prop}
  (hc:X.calm=Zd) (hk:scope.kind=.function) (K:zgx cap Nc X.N scope=Zd) (N:zfp scope X.env.scope=Zd) (O:zew scope=Zd)
  (j:∀it acc env,compTurn #v[6,7] 0 it acc env=zjs #v[6,7] 0 tg iter ifs (em acc env) it acc env)
  (hg:∀d C r q fp,PG (zaw X Nc scope d C r q fp) tg g) (ht:∀d C r q fp,PTs (zaw X Nc scope d C r q fp) ifs tc) (hm:∀d C r q fp acc,PM (zaw X Nc scope d C r q fp) (em (.ref acc) (zaw X Nc scope d C r q fp).env) (tm acc))
  (c1:∀x c,d.lookup x=Za c->X.env.cells.lookup x=Za c) (c2:∀x,(x,NameKind.free)∈scope.names->∃c,d.lookup x=Za c)
  (I2:Inv X pins σ H s) (T:Turn X.prog X.w X.K tg J fp it tn) (l:tn 0 s.heap) (f2:∀b∈fp,FpOk X pins H b)
  (hW:∀acc,H acc=Zb->zf2 J g tc (tm acc) (capSt cap σ) (upd H acc (.lst [])) λ_ Hc=>Q (.ref acc) Hc)
  (hR:∀acc C s' H',(∃m,s'.heap.Ns C m)->(∀h',Heap.SameBut C s'.heap h'->Inv X pins σ H' { s' with heap:=h' })->FpOk X pins H' C->Q (.ref acc) H'->RR (.ref acc) C (.ok .next) s') :
  wpAny #v[2,7] X.A (newList []) (λacc D=>wpAny #v[2,7] X.A (newFunctionEnv scope X.env.globals d [] X.env.qual Zb .none (Za X.env)) (λi F =>
   codeAny #v[2,7] X.A (.compStart #v[6,7] 0 (.ref it) acc { i with scope:=relabel scope X.env }) (RR acc i.locals) F) E D) E s:=by
 refine Dj (zft λB a k t=>?_);have A:=I2.hok.fresh (Af _);have L:Inv X pins σ (upd H s.heap.objs.size (.lst [])) { s with heap:=s.heap.push { cls:=.type "list",dict:=Zb,data:=.seq ([]:List Ze).toArray },toks:=s.toks } :=
  I2.laid (t':=s.toks) (λb u e=>Ad _ e) (Af _) ⟨by simp,[],0,.nil,Ay _ rfl⟩
 have R:=hW s.heap.objs.size A;generalize hH:s.heap.push { cls:=.type "list",dict:=Zb,data:=.seq ([]:List Ze).toArray }=hp at a k t L ⊢;have f3:∀b∈fp,FpOk X pins (upd H s.heap.objs.size (.lst [])) b:=λb h=>by
  obtain⟨o,Y,_⟩:=T.obj _ _ l b h;exact⟨by rw[upd_ne (Bc (Ar Y))];exact (f2 b h).1,(f2 b h).2⟩
 have up:∀b o,s.heap.get? b=Za o->hp.get? b=Za o:=λb o e=>hH ▸ Ad _ e;have M:=zqk (tk:=s.toks) L hk K N O c1 c2 f3 (λb h=>by
  obtain⟨o,Y,_⟩:=T.obj _ _ l b h;exact Ar (up b o Y)) a k t
 have y:=T.keep _ _ _ l λb _ o e=>k b o (up b o e);have loop:codeAny #v[2,7] X.A (.compLoop #v[6,7] 0 (.ref it) (.ref s.heap.objs.size) (compEnvC scope (cellsFrom (hp.objs.size+1) scope.names d) hp.objs.size X.env)) (RR (.ref s.heap.objs.size) hp.objs.size) { s with heap:=B,toks:=s.toks }:=by
  refine zl2 (X:=zaw X Nc scope (cellsFrom (hp.objs.size+1) scope.names d) hp.objs.size { s with heap:=hp,toks:=s.toks } (upd H s.heap.objs.size (.lst [])) fp) (λ_ _ z=>z) hc (j _ _ _) (hg _ _ _ _ _) (ht _ _ _ _ _) (hm _ _ _ _ _ _) M T y
   (λb h=>⟨(f3 b h).1,(M.ok.exf b h).1,M.ok.exfs b h,.inl h,(M.ok.exf b h).2,λp S=>absurd (show p∈([]:List (Zh×Obj)) from S) (by simp)⟩) R λσ5 H5 s6 I qn=>?_
  obtain⟨m6,P,_⟩:=I.loc;have fC:=I.free;refine hR _ _ _ H5 ⟨m6,P⟩ (λh' f=>?_) (L.fpOk (Af _) fC) qn;refine L.call' (s':={ s6 with heap:=h' }) I.os ?_ (I.hok.but fC f) I.bare λb h=>⟨(f3 b h).2.2.2.1,(f3 b h).2.1,(f3 b h).2.2.2.2.1,(f3 b h).2.2.2.2.2⟩;have U:=I.base;have Z:∀b o,hp.get? b=Za o->b≠hp.objs.size:=λb o e=>Bc (Ar e);exact⟨λb o e n h w=>(f.2 b (Z b o e)).trans (U.keep b o e n h w),λb o e n h w=>let ⟨sl,z⟩:=U.slot b o e n h w;⟨sl,(f.2 b (Z b o e)).trans z⟩,U.free,λb o e w=>let ⟨o',z⟩:=U.there b o e w;⟨o',(f.2 b (Z b o e)).trans z⟩,U.tups,U.frzs,U.tbls⟩
 exact codeAny_compStart_list loop (T.self _ 0 _ _ _ y loop)
theorem z60 {elt tg iter:Zi}{ifs:List Zi}{gs:List Comprehension}{scope:Scope}{pos:Pos}{Nc:List Str}{cap:List (Option Nat)}{w:TI}{g:TG}{tc:TT}{em:Ze->Env->Sem Unit}{u:Zh->TM} (R:PI X tg iter w)
  (O:∀c C i f fp,PG (zaw X Nc scope c C i f fp) tg g) (E:∀c C i f fp,PTs (zaw X Nc scope c C i f fp) ifs tc) (o:∀c C i f fp acc,PM (zaw X Nc scope c C i f fp) (em (.ref acc) (zaw X Nc scope c C i f fp).env) (u acc))
  (d:∀it acc env,compTurn #v[6,7] 0 it acc env=zjs #v[6,7] 0 tg iter ifs (em acc env) it acc env)
  (S:X.calm=Zd:=by rfl) (y:scope.kind=.function:=by rfl) (j:zgx cap Nc X.N scope=Zd:=by rfl) (k:zfp scope X.env.scope=Zd:=by rfl) (r:zew scope=Zd:=by rfl)
  (t:(scope.names.all λp=>!(p.2 == NameKind.local) || decide (scope.names.lookup p.1=some .local))=Zd:=by rfl)
  (L:∀x,foldedSetIterable iter X.env x=pure x:=by intro _;rfl):PE X #v[6,7] (zu9 w cap g tc u):=by
 intro pins s σ H Q I h;nofun;obtain⟨c,b,P,N⟩:=zch λx l=>I.ok.has x (zc8 k l);refine qG ?_;have a:∀x∈scope.names,x.2=.local->scope.names.lookup x.1=Za .local:=λx l e=>by
  have q:=Bi.mp t _ l;simpa [e] using q
 refine Ih rfl L b y a (thn (R pins s σ H _ I h) λv Z K=>thn K λM s2 z=>?_);nofun;obtain⟨it,fp,tn,J,Y,e,B,T,n,F,hW⟩:=z;ac_rfl;subst e;refine zje S y j k r d O E o P N B T n F hW ?_;intro acc C U A ⟨m,o⟩ hI hC q;exact⟨m,o,λD p=>⟨.ref acc,A,hI D p,rfl,q⟩⟩
theorem z9d {y:Str}{Z:Pos}{d:Pos}{i:Nat}{elt tg iter:Zi}{ifs:List Zi}{gs:List Comprehension}{scope:Scope}{pos:Pos}{Nc:List Str}{cap:List (Option Nat)}{U:TI}{g:TG}{tc:TT}{em:Ze->Env->Sem Unit}{S:Zh->TM} (hN:X.N.Nodup) (B:X.N[i]?=Za y) (hy:Loc X.env.scope y) (hi:PI X tg iter U)
  (hg:∀k C p n fp,PG (zaw X Nc scope k C p n fp) tg g) (ht:∀k C p n fp,PTs (zaw X Nc scope k C p n fp) ifs tc) (E:∀k C p n fp acc,PM (zaw X Nc scope k C p n fp) (em (.ref acc) (zaw X Nc scope k C p n fp).env) (S acc))
  (l:∀it acc env,compTurn #v[6,7] 0 it acc env=zjs #v[6,7] 0 tg iter ifs (em acc env) it acc env)
  (L:swapsWith #v[6,7] (Za (.Name y Z)) d.line X.env=pure Zd:=by rfl)
  (hc:X.calm=Zd:=by rfl) (Y:scope.kind=.function:=by rfl) (r:zgx cap Nc X.N scope=Zd:=by rfl) (t:zfp scope X.env.scope=Zd:=by rfl) (M:zew scope=Zd:=by rfl)
  (N:(scope.names.all λp=>!(p.2 == NameKind.local) || decide (scope.names.lookup p.1=some .local))=Zd:=by rfl)
  (hs:∀x,foldedSetIterable iter X.env x=pure x:=by intro _;rfl) (hf:X.fn y=Zd\/X.env.scope.names.lookup y=Za .local:=by first|exact .inl rfl|exact .inr rfl|assumption) :
  PS X (.Assign [.Name y Z] #v[6,7] d) (tAsg (zu9 U cap g tc S) (zon i)):=by
 intro pins s σ H D I h;nofun;obtain⟨k,f,c1,c2⟩:=zch λx w=>I.ok.has x (zc8 t w);refine qG ?_;have c:∀x∈scope.names,x.2=.local->scope.names.lookup x.1=Za .local:=λx w e=>by
  have q:=Bi.mp N _ w;simpa [e] using q
 rw[exec_Assign_Name_used _ _ _ _ L];refine Aa (Ew (Aa ?_));refine Aa (Ci (Ih rfl hs f Y c
  (thn (hi pins s σ H _ I h) λv s1 h1=>thn h1 λitv s2 h2=>?_)) (λ_ R hq=>Aj (Aj hq)) λ_ _ e=>e)
 nofun;obtain⟨it,fp,tn,J,H2,e,I2,T,A,f2,hW⟩:=h2;ac_rfl;subst e;refine zje (Q:=λx H1=>D.nx (σ.set i (Za x)) H1) hc Y r t M l hg ht E c1 c2 I2 T A f2 hW ?_;intro acc C R H' ⟨m,E⟩ hI j q;have I':=hI R.heap (.refl ..);refine wpAny_assign_Name (zms I' hN B hy (v:=.ref acc) rfl (λP K ⟨a,F,O⟩=>?_) hf);have ne:C≠a:=by
  rcases O with rfl|O
  ·exact j.2.1
  ·exact λz=>j.2.2.2.2.1 y a O z.symm
 refine⟨m,E.sameBut F ne,λh' u=>⟨_,H',?_,q⟩⟩;exact K.turned (t':=P.toks) (λb o hb e=>(u.2 b hb).trans e) j.1 j.2.1 j.2.2.2.1 j.2.2.2.2.1 j.2.2.2.2.2
end
section
theorem Inv.turnLay {ch:List Zh}{T:Zh}{o:HO} (I:Inv X pins σ H s) (k:∀b o,b ∉ ch->s.heap.get? b=Za o->h'.get? b=Za o) (w:∀b∈ch,∃i,h'.get? b=Za i) (h:∀b∈ch,FpOk X pins H b) (hT:s.heap.objs.size<=T)
  (new:zbn X.prog X.w (upd H T o) h' T o):Inv X pins σ (upd H T o) { s with heap:=h',toks:=t' }:=by
 have g:=I.hok.fresh hT;have ne:∀b u,s.heap.get? b=Za u->b≠T:=λb u e=>Bc (Aw (Ar e) hT);have f:∀b u,H b=Za u->b ∉ ch:=λb u e a=>by rw[(h b a).1] at e;cases e
 refine I.step (g':=s.gens) (d':=s.drawn) (λb a=>⟨(h b a).2.2.2.1,(h b a).2.1,(h b a).2.2.2.2.1,(h b a).2.2.2.2.2⟩) (λb o _ _ d e _=>k b o d e) (λb o _ _ d e _=>⟨o.slots,k b o d e⟩) (λb u _ e n=>by rw[upd_ne (ne b u e)];exact n)
  (λb u d e=>⟨u,k b u d e⟩) (λb x e=>by rw[upd_ne (zae e g)];exact e) (λb u x e=>by rw[upd_ne (zae e g)];exact e) (λb y e=>⟨#[],by rw[upd_ne (zae e g),e];simp⟩) (λm j=>?_) (λb u e=>?_) I.bare
 ·obtain⟨o,p,t,l,r⟩:=j;exact⟨o,p,t,k _ o (λz=>(h _ z).2.1 rfl) l,r⟩
 ·by_cases a:b=T
  ·subst a;rw[upd_same] at e;obtain rfl:=sI e;exact new
  ·rw[upd_ne a] at e;refine (I.hok b u e).stay (λc v d q=>k c v ?_ q) (λc q=>by rw[upd_ne (zae q g)];exact q) λc x q=>by rw[upd_ne (zae q g)];exact q
   rcases d with z|z
   ·rw[z];exact f b u e
   ·exact f c _ z
theorem Inv.turnL {h':Heap}{t':Nat}{ch:List Zh}(I:Inv X pins σ H s)(k:∀b o,b ∉ ch->s.heap.get? b=Za o->h'.get? b=Za o)(h:∀b∈ch,FpOk X pins H b):Inv X pins σ H { s with heap:=h',toks:=t' }:=by
 have f:∀b u,H b=Za u->b ∉ ch:=λb u e d=>by rw[(h b d).1] at e;cases e
 refine I.step (g':=s.gens) (d':=s.drawn) (λb d=>⟨(h b d).2.2.2.1,(h b d).2.1,(h b d).2.2.2.2.1,(h b d).2.2.2.2.2⟩) (λb o _ _ a e _=>k b o a e) (λb o _ _ a e _=>⟨o.slots,k b o a e⟩) (λb u _ e n=>n)
  (λb u a e=>⟨u,k b u a e⟩) (λb x e=>e) (λb u x e=>e) (λb p e=>⟨#[],by rw[e];simp⟩) (λm g=>?_) (λb u e=>?_) I.bare
 ·obtain⟨o,j,l,i,r⟩:=g;exact⟨o,j,l,k _ o (λz=>(h _ z).2.1 rfl) i,r⟩
 ·refine (I.hok b u e).stay (λc v a q=>k c v ?_ q) (λc q=>q) λc x q=>q;rcases a with z|z
  ·rw[z];exact f b u e
  ·exact f c _ z
end
noncomputable def Ite (K:Zg) (a:Zh):It :=
 ⟨λi H=>∃b x,SqL K H a b/\b[i]?=Za x,λi H x c=>∃p v,x=.ref p/\H p=Zb/\c=upd H p (.tup [.int i,v])/\∀b,SqL K H a b->b[i]?=Za v,λi H=>∃b,SqL K H a b/\b.length<=i⟩
theorem zwv {K:Zg}{es:List Zi}{x1}{px:Pos}(a e it:Zh)(B:e≠it):Turn P w K (.Tuple es x1 px) (Ite K a) [e,it] e (λi h=>(∃g,IsEnum h e it i g)/\h.IsListIter it a i) where
 mem:=by simp
 obj:=λi h m b f=>by
  nofun;obtain⟨⟨g,n⟩,o,hi,c,d⟩:=m;refine qG ?_;rcases Ao.mp f with rfl|f
  ·exact⟨_,n,λv z=>by cases z⟩
  ·have:b=it:=by simpa using f
   subst this;exact⟨o,hi,λv z=>by rw[d] at z;cases z⟩
 keep:=λi h S m k=>⟨let ⟨g,n⟩:=m.1;⟨g,k e (by simp) _ n⟩,m.2.at λo z=>k it (by simp) o z⟩
 item:=by
  intro X J O hK Y i pins s σ H E I F m M;subst J O hK;nofun;obtain⟨xs,x,D,L⟩:=M;obtain⟨R,N,p,hz⟩:=I.list D;obtain⟨u,hu,ru⟩:=N.get L;obtain⟨⟨g,n⟩,r⟩:=m;ac_rfl;refine wpAny_pyNext_enum_item n r p.isList (by simpa using hu) B λS ho C hT hsz hk=>⟨_,rfl,?_⟩;refine wpAny_letOwnedTupleGo_enum ho λQ t l=>?_;have kk:∀b o,b ∉ [e,it]->s.heap.get? b=Za o->Q.get? b=Za o:=λb o f q=>by
   have U:b≠e:=λz=>f (by simp [z]);have Z:b≠it:=λz=>f (by simp [z]);exact (l.2 b U).trans (hk b o U Z q)
  have A:s.heap.objs.size≠e:=λz=>absurd (Ar n) (by rw[z];exact Cj _);have j:=C.at λo y=>(l.2 it B.symm).trans y;refine⟨.ref s.heap.objs.size,upd H s.heap.objs.size (.tup [.int i,x]),I.turnLay kk (λb f=>?_) F (Af _) ⟨by show 2<=sizeLine;decide,[.int i s.toks,u],.cons ⟨_,rfl⟩ (.cons ru .nil),?_⟩,rfl,⟨_,x,rfl,I.hok.fresh (Af _),rfl,λys hy=>by rw[I.list_inj hy D];exact L⟩,⟨⟨_,by simpa using t⟩,j⟩,λb f=>?_⟩
  ·rcases Ao.mp f with rfl|f
   ·exact⟨_,t⟩
   ·have:b=it:=by simpa using f
    subst this;obtain⟨o,z,_⟩:=j;exact⟨o,z⟩
  ·exact⟨_,(l.2 _ A).trans hT,⟨rfl,_,rfl⟩,rfl⟩
  ·have:b≠s.heap.objs.size:=by
    rcases Ao.mp f with rfl|f
    ·exact A.symm
    ·have e2:b=it:=by simpa using f
     subst e2;obtain⟨o,z,_⟩:=r;exact Bc (Ar z)
   rw[upd_ne this];exact (F b f).1
 done:=by
  intro X J O hK Y i pins s σ H E I F m M;subst J O hK;nofun;obtain⟨xs,D,L⟩:=M;obtain⟨R,N,p,hz⟩:=I.list D;obtain⟨⟨g,n⟩,r⟩:=m;obtain⟨f0,f1,f2,f3,f4,f5⟩:=F it (by simp);ac_rfl;have hl:=N.length;exact wpAny_pyNext_enum_end (I.ok.hd Y) n r p.isList (Fs (by simp;symm)) λS eb=>⟨rfl,I.turned (t':=s.toks) (λb o f e=>eb b o f e) f0 f1 f3 f4 f5⟩
 self:=λ_ _ _ _ _ m h=>let ⟨_,n⟩:=m.1;Ib n h
section
end
section
end
section
variable {κ:Type} [DecidableEq κ]
noncomputable def valV (kvs:List (κ×V)) (k:κ):Option V:=(kvs.find? λa=>decide (a.1=k)).map (·.2)
noncomputable def putK (kvs:List (κ×V)) (k:κ) (v:V):List (κ×V) :=
 if (kvs.any λa=>decide (a.1=k))=Zd then kvs.map (λa=>if a.1=k then (a.1,v) else a) else kvs++[(k,v)]
theorem zkg {r:List (κ×V)}{k:κ}(e:p.1=k):valV (p::r) k=Za p.2:=by simp [valV,Ey,e]
theorem zj1 {p:κ×V}{r:List (κ×V)}{k:κ}(e:¬ p.1=k):valV (p::r) k=valV r k:=by simp [valV,Ey,e]
theorem zn9 (kvs:List (κ×V))(k:κ)(v:V):(putK kvs k v).length<=kvs.length+1:=by
 unfold putK;split
 ·rw[Ac];symm
 ·rw[Bb,Bg,Gi];symm
theorem KV.val {kvs:List (κ×V)}{vs:List (κ×Ze)} (r:KV kvs vs) (k:κ):RelO (valV kvs k) (valueAt vs k):=by
 unfold KV at r
 induction r with
 |nil=>exact True.intro
 | @cons p q g c h t i =>
  obtain⟨d,f⟩:=h;by_cases e:p.1=k
  ·have a:q.1=k:=d.symm.trans e
   have b:valueAt (q::c) k=Za q.2:=by simp [valueAt,Ey,a]
   rw[zkg e,b];exact f
  ·have a : ¬ q.1=k:=λz=>e (d.trans z)
   have b:valueAt (q::c) k=valueAt c k:=by simp [valueAt,Ey,a]
   rw[zj1 e,b];exact i
theorem KV.any (r:KV kvs vs)(k:κ):(kvs.any λa=>decide (a.1=k))=vs.any λa=>decide (a.1=k):=by
 unfold KV at r
 induction r with
 |nil=>rfl
 |cons h t i=>rw[Dd,Dd,i,h.1]
theorem KV.repl (r:KV kvs vs) (k:κ) (d:RelV y u) :
  KV (kvs.map λa=>if a.1=k then (a.1,y) else a) (vs.map λa=>if a.1=k then (a.1,u) else a):=by
 unfold KV at r ⊢
 induction r with
 |nil=>exact .nil
 | @cons p q f g h t i =>
  rw[Ax,Ax];refine .cons ?_ i;obtain⟨b,c⟩:=h;by_cases e:p.1=k
  ·rw[if_pos e,if_pos (b.symm.trans e)];exact⟨b,d⟩
  ·rw[if_neg e,if_neg (λz=>e (b.trans z))];exact⟨b,c⟩
theorem KV.put (r:KV kvs vs)(k:κ)(a:RelV y u):KV (putK kvs k y) (stored vs k u):=by
 unfold putK stored;rw[r.any k];by_cases e:(vs.any λb=>decide (b.1=k))=Zd
 ·rw[if_pos e,if_pos e];exact r.repl k a
 ·rw[if_neg e,if_neg e];exact Paired.snoc r ⟨rfl,a⟩
theorem KV.length (r:KV kvs vs):kvs.length=vs.length:=Paired.length r
end
theorem ya3 (r:RelV (kV k) u):(zca P w).is k u=Zd:=by
 cases k with
 |inl i=>obtain⟨t,e⟩:=(show ∃t,u=Ze.int i t from r);subst e;exact zp6 P w i t
 |inr x=>obtain⟨t,e⟩:=(show ∃t,u=Ze.str x t from r);subst e;exact zpr P w x t
theorem zlr:∀{a:List Key}{us:List Ze},Vals (a.map kV) us->ItemsAre (zca P w) a us
 |[],_,r=>by rw[List.map_nil] at r;cases r;exact .nil
 | k::a,_,r=>by
  rw[Ax] at r;cases r with
  |cons h t=>exact .cons (ya3 h) (zlr t)
noncomputable abbrev KT (H:Hp):List (List Key×V)->List (List Key×Zh×Ze)->Prop:=Paired λp q=>p.1=q.1/\H q.2.1=Za (.tup (p.1.map kV))/\RelV p.2 q.2.2
theorem KT.val {kvs:List (List Key×V)}{xs:List (List Key×Zh×Ze)} (r:KT H kvs xs) (k:List Key):RelO (valV kvs k) ((atKey xs k).map (·.2)):=by
 induction r with
 |nil=>exact True.intro
 | @cons p q g c h t i =>
  obtain⟨d,_,f⟩:=h;by_cases e:p.1=k
  ·have a:q.1=k:=d.symm.trans e
   have b:atKey (q::c) k=Za q.2:=by simp [atKey,Ey,a]
   rw[zkg e,b];exact f
  ·have a : ¬ q.1=k:=λz=>e (d.trans z)
   have b:atKey (q::c) k=atKey c k:=by simp [atKey,Ey,a]
   rw[zj1 e,b];exact i
section
theorem yeu (ok:HOk P w H h)(e:Rd H a u):zbn P w H h a u:=e.ok ok
theorem dk_rd (ok:HOk P w H h)(e:Rd H a (.dK kvs)):kvs.length<=sizeLine/\(a==sysModules)=Zc/\∃vs,KV kvs vs/\h.DictOf (zca P w) a vs :=
 show zbn P w H h a (.dK kvs) from yeu ok e
theorem yg8 (ok:HOk P w H h)(e:H a=Za (.dK kvs)):kvs.length<=sizeLine/\(a==sysModules)=Zc/\∃vs,KV kvs vs/\h.DictOf (zca P w) a vs:=dk_rd ok (.inl e)
theorem z52 (ok:HOk P w H h)(e:H a=Za (.tup (ks.map kV))):(tupleKind (zca P w)).is h ks a:=by
 obtain⟨_,i,r,o,d,⟨b,n,c⟩,_⟩:=(show zbn P w H h a (.tup (ks.map kV)) from ok a _ e);exact⟨o,i.toArray,n,d,b,c,by simpa using zlr r⟩
theorem dt_rd (ok:HOk P w H h) (e:Rd H a (.dT kvs)):kvs.length<=sizeLine/\(a==sysModules)=Zc /\
  ∃xs,KT H kvs xs/\h.DictOfH (tupleKind (zca P w)) a xs:=by
 obtain ⟨z,y,xs,r,o,s,j,n,d,f,g,i⟩:=(show zbn P w H h a (.dT kvs) from yeu ok e);refine ⟨z,y,xs,r,o,s,j,n,d,f,g,λx b=>?_,i⟩;have all:∀{l:List (List Key×V)}{m:List (List Key×Zh×Ze)},KT H l m->∀x∈m,(tupleKind (zca P w)).is h x.1 x.2.1:=by
  intro l m q
  induction q with
  |nil=>intro x b;exact nomatch b
  | @cons p q u v c t k =>
   intro x b;rcases Ao.mp b with e|b
   ·subst e
    exact z52 ok (by rw[<-c.1];exact c.2.1)
   ·exact k x b
 exact all r x b
end
noncomputable def DGet (H:Hp) (a:Zh) (y:V) (r:Option V):Prop :=
 (∃kvs k,Rd H a (.dK kvs)/\y=kV k/\r=valV kvs k)\/∃kvs k b,Rd H a (.dT kvs)/\y=.ref b/\H b=Za (.tup (k.map kV))/\r=valV kvs k
section
theorem Inv.big (I:Inv X pins σ H s):sysModules<s.heap.objs.size:=by
 have h:mainGlobals<s.heap.objs.size:=(I.mod.glob.keeps I.bk).lt;exact Nat.lt_trans #v[0,9] h
theorem z0c (x:A.units+1<cLine) (I:Inv X pins σ H s) (g:DGet H a y (Za v)) (m:RelV y u) (h:∀w s',Inv X pins σ H s'->RelV v w->Q w s') :
  wpAny #v[2,7] A (getItem (.ref a) u) Q E s:=by
 rcases g with⟨kvs,k,e,d,l⟩|⟨kvs,k,b,e,d,q,l⟩
 ·subst d;obtain⟨z,n,t,c,j⟩:=dk_rd I.hok e;obtain⟨w,f,r⟩:=RelO.some_of (v:=v) (o:=valueAt t k) (by rw[l];exact c.val k);exact wpAny_getItem_of (ya3 m) j.mapOf f (h w _ (I.tok _) r)
 ·subst d;cases (show u=Ze.ref b from m);obtain⟨z,n,C,c,j⟩:=dt_rd I.hok e;obtain⟨w,f,r⟩:=RelO.some_of (v:=v) (o:=(atKey C k).map (·.2)) (by rw[l];exact c.val k);obtain⟨p,B,i⟩:=Option.map_eq_some_iff.mp f;refine wpAny_getItem_heap (tupleKind_room_in1 x) (z52 I.hok q) j B ?_;rw[i];exact h w _ (I.tok _) r
theorem z9r (I:Inv X pins σ H s) (m:Mut (H a)) (d:Heap.SameBut a s.heap h') (c:∃q,h'.get? a=Za q) (new:zbn X.prog X.w (upd H a ob) h' a ob) :
  Inv X pins σ (upd H a ob) { s with heap:=h',toks:=t' } :=
 I.write (x:=a) (e:=a) m (.inl rfl) (λb q h z=>(d.2 b h).trans z) c new
theorem yda (z:kvs.length<=sizeLine) (h:(a==sysModules)=Zc) (r:KV kvs vs) (d:h'.DictOf (zca P w) a vs) :
 zbn P w H' h' a (.dK kvs):=⟨z,h,vs,r,d⟩
end
section
end
theorem zp8 (I:Inv X pins σ H s)(g:DGet H a y o):s.TypeIs (.ref a) "dict" := by
 rcases g with⟨kvs,k,e,_,_⟩|⟨kvs,k,b,e,_,_,_⟩
 ·obtain⟨_,_,v,_,d⟩:=dk_rd I.hok e;exact d.typeIs
 ·obtain⟨_,_,x,_,d⟩:=dt_rd I.hok e;exact d.typeIs
section
end
theorem z4z (h:Heap)(a:sysModules<h.objs.size):zbn P w H (h.push { cls:=.type "dict",data:=.dict #[] }) h.objs.size (.dK []) :=
 ⟨Bm _,Ge.mpr (Ne.symm (Bc a)),[],.nil,Heap.DictOf.new h⟩
section
end
section
end
section
end
section
end
section
end
section
variable {X:Cx}
theorem ycz {bs:List Bool}{a:List Ze}{i:Nat}{v:Ze}(r:Vals (bs.map V.bl) a)(h:a[i]?=Za v):∃b,bs[i]?=Za b/\v=.bool b:=by
 have d:=r.length;rw[Ac] at d;have c:i<bs.length:=by rw[d];exact (Ap.mp h).1
 obtain⟨u,e,f⟩:=r.get (by rw[Ak,Ab c];rfl);rw[h] at e;obtain rfl:=sI e;exact⟨bs[i],Ab c,f⟩
theorem zj8 {bs:List Bool}(h:i<bs.length):bs.getD i Zc=bs[i]:=by rw[Au,Ab h];rfl
theorem zzd (bs:List Bool):((List.range bs.length).any λi=>bs.getD i Zc)=bs.any id:=by
 rw[Ej,Gd,Gd];constructor
 ·rintro ⟨i,a,h⟩;rw[Az] at a;refine⟨bs[i],Ff a,?_⟩;rw[zj8 a] at h;exact h
 ·rintro ⟨b,c,h⟩;obtain⟨i,a,e⟩:=Dm.mp c;refine⟨i,Az.mpr a,?_⟩;rw[zj8 a,e];exact h
theorem zzl (bs:List Bool):((List.range bs.length).all λi=>bs.getD i Zc)=bs.all id:=by
 rw[Ej,Bi,Bi];constructor
 ·intro h b c;obtain⟨i,a,e⟩:=Dm.mp c;have:=h i (Az.mpr a);rw[zj8 a,e] at this;exact this
 ·intro h i a;rw[Az] at a;rw[zj8 a];exact h _ (Ff a)
theorem zsq {A:Around}{bs:List Bool}{a:List Ze}(r:Vals (bs.map V.bl) a):TruthOf P w A (λi v=>a.toArray[i]?=Za v) (λi=>bs.getD i Zc):=λi v s Q E f d=>by
 obtain⟨b,c,e⟩:=ycz r (by simpa using f);subst e;have:bs.getD i Zc=b:=by rw[Au,c];rfl
 have h:Q (bs.getD i Zc) s:=d;rw[this] at h;exact Di h
theorem z4v (l:X.calm=Zd):zfz X (.builtin "any") (λxs H Q=>∃(a:Zh) (bs:List Bool),xs=[.ref a]/\SqL X.K H a (bs.map V.bl)/\Q (.bl (bs.any id)) H):=by
 intro pins s σ H xs n Q I r h;obtain⟨a,bs,rfl,f,q⟩:=h;obtain⟨u,rfl,k⟩:=vals1 r;cases k;obtain⟨i,d,p,v⟩:=I.list f;have g:=d.length;rw[Ac] at g;have j:a<s.heap.objs.size:=by obtain⟨o,e,_⟩:=p.isList;exact Ar e
 refine call_any_walk (Fc p.isList ?_);refine⟨s.heap.objs.size,_,[s.heap.objs.size],i.toArray.size,_,_,_,rfl,Walks.list (show X.A.in1.handled=Zb from I.ok.hd l) _ a (Bc j) i.toArray,⟨⟨_,Ay _ rfl,rfl,rfl⟩,p.isList.push _⟩,zsq d,λw t m=>?_⟩;have e:i.toArray.size=bs.length:=by simp;symm
 rw[e,zzd];refine⟨.bl _,H,I.kept λb o c=>?_,rfl,q⟩;exact m b o (by intro z;rw[As] at z;subst z;exact absurd (Ar c) (Cj _)) (Ad _ c)
theorem z1g (l:X.calm=Zd):zfz X (.builtin "all") (λxs H Q=>∃(a:Zh) (bs:List Bool),xs=[.ref a]/\SqL X.K H a (bs.map V.bl)/\Q (.bl (bs.all id)) H):=by
 intro pins s σ H xs n Q I r h;obtain⟨a,bs,rfl,f,q⟩:=h;obtain⟨u,rfl,k⟩:=vals1 r;cases k;obtain⟨i,d,p,v⟩:=I.list f;have g:=d.length;rw[Ac] at g;have j:a<s.heap.objs.size:=by obtain⟨o,e,_⟩:=p.isList;exact Ar e
 refine call_all_walk (Fc p.isList ?_);refine⟨s.heap.objs.size,_,[s.heap.objs.size],i.toArray.size,_,_,_,rfl,Walks.list (show X.A.in1.handled=Zb from I.ok.hd l) _ a (Bc j) i.toArray,⟨⟨_,Ay _ rfl,rfl,rfl⟩,p.isList.push _⟩,zsq d,λw t m=>?_⟩;have e:i.toArray.size=bs.length:=by simp;symm
 rw[e,zzl];refine⟨.bl _,H,I.kept λb o c=>?_,rfl,q⟩;exact m b o (by intro z;rw[As] at z;subst z;exact absurd (Ar c) (Cj _)) (Ad _ c)
theorem z3h:zfz X (.builtin "isinstance") (λxs H Q=>∃x t c b,xs=[x,.ty c]/\TyOf X.K H x t/\PySem.W.kitOne X.K t (.type c)=Za b/\Q (.bl b) H):=by
 intro pins s σ H xs i Q I r h;nofun;obtain⟨x,t,c,b,rfl,a,e,q⟩:=h;refine qG ?_;cases r with
 | cons g f =>
  obtain⟨u,rfl,d⟩:=vals1 f;cases (show u=Ze.type c from d);exact zzs I g a e λj=>⟨.bl b,H,I.tok _,rfl,q⟩
theorem zxd:OpR X (compareOp .IsNot) (λx y H Q=>∃b,y=.bl b/\Q (.bl (!decide (x=.bl b))) H):=by
 intro pins s σ H x y v u Q I r a h;obtain⟨b,rfl,q⟩:=h;cases a;cases x with
 |bl c=>cases r;exact Eo rfl (zal I q (by cases b<;>cases c<;>rfl))
 |non=>cases r;exact Eo rfl (zal I q (by cases b<;>rfl))
 |ref _=>cases r;exact Eo rfl (zal I q (by cases b<;>rfl))
 |ty _=>cases r;exact Eo rfl (zal I q (by cases b<;>rfl))
 |int _=>obtain⟨t,e⟩:=r;subst e;exact Eo rfl (zal I q (by cases b<;>rfl))
 |str _=>obtain⟨t,e⟩:=r;subst e;exact Eo rfl (zal I q (by cases b<;>rfl))
 |byt _=>obtain⟨t,e⟩:=r;subst e;exact Eo rfl (zal I q (by cases b<;>rfl))
 |flt _=>obtain⟨t,e⟩:=r;subst e;exact Eo rfl (zal I q (by cases b<;>rfl))
end
noncomputable def yfv (i j:Int):Prop:=Builtin.Int.intBits i<=2^20/\Builtin.Int.intBits j<=2^20
theorem z72:OpR X (binaryOp .Mult) (rI yfv λi j=>.int (i*j)):=opI λ_ _ _ _ _ _ _ h q=>mul_int q (IntMulOk.of_bits h.1 h.2)
structure Cal (P:Program) (w:World) (K:Zg) (mg:Str->Option Ze) (base:Heap) (n:Nat) (x:Str) (ps:List Str) (sp:Sp):Prop where
 ex:∃f fd,FnOk P w K mg base CX0 n f fd ps sp/\zn7 K fd ps []/\PySem.W.keepIn K (.ref f)=Zd/\mg x=Za (.ref f)
theorem yf6 (C:Cal X.prog X.w X.K X.mg X.base n x ps sp) (d:Room k X.A) (c:Gl X x) (g:PA X (e::es) t) (l:n<=k:=by decide)
  (h:(x==("__debug__" : Str))=Zc:=by decide) (i:starEach (e::es) X.env=(Zc,eval e X.env)::starEach es X.env:=by rfl) (a:(backTo pos (starEach es X.env)).any (·.1)=Zc:=by rfl) :
  PE X (.Call (.Name x p) (e::es) [] pos) (z9w sp [] E0 t):=by
 nofun;obtain⟨f,o,F,b,j,m⟩:=C.ex;refine qG ?_;exact ya2 F (d.mono l) c m j b .nil yd6 g h i a
theorem Same.new (h:H p=Zb)(o:HO):Same H (L2.upd H p o):=λb u e=>by rw[upd_ne (zae e h)];exact e
theorem SqL.of' {K:Zg}(h:H a=Za (.lst xs)):SqL K H a xs:=.inl (.inl h)
noncomputable def MM:Int:=2305843009213693951
noncomputable def big:Nat:=1099511627776
noncomputable def Bits (xs:List Int):Prop:=∀x∈xs,x=0\/x=1
noncomputable def wordOf (xs:List Int):Int:=xs.foldr (λb a=>2*a+b) 0
theorem z56:bootBuiltins "len" = Za (.builtin "len"):=by decide +kernel
theorem ycf:bootBuiltins "abs" = Za (.builtin "abs"):=by decide +kernel
theorem yfc:bootBuiltins "any" = Za (.builtin "any"):=by decide +kernel
theorem yd8:bootBuiltins "all" = Za (.builtin "all"):=by decide +kernel
theorem zko:bootBuiltins "isinstance" = Za (.builtin "isinstance"):=by decide +kernel
theorem z6q:bootBuiltins "int" = Za (.type "int"):=by decide +kernel
theorem z7p:bootBuiltins "bool" = Za (.type "bool"):=by decide +kernel
theorem ycg:bootBuiltins "str" = Za (.type "str"):=by decide +kernel
theorem zq0:bootBuiltins "tuple" = Za (.type "tuple"):=by decide +kernel
theorem z76:bootBuiltins "list" = Za (.type "list"):=by decide +kernel
theorem z10 {w:Int}{i:Nat}(a:0<w)(h:w<=2^(200*i)):0<w*10^60/\w*10^60<=2^(200*(i+1)):=by
 have e:(2:Int)^(200*(i+1))=2^(200*i)*2^200:=by rw[Nat.mul_add,Int.pow_add]
 refine⟨Int.mul_pos a #v[0,9],?_⟩;symm
theorem zk8 (c:0<=w)(h:w<=2^(200*i))(d:i<=63):Builtin.Int.intBits w<=2^20:=by
 have b:(2:Int)^(200*i)<2^(200*i+1):=by rw[Int.pow_succ];have:(0:Int)<2^(200*i):=Int.pow_pos #v[0,9];symm
 have a:w.natAbs<2^(200*i+1):=by
  have:((w.natAbs:Nat):Int)<((2^(200*i+1):Nat):Int):=by
   have e:((w.natAbs:Nat):Int)=w:=by symm
   rw[e];exact Int.lt_of_le_of_lt h b
  exact Int.ofNat_lt.mp this
 have:=PyProof.Rows.intBits_le a;symm
theorem zdt:∀{xs:List Int},Bits xs->0<=wordOf xs/\wordOf xs<2^xs.length
 |[],_=>by decide
 | x::r,h=>by
  have b:=h x An;have i:=zdt λy a=>h y (Ai _ a);show 0<=2*wordOf r+x/\2*wordOf r+x<2^(r.length+1);symm
noncomputable def zah:Zi->Bool
 |.Starred ..=>Zc
 |_=>Zd
theorem zak (h:zah e=Zd):starEach (e::es) env=(Zc,eval e env)::starEach es env:=by
 cases e<;>first|rfl|(cases h)
theorem pac (b:PE X e te)(a:PA X es t)(h:zah e=Zd:=by rfl):PA X (e::es) (zgp te t):=zoh b a (zak h)
end L2
namespace L2
theorem noSome {α:Type}{a:α}{P:Prop}(h:Zb=Za a):P:=by cases h
open PySem PySem.Spec PyProof.Rows
noncomputable abbrev DKey:=Key ⊕ List Key
inductive W where
 |non|bl (b:Bool)|int (i:Int)|str (x:Str)|tup (xs:List W)|lst (xs:List W)|frl (xs:List W)|dic|dct (ks:List DKey) (vs:List W)|dcz (ks:List DKey) (vs:List W)
 deriving BEq,Inhabited
mutual
inductive Rep (K:Zg) (F:Hp):W->V->Prop where
 |non:Rep K F .non .non
 |bl (b:Bool):Rep K F (.bl b) (.bl b)
 |int (i:Int):Rep K F (.int i) (.int i)
 |str (x:Str):Rep K F (.str x) (.str x)
 |tup {ws:List W}{a:Zh}{vs:List V} (h:F a=Za (.tup vs)) (r:Reps K F ws vs):Rep K F (.tup ws) (.ref a)
 |lst {ws:List W}{a:Zh}{vs:List V} (h:F a=Za (.lst vs)) (r:Reps K F ws vs):Rep K F (.lst ws) (.ref a)
 |frl {ws:List W}{a:Zh}{vs:List V} (h:SqL K F a vs) (r:Reps K F ws vs):Rep K F (.frl ws) (.ref a)
 |dic {a:Zh}{kvs:List (Key×V)} (h:F a=Za (.dK kvs)):Rep K F .dic (.ref a)
 |dct {a:Zh}{ks:List Key}{ws:List W}{vs:List V} (h:F a=Za (.dK (ks.zip vs))) (hl:ks.length=vs.length) (r:Reps K F ws vs):Rep K F (.dct (ks.map .inl) ws) (.ref a)
 |dctT {a:Zh}{ks:List (List Key)}{ws:List W}{vs:List V} (h:F a=Za (.dT (ks.zip vs))) (hl:ks.length=vs.length) (r:Reps K F ws vs):Rep K F (.dct (ks.map .inr) ws) (.ref a)
 |dcz {a:Zh}{o:Obj}{ks:List Key}{ws:List W}{vs:List V} (h:F a=Za (.frz o (.dK (ks.zip vs)))) (hl:ks.length=vs.length) (r:Reps K F ws vs):Rep K F (.dcz (ks.map .inl) ws) (.ref a)
 |dczT {a:Zh}{o:Obj}{ks:List (List Key)}{ws:List W}{vs:List V} (h:F a=Za (.frz o (.dT (ks.zip vs)))) (hl:ks.length=vs.length) (r:Reps K F ws vs):Rep K F (.dcz (ks.map .inr) ws) (.ref a)
inductive Reps (K:Zg) (F:Hp):List W->List V->Prop where
 |nil:Reps K F [] []
 |cons {w:W}{v:V}{ws:List W}{vs:List V} (h:Rep K F w v) (r:Reps K F ws vs):Reps K F (w::ws) (v::vs)
end
theorem zd3 {α:Type}{l:List α}{i j:Nat}{x y:α}(a:i<l.length)(h:(l.set i x)[j]?=Za y):(j=i/\y=x)\/(j≠i/\l[j]?=Za y):=by
 by_cases e:j=i
 ·subst e;rw[Em a] at h;exact .inl ⟨rfl,(sI h).symm⟩
 ·rw[Dn (Ne.symm e)] at h;exact .inr ⟨e,h⟩
theorem z4l {α:Type}{l:List α}{i:Nat}{x:α}(h:l[i]?=Za x):l.set i x=l:=by
 apply Ea;intro j;by_cases e:j=i
 ·subst e;rw[Em (Ap.mp h).1,h]
 ·rw[Dn (Ne.symm e)]
section
variable {K:Zg}
mutual
theorem Rep.mono (s:Same F F'):∀{w:W}{v:V},Rep K F w v->Rep K F' w v
 |_,_,.non=>.non
 |_,_,.bl b=>.bl b
 |_,_,.int i=>.int i
 |_,_,.str x=>.str x
 |_,_,.tup h r=>.tup (s _ _ h) (Reps.mono s r)
 |_,_,.lst h r=>.lst (s _ _ h) (Reps.mono s r)
 |_,_,.frl h r=>.frl (s.seq h) (Reps.mono s r)
 |_,_,.dic h=>.dic (s _ _ h)
 |_,_,.dct h a r=>.dct (s _ _ h) a (Reps.mono s r)
 |_,_,.dctT h a r=>.dctT (s _ _ h) a (Reps.mono s r)
 |_,_,.dcz h a r=>.dcz (s _ _ h) a (Reps.mono s r)
 |_,_,.dczT h a r=>.dczT (s _ _ h) a (Reps.mono s r)
theorem Reps.mono (s:Same F F'):∀{ws:List W}{vs:List V},Reps K F ws vs->Reps K F' ws vs
 |_,_,.nil=>.nil
 |_,_,.cons h r=>.cons (Rep.mono s h) (Reps.mono s r)
end
theorem Reps.length:∀{ws:List W}{vs:List V},Reps K F ws vs->ws.length=vs.length
 |_,_,.nil=>rfl
 |_,_,.cons _ r=>congrArg (· + 1) (Reps.length r)
theorem Reps.get:∀{ws:List W}{vs:List V}{i:Nat}{w:W},Reps K F ws vs->ws[i]?=Za w->∃v,vs[i]?=Za v/\Rep K F w v
 |_,_,_,_,.nil,e=>by simp at e
 |_,_,0,_,.cons h _,e=>by simp at e;subst e;exact⟨_,rfl,h⟩
 | _,_,i+1,w,.cons _ r,e=>by
  obtain⟨v,a,b⟩:=Reps.get r (by simpa using e);exact⟨v,by simpa using a,b⟩
theorem Reps.getV:∀{ws:List W}{vs:List V}{i:Nat}{v:V},Reps K F ws vs->vs[i]?=Za v->∃w,ws[i]?=Za w/\Rep K F w v
 |_,_,_,_,.nil,e=>by simp at e
 |_,_,0,_,.cons h _,e=>by simp at e;subst e;exact⟨_,rfl,h⟩
 | _,_,i+1,v,.cons _ r,e=>by
  obtain⟨w,a,b⟩:=Reps.getV r (by simpa using e);exact⟨w,by simpa using a,b⟩
theorem Reps.append:∀{xs ys:List W}{us ws:List V},Reps K F xs us->Reps K F ys ws->Reps K F (xs++ys) (us++ws)
 |_,_,_,_,.nil,s=>s
 |_,_,_,_,.cons h r,s=>.cons h (Reps.append r s)
theorem Reps.take:∀{xs:List W}{us:List V} (n:Nat),Reps K F xs us->Reps K F (xs.take n) (us.take n)
 |_,_,0,_=>.nil
 |_,_,_+1,.nil=>.nil
 |_,_,n+1,.cons h r=>.cons h (Reps.take n r)
theorem Reps.drop:∀{xs:List W}{us:List V} (n:Nat),Reps K F xs us->Reps K F (xs.drop n) (us.drop n)
 |_,_,0,r=>r
 |_,_,_+1,.nil=>.nil
 |_,_,n+1,.cons _ r=>Reps.drop n r
theorem Reps.set (h:Rep K F w v):∀{xs:List W}{us:List V} (i:Nat),Reps K F xs us->Reps K F (xs.set i w) (us.set i v)
 |_,_,_,.nil=>.nil
 |_,_,0,.cons _ r=>.cons h r
 |_,_,i+1,.cons q r=>.cons q (Reps.set h i r)
theorem Reps.reverse:∀{xs:List W}{us:List V},Reps K F xs us->Reps K F xs.reverse us.reverse
 |_,_,.nil=>.nil
 |_,_,.cons h r=>by rw[List.reverse_cons,List.reverse_cons];exact (Reps.reverse r).append (.cons h .nil)
theorem Reps.rep (r:Reps K F xs us):∀k:Nat,Reps K F (List.replicate k xs).flatten (List.replicate k us).flatten
 |0=>.nil
 |k+1=>by rw[Df];exact r.append (r.rep k)
noncomputable def isIt:W->V->Prop
 |.int i,v=>v=.int i
 |.bl b,v=>v=.bl b
 |_,_=>True
theorem Rep.isIt (h:Rep K F w v):isIt w v:=by cases h<;>first|rfl|trivial
theorem Reps.uncons (h:Reps K F (w::ws) vs):∃v us,vs=v::us/\Rep K F w v/\Reps K F ws us:=by
 cases h with
 |cons h r=>exact⟨_,_,rfl,h,r⟩
theorem Reps.ints:∀{ns:List Int}{vs:List V},Reps K F (ns.map W.int) vs->vs=ns.map V.int:=by
 intro ns
 induction ns with
 |nil=>intro vs h;cases h;rfl
 | cons n ns i =>
  intro vs h;obtain⟨v,u,e,b,a⟩:=Reps.uncons h;rw[e,i a,show v=.int n from b.isIt];rfl
theorem Reps.ofInts:∀(ns:List Int),Reps K F (ns.map W.int) (ns.map V.int)
 |[]=>.nil
 |n::ns=>.cons (.int n) (Reps.ofInts ns)
theorem Reps.bls:∀{bs:List Bool}{vs:List V},Reps K F (bs.map W.bl) vs->vs=bs.map V.bl:=by
 intro a
 induction a with
 |nil=>intro vs h;cases h;rfl
 | cons n a i =>
  intro vs h;obtain⟨v,u,e,c,b⟩:=Reps.uncons h;rw[e,i b,show v=.bl n from c.isIt];rfl
noncomputable abbrev En:=List (Option (W×Bool))
noncomputable abbrev Prt:=Zh->HO->Prop
inductive OwnR (K:Zg) (F:Hp):W->HO->Prop where
 |lst {ws:List W}{vs:List V} (r:Reps K F ws vs):OwnR K F (.lst ws) (.lst vs)
 |dct {ks:List Key}{ws:List W}{vs:List V} (hl:ks.length=vs.length) (r:Reps K F ws vs):OwnR K F (.dct (ks.map .inl) ws) (.dK (ks.zip vs))
 |dctT {ks:List (List Key)}{ws:List W}{vs:List V} (hl:ks.length=vs.length) (r:Reps K F ws vs):OwnR K F (.dct (ks.map .inr) ws) (.dT (ks.zip vs))
theorem OwnR.mono (s:Same F F')(h:OwnR K F w o):OwnR K F' w o:=by
 cases h with
 |lst r=>exact .lst (r.mono s)
 |dct a r=>exact .dct a (r.mono s)
 |dctT a r=>exact .dctT a (r.mono s)
theorem OwnR.rep (h:OwnR K F w o)(e:F a=Za o):Rep K F w (.ref a):=by
 cases h with
 |lst r=>exact .lst e r
 |dct b r=>exact .dct e b r
 |dctT b r=>exact .dctT e b r
theorem OwnR.list (h:OwnR K F (.lst ws) o):∃vs,o=.lst vs/\Reps K F ws vs:=by
 cases h with
 |lst r=>exact⟨_,rfl,r⟩
noncomputable def lams:List Str:=["_law_terms","_law_in_order","_law_poly_of","voted_terms","law"]
noncomputable def lamQ (x:Str):Str:=x++".<locals>."++"<lambda>"
noncomputable def yao (c:Zh) (q:Str) (h:Heap):Prop:=∃o v t,h.get? c=Za o/\o.data=.fields v/\v[1]?=Za (.str q t)
noncomputable def z93 (K:Zg):Prop:=∀x∈lams,∀a∈lams,∀c b P,PySem.W.tabIn K x=Za (c,P)->PySem.W.tabIn K a=Za (b,P)->x=a
noncomputable def NoT (p:Prt):Prop:=∀b x,¬ p b (.tup x)
noncomputable def ztn (K:Zg) (F:Hp) (d:Prt) (H:Hp):Prop:=(z93 K/\NoT d)/\∀x∈lams,∀c P,PySem.W.tabIn K x=Za (c,P)->∃p:Array Ze,H P=Za (.tbl p)/\F P=Zb/\(∀o,¬ d P o)/\TriplesOk p.toList /\
 ∀pos b,codeAmong pos p.toList=Za b->∃a,b=.ref a/\F a=Za (.ext (yao a (lamQ x)))
theorem ztn.go (T:ztn K F pr H)(h4:∀b xs,pr' b (.tup xs)->pr b (.tup xs))(h:∀b p,H b=Za (.tbl p)->F b=Zb->H' b=Za (.tbl p)/\F' b=Zb)(g:Same F F')(k:∀b p,H b=Za (.tbl p)->(∀o,¬ pr b o)->∀o,¬ pr' b o):ztn K F' pr' H':=⟨⟨T.1.1,λb xs z=>T.1.2 b xs (h4 b xs z)⟩,λx r c P e=>by
 nofun;obtain⟨p,a,d,s,f,m⟩:=T.2 x r c P e;refine qG ?_;refine⟨p,(h P p a d).1,(h P p a d).2,k P p a s,f,λpos i q=>?_⟩;obtain⟨l,j,n⟩:=m pos i q;exact⟨l,j,g _ _ n⟩⟩
structure Rel (K:Zg) (F:Hp) (pr:Prt) (en:En) (σ:St) (H:Hp):Prop where
 len:en.length=σ.length
 sub:Same F H
 val:∀(i:Nat) (w:W),en[i]?=Za (#v[w,6])->∃v,σ[i]?=Za (Za v)/\Rep K F w v
 own:∀(i:Nat) (w:W),en[i]?=Za (#v[w,5])->∃(a:Zh) (o:HO) (w':W),w=w'/\σ[i]?=Za (Za (V.ref a))/\H a=Za o/\F a=Zb/\OwnR K F w' o
 inj:∀(i j:Nat) (a:Zh) (w w':W),en[i]?=Za (#v[w,5])->en[j]?=Za (#v[w',5])->σ[i]?=Za (Za (V.ref a))->σ[j]?=Za (Za (V.ref a))->i=j
 prt:∀b o,pr b o->H b=Za o/\F b=Zb/\∀(i:Nat) (w:W),en[i]?=Za (#v[w,5])->σ[i]?≠Za (Za (V.ref b))
 tb:ztn K F pr H
noncomputable def Res (K:Zg) (F H:Hp) (p:Prt) (en:En) (σ:St):W×Bool->V->Prop
 |(w,Zc),v=>Rep K F w v
 |(w,Zd),v=>∃(a:Zh) (o:HO) (c:W),w=c/\v=V.ref a/\H a=Za o/\F a=Zb/\OwnR K F c o/\(∀(i:Nat) (c:W),en[i]?=Za (#v[c,5])->σ[i]?≠Za (Za (V.ref a)))/\∀b o,p b o->b≠a
noncomputable def RepB (K:Zg) (F H:Hp) (w:W) (v:V):Prop:=Rep K F w v\/∃(a:Zh) (o:HO) (b:W),w=b/\v=V.ref a/\H a=Za o/\OwnR K F b o
inductive Out (K:Zg) (F H:Hp):W×Bool->V->Hp->Prop where
 |val {w:W}{v:V} (r:Rep K F w v):Out K F H (w,Zc) v H
 |lst {p:Zh}{ws:List W}{vs:List V} (n:H p=Zb) (r:Reps K F ws vs):Out K F H (.lst ws,Zd) (.ref p) (upd H p (.lst vs))
 |tup {p:Zh}{ws:List W}{vs:List V} (n:H p=Zb) (r:Reps K F ws vs):Out K F H (.tup ws,Zc) (.ref p) (upd H p (.tup vs))
theorem Same.upd_both (s:Same F H)(p:Zh)(o:HO):Same (upd F p o) (upd H p o):=λb u e=>by
 by_cases h:b=p
 ·subst h;rw[upd_same] at e ⊢;exact e
 ·rw[upd_ne h] at e ⊢;exact s _ _ e
theorem Rel.lay (R:Rel K F pr en σ H)(j:H p=Zb)(o:HO):Rel K F pr en σ (upd H p o):=by
 have ne:∀a u,H a=Za u->a≠p:=λa u e=>zae e j;refine⟨R.len,R.sub.trans (Same.new j o),R.val,λi w e=>?_,R.inj,λq m k=>?_,R.tb.go (λ_ _ z=>z) (λb s e f=>⟨by rw[upd_ne (ne b _ e)];exact e,f⟩) (.refl F) λb s e h=>h⟩
 ·refine aG λt qG => ?_;obtain⟨a,v,n,d,g,c,r,l⟩:=R.own i w e;refine qG ?_;exact⟨a,v,n,d,g,by rw[upd_ne (ne a _ c)];exact c,r,l⟩
 ·obtain⟨d,g,c⟩:=R.prt q m k;exact⟨by rw[upd_ne (ne _ _ d)];exact d,g,c⟩
theorem Rel.layF (R:Rel K F pr en σ H)(j:H p=Zb)(o:HO):Rel K (upd F p o) pr en σ (upd H p o):=by
 have ne:∀a u,H a=Za u->a≠p:=λa u e=>zae e j;have fp:=R.sub.free j;have s:=Same.new fp o;refine⟨R.len,R.sub.upd_both p o,λi w e=>?_,λi w e=>?_,R.inj,λq m k=>?_,R.tb.go (λ_ _ z=>z) (λb t e f=>⟨by rw[upd_ne (ne b _ e)];exact e,by rw[upd_ne (ne b _ e)];exact f⟩) s λb t e h=>h⟩
 ·obtain⟨v,c,d⟩:=R.val i w e;exact⟨v,c,d.mono s⟩
 ·refine aG λy qG => ?_;obtain⟨a,x,n,c,d,g,r,l⟩:=R.own i w e;refine qG ?_;exact⟨a,x,n,c,d,by rw[upd_ne (ne a _ g)];exact g,by rw[upd_ne (ne a _ g)];exact r,l.mono s⟩
 ·obtain⟨c,d,g⟩:=R.prt q m k;exact⟨by rw[upd_ne (ne _ _ c)];exact c,by rw[upd_ne (ne _ _ c)];exact d,g⟩
theorem Out.close {r:W×Bool}{v:V} (R:Rel K F pr en σ H) (o:Out K F H r v H'):∃b,Same F b/\Rel K b pr en σ H'/\Res K b H' pr en σ r v:=by
 cases o with
 |val r=>exact⟨F,.refl F,R,r⟩
 | @lst p w c n r =>
  refine⟨F,.refl F,R.lay n _,p,_,_,rfl,rfl,upd_same,R.sub.free n,.lst r,λi j e z=>?_,λq g f z=>?_⟩
  ·obtain ⟨a,c,w,l,d,h,m,k⟩:=R.own i j e
   rw[d] at z;cases z;rw[n] at h;exact noSome h
  ·have:=(R.prt q g f).1
   rw[z,n] at this;exact noSome this
 |@tup p w c n r=>exact⟨upd F p (.tup c),Same.new (R.sub.free n) _,R.layF n _,.tup upd_same (r.mono (Same.new (R.sub.free n) _))⟩
theorem Out.mono (s:Same F F')(o:Out K F H r v H'):Out K F' H r v H':=by
 cases o with
 |val r=>exact .val (r.mono s)
 |lst n r=>exact .lst n (r.mono s)
 |tup n r=>exact .tup n (r.mono s)
theorem Res.freeze (R:Rel K F pr en σ H) (h:Res K F H pr en σ r v):∃m,Same F m/\Rel K m pr en σ H/\Rep K m r.1 v:=by
 obtain⟨w,b⟩:=r;cases b with
 |false=>exact⟨F,.refl F,R,h⟩
 | true =>
  nofun;obtain⟨a,k,M,rfl,rfl,y,B,x,J,E⟩:=h;refine qG ?_;have s:Same F (upd F a k):=Same.new B _;have I:∀p,k≠.tbl p:=λp z=>by cases x<;>cases z
  refine⟨upd F a k,s,⟨R.len,λb u e=>?_,λi w e=>?_,λi w e=>?_,R.inj,λq t A=>?_,R.tb.go (λ_ _ z=>z) (λb p e f=>⟨e,by rw[upd_ne (λz=>by subst z;rw[y] at e;exact I p (sI e))];exact f⟩) s λb p e h=>h⟩,(x.mono s).rep upd_same⟩
  ·by_cases n:b=a
   ·subst n;rw[upd_same] at e;obtain rfl:=sI e;exact y
   ·rw[upd_ne n] at e;exact R.sub _ _ e
  ·obtain ⟨v,d,c⟩:=R.val i w e
   exact⟨v,d,c.mono s⟩
  ·refine aG λL qG => ?_
   obtain⟨o,j,g,d,c,l,C,D⟩:=R.own i w e;refine qG ?_;have ne:o≠a:=λz=>by subst z;exact J i w e c
   exact⟨o,j,g,d,c,l,by rw[upd_ne ne];exact C,D.mono s⟩
  ·obtain ⟨d,c,l⟩:=R.prt q t A
   exact⟨d,by rw[upd_ne (E q t A)];exact c,l⟩
theorem Rel.freeze (R:Rel K F pr en σ H) {i:Nat}{w:W}{v:V}{fl:Bool} (e:en[i]?=Za (Za (w,fl))) (n:σ[i]?=Za (Za v)):∃D,Same F D/\Rel K D pr (en.set i (Za (w,Zc))) σ H/\Rep K D w v:=by
 have hi:=(Ap.mp e).1;cases fl with
 | false =>
  obtain⟨I,L,o⟩:=R.val i w e;rw[n] at L;cases L;refine⟨F,.refl F,?_,o⟩;rw[z4l e];exact R
 | true =>
  nofun;obtain⟨a,B,ws,U,o,J,h4,C⟩:=R.own i w e;refine qG ?_;subst U;rw[n] at o;cases o;have s:Same F (upd F a B):=Same.new h4 _;have Z:∀p,B≠.tbl p:=λp z=>by cases C<;>cases z
  have g:∀j c b,(en.set i (Za (w,Zc)))[j]?=Za (Za (c,b))->(j=i/\c=w/\b=Zc)\/(j≠i/\en[j]?=Za (Za (c,b))):=λj c b h=>by
   rcases zd3 hi h with⟨z,q⟩|z
   ·cases q;exact .inl ⟨z,rfl,rfl⟩
   ·exact .inr z
  refine⟨upd F a B,s,⟨by rw[Fv];exact R.len,λb u d=>?_,λj c d=>?_,λj c d=>?_,λj k b O w2 S Y=>?_,λq M hq=>?_,R.tb.go (λ_ _ z=>z) (λb p e f=>⟨e,by rw[upd_ne (λz=>by subst z;rw[J] at e;exact Z p (sI e))];exact f⟩) s λb p e h=>h⟩,(C.mono s).rep upd_same⟩
  ·by_cases E:b=a
   ·subst E;rw[upd_same] at d;obtain rfl:=sI d;exact J
   ·rw[upd_ne E] at d;exact R.sub _ _ d
  ·rcases g j c Zc d with ⟨rfl,rfl,_⟩ | ⟨_,z⟩
   ·exact⟨_,n,(C.mono s).rep upd_same⟩
   ·obtain ⟨I, m,l⟩:=R.val j c z
    exact⟨I,m,l.mono s⟩
  ·rcases g j c Zd d with ⟨_,_,z⟩ | ⟨ne,z⟩
   ·cases z
   ·refine aG λGg qG => ?_
    obtain⟨t,y,x,m,l,r,P,Q⟩:=R.own j c z;refine qG ?_;have A:t≠a:=λq=>by subst q;exact ne (R.inj j i t _ _ z e l n)
    exact⟨t,y,x,m,l,r,by rw[upd_ne A];exact P,Q.mono s⟩
  ·rcases g j O Zd S with ⟨_,_,z⟩ | ⟨_,X⟩
   ·cases z
   ·rcases g k w2 Zd Y with ⟨_,_,z⟩ | ⟨_,N⟩
    ·cases z
    ·exact R.inj j k b _ _ X N
  ·obtain ⟨m,l,r⟩:=R.prt q M hq
   have ne:q≠a:=λz=>by
    have:=r i _ e;rw[n,z] at this;exact this rfl
   refine⟨m,by rw[upd_ne ne];exact l,λj c d=>?_⟩;rcases g j c Zd d with⟨_,_,z⟩|⟨_,z⟩
   ·cases z
   ·exact r j c z
theorem Rel.repB (R:Rel K F pr en σ H) {i:Nat}{w:W}{fl:Bool}{v:V} (e:en[i]?=Za (Za (w,fl))) (c:σ[i]?=Za (Za v)):RepB K F H w v:=by
 cases fl with
 | false =>
  obtain⟨j,b,h⟩:=R.val i w e;rw[c] at b;cases b;exact .inl h
 | true =>
  nofun;obtain⟨a,o,f,b,h,d,k,g⟩:=R.own i w e;refine qG ?_;rw[c] at h;cases h;exact .inr ⟨a,o,f,b,rfl,d,g⟩
theorem Rel.has (R:Rel K F pr en σ H){i:Nat}{w:W}{fl:Bool}(e:en[i]?=Za (Za (w,fl))):∃v,σ[i]?=Za (Za v):=by
 cases fl with
 |false=>obtain⟨v,h,_⟩:=R.val i w e;exact⟨v,h⟩
 |true=>obtain⟨a,_,_,_,h,_⟩:=R.own i w e;exact⟨_,h⟩
theorem Rel.store (R:Rel K F pr en σ H)(h:Res K F H pr en σ r v)(M:i<en.length):Rel K F pr (en.set i (Za r)) (σ.set i (Za v)) H:=by
 have D:i<σ.length:=by rw[<-R.len];exact M
 have g:∀j x,(en.set i (Za r))[j]?=Za (Za x)->(j=i/\x=r)\/(j≠i/\en[j]?=Za (Za x)):=λj x h=>by
  rcases zd3 M h with⟨z,q⟩|z
  ·obtain rfl:=sI q;exact .inl ⟨z,rfl⟩
  ·exact .inr z
 have m:(σ.set i (Za v))[i]?=Za (Za v):=Em D;have s:∀j,j≠i->(σ.set i (Za v))[j]?=σ[j]?:=λj b=>Dn (Ne.symm b);refine⟨by rw[Fv,Fv];exact R.len,R.sub,λj w e=>?_,λj w e=>?_,λj k a S U O J=>?_,λq I L=>?_,R.tb⟩
 ·rcases g j _ e with⟨rfl,z⟩|⟨b,z⟩
  ·subst z;exact⟨v,m,h⟩
  ·rw[s j b];exact R.val j w z
 ·rcases g j _ e with⟨rfl,z⟩|⟨b,z⟩
  ·subst z;obtain⟨a,u,o,t,f,n,B,y,_⟩:=h;exact⟨a,u,o,t,by rw[m,f],n,B,y⟩
  ·rw[s j b];exact R.own j w z
 ·intro d c;rcases g j _ O with⟨rfl,p⟩|⟨b,p⟩
  ·rcases g k _ J with⟨rfl,l⟩|⟨C,l⟩
   ·rfl
   ·subst p;obtain⟨E,u,o,t,f,n,B,y,A,_⟩:=h;rw[m,f] at d;cases d;rw[s k C] at c;exact absurd c (A k _ l)
  ·rcases g k _ J with⟨rfl,l⟩|⟨C,l⟩
   ·subst l;obtain⟨E,u,o,t,f,n,B,y,A,_⟩:=h;rw[m,f] at c;cases c;rw[s j b] at d;exact absurd d (A j _ p)
   ·rw[s j b] at d;rw[s k C] at c;exact R.inj j k a _ _ p l d c
 ·obtain⟨d,c,P⟩:=R.prt q I L;refine⟨d,c,λj w e=>?_⟩;rcases g j _ e with⟨rfl,z⟩|⟨b,z⟩
  ·subst z;obtain⟨E,u,o,t,f,n,B,y,A,Q⟩:=h;rw[m,f];intro N;cases N;exact Q q I L rfl
  ·rw[s j b];exact P j w z
theorem Rel.changeO (R:Rel K F pr en σ H){i:Nat}{w c:W}{a:Zh}{E:HO}(e:en[i]?=Za (#v[w,5]))(s:σ[i]?=Za (Za (.ref a)))(r:OwnR K F c E):Rel K F pr (en.set i (#v[c,5])) σ (upd H a E):=by
 have hi:=(Ap.mp e).1;nofun;obtain⟨a0,S,ws,h1,I,O,J,U⟩:=R.own i w e;refine qG ?_;rw[s] at I;cases I;have Y:∀p,S≠.tbl p:=λp z=>by cases U<;>cases z
 have g:∀j x,(en.set i (#v[c,5]))[j]?=Za (Za x)->(j=i/\x=(c,Zd))\/(j≠i/\en[j]?=Za (Za x)):=λj x h=>by
  rcases zd3 hi h with⟨z,q⟩|z
  ·obtain rfl:=sI q;exact .inl ⟨z,rfl⟩
  ·exact .inr z
 refine⟨by rw[Fv];exact R.len,λb u y=>?_,λj m l=>?_,λj m l=>?_,λj k b w1 w2 Q X n d=>?_,λq L Z=>?_,R.tb.go (λ_ _ z=>z) (λb p e f=>⟨by rw[upd_ne (λz=>by subst z;rw[O] at e;exact Y p (sI e))];exact e,f⟩) (.refl F) λb p e h=>h⟩
 ·have:b≠a:=λz=>by subst z;rw[J] at y;cases y
  rw[upd_ne this];exact R.sub _ _ y
 ·rcases g j _ l with⟨_,z⟩|⟨_,z⟩
  ·cases z
  ·exact R.val j m z
 ·rcases g j _ l with⟨rfl,z⟩|⟨hj,z⟩
  ·cases z;exact⟨a,E,c,rfl,s,upd_same,J,r⟩
  ·refine aG λGg qG => ?_;obtain⟨A,D,t,n,d,o,N,P⟩:=R.own j m z;refine qG ?_;have ne:A≠a:=λM=>by subst M;exact hj (R.inj j i A _ _ z e d s)
   exact⟨A,D,t,n,d,by rw[upd_ne ne];exact o,N,P⟩
 ·have C:∃c,en[j]?=Za (Za (c,Zd)):=by
   rcases g j _ Q with⟨rfl,_⟩|⟨_,z⟩
   ·exact⟨_,e⟩
   ·exact⟨_,z⟩
  have B:∃c,en[k]?=Za (#v[c,5]):=by
   rcases g k _ X with⟨rfl,_⟩|⟨_,z⟩
   ·exact⟨_,e⟩
   ·exact⟨_,z⟩
  obtain⟨_,C⟩:=C;obtain⟨_,B⟩:=B;exact R.inj j k b _ _ C B n d
 ·obtain ⟨n,d,o⟩:=R.prt q L Z;have ne:q≠a:=λz=>by
   have:=o i _ e;rw[s,z] at this;exact this rfl
  refine⟨by rw[upd_ne ne];exact n,d,λj m l=>?_⟩;rcases g j _ l with⟨rfl,_⟩|⟨_,z⟩
  ·exact o j _ e
  ·exact o j m z
theorem Rel.change (R:Rel K F pr en σ H)(e:en[i]?=Za (#v[w,5]))(h:σ[i]?=Za (Za (.ref a)))(r:Reps K F ws' vs'):Rel K F pr (en.set i (#v[ws',2])) σ (upd H a (.lst vs')):=R.changeO e h (.lst r)
theorem Rel.ownL (R:Rel K F pr en σ H){i:Nat}{ws:List W}(e:en[i]?=Za (#v[ws,2])):∃(a:Zh) (vs:List V) (ws':List W),W.lst ws=.lst ws'/\σ[i]?=Za (Za (V.ref a))/\H a=Za (.lst vs)/\F a=Zb/\Reps K F ws' vs:=by
 nofun;obtain⟨a,o,w,c,h,b,f,d⟩:=R.own i _ e;refine qG ?_;subst c;obtain⟨vs,rfl,r⟩:=d.list;exact⟨a,vs,ws,rfl,h,b,f,r⟩
end
end L2
namespace L2
open PySem PySem.Spec PyProof.Rows
noncomputable abbrev GE:=En->Option (En×(W×Bool))
noncomputable abbrev GA:=En->Option (En×(W ⊕ Nat))
noncomputable abbrev GT:=En->Option (En×Bool)
noncomputable abbrev GAs:=En->Option (En×List (W ⊕ Nat))
noncomputable abbrev GL:=En->Option (En×List W)
noncomputable def ArgR (K:Zg) (F:Hp) (σ:St):W ⊕ Nat->V->Prop
 |.inl w,v=>Rep K F w v
 |.inr i,v=>σ[i]?=Za (Za v)
inductive ArgRs (K:Zg) (F:Hp) (σ:St):List (W ⊕ Nat)->List V->Prop where
 |nil:ArgRs K F σ [] []
 |cons {x:W ⊕ Nat}{v:V}{xs:List (W ⊕ Nat)}{vs:List V} (h:ArgR K F σ x v) (r:ArgRs K F σ xs vs):ArgRs K F σ (x::xs) (v::vs)
noncomputable def resA (en:En):W ⊕ Nat->Option W
 |.inl w=>Za w
 | .inr i=>match en[i]? with
  |some (Za (w,_))=>Za w
  |_=>Zb
section
variable {K:Zg}
theorem ArgR.mono (s:Same F F')(h:ArgR K F σ x v):ArgR K F' σ x v:=by
 cases x with
 |inl w=>exact Rep.mono s h
 |inr i=>exact h
theorem ArgR.repB (R:Rel K F pr en σ H) (h:ArgR K F σ x v) (e:resA en x=Za w):RepB K F H w v:=by
 cases x with
 |inl u=>obtain rfl:=sI e;exact .inl h
 | inr i =>
  unfold resA at e;cases q:en[i]? with
  |none=>simp only [q] at e;exact noSome e
  | some o =>
   cases o with
   |none=>simp only [q] at e;exact noSome e
   | some p =>
    obtain⟨u,fl⟩:=p;simp only [q] at e;obtain rfl:=sI e;exact R.repB q h
end
noncomputable def tE (K:Zg) (g:GE):TE:=λσ H Q=>∃F p c e r,Rel K F p c σ H/\g c=Za (e,r)/\∀b a v,Same F b->Rel K b p e σ a->Res K b a p e σ r v->Q v a
noncomputable def tA (K:Zg) (g:GA):TE:=λσ H Q=>∃F p b e x,Rel K F p b σ H/\g b=Za (e,x)/\∀a c v,Same F a->Rel K a p e σ c->ArgR K a σ x v->Q v c
noncomputable def tT (K:Zg) (g:GT):TT:=λσ H Q=>∃F p a e b,Rel K F p a σ H/\g a=Za (e,b)/\∀d c,Same F d->Rel K d p e σ c->Q b c
noncomputable def tAs (K:Zg) (g:GAs):TA:=λσ H Q=>∃F p b e x,Rel K F p b σ H/\g b=Za (e,x)/\∀a c v,Same F a->Rel K a p e σ c->ArgRs K a σ x v->Q v c
theorem PE.wk (h:PE X e t)(i:∀σ H Q,t' σ H Q->t σ H Q):PE X e t':=λpins s σ H Q I q=>h pins s σ H Q I (i σ H Q q)
theorem PT.wk (h:PT X e t)(i:∀σ H Q,t' σ H Q->t σ H Q):PT X e t':=λpins s σ H Q I q=>h pins s σ H Q I (i σ H Q q)
theorem PW.wk (h:PW X e t)(i:∀σ H Q,t' σ H Q->t σ H Q):PW X e t':=λw pins s σ H Q I q=>h w pins s σ H Q I (i σ H Q q)
theorem PA.wk (h:PA X es t)(i:∀σ H Q,t' σ H Q->t σ H Q):PA X es t':=λpos pins s σ H Q I q=>h pos pins s σ H Q I (i σ H Q q)
theorem PS.wk {st:Stmt}(h:PS X st t)(i:∀D σ H,t' D σ H->t D σ H):PS X st t':=λpins s σ H D I q=>h pins s σ H D I (i D σ H q)
theorem PSs.wk {st:List Stmt}(h:PSs X st t)(i:∀D σ H,t' D σ H->t D σ H):PSs X st t':=λpins s σ H D I q=>h pins s σ H D I (i D σ H q)
theorem PI.wk (h:PI X tg e t)(i:∀σ H R,t' σ H R->t σ H R):PI X tg e t':=λpins s σ H R I q=>h pins s σ H R I (i σ H R q)
noncomputable def gVar (i:Nat):GE:=λe=>match e[i]? with
 |some (Za (w,_))=>Za (e.set i (#v[w,6]),(w,Zc))
 |_=>Zb
noncomputable def zaa (i:Nat):GA:=λe=>match e[i]? with
 |some (#v[w,5])=>Za (e,.inr i)
 |some (#v[w,6])=>Za (e,.inl w)
 |_=>Zb
noncomputable def gC (w:W):GE:=λe=>Za (e,(w,Zc))
noncomputable def gArg (g:GE):GA:=λe=>(g e).bind λp=>Za (p.1,.inl p.2.1)
noncomputable def gA0:GAs:=λe=>Za (e,[])
noncomputable def gCns (a:GA) (as:GAs):GAs:=λe=>(a e).bind λp=>(as p.1).bind λq=>Za (q.1,p.2::q.2)
noncomputable def gOp1 (o:W->Option (W×Bool)) (a:GA):GE:=λe=>(a e).bind λp=>(resA p.1 p.2).bind λw=>(o w).bind λr=>Za (p.1,r)
noncomputable def gOp2 (o:W->W->Option (W×Bool)) (a b:GA):GE:=λe=>(a e).bind λp=>(b p.1).bind λq=>(resA q.1 p.2).bind λw=>(resA q.1 q.2).bind λu=>(o w u).bind λr=>Za (q.1,r)
noncomputable def zbi (en:En):List (W ⊕ Nat)->Option (List W)
 |[]=>Za []
 |x::b=>(resA en x).bind λw=>(zbi en b).bind λa=>Za (w::a)
noncomputable def gOpN (o:List W->Option (W×Bool)) (as:GAs):GE:=λe=>(as e).bind λp=>(zbi p.1 p.2).bind λw=>(o w).bind λr=>Za (p.1,r)
noncomputable def zaj (g:GE):GT:=λa=>match g a with
 |some (e,(.bl b,_))=>Za (e,b)
 |_=>Zb
noncomputable def gAnd (a b:GE):GE:=λc=>match a c with
 |some (e,(.bl Zd,_))=>b e
 |some (e,(.bl Zc,_))=>Za (e,#v[3,8])
 |_=>Zb
noncomputable def gOr (a b:GE):GE:=λc=>match a c with
 |some (e,(.bl Zd,_))=>Za (e,#v[9,8])
 |some (e,(.bl Zc,_))=>b e
 |_=>Zb
noncomputable def gNot (a:GE):GE:=λc=>match a c with
 |some (e,(.bl b,_))=>Za (e,(.bl (!b),Zc))
 |_=>Zb
noncomputable def zir (a b:GT):GT:=λc=>match a c with
 |#v[e,5]=>b e
 |#v[e,6]=>#v[e,6]
 |none=>Zb
noncomputable def gOrT (a b:GT):GT:=λc=>match a c with
 |#v[e,5]=>#v[e,5]
 |#v[e,6]=>b e
 |none=>Zb
noncomputable def ze2 (a:GT):GT:=λc=>match a c with
 |some (e,b)=>Za (e,!b)
 |none=>Zb
noncomputable def gIf (c:GT) (a b:GE):GE:=λd=>match c d with
 |#v[e,5]=>a e
 |#v[e,6]=>b e
 |none=>Zb
section
variable {K:Zg}
theorem z4s (h:tE K (gVar i) σ H Q):tVar i σ H Q:=by
 obtain⟨F,g,b,d,r,R,h,q⟩:=h;unfold gVar at h;cases e:b[i]? with
 |none=>simp only [e] at h;exact noSome h
 | some o =>
  cases o with
  |none=>simp only [e] at h;exact noSome h
  | some p =>
   obtain⟨w,fl⟩:=p;simp only [e] at h;cases h;obtain⟨v,a⟩:=R.has e;obtain⟨f,s,c,z⟩:=R.freeze e a;exact⟨v,a,q f H v s c z⟩
theorem zyg (h:tA K (zaa i) σ H Q):tVar i σ H Q:=by
 obtain⟨F,d,b,c,r,R,h,q⟩:=h;unfold zaa at h;cases e:b[i]? with
 |none=>simp only [e] at h;exact noSome h
 | some o =>
  cases o with
  |none=>simp only [e] at h;exact noSome h
  | some p =>
   obtain⟨w,fl⟩:=p;cases fl with
   | true =>
    simp only [e] at h;cases h;obtain⟨v,a⟩:=R.has e;exact⟨v,a,q F H v (.refl F) R a⟩
   | false =>
    simp only [e] at h;cases h;obtain⟨v,a,z⟩:=R.val i w e;exact⟨v,a,q F H v (.refl F) R z⟩
theorem zem (a:∀F,Rep K F w v)(h:tE K (gC w) σ H Q):tC v σ H Q:=by
 obtain⟨F,p,b,e,r,R,h,q⟩:=h;cases h;exact q F H v (.refl F) R (a F)
theorem zgy (h:tA K (gArg g) σ H Q):tE K g σ H Q:=by
 obtain⟨F,p,a,d,x,R,h,q⟩:=h;obtain⟨⟨e,r⟩,c,h⟩:=bS h;cases h;refine⟨F,p,a,e,r,R,c,λk j v s b z=>?_⟩;obtain⟨f,i,R2,y⟩:=z.freeze b;exact q f j v (s.trans i) R2 y
theorem zrl (h:tAs K gA0 σ H Q):tNil σ H Q:=by
 obtain⟨F,p,a,e,x,R,h,q⟩:=h;cases h;exact q F H [] (.refl F) R .nil
theorem zqp (h:tAs K (gCns a as) σ H Q):tA K a σ H λx c=>tAs K as σ c λxs b=>Q (x::xs) b:=by
 nofun;obtain⟨F,p,f,k,x,R,h,q⟩:=h;obtain⟨⟨e,y⟩,j,h⟩:=bS h;obtain⟨⟨o,g⟩,d,h⟩:=bS h;ac_rfl;cases h;exact⟨F,p,f,e,y,R,j,λu c v i t m=>⟨u,p,e,o,g,t,d,λl b n s R2 r=>q l b (v::n) (i.trans s) R2 (.cons (m.mono s) r)⟩⟩
noncomputable def OpS (K:Zg) (r:R2) (o:W->W->Option (W×Bool)):Prop:=∀F H w b e a c Q,Same F H->RepB K F H w e->RepB K F H b a->o w b=Za c->(∀v d,Out K F H c v d->Q v d)->r e a H Q
theorem zdn (D:OpS K r o)(h:tE K (gOp2 o a b) σ H Q):tOp r (tA K a) (tA K b) σ H Q:=by
 nofun;obtain⟨F,p,g,t,C,R,h,q⟩:=h;obtain⟨⟨e,P⟩,n,h⟩:=bS h;obtain⟨⟨B,A⟩,f,h⟩:=bS h;obtain⟨w,d,h⟩:=bS h;obtain⟨M,c,h⟩:=bS h;obtain⟨U,j,h⟩:=bS h;ac_rfl;cases h;refine⟨F,p,g,e,P,R,n,λN X S m L x=>⟨N,p,e,B,A,L,f,λu l I s R2 E=>?_⟩⟩;refine D u l w M S I C Q R2.sub ((x.mono s).repB R2 d) (E.repB R2 c) j λv i z=>?_;nofun;obtain⟨k,J,O,y⟩:=z.close R2;ac_rfl;exact q k i v (m.trans (s.trans J)) O y
noncomputable def OpS1 (K:Zg) (r:V->Hp->VK->Prop) (o:W->Option (W×Bool)):Prop:=∀F H w v a Q,Same F H->RepB K F H w v->o w=Za a->(∀u b,Out K F H a u b->Q u b)->r v H Q
theorem z1m (n:OpS1 K r o)(h:tE K (gOp1 o a) σ H Q):tUn r (tA K a) σ H Q:=by
 nofun;obtain⟨F,p,e,k,m,R,h,q⟩:=h;obtain⟨⟨g,A⟩,j,h⟩:=bS h;obtain⟨w,b,h⟩:=bS h;obtain⟨D,f,h⟩:=bS h;ac_rfl;cases h;refine⟨F,p,e,g,A,R,j,λu C B s c l=>?_⟩;refine n u C w B m Q c.sub (l.repB c b) f λv d z=>?_;nofun;obtain⟨i,t,x,y⟩:=z.close c;ac_rfl;exact q i d v (s.trans t) x y
inductive RepBs (K:Zg) (F H:Hp):List W->List V->Prop where
 |nil:RepBs K F H [] []
 |cons {w:W}{v:V}{ws:List W}{vs:List V} (h:RepB K F H w v) (r:RepBs K F H ws vs):RepBs K F H (w::ws) (v::vs)
theorem ArgRs.repBs (R:Rel K F pr en σ H):∀{xs:List (W ⊕ Nat)}{vs:List V}{ws:List W},ArgRs K F σ xs vs->zbi en xs=Za ws->RepBs K F H ws vs
 |_,_,_,.nil,e=>by obtain rfl:=sI e;exact .nil
 | _,_,_,.cons h r,e=>by
  obtain⟨w,b,e⟩:=bS e;obtain⟨ws,a,e⟩:=bS e;obtain rfl:=sI e;exact .cons (h.repB R b) (ArgRs.repBs R r a)
noncomputable def OpSN (K:Zg) (r:List V->Hp->VK->Prop) (o:List W->Option (W×Bool)):Prop:=∀F H w v a Q,Same F H->RepBs K F H w v->o w=Za a->(∀u b,Out K F H a u b->Q u b)->r v H Q
theorem z00 (m:OpSN K r o)(h:tE K (gOpN o as) σ H Q):tCB r (tAs K as) σ H Q:=by
 nofun;obtain⟨F,p,e,j,l,R,h,q⟩:=h;obtain⟨⟨f,x⟩,i,h⟩:=bS h;obtain⟨w,a,h⟩:=bS h;obtain⟨C,d,h⟩:=bS h;ac_rfl;cases h;refine⟨F,p,e,f,x,R,i,λt B A s b k=>?_⟩;refine m t B w A l Q b.sub (k.repBs b a) d λv c z=>?_;nofun;obtain⟨g,n,u,y⟩:=z.close b;ac_rfl;exact q g c v (s.trans n) u y
theorem Res.isBl (h:Res K F H pr en σ (.bl b,fl) v):v=.bl b:=by
 cases fl with
 |false=>cases (show Rep K F (.bl b) v from h);rfl
 |true=>obtain⟨_,_,_,e,_,_,_,q,_⟩:=h;subst e;cases q
theorem zfm (d:∀σ H Q,tE K g σ H Q->t σ H Q) (h:tT K (zaj g) σ H Q):z8e t σ H Q:=by
 obtain⟨F,f,a,k,b,R,h,q⟩:=h;unfold zaj at h;refine d σ H _ ?_;cases e:g a with
 |none=>simp only [e] at h;exact noSome h
 | some p =>
  obtain⟨m,w,fl⟩:=p;cases w with
  |bl c=>simp only [e] at h;cases h;exact⟨F,f,a,_,_,R,e,λl i v s j z=>⟨b,z.isBl,q l i s j⟩⟩
  |_=>simp only [e] at h;exact noSome h
theorem z3c (h:tE K (gAnd a b) σ H Q):yd7 (tE K a) (tE K b) σ H Q:=by
 nofun;obtain⟨F,f,g,d,r,R,h,q⟩:=h;ac_rfl;unfold gAnd at h;cases e:a g with
 |none=>simp only [e] at h;exact noSome h
 | some p =>
  obtain⟨l,w,fl⟩:=p;cases w with
  | bl c =>
   refine⟨F,f,g,_,_,R,e,λj t v s i z=>⟨c,z.isBl,?_⟩⟩;cases c with
   | true =>
    simp only [e] at h;exact iteT ⟨j,f,l,d,r,i,h,λn m v o R2 k=>q n m v (s.trans o) R2 k⟩
   | false =>
    simp only [e] at h;cases h;exact iteF (q j t _ s i (.bl Zc))
  |_=>simp only [e] at h;exact noSome h
theorem z2e (h:tE K (gNot a) σ H Q):ybz (tE K a) σ H Q:=by
 obtain⟨F,d,b,i,r,R,h,q⟩:=h;unfold gNot at h;cases e:a b with
 |none=>simp only [e] at h;exact noSome h
 | some p =>
  obtain⟨k,w,fl⟩:=p;cases w with
  | bl c =>
   simp only [e] at h;cases h;exact⟨F,d,b,_,_,R,e,λg j v s f z=>⟨c,z.isBl,q g j _ s f (.bl _)⟩⟩
  |_=>simp only [e] at h;exact noSome h
theorem zxe (h:tT K (zir a b) σ H Q):tAnd (tT K a) (tT K b) σ H Q:=by
 nofun;obtain⟨F,f,g,d,r,R,h,q⟩:=h;ac_rfl;unfold zir at h;cases e:a g with
 |none=>simp only [e] at h;exact noSome h
 | some p =>
  obtain⟨k,c⟩:=p;refine⟨F,f,g,_,_,R,e,λj o s i=>?_⟩;cases c with
  |true=>simp only [e] at h;exact iteT ⟨j,f,k,d,r,i,h,λm l n R2=>q m l (s.trans n) R2⟩
  |false=>simp only [e] at h;cases h;exact iteF (q j o s i)
theorem z2a (h:tT K (gOrT a b) σ H Q):tOr (tT K a) (tT K b) σ H Q:=by
 nofun;obtain⟨F,f,g,d,r,R,h,q⟩:=h;ac_rfl;unfold gOrT at h;cases e:a g with
 |none=>simp only [e] at h;exact noSome h
 | some p =>
  obtain⟨k,c⟩:=p;refine⟨F,f,g,_,_,R,e,λj o s i=>?_⟩;cases c with
  |false=>simp only [e] at h;exact iteF ⟨j,f,k,d,r,i,h,λm l n R2=>q m l (s.trans n) R2⟩
  |true=>simp only [e] at h;cases h;exact iteT (q j o s i)
theorem zwc (h:tT K (ze2 a) σ H Q):tNot (tT K a) σ H Q:=by
 obtain⟨F,d,b,i,r,R,h,q⟩:=h;unfold ze2 at h;cases e:a b with
 |none=>simp only [e] at h;exact noSome h
 | some p =>
  obtain⟨k,c⟩:=p;simp only [e] at h;cases h;exact⟨F,d,b,_,_,R,e,λg j s f=>q g j s f⟩
theorem z8o (h:tE K (gIf c a b) σ H Q):tIf (tT K c) (tE K a) (tE K b) σ H Q:=by
 nofun;obtain⟨F,g,l,f,r,R,h,q⟩:=h;ac_rfl;unfold gIf at h;cases e:c l with
 |none=>simp only [e] at h;exact noSome h
 | some p =>
  obtain⟨k,d⟩:=p;refine⟨F,g,l,_,_,R,e,λo t m n=>?_⟩;cases d with
  |true=>simp only [e] at h;exact iteT ⟨o,g,k,f,r,n,h,λj i v s R2 z=>q j i v (m.trans s) R2 z⟩
  |false=>simp only [e] at h;exact iteF ⟨o,g,k,f,r,n,h,λj i v s R2 z=>q j i v (m.trans s) R2 z⟩
end
noncomputable def za6:List (W ⊕ Nat)->Option (List W)
 |[]=>Za []
 |.inl w::x=>(za6 x).bind λa=>Za (w::a)
 |.inr _::_=>Zb
theorem ArgRs.reps {K:Zg}:∀{xs:List (W ⊕ Nat)}{vs:List V}{ws:List W},ArgRs K F σ xs vs->za6 xs=Za ws->Reps K F ws vs
 |_,_,_,.nil,e=>by obtain rfl:=sI e;exact .nil
 | .inl w::xs,_,_,.cons h r,e=>by
  obtain⟨ws,a,e⟩:=bS (show (za6 xs).bind _=_ from e);obtain rfl:=sI e;exact .cons h (ArgRs.reps r a)
 |.inr i::xs,_,_,.cons h r,e=>by exact noSome e
noncomputable def zbb (as:GAs):GE:=λe=>(as e).bind λp=>(za6 p.2).bind λw=>if w.length<=sizeLine then Za (p.1,(.tup w,Zc)) else Zb
noncomputable def zau (as:GAs):GE:=λe=>(as e).bind λp=>(za6 p.2).bind λw=>if w.length<=sizeLine then Za (p.1,(.lst w,Zd)) else Zb
section
variable {K:Zg}
theorem z15 (h:tE K (zbb as) σ H Q):tTup (tAs K as) σ H Q:=by
 obtain⟨F,l,e,g,r,R,h,q⟩:=h;obtain⟨⟨d,x⟩,f,h⟩:=bS h;obtain⟨w,b,h⟩:=bS h;split at h
 ·rename_i c;cases h;refine⟨F,l,e,d,x,R,f,λo t v s n j=>?_⟩;have a:=j.reps b;refine⟨by rw[<-a.length];exact c,λp k=>?_⟩;obtain⟨i,m,R2,z⟩:=(Out.tup (K:=K) k a).close n;exact q i _ _ (s.trans m) R2 z
 ·exact noSome h
theorem z14 (h:tE K (zau as) σ H Q):tLst (tAs K as) σ H Q:=by
 nofun;obtain⟨F,l,e,g,r,R,h,q⟩:=h;obtain⟨⟨d,x⟩,f,h⟩:=bS h;obtain⟨w,b,h⟩:=bS h;ac_rfl;split at h
 ·rename_i c;cases h;refine⟨F,l,e,d,x,R,f,λo t v s n j=>?_⟩;have a:=j.reps b;refine⟨by rw[<-a.length];exact c,λp k=>?_⟩;nofun;obtain⟨i,m,R2,z⟩:=(Out.lst (K:=K) k a).close n;ac_rfl;exact q i _ _ (s.trans m) R2 z
 ·exact noSome h
noncomputable def zln (o f:W->W->Option (W×Bool)) (a b c:GA):GE:=λe=>(a e).bind λp=>(b p.1).bind λq=>(resA q.1 p.2).bind λw=>(resA q.1 q.2).bind λu=>match o w u with
 |some #v[9,8]=>(c q.1).bind λt=>(resA t.1 q.2).bind λd=>(resA t.1 t.2).bind λz=>(f d z).bind λr=>Za (t.1,r)
 |some #v[3,8]=>Za (q.1,#v[3,8])
 |_=>Zb
theorem zjc (ho:OpS K r o) (n:OpS K r' o') (h:tE K (zln o o' a b c) σ H Q):zxb r r' (tA K a) (tA K b) (tA K c) σ H Q:=by
 nofun;obtain⟨F,m,O,en',rv,R,h,q⟩:=h;obtain⟨⟨B,x1⟩,Z,h⟩:=bS h;obtain⟨⟨E,x2⟩,N,h⟩:=bS h;obtain⟨x,t,h⟩:=bS h;obtain⟨M,g,h⟩:=bS h;ac_rfl;refine⟨F,m,O,B,x1,R,Z,λF1 H1 v1 D R1 a1=>⟨F1,m,B,E,x2,R1,N,λl C J s R2 I=>?_⟩⟩;cases e:o x M with
 |none=>simp only [e] at h;exact noSome h
 | some p =>
  obtain⟨w,fl⟩:=p;cases w with
  | bl k =>
   cases fl with
   |true=>simp only [e] at h;cases k<;>exact noSome h
   | false =>
    refine ho l C x M v1 J _ _ R2.sub ((a1.mono s).repB R2 t) (I.repB R2 g) e λv A z=>?_;cases z with
    | val z =>
     cases z;refine⟨k,rfl,?_⟩;cases k with
     | false =>
      simp only [e] at h;cases h;exact iteF (q l C _ (D.trans s) R2 (.bl Zc))
     | true =>
      simp only [e] at h;nofun;obtain⟨⟨e3,X⟩,S,h⟩:=bS h;obtain⟨j,d,h⟩:=bS h;obtain⟨w3,u,h⟩:=bS h;obtain⟨r3,i,h⟩:=bS h;ac_rfl;cases h;refine iteT ⟨l,m,E,e3,X,R2,S,λU H3 Y L f a3=>?_⟩;refine n U H3 j w3 J Y _ _ f.sub ((I.mono L).repB f d) (a3.repB f u) i λv A z=>?_;nofun;obtain⟨F4,s4,P,y⟩:=z.close f;ac_rfl;exact q F4 A v (D.trans (s.trans (L.trans s4))) P y
  |_=>simp only [e] at h;exact noSome h
end
section
variable {K:Zg}
theorem RepB.int (h:RepB K F H (.int i) v):v=.int i:=by
 rcases h with h|⟨_,_,_,e,_,_,q⟩
 ·cases h;rfl
 ·subst e;cases q
theorem RepB.bl (h:RepB K F H (.bl b) v):v=.bl b:=by
 rcases h with h|⟨_,_,_,e,_,_,q⟩
 ·cases h;rfl
 ·subst e;cases q
theorem RepB.str (h:RepB K F H (.str x) v):v=.str x:=by
 rcases h with h|⟨_,_,_,e,_,_,q⟩
 ·cases h;rfl
 ·subst e;cases q
theorem RepB.non (h:RepB K F H .non v):v=.non:=by
 rcases h with h|⟨_,_,_,e,_,_,q⟩
 ·cases h;rfl
 ·subst e;cases q
theorem RepB.lst {ws:List W}(s:Same F H)(h:RepB K F H (.lst ws) v):∃a vs,v=.ref a/\H a=Za (.lst vs)/\Reps K F ws vs:=by
 rcases h with h|⟨a,o,w,e,c,h,r⟩
 ·cases h with
  |lst h r=>exact⟨_,_,rfl,s _ _ h,r⟩
 ·subst e;obtain⟨vs,rfl,b⟩:=r.list;exact⟨a,vs,c,h,b⟩
theorem RepB.tup {ws:List W}(s:Same F H)(h:RepB K F H (.tup ws) v):∃a vs,v=.ref a/\H a=Za (.tup vs)/\F a=Za (.tup vs)/\Reps K F ws vs:=by
 rcases h with h|⟨_,_,_,e,_,_,q⟩
 ·cases h with
  |tup h r=>exact⟨_,_,rfl,s _ _ h,h,r⟩
 ·subst e;cases q
theorem RepB.frl (s:Same F H)(h:RepB K F H (.frl ws) v):∃a vs,v=.ref a/\SqL K H a vs/\Reps K F ws vs:=by
 rcases h with h|⟨_,_,_,e,_,_,q⟩
 ·cases h with
  |frl h r=>exact⟨_,_,rfl,s.seq h,r⟩
 ·subst e;cases q
noncomputable def seqL:W->Option (List W)
 |.lst w=>Za w
 |.frl w=>Za w
 |_=>Zb
noncomputable def seqW:W->Option (List W)
 |.lst w=>Za w
 |.frl w=>Za w
 |.tup w=>Za w
 |_=>Zb
theorem RepB.seqL (s:Same F H)(h:RepB K F H w v)(e:L2.seqL w=Za ws):∃a vs,v=.ref a/\SqL K H a vs/\Reps K F ws vs:=by
 cases w with
 |lst x=>obtain rfl:=sI e;obtain⟨a,vs,e,h,r⟩:=h.lst s;exact⟨a,vs,e,SqL.of' h,r⟩
 |frl x=>obtain rfl:=sI e;exact h.frl s
 |_=>exact noSome e
theorem RepB.seqW (s:Same F H)(h:RepB K F H w v)(e:L2.seqW w=Za ws):∃a vs,v=.ref a/\(SqL K H a vs\/SqT K H a vs)/\Reps K F ws vs:=by
 cases w with
 |lst x=>obtain rfl:=sI e;obtain⟨a,vs,e,h,r⟩:=h.lst s;exact⟨a,vs,e,.inl (SqL.of' h),r⟩
 |frl x=>obtain rfl:=sI e;obtain⟨a,vs,e,h,r⟩:=h.frl s;exact⟨a,vs,e,.inl h,r⟩
 |tup x=>obtain rfl:=sI e;obtain⟨a,vs,e,h,_,r⟩:=h.tup s;exact⟨a,vs,e,.inr (.inl (.inl h)),r⟩
 |_=>exact noSome e
end
noncomputable abbrev O2:=W->W->Option (W×Bool)
noncomputable def oI (c:Int->Int->Bool) (g:Int->Int->W):O2
 |.int i,.int j=>if c i j then #v[g i j,6] else Zb
 |_,_=>Zb
section
variable {K:Zg}
theorem znz (b:∀i j,c i j=Zd->C i j) (h:∀F i j,Rep K F (g i j) (g' i j)):OpS K (rI C g') (oI c g):=λF H w a k v f Q s d r e q=>by
 cases w with
 | int i =>
  cases a with
  | int j =>
   unfold oI at e;simp only at e;split at e
   ·rename_i z
    obtain rfl:=sI e;exact⟨i,j,d.int,r.int,b i j z,q _ _ (.val (h F i j))⟩
   ·exact noSome e
  |_=>exact noSome e
 |_=>exact noSome e
theorem zci (h:∀F i j,Rep K F (g i j) (g' i j)):OpS K (rI0 g') (oI (λ_ _=>Zd) g):=λF H w a d v c Q s b r e q=>by
 cases w with
 | int i =>
  cases a with
  |int j=>obtain rfl:=sI e;exact⟨i,j,b.int,r.int,q _ _ (.val (h F i j))⟩
  |_=>exact noSome e
 |_=>exact noSome e
theorem OpS.or (h:OpS K r o)(h':OpS K r' o'):OpS K (λx y H Q=>r x y H Q\/r' x y H Q) (λa b=>match o a b with|some p=>Za p|none=>o' a b):=λF H w c g v i Q s f d e q=>by
 cases z:o w c with
 |some p=>simp only [z] at e;obtain rfl:=sI e;exact .inl (h F H w c g v _ Q s f d z q)
 |none=>simp only [z] at e;exact .inr (h' F H w c g v _ Q s f d e q)
end
noncomputable def oOr (o c:O2):O2:=λa b=>match o a b with|some p=>Za p|none=>c a b
noncomputable def oCat:O2
 |.lst x,.lst y=>if x.length+y.length<=sizeLine then #v[(x++y),2] else Zb
 |_,_=>Zb
noncomputable def z2k:O2
 |.tup (x::a),.tup y=>if (x::a).length+y.length<=sizeLine then #v[(x::a++y),3] else Zb
 |_,_=>Zb
noncomputable def z67:O2
 |.tup [],.tup y=>#v[y,3]
 |_,_=>Zb
noncomputable def z17:O2
 |.str x,.str y=>if x.length+y.length<=sizeLine then Za (.str (x++y),Zc) else Zb
 |_,_=>Zb
noncomputable def oRep:O2
 |.lst x,.int k=>if -(2^63)<=k/\k<2^63/\x.length*k.toNat<=sizeLine then #v[(List.replicate k.toNat x).flatten,2] else Zb
 |_,_=>Zb
section
variable {K:Zg}
theorem z65:OpS K rCat oCat:=λF H w i o m n Q s l r e q=>by
 cases w with
 | lst x =>
  cases i with
  | lst y =>
   unfold oCat at e;simp only at e;split at e
   ·rename_i z
    obtain rfl:=sI e;nofun;obtain⟨a,v,f,j,d⟩:=l.lst s;obtain⟨b,u,g,h,c⟩:=r.lst s;refine qG ?_;exact⟨a,b,v,u,f,g,j,h,by rw[<-d.length,<-c.length];exact z,λp k=>q _ _ (.lst k (d.append c))⟩
   ·exact noSome e
  |_=>exact noSome e
 |_=>exact noSome e
theorem ybp:OpS K rRep oRep:=λF H w d l i j Q s g r e q=>by
 cases w with
 | lst x =>
  cases d with
  | int k =>
   unfold oRep at e;simp only at e;split at e
   ·rename_i z
    obtain rfl:=sI e;obtain⟨a,v,c,h,b⟩:=g.lst s;exact⟨a,k,v,c,r.int,h,z.1,z.2.1,by rw[<-b.length];exact z.2.2,λp f=>q _ _ (.lst f (b.rep _))⟩
   ·exact noSome e
  |_=>exact noSome e
 |_=>exact noSome e
theorem z18:OpS K (yeo K) z2k:=λF H g w C B A Q s l r e q=>by
 cases g with
 | tup f =>
  cases f with
  |nil=>cases w<;>exact noSome e
  | cons x f =>
   cases w with
   | tup y =>
    unfold z2k at e;simp only at e;split at e
    ·rename_i z
     obtain rfl:=sI e;nofun;obtain⟨a,v,j,k,i,c⟩:=l.tup s;obtain⟨b,u,n,h,t,d⟩:=r.tup s;refine qG ?_;refine⟨a,b,v,u,j,n,.inl (.inl k),.inl (.inl h),?_,by rw[<-c.length,<-d.length];exact z,λo=>?_,λ_ p m=>q _ _ (.tup m (c.append d))⟩
     ·intro e;subst e;cases c
     ·subst o
      cases d;rw[Bu] at q;exact q _ _ (.val (.tup i c))
    ·exact noSome e
   |_=>exact noSome e
 |_=>exact noSome e
mutual
inductive DV (H:Hp):V->PyData->Prop where
 |non:DV H .non .none
 |bl (b:Bool):DV H (.bl b) (.bool b)
 |int (i:Int):DV H (.int i) (.int i)
 |str (x:Str):DV H (.str x) (.str x)
 |tup {a:Zh}{vs:List V}{ds:List PyData} (h:H a=Za (.tup vs)) (r:DVs H vs ds):DV H (.ref a) (.tuple ds)
 |lst {a:Zh}{vs:List V}{ds:List PyData} (h:H a=Za (.lst vs)) (r:DVs H vs ds):DV H (.ref a) (.list ds)
inductive DVs (H:Hp):List V->List PyData->Prop where
 |nil:DVs H [] []
 |cons {v:V}{d:PyData}{vs:List V}{ds:List PyData} (h:DV H v d) (r:DVs H vs ds):DVs H (v::vs) (d::ds)
end
section
mutual
theorem DV.reads (I:Inv X pins σ H s):∀{v:V}{d:PyData}{u:Ze},DV H v d->RelV v u->∃as,Reads s.heap u d as
 |_,_,_,.non,r=>by cases (show _=Ze.none from r);exact⟨_,.none⟩
 |_,_,_,.bl b,r=>by cases (show _=Ze.bool b from r);exact⟨_,.bool b⟩
 |_,_,_,.int i,r=>by obtain⟨t,e⟩:=(show ∃t,_=Ze.int i t from r);subst e;exact⟨_,.int i t⟩
 |_,_,_,.str x,r=>by obtain⟨t,e⟩:=(show ∃t,_=Ze.str x t from r);subst e;exact⟨_,.str x t⟩
 | _,_,_,.tup h q,r=>by
  cases r;obtain⟨g,f,⟨o,e,c,n,j⟩,_⟩:=I.tuple (.inl (.inl h));obtain⟨as,a⟩:=DVs.reads I q f;exact⟨as,.tuple e c j (by simpa using a)⟩
 | _,_,_,.lst h q,r=>by
  cases r;obtain⟨g,f,⟨o,n,e,c,_,j⟩,_⟩:=I.list (SqL.of' h);obtain⟨as,a⟩:=DVs.reads I q f;exact⟨_,.list e c j (by simpa using a)⟩
theorem DVs.reads (I:Inv X pins σ H s):∀{vs:List V}{ds:List PyData}{us:List Ze},DVs H vs ds->Vals vs us->∃as,ReadsAll s.heap us ds as
 |_,_,_,.nil,r=>by cases r;exact⟨_,.nil⟩
 | _,_,_,.cons h q,r=>by
  cases r with
  | cons d c =>
   obtain⟨as,a⟩:=DV.reads I h d;obtain⟨bs,b⟩:=DVs.reads I q c;exact⟨_,.cons a b⟩
end
end
mutual
noncomputable def dW:W->Option PyData
 |.non=>Za .none
 |.bl b=>Za (.bool b)
 |.int i=>Za (.int i)
 |.str x=>Za (.str x)
 |.tup w=>(dWs w).bind λd=>Za (.tuple d)
 |.lst w=>(dWs w).bind λd=>Za (.list d)
 |_=>Zb
noncomputable def dWs:List W->Option (List PyData)
 |[]=>Za []
 |w::b=>(dW w).bind λd=>(dWs b).bind λa=>Za (d::a)
end
section
variable {K:Zg}
mutual
theorem z6m (s:Same F H):∀{w:W}{v:V}{d:PyData},Rep K F w v->dW w=Za d->DV H v d
 |_,_,_,.non,e=>by obtain rfl:=sI e;exact .non
 |_,_,_,.bl b,e=>by obtain rfl:=sI e;exact .bl b
 |_,_,_,.int i,e=>by obtain rfl:=sI e;exact .int i
 |_,_,_,.str x,e=>by obtain rfl:=sI e;exact .str x
 | _,_,_,.tup h r,e=>by
  obtain⟨f,c,a⟩:=bS e;obtain rfl:=sI a;exact .tup (s _ _ h) (zhz s r c)
 | _,_,_,.lst h r,e=>by
  rw[dW] at e;obtain⟨f,c,a⟩:=bS e;obtain rfl:=sI a;exact .lst (s _ _ h) (zhz s r c)
 |_,_,_,.frl _ _,e=>by exact noSome e
 |_,_,_,.dic _,e=>by exact noSome e
 |_,_,_,.dct _ _ _,e=>by exact noSome e
 |_,_,_,.dctT _ _ _,e=>by exact noSome e
 |_,_,_,.dcz _ _ _,e=>by exact noSome e
 |_,_,_,.dczT _ _ _,e=>by exact noSome e
theorem zhz (s:Same F H):∀{ws:List W}{vs:List V}{ds:List PyData},Reps K F ws vs->dWs ws=Za ds->DVs H vs ds
 |_,_,_,.nil,e=>by cases e;exact .nil
 | _,_,_,.cons h r,e=>by
  obtain⟨d,a,e⟩:=bS e;obtain⟨ds,b,c⟩:=bS e;cases c;exact .cons (z6m s h a) (zhz s r b)
end
theorem zo3 (s:Same F H) (r:RepB K F H w v) (b:dW w=Za d):DV H v d:=by
 rcases r with r|⟨a,o,u,z,rfl,h,q⟩
 ·exact z6m s r b
 ·subst z
  cases q with
  |dct f q=>exact noSome b
  |dctT f q=>exact noSome b
  | lst q =>
   obtain⟨g,e,c⟩:=bS b;obtain rfl:=sI c;exact .lst h (zhz s q e)
end
noncomputable def rEqD (g:Bool->Bool):R2:=λx y H Q=>∃d a,DV H x d/\DV H y a/\d.canLay0=Zd/\a.canLay0=Zd/\d.depth<=100/\Q (.bl (g (PyData.eqv d a))) H
theorem ybv (f:Room k X.A):OpR X (compareOp .Eq) (rEqD id):=by
 intro pins s σ H x y v u Q I i j h;nofun;obtain⟨d,n,b,e,g,a,l,q⟩:=h;obtain⟨m,r⟩:=b.reads I i;obtain⟨bs,c⟩:=e.reads I j;refine qG ?_;exact SeqAt.compareEq_reads r c g a (by have:=f.un;symm) ⟨.bl _,H,I,rfl,q⟩
theorem yer (i:Room k X.A):OpR X (compareOp .NotEq) (rEqD not):=by
 intro pins s σ H x y v u Q I l m h;nofun;obtain⟨d,g,c,f,j,a,n,q⟩:=h;obtain⟨b,r⟩:=c.reads I l;obtain⟨bs,e⟩:=f.reads I m;refine qG ?_;exact SeqAt.neOverData X.prog X.w X.A X.xe s v u d g b bs _ r e j a (by have:=i.un;symm) ⟨.bl _,H,I,rfl,q⟩
noncomputable def eqD (a b:W):Option Bool:=(dW a).bind λd=>(dW b).bind λc=>if d.canLay0&&c.canLay0&&decide (d.depth<=100) then Za (PyData.eqv d c) else Zb
theorem z5r {K:Zg}(s:Same F H)(b:RepB K F H w1 v1)(r:RepB K F H w2 v2)(e:eqD w1 w2=Za k):∃d d',DV H v1 d/\DV H v2 d'/\d.canLay0=Zd/\d'.canLay0=Zd/\d.depth<=100/\k=PyData.eqv d d':=by
 nofun;obtain⟨d,a,e⟩:=bS e;obtain⟨d',h,e⟩:=bS e;refine qG ?_;split at e
 ·rename_i z;rw[Ae,Ae] at z;obtain rfl:=sI e;exact⟨d,d',zo3 s b a,zo3 s r h,z.1.1,z.1.2,Aq z.2,rfl⟩
 ·exact noSome e
noncomputable def z9n:W->W->Option Bool
 |.non,.non=>Za Zd|.non,.int _=>Za Zc|.int _,.non=>Za Zc|.non,.bl _=>Za Zc|.bl _,.non=>Za Zc|.non,.str _=>Za Zc|.str _,.non=>Za Zc
 |.int i,.int j=>Za (decide (i=j))|.bl i,.bl j=>Za (decide (i=j))|.str i,.str j=>Za (decide (i=j))
 |.int _,.str _=>Za Zc|.str _,.int _=>Za Zc|.bl _,.str _=>Za Zc|.str _,.bl _=>Za Zc
 |_,_=>Zb
noncomputable def oEq:O2:=λa b=>match z9n a b with
 |some k=>Za (.bl k,Zc)
 |none=>(eqD a b).bind λk=>Za (.bl k,Zc)
noncomputable def oNe:O2:=λa b=>match z9n a b with
 |some k=>Za (.bl (!k),Zc)
 |none=>(eqD a b).bind λk=>Za (.bl (!k),Zc)
theorem zqv (a:RepB K F H w1 v1) (r:RepB K F H w2 v2) (e:z9n w1 w2=Za k):scal v1 v2=Zd/\decide (v1=v2)=k:=by
 cases w1 with
 | non =>
  have:=a.non;subst this;cases w2 with
  |non=>have:=r.non;subst this;obtain rfl:=sI e;exact⟨rfl,by decide⟩
  |int j=>have:=r.int;subst this;obtain rfl:=sI e;exact⟨rfl,by simp⟩
  |bl j=>have:=r.bl;subst this;obtain rfl:=sI e;exact⟨rfl,by simp⟩
  |str j=>have:=r.str;subst this;obtain rfl:=sI e;exact⟨rfl,by simp⟩
  |_=>exact noSome e
 | int i =>
  have:=a.int;subst this;cases w2 with
  |non=>have:=r.non;subst this;obtain rfl:=sI e;exact⟨rfl,by simp⟩
  |int j=>have:=r.int;subst this;obtain rfl:=sI e;exact⟨rfl,by simp⟩
  |str j=>have:=r.str;subst this;obtain rfl:=sI e;exact⟨rfl,by simp⟩
  |_=>exact noSome e
 | bl i =>
  have:=a.bl;subst this;cases w2 with
  |non=>have:=r.non;subst this;obtain rfl:=sI e;exact⟨rfl,by simp⟩
  |bl j=>have:=r.bl;subst this;obtain rfl:=sI e;exact⟨rfl,by simp⟩
  |str j=>have:=r.str;subst this;obtain rfl:=sI e;exact⟨rfl,by simp⟩
  |_=>exact noSome e
 | str i =>
  have:=a.str;subst this;cases w2 with
  |non=>have:=r.non;subst this;obtain rfl:=sI e;exact⟨rfl,by simp⟩
  |int j=>have:=r.int;subst this;obtain rfl:=sI e;exact⟨rfl,by simp⟩
  |bl j=>have:=r.bl;subst this;obtain rfl:=sI e;exact⟨rfl,by simp⟩
  |str j=>have:=r.str;subst this;obtain rfl:=sI e;exact⟨rfl,by simp⟩
  |_=>exact noSome e
 |_=>cases w2<;>exact noSome e
theorem ydn:OpS K (λx y H Q=>rEq x y H Q\/rEqD id x y H Q) oEq:=λF H w l n v m Q s c r e q=>by
 unfold oEq at e;split at e
 ·rename_i k b;obtain rfl:=sI e;obtain⟨a,h⟩:=zqv c r b;refine .inl ⟨a,?_⟩;rw[h];exact q _ _ (.val (.bl k))
 ·obtain⟨k,b,e⟩:=bS e;obtain rfl:=sI e;nofun;obtain⟨d,j,g,i,a,h,f,rfl⟩:=z5r s c r b;refine qG ?_;exact .inr ⟨d,j,g,i,a,h,f,q _ _ (.val (.bl _))⟩
theorem yfa:OpS K (λx y H Q=>rNe x y H Q\/rEqD not x y H Q) oNe:=λF H w l n v m Q s c r e q=>by
 unfold oNe at e;split at e
 ·rename_i k b;obtain rfl:=sI e;obtain⟨a,h⟩:=zqv c r b;refine .inl ⟨a,?_⟩;rw[h];exact q _ _ (.val (.bl _))
 ·obtain⟨k,b,e⟩:=bS e;obtain rfl:=sI e;nofun;obtain⟨d,j,g,i,a,h,f,rfl⟩:=z5r s c r b;refine qG ?_;exact .inr ⟨d,j,g,i,a,h,f,q _ _ (.val (.bl _))⟩
noncomputable def isW:W->W->Option Bool
 |.non,.non=>Za Zd
 |_,.non=>Za Zc
 |.bl a,.bl b=>Za (decide (a=b))
 |_,.bl _=>Za Zc
 |_,_=>Zb
noncomputable def ye9:R2:=λx y H Q=>(y=.non/\Q (.bl (!decide (x=.non))) H)\/(∃b,y=.bl b/\Q (.bl (!decide (x=.bl b))) H)
noncomputable def oIs:O2:=λa b=>(isW a b).bind λk=>Za (.bl k,Zc)
noncomputable def zib:O2:=λa b=>(isW a b).bind λk=>Za (.bl (!k),Zc)
theorem RepB.noBl (r:RepB K F H w v)(h:∀b,w≠.bl b)(b:Bool):v≠.bl b:=λe=>by
 subst e;rcases r with r|⟨_,_,_,_,e,_⟩
 ·cases r;exact h b rfl
 ·cases e
theorem RepB.noNon (r:RepB K F H w v)(h:w≠.non):v≠.non:=λe=>by
 subst e;rcases r with r|⟨_,_,_,_,e,_⟩
 ·cases r;exact h rfl
 ·cases e
theorem ybw (r:RepB K F H w1 v1) (c:RepB K F H w2 v2) (e:isW w1 w2=Za k):(v2=.non/\decide (v1=.non)=k)\/(∃b,v2=.bl b/\decide (v1=.bl b)=k):=by
 cases w2 with
 | non =>
  refine .inl ⟨c.non,?_⟩;cases w1 with
  |non=>obtain rfl:=sI e;rw[r.non];rfl
  |_=>obtain rfl:=sI e;exact At (r.noNon (by simp))
 | bl b =>
  refine .inr ⟨b,c.bl,?_⟩;cases w1 with
  |bl a=>obtain rfl:=sI e;rw[r.bl];simp
  |_=>obtain rfl:=sI e;exact At (r.noBl (by simp) b)
 |_=>cases w1<;>exact noSome e
theorem zvq:OpS K ye9 zib:=λF H w f i v g Q s c r e q=>by
 obtain⟨k,d,e⟩:=bS e;obtain rfl:=sI e;rcases ybw c r d with⟨a,h⟩|⟨b,a,h⟩
 ·exact .inl ⟨a,by rw[h];exact q _ _ (.val (.bl _))⟩
 ·exact .inr ⟨b,a,by rw[h];exact q _ _ (.val (.bl _))⟩
noncomputable def zh9:W->Bool
 |.non=>Zd
 |.bl _=>Zd
 |.int _=>Zd
 |.str _=>Zd
 |_=>Zc
noncomputable def eqF:W->W->Bool
 |.non,.non=>Zd
 |.bl a,.bl b=>a==b
 |.bl a,.int b=>(if a then 1 else 0)==b
 |.int a,.bl b=>a==(if b then 1 else 0)
 |.int a,.int b=>a==b
 |.str a,.str b=>a==b
 |_,_=>Zc
theorem Rep.flat (h:Rep K F w v)(f:zh9 w=Zd):ziw v=Zd:=by
 cases h<;>first|rfl|(cases f)
theorem Reps.flat:∀{ws:List W}{vs:List V},Reps K F ws vs->ws.all zh9=Zd->vs.all ziw=Zd
 |_,_,.nil,_=>rfl
 | _,_,.cons h r,f=>by
  rw[Cb,Ae] at f ⊢;exact⟨h.flat f.1,r.flat f.2⟩
theorem ye1 (h:Rep K F w v)(b:Rep K F' u z)(f:zh9 w=Zd)(a:zh9 u=Zd):eqV v z=eqF w u:=by
 cases h<;>first|(cases f;done)|(cases b<;>first|rfl|(cases a))
theorem z6o (a:Rep K F' u z) (b:zh9 u=Zd):∀{ws:List W}{vs:List V},Reps K F ws vs->ws.all zh9=Zd->inV z vs=ws.any λy=>eqF y u
 |_,_,.nil,_=>rfl
 | _,_,.cons h r,f=>by
  rw[Cb,Ae] at f;have i:=z6o a b r f.2;unfold inV at i ⊢;rw[Dd,Dd,i,ye1 h a f.1 b]
noncomputable def oIn (n:Bool):O2:=λa b=>(seqW b).bind λw=>if zh9 a&&w.all zh9 then Za (.bl (if n then !(w.any λy=>eqF y a) else w.any λy=>eqF y a),Zc) else Zb
theorem zxs (n:Bool):OpS K (rIn K n) (oIn n):=λF H w l v j m Q s g f e q=>by
 obtain⟨k,d,e⟩:=bS e;split at e
 ·rename_i z;rw [Ae] at z;obtain rfl:=sI e;obtain ⟨a,i,c,h,p⟩:=f.seqW s d;have b:Rep K F w v:=by
   rcases g with r|⟨_,_,_,e,_,_,y⟩
   ·exact r
   ·subst e;cases y<;>cases z.1
  refine⟨a,i,c,h,b.flat z.1,p.flat z.2,?_⟩;rw[z6o b z.1 p z.2];exact q _ _ (.val (.bl _))
 ·exact noSome e
noncomputable def oIx:O2
 |a,.int i=>(seqW a).bind λb=>(atI b i).bind λw=>#v[w,6]
 |_,_=>Zb
theorem z1x (r:Reps K F ws vs)(h:atI ws i=Za w):∃v,atI vs i=Za v/\Rep K F w v:=by
 unfold atI at h ⊢;rw[<-r.length];obtain⟨j,b,c⟩:=bS h;obtain⟨v,d,a⟩:=r.get c;exact⟨v,by rw[b];exact d,a⟩
noncomputable def rIxB (K:Zg):R2:=λx y H Q=>rIxL K x y H Q\/rIxT K x y H Q
theorem z6l:OpS K (rIxB K) oIx:=λF H d k t n r Q s m f e q=>by
 cases k with
 | int i =>
  obtain⟨o,l,e⟩:=bS (show (seqW d).bind _=_ from e);obtain⟨w,j,e⟩:=bS e;obtain rfl:=sI e;obtain⟨a,g,b,h,p⟩:=m.seqW s l;obtain⟨v,c,r⟩:=z1x p j;rcases h with h|h
  ·exact .inl ⟨a,g,i,v,b,f.int,h,c,q _ _ (.val r)⟩
  ·exact .inr ⟨a,g,i,v,b,f.int,h,c,q _ _ (.val r)⟩
 |_=>cases d<;>exact noSome e
noncomputable def oNeg:W->Option (W×Bool)
 |.int i=>#v[(-i),0]
 |_=>Zb
theorem ybb:OpS1 K (rU λi=>.int (-i)) oNeg:=λF H w v a Q s r e q=>by
 cases w with
 |int i=>obtain rfl:=sI e;exact⟨i,r.int,q _ _ (.val (.int _))⟩
 |_=>exact noSome e
end
theorem zt3:∀(ns:List Int) (k:Nat),k<=ns.length->preSum (λi=>ns.getD i 0) k=(ns.take k).sum
 |ns,0,_=>rfl
 | ns,k+1,h=>by
  have a:=zt3 ns k #v[];show preSum (λi=>ns.getD i 0) k+ns.getD k 0=_;rw[a,Dz,List.sum_append];have b:k<ns.length:=by symm
  rw[Au,Ab b];simp
section
variable {X:Cx}
theorem zqg {ns:List Int}{a:List Ze}{i:Nat}{v:Ze}(r:Vals (ns.map V.int) a)(h:a[i]?=Za v):∃t,v=.int (ns.getD i 0) t:=by
 have c:=r.length;rw[Ac] at c;have b:i<ns.length:=by rw[c];exact (Ap.mp h).1
 obtain⟨u,d,f⟩:=r.get (by rw[Ak,Ab b];rfl);rw[h] at d;obtain rfl:=sI d;obtain⟨t,e⟩:=f;exact⟨t,by rw[e,Au,Ab b];rfl⟩
noncomputable def mx1 (n:Int) (r:List Int):Int:=r.foldl (λb x=>if x > b then x else b) n
theorem zx4 (n:Int) (r:List Int):∀k,k<=r.length->(n::r).getD (argBest (λi j=>decide ((n::r).getD i 0 > (n::r).getD j 0)) k) 0=mx1 n (r.take k)
 |0,_=>rfl
 | k+1,h=>by
  have a:=zx4 n r k #v[];have b:k<r.length:=by symm
  have g:(n::r).getD (k+1) 0=r[k]:=by rw[List.getD_cons_succ,Au,Ab b];rfl
  have t:mx1 n (r.take (k+1))=if r[k] > mx1 n (r.take k) then r[k] else mx1 n (r.take k):=by
   unfold mx1;rw[Dz,Ab b,Gr];rfl
  rw[t];show (n::r).getD (if decide ((n::r).getD (k+1) 0 > (n::r).getD (argBest (λi j=>decide ((n::r).getD i 0 > (n::r).getD j 0)) k) 0)=Zd then k+1 else argBest _ k) 0=_;rw[a,g];by_cases c:r[k] > mx1 n (r.take k)
  ·rw[Ag c,if_pos rfl,if_pos c,g]
  ·rw[At c,if_neg Ah,if_neg c,a]
theorem ydf (w:X.calm=Zd):zfz X (.builtin "max") (λxs H Q=>(∃i j,xs=#v[3,16]/\Q (.int (if j > i then j else i)) H)\/∃(a:Zh) (n:Int) (r:List Int),xs=[.ref a]/\SqL X.K H a ((n::r).map V.int)/\Q (.int (mx1 n r)) H):=by
 intro pins s σ H xs B Q I r h;rcases h with h|h
 ·exact zw7 w pins s σ H xs B Q I r h
 obtain⟨a,n,f,rfl,A,q⟩:=h;obtain⟨u,rfl,x⟩:=vals1 r;cases x;obtain⟨c,k,p,E⟩:=I.list A;have g:=k.length;rw[Ac] at g;have m:a<s.heap.objs.size:=by obtain⟨o,e,_⟩:=p.isList;exact Ar e
 have l:∀(i:Nat) (v:Ze),c.toArray[i]?=Za v->∃t,v=Ze.int ((n::f).getD i 0) t:=λi v e=>zqg k (by simpa using e);refine call_max_walk (Fc p.isList ?_);refine⟨s.heap.objs.size,_,[s.heap.objs.size],c.toArray.size,_,_,_,rfl,Walks.list (show X.A.in1.handled=Zb from I.ok.hd w) _ a (Bc m) c.toArray,⟨⟨_,Ay _ rfl,rfl,rfl⟩,p.isList.push _⟩,λb d=>?_,by rw[Am,<-g];exact Nat.succ_pos _,CmpOf.ints_gt _ l,λv F D C y=>?_⟩
 ·rw[Ec];simp only [Ao,Br,Ha] at d;rcases d with rfl|rfl
  ·exact Gc _
  ·exact Ez m
 ·obtain⟨t,rfl⟩:=l _ _ C;have e:c.toArray.size-1=f.length:=by rw[Am,<-g];rfl
  refine⟨.int _,H,I.kept λb o d=>y b o (λz=>by rw[As] at z;subst z;exact absurd (Ar d) (Cj _)) (Ad _ d),⟨_,rfl⟩,?_⟩;rw[e,zx4 n f f.length (Af _),Cp];exact q
noncomputable def mn1 (n:Int) (r:List Int):Int:=r.foldl (λb x=>if x<b then x else b) n
theorem zy5 (n:Int) (r:List Int):∀k,k<=r.length->(n::r).getD (argBest (λi j=>decide ((n::r).getD i 0<(n::r).getD j 0)) k) 0=mn1 n (r.take k)
 |0,_=>rfl
 | k+1,h=>by
  have a:=zy5 n r k #v[];have b:k<r.length:=by symm
  have g:(n::r).getD (k+1) 0=r[k]:=by rw[List.getD_cons_succ,Au,Ab b];rfl
  have t:mn1 n (r.take (k+1))=if r[k]<mn1 n (r.take k) then r[k] else mn1 n (r.take k):=by
   unfold mn1;rw[Dz,Ab b,Gr];rfl
  rw[t];show (n::r).getD (if decide ((n::r).getD (k+1) 0<(n::r).getD (argBest (λi j=>decide ((n::r).getD i 0<(n::r).getD j 0)) k) 0)=Zd then k+1 else argBest _ k) 0=_;rw[a,g];by_cases c:r[k]<mn1 n (r.take k)
  ·rw[Ag c,if_pos rfl,if_pos c,g]
  ·rw[At c,if_neg Ah,if_neg c,a]
theorem zuy (w:X.calm=Zd):zfz X (.builtin "min") (λxs H Q=>(∃i j,xs=#v[3,16]/\Q (.int (if j<i then j else i)) H)\/∃(a:Zh) (n:Int) (r:List Int),xs=[.ref a]/\SqL X.K H a ((n::r).map V.int)/\Q (.int (mn1 n r)) H):=by
 intro pins s σ H xs B Q I r h;rcases h with h|h
 ·exact zv7 w pins s σ H xs B Q I r h
 obtain⟨a,n,f,rfl,A,q⟩:=h;obtain⟨u,rfl,x⟩:=vals1 r;cases x;obtain⟨c,k,p,E⟩:=I.list A;have g:=k.length;rw[Ac] at g;have m:a<s.heap.objs.size:=by obtain⟨o,e,_⟩:=p.isList;exact Ar e
 have l:∀(i:Nat) (v:Ze),c.toArray[i]?=Za v->∃t,v=Ze.int ((n::f).getD i 0) t:=λi v e=>zqg k (by simpa using e);refine call_min_walk (Fc p.isList ?_);refine⟨s.heap.objs.size,_,[s.heap.objs.size],c.toArray.size,_,_,_,rfl,Walks.list (show X.A.in1.handled=Zb from I.ok.hd w) _ a (Bc m) c.toArray,⟨⟨_,Ay _ rfl,rfl,rfl⟩,p.isList.push _⟩,λb d=>?_,by rw[Am,<-g];exact Nat.succ_pos _,CmpOf.ints_lt _ l,λv F D C y=>?_⟩
 ·rw[Ec];simp only [Ao,Br,Ha] at d;rcases d with rfl|rfl
  ·exact Gc _
  ·exact Ez m
 ·obtain⟨t,rfl⟩:=l _ _ C;have e:c.toArray.size-1=f.length:=by rw[Am,<-g];rfl
  refine⟨.int _,H,I.kept λb o d=>y b o (λz=>by rw[As] at z;subst z;exact absurd (Ar d) (Cj _)) (Ad _ d),⟨_,rfl⟩,?_⟩;rw[e,zy5 n f f.length (Af _),Cp];exact q
theorem z8b:OpR X (binaryOp .Add) (λx y H Q=>∃a b ys,x=.ref a/\y=.ref b/\SqT X.K H a []/\SqT X.K H b ys/\Q (.ref b) H):=by
 intro pins s σ H x y v u Q I r k h;nofun;obtain⟨a,b,ys,rfl,rfl,D,f,q⟩:=h;refine qG ?_;cases r;cases k;nofun;obtain⟨i,A,p,_⟩:=I.tuple D;obtain⟨c,J,E,_⟩:=I.tuple f;obtain⟨⟨M,j,L,z⟩,g,B,n,o⟩:=id p;obtain⟨⟨K,t,F,l⟩,d,C,w,e⟩:=id E;ac_rfl;subst B o C e;have m:i=[]:=by cases A;rfl
 subst m;exact concat_meets ⟨_,g,rfl⟩ ⟨_,d,rfl⟩ noFill_tuple_add seq_tuple_add PySem.F.slot_tuple_add PySem.F.entry_tuple_add (Hy _ _)
  (tuple_addW0 a b _ _ n w j t z l rfl) ⟨g,d,⟨.ref b,H,I.tok _,rfl,q⟩⟩
theorem z2o:OpR X (binaryOp .FloorDiv) (rI (λ_ j=>0<j/\j.natAbs.log2<9000) λi j=>.int (i/j)):=opI λi j _ _ _ _ _ h q=>by
 exact floordiv_int #v[] (by rw[Int.fdiv_eq_ediv_of_nonneg i #v[]];exact q) (.inl (PyProof.noPylong_of_log2 h.2))
end
section
variable {K:Zg}
noncomputable def ygo (K:Zg):R2:=λx y H Q=>∃a b c,x=.ref a/\y=.ref b/\SqT K H a []/\SqT K H b c/\Q (.ref b) H
theorem z0y:OpS K (ygo K) z67:=λF H c w o n m Q s i r e q=>by
 cases c with
 | tup x =>
  cases x with
  |cons _ _=>cases w<;>exact noSome e
  | nil =>
   cases w with
   | tup y =>
    obtain rfl:=sI e;nofun;obtain⟨a,v,d,g,l,p⟩:=i.tup s;obtain⟨b,u,j,h,f,k⟩:=r.tup s;refine qG ?_;cases p;subst j;exact⟨a,b,u,d,rfl,.inl (.inl g),.inl (.inl h),q _ _ (.val (.tup f k))⟩
   |_=>exact noSome e
 |_=>exact noSome e
noncomputable def yhv:R2:=λx y H Q=>∃i j,x=.str i/\y=.str j/\i.length+j.length<=sizeLine/\Q (.str (i++j)) H
theorem z3p:OpS K yhv z17:=λF H w a d v c Q s b r e q=>by
 cases w with
 | str x =>
  cases a with
  | str y =>
   unfold z17 at e;simp only at e;split at e
   ·rename_i z;obtain rfl:=sI e;exact⟨x,y,b.str,r.str,z,q _ _ (.val (.str _))⟩
   ·exact noSome e
  |_=>exact noSome e
 |_=>exact noSome e
noncomputable abbrev ON:=List W->Option (W×Bool)
noncomputable def oLen:ON
 |[w]=>(seqW w).bind λa=>#v[a.length,0]
 |_=>Zb
theorem z68:OpSN K (λxs H Q=>∃p ys,xs=[.ref p]/\(SqL K H p ys\/SqT K H p ys)/\Q (.int ys.length) H) oLen:=λF H w v f Q s r e q=>by
 cases r with
 |nil=>exact noSome e
 | cons h r =>
  cases r with
  |cons _ _=>exact noSome e
  | nil =>
   obtain⟨w,d,e⟩:=bS (show (seqW _).bind _=_ from e);obtain rfl:=sI e;obtain⟨a,v,c,b,p⟩:=h.seqW s d;subst c;exact⟨a,v,rfl,b,by rw[<-p.length];exact q _ _ (.val (.int _))⟩
noncomputable def oAbs:ON
 |[.int i]=>#v[(if i<0 then -i else i),0]
 |_=>Zb
theorem RepBs.one (r:RepBs K F H [w] vs):∃v,vs=[v]/\RepB K F H w v:=by
 cases r with
 |cons h r=>cases r;exact⟨_,rfl,h⟩
theorem RepBs.two (r:RepBs K F H [w,u] vs):∃v z,vs=[v,z]/\RepB K F H w v/\RepB K F H u z:=by
 cases r with
 |cons h r=>obtain⟨z,e,a⟩:=r.one;subst e;exact⟨_,z,rfl,h,a⟩
theorem yam:OpSN K (λxs H Q=>∃i,xs=[.int i]/\Q (.int (if i<0 then -i else i)) H) oAbs:=λF H w c b Q s r e q=>by
 match w,e with
 | [.int i],e =>
  obtain rfl:=sI e;obtain⟨v,a,h⟩:=r.one;subst a;exact⟨i,by rw[h.int],q _ _ (.val (.int _))⟩
noncomputable def oInt:ON
 |[.int i]=>#v[i,0]
 |[.bl k]=>#v[(if k then 1 else 0),0]
 |_=>Zb
theorem z7a:OpSN K (λxs H Q=>(∃i,xs=[.int i]/\Q (.int i) H)\/∃k,xs=[.bl k]/\Q (.int (if k then 1 else 0)) H) oInt:=λF H w c b Q s r e q=>by
 match w,e with
 | [.int i],e =>
  obtain rfl:=sI e;obtain⟨v,a,h⟩:=r.one;subst a;exact .inl ⟨i,by rw[h.int],q _ _ (.val (.int _))⟩
 | [.bl k],e =>
  obtain rfl:=sI e;obtain⟨v,a,h⟩:=r.one;subst a;exact .inr ⟨k,by rw[h.bl],q _ _ (.val (.int _))⟩
noncomputable def zan:ON
 |[.tup a]=>#v[a,3]
 |[w]=>(seqL w).bind λa=>#v[a,3]
 |_=>Zb
theorem zva:OpSN K (λxs H Q=>∃p ys,xs=[.ref p]/\((SqL K H p ys/\∀l,H l=Zb->Q (.ref l) (upd H l (.tup ys)))\/(SqT K H p ys/\Q (.ref p) H))) zan:=λF H w j i Q s r e q=>by
 match w,e with
 | [.tup w],e =>
  obtain rfl:=sI e;nofun;obtain⟨v,c,h⟩:=r.one;obtain⟨a,u,d,b,f,p⟩:=h.tup s;refine qG ?_;subst c d;exact⟨a,u,rfl,.inr ⟨.inl (.inl b),q _ _ (.val (.tup f p))⟩⟩
 | [.lst w],e =>
  obtain rfl:=sI e;nofun;obtain⟨v,c,h⟩:=r.one;obtain⟨a,u,d,b,p⟩:=h.lst s;ac_rfl;subst c d;exact⟨a,u,rfl,.inl ⟨SqL.of' b,λl g=>q _ _ (.tup g p)⟩⟩
 | [.frl w],e =>
  obtain rfl:=sI e;nofun;obtain⟨v,c,h⟩:=r.one;obtain⟨a,u,d,b,p⟩:=h.frl s;ac_rfl;subst c d;exact⟨a,u,rfl,.inl ⟨b,λl g=>q _ _ (.tup g p)⟩⟩
 |[.non],e=>exact noSome e
 |[.bl _],e=>exact noSome e
 |[.int _],e=>exact noSome e
 |[.str _],e=>exact noSome e
 |[.dic],e=>exact noSome e
 |[.dct _ _],e=>exact noSome e
 |[.dcz _ _],e=>exact noSome e
noncomputable def blsOf:List W->Option (List Bool)
 |[]=>Za []
 |.bl b::w=>(blsOf w).bind λbs=>Za (b::bs)
 |_=>Zb
noncomputable def zcs:List W->Option (List Int)
 |[]=>Za []
 |.int b::w=>(zcs w).bind λbs=>Za (b::bs)
 |_=>Zb
theorem zrn:∀{ws:List W}{bs:List Bool},blsOf ws=Za bs->ws=bs.map W.bl
 |[],_,e=>by obtain rfl:=sI e;rfl
 | .bl b::ws,_,e=>by
  obtain⟨bs,h,e⟩:=bS (show (blsOf ws).bind _=_ from e);obtain rfl:=sI e;rw[zrn h];rfl
 |.non::_,_,e=>by exact noSome e
 |.int _::_,_,e=>by exact noSome e
 |.str _::_,_,e=>by exact noSome e
 |.tup _::_,_,e=>by exact noSome e
 |.lst _::_,_,e=>by exact noSome e
 |.frl _::_,_,e=>by exact noSome e
theorem zd4:∀{ws:List W}{bs:List Int},zcs ws=Za bs->ws=bs.map W.int
 |[],_,e=>by obtain rfl:=sI e;rfl
 | .int b::ws,_,e=>by
  obtain⟨bs,h,e⟩:=bS (show (zcs ws).bind _=_ from e);obtain rfl:=sI e;rw[zd4 h];rfl
 |.non::_,_,e=>by exact noSome e
 |.bl _::_,_,e=>by exact noSome e
 |.str _::_,_,e=>by exact noSome e
 |.tup _::_,_,e=>by exact noSome e
 |.lst _::_,_,e=>by exact noSome e
 |.frl _::_,_,e=>by exact noSome e
theorem zej:∀(ns:List Int),zcs (ns.map W.int)=Za ns
 |[]=>rfl
 |n::ns=>by show (zcs (ns.map W.int)).bind _=_;rw[zej ns];rfl
theorem zd1:∀(ns:List Bool),blsOf (ns.map W.bl)=Za ns
 |[]=>rfl
 |n::ns=>by show (blsOf (ns.map W.bl)).bind _=_;rw[zd1 ns];rfl
noncomputable def oBl (f:List Bool->Bool):ON
 |[w]=>(seqL w).bind λa=>(blsOf a).bind λbs=>Za (.bl (f bs),Zc)
 |_=>Zb
theorem z5h:OpSN K (λxs H Q=>∃(a:Zh) (bs:List Bool),xs=[.ref a]/\SqL K H a (bs.map V.bl)/\Q (.bl (f bs)) H) (oBl f):=λF H c l k Q s r e q=>by
 match c,e with
 | [w],e =>
  nofun;obtain⟨c,j,e⟩:=bS (show (seqL _).bind _=_ from e);obtain⟨bs,d,e⟩:=bS e;refine qG ?_;obtain rfl:=sI e;nofun;obtain⟨v,g,h⟩:=r.one;obtain⟨a,u,i,b,p⟩:=h.seqL s j;ac_rfl;subst g i;rw[zrn d] at p;rw[p.bls] at b;exact⟨a,bs,rfl,b,q _ _ (.val (.bl _))⟩
noncomputable def mnW (w:W):Option (W×Bool):=(seqL w).bind λa=>(zcs a).bind λb=>match b with
 |n::r=>#v[(mn1 n r),0]
 |[]=>Zb
noncomputable def oMin:ON
 |#v[3,16]=>#v[(if j<i then j else i),0]
 |[w]=>mnW w
 |_=>Zb
theorem ybi:OpSN K (λxs H Q=>(∃i j,xs=#v[3,16]/\Q (.int (if j<i then j else i)) H)\/∃(a:Zh) (n:Int) (r:List Int),xs=[.ref a]/\SqL K H a ((n::r).map V.int)/\Q (.int (mn1 n r)) H) oMin:=λF H g x m Q s r e q=>by
 unfold oMin at e;split at e
 ·obtain rfl:=sI e
  obtain⟨v,z,b,o,f⟩:=r.two;subst b;exact .inl ⟨_,_,by rw[o.int,f.int],q _ _ (.val (.int _))⟩
 ·rename_i w
  nofun;obtain⟨g,t,e⟩:=bS (show (seqL w).bind _=Za m from e);obtain⟨c,k,e⟩:=bS e;obtain⟨v,b,h⟩:=r.one;obtain⟨a,u,l,d,p⟩:=h.seqL s t;refine qG ?_;subst b l;rw[zd4 k] at p;rw[p.ints] at d;cases c with
  |nil=>exact noSome e
  | cons n c =>
   obtain rfl:=sI e;exact .inr ⟨a,n,c,rfl,d,q _ _ (.val (.int _))⟩
 ·exact noSome e
noncomputable def tyW:W->Option String
 |.non=>Za "NoneType"
 |.bl _=>Za "bool"
 |.int _=>Za "int"
 |.str _=>Za "str"
 |.tup _=>Za "tuple"
 |.lst _=>Za "list"
 |.frl _=>Zb
 |.dic=>Zb
 |.dct _ _=>Zb
 |.dcz _ _=>Zb
inductive Kd where
 |int|bool|str|tuple|list
 deriving DecidableEq
noncomputable def Kd.nm:Kd->String
 |.int => "int" | .bool => "bool" | .str => "str" | .tuple => "tuple" | .list => "list"
noncomputable def isiW (k:Kd):W->Option Bool
 |.non=>Za Zc
 |.bl _=>Za (k==.bool||k==.int)
 |.int _=>Za (k==.int)
 |.str _=>Za (k==.str)
 |.tup _=>Za (k==.tuple)
 |.lst _=>Za (k==.list)
 |.frl _=>Zb
 |.dic=>Za Zc
 |.dct _ _=>Za Zc
 |.dcz _ _=>Zb
noncomputable def oIsi (k:Kd) (w:W):Option (W×Bool):=(isiW k w).bind λb=>Za (.bl b,Zc)
theorem ya5 (s:Same F H) (r:RepB K F H w v) (e:isiW k w=Za b):∃t,TyOf K H v t/\PySem.W.kitOne K t (.type k.nm)=Za b:=by
 cases w with
 |non=>rw[r.non];obtain rfl:=sI e;exact⟨_,.non,by cases k<;>(with_unfolding_all rfl)⟩
 |bl x=>rw[r.bl];obtain rfl:=sI e;exact⟨_,.bl x,by cases k<;>(with_unfolding_all rfl)⟩
 |int x=>rw[r.int];obtain rfl:=sI e;exact⟨_,.int x,by cases k<;>(with_unfolding_all rfl)⟩
 |str x=>rw[r.str];obtain rfl:=sI e;exact⟨_,.str x,by cases k<;>(with_unfolding_all rfl)⟩
 |tup x=>obtain⟨a,g,c,h,_⟩:=r.tup s;subst c;obtain rfl:=sI e;exact⟨_,.tup h,by cases k<;>(with_unfolding_all rfl)⟩
 |lst x=>obtain⟨a,g,c,h,_⟩:=r.lst s;subst c;obtain rfl:=sI e;exact⟨_,.lst h,by cases k<;>(with_unfolding_all rfl)⟩
 |frl x=>exact noSome e
 | dic =>
  rcases r with r|⟨_,_,_,z,_,_,q⟩
  ·cases r with
   |dic h=>obtain rfl:=sI e;exact⟨_,.dK (s _ _ h),by cases k<;>(with_unfolding_all rfl)⟩
  ·subst z;cases q
 | dct d f =>
  obtain rfl:=sI e;rcases r with r|⟨_,_,_,z,c,h,q⟩
  ·cases r with
   |dct h _ _=>exact⟨_,.dK (s _ _ h),by cases k<;>(with_unfolding_all rfl)⟩
   |dctT h _ _=>exact⟨_,.dT (s _ _ h),by cases k<;>(with_unfolding_all rfl)⟩
  ·subst z c
   cases q with
   |dct _ _=>exact⟨_,.dK h,by cases k<;>(with_unfolding_all rfl)⟩
   |dctT _ _=>exact⟨_,.dT h,by cases k<;>(with_unfolding_all rfl)⟩
 |dcz d f=>exact noSome e
noncomputable def rIsi (K:Zg):List V->Hp->VK->Prop:=λa H Q=>∃x t c b,a=[x,.ty c]/\TyOf K H x t/\PySem.W.kitOne K t (.type c)=Za b/\Q (.bl b) H
theorem z28 (h:tE K (gOp1 (oIsi k) a) σ H Q):tCB (rIsi K) (zgp (tA K a) (zgp (tC (.ty k.nm)) tNil)) σ H Q:=by
 nofun;obtain⟨F,p,g,m,z,R,h,q⟩:=h;obtain⟨⟨j,x⟩,l,h⟩:=bS h;obtain⟨w,d,h⟩:=bS h;obtain⟨y,c,h⟩:=bS h;obtain⟨b,f,c⟩:=bS c;refine qG ?_;obtain rfl:=sI c;cases h;refine⟨F,p,g,j,x,R,l,λr u v s e n=>?_⟩;obtain⟨t,o,i⟩:=ya5 e.sub (n.repB e d) f;exact⟨v,t,_,b,rfl,o,i,q r u _ s e (.bl b)⟩
noncomputable abbrev GO:=En->Option (En×Option Int)
noncomputable def zbx:GO:=λe=>Za (e,Zb)
noncomputable def ze5 (g:GE):GO:=λa=>match g a with
 |some (e,(.int i,_))=>Za (e,Za i)
 |_=>Zb
noncomputable def tO (K:Zg) (g:GO):TO:=λσ H Q=>∃F p a e o,Rel K F p a σ H/\g a=Za (e,o)/\∀c b,Same F c->Rel K c p e σ b->Q o b
theorem Res.isInt (h:Res K F H pr en σ (.int i,fl) v):v=.int i:=by
 cases fl with
 |false=>cases (show Rep K F (.int i) v from h);rfl
 |true=>obtain⟨_,_,_,e,_,_,_,q,_⟩:=h;subst e;cases q
theorem zpy (h:tO K zbx σ H Q):zv9 σ H Q:=by
 obtain⟨F,p,a,e,o,R,h,q⟩:=h;cases h;exact q F H (.refl F) R
theorem zvt (h:tO K (ze5 g) σ H Q):yde (tE K g) σ H Q:=by
 nofun;obtain⟨F,b,a,i,o,R,h,q⟩:=h;refine qG ?_;unfold ze5 at h;cases e:g a with
 |none=>simp only [e] at h;exact noSome h
 | some p =>
  obtain⟨k,w,fl⟩:=p;cases w with
  |int c=>simp only [e] at h;cases h;exact⟨F,b,a,_,_,R,e,λj d v s f z=>⟨c,z.isInt,q j d s f⟩⟩
  |_=>simp only [e] at h;exact noSome h
open HT in
theorem zuk {l b:Option Int} (a:IsTup s.heap t items) (c:s.heap.IsSliceOf sl vl vu .none) (j:IsPart vl l) (p:IsPart vu b)
  (i:sIx items.size 0 l=0) (e:sIx items.size items.size b=items.size) (h:Q (.ref t) s):wpAny (model prog w) A (getItem (.ref t) (.ref sl)) Q E s:=by
 obtain⟨o,f,g,_⟩:=id c;have d:s.TypeIs (.ref sl) "slice" := ⟨o,f,g⟩;unfold getItem
 try with_reducible refine Ct ?_
 first|refine Aa (Aj ?_)|skip
 refine Aa (wpAny_sequenceKey a.typeIs #v[0,9] ?_);refine Aa (Dt a.typeIs Fa (Ft Fa a.typeIs entry_tuple_getitem ?_ (args_tuple_getitem _ _)));show wpAny _ _ (Builtin.Tuple.tupleItemsOf (.ref t)>>=_) _ _ s;refine Aa (tupleItemsOf_ a ?_);refine Aa (wpAny_typeOf d ?_);refine Aa (zdy c j p ?_);rw[i,e];show wpAny _ _ (if ((((0:Nat):Int)==0&&(1:Int)==1&&(items.size-0)==items.size)=Zd) then _ else _) _ _ s;rw[if_pos (by simp)];refine Aa (Aa (wpAny_typeOf a.typeIs (Aj ?_)));rw[if_pos #v[0,9]];refine Aa (Dr (Aj ⟨_,rfl,?_⟩));exact Aj h
noncomputable def rSlW (K:Zg):V->Option Int->Option Int->Hp->VK->Prop:=λx l h H Q=>∃a b,x=.ref a/\SqT K H a b/\HT.sIx b.length 0 l=0/\HT.sIx b.length b.length h=b.length/\Q x H
theorem z78:SlR X (rSlW X.K):=by
 intro pins s σ H x v t u o w m Q I d k l p h;nofun;obtain⟨a,g,rfl,e,f,j,q⟩:=h;refine qG ?_;cases d;nofun;obtain⟨i,r,c,n⟩:=I.tuple e;ac_rfl;have b:i.toArray.size=g.length:=by rw[Am];exact r.length.symm
 exact⟨"tuple",_,PyProof.Rows.slot_tuple_getitem.lookup,c.typeIs,zuk c k l p (by rw[b];exact f) (by rw[b];exact j) ⟨.ref a,H,I,rfl,q⟩⟩
noncomputable def cutW (xs:List W) (l h:Option Int):List W:=(xs.drop (HT.sIx xs.length 0 l)).take (HT.sIx xs.length xs.length h-HT.sIx xs.length 0 l)
noncomputable def oSl (w:W) (l h:Option Int):Option (W×Bool):=match w with
 |.lst a=>#v[(cutW a l h),2]
 |.frl a=>#v[(cutW a l h),2]
 |.tup a=>#v[(cutW a l h),3]
 |_=>Zb
noncomputable def rSlB (K:Zg):V->Option Int->Option Int->Hp->VK->Prop:=λx l h H Q=>(rSlL K x l h H Q\/rSlT K x l h H Q)\/rSlW K x l h H Q
theorem yf3 {f g:Option Int} (s:Same F H) (r:RepB K F H w v) (e:oSl w f g=Za rv) (q:∀u H',Out K F H rv u H'->Q u H'):rSlB K v f g H Q:=by
 have cut:∀{c:List W}{b:List V},Reps K F c b->Reps K F (cutW c f g) (cutV b f g):=λ{c b} p=>by
  unfold cutW cutV;rw[<-p.length];exact (p.drop _).take _
 cases w with
 |lst c=>obtain rfl:=sI e;obtain⟨a,b,d,h,p⟩:=r.lst s;exact .inl (.inl ⟨a,b,d,SqL.of' h,λl i=>q _ _ (.lst i (cut p))⟩)
 |frl c=>obtain rfl:=sI e;obtain⟨a,b,d,h,p⟩:=r.frl s;exact .inl (.inl ⟨a,b,d,h,λl i=>q _ _ (.lst i (cut p))⟩)
 | tup c =>
  obtain rfl:=sI e;obtain⟨a,b,d,h,j,p⟩:=r.tup s;by_cases y:HT.sIx b.length 0 f=0/\HT.sIx b.length b.length g=b.length
  ·refine .inr ⟨a,b,d,.inl (.inl h),y.1,y.2, ?_⟩
   have k:cutW c f g=c:=by
    unfold cutW;rw[p.length,y.1,y.2,Ga,Nat.sub_zero,<-p.length,Cp]
   rw[k] at q;subst d;exact q _ _ (.val (.tup j p))
  ·exact .inl (.inr ⟨a,b,d,.inl (.inl h),y,λl i=>q _ _ (.tup i (cut p))⟩)
 |_=>exact noSome e
noncomputable def gSl (a:GA) (c b:GO):GE:=λe=>(a e).bind λp=>(c p.1).bind λl=>(b l.1).bind λh=>(resA h.1 p.2).bind λw=>(oSl w l.2 h.2).bind λr=>Za (h.1,r)
theorem z90 {d i:GO}(h:tE K (gSl a d i) σ H Q):tSl (rSlB K) (tA K a) (tO K d) (tO K i) σ H Q:=by
 nofun;obtain⟨F,p,k,x,S,R,h,q⟩:=h;obtain⟨⟨e,L⟩,w,h⟩:=bS h;obtain⟨⟨f,l⟩,j,h⟩:=bS h;obtain⟨⟨C,u⟩,r,h⟩:=bS h;obtain⟨M,b,h⟩:=bS h;obtain⟨P,n,h⟩:=bS h;refine qG ?_;cases h;refine⟨F,p,k,e,L,R,w,λI Y X t E B=>⟨I,p,e,f,l,E,j,λA O s R2=>⟨A,p,f,C,u,R2,r,λN U g c=>?_⟩⟩⟩;refine yf3 c.sub ((B.mono (s.trans g)).repB c b) n λv m z=>?_;nofun;obtain⟨J,D,o,y⟩:=z.close c;ac_rfl;exact q J m v (t.trans (s.trans (g.trans D))) o y
end
structure ItOk (K:Zg) (F:Hp) (J:It) (ws:List W):Prop where
 go:∀i H,Same F H->i<ws.length->J.go i H
 stop:∀H,Same F H->J.stop ws.length H
 yld:∀i H x H',Same F H->i<ws.length->J.yld i H x H'->∃w,ws[i]?=Za w/\Out K F H (w,Zc) x H'
noncomputable def tI (K:Zg) (g:GL):TI:=λσ H R=>∃F p b e w,Rel K F p b σ H/\g b=Za (e,w)/\∀a c J,Same F a->Rel K a p e σ c->ItOk K a J w->R J c
section
variable {K:Zg}
theorem zcr (s:Same F F')(h:SqT K F a vs):SqT K F' a vs:=by
 rcases h with (h|⟨o,h⟩)|h
 ·exact .inl (.inl (s _ _ h))
 ·exact .inl (.inr ⟨o,s _ _ h⟩)
 ·exact .inr h
theorem zrz (h:SqL K F a vs)(r:Reps K F ws vs):ItOk K F (Itl K a) ws where
 go:=λi H s b=>⟨vs,vs[i]'(by rw[<-r.length];exact b),s.seq h,by rw[Ab]⟩
 stop:=λH s=>⟨vs,s.seq h,by rw[r.length];exact Af _⟩
 yld:=λi H x c s b y=>by
  obtain⟨e,y⟩:=y;subst e;obtain⟨w,e,q⟩:=r.getV (y vs (s.seq h));exact⟨w,e,.val q⟩
theorem yb4 (h:SqT K F a vs)(r:Reps K F ws vs):ItOk K F (Itt K a) ws where
 go:=λi H s b=>⟨vs,vs[i]'(by rw[<-r.length];exact b),zcr s h,by rw[Ab]⟩
 stop:=λH s=>⟨vs,zcr s h,by rw[r.length];exact Af _⟩
 yld:=λi H x c s b y=>by
  obtain⟨e,y⟩:=y;subst e;obtain⟨w,e,q⟩:=r.getV (y vs (zcr s h));exact⟨w,e,.val q⟩
noncomputable def rngW (l:Int) (n:Nat):List W:=(List.range n).map λk=>W.int (l+(k:Nat))
theorem zqs (l:Int)(n:Nat):ItOk K F (Itr l n) (rngW l n) where
 go:=λi H s h=>by unfold rngW at h;rw[Ac,Be] at h;exact h
 stop:=λH s=>by unfold rngW;rw[Ac,Be];exact Af n
 yld:=λi H x a s h y=>by
  obtain⟨e,y⟩:=y;subst e y;unfold rngW at h ⊢;rw[Ac,Be] at h;exact⟨_,by rw[Ak,Hl h];rfl,.val (.int _)⟩
noncomputable def zhj (ws:List W) (k:Nat):List W:=match ws with
 |[]=>[]
 |w::ws=>.tup [.int k,w]::zhj ws (k+1)
theorem zc5:∀(ws:List W) (k:Nat),(zhj ws k).length=ws.length
 |[],_=>rfl
 |_::ws,k=>congrArg (· + 1) (zc5 ws (k+1))
theorem zfl:∀{ws:List W}{k i:Nat}{w:W},ws[i]?=Za w->(zhj ws k)[i]?=Za (.tup [.int (k+i:Nat),w])
 |[],_,_,_,e=>by simp at e
 |w::ws,k,0,_,e=>by simp at e;subst e;rfl
 | w::ws,k,i+1,u,e=>by
  have:=zfl (k:=k+1) (by simpa using e);show (zhj ws (k+1))[i]?=_;rw[this];have:k+1+i=k+(i+1):=by symm
  rw[this]
theorem z8s (h:SqL K F a vs)(r:Reps K F ws vs):ItOk K F (Ite K a) (zhj ws 0) where
 go:=λi H s b=>by rw[zc5] at b;exact⟨vs,vs[i]'(by rw[<-r.length];exact b),s.seq h,by rw[Ab]⟩
 stop:=λH s=>⟨vs,s.seq h,by rw[zc5,r.length];exact Af _⟩
 yld:=λi H x f s b y=>by
  nofun;obtain⟨p,v,e,d,c,y⟩:=y;refine qG ?_;subst e c;obtain⟨w,e,q⟩:=r.getV (y vs (s.seq h));refine⟨_,zfl e,?_⟩;rw[Dv];exact .tup d (.cons (.int _) (.cons q .nil))
end
section
noncomputable def iSeq (K:Zg) (t:TE):TI:=λσ H R=>t σ H λx b=>∃a,x=.ref a/\((∃c,SqL K b a c)/\R (Itl K a) b\/(∃c,SqT K b a c)/\R (Itt K a) b)
theorem z5o (k:PE X l tl):PI X tg l (iSeq X.K tl):=λpins s σ H R I h =>
 thn (k pins s σ H _ I h) λv d ⟨x,g,c,r,a,e,m⟩=>by
  subst e;cases r;have fp:∀b∈[d.heap.objs.size],FpOk X pins g b:=λb j=>by
   rw[As] at j;subst j;exact c.fpOk (Af _) (c.hok.fresh (Af _))
  rcases m with⟨⟨n,f⟩,q⟩|⟨⟨n,f⟩,q⟩
  ·obtain⟨i,_,p,_⟩:=c.list f;exact Fc p.isList ⟨_,_,_,_,g,rfl,c.kept (t':=d.toks) λb o e=>Ad _ e,zww a _,⟨_,Ay _ rfl,rfl,rfl⟩,fp,q⟩
  ·obtain⟨i,_,p,_⟩:=c.tuple f;exact Gw (show d.heap.IsTuple a i.toArray from p) ⟨_,_,_,_,g,rfl,c.kept (t':=d.toks) λb o e=>Ad _ e,zte a _,⟨_,Ay _ rfl,rfl,rfl⟩,fp,q⟩
end
noncomputable def zap (g:GE):GL:=λe=>(g e).bind λp=>(seqW p.2.1).bind λw=>Za (p.1,w)
noncomputable def zby (i:Int):Bool:=decide (-(2^62)<=i)&&decide (i<2^62)
noncomputable def zbt (as:GAs):GL:=λe=>(as e).bind λp=>match zbi p.1 p.2 with
 |some [.int j]=>if zby j then Za (p.1,rngW 0 j.toNat) else Zb
 |_=>Zb
noncomputable def zmv (as:GAs):GL:=λe=>(as e).bind λp=>match zbi p.1 p.2 with
 |some #v[3,16]=>if zby i&&zby j then Za (p.1,rngW i (j-i).toNat) else Zb
 |_=>Zb
noncomputable def gRev (g:GE):GL:=λe=>(g e).bind λp=>(seqL p.2.1).bind λw=>Za (p.1,w.reverse)
theorem zeb (h:zby i=Zd):-(2^62)<=i/\i<2^62:=by
 unfold zby at h;rw[Ae] at h;exact⟨Aq h.1,Aq h.2⟩
section
variable {K:Zg}
theorem zlw (h:tI K (zap g) σ H R):iSeq K (tE K g) σ H R:=by
 nofun;obtain⟨F,p,i,l,m,Re,h,q⟩:=h;obtain⟨⟨f,e⟩,k,h⟩:=bS h;obtain⟨u,a,h⟩:=bS h;refine qG ?_;cases h;refine⟨F,p,i,f,e,Re,k,λn d v s j z=>?_⟩;nofun;obtain⟨b,c,R2,y⟩:=z.freeze j;obtain⟨w,fl⟩:=e;ac_rfl;cases w with
 | lst x=>obtain rfl:=sI a;cases y with
  |lst y r=>exact⟨_,rfl,.inl ⟨⟨_,SqL.of' (R2.sub _ _ y)⟩,q b d _ (s.trans c) R2 (zrz (SqL.of' y) r)⟩⟩
 | frl x=>obtain rfl:=sI a;cases y with
  |frl y r=>exact⟨_,rfl,.inl ⟨⟨_,R2.sub.seq y⟩,q b d _ (s.trans c) R2 (zrz y r)⟩⟩
 | tup x=>obtain rfl:=sI a;cases y with
  |tup y r=>exact⟨_,rfl,.inr ⟨⟨_,.inl (.inl (R2.sub _ _ y))⟩,q b d _ (s.trans c) R2 (yb4 (.inl (.inl y)) r)⟩⟩
 |_=>cases a
theorem zvh (h:tI K (zbt as) σ H R):ydl (tAs K as) σ H R:=by
 nofun;obtain⟨F,p,d,k,w,Re,h,q⟩:=h;obtain⟨⟨a,x⟩,i,h⟩:=bS h;refine qG ?_;refine⟨F,p,d,a,x,Re,i,λg f m s b l=>?_⟩;cases e:zbi a x with
 |none=>simp only [e] at h;exact noSome h
 | some u =>
  have r:=l.repBs b e
  match u,e,r with
  | [.int j],e,r =>
   simp only [e] at h;split at h
   ·rename_i z
    cases h;obtain⟨v,a,c⟩:=r.one;subst a;exact⟨j,by rw[c.int],(zeb z).1,(zeb z).2,q g f _ s b (zqs 0 j.toNat)⟩
   ·exact noSome h
  |[],e,_=>simp only [e] at h;exact noSome h
  |.non::_,e,_=>simp only [e] at h;exact noSome h
  |.bl _::_,e,_=>simp only [e] at h;exact noSome h
  |.str _::_,e,_=>simp only [e] at h;exact noSome h
  |.tup _::_,e,_=>simp only [e] at h;exact noSome h
  |.lst _::_,e,_=>simp only [e] at h;exact noSome h
  |.frl _::_,e,_=>simp only [e] at h;exact noSome h
  |.dic::_,e,_=>simp only [e] at h;exact noSome h
  |.dct _ _::_,e,_=>simp only [e] at h;exact noSome h
  |.dcz _ _::_,e,_=>simp only [e] at h;exact noSome h
  |.int _::_::_,e,_=>simp only [e] at h;exact noSome h
theorem zwy (h:tI K (zmv as) σ H R):ygh (tAs K as) σ H R:=by
 nofun;obtain⟨F,p,d,g,w,Re,h,q⟩:=h;obtain⟨⟨a,x⟩,f,h⟩:=bS h;refine qG ?_;refine⟨F,p,d,a,x,Re,f,λn o t s c k=>?_⟩;cases e:zbi a x with
 |none=>simp only [e] at h;exact noSome h
 | some y =>
  have r:=k.repBs c e;simp only [e] at h;split at h
  ·rename_i i j l
   obtain rfl:=sI l;split at h
   ·rename_i z
    rw[Ae] at z;cases h;nofun;obtain⟨v,u,a,m,b⟩:=r.two;refine qG ?_;subst a;exact⟨i,j,by rw[m.int,b.int],⟨(zeb z.1).1,(zeb z.1).2,(zeb z.2).1,(zeb z.2).2⟩,q n o _ s c (zqs i (j-i).toNat)⟩
   ·exact noSome h
  ·exact noSome h
end
inductive Tg where
 |nm (i:Nat)
 |tp (is:List Nat)
 |nt (i:Nat) (js:List Nat)
noncomputable def setAll (mp:List Nat):List Nat->List W->En->Option En
 |[],[],e=>Za e
 |i::a,w::b,e=>if mp.contains i || !decide (i<e.length) then Zb else setAll mp a b (e.set i (#v[w,6]))
 |_,_,_=>Zb
noncomputable def tgSet (mp:List Nat):Tg->W->En->Option En
 |.nm i,w,e=>if mp.contains i || !decide (i<e.length) then Zb else Za (e.set i (#v[w,6]))
 |.tp b,.tup a,e=>setAll mp b a e
 |.tp b,.lst a,e=>setAll mp b a e
 |.nt i j,.tup [w,.tup a],e=>if mp.contains i || !decide (i<e.length) then Zb else setAll mp j a (e.set i (#v[w,6]))
 |_,_,_=>Zb
noncomputable def zjd:List Nat->TGs
 |[]=>gNil
 |i::a=>z4m (zon i) (zjd a)
noncomputable def zu5 (K:Zg) (n:Nat) (t:TGs):TG:=λv σ H Q=>∃a x,v=.ref a/\(SqT K H a x\/SqL K H a x)/\x.length=n/\t x σ H Q
theorem zvb (q:X.calm=Zd)(h:PGs X es t)(l:(assignEach es X.env).length=n)(c:(assignEach es X.env).findIdx? (·.1)=Zb):PG X (.Tuple es k pos) (zu5 X.K n t):=by
 intro pins s σ H v u Q I r f;nofun;obtain⟨a,x,j,d,g,f⟩:=f;refine qG ?_;rcases d with d|d
 ·exact ye5 q h l c pins s σ H v u Q I r ⟨a,x,j,d,g,f⟩
 ·subst j;cases r;nofun;obtain⟨i,p,⟨o,m,z,w,_,C⟩,D⟩:=I.list d;refine qG ?_;refine Aa (Ew ?_);unfold unpack;have B:(assignEach es X.env).length=i.toArray.size:=by rw[Am,l,<-g,p.length]
  rw[B,c];refine Aa (Ct (PySem.W.kun_itemsOf (I.ok.hd q) ⟨o,z,w,m,C⟩ λE y=>?_));have A:=I.kept (t':=s.toks) λb o e=>y b o (Bc (Ar e)) e;exact h pins _ σ H x _ Q A (by simpa using p) f
noncomputable def TGof (K:Zg):Tg->TG
 |.nm i=>zon i
 |.tp a=>zu5 K a.length (zjd a)
 |.nt i j=>zu5 K 2 (z4m (zon i) (z4m (zu5 K j.length (zjd j)) gNil))
noncomputable def Keep (mp:List Nat) (σ a:St):Prop:=∀i∈mp,a[i]?=σ[i]?
theorem Keep.refl (mp:List Nat)(σ:St):Keep mp σ σ:=λ_ _=>rfl
theorem Keep.trans (a:Keep mp σ σ1)(b:Keep mp σ1 σ2):Keep mp σ σ2:=λi h=>(b i h).trans (a i h)
theorem Keep.set (h:mp.contains i=Zc)(v:Option V):Keep mp σ (σ.set i v):=λj a=>by
 have:i≠j:=λe=>by subst e;rw[Fy.mpr a] at h;cases h
 exact Dn this
section
variable {K:Zg}
theorem zfb:∀{is:List Nat}{ws:List W}{vs:List V}{en en':En}{σ:St},Rel K F pr en σ H->Reps K F ws vs->setAll mp is ws en=Za en'->(∀a,Rel K F pr en' a H->Keep mp σ a->Q a H)->zjd is vs σ H Q
 |[],[],_,en,en',σ,R,.nil,h,q=>by obtain rfl:=sI h;exact⟨rfl,q σ R (.refl _ _)⟩
 | i::is,w::ws,_,en,en',σ,R,.cons (v:=v) (vs:=vs) h0 r,h,q=>by
  unfold setAll at h;split at h
  ·exact noSome h
  ·rename_i z
   rw[Co,not_or,Bo,Bo,Dc] at z;refine⟨v,vs,rfl,?_⟩;exact zfb (R.store (r:=(w,Zc)) h0 (Aq z.2)) r h λa b k=>q a b ((Keep.set z.1 _).trans k)
 |[],_::_,_,_,_,_,_,_,h,_=>by exact noSome h
 |_::_,[],_,_,_,_,_,_,h,_=>by exact noSome h
theorem zve:∀(is:List Nat) (ws:List W) (en en':En),setAll mp is ws en=Za en'->is.length=ws.length:=by
 intro is
 induction is with
 | nil=>intro ws en en' h;cases ws with
  |nil=>rfl
  |cons _ _=>exact noSome h
 | cons i is a=>intro ws en en' h;cases ws with
  |nil=>exact noSome h
  | cons w ws =>
   unfold setAll at h;split at h
   ·exact noSome h
   ·exact congrArg (· + 1) (a _ _ _ h)
theorem zx1 (R:Rel K F pr en σ H)(c:Rep K F (.tup ws) v)(h:setAll mp is ws en=Za en')(q:∀a,Rel K F pr en' a H->Keep mp σ a->Q a H):zu5 K is.length (zjd is) v σ H Q:=by
 cases c with
 |tup b r=>exact⟨_,_,rfl,.inl (.inl (.inl (R.sub _ _ b))),by rw[zve is ws en en' h,r.length],zfb R r h q⟩
theorem zla (R:Rel K F pr en σ H) (b:Rep K F w v) (h:tgSet mp T w en=Za en') (q:∀a,Rel K F pr en' a H->Keep mp σ a->Q a H):TGof K T v σ H Q:=by
 cases T with
 | nm i =>
  unfold tgSet at h;simp only at h;split at h
  ·exact noSome h
  ·rename_i z
   rw[Co,not_or,Bo,Bo,Dc] at z;obtain rfl:=sI h;exact q _ (R.store b (Aq z.2)) (Keep.set z.1 _)
 | tp g =>
  cases w with
  |tup d=>exact zx1 R b h q
  | lst d =>
   cases b with
   | lst c r =>
    exact⟨_,_,rfl,.inr (SqL.of' (R.sub _ _ c)),by rw[zve g d en en' h,r.length],zfb R r h q⟩
  |_=>exact noSome h
 | nt i p =>
  unfold tgSet at h;split at h
  ·rename_i e;cases e
  ·rename_i e;cases e
  ·rename_i e;cases e
  ·rename_i s j u o f
   cases f;cases b with
   | tup c r =>
    cases r with
    | cons n r =>
     cases r with
     | cons m r =>
      cases r;split at h
      ·exact noSome h
      ·rename_i z
       rw[Co,not_or,Bo,Bo,Dc] at z;exact⟨_,_,rfl,.inl (.inl (.inl (R.sub _ _ c))),rfl,_,_,rfl,_,_,rfl,zx1 (R.store (r:=(u,Zc)) n (Aq z.2)) m h λa l k=>⟨rfl,q a l ((Keep.set z.1 _).trans k)⟩⟩
  ·exact noSome h
end
inductive Fl where
 |nx|ret (r:W×Bool)|brk|cnt
noncomputable abbrev GS:=En->Option (En×Fl)
noncomputable def z25 (K:Zg) (mp:List Nat) (F:Hp) (p:Prt) (σ:St) (D:Ends) (en':En):Fl->Prop
 |.nx=>∀b a H,Same F b->Rel K b p en' a H->Keep mp σ a->D.nx a H
 |.brk=>∀b a H,Same F b->Rel K b p en' a H->Keep mp σ a->D.bk a H
 |.cnt=>∀b a H,Same F b->Rel K b p en' a H->Keep mp σ a->D.ct a H
 |.ret r=>∀b a H v,Same F b->Rel K b p en' a H->Keep mp σ a->Res K b H p en' a r v->D.rt v H
noncomputable def tS (K:Zg) (mp:List Nat) (g:GS):TS:=λD σ H=>∃F p a e fl,Rel K F p a σ H/\g a=Za (e,fl)/\z25 K mp F p σ D e fl
theorem z25.step {K:Zg}(s:Same F F1)(k:Keep mp σ σ1)(h:z25 K mp F pr σ D en' fl):z25 K mp F1 pr σ1 D en' fl:=by
 cases fl with
 |nx=>exact λc a H b R d=>h c a H (s.trans b) R (k.trans d)
 |brk=>exact λc a H b R d=>h c a H (s.trans b) R (k.trans d)
 |cnt=>exact λc a H b R d=>h c a H (s.trans b) R (k.trans d)
 |ret r=>exact λc a H v b R d z=>h c a H v (s.trans b) R (k.trans d) z
noncomputable def zbp:GS:=λe=>Za (e,.nx)
noncomputable def gBrk:GS:=λe=>Za (e,.brk)
noncomputable def gCnt:GS:=λe=>Za (e,.cnt)
noncomputable def gSeq (a b:GS):GS:=λc=>match a c with
 |some (e,.nx)=>b e
 |some (e,f)=>Za (e,f)
 |none=>Zb
noncomputable def gRet (g:GE):GS:=λe=>(g e).bind λp=>Za (p.1,.ret p.2)
noncomputable def yhg:GS:=λe=>Za (e,.ret (.non,Zc))
noncomputable def gIfS (c:GT) (a b:GS):GS:=λd=>match c d with
 |#v[e,5]=>a e
 |#v[e,6]=>b e
 |none=>Zb
noncomputable def zgk (g:GE):GS:=λe=>(g e).bind λp=>Za (p.1,.nx)
noncomputable def gSet (mp:List Nat) (i:Nat) (g:GE):GS:=λe=>(g e).bind λp=>if mp.contains i || !decide (i<p.1.length) then Zb else Za (p.1.set i (Za p.2),.nx)
noncomputable def gAsg (mp:List Nat) (T:Tg) (g:GE):GS:=λa=>(g a).bind λp=>(tgSet mp T p.2.1 p.1).bind λe=>Za (e,.nx)
section
variable {K:Zg}
theorem zmj (h:tS K mp zbp D σ H):z7k D σ H:=by
 obtain⟨F,p,a,e,fl,R,h,q⟩:=h;cases h;exact q F σ H (.refl F) R (.refl _ _)
theorem z4w (h:tS K mp (gSeq a b) D σ H):tSeq (tS K mp a) (tS K mp b) D σ H:=by
 nofun;obtain⟨F,d,g,c,fl,R,h,q⟩:=h;refine qG ?_;unfold gSeq at h;cases e:a g with
 |none=>simp only [e] at h;exact noSome h
 | some p =>
  obtain⟨f,i⟩:=p;refine⟨F,d,g,f,i,R,e,?_⟩;cases i with
  | nx =>
   simp only [e] at h;exact λl σ1 m s j k=>⟨l,d,f,c,fl,j,h,q.step s k⟩
  |brk=>simp only [e] at h;cases h;exact q
  |cnt=>simp only [e] at h;cases h;exact q
  |ret r=>simp only [e] at h;cases h;exact q
theorem z35 (h:tS K mp (gRet g) D σ H):tRet (tE K g) D σ H:=by
 nofun;obtain⟨F,p,a,f,fl,R,h,q⟩:=h;obtain⟨⟨e,r⟩,c,h⟩:=bS h;refine qG ?_;cases h;exact⟨F,p,a,e,r,R,c,λi b v s d z=>q i σ b v s d (.refl _ _) z⟩
theorem z26 (h:tS K mp (gIfS c a b) D σ H):tIfS (tT K c) (tS K mp a) (tS K mp b) D σ H:=by
 nofun;obtain⟨F,g,j,f,fl,R,h,q⟩:=h;refine qG ?_;unfold gIfS at h;cases e:c j with
 |none=>simp only [e] at h;exact noSome h
 | some p =>
  obtain⟨i,d⟩:=p;refine⟨F,g,j,i,d,R,e,λl m s k=>?_⟩;cases d with
  |true=>simp only [e] at h;exact iteT ⟨l,g,i,f,fl,k,h,q.step s (.refl _ _)⟩
  |false=>simp only [e] at h;exact iteF ⟨l,g,i,f,fl,k,h,q.step s (.refl _ _)⟩
theorem zvx (h:tS K mp (zgk g) D σ H):yfe (tE K g) D σ H:=by
 nofun;obtain⟨F,p,a,f,fl,R,h,q⟩:=h;obtain⟨⟨e,r⟩,c,h⟩:=bS h;refine qG ?_;cases h;exact⟨F,p,a,e,r,R,c,λi b v s d z=>q i σ b s d (.refl _ _)⟩
theorem zg0 (h:tS K mp (gSet mp i g) D σ H):tAsg (tE K g) (zon i) D σ H:=by
 nofun;obtain⟨F,p,a,f,fl,R,h,q⟩:=h;obtain⟨⟨e,r⟩,c,h⟩:=bS h;refine qG ?_;split at h
 ·exact noSome h
 ·rename_i z;rw[Co,not_or,Bo,Bo,Dc] at z;cases h;exact⟨F,p,a,e,r,R,c,λj b v s d y=>q j _ b s (d.store y (Aq z.2)) (Keep.set z.1 _)⟩
theorem z2l (h:tS K mp (gAsg mp T g) D σ H):tAsg (tE K g) (TGof K T) D σ H:=by
 nofun;obtain⟨F,p,c,j,fl,R,h,q⟩:=h;obtain⟨⟨e,r⟩,f,h⟩:=bS h;obtain⟨o,b,h⟩:=bS h;refine qG ?_;cases h;refine⟨F,p,c,e,r,R,f,λt n v s d y=>?_⟩;nofun;obtain⟨l,m,R2,z⟩:=y.freeze d;ac_rfl;exact zla R2 z b λa i k=>q l a n (s.trans m) i k
noncomputable def gPar (mp:List Nat) (i j:Nat) (a b:GE):GS:=λe=>(a e).bind λp=>(b p.1).bind λq=>if mp.contains i||mp.contains j || !decide (i<q.1.length) || !decide (j<q.1.length) then Zb else Za ((q.1.set i (#v[p.2.1,6])).set j (Za q.2),.nx)
theorem z02 (h:tS K mp (gPar mp i j a b) D σ H):tPar i j (zgp (tE K a) (zgp (tE K b) tNil)) D σ H:=by
 nofun;obtain⟨F,p,C,Q,fl,R,h,q⟩:=h;obtain⟨⟨l,d⟩,P,h⟩:=bS h;obtain⟨⟨s,c⟩,x,h⟩:=bS h;refine qG ?_;split at h
 ·exact noSome h
 ·rename_i z
  simp only [Co,not_or,Bo,Dc,Du] at z;refine aG λ_ qG=>?_;obtain ⟨⟨⟨M,A⟩,o⟩,U⟩:=z;refine qG ?_;cases h;refine ⟨F,p,C,l,d,R,P,λF1 H1 w N R1 S=>?_⟩;refine aG λ_ qG=>?_;obtain ⟨X,s2,R2,x1⟩:=S.freeze R1;refine qG ?_;clear qG;refine ⟨X,p,l,s,c,R2,x,λm t v u R3 n=>⟨w,v,rfl,?_⟩⟩;have Ra:=R3.store (r:=(d.1,Zc)) (x1.mono u) o;have y:Res K m t p (s.set i (Za (d.1,Zc))) (σ.set i (Za w)) c v:=by
   obtain⟨w2,f⟩:=c;cases f with
   |false=>exact n
   | true =>
    nofun;obtain⟨a,Z,J,O,B,q3,E,I,q6,q7⟩:=n;refine qG ?_;refine⟨a,Z,J,O,B,q3,E,I,λk L Y=>?_,q7⟩;rcases zd3 o Y with⟨_,e⟩|⟨g,e⟩
    ·cases e
    ·rw[Dn (Ne.symm g)];exact q6 k L e
  exact q m _ t (N.trans (s2.trans u)) (Ra.store y (by rw[Fv];exact U)) ((Keep.set M _).trans (Keep.set A _))
noncomputable def zbo (i:Nat) (k:GE) (g:GE):GS:=λe=>(g e).bind λp=>match p.1[i]? with
 | some (Za _)=>(k p.1).bind λq=>match q.2,q.1[i]? with
  |(.int n,_),Za (#v[w,2])=>(ixN w.length n).bind λj=>Za (q.1.set i (#v[(w.set j p.2.1),2]),.nx)
  |_,_=>Zb
 |_=>Zb
theorem zt2 (h:tS K mp (zbo i k g) D σ H):tAsg (tE K g) (gSub (tVar i) (tE K k) ydh) D σ H:=by
 obtain⟨F,p,t,C,fl,R,h,q⟩:=h;obtain⟨⟨m,J⟩,B,h⟩:=bS h;refine⟨F,p,t,m,J,R,B,λF1 H1 v1 z P E=>?_⟩;obtain⟨I,O,R2,S⟩:=E.freeze P;split at h
 ·rename_i Z c;obtain⟨⟨M,u⟩,r,h⟩:=bS h;obtain⟨U,b⟩:=R2.has c;refine⟨U,b,I,p,m,M,u,R2,r,λv H3 v2 s o y=>?_⟩;split at h
  ·rename_i n x Y d e;subst d;obtain⟨j,Q,h⟩:=bS h;cases h;obtain⟨a,L,w,A,f,N,X,l⟩:=o.ownL e;cases A;rw[b] at f;cases f;refine⟨a,L,n,j,rfl,y.isInt,N,by rw[<-l.length];exact Q,?_⟩;exact q v σ _ (z.trans (O.trans s)) (o.change e b (l.set (S.mono s) j)) (.refl _ _)
  ·exact noSome h
 ·exact noSome h
noncomputable def gApp (i:Nat) (g:GE):GE:=λe=>match e[i]? with
 | some (Za (.lst _,Zd))=>(g e).bind λp=>match p.1[i]? with
  |some (#v[w,2])=>if w.length<sizeLine then Za (p.1.set i (#v[(w++[p.2.1]),2]),(.non,Zc)) else Zb
  |_=>Zb
 |_=>Zb
theorem z29 (h:tE K (gApp i g) σ H Q):tBM K "list" zyf (tVar i) (zgp (tE K g) tNil) σ H Q:=by
 nofun;obtain⟨F,x,f,n,r,R,h,q⟩:=h;refine qG ?_;unfold gApp at h;split at h
 ·rename_i O d;nofun;obtain⟨a,u,I,P,c,z,L,M⟩:=R.ownL d;obtain⟨⟨l,t⟩,m,h⟩:=bS h;refine qG ?_;refine⟨.ref a,c,.inl ⟨rfl,u,SqL.of' z⟩,F,x,f,l,t,R,m,λU S E s B y=>?_⟩;nofun;obtain⟨o,A,R2,C⟩:=y.freeze B;ac_rfl;split at h
  ·rename_i N b;split at h
   ·rename_i j;cases h;nofun;obtain⟨J,v,w,k,p,D,X,e⟩:=R2.ownL b;refine qG ?_;cases k;rw[c] at p;cases p;refine⟨a,v,E,rfl,rfl,D,by rw[<-e.length];exact j,?_⟩;exact q o _ _ (s.trans A) (R2.change b c (e.append (.cons C .nil))) .non
   ·exact noSome h
  ·exact noSome h
 ·exact noSome h
noncomputable def gExt (i:Nat) (g:GE):GE:=λe=>match e[i]? with
 | some (Za (.lst _,Zd))=>(g e).bind λp=>match p.2.1,p.1[i]? with
  |.lst u,Za (#v[w,2])=>if w.length+u.length<=sizeLine then Za (p.1.set i (#v[(w++u),2]),(.non,Zc)) else Zb
  |_,_=>Zb
 |_=>Zb
noncomputable def gAug (mp:List Nat) (o:O2) (i:Nat) (g:GA):GS:=λe=>match e[i]? with
 |some (#v[w,6])=>(g e).bind λp=>(resA p.1 p.2).bind λu=>(o w u).bind λr=>if mp.contains i || !decide (i<p.1.length) then Zb else Za (p.1.set i (Za r),.nx)
 |_=>Zb
theorem zrt (A:OpS K r o)(h:tS K mp (gAug mp o i g) D σ H):tAug i (tA K g) r D σ H:=by
 nofun;obtain⟨F,t,e,n,fl,R,h,q⟩:=h;refine qG ?_;unfold gAug at h;split at h
 ·rename_i w f;nofun;obtain⟨v,C,a⟩:=R.val i w f;obtain⟨⟨j,L⟩,m,h⟩:=bS h;obtain⟨u,J,h⟩:=bS h;obtain⟨x,d,h⟩:=bS h;refine qG ?_;split at h
  ·exact noSome h
  ·rename_i z;rw[Co,not_or,Bo,Bo,Dc] at z;cases h;refine⟨v,C,F,t,e,j,L,R,m,λE N M s b p=>?_⟩;refine A E N w u v M x _ b.sub (.inl (a.mono s)) (p.repB b J) d λO l c=>?_;nofun;obtain⟨k,B,I,y⟩:=c.close b;refine qG ?_;exact q k _ l (s.trans B) (I.store y (Aq z.2)) (Keep.set z.1 _)
 ·exact noSome h
theorem zqb {T id:String} (g:s.TypeIs a T) (j:s.TypeIs b T)
  (f:typeLookup (.type T) (dunderI "add")=pure (Za (.builtin id))) (e:isSeqSlotId id=Zd) (h:fillsNumberSlot (.type T) "add" = pure Zc)
  (k:wpAny M A (call (.builtin id) [a,b]) Q E s):wpAny M A (inplaceOp .Add a b) Q E s:=by
 refine Ct ?_;have c:fillsInplaceSlot (.type T) "add" (Operator.Add==.Add)=pure Zc:=by
  show (typeLookup (.type T) (dunderI "add")>>=λi=>pure (i.isSome && !isSeqSlot i))=pure Zc;rw[f,Hi];show pure (Zd && !isSeqSlotId id)=pure Zc;rw[e];rfl
 have d:seqSlot? (.type T) (dunderI "add")=pure (Za (.builtin id)):=by
  unfold seqSlot?;rw[f];show (if (!isSeqSlotId id)=Zd then _ else _)=_;rw[e];rfl
 refine Aa (wpAny_typeOf g (Aa (wpAny_of_eq c ?_)));refine Aa (wpAny_binaryOp1_none g j h ?_);refine Aa (wpAny_of_eq d ?_);exact Aa (Dr k)
noncomputable def z7r:R2:=λx y H Q=>∃l b a z,x=.ref l/\y=.ref b/\H l=Za (.lst a)/\H b=Za (.lst z)/\a.length+z.length<=sizeLine/\Q (.ref l) (upd H l (.lst (a++z)))
theorem ybn:PIp X .Add z7r:=by
 intro pins s σ H x y v u Q I g k h;obtain⟨l,b,B,A,rfl,rfl,hH,hB,w,q⟩:=h;cases g;cases k;obtain⟨z,a,n,r,t,e⟩:=I.lstM hH;obtain⟨p,i,o,j,m,f⟩:=I.lstM hB;have d:a.toArray.size+i.toArray.size<=sizeLine:=by rw[Am,Am];symm
 have c:¬ (!a.toArray.isEmpty&&Builtin.List.listTooLong (a.toArray.size+i.toArray.size))=Zd:=by
  rw[zkr d,Fj];exact Ah
 refine zqb ⟨_,e,rfl⟩ ⟨_,f,rfl⟩ F.slot_list_iadd.lookup #v[0,0,7] noFill_list_add ?_;refine call_meets F.slot_list_iadd ⟨_,e,rfl⟩ F.entry_list_iadd (F.args_list_iadd_2 _ _)
  (AutoSeq1.list___iadd___list_list_0 l a.toArray n b i.toArray o c (by rw[Am];symm) #v[]) ⟨e,f,?_⟩
 refine⟨.ref l,_,I.lset (its':=a++i) hH e (by simp) (r.append j) ?_,rfl,q⟩;rw[Bb];symm
noncomputable def z92 (mp:List Nat) (i:Nat) (g:GE):GS:=λe=>match e[i]? with
 | some (Za (.lst _,Zd))=>(g e).bind λp=>match p.2.1,p.1[i]? with
  |.lst u,Za (#v[w,2])=>if w.length+u.length<=sizeLine/\mp.contains i=Zc then Za (p.1.set i (#v[(w++u),2]),.nx) else Zb
  |_,_=>Zb
 |_=>Zb
theorem z0x (h:tS K mp (z92 mp i g) D σ H):tAug i (tE K g) z7r D σ H:=by
 nofun;obtain⟨F,B,l,y,fl,R,h,q⟩:=h;refine qG ?_;unfold z92 at h;split at h
 ·rename_i S d
  nofun;obtain⟨a,X,M,U,c,Z,O,P⟩:=R.ownL d;obtain⟨⟨t,w,n⟩,x,h⟩:=bS h;refine qG ?_;refine⟨.ref a,c,F,B,l,t,(w,n),R,x,λF1 Y v1 u I z=>?_⟩;nofun;obtain⟨A,C,R2,J⟩:=z.freeze I;ac_rfl;split at h
  ·rename_i us Q f b
   subst f;split at h
   ·rename_i m
    cases h;nofun;obtain⟨N,v,s,o,p,L,p4,j⟩:=R2.ownL b;refine qG ?_;cases o;rw[c] at p;cases p;cases J with
    | lst k r =>
     refine ⟨a,_,v,_,rfl,rfl,L,R2.sub _ _ k,by rw [<-j.length,<-r.length];exact m.1,?_⟩;have e:σ.set i (Za (V.ref a))=σ:=by
      obtain⟨E,e⟩:=Ap.mp c;rw[<-e];exact List.set_getElem_self E
     show D.nx (σ.set i (Za (V.ref a))) _;rw[e];exact q A σ _ (u.trans C) (R2.change b c (j.append r)) (.refl _ _)
   ·exact noSome h
  ·exact noSome h
 ·exact noSome h
noncomputable def zml (mp:List Nat) (T:Tg) (body:GS):List W->En->Option (En×Fl)
 |[],a=>Za (a,.nx)
 | w::b,a=>(tgSet mp T w a).bind λc=>match body c with
  |some (e,.nx)=>zml mp T body b e
  |some (e,.cnt)=>zml mp T body b e
  |some (e,.brk)=>Za (e,.nx)
  |some (e,.ret r)=>Za (e,.ret r)
  |none=>Zb
noncomputable def gFor (mp:List Nat) (T:Tg) (it:GL) (body:GS):GS:=λe=>(it e).bind λp=>zml mp T body p.2 p.1
theorem z3t (h:tS K mp (gFor mp T it body) D σ H):tFor (tI K it) (TGof K T) (tS K mp body) D σ H:=by
 nofun;obtain⟨F,L,en,u,fl,R,h,q⟩:=h;obtain⟨⟨Y,d⟩,h1,h⟩:=bS h;refine qG ?_;refine⟨F,L,en,Y,d,R,h1,λU H1 J Q R1 ok=>?_⟩;refine⟨λi m f n=>m=d.length-i/\i<=d.length/\∃O B,Same U O/\Rel K O L B f n/\Keep mp σ f/\zml mp T body (d.drop i) B=Za (u,fl),⟨_,rfl,Bm _,U,Y,.refl _,R1,.refl _ _,by simpa using h⟩,?_⟩;rintro i m f n ⟨rfl,hi,O,B,l,o,A,a⟩;by_cases b:i<d.length
 ·refine .inr ⟨ok.go i n (l.trans o.sub) b, ?_⟩
  have hd:=(Cs b);rw[hd] at a;obtain⟨Z,h2,a⟩:=bS (show (tgSet mp T d[i] B).bind _=_ from a);refine⟨λσ2 E=>∃I N,Same U I/\Rel K I L N σ2 E/\Keep mp σ σ2/\zml mp T body (d.drop (i+1)) N=Za (u,fl),?_,?_⟩
  ·rintro σ2 E ⟨I,N,s2,R2,k2,S⟩
   exact⟨d.length-(i+1),by symm,rfl,b,I,N,s2,R2,k2,S⟩
  ·intro x E y
   obtain⟨w,ew,out⟩:=ok.yld i n x E (l.trans o.sub) b y;rw[Ab b] at ew;obtain rfl:=sI ew;nofun;obtain⟨F3,s3,R3,z⟩:=(out.mono l).close o;refine qG ?_;refine zla R3 z h2 λσ3 R4 C=>?_;cases eb:body Z with
   |none=>simp only [eb] at a;exact noSome a
   | some p =>
    obtain⟨P,X⟩:=p;refine⟨F3,L,Z,P,X,R4,eb,?_⟩;have M:=l.trans s3;cases X with
    | nx =>
     simp only [eb] at a;exact λj c t s g k=>⟨j,P,M.trans s,g,(A.trans C).trans k,a⟩
    | cnt =>
     simp only [eb] at a;exact λj c t s g k=>⟨j,P,M.trans s,g,(A.trans C).trans k,a⟩
    | brk =>
     simp only [eb] at a;cases a;exact λj c t s g k=>q j c t (Q.trans (M.trans s)) g ((A.trans C).trans k)
    | ret r =>
     simp only [eb] at a;cases a;exact λj c t v s g k z=>q j c t v (Q.trans (M.trans s)) g ((A.trans C).trans k) z
 ·have e:i=d.length:=by symm
  subst e;rw[List.drop_length] at a;cases a;exact .inl ⟨ok.stop n (l.trans o.sub),q O f n (Q.trans l) o A⟩
end
section
end
section
variable {K:Zg}
end
section
end
section
end
section
variable {K:Zg}
end
theorem Rel.drop {K:Zg}(R:Rel K F pr en σ H)(e:en[i]?=Za (#v[w,5])):∃v,σ[i]?=Za (Za v)/\Rel K F pr (en.set i Zb) σ H/\Res K F H pr (en.set i Zb) σ (w,Zd) v:=by
 have n:=(Ap.mp e).1;nofun;obtain⟨a,t,f,p,c,d,s,l⟩:=R.own i w e;refine qG ?_;have g:∀(j:Nat) (x:W×Bool),(en.set i Zb)[j]?=Za (Za x)->j≠i/\en[j]?=Za (Za x):=λj x h=>by
  rcases zd3 n h with⟨_,q⟩|z
  ·cases q
  ·exact z
 refine⟨_,c,⟨by rw[Fv];exact R.len,R.sub,λj u q=>R.val j u (g j _ q).2,λj u q=>R.own j u (g j _ q).2,λj k b u r q m=>R.inj j k b u r (g j _ q).2 (g k _ m).2,λb o q=>⟨(R.prt b o q).1,(R.prt b o q).2.1,λj u z=>(R.prt b o q).2.2 j u (g j _ z).2⟩,R.tb⟩,a,t,f,p,rfl,d,s,l,λj u q z=>?_,λb o q z=>?_⟩
 ·exact (g j _ q).1 (R.inj j i a _ _ (g j _ q).2 e z c)
 ·subst z;exact (R.prt b o q).2.2 i w e c
section
end
noncomputable abbrev Cap:=List (Option Nat)
noncomputable def ze8 (cap:Cap) (en:En):En:=cap.map λo=>match o with
 |some i=>(en[i]?).getD Zb
 |none=>Zb
noncomputable def zbd (cap:Cap) (i:Nat):Option Nat:=cap.findIdx? (· == Za i)
noncomputable def zc1 (cap:Cap):Bool:=(List.range cap.length).all λj=>match cap[j]? with
 |some (Za i)=>zbd cap i==Za j
 |_=>Zd
noncomputable def capKeep (cap:Cap):List Nat:=(List.range cap.length).filter λj=>match cap[j]? with
 |some (Za _)=>Zd
 |_=>Zc
noncomputable def za4 (cap:Cap) (en c:En):En:=en.mapIdx λi x=>match zbd cap i with
 |some j=>(c[j]?).getD Zb
 |none=>x
theorem zbz (h:zbd cap i=Za j):cap[j]?=Za (Za i):=by
 obtain⟨b,a,_⟩:=List.findIdx?_eq_some_iff_getElem.mp h;rw[Ab b];have:cap[j]=Za i:=by simpa using a
 rw[this]
theorem zdd (h:zbd cap i=Zb)(j:Nat):cap[j]?≠Za (Za i):=λe=>by
 have:=List.findIdx?_eq_none_iff.mp h (Za i) (Bn e);simp at this
theorem zha (h:zc1 cap=Zd)(e:cap[j]?=Za (Za i)):zbd cap i=Za j:=by
 have hj:=(Ap.mp e).1;have:=Bi.mp h j (Az.mpr hj);simp only [e] at this;simpa using this
theorem zob (e:cap[j]?=Za (Za i)):j∈capKeep cap:=by
 exact Bl.mpr ⟨Az.mpr (Ap.mp e).1,by simp only [e]⟩
theorem zd9 {j:Nat}{x:W×Bool} (h:(ze8 cap en)[j]?=Za (Za x)):∃i,cap[j]?=Za (Za i)/\en[i]?=Za (Za x):=by
 unfold ze8 at h;rw[Ak] at h;cases e:cap[j]? with
 |none=>rw[e] at h;exact noSome h
 | some o =>
  rw[e] at h;cases o with
  |none=>cases h
  | some i =>
   refine⟨i,rfl,?_⟩;have h':(en[i]?).getD Zb=Za x:=sI h;cases e2:en[i]? with
   |none=>rw[e2] at h';exact noSome h'
   |some z=>rw[e2] at h';exact congrArg Za h'
theorem zrr {cap:Cap}{σ:St}{i j:Nat}(h:cap[j]?=Za (Za i)):(capSt cap σ)[j]?=Za ((σ[i]?).getD Zb):=by
 unfold capSt;rw[Ak,h]
 rfl
theorem zgm {i j:Nat}{v:V}(h:cap[j]?=Za (Za i))(a:σ[i]?=Za (Za v)):(capSt cap σ)[j]?=Za (Za v):=by
 rw[zrr h,a];rfl
theorem backEn_get (h:(za4 cap en ce)[i]?=Za (Za x)):(∃j,zbd cap i=Za j/\ce[j]?=Za (Za x))\/(zbd cap i=Zb/\en[i]?=Za (Za x)):=by
 unfold za4 at h;rw[Hd] at h;cases e:en[i]? with
 |none=>rw[e] at h;exact noSome h
 | some o =>
  rw[e] at h;cases c:zbd cap i with
  |none=>simp only [c] at h;exact .inr ⟨rfl,h⟩
  | some j =>
   simp only [c] at h;have a:=sI h;refine .inl ⟨j,rfl,?_⟩;cases e2:ce[j]? with
   |none=>rw[e2] at a;exact noSome a
   |some z=>rw[e2] at a;exact congrArg Za a
noncomputable def zbu (p:Prt) (cap:Cap) (en:En) (σ:St) (H:Hp):Prt:=λb o=>p b o\/∃(j:Nat) (w:W),en[j]?=Za (#v[w,5])/\zbd cap j=Zb/\σ[j]?=Za (Za (V.ref b))/\H b=Za o
noncomputable def zhu (p:Prt) (acc:Zh) (vs:List V):Prt:=λb o=>p b o\/(b=acc/\o=.lst vs)
section
variable {K:Zg}
theorem Rel.ownT (R:Rel K F pr en σ H){j:Nat}{w:W}{b:Zh}{p:Array Ze}(e:en[j]?=Za (#v[w,5]))(s:σ[j]?=Za (Za (V.ref b))):H b≠Za (.tbl p):=λz=>by
 obtain⟨a,o,f,_,h,c,_,d⟩:=R.own j w e;rw[s] at h;cases h;rw[z] at c;obtain rfl:=sI c;cases d
theorem zjj {b:Zh}{p:Array Ze}(R:Rel K F pr en σ H)(e:H b=Za (.tbl p))(h:∀o,¬ pr b o):∀o,¬ zbu pr cap en σ H b o:=λo z=>by
 rcases z with z|⟨j,w,a,_,q,_⟩
 ·exact h o z
 ·exact R.ownT a q e
theorem zjk (R:Rel K F pr en σ H)(z:zbu pr cap en σ H b (.tup xs)):pr b (.tup xs):=by
 rcases z with z|⟨j,w,e,_,q,f⟩
 ·exact z
 ·obtain⟨a,o,g, _,h,c,_,d⟩:=R.own j w e;rw[q] at h;cases h;rw[f] at c;obtain rfl:=sI c;cases d
theorem Rel.accUpd (R:Rel K F (zhu pb acc vs) en σ H)(g:∀b o,pb b o->b≠acc):Rel K F (zhu pb acc us) en σ (upd H acc (.lst us)):=by
 obtain⟨s,c,d⟩:=R.prt acc (.lst vs) (.inr ⟨rfl,rfl⟩);have n:∀b p,H b=Za (.tbl p)->b≠acc:=λb p e z=>by subst z;rw[s] at e;cases e
 refine⟨R.len,λb o e=>?_,R.val,λi w e=>?_,R.inj,λb o q=>?_,R.tb.go (λb B z=>z.elim .inl λz=>nomatch z.2) (λb p e f=>⟨by rw[upd_ne (n b p e)];exact e,f⟩) (.refl F) λb p e u o z=>z.elim (λz=>u o (.inl z)) λz=>n b p e z.1⟩
 ·have:b≠acc:=λz=>by subst z;rw[c] at e;exact noSome e
  rw[upd_ne this];exact R.sub _ _ e
 ·refine aG λA qG => ?_;obtain⟨a,v,l,r,h,j,x,t⟩:=R.own i w e;refine qG ?_;have:a≠acc:=λz=>by subst z;exact d i w e h
  exact⟨a,v,l,r,h,by rw[upd_ne this];exact j,x,t⟩
 ·rcases q with q|⟨rfl,rfl⟩
  ·obtain⟨k,m,y⟩:=R.prt b o (.inl q);exact⟨by rw[upd_ne (g b o q)];exact k,m,y⟩
  ·exact⟨upd_same,c,d⟩
theorem zlg (R:Rel K F pr en σ H)(h:H acc=Zb):∀b o,zbu pr cap en σ H b o->b≠acc:=λb o q=>by
 rcases q with q|⟨j,w,_,_,_,q⟩
 ·exact zae (R.prt b o q).1 h
 ·exact zae q h
theorem Rel.block {cap:Cap}{acc:Zh}(R:Rel K F pr en σ H)(n:H acc=Zb)(I:zc1 cap=Zd):Rel K F (zhu (zbu pr cap en σ H) acc []) (ze8 cap en) (capSt cap σ) (upd H acc (.lst [])):=by
 have Y:=R.sub.free n;have R2:=R.lay n (.lst []);refine⟨by unfold ze8 capSt;rw[Ac,Ac],R2.sub,λj w e=>?_,λj w e=>?_,λj l a w w' A E B t=>?_,λb o q=>?_,R.tb.go (λb xs z=>z.elim (zjk R) λz=>nomatch z.2) (λb Q e f=>⟨by rw[upd_ne (zae e n)];exact e,f⟩) (.refl F) λb Q e hh o z=>z.elim (zjj R e hh o) λz=>zae e n z.1⟩
 ·refine aG λu qG => ?_;obtain⟨i,c,e⟩:=zd9 e;obtain⟨v,p,h⟩:=R.val i w e;refine qG ?_;exact⟨v,zgm c p,h⟩
 ·refine aG λu qG => ?_;obtain⟨i,c,e⟩:=zd9 e;obtain⟨a,C,y,p,h,g,m,D⟩:=R2.own i w e;ac_rfl;exact⟨a,C,y,p,zgm c h,g,m,D⟩
 ·refine aG λu qG => ?_;obtain⟨i,O,A⟩:=zd9 A;obtain⟨k,M,E⟩:=zd9 E;obtain⟨i',r,B⟩:=capSt_get B;obtain⟨k',s,t⟩:=capSt_get t;ac_rfl;rw[O] at r;cases r;rw[M] at s;cases s;have:=R.inj i k a _ _ A E B t;subst this;have x:=zha I O;rw[zha I M] at x;exact (sI x).symm
 ·have d:∀(j:Nat) (w:W),(ze8 cap en)[j]?=Za (Za (w,Zd))->∃(i:Nat) (a:Zh),cap[j]?=Za (Za i)/\en[i]?=Za (Za (w,Zd))/\σ[i]?=Za (Za (V.ref a))/\(capSt cap σ)[j]?=Za (Za (V.ref a))/\∃o,H a=Za o:=λj w e=>by
   nofun;obtain⟨i,c,e⟩:=zd9 e;obtain⟨a,C,y,p,h,g,m,D⟩:=R.own i w e;refine qG ?_;exact⟨i,a,c,e,h,zgm c h,_,g⟩
  rcases q with (q|⟨N,U,L,Z,P,J⟩)|⟨rfl,rfl⟩
  ·obtain⟨S,X,b3⟩:=R2.prt b o q;refine⟨S,X,λj w e=>?_⟩;nofun;obtain⟨i,a,_,e,h,g,_⟩:=d j w e;ac_rfl;rw[g];intro z;cases z;exact b3 i w e h
  ·refine aG λu qG => ?_;obtain⟨a,C,y,p,h,g,m,D⟩:=R.own N U L;ac_rfl;rw[P] at h;cases h;refine⟨by rw[upd_ne (zae J n)];exact J,m,λj w e=>?_⟩;nofun;obtain⟨i,a,c,e,h,g,_⟩:=d j w e;ac_rfl;rw[g];intro z;cases z;have:=R.inj i N _ _ _ e L h P;subst this;exact zdd Z j c
  ·refine⟨upd_same,Y,λj w e => ?_⟩;nofun;obtain⟨i,a,c,e,h,g,o,m⟩:=d j w e;ac_rfl;rw[g];intro z;cases z;rw[n] at m;exact noSome m
theorem Rel.unblock {cap:Cap}{acc:Zh}{r H':Hp}{I:En}{σc:St}{vs:List V}{ws:List W} (R:Rel K F pr en σ H) (S:H acc=Zb) (s:Same F r) (t:Rel K r (zhu (zbu pr cap en σ H) acc vs) I σc H') (kp:Keep (capKeep cap) (capSt cap σ) σc) (rs:Reps K r ws vs) :
  Rel K r pr (za4 cap en I) σ H'/\Res K r H' pr (za4 cap en I) σ (.lst ws,Zd) (.ref acc):=by
 have slot:∀(i j:Nat) (v:V),zbd cap i=Za j->σc[j]?=Za (Za v)->σ[i]?=Za (Za v):=λi j v c e=>by
  have U:=zbz c;rw[kp j (zob U),zrr U] at e;have M:=sI e;cases q:σ[i]? with
  |none=>rw[q] at M;exact noSome M
  |some z=>rw[q] at M;exact congrArg Za M
 obtain⟨Z,a2,Y⟩:=t.prt acc (.lst vs) (.inr ⟨rfl,rfl⟩);have un:∀(i:Nat) (w:W),zbd cap i=Zb->en[i]?=Za (#v[w,5])->∃(a:Zh) (vs:HO) (ws:W),w=ws/\σ[i]?=Za (Za (V.ref a))/\H a=Za vs/\H' a=Za vs/\r a=Zb/\OwnR K F ws vs/\∀(j:Nat) (C:W),I[j]?=Za (#v[C,5])->σc[j]?≠Za (Za (V.ref a)):=λi w c e=>by
  nofun;obtain⟨a,vs,ws,n,h,d,D,B⟩:=R.own i w e;obtain⟨N,O,Q⟩:=t.prt a vs (.inl (.inr ⟨i,w,e,c,h,d⟩));refine qG ?_;exact⟨a,vs,ws,n,h,d,N,O,B,Q⟩
 have g:∀(i j:Nat) (w:W),zbd cap i=Za j->I[j]?=Za (#v[w,5])->∃(a:Zh) (vs:HO) (ws:W),w=ws/\σ[i]?=Za (Za (V.ref a))/\σc[j]?=Za (Za (V.ref a))/\H' a=Za vs/\r a=Zb/\OwnR K r ws vs:=λi j w c e=>by
  nofun;obtain⟨a,vs,ws,n,h,d,D,B⟩:=t.own j w e;ac_rfl;exact⟨a,vs,ws,n,slot i j _ c h,h,d,D,B⟩
 refine⟨⟨by unfold za4;rw[List.length_mapIdx];exact R.len,t.sub,λi w e=>?_,λi w e=>?_,λi k a w C u m P J=>?_,λb o q=>?_,t.tb.go (λb xs z=>.inl (.inl z)) (λb X e f=>⟨e,f⟩) (.refl r) λb X e hh o z=>hh o (.inl (.inl z))⟩,acc,_,_,rfl,rfl,Z,a2,.lst rs,λi w e=>?_,λb o q=>zae (R.prt b o q).1 S⟩
 ·rcases backEn_get e with⟨j,c,e⟩|⟨c,e⟩
  ·obtain⟨v,n,h⟩:=t.val j w e;exact⟨v,slot i j v c n,h⟩
  ·obtain⟨v,n,h⟩:=R.val i w e;exact⟨v,n,h.mono s⟩
 ·rcases backEn_get e with⟨j,c,e⟩|⟨c,e⟩
  ·refine aG λp qG => ?_;obtain⟨a,vs,ws,n,h,_,d,D,B⟩:=g i j w c e;refine qG ?_;exact⟨a,vs,ws,n,h,d,D,B⟩
  ·refine aG λp qG => ?_;obtain⟨a,vs,ws,n,h,_,d,D,B,_⟩:=un i w c e;ac_rfl;exact⟨a,vs,ws,n,h,d,D,B.mono s⟩
 ·rcases backEn_get u with⟨j,c,u⟩|⟨c,u⟩
  ·refine aG λp qG => ?_;obtain⟨L,_,_,_,h,d,_⟩:=g i j w c u;ac_rfl;rw[P] at h;cases h;rcases backEn_get m with⟨l,A,m⟩|⟨A,m⟩
   ·refine aG λp qG => ?_;obtain⟨L,_,_,_,y,E,_⟩:=g k l C A m;refine qG ?_;rw[J] at y;cases y;have:=t.inj j l a _ _ u m d E;subst this;have x:=zbz c;rw[zbz A] at x;cases x;rfl
   ·refine aG λp qG => ?_;obtain⟨L,_,_,_,y,_,_,_,_,E⟩:=un k C A m;ac_rfl;rw[J] at y;cases y;exact absurd d (E j w u)
  ·refine aG λp qG => ?_;obtain⟨L,_,_,_,h,_,_,_,_,d⟩:=un i w c u;ac_rfl;rw[P] at h;cases h;rcases backEn_get m with⟨l,A,m⟩|⟨A,m⟩
   ·refine aG λp qG => ?_;obtain⟨L,_,_,_,y,E,_⟩:=g k l C A m;ac_rfl;rw[J] at y;cases y;exact absurd E (d l C m)
   ·exact R.inj i k a _ _ u m P J
 ·obtain⟨N,O,Q⟩:=t.prt b o (.inl (.inl q));refine⟨N,O,λi w e=>?_⟩;rcases backEn_get e with⟨j,c,e⟩|⟨c,e⟩
  ·refine aG λp qG => ?_;obtain⟨a,_,_,_,h,d,_⟩:=g i j w c e;ac_rfl;rw[h];intro z;cases z;exact Q j w e d
  ·exact (R.prt b o q).2.2 i w e
 ·rcases backEn_get e with⟨j,c,e⟩|⟨c,e⟩
  ·refine aG λp qG => ?_;obtain⟨a,_,_,_,h,d,_⟩:=g i j w c e;ac_rfl;rw[h];intro z;cases z;exact Y j w e d
  ·refine aG λp qG => ?_;obtain⟨a,_,_,_,h,d,_⟩:=un i w c e;ac_rfl;rw[h];intro z;cases z;rw[S] at d;exact noSome d
end
noncomputable def zil (mp:List Nat) (T:Tg) (tc:GT) (te:GE):List W->En->Option (En×List W)
 |[],c=>Za (c,[])
 | w::b,c=>(tgSet mp T w c).bind λd=>match tc d with
  |#v[a,5]=>(te a).bind λp=>(zil mp T tc te b p.1).bind λq=>Za (q.1,p.2.1::q.2)
  |#v[a,6]=>zil mp T tc te b a
  |none=>Zb
noncomputable def zbl (cap:Cap) (T:Tg) (it:GL) (tc:GT) (te:GE):GE:=λe=>(it e).bind λp=>if zc1 cap&&decide (p.2.length<=sizeLine) then (zil (capKeep cap) T tc te p.2 (ze8 cap p.1)).bind λq=>Za (za4 cap p.1 q.1,(.lst q.2,Zd)) else Zb
noncomputable def gYes:GT:=λe=>#v[e,5]
noncomputable def zfr (mp:List Nat) (T:Tg) (tc:GT) (em:GL):List W->En->Option (En×List W)
 |[],c=>Za (c,[])
 | w::b,c=>(tgSet mp T w c).bind λd=>match tc d with
  |#v[a,5]=>(em a).bind λp=>(zfr mp T tc em b p.1).bind λq=>Za (q.1,p.2++q.2)
  |#v[a,6]=>zfr mp T tc em b a
  |none=>Zb
noncomputable def gOne (te:GE):GL:=λe=>(te e).bind λp=>Za (p.1,[p.2.1])
noncomputable def gTwo (mp:List Nat) (T:Tg) (it:GL) (tc:GT) (em:GL):GL:=λe=>(it e).bind λp=>zfr mp T tc em p.2 p.1
noncomputable def zz3 (cap:Cap) (T:Tg) (it:GL) (tc:GT) (em:GL):GE:=λe=>(it e).bind λp=>if zc1 cap then (zfr (capKeep cap) T tc em p.2 (ze8 cap p.1)).bind λq=>if q.2.length<=sizeLine then Za (za4 cap p.1 q.1,(.lst q.2,Zd)) else Zb else Zb
noncomputable def zwj (cap:Cap) (T:Tg) (it:GL) (tc:GT) (a:Tg) (i:GL) (t:GT) (te:GE):GE:=zz3 cap T it tc (gTwo (capKeep cap) a i t (gOne te))
theorem zhh:∀{ws:List W}{d c:En}{out:List W},zil mp T tc te ws d=Za (c,out)->zfr mp T tc (gOne te) ws d=Za (c,out)/\out.length<=ws.length
 |[],_,_,_,h=>by cases h;exact⟨rfl,Af _⟩
 | w::ws,d,c,out,h=>by
  obtain ⟨f,k,h⟩:=bS (show (tgSet mp T w d).bind _=_ from h);have e:zfr mp T tc (gOne te) (w::ws) d=match tc f with
   |#v[a,5]=>(gOne te a).bind λp=>(zfr mp T tc (gOne te) ws p.1).bind λq=>Za (q.1,p.2++q.2)
   |#v[a,6]=>zfr mp T tc (gOne te) ws a
   |none=>Zb:=by rw[zfr,k];rfl
  rw[e];cases et:tc f with
  |none=>simp only [et] at h;exact noSome h
  | some p =>
   obtain⟨a,b⟩:=p;cases b with
   |false=>simp only [et] at h;exact⟨(zhh h).1,Nat.le_succ_of_le (zhh h).2⟩
   | true =>
    simp only [et] at h;obtain⟨⟨i,r⟩,j,h⟩:=bS h;obtain⟨⟨l,rest⟩,g,h⟩:=bS h;cases h;refine⟨?_,Nat.succ_le_succ (zhh g).2⟩;show (gOne te a).bind _=_;rw[gOne,j];show (zfr mp T tc (gOne te) ws i).bind _=_;rw[(zhh g).1]
    rfl
noncomputable def MOk (K:Zg) (mp:List Nat) (p:Prt) (acc:Zh) (em:GL) (t:TM):Prop:=∀(F:Hp) (e:En) (σ:St) (H:Hp) (v:List V) (c:En) (out:List W) (N:St->Hp->Prop),Rel K F (zhu p acc v) e σ H->em e=Za (c,out)->v.length+out.length<=sizeLine ->
 (∀b a d u,Same F b->Rel K b (zhu p acc (v++u)) c a d->Keep mp σ a->Reps K b out u->N a d)->t σ H N
section
variable {K:Zg}
theorem yf2 (d:∀b o,pb b o->b≠acc):MOk K mp pb acc (gOne te) (zuq acc (tE K te)):=by
 intro F l σ H a n out N R h e q;nofun;obtain⟨⟨f,r⟩,j,h⟩:=bS h;refine qG ?_;cases h;refine⟨F,_,l,f,r,R,j,λu t v k m y=>?_⟩;nofun;obtain⟨i,s,c,p⟩:=y.freeze m;obtain⟨g,_,_⟩:=c.prt acc (.lst a) (.inr ⟨rfl,rfl⟩);ac_rfl;exact⟨a,g,e,q i σ _ [v] (k.trans s) (c.accUpd d) (.refl _ _) (.cons p .nil)⟩
theorem zvr (M:MOk K mp pb acc em tm) (R:Rel K F1 (zhu pb acc vs0) ce0 σ0 H0) (ok:ItOk K F1 J ws) (h:zfr mp T tc em ws ce0=Za (ce',out)) (U:vs0.length+out.length<=sizeLine)
  (q:∀F g H' us,Same F1 F->Rel K F (zhu pb acc (vs0++us)) ce' g H'->Keep mp σ0 g->Reps K F out us->N0 g H'):zf2 J (TGof K T) (tT K tc) tm σ0 H0 N0:=by
 refine ⟨λi m σc H=>m=ws.length-i/\i<=ws.length/\∃F j d us rest,Same F1 F/\Rel K F (zhu pb acc (vs0++us)) j σc H/\Keep mp σ0 σc/\Reps K F d us/\zfr mp T tc em (ws.drop i) j=Za (ce',rest)/\d++rest=out,
  ⟨_,rfl,Bm _,F1,ce0,[],[],out,.refl _,by rw[Bu];exact R,.refl _ _,.nil,h,rfl⟩,?_⟩
 rintro i m σc H ⟨rfl,hi,F,j,d,us,rest,f,l,A,rd,a,k⟩;by_cases c:i<ws.length
 ·refine .inr ⟨ok.go i H (f.trans l.sub) c, ?_⟩
  have S:=(Cs c);rw[S] at a;obtain⟨O,Y,a⟩:=bS (show (tgSet mp T ws[i] j).bind _=_ from a);refine⟨λσ2 n=>∃F j d us rest,Same F1 F/\Rel K F (zhu pb acc (vs0++us)) j σ2 n/\Keep mp σ0 σ2/\Reps K F d us/\zfr mp T tc em (ws.drop (i+1)) j=Za (ce',rest)/\d++rest=out,λσ2 n z=>⟨ws.length-(i+1),by symm,rfl,c,z⟩,?_⟩;intro x n y;obtain⟨w,P,o⟩:=ok.yld i H x n (f.trans l.sub) c y;rw[Ab c] at P;obtain rfl:=sI P;nofun;obtain⟨Z,B,R3,z3⟩:=(o.mono f).close l;refine qG ?_;refine zla R3 z3 Y λt X D=>?_;cases et:tc O with
  |none=>simp only [et] at a;exact noSome a
  | some p =>
   obtain⟨u,b⟩:=p;refine⟨Z,_,O,u,b,X,et,λE H5 C N=>?_⟩;cases b with
   | false =>
    simp only [et] at a;exact iteF ⟨E,u,d,us,rest,f.trans (B.trans C),N,A.trans D,rd.mono (B.trans C),a,k⟩
   | true =>
    simp only [et] at a;nofun;obtain⟨⟨I,L⟩,h5,a⟩:=bS a;obtain⟨⟨c4,r⟩,h6,a⟩:=bS a;refine qG ?_;cases a;refine iteT (M E u t H5 (vs0++us) I L _ N h5 ?_ λF6 σ6 H6 v s6 R6 Q r6=>?_)
    ·dsimp only at k
     rw[<-k,Bb,Bb,rd.length] at U;rw[Bb];symm
    ·have s:=B.trans (C.trans s6)
     exact⟨F6,I,d++L,us++v,r,f.trans s,by rw[<-Bf];exact R6,A.trans (D.trans Q),(rd.mono s).append r6,h6,by rw[Bf];exact k⟩
 ·have e:i=ws.length:=by symm
  subst e;rw[List.drop_length] at a;cases a;rw[Bu] at k;subst k;exact .inl ⟨ok.stop H (f.trans l.sub),q F σc H us f l A rd⟩
theorem yia (M:MOk K mp pb acc em tm):MOk K mp pb acc (gTwo mp T it tc em) (tTwo (tI K it) (TGof K T) (tT K tc) tm):=by
 intro F g σ H v j out N R h c q;nofun;obtain⟨⟨e,w⟩,f,h⟩:=bS h;refine qG ?_;exact⟨F,_,g,e,w,R,f,λl m J d i ok=>zvr M i ok h c λk a b u s=>q k a b u (d.trans s)⟩
end
theorem zjm {K:Zg}(M:∀(p:Prt) (acc:Zh),(∀b o,p b o->b≠acc)->MOk K (capKeep cap) p acc em (tm acc))(h:tE K (zz3 cap T it tc em) σ H Q):zu9 (tI K it) cap (TGof K T) (tT K tc) tm σ H Q:=by
 nofun;obtain⟨F,u,e,t,r,R,h,q⟩:=h;obtain⟨⟨k,w⟩,m,h⟩:=bS h;refine qG ?_;refine⟨F,u,e,k,w,R,m,λC D J l c ok acc a=>?_⟩;split at h
 ·rename_i n;nofun;obtain⟨⟨z,out⟩,d,h⟩:=bS h;refine qG ?_;split at h
  ·rename_i i;cases h;refine zvr (M _ acc (zlg c a)) (c.block a n) ok d (by rw[Gi,Dv];exact i) λA v f B s j x rd=>?_;obtain⟨y,g⟩:=c.unblock a s j x rd;exact q A f _ (l.trans s) y g
  ·exact noSome h
 ·exact noSome h
theorem zwd {K:Zg}(h:tE K (zbl cap T it tc te) σ H Q):zu9 (tI K it) cap (TGof K T) (tT K tc) (λacc=>zuq acc (tE K te)) σ H Q:=by
 refine zjm (λk acc c=>yf2 c) ?_;obtain⟨F,p,f,e,r,R,h,q⟩:=h;refine⟨F,p,f,e,r,R,?_,q⟩;nofun;obtain⟨⟨d,w⟩,i,h⟩:=bS h;refine qG ?_;split at h
 ·rename_i z;rw[Ae] at z;nofun;obtain⟨⟨g,out⟩,a,h⟩:=bS h;refine qG ?_;obtain⟨b,j⟩:=zhh a;rw[zz3,i];show (if zc1 cap=Zd then (zfr (capKeep cap) T tc (gOne te) w (ze8 cap d)).bind _ else Zb)=_;rw[if_pos z.1,b];show (if out.length<=sizeLine then _ else Zb)=_;rw[if_pos (Cm j (Aq z.2))];exact h
 ·exact noSome h
noncomputable def yil:GE:=λe=>Za (e,(.dic,Zc))
noncomputable def keyW:W->Bool
 |.int _=>Zd
 |.str _=>Zd
 |_=>Zc
noncomputable def yh0 (k v:GE):GE:=λe=>(k e).bind λp=>if keyW p.2.1 then (v p.1).bind λq=>Za (q.1,(.dic,Zc)) else Zb
noncomputable def Src (h:Heap) (it l:Zh) (k:Nat) (xs:Array Ze):Prop:=(h.IsListIter it l k/\h.IsList l xs)\/(h.IsTupleIter it l k/\h.IsTuple l xs)
theorem Src.at (c:Src h it l k xs)(a:∀o,h.get? it=Za o->h'.get? it=Za o)(b:∀o,h.get? l=Za o->h'.get? l=Za o):Src h' it l k xs:=by
 rcases c with⟨p,q⟩|⟨p,q⟩
 ·exact .inl ⟨p.at a,q.at b⟩
 ·obtain⟨o,e,r⟩:=q;exact .inr ⟨p.at a,o,b o e,r⟩
section
theorem zg8 (c:Src s.heap it l k xs) (m:xs[k]?=Za x) (ne:l≠it)
  (q:∀h',Src h' it l (k+1) xs->Heap.SameBut it s.heap h'->Q x { s with heap:=h' }):wpAny (model prog w) A (Builtin.SmallTypes.nextOf (.ref it)) Q E s:=by
 rcases c with⟨d,h⟩|⟨d,h⟩
 ·exact wpAny_nextOf_list_item d h m λh' a b=>q h' (.inl ⟨a,h.at λo e=>(b.2 l ne).trans e⟩) b
 ·refine aG λu qG => ?_;obtain⟨v,g,r,f⟩:=id d;obtain⟨p,j,n,t,i⟩:=id h;refine qG ?_;refine Aa (Dt d.typeIs Gh (Ft Gh d.typeIs F.entry_tuple_iterator_next ?_ (F.args_tuple_iterator_next_1 _)));refine (show wpAny _ _ (field (.ref it) 0>>=_) _ _ s from Aa (Dk g f rfl ?_));refine (show wpAny _ _ (if (Ze.ref l==Ze.none)=Zd then _ else _) _ _ s from ?_);refine (show wpAny _ _ (field (.ref it) 1>>=_) _ _ s from Aa (Dk g f rfl ?_));refine (show wpAny _ _ (seqItems? (.ref l)>>=_) _ _ s from Aa (Eb j i ?_));simp only [Ef,m];refine Aa (wpAny_setField g f (by simp) (Aj ⟨x,rfl,Aj ?_⟩));refine q _ (.inr ⟨⟨_,Hm _ g (Obj.isFreed_of_fields (Obj.data_mapFields f _)),(Obj.cls_mapFields ..).trans r,by rw[Obj.data_mapFields f];simp [rawInt]⟩,p,?_,n,t,i⟩) (Dh ..);exact ((Dh ..).2 l ne).trans j
theorem zj4 (g:A.handled=Zb) (c:Src s.heap it l k xs) (h:xs[k]?=Zb)
  (q:∀h' e,Heap.ExtBut it s.heap h'->(∃o,h'.get? e=Za o/\o.cls=.type "StopIteration")->E (.ref e) { s with heap:=h' }):wpAny (model prog w) A (Builtin.SmallTypes.nextOf (.ref it)) Q E s:=by
 rcases c with⟨a,d⟩|⟨a,d⟩
 ·exact wpAny_nextOf_list_end g a d h q
 ·obtain⟨t,b,n,f⟩:=id a;obtain⟨m,j,r,p,i⟩:=id d;refine Aa (Dt a.typeIs Gh (Ft Gh a.typeIs F.entry_tuple_iterator_next ?_ (F.args_tuple_iterator_next_1 _)));refine (show wpAny _ _ (field (.ref it) 0>>=_) _ _ s from Aa (Dk b f rfl ?_));refine (show wpAny _ _ (if (Ze.ref l==Ze.none)=Zd then _ else _) _ _ s from ?_);refine (show wpAny _ _ (field (.ref it) 1>>=_) _ _ s from Aa (Dk b f rfl ?_));refine (show wpAny _ _ (seqItems? (.ref l)>>=_) _ _ s from Aa (Eb j i ?_));simp only [Ef,h];refine Aa (Dr (Aa (wpAny_setField b f (by simp) (show wpAny _ _ (newExc (.type "StopIteration") []>>=_) _ _ _ from Aa ?_))));refine Aa (Dj (Aa (wpAny_of_eq (by first|rfl|(simp only [firstArgMember];rfl)) (Dj ?_ (by size_fits)))) (by size_fits));refine Aa (wpAny_handled ?_);rw[show A.in1.handled=Zb from g];exact Aa (Aj (wpAny_throw (q _ _ (((Dh ..).extBut.push _).push _) ⟨_,Ay _ rfl,rfl⟩)))
theorem z9l {z TI TO i f M H:Zh}{x y a b:Ze}{Q:Ze->Zf->Prop} (D:ZipApart z TI TO i f M H) (C:IsZip s.heap z TI TO .none) (gi:IsPair s.heap TI (.ref i) (.ref f)) (go:IsPair s.heap TO a b)
  (c1:Src s.heap i M k1 xs) (c2:Src s.heap f H k2 ys) (ex:xs[k1]?=Za x) (ey:ys[k2]?=Za y)
  (q:∀h',IsZip h' z TI TO (rawInt s.heap.objs.size)->IsPair h' TO x y->Src h' i M (k1+1) xs->Src h' f H (k2+1) ys->IsPair h' s.heap.objs.size x y ->
   (∀c o,c≠z->c≠TO->c≠i->c≠f->s.heap.get? c=Za o->h'.get? c=Za o)->Q (.ref s.heap.objs.size) { s with heap:=h' }) :
  wpAny (model prog w) A (Builtin.«zip.__next__» ⟨[.ref z],[]⟩) (λfin s'=>∃v,fin=.done (.ret v)/\Q v s') E s:=by
 refine (show wpAny _ _ (field (.ref z) 2>>=_) _ _ _ from Aa (Dk C rfl rfl ?_));refine (show wpAny _ _ (field (.ref z) 3>>=_) _ _ _ from Aa (Dk C rfl rfl (Aa (Eb gi rfl ?_))));refine (show wpAny _ _ (Builtin.SmallTypes.ownedTupleIsFree (.ref z)>>=_) _ _ _ from Aa ?_);refine Aa (Dk C rfl rfl (Aj ?_));simp only [Gn];refine Aa (Dr (Aa (Dk C rfl rfl (Aa (Fz C (by simp) λg1 z1 u1=>?_)))));have N:=z1;refine Aa ?_;simp only [List.zipIdx_cons];have d : ∀c o,c≠z->s.heap.get? c=Za o->g1.get? c=Za o:=λc o n e=>u1.extBut _ _ n e;refine Aa (Aa (wpAny_onRaise (show wpAny _ _ (Builtin.SmallTypes.nextOf (.ref i)>>=_) _ _ _ from Aa (zg8 (c1.at (λo=>d _ o D.i1z) λo=>d _ o D.l1z) ex D.l1i1 λg2 d2 K=>Aj ?_))));have h : ∀c o,c≠z->c≠i->s.heap.get? c=Za o->g2.get? c=Za o:=λc o n m e=>K.extBut _ _ m (d c o n e);refine Aa (Eb (h _ _ D.TOz D.TOi1 go) rfl (Aa (wpAny_updateSeq_pair (h _ _ D.TOz D.TOi1 go) λg3 t3 B=>Aa (Gy (Aj ?_)))));have J:=t3;have k : ∀c o,c≠z->c≠i->c≠TO->s.heap.get? c=Za o->g3.get? c=Za o:=λc o n m r e=>B.extBut _ _ r (h c o n m e);refine Aa (Aa (wpAny_onRaise (show wpAny _ _ (Builtin.SmallTypes.nextOf (.ref f)>>=_) _ _ _ from Aa (zg8 (c2.at (λo=>k _ o D.i2z D.i12.symm D.TOi2.symm) λo=>k _ o D.l2z D.l2i1 D.l2TO) ey D.l2i2 λg4 d4 l=>Aj ?_))));have O:=l.extBut _ _ D.TOi2 J;refine Aa (Eb O rfl (Aa (wpAny_updateSeq_pair O λg t5 u=>Aa (Gy (Aj (Aj ?_))))));have t:IsPair g TO x y:=t5;refine Aa (Eb t rfl (Aa (wpAny_newTuple ?_)));have X:g.objs.size=s.heap.objs.size:=by rw[u.1,l.1,B.1,K.1,u1.1]
 have R:=u.extBut _ _ D.TOz.symm (l.extBut _ _ D.i2z.symm (B.extBut _ _ D.TOz.symm (K.extBut _ _ D.i1z.symm N)));have k5:∀c o,c≠z->c≠TO->c≠i->c≠f->s.heap.get? c=Za o->g.get? c=Za o:=λc o n r m p e=>u.extBut _ _ r (l.extBut _ _ p (k c o n m r e));have L:=d2.at (λo e=>u.extBut _ _ D.TOi1.symm (l.extBut _ _ D.i12 (B.extBut _ _ D.TOi1.symm e))) λo e=>u.extBut _ _ D.l1TO (l.extBut _ _ D.l1i2 (B.extBut _ _ D.l1TO e));have I:=d4.at (λo e=>u.extBut _ _ D.TOi2.symm e) λo e=>u.extBut _ _ D.l2TO e;refine (show wpAny _ _ (Builtin.SmallTypes.ownedTupleHandOut (.ref z) (.ref g.objs.size)>>=_) _ _ _ from Aa ?_);have z6:IsZip (g.push { cls:=.type "tuple",data:=.seq #[x,y] }) z TI TO .ellipsis:=Ad _ R;refine Aa (Fz z6 (by simp) λg7 z7 S=>Fz (show IsZip g7 z TI TO (rawInt g.objs.size) from z7) (by simp) λP z8 U=>Aj ⟨_,rfl,?_⟩);have j:∀c o,c≠z->g.get? c=Za o->P.get? c=Za o:=λc o n e=>U.extBut _ _ n (S.extBut _ _ n (Ad _ e));have Z:=Nat.ne_of_gt (Ar R);have Y:=U.extBut _ _ Z (S.extBut _ _ Z (Ay _ rfl));have F:=z8;rw[X] at Y F;rw[X];exact q P F (j _ _ D.TOz t) (L.at (λo=>j _ o D.i1z) λo=>j _ o D.l1z) (I.at (λo=>j _ o D.i2z) λo=>j _ o D.l2z) Y λc o n r m p e=>j c o n (k5 c o n r m p e)
theorem yd1 {z TI TO i v K H:Zh} (L:A.handled=Zb) (D:ZipApart z TI TO i v K H) (j:IsZip s.heap z TI TO .none) (P:IsPair s.heap TI (.ref i) (.ref v)) (go:IsPair s.heap TO a b)
  (Y:Src s.heap i K k1 xs) (U:Src s.heap v H k2 ys) (he:xs[k1]?=Zb\/ys[k2]?=Zb)
  (q:∀h' e,(∀c o,c≠z->c≠TO->c≠i->c≠v->s.heap.get? c=Za o->h'.get? c=Za o)->(∃o,h'.get? e=Za o/\o.cls=.type "StopIteration")->E (.ref e) { s with heap:=h' }) :
  wpAny (model prog w) A (Builtin.«zip.__next__» ⟨[.ref z],[]⟩) Q E s:=by
 refine (show wpAny _ _ (field (.ref z) 2>>=_) _ _ _ from Aa (Dk j rfl rfl ?_));refine (show wpAny _ _ (field (.ref z) 3>>=_) _ _ _ from Aa (Dk j rfl rfl (Aa (Eb P rfl ?_))));refine (show wpAny _ _ (Builtin.SmallTypes.ownedTupleIsFree (.ref z)>>=_) _ _ _ from Aa ?_);refine Aa (Dk j rfl rfl (Aj ?_));simp only [Gn];refine Aa (Dr (Aa (Dk j rfl rfl (Aa (Fz j (by simp) λX S u1=>?_)))));have l:=S;refine Aa ?_;simp only [List.zipIdx_cons];have k : ∀c o,c≠z->s.heap.get? c=Za o->X.get? c=Za o:=λc o n e=>u1.extBut _ _ n e;refine Aa (Aa (wpAny_onRaise (show wpAny _ _ (Builtin.SmallTypes.nextOf (.ref i)>>=_) _ _ _ from Aa ?_)));have I:=Y.at (λo=>k _ o D.i1z) λo=>k _ o D.l1z;cases hx:xs[k1]? with
 | none =>
  refine zj4 L I hx λN e u C=>?_;obtain⟨B,g,t⟩:=C;have F:=u _ _ D.i1z.symm l;have ne:e≠z:=λr=>by subst r;rw[F] at g;obtain rfl:=sI g;simp at t
  exact Fz F (by simp) λy _ h=>q y e (λc o n _ m _ x=>h.extBut _ _ n (u _ _ m (k c o n x))) ⟨B,h.extBut _ _ ne g,t⟩
 | some x =>
  have R:=he.resolve_left (by rw[hx];simp);refine zg8 I hx D.l1i1 λN d2 u=>Aj ?_;have f : ∀c o,c≠z->c≠i->s.heap.get? c=Za o->N.get? c=Za o:=λc o n m e=>u.extBut _ _ m (k c o n e);refine Aa (Eb (f _ _ D.TOz D.TOi1 go) rfl (Aa (wpAny_updateSeq_pair (f _ _ D.TOz D.TOi1 go) λy t3 h=>Aa (Gy (Aj ?_)))));have d : ∀c o,c≠z->c≠i->c≠TO->s.heap.get? c=Za o->y.get? c=Za o:=λc o n m r e=>h.extBut _ _ r (f c o n m e);refine Aa (Aa (wpAny_onRaise (show wpAny _ _ (Builtin.SmallTypes.nextOf (.ref v)>>=_) _ _ _ from Aa (zj4 L (U.at (λo=>d _ o D.i2z D.i12.symm D.TOi2.symm) λo=>d _ o D.l2z D.l2i1 D.l2TO) R λg4 e M C=>?_))));obtain⟨B,g,t⟩:=C;have J:=M _ _ D.i2z.symm (h.extBut _ _ D.TOz.symm (u.extBut _ _ D.i1z.symm l));have ne:e≠z:=λr=>by subst r;rw[J] at g;obtain rfl:=sI g;simp at t
  exact Fz J (by simp) λZ _ O=>q Z e (λc o n r m p x=>O.extBut _ _ n (M _ _ p (d c o n m r x))) ⟨B,O.extBut _ _ ne g,t⟩
theorem ya6 {z TI TO i d e l:Zh} (D:ZipApart z TI TO i d e l) (g:IsZip s.heap z TI TO .none) (f:IsPair s.heap TI (.ref i) (.ref d)) (go:IsPair s.heap TO a b)
  (u:Src s.heap i e k1 xs) (n:Src s.heap d l k2 ys) (k:xs[k1]?=Za x) (v:ys[k2]?=Za y)
  (q:∀h',IsZip h' z TI TO (rawInt s.heap.objs.size)->IsPair h' TO x y->Src h' i e (k1+1) xs->Src h' d l (k2+1) ys->IsPair h' s.heap.objs.size x y ->
   (∀c o,c≠z->c≠TO->c≠i->c≠d->s.heap.get? c=Za o->h'.get? c=Za o)->Q (Za (.ref s.heap.objs.size)) { s with heap:=h' }):wpAny (model prog w) A (pyNext (.ref z)) Q E s:=by
 have t:s.TypeIs (.ref z) "zip" := ⟨_,g,rfl⟩;exact Aa (Ii (Dt t F.slot_zip_next (Ft F.slot_zip_next t F.entry_zip_next (z9l D g f go u n k v λh' m r B h j p=>Aj (q h' m r B h j p)) (F.args_zip_next_1 _))))
theorem yf9 {z TI TO i d f l:Zh} (r:A.handled=Zb) (D:ZipApart z TI TO i d f l) (h:IsZip s.heap z TI TO .none) (m:IsPair s.heap TI (.ref i) (.ref d)) (go:IsPair s.heap TO a b)
  (p:Src s.heap i f k1 xs) (u:Src s.heap d l k2 ys) (n:xs[k1]?=Zb\/ys[k2]?=Zb)
  (q:∀h',(∀c o,c≠z->c≠TO->c≠i->c≠d->s.heap.get? c=Za o->h'.get? c=Za o)->Q Zb { s with heap:=h' }):wpAny (model prog w) A (pyNext (.ref z)) Q E s:=by
 have t:s.TypeIs (.ref z) "zip" := ⟨_,h,rfl⟩;refine Aa (Ii (Dt t F.slot_zip_next (Ft F.slot_zip_next t F.entry_zip_next (yd1 r D h m go p u n λh' e k j=>?_) (F.args_zip_next_1 _))));obtain⟨o,g,co⟩:=j;exact Aa (wpAny_isInstance ⟨o,g,co⟩ isSubtype_stop (Aj (q _ k)))
end
section
variable {prog:Program}{w:World}{A:Around}{E:Ze->Zf->Prop}{s:Zf}{TI TO:Zh}
end
noncomputable def SrcO (h:Heap) (b:Bool) (l:Zh) (xs:Array Ze):Prop:=match b with
 |true=>h.IsList l xs
 |false=>h.IsTuple l xs
noncomputable def itO (b:Bool) (l:Zh):Obj:={ cls:=.type (if b then "list_iterator" else "tuple_iterator"),data:=.fields #[.ref l,.int 0 0] }
theorem SrcO.push (c:SrcO h b l xs) (o:Obj):SrcO (h.push o) b l xs:=by
 cases b with
 |true=>exact Heap.IsList.push c o
 | false =>
  obtain⟨q,e,r⟩:=c;exact⟨q,Ad _ e,r⟩
section
theorem zmx (c:SrcO s.heap b l xs)(q:Q (.ref s.heap.objs.size) { s with heap:=s.heap.push (itO b l) }):wpAny (model prog w) A (pyIter (.ref l)) Q E s:=by
 cases b with
 |true=>exact Fc c q
 |false=>exact Gw c q
end
noncomputable abbrev zA (h:Heap) (b:Bool) (l:Zh):Heap:=h.push (itO b l)
noncomputable abbrev zB (h:Heap) (b c:Bool) (l m:Zh):Heap:=(zA h b l).push (itO c m)
noncomputable abbrev zC (h:Heap) (b c:Bool) (l m:Zh):Heap:=(zB h b c l m).push { cls:=.type "tuple",data:=.seq #[.ref h.objs.size,.ref (zA h b l).objs.size] }
noncomputable abbrev zD (h:Heap) (b c:Bool) (l m:Zh):Heap:=(zC h b c l m).push { cls:=.type "tuple",data:=.seq #[.none,.none] }
noncomputable abbrev zE (h:Heap) (b c:Bool) (l m:Zh):Heap:=(zD h b c l m).push { cls:=.type "zip",data:=.fields #[.none,.bool Zc,.bool Zc,.ref (zB h b c l m).objs.size,.ref (zC h b c l m).objs.size] }
theorem zwb (b c:Bool)(l m:Zh)(xs ys:Array Ze):Meets (Builtin.«zip.__new__» ⟨[.type "zip",.ref l,.ref m],[]⟩) (λ_ R s=>SrcO s.heap b l xs/\SrcO s.heap c m ys/\R (.ok (.ret (.ref (zD s.heap b c l m).objs.size))) { s with heap:=zE s.heap b c l m }) :=
 .of_wp λprog w A R s h=>by
  obtain⟨i,g,d,t,o⟩:=s;obtain⟨f,x,h⟩:=h;have a:=sub_zip;have e:=f;have y:SrcO (Zf.heap ⟨i.push (itO b l),g,d,t,o⟩) c m ys:=SrcO.push x _
  wp_walk using zmx e,zmx y
  exact⟨_,rfl,h⟩
section
theorem z2i (q:SrcO s.heap b l xs) (p:SrcO s.heap c m ys)
  (h:∀h',IsZip h' (s.heap.objs.size+4) (s.heap.objs.size+2) (s.heap.objs.size+3) .none->IsPair h' (s.heap.objs.size+2) (.ref s.heap.objs.size) (.ref #v[4,11])->IsPair h' (s.heap.objs.size+3) .none .none ->
   h'.get? s.heap.objs.size=Za (itO b l)->h'.get? #v[4,11]=Za (itO c m)->(∀c o,s.heap.get? c=Za o->h'.get? c=Za o)->Q (.ref (s.heap.objs.size+4)) { s with heap:=h' }) :
  wpAny (model prog w) A (call (.type "zip") [.ref l,.ref m]) Q E s:=by
 refine callType_new F.called_zip #v[0,9] (F.typeCall_zip_2 _ _) (F.newCall_zip_2 _ _) (λobj=>F.args_object_init_3 obj _ _) F.entry_zip_new (zwb b c l m xs ys) ⟨q,p,?_⟩;have n:(zA s.heap b l).objs.size=s.heap.objs.size+1:=Ec ..;have a:(zB s.heap b c l m).objs.size=s.heap.objs.size+2:=by rw[Ec,n]
 have d:(zC s.heap b c l m).objs.size=s.heap.objs.size+3:=by rw[Ec,a]
 have f:(zD s.heap b c l m).objs.size=s.heap.objs.size+4:=by rw[Ec,d]
 have u:∀r o,s.heap.get? r=Za o->(zE s.heap b c l m).get? r=Za o:=λr o x=>Ad _ (Ad _ (Ad _ (Ad _ (Ad _ x))));have e:(zE s.heap b c l m).get? (zD s.heap b c l m).objs.size=Za _:=Ay _ rfl;have j:(zE s.heap b c l m).get? (zC s.heap b c l m).objs.size=Za _:=Ad _ (Ay _ rfl);have i:(zE s.heap b c l m).get? (zB s.heap b c l m).objs.size=Za _:=Ad _ (Ad _ (Ay _ rfl));have g:(zE s.heap b c l m).get? (zA s.heap b l).objs.size=Za (itO c m):=Ad _ (Ad _ (Ad _ (Ay _ rfl)));have k:(zE s.heap b c l m).get? s.heap.objs.size=Za (itO b l):=Ad _ (Ad _ (Ad _ (Ad _ (Ay _ rfl))));show _/\_;rw[a,d,f] at e;rw[n,a] at i;rw[d] at j;rw[n] at g;rw[f];exact⟨⟨_,e,rfl⟩,h _ e i j k g u⟩
end
noncomputable def SqK (K:Zg) (k:Bool) (H:Hp) (a:Zh) (xs:List V):Prop:=match k with
 |true=>SqL K H a xs
 |false=>SqT K H a xs
noncomputable def ItI (h:Heap) (k:Bool) (it l:Zh) (i:Nat):Prop:=match k with
 |true=>h.IsListIter it l i
 |false=>h.IsTupleIter it l i
theorem SqK.mono {K:Zg}(s:Same F H)(h:SqK K k F a xs):SqK K k H a xs:=by
 cases k with
 |true=>exact s.seq h
 |false=>exact zcr s h
theorem Inv.sqK (I:Inv X pins σ H s)(h:SqK X.K k H a xs):∃i:List Ze,Vals xs i/\SrcO s.heap k a i.toArray:=by
 cases k with
 |true=>obtain⟨i,r,p,_⟩:=I.list h;exact⟨i,r,p.isList⟩
 |false=>obtain⟨i,r,p,_⟩:=I.tuple h;exact⟨i,r,p⟩
theorem Inv.sqK_inj (I:Inv X pins σ H s)(h:SqK X.K k H a xs)(h':SqK X.K k H a ys):xs=ys:=by
 cases k with
 |true=>exact I.list_inj h h'
 |false=>exact I.tuple_inj h h'
theorem ItI.src (a:ItI h k it l i)(b:SrcO h k l xs):Src h it l i xs:=by
 cases k with
 |true=>exact .inl ⟨a,b⟩
 |false=>exact .inr ⟨a,b⟩
theorem Src.itI (c:Src h it l i xs) (b:SrcO h k l xs):ItI h k it l i:=by
 cases k with
 | true =>
  rcases c with⟨c,_⟩|⟨_,⟨o,e,q,_⟩⟩
  ·exact c
  ·obtain ⟨f, d, a, _⟩:=b
   rw[e] at d;obtain rfl:=sI d;rw[q] at a;simp at a
 | false =>
  rcases c with⟨_,⟨o,e,q,_⟩⟩|⟨c,_⟩
  ·obtain ⟨f, d, a, _⟩:=b
   rw[e] at d;obtain rfl:=sI d;rw[q] at a;simp at a
  ·exact c
theorem ItI.at (a:ItI h k it l i)(q:∀o,h.get? it=Za o->h'.get? it=Za o):ItI h' k it l i:=by
 cases k with
 |true=>exact Heap.IsListIter.at a q
 |false=>exact Heap.IsTupleIter.at a q
theorem ItI.obj (a:ItI h k it l i):∃o,h.get? it=Za o/\∀v,o.data≠.cell v:=by
 cases k with
 |true=>obtain⟨o,e,_,d⟩:=a;exact⟨o,e,λv z=>by rw[d] at z;cases z⟩
 |false=>obtain⟨o,e,_,d⟩:=a;exact⟨o,e,λv z=>by rw[d] at z;cases z⟩
noncomputable def Itz (K:Zg) (e k:Bool) (a b:Zh):It :=
 ⟨λi H=>∃d c x y,SqK K e H a d/\SqK K k H b c/\d[i]?=Za x/\c[i]?=Za y,
  λi H x f=>∃p v u,x=.ref p/\H p=Zb/\f=upd H p (.tup [v,u])/\(∀d,SqK K e H a d->d[i]?=Za v)/\(∀c,SqK K k H b c->c[i]?=Za u),
  λi H=>∃d c,SqK K e H a d/\SqK K k H b c/\(d.length<=i\/c.length<=i)⟩
noncomputable def zSt (e k:Bool) (z TI TO c d a b:Zh) (i:Nat) (h:Heap):Prop:=IsZip h z TI TO .none/\IsPair h TI (.ref c) (.ref d)/\(∃u v,IsPair h TO u v)/\ItI h e c a i/\ItI h k d b i
theorem z16 {K:Zg}{x1}(Y R:Bool)(z TI TO p t a b:Zh)(D:ZipApart z TI TO p t a b):Turn P w K (.Tuple es x1 px) (Itz K Y R a b) [z,TI,TO,p,t] z (zSt Y R z TI TO p t a b) where
 mem:=by simp
 obj:=λi h n c U=>by
  nofun;obtain⟨m,l,⟨u,v,go⟩,B,A⟩:=n;ac_rfl;simp only [Ao,As,Br,Ha] at U;rcases U with rfl|rfl|rfl|rfl|rfl
  ·exact⟨_,m,λv q=>by cases q⟩
  ·exact⟨_,l,λv q=>by cases q⟩
  ·exact⟨_,go,λv q=>by cases q⟩
  ·exact B.obj
  ·exact A.obj
 keep:=λi h h' n k=>by
  nofun;obtain⟨m,l,⟨u,v,go⟩,B,A⟩:=n;ac_rfl;exact⟨k z (by simp) _ m,k TI (by simp) _ l,⟨u,v,k TO (by simp) _ go⟩,B.at λo e=>k p (by simp) o e,A.at λo e=>k t (by simp) o e⟩
 item:=by
  intro X hP hw hK U i pins s σ H E I hf n hg;subst hP hw hK;nofun;obtain⟨xs,ys,x,y,q1,Z,e1,e2⟩:=hg;obtain⟨m,l,⟨u0,v0,go⟩,B,A⟩:=n;obtain⟨S,r1,g⟩:=I.sqK q1;obtain⟨its',r2,j⟩:=I.sqK Z;obtain⟨u,hu,ru⟩:=r1.get e1;obtain⟨v,hv,rv⟩:=r2.get e2;ac_rfl;refine ya6 D m l go (B.src g) (A.src j) (x:=u) (y:=v) (by simpa using hu) (by simpa using hv) λh' g1 g2 g3 g4 g5 F=>⟨_,rfl,?_⟩;refine wpAny_letOwnedTupleGo_zip g1 λf k1 C=>?_;have lt:∀c o,s.heap.get? c=Za o->c≠s.heap.objs.size:=λc o e=>Bc (Ar e);have kk:∀c o,c ∉ [z,TI,TO,p,t]->s.heap.get? c=Za o->f.get? c=Za o:=λc o d e=>by
   simp only [Ao,As,Br,Ha,not_or] at d;exact (C.2 c d.1).trans (F c o d.1 d.2.2.1 d.2.2.2.1 d.2.2.2.2 e)
  have J:SrcO h' Y a S.toArray:=by
   cases Y with
   |true=>exact g.at λo e=>F a o D.l1z D.l1TO D.l1i1 D.l1i2 e
   |false=>obtain⟨o,e,r⟩:=g;exact⟨o,F a o D.l1z D.l1TO D.l1i1 D.l1i2 e,r⟩
  have N:SrcO h' R b its'.toArray:=by
   cases R with
   |true=>exact j.at λo e=>F b o D.l2z D.l2TO D.l2i1 D.l2i2 e
   |false=>obtain⟨o,e,r⟩:=j;exact⟨o,F b o D.l2z D.l2TO D.l2i1 D.l2i2 e,r⟩
  have L:ItI f Y p a (i+1):=(g3.itI J).at λo e=>(C.2 p D.i1z).trans e;have M:ItI f R t b (i+1):=(g4.itI N).at λo e=>(C.2 t D.i2z).trans e;have O:IsPair f TI (.ref p) (.ref t):=(C.2 TI D.TIz).trans (F TI _ D.TIz D.TITO D.TIi1 D.TIi2 l);have Q:IsPair f TO u v:=(C.2 TO D.TOz).trans g2;have Tz:s.heap.objs.size≠z:=(lt z _ m).symm;refine⟨.ref s.heap.objs.size,upd H s.heap.objs.size (.tup [x,y]),I.turnLay kk (λc d=>?_) hf (Af _) ⟨by show 2<=sizeLine;decide,[u,v],.cons ru (.cons rv .nil),?_⟩,rfl,⟨_,x,y,rfl,I.hok.fresh (Af _),rfl,λzs hz=>by rw[I.sqK_inj hz q1];exact e1,λzs hz=>by rw[I.sqK_inj hz Z];exact e2⟩,⟨k1,O,⟨u,v,Q⟩,L,M⟩,λc d=>?_⟩
  ·simp only [Ao,As,Br,Ha] at d;rcases d with rfl|rfl|rfl|rfl|rfl
   ·exact⟨_,k1⟩
   ·exact⟨_,O⟩
   ·exact⟨_,Q⟩
   ·obtain⟨o,e,_⟩:=L.obj;exact⟨o,e⟩
   ·obtain⟨o,e,_⟩:=M.obj;exact⟨o,e⟩
  ·exact⟨_,(C.2 _ Tz).trans g5,⟨rfl,_,rfl⟩,rfl⟩
  ·have ne:c≠s.heap.objs.size:=by
    simp only [Ao,As,Br,Ha] at d;rcases d with rfl|rfl|rfl|rfl|rfl
    ·exact lt _ _ m
    ·exact lt _ _ l
    ·exact lt _ _ go
    ·obtain⟨o,e,_⟩:=B.obj;exact lt _ _ e
    ·obtain⟨o,e,_⟩:=A.obj;exact lt _ _ e
   rw[upd_ne ne];exact (hf c d).1
 done:=by
  intro X hP hw hK U i pins s σ H E I hf n hg;subst hP hw hK;nofun;obtain⟨xs,ys,q1,Z,he⟩:=hg;obtain⟨m,l,⟨u0,v0,go⟩,B,A⟩:=n;obtain⟨S,r1,g⟩:=I.sqK q1;obtain⟨its',r2,j⟩:=I.sqK Z;ac_rfl;have l1:=r1.length;have l2:=r2.length;refine yf9 (I.ok.hd U) D m l go (B.src g) (A.src j) ?_ λh' k=>⟨rfl,I.turnL (t':=s.toks) (ch:=[z,TI,TO,p,t]) (λc o d e=>?_) hf⟩
  ·rcases he with he|he
   ·exact .inl (Fs (by simp;symm))
   ·exact .inr (Fs (by simp;symm))
  ·simp only [Ao,As,Br,Ha,not_or] at d;exact k c o d.1 d.2.2.1 d.2.2.2.1 d.2.2.2.2 e
 self:=λ_ _ _ _ _ n h=>wpAny_pyIter_zip n.1 h
theorem z1w:bootBuiltins "zip" = Za (.type "zip"):=by decide +kernel
section
noncomputable def iZip (K:Zg) (t:TA):TI:=λσ H R=>t σ H λv c=>∃a b d k x y,v=[.ref a,.ref b]/\SqK K d c a x/\SqK K k c b y/\R (Itz K d k a b) c
theorem ycc {x1} (U:Gl X "zip") (K:X.mg "zip" = Zb) (F:PA X [l,m] tl) (N:starEach [l,m] X.env=[(Zc,eval l X.env),(Zc,eval m X.env)]) (j:starEach [m] X.env=[(Zc,eval m X.env)]) :
  PI X (.Tuple es x1 px) (.Call (.Name "zip" p) [l,m] [] pos) (iZip X.K tl):=by
 intro pins s σ H R I h;refine Call_ (zd0 I U K z1w (Dp (thn (F pos pins s σ H _ I h) λus d ⟨vs,H1,i,P,L⟩=>?_) (by rw[N,j]) (by rw[j];rfl)));nofun;obtain⟨a,b,w,t,xs,ys,e,C,Y,q⟩:=L;refine qG ?_;subst e;cases P with
 | cons r x =>
  cases x with
  | cons Q x =>
   cases x;cases r;cases Q;refine aG λ_ qG=>?_;obtain ⟨its,Z,f⟩:=i.sqK C;obtain ⟨its',M,g⟩:=i.sqK Y;refine qG ?_;refine z2i f g λA B g2 J O g5 u=>wpAny_pyIter_zip B ?_;have v:a<d.heap.objs.size:=by
    cases w with
    |true=>obtain⟨o,e,_⟩:=f;exact Ar e
    |false=>obtain⟨o,e,_⟩:=f;exact Ar e
   have n:b<d.heap.objs.size:=by
    cases t with
    |true=>obtain⟨o,e,_⟩:=g;exact Ar e
    |false=>obtain⟨o,e,_⟩:=g;exact Ar e
   have D:ZipApart (d.heap.objs.size+4) (d.heap.objs.size+2) (d.heap.objs.size+3) d.heap.objs.size (d.heap.objs.size+1) a b:=by
    have u:∀{c:Zh} (k:Nat),c<d.heap.objs.size->c≠d.heap.objs.size+k:=λk h=>Bc (Aw h (Ep _ k));refine⟨?_,?_,?_,?_,?_,?_,?_,?_,?_,?_,u 4 v,u 3 v,u 0 v,u 1 v,u 4 n,u 3 n,u 0 n,u 1 n⟩<;>(intro z;have z':(_:Nat)=_:=z;symm)
   have S:ItI A w d.heap.objs.size a 0:=by cases w<;>exact⟨_,O,rfl,rfl⟩
   have E:ItI A t (d.heap.objs.size+1) b 0:=by cases t<;>exact⟨_,g5,rfl,rfl⟩
   refine ⟨_,_,_,_,H1,rfl,i.kept (t':=d.toks) u,z16 w t _ _ _ _ _ a b D,⟨B,g2,⟨_,_,J⟩,S,E⟩,λc y=>?_,q⟩;have le:d.heap.objs.size<=c:=by
    simp only [Ao,Br,Ha] at y;rcases y with rfl|rfl|rfl|rfl|rfl
    ·exact Ep _ _
    ·exact Ep _ _
    ·exact Ep _ _
    ·exact Af _
    ·exact Ep _ _
   exact i.fpOk le (i.hok.fresh le)
end
noncomputable def zipW:List W->List W->List W
 |x::b,y::a=>.tup [x,y]::zipW b a
 |_,_=>[]
theorem zgz:∀(xs ys:List W),(zipW xs ys).length=min xs.length ys.length
 |[],_=>by simp [zipW]
 |_::_,[]=>by simp [zipW]
 |_::xs,_::ys=>by simp only [zipW,Bg,zgz xs ys];symm
theorem zkf:∀{xs ys:List W}{i:Nat}{x y:W},xs[i]?=Za x->ys[i]?=Za y->(zipW xs ys)[i]?=Za (.tup [x,y])
 |[],_,_,_,_,e,_=>by simp at e
 |_::_,[],_,_,_,_,e=>by simp at e
 |_::xs,_::ys,0,_,_,e,a=>by simp at e a;subst e a;rfl
 | _::xs,_::ys,i+1,x,y,e,a=>by
  show (zipW xs ys)[i]?=_;exact zkf (by simpa using e) (by simpa using a)
noncomputable def gZip (g g':GE):GL:=λe=>(g e).bind λp=>(g' p.1).bind λq=>(seqW p.2.1).bind λw=>(seqW q.2.1).bind λu=>Za (q.1,zipW w u)
section
variable {K:Zg}
theorem ze9 (y:Rep K F w v) (h:seqW w=Za ws):∃a k vs,v=.ref a/\SqK K k F a vs/\Reps K F ws vs:=by
 cases w with
 | lst x=>obtain rfl:=sI h;cases y with
  |lst y r=>exact⟨_,Zd,_,rfl,SqL.of' y,r⟩
 | frl x=>obtain rfl:=sI h;cases y with
  |frl y r=>exact⟨_,Zd,_,rfl,y,r⟩
 | tup x=>obtain rfl:=sI h;cases y with
  |tup y r=>exact⟨_,Zc,_,rfl,.inl (.inl y),r⟩
 |_=>exact noSome h
theorem yfs (h:SqK K ka F a vs)(h':SqK K kb F b us)(r:Reps K F ws vs)(c:Reps K F zs us):ItOk K F (Itz K ka kb a b) (zipW ws zs) where
 go:=λi H s d=>by
  rw[zgz] at d;have o:i<vs.length:=by rw[<-r.length];symm
  have l:i<us.length:=by rw[<-c.length];symm
  exact⟨vs,us,vs[i],us[i],h.mono s,h'.mono s,Ab o,Ab l⟩
 stop:=λH s=>⟨vs,us,h.mono s,h'.mono s,by rw[zgz,r.length,c.length];symm⟩
 yld:=λi H x z s d y=>by
  nofun;obtain⟨p,v,u,e,t,f,n,j⟩:=y;refine qG ?_;subst e f;nofun;obtain⟨w,m,k⟩:=r.getV (n vs (h.mono s));obtain⟨A,g,q⟩:=c.getV (j us (h'.mono s));ac_rfl;exact⟨_,zkf m g,.tup t (.cons k (.cons q .nil))⟩
theorem z2f (h:tI K (gZip g g') σ H R):iZip K (zgp (tE K g) (zgp (tE K g') tNil)) σ H R:=by
 nofun;obtain⟨F,p,m,w,Z,Re,h,q⟩:=h;obtain⟨⟨i,B⟩,u,h⟩:=bS h;obtain⟨⟨I,o⟩,l,h⟩:=bS h;obtain⟨us,x,h⟩:=bS h;obtain⟨Y,e,h⟩:=bS h;refine qG ?_;cases h;refine⟨F,p,m,i,B,Re,u,λF1 H1 v t O z=>?_⟩;nofun;obtain⟨A,M,R2,y⟩:=z.freeze O;ac_rfl;refine⟨A,p,i,I,o,R2,l,λF3 L X s S n=>?_⟩;nofun;obtain⟨Q,k,c,N⟩:=n.freeze S;obtain⟨a,U,C,E,f,D⟩:=ze9 (y.mono (s.trans k)) x;obtain⟨b,J,d,P,j,r⟩:=ze9 N e;ac_rfl;subst E P;exact⟨a,b,U,J,C,d,rfl,f.mono c.sub,j.mono c.sub,q Q L _ (t.trans (M.trans (s.trans k))) c (yfs f j D r)⟩
end
open AutoSeq1 (wpAny_loadPart')
section
variable {prog:Program}{w:World}{A:Around}{E:Ze->Zf->Prop}{s:Zf}
theorem zvo {it l:Zh}{xs:Array Ze}(ne:l≠it)(n:A.handled=Zb):Draws prog w A.in1 it [it,l] xs.size (λi x=>xs[i]?=Za x) (λk h=>h.IsTupleIter it l k/\h.IsTuple l xs) where
 live:=λi h a=>let ⟨⟨o,e,_⟩,_⟩:=a;⟨o,e⟩
 frame:=λi h d a k=>⟨a.1.at λo e=>k it (by simp) o e,let ⟨o,e,r⟩:=a.2;⟨o,k l (by simp) o e,r⟩⟩
 item:=λi s Q E m a q=>zg8 (k:=i) (xs:=xs) (x:=xs[i]) (.inr a) (Array.getElem?_eq_getElem m) ne λd c j=>by
  rcases c with⟨⟨o,e,D,_⟩,b⟩|c
  ·obtain ⟨B, z, p, _⟩:=a.1;have:=a.2;exact absurd b (λb=>by
   obtain⟨y,g,f,_⟩:=b;obtain⟨C,t,u,_⟩:=a.2;rw[(j.2 l ne).trans t] at g;obtain rfl:=sI g;rw[u] at f;exact absurd (Ze.type.inj f) #v[0,9])
  ·exact q xs[i] d s.toks (Array.getElem?_eq_getElem m) c j
 done:=λs Q E a q=>zj4 (k:=xs.size) (xs:=xs) (show A.in1.handled=Zb from n) (.inr a) (Fs (Af _)) q
theorem zp1 (l:Zh) (items:Array Ze) (n:Nat) (dct:Option Zh) (f:Array (Option Ze)) :
  Meets (Builtin.«enumerate.__new__» ⟨[.type "enumerate",.ref l],[]⟩) (λ_ R s=>s.heap.get? l=Za { cls:=.type "tuple",dict:=dct,data:=.seq items n,slots:=f } /\
   R (.ok (.ret (.ref (s.heap.push { cls:=.type "tuple_iterator",data:=.fields #[.ref l,.int 0 0] }).objs.size)))
    { s with heap:=(s.heap.push { cls:=.type "tuple_iterator",data:=.fields #[.ref l,.int 0 0] }).push { cls:=.type "enumerate",data:=.fields #[.none,.bool Zc,.ref s.heap.objs.size,rawInt 0,.none,.none] } }) :=
 .of_wp λprog w A R s h=>by
  obtain⟨i,g,d,t,o⟩:=s;obtain⟨a,h⟩:=h;have e:=sub_enumerate;have b:Heap.IsTuple (Zf.heap ⟨i,g,d,t,o⟩) l items:=⟨_,a,rfl,n,rfl⟩
  wp_walk using Dq a
  refine wpAny_stack_any λj=>Aj ?_;split
  ·rename_i c _ _ _ _ _;cases (c==Ze.type "enumerate")<;>(wp_walk using Dq a,Gw b)<;>exact⟨_,rfl,h⟩
  ·wp_walk using Dq a,Gw b
   exact⟨_,rfl,h⟩
theorem ztf (f:s.heap.IsTuple l items)
  (h:∀h',IsEnum h' #v[4,11] s.heap.objs.size 0 .none->h'.IsTupleIter s.heap.objs.size l 0->(∀b o,s.heap.get? b=Za o->h'.get? b=Za o)->Q (.ref #v[4,11]) { s with heap:=h' }) :
  wpAny (model prog w) A (call (.type "enumerate") [.ref l]) Q E s:=by
 nofun;obtain⟨⟨c,dct,j,e⟩,g,k,n,i⟩:=f;ac_rfl;cases (show c=.type "tuple" from k);cases (show j=.seq items n from i);refine callType_new F.called_enumerate #v[0,9] (F.typeCall_enumerate_1 _) (F.newCall_enumerate_1 _) (λobj=>F.args_object_init_2 obj _) F.entry_enumerate_new (zp1 l items n dct e) ⟨g,?_⟩;have d:(s.heap.push { cls:=.type "tuple_iterator",data:=.fields #[.ref l,.int 0 0] }).objs.size=s.heap.objs.size+1:=Ec ..;show _/\_;rw[d];have a:=Ay (s.heap.push { cls:=.type "tuple_iterator",data:=.fields #[.ref l,.int 0 0] }) (o:={ cls:=.type "enumerate",data:=.fields #[.none,.bool Zc,.ref s.heap.objs.size,rawInt 0,.none,.none] }) rfl;rw[d] at a;exact⟨⟨_,a,rfl⟩,h _ a ⟨_,Ad _ (Ay _ rfl),rfl,rfl⟩ λb o x=>Ad _ (Ad _ x)⟩
end
noncomputable def IteT (K:Zg) (a:Zh):It :=
 ⟨λi H=>∃b x,SqT K H a b/\b[i]?=Za x,λi H x c=>∃p v,x=.ref p/\H p=Zb/\c=upd H p (.tup [.int i,v])/\∀b,SqT K H a b->b[i]?=Za v,λi H=>∃b,SqT K H a b/\b.length<=i⟩
theorem ztv {K:Zg}{x1}(a e it:Zh)(B:e≠it)(U:e≠a)(S:a≠it):Turn P w K (.Tuple es x1 px) (IteT K a) [e,it] e (λi h=>(∃g,IsEnum h e it i g)/\h.IsTupleIter it a i) where
 mem:=by simp
 obj:=λi h r b f=>by
  nofun;obtain⟨⟨g,n⟩,o,hi,c,d⟩:=r;ac_rfl;rcases Ao.mp f with rfl|f
  ·exact⟨_,n,λv z=>by cases z⟩
  ·have:b=it:=by simpa using f
   subst this;exact⟨o,hi,λv z=>by rw[d] at z;cases z⟩
 keep:=λi h h' r k=>⟨let ⟨g,n⟩:=r.1;⟨g,k e (by simp) _ n⟩,r.2.at λo z=>k it (by simp) o z⟩
 item:=by
  intro X N hw hK hc i pins s σ H E I M r Y;subst N hw hK;nofun;obtain⟨xs,x,L,Q⟩:=Y;obtain⟨m,rv,p,hz⟩:=I.tuple L;obtain⟨u,hu,ru⟩:=rv.get Q;obtain⟨⟨g,n⟩,t⟩:=r;ac_rfl;have hT:s.heap.IsTuple a m.toArray:=p;have lt:i<m.toArray.size:=by
   rw[Am];exact (Ap.mp hu).1
  refine wpAny_pyNext_enum_itemD (zvo S (I.ok.hd hc)) n ⟨t,hT⟩ lt B (by simp [B,U]) λy h' tk R ho hst O hsz hk=>⟨_,rfl,?_⟩;have eu:y=u:=by
   have:m[i]?=Za y:=by simpa using R
   rw[hu] at this;exact (sI this).symm
  subst eu;refine wpAny_letOwnedTupleGo_enum ho λJ A l=>?_;have kk:∀b o,b ∉ [e,it]->s.heap.get? b=Za o->J.get? b=Za o:=λb o f q=>by
   have h1:b≠e:=λz=>f (by simp [z]);have h2:b≠it:=λz=>f (by simp [z]);exact (l.2 b h1).trans (hk b o h1 h2 q)
  have C:s.heap.objs.size≠e:=λz=>absurd (Ar n) (by rw[z];exact Cj _);have j:J.IsTupleIter it a (i+1):=hst.1.at λo y=>(l.2 it B.symm).trans y;refine⟨.ref s.heap.objs.size,upd H s.heap.objs.size (.tup [.int i,x]),I.turnLay kk (λb f=>?_) M (Af _) ⟨by show 2<=sizeLine;decide,[.int i tk,y],.cons ⟨_,rfl⟩ (.cons ru .nil),?_⟩,rfl,⟨_,x,rfl,I.hok.fresh (Af _),rfl,λys R=>by rw[I.tuple_inj R L];exact Q⟩,⟨⟨_,by simpa using A⟩,j⟩,λb f=>?_⟩
  ·rcases Ao.mp f with rfl|f
   ·exact⟨_,A⟩
   ·have:b=it:=by simpa using f
    subst this;obtain⟨o,z,_⟩:=j;exact⟨o,z⟩
  ·exact⟨_,(l.2 _ C).trans O,⟨rfl,_,rfl⟩,rfl⟩
  ·have:b≠s.heap.objs.size:=by
    rcases Ao.mp f with rfl|f
    ·exact C.symm
    ·have e2:b=it:=by simpa using f
     subst e2;obtain⟨o,z,_⟩:=t;exact Bc (Ar z)
   rw[upd_ne this];exact (M b f).1
 done:=by
  intro X N hw hK hc i pins s σ H E I M r Y;subst N hw hK;nofun;obtain⟨xs,L,Q⟩:=Y;obtain⟨m,rv,p,hz⟩:=I.tuple L;obtain⟨⟨g,n⟩,t⟩:=r;obtain⟨f0,f1,f2,f3,f4,f5⟩:=M it (by simp);ac_rfl;have hl:=rv.length;have hT:s.heap.IsTuple a m.toArray:=p;have D:s.TypeIs (.ref e) "enumerate" := ⟨_,n,rfl⟩;unfold pyNext;refine Aa (Ii (Dt (name:=Str.ofString "__next__") D F.slot_enumerate_next (Ft F.slot_enumerate_next D F.entry_enumerate_next ?_ (F.args_enumerate_next_1 _))));show wpAny _ _ (field (.ref e) 2>>=_) _ _ _;refine Aa (Dk n rfl (x:=.ref it) rfl ?_);refine Aa (zj4 (show _=Zb from I.ok.hd hc) (.inr ⟨t,hT⟩) (Fs (by simp;symm)) λh' x eb hx'=>?_);obtain⟨o,ho,Z⟩:=hx';refine Aa (wpAny_isInstance (T := "StopIteration") (b:=Zd) ⟨o,ho,Z⟩ isSubtype_stop ?_);exact Aj ⟨rfl,I.turned (t':=s.toks) (λb o f e=>eb b o f e) f0 f1 f3 f4 f5⟩
 self:=λ_ _ _ _ _ r h=>let ⟨_,n⟩:=r.1;Ib n h
section
noncomputable def z49 (K:Zg) (t:TA):TI:=λσ H R=>t σ H λv b=>∃a x,v=[.ref a]/\(SqL K b a x/\R (Ite K a) b\/SqT K b a x/\R (IteT K a) b)
theorem z3v {K} (E:Gl X "enumerate") (y:X.mg "enumerate" = Zb) (v:PA X [l] tl) (B:starEach [l] X.env=[(Zc,eval l X.env)]:=by rfl) :
  PI X (.Tuple es K px) (.Call (.Name "enumerate" p) [l] [] pos) (z49 X.K tl):=by
 intro pins s σ H R I h;refine Call_ (zd0 I E y boot_enumerate (Dp (thn (v pos pins s σ H _ I h) λN c ⟨M,t,f,C,z⟩=>?_) B rfl));obtain⟨a,L,e,q⟩:=z;subst e;cases C with
 | cons r J =>
  cases J;cases r;have fp:∀b∈[c.heap.objs.size+1,c.heap.objs.size],FpOk X pins t b:=λb j=>by
   have e:c.heap.objs.size<=b:=by
    rcases Ao.mp j with rfl|j
    ·exact Nat.le_succ _
    ·have D:b=c.heap.objs.size:=by simpa using j
     rw[D];exact Af _
   exact f.fpOk e (f.hok.fresh e)
  rcases q with⟨n,q⟩|⟨n,q⟩
  ·obtain ⟨i,F,k, w⟩:=f.list n
   refine call_enumerate_list k.isList λx g d A m=>Ib g ?_;exact⟨c.heap.objs.size+1,[c.heap.objs.size+1,c.heap.objs.size],_,_,t,rfl,f.kept (t':=c.toks) m,zwv a _ _ (Nat.succ_ne_self _),⟨⟨_,by simpa using g⟩,d⟩,fp,q⟩
  ·obtain ⟨i,F,k, w⟩:=f.tuple n
   have hT:c.heap.IsTuple a i.toArray:=k;have u:a<c.heap.objs.size:=let ⟨o,e,_⟩:=hT;Ar e;refine ztf hT λx g d m=>Ib g ?_;exact⟨c.heap.objs.size+1,[c.heap.objs.size+1,c.heap.objs.size],_,_,t,rfl,f.kept (t':=c.toks) m,ztv a _ _ (Nat.succ_ne_self _) (Nat.ne_of_gt (Ez u)) (Bc u),⟨⟨_,by simpa using g⟩,d⟩,fp,q⟩
end
section
variable {K:Zg}
theorem z3l (h:SqT K F a vs)(r:Reps K F ws vs):ItOk K F (IteT K a) (zhj ws 0) where
 go:=λi H s b=>by rw[zc5] at b;exact⟨vs,vs[i]'(by rw[<-r.length];exact b),zcr s h,by rw[Ab]⟩
 stop:=λH s=>⟨vs,zcr s h,by rw[zc5,r.length];exact Af _⟩
 yld:=λi H x f s b y=>by
  nofun;obtain⟨p,v,e,d,c,y⟩:=y;ac_rfl;subst e c;obtain⟨w,e,q⟩:=r.getV (y vs (zcr s h));refine⟨_,zfl e,?_⟩;rw[Dv];exact .tup d (.cons (.int _) (.cons q .nil))
noncomputable def ztt (g:GE):GL:=λe=>(g e).bind λp=>(seqW p.2.1).bind λw=>Za (p.1,zhj w 0)
theorem zv6 (h:tI K (ztt g) σ H R):z49 K (zgp (tE K g) tNil) σ H R:=by
 nofun;obtain⟨F,p,j,n,w,Re,h,q⟩:=h;obtain⟨⟨l,t⟩,m,h⟩:=bS h;obtain⟨x,o,h⟩:=bS h;ac_rfl;cases h;refine⟨F,p,j,l,t,Re,m,λA i v s u z=>?_⟩;nofun;obtain⟨c,f,R2,y⟩:=z.freeze u;obtain⟨a,k,d,e,b,r⟩:=ze9 y o;ac_rfl;subst e;cases k with
 |true=>exact⟨a,d,rfl,.inl ⟨R2.sub.seq b,q c i _ (s.trans f) R2 (z8s b r)⟩⟩
 |false=>exact⟨a,d,rfl,.inr ⟨zcr R2.sub b,q c i _ (s.trans f) R2 (z3l b r)⟩⟩
end
end L2
namespace L2
open PySem PySem.Spec PyProof.Rows
section
end
section
variable {K:Zg}
end
noncomputable abbrev Fn:=List W->Option (List W×(W×Bool))
noncomputable def zbj (m:List Bool) (ws:List W):En:=List.zipWith (λw b=>Za (w,b)) ws m
noncomputable def spF (K:Zg) (m:List Bool) (Φ:Fn):Sp:=λd H Q _=>∃F p a w r,a.length=m.length/\w.length=m.length/\Rel K F p (zbj m a) (d.map Za) H/\Φ a=Za (w,r) /\
 ∀c b v,Same F c->Rel K c p (zbj m w) (d.map Za) b->Res K c b p (zbj m w) (d.map Za) r v->Q v b
theorem zga {k:Nat}{w:W}{b:Bool}:(zbj m ws)[k]?=Za (Za (w,b))↔ws[k]?=Za w/\m[k]?=Za b:=by
 unfold zbj;rw[List.getElem?_zipWith];cases ws[k]?<;>cases m[k]?<;>simp
theorem zfi (h:ws.length=m.length):(zbj m ws).length=m.length:=by
 unfold zbj;rw[Hk,h,Nat.min_self]
theorem zyk {K:Zg}(h:spF K m Φ vs H Q E):vs.length=m.length:=by
 obtain⟨F,p,b,w,r,a,_,R,_⟩:=h;have:=R.len;rw[zfi a,Ac] at this;exact this.symm
noncomputable def isR:W ⊕ Nat->Bool
 |.inr _=>Zd
 |.inl _=>Zc
noncomputable def zbw (xs:List (W ⊕ Nat)):Cap:=xs.map λx=>match x with
 |.inr i=>Za i
 |.inl _=>Zb
noncomputable def zbc (en:En) (xs:List (W ⊕ Nat)):Bool:=xs.all λx=>match x with
 | .inr i=>match en[i]? with
  |some (#v[_,5])=>Zd
  |_=>Zc
 |.inl _=>Zd
noncomputable def zac (m:List Bool) (Φ:Fn) (as:GAs):GE:=λe=>(as e).bind λp=>if decide (p.2.map isR=m)&&zbc p.1 p.2&&zc1 (zbw p.2) then (zbi p.1 p.2).bind λw=>(Φ w).bind λq=>if q.1.length=m.length then Za (za4 (zbw p.2) p.1 (zbj m q.1),q.2) else Zb else Zb
theorem ArgRs.get {K:Zg}:∀{xs:List (W ⊕ Nat)}{vs:List V}{k:Nat}{x:W ⊕ Nat},ArgRs K F σ xs vs->xs[k]?=Za x->∃v,vs[k]?=Za v/\ArgR K F σ x v
 |_,_,_,_,.nil,e=>by simp at e
 |_,_,0,_,.cons h _,e=>by simp at e;subst e;exact⟨_,rfl,h⟩
 | _,_,k+1,x,.cons _ r,e=>by
  obtain⟨v,b,a⟩:=ArgRs.get r (by simpa using e);exact⟨v,by simpa using b,a⟩
theorem ArgRs.length {K:Zg}:∀{xs:List (W ⊕ Nat)}{vs:List V},ArgRs K F σ xs vs->xs.length=vs.length
 |_,_,.nil=>rfl
 |_,_,.cons _ r=>congrArg (· + 1) (ArgRs.length r)
theorem zmf:∀{xs:List (W ⊕ Nat)}{ws:List W},zbi en xs=Za ws->ws.length=xs.length
 |[],_,e=>by obtain rfl:=sI e;rfl
 | x::xs,_,e=>by
  obtain⟨w,_,e⟩:=bS e;obtain⟨ws,h,e⟩:=bS e;obtain rfl:=sI e;exact congrArg (· + 1) (zmf h)
theorem zlv:∀{xs:List (W ⊕ Nat)}{ws:List W}{k:Nat}{w:W},zbi en xs=Za ws->ws[k]?=Za w->∃x,xs[k]?=Za x/\resA en x=Za w
 |[],_,_,_,e,h=>by obtain rfl:=sI e;simp at h
 | x::xs,_,k,w,e,h=>by
  obtain⟨u,c,e⟩:=bS e;obtain⟨f,a,e⟩:=bS e;obtain rfl:=sI e;cases k with
  |zero=>simp at h;subst h;exact⟨x,rfl,c⟩
  |succ k=>obtain⟨y,b,d⟩:=zlv a (by simpa using h);exact⟨y,by simpa using b,d⟩
theorem zfo {xs:List (W ⊕ Nat)}{k i:Nat}:(zbw xs)[k]?=Za (Za i)↔xs[k]?=Za (.inr i):=by
 unfold zbw;rw[Ak];cases e:xs[k]? with
 |none=>simp
 |some x=>cases x<;>simp
section
variable {K:Zg}
theorem Rel.back (R:Rel K F pr en σ H) (s:Same F F') (D:Rel K F' (zbu pr cap en σ H) ce σc H') (slot:∀(i j:Nat) (v:V),zbd cap i=Za j->σc[j]?=Za (Za v)->σ[i]?=Za (Za v)) :
  Rel K F' pr (za4 cap en ce) σ H'/\∀r v,Res K F' H' (zbu pr cap en σ H) ce σc r v->Res K F' H' pr (za4 cap en ce) σ r v:=by
 have un:∀(i:Nat) (w:W),zbd cap i=Zb->en[i]?=Za (Za (w,Zd))->∃(a:Zh) (m:HO) (n:W),w=n/\σ[i]?=Za (Za (V.ref a))/\H a=Za m/\H' a=Za m/\F' a=Zb/\OwnR K F n m/\∀(j:Nat) (y:W),ce[j]?=Za (Za (y,Zd))->σc[j]?≠Za (Za (V.ref a)):=λi w c e=>by
  obtain⟨a,m,n,t,h,g,I,B⟩:=R.own i w e;obtain⟨O,Q,S⟩:=D.prt a m (.inr ⟨i,w,e,c,h,g⟩);exact⟨a,m,n,t,h,g,O,Q,B,S⟩
 have d:∀(i j:Nat) (w:W),zbd cap i=Za j->ce[j]?=Za (Za (w,Zd))->∃(a:Zh) (m:HO) (n:W),w=n/\σ[i]?=Za (Za (V.ref a))/\σc[j]?=Za (Za (V.ref a))/\H' a=Za m/\F' a=Zb/\OwnR K F' n m:=λi j w c e=>by
  obtain⟨a,m,n,t,h,g,I,B⟩:=D.own j w e;exact⟨a,m,n,t,slot i j _ c h,h,g,I,B⟩
 refine⟨⟨by unfold za4;rw[List.length_mapIdx];exact R.len,D.sub,λi w e=>?_,λi w e=>?_,λi k a w y A u N J=>?_,λb o q=>?_,D.tb.go (λb xs z=>.inl z) (λb X e f=>⟨e,f⟩) (.refl F') λb X e hh o z=>hh o (.inl z)⟩,λr v z=>?_⟩
 ·rcases backEn_get e with ⟨j,c,e⟩ | ⟨c,e⟩
  ·obtain ⟨v,t,h⟩:=D.val j w e
   exact⟨v,slot i j v c t,h⟩
  ·obtain ⟨v,t,h⟩:=R.val i w e
   exact⟨v,t,h.mono s⟩
 ·rcases backEn_get e with ⟨j,c,e⟩ | ⟨c,e⟩
  ·obtain ⟨a,m,n,t,h,_,g,I,B⟩:=d i j w c e
   exact⟨a,m,n,t,h,g,I,B⟩
  ·obtain ⟨a,m,n,t,h,_,g,I,B,_⟩:=un i w c e
   exact⟨a,m,n,t,h,g,I,B.mono s⟩
 ·rcases backEn_get A with ⟨j,c,A⟩ | ⟨c,A⟩
  ·obtain ⟨L, _,_,_,h,g,_⟩:=d i j w c A
   rw[N] at h;cases h;rcases backEn_get u with⟨l,E,u⟩|⟨E,u⟩
   ·obtain ⟨L, _,_,_,C,M,_⟩:=d k l y E u
    rw[J] at C;cases C;have:=D.inj j l a _ _ A u g M;subst this;have x:=zbz c;rw[zbz E] at x;cases x;rfl
   ·obtain ⟨L, _,_,_,C,_,_,_,_,M⟩:=un k y E u
    rw[J] at C;cases C;exact absurd g (M j w A)
  ·obtain ⟨L, _,_,_,h,_,_,_,_,g⟩:=un i w c A
   rw[N] at h;cases h;rcases backEn_get u with⟨l,E,u⟩|⟨E,u⟩
   ·obtain ⟨L, _,_,_,C,M,_⟩:=d k l y E u
    rw[J] at C;cases C;exact absurd M (g l y u)
   ·exact R.inj i k a _ _ A u N J
 ·obtain ⟨O,Q,S⟩:=D.prt b o (.inl q)
  refine⟨O,Q,λi w e=>?_⟩;rcases backEn_get e with⟨j,c,e⟩|⟨c,e⟩
  ·obtain ⟨a,_,_,_,h,g,_⟩:=d i j w c e
   rw[h];intro z;cases z;exact S j w e g
  ·exact (R.prt b o q).2.2 i w e
 ·obtain ⟨w,fl⟩:=r
  cases fl with
  |false=>exact z
  | true =>
   obtain⟨a,m,n,N,J,q3,Y,q5,q6,U⟩:=z;refine⟨a,m,n,N,J,q3,Y,q5,λi y e=>?_,λb o p=>U b o (.inl p)⟩;rcases backEn_get e with⟨j,c,e⟩|⟨c,e⟩
   ·obtain ⟨L, _,_,_,h,g,_⟩:=d i j y c e
    rw[h];intro z;cases z;exact q6 j y e g
   ·obtain ⟨L, P, Z, t,h,g,I,B⟩:=R.own i y e
    rw[h];intro z;cases z;exact U a P (.inr ⟨i,y,e,c,h,g⟩) rfl
theorem zys {m:List Bool}{Φ:Fn}{xs:List (W ⊕ Nat)}{e1 en':En}{F H:Hp}{vs:List V}{r:W×Bool}{Q:VK}{E:XK} (R:Rel K F pr e1 σ H) (P:ArgRs K F σ xs vs)
  (h:(if decide (xs.map isR=m)&&zbc e1 xs&&zc1 (zbw xs) then (zbi e1 xs).bind λws=>(Φ ws).bind λq=>if q.1.length=m.length then Za (za4 (zbw xs) e1 (zbj m q.1),q.2) else Zb else Zb)=Za (en',r))
  (q:∀U H' v,Same F U->Rel K U pr en' σ H'->Res K U H' pr en' σ r v->Q v H'):spF K m Φ vs H Q E:=by
 split at h
 ·rename_i z
  rw[Ae,Ae] at z;obtain⟨⟨z1,z2⟩,Y⟩:=z;have hm:=Aq z1;nofun;obtain⟨ws,X,h⟩:=bS h;obtain⟨⟨M,r'⟩,h3,h⟩:=bS h;refine qG ?_;split at h
  ·rename_i hl
   cases h;have lx:=zmf X;have lm:xs.length=m.length:=by rw[<-hm,Ac]
   have lv:=P.length;have B : ∀(k:Nat) (w:W) (b:Bool),(zbj m ws)[k]?=Za (Za (w,b))->∃x v,xs[k]?=Za x/\isR x=b/\resA e1 x=Za w/\vs[k]?=Za v/\ArgR K F σ x v:=λk w b e=>by
    nofun;obtain⟨s,d⟩:=zga.mp e;obtain⟨x,g,n⟩:=zlv X s;obtain⟨v,C,g6⟩:=P.get g;refine qG ?_;rw[<-hm,Ak,g] at d;exact⟨x,v,g,sI d,n,C,g6⟩
   have A:∀(k:Nat) (w:W),(zbj m ws)[k]?=Za (Za (w,Zd))->∃i v,xs[k]?=Za (.inr i)/\e1[i]?=Za (Za (w,Zd))/\vs[k]?=Za v/\σ[i]?=Za (Za v):=λk w e=>by
    nofun;obtain⟨x,v,s,d,g,n,C⟩:=B k w Zd e;ac_rfl;cases x with
    |inl _=>cases d
    | inr i =>
     refine⟨i,v,s,?_,n,C⟩;have o:=Bi.mp z2 _ (Bn s);simp only at o;split at o
     ·rename_i w0 e0
      unfold resA at g;simp only [e0] at g;obtain rfl:=sI g;exact e0
     ·cases o
   have RC:Rel K F (zbu pr (zbw xs) e1 σ H) (zbj m ws) (vs.map Za) H:=by
    refine⟨by rw[zfi #v[],Ac];symm,R.sub,λk w e=>?_,λk w e=>?_,λk l a w N s d g n=>?_,λb o p=>?_,R.tb.go (λb xs z=>zjk R z) (λb ps e f=>⟨e,f⟩) (.refl F) λb ps e hh o z=>zjj R e hh o z⟩
    ·refine aG λL qG => ?_
     obtain⟨x,v,s,d,g,n,C⟩:=B k w Zc e;refine qG ?_;cases x with
     |inr _=>cases d
     |inl u=>obtain rfl:=sI g;exact⟨v,by rw[Ak,n];rfl,C⟩
    ·refine aG λL qG => ?_
     obtain⟨i,v,s,d,g,n⟩:=A k w e;obtain⟨a,us,Z,D,I,J,S,p5⟩:=R.own i w d;ac_rfl;rw[n] at I;cases I;exact⟨a,us,Z,D,by rw[Ak,g];rfl,J,S,p5⟩
    ·refine aG λL qG => ?_
     obtain⟨i,v,k1,k2,k3,k4⟩:=A k w s;obtain⟨i',v',l1,l2,l3,l4⟩:=A l N d;ac_rfl;rw[Ak,k3] at g;cases g;rw[Ak,l3] at n;cases n;have:=R.inj i i' a _ _ k2 l2 k4 l4;subst this;have y:=zha Y (zfo.mpr k1);rw[zha Y (zfo.mpr l1)] at y;exact (sI y).symm
    ·rcases p with p | ⟨j,w,D,I,J,S⟩
     ·obtain ⟨b1,b2,b3⟩:=R.prt b o p
      refine⟨b1,b2,λk w e=>?_⟩;nofun;obtain⟨i,v,s,d,g,n⟩:=A k w e;refine qG ?_;rw[Ak,g];intro y;cases y;exact b3 i w d n
     ·refine aG λL qG => ?_
      obtain⟨a,us,Z,p1',t,p3',O,p5'⟩:=R.own j w D;ac_rfl;rw[J] at t;cases t;refine⟨S,O,λk N e=>?_⟩;nofun;obtain⟨i,v,s,d,g,n⟩:=A k N e;ac_rfl;rw[Ak,g];intro y;cases y;have:=R.inj i j _ _ _ d D n J;subst this;exact zdd I k (zfo.mpr s)
   refine ⟨F,zbu pr (zbw xs) e1 σ H,ws,M,_,by symm,hl,RC,h3,λF2 H2 v s2 R2 y2=>?_⟩;obtain ⟨Ro,rz⟩:=R.back s2 R2 λi j v c e=>by
    have c':=zfo.mp (zbz c);obtain⟨v',s,d⟩:=P.get c';rw[Ak,s] at e;cases e;exact d
   exact q F2 H2 v s2 Ro (rz _ _ y2)
  ·cases h
 ·cases h
theorem zyn (h:tE K (zac m Φ as) σ H Q):z9w (spF K m Φ) [] E0 (tAs K as) σ H Q:=by
 nofun;obtain⟨F,p,a,i,r,R,h,q⟩:=h;obtain⟨⟨e,x⟩,f,h⟩:=bS h;refine qG ?_;refine⟨F,p,a,e,x,R,f,λn l g b c j=>?_⟩;show spF K m Φ (g++[]) l Q E0;rw[Bu];exact zys c j h λk d v s=>q k d v (b.trans s)
end
noncomputable def zc0:List Bool->List W->En->Option (List W)
 |[],[],_=>Za []
 |true::m,_::a,#v[w,5]::e=>(zc0 m a e).bind λr=>Za (w::r)
 |false::m,w::a,_::e=>(zc0 m a e).bind λr=>Za (w::r)
 |_,_,_=>Zb
noncomputable def mpOf (m:List Bool):List Nat:=(List.range m.length).filter λk=>m[k]? == Za Zd
noncomputable def zad (m:List Bool) (n:Nat) (g:GS):Fn:=λa=>if a.length=m.length then match g (zbj m a++List.replicate (n-m.length) Zb) with
 |some (e,.ret r)=>(zc0 m a e).bind λw=>Za (w,r)
 |some (e,.nx)=>(zc0 m a e).bind λw=>Za (w,(.non,Zc))
 |_=>Zb else Zb
theorem zk1:∀{m:List Bool}{ws:List W}{en:En}{ws':List W},zc0 m ws en=Za ws'->ws'.length=m.length/\∀(k:Nat) (w:W),ws'[k]?=Za w->(m[k]?=Za Zd->en[k]?=Za (Za (w,Zd)))/\(m[k]?=Za Zc->ws[k]?=Za w)
 |[],[],_,_,e=>by obtain rfl:=sI e;exact⟨rfl,λk w h=>by simp at h⟩
 | true::m,_::ws,Za (u,Zd)::en,_,e=>by
  obtain⟨r,h,e⟩:=bS (show (zc0 m ws en).bind _=_ from e);obtain rfl:=sI e;obtain⟨c,b⟩:=zk1 h;refine⟨congrArg (· + 1) c,λk w a=>?_⟩;cases k with
  |zero=>simp at a;subst a;exact⟨λ_=>rfl,λz=>by simp at z⟩
  | succ k =>
   have:=b k w (by simpa using a);exact⟨λz=>by simpa using this.1 (by simpa using z),λz=>by simpa using this.2 (by simpa using z)⟩
 | false::m,u::ws,_::en,_,e=>by
  obtain⟨r,h,e⟩:=bS (show (zc0 m ws en).bind _=_ from e);obtain rfl:=sI e;obtain⟨c,b⟩:=zk1 h;refine⟨congrArg (· + 1) c,λk w a=>?_⟩;cases k with
  |zero=>simp at a;subst a;exact⟨λz=>by simp at z,λ_=>rfl⟩
  | succ k =>
   have:=b k w (by simpa using a);exact⟨λz=>by simpa using this.1 (by simpa using z),λz=>by simpa using this.2 (by simpa using z)⟩
 |[],_::_,_,_,e=>by exact noSome e
 |true::_,[],_,_,e=>by exact noSome e
 |false::_,[],_,_,e=>by exact noSome e
 |true::_,_::_,[],_,e=>by exact noSome e
 |false::_,_::_,[],_,e=>by exact noSome e
 |true::_,_::_,Zb::_,_,e=>by exact noSome e
 |true::_,_::_,#v[_,6]::_,_,e=>by exact noSome e
theorem yar {K:Zg}{vs:List V}{H:Hp}{Q:VK}{E:XK} (h:spF K m (zad m N.length g) vs H Q E):tS K (mpOf m) g { nx:=λ_ H'=>Q .non H',rt:=Q } (start N vs) H:=by
 have hv:=zyk h;refine aG λ_ qG=>?_;obtain ⟨F,J,I,O,r,h1,h2,R,n,q⟩:=h;refine qG ?_;unfold zad at n;rw [if_pos h1] at n;have la:=zfi h1;have f:∀(i:Nat) (x:W×Bool),(zbj m I++List.replicate (N.length-m.length) Zb)[i]?=Za (Za x)->(zbj m I)[i]?=Za (Za x):=λi x e=>by
  by_cases hi:i<(zbj m I).length
  ·rw[Cr hi] at e;exact e
  ·rw [Db (by symm),List.getElem?_replicate] at e
   split at e<;>cases e
 have st:∀(i:Nat) (v:V),(vs.map Za)[i]?=Za (Za v)->(start N vs)[i]?=Za (Za v):=λi v e=>by
  unfold start;rw[Cr (by have:=(Ap.mp e).1;exact this)];exact e
 have B : ∀(i:Nat) (v:V),i<m.length->(start N vs)[i]?=Za (Za v)->(vs.map Za)[i]?=Za (Za v):=λi v hi e=>by
  unfold start at e;rw[Cr (by rw[Ac];symm)] at e;exact e
 have R0:Rel K F J (zbj m I++List.replicate (N.length-m.length) Zb) (start N vs) H:=by
  refine⟨?_,R.sub,λi w e=>?_,λi w e=>?_,λi j a w w' Y Z P L=>?_,λb o p=>?_,R.tb⟩
  ·unfold start
   rw[Bb,Bb,Ev,Ev,Ac,la,hv]
  ·obtain ⟨v,s,d⟩:=R.val i w (f i _ e)
   exact⟨v,st i v s,d⟩
  ·refine aG λGg qG => ?_
   obtain⟨a,X,u,s,d,M⟩:=R.own i w (f i _ e);refine qG ?_;exact⟨a,X,u,s,st i _ d,M⟩
  ·have l1:i<m.length:=by have:=(Ap.mp (f i _ Y)).1;symm
   have l2:j<m.length:=by have:=(Ap.mp (f j _ Z)).1;symm
   exact R.inj i j a w w' (f i _ Y) (f j _ Z) (B i _ l1 P) (B j _ l2 L)
  ·obtain ⟨b1,b2,b3⟩:=R.prt b o p
   refine⟨b1,b2,λi w e z=>?_⟩;have l1:i<m.length:=by have:=(Ap.mp (f i _ e)).1;symm
   exact b3 i w (f i _ e) (B i _ l1 z)
 have back:∀(A:En) (u:List W) (t:Hp) (c:St) (H':Hp),zc0 m I A=Za u->Same F t->Rel K t J A c H'->Keep (mpOf m) (start N vs) c ->
   Rel K t J (zbj m u) (vs.map Za) H'/\∀r v,Res K t H' J A c r v->Res K t H' J (zbj m u) (vs.map Za) r v:=λA u t c H' S D C U=>by
  obtain ⟨o1,o2⟩:=zk1 S;have own:∀(k:Nat) (w:W),(zbj m u)[k]?=Za (Za (w,Zd))->A[k]?=Za (Za (w,Zd))/\∀v,c[k]?=Za (Za v)↔(vs.map Za)[k]?=Za (Za v):=λk w e=>by
   obtain⟨s,d⟩:=zga.mp e;have lk:=(Ap.mp d).1;have hk:k∈mpOf m:=Bl.mpr ⟨Az.mpr lk,by rw[d];simp⟩;refine⟨(o2 k w s).1 d,λv=>?_⟩;rw[U k hk];exact⟨B k v lk,st k v⟩
  refine⟨⟨by rw[zfi o1,Ac,hv],C.sub,λk w e=>?_,λk w e=>?_,λk l a w w' Y Z P L=>?_,λb o p=>?_,C.tb⟩,λr v z=>?_⟩
  ·refine aG λGg qG => ?_
   obtain⟨s,d⟩:=zga.mp e;obtain⟨v,M,g4⟩:=R.val k w (zga.mpr ⟨(o2 k w s).2 d,d⟩);ac_rfl;exact⟨v,M,g4.mono D⟩
  ·refine aG λGg qG => ?_
   obtain⟨s,d⟩:=own k w e;obtain⟨a,X,u,p1,p2,p3⟩:=C.own k w s;ac_rfl;exact⟨a,X,u,p1,(d _).mp p2,p3⟩
  ·obtain ⟨s,d⟩:=own k w Y
   obtain⟨M,g4⟩:=own l w' Z;exact C.inj k l a _ _ s M ((d _).mpr P) ((g4 _).mpr L)
  ·obtain ⟨b1,b2,b3⟩:=C.prt b o p
   refine⟨b1,b2,λk w e z=>?_⟩;obtain⟨s,d⟩:=own k w e;exact b3 k w s ((d _).mpr z)
  ·obtain ⟨w0,fl⟩:=r
   cases fl with
   |false=>exact z
   | true =>
    nofun;obtain⟨a,X,wz',P,L,q3,q4,q5,q6,q7⟩:=z;refine qG ?_;refine⟨a,X,wz',P,L,q3,q4,q5,λk w e y=>?_,q7⟩;obtain⟨s,d⟩:=own k w e;exact q6 k w s ((d _).mpr y)
 cases eg:g (zbj m I++List.replicate (N.length-m.length) Zb) with
 |none=>simp only [eg] at n;exact noSome n
 | some p =>
  obtain⟨A,fl⟩:=p;refine⟨F,J,_,A,fl,R0,eg,?_⟩;cases fl with
  |brk=>simp only [eg] at n;exact noSome n
  |cnt=>simp only [eg] at n;exact noSome n
  | nx =>
   simp only [eg] at n;obtain⟨u,S,n⟩:=bS n;cases n;intro t c H' D C U;obtain⟨Rb,_⟩:=back A O t c H' S D C U;exact q t H' .non D Rb .non
  | ret r' =>
   simp only [eg] at n;obtain⟨u,S,n⟩:=bS n;cases n;intro t c H' v D C U z;obtain⟨Rb,rb⟩:=back A O t c H' S D C U;exact q t H' v D Rb (rb _ _ z)
end L2
set_option maxHeartbeats 4000000
namespace L2
open PySem PyProof.Rows
namespace Tim
noncomputable abbrev sqS {α β:Type} (M:Model) (A:Around) (E:Ze->Zf->Prop) (s:Zf) (f:α->StateT SortSt Sem β) (Q:β->SortSt->Prop):α->SortSt->Prop:=λa b=>wpS M A E s (f a) Q b
theorem bSq {α β:Type}{M:Model}{A:Around}{E:Ze->Zf->Prop}{s:Zf}{m:StateT SortSt Sem α}{f:α->StateT SortSt Sem β}{Q:β->SortSt->Prop}{st:SortSt}(h:wpS M A E s m (sqS M A E s f Q) st):wpS M A E s (m>>=f) Q st:=Bq h
noncomputable def gal:Bool->Keyed->Array Keyed->Nat->Nat->Nat->StateT SortSt Sem (Option Nat):=sortPriv% PySem.Builtin.gallop
noncomputable def mLo:Array Keyed->Array Keyed->StateT SortSt Sem (Array Keyed):=sortPriv% PySem.Builtin.mergeLo
noncomputable def mHi:Array Keyed->Array Keyed->StateT SortSt Sem (Array Keyed):=sortPriv% PySem.Builtin.mergeHi
theorem aG {P:Prop}(h:∀G:Prop,(P->G)->G):P:=h P id
structure Ord (lt:Keyed->Keyed->Bool) (bf le:Keyed->Keyed->Prop):Prop where
 tr:∀{x y z},le x y->le y z->le x z
 tot:∀x y,le x y\/le y x
 f1:∀{x y},bf x y->(lt y x=Zc↔le x y)
 f2:∀{x y},lt x y=Zd->le x y
 irr:∀x,lt x x=Zc
 ltr:∀{x y z},lt x y=Zd->lt y z=Zd->lt x z=Zd
 nt:∀{x z} (y),lt x z=Zd->lt x y=Zd\/lt y z=Zd
section
variable (O:Ord lt bf le)
include O
theorem Ord.rf (x:Keyed):le x x:=(O.tot x x).elim id id
theorem Ord.f3 (h:bf x y)(q:lt y x=Zd):¬ le x y:=λz=>by rw[(O.f1 h).mpr z] at q;cases q
end
noncomputable abbrev d0:Keyed:=(Ze.none,Ze.none)
noncomputable def G (xs:Array Keyed) (i:Nat):Keyed:=(xs[i]?).getD d0
theorem z5v (h:i<xs.size):xs[i]?=Za (G xs i):=by unfold G;rw[getElem?_pos xs i h];rfl
theorem z8k (p:xs.Perm a₀)(h:i<xs.size):G xs i∈a₀.toList:=by
 refine (Gb.mp p).mem_iff.mp ?_;unfold G;rw[getElem?_pos xs i h];simp
theorem zim (h:xs[i]?=ys[j]?):G xs i=G ys j:=by unfold G;rw[h]
noncomputable def Asks (prog:Program) (w:World) (A:Around) (E:Ze->Zf->Prop) (s:Zf) (κ:SortKind) (a₀:Array Keyed) (lt:Keyed->Keyed->Bool):Prop :=
 ∀(x y:Keyed) (a:SortSt) (Q:Option Bool->SortSt->Prop),x∈a₀.toList->y∈a₀.toList->kindOf a=κ->Q (Za (lt x y)) a->wpS (model prog w) A E s (lt' x y) Q a
section
variable {st:SortSt}
theorem zba (a:i<arr.size)(h:Q (G arr i) st):wpS (model prog w) A E s (elem' arr i) Q st:=by
 rw[elem'_eq,z5v a];exact Ba h
theorem zi9 (C:Asks prog w A E s κ a₀ lt) (a:kindOf st=κ) (p:(arrOf st).Perm a₀) (b:i<a₀.size) (c:j<a₀.size) (h:Q (Za (lt (G (arrOf st) i) (G (arrOf st) j))) st) :
  wpS (model prog w) A E s (ltAt' i j) Q st:=by
 have e:=p.size_eq;rw[ltAt'_eq];refine Bq (Ij ?_);exact Bq (zba #v[] (Bq (zba #v[] (C _ _ _ _ (z8k p #v[]) (z8k p #v[]) a h))))
theorem zt4 {base n hint:Nat}{B:Nat->Bool}{Q:Option Nat->SortSt->Prop} (C:Asks prog w A E s κ a₀ lt) (P:kindOf st=κ) (J:key∈a₀.toList)
  (U:base+n<=arr.size) (O:∀i,i<n->G arr (base+i)∈a₀.toList) (hB:∀i,i<n->B i=if left then lt (G arr (base+i)) key else !lt key (G arr (base+i)))
  (mono:∀i j,i<=j->j<n->B j=Zd->B i=Zd) (S:hint<n)
  (h:∀k,k<=n->(∀i,i<k->B i=Zd)->(∀i,k<=i->i<n->B i=Zc)->Q (Za k) st):wpS (model prog w) A E s (gal left key arr base n hint) Q st:=by
 have t : ∀i j,i<=j->j<n->B i=Zc->B j=Zc:=λi j H D N=>by
  cases q:B j with
  |false=>rfl
  |true=>rw[mono i j H D q] at N;cases N
 let F:Nat->StateT SortSt Sem (Option Bool):=λi=>do
  let x <- elem' arr (base+i)
  if left=Zd then lt' x key else do
   let r <- lt' key x
   pure (r.map (!·))
 have K:∀(i:Nat) (R:Option Bool->SortSt->Prop),i<n->R (Za (B i)) st->wpS (model prog w) A E s (F i) R st:=λi R a hR=>by
  refine Bq (zba #v[] ?_);have e:=hB i a;cases left with
  | true =>
   rw[if_pos rfl] at e;exact C _ _ _ _ (O i a) J P (by rw[<-e];exact hR)
  | false =>
   rw[if_neg #v[0,9]] at e;exact Bq (C _ _ _ _ J (O i a) P (Ba (by show R (Za (!lt key (G arr (base+i)))) st;rw[<-e];exact hR)))
 refine Bq (K _ _ S ?_);cases q:B hint with
 | true =>
  refine Bq (Eu (Cu (I:=λx c f=>f=st/\∃l o,c=(Zb,l,o)/\l<o/\x<o/\hint+l<n/\B (hint+l)=Zd)
   (Q:=λc f=>f=st/\∃l o,c=(Zb,l,o)/\l<o/\hint+l<n/\B (hint+l)=Zd/\(n-hint<=o\/hint+o<n/\B (hint+o)=Zc)) ?step ?fin ⟨rfl,0,1,rfl,by symm,by symm,by symm,q⟩) ?post)
  case fin =>
   rintro c f ⟨rfl,l,o,rfl,z,u,y,m⟩;exact⟨rfl,l,o,rfl,z,y,m,.inl #v[]⟩
  case step =>
   rintro x c f _ L ⟨rfl,l,o,rfl,z,u,y,m⟩;dsimp only;by_cases g:o ≥ n-hint
   ·rw [if_pos g]
    exact Ba ⟨rfl,l,o,rfl,z,y,m,.inl g⟩
   ·rw [if_neg g]
    refine Bq (K _ _ #v[] ?_);cases q2:B (hint+o) with
    | true =>
     exact Ba ⟨rfl,o,2*o+1,rfl,by symm,by symm,by symm,q2⟩
    | false =>
     dsimp only;exact Ba ⟨rfl,l,o,rfl,z,y,m,.inr ⟨by symm,q2⟩⟩
  case post =>
   rintro c f ⟨rfl,l,o,rfl,z,y,m,p⟩;dsimp only;refine Bq (Eu (Cu (I:=λx c d=>d=f/\∃b a,c=(Zb,b,a)/\b<=a/\a<=n/\a-b<=n-x/\(∀i,i<b->B i=Zd)/\∀i,a<=i->i<n->B i=Zc)
    (Q:=λc d=>d=f/\∃b a,c=(Zb,b,a)/\b=a/\a<=n/\(∀i,i<b->B i=Zd)/\∀i,a<=i->i<n->B i=Zc) ?s3 ?f3 ⟨rfl,hint+l+1,hint+min o (n-hint),rfl,by symm,by symm,by symm,λi a=>mono i _ #v[] y m,λi H D=>p.elim (λp=>by symm) λp=>t _ i #v[] D p.2⟩) ?p3)
   case f3 =>
    rintro c d ⟨rfl,b,a,rfl,z,u,y,m,p⟩;exact⟨rfl,b,a,rfl,by symm,u,m,p⟩
   case s3 =>
    rintro x c d _ L ⟨rfl,b,a,rfl,z,u,y,m,p⟩;dsimp only;by_cases g:b ≥ a
    ·rw [if_pos g]
     exact Ba ⟨rfl,b,a,rfl,by symm,u,m,p⟩
    ·rw [if_neg g]
     refine Bq (K _ _ #v[] ?_);cases q:B (b+(a-b)/2) with
     | true =>
      refine Ba ⟨rfl,b+(a-b)/2+1,a,rfl,by symm,u,by symm,λi M=>?_,p⟩;exact mono i _ #v[] #v[] q
     | false =>
      dsimp only;refine Ba ⟨rfl,b,b+(a-b)/2,rfl,by symm,by symm,by symm,m,λi H D=>?_⟩;exact t _ i H D q
   case p3 =>
    rintro c d ⟨rfl,b,a,rfl,rfl,u,m,p⟩;exact Ba (h b u m p)
 | false =>
  refine Bq (Eu (Cu (I:=λx c f=>f=st/\∃l o,c=(Zb,l,o)/\l<o/\x<o/\l<=hint/\B (hint-l)=Zc)
   (Q:=λc f=>f=st/\∃l o,c=(Zb,l,o)/\l<o/\l<=hint/\B (hint-l)=Zc/\(hint+1<=o\/o<=hint/\B (hint-o)=Zd)) ?step ?fin ⟨rfl,0,1,rfl,by symm,by symm,by symm,q⟩) ?post)
  case fin =>
   rintro c f ⟨rfl,l,o,rfl,z,u,y,m⟩;exact⟨rfl,l,o,rfl,z,y,m,.inl #v[]⟩
  case step =>
   rintro x c f _ L ⟨rfl,l,o,rfl,z,u,y,m⟩;dsimp only;by_cases g:o ≥ hint+1
   ·rw [if_pos g]
    exact Ba ⟨rfl,l,o,rfl,z,y,m,.inl g⟩
   ·rw [if_neg g]
    refine Bq (K _ _ #v[] ?_);cases q2:B (hint-o) with
    | true =>
     dsimp only;exact Ba ⟨rfl,l,o,rfl,z,y,m,.inr ⟨by symm,q2⟩⟩
    | false =>
     dsimp only;rw[if_neg #v[0,9]];exact Ba ⟨rfl,o,2*o+1,rfl,by symm,by symm,by symm,q2⟩
  case post =>
   rintro c f ⟨rfl,l,o,rfl,z,y,m,p⟩;dsimp only;refine Bq (Eu (Cu (I:=λx c d=>d=f/\∃b a,c=(Zb,b,a)/\b<=a/\a<=n/\a-b<=n-x/\(∀i,i<b->B i=Zd)/\∀i,a<=i->i<n->B i=Zc)
    (Q:=λc d=>d=f/\∃b a,c=(Zb,b,a)/\b=a/\a<=n/\(∀i,i<b->B i=Zd)/\∀i,a<=i->i<n->B i=Zc) ?s4 ?f4 ⟨rfl,hint+1-min o (hint+1),hint-l,rfl,by symm,by symm,by symm,λi a=>p.elim (λp=>by symm) λp=>mono i _ #v[] #v[] p.2,λi H D=>t _ i H D m⟩) ?p4)
   case f4 =>
    rintro c d ⟨rfl,b,a,rfl,z,u,y,m,p⟩;exact⟨rfl,b,a,rfl,by symm,u,m,p⟩
   case s4 =>
    rintro x c d _ L ⟨rfl,b,a,rfl,z,u,y,m,p⟩;dsimp only;by_cases g:b ≥ a
    ·rw [if_pos g]
     exact Ba ⟨rfl,b,a,rfl,by symm,u,m,p⟩
    ·rw [if_neg g]
     refine Bq (K _ _ #v[] ?_);cases q:B (b+(a-b)/2) with
     | true =>
      dsimp only;rw[if_pos rfl];refine Ba ⟨rfl,b+(a-b)/2+1,a,rfl,by symm,u,by symm,λi M=>?_,p⟩;exact mono i _ #v[] #v[] q
     | false =>
      dsimp only;rw[if_neg #v[0,9]];refine Ba ⟨rfl,b,b+(a-b)/2,rfl,by symm,by symm,by symm,m,λi H D=>?_⟩;exact t _ i H D q
   case p4 =>
    rintro c d ⟨rfl,b,a,rfl,rfl,u,m,p⟩;exact Ba (h b u m p)
end
end Tim
namespace Tim
noncomputable def Srt (le:Keyed->Keyed->Prop) (xs:Array Keyed) (l h:Nat):Prop:=∀i j,l<=i->i<j->j<h->le (G xs i) (G xs j)
noncomputable def Cut (b:Keyed->Keyed->Prop) (xs:Array Keyed) (c:Nat):Prop:=∀i j,i<c->c<=j->j<xs.size->b (G xs i) (G xs j)
structure Re (xs ys:Array Keyed) (lo hi:Nat):Prop where
 perm:ys.Perm xs
 out:∀i,i<lo\/hi<=i->G ys i=G xs i
 inn:∀i,lo<=i->i<hi->∃j,lo<=j/\j<hi/\G ys i=G xs j
theorem Re.refl (xs:Array Keyed)(l a:Nat):Re xs xs l a:=⟨.refl _,λ_ _=>rfl,λi b h=>⟨i,b,h,rfl⟩⟩
theorem Re.trans {l c:Nat}(a:Re xs ys l c)(b:Re ys zs l c):Re xs zs l c :=
 ⟨b.perm.trans a.perm,λi h=>(b.out i h).trans (a.out i h),λi o d=>by
  obtain⟨j,p,g,e⟩:=b.inn i o d;obtain⟨k,f,n,m⟩:=a.inn j p g;exact⟨k,f,n,e.trans m⟩⟩
theorem Re.mono {d f l b:Nat}(a:Re xs ys d f)(p:l<=d)(m:f<=b):Re xs ys l b :=
 ⟨a.perm,λi h=>a.out i #v[],λi k g=>by
  by_cases c:d<=i/\i<f
  ·obtain⟨j,n,o,e⟩:=a.inn i c.1 c.2;exact⟨j,by symm,by symm,e⟩
  ·exact⟨i,k,g,a.out i #v[]⟩⟩
theorem Re.size {l h:Nat}(a:Re xs ys l h):ys.size=xs.size:=a.perm.size_eq
theorem Cut.re {l f c:Nat}(h:Cut bf xs c)(a:Re xs ys l f)(y:f<=xs.size)(z:c<=l\/f<=c):Cut bf ys c:=λi j r g x=>by
 have e:=a.size;have t:∃d,d<c/\G ys i=G xs d:=by
  by_cases k:l<=i/\i<f
  ·obtain⟨d, s,n,e⟩:=a.inn i k.1 k.2;exact⟨d,by symm,e⟩
  ·exact⟨i,r,a.out i #v[]⟩
 have w:∃b,c<=b/\b<xs.size/\G ys j=G xs b:=by
  by_cases k:l<=j/\j<f
  ·obtain⟨b, s,n,e⟩:=a.inn j k.1 k.2;exact⟨b,by symm,by symm,e⟩
  ·exact⟨j,g,by symm,a.out j #v[]⟩
 obtain⟨d,m,o⟩:=t;obtain⟨b,q,u,p⟩:=w;rw[o,p];exact h d b m q u
theorem Srt.re {l c a b:Nat}(h:Srt le xs a b)(r:Re xs ys l c)(g:b<=l\/c<=a):Srt le ys a b:=λi j f d e=>by
 rw[r.out i #v[],r.out j #v[]];exact h i j f d e
noncomputable def mir (xs:Array Keyed) (i j:Nat):Array Keyed:=mirror xs i j ((j-i)/2)
theorem zis (a:j<=xs.size)(k:Nat):G (mir xs i j) k=if i<=k/\k<j then G xs (i+j-1-k) else G xs k:=by
 have e:=getElem?_mirror_all (i:=i) a k;by_cases h:i<=k/\k<j
 ·rw[if_pos h] at e ⊢;exact zim e
 ·rw[if_neg h] at e ⊢;exact zim e
theorem Re.mir (a:j<=xs.size):Re xs (mir xs i j) i j :=
 ⟨mirror_perm _ _ _ _,λk h=>by rw[zis a,if_neg #v[]],λk b c=>⟨i+j-1-k,by symm,by symm,by rw[zis a,if_pos ⟨b,c⟩]⟩⟩
theorem z3q (b:src<xs.size)(c:d<=src)(k:Nat):G (bubble xs src d) k=if k=src-d then G xs src else if src-d<k/\k<=src then G xs (k-1) else G xs k:=by
 have e:=getElem?_bubble b d c k;by_cases a:k=src-d
 ·rw[if_pos a] at e ⊢;exact zim e
 ·rw[if_neg a] at e ⊢;by_cases h:src-d<k/\k<=src
  ·rw[if_pos h] at e ⊢;exact zim e
  ·rw[if_neg h] at e ⊢;exact zim e
theorem Re.bub (b:src<xs.size)(a:d<=src):Re xs (bubble xs src d) (src-d) (src+1) :=
 ⟨bubble_perm _ _ _,λk h=>by rw[z3q b a,if_neg #v[],if_neg #v[]],λk e f=>by
  rw[z3q b a];by_cases c:k=src-d
  ·exact⟨src,by symm,by symm,by rw[if_pos c]⟩
  ·exact⟨k-1,by symm,by symm,by rw[if_neg c,if_pos ⟨by symm,by symm⟩]⟩⟩
structure SI (κ:SortKind) (a₀:Array Keyed) (pd:Array (Nat×Nat×Nat)) (st:SortSt):Prop where
 kind:kindOf st=κ
 failed:failedOf st=Zb
 perm:(arrOf st).Perm a₀
 pend:pendingOf st=pd
theorem SI.size {κ a₀ p st}(h:SI κ a₀ p st):(arrOf st).size=a₀.size:=h.perm.size_eq
theorem SI.set {κ a₀ a st}(h:SI κ a₀ a st)(p:ys.Perm (arrOf st)):SI κ a₀ a (setArr st ys):=⟨h.kind,h.failed,p.trans h.perm,h.pend⟩
section
variable {st:SortSt}
theorem z1d (h:Q () (setArr st (mir (arrOf st) i j))):wpS (model prog w) A E s (reverseSlice' i j) Q st:=by
 exact wpS_modify h
theorem ycx (h:Q () (setArr st (bubble (arrOf st) i (i-j)))):wpS (model prog w) A E s (moveDown' i j) Q st:=by
 exact wpS_modify h
theorem grp (O:Ord lt bf le) {l n c:Nat} (s:l<=c) (t:c<l+n) (e:∀k,G ys k=if c<=k/\k<l+n then G xs (c+(l+n)-1-k) else G xs k)
  (p:∀i j,l<=i->i<j->j<c->le (G xs j) (G xs i)) (g:∀i j,l<=i->i<c->c<=j->j<l+n->lt (G xs j) (G xs i)=Zd)
  (r:∀i j,c<=i->i<j->j<l+n->le (G xs i) (G xs j)) (o:∀i j,c<=i->i<l+n->c<=j->j<l+n->lt (G xs i) (G xs j)=Zc) :
  (∀i j,l<=i->i<j->j<l+n->le (G ys j) (G ys i))/\∀y,lt y (G xs (l+n-1))=Zd->∀i,l<=i->i<l+n->lt y (G ys i)=Zd:=by
 constructor
 ·intro i j d f m;rw[e i,e j];by_cases a:j<c
  ·rw[if_neg #v[],if_neg #v[]];exact p i j d f a
  ·rw[if_pos ⟨by symm,m⟩];by_cases b:i<c
   ·rw[if_neg #v[]];exact O.f2 (g i _ d b #v[] #v[])
   ·rw[if_pos ⟨by symm,by symm⟩];exact r _ _ #v[] #v[] #v[]
 ·intro y h i d f;rw[e i];by_cases b:c<=i/\i<l+n
  ·rw[if_pos b];exact (O.nt _ h).resolve_right (λq=>by rw[o _ _ #v[] #v[] #v[] #v[]] at q;cases q)
  ·rw[if_neg b];exact O.ltr h (g i _ d #v[] #v[] #v[])
structure DI (lt:Keyed->Keyed->Bool) (le:Keyed->Keyed->Prop) (lo n neq:Nat) (xs:Array Keyed):Prop where
 nq:neq+1<=n
 d1:∀i j,lo<=i->i<j->j<lo+n-(neq+1)->le (G xs j) (G xs i)
 d2:∀i j,lo<=i->i<lo+n-(neq+1)->lo+n-(neq+1)<=j->j<lo+n->lt (G xs j) (G xs i)=Zd
 d3:∀i j,lo+n-(neq+1)<=i->i<j->j<lo+n->le (G xs i) (G xs j)
 d4:∀i j,lo+n-(neq+1)<=i->i<lo+n->lo+n-(neq+1)<=j->j<lo+n->lt (G xs i) (G xs j)=Zc
theorem DI.turn (O:Ord lt bf le) {l n neq:Nat} (d:DI lt le l n neq xs) (h:l+n<=xs.size) :
  (∀i j,l<=i->i<j->j<l+n->le (G (mir xs (l+n-(neq+1)) (l+n)) j) (G (mir xs (l+n-(neq+1)) (l+n)) i))/\∀y,lt y (G xs (l+n-1))=Zd->∀i,l<=i->i<l+n->lt y (G (mir xs (l+n-(neq+1)) (l+n)) i)=Zd :=
 grp O (by have:=d.nq;symm) (by have:=d.nq;symm) (λk=>zis h k) d.d1 d.d2 d.d3 d.d4
theorem DI.turn0 (O:Ord lt bf le) {l n:Nat} (d:DI lt le l n 0 xs) :
  (∀i j,l<=i->i<j->j<l+n->le (G xs j) (G xs i))/\∀y,lt y (G xs (l+n-1))=Zd->∀i,l<=i->i<l+n->lt y (G xs i)=Zd :=
 grp O (by have:=d.nq;symm) (by have:=d.nq;symm) (λk=>by
  split
  ·congr 1;symm
  ·rfl) d.d1 d.d2 d.d3 d.d4
theorem DI.next (O:Ord lt bf le){l n:Nat}(h:∀i j,l<=i->i<j->j<l+n->le (G xs j) (G xs i))(f:∀i,l<=i->i<l+n->lt (G xs (l+n)) (G xs i)=Zd):DI lt le l (n+1) 0 xs :=
 ⟨by symm,λi j a b c=>h i j a b #v[],λi j a b c d=>by
  have e:j=l+n:=by symm
  rw[e];exact f i a #v[],λi j a b c=>by symm,λi j a b c d=>by
  have e:j=i:=by symm
  rw[e];exact O.irr _⟩
theorem DI.like (O:Ord lt bf le) {l n neq:Nat} (d:DI lt le l n neq xs) (o:∀i,l<=i->i<l+n->bf (G xs i) (G xs (l+n))) (s:lt (G xs (l+n)) (G xs (l+n-1))=Zc) (m:lt (G xs (l+n-1)) (G xs (l+n))=Zc):DI lt le l (n+1) (neq+1) xs:=by
 have u:=d.nq;have r:l+(n+1)-(neq+1+1)=l+n-(neq+1):=by symm
 have t:∀i,l+n-(neq+1)<=i->i<l+n->lt (G xs (l+n)) (G xs i)=Zc:=λi a b=>by
  cases q:lt (G xs (l+n)) (G xs i) with
  |false=>rfl
  | true =>
   rcases O.nt (G xs (l+n-1)) q with z|z
   ·rw[s] at z;cases z
   ·rw[d.d4 _ _ #v[] #v[] a b] at z;cases z
 have p:∀i,l+n-(neq+1)<=i->i<l+n->lt (G xs i) (G xs (l+n))=Zc:=λi a b=>by
  cases q:lt (G xs i) (G xs (l+n)) with
  |false=>rfl
  | true =>
   rcases O.nt (G xs (l+n-1)) q with z|z
   ·rw[d.d4 _ _ a b #v[] #v[]] at z;cases z
   ·rw[m] at z;cases z
 refine⟨by symm,?_,?_,?_,?_⟩<;>rw[r]
 ·exact d.d1
 ·intro i j a b c e
  by_cases k:j<l+n
  ·exact d.d2 i j a b c k
  ·have f:j=l+n:=by symm
   rw[f];exact (O.nt (G xs (l+n)) (d.d2 i (l+n-1) a b #v[] #v[])).resolve_left (λz=>by rw[m] at z;cases z)
 ·intro i j a b c
  by_cases k:j<l+n
  ·exact d.d3 i j a b k
  ·have f:j=l+n:=by symm
   rw[f];exact (O.f1 (o i #v[] #v[])).mp (t i a #v[])
 ·intro i j a b c e
  by_cases k:j<l+n
  ·by_cases h:i<l+n
   ·exact d.d4 i j a h c k
   ·have g:i=l+n:=by symm
    rw[g];exact t j c k
  ·have f:j=l+n:=by symm
   rw[f];by_cases h:i<l+n
   ·exact p i a h
   ·have g:i=l+n:=by symm
    rw[g];exact O.irr _
theorem ycw {α:Type}{c:Prop} [Decidable c] {x y:StateT SortSt Sem α}{Q:α->SortSt->Prop}{T:SortSt->Prop}(h:∀a,T a->wpS (model prog w) A E s y Q a)(d:¬ c->T st)(b:c->(∀a,T a->wpS (model prog w) A E s y Q a)->wpS (model prog w) A E s x Q st):wpS (model prog w) A E s (if c then x else y) Q st:=by
 by_cases k:c
 ·rw[if_pos k];exact b k h
 ·rw[if_neg k];exact h st (d k)
theorem ybs (C:Asks prog w A E s κ a₀ lt) (O:Ord lt bf le) {l a:Nat}{Q:Option Nat->SortSt->Prop} (I:SI κ a₀ pd st) (hsz:l+a<=a₀.size) (B:1<=a) (hc:∀c,l<=c->Cut bf (arrOf st) c)
  (h:∀m t,SI κ a₀ pd t->1<=m->m<=a->Re (arrOf st) (arrOf t) l (l+m)->Srt le (arrOf t) l (l+m)->Q (Za m) t):wpS (model prog w) A E s (countRun' l a) Q st:=by
 have sz:=I.size;refine Bq (Eu (Cu (I:=λx c d=>d=st/\c=(Zb,x)/\1<=x/\x<=a/\Srt le (arrOf st) l (l+x))
  (Q:=λc d=>d=st/\∃k,c=(Zb,k)/\1<=k/\k<=a/\Srt le (arrOf st) l (l+k)/\(k=a\/lt (G (arrOf st) (l+k)) (G (arrOf st) (l+k-1))=Zd)) ?as1 ?af1 ⟨rfl,rfl,Af _,B,(λi j L M g3=>by symm)⟩) ?ap1)
 case af1 =>
  rintro c d ⟨u,rfl,S,U,g⟩;rw[show max 1 a=a by symm] at *
  exact⟨u,a,rfl,by symm,Af _,g,.inl rfl⟩
 case as1 =>
  rintro x c d N b2 ⟨u,rfl,S,U,g⟩;subst u;refine bSq (zi9 C I.kind I.perm #v[] #v[] ?_);cases q:lt (G (arrOf d) (l+x)) (G (arrOf d) (l+x-1)) with
  | true =>
   exact Ba ⟨rfl,x,rfl,S,U,g,.inr q⟩
  | false =>
   dsimp only;refine Ba ⟨rfl,rfl,by symm,by symm,λi j B h2 h3=>?_⟩;by_cases hj:j<l+x
   ·exact g i j B h2 hj
   ·have ej:j=l+x:=by symm
    subst ej;have b:=(O.f1 (hc (l+x) #v[] (l+x-1) (l+x) #v[] (Af _) (by rw[I.size];symm))).mp q;by_cases hi:i=l+x-1
    ·rw[hi];exact b
    ·exact O.tr (g i (l+x-1) B #v[] #v[]) b
 case ap1 =>
  rintro c d ⟨u,n,rfl,S,U,g,a3⟩;subst u;dsimp only;by_cases en:n=a
  ·rw [if_pos (by simpa using en)]
   exact Ba (h n d I S U (.refl _ _ _) g)
  ·rw [if_neg (by simpa using en)]
   have q3:=a3.resolve_left en;refine ycw (T:=λr=>SI κ a₀ pd r/\Re (arrOf d) (arrOf r) l (l+(n+1))/\DI lt le l (n+1) 0 (arrOf r)) (λr ⟨I3,R3,D3⟩=>?main) (λn1=>?no) (λn1 H=>?yes)
   case yes =>
    refine Bq (zi9 C I.kind I.perm #v[] #v[] ?_);cases q:lt (G (arrOf d) l) (G (arrOf d) (l+n-1)) with
    | true =>
     exact Ba (h n d I S U (.refl _ _ _) g)
    | false =>
     dsimp only;refine bSq (z1d ?_);have lk:∀i,l<=i->i<l+n->lt (G (arrOf d) (l+n)) (G (arrOf d) i)=Zd:=λi L M=>by
      have z1:lt (G (arrOf d) i) (G (arrOf d) (l+n-1))=Zc:=by
       cases z:lt (G (arrOf d) i) (G (arrOf d) (l+n-1)) with
       |false=>rfl
       | true =>
        rcases O.nt (G (arrOf d) l) z with y|y
        ·by_cases ei:i=l
         ·rw[ei,O.irr] at y;cases y
         ·have:=O.f3 (hc i L l i (by symm) (Af _) (by symm)) y
          exact absurd (g l i (Af _) #v[] M) this
        ·rw[q] at y;cases y
      exact (O.nt _ q3).resolve_right (λy=>by rw[z1] at y;cases y)
     obtain ⟨r,e3,I3,R3,D3⟩ : ∃r,r=(setArr d (mir (arrOf d) l (l+n)))/\SI κ a₀ pd r/\Re (arrOf d) (arrOf r) l (l+(n+1))/\DI lt le l (n+1) 0 (arrOf r):=⟨_,rfl,I.set (Re.mir (by symm)).perm,(Re.mir (by symm)).mono (Af _) (by symm),DI.next O (λi j L M g3=>by
           rw[zis #v[],zis #v[],if_pos ⟨by symm,by symm⟩,if_pos ⟨by symm,by symm⟩];exact g _ _ #v[] #v[] #v[]) (λi L M=>by
           rw[zis #v[],zis #v[],if_neg #v[],if_pos ⟨by symm,by symm⟩];exact lk _ #v[] #v[])⟩
     rw[<-e3];exact H r ⟨I3,R3,D3⟩
   case no =>
    have en1:n=1:=by symm
    subst en1;exact ⟨I,.refl _ _ _,DI.next O (λi j L M g3=>by symm) (λi L M=>by
     have ei:i=l:=by symm
     rw[ei];exact q3)⟩
   case main =>
    refine bSq (wpS_lift (Dr ⟨rfl,?_⟩));refine Bq (Eu (Cu (I:=λx c f=>∃neq,c=(Zb,x,neq)/\n+1<=x/\x<=a/\SI κ a₀ pd f/\Re (arrOf d) (arrOf f) l (l+x)/\DI lt le l x neq (arrOf f))
     (Q:=λc f=>∃m neq,c=(Zb,m,neq)/\n+1<=m/\m<=a/\SI κ a₀ pd f/\Re (arrOf d) (arrOf f) l (l+m)/\DI lt le l m neq (arrOf f)) ?dsd1 ?dfd1 ⟨0,rfl,Af _,by symm,I3,R3,D3⟩) ?dpd1)
    case dfd1 =>
     rintro c f ⟨neq,rfl,Y,N,b2,b3,b4⟩;have e:max (n+1) a=a:=by symm
     rw[e] at Y N b3 b4 ⊢;exact⟨a,neq,rfl,Y,N,b2,b3,b4⟩
    case dsd1 =>
     rintro x c f L M ⟨neq,rfl,Y,N,p,R,D⟩;dsimp only;have z4:=p.size;have Z:∀c,l+x<=c->Cut bf (arrOf f) c:=λc K=>(hc c #v[]).re R #v[] (.inr K);refine Bq (zi9 C p.kind p.perm #v[] #v[] ?_);cases q5:lt (G (arrOf f) (l+x)) (G (arrOf f) (l+x-1)) with
     | true =>
      by_cases nq:neq > 0
      ·rw [if_pos nq]
       refine bSq (z1d (Ba ⟨0,rfl,by symm,by symm,p.set (Re.mir #v[]).perm,(R.trans ((Re.mir #v[]).mono (by have:=D.nq;symm) (Af _))).mono (Af _) #v[],?_⟩));obtain⟨J,t2⟩:=D.turn O #v[];refine DI.next O J λi k1 X=>?_;have:=t2 _ q5 i k1 X;rw[zis #v[],if_neg #v[]];exact this
      ·rw [if_neg nq]
       have e0:neq=0:=by symm
       subst e0;obtain⟨J,t2⟩:=D.turn0 O;exact Ba ⟨0,rfl,by symm,by symm,p,R.mono (Af _) #v[],DI.next O J λi k1 X=>t2 _ q5 i k1 X⟩
     | false =>
      dsimp only;refine Bq (zi9 C p.kind p.perm #v[] #v[] ?_);cases q6:lt (G (arrOf f) (l+x-1)) (G (arrOf f) (l+x)) with
      | true =>
       exact Ba ⟨x,neq,rfl,Y,N,p,R,D⟩
      | false =>
       dsimp only;exact Ba ⟨neq+1,rfl,by symm,by symm,p,R.mono (Af _) #v[],D.like O (λi k1 X=>Z (l+x) (Af _) i (l+x) X (Af _) #v[]) q5 q6⟩
    case dpd1 =>
     rintro c f ⟨n,neq,rfl,Y,n2,p,R,D⟩;dsimp only;have z4:=p.size;refine ycw (T:=λo=>SI κ a₀ pd o/\Re (arrOf d) (arrOf o) l (l+n)/\∀i j,l<=i->i<j->j<l+n->le (G (arrOf o) j) (G (arrOf o) i)) (λo ⟨I6,R6,J⟩=>?tl) (λnq=>?tn) (λnq H=>?ty)
     case ty =>
      refine bSq (z1d ?_);have I6:SI κ a₀ pd (setArr f (mir (arrOf f) (l+n-(neq+1)) (l+n))):=p.set (Re.mir #v[]).perm;have R6:Re (arrOf d) (mir (arrOf f) (l+n-(neq+1)) (l+n)) l (l+n):=R.trans ((Re.mir #v[]).mono (by have:=D.nq;symm) (Af _));have J:=(D.turn O #v[]).1;exact H _ ⟨I6,R6,J⟩
     case tn =>
      have e0:neq=0:=by symm
      subst e0;exact⟨p,R,(D.turn0 O).1⟩
     case tl =>
      have z6:=I6.size;refine bSq (z1d ?_);have P:SI κ a₀ pd (setArr o (mir (arrOf o) l (l+n))):=I6.set (Re.mir (by symm)).perm;have R5:=R6.trans (Re.mir (by symm));have z5:Srt le (mir (arrOf o) l (l+n)) l (l+n):=λi j B h2 h3=>by
       rw[zis #v[],zis #v[],if_pos ⟨by symm,by symm⟩,if_pos ⟨by symm,by symm⟩];exact J _ _ #v[] #v[] #v[]
      have ea:mir (arrOf o) l (l+n)=arrOf (setArr o (mir (arrOf o) l (l+n))):=rfl
      revert P R5 z5
      rw [ea];generalize (setArr o (mir (arrOf o) l (l+n)))=F;intro P R5 z5;have hc5:∀c,l+n<=c->Cut bf (arrOf F) c:=λc K=>(hc c (by symm)).re R5 (by symm) (.inr K);refine bSq (Eu (Cu (I:=λx c d=>d=F/\c=(Zb,x)/\n<=x/\x<=a/\Srt le (arrOf F) l (l+x))
       (Q:=λc d=>d=F/\∃k,c=(Zb,k)/\n<=k/\k<=a/\Srt le (arrOf F) l (l+k)/\(k=a\/lt (G (arrOf F) (l+k)) (G (arrOf F) (l+k-1))=Zd)) ?asd11 ?afd11 ⟨rfl,rfl,Af _,n2,z5⟩) ?apd11)
      case afd11 =>
       rintro c d ⟨u,rfl,y0,y1,g⟩;rw[show max n a=a by symm] at *
       exact⟨u,a,rfl,by symm,Af _,g,.inl rfl⟩
      case asd11 =>
       rintro x c d N b2 ⟨u,rfl,y0,y1,g⟩;subst u;dsimp only;refine Bq (zi9 C P.kind P.perm #v[] #v[] ?_);cases q:lt (G (arrOf d) (l+x)) (G (arrOf d) (l+x-1)) with
       | true =>
        exact Ba ⟨rfl,x,rfl,y0,y1,g,.inr q⟩
       | false =>
        dsimp only;refine Ba ⟨rfl,rfl,by symm,by symm,λi j B h2 h3=>?_⟩;by_cases hj:j<l+x
        ·exact g i j B h2 hj
        ·have ej:j=l+x:=by symm
         subst ej;have b:le (G (arrOf d) (l+x-1)) (G (arrOf d) (l+x)):=(O.f1 (hc5 (l+x) #v[] (l+x-1) (l+x) #v[] (Af _) (by rw[P.size];symm))).mp q;by_cases hi:i=l+x-1
         ·rw[hi];exact b
         ·exact O.tr (g i (l+x-1) B #v[] #v[]) b
      case apd11 =>
       rintro c s7 ⟨e7,m,rfl,y0,y1,y2,y3⟩;subst e7;exact Ba (h m s7 P #v[] y1 (R5.mono (Af _) #v[]) y2)
end
end Tim
namespace Tim
section
variable {st:SortSt}
theorem yhi (C:Asks prog w A E s κ a₀ lt) (O:Ord lt bf le) {a n ok:Nat} (I:SI κ a₀ pd st) (hsz:a+n<=a₀.size) (B:ok<=n) (J:1<=ok) (X:Srt le (arrOf st) a (a+ok)) (F:∀c,a+ok<=c->Cut bf (arrOf st) c)
  (h:∀m,SI κ a₀ pd m->Re (arrOf st) (arrOf m) a (a+n)->Srt le (arrOf m) a (a+n)->Q Zd m):wpS (model prog w) A E s (binarySort' a n ok) Q st:=by
 have sz:=I.size;rw[binarySort'_eq];have em:max ok 1=ok:=by symm
 rw [em];refine bSq (Eu (Cu (I:=λk c d=>c=(Zb,())/\ok<=k/\k<=n/\SI κ a₀ pd d/\Re (arrOf st) (arrOf d) a (a+k)/\Srt le (arrOf d) a (a+k))
  (Q:=λc d=>c=(Zb,())/\SI κ a₀ pd d/\Re (arrOf st) (arrOf d) a (a+n)/\Srt le (arrOf d) a (a+n)) ?step ?fin ⟨rfl,Af _,B,I,.refl _ _ _,X⟩) ?post)
 case post =>
  rintro c d ⟨rfl,o,R2,S⟩;exact Ba (h d o R2 S)
 case fin =>
  rintro c d ⟨F,b0,N,o,R2,S⟩;have e:max ok n=n:=by symm
  rw[e] at R2 S;exact⟨F,o,R2,S⟩
 case step =>
  rintro k c d g1 g2 ⟨rfl,b0,N,o,R2,S⟩;have z2:=o.size;have U:=(F (a+k) (by symm)).re R2 (by symm) (.inr (Af _));refine bSq (Eu (Cu (I:=λx c f=>f=d/\∃l r,c=(Zb,l,r)/\l<=r/\r<=k/\r-l<=k-x/\(∀i,i<l->le (G (arrOf d) (a+i)) (G (arrOf d) (a+k)))/\∀i,r<=i->i<k->le (G (arrOf d) (a+k)) (G (arrOf d) (a+i)))
   (Q:=λc f=>f=d/\∃l,c=(Zb,l,l)/\l<=k/\(∀i,i<l->le (G (arrOf d) (a+i)) (G (arrOf d) (a+k)))/\∀i,l<=i->i<k->le (G (arrOf d) (a+k)) (G (arrOf d) (a+i))) ?istep ?ifin ⟨rfl,0,k,rfl,by symm,by symm,by symm,λi hi=>by symm,λi z D=>by symm⟩) ?ipost)
  case ifin =>
   rintro c f ⟨u,l,r,rfl,Y,y,P,t,p⟩;have e:r=l:=by symm
   subst e;exact⟨u,r,rfl,y,t,p⟩
  case istep =>
   rintro x c f _ hx ⟨u,l,r,rfl,Y,y,P,t,p⟩;subst u;dsimp only;by_cases g:l ≥ r
   ·rw [if_pos g]
    have e:r=l:=by symm
    subst e;exact Ba ⟨rfl,r,rfl,y,t,p⟩
   ·rw [if_neg g]
    refine Bq (zi9 C o.kind o.perm #v[] #v[] ?_);have b:=U (a+(l+r)/2) (a+k) #v[] (Af _) #v[];cases q:lt (G (arrOf f) (a+k)) (G (arrOf f) (a+(l+r)/2)) with
    | true =>
     refine Ba ⟨rfl,l,(l+r)/2,rfl,by symm,by symm,by symm,t,λi z D=>?_⟩;by_cases e:i=(l+r)/2
     ·rw[e];exact O.f2 q
     ·exact O.tr (O.f2 q) (S _ _ #v[] #v[] #v[])
    | false =>
     dsimp only;refine Ba ⟨rfl,(l+r)/2+1,r,rfl,by symm,by symm,by symm,λi z=>?_,p⟩;by_cases e:i=(l+r)/2
     ·rw[e];exact (O.f1 b).mp q
     ·exact O.tr (S _ _ #v[] #v[] #v[]) ((O.f1 b).mp q)
  case ipost =>
   rintro c f ⟨u,l,rfl,y,t,p⟩;subst u;refine bSq (ycx (Ba ⟨rfl,by symm,by symm,o.set (bubble_perm _ _ _),?_,?_⟩))
   ·refine (R2.mono (Af _) #v[]).trans ((Re.bub #v[] #v[]).mono #v[] #v[])
   ·intro i j J h2 h3
    have Z:a+k-(a+k-(a+l))=a+l:=by symm
    rw [z3q (by symm) (by symm),z3q (by symm) (by symm),Z];have p4:∀i,a<=i->i<a+l->le (G (arrOf f) i) (G (arrOf f) (a+k)):=λi z D=>by
     have:=t (i-a) #v[];rw[show a+(i-a)=i by symm] at this;exact this
    have p5:∀i,a+l<=i->i<a+k->le (G (arrOf f) (a+k)) (G (arrOf f) i):=λi z D=>by
     have:=p (i-a) #v[] #v[];rw[show a+(i-a)=i by symm] at this;exact this
    by_cases K:i=a+l
    ·rw [if_pos K,if_neg (by symm),if_pos ⟨by symm,by symm⟩]
     exact p5 _ #v[] #v[]
    ·rw [if_neg K]
     by_cases L:j=a+l
     ·rw [if_neg (by symm),if_pos L]
      exact p4 _ J #v[]
     ·rw [if_neg L]
      by_cases M:a+l<i/\i<=a+k
      ·rw [if_pos M,if_pos ⟨by symm,by symm⟩]
       exact S _ _ #v[] #v[] #v[]
      ·rw [if_neg M]
       by_cases H:a+l<j/\j<=a+k
       ·rw [if_pos H]
        by_cases R:i=j-1
        ·rw[R];exact O.rf _
        ·exact S _ _ #v[] #v[] #v[]
       ·rw [if_neg H]
        exact S _ _ #v[] #v[] #v[]
end
end Tim
namespace Tim
theorem G_list (h:i<a.size):a.toList[i]?=Za (G a i):=by rw[Array.getElem?_toList];exact z5v h
theorem take_G (h:i<a.size):a.toList.take (i+1)=a.toList.take i++[G a i]:=by rw[Gq,G_list h];rfl
theorem z0v (h:i<a.size):a.toList.drop i=G a i::a.toList.drop (i+1):=by
 have b:i<a.toList.length:=by simpa using h
 rw[Cs b];have e:=G_list h;rw[Ab b] at e;rw[sI e]
theorem mem_drop (h:x∈a.toList.drop n):∃i,n<=i/\i<a.size/\x=G a i:=by
 obtain⟨i,d,e⟩:=Dm.mp h;have c:n+i<a.toList.length:=by rw[Gz] at d;symm
 have b:n+i<a.size:=by simpa using c
 refine⟨n+i,by symm,b,?_⟩;rw[List.getElem_drop] at e;have g:=G_list b;rw[Ab c] at g;rw[<-e];exact sI g
theorem mem_take (h:x∈a.toList.take n):∃i,i<n/\i<a.size/\x=G a i:=by
 obtain⟨i,d,e⟩:=Dm.mp h;rw[De] at d;have c:i<a.toList.length:=by symm
 have b:i<a.size:=by simpa using c
 refine⟨i,by symm,b,?_⟩;rw[List.getElem_take] at e;have g:=G_list b;rw[Ab c] at g;rw[<-e];exact sI g
theorem srt_list (h:Srt le a 0 a.size):a.toList.Pairwise le:=by
 rw[List.pairwise_iff_getElem];intro i j g k c;have d:i<a.size:=by simpa using g
 have b:j<a.size:=by simpa using k
 have e:=G_list d;have f:=G_list b;rw[Ab g] at e;rw[Ab k] at f;rw[sI e,sI f];exact h i j (Bm _) c b
theorem zdh (a:Array Keyed)(i j:Nat):(a.extract i j).toList=(a.toList.drop i).take (j-i):=by rw[Array.toList_extract]
theorem zkj (a:Array Keyed)(i:Nat):(a.extract i a.size).toList=a.toList.drop i:=by
 rw[zdh,El];simp
structure Fin (le:Keyed->Keyed->Prop) (a b:Array Keyed) (r:List Keyed):Prop where
 p:r.Perm (a.toList++b.toList)
 s:r.Pairwise le
structure MI (le:Keyed->Keyed->Prop) (a b:Array Keyed) (o:List Keyed) (ia ib:Nat):Prop where
 p:o.Perm (a.toList.take ia++b.toList.take ib)
 s:o.Pairwise le
 oa:∀x∈o,∀i,ia<=i->i<a.size->le x (G a i)
 ob:∀x∈o,∀j,ib<=j->j<b.size->le x (G b j)
structure MH (le:Keyed->Keyed->Prop) (a b:Array Keyed) (o:List Keyed) (na nb:Nat):Prop where
 p:o.Perm (a.toList.drop na++b.toList.drop nb)
 s:o.Pairwise le
 oa:∀x∈o,∀i,i<na->le (G a i) x
 ob:∀x∈o,∀j,j<nb->le (G b j) x
section
variable (O:Ord lt bf le) (Sa:Srt le a 0 a.size) (Sb:Srt le b 0 b.size)
theorem z3d (h:o.Perm (p++q)):(o++[x]).Perm ((p++[x])++q):=by
 refine (h.append_right [x]).trans ?_;rw[Bf,Bf];exact List.perm_append_comm.append_left p
theorem MI.pushA (Sa:Srt le a 0 a.size)(m:MI le a b o ia ib)(e:ia<a.size)(f:∀j,ib<=j->j<b.size->le (G a ia) (G b j)):MI le a b (o++[G a ia]) (ia+1) ib:=by
 refine⟨by rw[take_G e];exact z3d m.p,?_,λx c i d h=>?_,λx c j d h=>?_⟩
 ·rw[Ch];refine⟨m.s,Gm _ _,λx c y g=>?_⟩;rw[As.mp g];exact m.oa x c ia (Af _) e
 ·rcases Bh.mp c with z|z
  ·exact m.oa x z i #v[] h
  ·rw[As.mp z];exact Sa _ _ (Bm _) #v[] h
 ·rcases Bh.mp c with z|z
  ·exact m.ob x z j d h
  ·rw[As.mp z];exact f j d h
theorem MI.pushB (Sb:Srt le b 0 b.size)(m:MI le a b o ia ib)(e:ib<b.size)(g:∀i,ia<=i->i<a.size->le (G b ib) (G a i)):MI le a b (o++[G b ib]) ia (ib+1):=by
 refine⟨?_,?_,λx c i d h=>?_,λx c j d h=>?_⟩
 ·rw[take_G e];have:=m.p.append_right [G b ib];rw[Bf] at this;exact this
 ·rw[Ch];refine⟨m.s,Gm _ _,λx c y f=>?_⟩;rw[As.mp f];exact m.ob x c ib (Af _) e
 ·rcases Bh.mp c with z|z
  ·exact m.oa x z i d h
  ·rw[As.mp z];exact g i d h
 ·rcases Bh.mp c with z|z
  ·exact m.ob x z j #v[] h
  ·rw[As.mp z];exact Sb _ _ (Bm _) #v[] h
theorem zq5 (h:i+k<a.size):(a.toList.drop i).take (k+1)=(a.toList.drop i).take k++[G a (i+k)]:=by
 rw[Gq,List.getElem?_drop,G_list h];rfl
theorem MI.appA (Sa:Srt le a 0 a.size) (m:MI le a b o ia ib):∀k,ia+k<=a.size->(∀i,ia<=i->i<ia+k->∀j,ib<=j->j<b.size->le (G a i) (G b j))->MI le a b (o++(a.toList.drop ia).take k) (ia+k) ib
 |0,_,_=>by rw[Dy,Bu];exact m
 | k+1,d,h=>by
  have:=(m.appA Sa k #v[] λi g c=>h i g #v[]).pushA Sa #v[] (h (ia+k) #v[] #v[]);rw[zq5 #v[],<-Bf];exact this
theorem MI.appB (Sb:Srt le b 0 b.size) (m:MI le a b o ia ib):∀k,ib+k<=b.size->(∀j,ib<=j->j<ib+k->∀i,ia<=i->i<a.size->le (G b j) (G a i))->MI le a b (o++(b.toList.drop ib).take k) ia (ib+k)
 |0,_,_=>by rw[Dy,Bu];exact m
 | k+1,d,h=>by
  have:=(m.appB Sb k #v[] λi g c=>h i g #v[]).pushB Sb #v[] (h (ib+k) #v[] #v[]);rw[zq5 #v[],<-Bf];exact this
theorem zr8 (b:Array Keyed):b.toList.take b.size=b.toList:=El (by simp)
theorem MI.finB (Sa:Srt le a 0 a.size)(m:MI le a b o ia b.size):Fin le a b (o++a.toList.drop ia):=by
 refine⟨?_,?_⟩
 ·have h:=m.p;rw[zr8] at h;refine (h.append_right _).trans ?_;rw[Bf];refine (List.perm_append_comm.append_left _).trans ?_;rw[<-Bf,Cf]
 ·rw[Ch];refine⟨m.s,(srt_list Sa).sublist (Hw _ _),λx f y d=>?_⟩;obtain⟨i,e,c,rfl⟩:=mem_drop d;exact m.oa x f i e c
theorem MI.finA (Sb:Srt le b 0 b.size)(m:MI le a b o a.size ib):Fin le a b (o++b.toList.drop ib):=by
 refine⟨?_,?_⟩
 ·have h:=m.p;rw[zr8] at h;refine (h.append_right _).trans ?_;rw[Bf,Cf]
 ·rw[Ch];refine⟨m.s,(srt_list Sb).sublist (Hw _ _),λx f y d=>?_⟩;obtain⟨i,e,c,rfl⟩:=mem_drop d;exact m.ob x f i e c
theorem MI.finL (Sa:Srt le a 0 a.size)(Sb:Srt le b 0 b.size)(m:MI le a b o ia ib)(e:ia+1=a.size)(H:∀j,j<b.size->le (G b j) (G a (a.size-1))):Fin le a b (o++b.toList.drop ib++a.toList.drop ia):=by
 refine⟨?_,?_⟩
 ·refine ((m.p.append_right _).append_right _).trans ?_;rw[Bf,Bf,<-Bf (b.toList.take ib),Cf];refine (List.perm_append_comm.append_left _).trans ?_;rw[<-Bf,Cf]
 ·rw[Ch,Ch];refine⟨⟨m.s,(srt_list Sb).sublist (Hw _ _),λx f y c=>?_⟩,(srt_list Sa).sublist (Hw _ _),λx f y c=>?_⟩
  ·obtain⟨i,d,h,rfl⟩:=mem_drop c;exact m.ob x f i d h
  ·obtain⟨i,d,h,rfl⟩:=mem_drop c;rcases Bh.mp f with z|z
   ·exact m.oa x z i d h
   ·obtain⟨j,k,g,rfl⟩:=mem_drop z;have:i=a.size-1:=by symm
    rw[this];exact H j g
theorem MH.pushA (Sa:Srt le a 0 a.size)(m:MH le a b o (na+1) nb)(h:na<a.size)(e:∀j,j<nb->le (G b j) (G a na)):MH le a b (G a na::o) na nb:=by
 refine⟨?_,Ce.mpr ⟨λx c=>m.oa x c na #v[],m.s⟩,λx c i d=>?_,λx c j d=>?_⟩
 ·rw[z0v h];exact m.p.cons _
 ·rcases Ao.mp c with z|z
  ·rw[z];exact Sa _ _ (Bm _) d h
  ·exact m.oa x z i #v[]
 ·rcases Ao.mp c with z|z
  ·rw[z];exact e j d
  ·exact m.ob x z j d
theorem MH.pushB (Sb:Srt le b 0 b.size)(m:MH le a b o na (nb+1))(h:nb<b.size)(e:∀i,i<na->le (G a i) (G b nb)):MH le a b (G b nb::o) na nb:=by
 refine⟨?_,Ce.mpr ⟨λx c=>m.ob x c nb #v[],m.s⟩,λx c i d=>?_,λx c j d=>?_⟩
 ·rw[z0v h];exact (m.p.cons _).trans List.perm_middle.symm
 ·rcases Ao.mp c with z|z
  ·rw[z];exact e i d
  ·exact m.oa x z i d
 ·rcases Ao.mp c with z|z
  ·rw[z];exact Sb _ _ (Bm _) d h
  ·exact m.ob x z j #v[]
theorem zsa (h:i<a.size):(a.toList.drop i).take (k+1)=G a i::(a.toList.drop (i+1)).take k:=by
 rw[z0v h,Ek]
theorem MH.appA (Sa:Srt le a 0 a.size):∀(k at_:Nat),MH le a b o (at_+k) nb->at_+k<=a.size->(∀i,at_<=i->i<at_+k->∀j,j<nb->le (G b j) (G a i))->MH le a b ((a.toList.drop at_).take k++o) at_ nb
 |0,at_,m,_,_=>by rw[Dy];exact m
 | k+1,at_,m,c,h=>by
  have:=(MH.appA Sa k (at_+1) (by rw[show at_+1+k=at_+(k+1) by symm];exact m) #v[] λi d g=>h i #v[] #v[]).pushA Sa #v[] (h at_ (Af _) #v[]);rw[zsa #v[]];exact this
theorem MH.appB (Sb:Srt le b 0 b.size):∀(k at_:Nat),MH le a b o na (at_+k)->at_+k<=b.size->(∀j,at_<=j->j<at_+k->∀i,i<na->le (G a i) (G b j))->MH le a b ((b.toList.drop at_).take k++o) na at_
 |0,at_,m,_,_=>by rw[Dy];exact m
 | k+1,at_,m,c,h=>by
  have:=(MH.appB Sb k (at_+1) (by rw[show at_+1+k=at_+(k+1) by symm];exact m) #v[] λi d g=>h i #v[] #v[]).pushB Sb #v[] (h at_ (Af _) #v[]);rw[zsa #v[]];exact this
theorem MH.finA (Sb:Srt le b 0 b.size)(m:MH le a b o 0 nb):Fin le a b (b.toList.take nb++o):=by
 refine⟨?_,?_⟩
 ·refine (m.p.append_left _).trans ?_;rw[Ga];refine List.perm_append_comm_assoc _ _ _ |>.trans ?_;rw[Cf]
 ·rw[Ch];refine⟨(srt_list Sb).sublist (Gp _ _),m.s,λx d y h=>?_⟩;obtain⟨i,c,e,rfl⟩:=mem_take d;exact m.ob y h i c
theorem MH.finB (Sa:Srt le a 0 a.size)(m:MH le a b o na 0):Fin le a b (a.toList.take na++o):=by
 refine⟨?_,?_⟩
 ·refine (m.p.append_left _).trans ?_;rw[Ga,<-Bf,Cf]
 ·rw[Ch];refine⟨(srt_list Sa).sublist (Gp _ _),m.s,λx d y h=>?_⟩;obtain⟨i,c,e,rfl⟩:=mem_take d;exact m.oa y h i c
theorem MH.finF (Sa:Srt le a 0 a.size)(Sb:Srt le b 0 b.size)(m:MH le a b o na 1)(H:∀i,i<a.size->le (G b 0) (G a i)):Fin le a b (b.toList.take 1++a.toList.take na++o):=by
 refine⟨?_,?_⟩
 ·refine (m.p.append_left _).trans ?_;rw[Bf,<-Bf (a.toList.take na),Cf];refine List.perm_append_comm_assoc _ _ _ |>.trans ?_;rw[Cf]
 ·rw[Ch,Ch];refine⟨⟨(srt_list Sb).sublist (Gp _ _),(srt_list Sa).sublist (Gp _ _),λx d y h=>?_⟩,m.s,λx d y h=>?_⟩
  ·obtain⟨i,c,e,rfl⟩:=mem_take d;obtain⟨j,f,g,rfl⟩:=mem_take h;have:i=0:=by symm
   rw[this];exact H j g
  ·rcases Bh.mp d with z|z
   ·obtain⟨i,c,e,rfl⟩:=mem_take z;exact m.ob y h i c
   ·obtain⟨i,c,e,rfl⟩:=mem_take z;exact m.oa y h i c
end
end Tim
namespace Tim
noncomputable def setG:Nat->StateT SortSt Sem Unit:=sortPriv% PySem.Builtin.setMinGallop
section
variable {prog:Program}{w:World}{A:Around}{E:Ze->Zf->Prop}{s:Zf}{κ:SortKind}{a₀:Array Keyed}{lt:Keyed->Keyed->Bool}{bf le:Keyed->Keyed->Prop}{st:SortSt}{pd:Array (Nat × Nat × Nat)}
structure SG (κ:SortKind) (a₀:Array Keyed) (pd:Array (Nat×Nat×Nat)) (xs:Array Keyed) (st:SortSt):Prop where
 i:SI κ a₀ pd st
 e:arrOf st=xs
theorem zsg {xs:Array Keyed}{g:Nat}{Q:Unit->SortSt->Prop}(S:SG κ a₀ pd xs st)(h:∀a,SG κ a₀ pd xs a->Q () a):wpS (model prog w) A E s (setG g) Q st :=
 wpS_modify (h _ ⟨⟨S.i.kind,S.i.failed,S.i.perm,S.i.pend⟩,S.e⟩)
theorem q_lt {x y:Keyed}{Q:Option Bool->SortSt->Prop}(C:Asks prog w A E s κ a₀ lt){xs:Array Keyed}(S:SG κ a₀ pd xs st)(b:x∈a₀.toList)(a:y∈a₀.toList)(h:Q (Za (lt x y)) st):wpS (model prog w) A E s (lt' x y) Q st:=C _ _ _ _ b a S.i.kind h
theorem zmq {out a b:Array Keyed}:(out++a.extract ia a.size++b.extract ib b.size).toList=out.toList++a.toList.drop ia++b.toList.drop ib:=by
 rw[Bz,Bz,zkj,zkj]
theorem zrs {le:Keyed->Keyed->Prop}{out a b:Array Keyed}{ia ib:Nat}(e:ib=b.size)(h:Fin le a b (out.toList++a.toList.drop ia)):Fin le a b (out++a.extract ia a.size++b.extract ib b.size).toList:=by
 subst e;rw[zmq,List.drop_of_length_le (l:=b.toList) (by simp),Bu];exact h
theorem ydb {le:Keyed->Keyed->Prop}{out a b:Array Keyed}{ia ib:Nat}(e:ia=a.size)(h:Fin le a b (out.toList++b.toList.drop ib)):Fin le a b (out++a.extract ia a.size++b.extract ib b.size).toList:=by
 subst e;rw[zmq,List.drop_of_length_le (by simp),Bu];exact h
theorem zrp {le:Keyed->Keyed->Prop}{out a b:Array Keyed}{ia ib:Nat}(h:Fin le a b (out.toList++b.toList.drop ib++a.toList.drop ia)):Fin le a b (out++b.extract ib b.size++a.extract ia a.size).toList:=by
 rw[Bz,Bz,zkj,zkj];exact h
theorem q_if {α:Type}{c:Prop} [Decidable c] {x y:StateT SortSt Sem α}{Q:α->SortSt->Prop}(b:c->wpS (model prog w) A E s x Q st)(a:¬ c->wpS (model prog w) A E s y Q st):wpS (model prog w) A E s (if c then x else y) Q st:=by
 by_cases h:c
 ·rw[if_pos h];exact b h
 ·rw[if_neg h];exact a h
theorem zx3 {α:Type}{x:StateT SortSt Sem α}{Q:α->SortSt->Prop}(h:∀Q',(∀r t,Q r t->Q' r t)->wpS (model prog w) A E s x Q' st):wpS (model prog w) A E s x Q st:=h Q λ_ _ z=>z
theorem q_eq {α β:Type}{c:β->Prop} [∀m,Decidable (c m)] {x:β->StateT SortSt Sem α}{Q:α->SortSt->Prop}{g:β->β}{f:β->StateT SortSt Sem α}(e:∀m,x m=f (g m))(h:∀u,wpS (model prog w) A E s (f u) Q st):∀m,wpS (model prog w) A E s (if c m then x m else f m) Q st:=λm=>by
 rw[e];exact q_if (λ_=>h _) λ_=>h _
theorem z39 {α β γ:Type}{c:Prop} [Decidable c] {x:β->γ->StateT SortSt Sem α}{Q:α->SortSt->Prop}{v:β}{u:γ}{f:β->γ->StateT SortSt Sem α} (P:β->γ->Prop) (e:¬ c->P v u) (d:c->(∀v u,P v u->wpS (model prog w) A E s (f v u) Q st)->wpS (model prog w) A E s (x v u) Q st)
  (h:∀v u,P v u->wpS (model prog w) A E s (f v u) Q st):∀a,v=a->∀b,u=b->wpS (model prog w) A E s (if c then x a b else f a b) Q st:=by
 rintro _ rfl _ rfl;exact q_if (λk=>d k h) λk=>h _ _ (e k)
theorem MI.finA' {le:Keyed->Keyed->Prop}{a b:Array Keyed}{o:List Keyed}{ia ib:Nat}(S:Srt le b 0 b.size)(m:MI le a b o ia ib)(e:ia=a.size):Fin le a b (o++b.toList.drop ib):=by subst e;exact m.finA S
theorem MI.finB' {le:Keyed->Keyed->Prop}{a b:Array Keyed}{o:List Keyed}{ia ib:Nat}(S:Srt le a 0 a.size)(m:MI le a b o ia ib)(e:ib=b.size):Fin le a b (o++a.toList.drop ia):=by subst e;exact m.finB S
structure MP (lt:Keyed->Keyed->Bool) (bf le:Keyed->Keyed->Prop) (a₀ a b:Array Keyed):Prop where
 sa:Srt le a 0 a.size
 sb:Srt le b 0 b.size
 ma:∀i,i<a.size->G a i∈a₀.toList
 mb:∀i,i<b.size->G b i∈a₀.toList
 bf:∀i j,i<a.size->j<b.size->bf (G a i) (G b j)
 a1:1<=a.size
 b1:1<=b.size
 h0:∀i,i<a.size->le (G b 0) (G a i)
 ha:∀j,j<b.size->le (G b j) (G a (a.size-1))
inductive Fi {γ:Type} (F:Array Keyed->Prop):Option (Array Keyed)×γ->Prop
 |mk (r:Array Keyed) (g:γ):F r->Fi F (Za r,g)
structure LX (le:Keyed->Keyed->Prop) (a b:Array Keyed) (x:Nat) (out:Array Keyed) (ia ib:Nat):Prop where
 m:MI le a b out.toList ia ib
 l:ia+1<a.size
 r:ib<b.size
 s:x<=ia+ib
inductive L5 (P:Array Keyed->Nat->Nat->Prop):Option (Array Keyed)×Array Keyed×Nat×Nat×Nat->Prop
 |mk (out:Array Keyed) (ia ib mg:Nat):P out ia ib->L5 P (Zb,out,ia,ib,mg)
inductive L6 (P:Array Keyed->Nat->Nat->Prop):Option (Array Keyed)×Array Keyed×Nat×Nat×Nat×Nat->Prop
 |mk (out:Array Keyed) (ia ib ac bc:Nat):P out ia ib->L6 P (Zb,out,ia,ib,ac,bc)
inductive L7 (P:Array Keyed->Nat->Nat->Prop):Option (Array Keyed)×Array Keyed×Nat×Nat×Nat×Nat×Nat->Prop
 |mk (out:Array Keyed) (ia ib mg ac bc:Nat):P out ia ib->L7 P (Zb,out,ia,ib,mg,ac,bc)
theorem yg6 (C:Asks prog w A E s κ a₀ lt) (O:Ord lt bf le) {a b xs:Array Keyed}{Q:Array Keyed->SortSt->Prop} (S:SG κ a₀ pd xs st) (P:MP lt bf le a₀ a b)
  (h:∀r st',SG κ a₀ pd xs st'->Fin le a b r.toList->Q r st'):wpS (model prog w) A E s (mLo a b) Q st:=by
 have leA:∀i j,i<=j->j<a.size->le (G a i) (G a j):=λi j h1 h2=>by
  by_cases e:i=j
  ·rw[e];exact O.rf _
  ·exact P.sa i j (Bm _) #v[] h2
 have leB:∀i j,i<=j->j<b.size->le (G b i) (G b j):=λi j h1 h2=>by
  by_cases e:i=j
  ·rw[e];exact O.rf _
  ·exact P.sb i j (Bm _) #v[] h2
 have pa:=P.a1;have pb:=P.b1;refine bSq (wpS_lift (Dr ⟨rfl,?_⟩));refine Bq (zba pb ?_);have m0:MI le a b (#[G b 0]:Array Keyed).toList 0 1:=by
  have:=MI.pushB (o:=[]) (ia:=0) (ib:=0) P.sb ⟨by simp,.nil,λx hx=>by simp at hx,λx hx=>by simp at hx⟩ #v[] (λi _ h2=>P.h0 i h2);simpa using this
 dsimp only;by_cases R:1=b.size
 ·rw [if_pos (by simpa using R)]
  refine Ba (h _ _ S (zrs R (m0.finB' P.sa R)))
 rw[if_neg (by simpa using R)];by_cases M:0+1=a.size
 ·rw [if_pos (by simpa using M)]
  exact Ba (h _ _ S (zrp (m0.finL P.sa P.sb M P.ha)))
 rw [if_neg (by simpa using M)];refine bSq (Ij ?_);refine bSq (Eu (Cu (I:=λx c Y=>SG κ a₀ pd xs Y/\L5 (LX le a b x) c)
  (Q:=λc Y=>SG κ a₀ pd xs Y/\Fi (λr=>Fin le a b r.toList) c) ?os ?of ⟨S,.mk _ 0 1 _ ⟨m0,by symm,by symm,by symm⟩⟩) ?op)
 case of =>
  rintro c Y ⟨_,out,p,d,mg,b2,b3,b4,b5⟩;exfalso;symm
 case op =>
  rintro c Y hC;refine aG λG t=>?_;obtain⟨b1,r,g,b2⟩:=hC;refine t ?_;clear t;clear G;exact Ba (h _ _ b1 b2)
 case os =>
  rintro x c Y _ hx hC;refine aG λG t=>?_;obtain ⟨S2,out,p,d,mg,Z2⟩:=hC;refine t ?_;clear t;clear G;dsimp only;refine Bq (Eu (Cu (I:=λy c s3=>s3=Y/\L6 (LX le a b x) c)
   (Q:=λc s3=>s3=Y/\(Fi (λr=>Fin le a b r.toList) c\/L6 (LX le a b x) c)) ?is1 ?if1 ⟨rfl,.mk out p d 0 0 Z2⟩) ?ip1)
  case if1 =>
   rintro c s3 ⟨D,z⟩;exact⟨D,.inr z⟩
  case is1 =>
   rintro y c s3 _ hy hC;refine aG λG t=>?_;obtain⟨D,out,p,d,ac,bc,m3,c3,U,c5⟩:=hC;refine t ?_;clear t;clear G;subst D;dsimp only;refine bSq (zba U (bSq (zba #v[] (Bq (q_lt C S2 (P.mb _ U) (P.ma _ #v[]) ?_)))));have bb:=P.bf p d #v[] U;cases q:lt (G b d) (G a p) with
   | true =>
    dsimp only;refine Bq (zba U ?_);have F:MI le a b (out.push (G b d)).toList p (d+1):=by
     rw[Eh];exact m3.pushB P.sb U λi B K=>O.tr (O.f2 q) (leA _ _ B K)
    by_cases e:d+1=b.size
    ·rw [if_pos (by simpa using e)]
     refine Ba ⟨rfl,.inl (.mk _ _ (zrs e ?_))⟩;rw[e] at F;exact F.finB P.sa
    ·rw [if_neg (by simpa using e)]
     split
     ·exact Ba ⟨rfl,.inr (.mk _ _ _ _ _ ⟨F,c3,by symm,by symm⟩)⟩
     ·exact Ba ⟨rfl,.mk _ _ _ _ _ ⟨F,c3,by symm,by symm⟩⟩
   | false =>
    dsimp only;refine Bq (zba (by symm) ?_);have F:MI le a b (out.push (G a p)).toList (p+1) d:=by
     rw[Eh];exact m3.pushA P.sa #v[] λj B K=>O.tr ((O.f1 bb).mp q) (leB _ _ B K)
    by_cases e:p+1+1=a.size
    ·rw [if_pos (by simpa using e)]
     exact Ba ⟨rfl,.inl (.mk _ _ (zrp (F.finL P.sa P.sb e P.ha)))⟩
    ·rw [if_neg (by simpa using e)]
     split
     ·exact Ba ⟨rfl,.inr (.mk _ _ _ _ _ ⟨F,by symm,U,by symm⟩)⟩
     ·exact Ba ⟨rfl,.mk _ _ _ _ _ ⟨F,by symm,U,by symm⟩⟩
  case ip1 =>
   rintro c s3 ⟨D,z⟩;subst D;refine aG λG t=>?_;rcases z with⟨r,g,f⟩|⟨out,p,d,ac,bc,m3,c3,U,c5⟩
   ·refine t ?_
    clear t;clear G;exact Ba ⟨S2,.mk _ _ f⟩
   ·refine t ?_
    clear t;clear G;dsimp only;refine bSq (wpS_lift (Dr ⟨rfl,?_⟩));refine bSq (Eu (Cu (I:=λy c s4=>SG κ a₀ pd xs s4/\L7 (LX le a b (x+y)) c)
     (Q:=λc s4=>SG κ a₀ pd xs s4/\(Fi (λr=>Fin le a b r.toList) c\/L7 (LX le a b (x+1)) c)) ?gs ?gf ⟨S2,.mk out p d _ ac bc ⟨m3,c3,U,by symm⟩⟩) ?gp)
    case gf =>
     rintro c s4 ⟨S4,out,p,d,mg,ac,bc,F,d3,X,d5⟩;exact⟨S4,.inr (.mk _ _ _ _ _ _ ⟨F,d3,X,by symm⟩)⟩
    case gp =>
     rintro c s4 ⟨S4,z⟩;refine aG λG t=>?_;rcases z with⟨r,g,f⟩|⟨out,p,d,mg,ac,bc,Z4⟩
     ·refine t ?_
      clear t;clear G;exact Ba ⟨S4,.mk _ _ f⟩
     ·refine t ?_
      clear t;clear G;exact bSq (zsg S4 λs5 L=>Ba ⟨L,.mk _ _ _ _ Z4⟩)
    case gs =>
     rintro y c s4 _ hy hC;refine aG λG t=>?_;obtain⟨S4,out,p,d,mg,ac,bc,F,d3,X,d5⟩:=hC;refine t ?_;clear t;clear G;refine zx3 λQ' Z=>?_
     revert mg
     refine q_eq (λ_=>rfl) λmg=>?_;refine bSq (zsg S4 λs5 L=>bSq (zba X (bSq (zt4 (left:=Zc) (key:=G b d) (arr:=a) (base:=p) (n:=a.size-p) (hint:=0) C L.i.kind (P.mb _ X) #v[] (λi hi=>P.ma _ #v[]) (λi hi=>rfl) (λi j h1 h2 h3=>?mono1) #v[] λk k1 k2 k3=>?_))))
     case mono1 =>
      have h3':lt (G b d) (G a (p+j))=Zc:=by simpa using h3
      have l1:=(O.f1 (P.bf (p+j) d #v[] X)).mp h3';have l2:=(O.f1 (P.bf (p+i) d #v[] X)).mpr (O.tr (leA _ _ #v[] #v[]) l1);rw[l2];rfl
     have w1:∀i,p<=i->i<p+k->le (G a i) (G b d):=λi B K=>by
      have:=k2 (i-p) #v[];rw[Hj B] at this;exact (O.f1 (P.bf i d #v[] X)).mp (by simpa using this)
     have w2:∀i,p+k<=i->i<a.size->le (G b d) (G a i):=λi B K=>by
      have:=k3 (i-p) #v[] #v[];rw[Hj (Cm (Ep _ _) B)] at this;exact O.f2 (by simpa using this)
     have m5:MI le a b (out++a.extract p (p+k)).toList (p+k) d:=by
      rw[Bz,zdh,Nat.add_sub_cancel_left];exact F.appA P.sa k #v[] λi B K j g3 g4=>O.tr (w1 i B K) (leB _ _ g3 g4)
     generalize eou:out=out'
     revert out'
     generalize ena:p=na'
     revert na'
     refine z39 (λm u=>MI le a b u.toList m d/\(∀i,m<=i->i<a.size->le (G b d) (G a i))/\m+1<a.size/\x+y<=m+d) (λhk0=>?_) (λhc H=>?_) λm u ⟨n5,u1,b6,p6⟩=>?_
     ·have k0:k=0:=by symm
      subst k0;exact⟨F,w2,d3,d5⟩
     ·refine q_if (λR => ?_) λR => ?_
      ·have R:p+k+1=a.size:=by simpa using R
       exact Ba (Z _ _ ⟨L,.inl (.mk _ _ (zrp (m5.finL P.sa P.sb R P.ha)))⟩)
      have R:¬ p+k+1=a.size:=by simpa using R
      refine q_if (λM=>?_) λM=>?_
      ·have M:p+k=a.size:=by simpa using M
       exact Ba (Z _ _ ⟨L,.inl (.mk _ _ (ydb M (m5.finA' P.sb M)))⟩)
      have M:¬ p+k=a.size:=by simpa using M
      exact H _ _ ⟨m5,w2,by symm,by symm⟩
     dsimp (config:={ failIfUnchanged:=Zc }) only;refine bSq (zba X ?_);have m6:MI le a b (u.push (G b d)).toList m (d+1):=by
      rw[Eh];exact n5.pushB P.sb X u1
     refine q_if (λD=>?_) λD=>?_
     ·have D:d+1=b.size:=by simpa using D
      exact Ba (Z _ _ ⟨L,.inl (.mk _ _ (zrs D (m6.finB' P.sa D)))⟩)
     have D:¬ d+1=b.size:=by simpa using D
     refine bSq (zba #v[] (bSq (zt4 (left:=Zd) (key:=G a m) (arr:=b) (base:=d+1) (hint:=0) C L.i.kind (P.ma _ #v[]) #v[] (λj hj=>P.mb _ #v[]) (λj hj=>rfl) (λi j h1 h2 h3=>?mono2) #v[] λl l1 l2 l3=>?_)))
     case mono2 =>
      have n1:=O.f3 (P.bf m (d+1+j) #v[] #v[]) h3;cases q:lt (G b (d+1+i)) (G a m) with
      |true=>rfl
      |false=>exact absurd (O.tr ((O.f1 (P.bf m (d+1+i) #v[] #v[])).mp q) (leB _ _ #v[] #v[])) n1
     have v1:∀j,d+1<=j->j<d+1+l->le (G b j) (G a m):=λj B K=>by
      have:=l2 (j-(d+1)) #v[];rw[Hj B] at this;exact O.f2 this
     have v2:∀j,d+1+l<=j->j<b.size->le (G a m) (G b j):=λj B K=>by
      have:=l3 (j-(d+1)) #v[] #v[];rw[Hj (Cm (Ep _ _) B)] at this;exact (O.f1 (P.bf m j #v[] K)).mp this
     have m7:MI le a b (u.push (G b d)++b.extract (d+1) (d+1+l)).toList m (d+1+l):=by
      rw[Bz,zdh,Nat.add_sub_cancel_left];exact m6.appB P.sb l #v[] λj B K i g3 g4=>O.tr (v1 j B K) (leA _ _ g3 g4)
     dsimp (config:={ failIfUnchanged:=Zc }) only;generalize hnb:d+1=ib1 at m7 m6 v2 D ⊢;generalize hout:u.push (G b d)=N at m7 m6 ⊢;generalize eou:N=out'
     revert out'
     generalize ena:ib1=na'
     revert na'
     refine z39 (λJ N=>MI le a b N.toList m J/\(∀j,J<=j->j<b.size->le (G a m) (G b j))/\J<b.size/\x+y+1<=m+J) (λhl0=>?_) (λhc H=>?_) λJ out3 ⟨n7,u2,b7,p7⟩=>?_
     ·have k0:l=0:=by symm
      subst k0;exact⟨m6,v2,by symm,by symm⟩
     ·refine q_if (λe4 => ?_) λe4 => ?_
      ·have e4:ib1+l=b.size:=by simpa using e4
       exact Ba (Z _ _ ⟨L,.inl (.mk _ _ (zrs e4 (m7.finB' P.sa e4)))⟩)
      have e4:¬ ib1+l=b.size:=by simpa using e4
      exact H _ _ ⟨m7,v2,by symm,by symm⟩
     dsimp (config:={ failIfUnchanged:=Zc }) only;refine bSq (zba (by symm) ?_);have m8:MI le a b (out3.push (G a m)).toList (m+1) J:=by
      rw[Eh];exact n7.pushA P.sa #v[] u2
     refine q_if (λe5=>?_) λe5=>?_
     ·have e5:m+1+1=a.size:=by simpa using e5
      exact Ba (Z _ _ ⟨L,.inl (.mk _ _ (zrp (m8.finL P.sa P.sb e5 P.ha)))⟩)
     have e5:¬ m+1+1=a.size:=by simpa using e5
     refine q_if (λ_=>?_) λ_=>?_
     ·exact Ba (Z _ _ ⟨L,.inr (.mk _ _ _ _ _ _ ⟨m8,by symm,b7,by symm⟩)⟩)
     ·exact Ba (Z _ _ ⟨L,.mk _ _ _ _ _ _ ⟨m8,by symm,b7,by symm⟩⟩)
end
end Tim
namespace Tim
section
variable {prog:Program}{w:World}{A:Around}{E:Ze->Zf->Prop}{s:Zf}{κ:SortKind}{a₀:Array Keyed}{lt:Keyed->Keyed->Bool}{bf le:Keyed->Keyed->Prop}{st:SortSt}{pd:Array (Nat × Nat × Nat)}
variable {a b out:Array Keyed}{o:List Keyed}{na nb at_:Nat}
theorem MH.pushA' (S:Srt le a 0 a.size)(m:MH le a b out.toList.reverse na nb)(d:1<=na)(h:na<=a.size)(c:∀j,j<nb->le (G b j) (G a (na-1))):MH le a b (out.push (G a (na-1))).toList.reverse (na-1) nb:=by
 obtain⟨n,rfl⟩ : ∃n,na=n+1:=⟨na-1,by symm⟩;rw[Eh,List.reverse_append];exact m.pushA S #v[] c
theorem MH.pushB' (S:Srt le b 0 b.size)(m:MH le a b out.toList.reverse na nb)(d:1<=nb)(h:nb<=b.size)(c:∀i,i<na->le (G a i) (G b (nb-1))):MH le a b (out.push (G b (nb-1))).toList.reverse na (nb-1):=by
 obtain⟨n,rfl⟩ : ∃n,nb=n+1:=⟨nb-1,by symm⟩;rw[Eh,List.reverse_append];exact m.pushB S #v[] c
theorem zvl (x:Array Keyed)(i j:Nat):(out++(x.extract i j).reverse).toList.reverse=(x.toList.drop i).take (j-i)++out.toList.reverse:=by
 rw[Bz,List.reverse_append,He,List.reverse_reverse,zdh]
theorem MH.appA' (S:Srt le a 0 a.size)(m:MH le a b out.toList.reverse na nb)(d:at_<=na)(h:na<=a.size)(c:∀i,at_<=i->i<na->∀j,j<nb->le (G b j) (G a i)):MH le a b (out++(a.extract at_ na).reverse).toList.reverse at_ nb:=by
 rw[zvl];obtain⟨k,rfl⟩ : ∃k,na=at_+k:=⟨na-at_,by symm⟩;rw[show at_+k-at_=k by symm];exact MH.appA S k at_ m h c
theorem MH.appB' (S:Srt le b 0 b.size)(m:MH le a b out.toList.reverse na nb)(d:at_<=nb)(h:nb<=b.size)(c:∀j,at_<=j->j<nb->∀i,i<na->le (G a i) (G b j)):MH le a b (out++(b.extract at_ nb).reverse).toList.reverse na at_:=by
 rw[zvl];obtain⟨k,rfl⟩ : ∃k,nb=at_+k:=⟨nb-at_,by symm⟩;rw[show at_+k-at_=k by symm];exact MH.appB S k at_ m h c
theorem zeq (x:Array Keyed)(n:Nat):(x.extract 0 n).toList=x.toList.take n:=by rw[zdh,Ga,Nat.sub_zero]
theorem MH.done0 (S:Srt le b 0 b.size)(m:MH le a b out.toList.reverse na nb)(e:na=0):Fin le a b (a.extract 0 na++b.extract 0 nb++out.reverse).toList:=by
 subst e;rw[Bz,Bz,zeq,zeq,He];exact m.finA S
theorem MH.done1 (S:Srt le a 0 a.size)(m:MH le a b out.toList.reverse na nb)(e:nb=0):Fin le a b (a.extract 0 na++b.extract 0 nb++out.reverse).toList:=by
 subst e;rw[Bz,Bz,zeq,zeq,Dy,Bu,He];exact m.finB S
theorem MH.first (c:Srt le a 0 a.size)(S:Srt le b 0 b.size)(m:MH le a b out.toList.reverse na nb)(e:nb=1)(H:∀i,i<a.size->le (G b 0) (G a i)):Fin le a b (b.extract 0 nb++a.extract 0 na++out.reverse).toList:=by
 subst e;rw[Bz,Bz,zeq,zeq,He];exact m.finF c S H
structure HX (le:Keyed->Keyed->Prop) (a b:Array Keyed) (x:Nat) (out:Array Keyed) (na nb:Nat):Prop where
 m:MH le a b out.toList.reverse na nb
 l:1<=na
 r:2<=nb
 s:na<=a.size
 t:nb<=b.size
 u:x+na+nb<=a.size+b.size
inductive H5 (P:Array Keyed->Nat->Nat->Prop):Option (Array Keyed)×Nat×Nat×Array Keyed×Nat->Prop
 |mk (out:Array Keyed) (na nb mg:Nat):P out na nb->H5 P (Zb,na,nb,out,mg)
inductive H6 (P:Array Keyed->Nat->Nat->Prop):Option (Array Keyed)×Nat×Nat×Array Keyed×Nat×Nat->Prop
 |mk (out:Array Keyed) (na nb ac bc:Nat):P out na nb->H6 P (Zb,na,nb,out,ac,bc)
inductive H7 (P:Array Keyed->Nat->Nat->Prop):Option (Array Keyed)×Nat×Nat×Array Keyed×Nat×Nat×Nat->Prop
 |mk (out:Array Keyed) (na nb mg ac bc:Nat):P out na nb->H7 P (Zb,na,nb,out,mg,ac,bc)
theorem yhq (C:Asks prog w A E s κ a₀ lt) (O:Ord lt bf le) {a b xs:Array Keyed}{Q:Array Keyed->SortSt->Prop} (S:SG κ a₀ pd xs st) (P:MP lt bf le a₀ a b)
  (h:∀r st',SG κ a₀ pd xs st'->Fin le a b r.toList->Q r st'):wpS (model prog w) A E s (mHi a b) Q st:=by
 have U:∀i j,i<=j->j<a.size->le (G a i) (G a j):=λi j h1 h2=>by
  by_cases e:i=j
  ·rw[e];exact O.rf _
  ·exact P.sa i j (Bm _) #v[] h2
 have N:∀i j,i<=j->j<b.size->le (G b i) (G b j):=λi j h1 h2=>by
  by_cases e:i=j
  ·rw[e];exact O.rf _
  ·exact P.sb i j (Bm _) #v[] h2
 have pa:=P.a1;have pb:=P.b1;refine bSq (wpS_lift (Dr ⟨rfl,?_⟩));refine Bq (zba (show a.size-1<a.size by symm) ?_);have m0:MH le a b (#[G a (a.size-1)]:Array Keyed).toList.reverse (a.size-1) b.size:=by
  have:=MH.pushA' (out:=#[]) (na:=a.size) (nb:=b.size) (a:=a) (b:=b) P.sa ⟨by simp,.nil,λx hx=>by simp at hx,λx hx=>by simp at hx⟩ pa (Af _) P.ha;simpa using this
 dsimp only;by_cases F:a.size-1=0
 ·rw [if_pos (by simpa using F)]
  exact Ba (h _ _ S (m0.done0 P.sb F))
 rw[if_neg (by simpa using F)];by_cases e2:b.size=1
 ·rw [if_pos (by simpa using e2)]
  exact Ba (h _ _ S (m0.first P.sa P.sb e2 P.h0))
 rw [if_neg (by simpa using e2)];refine bSq (Ij ?_);refine bSq (Eu (Cu (I:=λx c L=>SG κ a₀ pd xs L/\H5 (HX le a b x) c)
  (Q:=λc L=>SG κ a₀ pd xs L/\Fi (λr=>Fin le a b r.toList) c) ?os ?of ⟨S,.mk _ (a.size-1) b.size _ ⟨m0,by symm,by symm,by symm,by symm,by symm⟩⟩) ?op)
 case of =>
  rintro c L ⟨_,out,na,nb,J,b2,b3,b4,b5,b6,b7⟩;exfalso;symm
 case op =>
  rintro c L R;refine aG λG m=>?_;obtain⟨b1,r,g,b2⟩:=R;refine m ?_;clear m;clear G;exact Ba (h _ _ b1 b2)
 case os =>
  rintro x c L _ hx R;refine aG λG m=>?_;obtain ⟨S2,out,na,nb,J,Z2⟩:=R;refine m ?_;clear m;clear G;dsimp only;refine Bq (Eu (Cu (I:=λy c X=>X=L/\H6 (HX le a b x) c)
   (Q:=λc X=>X=L/\(Fi (λr=>Fin le a b r.toList) c\/H6 (HX le a b x) c)) ?is1 ?if1 ⟨rfl,.mk out na nb 0 0 Z2⟩) ?ip1)
  case if1 =>
   rintro c X ⟨t,z⟩;exact⟨t,.inr z⟩
  case is1 =>
   rintro y c X _ hy R;refine aG λG m=>?_;obtain⟨t,out,na,nb,ac,bc,m3,c3,c4,c5,c6,c7⟩:=R;refine m ?_;clear m;clear G;subst t;dsimp only;refine bSq (zba #v[] (bSq (zba #v[] (Bq (q_lt C S2 (P.mb _ #v[]) (P.ma _ #v[]) ?_)))));have bb:=P.bf (na-1) (nb-1) #v[] #v[];cases q:lt (G b (nb-1)) (G a (na-1)) with
   | true =>
    dsimp only;rw[if_pos rfl];refine Bq (zba #v[] ?_);have p:=m3.pushA' P.sa c3 c5 λj g=>O.tr (N j (nb-1) #v[] #v[]) (O.f2 q);by_cases e:na-1=0
    ·rw [if_pos (by simpa using e)]
     exact Ba ⟨rfl,.inl (.mk _ _ (p.done0 P.sb e))⟩
    ·rw [if_neg (by simpa using e)]
     split
     ·exact Ba ⟨rfl,.inr (.mk _ _ _ _ _ ⟨p,by symm,by symm,by symm,by symm,by symm⟩)⟩
     ·exact Ba ⟨rfl,.mk _ _ _ _ _ ⟨p,by symm,by symm,by symm,by symm,by symm⟩⟩
   | false =>
    dsimp only;rw[if_neg #v[0,9]];refine Bq (zba #v[] ?_);have p:=m3.pushB' P.sb #v[] c6 λi g=>O.tr (U i (na-1) #v[] #v[]) ((O.f1 bb).mp q);by_cases e:nb-1=1
    ·rw [if_pos (by simpa using e)]
     exact Ba ⟨rfl,.inl (.mk _ _ (p.first P.sa P.sb e P.h0))⟩
    ·rw [if_neg (by simpa using e)]
     split
     ·exact Ba ⟨rfl,.inr (.mk _ _ _ _ _ ⟨p,by symm,by symm,by symm,by symm,by symm⟩)⟩
     ·exact Ba ⟨rfl,.mk _ _ _ _ _ ⟨p,by symm,by symm,by symm,by symm,by symm⟩⟩
  case ip1 =>
   rintro c X ⟨t,z⟩;subst t;refine aG λG m=>?_;rcases z with⟨r,g,f⟩|⟨out,na,nb,ac,bc,m3,c3,c4,c5,c6,c7⟩
   ·refine m ?_
    clear m;clear G;exact Ba ⟨S2,.mk _ _ f⟩
   ·refine m ?_
    clear m;clear G;dsimp only;refine bSq (wpS_lift (Dr ⟨rfl,?_⟩));refine Bq (Eu (Cu (I:=λy c s4=>SG κ a₀ pd xs s4/\H7 (HX le a b (x+y)) c)
     (Q:=λc s4=>SG κ a₀ pd xs s4/\(Fi (λr=>Fin le a b r.toList) c\/H7 (HX le a b (x+1)) c)) ?gs ?gf ⟨S2,.mk out na nb _ ac bc ⟨m3,c3,c4,c5,c6,by symm⟩⟩) ?gp)
    case gf =>
     rintro c s4 ⟨S4,out,na,nb,J,ac,bc,p,d3,d4,d5,d6,d7⟩;exact⟨S4,.inr (.mk _ _ _ _ _ _ ⟨p,d3,d4,d5,d6,by symm⟩)⟩
    case gp =>
     rintro c s4 ⟨S4,z⟩;refine aG λG m=>?_;rcases z with⟨r,g,f⟩|⟨out,na,nb,J,ac,bc,Z4⟩
     ·refine m ?_
      clear m;clear G;exact Ba ⟨S4,.mk _ _ f⟩
     ·refine m ?_
      clear m;clear G;dsimp only;exact bSq (zsg S4 λs5 u=>Ba ⟨u,.mk _ _ _ _ Z4⟩)
    case gs =>
     rintro y c s4 _ hy R;refine aG λG m=>?_;obtain⟨S4,out,na,nb,J,ac,bc,p,d3,d4,d5,d6,d7⟩:=R;refine m ?_;clear m;clear G;refine zx3 λQ' M=>?_;generalize J=J
     revert J
     refine q_eq (g:=λJ=>J-1) (λ_=>rfl) λJ=>?_;refine bSq (zsg S4 λs5 u=>bSq (zba (show nb-1<b.size by symm) (Bq (zt4 (left:=Zc) (key:=G b (nb-1)) (arr:=a) (base:=0) (n:=na) (hint:=na-1) C u.i.kind (P.mb _ #v[]) #v[] (λi hi=>P.ma _ #v[]) (λi hi=>rfl) (λi j h1 h2 h3=>?mono1) #v[] λk k1 k2 k3=>?_))))
     case mono1 =>
      have h3':lt (G b (nb-1)) (G a (0+j))=Zc:=by simpa using h3
      have l1:=(O.f1 (P.bf (0+j) (nb-1) #v[] #v[])).mp h3';have l2:=(O.f1 (P.bf (0+i) (nb-1) #v[] #v[])).mpr (O.tr (U _ _ #v[] #v[]) l1);rw[l2];rfl
     have w1:∀i,i<k->le (G a i) (G b (nb-1)):=λi K=>by
      have:=k2 i K;exact (O.f1 (P.bf i (nb-1) #v[] #v[])).mp (by simpa using this)
     have w2:∀i,k<=i->i<na->le (G b (nb-1)) (G a i):=λi K g2=>by
      have:=k3 i #v[] #v[];rw[Dv] at this;exact O.f2 (by simpa using this)
     have m5:=p.appA' P.sa k1 d5 λi K g2 j g3=>O.tr (N j (nb-1) #v[] #v[]) (w2 i K g2);dsimp only;generalize hac:na-k=ac1 at m5 ⊢;generalize eou:out=out'
     revert out'
     generalize ena:na=na'
     revert na'
     refine z39 (λd D=>MH le a b D.toList.reverse d nb/\(∀i,i<d->le (G a i) (G b (nb-1)))/\(1<=d/\d<=a.size)/\x+y+d+nb<=a.size+b.size) (λhk0=>?_) (λhc H=>?_) λd D ⟨n5,u1,b8,p6⟩=>?_
     ·have k0:k=na:=by symm
      exact⟨p,k0 ▸ w1,by symm,by symm⟩
     ·refine q_if (λF => ?_) λF => ?_
      ·have F:k=0:=by simpa using F
       exact Ba (M _ _ ⟨u,.inl (.mk _ _ (m5.done0 P.sb F))⟩)
      have F:¬ k=0:=by simpa using F
      exact H _ _ ⟨m5,w1,by symm,by symm⟩
     dsimp (config:={ failIfUnchanged:=Zc }) only;refine bSq (zba #v[] ?_);have m6:=n5.pushB' P.sb #v[] d6 u1;refine q_if (λt=>?_) λt=>?_
     ·have t:nb-1=1:=by simpa using t
      exact Ba (M _ _ ⟨u,.inl (.mk _ _ (m6.first P.sa P.sb t P.h0))⟩)
     have t:¬ nb-1=1:=by simpa using t
     refine bSq (zba (show d-1<a.size by symm) (Bq (zt4 (left:=Zd) (key:=G a (d-1)) (arr:=b) (base:=0) (n:=nb-1) (hint:=nb-1-1) C u.i.kind (P.ma _ #v[]) #v[] (λj hj=>P.mb _ #v[]) (λj hj=>rfl) (λi j h1 h2 h3=>?mono2) #v[] λl l1 l2 l3=>?_)))
     case mono2 =>
      have n1:=O.f3 (P.bf (d-1) (0+j) #v[] #v[]) h3;cases q:lt (G b (0+i)) (G a (d-1)) with
      |true=>rfl
      |false=>exact absurd (O.tr ((O.f1 (P.bf (d-1) (0+i) #v[] #v[])).mp q) (N _ _ #v[] #v[])) n1
     have v1:∀j,j<l->le (G b j) (G a (d-1)):=λj K=>by
      have:=l2 j K;rw[Dv] at this;exact O.f2 this
     have v2:∀j,l<=j->j<nb-1->le (G a (d-1)) (G b j):=λj K g2=>by
      have:=l3 j #v[] #v[];rw[Dv] at this;exact (O.f1 (P.bf (d-1) j #v[] #v[])).mp this
     have Z:=m6.appB' P.sb l1 #v[] λj K g2 i g3=>O.tr (U i (d-1) #v[] #v[]) (v2 j K g2);dsimp only;generalize hbc:nb-1-l=bc1 at Z ⊢;generalize hnb:nb-1=nb1 at hbc Z m6 ⊢;generalize hout:D.push (G b nb1)=B at Z m6 ⊢;generalize eou:B=out'
     revert out'
     generalize ena:nb1=na'
     revert na'
     refine z39 (λo B=>MH le a b B.toList.reverse d o/\(∀j,j<o->le (G b j) (G a (d-1)))/\(2<=o/\o<=b.size)/\x+y+1+d+o<=a.size+b.size) (λhl0=>?_) (λhc H=>?_) λo out3 ⟨n7,u2,b7,p7⟩=>?_
     ·have k0:l=nb1:=by symm
      exact⟨m6,k0 ▸ v1,by symm,by symm⟩
     ·refine q_if (λe4 => ?_) λe4 => ?_
      ·have e4:l=1:=by simpa using e4
       exact Ba (M _ _ ⟨u,.inl (.mk _ _ (Z.first P.sa P.sb e4 P.h0))⟩)
      have e4:¬ l=1:=by simpa using e4
      refine q_if (λe6=>?_) λe6=>?_
      ·have e6:l=0:=by simpa using e6
       exact Ba (M _ _ ⟨u,.inl (.mk _ _ (Z.done1 P.sa e6))⟩)
      have e6:¬ l=0:=by simpa using e6
      exact H _ _ ⟨Z,v1,by symm,by symm⟩
     dsimp (config:={ failIfUnchanged:=Zc }) only;refine bSq (zba #v[] ?_);have m8:=n7.pushA' P.sa b8.1 b8.2 u2;refine q_if (λY=>?_) λY=>?_
     ·have Y:d-1=0:=by simpa using Y
      exact Ba (M _ _ ⟨u,.inl (.mk _ _ (m8.done0 P.sb Y))⟩)
     have Y:¬ d-1=0:=by simpa using Y
     refine q_if (λ_=>?_) λ_=>?_
     ·exact Ba (M _ _ ⟨u,.inr (.mk _ _ _ _ _ _ ⟨m8,by symm,by symm,by symm,by symm,by symm⟩)⟩)
     ·exact Ba (M _ _ ⟨u,.mk _ _ _ _ _ _ ⟨m8,by symm,by symm,by symm,by symm,by symm⟩⟩)
end
end Tim
namespace Tim
noncomputable def wr (xs:Array Keyed) (s0:Nat) (l:List Keyed) (m:Nat):Array Keyed:=(l.zipIdx m).foldl (λa (x:Keyed×Nat)=>match x with|(p,j)=>a.setIfInBounds (s0+j) p) xs
theorem zw8 (xs:Array Keyed)(s0:Nat)(p:Keyed)(l:List Keyed)(m:Nat):wr xs s0 (p::l) m=wr (xs.setIfInBounds (s0+m) p) s0 l (m+1):=by unfold wr;rw[List.zipIdx_cons,List.foldl_cons]
theorem zyh (s0:Nat):∀(l:List Keyed) (m:Nat) (xs:Array Keyed),(wr xs s0 l m).size=xs.size
 |[],m,xs=>rfl
 |p::l,m,xs=>by rw[zw8,zyh s0 l,Array.size_setIfInBounds]
theorem yhd (h:i<xs.size):G (xs.setIfInBounds i p) k=if i=k then p else G xs k:=by
 unfold G;rw[Array.getElem?_setIfInBounds];split
 ·rename_i e
  first|rfl|(rw[if_pos h];rfl)
 ·rfl
theorem G_wr (s0:Nat):∀(l:List Keyed) (m:Nat) (xs:Array Keyed),s0+m+l.length<=xs.size->∀i,G (wr xs s0 l m) i=if s0+m<=i/\i<s0+m+l.length then (l[i-(s0+m)]?).getD d0 else G xs i
 |[],m,xs,h,i=>by rw[if_neg (by simp)];rfl
 | p::l,m,xs,h,i=>by
  rw[Bg] at h;rw[zw8,G_wr s0 l (m+1) _ (by rw[Array.size_setIfInBounds];symm),yhd #v[]];rw[Bg];by_cases c:i=s0+m
  ·subst c
   rw[if_neg #v[],if_pos rfl,if_pos ⟨by symm,by symm⟩,Nat.sub_self]
   rfl
  ·by_cases a:s0+m ≤ i /\ i<s0+m+(l.length+1)
   ·rw[if_pos ⟨by symm,by symm⟩,if_pos a,show i-(s0+m)=i-(s0+(m+1))+1 by symm,List.getElem?_cons_succ]
   ·rw[if_neg #v[],if_neg #v[],if_neg a]
theorem zr0 (h:i<xs.size):G xs i=xs[i]:=by unfold G;rw[getElem?_pos xs i h];rfl
theorem zrg (b:j<=xs.size)(a:i+k<j):G (xs.extract i j) k=G xs (i+k):=by
 have h:k<(xs.extract i j).size:=by rw[Array.size_extract];symm
 rw[zr0 h,Array.getElem_extract,zr0 #v[]]
theorem zei {xs:Array Keyed}{i j:Nat}(h:j<=xs.size):(xs.extract i j).size=j-i:=by rw[Array.size_extract];symm
theorem yiu (A:s0<=m)(y:m<=e)(h:e<=xs.size)(p:r.Perm ((xs.extract s0 m).toList++(xs.extract m e).toList)):Re xs (wr xs s0 r 0) s0 e/\r.length=e-s0:=by
 have f:r.length=e-s0:=by
  rw[p.length_eq,Bb,Cn,Cn,zei #v[],zei h];symm
 have b:=G_wr s0 r 0 xs #v[];refine⟨⟨?_,λi d=>?_,λi C D=>?_⟩,f⟩
 ·have g:(wr xs s0 r 0).toList=xs.toList.take s0++r++xs.toList.drop e:=by
   apply Ea;intro i;have sz:(wr xs s0 r 0).size=xs.size:=zyh _ _ _ _;by_cases d:i<xs.size
   ·have o:(wr xs s0 r 0).toList[i]? = Za (G (wr xs s0 r 0) i):=G_list #v[];rw[o,b i];by_cases x:i<s0
    ·rw[if_neg #v[],Bf,Cr (by simp;symm),List.getElem?_take_of_lt x,G_list d]
    ·by_cases B:i<e
     ·rw[if_pos ⟨by symm,by symm⟩,Bf,Db (by simp;symm),Cr (by simp;symm)];have:(List.take s0 xs.toList).length=s0:=by simp;symm
      rw[this,Nat.add_zero,Ab #v[]]
      rfl
     ·rw[if_neg #v[],Db (by simp;symm),List.getElem?_drop];have:(List.take s0 xs.toList++r).length=e:=by simp;symm
      rw[this,show e+(i-e)=i by symm,G_list d]
   ·rw[Ck (by simp;symm),Ck (by simp;symm)]
  have u:xs.toList=xs.toList.take s0++((xs.extract s0 m).toList++(xs.extract m e).toList)++xs.toList.drop e:=by
   rw[zdh,zdh];have s:(xs.toList.drop s0).take (m-s0)++(xs.toList.drop m).take (e-m)=(xs.toList.drop s0).take (e-s0):=by
    rw[show e-s0=(m-s0)+(e-m) by symm,List.take_add,List.drop_drop,show s0+(m-s0)=m by symm]
   rw[s,Bf];have t:(xs.toList.drop s0).take (e-s0)++xs.toList.drop e=xs.toList.drop s0:=by
    have:=Cf (e-s0) (xs.toList.drop s0);rw[List.drop_drop,show s0+(e-s0)=e by symm] at this;exact this
   rw[t,Cf]
  refine Gb.mpr ?_;rw[g];have q:=(p.append_left (xs.toList.take s0)).append_right (xs.toList.drop e);rw[<-u] at q;exact q
 ·rw[b i,if_neg #v[]]
 ·rw[b i,if_pos ⟨by symm,by symm⟩,Ab #v[]];have l:=p.mem_iff.mp (Ff (n:=i-(s0+0)) #v[]);show ∃j,s0<=j/\j<e/\r[i-(s0+0)]=G xs j;rcases Bh.mp l with z|z
  ·obtain⟨k,w,c,a⟩:=mem_drop (by rw[Ga];exact z);rw[zei #v[]] at c;exact⟨s0+k,by symm,by symm,by rw[a,zrg #v[] #v[]]⟩
  ·obtain⟨k,w,c,a⟩:=mem_drop (n:=0) (by rw[Ga];exact z);rw[zei h] at c;exact⟨m+k,by symm,by symm,by rw[a,zrg h #v[]]⟩
section
variable (bf le:Keyed->Keyed->Prop)
noncomputable def Chain (xs:Array Keyed):Nat->List (Nat×Nat×Nat)->Nat->Prop
 |c,[],h=>c=h
 |c,(s,n,_)::r,h=>s=c/\1<=n/\Srt le xs c (c+n)/\Cut bf xs c/\Chain xs (c+n) r h
end
section
theorem Chain.len:∀{l:List (Nat×Nat×Nat)}{c a:Nat},Chain bf le xs c l a->c+l.length<=a
 |[],c,a,h=>by cases h;simp
 | (s,n,_)::r,c,a,h=>by
  have:=Chain.len h.2.2.2.2;have:=h.2.1;rw[Bg];symm
theorem Chain.app:∀{l l':List (Nat×Nat×Nat)}{c a:Nat},Chain bf le xs c (l++l') a↔∃m,Chain bf le xs c l m/\Chain bf le xs m l' a
 |[],l',c,a=>⟨λh=>⟨c,rfl,h⟩,λ⟨m,e,h⟩=>by cases e;exact h⟩
 | (s,n,_)::r,l',c,a=>⟨λ⟨i,g,j,b,k⟩=>by
  obtain⟨m,d,f⟩:=Chain.app.mp k;exact⟨m,⟨i,g,j,b,d⟩,f⟩,λ⟨m,⟨i,g,j,b,d⟩,f⟩=>⟨i,g,j,b,Chain.app.mpr ⟨m,d,f⟩⟩⟩
theorem Chain.re:∀{l:List (Nat×Nat×Nat)}{c d b a:Nat},Chain bf le xs c l d->Re xs ys b a->a<=xs.size->(d<=b\/a<=c)->Chain bf le ys c l d
 |[],c,d,b,a,h,_,_,_=>h
 | (s,n,q)::r,c,d,b,a,⟨j,i,k,g,e⟩,R,f,m=>by
  have:=Chain.len e;exact⟨j,i,k.re R #v[],g.re R f #v[],Chain.re e R f #v[]⟩
end
section
variable {st:SortSt}
theorem yim (h:Q ⟨⟩ st'):wpS (model prog w) A E s (set st':StateT SortSt Sem PUnit) Q st:=by
 unfold wpS;rw[StateT.run_set];exact Aj ⟨rfl,h⟩
theorem ydu {P:SortSt->Prop}{Q:PUnit->SortSt->Prop}(b:P st')(h:∀a,P a->Q ⟨⟩ a):wpS (model prog w) A E s (set st':StateT SortSt Sem PUnit) Q st:=yim (h _ b)
theorem yb2 {l:List (Nat×Nat×Nat)}{i:Nat}(h:i+1<l.length):l=l.take i++l[i]::l[i+1]::l.drop (i+2):=by
 have a:=Cs (l:=l) (i:=i) #v[];have e:=Cs (l:=l) #v[];have:=Cf i l;rw[a,e] at this;exact this.symm
theorem zn1 (C:Asks prog w A E s κ a₀ lt) (O:Ord lt bf le) {i lo:Nat}{Q:Bool->SortSt->Prop} (I:SI κ a₀ pd st) (u:i+1<pd.size) (ch:Chain bf le (arrOf st) 0 pd.toList lo) (hlo:lo<=a₀.size)
  (h:∀f p,SI κ a₀ p f->p.size+1=pd.size->Chain bf le (arrOf f) 0 p.toList lo->Re (arrOf st) (arrOf f) 0 lo->Q Zd f):wpS (model prog w) A E s (mergeAt' i) Q st:=by
 have sz:=I.size;have M:i+1<pd.toList.length:=by simpa using u
 have es:=yb2 M;obtain⟨⟨a,b,U⟩,ea⟩ : ∃t,pd.toList[i]=t:=⟨_,rfl⟩;obtain⟨⟨sb,y,pw'⟩,eb⟩ : ∃t,pd.toList[i+1]=t:=⟨_,rfl⟩;rw[ea,eb] at es;have ch0:=ch;rw[es] at ch;obtain⟨m,c1,⟨e1,a2,a3,a4,⟨e2,b2,b3,b4,c2⟩⟩⟩:=Chain.app.mp ch;subst e1;subst e2;have l2:=Chain.len c2;have np:∃p:Array (Nat×Nat×Nat),p=(pd.setIfInBounds i (a,b+y,U)).eraseIdxIfInBounds (i+1)/\p.size+1=pd.size/\p.toList=pd.toList.take i++(a,b+y,U)::pd.toList.drop (i+2):=by
  refine (λ(q:((pd.setIfInBounds i (a,b+y,U)).eraseIdxIfInBounds (i+1)).toList=_)=>⟨_,rfl,by
   have L:=congrArg List.length q;rw[Cn,Bb,Bg,De,Gz,Cn] at L;symm,q⟩) ?_
  ·rw [Array.toList_eraseIdxIfInBounds,Array.toList_setIfInBounds];have:(pd.toList.set i (a,b+y,U))=pd.toList.take i++(a,b+y,U)::(a+b,y,pw')::pd.toList.drop (i+2):=by
    rw[List.set_eq_take_append_cons_drop,if_pos #v[],Cs M,eb]
   rw[this];have l3:(pd.toList.take i).length=i:=by rw[De];symm
   rw[List.eraseIdx_append_of_length_le #v[],l3,show i+1-i=1 by symm]
   rfl
 obtain⟨p,epd,zpd,lpd⟩:=np;have fin:∀f,kindOf f=κ->failedOf f=Zb->pendingOf f=p->Re (arrOf st) (arrOf f) a (a+b+y)->Srt le (arrOf f) a (a+b+y)->Q Zd f:=λf k1 k2 k3 R S=>by
  refine h f p ⟨k1,k2,R.perm.trans I.perm,k3⟩ zpd ?_ (R.mono #v[] #v[]);rw[lpd];refine Chain.app.mpr ⟨a,c1.re R #v[] (.inl (Af _)),rfl,by symm,?_,a4.re R #v[] (.inl (Af _)),?_⟩
  ·rw[<-Nat.add_assoc];exact S
  ·rw[<-Nat.add_assoc];exact c2.re R #v[] (.inr (Af _))
 have J:∀i j,a<=i->i<=j->j<a+b->le (G (arrOf st) i) (G (arrOf st) j):=λi j o x g=>by
  by_cases e:i=j
  ·rw[e];exact O.rf _
  ·exact a3 i j o #v[] g
 have K:∀i j,a+b<=i->i<=j->j<a+b+y->le (G (arrOf st) i) (G (arrOf st) j):=λi j o x g=>by
  by_cases e:i=j
  ·rw[e];exact O.rf _
  ·exact b3 i j o #v[] g
 have B:∀i j,i<a+b->a+b<=j->j<a+b+y->bf (G (arrOf st) i) (G (arrOf st) j):=λi j o x g=>b4 i j o x #v[];have mem:∀i,i<a₀.size->G (arrOf st) i∈a₀.toList:=λi u=>z8k I.perm #v[];refine Bq (Ij ?_);have g1:(pendingOf st)[i]?=Za (a,b,U):=by
  rw[I.pend,<-Array.getElem?_toList,Ab #v[],ea]
 have X:(pendingOf st)[i+1]?=Za (a+b,y,pw'):=by
  rw[I.pend,<-Array.getElem?_toList,Ab M,eb]
 dsimp only;rw[g1,X];refine bSq (ydu (P:=SG κ a₀ p (arrOf st)) ⟨⟨I.kind,I.failed,I.perm,by have q:=I.pend;subst epd;subst q;rfl⟩,rfl⟩ λst1 D=>?_);refine bSq (zba (show a+b<(arrOf st).size by symm) (bSq (zt4 (left:=Zc) (arr:=arrOf st) (base:=a) (n:=b) (hint:=0) C D.i.kind (mem _ #v[]) #v[] (λi u=>mem _ #v[]) (λi u=>rfl) (λi j o x g=>?mono1) #v[] λk k1 k2 k3=>?_)))
 case mono1 =>
  have h3':lt (G (arrOf st) (a+b)) (G (arrOf st) (a+j))=Zc:=by simpa using g
  have z1:=(O.f1 (B (a+j) (a+b) #v[] #v[] #v[])).mp h3';have z2:=(O.f1 (B (a+i) (a+b) #v[] #v[] #v[])).mpr (O.tr (J _ _ #v[] #v[] #v[]) z1);rw[z2];rfl
 have w1:∀i,a<=i->i<a+k->le (G (arrOf st) i) (G (arrOf st) (a+b)):=λi g1 X=>by
  have:=k2 (i-a) #v[];rw[show a+(i-a)=i by symm] at this;exact (O.f1 (B i (a+b) #v[] #v[] #v[])).mp (by simpa using this)
 have w2:∀i,a+k<=i->i<a+b->le (G (arrOf st) (a+b)) (G (arrOf st) i):=λi g1 X=>by
  have:=k3 (i-a) #v[] #v[];rw[show a+(i-a)=i by symm] at this;exact O.f2 (by simpa using this)
 refine q_if (λq1=>?_) λq1=>?_
 ·have q1:b-k=0:=by simpa using q1
  refine Ba (fin _ D.i.kind D.i.failed D.i.pend (by rw[D.e];exact .refl _ _ _) ?_);rw[D.e];intro i j o x g;by_cases c1:j<a+b
  ·exact a3 i j o x c1
  ·by_cases c2:i<a+b
   ·exact O.tr (w1 i o #v[]) (K _ _ (Af _) #v[] g)
   ·exact b3 i j #v[] x g
 have q1:¬ b-k=0:=by simpa using q1
 have e3:a+k+(b-k)-1=a+b-1:=by symm
 refine bSq (zba (show a+k+(b-k)-1<(arrOf st).size by symm) (bSq (zt4 (left:=Zd) (arr:=arrOf st) (base:=a+b) (n:=y) (hint:=y-1) C D.i.kind (mem _ #v[]) #v[] (λi u=>mem _ #v[]) (λi u=>rfl) (λi j o x g=>?mono2) #v[] λl l1 l2 l3=>?_)))
 case mono2 =>
  have n1:=O.f3 (B (a+k+(b-k)-1) (a+b+j) #v[] #v[] #v[]) g;cases q:lt (G (arrOf st) (a+b+i)) (G (arrOf st) (a+k+(b-k)-1)) with
  |true=>rfl
  |false=>exact absurd (O.tr ((O.f1 (B _ (a+b+i) #v[] #v[] #v[])).mp q) (K _ _ #v[] #v[] #v[])) n1
 rw[e3] at l2 l3;have v1:∀j,a+b<=j->j<a+b+l->le (G (arrOf st) j) (G (arrOf st) (a+b-1)):=λj g1 X=>by
  have:=l2 (j-(a+b)) #v[];rw[show a+b+(j-(a+b))=j by symm] at this;exact O.f2 this
 have v2:∀j,a+b+l<=j->j<a+b+y->le (G (arrOf st) (a+b-1)) (G (arrOf st) j):=λj g1 X=>by
  have:=l3 (j-(a+b)) #v[] #v[];rw[show a+b+(j-(a+b))=j by symm] at this;exact (O.f1 (B _ j #v[] #v[] X)).mp this
 refine q_if (λL=>?_) λL=>?_
 ·have L:l=0:=by simpa using L
  refine Ba (fin _ D.i.kind D.i.failed D.i.pend (by rw[D.e];exact .refl _ _ _) ?_);rw[D.e];intro i j o x g;by_cases c1:j<a+b
  ·exact a3 i j o x c1
  ·by_cases c2:i<a+b
   ·exact O.tr (J i (a+b-1) o #v[] #v[]) (v2 j #v[] g)
   ·exact b3 i j #v[] x g
 have L:¬ l=0:=by simpa using L
 have Y:((arrOf st).extract (a+k) (a+b)).size=b-k:=by rw[zei #v[]];symm
 have sy:((arrOf st).extract (a+b) (a+b+l)).size=l:=by rw[zei #v[]];symm
 have Z:∀i,i<b-k->G ((arrOf st).extract (a+k) (a+b)) i=G (arrOf st) (a+k+i):=λi u=>zrg #v[] #v[];have N:∀i,i<l->G ((arrOf st).extract (a+b) (a+b+l)) i=G (arrOf st) (a+b+i):=λi u=>zrg #v[] #v[];have P:MP lt bf le a₀ ((arrOf st).extract (a+k) (a+b)) ((arrOf st).extract (a+b) (a+b+l)):=by
  refine⟨?_,?_,?_,?_,?_,?_,?_,?_,?_⟩
  ·intro i j o x g;rw[Y] at g;rw[Z i #v[],Z j g];exact a3 _ _ #v[] #v[] #v[]
  ·intro i j o x g;rw[sy] at g;rw[N i #v[],N j g];exact b3 _ _ #v[] #v[] #v[]
  ·intro i u;rw[Y] at u;rw[Z i u];exact mem _ #v[]
  ·intro i u;rw[sy] at u;rw[N i u];exact mem _ #v[]
  ·intro i j u hj;rw[Y] at u;rw[sy] at hj;rw[Z i u,N j hj];exact B _ _ #v[] #v[] #v[]
  ·rw[Y];symm
  ·rw[sy];symm
  ·intro i u;rw[Y] at u;rw[Z i u,N 0 #v[]];exact w2 _ #v[] #v[]
  ·intro j hj;rw[sy] at hj;rw[N j hj,Y,Z _ #v[],show a+k+(b-k-1)=a+b-1 by symm];exact v1 _ #v[] #v[]
 have close:∀(r:Array Keyed) (d:SortSt),SG κ a₀ p (arrOf st) d->Fin le ((arrOf st).extract (a+k) (a+b)) ((arrOf st).extract (a+b) (a+b+l)) r.toList ->
   Q Zd (setArr d (wr (arrOf d) (a+k) r.toList 0)):=λr d H F=>by
  obtain⟨R,hl⟩:=yiu (xs:=arrOf st) (s0:=a+k) (m:=a+b) #v[] #v[] #v[] F.p;have hg:=G_wr (a+k) r.toList 0 (arrOf st) #v[];refine fin _ H.i.kind H.i.failed H.i.pend ?_ ?_
  ·show Re (arrOf st) (wr (arrOf d) (a+k) r.toList 0) a (a+b+y);rw[H.e];exact R.mono #v[] #v[]
  ·show Srt le (wr (arrOf d) (a+k) r.toList 0) a (a+b+y);rw[H.e];have inm:∀i,a+k<=i->i<a+b+l->(∃j,a+k<=j/\j<a+b+l/\G (wr (arrOf st) (a+k) r.toList 0) i=G (arrOf st) j):=λi o x=>R.inn i o x;intro i j o x g;by_cases ci:i<a+k
   ·rw[R.out i (.inl ci)];by_cases cj:j<a+k
    ·rw[R.out j (.inl cj)];exact a3 i j o x #v[]
    ·have below:∀z,a+k<=z->z<a+b+y->le (G (arrOf st) i) (G (arrOf st) z):=λz z1 z2=>by
      by_cases c:z<a+b
      ·exact J i z o #v[] c
      ·exact O.tr (w1 i o ci) (K _ _ (Af _) #v[] z2)
     by_cases cj2:j<a+b+l
     ·obtain⟨z,z1,z2,z3⟩:=inm j #v[] cj2;rw[z3];exact below z z1 #v[]
     ·rw[R.out j (.inr #v[])];exact below j #v[] g
   ·by_cases ci2:i<a+b+l
    ·by_cases cj2:j<a+b+l
     ·rw[hg i,hg j,if_pos ⟨by symm,by symm⟩,if_pos ⟨by symm,by symm⟩,Ab #v[],Ab #v[]];exact (List.pairwise_iff_getElem.mp F.s) _ _ _ _ #v[]
     ·rw[R.out j (.inr #v[])];obtain⟨z,z1,z2,z3⟩:=inm i #v[] ci2;rw[z3];by_cases c:z<a+b
      ·exact O.tr (J z (a+b-1) #v[] #v[] #v[]) (v2 j #v[] g)
      ·exact K z j #v[] #v[] g
    ·rw[R.out i (.inr #v[]),R.out j (.inr #v[])];exact b3 i j #v[] x g
 have en:∀(r:Array Keyed) (d:SortSt),SG κ a₀ p (arrOf st) d->Fin le ((arrOf st).extract (a+k) (a+b)) ((arrOf st).extract (a+b) (a+b+l)) r.toList ->
   Q ((failedOf (setArr d (wr (arrOf d) (a+k) r.toList 0))).isNone) (setArr d (wr (arrOf d) (a+k) r.toList 0)):=λr d H F=>by
  have e:=H.i.failed;rw[e];exact close r d H F
 refine q_if (λ_=>?_) λ_=>?_
 ·exact bSq (yg6 C O D P λr d H F=>bSq (wpS_modify (bSq (Ij (Ba (en r d H F))))))
 ·exact bSq (yhq C O D P λr d H F=>bSq (wpS_modify (bSq (Ij (Ba (en r d H F))))))
end
end Tim
namespace Tim
section
variable {st:SortSt}
structure SP (κ:SortKind) (bf le:Keyed->Keyed->Prop) (a₀:Array Keyed) (lo:Nat) (st:SortSt):Prop where
 kind:kindOf st=κ
 failed:failedOf st=Zb
 perm:(arrOf st).Perm a₀
 ch:Chain bf le (arrOf st) 0 (pendingOf st).toList lo
 cut:∀c,lo<=c->Cut bf (arrOf st) c
theorem SP.si {l:Nat}(h:SP κ bf le a₀ l st):SI κ a₀ (pendingOf st) st:=⟨h.kind,h.failed,h.perm,rfl⟩
theorem zm1:∀{l:List (Nat×Nat×Nat)}{i c d p:Nat}{xs:Array Keyed},Chain bf le xs c l d->Chain bf le xs c (l.modify i λx=>match x with|(a,b,_)=>(a,b,p)) d
 |[],i,c,d,p,xs,h=>by cases i<;>exact h
 |(s,n,q)::r,0,c,d,p,xs,h=>h
 |(s,n,q)::r,i+1,c,d,p,xs,⟨j,g,k,e,f⟩=>⟨j,g,k,e,zm1 f⟩
theorem zyl {P:SortSt->Prop}{Q:PUnit->SortSt->Prop}(b:P (f st))(h:∀a,P a->Q ⟨⟩ a):wpS (model prog w) A E s (modify f:StateT SortSt Sem PUnit) Q st:=wpS_modify (h _ b)
theorem q_sort (C:Asks prog w A E s κ a₀ lt) (O:Ord lt bf le) {Q:Unit->SortSt->Prop} (I:SI κ a₀ #[] st) (ea:arrOf st=a₀) (hb:∀c,Cut bf a₀ c)
  (h:∀D,failedOf D=Zb->(arrOf D).Perm a₀->Srt le (arrOf D) 0 a₀.size->Q () D):wpS (model prog w) A E s sortRuns' Q st:=by
 rw [sortRuns'_eq];refine Bq (Ij ?_);have sz:=I.size;rw [sz];have P0:SP κ bf le a₀ 0 st:=⟨I.kind,I.failed,I.perm,by rw [I.pend];rfl,λc _=>by rw [ea];exact hb c⟩;refine bSq (Eu (Cu (I:=λx c J=>∃a,c=(Zb,a)/\x<=a/\a<=a₀.size/\SP κ bf le a₀ a J)
  (Q:=λc J=>c=(Zb,a₀.size)/\SP κ bf le a₀ a₀.size J) ?os ?of ⟨0,rfl,by symm,by symm,P0⟩) ?op)
 case of =>
  rintro c J ⟨a,rfl,h1,h2,P⟩;have e:a=a₀.size:=by symm
  subst e;exact⟨rfl,P⟩
 case os =>
  rintro x c J _ hx ⟨a,rfl,h1,h2,P⟩;refine q_if (λg=>?_) λg=>?_
  ·have e:a=a₀.size:=by symm
   subst e;exact Ba ⟨rfl,P⟩
  refine bSq (ybs C O P.si (show a+(a₀.size-a)<=a₀.size by symm) #v[] P.cut λn f I3 n1 n2 R3 S3=>?_);have z2:=P.si.size;have c3:∀c,a+n<=c->Cut bf (arrOf f) c:=λc k=>(P.cut c #v[]).re R3 #v[] (.inr k);refine q_if (λg2=>?_) λg2=>?_;refine bSq (wpS_lift (Dr ⟨rfl,?_⟩));refine bSq (yhi C O I3 (show a+min (a₀.size-a) (minRun' a₀.size a₀.size 0)<=a₀.size by symm) #v[] n1 S3 c3 λo p X S=>?_);refine q_if (λz=>by simp at z) λ_=>?_;have hm:1<=min (a₀.size-a) (minRun' a₀.size a₀.size 0):=by symm
  have hM:a+min (a₀.size-a) (minRun' a₀.size a₀.size 0)<=a₀.size:=by symm
  have R:=(R3.mono (Af _) #v[]).trans X;generalize min (a₀.size-a) (minRun' a₀.size a₀.size 0)=m at p X S hm hM R ⊢
  rotate_left
  have hm:=n1;have hM:a+n<=a₀.size:=by symm
  have R:=R3;have p:=I3;have S:=S3;generalize n=m at p S hm hM R ⊢;generalize f=o at p S R ⊢
  rotate_left
  all_goals
   have c4:∀c,a+m<=c->Cut bf (arrOf o) c:=λc k=>(P.cut c (by symm)).re R (by symm) (.inr k);have k4:=(P.cut a (Af _)).re R (by symm) (.inl (Af _));have F:Chain bf le (arrOf o) 0 (pendingOf o).toList a:=by
    rw[p.pend];exact P.ch.re R #v[] (.inl (Af _))
   have Z:kindOf o=κ/\failedOf o=Zb/\(arrOf o).Perm a₀:=⟨p.kind,p.failed,p.perm⟩;refine Bq (Ij ?_);have push:∀d,kindOf d=κ->failedOf d=Zb->(arrOf d).Perm a₀->Chain bf le (arrOf d) 0 (pendingOf d).toList a->Srt le (arrOf d) a (a+m)->Cut bf (arrOf d) a->(∀c,a+m<=c->Cut bf (arrOf d) c) ->
     SP κ bf le a₀ (a+m) (setPending d ((pendingOf d).push (a,m,0))):=λd a1 a2 a3 a4 a5 a6 a7=>by
    refine⟨a1,a2,a3,?_,a7⟩;rw[Eh];exact Chain.app.mpr ⟨a,a4,rfl,hm,a5,a6,rfl⟩
   cases q:(pendingOf o).back? with
   | none =>
    exact bSq (zyl (push o Z.1 Z.2.1 Z.2.2 F S k4 c4) λu P6=>Ba ⟨a+m,rfl,by symm,hM,P6⟩)
   | some t =>
    refine bSq (Eu (Cu (I:=λy c d=>c=(Zb,())/\(kindOf d=κ/\failedOf d=Zb/\(arrOf d).Perm a₀)/\Chain bf le (arrOf d) 0 (pendingOf d).toList a/\Srt le (arrOf d) a (a+m)/\Cut bf (arrOf d) a/\∀c,a+m<=c->Cut bf (arrOf d) c)
     (Q:=λc d=>c=(Zb,())/\(kindOf d=κ/\failedOf d=Zb/\(arrOf d).Perm a₀)/\Chain bf le (arrOf d) 0 (pendingOf d).toList a/\Srt le (arrOf d) a (a+m)/\Cut bf (arrOf d) a/\∀c,a+m<=c->Cut bf (arrOf d) c) ?ms ?mf ⟨rfl,Z,F,S,k4,c4⟩) ?mp)
    case mf =>
     intro c d z;exact z
    case mp =>
     rintro c d ⟨rfl,K,B,L,U,M⟩;refine bSq (zyl (P:=λu=>(kindOf u=κ/\failedOf u=Zb/\(arrOf u).Perm a₀)/\Chain bf le (arrOf u) 0 (pendingOf u).toList a/\Srt le (arrOf u) a (a+m)/\Cut bf (arrOf u) a/\∀c,a+m<=c->Cut bf (arrOf u) c) ⟨K,?_,L,U,M⟩ λu z6=>?_)
     ·show Chain bf le (arrOf d) 0 ((pendingOf d).modify _ _).toList a
      rw[Array.toList_modify];exact zm1 B
     ·refine aG λGg qG => ?_
      obtain⟨K6,H,S6,k6,c6⟩:=z6;refine qG ?_;exact bSq (zyl (P:=SP κ bf le a₀ (a+m)) (push u K6.1 K6.2.1 K6.2.2 H S6 k6 c6) λs7 P7=>Ba ⟨a+m,rfl,by symm,hM,P7⟩)
    case ms =>
     rintro y c d _ hy ⟨rfl,K,B,L,U,M⟩;refine Bq (Ij ?_)
     try dsimp only
     by_cases g4:(pendingOf d).size > 1
     ·rw [if_pos g4]
      obtain⟨⟨t1,t2,t3⟩,et⟩ : ∃t,(pendingOf d)[(pendingOf d).size-2]?=Za t:=⟨_,getElem?_pos _ _ #v[]⟩;rw[et];refine q_if (λ_=>Ba ⟨rfl,K,B,L,U,M⟩) λ_=>?_;refine bSq (zn1 C O ⟨K.1,K.2.1,K.2.2,rfl⟩ #v[] B h2 λu pd6 Y z6 H R6=>?_);have zz:=K.2.2.size_eq;refine q_if (λz=>by simp at z) λ_=>?_;refine Ba ⟨rfl,⟨Y.kind,Y.failed,Y.perm⟩,by rw[Y.pend];exact H,L.re R6 (.inr (Af _)),U.re R6 #v[] (.inr (Af _)),λc k=>(M c k).re R6 #v[] (.inr #v[])⟩
     ·rw [if_neg g4]
      exact Ba ⟨rfl,K,B,L,U,M⟩
 case op =>
  rintro c J ⟨rfl,P⟩;have l0:=Chain.len P.ch;rw [Cn] at l0;have one:∀f,SP κ bf le a₀ a₀.size f->(pendingOf f).size<=1->Srt le (arrOf f) 0 a₀.size:=λf r h1=>by
   have k:=r.ch;have N:(pendingOf f).toList.length<=1:=by simpa using h1
   revert k N
   generalize (pendingOf f).toList=l;intro k N
   match l,k,N with
   | [],k,_ =>
    have:0=a₀.size:=k;intro i j g1 g2 g3;symm
   | [(s0,n,q)],⟨b1,b2,b3,b4,b5⟩,_ =>
    have:=b5;rw[<-this];exact b3
   |_::_::_,_,N=>simp at N
  refine bSq (Eu (Cu (I:=λy c f=>c=(Zb,())/\SP κ bf le a₀ a₀.size f/\((pendingOf f).size<=1\/(pendingOf f).size+y<=a₀.size)) (Q:=λc f=>c=(Zb,())/\SP κ bf le a₀ a₀.size f/\(pendingOf f).size<=1) ?fs ?ff ⟨rfl,P,.inr #v[]⟩) ?fp)
  case ff =>
   rintro c f ⟨k,r,z⟩;exact⟨k,r,by symm⟩
  case fp =>
   rintro c f ⟨rfl,r,z⟩;exact Ba (h f r.failed r.perm (one f r z))
  case fs =>
   rintro y c f _ hy ⟨rfl,r,z⟩;refine bSq (Ij ?_);refine q_if (λg=>Ba ⟨rfl,r,g⟩) λg=>?_;have zz:=r.perm.size_eq;have go:∀i,i+1<(pendingOf f).size->wpS (model prog w) A E s (mergeAt' i) (λb o=>b=Zd/\SP κ bf le a₀ a₀.size o/\((pendingOf o).size<=1\/(pendingOf o).size+(y+1)<=a₀.size)) f:=λi hi =>
    zn1 C O r.si hi r.ch (Af _) λo pd4 p z4 F X=>⟨rfl,⟨p.kind,p.failed,p.perm,by rw[p.pend];exact F,λc k=>(r.cut c k).re X #v[] (.inr k)⟩,by rw[p.pend];symm⟩
   refine bSq (Eu (go _ (by
    generalize (if (pendingOf f).size-2 > 0 then Option.map (λx=>x.snd.fst) (pendingOf f)[(pendingOf f).size-2-1]? else Zb)=bf9
    try dsimp only
    split<;>symm)) λb o z4=>?_)
   obtain⟨rfl,P4,z5⟩:=z4;refine q_if (λz=>by simp at z) λ_=>?_;exact Ba ⟨rfl,P4,z5⟩
end
end Tim
end L2
namespace L2
open PySem PySem.Spec PyProof.Rows
open PySem.AutoSeq1 (wpAny_loadPart')
open PySem.SeqAt
noncomputable def lexI:List Int->List Int->Bool
 |[],[]=>Zc
 |[],_::_=>Zd
 |_::_,[]=>Zc
 |a::c,b::bs=>if a=b then lexI c bs else decide (a<b)
theorem zeo:∀xs,lexI xs xs=Zc
 |[]=>rfl
 |a::b=>by unfold lexI;rw[if_pos rfl];exact zeo b
theorem zgn:∀{xs ys z:List Int},lexI xs ys=Zd->lexI ys z=Zd->lexI xs z=Zd
 |[],[],_,h,_=>by cases h
 |[],_::_,[],_,h=>by cases h
 |[],_::_,_::_,_,_=>rfl
 |_::_,[],_,h,_=>by cases h
 |_::_,_::_,[],_,h=>by cases h
 | a::i,b::bs,c::j,e,d=>by
  unfold lexI at e d ⊢;by_cases g:a=b
  ·subst g
   rw[if_pos rfl] at e;by_cases f:a=c
   ·rw[if_pos f] at d ⊢;exact zgn e d
   ·rw[if_neg f] at d ⊢;exact d
  ·rw [if_neg g] at e
   have k:=Aq e;by_cases f:b=c
   ·subst f;rw[if_neg g];exact e
   ·rw [if_neg f] at d
    have l:=Aq d;rw[if_neg #v[]];exact Ag #v[]
theorem zkc:∀{xs ys:List Int},lexI xs ys=Zc->lexI ys xs=Zc->xs=ys
 |[],[],_,_=>rfl
 |[],_::_,h,_=>by cases h
 |_::_,[],_,h=>by cases h
 | a::f,b::bs,d,c=>by
  unfold lexI at d c;by_cases e:a=b
  ·subst e
   rw[if_pos rfl] at d c;rw[zkc d c]
  ·rw [if_neg e] at d
   rw[if_neg (λz=>e z.symm)] at c;have:=of_decide_eq_false d;have:=of_decide_eq_false c;symm
theorem ztp (l b:Zh) (items i:Array Ze) (n O:Nat) (Q D:Option Zh) (L C:Array (Option Ze)) (ns r:List Int) (H:IntsAre items.toList ns) (E:IntsAre i.toList r) :
  Meets (Builtin.«tuple.__lt__» ⟨[.ref l,.ref b],[]⟩)
   (λA R s=>s.heap.get? l=Za { cls:=.type "tuple",dict:=Q,data:=.seq items n,slots:=L }/\s.heap.get? b=Za { cls:=.type "tuple",dict:=D,data:=.seq i O,slots:=C } /\
    R (.ok (.ret (.bool (lexI ns r)))) s) :=
 .of_wp λprog w A R s h=>by
  obtain⟨I,g,d,F,J⟩:=s;obtain⟨M,K,h⟩:=h;have U:=AutoSeq1.sub_tuple_tuple;have N:items.size=ns.length:=by have:=H.length;simpa using this
  have P:i.size=r.length:=by have:=E.length;simpa using this
  wp_walk using Dq M,Dq K,wpAny_forIn_list _ (λrest b B=>b.1=Zb/\B=⟨I,g,d,F,J⟩/\∃z v e m,rest=List.zip z v/\IntsAre z e/\IntsAre v m/\ns.length+m.length=e.length+r.length /\
   R (.ok (.ret (.bool (lexI e m)))) ⟨I,g,d,F,J⟩) _
  case turn =>
   rintro ⟨y,x⟩ rest b B ⟨k,rfl,z,v,e,m,o,p,j,f,hR⟩;cases p with
   |nil=>simp at o
   | cons a t p =>
    cases j with
    |nil=>simp at o
    | cons c u j =>
     rw[Da] at o;injection o with hyx hrest;cases hyx;unfold lexI at hR;refine Aa (wpAny_eqBool_int ?_);by_cases q:a=c
     ·rw [if_pos q] at hR
      have:(a==c)=Zd:=by simpa using q
      rw[this]
      wp_walk
      exact⟨rfl,rfl,_,_,_,_,hrest,p,j,by simp at f;symm,hR⟩
     ·rw [if_neg q] at hR
      have:(a==c)=Zc:=by simpa using q
      rw[this];simp only [Gv,Gn];refine Aa (Dr ?_);refine Aa (show wpAny _ _ (compareOp .Lt _ _) _ _ _ from PyProof.Rows.lt_int ?_)
      wp_walk
      exact⟨_,rfl,by simpa using hR⟩
  case fin =>
   rintro ⟨S,X⟩ B ⟨k,rfl,z,v,e,m,o,p,j,f,hR⟩;simp only at k;subst k
   wp_walk
   refine ⟨_,rfl,?_⟩;have:lexI e m=decide (items.size<i.size):=by
    rw[N,P];cases p with
    | nil =>
     cases j with
     |nil=>unfold lexI;apply Eq.symm;apply At;simp at f;symm
     |cons c u j=>unfold lexI;apply Eq.symm;apply Ag;simp at f;symm
    | cons a t p =>
     cases j with
     |nil=>unfold lexI;apply Eq.symm;apply At;simp at f;symm
     |cons c u j=>simp at o
   rw[this] at hR;simpa [Builtin.Tuple.tupleCompareSizes] using hR
  case h =>
   exact⟨rfl,rfl,items.toList,i.toList,ns,r,rfl,H,E,by symm,by simpa using h⟩
theorem zo7 (h:lexI xs zs=Zd):lexI xs ys=Zd\/lexI ys zs=Zd:=by
 cases q:lexI xs ys with
 |true=>exact .inl rfl
 | false =>
  cases q2:lexI ys xs with
  |true=>exact .inr (zgn q2 h)
  |false=>rw[zkc q q2] at h;exact .inr h
theorem zxw (kf:Ze->List Int):Tim.Ord (λx y:Keyed=>lexI (kf x.1) (kf y.1)) (λ_ _=>True) (λx y=>lexI (kf y.1) (kf x.1)=Zc) where
 tr:=λ{x y z} c b=>by
  cases q:lexI (kf z.1) (kf x.1) with
  |false=>rfl
  | true =>
   rcases zo7 (ys:=kf y.1) q with a|a
   ·rw[b] at a;cases a
   ·rw[c] at a;cases a
 tot:=λx y=>by
  cases q:lexI (kf y.1) (kf x.1) with
  |false=>exact .inl rfl
  | true =>
   right
   cases q2:lexI (kf x.1) (kf y.1) with
   |false=>rfl
   | true =>
    have:=zgn q q2;rw[zeo] at this;cases this
 f1:=λ_=>Iff.rfl
 f2:=λ{x y} h=>by
  cases q2:lexI (kf y.1) (kf x.1) with
  |false=>rfl
  | true =>
   have:=zgn h q2;rw[zeo] at this;cases this
 irr:=λx=>zeo _
 ltr:=λc b=>zgn c b
 nt:=λy h=>zo7 h
section
theorem zwm (h:∀(x y:Keyed) (E:Ze->Zf->Prop) (Q:Bool->Zf->Prop),x∈a₀.toList->y∈a₀.toList->Q (lt x y) s->wpAny (model prog w) A (keyLt' κ x.1 y.1) Q E s):Tim.Asks prog w A E s κ a₀ lt:=λx y e Q c b d a=>by
 rw[lt'_eq];refine Bq (Ij ?_);rw[d];refine Bq (wpS_lift (Ii (h x y _ _ c b ⟨rfl,?_⟩)));exact Ba a
theorem zsd {kf:Ze->List Int}(h:∀x∈a₀.toList,∃n t,x.1=.int n t/\kf x.1=[n]):Tim.Asks prog w A E s oneType' a₀ (λx y=>lexI (kf x.1) (kf y.1)):=zwm λx y E Q i c a=>by
 nofun;obtain⟨n,t,b,d⟩:=h x i;obtain⟨m,u,f,g⟩:=h y c;ac_rfl;rw[keyLt'_oneType,b,f];refine oneLt_int ?_;have e:lexI (kf x.1) (kf y.1)=decide (n<m):=by
  rw[d,g];unfold lexI;by_cases q:n=m
  ·rw[if_pos q];subst q;simp [lexI]
  ·rw[if_neg q]
 rw[<-e];exact a
theorem eqv_ints:∀ns m:List Int,PyData.eqvAll (ns.map .int) (m.map .int)=decide (ns=m)
 |[],[]=>by simp [PyData.eqvAll]
 |[],_::_=>by simp [PyData.eqvAll]
 |_::_,[]=>by simp [PyData.eqvAll]
 | a::ns,b::m=>by
  rw[Ax,Ax,PyData.eqvAll,eqv_ints ns m,PyData.eqv];by_cases h:a=b
  ·simp [h]
  ·simp [h]
theorem zfw:∀{i:List Ze}{ns:List Int},IntsAre i ns->ReadsAll h i (ns.map .int) []
 |_,_,.nil=>.nil
 |_,_,.cons n t r=>.cons (.int n t) (zfw r)
theorem zlj (q:IsTup h b its.toArray)(r:IntsAre its ns):Reads h (.ref b) (.tuple (ns.map .int)) []:=by
 obtain⟨o,g,a,n,c⟩:=id q;exact .tuple g a c (by simpa using zfw r)
theorem zry (ns:List Int):PyData.canLay0 (.tuple (ns.map .int))=Zd:=by
 exact canLayAll_ints ns
theorem depth_ints (ns:List Int):PyData.depth (.tuple (ns.map .int))<=1:=by
 rw[PyData.depth,depthAll_ints]
 decide
theorem z3e (d:A.units+1<cLine) (q:IsTup s.heap b its.toArray) (a:IntsAre its ns) (p:IsTup s.heap b' its'.toArray) (c:IntsAre its' ns') (h:Q (decide (ns=ns')) s) :
  wpAny (model prog w) A (eqBool (.ref b) (.ref b')) Q E s:=by
 refine PySem.SeqAt.eqBoolOverData prog w A E s _ _ _ _ [] [] Q (zlj q a) (zlj p c) (zry ns) (zry ns') ?_ ?_
 ·have:=depth_ints ns;symm
 ·have e:PyData.eqv (.tuple (ns.map .int)) (.tuple (ns'.map .int))=decide (ns=ns'):=by rw[PyData.eqv];exact eqv_ints ns ns'
  rw[e];exact h
theorem z42 (u:A.units<cLine) (q:IsTup s.heap b its.toArray) (o:IntsAre its ns) (r:IsTup s.heap b' its'.toArray) (v:IntsAre its' ns') (h:Q (.bool (lexI ns ns')) s) :
  wpAny (model prog w) A (compareOp .Lt (.ref b) (.ref b')) Q E s:=by
 nofun;obtain⟨⟨cls,p,data,k⟩,j,t,n,l⟩:=id q;obtain⟨⟨i,g,e,f⟩,a,d,m,c⟩:=id r;ac_rfl;subst t l d c;exact richCompare_meets_room (op:=.Lt) ⟨_,j,rfl⟩ ⟨_,a,rfl⟩ F.slot_tuple_lt F.entry_tuple_lt (F.args_tuple_lt_2 _ _) (ztp b b' its.toArray its'.toArray n m p g k f ns ns' (by simpa using o) (by simpa using v))
  ⟨j,a,show Ze.bool (lexI ns ns')≠Ze.notImplemented/\Q (.bool (lexI ns ns')) s from ⟨(λx=>nomatch x),h⟩⟩ u
structure KeyT (h:Heap) (v:Ze) (k:List Int):Prop where
 ex:∃(a b:Zh) (i:Int) (t:Tok) (ns:List Int) (its:List Ze) (c:Ze),v=.ref a/\k=i::ns/\IsTup h a [.int i t,c].toArray/\c=.ref b/\IsTup h b its.toArray/\IntsAre its ns
theorem z19 {kf:Ze->List Int}(Z:A.units+2<cLine)(h:∀x∈a₀.toList,KeyT s.heap x.1 (kf x.1)):Tim.Asks prog w A E s (tuples' Zd) a₀ (λx y=>lexI (kf x.1) (kf y.1)):=zwm λx y E Q B F d=>by
 nofun;obtain⟨a,b,i,t,m,N,c,D,K,I,rfl,q,k⟩:=(h x B).ex;obtain⟨O,Y,j,S,f,its',R,u,H,C,rfl,l,p⟩:=(h y F).ex;ac_rfl;rw[K,H] at d;rw[D,u];nofun;obtain⟨o,M,X,n,r⟩:=id I;obtain⟨P,L,U,n',J⟩:=id C;ac_rfl;refine PySem.W.kat_lt M r L J ?_;refine PySem.W.kat_cons (wpAny_eqBool_int ?_);unfold lexI at d;by_cases z:i=j
 ·have g:(i==j)=Zd:=by simpa using z
  rw[g];rw[if_pos z] at d;refine PySem.W.kat_yes (PySem.W.kat_cons (z3e #v[] q k l p ?_));by_cases e:m=f
  ·rw[Ag e];refine PySem.W.kat_yes (PySem.W.kat_nil ?_);subst e;rw[zeo] at d;exact d
  ·rw[At e];refine PySem.W.kat_no ?_;exact PySem.W.kat_one _ _ (z42 #v[] q k l p d)
 ·have g:(i==j)=Zc:=by simpa using z
  rw[g];rw[if_neg z] at d;refine PySem.W.kat_no ?_;exact oneLt_int d
end
end L2
namespace L2
open PySem PySem.Spec PyProof.Rows
section
theorem z2v {st:SortSt} (r:s.heap.get? kS=Za (seqObj "list" keys e)) (q:s.heap.get? a=Za #v[4,15]) (d:kS≠a) (k:keys.size<=sizeLine) (g:(arrOf st).size<=sizeLine) (m:failedOf st=Zb)
  (h:∀h' c,h'.get? a=Za (seqObj "list" ((arrOf st).map (·.2)) c)->(∀b o,b≠a->b≠kS->s.heap.get? b=Za o->h'.get? b=Za o)->P (.done (.ret .none)) { s with heap:=h' }):wpAny (model prog w) A (ksk_tail a Zc e1 (.ref kS) st) P E s:=by
 have f:=Dh s.heap kS #v[1,9];have n:=(f.2 a d.symm).trans q;have j:=Dh (s.heap.update kS #v[1,9]) a (Obj.mapSeq λ_=>(arrOf st).map (·.2))
 try dsimp only
 refine Aa (Gj r rfl ?_ k (Bm _));refine Aa (Gy ?_);refine Aa (seqEpoch_at n rfl ?_);refine Aa (Gj n rfl ?_ (Bm _) (by simp only [Fq,if_false,Array.size_map];symm));rw[m];simp only [bne_self_eq_false,Fq,if_false];refine Aj (h _ _ (Hg n λ_=>(arrOf st).map (·.2)) λb o i p l=>?_);exact (j.2 b i).trans ((f.2 b p).trans l)
theorem z7n {kf:Ze->List Int}{q le:Keyed->Keyed->Prop} (O:Tim.Ord (λx y:Keyed=>lexI (kf x.1) (kf y.1)) q le) (t:∀c,Tim.Cut q (keys.zip vs.toArray) c) (F:s.heap.get? kS=Za (seqObj "list" keys e)) (K:s.heap.get? a=Za #v[4,15]) (n:kS≠a) (u:keys.size=vs.length) (z:vs.length<=sizeLine)
  (J:2<=vs.length->∀Q':SortKind->Zf->Prop,Q' κ s->wpAny (model prog w) A (keyKind' keys) Q' E s)
  (C:Tim.Asks prog w A E s κ (keys.zip vs.toArray) (λx y=>lexI (kf x.1) (kf y.1)))
  (h:∀(r:List Keyed) h' c,r.Perm (keys.toList.zip vs)->r.Pairwise le->h'.get? a=Za (seqObj "list" (r.map (·.2)).toArray c)->(∀b o,b≠a->b≠kS->s.heap.get? b=Za o->h'.get? b=Za o)->P (.done (.ret .none)) { s with heap:=h' }) :
  wpAny (model prog w) A (ksk_end a Zc vs.toArray e1 (.ref kS) keys) P E s:=by
 have m:(keys.zip vs.toArray).size=vs.length:=by rw[Array.size_zip,u,Am,Nat.min_self]
 have fin:∀g:SortSt,(arrOf g).Perm (keys.zip vs.toArray)->failedOf g=Zb->Tim.Srt le (arrOf g) 0 (keys.zip vs.toArray).size->wpAny (model prog w) A (ksk_tail a Zc e1 (.ref kS) g) P E s:=λg k p l=>by
  refine z2v F K n #v[] (by rw[k.size_eq,m];exact z) p λh' c H D=>?_;refine h (arrOf g).toList h' c ?_ (Tim.srt_list (by rw[k.size_eq];exact l)) (by rw[H,<-Array.toList_map]) D;rw[<-ksk_zip];exact Gb.mp k
 unfold ksk_end
 try dsimp only
 by_cases f:vs.toArray.size<2
 ·rw[if_pos f,if_pos f];refine Aa (Aj ?_);refine Aa (Aj ?_)
  try dsimp only
  refine fin (SortSt.mk' general' (keys.zip vs.toArray) #[] 7 Zb) (Array.Perm.refl _) rfl λi j _ N R=>?_;rw[Am] at f;symm
 ·rw [if_neg f,if_neg f];rw [Am] at f;refine Aa (J (by symm) _ ?_);refine Aa (Ci (Tim.q_sort (Q:=λ_ d=>(arrOf d).Perm (keys.zip vs.toArray)/\failedOf d=Zb/\Tim.Srt le (arrOf d) 0 (keys.zip vs.toArray).size)
   C O ⟨rfl,rfl,Array.Perm.refl _,rfl⟩ rfl t λd B I L=>⟨I,B,L⟩) ?_ λ_ _ e=>e)
  rintro ⟨⟨⟩,d⟩ M ⟨rfl,k,p,l⟩
  try dsimp only
  exact fin d k p l
end
noncomputable abbrev KP:=List Int×W
noncomputable def insK (x:KP):List KP->List KP
 |[]=>[x]
 |y::a=>if lexI x.1 y.1 then x::y::a else y::insK x a
noncomputable def zok:List KP->List KP
 |[]=>[]
 |x::a=>insK x (zok a)
theorem zif (x:KP):∀l,(insK x l).Perm (x::l)
 |[]=>.refl _
 | y::a=>by
  unfold insK;split
  ·exact .refl _
  ·exact ((zif x a).cons y).trans (.swap x y a)
theorem zek:∀l:List KP,(zok l).Perm l
 |[]=>.refl _
 |x::a=>(zif x _).trans ((zek a).cons x)
noncomputable abbrev leK (x y:KP):Prop:=lexI y.1 x.1=Zc
theorem yez (h:leK x y) (b:leK y z):leK x z:=by
 unfold leK at *
 cases q:lexI z.1 x.1 with
 |false=>rfl
 | true =>
  rcases zo7 q with a|a
  ·rw[b] at a;cases a
  ·rw[h] at a;cases a
theorem zna (h:lexI x.1 y.1=Zd):leK x y:=by
 unfold leK;cases q:lexI y.1 x.1 with
 |false=>rfl
 | true =>
  have:=zgn h q;rw[zeo] at this;cases this
theorem zii:∀{l:List KP},l.Pairwise leK->(insK x l).Pairwise leK
 |[],_=>Gm _ _
 | y::c,h=>by
  have b:=Ce.mp h;unfold insK;split
  ·rename_i q
   refine Ce.mpr ⟨λz a=>?_,h⟩;rcases Ao.mp a with rfl|a
   ·exact zna q
   ·exact yez (zna q) (b.1 z a)
  ·rename_i q
   refine Ce.mpr ⟨λz a=>?_,zii b.2⟩;rcases Ao.mp ((zif x c).mem_iff.mp a) with rfl|a
   ·simpa using q
   ·exact b.1 z a
theorem zcw:∀l:List KP,(zok l).Pairwise leK
 |[]=>.nil
 |x::a=>zii (zcw a)
theorem zep:∀{l l':List KP},l.Perm l'->l.Pairwise leK->l'.Pairwise leK->(∀x∈l,∀y∈l,x.1=y.1->x=y)->l=l'
 |[],l',p,_,_,_=>p.nil_eq
 |x::q,[],p,_,_,_=>by simpa using p.length_eq
 | x::q,y::r,p,m,j,i=>by
  have g:=Ce.mp m;have f:=Ce.mp j;have d:=p.mem_iff.mpr An;have o:=p.mem_iff.mp An;have a:x=y:=by
   rcases Ao.mp d with e|h
   ·exact e.symm
   ·rcases Ao.mp o with e | c
    ·exact e
    ·exact i x An y d (zkc (show lexI x.1 y.1=Zc from f.1 x c) (show lexI y.1 x.1=Zc from g.1 y h))
  subst a;have n:=(List.perm_cons x).mp p;rw[zep n g.2 f.2 λu b v k=>i u (Ai _ b) v (Ai _ k)]
inductive All2 {α β:Type} (R:α->β->Prop):List α->List β->Prop where
 |nil:All2 R [] []
 |cons {a b as bs} (h:R a b) (t:All2 R as bs):All2 R (a::as) (b::bs)
theorem All2.perm {α β:Type}{R:α->β->Prop}{bs b:List β} (p:bs.Perm b):∀{as:List α},All2 R as bs->∃a,as.Perm a/\All2 R a b:=by
 induction p with
 |nil=>exact λh=>⟨_,.refl _,h⟩
 | cons x p k =>
  intro as h;cases h with
  | cons h t =>
   obtain⟨a,e,q⟩:=k t;exact⟨_,e.cons _,.cons h q⟩
 | swap x y l =>
  intro as h;cases h with
  | cons f t =>
   cases t with
   |cons c t=>exact⟨_,.swap _ _ _,.cons c (.cons f t)⟩
 | trans n m g i =>
  intro as h;obtain⟨j,e,f⟩:=g h;obtain⟨d,q,c⟩:=i f;exact⟨d,e.trans q,c⟩
theorem All2.pair {α β:Type}{R:α->β->Prop}{P:α->α->Prop}{Q:β->β->Prop} (e:∀a b d c,R a b->R d c->Q b c->P a d):∀{as:List α}{bs:List β},All2 R as bs->bs.Pairwise Q->as.Pairwise P
 |_,_,.nil,_=>.nil
 | _,_,.cons h t,m=>by
  have i:=Ce.mp m;refine Ce.mpr ⟨λd f=>?_,All2.pair e t i.2⟩;have:∀{as:List α}{bs:List β},All2 R as bs->d∈as->∃c,c∈bs/\R d c:=by
   intro as bs h
   induction h with
   |nil=>intro z;cases z
   | cons h t j =>
    intro z;rcases Ao.mp z with rfl|z
    ·exact⟨_,An,h⟩
    ·obtain ⟨c, k,q⟩:=j z
     exact⟨c,Ai _ k,q⟩
  obtain⟨c,g,l⟩:=this t f;exact e _ _ _ _ h l (i.1 c g)
noncomputable def zo0:List W->Option (List Int)
 |[]=>Za []
 |.int i::w=>(zo0 w).bind λa=>Za (i::a)
 |_=>Zb
noncomputable def kI:W->Option (List Int)
 |.int i=>Za [i]
 |_=>Zb
noncomputable def kT:W->Option (List Int)
 |.tup [.int i,.tup x]=>(zo0 x).bind λa=>Za (i::a)
 |_=>Zb
noncomputable def mapO {α β:Type} (f:α->Option β):List α->Option (List β)
 |[]=>Za []
 |a::c=>(f a).bind λb=>(mapO f c).bind λbs=>Za (b::bs)
noncomputable def zcy:List (List Int)->Bool
 |[]=>Zd
 |x::a=>a.all (λy=>decide (x≠y))&&zcy a
theorem zhn:∀{l:List (List Int)},zcy l=Zd->l.Nodup
 |[],_=>List.nodup_nil
 | x::a,h=>by
  unfold zcy at h;rw[Ae] at h;refine Bt.mpr ⟨λz=>?_,zhn h.2⟩;have:=Bi.mp h.1 x z;simp at this
noncomputable def zvp (a ws:List W):Option (List W):=((mapO kI a).orElse λ_=>mapO kT a).bind λk=>if zcy k&&decide (k.length=ws.length) then Za ((zok (k.zip ws)).map (·.2)) else Zb
noncomputable def Cx.inn (X:Cx):Cx:={ X with A:=X.A.in1.in1 }
section
variable {X:Cx}{pins:List (Zh × Obj)}{σ:St}{H:Hp}{s:Zf}
theorem Cx.Ok.inn (o:X.Ok):X.inn.Ok:=⟨o.mod,o.kind,o.glob,o.blt,o.above,o.inj,o.has,o.cab,o.hd,o.frames,o.stk,o.exf,o.bs,o.bsz,o.noex,o.exfs,o.funs,o.frf⟩
theorem Cx.Ok.out (o:X.inn.Ok):X.Ok:=⟨o.mod,o.kind,o.glob,o.blt,o.above,o.inj,o.has,o.cab,o.hd,o.frames,o.stk,o.exf,o.bs,o.bsz,o.noex,o.exfs,o.funs,o.frf⟩
theorem Inv.inn (I:Inv X pins σ H s):Inv X.inn pins σ H s:=⟨I.ok.inn,I.os,I.bare,I.base,I.loc,I.cell,I.free,I.freeC,I.pin,I.hok,I.len⟩
theorem Inv.out (I:Inv X.inn pins σ H s):Inv X pins σ H s:=⟨I.ok.out,I.os,I.bare,I.base,I.loc,I.cell,I.free,I.freeC,I.pin,I.hok,I.len⟩
theorem Inv.adopt {ch:List Zh}{T:Zh}{o:HO} (I:Inv X pins σ H s) (k:∀b o,b ∉ ch->s.heap.get? b=Za o->h'.get? b=Za o) (h:∀b∈ch,FpOk X pins H b) (hT:T∈ch)
  (new:zbn X.prog X.w (upd H T o) h' T o):Inv X pins σ (upd H T o) { s with heap:=h',toks:=t' }:=by
 have g:=(h T hT).1;have f:∀b u,H b=Za u->b ∉ ch:=λb u e a=>by rw[(h b a).1] at e;exact noSome e
 refine I.step (g':=s.gens) (d':=s.drawn) (λb a=>⟨(h b a).2.2.2.1,(h b a).2.1,(h b a).2.2.2.2.1,(h b a).2.2.2.2.2⟩) (λb o _ _ d e _=>k b o d e) (λb o _ _ d e _=>⟨o.slots,k b o d e⟩) (λb u d e n=>by rw[upd_ne (λz=>d (by rw[z];exact hT))];exact n)
  (λb u d e=>⟨u,k b u d e⟩) (λb x e=>by rw[upd_ne (zae e g)];exact e) (λb u x e=>by rw[upd_ne (zae e g)];exact e) (λb t e=>⟨#[],by rw[upd_ne (zae e g),e];simp⟩) (λm i=>?_) (λb u e=>?_) I.bare
 ·obtain⟨o,l,p,j,r⟩:=i;exact⟨o,l,p,k _ o (λz=>(h _ z).2.1 rfl) j,r⟩
 ·by_cases a:b=T
  ·subst a;rw[upd_same] at e;obtain rfl:=sI e;exact new
  ·rw[upd_ne a] at e;refine (I.hok b u e).stay (λc v d q=>k c v ?_ q) (λc q=>by rw[upd_ne (zae q g)];exact q) λc x q=>by rw[upd_ne (zae q g)];exact q
   rcases d with z|z
   ·rw[z];exact f b u e
   ·exact f c _ z
structure KCall (X:Cx) (f:Ze) (Φ:W->Option W) (Al:List (Zh×Obj)->Hp->Prop):Prop where
 mono:∀{pins pins':List (Zh×Obj)}{F F':Hp},Al pins F->(∀p∈pins,p∈pins')->Same F F'->Al pins' F'
 run:∀(pins:List (Zh×Obj)) (s:Zf) (σ:St) (H F:Hp) (pr:Prt) (en:En) (w k:W) (v:V) (u:Ze),Al pins F->Inv X pins σ H s->Rel X.K F pr en σ H->Rep X.K F w v->RelV v u->Φ w=Za k ->
  wpAny #v[2,7] X.A (call f [u]) (λu' s'=>∃v' F' H',Inv X pins σ H' s'/\Same F F'/\Rel X.K F' pr en σ H'/\RelV v' u'/\Rep X.K F' k v') (λ_ _=>False) s
structure Apart (X:Cx) (pins:List (Zh×Obj)) (b:Zh):Prop where
 l:b≠X.env.locals
 f:b ∉ X.fs
 x:b∈X.ex\/X.s₀.heap.objs.size<=b
 c:∀x c,X.env.cells.lookup x=Za c->c≠b
 p:∀p∈X.pn++pins,p.1≠b
theorem Apart.fp (a:Apart X pins b)(h:H b=Zb):FpOk X pins H b:=⟨h,a.l,a.f,a.x,a.c,a.p⟩
theorem FpOk.apart (h:FpOk X pins H b):Apart X pins b:=⟨h.2.1,h.2.2.1,h.2.2.2.1,h.2.2.2.2.1,h.2.2.2.2.2⟩
theorem zg2 {α β:Type}{f:α->Option β}:∀{as:List α}{bs:List β}{i:Nat}{a:α},mapO f as=Za bs->as[i]?=Za a->∃b,f a=Za b/\bs[i]?=Za b
 |[],_,_,_,_,h=>by simp at h
 | x::l,bs,i,a,e,h=>by
  obtain⟨b,k,e⟩:=bS e;obtain⟨g,d,e⟩:=bS e;obtain rfl:=sI e;cases i with
  |zero=>simp at h;subst h;exact⟨b,k,rfl⟩
  | succ i =>
   obtain⟨c,j,q⟩:=zg2 d (by simpa using h);exact⟨c,j,by simpa using q⟩
theorem zg7 {α β:Type}{f:α->Option β}:∀{as:List α}{bs:List β},mapO f as=Za bs->bs.length=as.length
 |[],_,e=>by obtain rfl:=sI e;rfl
 | x::d,bs,e=>by
  obtain⟨b,c,e⟩:=bS e;obtain⟨a,h,e⟩:=bS e;obtain rfl:=sI e;exact congrArg (· + 1) (zg7 h)
theorem z22 (Y:KCall X f Φ Al) {a kS:Zh}{e1:Nat}{vs:List Ze}{vvs:List V}{ws n:List W}{P:PySem.Fin->Zf->Prop}{E:Ze->Zf->Prop}
  (I:Inv X ((kS,seqObj "list" #[] 0)::(a,seqObj "list" #[] e1)::pins) σ H s) (al:Al pins F) (R:Rel X.K F pr en σ H) (Z:Vals vvs vs) (m:Reps X.K F ws vvs) (U:mapO Φ ws=Za n) (hz:vs.length<=sizeLine)
  (d:Apart X ((a,seqObj "list" #[] e1)::pins) kS)
  (fin:∀s' H' c keys e kvs,Inv X ((kS,seqObj "list" keys e)::(a,seqObj "list" #[] e1)::pins) σ H' s'->Same F c->Rel X.K c pr en σ H'->Vals kvs keys.toList->Reps X.K c n kvs->wpAny #v[2,7] X.A (ksk_end a Zc vs.toArray e1 (.ref kS) keys) P E s') :
  wpAny #v[2,7] X.A (ksk_rest a f Zc vs.toArray e1 (.ref kS)) P E s:=by
 have lw:ws.length=vs.length:=by rw[m.length,Z.length]
 have lk:n.length=vs.length:=by rw[zg7 U,lw]
 refine Aa (Dr ?_);rw[List.forIn_toArray];refine Aa (ksk_fold (λi s'=>∃H' c keys e kvs,Inv X ((kS,seqObj "list" keys e)::(a,seqObj "list" #[] e1)::pins) σ H' s'/\Same F c/\Rel X.K c pr en σ H'/\Vals kvs keys.toList/\Reps X.K c (n.take i) kvs) vs 0 s
  ⟨H,F,#[],0,[],I,.refl F,R,.nil,.nil⟩ ?step ?done)
 case step =>
  rintro j x s' S ⟨H',c,keys,e,kvs,y,g,K,t,r⟩;simp only [Dv] at r ⊢;have hj:=(Ap.mp S).1;obtain⟨w,hw⟩ : ∃w,ws[j]?=Za w:=⟨_,Ab #v[]⟩;nofun;obtain⟨k,B,C⟩:=zg2 U hw;obtain⟨v,hv,Q⟩:=m.get hw;obtain⟨u,hu,ru⟩:=Z.get hv;refine qG ?_;rw[S] at hu;obtain rfl:=sI hu;have zk:keys.size<=vs.length:=by
   have a1:=t.length.trans Cn;have a2:min j n.length=kvs.length:=by rw[<-De];exact r.length
   symm
  refine Aa (Ii (Ci (Y.run _ s' σ H' c pr en w k v x (Y.mono al (λp h=>Ai _ (Ai _ h)) g) y K (Q.mono g) ru B) (λl M he=>?_) λ_ _ hF=>hF.elim));nofun;obtain⟨v',F2,H2,J,q,R2,O,N⟩:=he;obtain⟨A,g2,_,_,_⟩:=J.pin (kS,seqObj "list" keys e) (Av _ An);ac_rfl
  try dsimp only
  refine Aa (Gj A rfl ?_ #v[] (Cm (Nat.le_of_eq (Array.size_push ..)) #v[]));have sb:=Dh M.heap kS (Obj.mapSeq (·.push l));obtain⟨L,D⟩ : ∃L,(M.heap.update kS (Obj.mapSeq (·.push l))).get? kS=Za (seqObj "list" (keys.push l) L):=⟨_,Hg A (·.push l)⟩;have I3:=J.pins_of λp h=>J.pin p (Av _ (Ai _ h));have I4:=I3.turned (t':=M.toks) (λb o hb eb=>(sb.2 b hb).trans eb) g2 d.l d.x d.c d.p;refine Aj ⟨rfl,H2,F2,keys.push l,L,kvs++[v'],?_,g.trans q,R2,?_,?_⟩
  ·refine I4.pins_of λp h => ?_;rcases Ao.mp h with rfl|h
   ·exact⟨D,g2,d.l,d.f,λv z=>by cases z⟩
   ·exact I4.pin p (Av _ h)
  ·rw[Eh];exact Vals.append t (.cons O .nil)
  ·rw[Gq,C];exact (r.mono q).append (.cons N .nil)
 case done =>
  rintro s' ⟨H',c,keys,e,kvs,y,g,K,t,r⟩;rw[El #v[]] at r;obtain⟨A,_⟩:=y.pin (kS,seqObj "list" keys e) (Av _ An)
  try dsimp only
  refine Aa (listItems_at A rfl ?_);exact fin s' H' c keys e kvs y g K t r
end
noncomputable def intV:V->Option Int
 |.int j=>Za j
 |_=>Zb
noncomputable def kfV (H:Hp):Ze->List Int
 |.int n _=>[n]
 | .ref a=>match H a with
  | some (.tup [.int i,.ref b])=>(match H b with
   |some (.tup v)=>i::v.filterMap intV
   |_=>[])
  |_=>[]
 |_=>[]
theorem zh7:∀is:List Int,(is.map V.int).filterMap intV=is
 |[]=>rfl
 |i::is=>by rw[Ax];show i::_=_;rw[zh7 is]
theorem zi8 {K:Zg}:∀{ws:List W}{is:List Int}{vs:List V},zo0 ws=Za is->Reps K F ws vs->vs=is.map V.int
 |[],_,_,e,r=>by obtain rfl:=sI e;cases r;rfl
 | w::ws,is,vs,e,r=>by
  cases w with
  | int i =>
   obtain⟨a,h,e⟩:=bS (show (zo0 ws).bind _=_ from e);obtain rfl:=sI e;cases r with
   | cons b r =>
    cases b;rw[zi8 h r];rfl
  |_=>exact noSome e
theorem znh (h:Vals (is.map V.int) its):IntsAre its is:=by
 induction is generalizing its with
 |nil=>cases h;exact .nil
 | cons i is b =>
  cases h with
  | cons a t =>
   obtain⟨c,rfl⟩:=a;exact .cons i c (b t)
section
variable {X:Cx}{pins:List (Zh × Obj)}{σ:St}{H F:Hp}{s:Zf}
theorem z0k {k:W}{a:List Int}{v:V}{u:Ze} (e:kI k=Za a) (r:Rep X.K F k v) (b:RelV v u):(∃n t,u=.int n t/\kfV H u=[n])/\kfV H u=a:=by
 cases k with
 | int i =>
  obtain rfl:=sI e;cases r;obtain⟨t,rfl⟩:=b;exact⟨⟨i,t,rfl,rfl⟩,rfl⟩
 |_=>exact noSome e
theorem zvj (I:Inv X pins σ H s) (g:Same F H) (e:kT k=Za kl) (r:Rep X.K F k v) (y:RelV v u):KeyT s.heap u kl/\kfV H u=kl:=by
 unfold kT at e;split at e
 ·rename_i i K
  obtain⟨p,E,e⟩:=bS e;obtain rfl:=sI e;cases r with
  | @tup L a l h c =>
   cases c with
   | @cons _ O _ w A c =>
    cases A;cases c with
    | @cons _ M _ B m c =>
     cases c;cases m with
     | @tup _ b N j n =>
      have C:=zi8 E n;subst C;cases (show u=Ze.ref a from y);nofun;obtain⟨J,d,D,_⟩:=I.tuple (.inl (.inl (g _ _ h)));obtain⟨f,x,o,_⟩:=I.tuple (.inl (.inl (g _ _ j)));refine qG ?_;cases d with
      | cons z d =>
       cases d with
       | cons q d =>
        cases d;obtain⟨t,rfl⟩:=z;cases (show _=Ze.ref b from q);refine⟨⟨a,b,i,t,p,f,.ref b,rfl,rfl,D,rfl,o,znh x⟩,?_⟩;show (match H a with|some (.tup [.int i,.ref b])=>_|_=>_)=_;rw[g _ _ h];show (match H b with|some (.tup l)=>i::l.filterMap intV|_=>[])=_;rw[g _ _ j];show i::_=_;rw[zh7]
 ·exact noSome e
theorem z3z {keys:Array Ze}{vs:List Ze}{w:List W}{kvs:List V}{J:List (List Int)}{A:Around}{E:Ze->Zf->Prop} (I:Inv X pins σ H s) (sm:Same F H) (B:A.units+2<cLine) (U:Vals kvs keys.toList) (rp:Reps X.K F w kvs) (j:((mapO kI w).orElse λ_=>mapO kT w)=Za J) (hl:keys.size=vs.length) :
  ∃κ:SortKind,(2<=vs.length->∀Q':SortKind->Zf->Prop,Q' κ s->wpAny #v[2,7] A (keyKind' keys) Q' E s)/\Tim.Asks X.prog X.w A E s κ (keys.zip vs.toArray) (λx y=>lexI (kfV H x.1) (kfV H y.1))/\keys.toList.map (kfV H)=J:=by
 have lk:w.length=keys.size:=by rw[rp.length,U.length,Cn]
 have mem:∀x∈(keys.zip vs.toArray).toList,∃i,keys.toList[i]?=Za x.1:=λx D=>by
  rw[ksk_zip] at D;have:=(Fu D).1;obtain⟨i,m,e⟩:=Dm.mp this;exact⟨i,by rw[Ab m,e]⟩
 have back:∀(f:W->Option (List Int)),mapO f w=Za J->(∀(k:W) (l:List Int) (v:V) (u:Ze),f k=Za l->Rep X.K F k v->RelV v u->kfV H u=l)->keys.toList.map (kfV H)=J:=λf Q hk=>by
  apply Ea;intro i;rw[Ak];by_cases m:i<keys.size
  ·obtain ⟨k,O⟩ : ∃ k,w[i]? = Za k:=⟨_,Ab (by symm)⟩
   nofun;obtain⟨l,d,Y⟩:=zg2 Q O;obtain⟨v,S,g⟩:=rp.get O;obtain⟨u,P,r⟩:=U.get S;refine qG ?_;rw[P,Y];exact congrArg Za (hk k l v u d g r)
  ·rw[Ck (by simpa using m),Ck (by rw[zg7 Q];symm)];rfl
 have N : ∀(f:W->Option (List Int)),mapO f w=Za J->∀(i:Nat) (u:Ze),keys.toList[i]?=Za u->∃k l v,f k=Za l/\Rep X.K F k v/\RelV v u:=λf Q i u B=>by
  have m:i<keys.size:=by have:=(Ap.mp B).1;simpa using this
  obtain⟨k,O⟩ : ∃k,w[i]?=Za k:=⟨_,Ab #v[]⟩;nofun;obtain⟨l,d,Y⟩:=zg2 Q O;obtain⟨v,S,g⟩:=rp.get O;obtain⟨u',P,r⟩:=U.get S;refine qG ?_;rw[B] at P;obtain rfl:=sI P;exact⟨k,l,v,d,g,r⟩
 cases q:mapO kI w with
 | some R =>
  rw [q] at j;cases (show Za R=Za J from j);have all:∀(i:Nat) (u:Ze),keys.toList[i]?=Za u->∃n t,u=.int n t/\kfV H u=[n]:=λi u B=>by
   nofun;obtain⟨k,l,v,d,g,r⟩:=N kI q i u B;ac_rfl;exact (z0k d g r).1
  refine⟨oneType',λh2 Q' Z=>?_,zsd λx D=>?_,back kI q λk l v u d g r=>(z0k d g r).2⟩
  ·have ia:=intsAre_map keys.toList λv p=>by
    nofun;obtain⟨i,m,e⟩:=Dm.mp p;obtain⟨n,t,h,_⟩:=all i v (by rw[Ab m,e]);refine qG ?_;exact⟨n,t,h⟩
   rw[ksk_kind ia #v[]];exact Aj Z
  ·obtain ⟨i,m⟩:=mem x D
   exact all i x.1 m
 | none =>
  rw [q] at j;have all:∀(i:Nat) (u:Ze),keys.toList[i]?=Za u->KeyT s.heap u (kfV H u):=λi u B=>by
   nofun;obtain⟨k,l,v,d,g,r⟩:=N kT j i u B;obtain⟨C,K⟩:=zvj I sm d g r;ac_rfl;rw[K];exact C
  refine⟨tuples' Zd,λh2 Q' Z=>?_,z19 B λx D=>?_,back kT j λk l v u d g r=>(zvj I sm d g r).2⟩
  ·have kt:∃fs:List Ze,PySem.W.KatTups s.heap keys.toList fs/\fs.length=keys.size/\∀v∈fs,∃n t,v=.int n t:=by
    have gen:∀l:List Ze,(∀(i:Nat) (u:Ze),l[i]?=Za u->KeyT s.heap u (kfV H u))->∃fs:List Ze,PySem.W.KatTups s.heap l fs/\fs.length=l.length/\∀v∈fs,∃n t,v=.int n t:=by
     intro l
     induction l with
     |nil=>exact λ_=>⟨[],trivial,rfl,λv p=>by simp at p⟩
     | cons u l ih =>
      intro h;nofun;obtain⟨fs,C,K,L⟩:=ih λi v p=>h (i+1) v (by simpa using p);obtain⟨a,b,i,t,ns,its,c,d,Y,q1,rfl,q2,q3⟩:=(h 0 u rfl).ex;obtain⟨o,k1,k2,n,k3⟩:=id q1;refine qG ?_;subst d;exact⟨.int i t::fs,PySem.W.KatTups.cons k1 k2 k3 rfl C,by simpa using K,λv p=>(Ao.mp p).elim (λz=>⟨i,t,z⟩) (L v)⟩
    nofun;obtain⟨fs,C,K,L⟩:=gen keys.toList all;ac_rfl;exact⟨fs,C,by simpa using K,L⟩
   refine aG λ_ qG=>?_;obtain ⟨fs,C,K,L⟩:=kt;refine qG ?_;clear qG;have:=PySem.W.kat_kind (M:=model X.prog X.w) (A:=A) (E:=E) C (by symm) (λv p=>by
    obtain⟨n,t,rfl⟩:=L v p;exact .now) rfl Z
   exact this
  ·obtain ⟨i,m⟩:=mem x D
   exact all i x.1 m
end
section
theorem zvf {α:Type} [DecidableEq α] {β:Type}:∀{b:List α}{ws:List β},b.Nodup->∀x∈b.zip ws,∀y∈b.zip ws,x.1=y.1->x=y
 |[],_,_,x,h,_,_,_=>by simp at h
 |_::_,[],_,x,h,_,_,_=>by simp at h
 | k::b,w::ws,c,x,h,y,a,e=>by
  have n:=Bt.mp c;rcases Ao.mp h with rfl|h
  ·rcases Ao.mp a with rfl | a
   ·rfl
   ·have:=(Fu a).1
    exact absurd (by rw[<-e] at this;exact this) n.1
  ·rcases Ao.mp a with rfl | a
   ·have:=(Fu h).1
    exact absurd (by rw[e] at this;exact this) n.1
   ·exact zvf n.2 x h y a e
theorem zq2 {K:Zg}:∀{a:List Ze}{ws:List W}{vvs:List V}{vs:List Ze},Vals vvs vs->Reps K F ws vvs->All2 (λ(z:KP) (x:Keyed)=>kf x.1=z.1/\∃v,RelV v x.2/\Rep K F z.2 v) ((a.map kf).zip ws) (a.zip vs)
 |[],_,_,_,_,_=>by simp;exact .nil
 |k::a,_,_,_,.nil,.nil=>by simp;exact .nil
 |k::a,_,_,_,.cons r b,.cons h c=>.cons ⟨rfl,_,r,h⟩ (zq2 b c)
theorem zrk {K:Zg}{F:Hp}{kf:Ze->List Int}:∀{c:List KP}{r:List Keyed},All2 (λ(z:KP) (x:Keyed)=>kf x.1=z.1/\∃v,RelV v x.2/\Rep K F z.2 v) c r->∃vs,Vals vs (r.map (·.2))/\Reps K F (c.map (·.2)) vs
 |_,_,.nil=>⟨[],.nil,.nil⟩
 | _,_,.cons ⟨_,v,d,h⟩ t=>by
  obtain⟨vs,a,b⟩:=zrk t;exact⟨v::vs,.cons d a,.cons h b⟩
noncomputable def z58 (ks ws out:List W):Prop:=∀{X:Cx}{pins:List (Zh×Obj)}{σ:St}{H F:Hp}{s:Zf}{keys:Array Ze}{vs:List Ze}{kvs vvs:List V}{A:Around}{E:Ze->Zf->Prop},Inv X pins σ H s->Same F H->A.units+2<cLine->Vals kvs keys.toList->Reps X.K F ks kvs->Vals vvs vs->Reps X.K F ws vvs->keys.size=vs.length ->
 ∃(κ:SortKind) (kf:Ze->List Int) (bf le:Keyed->Keyed->Prop),(2<=vs.length->∀Q':SortKind->Zf->Prop,Q' κ s->wpAny #v[2,7] A (keyKind' keys) Q' E s)/\Tim.Asks X.prog X.w A E s κ (keys.zip vs.toArray) (λx y=>lexI (kf x.1) (kf y.1))/\Tim.Ord (λx y:Keyed=>lexI (kf x.1) (kf y.1)) bf le/\(∀c,Tim.Cut bf (keys.zip vs.toArray) c) /\
  ∀r:List Keyed,r.Perm (keys.toList.zip vs)->r.Pairwise le->∃ov,Vals ov (r.map (·.2))/\Reps X.K F out ov/\ov.length<=vs.length
theorem z4h {k ws out:List W}(h:zvp k ws=Za out):z58 k ws out:=by
 intro X pins σ H F s keys Y kvs vvs A E I n R w P i b c;obtain⟨kl,d,h⟩:=bS h;split at h
 ·rename_i g;rw[Ae] at g;nofun;obtain⟨κ,Q,C,e⟩:=z3z (E:=E) I n R w P d c;refine qG ?_;refine⟨κ,kfV H,λ_ _=>True,_,Q,C,zxw _,λ_ _ _ _ _ _=>trivial,λr N O=>?_⟩;obtain⟨t,p,a⟩:=All2.perm N.symm (zq2 (F:=F) i b);rw[e] at p;have u:=All2.pair (λz x m Z M j q=>by show lexI m.1 z.1=Zc;rw[<-M.1,<-j.1];exact q) a O;have B:=zep (p.symm.trans (zek _).symm) u (zcw _) λx v y K=>zvf (zhn g.1) x (p.symm.mem_iff.mp v) y (p.symm.mem_iff.mp K);obtain⟨D,J,o⟩:=zrk a;have f:out=t.map (·.2):=by rw[B];exact (sI h).symm
  rw[<-f] at o;refine⟨D,J,o,?_⟩;have L:=o.length;have U:=i.length;have S:=b.length;have l:=p.length_eq;rw[List.length_zip] at l;rw[f,Ac] at L;symm
 ·exact noSome h
theorem zgu (hT:T = "list"\/T = "tuple") (d:s.heap.get? l=Za o) (e:o.cls=.type T) (c:o.data=.seq vs.toArray n)
  (h:Q vs { s with heap:=#v[4,8].update s.heap.objs.size (Obj.mapSeq (·++vs.toArray)) }) (hsz:vs.length<=sizeLine) :
  wpAny (model prog w) A (collect (.ref l)) Q E s:=by
 refine Aa (wpAny_runValue (Ht entry_proto_collect' ?_));refine Aa (Ig (Aj ⟨Code.quiet_builtin _ #v[0,0,7],Ht entry_list_iadd' ?_⟩));show wpAny _ _ (Builtin.List.listExtendWith (.ref s.heap.objs.size) (.ref l) (.ref s.heap.objs.size)) _ _ { s with heap:=s.heap.push #v[1,13] };have a : #v[4,8].get? l=Za o:=Ad _ d;refine Aa (wpAny_typeOf ⟨o,a,e⟩ ?_);have b:(Ze.type T==Ze.type "list" || Value.type T==Ze.type "tuple")=Zd:=by rcases hT with rfl|rfl<;>rfl
 rw[if_pos (by rw[Bool.or_assoc,b,Bool.or_true])];refine Aa (listItems_at a c ?_);refine Aa (listItems_at (Ay _ rfl) rfl ?_);refine Aa (Gj (Ay _ rfl) rfl ?_ (Bm _) (by show (#[]++vs.toArray).size<=sizeLine+1;simp only [Array.size_append,Am,Gi];symm));refine Aj ?_;refine Aa (wpAny_load (Hg (Ay _ rfl) _) ?_);show wpAny _ _ (pure ((#[]:Array Ze)++vs.toArray).toList) Q E _;rw[show ((#[]:Array Ze)++vs.toArray).toList=vs by simp];exact Aj h
theorem zt0 (KC:KCall X.inn (.ref q) Φ Al) (I:Inv X pins σ H s) (al:Al pins F) (R:Rel X.K F pr en σ H) (hl:SqL X.K H l vvs\/SqT X.K H l vvs) (y:Reps X.K F ws vvs)
  (hk:mapO Φ ws=Za ks) (hs:z58 ks ws out) (hu:X.A.units+4<cLine) (h:∀J H' v,Same F J->Rel X.K J pr en σ H'->Res X.K J H' pr en σ (.lst out,Zd) v->Q v H') :
  wpAny #v[2,7] X.A (call (.builtin "sorted") [.ref l] [(Str.ofString "key",.ref q)]) (EP X pins σ Q) E s:=by
 nofun;obtain⟨vs,B,T,o,n,hT,L,U,N,Y⟩ : ∃vs,Vals vvs vs/\∃T o n,(T = "list"\/T = "tuple")/\s.heap.get? l=Za o/\o.cls=.type T/\o.data=.seq vs.toArray n/\vvs.length<=sizeLine:=by
  rcases hl with hq|hq
  ·obtain⟨vs,B,⟨o,n,L,U,_,N⟩,Y⟩:=I.list hq;exact⟨vs,B,_,o,n,.inl rfl,L,U,N,Y⟩
  ·obtain⟨vs,B,⟨o,L,U,n,N⟩,Y⟩:=I.tuple hq;exact⟨vs,B,_,o,n,.inr rfl,L,U,N,Y⟩
 ac_rfl;have lv:vvs.length=vs.length:=B.length;have g:vs.length<=sizeLine:=by symm
 have lw:ws.length=vs.length:=by rw[y.length,lv]
 have lk:ks.length=vs.length:=by rw[zg7 hk,lw]
 refine call_function_entry_kw kind_sorted plain_sorted entry_sorted (ksk_s1 _ _) ?_;unfold Builtin.«sorted»;refine Aa (m:=checkCount "sorted" 1 1 _) (Aj ?_);refine Aa (zgu hT L U N ?_ g);refine Aa (Ig ?_ g);have k:(#v[4,8].update s.heap.objs.size (Obj.mapSeq (·++vs.toArray))).objs.size=s.heap.objs.size+1:=by
  rw[Heap.size_update,size_push']
 have d:((#v[4,8].update s.heap.objs.size (Obj.mapSeq (·++vs.toArray))).push #v[3,10]).get? #v[4,11]=Za #v[3,10]:=by
  rw[<-k];exact Ay _ rfl
 have keep:∀b o,s.heap.get? b=Za o->((#v[4,8].update s.heap.objs.size (Obj.mapSeq (·++vs.toArray))).push #v[3,10]).get? b=Za o:=λb o q=>by
  have f:b<s.heap.objs.size:=Ar q;rw[Ie _ _ _ (by rw[k];exact Bc (Ez f)),Heap.get?_update_ne _ _ _ _ (Bc f),Ie _ _ _ (Bc f)];exact q
 have x:((#v[4,8].update s.heap.objs.size (Obj.mapSeq (·++vs.toArray))).push #v[3,10]).objs.size=s.heap.objs.size+2:=by rw[size_push',k]
 rw[k];generalize (#v[4,8].update s.heap.objs.size (Obj.mapSeq (·++vs.toArray))).push #v[3,10]=h3 at d keep x ⊢;obtain⟨a,ea⟩ : ∃a,a=s.heap.objs.size+1:=⟨_,rfl⟩;rw[<-ea] at d ⊢;refine Aa (Ct (wpAny_call_entry_kw slot_list_sort ⟨_,d,rfl⟩ entry_list_sort ?body (ksk_l1 _ _)))
 case body =>
  rw[ksk_t1];have ha:a<h3.objs.size:=by symm
  have s1:=Dh h3 a #v[1,9];obtain⟨e1,M⟩ : ∃e1,(h3.update a #v[1,9]).get? a=Za #v[4,15]:=⟨_,Hg d λ_=>#[]⟩;unfold ksk_tree;refine Aa (listItems_at d rfl ?_);refine Aa (Gj d rfl ?_ (by rw[Am];symm) (Bm _));refine Aa (seqEpoch_at M rfl ?_);refine Aa (wpAny_newTuple ?_ g);refine Aa (Ig ?_ (Bm _));refine Ct ?_;have hz4:#v[9,7].objs.size=s.heap.objs.size+3:=by rw[size_push',Heap.size_update,x]
  obtain⟨kS,ek⟩ : ∃kS,kS=#v[9,7].objs.size:=⟨_,rfl⟩;rw[<-ek] at hz4 ⊢;have P:∀b o,s.heap.get? b=Za o->(#v[9,7].push #v[1,13]).get? b=Za o:=λb o Z=>by
   refine Ad _ (Ad _ ?_);have f:b<s.heap.objs.size:=Ar Z;exact (s1.2 b (Bc (by rw[ea];exact Ez f))).trans (keep b o Z)
  have ga:(#v[9,7].push #v[1,13]).get? a=Za #v[4,15]:=Ad _ (Ad _ M);have gk:(#v[9,7].push #v[1,13]).get? kS=Za #v[1,13]:=by rw[ek];exact Ay _ rfl
  generalize #v[9,7].push #v[1,13]=h6 at P ga gk ⊢;have na:H a=Zb:=I.hok.fresh #v[];have nk:H kS=Zb:=I.hok.fresh #v[];have pa:Apart X pins a:=(I.fpOk (H':=H) #v[] na).apart;have u:Apart X pins kS:=(I.fpOk (H':=H) #v[] nk).apart;have D:kS≠a:=by symm
  have i:Apart X ((a,seqObj "list" #[] e1)::pins) kS:=⟨u.l,u.f,u.x,u.c,λp t=>by
   rcases Bh.mp t with z|z
   ·exact u.p p (Cq _ z)
   ·rcases Ao.mp z with rfl|z
    ·exact D.symm
    ·exact u.p p (Av _ z)⟩
  have I6:Inv X pins σ H { s with heap:=h6 }:=I.kept (t':=s.toks) P;have I7:Inv X ((kS,seqObj "list" #[] 0)::(a,seqObj "list" #[] e1)::pins) σ H { s with heap:=h6 }:=I6.pins_of λp t=>by
   rcases Ao.mp t with rfl|t
   ·exact⟨gk,nk,u.l,u.f,λv z=>by cases z⟩
   ·rcases Ao.mp t with rfl|t
    ·exact⟨ga,na,pa.l,pa.f,λv z=>by cases z⟩
    ·exact I6.pin p (Av _ t)
  refine z22 (X:=X.inn) (pins:=pins) KC I7.inn al R B y hk g ⟨i.l,i.f,i.x,i.c,i.p⟩ λs' H' J keys e kvs I8 s8 R8 rk rp=>?_;have j:=I8.out;nofun;obtain⟨g1,g2,_⟩:=j.pin (kS,seqObj "list" keys e) (Av _ An);obtain⟨g3,g4,_⟩:=j.pin (a,seqObj "list" #[] e1) (Av _ (Ai _ An));ac_rfl;have S:keys.size=vs.length:=by
   have a1:kvs.length=keys.size:=rk.length.trans Cn;have a2:ks.length=kvs.length:=rp.length;symm
  nofun;obtain⟨κ,kf,bf,le,kd,C,O,w,fn⟩:=hs (A:=X.A.in1.in1) (E:=E) (vs:=vs) j R8.sub (by show X.A.units+1+1+2<cLine;symm) rk rp B (y.mono s8) S;ac_rfl;refine z7n (kf:=kf) O w g1 g3 D S g kd C λr h' c pm pw ga' kp'=>⟨_,rfl,?_⟩;obtain⟨ov,o1,o2,lo⟩:=fn r pm pw;have lo:ov.length<=sizeLine:=by symm
  have I9:Inv X pins σ H' s':=j.pins_of λp t=>j.pin p (Av _ (Ai _ (Ai _ t)));have I10:Inv X pins σ (upd H' a (.lst ov)) { s' with heap:=h' }:=I9.adopt (t':=s'.toks) (ch:=[a,kS]) (λb o w Z=>kp' b o (λz=>w (by simp [z])) (λz=>w (by simp [z])) Z) (λb w=>by
   rcases Ao.mp w with rfl|w
   ·exact pa.fp g4
   ·rw[As.mp w];exact u.fp g2) An ⟨lo,r.map (·.2),c,o1,ga'⟩
  refine Aj ⟨_,rfl,.ref a,_,I10,rfl,?_⟩;nofun;obtain⟨F9,s9,R9,y9⟩:=(Out.lst (K:=X.K) (F:=J) (H:=H') (p:=a) g4 o2).close R8;ac_rfl;exact h F9 _ _ (s8.trans s9) R9 y9
end
open Classical in
section
variable {K:Zg}
end
end L2
namespace L2
open PySem PySem.Spec PyProof.Rows
section
noncomputable def kN:Ze->List Int
 |.int n _=>[n]
 |_=>[]
theorem zu2 (u:s.heap.get? a=Za (seqObj "list" vs.toArray n)) (ia:IntsAre vs ns) (C:vs.length<=sizeLine)
  (h:∀(r:List Keyed) h' c,r.Perm (vs.zip vs)->r.Pairwise (λx y=>lexI (kN y.1) (kN x.1)=Zc)->h'.get? a=Za (seqObj "list" (r.map (·.2)).toArray c)->(∀b o,b≠a->s.heap.get? b=Za o->h'.get? b=Za o)->P (.done (.ret .none)) { s with heap:=h' }) :
  wpAny (model prog w) A (Builtin.«list.sort» ⟨[.ref a],[]⟩) P E s:=by
 have L:=Dh s.heap a #v[1,9];rw[list_sort_plain];refine Aa (listItems_at u rfl ?_);refine Aa (Gj u rfl ?_ (by rw[Am];exact C) (Bm _));obtain⟨e1,I⟩ : ∃e1,(s.heap.update a #v[1,9]).get? a=Za #v[4,15]:=⟨_,Hg u λ_=>#[]⟩;refine Aa (seqEpoch_at I rfl ?_);refine Aa (wpAny_newTuple ?_ C);refine Aa (Ig ?_ (Bm _));refine Ct ?_;have l:(#v[6,12].push #v[1,13]).get? a=Za #v[4,15]:=Ad _ (Ad _ I);have B:∀b o,b≠a->s.heap.get? b=Za o->(#v[6,12].push #v[1,13]).get? b=Za o:=λb o p z=>Ad _ (Ad _ ((L.2 b p).trans z));generalize #v[6,12].push #v[1,13]=J at l B ⊢;have K:(vs.toArray.zip vs.toArray).size=vs.length:=by rw[Array.size_zip,Am,Nat.min_self]
 have fin:∀f:SortSt,(arrOf f).Perm (vs.toArray.zip vs.toArray)->Tim.Srt (λx y=>lexI (kN y.1) (kN x.1)=Zc) (arrOf f) 0 (vs.toArray.zip vs.toArray).size->P (.done (.ret .none)) { s with heap:=J.update a (Obj.mapSeq λ_=>(arrOf f).map (·.2)) }:=λf g q=>by
  have R:=Dh J a (Obj.mapSeq λ_=>(arrOf f).map (·.2));refine h (arrOf f).toList _ _ ?_ (Tim.srt_list (by rw[g.size_eq];exact q)) (by rw[<-Array.toList_map];exact Hg l λ_=>(arrOf f).map (·.2)) λb o p z=>(R.2 b p).trans (B b o p z);have:=Gb.mp g;rw[ksk_zip] at this;exact this
 have H:∀f:SortSt,(arrOf f).Perm (vs.toArray.zip vs.toArray)->((arrOf f).map (·.2)).size<=sizeLine+1:=λf g=>by rw[Array.size_map,g.size_eq,K];symm
 dsimp only;by_cases k:vs.toArray.size<2
 ·rw[if_pos k,if_pos k];refine Aa (Aj ?_);refine Aa (Aj ?_);dsimp only;have g:(arrOf (SortSt.mk' general' (vs.toArray.zip vs.toArray) #[] 7 Zb)).Perm (vs.toArray.zip vs.toArray):=Array.Perm.refl _;refine Aa (seqEpoch_at l rfl ?_);refine Aa (Gj l rfl ?_ (Bm _) (H _ g));simp only [bne_self_eq_false,Fq,if_false];refine Aj (fin (SortSt.mk' general' (vs.toArray.zip vs.toArray) #[] 7 Zb) g λi j _ h3 h4=>?_);rw[Am] at k;symm
 ·rw [if_neg k,if_neg k];rw [Am] at k;have N:∀v∈vs,∃m t,v=.int m t/\kN v=[m]:=λv U=>by
   obtain⟨i,X,e⟩:=Dm.mp U;have hl:=ia.length;obtain⟨t,F⟩:=ia.get i ns[i] (Ab #v[]);rw[Ab X,e] at F;obtain rfl:=sI F;exact⟨_,t,rfl,rfl⟩
  have S:∀s,Tim.Asks prog w A E s oneType' (vs.toArray.zip vs.toArray) (λx y=>lexI (kN x.1) (kN y.1)):=λs=>zsd λx D=>by
   rw[ksk_zip] at D;exact N x.1 (Fu (a:=x.1) (b:=x.2) D).1
  rw[ksk_kind (keys:=vs.toArray) (by rw[List.toList_toArray];exact ia) (by rw[Am];symm)];refine Aa (Aj ?_);refine Aa (Ci (Tim.q_sort (Q:=λ_ d=>(arrOf d).Perm (vs.toArray.zip vs.toArray)/\failedOf d=Zb/\Tim.Srt (λx y=>lexI (kN y.1) (kN x.1)=Zc) (arrOf d) 0 (vs.toArray.zip vs.toArray).size)
   (S _) (zxw kN) ⟨rfl,rfl,Array.Perm.refl _,rfl⟩ rfl (λ_ _ _ _ _ _=>trivial) λd M O Z=>⟨O,M,Z⟩) ?_ λ_ _ e=>e)
  rintro ⟨⟨⟩,d⟩ s' ⟨rfl,g,Y,q⟩;dsimp only;refine Aa (seqEpoch_at l rfl ?_);refine Aa (Gj l rfl ?_ (Bm _) (H _ g));rw[Y];simp only [bne_self_eq_false,Fq,if_false];exact Aj (fin d g q)
end
noncomputable def zhy (ns:List Int):List Int:=(zok (ns.map λn=>([n],W.int n))).map λz=>z.1.headD 0
noncomputable def pz (n:Int):KP:=([n],W.int n)
theorem zqr (a b:Int):lexI [a] [b]=decide (a<b):=by
 unfold lexI;by_cases c:a<b
 ·have : ¬ a=b:=by symm
  simp [this]
 ·simp [c,lexI]
theorem zqz (p:ms.Perm ns)(s:ms.Pairwise (·<=·)):zhy ns=ms:=by
 have e:=zep ((p.map pz).trans (zek _).symm) (by
  rw[Cy];exact s.imp λ{a b} h=>by show lexI [b] [a]=Zc;rw[zqr];exact At #v[]) (zcw _) λx d y c h=>by
   obtain⟨a,_,rfl⟩:=Bd.mp d;obtain⟨b,_,rfl⟩:=Bd.mp c;have:a=b:=by injection h
   rw[this]
 show (zok (ns.map pz)).map _=ms;rw[<-e,Ca];exact (Cv λa _=>rfl).trans (List.map_id ms)
section
variable {X:Cx}
theorem zlf:∀{l:List Keyed},(∀x∈l,x.2=x.1/\∃n t,x.1=.int n t)->Vals ((l.map λx=>(kN x.1).headD 0).map V.int) (l.map (·.2))
 |[],_=>.nil
 | x::l,h=>by
  obtain⟨e,n,t,q⟩:=h x (.head _);refine .cons ?_ (zlf λy a=>h y (.tail _ a));show RelV (V.int ((kN x.1).headD 0)) x.2;rw[e,q];exact⟨t,rfl⟩
theorem z2x {vs:List Ze}{x:Keyed} (h:x∈vs.zip vs):x.2=x.1/\x.1∈vs:=by
 induction vs with
 |nil=>exact absurd h Br
 | cons v vs i =>
  rcases Ao.mp h with rfl|h
  ·exact⟨rfl,.head _⟩
  ·exact⟨(i h).1,.tail _ (i h).2⟩
theorem zt8:zfz X (.builtin "sorted") (λxs H Q=>∃(l:Zh) (ns:List Int),xs=[.ref l]/\(SqL X.K H l (ns.map V.int)\/SqT X.K H l (ns.map V.int))/\∀p,H p=Zb->Q (.ref p) (upd H p (.lst ((zhy ns).map V.int)))):=by
 intro pins s σ H xs us Q I r h;obtain⟨l,ns,rfl,C,q⟩:=h;obtain⟨u,rfl,Z⟩:=vals1 r;cases Z;obtain⟨vs,k,T,o,n,hT,B,D,w,A⟩ : ∃vs,Vals (ns.map V.int) vs/\∃T o n,(T = "list"\/T = "tuple")/\s.heap.get? l=Za o/\o.cls=.type T/\o.data=.seq vs.toArray n/\(ns.map V.int).length<=sizeLine:=by
  rcases C with C|C
  ·obtain⟨vs,k,⟨o,n,B,D,_,w⟩,A⟩:=I.list C;exact⟨vs,k,_,o,n,.inl rfl,B,D,w,A⟩
  ·obtain⟨vs,k,⟨o,B,D,n,w⟩,A⟩:=I.tuple C;exact⟨vs,k,_,o,n,.inr rfl,B,D,w,A⟩
 have lv:ns.length=vs.length:=by have:=k.length;rw[Ac] at this;exact this
 have j:vs.length<=sizeLine:=by rw[Ac] at A;symm
 have K:IntsAre vs ns:=znh k;refine call_function_entry_kw kind_sorted plain_sorted entry_sorted (args_sorted1 _) ?_;unfold Builtin.«sorted»;refine Aa (Aj ?_);refine Aa (zgu hT B D w ?_ j);refine Aa (Ig ?_ j);have g:(#v[4,8].update s.heap.objs.size (Obj.mapSeq (·++vs.toArray))).objs.size=s.heap.objs.size+1:=by
  rw[Heap.size_update,size_push']
 have d:((#v[4,8].update s.heap.objs.size (Obj.mapSeq (·++vs.toArray))).push #v[3,10]).get? #v[4,11]=Za #v[3,10]:=by
  rw[<-g];exact Ay _ rfl
 have keep:∀b o,s.heap.get? b=Za o->((#v[4,8].update s.heap.objs.size (Obj.mapSeq (·++vs.toArray))).push #v[3,10]).get? b=Za o:=λb o q=>by
  have f:b<s.heap.objs.size:=Ar q;rw[Ie _ _ _ (by rw[g];exact Bc (Ez f)),Heap.get?_update_ne _ _ _ _ (Bc f),Ie _ _ _ (Bc f)];exact q
 rw[g];generalize (#v[4,8].update s.heap.objs.size (Obj.mapSeq (·++vs.toArray))).push #v[3,10]=h3 at d keep ⊢;obtain⟨a,R⟩ : ∃a,a=s.heap.objs.size+1:=⟨_,rfl⟩;rw[<-R] at d ⊢;refine Aa (Ct (wpAny_call_entry_kw slot_list_sort ⟨_,d,rfl⟩ entry_list_sort ?body (args_list_sort _)))
 case body =>
  refine zu2 (s:={ s with heap:=h3 }) d K j λr h' c P pw Y kp=>⟨_,rfl,?_⟩;have M:∀x∈r,x.2=x.1/\∃n t,x.1=Ze.int n t:=λx F=>by
   obtain⟨J,L⟩:=z2x (P.mem_iff.mp F);obtain⟨i,hi,e⟩:=Dm.mp L;obtain⟨t,O⟩:=K.get i ns[i] (Ab #v[]);rw[Ab hi,e] at O;exact⟨J,_,t,sI O⟩
  have U:(r.map λx=>(kN x.1).headD 0).Perm ns:=by
   refine (P.map _).trans ?_;have:∀{vs:List Ze}{ns:List Int},IntsAre vs ns->(vs.zip vs).map (λx=>(kN x.1).headD 0)=ns:=λ{vs ns} h=>by
    induction h with
    |nil=>rfl
    |cons n t h ih=>rw[Da,Ax,ih];rfl
   rw[this K]
  have ps:(r.map λx=>(kN x.1).headD 0).Pairwise (·<=·):=by
   rw[Cy];refine pw.imp_of_mem λ{x y} F hy z=>?_;obtain⟨_,n,t,J⟩:=M x F;obtain⟨_,m,t',L⟩:=M y hy;rw[J,L] at z ⊢;have z:lexI [m] [n]=Zc:=z;rw[zqr] at z;have:=of_decide_eq_false z;show n<=m;symm
  have N:=zqz U ps;have E:=zlf M;rw[<-N] at E;refine Aj ⟨_,rfl,.ref a,_,I.laid (t':=s.toks) (λb o S=>kp b o (λz=>Cj _ (Nat.lt_trans (Ar S) (by rw[z,R];exact Gc _))) (keep b o S)) #v[] ?_,rfl,q a (I.hok.fresh #v[])⟩;exact⟨by rw[N,Ac,U.length_eq];symm,_,c,E,Y⟩
end
noncomputable def zhq:ON
 |[w]=>(seqW w).bind λa=>(zcs a).bind λn=>#v[((zhy n).map W.int),2]
 |_=>Zb
theorem zma {K:Zg}:∀ns:List Int,Reps K F (ns.map W.int) (ns.map V.int)
 |[]=>.nil
 |n::ns=>.cons (.int n) (zma ns)
theorem zsx {K:Zg}:OpSN K (λxs H Q=>∃(l:Zh) (ns:List Int),xs=[.ref l]/\(SqL K H l (ns.map V.int)\/SqT K H l (ns.map V.int))/\∀p,H p=Zb->Q (.ref p) (upd H p (.lst ((zhy ns).map V.int)))) zhq:=λF H c m k Q s r e q=>by
 match c,e with
 | [w],e =>
  nofun;obtain⟨c,j,e⟩:=bS (show (seqW _).bind _=_ from e);obtain⟨ns,d,e⟩:=bS e;refine qG ?_;obtain rfl:=sI e;nofun;obtain⟨v,f,h⟩:=r.one;obtain⟨a,u,g,b,p⟩:=h.seqW s j;ac_rfl;subst f g;rw[zd4 d] at p;rw[p.ints] at b;exact⟨a,ns,rfl,b,λl i=>q _ _ (.lst i (zma _))⟩
structure Sx where
 N:List Str
 kd:List (Str×NameKind)
 bn:List Str
 fs:List (Str×(List Bool×Fn))
 mp:List Nat
 top:Bool
 nm:Str := ""
 dp:Nat:=0
noncomputable def Sx.rd (S:Sx) (x:Str):Option Nat:=if x==("__debug__" : Str)||x==("__classdict__" : Str) then Zb else match S.kd.lookup x with
 |some .local=>S.N.findIdx? (· == x)
 |some .cell=>S.N.findIdx? (· == x)
 |some .free=>S.N.findIdx? (· == x)
 |_=>Zb
noncomputable def Sx.wr (S:Sx) (x:Str):Option Nat:=match S.kd.lookup x with
 |some .local=>S.N.findIdx? (· == x)
 |some .cell=>S.N.findIdx? (· == x)
 |_=>Zb
noncomputable def Sx.bl (S:Sx) (x:Str):Bool:=S.kd.lookup x==Za .globalImplicit&&S.bn.contains x
structure CxOk (X:Cx) (S:Sx) (d:Nat):Prop where
 N:X.N=S.N
 nd:S.N.Nodup
 loc:∀x,S.kd.lookup x=Za .local->X.env.scope.names.lookup x=Za .local
 cel:∀x,S.kd.lookup x=Za .cell->X.env.scope.names.lookup x=Za .cell/\X.fn x=Zd
 vis:∀x,S.kd.lookup x=Za .cell\/S.kd.lookup x=Za .free->X.env.scope.names.lookup x=Za .cell\/X.env.scope.names.lookup x=Za .free
 gl:∀x,S.kd.lookup x=Za .globalImplicit->Gl X x
 calm:X.calm=Zd
 xe:X.xe=λ_ _=>False
 bn:∀x∈S.bn,X.mg x=Zb
 fs:∀x m Φ,S.fs.lookup x=Za (m,Φ)->∃ps,ps.length=m.length/\Cal X.prog X.w X.K X.mg X.base d x ps (spF X.K m Φ)
 room:Room d X.A
 sl:X.A.units+16*d+205<cLine
 bk:X.env.blockKind=.function
 lam:S.nm∈lams->∃c P,PySem.W.tabIn X.K S.nm=Za (c,P)/\PySem.W.codeHdIn X.K c P=Zd/\X.env.code=.ref c/\X.env.qual=S.nm++".<locals>."
 dpo:S.dp<=d
 sg:("g SIGNS" : Str)∈S.bn->∃t,X.mg "SIGNS" = Za (.str "abcdef" t)
theorem zic {N:List Str}(h:N.findIdx? (· == x)=Za i):N[i]?=Za x:=by
 obtain⟨b,a,_⟩:=List.findIdx?_eq_some_iff_getElem.mp h;rw[Ab b];have:N[i]=x:=by simpa using a
 rw[this]
section
theorem zz4 (C:CxOk X S d){i:Nat}{pos:Pos}(h:S.rd x=Za i):PE X (.Name x pos) (tVar i):=by
 unfold Sx.rd at h;split at h
 ·exact noSome h
 ·rename_i z;rw[Co,not_or,Bo,Bo] at z;split at h
  ·rename_i e;exact zvc (by rw[C.N];exact zic h) (.inl (C.loc x e)) z.1 z.2
  ·rename_i e;exact zvc (by rw[C.N];exact zic h) (.inr (C.vis x (.inl e))) z.1 z.2
  ·rename_i e;exact zvc (by rw[C.N];exact zic h) (.inr (C.vis x (.inr e))) z.1 z.2
  ·exact noSome h
theorem zny (C:CxOk X S d)(h:S.wr x=Za i):X.N[i]?=Za x/\Loc X.env.scope x/\(X.fn x=Zd\/X.env.scope.names.lookup x=Za .local):=by
 unfold Sx.wr at h;split at h
 ·rename_i e;exact⟨by rw[C.N];exact zic h,.inl (C.loc x e),.inr (C.loc x e)⟩
 ·rename_i e;exact⟨by rw[C.N];exact zic h,.inr (C.cel x e).1,.inl (C.cel x e).2⟩
 ·exact noSome h
theorem zgw (C:CxOk X S d)(h:S.bl x=Zd):Gl X x/\X.mg x=Zb:=by
 unfold Sx.bl at h;rw[Ae] at h;exact⟨C.gl x (by simpa using h.1),C.bn x (by simpa using h.2)⟩
theorem ndN (C:CxOk X S d):X.N.Nodup:=by rw[C.N];exact C.nd
end
noncomputable def zhv:Zi->Bool
 |.Set ..=>Zc
 |_=>Zd
noncomputable def zdw:Zi->Bool
 |.Slice ..=>Zc
 |_=>Zd
noncomputable def zhm:Zi->Bool
 |.ListComp ..=>Zc
 |.SetComp ..=>Zc
 |.DictComp ..=>Zc
 |_=>Zd
noncomputable def zrw:Zi->Bool
 |.UnaryOp .Not _ _=>Zc
 |.BoolOp ..=>Zc
 |.IfExp ..=>Zc
 |.Compare ..=>Zc
 |_=>Zd
theorem zvy (h:zhv e=Zd):∀x,foldedSetIterable e env x=pure x:=by
 intro x;cases e<;>first|rfl|(cases h)
theorem zfq (h:zhv e=Zd):behindInMarks op e=Zc:=by
 cases e<;>first|rfl|(cases h)
theorem znr (h:zhv c=Zd):lastMarks [op,op'] [b,c]=Zc:=zfq h
theorem zjo (h:zdw e=Zd):zzw e:=λo i=>by
 cases e<;>first|rfl|(cases h)
theorem zsh (h:zhm e=Zd):swapsWith e t l env=pure Zc:=by
 cases e<;>first|rfl|(cases h)
theorem zt6 (h:zrw e=Zd):∀w,isTrue e env w=(do let v <- w;standAt e.pos;holding [v] (truthy v)):=by
 intro w;cases e with
 |UnaryOp o _ _=>cases o<;>first|rfl|(cases h)
 |_=>first|rfl|(cases h)
theorem zkh (h:es.all zah=Zd):(backTo pos (starEach es env)).any (·.1)=Zc:=by
 induction es with
 |nil=>rfl
 | cons e es i =>
  rw[Cb,Ae] at h;rw[zak h.1];show (Zc||(backTo pos (starEach es env)).any (·.1))=Zc;rw[i h.2]
  rfl
noncomputable def cPow (i j:Int):Bool:=decide (0<=j)&&decide (j<=1000000)&&decide (i.natAbs<2^64)
noncomputable def cMul (i j:Int):Bool:=(decide (-(2^64)<i)&&decide (i<2^64))||(decide (-(2^64)<j)&&decide (j<2^64))
noncomputable def zth (i j:Int):Bool:=decide (Builtin.Int.intBits i<=2^20)&&decide (Builtin.Int.intBits j<=2^20)
noncomputable def cDiv (i j:Int):Bool:=decide (0<j)&&decide (j.natAbs.log2<9000)
noncomputable def yes2 (_ _:Int):Bool:=Zd
noncomputable def oAdd:O2:=oOr #v[2,17] (oOr oCat (oOr z2k (oOr z67 z17)))
noncomputable def oMult:O2:=oOr (oI cMul λi j=>.int (i*j)) (oOr (oI zth λi j=>.int (i*j)) oRep)
noncomputable def binO:Operator->Option O2
 |.Add=>Za oAdd
 |.Sub=>Za #v[0,0,0]
 |.Mult=>Za oMult
 |.FloorDiv=>Za #v[0,0,3]
 |.Mod=>Za #v[0,0,2]
 |.Pow=>Za #v[1,15]
 |.LShift=>Za #v[0,0,1]
 |.RShift=>Za (oI (λ_ j=>decide (0<=j)) λi j=>.int (i / 2 ^ j.toNat))
 |.BitAnd=>Za #v[3,13]
 |.BitOr=>Za #v[1,21]
 |.BitXor=>Za #v[2,13]
 |_=>Zb
theorem zze (h:cPow i j=Zd):CPow i j:=by
 unfold cPow at h;rw[Ae,Ae] at h;exact⟨Aq h.1.1,Aq h.1.2,Aq h.2⟩
theorem zyt (h:cMul i j=Zd):CMul i j:=by
 unfold cMul at h;rw[Co,Ae,Ae] at h;rcases h with h|h
 ·exact .inl ⟨Aq h.1,Aq h.2⟩
 ·exact .inr ⟨Aq h.1,Aq h.2⟩
theorem z1q (h:zth i j=Zd):yfv i j:=by
 unfold zth at h;rw[Ae] at h;exact⟨Aq h.1,Aq h.2⟩
theorem z8f (h:cDiv i j=Zd):0<j/\j.natAbs.log2<9000:=by
 unfold cDiv at h;rw[Ae] at h;exact⟨Aq h.1,Aq h.2⟩
section
theorem z9h (h:binO op=Za o):∃r,OpR X (binaryOp op) r/\OpS X.K r o:=by
 cases op with
 |Add=>obtain rfl:=sI h;exact⟨_,ycl.or (yd2.or (yav.or (z8b.or zs9))),(zci λ_ _ _=>.int _).or (z65.or (z18.or (z0y.or z3p)))⟩
 |Sub=>obtain rfl:=sI h;exact⟨_,yfl,zci λ_ _ _=>.int _⟩
 |Mult=>obtain rfl:=sI h;exact⟨_,yb7.or (z72.or ydx),(znz (λ_ _=>zyt) λ_ _ _=>.int _).or ((znz (λ_ _=>z1q) λ_ _ _=>.int _).or ybp)⟩
 |FloorDiv=>obtain rfl:=sI h;exact⟨_,z2o,znz (λ_ _=>z8f) λ_ _ _=>.int _⟩
 |Mod=>obtain rfl:=sI h;exact⟨_,yfm,znz (λ_ _=>Aq) λ_ _ _=>.int _⟩
 |Pow=>obtain rfl:=sI h;exact⟨_,yfq,znz (λ_ _=>zze) λ_ _ _=>.int _⟩
 |LShift=>obtain rfl:=sI h;exact⟨_,yge,znz (λ_ _=>zze) λ_ _ _=>.int _⟩
 |RShift=>obtain rfl:=sI h;exact⟨_,yc7,znz (λ_ _=>Aq) λ_ _ _=>.int _⟩
 |BitAnd=>obtain rfl:=sI h;exact⟨_,yfi,zci λ_ _ _=>.int _⟩
 |BitOr=>obtain rfl:=sI h;exact⟨_,yg7,zci λ_ _ _=>.int _⟩
 |BitXor=>obtain rfl:=sI h;exact⟨_,yga,zci λ_ _ _=>.int _⟩
 |_=>exact noSome h
noncomputable def augO:Operator->Option O2
 |.Add=>Za #v[2,17]
 |.Sub=>Za #v[0,0,0]
 |.Mult=>Za (oI cMul λi j=>.int (i*j))
 |.BitAnd=>Za #v[3,13]
 |.BitOr=>Za #v[1,21]
 |.BitXor=>Za #v[2,13]
 |_=>Zb
theorem z88 (h:augO op=Za o):∃r,PIp X op r/\OpS X.K r o:=by
 cases op with
 |Add=>obtain rfl:=sI h;exact⟨_,zwz,zci λ_ _ _=>.int _⟩
 |Sub=>obtain rfl:=sI h;exact⟨_,z9e,zci λ_ _ _=>.int _⟩
 |Mult=>obtain rfl:=sI h;exact⟨_,z6s,znz (λ_ _=>zyt) λ_ _ _=>.int _⟩
 |BitAnd=>obtain rfl:=sI h;exact⟨_,yan,zci λ_ _ _=>.int _⟩
 |BitOr=>obtain rfl:=sI h;exact⟨_,yff,zci λ_ _ _=>.int _⟩
 |BitXor=>obtain rfl:=sI h;exact⟨_,z9a,zci λ_ _ _=>.int _⟩
 |_=>exact noSome h
noncomputable def cmpO:CmpOp->Option O2
 |.Eq=>Za oEq
 |.NotEq=>Za oNe
 |.Lt=>Za (oI yes2 λi j=>.bl (decide (i<j)))
 |.LtE=>Za (oI yes2 λi j=>.bl (decide (i<=j)))
 |.Gt=>Za #v[3,11]
 |.GtE=>Za (oI yes2 λi j=>.bl (decide (j<=i)))
 |.IsNot=>Za zib
 |.In=>Za (oIn Zc)
 |.NotIn=>Za (oIn Zd)
 |_=>Zb
theorem zov (a:Room kr X.A)(h:cmpO op=Za o):∃r,OpR X (compareOp op) r/\OpS X.K r o:=by
 cases op with
 |Eq=>obtain rfl:=sI h;exact⟨_,.or yhs (ybv a),ydn⟩
 |NotEq=>obtain rfl:=sI h;exact⟨_,.or yij (yer a),yfa⟩
 |Lt=>obtain rfl:=sI h;exact⟨_,yig,zci λ_ _ _=>.bl _⟩
 |LtE=>obtain rfl:=sI h;exact⟨_,ygz,zci λ_ _ _=>.bl _⟩
 |Gt=>obtain rfl:=sI h;exact⟨_,yg3,zci λ_ _ _=>.bl _⟩
 |GtE=>obtain rfl:=sI h;exact⟨_,yhh,zci λ_ _ _=>.bl _⟩
 |IsNot=>obtain rfl:=sI h;exact⟨_,yab.or zxd,zvq⟩
 |In=>obtain rfl:=sI h;exact⟨_,zmi,zxs Zc⟩
 |NotIn=>obtain rfl:=sI h;exact⟨_,zgt,zxs Zd⟩
 |_=>exact noSome h
end
noncomputable def za3 (f:Sx->Zi->Option GE) (S:Sx) (e:Zi):Option GA:=match e with
 |.Name x _=>(S.rd x).bind λi=>Za (zaa i)
 |_=>(f S e).bind λg=>Za (gArg g)
noncomputable def asL (f:Zi->Option GA):List Zi->Option GAs
 |[]=>Za gA0
 |e::c=>if zah e then (f e).bind λa=>(asL f c).bind λb=>Za (gCns a b) else Zb
noncomputable def asM (f:Sx->Zi->Option GE) (S:Sx):List Zi->List Bool->Option GAs
 |[],[]=>Za gA0
 |e::d,b::m=>if zah e then (if b then za3 f S e else (f S e).bind λg=>Za (gArg g)).bind λa=>(asM f S d m).bind λc=>Za (gCns a c) else Zb
 |_,_=>Zb
noncomputable def zb8 (f:Sx->Zi->Option GE):Prop:=∀X S d,CxOk X S d->∀e g,f S e=Za g->PE X e (tE X.K g)
noncomputable def znk (f:Sx->Zi->Option GT):Prop:=∀X S d,CxOk X S d->∀e g,f S e=Za g->PT X e (tT X.K g)
section
theorem zag (H:zb8 f)(C:CxOk X S d)(h:za3 f S e=Za a):PE X e (tA X.K a):=by
 unfold za3 at h;split at h
 ·obtain⟨i,c,h⟩:=bS h;obtain rfl:=sI h;exact (zz4 C c).wk λ_ _ _=>zyg
 ·obtain⟨g,b,h⟩:=bS h;obtain rfl:=sI h;exact (H X S d C _ _ b).wk λ_ _ _=>zgy
theorem zhk (H:∀e a,fa e=Za a->PE X e (tA X.K a)):∀{es:List Zi}{as:GAs},asL fa es=Za as->PA X es (tAs X.K as)/\es.all zah=Zd
 |[],_,h=>by obtain rfl:=sI h;exact⟨zfn.wk λ_ _ _=>zrl,rfl⟩
 | e::es,_,h=>by
  unfold asL at h;split at h
  ·rename_i z
   obtain⟨a,b,h⟩:=bS h;obtain⟨as,has,h⟩:=bS h;obtain rfl:=sI h;obtain⟨p,q⟩:=zhk H has;exact⟨(pac (H e a b) p z).wk λ_ _ _=>zqp,by rw[Cb,z,q];rfl⟩
  ·exact noSome h
theorem z59 (H:zb8 f) (C:CxOk X S d):∀{es:List Zi}{m:List Bool}{as:GAs},asM f S es m=Za as->PA X es (tAs X.K as)/\es.all zah=Zd
 |[],[],_,h=>by obtain rfl:=sI h;exact⟨zfn.wk λ_ _ _=>zrl,rfl⟩
 | e::es,b::m,_,h=>by
  unfold asM at h;split at h
  ·rename_i z
   obtain ⟨a,c,h⟩:=bS h;obtain ⟨as,has,h⟩:=bS h;obtain rfl:=sI h;obtain ⟨p,q⟩:=z59 H C has;have j:PE X e (tA X.K a):=by
    cases b with
    |true=>exact zag H C (by simpa using c)
    | false =>
     obtain⟨g,i,c⟩:=bS (show (f S e).bind _=Za a from by simpa using c);obtain rfl:=sI c;exact (H X S d C _ _ i).wk λ_ _ _=>zgy
   exact⟨(pac j p z).wk λ_ _ _=>zqp,by rw[Cb,z,q];rfl⟩
  ·exact noSome h
 |[],_::_,_,h=>by exact noSome h
 |_::_,[],_,h=>by exact noSome h
end
noncomputable def cmpE (f:Sx->Zi->Option GE) (S:Sx) (a:Zi) (ops:List CmpOp) (h:List Zi):Option GE:=match ops,h with
 |[e],[b]=>if zhv b then (za3 f S a).bind λx=>(za3 f S b).bind λy=>(cmpO e).bind λo=>Za (gOp2 o x y) else Zb
 |[e,d],[b,c]=>if zhv c then (za3 f S a).bind λx=>(za3 f S b).bind λy=>(za3 f S c).bind λz=>(cmpO e).bind λo=>(cmpO d).bind λg=>Za (zln o g x y z) else Zb
 |_,_=>Zb
noncomputable def z8r (f:Zi->Option GE) (op:BoolOp):Zi->List Zi->Option GE
 |v,[]=>f v
 |v,u::c=>match op with|.And=>(f v).bind λa=>(z8r f op u c).bind λb=>Za (gAnd a b)|.Or=>Zb
noncomputable def z7c (f:Zi->Option GT) (op:BoolOp):Zi->List Zi->Option GT
 |v,[]=>f v
 |v,u::c=>(f v).bind λa=>(z7c f op u c).bind λb=>Za (match op with|.And=>zir a b|.Or=>gOrT a b)
section
theorem z7g (H:zb8 f)(C:CxOk X S d)(h:cmpE f S a ops cs=Za g):PE X (.Compare a ops cs pos) (tE X.K g)/\PT X (.Compare a ops cs pos) (tT X.K (zaj g)):=by
 unfold cmpE at h;split at h
 ·rename_i t b;split at h
  ·rename_i z;nofun;obtain⟨x,m,h⟩:=bS h;obtain⟨y,j,h⟩:=bS h;obtain⟨o,n,h⟩:=bS h;ac_rfl;obtain rfl:=sI h;obtain⟨r,l,e⟩:=zov (X:=X) C.room n;exact⟨(z0a l (zag H C m) (zag H C j) (zfq z)).wk λ_ _ _=>zdn e,(zy3 l (zag H C m) (zag H C j) (zfq z)).wk λ_ _ _=>zfm λ_ _ _=>zdn e⟩
  ·exact noSome h
 ·rename_i t s b c;split at h
  ·rename_i z;nofun;obtain⟨x,m,h⟩:=bS h;obtain⟨y,j,h⟩:=bS h;obtain⟨w,q,h⟩:=bS h;obtain⟨o,n,h⟩:=bS h;obtain⟨u,p,h⟩:=bS h;ac_rfl;obtain rfl:=sI h;nofun;obtain⟨r,l,e⟩:=zov (X:=X) C.room n;obtain⟨v,k,i⟩:=zov (X:=X) C.room p;ac_rfl;exact⟨(z1n l k (zag H C m) (zag H C j) (zag H C q) (znr z)).wk λ_ _ _=>zjc e i,(z3s l k (zag H C m) (zag H C j) (zag H C q) (znr z)).wk λ_ _ _=>zfm λ_ _ _=>zjc e i⟩
  ·exact noSome h
 ·exact noSome h
theorem zqj (H:∀e g,fe e=Za g->PE X e (tE X.K g)):∀{v:Zi}{vs:List Zi}{g:GE},z8r fe op v vs=Za g->PE X (.BoolOp op (v::vs) pos) (tE X.K g)
 |v,[],g,h=>yek (H v g h)
 | v,u::f,g,h=>by
  cases op with
  | And =>
   obtain⟨a,d,h⟩:=bS h;obtain⟨b,c,h⟩:=bS h;obtain rfl:=sI h;exact (ye2 (H v a d) (zqj H c)).wk λ_ _ _=>z3c
  |Or=>exact noSome h
theorem zk2 (H:∀e g,fe e=Za g->PT X e (tT X.K g)):∀{v:Zi}{vs:List Zi}{g:GT},z7c fe op v vs=Za g->PW X (.BoolOp op (v::vs) pos) (tT X.K g)
 | v,[],g,h=>by
  cases op with
  |And=>exact z6w (H v g h)
  |Or=>exact yec (H v g h)
 | v,u::f,g,h=>by
  obtain⟨a,d,h⟩:=bS h;obtain⟨b,c,h⟩:=bS h;obtain rfl:=sI h;cases op with
  |And=>exact (ydv (H v a d) (zk2 H c)).wk λ_ _ _=>zxe
  |Or=>exact (ygl (H v a d) (zk2 H c)).wk λ_ _ _=>z2a
end
theorem yf5:bootBuiltins "min" = Za (.builtin "min"):=by decide +kernel
theorem ycm:bootBuiltins "max" = Za (.builtin "max"):=by decide +kernel
noncomputable def bltO (x:Str):Option ON :=
 if x==("len" : Str) then Za oLen else if x==("abs" : Str) then Za oAbs else if x==("int" : Str) then Za oInt else if x==("tuple" : Str) then Za zan else if x==("all" : Str) then Za (oBl λbs=>bs.all id) else if x==("any" : Str) then Za (oBl λbs=>bs.any id)
 else if x==("min" : Str) then Za oMin else Zb
section
set_option maxHeartbeats 4000000 in
theorem ya7 (C:CxOk X S d)(f:S.bl x=Zd)(h:bltO x=Za o)(b:PA X (e::es) t)(a:(e::es).all zah=Zd):∃r,PE X (.Call (.Name x p) (e::es) [] pos) (tCB r t)/\OpSN X.K r o:=by
 obtain⟨g,m⟩:=zgw C f;rw[Cb,Ae] at a;have s:=zak (env:=X.env) (es:=es) a.1;have c:=zkh (env:=X.env) (pos:=pos) a.2;unfold bltO at h;split at h
 ·rename_i z;obtain rfl:=sI h;have e:=Bp z;subst e;exact⟨_,zdu zl7 g m z56 b #v[0,9] #v[0,9] s c,z68⟩
 split at h
 ·rename_i z;obtain rfl:=sI h;have e:=Bp z;subst e;exact⟨_,zdu z4g g m ycf b #v[0,9] #v[0,9] s c,yam⟩
 split at h
 ·rename_i z;obtain rfl:=sI h;have e:=Bp z;subst e;exact⟨_,znd z0n g m z6q b #v[0,9] #v[0,9] s c,z7a⟩
 split at h
 ·rename_i z;obtain rfl:=sI h;have e:=Bp z;subst e;exact⟨_,znd zk3 g m zq0 b #v[0,9] #v[0,9] s c,zva⟩
 split at h
 ·rename_i z;obtain rfl:=sI h;have e:=Bp z;subst e;exact⟨_,zdu (z1g C.calm) g m yd8 b #v[0,9] #v[0,9] s c,z5h⟩
 split at h
 ·rename_i z;obtain rfl:=sI h;have e:=Bp z;subst e;exact⟨_,zdu (z4v C.calm) g m yfc b #v[0,9] #v[0,9] s c,z5h⟩
 split at h
 ·rename_i z;obtain rfl:=sI h;have e:=Bp z;subst e;exact⟨_,zdu (zuy C.calm) g m yf5 b #v[0,9] #v[0,9] s c,ybi⟩
 exact noSome h
noncomputable def yaj (x:Str):Option ON:=if x==("sorted" : Str) then Za zhq else bltO x
theorem z4e (C:CxOk X S d)(c:S.bl x=Zd)(h:yaj x=Za o)(b:PA X (e::es) t)(a:(e::es).all zah=Zd):∃r,PE X (.Call (.Name x p) (e::es) [] pos) (tCB r t)/\OpSN X.K r o:=by
 unfold yaj at h;split at h
 ·rename_i z;obtain rfl:=sI h;have e:=Bp z;subst e;obtain⟨g,m⟩:=zgw C c;rw[Cb,Ae] at a;exact⟨_,zdu zt8 g m (show bootBuiltins "sorted" = Za (.builtin "sorted") from PyProof.Rows.boot_sorted) b #v[0,9] #v[0,9] (zak a.1) (zkh a.2),zsx⟩
 ·exact ya7 C c h b a
end
noncomputable def kdOf (x:Str):Option Kd:=if x==("int" : Str) then Za .int else if x==("bool" : Str) then Za .bool else if x==("str" : Str) then Za .str else if x==("tuple" : Str) then Za .tuple else if x==("list" : Str) then Za .list else Zb
theorem z9x (h:kdOf x=Za k):bootBuiltins x=Za (.type k.nm)/\x≠("__name__" : Str)/\(x==("__debug__" : Str))=Zc:=by
 unfold kdOf at h;split at h
 ·rename_i z;obtain rfl:=sI h;have e:=Bp z;subst e;exact⟨z6q,by decide,by decide⟩
 split at h
 ·rename_i z;obtain rfl:=sI h;have e:=Bp z;subst e;exact⟨z7p,by decide,by decide⟩
 split at h
 ·rename_i z;obtain rfl:=sI h;have e:=Bp z;subst e;exact⟨ycg,by decide,by decide⟩
 split at h
 ·rename_i z;obtain rfl:=sI h;have e:=Bp z;subst e;exact⟨zq0,by decide,by decide⟩
 split at h
 ·rename_i z;obtain rfl:=sI h;have e:=Bp z;subst e;exact⟨z76,by decide,by decide⟩
 exact noSome h
noncomputable def zdl:W->Option (W×Bool)
 |.int i=>#v[(Builtin.Int.intBits i),0]
 |_=>Zb
theorem zwt:MtR X "int.bit_length" (λx vs H Q=>∃i,x=.int i/\vs=[]/\Q (.int (Builtin.Int.intBits i)) H):=by
 intro pins s σ H x vs v u Q I a r h;obtain⟨i,rfl,rfl,q⟩:=h;obtain⟨t,rfl⟩:=a;cases r;exact call_int_bit_length ⟨.int _,H,I.tok _,⟨_,rfl⟩,q⟩
theorem zof {K:Zg} (h:tE K (gOp1 zdl a) σ H Q):tBM0 K "int" (λx vs H Q=>∃i,x=.int i/\vs=[]/\Q (.int (Builtin.Int.intBits i)) H) (tA K a) σ H Q:=by
 nofun;obtain⟨F,p,f,k,o,R,h,q⟩:=h;obtain⟨⟨e,m⟩,j,h⟩:=bS h;obtain⟨w,b,h⟩:=bS h;obtain⟨r,d,h⟩:=bS h;ac_rfl;cases h;refine⟨F,p,f,e,m,R,j,λg n v s c l=>?_⟩;cases w with
 | int i =>
  obtain rfl:=sI d;have:=(l.repB c b).int;subst this;exact⟨rfl,i,rfl,rfl,q g n _ s c (.int _)⟩
 |_=>cases d
noncomputable def zwr:Zi->Bool
 |.Call _ _ _ _=>Zd
 |_=>Zc
theorem z86 (h:zwr o=Zc):attributeBase o a env w=w:=by
 cases o<;>first|rfl|(cases h)
noncomputable def z7t (f:Sx->Zi->Option GE) (S:Sx) (o:Zi) (name:Str) (apos:Pos) (args:List Zi) (cpos:Pos):Option GE :=
 if !(apos.endLine==cpos.line)||zwr o then Zb else match args with
 |[]=>if name==("bit_length" : Str) then (za3 f S o).bind λa=>Za (gOp1 zdl a) else Zb
 | [e]=>if !zah e then Zb else match o with
  |.Name x _=>(S.rd x).bind λi=>(f S e).bind λg=>if name==("append" : Str) then Za (gApp i g) else Zb
  |_=>Zb
 |_=>Zb
theorem z7d (h:zah e=Zd):((backTo cpos (starEach [e] env)).all (λx=>!x.1)&&(backToKw cpos (keywordEach [] env)).all (λx=>x.1.isSome)&&decide (([e]:List Zi).length+([]:List Keyword).length+(if ([]:List Keyword).isEmpty then 0 else 1)<30))=Zd:=by
 rw[zak h];rfl
section
theorem z2d (H:zb8 f)(C:CxOk X S d)(h:z7t f S o name apos args cpos=Za g):PE X (.Call (.Attribute o name apos) args [] cpos) (tE X.K g):=by
 unfold z7t at h;split at h
 ·exact noSome h
 ·rename_i z;rw[Co,not_or,Bo,Bo,Dc] at z;have b:=z86 (a:=name) (env:=X.env) (w:=eval o X.env) z.2;split at h
  ·split at h
   ·rename_i y;have e:=Bp y;subst e;obtain⟨a,l,h⟩:=bS h;obtain rfl:=sI h;exact (yeb PySem.F.plainAttrs_int PySem.F.slot_int_bit_length PySem.F.type_int_bit_length zwt (zag H C l) b z.1).wk λ_ _ _=>zof
   ·exact noSome h
  ·rename_i e;split at h
   ·exact noSome h
   ·rename_i y;rw[Bo,Dc] at y;split at h
    ·rename_i x n;obtain⟨i,c,h⟩:=bS h;obtain⟨m,j,h⟩:=bS h;have p:PA X [e] (zgp (tE X.K m) tNil):=pac (H X S d C _ _ j) zfn y;split at h
     ·rename_i q;obtain rfl:=sI h;have k:=Bp q;subst k;exact (yht PySem.F.plainAttrs_list PySem.F.slot_list_append PySem.F.type_list_append zlo (zz4 C c) p b (z7d y) z.1 (zak y) rfl).wk λ_ _ _=>z29
     ·exact noSome h
    ·exact noSome h
  ·exact noSome h
end
noncomputable def z71 (f:Sx->Zi->Option GE) (S:Sx) (x:Str) (args:List Zi):Option GE:=if x==("__debug__" : Str) then Zb else match args with
 |[]=>Zb
 | e::c=>match S.fs.lookup x with
  |some (m,Φ)=>if S.kd.lookup x==Za .globalImplicit then (asM f S (e::c) m).bind λb=>Za (zac m Φ b) else Zb
  | none=>if x==("isinstance" : Str)&&S.bl x then (match e,c with
    |e,[.Name t _]=>if zah e&&S.bl t then (kdOf t).bind λk=>(za3 f S e).bind λa=>Za (gOp1 (oIsi k) a) else Zb
    |_,_=>Zb)
   else if S.bl x then (yaj x).bind λo=>(asL (za3 f S) (e::c)).bind λb=>Za (gOpN o b) else Zb
theorem z3w (H:zb8 f)(C:CxOk X S d)(h:z71 f S x args=Za g):PE X (.Call (.Name x p) args [] pos) (tE X.K g):=by
 unfold z71 at h;split at h
 ·exact noSome h
 ·rename_i b;rw[Bo] at b;split at h
  ·exact noSome h
  ·rename_i e R;split at h
   ·rename_i m Φ i;split at h
    ·rename_i j;obtain⟨N,has,h⟩:=bS h;obtain rfl:=sI h;obtain⟨Q,P,l⟩:=C.fs x m Φ i;obtain⟨c,s⟩:=z59 H C has;rw[Cb,Ae] at s;exact (yf6 l C.room (C.gl x (by simpa using j)) c (Af _) b (zak s.1) (zkh s.2)).wk λ_ _ _=>zyn
    ·exact noSome h
   ·split at h
    ·rename_i n;rw[Ae] at n;have A:=Bp n.1;subst A;obtain⟨O,M⟩:=zgw C n.2;split at h
     ·rename_i t pt;split at h
      ·rename_i z;rw[Ae] at z;obtain⟨k,I,h⟩:=bS h;obtain⟨a,q,h⟩:=bS h;obtain rfl:=sI h;obtain⟨J,K,F⟩:=z9x I;obtain⟨B,D⟩:=zgw C z.2;have u:PE X (.Name t pt) (tC (.ty k.nm)):=z96 B D J rfl K F;have c:PA X [e,.Name t pt] (zgp (tA X.K a) (zgp (tC (.ty k.nm)) tNil)):=pac (zag H C q) (pac u zfn rfl) z.1;exact (zdu z3h O M zko c #v[0,9] b (zak z.1) rfl).wk λ_ _ _=>z28
      ·exact noSome h
     ·exact noSome h
    ·split at h
     ·rename_i y;obtain⟨o,L,h⟩:=bS h;obtain⟨N,has,h⟩:=bS h;obtain rfl:=sI h;obtain⟨c,s⟩:=zhk (λe a q=>zag H C q) has;obtain⟨r,E,w⟩:=z4e (pos:=pos) (p:=p) C y L c s;exact E.wk λ_ _ _=>z00 w
     ·exact noSome h
noncomputable def dOn (S:Sx) (x:Str):Bool:=S.bn.contains (("d " : Str)++x)
noncomputable def zmh (f:Sx->Zi->Option GE) (S:Sx) (t e:Zi):Option GL:=if !zhv e then Zb else match e with
 | .Call (.Name x _) args [] _ =>
  if x==("range" : Str)&&S.bl x then (match args with
   |[a]=>if zah a then (asL (za3 f S) [a]).bind λc=>Za (zbt c) else Zb
   |[a,b]=>if zah a&&zah b then (asL (za3 f S) [a,b]).bind λc=>Za (zmv c) else Zb
   |_=>Zb)
  else if x==("enumerate" : Str)&&S.bl x then (match args,t with
   |[a],.Tuple _ _ _=>if zah a then (f S a).bind λg=>Za (ztt g) else Zb
   |_,_=>Zb)
  else if x==("reversed" : Str)&&S.bl x then (match args with
   |[a]=>if zah a then Zb else Zb
   |_=>Zb)
  else if x==("zip" : Str)&&S.bl x then (match args,t with
   |[a,b],.Tuple _ _ _=>if zah a&&zah b then (f S a).bind λg=>(f S b).bind λd=>Za (gZip g d) else Zb
   |_,_=>Zb)
  else (f S e).bind λg=>Za (zap g)
 |_=>(f S e).bind λg=>Za (zap g)
theorem zes (H:zb8 f)(C:CxOk X S d)(h:zmh f S tg e=Za g):PI X tg e (tI X.K g)/\∀x,foldedSetIterable e X.env x=pure x:=by
 unfold zmh at h;split at h
 ·exact noSome h
 ·rename_i o;rw[Bo,Dc] at o;refine⟨?_,zvy o⟩;split at h
  ·rename_i x w args v;split at h
   ·rename_i z;rw[Ae] at z;have c:=Bp z.1;subst c;obtain⟨i,m⟩:=zgw C z.2;split at h
    ·rename_i a;split at h
     ·rename_i y;obtain⟨u,has,h⟩:=bS h;obtain rfl:=sI h;obtain⟨p,_⟩:=zhk (λe a n=>zag H C n) has;exact (zx7 i m p (zak y)).wk λ_ _ _=>zvh
     ·exact noSome h
    ·rename_i a b;split at h
     ·rename_i y;rw[Ae] at y;obtain⟨u,has,h⟩:=bS h;obtain rfl:=sI h;obtain⟨p,_⟩:=zhk (λe a n=>zag H C n) has;exact (zz0 i m p (by rw[zak y.1,zak y.2];rfl) (zak y.2)).wk λ_ _ _=>zwy
     ·exact noSome h
    ·exact noSome h
   ·split at h
    ·rename_i z;rw[Ae] at z;have c:=Bp z.1;subst c;obtain⟨i,m⟩:=zgw C z.2;split at h
     ·rename_i a t s q;split at h
      ·rename_i y;obtain⟨l,j,h⟩:=bS h;obtain rfl:=sI h;exact (z3v i m (pac (H X S d C _ _ j) zfn y) (zak y)).wk λ_ _ _=>zv6
      ·exact noSome h
     ·exact noSome h
    ·split at h
     ·rename_i z;rw[Ae] at z;have c:=Bp z.1;subst c;obtain⟨i,m⟩:=zgw C z.2;split at h
      ·rename_i a;split at h
       ·rename_i y;exact noSome h
       ·exact noSome h
      ·exact noSome h
     ·split at h
      ·rename_i z;rw[Ae] at z;have c:=Bp z.1;subst c;obtain⟨i,m⟩:=zgw C z.2;split at h
       ·rename_i a b t s q;split at h
        ·rename_i y;rw[Ae] at y;nofun;obtain⟨l,j,h⟩:=bS h;obtain⟨r,k,h⟩:=bS h;ac_rfl;obtain rfl:=sI h;exact (ycc i m (pac (H X S d C _ _ j) (pac (H X S d C _ _ k) zfn y.2) y.1) (by rw[zak y.1,zak y.2];rfl) (zak y.2)).wk λ_ _ _=>z2f
        ·exact noSome h
       ·exact noSome h
      ·obtain⟨l,j,h⟩:=bS h;obtain rfl:=sI h;exact (z5o (H X S d C _ _ j)).wk λ_ _ _=>zlw
  ·obtain⟨l,j,h⟩:=bS h;obtain rfl:=sI h;exact (z5o (H X S d C _ _ j)).wk λ_ _ _=>zlw
noncomputable def zht (S:Sx):List Zi->Option (List Nat)
 |[]=>Za []
 |.Name x _::e=>(S.wr x).bind λi=>(zht S e).bind λa=>Za (i::a)
 |_=>Zb
noncomputable def tgE (S:Sx):Zi->Option Tg
 |.Name x _=>(S.wr x).bind λi=>Za (.nm i)
 |.Tuple e _ _=>(zht S e).bind λa=>Za (.tp a)
 |_=>Zb
section
theorem zjl (C:CxOk X S d):∀(es:List Zi) {is:List Nat},zht S es=Za is->PGs X es (zjd is)/\(assignEach es X.env).length=is.length/\(assignEach es X.env).findIdx? (·.1)=Zb:=by
 intro es
 induction es with
 |nil=>intro is h;obtain rfl:=sI h;exact⟨z8n,rfl,rfl⟩
 | cons e es l =>
  intro is h;obtain ⟨x,p,rfl⟩ : ∃x p,e=.Name x p:=by
   cases e with
   |Name x p=>exact⟨x,p,rfl⟩
   |_=>exact noSome h
  nofun;obtain⟨i,g,h⟩:=bS (show (S.wr x).bind _=_ from h);obtain⟨is,f,h⟩:=bS h;ac_rfl;obtain rfl:=sI h;nofun;obtain⟨a,b,c⟩:=l f;obtain⟨j,k,w⟩:=zny C g;ac_rfl;refine⟨z4n (zv4 (ndN C) j k w) a rfl,congrArg (· + 1) b,?_⟩;show List.findIdx? (·.1) ((Zc,assign (.Name x p) X.env)::assignEach es X.env)=Zb;rw[List.findIdx?_cons,c]
  rfl
theorem zn0 (C:CxOk X S d)(h:tgE S e=Za T):PG X e (TGof X.K T):=by
 unfold tgE at h;split at h
 ·obtain⟨i,g,h⟩:=bS h;obtain rfl:=sI h;obtain⟨j,k,w⟩:=zny C g;exact zv4 (ndN C) j k w
 ·obtain⟨l,f,h⟩:=bS h;obtain rfl:=sI h;obtain⟨a,b,c⟩:=zjl C _ f;exact zvb C.calm a b c
 ·exact noSome h
end
section
variable {X:Cx}{S:Sx}{d:Nat}
variable {pins:List (Zh × Obj)}{σ:St}{H F:Hp}{s:Zf}{pr:Prt}{en:En}
end
section
theorem zpi {id:String} (j:builtinKind id=Zb) (i:plainId id=Zd) (h:entryFor table id=Za b) (d:argsOk id ⟨args,kw⟩)
  (g:wpAny (model prog w) A.in1 (b ⟨args,kw⟩) (λfin s'=>∃c,fin=.again c/\c.quiet=Zd/\codeAny (model prog w) A c (λr t=>∃v,r=.ok (.ret v)/\Q v t) s') E s):wpAny (model prog w) A (call (.builtin id) args kw) Q E s:=by
 refine wpAny_call (codeAny_call_builtin i h ?_);have fin:=Ci g (Q':=λfin s'=>match fin with
  |.done f=>(match (Except.ok f:Result) with|.ok (.ret v)=>Q v s'|.ok _=>False|.error e=>E e s')
  | .again c=>c.quiet=Zd/\codeAny (model prog w) A c (λr t=>match r with | .ok (.ret v)=>Q v t | .ok _=>False | .error e=>E e t) s') (λf t z=>by
   obtain⟨c,rfl,q,z⟩:=z;exact⟨q,codeAny_mono z λr t y=>by obtain⟨v,rfl,y⟩:=y;exact y⟩) λ_ _ z=>z
 simp only [checkBuiltinCall,j];cases sg:Manifest.signature? id with
 |none=>exact Aj fin
 | some a =>
  have e:Bind.checkArgs id a ⟨args,kw⟩=pure ():=by simpa only [argsOk,sg] using d
  simp only [e];exact Aj fin
theorem zzb (a v:Ze):argsOk "max" ⟨[a],[("default",v)]⟩:=by unfold argsOk;kernel_rfl
noncomputable def mxF (f:Nat->Int):Nat->Nat->Int->Int
 |_,0,b=>b
 |j,k+1,b=>mxF f (j+1) k (if f j > b then f j else b)
variable {fp wr:List Zh}{St:Nat->Heap->Prop}
theorem ybr (W:Walks prog w A.in1 I fp wr n P St) (f:Nat->Int) (E:∀i v,P i v->∃t,v=.int (f i) t) (S:Zh) (Q:S ∉ fp) (d:Ze) :
  ∀(k j:Nat) (s:Zf) (b:Int) (l:Tok) (m:Nat) (c:Nat),n=j+k->P m (.int b l)->St j s.heap->s.heap.get? S=Za { cls:=.type "list",dict:=Zb,data:=.seq #[.int b l,.int b l] c,slots:=#[] } ->
   (∀h' tk t,(∀a o,a ∉ wr->a≠S->s.heap.get? a=Za o->h'.get? a=Za o)->R (.ok (.ret (.int (mxF f j k b) t))) { s with heap:=h',toks:=tk })->codeAny (model prog w) A (.builtin "max.loop" ⟨[.ref I,.none,.ref S],[("default",d)]⟩) R s:=by
 have O:S ∉ wr:=λh=>Q (W.sub _ h);have nm:(toString "max"++toString ".loop" : String) = "max.loop" := by decide
 have H:=CmpOf.ints_gt (prog:=prog) (w:=w) (A:=A.in1) f E;intro k
 induction k with
 | zero =>
  intro j s b l m c N C K y hR;refine Ht F.entry_max_loop ?_;refine Aa (Eb y rfl ?_);have M:St n s.heap:=by rw[N];exact K
  refine Aa (Ia (W.done s _ _ M λh' tk u=>?_));refine Aa (wpAny_updateSeq (u S _ O y) rfl (Aa (Gy (Aj ?_))));exact hR _ tk l λa o q x e=>(Ed _ _ (Ne.symm x)).trans (u a o q e)
 | succ k U =>
  intro j s b l m c N C K y hR;refine Ht F.entry_max_loop ?_;rw[Around.under_plainId Ho _];show wpAny _ A.in1 (seqItems? (.ref S)>>=_) _ _ s;refine Aa (Eb y rfl ?_);show wpAny _ A.in1 (tryCatch (pyNext (.ref I)) _>>=_) _ _ s;refine Aa (Ia (W.item j s _ _ #v[] K λv Z tk J B u=>?_));obtain⟨D,rfl⟩:=E j v J;have r:=u S _ O y;show wpAny _ A.in1 (tryCatch (holding [.int (f j) D,.int (f j) D] (richCompare .Gt (.int (f j) D) (.int b l)>>=_)) _>>=_) _ _ _;refine Aa (Ia (Ct (Aa (H j m _ _ _ _ _ J C ?_))));have X:f m=b:=by obtain⟨_,e⟩:=E m _ C;cases e;rfl
  refine Aa (Ct (Di ?_));refine Aa (Gy (Aj ?_));show wpAny _ A.in1 (if decide (f j > f m)=Zd then _ else _) _ _ _;rw[X];by_cases g:f j > b
  ·rw [Ag g]
   refine Aa (wpAny_updateSeq r rfl (Aa (Gy ?_)));refine Aj ⟨plainId_quiet Ho _,U (j+1) _ (f j) D j _ #v[] J (W.frame _ _ _ B λa Y o e=>(Ed _ _ (λz:S=a=>Q (z ▸ Y))).trans e) (Hm _ r rfl) λh' p t L=>?_⟩;have:=hR h' p t λa o q x e=>L a o q x ((Ed _ _ (Ne.symm x)).trans (u a o q e));rw[mxF,if_pos g] at this;exact this
  ·rw [At g]
   refine Aa (Gy ?_);rw[nm];refine Aj ⟨plainId_quiet Ho _,U (j+1) _ b l m c #v[] C B r λh' p t L=>?_⟩;have:=hR h' p t λa o q x e=>L a o q x (u a o q e);rw[mxF,if_neg g] at this;exact this
noncomputable def maxD (f:Nat->Int) (n:Nat) (d:Int):Int:=match n with
 |0=>d
 |n+1=>mxF f 1 n (f 0)
theorem z1r (W:Walks prog w A.in1 I fp wr n P St) (f:Nat->Int) (q:∀i v,P i v->∃t,v=.int (f i) t) (S:Zh) (m:S ∉ fp) (d:Int) (y:Tok) (st:St 0 s.heap) (u:s.heap.get? S=Za { cls:=.type "list",dict:=Zb,data:=.seq #[] c,slots:=#[] })
  (hR:∀h' tk t,(∀a o,a ∉ wr->a≠S->s.heap.get? a=Za o->h'.get? a=Za o)->R (.ok (.ret (.int (maxD f n d) t))) { s with heap:=h',toks:=tk }):codeAny (model prog w) A (.builtin "max.loop" ⟨[.ref I,.none,.ref S],[("default",.int d y)]⟩) R s:=by
 have B:S ∉ wr:=λh=>m (W.sub _ h);have nm:(toString "max"++toString ".loop" : String) = "max.loop" := by decide
 refine Ht F.entry_max_loop ?_;refine Aa (Eb u rfl ?_);cases n with
 | zero =>
  refine Aa (Ia (W.done s _ _ st λh' tk k=>?_));refine Aa (Dr (Aj ?_));exact hR h' tk y λa o g _ e=>k a o g e
 | succ n =>
  refine Aa (Ia (W.item 0 s _ _ (Nat.succ_pos n) st λv E tk r p k=>?_));obtain⟨l,rfl⟩:=q 0 v r;have b:=k S _ B u;show wpAny _ A.in1 (updateSeq S (λ_=>#[.int (f 0) l,.int (f 0) l])>>=_) _ _ _;refine Aa (wpAny_updateSeq b rfl ?_);refine Aj ⟨plainId_quiet Ho _,ybr W f q S m _ n 1 _ (f 0) l 0 _ (Nat.add_comm n 1) r (W.frame _ _ _ p λa D o e=>(Ed _ _ (λz:S=a=>m (z ▸ D))).trans e) (Hm _ b rfl) λh' j t C=>?_⟩;exact hR h' j t λa o g x e=>C a o g x ((Ed _ _ (Ne.symm x)).trans (k a o g e))
theorem znw
  (h:wpAny (model prog w) A.in1 (pyIter x) (λit c=>∃I fp wr n P St f,it=.ref I/\Walks prog w A.in1 I fp wr n P St/\St 0 c.heap/\(∀b∈fp,b<c.heap.objs.size)/\(∀i v,P i v->∃t,v=.int (f i) t) /\
   ∀h' tk t,(∀a o,a ∉ wr->c.heap.get? a=Za o->h'.get? a=Za o)->Q (.int (maxD f n d) t) { c with heap:=h',toks:=tk }) E s) :
  wpAny (model prog w) A (call (.builtin "max") [x] [("default",.int d td)]) Q E s:=by
 have nm:(toString "max"++toString ".loop" : String) = "max.loop" := by decide
 refine zpi F.kind_max F.plain_max F.entry_max (zzb _ _) ?_;refine Aa (wpAny_of_eq (show Builtin.Builtins.bindParams "max" ["key","default"] 0 ⟨[],[("default",.int d td)]⟩=pure [Zb,Za (.int d td)] from rfl) ?_);refine Aa (Aj ?_);refine Aa (Ci h (λit c z=>?_) λ_ _ e=>e);nofun;obtain⟨I,fp,wr,n,P,St,f,rfl,W,g,r,q,j⟩:=z;refine qG ?_;refine Aa (Dj ?_);have l:c.heap.objs.size ∉ fp:=λm=>Cj _ (r _ m);refine Aj ⟨_,rfl,plainId_quiet Ho _,z1r W f q c.heap.objs.size l d td (W.frame _ _ _ g λa _ o e=>Ad _ e) (Ay _ rfl) λh' tk t k=>⟨_,rfl,?_⟩⟩;exact j h' tk t λa o p e=>k a o p (Bc (Ar e)) (Ad _ e)
end
noncomputable def mxL (ns:List Int) (d:Int):Int:=maxD (λi=>ns.getD i 0) ns.length d
noncomputable def zkm (a:GA) (g:GE):GE:=λe=>(a e).bind λp=>(g p.1).bind λq=>(resA q.1 p.2).bind λw=>(seqW w).bind λb=>(zcs b).bind λn=>match q.2.1 with
 |.int d=>Za (q.1,(.int (mxL n d),Zc))
 |_=>Zb
section
theorem zyz (A:X.calm=Zd) (I:Inv X pins σ H s) (h:SqL X.K H a (ns.map V.int)\/SqT X.K H a (ns.map V.int))
  (q:∀h' tk t,(∀b o,s.heap.get? b=Za o->h'.get? b=Za o)->Q (.int (mxL ns k) t) { s with heap:=h',toks:=tk }):wpAny #v[2,7] X.A (call (.builtin "max") [.ref a] [("default",.int k tk)]) Q X.xe s:=by
 have go:∀{c:List Ze},Vals (ns.map V.int) c->c.toArray.size=ns.length/\∀(i:Nat) (v:Ze),c.toArray[i]?=Za v->∃t,v=.int (ns.getD i 0) t:=λ{c} r=>by
  have w:=r.length;rw[Ac] at w;exact⟨by rw[Am,w],λi v e=>zqg r (by simpa using e)⟩
 have x:∀{j:Obj}{h':Heap},(∀b o,b ∉ [s.heap.objs.size]->(s.heap.push j).get? b=Za o->h'.get? b=Za o)->∀b o,s.heap.get? b=Za o->h'.get? b=Za o:=λf b o e =>
  f b o (λz=>by rw[As] at z;subst z;exact absurd (Ar e) (Cj _)) (Ad _ e)
 have m:∀{j:Obj},a<s.heap.objs.size->∀b∈[s.heap.objs.size,a],b<(s.heap.push j).objs.size:=λd b u=>by
  rw[Ec];simp only [Ao,Br,Ha] at u;rcases u with rfl|rfl
  ·exact Gc _
  ·exact Ez d
 rcases h with h|h
 ·refine aG λC qG => ?_;obtain⟨c,r,p,_⟩:=I.list h;obtain⟨g,l⟩:=go r;refine qG ?_;have d:a<s.heap.objs.size:=by obtain⟨o,e,_⟩:=p.isList;exact Ar e
  refine znw (Fc p.isList ?_);refine⟨s.heap.objs.size,_,[s.heap.objs.size],c.toArray.size,_,_,λi=>ns.getD i 0,rfl,Walks.list (show X.A.in1.handled=Zb from I.ok.hd A) _ a (Bc d) c.toArray,⟨⟨_,Ay _ rfl,rfl,rfl⟩,p.isList.push _⟩,m d,l,λh' tk t f=>?_⟩;rw[g];exact q h' tk t (x f)
 ·refine aG λC qG => ?_;obtain⟨c,r,⟨o,y,D,n,B⟩,_⟩:=I.tuple h;obtain⟨g,l⟩:=go r;ac_rfl;have p:s.heap.IsTuple a c.toArray:=⟨o,y,D,n,B⟩;have d:=Ar y;refine znw (Gw p ?_);refine⟨s.heap.objs.size,_,[s.heap.objs.size],c.toArray.size,_,_,λi=>ns.getD i 0,rfl,Walks.tuple (show X.A.in1.handled=Zb from I.ok.hd A) _ a (Bc d) c.toArray,⟨⟨_,Ay _ rfl,rfl,rfl⟩,p.push _⟩,m d,l,λh' tk t f=>?_⟩;rw[g];exact q h' tk t (x f)
theorem ybk (U:zb8 fE) (C:CxOk X S d) (ha:za3 fE S e=Za a) (K:zah e=Zd) (hd:fE S ed=Za g) (D:S.bl "max" = Zd) :
  PE X (.Call (.Name "max" px) [e] [⟨Za "default",ed,kpos⟩] pos) (tE X.K (zkm a g)):=by
 intro pins s σ H Q I h;nofun;nofun;obtain⟨F,p,en,en',r,R,b,q⟩:=h;obtain⟨⟨A,x⟩,h1,b⟩:=bS b;obtain⟨⟨e2,wd,fd⟩,h2,b⟩:=bS b;obtain⟨w,hw,b⟩:=bS b;obtain⟨ws,E,b⟩:=bS b;obtain⟨ns,hi,b⟩:=bS b;ac_rfl;ac_rfl;cases wd with
 | int k =>
  obtain rfl:=(Hu (sI b)).1;obtain rfl:=(Hu (sI b)).2;obtain⟨gl,mn⟩:=zgw C D;have f:starEach [e] X.env=(Zc,eval e X.env)::starEach [] X.env:=zak K;refine Gx (zd0 I gl mn ycm ?_);refine PyProof.Rows.callWith_kw ?_ (by rw[f];rfl) (by rw[f];rfl);refine thn (zoh (zag U C ha) zfn f pos pins s σ H (λY o=>∃v c,Y=[v]/\Same F c/\Rel X.K c p A σ o/\ArgR X.K c σ x v) I ⟨F,p,en,A,x,R,h1,λc o v B N J=>⟨v,c,rfl,B,N,J⟩⟩) λus B ⟨Y,o,I1,L,v,c,z,O,N,J⟩=>?_;subst z;cases L with
  | cons ru L =>
   cases L;refine PyProof.Rows.kws_cons (thn (U X S d C _ _ hd pins B σ o (λu m=>∃i,u=.int k/\Same c i/\Rel X.K i p e2 σ m) I1 ⟨c,p,A,e2,(.int k,fd),N,h2,λi m u s2 R2 y=>⟨i,y.isInt,s2,R2⟩⟩) λud s2 ⟨u,m,P,rd,i,M,j,R2⟩=>PyProof.Rows.kws_nil ?_);subst M;obtain⟨td,rfl⟩:=(show ∃t,ud=Ze.int k t from rd);have rb:=(J.mono j).repB R2 hw;nofun;obtain⟨l,vvs,z,Z,n⟩:=rb.seqW R2.sub E;refine qG ?_;subst z;cases (show _=Ze.ref l from ru);rw[zd4 hi] at n;rw[n.ints] at Z;exact zyz C.calm P Z λh' tk t hk=>⟨.int _,m,P.kept hk,⟨_,rfl⟩,q i m _ (O.trans j) R2 (.int _)⟩
 |_=>exact noSome b
noncomputable def maxE (fE:Sx->Zi->Option GE) (S:Sx) (x:Str) (e:Zi) (key:Str) (b:Zi):Option GE :=
 if x==("max" : Str)&&key==("default" : Str)&&S.bl x&&zah e then (za3 fE S e).bind λa=>(fE S b).bind λg=>Za (zkm a g) else Zb
theorem zxt (H:zb8 fE)(C:CxOk X S d)(h:maxE fE S x e key ed=Za g):PE X (.Call (.Name x px) [e] [⟨Za key,ed,kpos⟩] pos) (tE X.K g):=by
 unfold maxE at h;split at h
 ·rename_i z;simp only [Ae] at z;obtain⟨⟨⟨i,b⟩,m⟩,l⟩:=z;have c:=Bp i;have f:=Bp b;subst c f;obtain⟨a,k,h⟩:=bS h;obtain⟨n,j,h⟩:=bS h;obtain rfl:=sI h;exact ybk H C k l j m
 ·exact noSome h
end
section
end
noncomputable def fnW (Φ:Fn) (w:W):Option W:=(Φ [w]).bind λp=>if p.1.length=1 then Za p.2.1 else Zb
noncomputable def zi7 (Φ:Fn) (a:GA):GE:=λe=>(a e).bind λp=>(resA p.1 p.2).bind λw=>(seqL w).bind λb=>(mapO (fnW Φ) b).bind λk=>(zvp k b).bind λout=>Za (p.1,(.lst out,Zd))
section
theorem z3k (D:FnOk X.prog X.w X.K X.mg X.base CX0 n f fd ps (spF X.K [Zc] Φ))(B:zn7 X.K fd ps [])(A:Room n X.A)(E:X.xe=λ_ _=>False):KCall X (.ref f) (fnW Φ) (λ_ _=>True) where
 mono:=λ_ _ _=>trivial
 run:=λpins s σ H F O e w k v u _ I R P K m=>by
  nofun;obtain⟨⟨a,r⟩,J,l⟩:=bS m;ac_rfl;split at l
  ·rename_i j;obtain rfl:=sI l;have bk:za4 (zbw [(Sum.inl w:W ⊕ Nat)]) e (zbj [Zc] a)=e:=by
    unfold za4;apply Ea;intro i;rw[Hd];cases e[i]? with
    |none=>rfl
    |some x=>rfl
   have S:spF X.K [Zc] Φ [v] H (λc d=>∃b,Same F b/\Rel X.K b O e σ d/\Rep X.K b r.1 c) E0:=by
    refine zys (xs:=[.inl w]) (en':=e) (r:=r) R (.cons P .nil) ?_ λb d c t C y=>?_
    ·show (if (Zd&&Zd&&_)=Zd then _ else Zb)=_;rw[if_pos (by rfl)];show (Φ [w]).bind _=_;rw[J];show (if a.length=1 then Za (za4 (zbw [(Sum.inl w:W ⊕ Nat)]) e (zbj [Zc] a),r) else Zb)=_;rw[if_pos j,bk]
    ·refine aG λU qG => ?_;obtain⟨h,p,o,g⟩:=y.freeze C;ac_rfl;exact⟨h,t.trans p,o,g⟩
   have:=z5q (X:=X) (us:=[u]) (vs:=[v]) (dvs:=[]) D A B .nil yd6 I (.cons K .nil) S;rw[E] at this;exact Ci this (λY t ⟨c,d,L,q,b,M,Q,N⟩=>⟨c,b,d,L,M,Q,q,N⟩) λ_ _ z=>z
  ·exact noSome l
theorem z38 (HE:zb8 fE) (C:CxOk X S d) (ha:za3 fE S e=Za a) (t:zah e=Zd) (hf:S.fs.lookup y=Za ([Zc],Φ)) (j:S.kd.lookup y=Za .globalImplicit) (m:(y==("__debug__" : Str))=Zc) (n:S.bl "sorted" = Zd) :
  PE X (.Call (.Name "sorted" px) [e] [⟨Za "key",.Name y py,kpos⟩] pos) (tE X.K (zi7 Φ a)):=by
 intro pins s σ H Q I h;nofun;nofun;obtain⟨F,O,U,en',r,R,b,q⟩:=h;obtain⟨⟨K,x⟩,h1,b⟩:=bS b;obtain⟨w,hw,b⟩:=bS b;obtain⟨ws,o,b⟩:=bS b;obtain⟨ks,z,b⟩:=bS b;obtain⟨out,ho,b⟩:=bS b;ac_rfl;ac_rfl;cases b;nofun;obtain⟨gl,mn⟩:=zgw C n;obtain⟨ps,_,⟨f,fd,Fo,B,kp,mf⟩⟩:=C.fs y _ _ hf;ac_rfl;have c:starEach [e] X.env=(Zc,eval e X.env)::starEach [] X.env:=zak t;refine Gx (zd0 I gl mn (show bootBuiltins "sorted" = Za (.builtin "sorted") from PyProof.Rows.boot_sorted) ?_);refine PyProof.Rows.callWith_kw ?_ (by rw[c];rfl) (by rw[c];rfl);refine thn (zoh (zag HE C ha) zfn c pos pins s σ H (λN J=>∃v g,N=[v]/\Same F g/\Rel X.K g O K σ J/\ArgR X.K g σ x v) I ⟨F,O,U,K,x,R,h1,λg J v L i p=>⟨v,g,rfl,L,i,p⟩⟩) λus L ⟨N,J,M,u,v,g,k,D,i,p⟩=>?_;subst k;cases u with
 | cons ru u =>
  cases u;refine PyProof.Rows.kws_cons (zw0 M (C.gl y j) mf (PyProof.Rows.kws_nil ?_) m);have P:=p.repB i hw;nofun;obtain⟨l,vvs,k,sq,A⟩:=P.seqL i.sub o;ac_rfl;subst k;cases (show _=Ze.ref l from ru);have rm:Room d X.inn.A:=⟨C.room.hd,C.room.dp,by have:=C.sl;show X.A.units+1+1+16*d+200<cLine;symm,C.room.gd⟩;exact zt0 (E:=X.xe) (Q:=Q) (Al:=λ_ _=>True) (z3k (X:=X.inn) Fo B rm C.xe) M trivial i (.inl sq) A z (z4h ho) (by have:=C.sl;symm) λF' Z v Y R' y=>q F' Z v (D.trans Y) R' y
noncomputable def zro (fE:Sx->Zi->Option GE) (S:Sx) (e:Zi) (y:Str):Option GE:=if zah e&&S.bl "sorted" && S.kd.lookup y==Za .globalImplicit && !(y==("__debug__" : Str)) then (match S.fs.lookup y with
 |some (m,Φ)=>if m==[Zc] then (za3 fE S e).bind λa=>Za (zi7 Φ a) else Zb
 |none=>Zb) else Zb
theorem zu0 (H:zb8 fE)(C:CxOk X S d)(h:zro fE S e y=Za g):PE X (.Call (.Name "sorted" px) [e] [⟨Za "key",.Name y py,kpos⟩] pos) (tE X.K g):=by
 unfold zro at h;split at h
 ·rename_i z;simp only [Ae,Bool.not_eq_true',beq_iff_eq] at z;nofun;obtain⟨⟨⟨c,b⟩,l⟩,k⟩:=z;ac_rfl;split at h
  ·rename_i m Φ i;split at h
   ·rename_i q;obtain⟨a,j,h⟩:=bS h;obtain rfl:=sI h;have f:m=[Zc]:=Bp q;subst f;exact z38 H C j c i l k b
   ·exact noSome h
  ·exact noSome h
 ·exact noSome h
end
section
variable {K:Zg}
end
noncomputable def zua (x:Zi->Option GE) (X:Cx):Prop:=∀e g,x e=Za g->PE X e (tE X.K g)
section
end
noncomputable def keyF:W->Option Key
 |.int i=>Za (.inl i)
 |.str s=>Za (.inr s)
 |_=>Zb
noncomputable def keysF:List W->Option (List Key)
 |[]=>Za []
 |w::b=>(keyF w).bind λk=>(keysF b).bind λa=>Za (k::a)
noncomputable def keyD:W->Option DKey
 |.tup b=>(keysF b).bind λa=>Za (.inr a)
 |w=>(keyF w).bind λk=>Za (.inl k)
noncomputable def KeyR (F:Hp):DKey->V->Prop
 |.inl k,v=>v=kV k
 |.inr a,v=>∃b,v=.ref b/\F b=Za (.tup (a.map kV))
section
variable {K:Zg}
theorem Rep.keyF (h:Rep K F w v)(e:keyF w=Za k):v=kV k:=by
 cases w with
 |int i=>obtain rfl:=sI e;exact h.isIt
 |str s=>obtain rfl:=sI e;cases h;rfl
 |_=>exact noSome e
theorem Reps.keysF:∀{ws:List W}{vs:List V}{a:List Key},Reps K F ws vs->keysF ws=Za a->vs=a.map kV
 |_,_,_,.nil,e=>by obtain rfl:=sI e;rfl
 | _,_,_,.cons h r,e=>by
  obtain⟨k,c,e⟩:=bS e;obtain⟨a,b,e⟩:=bS e;obtain rfl:=sI e;rw[h.keyF c,Reps.keysF r b];rfl
theorem Rep.keyD (h:Rep K F w v) (e:keyD w=Za k):KeyR F k v:=by
 have flat:(L2.keyF w).bind (λk=>Za (Sum.inl k:DKey))=Za k->KeyR F k v:=λe=>by
  obtain⟨f,a,e⟩:=bS e;obtain rfl:=sI e;exact h.keyF a
 cases w with
 | tup b =>
  obtain⟨d,a,e⟩:=bS (show (L2.keysF b).bind _=_ from e);obtain rfl:=sI e;cases h with
  |tup c r=>exact⟨_,rfl,by rw[c,r.keysF a]⟩
 |_=>exact flat e
noncomputable def valW (kvs:List (DKey×W)) (k:DKey):Option W:=(kvs.find? λa=>decide (a.1=k)).map (·.2)
theorem zhf (p:DKey×W)(r:List (DKey×W))(k:DKey):valW (p::r) k=if p.1=k then Za p.2 else valW r k:=by
 unfold valW;rw[Ey];by_cases h:p.1=k
 ·rw[Ag h,if_pos h];rfl
 ·rw[At h,if_neg h]
theorem zxm {κ:Type} [DecidableEq κ] (p:κ×V)(r:List (κ×V))(k:κ):valV (p::r) k=if p.1=k then Za p.2 else valV r k:=by
 by_cases h:p.1=k
 ·rw[zkg h,if_pos h]
 ·rw[zj1 h,if_neg h]
theorem zf4 {κ:Type} [DecidableEq κ] {f:κ->DKey} (d:∀a b,f a=f b->a=b):∀{c:List κ}{ws:List W}{vs:List V}{k:κ}{w:W},c.length=vs.length->Reps K F ws vs->valW ((c.map f).zip ws) (f k)=Za w->∃v,valV (c.zip vs) k=Za v/\Rep K F w v
 |[],_,_,_,_,_,_,e=>by simp [valW] at e
 |_::_,_,_,_,_,_,.nil,e=>by simp [valW] at e
 | i::c,l::ws,j::vs,k,w,g,.cons h r,e=>by
  rw[Ax,Da,zhf] at e;rw[Da,zxm];by_cases z:i=k
  ·subst z
   rw[if_pos rfl] at e ⊢;obtain rfl:=sI e;exact⟨_,rfl,h⟩
  ·rw [if_neg λq=>z (d _ _ q)] at e
   rw[if_neg z];exact zf4 d (Nat.succ.inj g) r e
theorem zd7 {κ:Type}{f:κ->DKey}{k:DKey} (h:∀a,f a≠k):∀{b:List κ}{ws:List W},valW ((b.map f).zip ws) k=Zb
 |[],_=>rfl
 |_::_,[]=>rfl
 | c::b,w::ws=>by
  rw[Ax,Da,zhf,if_neg (h c)];exact zd7 h
noncomputable def zfx {κ:Type} [DecidableEq κ] (a:List κ) (k:κ):List κ:=if k∈a then a else a++[k]
noncomputable def zgf {κ α:Type} [DecidableEq κ] (a:List κ) (vs:List α) (k:κ) (v:α):List α:=if k∈a then List.zipWith (λc b=>if c=k then v else b) a vs else vs++[v]
theorem zz8 {κ:Type} [DecidableEq κ] {f:κ->DKey}(d:∀a b,f a=f b->a=b)(c:List κ)(k:κ):zfx (c.map f) (f k)=(zfx c k).map f:=by
 have m:f k∈c.map f↔k∈c:=by
  rw[Bd];exact⟨λ⟨a,h,e⟩=>d _ _ e ▸ h,λh=>⟨k,h,rfl⟩⟩
 unfold zfx;by_cases h:k∈c
 ·rw[if_pos h,if_pos (m.mpr h)]
 ·rw[if_neg h,if_neg (mt m.mp h),Bx];rfl
theorem zmy {κ:Type} [DecidableEq κ] {f:κ->DKey} (i:∀a b,f a=f b->a=b) {k:κ}{w:W}{v:V} (h:Rep K F w v):∀{d:List κ}{ws:List W}{vs:List V},Reps K F ws vs->Reps K F (List.zipWith (λc g=>if c=f k then w else g) (d.map f) ws) (List.zipWith (λc g=>if c=k then v else g) d vs)
 |[],_,_,_=>.nil
 |_::_,_,_,.nil=>.nil
 | c::d,_,_,.cons q r=>by
  rw[Ax,List.zipWith_cons_cons,List.zipWith_cons_cons];refine .cons ?_ (zmy i h r);by_cases z:c=k
  ·subst z;rw[if_pos rfl,if_pos rfl];exact h
  ·rw[if_neg z,if_neg λe=>z (i _ _ e)];exact q
theorem zuo {κ:Type} [DecidableEq κ] {f:κ->DKey}(d:∀a b,f a=f b->a=b){k:κ}{w:W}{v:V}(h:Rep K F w v){c:List κ}{ws:List W}{vs:List V}(r:Reps K F ws vs):Reps K F (zgf (c.map f) ws (f k) w) (zgf c vs k v):=by
 have m:f k∈c.map f↔k∈c:=by
  rw[Bd];exact⟨λ⟨a,h,e⟩=>d _ _ e ▸ h,λh=>⟨k,h,rfl⟩⟩
 unfold zgf;by_cases z:k∈c
 ·rw[if_pos z,if_pos (m.mpr z)];exact zmy d h r
 ·rw[if_neg z,if_neg (mt m.mp z)];exact r.append (.cons h .nil)
theorem ybh {κ α:Type} [DecidableEq κ] {a:List κ}{vs:List α}(h:a.length=vs.length)(k:κ)(v:α):(zfx a k).length=(zgf a vs k v).length:=by
 unfold zfx zgf;split
 ·rw[Hk,h,Nat.min_self]
 ·rw[Bb,Bb,h];rfl
theorem zz7 {κ:Type} [DecidableEq κ] (k:κ) (v:V):∀{a:List κ}{vs:List V},(a.zip vs).map (λb=>if b.1=k then (b.1,v) else b)=a.zip (List.zipWith (λc d=>if c=k then v else d) a vs)
 |[],_=>rfl
 |_::_,[]=>rfl
 | c::a,d::vs=>by
  rw[Da,Ax,zz7 k v,List.zipWith_cons_cons,Da];by_cases z:c=k
  ·rw[if_pos z,if_pos z]
  ·rw[if_neg z,if_neg z]
theorem zzg {κ:Type} [DecidableEq κ] (k:κ):∀{a:List κ}{vs:List V},a.length=vs.length->((a.zip vs).any λc=>decide (c.1=k))=decide (k∈a)
 |[],_,_=>rfl
 |_::_,[],h=>by simp at h
 | b::a,v::vs,h=>by
  rw[Da,Dd,zzg k (Nat.succ.inj h)];by_cases z:b=k
  ·subst z;simp
  ·have : ¬ k=b:=λe=>z e.symm
   simp [z,this]
theorem putK_zip {κ:Type} [DecidableEq κ] {a:List κ}{vs:List V}(h:a.length=vs.length)(k:κ)(v:V):putK (a.zip vs) k v=(zfx a k).zip (zgf a vs k v):=by
 unfold putK zfx zgf;rw[zzg k h];by_cases z:k∈a
 ·rw[if_pos (Ag z),if_pos z,if_pos z,zz7]
 ·rw[if_neg (λq=>z (Aq q)),if_neg z,if_neg z,List.zip_append h];rfl
noncomputable def DctR (K:Zg) (F H:Hp) (a:Zh) (k:List DKey) (ws:List W):Prop :=
 (∃(j:List Key) (v:List V),k=j.map .inl/\H a=Za (.dK (j.zip v))/\j.length=v.length/\Reps K F ws v) \/
 ∃(j:List (List Key)) (v:List V),k=j.map .inr/\H a=Za (.dT (j.zip v))/\j.length=v.length/\Reps K F ws v
theorem OwnR.dct' (h:OwnR K F (.dct ks ws) o)(e:H a=Za o):DctR K F H a ks ws:=by
 generalize b:W.dct ks ws=w at h;cases h with
 |lst r=>cases b
 |dct c r=>cases b;exact .inl ⟨_,_,rfl,e,c,r⟩
 |dctT c r=>cases b;exact .inr ⟨_,_,rfl,e,c,r⟩
theorem RepB.dct (s:Same F H)(r:RepB K F H (.dct ks ws) v):∃a,v=.ref a/\DctR K F H a ks ws:=by
 rcases r with r|⟨a,o,d,e,rfl,h,q⟩
 ·generalize b:W.dct ks ws=w at r;cases r with
  |dct h c r=>cases b;exact⟨_,rfl,.inl ⟨_,_,rfl,s _ _ h,c,r⟩⟩
  |dctT h c r=>cases b;exact⟨_,rfl,.inr ⟨_,_,rfl,s _ _ h,c,r⟩⟩
  |_=>cases b
 ·subst e;exact⟨a,rfl,q.dct' h⟩
noncomputable def DczR (K:Zg) (F H:Hp) (a:Zh) (k:List DKey) (ws:List W):Prop :=
 (∃(j:List Key) (v:List V),k=j.map .inl/\(∃o,H a=Za (.frz o (.dK (j.zip v))))/\j.length=v.length/\Reps K F ws v) \/
 ∃(j:List (List Key)) (v:List V),k=j.map .inr/\(∃o,H a=Za (.frz o (.dT (j.zip v))))/\j.length=v.length/\Reps K F ws v
theorem RepB.dcz (s:Same F H)(r:RepB K F H (.dcz ks ws) v):∃a,v=.ref a/\DczR K F H a ks ws:=by
 rcases r with r|⟨a,o,d,e,rfl,h,q⟩
 ·generalize b:W.dcz ks ws=w at r;cases r with
  |dcz h c r=>cases b;exact⟨_,rfl,.inl ⟨_,_,rfl,⟨_,s _ _ h⟩,c,r⟩⟩
  |dczT h c r=>cases b;exact⟨_,rfl,.inr ⟨_,_,rfl,⟨_,s _ _ h⟩,c,r⟩⟩
  |_=>cases b
 ·subst e;cases q
theorem zkk (a b:Key)(h:(Sum.inl a:DKey)=.inl b):a=b:=Sum.inl.inj h
theorem zwh (a b:List Key)(h:(Sum.inr a:DKey)=.inr b):a=b:=Sum.inr.inj h
theorem DctR.get {d:DKey}{y:V}{w:W} (s:Same F H) (h:DctR K F H a ks ws) (i:KeyR F d y) (e:valW (ks.zip ws) d=Za w):∃v,DGet H a y (Za v)/\Rep K F w v:=by
 rcases h with⟨m,n,rfl,h,f,r⟩|⟨m,n,rfl,h,f,r⟩
 ·cases d with
  | inl k =>
   obtain⟨v,g,c⟩:=zf4 zkk f r e;exact⟨v,.inl ⟨_,k,.inl h,i,g.symm⟩,c⟩
  |inr k=>rw[zd7 (λa z=>by cases z)] at e;exact nomatch e
 ·cases d with
  |inl k=>rw[zd7 (λa z=>by cases z)] at e;exact nomatch e
  | inr k =>
   obtain⟨v,g,c⟩:=zf4 zwh f r e;obtain⟨b,j,l⟩:=i;exact⟨v,.inr ⟨_,k,b,.inl h,j,s _ _ l,g.symm⟩,c⟩
theorem DczR.get {d:DKey}{y:V}{w:W} (s:Same F H) (h:DczR K F H a ks ws) (i:KeyR F d y) (e:valW (ks.zip ws) d=Za w):∃v,DGet H a y (Za v)/\Rep K F w v:=by
 rcases h with⟨m,n,rfl,h,f,r⟩|⟨m,n,rfl,h,f,r⟩
 ·cases d with
  | inl k =>
   obtain⟨v,g,c⟩:=zf4 zkk f r e;exact⟨v,.inl ⟨_,k,.inr h,i,g.symm⟩,c⟩
  |inr k=>rw[zd7 (λa z=>by cases z)] at e;exact nomatch e
 ·cases d with
  |inl k=>rw[zd7 (λa z=>by cases z)] at e;exact nomatch e
  | inr k =>
   obtain⟨v,g,c⟩:=zf4 zwh f r e;obtain⟨b,j,l⟩:=i;exact⟨v,.inr ⟨_,k,b,.inr h,j,s _ _ l,g.symm⟩,c⟩
end
section
theorem z08 (e:H a=Za o):upd (upd H a o') a o=H:=by
 rw[zwn]
 funext b
 by_cases h:b=a
 ·subst h;rw[upd_same,e]
 ·rw[upd_ne h]
end
noncomputable def rIxD:R2:=λx y H Q=>∃a v,x=.ref a/\DGet H a y (Za v)/\Q v H
theorem z81 (f:X.A.units+1<cLine):IxR X rIxD:=by
 intro value b pins s σ H x y v u Q I e i h d;obtain⟨a,z,rfl,g,q⟩:=h;cases e;exact tail_any (zp8 I g) PySem.F.slot_dict_getitem.lookup (z0c f I g i λw j c r=>⟨z,H,c,r,q⟩) d
noncomputable def oIxD:O2:=λa k=>match a with
 |.dct b c=>(keyD k).bind λd=>(valW (b.zip c) d).bind λw=>#v[w,6]
 |.dcz b c=>(keyD k).bind λd=>(valW (b.zip c) d).bind λw=>#v[w,6]
 |a=>oIx a k
theorem RepB.key {K:Zg}(r:RepB K F H w v)(e:keyD w=Za d):KeyR F d v:=by
 rcases r with r|⟨a,o,b,z,rfl,h,q⟩
 ·exact r.keyD e
 ·subst z;cases q<;>exact noSome e
theorem z8w {K:Zg}:OpS K (λx y H Q=>rIxB K x y H Q\/rIxD x y H Q) oIxD:=λF H m c o j n Q s i r e q=>by
 cases m with
 | dct l k =>
  nofun;obtain⟨d,f,e⟩:=bS (show (keyD c).bind _=_ from e);obtain⟨w,b,e⟩:=bS e;obtain rfl:=sI e;obtain⟨a,rfl,D⟩:=i.dct s;obtain⟨v,g,h⟩:=D.get s (r.key f) b;refine qG ?_;exact .inr ⟨a,v,rfl,g,q _ _ (.val h)⟩
 | dcz l k =>
  nofun;obtain⟨d,f,e⟩:=bS (show (keyD c).bind _=_ from e);obtain⟨w,b,e⟩:=bS e;obtain rfl:=sI e;obtain⟨a,rfl,D⟩:=i.dcz s;obtain⟨v,g,h⟩:=D.get s (r.key f) b;ac_rfl;exact .inr ⟨a,v,rfl,g,q _ _ (.val h)⟩
 |_=>exact .inl (z6l F H _ c o j n Q s i r e q)
section
variable {K:Zg}
end
theorem Res.key {K:Zg}(h:Res K F H pr en σ r v)(e:keyD r.1=Za d):KeyR F d v:=by
 obtain⟨w,b⟩:=r;cases b with
 |false=>exact Rep.keyD h e
 |true=>obtain⟨a,o,c,z,_,_,_,q,_⟩:=h;subst z;cases q<;>exact noSome e
section
end
section
end
noncomputable def z6e (S:Sx):Zi->Bool
 |.Name x _=>dOn S x
 |_=>Zc
section
theorem ygu (C:CxOk X S d):X.A.units+1<cLine:=by have:=C.sl;symm
noncomputable def zy7 (fE:Sx->Zi->Option GE) (S:Sx):Zi->Option GE
 |.Subscript a s _=>if z6e S a&&zdw s then (za3 fE S a).bind λx=>(za3 fE S s).bind λy=>Za (gOp2 oIxD x y) else Zb
 |_=>Zb
theorem zu4 (H:zb8 fE)(C:CxOk X S d):zua (zy7 fE S) X:=λe g h=>by
 unfold zy7 at h;split at h
 ·split at h
  ·rename_i z;rw[Ae] at z;obtain⟨x,b,h⟩:=bS h;obtain⟨y,a,h⟩:=bS h;obtain rfl:=sI h;exact (ydq ((zxp.or z57).or (z81 (ygu C))) (zag H C b) (zag H C a) (zjo z.2)).wk λ_ _ _=>zdn z8w
  ·exact noSome h
 ·exact noSome h
end
section
end
section
end
section
variable {K:Zg}
end
noncomputable def yip:CmpOp->Option Bool
 |.In=>Za Zc
 |.NotIn=>Za Zd
 |_=>Zb
section
end
noncomputable def eqH (h:Heap) (d:PyData) (u:Ze):Bool:=@decide (∃a b,Reads h u a b/\a.canLay0=Zd/\PyData.eqv a d=Zd) (Classical.propDecidable _)
theorem eqH_of (r:Reads h u d' as) (c:d'.canLay0=Zd):eqH h d u=PyData.eqv d' d:=by
 unfold eqH;cases e:PyData.eqv d' d with
 |true=>exact @Ag _ (Classical.propDecidable _) ⟨d',as,r,c,e⟩
 | false =>
  refine @At _ (Classical.propDecidable _) ?_;rintro ⟨f,a,g,i,b⟩;rw[<-SeqAt.Reads.unique d' f u as a c r g,e] at b;exact nomatch b
theorem zph:∀{us:List Ze}{ds:List PyData}{as:List Zh},ReadsAll h us ds as->PyData.canLayAll0 ds=Zd->us.any (eqH h d)=ds.any λd'=>PyData.eqv d' d
 |_,_,_,.nil,_=>rfl
 | _,_,_,.cons r q,c=>by
  rw[PyData.canLayAll0,Ae] at c;rw[Dd,Dd,eqH_of r c.1,zph q c.2]
theorem zoc (b:Reads s.heap v d bs) (e:d.canLay0=Zd) (h:A.units+d.depth<cLine):∀{us:List Ze}{ds:List PyData}{as:List Zh},ReadsAll s.heap us ds as->PyData.canLayAll0 ds=Zd->∀u∈us,SeqAt.EqAt A s u v (eqH s.heap d u)
 |_,_,_,.nil,_=>λu h=>nomatch h
 | _,_,_,.cons r q,c=>λu a=>by
  rw[PyData.canLayAll0,Ae] at c;rcases Ao.mp a with rfl|a
  ·rw [eqH_of r c.1]
   exact SeqAt.eqAt_reads _ _ A s _ _ _ _ r b c.1 e (Gk (Nat.add_le_add_left (Nat.min_le_right _ _) _) h)
  ·exact zoc b e h q c.2 u a
noncomputable def rInT (K:Zg) (n:Bool):R2:=λx y H Q=>∃p c d a,y=.ref p/\(SqL K H p c\/SqT K H p c)/\DV H x d/\DVs H c a/\d.canLay0=Zd/\PyData.canLayAll0 a=Zd/\d.depth<=90/\Q (.bl (if n then !(a.any λb=>PyData.eqv b d) else a.any λb=>PyData.eqv b d)) H
theorem zns (a:Room k A)(h:n<=90):A.in1.units+n<cLine:=by
 have:=a.un;have e:A.in1.units=A.units+1:=rfl;symm
theorem z5c (o:Room k X.A)(n:Bool):OpR X (compareOp (if n then .NotIn else .In)) (rInT X.K n):=by
 intro pins s σ H x y v u Q I F J h;nofun;obtain⟨p,L,d,z,rfl,c,C,t,A,f,B,q⟩:=h;obtain⟨bs,l⟩:=C.reads I F;ac_rfl;cases J;rcases c with c|c
 ·refine aG λE qG => ?_;obtain ⟨i,r,b,D⟩:=I.list c;obtain ⟨K,a⟩:=t.reads I r;refine qG ?_;clear qG;have e:i.toArray.any (eqH s.heap d)=z.any λg=>PyData.eqv g d:=by
   rw[show i.toArray.any (eqH s.heap d)=i.any (eqH s.heap d) by simp,zph a f]
  have m:∀w,w∈i.toArray->SeqAt.EqAt X.A.in1 s w v (eqH s.heap d w):=λw j=>zoc l A (zns o B) a f w (by simpa using j);cases n with
  |false=>refine SeqAt.in_listAt (eqH s.heap d) b.isList m ⟨.bl _,H,I,rfl,?_⟩;rw[e];exact q
  |true=>refine SeqAt.notIn_listAt (eqH s.heap d) b.isList m ⟨.bl _,H,I,rfl,?_⟩;rw[e];exact q
 ·refine aG λE qG => ?_;obtain ⟨i,r,b,D⟩:=I.tuple c;obtain ⟨K,a⟩:=t.reads I r;refine qG ?_;clear qG;have e:i.toArray.any (eqH s.heap d)=z.any λg=>PyData.eqv g d:=by
   rw[show i.toArray.any (eqH s.heap d)=i.any (eqH s.heap d) by simp,zph a f]
  have m:∀w,w∈i.toArray->SeqAt.EqAt X.A.in1 s w v (eqH s.heap d w):=λw j=>zoc l A (zns o B) a f w (by simpa using j);cases n with
  |false=>refine SeqAt.in_tupleAt (eqH s.heap d) b m ⟨.bl _,H,I,rfl,?_⟩;rw[e];exact q
  |true=>refine SeqAt.notIn_tupleAt (eqH s.heap d) b m ⟨.bl _,H,I,rfl,?_⟩;rw[e];exact q
noncomputable def oInT (n:Bool):O2:=λa b=>(seqW b).bind λw=>(dW a).bind λd=>(dWs w).bind λc=>if d.canLay0&&PyData.canLayAll0 c&&decide (d.depth<=90) then Za (.bl (if n then !(c.any λe=>PyData.eqv e d) else c.any λe=>PyData.eqv e d),Zc) else Zb
theorem z8j {K:Zg}(n:Bool):OpS K (rInT K n) (oInT n):=λF H l m t k o Q s j r e q=>by
 nofun;obtain⟨w,i,e⟩:=bS e;obtain⟨d,g,e⟩:=bS e;obtain⟨c,h,e⟩:=bS e;obtain⟨a,v,f,b,p⟩:=r.seqW s i;ac_rfl;split at e
 ·rename_i z;rw[Ae,Ae] at z;obtain rfl:=sI e;exact⟨a,v,d,c,f,b,zo3 s j g,zhz s p h,z.1.1,z.1.2,Aq z.2,q _ _ (.val (.bl _))⟩
 ·exact noSome e
noncomputable def oInV (n:Bool):O2:=λa b=>match oIn n a b with
 |some r=>Za r
 |none=>oInT n a b
theorem zye {K:Zg}(n:Bool):OpS K (λx y H Q=>rIn K n x y H Q\/rInT K n x y H Q) (oInV n):=λF H w a c v d Q s b r e q=>by
 unfold oInV at e;split at e
 ·rename_i h;obtain rfl:=sI e;exact .inl (zxs n F H w a c v _ Q s b r h q)
 ·exact .inr (z8j n F H w a c v d Q s b r e q)
noncomputable def cmpI (f:Sx->Zi->Option GE) (S:Sx) (a:Zi) (ops:List CmpOp) (c:List Zi):Option GE:=match ops,c with
 |[o],[b]=>(yip o).bind λn=>if S.bn.contains ("inT" : Str)&&(!z6e S b&&zhv b) then (za3 f S a).bind λx=>(za3 f S b).bind λy=>Za (gOp2 (oInV n) x y) else Zb
 |_,_=>Zb
noncomputable def cmpV (f:Sx->Zi->Option GE) (S:Sx) (a:Zi) (ops:List CmpOp) (c:List Zi):Option GE:=match cmpI f S a ops c with
 |some g=>Za g
 |none=>cmpE f S a ops c
section
theorem ybj (c:zb8 f)(C:CxOk X S d)(h:cmpI f S a ops cs=Za g):PE X (.Compare a ops cs pos) (tE X.K g)/\PT X (.Compare a ops cs pos) (tT X.K (zaj g)):=by
 unfold cmpI at h;split at h
 ·rename_i o b;obtain⟨n,e,h⟩:=bS h;split at h
  ·rename_i z;rw [Ae,Ae] at z;obtain ⟨x,k,h⟩:=bS h;obtain ⟨y,i,h⟩:=bS h;obtain rfl:=sI h;have j:OpR X (compareOp o) (λx y H Q=>rIn X.K n x y H Q\/rInT X.K n x y H Q):=by
    cases o with
    |In=>obtain rfl:=sI e;exact .or zmi (z5c C.room Zc)
    |NotIn=>obtain rfl:=sI e;exact .or zgt (z5c C.room Zd)
    |_=>exact noSome e
   exact⟨(z0a j (zag c C k) (zag c C i) (zfq z.2.2)).wk λ_ _ _=>zdn (zye n),(zy3 j (zag c C k) (zag c C i) (zfq z.2.2)).wk λ_ _ _=>zfm λ_ _ _=>zdn (zye n)⟩
  ·exact noSome h
 ·exact noSome h
theorem zyi (H:zb8 f)(C:CxOk X S d)(h:cmpV f S a ops cs=Za g):PE X (.Compare a ops cs pos) (tE X.K g)/\PT X (.Compare a ops cs pos) (tT X.K (zaj g)):=by
 unfold cmpV at h;split at h
 ·rename_i q;obtain rfl:=sI h;exact ybj H C q
 ·exact z7g H C h
end
section
variable {K:Type} [DecidableEq K]
variable {fp wr:List Zh}{St:Nat->Heap->Prop}
end
section
variable {prog:Program}{w:World}{A:Around}{s:Zf}{TI TO:Zh}
end
section
end
section
end
section
variable {K:Zg}
end
section
end
section
end
section
end
section
end
section
end
section
end
section
end
section
end
section
end
section
end
section
variable {K:Zg}
end
section
theorem zuj
  (E:∀v s,¬ X.xe v s) (U:X.calm=Zd) (ht:compTurn (.DictComp kx vx gens scope pos) 0 (.ref it) acc X.env=zjs (.DictComp kx vx gens scope pos) 0 tg iter [] em (.ref it) acc X.env)
  (hg:PG X tg g) (F:PM X em tm) (I:Inv X pins σ H s) (T:Turn X.prog X.w X.K tg J fp it tn) (st:tn 0 s.heap) (f:∀b∈fp,FpOk X pins H b)
  (hW:zf2 J g zin tm σ H N0)
  (hR:∀a H' s',Inv X pins a H' s'->N0 a H'->R (.ok .next) s'):codeAny #v[2,7] X.A (.compLoop (.DictComp kx vx gens scope pos) 0 (.ref it) acc X.env) R s:=by
 have h:∀{H':Hp},(∀b∈fp,H' b=Zb)->∀b∈fp,FpOk X pins H' b:=λhn b k=>⟨hn b k,(f b k).2⟩;nofun;obtain⟨W,⟨m0,w0⟩,turn⟩:=hW;ac_rfl;refine codeAny_loop rfl (λn s'=>∃i a H',Inv X pins a H' s'/\tn i s'.heap/\(∀b∈fp,H' b=Zb)/\W i n a H') ?_ m0 ⟨0,σ,H,I,st,λb k=>(f b k).1,w0⟩;rintro n L ⟨i,c,y,P,w,t,w3⟩;show wpAny _ X.A ((compTurn (.DictComp kx vx gens scope pos) 0 (.ref it) acc X.env).onRaise (λx=>do noteFrame x X.env;theTreesLotGoes x)) _ _ L;refine wpAny_noted ?_;rw[ht];unfold zjs;refine Aa (Ew (Aa ?_));rcases turn i n c y w3 with⟨stop,qn⟩|⟨go,N,hN,step⟩
 ·refine Ci (T.done X rfl rfl rfl U i pins L c y (λ_ _=>False) P (h t) w stop) (λr Q ⟨C,I4⟩ => ?_) λ_ _ z=>z.elim;subst C;exact Aj (hR c y Q I4 qn)
 ·refine Ci (T.item X rfl rfl rfl U i pins L c y (λ_ _=>False) P (h t) w go) (λr Q ⟨u,C,h4⟩ => ?_) λ_ _ z=>z.elim;subst C;refine Aa (Ci h4 (λ_ Y ⟨x,O,I5,r5,Z,l,D⟩=>?_) λ_ _ z=>z.elim);have B:=I5.pinned (h D) (T.obj _ _ l);refine Aa (Ci (hg _ Y c O x u _ B r5 (step x O Z)) (λ_ s6 ⟨q,H6,I6,q6⟩=>?_) λv s z=>(E v s z).elim);refine Aa (Ci (zz1 _ s6 q H6 _ I6 q6) (λok s7 ⟨H7,M,S⟩=>?_) λv s z=>(E v s z).elim);have again:∀{A:Zf}{j:St}{p:Hp},Inv X (pins++zi5 fp Y.heap) j p A->N j p->∃m,m<n/\∃i a H',Inv X pins a H' A/\tn i A.heap/\(∀b∈fp,H' b=Zb)/\W i m a H':=λ{A j p} K nx=>by
   obtain⟨m',F,wx⟩:=hN j p nx;refine⟨m',F,i+1,j,p,K.unpinned,T.keep _ _ _ l λb k o e=>(K.pin (b,o) (Av _ (Av _ (zce k e)))).1,λb k=>?_,wx⟩;obtain⟨o,e,d⟩:=T.obj _ _ l b k;exact (K.pin (b,o) (Av _ (Av _ (zce k e)))).2.1
  cases ok with
  |false=>exact Aj ⟨rfl,again M S⟩
  |true=>exact Aa (Ci (F _ s7 q H7 N M S) (λ_ s8 ⟨σ8,H8,I8,n8⟩=>Aj ⟨rfl,again I8 n8⟩) λv s z=>(E v s z).elim)
noncomputable def zzf (acc:Zh) (tk t:TE):TM:=λσ H N=>tk σ H λx b=>t σ b λy a=>∃k kvs,x=kV k/\a acc=Za (.dK kvs)/\kvs.length<sizeLine/\N σ (upd a acc (.dK (putK kvs k y)))
noncomputable def emD (b v:Zi) (acc:Ze) (env:Env):Sem Unit:=do
 let k <- eval b env
 let a <- holding [k] (eval v env)
 match acc with
 | .ref d=>do
  standAt { b.pos with endLine:=v.pos.endLine,endCol:=v.pos.endCol }
  holding [k,a] (dictSet d k a)
 |_=>unsupported "internal:dictcomp"
theorem pm_D (t:PE X kx tk)(A:PE X vx tv):PM X (emD kx vx (.ref acc) X.env) (zzf acc tk tv):=by
 intro pins s σ H N I h;unfold emD;refine Aa (thn (t pins s σ H _ I h) λJ m ⟨x,C,o,g,n⟩=>?_);refine Aa (Ct (thn (A pins m σ C _ o n) λD v ⟨y,F,a,j,k,kvs,l,e,E,b⟩=>?_));subst l;dsimp only;refine Aa (Ew (Ct ?_));obtain⟨z,f,K,r,u⟩:=yg8 a.hok e;have c:(putK kvs k y).length<=sizeLine:=by have:=zn9 kvs k y;symm
 refine wpAny_dictSet_pairs (hsz:=by rw[<-r.length];exact z) (ya3 g) u λi d p=>?_;have B:∃q,i.get? acc=Za q:=let ⟨q,_,_,w,_⟩:=d;⟨q,w⟩;exact⟨σ,_,z9r (t':=v.toks+1) a (by rw[e];exact True.intro) p B (yda c f (r.put k j) d),b⟩
theorem zoo {D F tg iter:Zi}{scope:Scope}{pos:Pos}{f:List (Str×Zh)}{Nc:List Str}{cap:List (Option Nat)}{g:TG}{tm:Zh->TM}{pins:List (Zh×Obj)}{σ:St}{H:Hp}{s:Zf}{it:Zh}{fp:List Zh}{tn:Nat->Heap->Prop}{J:It}{Q:VK}{RR:Ze->Zh->Result->Zf->Prop}{E:Ze->Zf->Prop}
  (hc:X.calm=Zd) (hk:scope.kind=.function) (t:zgx cap Nc X.N scope=Zd) (S:zfp scope X.env.scope=Zd) (hnc:zew scope=Zd)
  (hg:∀f C N L fp,PG (zaw X Nc scope f C N L fp) tg g) (hm:∀f C N L fp acc,PM (zaw X Nc scope f C N L fp) (emD D F (.ref acc) (zaw X Nc scope f C N L fp).env) (tm acc))
  (c1:∀x c,f.lookup x=Za c->X.env.cells.lookup x=Za c) (c2:∀x,(x,NameKind.free)∈scope.names->∃c,f.lookup x=Za c)
  (O:Inv X pins σ H s) (T:Turn X.prog X.w X.K tg J fp it tn) (q:tn 0 s.heap) (f2:∀b∈fp,FpOk X pins H b)
  (hW:∀acc,H acc=Zb->zf2 J g zin (tm acc) (capSt cap σ) (upd H acc (.dK [])) λ_ Hc=>Q (.ref acc) Hc)
  (hR:∀acc C s' H',(∃m,s'.heap.Ns C m)->(∀h',Heap.SameBut C s'.heap h'->Inv X pins σ H' { s' with heap:=h' })->FpOk X pins H' C->Q (.ref acc) H'->RR (.ref acc) C (.ok .next) s') :
  wpAny #v[2,7] X.A newDict (λacc A=>wpAny #v[2,7] X.A (newFunctionEnv scope X.env.globals f [] X.env.qual Zb .none (Za X.env)) (λj B =>
   codeAny #v[2,7] X.A (.compStart (.DictComp D F #v[2,18] scope pos) 0 (.ref it) acc { j with scope:=relabel scope X.env }) (RR acc j.locals) B) E A) E s:=by
 refine Dj (zft λd a k l=>?_);dsimp only at a k l ⊢;have r:H s.heap.objs.size=Zb:=O.hok.fresh (Af _);have K:Inv X pins σ (upd H s.heap.objs.size (.dK [])) { s with heap:=s.heap.push { cls:=.type "dict",dict:=Zb,data:=.dict #[] },toks:=s.toks } :=
  O.laid (t':=s.toks) (λb u e=>Ad _ e) (Af _) (z4z s.heap O.big)
 have hW':=hW s.heap.objs.size r;generalize hH:s.heap.push { cls:=.type "dict",dict:=Zb,data:=.dict #[] }=hp at a k l K ⊢;have f3:∀b∈fp,FpOk X pins (upd H s.heap.objs.size (.dK [])) b:=λb h=>by
  obtain⟨o,ho,_⟩:=T.obj _ _ q b h;exact⟨by rw[upd_ne (Bc (Ar ho))];exact (f2 b h).1,(f2 b h).2⟩
 have up:∀b o,s.heap.get? b=Za o->hp.get? b=Za o:=λb o e=>hH ▸ Ad _ e;have M:=zqk (Nc:=Nc) (cap:=cap) (fp:=fp) (h4:=d) (tk:=s.toks) K hk t S hnc c1 c2 f3 (λb h=>by
  obtain⟨o,ho,_⟩:=T.obj _ _ q b h;exact Ar (up b o ho)) a k l
 have w:tn 0 d:=T.keep _ _ _ q λb _ o e=>k b o (up b o e);have loop:codeAny #v[2,7] X.A (.compLoop (.DictComp D F #v[2,18] scope pos) 0 (.ref it) (.ref s.heap.objs.size) (compEnvC scope (cellsFrom (hp.objs.size+1) scope.names f) hp.objs.size X.env)) (RR (.ref s.heap.objs.size) hp.objs.size) { s with heap:=d,toks:=s.toks }:=by
  refine zuj (em:=emD D F (.ref s.heap.objs.size) _) (X:=zaw X Nc scope (cellsFrom (hp.objs.size+1) scope.names f) hp.objs.size { s with heap:=hp,toks:=s.toks } (upd H s.heap.objs.size (.dK [])) fp) (λ_ _ z=>z) hc rfl (hg _ _ _ _ _) (hm _ _ _ _ _ _) M T w
   (λb h=>⟨(f3 b h).1,(M.ok.exf b h).1,M.ok.exfs b h,.inl h,(M.ok.exf b h).2,λp P=>absurd (show p∈([]:List (Zh×Obj)) from P) (by simp)⟩) hW' λσ5 Z s6 I qn=>?_
  obtain⟨m6,R,_⟩:=I.loc;have fC:Z hp.objs.size=Zb:=I.free;refine hR _ _ _ Z ⟨m6,R⟩ (λh' i=>?_) (K.fpOk (Af _) fC) qn;refine K.call' (s':={ s6 with heap:=h' }) (ch:=fp) I.os ?_ (I.hok.but fC i) I.bare λb h=>⟨(f3 b h).2.2.2.1,(f3 b h).2.1,(f3 b h).2.2.2.2.1,(f3 b h).2.2.2.2.2⟩;have U:Un (frs X.stack) fp (upd H s.heap.objs.size (.dK [])) Z hp s6.heap:=I.base;have Y:∀b o,hp.get? b=Za o->b≠hp.objs.size:=λb o e=>Bc (Ar e);exact⟨λb o e n h y=>(i.2 b (Y b o e)).trans (U.keep b o e n h y),λb o e n h y=>let ⟨sl,z⟩:=U.slot b o e n h y;⟨sl,(i.2 b (Y b o e)).trans z⟩,U.free,λb o e y=>let ⟨o',z⟩:=U.there b o e y;⟨o',(i.2 b (Y b o e)).trans z⟩,U.tups,U.frzs,U.tbls⟩
 exact codeAny_compStart_dict loop (T.self _ 0 _ _ _ w loop)
noncomputable def z5u (w:TI) (cap:List (Option Nat)) (g:TG) (t:Zh->TM):TE:=λσ H Q=>w σ H λJ b=>∀a,b a=Zb->zf2 J g zin (t a) (capSt cap σ) (upd b a (.dK [])) λ_ c=>Q (.ref a) c
theorem pe_D {u z tg iter:Zi}{scope:Scope}{pos:Pos}{Nc:List Str}{cap:List (Option Nat)}{w:TI}{g:TG}{t:Zh->TM} (R:PI X tg iter w)
  (O:∀f C j i fp,PG (zaw X Nc scope f C j i fp) tg g) (n:∀f C j i fp acc,PM (zaw X Nc scope f C j i fp) (emD u z (.ref acc) (zaw X Nc scope f C j i fp).env) (t acc))
  (S:X.calm=Zd) (y:scope.kind=.function) (c:zgx cap Nc X.N scope=Zd) (d:zfp scope X.env.scope=Zd) (p:zew scope=Zd)
  (r:(scope.names.all λp=>!(p.2 == NameKind.local) || decide (scope.names.lookup p.1=some .local))=Zd)
  (L:∀x,foldedSetIterable iter X.env x=pure x):PE X (.DictComp u z #v[2,18] scope pos) (z5u w cap g t):=by
 intro pins s σ H Q I h;rw[arm_eval_DictComp];nofun;obtain⟨f,b,P,N⟩:=zch (env:=X.env) (scope:=scope) λx k=>I.ok.has x (zc8 d k);ac_rfl;have a:∀x∈scope.names,x.2=.local->scope.names.lookup x.1=Za .local:=λx k e=>by
  have q:=Bi.mp r _ k;simpa [e] using q
 refine Ih (use:=Zb) rfl L b y a (thn (R pins s σ H _ I h) λv Z K=>thn K λM s2 A=>?_);nofun;obtain⟨it,fp,tn,J,Y,e,D,T,l,F,hW⟩:=A;ac_rfl;subst e;refine zoo (RR:=λacc C=>compPost #v[2,7] X.A X.xe Zb (EP X pins σ Q) acc C) S y c d p O n P N D T l F hW ?_;intro acc C U B ⟨m,n⟩ hI hC q;exact⟨m,n,λE o=>⟨.ref acc,B,hI E o,rfl,q⟩⟩
end
noncomputable def prO (p:Prt) (acc:Zh) (o:HO):Prt:=λb u=>p b u\/(b=acc/\u=o)
section
variable {K:Zg}
theorem Rel.accTo (R:Rel K F (prO pb acc o1) en σ H)(m:∀p,o1≠.tbl p)(g:∀b o,pb b o->b≠acc)(h:∀xs,o2≠.tup xs:=by intro _ z;cases z):Rel K F (prO pb acc o2) en σ (upd H acc o2):=by
 obtain⟨t,c,d⟩:=R.prt acc o1 (.inr ⟨rfl,rfl⟩);have n:∀b p,H b=Za (.tbl p)->b≠acc:=λb p e z=>by subst z;rw[t] at e;exact m p (sI e)
 refine⟨R.len,λb o e=>?_,R.val,λi w e=>?_,R.inj,λb o q=>?_,R.tb.go (λb xs z=>z.elim .inl λz=>absurd z.2.symm (h xs)) (λb p e f=>⟨by rw[upd_ne (n b p e)];exact e,f⟩) (.refl F) λb p e x o z=>z.elim (λz=>x o (.inl z)) λz=>n b p e z.1⟩
 ·have:b≠acc:=λz=>by subst z;rw[c] at e;exact noSome e
  rw[upd_ne this];exact R.sub _ _ e
 ·obtain⟨a,v, l,s,h,j,y,u⟩:=R.own i w e;have:a≠acc:=λz=>by subst z;exact d i w e h
  exact⟨a,v,l,s,h,by rw[upd_ne this];exact j,y,u⟩
 ·rcases q with q|⟨rfl,rfl⟩
  ·obtain⟨k,r,A⟩:=R.prt b o (.inl q);exact⟨by rw[upd_ne (g b o q)];exact k,r,A⟩
  ·exact⟨upd_same,c,d⟩
theorem Rel.put (R:Rel K F pr en σ H)(s:H acc=Za o1)(l:∀p,o1≠.tbl p)(x:F acc=Zb)(A:∀(i:Nat) (m:W),en[i]?=Za (#v[m,5])->σ[i]?≠Za (Za (V.ref acc)))(t:∀b o,pr b o->b≠acc):Rel K F pr en σ (upd H acc o):=by
 have y:∀b p,H b=Za (.tbl p)->b≠acc:=λb p e z=>by subst z;rw[s] at e;exact l p (sI e)
 refine⟨R.len,λb u e=>?_,R.val,λi w e=>?_,R.inj,λb u q=>?_,R.tb.go (λ_ _ z=>z) (λb p e f=>⟨by rw[upd_ne (y b p e)];exact e,f⟩) (.refl F) λb p e C=>C⟩
 ·have:b≠acc:=λz=>by subst z;rw[x] at e;exact noSome e
  rw[upd_ne this];exact R.sub _ _ e
 ·obtain⟨a,c, k,r,d,B,g,j⟩:=R.own i w e;have:a≠acc:=λz=>by subst z;exact A i w e d
  exact⟨a,c,k,r,d,by rw[upd_ne this];exact B,g,j⟩
 ·obtain⟨h,n,D⟩:=R.prt b u q;exact⟨by rw[upd_ne (t b u q)];exact h,n,D⟩
end
theorem z85 (h:keyF w=Za k):keyD w=Za (.inl k):=by
 cases w with
 |int i=>obtain rfl:=sI h;rfl
 |str s=>obtain rfl:=sI h;rfl
 |_=>exact noSome h
noncomputable def zmw (mp:List Nat) (T:Tg) (gk g:GE):List W->En->List DKey->List W->Option (En×List DKey×List W)
 |[],c,a,v=>Za (c,a,v)
 |w::b,c,a,v=>(tgSet mp T w c).bind λd=>(gk d).bind λp=>(keyF p.2.1).bind λk=>(g p.1).bind λq=>zmw mp T gk g b q.1 (zfx a (.inl k)) (zgf a v (.inl k) q.2.1)
noncomputable def zqu (cap:Cap) (T:Tg) (it:GL) (gk g:GE):GE:=λe=>(it e).bind λp=>if zc1 cap&&decide (p.2.length<=sizeLine) then (zmw (capKeep cap) T gk g p.2 (ze8 cap p.1) [] []).bind λq=>Za (za4 cap p.1 q.1,(.dct q.2.1 q.2.2,Zd)) else Zb
section
variable {K:Zg}
theorem z3a {κ:Type} [DecidableEq κ] (a:List κ)(k:κ):(zfx a k).length<=a.length+1:=by
 unfold zfx;split
 ·symm
 ·rw[Bb];exact Af _
theorem z75 (I:∀b o,pb b o->b≠acc) (R:Rel K F1 (prO pb acc (.dK [])) ce0 σ0 H0) (ok:ItOk K F1 J ws) (h:zmw mp T gk gv ws ce0 [] []=Za (ce',kout,vout)) (hz:ws.length<=sizeLine)
  (q:∀F d H' (j:List Key) us,Same F1 F->Rel K F (prO pb acc (.dK (j.zip us))) ce' d H'->Keep mp σ0 d->kout=j.map .inl->j.length=us.length->Reps K F vout us->N0 d H'):zf2 J (TGof K T) zin (zzf acc (tE K gk) (tE K gv)) σ0 H0 N0:=by
 refine⟨λi m σc H=>m=ws.length-i/\i<=ws.length/\∃(F:Hp) (f:En) (j:List Key) (us:List V) (v:List W),Same F1 F/\Rel K F (prO pb acc (.dK (j.zip us))) f σc H/\Keep mp σ0 σc/\j.length=us.length/\j.length<=i/\Reps K F v us/\zmw mp T gk gv (ws.drop i) f (j.map Sum.inl) v=Za (ce',kout,vout),
  ⟨_,rfl,Bm _,F1,ce0,[],[],[],.refl _,R,.refl _ _,rfl,Af _,.nil,h⟩,?_⟩
 rintro i m σc H ⟨rfl,hi,F,f,j,us,v,s,g,C,n,hj,rd,a⟩;by_cases c:i<ws.length
 ·refine .inr ⟨ok.go i H (s.trans g.sub) c, ?_⟩;have Y:ws.drop i=ws[i]::ws.drop (i+1):=(Cs c);rw[Y] at a;obtain⟨c1,U,a⟩:=bS (show (tgSet mp T ws[i] f).bind _=_ from a);obtain⟨⟨u,Q⟩,h4,a⟩:=bS a;obtain⟨k,h5,a⟩:=bS a;obtain⟨⟨p,B⟩,h6,a⟩:=bS a;refine⟨λσ2 l=>∃(F:Hp) (f:En) (j:List Key) (us:List V) (v:List W),Same F1 F/\Rel K F (prO pb acc (.dK (j.zip us))) f σ2 l/\Keep mp σ0 σ2/\j.length=us.length/\j.length<=i+1/\Reps K F v us/\zmw mp T gk gv (ws.drop (i+1)) f (j.map Sum.inl) v=Za (ce',kout,vout),λσ2 l z=>⟨ws.length-(i+1),by symm,rfl,c,z⟩,?_⟩;intro x l y;obtain⟨w,D,o⟩:=ok.yld i H x l (s.trans g.sub) c y;rw[Ab c] at D;obtain rfl:=sI D;obtain⟨Z,s3,R3,z3⟩:=(o.mono s).close g;refine zla (w:=ws[i]) R3 z3 U λL P O=>?_;unfold zin;dsimp only;rw[if_pos rfl];refine⟨Z,_,c1,u,Q,P,h4,λS H5 v5 s5 R5 M=>?_⟩;have X:v5=kV k:=M.key (z85 h5);refine⟨S,_,u,p,B,R5,h6,λF6 H6 t s6 R6 N=>?_⟩;obtain⟨r,s7,E,y7⟩:=N.freeze R6;obtain⟨a1,_,_⟩:=E.prt acc (.dK (j.zip us)) (.inr ⟨rfl,rfl⟩);have A:Same F r:=s3.trans (s5.trans (s6.trans s7));have lz:(j.zip us).length<sizeLine:=by rw[List.length_zip];symm
  refine⟨k,j.zip us,X,a1,lz,r,p,zfx j k,zgf j us k t,zgf (j.map Sum.inl) v (.inl k) B.1,s.trans A,?_,C.trans O,ybh n k t,?_,zuo zkk y7 (rd.mono A),?_⟩
  ·rw[<- putK_zip n];exact E.accTo (λps z=>by cases z) I
  ·have:=z3a j k;symm
  ·rw[<-zz8 zkk];exact a
 ·have e:i=ws.length:=by symm
  subst e;rw[List.drop_length] at a;cases a;exact .inl ⟨ok.stop H (s.trans g.sub),q F σc H j us s g C rfl n rd⟩
end
theorem ztg {K:Zg}(h:tE K (zqu cap T it gk gv) σ H Q):z5u (tI K it) cap (TGof K T) (λacc=>zzf acc (tE K gk) (tE K gv)) σ H Q:=by
 obtain⟨F,p,D,P,r,R,h,q⟩:=h;obtain⟨⟨e,M⟩,O,h⟩:=bS h;refine⟨F,p,D,e,M,R,O,λY d J N g ok acc b=>?_⟩;split at h
 ·rename_i n;rw[Ae] at n;obtain⟨⟨i,ks,vs⟩,C,h⟩:=bS h;cases h;have c:=zlg (cap:=cap) g b;have R2:Rel K Y (prO (zbu p cap e σ d) acc (.lst [])) (ze8 cap e) (capSt cap σ) (upd d acc (.lst [])):=g.block b n.1;have A:=R2.accTo (o2:=.dK []) (λl z=>by cases z) c;rw[zwn] at A;refine z75 c A ok C (Aq n.2) λB f j y x s k U L E rd=>?_;have Z:Rel K B (zhu (zbu p cap e σ d) acc []) i f (upd j acc (.lst [])):=k.accTo (λl z=>by cases z) c;obtain⟨X,I⟩:=g.unblock b s Z U .nil;obtain⟨u,a2,a3⟩:=k.prt acc _ (.inr ⟨rfl,rfl⟩);obtain⟨a,o,w',_,S,z3,t,_,v,w⟩:=I;cases S;have m:=X.put (acc:=acc) (o:=.dK (y.zip x)) upd_same (λl z=>by cases z) t v w;rw[z08 u] at m;refine q B j _ (N.trans s) m ⟨acc,.dK (y.zip x),_,rfl,rfl,u,t,?_,v,w⟩;rw[L];exact .dct E rd
 ·exact noSome h
section
end
noncomputable def chW (x:Str):List W:=x.cps.toList.map λc=>W.str ⟨#[c]⟩
noncomputable def seqS:W->Option (List W)
 |.str x=>Za (chW x)
 |w=>seqW w
section
end
section
variable {K:Zg}{F:Hp}
end
section
end
noncomputable def yhb (g:GE):GL:=λe=>(g e).bind λp=>(seqS p.2.1).bind λw=>Za (p.1,w)
noncomputable def yfy (g:GE):GL:=λe=>(g e).bind λp=>match p.2.1 with
 |.str x=>Za (p.1,zhj (chW x) 0)
 |_=>Zb
section
variable {K:Zg}
end
noncomputable def tN (S:Sx):Zi->Bool
 |.Name x _=>S.bn.contains ("t "++x:Str)
 |.Call (.Name x _) _ _ _=>S.bn.contains ("t "++x:Str)
 |_=>Zc
noncomputable def yiw (f:Sx->Zi->Option GE) (S:Sx) (t e:Zi):Option GL:=match e with
 |.Name x p=>if tN S (.Name x p) then (f S (.Name x p)).bind λg=>Za (yhb g) else Zb
 | .Call (.Name x _) [.Name y q] [] _=>(match t with
  |.Tuple _ _ _=>if x==("enumerate" : Str)&&S.bl x&&tN S (.Name y q) then (f S (.Name y q)).bind λg=>Za (yfy g) else Zb
  |_=>Zb)
 |_=>Zb
section
end
noncomputable def oIxS:O2
 |.str x,.int i=>if x.length<=sizeLine then (atI x.cps.toList i).bind λc=>Za (.str ⟨#[c]⟩,Zc) else Zb
 |_,_=>Zb
noncomputable def z5y:List W->Option (List Str)
 |[]=>Za []
 |.str x::w=>(z5y w).bind λa=>Za (x::a)
 |_=>Zb
noncomputable def yhz (x:Str) (g:GE):GE:=λe=>(g e).bind λp=>match p.2.1 with
 |.lst w=>(z5y w).bind λy=>if (y.map (·.length)).sum+y.length*x.length<=16777216 then Za (p.1,(.str (Txt.join x y),Zc)) else Zb
 |_=>Zb
section
variable {K:Zg}
end
section
variable {K:Zg}
end
section
open PySem.AutoSeq1 (wpAny_loadPart')
end
noncomputable def keyP:W->Option (List Int)
 |.tup [.int i,.tup u]=>(zcs u).bind λn=>Za (i::n)
 |_=>Zb
noncomputable def oLtX:O2:=λa b=>match a,b with
 |.int i,.int j=>Za (.bl (decide (i<j)),Zc)
 |a,b=>(keyP a).bind λk=>(keyP b).bind λc=>Za (.bl (lexI k c),Zc)
section
noncomputable def yho (fE:Sx->Zi->Option GE) (S:Sx):Zi->Option GE
 |.Call (.Attribute (.Constant (.str x) _ _) name apos) [e] [] cpos=>if name==("join" : Str)&&(apos.endLine==cpos.line)&&zah e then (fE S e).bind λg=>Za (yhz x g) else Zb
 |_=>Zb
noncomputable def cmpL (f:Sx->Zi->Option GE) (S:Sx) (a:Zi) (ops:List CmpOp) (c:List Zi):Option GE:=match ops,c with
 |[.Lt],[b]=>if S.bn.contains ("lt" : Str) then (za3 f S a).bind λx=>(za3 f S b).bind λy=>Za (gOp2 oLtX x y) else Zb
 |_,_=>Zb
end
set_option maxHeartbeats 1000000
section
variable {prog:Program}{w:World}{A:Around}{E:Ze->Zf->Prop}{s:Zf}
end
section
end
noncomputable def tRT (K:Zg) (t:TA):TE:=λσ H Q=>t σ H λv b=>∃a x,v=[.ref a]/\SqT K b a x/\∀p,b p=Zb->Q (.ref p) (upd b p (.tup x.reverse))
noncomputable def yih (w:W):Option (W×Bool):=match w with
 |.tup a=>#v[a.reverse,3]
 |_=>Zb
noncomputable def ycu (as:GAs):GE:=λe=>(as e).bind λp=>match zbi p.1 p.2 with
 |some [w]=>(yih w).bind λr=>Za (p.1,r)
 |_=>Zb
section
theorem ygi {K:Zg} (h:tE K (ycu as) σ H Q):tRT K (tAs K as) σ H Q:=by
 obtain⟨F,o,g,m,r,Re,h,q⟩:=h;obtain⟨⟨d,x⟩,k,h⟩:=bS h;refine⟨F,o,g,d,x,Re,k,λC E L j R n=>?_⟩;cases e:zbi d x with
 |none=>simp only [e] at h;exact noSome h
 | some u =>
  have b:=n.repBs R e
  match u,e,b with
  | [w],e,b =>
   simp only [e] at h;obtain⟨J,c,h⟩:=bS h;obtain rfl:=(Hu (sI h)).1;obtain rfl:=(Hu (sI h)).2;obtain⟨v,t,A⟩:=b.one;subst t;cases w with
   | tup I =>
    obtain rfl:=sI c;obtain⟨a,u,z,B,M,p⟩:=A.tup R.sub;subst z;refine⟨a,u,rfl,.inl (.inl B),λl i=>?_⟩;obtain⟨D,s,f,y⟩:=(Out.tup (K:=K) (F:=C) (H:=E) (p:=l) i p.reverse).close R;exact q D _ _ (j.trans s) f y
   |_=>exact noSome c
  |[],e,_=>simp only [e] at h;exact noSome h
  |_::_::_,e,_=>simp only [e] at h;exact noSome h
noncomputable def yis (fE:Sx->Zi->Option GE) (S:Sx):Zi->Option GE
 |.Call (.Name x _) [.Call (.Name y _) [a] [] _] [] _=>if x==("tuple" : Str)&&y==("reversed" : Str)&&S.bl x&&S.bl y&&zah a then (asL (za3 fE S) [a]).bind λb=>Za (ycu b) else Zb
 |_=>Zb
end
theorem ycr:bootBuiltins "set" = Za (.type "set"):=by decide +kernel
noncomputable def cntI (ns:List Int):Nat:=(firstMet (λi=>ns.getD i 0) ns.length).length
noncomputable def tLS (K:Zg) (t:TA):TE:=λσ H Q=>t σ H λv b=>∃a,∃n:List Int,v=[.ref a]/\SqL K b a (n.map V.int)/\n.length<=4000/\Q (.int (cntI n:Nat)) b
noncomputable def ztq (as:GAs):GE:=λe=>(as e).bind λp=>match zbi p.1 p.2 with
 |some [.lst w]=>(zcs w).bind λn=>if n.length<=4000 then Za (p.1,(.int (cntI n:Nat),Zc)) else Zb
 |_=>Zb
theorem z61 (h:as en=Za (e1,xs))(r:zbi e1 xs=Za [.lst (ns.map W.int)])(q:ns.length<=4000):ztq as en=Za (e1,(.int (cntI ns:Nat),Zc)):=by
 unfold ztq;rw[h];show (match zbi e1 xs with
  |some [.lst w]=>(zcs w).bind λns=>if ns.length<=4000 then Za (e1,(W.int (cntI ns:Nat),Zc)) else Zb
  |_=>Zb)=_
 rw[r];show (zcs (ns.map W.int)).bind _=_;rw[zej];show (if ns.length<=4000 then Za (e1,(W.int (cntI ns:Nat),Zc)) else Zb)=_;rw[if_pos q]
section
theorem ygt (N:X.calm=Zd) (B:Gl X "len") (J:X.mg "len" = Zb) (C:Gl X "set") (w:X.mg "set" = Zb) (M:PA X [a] ta) (y:starEach [a] X.env=[(Zc,eval a X.env)]):PE X (.Call (.Name "len" p) [.Call (.Name "set" j) [a] [] pos'] [] pos) (tLS X.K ta):=by
 intro pins s σ H Q I h;refine Call_ (zd0 I B J z56 (PyProof.Rows.callWith_builtin1 (Calls.spliced_cons ?_) rfl rfl));refine Call_ (zd0 I C w ycr (Dp (thn (M pos' pins s σ H _ I h) λus S ⟨Z,O,f,A,x⟩=>?_) y rfl));nofun;obtain⟨a,n,e,K,U,q⟩:=x;ac_rfl;subst e;cases A with
 | cons r D =>
  cases D;cases r;nofun;obtain⟨i,k,j,P⟩:=f.list K;ac_rfl;have m:i.length=n.length:=by rw[<-k.length,Ac]
  have sz:i.toArray.size=n.length:=by rw[Am];exact m
  refine call_set_list (ns:=n) (f.ok.hd N) j.isList (zs2 k) (by rw[sz];show n.length+1<4096;symm) λR v l z=>?_;refine Calls.spliced_nil ?_;rw[sz] at l;obtain⟨o,F,Y,t,E,g,u,_,_,c,L,d⟩:=l;refine call_len_set E g u L (by have:F.size<4096:=c;symm) ?_;rw[d];exact⟨.int (cntI n:Nat),O,f.kept (t':=v+1+1) λb o e=>z b o (Ar e) e,⟨_,rfl⟩,q⟩
theorem yac {K:Zg} (h:tE K (ztq as) σ H Q):tLS K (tAs K as) σ H Q:=by
 obtain⟨F,m,f,j,r,Re,h,q⟩:=h;obtain⟨⟨c,x⟩,i,h⟩:=bS h;refine⟨F,m,f,c,x,Re,i,λD J M g R k=>?_⟩;cases e:zbi c x with
 |none=>simp only [e] at h;exact noSome h
 | some u =>
  have b:=k.repBs R e
  match u,e,b with
  | [w],e,b =>
   cases w with
   | lst L =>
    simp only [e] at h;obtain⟨n,B,h⟩:=bS h;split at h
    ·rename_i z
     obtain rfl:=(Hu (sI h)).1;obtain rfl:=(Hu (sI h)).2;obtain⟨v,o,A⟩:=b.one;subst o;obtain⟨a,u,t,C,p⟩:=A.lst R.sub;subst t;have E:=zd4 B;subst E;have l:=p.ints;subst l;refine⟨a,n,rfl,SqL.of' C,z,?_⟩;obtain⟨I,s,d,y⟩:=(Out.val (K:=K) (F:=D) (H:=J) (Rep.int (cntI n:Nat))).close R;exact q I _ _ (g.trans s) d y
    ·exact noSome h
   |_=>simp only [e] at h;exact noSome h
  |[],e,_=>simp only [e] at h;exact noSome h
  |_::_::_,e,_=>simp only [e] at h;exact noSome h
noncomputable def zqe (fE:Sx->Zi->Option GE) (S:Sx):Zi->Option GE
 |.Call (.Name x _) [.Call (.Name y _) [a] [] _] [] _=>if x==("len" : Str)&&y==("set" : Str)&&S.bl x&&S.bl y&&zah a then (asL (za3 fE S) [a]).bind λb=>Za (ztq b) else Zb
 |_=>Zb
theorem zur (H:zb8 fE)(C:CxOk X S d):zua (zqe fE S) X:=λe g h=>by
 unfold zqe at h;split at h
 ·split at h
  ·rename_i z;simp only [Ae] at z;obtain⟨⟨⟨⟨j,b⟩,r⟩,o⟩,q⟩:=z;have c:=Bp j;have i:=Bp b;subst c i;obtain⟨s,has,h⟩:=bS h;obtain rfl:=sI h;obtain⟨p,_⟩:=zhk (λe a n=>zag H C n) has;obtain⟨l,m⟩:=zgw C r;obtain⟨f,k⟩:=zgw C o;exact (ygt C.calm l m f k p (zak q)).wk λ_ _ _=>yac
  ·exact noSome h
 ·exact noSome h
end
namespace SetT
theorem getD_lt {xs:Array Nat}{i j:Nat}(h:i<xs.size):xs.getD i j=xs.getD i 0:=by
 unfold Array.getD;rw[dif_pos h,dif_pos h]
noncomputable abbrev HT:=Array Int×SetTable
end SetT
section
variable {prog:Program}{w:World}{A:Around}{E:Ze->Zf->Prop}{s:Zf}
end
section
variable {fp wr:List Zh}{G:Array GenState->Array GenState->Prop}{St:Nat->Zf->Prop}
end
section
end
end L2
namespace L2
open PySem PySem.Spec PyProof.Rows
section
variable {prog:Program}{w:World}{A:Around}{E:Ze->Zf->Prop}{s:Zf}{it d:Zh}{es:Array (Int × Ze)}{ep slot i:Nat}{t:SetTable}
end
section
end
section
end
section
end
section
end
section
variable {prog:Program}{w:World}{A:Around}{E:Ze->Zf->Prop}{s:Zf}
end
section
end
section
end
section
end
section
end
section
variable {K:Zg}
end
section
end
section
open PySem.AutoSeq1 (wpAny_loadPart')
end
section
end
section
open PySem.AutoSeq1 (wpAny_loadPart')
end
section
end
section
open HT in
end
section
noncomputable def orX (a b:Option GE):Option GE:=match a with
 |some g=>Za g
 |none=>b
theorem z50 (b:zua x X)(a:zua y X):zua (λe=>orX (x e) (y e)) X:=λe g h=>by
 have h:orX (x e) (y e)=Za g:=h;unfold orX at h;split at h
 ·rename_i c q;obtain rfl:=sI h;exact b e c q
 ·exact a e g h
noncomputable def extE (fE:Sx->Zi->Option GE) (S:Sx) (e:Zi):Option GE:=orX (zqe fE S e) (zy7 fE S e)
theorem z64 (H:zb8 fE)(C:CxOk X S d):zua (extE fE S) X:=z50 (zur H C) (zu4 H C)
end
noncomputable def ncOf (scope:Scope):List Str:=(scope.names.filter λp=>p.2==.free||p.2==.local||p.2==.cell).map (·.1)
noncomputable def capC (S:Sx) (scope:Scope):Cap:=(ncOf scope).map λx=>if scope.names.lookup x==Za .free then S.N.findIdx? (· == x) else Zb
noncomputable def inS (S:Sx) (scope:Scope):Sx:={ N:=ncOf scope,kd:=scope.names,bn:=S.bn,fs:=S.fs,mp:=capKeep (capC S scope),top:=Zc }
noncomputable def zh3 (S:Sx) (scope:Scope):Bool:=decide (scope.kind=.function)&&zgx (capC S scope) (ncOf scope) S.N scope&&(scope.names.all λp=>!(p.2==.free)||S.kd.lookup p.1==Za .cell||S.kd.lookup p.1==Za .free) &&
 zew scope && (scope.names.all λp=>!(p.2 == NameKind.local) || decide (scope.names.lookup p.1=some .local))&&decide (ncOf scope).Nodup
noncomputable def zqx (fT:Sx->Zi->Option GT) (S:Sx):List Zi->Option GT
 |[]=>Za gYes
 |[c]=>fT S c
 |_=>Zb
noncomputable def zvv (fE:Sx->Zi->Option GE) (fT:Sx->Zi->Option GT) (S:Sx) (elt:Zi) (gens:List Comprehension) (scope:Scope):Option GE:=match gens with
 |[c]=>if zh3 S scope&&decide (c.is_async=0) then (zmh fE S c.target c.iter).bind λg=>(tgE (inS S scope) c.target).bind λT=>(zqx fT (inS S scope) c.ifs).bind λd=>(fE (inS S scope) elt).bind λe=>Za (zbl (capC S scope) T g d e) else Zb
 |[c,a]=>if zh3 S scope&&decide (c.is_async=0/\a.is_async=0) then (zmh fE S c.target c.iter).bind λg=>(tgE (inS S scope) c.target).bind λT=>(zqx fT (inS S scope) c.ifs).bind λd=>(zmh fE (inS S scope) a.target a.iter).bind λb=>(tgE (inS S scope) a.target).bind λf=>(zqx fT (inS S scope) a.ifs).bind λt=>(fE (inS S scope) elt).bind λe=>Za (zwj (capC S scope) T g d f b t e) else Zb
 |_=>Zb
structure ScOk (X:Cx) (S:Sx) (scope:Scope):Prop where
 kind:scope.kind=.function
 cap:zgx (capC S scope) (ncOf scope) X.N scope=Zd
 fr:zfp scope X.env.scope=Zd
 nc:zew scope=Zd
 nm:(scope.names.all λp=>!(p.2 == NameKind.local) || decide (scope.names.lookup p.1=some .local))=Zd
 nd:(ncOf scope).Nodup
section
theorem zj6 (C:CxOk X S d)(h:zh3 S scope=Zd):ScOk X S scope:=by
 unfold zh3 at h;simp only [Ae] at h;obtain⟨⟨⟨⟨⟨e,a⟩,b⟩,g⟩,c⟩,f⟩:=h;refine⟨Aq e,by rw[C.N];exact a,?_,g,c,Aq f⟩;unfold zfp;refine Bi.mpr λp i=>?_;have q:=Bi.mp b p i;simp only [Co,Bool.not_eq_true',Ge,beq_iff_eq,Du] at q ⊢;rcases q with (q|q)|q
 ·exact .inl (.inl q)
 ·rcases C.vis p.1 (.inl q) with z|z
  ·exact .inl (.inr z)
  ·exact .inr z
 ·rcases C.vis p.1 (.inr q) with z|z
  ·exact .inl (.inr z)
  ·exact .inr z
theorem zgl (C:CxOk X S d)(h:ScOk X S scope)(c:List (Str×Zh))(L:Zh)(s:Zf)(H:Hp)(fp:List Zh):CxOk (zaw X (ncOf scope) scope c L s H fp) (inS S scope) d where
 N:=rfl
 nd:=h.nd
 loc:=λx e=>zbr (env:=X.env) #v[0,9] e
 cel:=λx e=>⟨zbr (env:=X.env) #v[0,9] e,Ag e⟩
 vis:=λx e=>by
  rcases e with e|e
  ·exact .inl (zbr (env:=X.env) #v[0,9] e)
  ·exact zbm (env:=X.env) e
 gl:=λx e=>zbr (env:=X.env) #v[0,9] e
 calm:=C.calm
 xe:=rfl
 bn:=C.bn
 fs:=C.fs
 room:=C.room
 sl:=C.sl
 lam:=λh=>absurd (show ("" : Str)∈lams from h) #v[0,0,7]
 dpo:=Bm _
 sg:=C.sg
 bk:=by
  show (if scope.kind.isAnnotationScope then ScopeKind.function else scope.kind)=.function;rw[h.kind];rfl
end
theorem z1f {K:Zg}(h:tT K gYes σ H Q):zin σ H Q:=by
 obtain⟨F,p,a,e,b,R,h,q⟩:=h;cases h;exact q F H (.refl F) R
structure CompP (X:Cx) (S:Sx) (elt:Zi) (gens:List Comprehension) (scope:Scope) (g:GE):Prop where
 ex:∃tg iter ifs gs gi T tc,∃(em:Pos->Ze->Env->Sem Unit) (tm:Zh->TM),gens=⟨tg,iter,ifs,0⟩::gs/\(∀pos it acc env,compTurn #v[7,10] 0 it acc env=zjs #v[7,10] 0 tg iter ifs (em pos acc env) it acc env)/\ScOk X S scope/\PI X tg iter (tI X.K gi)/\(∀x,foldedSetIterable iter X.env x=pure x) /\
  (∀cl C s3 H3 fp,PG (zaw X (ncOf scope) scope cl C s3 H3 fp) tg (TGof X.K T))/\(∀cl C s3 H3 fp,PTs (zaw X (ncOf scope) scope cl C s3 H3 fp) ifs (tT X.K tc))/\(∀pos cl C s3 H3 fp acc,PM (zaw X (ncOf scope) scope cl C s3 H3 fp) (em pos (.ref acc) (zaw X (ncOf scope) scope cl C s3 H3 fp).env) (tm acc)) /\
  ∀σ H Q,tE X.K g σ H Q->zu9 (tI X.K gi) (capC S scope) (TGof X.K T) (tT X.K tc) tm σ H Q
section
theorem PTs.wk (h:PTs X ifs t)(i:∀σ H Q,t' σ H Q->t σ H Q):PTs X ifs t':=λpins s σ H Q I q=>h pins s σ H Q I (i σ H Q q)
theorem zkq (HT:znk fT)(C:CxOk X S d):∀{ifs:List Zi}{tc:GT},zqx fT S ifs=Za tc->PTs X ifs (tT X.K tc)
 |[],_,h=>by obtain rfl:=sI h;exact zz1.wk λ_ _ _=>z1f
 |[_],_,h=>yba (HT _ _ d C _ _ h)
 |_::_::_,_,h=>noSome h
theorem zh1 (j:zb8 fE)(HT:znk fT)(C:CxOk X S d)(h:zvv fE fT S elt gens scope=Za g):CompP X S elt gens scope g:=by
 unfold zvv at h;split at h
 ·rename_i c;obtain⟨tg,iter,ifs,u⟩:=c;split at h
  ·rename_i z;rw[Ae] at z;have A:u=0:=Aq z.2;subst A;obtain⟨m,w,h⟩:=bS h;obtain⟨T,hT,h⟩:=bS h;obtain⟨y,f,h⟩:=bS h;obtain⟨r,i,h⟩:=bS h;obtain rfl:=sI h;have b:=zj6 C z.1;obtain⟨x,p⟩:=zes j C w;exact⟨tg,iter,ifs,[],m,T,y,λ_=>yel elt,λe=>zuq e (tE X.K r),rfl,λ_ _ _ _=>rfl,b,x,p,λa L s H fp=>zn0 (zgl C b a L s H fp) hT,λa L s H fp=>zkq HT (zgl C b a L s H fp) f,λ_ a L s H fp e=>z5f (j _ _ d (zgl C b a L s H fp) _ _ i),λ_ _ _=>zwd⟩
  ·exact noSome h
 ·rename_i c E;obtain⟨tg,iter,ifs,u⟩:=c;obtain⟨tg2,iter2,ifs2,n⟩:=E;split at h
  ·rename_i z;rw [Ae] at z;obtain ⟨A,o⟩:u=0/\n=0:=Aq z.2;subst A o;obtain ⟨m,w,h⟩:=bS h;obtain ⟨T,hT,h⟩:=bS h;obtain ⟨y,f,h⟩:=bS h;obtain ⟨q,l,h⟩:=bS h;obtain ⟨F,B,h⟩:=bS h;obtain ⟨t,k,h⟩:=bS h;obtain ⟨r,i,h⟩:=bS h;obtain rfl:=sI h;have b:=zj6 C z.1;obtain ⟨x,p⟩:=zes j C w;exact ⟨tg,iter,ifs,[⟨tg2,iter2,ifs2,0⟩],m,T,y,λpos=>z1l #v[5,7] iter2,λe=>tTwo (tI X.K q) (TGof X.K F) (tT X.K t) (zuq e (tE X.K r)),rfl,λ_ _ _ _=>z3j,b,x,p,λa L s H fp=>zn0 (zgl C b a L s H fp) hT,λa L s H fp=>zkq HT (zgl C b a L s H fp) f,
   λpos a L s H fp e=>yex (λ_ _ z=>z) C.calm (zes j (zgl C b a L s H fp) l).1 (zn0 (zgl C b a L s H fp) B) (zkq HT (zgl C b a L s H fp) k) (j _ _ d (zgl C b a L s H fp) _ _ i) (zes j (zgl C b a L s H fp) l).2,λ_ _ _=>zjm λI e D=>yia (yf2 D)⟩
  ·exact noSome h
 ·exact noSome h
theorem zxl (C:CxOk X S d)(h:CompP X S elt gens scope g):PE X #v[7,10] (tE X.K g):=by
 nofun;obtain⟨k,iter,ifs,j,i,T,l,m,t,e,a,s,b,f,p,pt,c,rd⟩:=h.ex;ac_rfl;subst e;exact (z60 b p pt (c pos) (a pos) C.calm s.kind s.cap s.fr s.nc s.nm f).wk rd
noncomputable def kwE (fE:Sx->Zi->Option GE) (S:Sx) (x:Str) (e:Zi) (key:Str) (a:Zi):Option GE:=match a with
 |.Name y p=>if x==("sorted" : Str)&&key==("key" : Str) then zro fE S e y else maxE fE S x e key (.Name y p)
 |a=>maxE fE S x e key a
theorem yem (H:zb8 fE) (C:CxOk X S d) (h:kwE fE S x e key ed=Za g):PE X (.Call (.Name x px) [e] [⟨Za key,ed,kpos⟩] pos) (tE X.K g):=by
 cases ed with
 | Name y p =>
  have h:(if x==("sorted" : Str)&&key==("key" : Str) then zro fE S e y else maxE fE S x e key (.Name y p))=Za g:=h;split at h
  ·rename_i z
   rw[Ae] at z;have b:=Bp z.1;have a:=Bp z.2;subst b a;exact zu0 H C h
  ·exact zxt H C h
 |_=>exact zxt H C h
noncomputable def z8c (fE:Sx->Zi->Option GE) (S:Sx):Option Zi->Option GO
 |none=>Za zbx
 |some e=>(fE S e).bind λg=>Za (ze5 g)
noncomputable def z1i (fE:Sx->Zi->Option GE) (fT:Sx->Zi->Option GT) (S:Sx) (e:Zi):Option GE:=match e with
 |.Name x _=>(S.rd x).bind λi=>Za (gVar i)
 | .Constant c _ _=>(match c with
  |.int i=>Za (gC (.int i))
  |.bool b=>Za (gC (.bl b))
  |.none=>Za (gC .non)
  |.str x=>Za (gC (.str x))
  |_=>Zb)
 |.BinOp a d b _=>(za3 fE S a).bind λx=>(za3 fE S b).bind λy=>(binO d).bind λo=>Za (gOp2 o x y)
 | .UnaryOp d a _=>(match d with
  |.USub=>(za3 fE S a).bind λx=>Za (gOp1 oNeg x)
  |.Not=>(fE S a).bind λg=>Za (gNot g)
  |_=>Zb)
 | .BoolOp d f _=>(match f with
  |v::f=>z8r (fE S) d v f
  |[]=>Zb)
 |.Compare a ops w _=>cmpV fE S a ops w
 |.IfExp c a b _=>(fT S c).bind λt=>(fE S a).bind λx=>(fE S b).bind λy=>Za (gIf t x y)
 | .Subscript a s _=>(match s with
  | .Slice r A z _=>(match z with
   |none=>(za3 fE S a).bind λx=>(z8c fE S r).bind λl=>(z8c fE S A).bind λh=>Za (gSl x l h)
   |some _=>Zb)
  |s=>if zdw s then (za3 fE S a).bind λx=>(za3 fE S s).bind λy=>Za (gOp2 oIx x y) else Zb)
 |.List j _=>(asL (λe=>(fE S e).bind λg=>Za (gArg g)) j).bind λk=>Za (zau k)
 |.Tuple j _ _=>(asL (λe=>(fE S e).bind λg=>Za (gArg g)) j).bind λk=>Za (zbb k)
 | .Call p args n pos=>(match n with
  | []=>(match p with
   |.Name x _=>z71 fE S x args
   |.Attribute o m u=>z7t fE S o m u args pos
   |_=>Zb)
  | [⟨Za key,q,_⟩]=>(match p,args with
   |.Name x _,[e]=>kwE fE S x e key q
   |_,_=>Zb)
  |_=>Zb)
 |.ListComp elt gens scope _=>zvv fE fT S elt gens scope
 |_=>Zb
noncomputable def z91 (fE:Sx->Zi->Option GE) (fT:Sx->Zi->Option GT) (S:Sx) (e:Zi):Option GT:=match e with
 | .BoolOp o b _=>(match b with
  |v::b=>z7c (fT S) o v b
  |[]=>Zb)
 |.Compare a ops c _=>(cmpV fE S a ops c).bind λg=>Za (zaj g)
 | .UnaryOp o a p=>(match o with
  |.Not=>(fT S a).bind λg=>Za (ze2 g)
  |o=>if zrw (.UnaryOp o a p) then (fE S (.UnaryOp o a p)).bind λg=>Za (zaj g) else Zb)
 |e=>if zrw e then (fE S e).bind λg=>Za (zaj g) else Zb
theorem zra (b:zb8 fE) (C:CxOk X S d) (h:z8c fE S o=Za g):PO X o (tO X.K g):=by
 cases o with
 |none=>obtain rfl:=sI h;exact λpins s σ H Q I q=>ya9 pins s σ H Q I (zpy q)
 | some e =>
  obtain⟨c,a,h⟩:=bS h;obtain rfl:=sI h;exact λpins s σ H Q I q=>z7e (b X S d C _ _ a) pins s σ H Q I (zvt q)
theorem z1y (H:zb8 fE) (HT:znk fT):zb8 (z1i fE fT):=λX S d C e g h=>by
 have w:∀e a,((fE S e).bind λg=>Za (gArg g))=Za a->PE X e (tA X.K a):=λe a h=>by
  obtain⟨ge,K,h⟩:=bS h;obtain rfl:=sI h;exact (H X S d C _ _ K).wk λ_ _ _=>zgy
 cases e with
 | Name x p =>
  obtain⟨i,B,h⟩:=bS (show (S.rd x).bind _=_ from h);obtain rfl:=sI h;exact (zz4 C B).wk λ_ _ _=>z4s
 | Constant c k p =>
  cases c with
  |int i=>obtain rfl:=sI h;exact ybu.wk λ_ _ _=>zem λ_=>.int i
  |bool b=>obtain rfl:=sI h;exact yhm.wk λ_ _ _=>zem λ_=>.bl b
  |none=>obtain rfl:=sI h;exact yfp.wk λ_ _ _=>zem λ_=>.non
  |str x=>obtain rfl:=sI h;exact yfx.wk λ_ _ _=>zem λ_=>.str x
  |_=>exact noSome h
 | BinOp a n b p =>
  obtain⟨x,f,h⟩:=bS (show (za3 fE S a).bind _=_ from h);obtain⟨y,j,h⟩:=bS h;obtain⟨o,L,h⟩:=bS h;obtain rfl:=sI h;obtain⟨r,I,D⟩:=z9h (X:=X) L;exact (yg4 I (zag H C f) (zag H C j)).wk λ_ _ _=>zdn D
 | UnaryOp n a p =>
  cases n with
  | USub =>
   obtain⟨x,f,h⟩:=bS (show (za3 fE S a).bind _=_ from h);obtain rfl:=sI h;exact (yhn yej (zag H C f)).wk λ_ _ _=>z1m ybb
  | Not =>
   obtain⟨x,f,h⟩:=bS (show (fE S a).bind _=_ from h);obtain rfl:=sI h;exact (yfh (H X S d C _ _ f)).wk λ_ _ _=>z2e
  |_=>exact noSome h
 | BoolOp n A p =>
  cases A with
  |nil=>exact noSome h
  |cons v A=>exact zqj (λe g=>H X S d C e g) h
 |Compare a ops Z p=>exact (zyi H C h).1
 | IfExp c a b p =>
  obtain⟨t,F,h⟩:=bS (show (fT S c).bind _=_ from h);obtain⟨x,f,h⟩:=bS h;obtain⟨y,j,h⟩:=bS h;obtain rfl:=sI h;exact (z1h (HT X S d C _ _ F) (H X S d C _ _ f) (H X S d C _ _ j)).wk λ_ _ _=>z8o
 | Subscript a s p =>
  have O:∀s,(if zdw s then (za3 fE S a).bind λx=>(za3 fE S s).bind λy=>Za (gOp2 oIx x y) else Zb)=Za g->PE X (.Subscript a s p) (tE X.K g):=λs h=>by
   split at h
   ·rename_i z
    obtain⟨x,f,h⟩:=bS h;obtain⟨y,j,h⟩:=bS h;obtain rfl:=sI h;exact (ydq (zxp.or z57) (zag H C f) (zag H C j) (zjo z)).wk λ_ _ _=>zdn z6l
   ·exact noSome h
  cases s with
  | Slice U B J Q =>
   cases J with
   |some _=>exact noSome h
   | none =>
    obtain⟨x,f,h⟩:=bS (show (za3 fE S a).bind _=_ from h);obtain⟨l,E,h⟩:=bS h;obtain⟨u,R,h⟩:=bS h;obtain rfl:=sI h;exact (z4y ((ya1.or yce).or z78) (zag H C f) (zra H C E) (zra H C R)).wk λ_ _ _=>z90
  |_=>exact O _ h
 | List q p =>
  obtain⟨M,has,h⟩:=bS (show (asL _ q).bind _=_ from h);obtain rfl:=sI h;exact (ycs (zhk w has).1).wk λ_ _ _=>z14
 | Tuple q k p =>
  obtain⟨M,has,h⟩:=bS (show (asL _ q).bind _=_ from h);obtain rfl:=sI h;exact (ygd (zhk w has).1).wk λ_ _ _=>z15
 | Call P args N p =>
  simp only [z1i] at h;split at h
  ·cases P with
   |Name x Q=>exact z3w H C h
   |Attribute o m Y=>exact z2d H C h
   |_=>exact noSome h
  ·split at h
   ·exact yem H C h
   ·exact noSome h
  ·exact noSome h
 |ListComp elt gens scope p=>exact zxl C (zh1 H HT C h)
 |_=>exact noSome h
theorem z1c (H:zb8 fE) (HT:znk fT):znk (z91 fE fT):=λX S d C e g h=>by
 have b:∀e,(if zrw e then (fE S e).bind λg=>Za (zaj g) else Zb)=Za g->PT X e (tT X.K g):=λe h=>by
  split at h
  ·rename_i z
   obtain⟨x,c,h⟩:=bS h;obtain rfl:=sI h;exact (yfd (H X S d C _ _ c) (zt6 z)).wk λ_ _ _=>zfm λ_ _ _ q=>q
  ·exact noSome h
 cases e with
 | BoolOp o f p =>
  cases f with
  |nil=>exact noSome h
  |cons v f=>exact (zk2 (λe g=>HT X S d C e g) h).pt
 | Compare a ops i p =>
  obtain⟨x,c,h⟩:=bS (show (cmpV fE S a ops i).bind _=_ from h);obtain rfl:=sI h;exact (zyi H C c).2
 | UnaryOp o a p =>
  cases o with
  | Not =>
   obtain⟨x,c,h⟩:=bS (show (fT S a).bind _=_ from h);obtain rfl:=sI h;exact (yb0 (HT X S d C _ _ c)).wk λ_ _ _=>zwc
  |_=>exact b _ h
 |_=>exact b _ h
end
noncomputable def z84:GE:=λ_=>Zb
noncomputable def zyv:GT:=λ_=>Zb
mutual
noncomputable def compE:Nat->Sx->Zi->Option GE
 |0,_,_=>Za z84
 |n+1,S,e=>Za ((orX (extE (compE n) S e) (z1i (compE n) (compT n) S e)).getD z84)
noncomputable def compT:Nat->Sx->Zi->Option GT
 |0,_,_=>Za zyv
 |n+1,S,e=>Za ((z91 (compE n) (compT n) S e).getD zyv)
end
theorem zz5:PE X e (tE X.K z84):=λ_ _ _ _ _ _ q=>by obtain⟨_,_,_,_,_,_,h,_⟩:=q;exact noSome h
theorem zq6:PT X e (tT X.K zyv):=λ_ _ _ _ _ _ q=>by obtain⟨_,_,_,_,_,_,h,_⟩:=q;exact noSome h
theorem zf9:∀n,zb8 (compE n)/\znk (compT n)
 |0=>⟨λ_ _ _ _ _ _ h=>by rw[compE] at h;obtain rfl:=sI h;exact zz5,λ_ _ _ _ _ _ h=>by rw[compT] at h;obtain rfl:=sI h;exact zq6⟩
 | n+1=>by
  obtain⟨a,b⟩:=zf9 n;refine⟨λX S d C e g h=>?_,λX S d C e g h=>?_⟩
  ·rw [compE] at h
   cases q:orX (extE (compE n) S e) (z1i (compE n) (compT n) S e) with
   |none=>rw[q] at h;obtain rfl:=sI h;exact zz5
   |some c=>rw[q] at h;obtain rfl:=sI h;exact z50 (z64 a C) (z1y a b X S d C) e _ q
  ·rw [compT] at h
   cases q:z91 (compE n) (compT n) S e with
   |none=>rw[q] at h;obtain rfl:=sI h;exact zq6
   |some c=>rw[q] at h;obtain rfl:=sI h;exact z1c a b X S d C e _ q
section
end
noncomputable def yhw (mp:List Nat) (i j k:Nat) (a b c:GE):GS:=λe=>(a e).bind λp=>(b p.1).bind λq=>(c q.1).bind λr=>if mp.contains i||mp.contains j||mp.contains k || !decide (i<r.1.length) || !decide (j<r.1.length) || !decide (k<r.1.length) then Zb else Za (((r.1.set i (#v[p.2.1,6])).set j (#v[q.2.1,6])).set k (Za r.2),.nx)
section
variable {K:Zg}
end
noncomputable def zza (S:Sx) (x:Str) (p:Pos) (y:Str) (d:Pos) (z:Str) (pz:Pos) (a b c:Zi):Bool:=S.kd.lookup x==Za .local&&S.kd.lookup y==Za .local&&S.kd.lookup z==Za .local&&p.line==d.line&&p.line==pz.line && !(x==y) && !(x==z) && !(y==z) && !(foldedForSure 8 a&&foldedForSure 8 b&&foldedForSure 8 c) && !(constantsAlone 8 a&&constantsAlone 8 b&&constantsAlone 8 c)&&zah a&&zah b&&zah c
section
theorem zy6 {x y:Str}(h:¬ x=y):(y==x)=Zc:=by
 cases q:y==x with
 |false=>rfl
 |true=>exact absurd (Bp q).symm h
theorem yg1 (C:CxOk X S d){p f pz pt pt2:Pos}(h:zza S x p y f z pz a b c=Zd):swappedStores [.Tuple [.Name x p,.Name y f,.Name z pz] kt pt] (.Tuple [a,b,c] k2 pt2) X.env=pure (Za [x,y,z]):=by
 unfold zza at h;simp only [Ae] at h;nofun;obtain⟨⟨⟨⟨⟨⟨⟨⟨⟨⟨⟨⟨F,q⟩,A⟩,R⟩,K⟩,M⟩,N⟩,D⟩,o⟩,g⟩,k⟩,l⟩,i⟩:=h;ac_rfl;have L:X.env.kindOf x=Za .local:=C.loc x (by simpa using F);have k2:X.env.kindOf y=Za .local:=C.loc y (by simpa using q);have J:X.env.kindOf z=Za .local:=C.loc z (by simpa using A);have I:p.line=f.line:=by simpa using R
 have r:p.line=pz.line:=by simpa using K
 have E:¬ x=y:=by simpa using M
 have u:¬ x=z:=by simpa using N
 have Q:¬ y=z:=by simpa using D
 have s:∀e,zah e=Zd->(match e with|.Starred ..=>Zd|_=>Zc)=Zc:=λe h=>by cases e<;>first|rfl|(cases h)
 have n:([a,b,c].any λe=>match e with|.Starred ..=>Zd|_=>Zc)=Zc:=by
  rw[Dd,Dd,Dd,List.any_nil,s a k,s b l,s c i];rfl
 unfold swappedStores;simp only [Bg,Gi,C.bk,Hi];rw[if_neg #v[0,9]]
 try simp only [Hi]
 refine (if_neg (λz=>Ah (n.symm.trans z))).trans ?_;have nm:List.filterMap (λe=>match e with|.Name id pos=>if (X.env.kindOf id==Za .local&&pos.line==(Option.map (λe=>e.pos.line) ([Zi.Name x p,Zi.Name y f,Zi.Name z pz]:List Zi).head?).getD 0)=Zd then Za id else Zb|_=>Zb) ([Zi.Name x p,Zi.Name y f,Zi.Name z pz]:List Zi)=[x,y,z]:=by
  have H:((Zi.Name x p).pos.line)=p.line:=rfl;have w:f.line=p.line:=I.symm;have B:pz.line=p.line:=r.symm;simp [L,k2,J,H,w,B]
 try simp only [Hi]
 generalize O:List.filterMap _ ([Zi.Name x p,Zi.Name y f,Zi.Name z pz]:List Zi)=names;have j:names=[x,y,z]:=O.symm.trans nm;subst j;have t:([x,y,z]:List Str).eraseDups=[x,y,z]:=by
  rw[Gf,Do,zy6 E,Do,zy6 u];simp only [Gv,Gn,Ei];rw[Gf,Do,zy6 Q];simp only [Gv,Gn,Ei];rw[Gf,Ei,List.eraseDups_nil]
 rw[t,if_neg (by simp)]
 try simp only [Hi]
 have P:¬ (foldedForSure 8 a&&foldedForSure 8 b&&foldedForSure 8 c)=Zd:=λz=>by rw[z] at o;cases o
 have m:¬ (constantsAlone 8 a&&constantsAlone 8 b&&constantsAlone 8 c)=Zd:=λz=>by rw[z] at g;cases g
 rw[if_neg (by simp only [Cb,List.all_nil,Fx,<-Bool.and_assoc];exact P),if_neg (by simp only [Cb,List.all_nil,Fx,<-Bool.and_assoc];exact m)]
end
noncomputable def zli (x:Stmt->Option GS) (X:Cx) (S:Sx):Prop:=∀s g,x s=Za g->PS X s (tS X.K S.mp g)
noncomputable def nmOf:Zi->Option (Str×Pos)
 |.Name x p=>Za (x,p)
 |_=>Zb
noncomputable def ygp (fE:Sx->Zi->Option GE) (S:Sx) (es vs:List Zi):Option GS:=match es with
 | [n,e,h]=>(match vs with
  |[a,b,c]=>(nmOf n).bind λx=>(nmOf e).bind λy=>(nmOf h).bind λz=>if zza S x.1 x.2 y.1 y.2 z.1 z.2 a b c then (S.wr x.1).bind λi=>(S.wr y.1).bind λj=>(S.wr z.1).bind λk=>(fE S a).bind λd=>(fE S b).bind λg=>(fE S c).bind λf=>Za (yhw S.mp i j k d g f) else Zb
  |_=>Zb)
 |_=>Zb
noncomputable def yb1:Zi->Option (List Zi×Nat×Pos)
 |.Tuple e k p=>Za (e,k,p)
 |_=>Zb
noncomputable def yg0 (fE:Sx->Zi->Option GE) (S:Sx):Stmt->Option GS
 | .Assign t e _=>(match t with
  |[a]=>(yb1 a).bind λx=>(yb1 e).bind λy=>ygp fE S x.1 y.1
  |_=>Zb)
 |_=>Zb
section
noncomputable def orS (a b:Option GS):Option GS:=match a with
 |some g=>Za g
 |none=>b
theorem yew (b:zli x X S)(a:zli y X S):zli (λe=>orS (x e) (y e)) X S:=λe g h=>by
 have h:orS (x e) (y e)=Za g:=h;unfold orS at h;split at h
 ·rename_i c q;obtain rfl:=sI h;exact b e c q
 ·exact a e g h
theorem ydc:swappedStores [.Subscript o k p] e env=pure Zb:=by
 cases e<;>rfl
theorem z4i:swapsWithSole [.Subscript o k p] e l env=pure Zc:=by
 cases e<;>rfl
theorem zs4 (h:zdw k=Zd):∀v,assign (.Subscript o k p) env v=(do
  let a <- holding [v] (eval o env)
  let iv <- holding [v,a] (eval k env)
  standAt p
  holding [v,a,iv] (setItem a iv v)
  release [v,a,iv] []):=by
 intro v;cases k<;>first|rfl|(cases h)
noncomputable def zj2 (fE:Sx->Zi->Option GE) (S:Sx):Stmt->Option GS
 |.Assign [.Name x _] (.DictComp k a #v[2,18] scope _) _=>if zh3 S scope&&(S.top&&S.kd.lookup x==Za .cell) then (S.wr x).bind λi=>(zmh fE S tg iter).bind λg=>(tgE (inS S scope) tg).bind λT=>(fE (inS S scope) k).bind λc=>(fE (inS S scope) a).bind λb=>Za (gSet S.mp i (zqu (capC S scope) T g c b)) else Zb
 |_=>Zb
theorem zol (e:zb8 fE)(C:CxOk X S d):zli (zj2 fE S) X S:=λJ g h=>by
 unfold zj2 at h;split at h
 ·rename_i x p m r tg iter scope pos j;split at h
  ·rename_i z;rw [Ae,Ae] at z;obtain ⟨i,A,h⟩:=bS h;obtain ⟨I,f,h⟩:=bS h;obtain ⟨T,hT,h⟩:=bS h;obtain ⟨K,o,h⟩:=bS h;obtain ⟨M,y,h⟩:=bS h;obtain rfl:=sI h;obtain ⟨w,B,u⟩:=zny C A;have s:=zj6 C z.1;obtain ⟨E,k⟩:=zes e C f;have t:∀l,swapsWith (.DictComp m r #v[2,18] scope pos) (Za (.Name x p)) l X.env=pure Zc:=λl=>by
    have n:X.env.kindOf x=Za .cell:=(C.cel x (by simpa using z.2.2)).1;show (pure (X.env.blockKind==.function&&X.env.kindOf x==Za .local&&p.line==pos.line && !(scope.names.any λ(n,k)=>n == x && (k == .local || k == .cell))):Sem Bool)=pure Zc;rw[n];have:(Za NameKind.cell==Za NameKind.local)=Zc:=rfl;rw[this,Fj,Ee,Ee]
   exact (zzc (ndN C) w B (pe_D E (λc L b a fp=>zn0 (zgl C s c L b a fp) hT) (λc L b a fp F=>pm_D (e _ _ d (zgl C s c L b a fp) _ _ o) (e _ _ d (zgl C s c L b a fp) _ _ y)) C.calm s.kind s.cap s.fr s.nc s.nm k) (t _) u).wk λD σ H q=>ztg (zg0 q)
  ·exact noSome h
 ·exact noSome h
noncomputable def extS (fE:Sx->Zi->Option GE) (S:Sx) (st:Stmt):Option GS:=zj2 fE S st
theorem z89 (H:zb8 fE)(C:CxOk X S d):zli (extS fE S) X S:=zol H C
end
noncomputable def zdz (mp:List Nat) (i:Nat):GS:=λe=>match e[i]? with
 |some (#v[w,5])=>if mp.contains i then Zb else Za (e.set i Zb,.ret (w,Zd))
 |some (#v[w,6])=>Za (e,.ret (w,Zc))
 |_=>Zb
theorem zz2 {K:Zg}(h:tS K mp (zdz mp i) D σ H):tRet (tVar i) D σ H:=by
 obtain⟨F,p,d,c,fl,R,h,q⟩:=h;unfold zdz at h;split at h
 ·rename_i w e;split at h
  ·exact noSome h
  ·cases h;obtain⟨v,a,b,z⟩:=R.drop e;exact⟨v,a,q F σ H v (.refl F) b (.refl _ _) z⟩
 ·rename_i w e;cases h;obtain⟨v,a,z⟩:=R.val i w e;exact⟨v,a,q F σ H v (.refl F) R (.refl _ _) z⟩
 ·exact noSome h
noncomputable def z2p (f:Sx->Stmt->Option GS):Prop:=∀X S d,CxOk X S d->∀s g,f S s=Za g->PS X s (tS X.K S.mp g)
noncomputable def blk (f:Sx->Stmt->Option GS) (S:Sx):List Stmt->Option GS
 |[]=>Za zbp
 | c::s=>match s with
  |[]=>f S c
  |_::_=>(f S c).bind λa=>(blk f S s).bind λb=>Za (gSeq a b)
noncomputable def zkv (S:Sx) (x:Str) (p:Pos) (scope:Scope) (pos:Pos):Bool:=S.kd.lookup x==Za .local&&p.line==pos.line && !(scope.names.any λ(n,k)=>n == x && (k == .local || k == .cell))
noncomputable def zou (S:Sx) (x:Str):Bool:=S.top&&S.kd.lookup x==Za .cell
noncomputable def z1a (S:Sx) (x:Str) (c:Pos) (y:Str) (p:Pos) (a b:Zi):Bool:=S.kd.lookup x==Za .local&&S.kd.lookup y==Za .local&&c.line==p.line && !(x==y) && !(foldedForSure 8 a&&foldedForSure 8 b) && !(constantsAlone 8 a&&constantsAlone 8 b)&&zah a&&zah b
noncomputable def ybg:Zi->Bool
 |.Tuple ..=>Zd
 |_=>Zc
noncomputable def asgE (fE:Sx->Zi->Option GE) (fT:Sx->Zi->Option GT) (S:Sx) (t e:Zi):Option GS:=match t with
 | .Name x p=>(S.wr x).bind λi=>(match e with
  |.ListComp elt gens scope pos=>(zvv fE fT S elt gens scope).bind λg=>if zkv S x p scope pos||zou S x then Za (gSet S.mp i g) else Zb
  |e=>if zhm e then (fE S e).bind λg=>Za (gSet S.mp i g) else Zb)
 | .Tuple c _ _=>(match c,e with
  |[.Name x p,.Name y m],.Tuple [a,b] _ _=>if z1a S x p y m a b then (S.wr x).bind λi=>(S.wr y).bind λj=>(fE S a).bind λf=>(fE S b).bind λd=>Za (gPar S.mp i j f d) else Zb
  |c,e=>if ybg e then Zb else (zht S c).bind λh=>(fE S e).bind λg=>Za (gAsg S.mp (.tp h) g))
 | .Subscript o k _=>(match o with
  |.Name x _=>if zdw k then (S.rd x).bind λi=>(fE S k).bind λl=>(fE S e).bind λg=>Za (zbo i l g) else Zb
  |_=>Zb)
 |_=>Zb
noncomputable def zum (mp:List Nat) (i:Nat) (g:GE):GS:=λe=>match e[i]? with
 |some (#v[_,2])=>z92 mp i g e
 |_=>gAug mp #v[2,17] i (gArg g) e
theorem zz9 {K:Zg}(b:OpS K r #v[2,17])(h:tS K mp (zum mp i g) D σ H):tAug i (tE K g) z7r D σ H\/tAug i (tA K (gArg g)) r D σ H:=by
 obtain⟨F,p,a,e,fl,R,h,q⟩:=h;unfold zum at h;split at h
 ·exact .inl (z0x ⟨F,p,a,e,fl,R,h,q⟩)
 ·exact .inr (zrt b ⟨F,p,a,e,fl,R,h,q⟩)
noncomputable def zrj:Zi->Bool
 |.Constant ..=>Zc
 |_=>Zd
noncomputable def z8t (fS:Sx->Stmt->Option GS) (fE:Sx->Zi->Option GE) (fT:Sx->Zi->Option GT) (S:Sx) (st:Stmt):Option GS:=match st with
 | .Return o _=>(match o with
  |none=>Zb
  | some e=>(match e with
   |.Name x _=>(S.rd x).bind λi=>Za (zdz S.mp i)
   |e=>(fE S e).bind λg=>Za (gRet g)))
 |.If c a b _=>(fT S c).bind λt=>(blk fS S a).bind λx=>(blk fS S b).bind λy=>Za (gIfS t x y)
 | .For d l body f _=>(match f with
  |[]=>(zmh fE S d l).bind λk=>(tgE S d).bind λT=>(blk fS S body).bind λg=>Za (gFor S.mp T k g)
  |_=>Zb)
 |.Pass _=>Za zbp
 |.Expr e _=>if zhm e then (fE S e).bind λg=>Za (zgk g) else Zb
 | .Assign j e _=>(match j with
  |[d]=>asgE fE fT S d e
  |_=>Zb)
 | .AugAssign d h e _=>(match d with
  |.Name x _=>if h==.Add&&zrj e then (S.wr x).bind λi=>(fE S e).bind λg=>Za (zum S.mp i g) else (S.wr x).bind λi=>(augO h).bind λo=>(za3 fE S e).bind λa=>Za (gAug S.mp o i a)
  |_=>Zb)
 |_=>Zb
section
theorem zmn (HS:z2p fS) (C:CxOk X S d):∀{s:List Stmt}{g:GS},blk fS S s=Za g->PSs X s (tS X.K S.mp g)
 |[],_,h=>by obtain rfl:=sI h;exact ybd.wk λ_ _ _=>zmj
 |[c],_,h=>z69 (HS X S d C _ _ h)
 | c::i::s,_,h=>by
  obtain⟨a,f,h⟩:=bS (show (fS S c).bind _=_ from h);obtain⟨b,e,h⟩:=bS h;obtain rfl:=sI h;exact (z4j (HS X S d C _ _ f) (zmn HS C e)).wk λ_ _ _=>z4w
theorem ygw (C:CxOk X S d)(h:zkv S x px scope pos=Zd):swapsWith #v[7,10] (Za (.Name x px)) l X.env=pure Zd:=by
 unfold zkv at h;rw[Ae,Ae] at h;have a:X.env.kindOf x=Za .local:=C.loc x (by simpa using h.1.1);show (pure (X.env.blockKind==.function&&X.env.kindOf x==Za .local&&px.line==pos.line && !(scope.names.any λ(n,k)=>n == x && (k == .local || k == .cell))):Sem Bool)=pure Zd;rw[C.bk,a,h.1.2,h.2]
 rfl
theorem swNo (C:CxOk X S d)(h:zou S x=Zd):swapsWith #v[7,10] (Za (.Name x px)) l X.env=pure Zc:=by
 unfold zou at h;rw[Ae] at h;have a:X.env.kindOf x=Za .cell:=(C.cel x (by simpa using h.2)).1;show (pure (X.env.blockKind==.function&&X.env.kindOf x==Za .local&&px.line==pos.line && !(scope.names.any λ(n,k)=>n == x && (k == .local || k == .cell))):Sem Bool)=pure Zc;rw[a];have:(Za NameKind.cell==Za NameKind.local)=Zc:=rfl;rw[this,Fj,Ee,Ee]
theorem yfo (C:CxOk X S d)(h:z1a S x px y py a b=Zd):swappedStores [.Tuple [.Name x px,.Name y py] kt pt] (.Tuple [a,b] k2 pt2) X.env=pure (Za [x,y]):=by
 unfold z1a at h;simp only [Ae] at h;nofun;obtain⟨⟨⟨⟨⟨⟨⟨o,j⟩,l⟩,B⟩,f⟩,i⟩,w⟩,m⟩:=h;ac_rfl;have r:X.env.kindOf x=Za .local:=C.loc x (by simpa using o);have k2:X.env.kindOf y=Za .local:=C.loc y (by simpa using j);have t:px.line=py.line:=by simpa using l
 have ne:¬ x=y:=by simpa using B
 have g:∀e,zah e=Zd->(match e with|.Starred ..=>Zd|_=>Zc)=Zc:=λe h=>by cases e<;>first|rfl|(cases h)
 have s:([a,b].any λe=>match e with|.Starred ..=>Zd|_=>Zc)=Zc:=by
  rw[Dd,Dd,List.any_nil,g a w,g b m];rfl
 unfold swappedStores;simp only [Bg,Gi,C.bk,Hi];rw[if_neg #v[0,9]]
 try simp only [Hi]
 refine (if_neg (λz=>Ah (s.symm.trans z))).trans ?_;have nm:List.filterMap (λe=>match e with|.Name id pos=>if (X.env.kindOf id==Za .local&&pos.line==(Option.map (λe=>e.pos.line) ([Zi.Name x px,Zi.Name y py]:List Zi).head?).getD 0)=Zd then Za id else Zb|_=>Zb) ([Zi.Name x px,Zi.Name y py]:List Zi)=[x,y]:=by
  have p:((Zi.Name x px).pos.line)=px.line:=rfl;simp [r,k2,p,t]
 try simp only [Hi]
 generalize A:List.filterMap _ ([Zi.Name x px,Zi.Name y py]:List Zi)=names;have c:names=[x,y]:=A.symm.trans nm;subst c;have D:(y==x)=Zc:=by
  cases q:y==x with
  |false=>rfl
  |true=>exact absurd (Bp q).symm ne
 have k:([x,y]:List Str).eraseDups=[x,y]:=by
  rw[Gf,Do,D];simp only [Gv,Gn,Ei];rw[Gf,Ei,List.eraseDups_nil]
 rw[k,if_neg (by simp)]
 try simp only [Hi]
 have u:¬ (foldedForSure 8 a&&foldedForSure 8 b)=Zd:=λz=>by rw[z] at f;cases f
 have n:¬ (constantsAlone 8 a&&constantsAlone 8 b)=Zd:=λz=>by rw[z] at i;cases i
 rw[if_neg (by simp only [Cb,List.all_nil,Fx];exact u),if_neg (by simp only [Cb,List.all_nil,Fx];exact n)]
theorem z3g (h:ybg e=Zc):swappedStores [.Tuple es kt p] e env=pure Zb:=by
 cases e with
 |Tuple _ _ _=>cases h
 |_=>rfl
theorem zrd:swapsWithSole [.Tuple es kt p] e l env=pure Zc:=by
 cases e<;>rfl
theorem ybf (l:zb8 fE) (HT:znk fT) (C:CxOk X S d) (h:asgE fE fT S A e=Za g):PS X (.Assign [A] e pos) (tS X.K S.mp g):=by
 cases A with
 | Name x v =>
  refine aG λ_ qG=>?_;obtain ⟨i,n,h⟩:=bS (show (S.wr x).bind _=_ from h);obtain ⟨w,L,J⟩:=zny C n;refine qG ?_;clear qG;have f:(if zhm e then (fE S e).bind λg=>Za (gSet S.mp i g) else Zb)=Za g->PS X (.Assign [.Name x v] e pos) (tS X.K S.mp g):=λh=>by
   split at h
   ·rename_i z
    obtain⟨E,m,h⟩:=bS h;obtain rfl:=sI h;exact (zzc (ndN C) w L (l X S d C _ _ m) (zsh z) J).wk λ_ _ _=>zg0
   ·exact noSome h
  cases e with
  | ListComp elt gens scope P =>
   obtain⟨E,m,h⟩:=bS (show (zvv fE fT S elt gens scope).bind _=_ from h);have N:=zh1 l HT C m;split at h
   ·rename_i z
    obtain rfl:=sI h;rw[Co] at z;rcases z with z|z
    ·refine aG λGg qG => ?_
     obtain ⟨A,iter,ifs,gs,gi,T,tc,em,tm,e1,e2,s,pi,pf,pg,pt,pe,rd⟩:=N.ex;refine qG ?_;clear qG;subst e1;exact (z9d (ndN C) w L pi pg pt (pe P) (e2 P) (ygw C z) C.calm s.kind s.cap s.fr s.nc s.nm pf J).wk λD σ H q=>by
      have q':=zg0 q;exact rd _ _ _ q'
    ·exact (zzc (ndN C) w L (zxl C N) (swNo C z) J).wk λ_ _ _=>zg0
   ·exact noSome h
  |_=>exact f h
 | Tuple R t p =>
  have gen:(if ybg e then Zb else (zht S R).bind λO=>(fE S e).bind λg=>Za (gAsg S.mp (.tp O) g))=Za g->PS X (.Assign [.Tuple R t p] e pos) (tS X.K S.mp g):=λh=>by
   split at h
   ·exact noSome h
   ·rename_i z
    nofun;obtain⟨O,M,h⟩:=bS h;obtain⟨E,m,h⟩:=bS h;ac_rfl;obtain rfl:=sI h;obtain⟨a,b,c⟩:=zjl C _ M;exact (z5l (l X S d C _ _ m) (zvb C.calm a b c) zrd (z3g (by simpa using z)) rfl).wk λ_ _ _=>z2l
  unfold asgE at h;simp only at h;split at h
  ·rename_i x v y py a b Q p2
   split at h
   ·rename_i z
    refine aG λ_ qG=>?_;obtain ⟨i,n,h⟩:=bS h;obtain ⟨j,hj,h⟩:=bS h;obtain ⟨ga,K,h⟩:=bS h;obtain ⟨gb,F,h⟩:=bS h;refine qG ?_;clear qG;obtain rfl:=sI h;have I:=yfo (pt:=p) (pt2:=p2) (kt:=t) (k2:=Q) C z;unfold z1a at z;simp only [Ae] at z;refine aG λ_ qG=>?_;obtain ⟨⟨⟨⟨⟨⟨⟨h1,Z⟩,h3⟩,h4⟩,h5⟩,h6⟩,h7⟩,h8⟩:=z;obtain ⟨Y,_,_⟩:=zny C n;obtain ⟨B,_,_⟩:=zny C hj;refine qG ?_;clear qG;have ne:i≠j:=λe=>by
     subst e;rw[Y] at B;obtain rfl:=sI B;simp at h4
    exact (yfr C.calm (ndN C) Y B ne (C.loc x (by simpa using h1)) (C.loc y (by simpa using Z)) (pac (l X S d C _ _ K) (pac (l X S d C _ _ F) zfn h8) h7) I zrd).wk λ_ _ _=>z02
   ·exact noSome h
  ·exact gen h
 | Subscript o k p =>
  cases o with
  | Name x v =>
   have u:(if zdw k then (S.rd x).bind λi=>(fE S k).bind λU=>(fE S e).bind λg=>Za (zbo i U g) else Zb)=Za g:=h;split at u
   ·rename_i z
    nofun;obtain⟨i,n,h⟩:=bS u;obtain⟨U,r,h⟩:=bS h;obtain⟨E,m,h⟩:=bS h;ac_rfl;obtain rfl:=sI h;exact (z5l (l X S d C _ _ m) (ydw (zz4 C n) (l X S d C _ _ r) z3f (zs4 z)) z4i ydc rfl).wk λ_ _ _=>zt2
   ·exact noSome u
  |_=>exact noSome h
 |_=>exact noSome h
theorem z05 (HS:z2p fS) (j:zb8 fE) (HT:znk fT):z2p (z8t fS fE fT):=λX S d C st g h=>by
 have pn:PassesOwn #v[2,7] X.A X.env X.xe:=by rw[C.xe];exact PassesOwn.never
 cases st with
 | Return o p =>
  cases o with
  |none=>cases h
  | some e =>
   have gen:((fE S e).bind λg=>Za (gRet g))=Za g->PS X (.Return (Za e) p) (tS X.K S.mp g):=λh=>by
    obtain⟨J,k,h⟩:=bS h;obtain rfl:=sI h;exact (z6b (j X S d C _ _ k)).wk λ_ _ _=>z35
   cases e with
   | Name x U =>
    obtain⟨i,l,h⟩:=bS (show (S.rd x).bind _=_ from h);obtain rfl:=sI h;exact (z6b (zz4 C l)).wk λ_ _ _=>zz2
   |_=>exact gen h
 | If c a b p =>
  obtain⟨t,P,h⟩:=bS (show (fT S c).bind _=_ from h);obtain⟨x,N,h⟩:=bS h;obtain⟨y,Q,h⟩:=bS h;obtain rfl:=sI h;exact (ygj (HT X S d C _ _ P) (zmn HS C N) (zmn HS C Q)).wk λ_ _ _=>z26
 | For m Y body B p =>
  cases B with
  |cons _ _=>exact noSome h
  | nil =>
   obtain⟨gi,E,h⟩:=bS (show (zmh fE S m Y).bind _=_ from h);obtain⟨T,hT,h⟩:=bS h;obtain⟨gb,L,h⟩:=bS h;obtain rfl:=sI h;obtain⟨pi,O⟩:=zes j C E;exact (yca pn C.calm pi (zn0 C hT) (zmn HS C L) O).wk λ_ _ _=>z3t
 |Pass p=>obtain rfl:=sI h;exact yaf.wk λ_ _ _=>zmj
 | Expr e p =>
  have f:(if zhm e then (fE S e).bind λg=>Za (zgk g) else Zb)=Za g:=h;split at f
  ·rename_i z
   obtain⟨J,k,h⟩:=bS f;obtain rfl:=sI h;exact (yag (j X S d C _ _ k) (zsh z)).wk λ_ _ _=>zvx
  ·exact noSome f
 | Assign Z e p =>
  match Z,h with
  |[m],h=>exact ybf j HT C h
  |[],h=>exact noSome h
  |_::_::_,h=>exact noSome h
 | AugAssign m A e p =>
  cases m with
  | Name x U =>
   have f:(if (A==.Add&&zrj e)=Zd then (S.wr x).bind λi=>(fE S e).bind λg=>Za (zum S.mp i g) else (S.wr x).bind λi=>(augO A).bind λo=>(za3 fE S e).bind λa=>Za (gAug S.mp o i a))=Za g:=h;split at f
   ·rename_i z
    rw[Ae] at z;have M:A=.Add:=by simpa using z.1
    subst M;obtain⟨i,l,h⟩:=bS f;obtain⟨J,k,h⟩:=bS h;obtain rfl:=sI h;obtain⟨w,u,n⟩:=zny C l;have F:=j X S d C _ _ k;intro pins s σ H D I q;rcases zz9 (zci λ_ _ _=>.int _) q with q|q
    ·exact z0h (ndN C) w u F ybn n pins s σ H D I q
    ·exact z0h (ndN C) w u (F.wk λ_ _ _=>zgy) zwz n pins s σ H D I q
   ·obtain ⟨i,l,h⟩:=bS f
    obtain⟨o,ho,h⟩:=bS h;obtain⟨a,ha,h⟩:=bS h;obtain rfl:=sI h;obtain⟨w,u,n⟩:=zny C l;obtain⟨r,R,K⟩:=z88 (X:=X) ho;exact (z0h (ndN C) w u (zag j C ha) R n).wk λ_ _ _=>zrt K
  |_=>exact noSome h
 |_=>exact noSome h
end
noncomputable def zq3:GS:=λ_=>Zb
noncomputable def zvk:Nat->Sx->Stmt->Option GS
 |0,_,_=>Za zq3
 |n+1,S,s=>Za ((orS (extS (compE n) S s) (z8t (zvk n) (compE n) (compT n) S s)).getD zq3)
theorem zql {st:Stmt}:PS X st (tS X.K mp zq3):=λ_ _ _ _ _ _ q=>by obtain⟨_,_,_,_,_,_,h,_⟩:=q;exact noSome h
theorem zjg:∀n,z2p (zvk n)
 |0=>λ_ _ _ _ _ _ h=>by obtain rfl:=sI h;exact zql
 | n+1=>λX S d C s g h=>by
  rw[zvk] at h;cases q:orS (extS (compE n) S s) (z8t (zvk n) (compE n) (compT n) S s) with
  |none=>rw[q] at h;obtain rfl:=sI h;exact zql
  |some a=>rw[q] at h;obtain rfl:=sI h;exact yew (z89 (zf9 n).1 C) (z05 (zjg n) (zf9 n).1 (zf9 n).2 X S d C) s _ q
structure Fd where
 nm:Str
 ps:List Str
 N:List Str
 m:List Bool
 st:Stmt
noncomputable def deep:Nat:=60
noncomputable def sxOf (T:List Fd) (bn:List Str) (Ψ:Str->Fn) (d:Nat) (t:Fd):Sx:={ N:=t.N,kd:=(za0 t.st).names,bn:=bn,fs:=T.map λu=>(u.nm,(u.m,Ψ u.nm)),mp:=mpOf t.m,top:=Zd,nm:=t.nm,dp:=d }
noncomputable def zai (T:List Fd) (bn:List Str) (Ψ:Str->Fn) (d:Nat) (t:Fd):Option GS:=blk (zvk deep) (sxOf T bn Ψ d t) (zd6 t.st)
noncomputable def fnAt (T:List Fd) (bn:List Str) (Ψ:Str->Fn) (d:Nat) (t:Fd):Fn:=match zai T bn Ψ d t with
 |some g=>zad t.m t.N.length g
 |none=>λ_=>Zb
noncomputable def sem (T:List Fd) (bn:List Str):Nat->Str->Fn
 |0,_=>λ_=>Zb
 | d+1,x=>match T.find? (·.nm==x) with
  |some t=>fnAt T bn (sem T bn d) d t
  |none=>λ_=>Zb
noncomputable def z2h (K:Zg) (x:Str):Bool:=match PySem.W.tabIn K x with
 |some (c,P)=>PySem.W.codeHdIn K c P
 |none=>Zc
theorem Fun.okC {K:Zg}{st:Stmt} (F:Fun K x qual st f fd) (S:FnScope N ps (za0 st)) (len:∀vs H Q E,sp vs H Q E->vs.length=ps.length)
  (a:∀(A:Around) (outer:List Env) (s:Zf) (H:Hp) (vs:List V) (Q:VK) (E:XK),(Room k (A.deeper (envOfC qual (za0 st) s.heap.objs.size f fd.code))/\Room (k+1) A)->sp vs H Q E ->
   ∃t,PSs (cxOf CX0 P w K mg base N qual (za0 st) f fd.code A outer s H E).nox (zd6 st) t/\t { nx:=λ_ H'=>Q .non H',rt:=Q } (start N vs) H):FnOk P w K mg base CX0 (k+1) f fd ps sp:=by
 nofun;obtain⟨o,g,kV,doc,p,i,cdv,e,osl,rfl,l,c⟩:=F.ex;ac_rfl;refine yhu l c S len λA outer s H vs Q E d b=>?_;obtain⟨t,h,q⟩:=a A outer s H vs Q E d b;exact⟨t,h.nox,q⟩
structure FdOk (K:Zg) (mg:Str->Option Ze) (t:Fd):Prop where
 sc:FnScope t.N t.ps (za0 t.st)
 m:t.m.length=t.ps.length
 ex:∃f fd,Fun K t.nm t.nm t.st f fd/\zn7 K fd t.ps []/\mg t.nm=Za (.ref f)
 lam:t.nm∈lams->z2h K t.nm=Zd
theorem zue {T:List Fd}{Ψ:Str->Fn}{x:Str}{m:List Bool}{Φ:Fn} (h:(T.map λu=>(u.nm,(u.m,Ψ u.nm))).lookup x=Za (m,Φ)):∃t∈T,t.nm=x/\t.m=m/\Φ=Ψ x:=by
 induction T with
 |nil=>exact noSome h
 | cons t T i =>
  rw[Ax,Bs] at h;cases q:x==t.nm with
  | true =>
   rw[q] at h;cases h;have:=Bp q;subst this;exact⟨t,An,rfl,rfl,rfl⟩
  | false =>
   rw[q] at h;obtain⟨u,b,a⟩:=i h;exact⟨u,Ai _ b,a⟩
theorem z7m {T:List Fd} (n:(T.map (·.nm)).Nodup) (h:t∈T):T.find? (·.nm==t.nm)=Za t:=by
 induction T with
 |nil=>cases h
 | cons u T i =>
  rw[Ax,Bt] at n;rw[Ey];rcases Ao.mp h with rfl|h
  ·simp
  ·have:(u.nm==t.nm)=Zc:=by
    cases q:u.nm==t.nm with
    |false=>rfl
    |true=>exact absurd (Bd.mpr ⟨t,h,(Bp q).symm⟩) n.1
   rw[this];exact i n.2 h
theorem zyp {P:Program}{w:World}{K:Zg}{a:Str->Option Ze}{base:Heap}{T:List Fd}{bn:List Str} (nd:(T.map (·.nm)).Nodup) (ok:∀t∈T,FdOk K a t) (p:∀x∈bn,a x=Zb) (l:K.In base) (nb:base.Ns mainGlobals a) (i:("g SIGNS" : Str)∈bn->∃t,a "SIGNS" = Za (.str "abcdef" t)) :
  ∀(d:Nat) (t:Fd),t∈T->∀f b,Fun K t.nm t.nm t.st f b->a t.nm=Za (.ref f)->FnOk P w K a base CX0 d f b t.ps (spF K t.m (sem T bn d t.nm))
 |0,t,_,f,b,_,_=>⟨λv H Q E h=>(by obtain⟨_,_,_,_,_,_,_,_,h,_⟩:=h;cases h),λA outer s H args us v Q E j he Y hv h=>(by obtain⟨_,_,_,_,_,_,_,_,h,_⟩:=h;cases h)⟩
 | d+1,t,r,f,b,F,M=>by
  have o:=ok t r;refine F.okC (k:=d) o.sc (λv H Q E h=>(zyk h).trans o.m) (λA outer s H v Q E j h=>?_);have S:sem T bn (d+1) t.nm=fnAt T bn (sem T bn d) d t:=by
   show (match T.find? (·.nm==t.nm) with|some t=>fnAt T bn (sem T bn d) d t|none=>λ_=>Zb)=_;rw[z7m nd r]
  rw[S] at h;unfold fnAt at h;cases e:zai T bn (sem T bn d) d t with
  | none =>
   rw[e] at h;nofun;obtain⟨_,_,_,_,_,_,_,_,h,_⟩:=h;ac_rfl;exact noSome h
  | some g =>
   rw [e] at h;have C:CxOk (cxOf CX0 P w K a base t.N t.nm (za0 t.st) f b.code A outer s H E).nox (sxOf T bn (sem T bn d) d t) d:={
    N:=rfl
    nd:=o.sc.nd
    loc:=λx e=>e
    cel:=λx e=>⟨e,rfl⟩
    vis:=λx e=>e
    gl:=λx e=>e
    calm:=rfl
    xe:=rfl
    bn:=p
    fs:=λx m Φ e=>by
     nofun;obtain⟨u,n,y,L,O⟩:=zue e;ac_rfl;subst y L O;nofun;obtain⟨z,D,I,J,B⟩:=(ok u n).ex;ac_rfl;exact⟨u.ps,(ok u n).m.symm,⟨z,D,zyp nd ok p l nb i d u n z D I B,J,I.kp,B⟩⟩
    room:=j.1
    sl:=by have:=j.2.un;show A.units+3+16*d+205<cLine;symm
    dpo:=Af _
    sg:=i
    lam:=λh=>by
     have q:=o.lam h;unfold z2h at q;split at q
     ·rename_i c X e
      refine⟨c,X,e,q,?_,rfl⟩;nofun;obtain⟨Z,od,kV,doc,pm,an,cdv,ct,osl,y,U,R⟩:=F.ex;ac_rfl;exact PySem.W.law_code l nb e M (l _ _ U) rfl
     ·cases q
    bk:=by
     show (if (za0 t.st).kind.isAnnotationScope then ScopeKind.function else (za0 t.st).kind)=.function;rw[o.sc.kind];rfl }
   exact⟨_,zmn (zjg deep) C e,yar h⟩
theorem ztw {K:Zg}{ns:List Int}(d:Same F H)(t:ztn K F (λ_ _=>False) H)(h:SqL K F a (ns.map V.int))(e:Φ [.frl (ns.map W.int)]=Za (ws',#v[9,8]))(c:ws'.length=1):spF K [Zc] Φ [.ref a] H (λv _=>v=.bl Zd) E:=by
 refine⟨F,λ_ _=>False,_,ws',_,rfl,c,⟨rfl,d,λi w q=>?_,λi w q=>?_,λi j a w f q=>?_,λb o q=>q.elim,t⟩,e,λk g v _ _ z=>?_⟩
 ·cases i with
  |zero=>cases q;exact⟨_,rfl,.frl h (Reps.ofInts ns)⟩
  |succ i=>cases i<;>exact noSome q
 ·cases i with
  |zero=>cases q
  |succ i=>cases i<;>exact noSome q
 ·cases i with
  |zero=>cases q
  |succ i=>cases i<;>exact noSome q
 ·exact z.isBl
noncomputable def tabsOf (K:Zg):List Zh:=lams.filterMap λx=>(PySem.W.tabIn K x).map (·.2)
theorem zky {K:Zg}:b∈tabsOf K↔∃x∈lams,∃c,PySem.W.tabIn K x=Za (c,b):=by
 unfold tabsOf;rw[List.mem_filterMap];constructor
 ·rintro ⟨x,h,e⟩;cases q:PySem.W.tabIn K x with
  |none=>rw[q] at e;exact noSome e
  |some p=>rw[q] at e;obtain rfl:=sI e;exact⟨x,h,p.1,q⟩
 ·rintro ⟨x,h,c,e⟩;exact⟨x,h,by rw[e];rfl⟩
noncomputable def yep (K:Zg) (h:Heap):Prop:=∀x∈lams,∀c P,PySem.W.tabIn K x=Za (c,P)->PySem.W.CodeHd h c P/\h.get? P=Za (PySem.W.tabObj #[])
structure Start (K:Zg) (F H:Hp):Prop where
 sub:Same F H
 tb:ztn K F (λ_ _=>False) H
theorem zyj {K:Zg}
  (KX:K.In s₁.heap) (nt:PySem.W.noTabs K=Zd) (nd:z93 K) (hT:yep K s₁.heap) (Q:s₁.heap.Ns mainGlobals mg) (Y:s₁.heap.Ns builtinsNs mb) (hbb:∀x:Str,x≠"__name__" -> mb x=bootBuiltins x) (O:s₁.heap.NoLimit) (Z:∃(b:Zh) (A:Obj),mg "__builtins__" = Za (.ref b)/\b≠builtinsNs/\s₁.heap.get? b=Za A/\A.cls=.type "module"/\A.dict=Za builtinsNs/\A.data=.plain) (hg:s₁.gens=#[])
  (E:s₁.heap.get? a=Za { cls:=.type "list",data:=.seq vs.toArray }) (hi:IntsAre vs ns) (hl:ns.length<=sizeLine) (hr:Room k callerA)
  (Fk:∀base:Heap,K.In base->base.Ns mainGlobals mg->FnOk P w K mg base CX k fa fd [x] sp) (B:∀(s:Zf) (u:Ze),BindsTo s fd ⟨[u],[]⟩ [(x,u)])
  (hsp:∀F H:Hp,Start K F H->SqL K F a (ns.map V.int)->sp [.ref a] H (λv _=>v=.bl Zd) λ_ _ _=>False)
  (hCX:∀H e s',CX [] H s₁ (λ_ _ _=>False) e s'->False) :
  codeAny (model P w) callerA (.call (.ref fa) ⟨[.ref a],[]⟩) (λr s'=>r=.ok (.ret (.bool Zd))/\OldK s₁.heap s'.heap/\s'.os=s₁.os/\AllBare s'.gens) s₁:=by
 have rv:=znv hi;have N:=hi.length;have t:∀b∈tabsOf K,s₁.heap.get? b=Za (PySem.W.tabObj #[]):=λb h=>by
  nofun;obtain⟨x,I,c,e⟩:=zky.mp h;refine qG ?_;exact (hT x I c b e).2
 have na:a ∉ tabsOf K:=λh=>by
  have:=t a h;rw[E] at this;cases this
 have l:∀F H:Hp,(∀b,H b=Zb\/(b∈tabsOf K/\H b=Za (.tbl #[])/\F b=Zb)\/(b=a/\K.lookup a=Zb/\F b=H b/\∃o xs,H b=Za (.frz o (.lst xs))))->(∀b,H b=Zb->F b=Zb)->(∀b∈tabsOf K,H b=Za (.tbl #[]))->SqL K F a (ns.map V.int)->HOk P w H s₁.heap ->
   codeAny (model P w) callerA (.call (.ref fa) ⟨[.ref a],[]⟩) (λr s'=>r=.ok (.ret (.bool Zd))/\OldK s₁.heap s'.heap/\s'.os=s₁.os/\AllBare s'.gens) s₁:=by
  intro F H C hF hB hS M;have f:∀{b:Zh}{o:Obj},s₁.heap.get? b=Za o->H b=Zb->(hidT s₁.heap H).get? b=Za o:=λe n=>z4c e n;have noA:∀{b:Zh}{o:Obj}{U:Array DictEntry}{S:Nat},s₁.heap.get? b=Za o->o.data=.dict U S->H b=Zb:=λ{b o U S} e d=>by
   rcases C b with z|⟨z,_⟩|⟨z,_⟩
   ·exact z
   ·rw[t b z] at e;obtain rfl:=sI e;cases d
   ·subst z
    rw[E] at e;obtain rfl:=sI e;have d':=d;cases d'
  have i:∀{b:Zh}{m:Str->Option Ze},s₁.heap.Ns b m->(hidT s₁.heap H).Ns b m:=λ{b m} ⟨o,U,S,e,d,r⟩=>⟨o,U,S,f e (noA e d),d,r⟩;have R:K.In (hidT s₁.heap H):=λb o e=>f (KX b o e) (by
   rcases C b with z|⟨z,_⟩|⟨z,n,_⟩
   ·exact z
   ·have D:=KX b o e
    rw[t b z] at D;obtain rfl:=sI D;have:=Bi.mp nt (b,_) (PySem.W.mem_of_lookupK e);exact absurd (show Zc=Zd from this) Ah
   ·subst z
    rw[n] at e;cases e)
  have hM:Mod K mg (hidT s₁.heap H):=⟨R,i Q,⟨mb,i Y,hbb⟩,let ⟨mc,h1,h2⟩:=O;⟨mc,i h1,h2⟩,by
   nofun;obtain⟨b,A,b1,b2,L,X,b5,b6⟩:=Z;refine qG ?_;refine⟨b,A,b1,b2,f L ?_,X,b5,b6⟩;rcases C b with z|⟨z,_⟩|⟨z,_⟩
   ·exact z
   ·rw[t b z] at L;obtain rfl:=sI L;cases X
   ·subst z;rw[E] at L;obtain rfl:=sI L;exact absurd X (by simp)⟩
  have e0:Env0 P w K mg (hidT s₁.heap H) callerA [] s₁ H:=⟨rfl,hM,λb o e=>z7u e,Nat.le_of_eq (zzu _ _),trivial,λb Y=>absurd (show b∈([]:List Zh) from Y) (by simp),M,.of_eq hg⟩;have st:Start K F H:=⟨λb o e=>by
   rcases C b with z|⟨_,_,z⟩|⟨_,_,z,_⟩
   ·rw[hF b z] at e;cases e
   ·rw[z] at e;cases e
   ·rw[<-z];exact e,⟨⟨nd,λ_ _ z=>z⟩,λx I c Pt e=>by
   have hm:=zky.mpr ⟨x,I,c,e⟩;refine⟨#[],hB Pt hm,?_,λ_ z=>z,trivial,λpos cv q=>by cases q⟩;rcases C Pt with z|⟨_,_,z⟩|⟨z,_⟩
   ·exact hF Pt z
   ·exact z
   ·subst z;exact absurd hm na⟩⟩
  refine codeAny_mono ((Fk _ R (i Q)).run callerA [] s₁ H ⟨[.ref a],[]⟩ [.ref a] [.ref a] _ _ hr e0 (B s₁ (.ref a)) (.cons rfl .nil) (hsp F H st hS)) λr s' h=>?_;cases r with
  |error e=>exact (hCX H e s' h).elim
  | ok fl =>
   cases fl with
   |next=>exact False.elim h
   |brk=>exact False.elim h
   |cont=>exact False.elim h
   | ret u =>
    nofun;obtain⟨v,H',os,bare,un,p,r',q⟩:=h;refine qG ?_;have q':=q;subst q';obtain rfl:u=Ze.bool Zd:=r';refine⟨rfl,⟨λb o e=>?_,λb o e=>un.there b o e (by simp)⟩,os,bare⟩;rcases C b with z|⟨z,z1,_⟩|⟨_,_,_,A,xs,z⟩
    ·exact .inl (un.keep b o e z (by intro y;exact absurd (show b∈([]:List Zh) from y) (by simp)) (by simp))
    ·refine aG λGg qG => ?_
     obtain⟨x,I,c,ex⟩:=zky.mp z;obtain⟨t1,t2⟩:=hT x I c b ex;refine qG ?_;rw[e] at t2;obtain rfl:=sI t2;obtain⟨more,D⟩:=un.tbls b #[] z1;exact .inr (.inl ⟨(t1.tab e).isCodeTable,rfl,#[],more,rfl,p b _ D⟩)
    ·have z2:=un.frzs b A _ z
     obtain⟨e1,_⟩:=M b _ z;obtain⟨D,_⟩:=p b _ z2;rw[e] at e1;obtain rfl:=sI e1;exact .inl D
 have J:∀b,b∈tabsOf K->∀H,zbn P w H s₁.heap b (.tbl #[]):=λb h H=>t b h;cases hk:K.lookup a with
 | some o =>
  have e:=KX a o hk;rw[E] at e;obtain rfl:=sI e;refine l (λ_=>Zb) (λb=>if b∈tabsOf K then Za (.tbl #[]) else Zb) (λb=>?_) (λ_ _=>rfl) (λb h=>if_pos h) (.inr ⟨_,vs.toArray,_,hk,rfl,rfl,rfl,by rw[Am,N];exact hl,by simpa using rv⟩) (λb u z=>?_)
  ·by_cases h:b∈tabsOf K
   ·exact .inr (.inl ⟨h,if_pos h,rfl⟩)
   ·exact .inl (if_neg h)
  ·by_cases h:b∈tabsOf K
   ·have j:=(if_pos h).symm.trans z
    obtain rfl:=sI j;exact J b h _
   ·have j:=(if_neg h).symm.trans z
    cases j
 | none =>
  refine l (λb=>if b=a then Za (.frz { cls:=.type "list",data:=.seq vs.toArray } (.lst (ns.map V.int))) else Zb) (λb=>if b=a then Za (.frz { cls:=.type "list",data:=.seq vs.toArray } (.lst (ns.map V.int))) else if b∈tabsOf K then Za (.tbl #[]) else Zb) (λb=>?_) (λb z=>?_) (λb h=>?_) (.inl (.inr ⟨{ cls:=.type "list",data:=.seq vs.toArray },if_pos rfl⟩)) (λb u z=>?_)
  ·by_cases g:b=a
   ·exact .inr (.inr ⟨g,hk,by simp only [if_pos g],_,_,if_pos g⟩)
   ·by_cases h:b∈tabsOf K
    ·exact .inr (.inl ⟨h,by simp only [if_neg g,if_pos h],if_neg g⟩)
    ·exact .inl (by simp only [if_neg g,if_neg h])
  ·by_cases g:b=a
   ·simp only [if_pos g] at z;cases z
   ·exact if_neg g
  ·have g:b≠a:=λz=>by subst z;exact na h
   simp only [if_neg g,if_pos h]
  ·by_cases g:b=a
   ·have j:Za (HO.frz { cls:=.type "list", data:=.seq vs.toArray } (.lst (ns.map V.int)))=Za u:=by simpa only [if_pos g] using z
    obtain rfl:=sI j;subst g;exact⟨E,by rw[Ac];exact hl,vs,_,rv,E⟩
   ·by_cases h:b∈tabsOf K
    ·have j:Za (HO.tbl #[])=Za u:=by simpa only [if_neg g,if_pos h] using z
     obtain rfl:=sI j;exact J b h _
    ·have j:(Zb:Option HO)=Za u:=by simpa only [if_neg g,if_neg h] using z
     cases j
noncomputable def zxi (K:Zg):Bool:=lams.all λx=>lams.all λa=>match PySem.W.tabIn K x,PySem.W.tabIn K a with
 |some p,Za b=>x==a || !(p.2==b.2)
 |_,_=>Zd
theorem z2u {K:Zg}(h:zxi K=Zd):z93 K:=λx f b a c g P e d=>by
 have:=Bi.mp (Bi.mp h x f) b a;rw[e,d] at this;simpa using this
theorem walk_ofT {l:PySem.W.OpenLaw}{n k:Nat}{q:Program}{i:List Str}{X:(Str->Option Ze)->Heap->Prop}{E:World->Heap->Prop}{d:DefRec}{K:Params->Zg}{CX:World->CXT}{sp:World->Sp}{x:Str}
  (R:l.most=Za n) (y:n<=sizeLine) (z:d.params.defaults=[]) (L:Room k callerA)
  (Q:∀(w:World) (h:Heap),E w h->(K w.params).In h)
  (nt:∀w:World,PySem.W.noTabs (K w.params)=Zd) (J:∀w:World,zxi (K w.params)=Zd) (hrec:∀(w:World),∀x∈lams,∀c P,PySem.W.tabIn (K w.params) x=Za (c,P)->∃d,(recsOf q).find? (λe=>e.name==x)=Za d)
  (F:∀(w:World) (m:Str->Option Ze) (p:Zh) (h:Heap),(K w.params).In h->h.Ns mainGlobals m->m d.name=Za (.ref p) ->
   ∃A:FuncData,(∀(s:Zf) (u:Ze),BindsTo s A ⟨[u],[]⟩ [(x,u)]) /\
    ∀base:Heap,(K w.params).In base->base.Ns mainGlobals m->FnOk l.prog w (K w.params) m base (CX w) k p A [x] (sp w))
  (r:∀(w:World) (F H:Hp) (a:Zh) (ns:List Int),ns.length<=n->Start (K w.params) F H->SqL (K w.params) F a (ns.map V.int)->sp w [.ref a] H (λv _=>v=.bl Zd) λ_ _ _=>False)
  (t:∀(w:World) (H:Hp) (s:Zf) (e:Ze) (s':Zf),CX w [] H s (λ_ _ _=>False) e s'->False) :
  PySem.W.WalkO q i X E l.row.toRowW d [] (λf vs=>PySem.call f vs):=by
 refine Att.attach_call R z λw s₀ s₁ m mb p o pm cd doc a vs ns G Y ho D U B j g b S=>?_;have C:=Q w _ Y;obtain⟨A,I,N⟩:=F w m p _ C G.T.g B;refine zyj C (nt w) (z2u (J w)) (λx M c Pt e=>?_) G.T.g G.T.b G.T.builtins G.T.nolimit G.T.bmain S j g (Cm b y) L N I (λF H O Z=>r w F H a ns b O Z) λH e s'=>t w H s₁ e s';obtain⟨d,D⟩:=hrec w x M c Pt e;exact PySem.W.tab_of G.T C D e
theorem z0w (i j:Int):oAdd (.int i) (.int j)=#v[(i+j),0]:=rfl
theorem z0j (h:cMul i j=Zd):oMult (.int i) (.int j)=#v[(i*j),0]:=by
 show (match (if cMul i j then #v[W.int (i*j),6] else Zb) with|some p=>Za p|none=>_)=_;rw[if_pos h]
theorem oMult_l (h:-(2^64)<i)(a:i<2^64):oMult (.int i) (.int j)=#v[(i*j),0]:=z0j (by
 unfold cMul;rw[Co,Ae];exact .inl ⟨Ag h,Ag a⟩)
theorem zox (h:-(2^64)<j)(a:j<2^64):oMult (.int i) (.int j)=#v[(i*j),0]:=z0j (by
 unfold cMul;rw[Co,Ae,Ae];exact .inr ⟨Ag h,Ag a⟩)
theorem zyw (a:Builtin.Int.intBits i<=2^20)(b:Builtin.Int.intBits j<=2^20):oMult (.int i) (.int j)=#v[(i*j),0]:=by
 have h:zth i j=Zd:=by
  unfold zth;rw[Ae];exact⟨Ag a,Ag b⟩
 show (match (if cMul i j then #v[W.int (i*j),6] else Zb) with|some p=>Za p|none=>(match (if zth i j then #v[W.int (i*j),6] else Zb) with|some p=>Za p|none=>_))=_;split<;>simp_all
theorem zxk (h:-(2^63)<=k/\k<2^63/\xs.length*k.toNat<=sizeLine):oMult (.lst xs) (.int k)=#v[(List.replicate k.toNat xs).flatten,2]:=by
 show (if -(2^63)<=k/\k<2^63/\xs.length*k.toNat<=sizeLine then Za (W.lst (List.replicate k.toNat xs).flatten,Zd) else Zb)=_;rw[if_pos h]
theorem zjz (h:xs.length+ys.length<=sizeLine):oAdd (.lst xs) (.lst ys)=#v[(xs++ys),2]:=by
 show (match (if xs.length+ys.length<=sizeLine then #v[W.lst (xs++ys),5] else Zb) with|some p=>Za p|none=>_)=_;rw[if_pos h]
theorem yeg (b:0<j)(h:j<2^200):cDiv i j=Zd:=by
 unfold cDiv;rw[Ae];refine⟨Ag b,Ag ?_⟩;have c:j.natAbs≠0:=by symm
 have a:j.natAbs<2^200:=by
  have:((j.natAbs:Nat):Int)<((2^200:Nat):Int):=by
   have e:((j.natAbs:Nat):Int)=j:=by symm
   rw[e];exact h
  exact Int.ofNat_lt.mp this
 exact Aw ((Nat.log2_lt c).mpr a) #v[0,9]
theorem zso (a:0<j)(h:j<18446744073709551617):cDiv i j=Zd:=yeg a (Hq h #v[0,9])
theorem zl5 (a:0<=j)(h:j<=1000000)(b:i.natAbs<2^64):cPow i j=Zd:=by
 unfold cPow;rw[Ae,Ae];exact⟨⟨Ag a,Ag h⟩,Ag b⟩
theorem zsi (P:Nat->En->Prop):∀(ws:List W) (k:Nat) (en:En),P k en->(∀i w e,ws[i]?=Za w->P (k+i) e->∃e1 a,tgSet mp T w e=Za e1/\(body e1=Za (a,.nx)\/body e1=Za (a,.cnt))/\P (k+i+1) a) ->
  ∃en',zml mp T body ws en=Za (en',.nx)/\P (k+ws.length) en'
 |[],k,en,b,_=>⟨en,rfl,b⟩
 | w::ws,k,en,b,c=>by
  refine aG λ_ qG=>?_;obtain ⟨e1,a,j,h,d⟩:=c 0 w en rfl b;refine qG ?_;obtain ⟨en',g,f⟩:=zsi P ws (k+1) a d λi u e m l=>by
   have:=c (i+1) u e (by simpa using m) (by rw[show k+(i+1)=k+1+i by symm];exact l);rw[show k+(i+1)+1=k+1+i+1 by symm] at this;exact this
  refine⟨en',?_,by rw[show k+(w::ws).length=k+1+ws.length by rw[Bg];symm];exact f⟩;show (tgSet mp T w en).bind _=_;rw[j];show (match body e1 with|some (a,.nx)=>zml mp T body ws a|some (a,.cnt)=>zml mp T body ws a|some (a,.brk)=>Za (a,.nx)|some (a,.ret r)=>Za (a,.ret r)|none=>Zb)=_;rcases h with h|h<;>(rw[h];exact g)
theorem zbv (P:Nat->En->Prop) (d:it en=Za (e0,ws)) (j:P 0 e0) (g:∀i w e,ws[i]?=Za w->P i e->∃e1 a,tgSet mp T w e=Za e1/\(body e1=Za (a,.nx)\/body e1=Za (a,.cnt))/\P (i+1) a) :
  ∃en',gFor mp T it body en=Za (en',.nx)/\P ws.length en':=by
 obtain⟨en',f,h⟩:=zsi P ws 0 e0 j λi w e c b=>by
  rw[Dv] at b ⊢;exact g i w e c b
 refine⟨en',?_,by rw[Dv] at h;exact h⟩;unfold gFor;rw[d];exact f
theorem znq (P:Nat->En->List W->Prop):∀(ws:List W) (k:Nat) (j:En) (g:List W),P k j g ->
  (∀i w c g,ws[i]?=Za w->P (k+i) c g->∃l,tgSet mp T w c=Za l/\((∃b e r,tc l=#v[b,5]/\te b=Za (e,r)/\P (k+i+1) e (g++[r.1]))\/∃b,tc l=#v[b,6]/\P (k+i+1) b g)) ->
  ∃a rest,zil mp T tc te ws j=Za (a,rest)/\P (k+ws.length) a (g++rest)
 |[],k,j,g,n,_=>⟨j,[],rfl,by rw[Bu];exact n⟩
 | w::ws,k,j,g,n,y=>by
  obtain ⟨l,x,A⟩:=y 0 w j g rfl n;have next:∀e f,P (k+1) e f->∃a rest,zil mp T tc te ws e=Za (a,rest)/\P (k+1+ws.length) a (f++rest):=λe f h=>znq P ws (k+1) e f h λi u c d C B=>by
   have:=y (i+1) u c d (by simpa using C) (by rw[show k+(i+1)=k+1+i by symm];exact B);rw[show k+(i+1)+1=k+1+i+1 by symm] at this;exact this
  have z:k+(w::ws).length=k+1+ws.length:=by rw[Bg];symm
  rcases A with⟨b,e,r,o,D,s⟩|⟨b,o,s⟩
  ·obtain ⟨a, rest,t,m⟩:=next e _ s
   refine⟨a,r.1::rest,?_,by rw[z];rw[Bf] at m;exact m⟩;show (tgSet mp T w j).bind _=_;rw[x];show (match tc l with|#v[b,5]=>(te b).bind λp=>(zil mp T tc te ws p.1).bind λq=>Za (q.1,p.2.1::q.2)|#v[b,6]=>zil mp T tc te ws b|none=>Zb)=_;rw[o];show (te b).bind _=_;rw[D];show (zil mp T tc te ws e).bind _=_;rw[t]
   rfl
  ·obtain ⟨a, rest,t,m⟩:=next b _ s
   refine⟨a,rest,?_,by rw[z];exact m⟩;show (tgSet mp T w j).bind _=_;rw[x];show (match tc l with|#v[b,5]=>(te b).bind λp=>(zil mp T tc te ws p.1).bind λq=>Za (q.1,p.2.1::q.2)|#v[b,6]=>zil mp T tc te ws b|none=>Zb)=_;rw[o];exact t
theorem zee (P:Nat->En->List W->Prop) (k:it en=Za (e0,ws)) (p:zc1 cap=Zd) (l:ws.length<=sizeLine) (o:P 0 (ze8 cap e0) [])
  (n:∀i w c d,ws[i]?=Za w->P i c d->∃e,tgSet (capKeep cap) T w c=Za e/\((∃b f r,tc e=#v[b,5]/\te b=Za (f,r)/\P (i+1) f (d++[r.1]))\/∃b,tc e=#v[b,6]/\P (i+1) b d)) :
  ∃a out,zbl cap T it tc te en=Za (za4 cap e0 a,(.lst out,Zd))/\P ws.length a out:=by
 obtain⟨a,rest,m,h⟩:=znq P ws 0 (ze8 cap e0) [] o λi w c d j g=>by
  rw[Dv] at g ⊢;exact n i w c d j g
 refine⟨a,rest,?_,by rw[Dv] at h;exact h⟩;unfold zbl;rw[k];show (if zc1 cap&&decide (ws.length<=sizeLine) then _ else Zb)=_;rw[if_pos (by rw[p,Ag l];rfl),m]
 rfl
theorem zb3 {l:Int} (h:(rngW l n)[i]?=Za w):i<n/\w=.int (l+i):=by
 unfold rngW at h;rw[Ak] at h;cases q:(List.range n)[i]? with
 |none=>rw[q] at h;exact noSome h
 | some k =>
  rw[q] at h;obtain⟨a,e⟩:=Ap.mp q;rw[Be] at a;rw[List.getElem_range] at e;subst e;exact⟨a,(sI h).symm⟩
theorem zcc (l:Int)(n:Nat):(rngW l n).length=n:=by unfold rngW;rw[Ac,Be]
theorem zbk {i:Nat}{x:W}(h:xs[i]?=Za x):atI xs (i:Int)=Za x:=z7f h
theorem z0l:zc0 [] [] en=Za []:=rfl
theorem zy9:zc0 (Zd::m) (x::ws) (#v[w,5]::en)=(zc0 m ws en).bind λr=>Za (w::r):=rfl
theorem z0q:zc0 (Zc::m) (w::ws) (o::en)=(zc0 m ws en).bind λr=>Za (w::r):=rfl
noncomputable def HS (k:Nat) (w:W):Prop:=∃a b c:Int,w=.lst [.int a,.int b,.int c]/\0<=a/\0<=b/\b<MM/\0<=c/\c<=k
theorem HS.mono (h:HS k w)(l:k<=k'):HS k' w:=by
 obtain⟨a,b,c,e,g,d,f,i,j⟩:=h;exact⟨a,b,c,e,g,d,f,i,by symm⟩
noncomputable def zgr (Φ:Fn):Prop:=∀(k:Nat) (a:W) (n:Int),HS k a->k<big->0<n->n<1073741824->∃s r,Φ [a,.int n]=Za ([s,.int n],(.int r,Zc))/\HS (k+1) s/\0<=r/\r<n
noncomputable def zzy (Ψ:Str->Fn):GS:=(gSeq (gIfS (zaj (gOp2 #v[3,11] #v[2,11] #v[0])) (gSeq (gSet [0] 2 (gOp2 #v[0,0,2] #v[2,11] (zaa 1))) (gSeq (zbo 0 (gC (.int 0)) (gOp2 #v[0,0,3] #v[2,11] (zaa 1))) (zdz [0] 2))) zbp) (gSeq (zbo 0 (gC (.int 2)) (gOp2 oAdd #v[5,15] #v[1])) (gSeq (gSet [0] 3 (gOp2 #v[0,0,2] (gArg (gOp2 oMult (gArg (gOp2 oAdd (gArg (gOp2 oAdd (gArg (gOp2 oIx (zaa 0) #v[1])) (gArg (gOp2 oMult (gArg (gOp2 oMult #v[65537] #v[5,15])) #v[5,15])))) #v[11])) #v[48271])) #v[2305843009213693921])) (gSeq (gSet [0] 3 (gOp2 #v[0,0,2] (gArg (gOp2 oMult (zaa 3) (gArg (gOp2 oAdd (gArg (gOp2 #v[0,0,2] (zaa 3) #v[1000003])) (gArg (gOp2 oMult #v[99991] #v[5,15])))))) #v[2305843009213693907])) (gRet (gOp2 #v[0,0,2] (gArg (gOp2 oAdd (gArg (gOp2 #v[0,0,3] (zaa 3) #v[97])) (gArg (gOp2 #v[0,0,3] (zaa 3) #v[1000033])))) (zaa 1)))))))
theorem ybo (Ψ:Str->Fn):zgr (zad [Zd,Zc] 4 (zzy Ψ)):=by
 rintro k z n ⟨a,b,c,rfl,e,f,h,p,A⟩ t d y;have w:(k:Int)<1099511627776:=by have:k<1099511627776:=t;symm
 by_cases j:0<a
 ·refine⟨.lst [.int (a/n),.int b,.int c],a%n, ?_,⟨_,_,_,rfl,Int.ediv_nonneg e #v[],f,h,p,by symm⟩,Hh _ #v[],Hr _ d⟩;have o:cDiv a n=Zd:=zso d #v[];simp [zad,zzy,zbj,gSeq,gIfS,zaj,gOp2,gArg,zaa,gC,resA,oI,yes2,oIx,seqW,atI,ixN,gSet,zbo,zdz,z0l,zy9,z0q,j,d,o]
 ·have q:oMult (.int 65537) (.int (c+1))=Za (.int (65537*(c+1)),Zc):=oMult_l #v[0,9] #v[0,9];have u:oMult (.int (65537*(c+1))) (.int (c+1))=#v[(65537*(c+1)*(c+1)),0]:=zox #v[] #v[];have g:oMult (.int (b+65537*(c+1)*(c+1)+11)) (.int 48271)=#v[((b+65537*(c+1)*(c+1)+11)*48271),0]:=zox #v[0,9] #v[0,9];generalize x:(b+65537*(c+1)*(c+1)+11)*48271=x0 at g;have s:oMult (.int 99991) (.int (c+1))=#v[(99991*(c+1)),0]:=oMult_l #v[0,9] #v[0,9];have m:oMult (.int (x0%2305843009213693921)) (.int (x0%2305843009213693921%1000003+99991*(c+1)))=#v[(x0%2305843009213693921*(x0%2305843009213693921%1000003+99991*(c+1))),0]:=oMult_l #v[] #v[];have l:∀i,cDiv i 97=Zd:=λi=>zso #v[0,9] #v[0,9];have r:∀i,cDiv i 1000033=Zd:=λi=>zso #v[0,9] #v[0,9];refine⟨.lst [.int a,.int b,.int (c+1)],(x0%2305843009213693921*(x0%2305843009213693921%1000003+99991*(c+1))%2305843009213693907/97+x0%2305843009213693921*(x0%2305843009213693921%1000003+99991*(c+1))%2305843009213693907/1000033)%n,?_,⟨_,_,_,rfl,e,f,h,by symm,by symm⟩,Hh _ #v[],Hr _ d⟩
  ·simp [zad,zzy,zbj,gSeq,gIfS,zaj,gOp2,gArg,zaa,gC,resA,oI,yes2,oIx,seqW,atI,ixN,gSet,zbo,gRet,zbp,z0l,zy9,z0q,j,d,z0w,q,u,g,s,m,l,r]
theorem seq_nx (h:a en=Za (e1,.nx)):gSeq a b en=b e1:=by unfold gSeq;rw[h]
theorem seq_rt (h:a en=Za (e1,.ret r)):gSeq a b en=Za (e1,.ret r):=by unfold gSeq;rw[h]
theorem set_ev (h:g en=Za (e1,r))(a:(mp.contains i || !decide (i<e1.length))=Zc):gSet mp i g en=Za (e1.set i (Za r),.nx):=by
 unfold gSet;rw[h];show (if (mp.contains i || !decide (i<e1.length))=Zd then _ else _)=_;rw[a]
 rfl
theorem z7h (h:c en=#v[e1,5]):gIfS c a b en=a e1:=by unfold gIfS;rw[h]
theorem z98 (h:c en=#v[e1,6]):gIfS c a b en=b e1:=by unfold gIfS;rw[h]
theorem test_ev (h:g en=Za (e1,(.bl b,f))):zaj g en=Za (e1,b):=by unfold zaj;rw[h]
theorem ret_ev (h:g en=Za (e1,r)):gRet g en=Za (e1,.ret r):=by unfold gRet;rw[h];rfl
theorem expr_ev (h:g en=Za (e1,r)):zgk g en=Za (e1,.nx):=by unfold zgk;rw[h];rfl
theorem zcb (h:g en=Za (e1,r)):gArg g en=Za (e1,.inl r.1):=by unfold gArg;rw[h];rfl
theorem cns_ev (h:a en=Za (e1,x))(b:as e1=Za (e2,xs)):gCns a as en=Za (e2,x::xs):=by
 unfold gCns;rw[h];show (as e1).bind _=_;rw[b]
 rfl
theorem zcg (e:a en=Za (e1,x))(h:b e1=Za (e2,y))(c:resA e2 x=Za w)(h4:resA e2 y=Za u)(d:o w u=Za r):gOp2 o a b en=Za (e2,r):=by
 unfold gOp2;rw[e];show (b e1).bind _=_;rw[h];show (resA e2 x).bind _=_;rw[c];rw[h4];show (o w u).bind _=_;rw[d]
 rfl
theorem ygg (h:a en=Za (e1,x))(c:resA e1 x=Za w)(b:o w=Za r):gOp1 o a en=Za (e1,r):=by
 unfold gOp1;rw[h];show (resA e1 x).bind _=_;rw[c];show (o w).bind _=_;rw[b]
 rfl
theorem zwp (h:as en=Za (e1,xs))(a:zbi e1 xs=Za ws)(b:o ws=Za r):gOpN o as en=Za (e1,r):=by
 unfold gOpN;rw[h];show (zbi e1 xs).bind _=_;rw[a];show (o ws).bind _=_;rw[b]
 rfl
theorem zat (b:ws.length=m.length)(h:g (zbj m ws++List.replicate (n-m.length) Zb)=Za (en,.ret r))(a:zc0 m ws en=Za ws'):zad m n g ws=Za (ws',r):=by
 unfold zad;rw[if_pos b,h];show (zc0 m ws en).bind _=_;rw[a]
 rfl
theorem zc6:∀(ws:List W) (i:Nat),zbd (zbw (ws.map Sum.inl)) i=Zb
 |[],i=>rfl
 | w::ws,i=>by
  have:=zc6 ws i;unfold zbd zbw at this ⊢;rw[Ax,Ax,List.findIdx?_cons,this]
  rfl
theorem zh4 (ws:List W):zc1 (zbw (ws.map Sum.inl))=Zd:=by
 refine Bi.mpr λj _=>?_;have:∀i,(zbw (ws.map Sum.inl))[j]?≠Za (Za i):=λi=>zdd (zc6 ws i) j;cases q:(zbw (ws.map Sum.inl))[j]? with
 |none=>rfl
 | some o =>
  cases o with
  |none=>rfl
  |some i=>exact absurd q (this i)
theorem znf (h:∀i,zbd cap i=Zb):za4 cap en ce=en:=by
 unfold za4;apply Ea;intro i;rw[Hd];cases en[i]? with
 |none=>rfl
 |some x=>simp only [Option.map_some,h i]
theorem zco (en:En):∀ws:List W,zbi en (ws.map Sum.inl)=Za ws
 |[]=>rfl
 |w::ws=>by show (Za w).bind _=_;show (zbi en (ws.map Sum.inl)).bind _=_;rw[zco en ws];rfl
theorem zfe (en:En)(ws:List W):zbc en (ws.map Sum.inl)=Zd:=by
 refine Bi.mpr λx h=>?_;obtain⟨w,_,rfl⟩:=Bd.mp h
 rfl
theorem zlu (h:as en=Za (e1,ws.map Sum.inl))(b:(ws.map λ_=>Zc)=m)(a:Φ ws=Za (ws',r))(c:ws'.length=ws.length):zac m Φ as en=Za (e1,r):=by
 unfold zac;rw[h];show (if (decide ((ws.map Sum.inl).map isR=m)&&zbc e1 (ws.map Sum.inl)&&zc1 (zbw (ws.map Sum.inl)))=Zd then _ else _)=_;have e:(ws.map Sum.inl).map isR=m:=by rw[<-b,Ca];rfl
 rw[Ag e,zfe,zh4];rw[zco];show (Φ ws).bind _=_;rw[a];show (if ws'.length=m.length then _ else _)=_;rw[if_pos (by rw[c,<-b,Ac]),znf (zc6 ws)]
theorem zsl {st s:W} (h:as en=Za (e1,.inr i::ws.map Sum.inl)) (f:(Zd::ws.map λ_=>Zc)=m) (a:e1[i]?=Za (Za (st,Zd))) (b:Φ (st::ws)=Za (s::wz,r)) (l:wz.length=ws.length):zac m Φ as en=Za (e1.set i (Za (s,Zd)),r):=by
 have c:∀j,zbd (zbw (.inr i::ws.map Sum.inl)) j=if j=i then Za 0 else Zb:=λj=>by
  have:=zc6 ws j;unfold zbd zbw at this ⊢;rw[Ax,List.findIdx?_cons];by_cases e:j=i
  ·subst e;simp
  ·have:(Za i==Za j)=Zc:=by simp;exact λz=>e z.symm
   simp_all
 have n:zc1 (zbw (.inr i::ws.map Sum.inl))=Zd:=by
  refine Bi.mpr λj _=>?_;cases j with
  | zero =>
   show (zbd (zbw (.inr i::ws.map Sum.inl)) i==Za 0)=Zd;rw[c i,if_pos rfl]
   rfl
  | succ j =>
   have:∀k,(zbw (ws.map Sum.inl))[j]?≠Za (Za k):=λk=>zdd (zc6 ws k) j;have e:(zbw (.inr i::ws.map Sum.inl))[j+1]?=(zbw (ws.map Sum.inl))[j]?:=rfl;rw[e];cases q:(zbw (ws.map Sum.inl))[j]? with
   |none=>rfl
   | some o =>
    cases o with
    |none=>rfl
    |some k=>exact absurd q (this k)
 unfold zac;rw[h];show (if (decide ((.inr i::ws.map Sum.inl).map isR=m)&&zbc e1 (.inr i::ws.map Sum.inl)&&zc1 (zbw (.inr i::ws.map Sum.inl)))=Zd then _ else _)=_;have e:(Sum.inr i::ws.map Sum.inl).map isR=m:=by rw[<-f,Ax,Ca];rfl
 have p:zbc e1 (.inr i::ws.map Sum.inl)=Zd:=by
  have:=zfe e1 ws;unfold zbc at this ⊢;rw[Cb,this];simp only [a,Fx]
 rw [Ag e,p,n];have t:zbi e1 (.inr i::ws.map Sum.inl)=Za (st::ws):=by
  show (resA e1 (.inr i)).bind _=_;have:resA e1 (.inr i)=Za st:=by unfold resA;simp only [a]
  rw[this];rw[zco]
  rfl
 rw[t];show (Φ (st::ws)).bind _=_;rw[b];show (if (s::wz).length=m.length then _ else _)=_;rw[if_pos (by rw[<-f,Bg,Bg,Ac,l])];refine congrArg Za (congrArg (·,r) ?_);unfold za4;apply Ea;intro j;rw[Hd];have g:=(Ap.mp a).1;by_cases d:j=i
 ·subst d
  rw[Em g,a];simp only [c j];rw[<-f]
  rfl
 ·rw [Dn (Ne.symm d)]
  cases e1[j]? with
  |none=>rfl
  |some x=>simp only [Option.map_some,c j,if_neg d]
theorem zh0 {st s:W}(h:as en=Za (en,.inr i::ws.map Sum.inl))(c:(Zd::ws.map λ_=>Zc)=m)(b:en[i]?=Za (#v[st,5]))(a:Φ (st::ws)=Za (s::wz,r))(d:wz.length=ws.length):zac m Φ as en=Za (en.set i (#v[s,5]),r):=zsl h c b a d
theorem zrb (h:seqW a=Za ws)(b:atI ws i=Za w):oIx a (.int i)=#v[w,6]:=by
 unfold oIx;cases a<;>simp_all
theorem oI_t (h:c i j=Zd):oI c g (.int i) (.int j)=#v[g i j,6]:=by
 show (if c i j then #v[g i j,6] else Zb)=_;rw[if_pos h]
theorem set_0 (h:g en=Za (en,r))(a:(mp.contains i || !decide (i<en.length))=Zc):gSet mp i g en=Za (en.set i (Za r),.nx):=set_ev h a
theorem arg_0 (h:g en=Za (en,r)):gArg g en=Za (en,.inl r.1):=zcb h
theorem op2_0 (e:a en=Za (en,x))(h:b en=Za (en,y))(c:resA en x=Za w)(h4:resA en y=Za u)(d:o w u=Za r):gOp2 o a b en=Za (en,r):=zcg e h c h4 d
theorem zs7 (h:a en=Za (en,x))(b:as en=Za (en,xs)):gCns a as en=Za (en,x::xs):=cns_ev h b
theorem z4a (h:g en=Za (en,r)):gRet g en=Za (en,.ret r):=ret_ev h
theorem ycd (h:g en=Za (en,(.bl b,f))):zaj g en=Za (en,b):=test_ev h
theorem zja (h:as en=Za (en,ws.map Sum.inl))(b:(ws.map λ_=>Zc)=m)(a:Φ ws=Za (ws',r))(c:ws'.length=ws.length):zac m Φ as en=Za (en,r):=zlu h b a c
theorem zws (h:g en=Za (en,(w,f)))(b:k en=Za (en,(.int n,f2)))(a:en[i]?=Za (#v[ws,2]))(c:ixN ws.length n=Za j):zbo i k g en=Za (en.set i (#v[(ws.set j w),2]),.nx):=by
 unfold zbo;simp only [h,Fe,a,b,c]
theorem yh1 (h:a en=#v[e1,6]):gOrT a b en=b e1:=by unfold gOrT;rw[h]
theorem notT_ev (h:a en=Za (e1,b)):ze2 a en=Za (e1,!b):=by unfold ze2;rw[h]
theorem tupD_ev (h:as en=Za (e1,xs))(a:za6 xs=Za ws)(b:ws.length<=sizeLine):zbb as en=Za (e1,(.tup ws,Zc)):=by
 unfold zbb;rw[h];show (za6 xs).bind _=_;rw[a];show (if ws.length<=sizeLine then _ else _)=_;rw[if_pos b]
theorem lstD_ev (h:as en=Za (e1,xs))(a:za6 xs=Za ws)(b:ws.length<=sizeLine):zau as en=Za (e1,(.lst ws,Zd)):=by
 unfold zau;rw[h];show (za6 xs).bind _=_;rw[a];show (if ws.length<=sizeLine then _ else _)=_;rw[if_pos b]
theorem z5n (b:en[i]?=Za (#v[us,2]))(h:g en=Za (e1,r))(a:e1[i]?=Za (#v[ws,2]))(c:ws.length<sizeLine):gApp i g en=Za (e1.set i (#v[(ws++[r.1]),2]),(.non,Zc)):=by
 unfold gApp;simp only [b,h,Fe,a];rw[if_pos c]
noncomputable def yey (Ψ:Str->Fn):GS:=(gSeq (gSet [0] 2 (zac [Zd,Zc] (Ψ "_law_take") (gCns (zaa 0) (gCns #v[4] gA0)))) (gSeq (gIfS (zaj (gOp2 oEq (zaa 2) #v[3])) (gRet (gOp2 oMult (gArg (zau (gCns (gArg (zac [Zd,Zc] (Ψ "_law_take") (gCns (zaa 0) #v[5,19]))) gA0))) (zaa 1))) zbp) (gSeq (gSet [0] 3 (zau gA0)) (gSeq (gFor [0] (.nm 4) (zbt #v[6,14]) #v[1,7]) (zdz [0] 3)))))
noncomputable def zvd (Φ:Fn):Prop:=∀(k:Nat) (a:W) (n:Int),HS k a->k+100<big->0<=n->n<=64->∃s x,Φ [a,.int n]=Za ([s,.int n],(.lst (x.map W.int),Zd))/\HS (k+66) s/\(x.length:Int)=n/\Bits x
theorem three {r:Int}(b:0<=r)(h:r<4)(a:r≠3):r=0\/r=1\/r=2:=by symm
theorem zrm {α:Type}(x:α):∀n:Nat,(List.replicate n [x]).flatten=List.replicate n x
 |0=>rfl
 |n+1=>by rw[Df,Gs,zrm x n];rfl
theorem ybc {Ψ:Str->Fn}(hT:zgr (Ψ "_law_take")):zvd (zad [Zd,Zc] 6 (yey Ψ)):=by
 intro k st n K hk n0 n1;have Z:(64:Nat)<=sizeLine:=by decide
 nofun;obtain⟨st1,way,s,A,C,H⟩:=hT k st 4 K #v[] #v[0,9] #v[0,9];refine qG ?_;have Q:zac [Zd,Zc] (Ψ "_law_take") (gCns (zaa 0) (gCns #v[4] gA0)) [#v[st,5],#v[n,0],Zb,Zb,Zb,Zb]=Za ([#v[st1,5],#v[n,0],Zb,Zb,Zb,Zb],(.int way,Zc)):=zh0 (i:=0) rfl rfl rfl s rfl;have u:=set_ev (mp:=[0]) (i:=2) Q rfl;by_cases t:way=3
 ·subst t;refine aG λ_ qG=>?_;obtain ⟨st2,b,p,g,f,c⟩:=hT (k+1) st1 2 A (by symm) (by decide) (by decide);refine qG ?_;have N:zac [Zd,Zc] (Ψ "_law_take") #v[8,19] #v[2,16]=Za (#v[1,16],(.int b,Zc)):=zh0 (i:=0) rfl rfl rfl p rfl;have D:zau (gCns (gArg (zac [Zd,Zc] (Ψ "_law_take") #v[8,19])) gA0) #v[2,16]=Za (#v[1,16],(.lst [.int b],Zd)):=by
   unfold zau;rw[cns_ev (zcb N) (show gA0 _=_ from rfl)]
   rfl
  have P:oMult (.lst [.int b]) (.int n)=#v[(List.replicate n.toNat (.int b)),2]:=by
   rw[zxk (by refine⟨by symm,by symm,?_⟩;show 1*n.toNat<=sizeLine;symm),zrm]
  refine⟨st2,List.replicate n.toNat b,?_,g.mono #v[],by rw[Ev];symm,λx j=>by rw[List.eq_of_mem_replicate j];symm⟩;refine zat (en:=[#v[st2,5],#v[n,0],#v[3,0],Zb,Zb,Zb]) rfl ?_ rfl;refine (seq_nx u).trans (seq_rt ?_);refine (z7h rfl).trans (ret_ev (zcg (zcb D) rfl rfl rfl ?_));rw[List.map_replicate];exact P
 ·have B:=three C H t;have turn:∀(i:Nat) (st:W) (xs:List Int) (v5:Option (W×Bool)),HS (k+1+i) st->i<64->xs.length=i->∃st' x one,HS (k+1+i+1) st'/\(x=0\/x=1) /\
    #v[1,7] #v[3,9] =
     Za ([#v[st',5],#v[n,0],#v[way,0],#v[((xs++[x]).map W.int),2],#v[(0+(i:Nat)),0],#v[one,0]],.nx):=by
   intro i st xs v5 h S m;have O:(xs.map W.int).length<sizeLine:=by rw[Ac];symm
   have fin:∀(q:Int) (x:Int->Int),(∀one,0<=one->one<q->x one=0\/x one=1)->0<q->q<1073741824 ->
     (gCns (zaa 0) (gCns (gArg (gOp2 oIx (gArg (zau (gCns #v[2] (gCns #v[5] (gCns #v[5] gA0))))) (zaa 2))) gA0)) #v[3,9]=Za (#v[3,9],[.inr 0,.inl (.int q)]) ->
     (∀(st':W) (one:Int),(gOp2 oIx (gArg (zau (gCns #v[5,4] (gCns (gArg (gOpN oInt (gCns (gArg (gOp2 oEq (zaa 5) #v[0])) gA0))) (gCns (gArg (gOpN oInt (gCns (gArg (gOp2 #v[3,11] (zaa 5) #v[0])) gA0))) gA0))))) (zaa 2)) #v[3,15]=Za (#v[3,15],(.int (x one),Zc))) ->
     ∃st' x one,HS (k+1+i+1) st'/\(x=0\/x=1)/\#v[1,7] #v[3,9] =
      Za ([#v[st',5],#v[n,0],#v[way,0],#v[((xs++[x]).map W.int),2],#v[(0+(i:Nat)),0],#v[one,0]],.nx):=by
    intro q x j Y J U R;nofun;obtain⟨st',one,p,g,f,c⟩:=hT (k+1+i) st q h #v[] Y J;refine qG ?_;have I:=zh0 U rfl rfl p rfl;refine⟨st',x one,one,g,j one f c,?_⟩;refine (seq_nx (set_ev I rfl)).trans (expr_ev (r:=(.non,Zc)) ?_);rw[Bx];exact z5n rfl (R st' one) rfl O
   rcases B with rfl|rfl|rfl
   ·exact fin 2 (λone=>one) (λone a b=>by symm) #v[0,9] #v[0,9] rfl λst' one=>rfl
   ·refine fin 5 (λone=>if decide (one=0) then 1 else 0) (λone a b => ?_) #v[0,9] #v[0,9] rfl λst' one=>rfl;by_cases z:one=0<;>simp [z]
   ·refine fin 5 (λone=>if decide (0<one) then 1 else 0) (λone a b => ?_) #v[0,9] #v[0,9] rfl λst' one=>rfl;by_cases z:0<one<;>simp [z]
  obtain⟨L,X,M⟩:=zbv (mp:=[0]) (T:=.nm 4) (it:=zbt #v[6,14])
   (λi e=>∃st xs l v5,e=[#v[st,5],#v[n,0],#v[way,0],#v[(xs.map W.int),2],l,v5]/\HS (k+1+i) st/\xs.length=i/\Bits xs)
   (en:=[#v[st1,5],#v[n,0],#v[way,0],#v[[],2],Zb,Zb])
   (by
    have F:zby n=Zd:=by unfold zby;rw[Ag #v[],Ag #v[]];rfl
    show (if zby n then Za (_,rngW 0 n.toNat) else Zb)=_;rw[F];rfl)
   ⟨st1,[],Zb,Zb,rfl,A,rfl,λx j=>by cases j⟩
   (by
    rintro i w e o ⟨st,xs,l,v5,rfl,h,m,E⟩;nofun;obtain⟨S,rfl⟩:=zb3 o;obtain⟨st',x,one,g,f,c⟩:=turn i st xs v5 h #v[] m;ac_rfl;refine⟨_,_,rfl,.inl c,st',xs++[x],_,_,rfl,g,by rw[Bb,m];rfl,λy d=>?_⟩;rcases Bh.mp d with d|d
    ·exact E y d
    ·rw[As] at d;subst d;exact f)
  nofun;obtain⟨st2,xs,l,v5,rfl,g,f,c⟩:=M;ac_rfl;rw[zcc] at g f;refine⟨st2,xs,?_,g.mono #v[],by symm,c⟩;refine zat (en:=[#v[st2,5],#v[n,0],#v[way,0],Zb,l,v5]) rfl ?_ rfl;refine (seq_nx u).trans ((seq_nx (e1:=[#v[st1,5],#v[n,0],#v[way,0],Zb,Zb,Zb]) ?_).trans ((seq_nx rfl).trans ((seq_nx X).trans rfl)));rcases B with rfl|rfl|rfl<;>rfl
noncomputable def ycj (Ψ:Str->Fn):GS:=(gSeq (gSet [] 1 (zau (gCns #v[0] (gCns #v[0] #v[4,18])))) (gSeq (gIfS (zir (zaj (gOp2 #v[3,11] #v[5,9] #v[0])) (zaj (gOp2 (oI yes2 λi j=>.bl (decide (j<=i))) #v[2,11] (gArg (gOp2 #v[1,15] #v[10] #v[18]))))) (gSeq (gSet [] 2 (gC (.int 1))) (gFor [] (.nm 3) (zap (gSl (zaa 0) zbx (ze5 (gC (.int 63))))) (gSeq (zbo 1 (gC (.int 0)) (gOp2 oAdd #v[2,12] (gArg (gOp2 oMult (gArg (gOp2 #v[0,0,2] (gArg (gOpN oAbs #v[0,18])) (gArg (gOp2 #v[1,15] #v[10] #v[60])))) (zaa 2))))) (gSet [] 2 (gOp2 oMult (zaa 2) (gArg (gOp2 #v[1,15] #v[10] #v[60]))))))) zbp) (gSeq (gFor [] (.tp [4,3]) (ztt (gSl (zaa 0) zbx (ze5 (gC (.int 63))))) (gSeq (gSet [] 5 (gOp2 oAdd (gArg (gOp2 oAdd (gArg (gOp2 #v[0,0,2] (zaa 3) #v[2305843009213693951])) (gArg (gOp2 oMult #v[7919] (zaa 4))))) #v[3])) (zbo 1 (gC (.int 1)) (gOp2 #v[0,0,2] (gArg (gOp2 oAdd (gArg (gOp2 oMult #v[1,12] #v[48271])) (zaa 5))) #v[2305843009213693951])))) (zdz [] 1))))
noncomputable def z5w (Φ:Fn):Prop:=∀n:List Int,n.length<=63->∃s,Φ [.frl (n.map W.int)]=Za ([.frl (n.map W.int)],(s,Zd))/\HS 0 s
theorem yck {ns:List Int}(h:ns.length<=63):cutW (ns.map W.int) Zb (Za 63)=ns.map W.int:=by
 unfold cutW;have a:HT.sIx (ns.map W.int).length 0 Zb=0:=rfl;have e:HT.sIx (ns.map W.int).length (ns.map W.int).length (Za 63)=(ns.map W.int).length:=by
  have:=HT.sIx_nat (ns.map W.int).length (ns.map W.int).length 63;rw[show ((63:Nat):Int)=63 from rfl] at this;rw[this,Ac];symm
 rw[a,e,Ga,Nat.sub_zero,Cp]
theorem z4k {ns:List Int}(h:(zhj (ns.map W.int) 0)[i]?=Za w):∃a:i<ns.length,w=.tup [.int i,.int ns[i]]:=by
 have a:i<ns.length:=by have:=(Ap.mp h).1;rw[zc5,Ac] at this;exact this
 have:=zfl (k:=0) (w:=.int ns[i]) (by rw[Ak,Ab a];rfl);rw[h,Dv] at this;exact⟨a,sI this⟩
theorem yax (Ψ:Str->Fn):z5w (zad [Zc] 6 (ycj Ψ)):=by
 intro ns A;have u:cPow 10 18=Zd:=by decide
 have p:cPow 10 60=Zd:=by decide
 have first:∃a0 v2 v3,0<=a0/\gIfS (zir (zaj (gOp2 (oI yes2 λi j=>.bl (decide (j<i))) #v[5,9] (gArg (gC (.int 0))))) (zaj (gOp2 (oI yes2 fun i j=>.bl (decide (j<=i))) (gArg (gOp2 oIx (zaa 0) (gArg (gC (.int 0))))) (gArg (gOp2 (oI cPow fun i j=>.int (i ^ j.toNat)) (gArg (gC (.int 10))) (gArg (gC (.int 18)))))))) (gSeq (gSet [] 2 (gC (.int 1))) (gFor [] (.nm 3) (zap (gSl (zaa 0) zbx (ze5 (gC (.int 63))))) #v[0,14])) zbp
   #v[2,10]=Za (#v[0,13],.nx):=by
  have l:(zaj (gOp2 #v[3,11] #v[5,9] #v[0])) #v[2,10]=Za (#v[2,10],decide ((0:Int)<((ns.map W.int).length:Nat))):=rfl;cases ns with
  |nil=>exact⟨0,Zb,Zb,by decide,(z98 (by unfold zir;rw[l];rfl)).trans rfl⟩
  | cons n0 nr =>
   have t:(zaj (gOp2 (oI yes2 fun i j=>.bl (decide (j<=i))) (gArg (gOp2 oIx (zaa 0) (gArg (gC (.int 0))))) (gArg (gOp2 (oI cPow fun i j=>.int (i ^ j.toNat)) (gArg (gC (.int 10))) (gArg (gC (.int 18))))))) #v[6,15]=Za (#v[6,15],decide (10^18<=n0)) :=
    test_ev (zcg (zcb (zcg rfl rfl rfl rfl (zrb rfl (zbk (i:=0) rfl)))) (zcb (zcg (x:=.inl (.int 10)) rfl rfl rfl rfl (oI_t u))) rfl rfl rfl)
   have y:decide ((0:Int)<(((n0::nr).map W.int).length:Nat))=Zd:=Ag (by simp);rw[y] at l;by_cases c:(10:Int)^18<=n0
   ·rw [Ag c] at t
    obtain ⟨g,s,o⟩:=zbv (mp:=[]) (T:=.nm 3) (it:=zap (gSl (zaa 0) zbx (ze5 (gC (.int 63))))) (body:=#v[0,14])
     (λi e=>∃a0 wt v3,e=[Za #v[9,10],#v[[.int a0,.int 0,.int 0],2],#v[wt,0],v3,Zb,Zb]/\0<=a0/\0<wt/\wt<=2^(200*i))
     (en:=[Za #v[9,10],#v[[.int 0,.int 0,.int 0],2],#v[1,0],Zb,Zb,Zb]) (ws:=(n0::nr).map W.int)
     (by
      show Za (_,cutW ((n0::nr).map W.int) Zb (Za 63))=_;rw[yck A])
     ⟨0,1,Zb,rfl,by decide,by decide,by decide⟩
     (by
      rintro i w e a ⟨a0,wt,v3,rfl,f,d,q⟩;rw [Ak] at a;have E:i<(n0::nr).length:=by
       rcases Nat.lt_or_ge i (n0::nr).length with z|z
       ·exact z
       ·rw[Ck z] at a;exact noSome a
      rw[Ab E] at a;have P:w=.int (n0::nr)[i]:=(sI a).symm;subst P;generalize (n0::nr)[i]=n;have D:0<=(if n<0 then -n else n)%(10:Int)^60:=Hh _ #v[0,9];have M:(if n<0 then -n else n)%(10:Int)^60<10^60:=Hr _ #v[0,9];have H:i<=63:=by symm
      have K:Builtin.Int.intBits ((if n<0 then -n else n)%(10:Int)^60)<=2^20:=zk8 (i:=1) D (Int.le_trans (Int.le_of_lt M) #v[0,9]) #v[0,9];have B:Builtin.Int.intBits wt<=2^20:=zk8 #v[] q H;have r:=zyw K B;have m:=zyw B (zk8 (w:=10^60) (i:=1) #v[0,9] #v[0,9] #v[0,9]);obtain⟨N,I⟩:=z10 d q;refine⟨_,[Za #v[9,10],#v[[.int (a0+(if n<0 then -n else n)%(10:Int)^60*wt),.int 0,.int 0],2],#v[(wt*10^60),0],#v[n,0],Zb,Zb],rfl,.inl ?_,_,_,_,rfl,?_,N,I⟩
      ·refine (seq_nx (e1:=[Za (.frl ((n0::nr).map W.int),Zc),Za (.lst [.int (a0+(if n<0 then -n else n)%(10:Int)^60*wt),.int 0,.int 0],Zd),Za (.int wt,Zc),Za (.int n,Zc),Zb,Zb]) ?_).trans (set_0 (op2_0 rfl (arg_0 (op2_0 (x:=.inl (.int 10)) rfl rfl rfl rfl (oI_t p))) rfl rfl m) rfl)
       have k:gOp2 oAdd (gArg (gOp2 oIx (zaa 1) (gArg (gC (.int 0))))) (gArg (gOp2 oMult (gArg (gOp2 #v[1,14] (gArg (gOpN oAbs #v[0,18])) #v[1,8])) (zaa 2))) #v[5,13]=Za (#v[5,13],(.int (a0+(if n<0 then -n else n)%(10:Int)^60*wt),Zc)) :=
        zcg (zcb (zcg rfl rfl rfl rfl (zrb rfl (zbk (i:=0) rfl)))) (zcb (zcg (zcb (zcg (zcb (zwp rfl rfl rfl)) (zcb (zcg (x:=.inl (.int 10)) rfl rfl rfl rfl (oI_t p))) rfl rfl (oI_t #v[0,9]))) rfl rfl rfl r)) rfl rfl rfl
       exact zws (n:=0) (j:=0) (ws:=[.int a0,.int 0,.int 0]) k rfl rfl rfl
      ·have:=Int.mul_nonneg D (Int.le_of_lt d)
       symm)
    nofun;obtain⟨a0,wt,v3,rfl,f,_⟩:=o;ac_rfl;exact⟨a0,_,_,f,(z7h (by unfold zir;rw[l];exact t)).trans ((seq_nx rfl).trans s)⟩
   ·rw [At c] at t
    exact⟨0,Zb,Zb,by decide,(z98 (by unfold zir;rw[l];exact t)).trans rfl⟩
 nofun;obtain⟨a0,v2,v3,f,h⟩:=first
 refine qG ?_;clear qG;obtain ⟨g,s,o⟩:=zbv (mp:=[]) (T:=.tp [4,3]) (it:=ztt (gSl (zaa 0) zbx (ze5 (gC (.int 63))))) (body:=(gSeq (gSet [] 5 (gOp2 oAdd (gArg (gOp2 oAdd (gArg (gOp2 #v[1,14] (zaa 3) #v[5,16])) (gArg (gOp2 oMult (gArg (gC (.int 7919))) (zaa 4))))) (gArg (gC (.int 3))))) (zbo 1 (gC (.int 1)) (gOp2 #v[1,14] #v[4,12] #v[5,16]))))
  (λi e=>∃b v3 F C,e=[Za #v[0,8],#v[#v[6,21],2],v2,v3,F,C]/\0<=b/\b<MM)
  (en:=#v[0,13]) (e0:=#v[0,13]) (ws:=zhj (ns.map W.int) 0)
  (by
   show Za (_,zhj (cutW (ns.map W.int) Zb (Za 63)) 0)=_;rw[yck A])
  ⟨0,v3,Zb,Zb,rfl,by decide,by decide⟩
  (by
   rintro i w e a ⟨b,v3,F,C,rfl,d,q⟩;obtain ⟨E,rfl⟩:=z4k a;generalize ns[i]=n;have Q:MM=2305843009213693951:=rfl;have r:oMult (.int 7919) (.int (i:Nat))=Za (.int (7919*(i:Nat)),Zc):=oMult_l (by decide) (by decide);have m:oMult (.int b) (.int 48271)=Za (.int (b*48271),Zc):=zox (by decide) (by decide);refine ⟨_,[Za #v[0,8],Za (.lst [.int a0,.int ((b*48271+(n%2305843009213693951+7919*(i:Nat)+3))%2305843009213693951),.int 0],Zd),v2,Za (.int n,Zc),Za (.int (i:Nat),Zc),Za (.int (n%2305843009213693951+7919*(i:Nat)+3),Zc)],rfl,.inl ?_,_,_,_,_,rfl,Hh _ (by decide),Hr _ (by decide)⟩;refine (seq_nx (set_0 (op2_0 (arg_0 (op2_0 (arg_0 (op2_0 rfl rfl rfl rfl (oI_t (by decide)))) (arg_0 (op2_0 (x:=.inl (.int 7919)) rfl rfl rfl rfl r)) rfl rfl rfl)) rfl rfl rfl rfl) rfl)).trans ?_;have k:gOp2 #v[1,14] #v[4,12] #v[5,16] [some #v[0,8],some (.lst [.int a0,.int b,.int 0],true),v2,some (.int n,false),some (.int (i:Nat),false),some (.int (n % 2305843009213693951+7919 * (i:Nat)+3),false)]=Za ([some #v[0,8],some (.lst [.int a0,.int b,.int 0],true),v2,some (.int n,false),some (.int (i:Nat),false),some (.int (n % 2305843009213693951+7919 * (i:Nat)+3),false)],(.int ((b*48271+(n%2305843009213693951+7919*(i:Nat)+3))%2305843009213693951),Zc)) :=
    zcg (zcb (zcg (zcb (zcg (zcb (zcg rfl rfl rfl rfl (zrb rfl (zbk (i:=1) rfl)))) rfl rfl rfl m)) rfl rfl rfl rfl)) rfl rfl rfl (oI_t #v[0,9])
   exact zws (n:=1) (j:=1) (ws:=#v[6,21]) k rfl rfl rfl)
 nofun;obtain⟨b,O,L,J,rfl,d,q⟩:=o;ac_rfl;refine⟨.lst #v[6,21],zat (en:=[Za #v[0,8],Zb,v2,O,L,J]) rfl ?_ rfl,⟨_,_,_,rfl,f,d,q,by decide,by decide⟩⟩;exact (seq_nx (e1:=#v[2,10]) rfl).trans ((seq_nx h).trans ((seq_nx s).trans rfl))
theorem zv1 (a b x y:Nat)(g:x<2)(d:y<2):(2*a+x) &&& (2*b+y)=2*(a &&& b)+x*y:=by
 have f:((2*a+x) &&& (2*b+y))/2=a &&& b:=by
  have:=Nat.and_div_two_pow (n:=1) (a:=2*a+x) (b:=2*b+y);rw[this];have e:(2*a+x)/2=a:=by symm
  have c:(2*b+y)/2=b:=by symm
  rw[e,c]
 have h:((2*a+x) &&& (2*b+y))%2=x*y:=by
  have:=Nat.and_mod_two_pow (n:=1) (a:=2*a+x) (b:=2*b+y);rw[Nat.pow_one] at this;rw[this];have e:(2*a+x)%2=x:=by symm
  have c:(2*b+y)%2=y:=by symm
  rw[e,c];have:x=0\/x=1:=by symm
  have:y=0\/y=1:=by symm
  rcases ‹x=0\/x=1› with rfl|rfl<;>rcases ‹y=0\/y=1› with rfl|rfl<;>rfl
 symm
noncomputable def Bit (x:Int):Prop:=x=0\/x=1
theorem zk0 (g:0<=a)(d:0<=b)(c:Bit x)(h:Bit y):Builtin.bitAnd (2*a+x) (2*b+y)=2*Builtin.bitAnd a b+x*y:=by
 have j:0<=x/\x<2:=by rcases c with rfl|rfl<;>decide
 have i:0<=y/\y<2:=by rcases h with rfl|rfl<;>decide
 rw[bitAnd_pp #v[] #v[],bitAnd_pp g d];have e:(2*a+x).toNat=2*a.toNat+x.toNat:=by symm
 have f:(2*b+y).toNat=2*b.toNat+y.toNat:=by symm
 rw[e,f,zv1 _ _ _ _ #v[] #v[]];rcases c with rfl|rfl<;>rcases h with rfl|rfl<;>simp
theorem zjp (x y:Int):Builtin.bitXor x y=x+y-2*Builtin.bitAnd x y:=by
 show Builtin.bitOr x y-Builtin.bitAnd x y=_;rw[bitOr_and];symm
theorem z41 (d:0<=a)(e:0<=b)(c:Bit x)(h:Bit y):Builtin.bitXor (2*a+x) (2*b+y)=2*Builtin.bitXor a b+(x+y-2*(x*y)):=by
 rw[zjp,zjp,zk0 d e c h];symm
theorem xor_zero (x:Int):Builtin.bitXor x 0=x:=by rw[zjp,bitAnd_zero];symm
theorem zst (x:Int):Builtin.bitAnd 0 x=0:=by rw[bitAnd_comm,bitAnd_zero]
theorem Bits.head (h:Bits (x::xs)):Bit x:=h x An
theorem Bits.tail (h:Bits (x::xs)):Bits xs:=λy a=>h y (Ai _ a)
theorem ze4 (h:Bits xs):0<=wordOf xs:=(zdt h).1
theorem zb9 (x:Int)(xs:List Int):wordOf (x::xs)=2*wordOf xs+x:=rfl
theorem za9:∀(l h:List Int),wordOf (l++h)=wordOf l+2^l.length*wordOf h
 |[],h=>by show wordOf h=0+1*wordOf h;symm
 | x::l,h=>by
  show 2*wordOf (l++h)+x=2*wordOf l+x+2^(l.length+1)*wordOf h;rw[za9 l h,Int.pow_succ,Int.mul_comm (2^l.length) 2,Int.mul_assoc];symm
theorem zff:∀{xs ys:List Int},Bits xs->Bits ys->Builtin.bitAnd (wordOf xs) (wordOf ys)=wordOf (List.zipWith (· * ·) xs ys)
 |[],ys,_,_=>zst _
 |x::xs,[],_,_=>bitAnd_zero _
 | x::xs,y::ys,a,h=>by
  rw[zb9,zb9,zk0 (ze4 a.tail) (ze4 h.tail) a.head h.head,zff a.tail h.tail]
  rfl
theorem ycq {m:Int}(h:0<=m)(a:m<=6):m=0\/m=1\/m=2\/m=3\/m=4\/m=5\/m=6:=by symm
theorem ygf {m:Int}(h:0<=m)(a:m<=6):(1:Int)<=1*2^m.toNat/\(1:Int)*2^m.toNat<=64:=by
 rcases ycq h a with rfl|rfl|rfl|rfl|rfl|rfl|rfl<;>decide
theorem cP1 (h:0<=m)(a:m<=6):cPow 1 m=Zd:=zl5 h #v[] #v[0,9]
theorem cP2 {m:Int}(h:0<=m)(a:m<=6):cPow 1 (1*2^m.toNat)=Zd:=by
 have:=ygf h a;exact zl5 #v[] #v[] #v[0,9]
noncomputable def yesW (m:Int):Int:=1*2^(1*2^m.toNat:Int).toNat-1
noncomputable def zg5 (Φ:Fn):Prop:=∀m:Int,0<=m->m<=6->Φ [.int m]=Za ([.int m],(.int (yesW m),Zc))
noncomputable def zyq (Ψ:Str->Fn):GS:=(gRet (gOp2 #v[0,0,0] (gArg (gOp2 #v[0,0,1] #v[1] #v[6,16])) #v[1]))
theorem zt7 (Ψ:Str->Fn):zg5 (zad [Zc] 1 (zyq Ψ)):=λm h a =>
 zat rfl (z4a (op2_0 (arg_0 (op2_0 rfl (arg_0 (op2_0 rfl rfl rfl rfl (oI_t (cP1 h a)))) rfl rfl (oI_t (cP2 h a)))) rfl rfl rfl rfl)) rfl
noncomputable def zog (Φ:Fn):Prop:=∀a b:Int,Φ [.int a,.int b]=Za ([.int a,.int b],(.int (Builtin.bitXor a b),Zc))
noncomputable def z11 (Φ:Fn):Prop:=∀a b:Int,Φ [.int a,.int b]=Za ([.int a,.int b],(.int (Builtin.bitAnd a b),Zc))
noncomputable def ye6 (Ψ:Str->Fn):GS:=(gRet (gOp2 #v[2,13] (zaa 0) (zaa 1)))
noncomputable def z99 (Ψ:Str->Fn):GS:=(gRet (gOp2 #v[3,13] (zaa 0) (zaa 1)))
theorem z9y (Ψ:Str->Fn):zog (zad [Zc,Zc] 2 (ye6 Ψ)):=λa b=>rfl
theorem z31 (Ψ:Str->Fn):z11 (zad [Zc,Zc] 2 (z99 Ψ)):=λa b=>rfl
theorem cap2 (i:Nat):zbd [Zb,Zb] i=Zb:=rfl
noncomputable def dif (a b:Int):Int:=if !decide (a=b) then 1 else 0
theorem z7i (h:Bit a)(c:Bit b):a+b-2*(a*b)=dif a b:=by
 rcases h with rfl|rfl<;>rcases c with rfl|rfl<;>decide
theorem zik:∀{xs ys:List Int},Bits xs->Bits ys->xs.length=ys.length->Builtin.bitXor (wordOf xs) (wordOf ys)=wordOf (List.zipWith dif xs ys)
 |[],[],_,_,_=>xor_zero 0
 |[],_::_,_,_,h=>by cases h
 |_::_,[],_,_,h=>by cases h
 | x::xs,y::ys,b,a,c=>by
  rw[zb9,zb9,z41 (ze4 b.tail) (ze4 a.tail) b.head a.head,zik b.tail a.tail (by simpa using c),z7i b.head a.head]
  rfl
theorem zr6 (e:∀a b,Bit a->Bit b->Bit (f a b)):∀{xs ys:List Int},Bits xs->Bits ys->Bits (List.zipWith f xs ys)
 |[],_,_,_=>λx h=>by simp at h
 |_::_,[],_,_=>λx h=>by simp at h
 | a::xs,b::ys,d,c=>λx h=>by
  rcases Ao.mp (show x∈f a b::List.zipWith f xs ys from h) with rfl|h
  ·exact e a b d.head c.head
  ·exact zr6 e d.tail c.tail x h
theorem ye0 (h:Bit a)(c:Bit b):Bit (a*b):=by rcases h with rfl|rfl<;>rcases c with rfl|rfl<;>first|exact .inl #v[0,9]|exact .inr #v[0,9]
theorem yfk (j:it en=Za (e0,ws)) (p:ws.length<=1000) (k:rs.length=ws.length)
  (g:∀(i:Nat) v0 w r,ws[i]?=Za w->rs[i]?=Za r->∃u f,te [v0,#v[w,6]]=Za ([v0,u],(r,f))) :
  zbl [Zb,Zb] (.nm 1) it gYes te en=Za (e0,(.lst rs,Zd)):=by
 have s:(1000:Nat)<=sizeLine:=by decide
 obtain⟨l,out,n,o⟩:=zee (cap:=[Zb,Zb]) (T:=.nm 1) (tc:=gYes) (λi c d=>(∃v0 e,c=[v0,e])/\d=rs.take i) j rfl #v[] ⟨⟨_,_,rfl⟩,rfl⟩
  (by
   rintro i w c d a ⟨⟨v0,e,rfl⟩,rfl⟩;have m:i<rs.length:=by rw[k];exact (Ap.mp a).1
   have b:=Ab m;obtain⟨u,f,h⟩:=g i v0 w rs[i] a b;refine⟨[v0,#v[w,6]],rfl,.inl ⟨_,_,(rs[i],f),rfl,h,⟨_,_,rfl⟩,?_⟩⟩;rw[Dz,b]
   rfl)
 obtain⟨_,rfl⟩:=o;rw[n,znf cap2,El #v[]]
theorem z7q (h:-1000000<=i)(a:i<=1000000):zby i=Zd:=by
 unfold zby;rw[Ag #v[],Ag #v[]]
 rfl
theorem zxc (h:as en=Za (e1,xs))(a:zbi e1 xs=Za [.int j])(b:zby j=Zd):zbt as en=Za (e1,rngW 0 j.toNat):=by
 unfold zbt;rw[h];show (match zbi e1 xs with|some [.int j]=>if zby j then Za (e1,rngW 0 j.toNat) else Zb|_=>Zb)=_;rw[a];show (if zby j then Za (e1,rngW 0 j.toNat) else Zb)=_;rw[if_pos b]
theorem band (a b:Nat):Builtin.bitAnd (a:Int) (b:Int)=((a &&& b:Nat):Int):=by rw[bitAnd_pp (Et a) (Et b)];rfl
theorem z6t (h:as en=Za (e1,xs))(b:zbi e1 xs=Za #v[3,16])(a:zby i=Zd)(h4:zby j=Zd):zmv as en=Za (e1,rngW i (j-i).toNat):=by
 unfold zmv;rw[h];show (match zbi e1 xs with|some #v[3,16]=>if zby i&&zby j then Za (e1,rngW i (j-i).toNat) else Zb|_=>Zb)=_;rw[b];show (if zby i&&zby j then Za (e1,rngW i (j-i).toNat) else Zb)=_;rw[if_pos (by rw[a,h4];rfl)]
noncomputable def tab (n:Nat) (f:Nat->Int):List Int:=(List.range n).map f
theorem za8 (n:Nat)(f:Nat->Int):(tab n f).length=n:=by unfold tab;rw[Ac,Be]
theorem zdp (h:i<n):(tab n f)[i]?=Za (f i):=by unfold tab;rw[Ak,Hl h];rfl
theorem tab_ext (h:∀i,i<n->f i=g i):tab n f=tab n g:=by
 refine Cv λi a=>h i (Az.mp a)
theorem zlb (n:Nat)(f g:Nat->Int)(h:Int->Int->Int):List.zipWith h (tab n f) (tab n g)=tab n λi=>h (f i) (g i):=by
 apply Ea;intro i;by_cases a:i<n
 ·rw[List.getElem?_zipWith,zdp a,zdp a,zdp a]
 ·rw[Ck (by rw[Hk,za8];symm),Ck (by rw[za8];symm)]
theorem zaq (h:∀i,i<n->Bit (f i)):Bits (tab n f):=λx b=>by
 obtain⟨i,a,rfl⟩:=Bd.mp b;exact h i (Az.mp a)
theorem zk4 (a b:Nat)(f:Nat->Int):tab (a+b) f=tab a f++tab b λi=>f (a+i):=by
 unfold tab;rw[List.range_add,Bx,Ca]
 rfl
theorem zet (n:Nat):tab n (λ_=>0)=List.replicate n 0:=by unfold tab;rw[List.map_const',Be]
theorem zc7 (n:Nat):wordOf (List.replicate n 0)=0:=by
 induction n with
 |zero=>rfl
 |succ n i=>rw[Df,zb9,i];rfl
theorem zup (g:s<=n)(h:∀i,n-s<=i->f i=0):wordOf (tab n f)*2^s=wordOf (tab n λi=>if i<s then 0 else f (i-s)):=by
 obtain⟨k,rfl⟩ : ∃k,n=k+s:=⟨n-s,by symm⟩;have c:tab (k+s) f=tab k f++List.replicate s 0:=by
  rw[zk4,<-zet];refine congrArg _ (tab_ext λi _=>h (k+i) #v[])
 have e:tab (k+s) (λi=>if i<s then 0 else f (i-s))=List.replicate s 0++tab k f:=by
  rw[Nat.add_comm,zk4,<-zet];have a:tab s (λi=>if i<s then 0 else f (i-s))=tab s λ_=>0:=tab_ext λi d=>if_pos d;have b:(tab k λi=>if s+i<s then 0 else f (s+i-s))=tab k f:=tab_ext λi _=>by rw[if_neg #v[]];congr 1;symm
  rw[a,b]
 rw[c,e,za9,za9,zc7,Ev,Int.mul_zero,Int.add_zero,Fp,Int.mul_comm]
noncomputable def zgc (s:Nat) (i:Nat):Int:=if i/s%2=0 then 1 else 0
noncomputable def zke (s:Nat) (f:Nat->Int) (i:Nat):Int:=if i/s%2=1 then (f i+f (i-s))%2 else f i
theorem zka (s i:Nat):Bit (zgc s i):=by unfold zgc;split<;>first|exact .inr rfl|exact .inl rfl
theorem z6z (h:Bit a)(c:Bit b):dif a b=(a+b)%2:=by rcases h with rfl|rfl<;>rcases c with rfl|rfl<;>decide
theorem dif_zero (h:Bit a):dif a 0=a:=by rcases h with rfl|rfl<;>decide
theorem z04 (h:∀i,Bit (f i))(i:Nat):Bit (zke s f i):=by
 unfold zke;split
 ·have:=Hh (f i+f (i-s)) (show (2:Int)≠0 by decide);unfold Bit;symm
 ·exact h i
theorem zv0 (h:∀i,Bit (f i)) (s0:0 < s) (d:n=s * (2 * c)) (q:0 < c):Builtin.bitXor (wordOf (tab n f)) (Builtin.bitAnd (wordOf (tab n f)) (wordOf (tab n (zgc s))) * 2 ^ s)=wordOf (tab n (zke s f)):=by
  have g:s<=n:=by rw[d];exact Nat.le_mul_of_pos_right s #v[]
  have top:∀i,n - s<=i->i < n->i / s % 2=1:=fun i l p=>by
    have e:i / s=2 * c - 1:=by
      have o:s * (2 * c - 1)<=i:=by rw[Nat.mul_sub,Nat.mul_one,<-d];exact l
      have m:i < s * (2 * c - 1)+s:=by
        have : s * (2 * c - 1) + s = n := by rw [Nat.mul_sub]; have : s ≤ s * (2 * c) := by rw [<- d]; exact g
                                             symm
        symm
      exact Nat.div_eq_of_lt_le (by rw[Nat.mul_comm];exact o) (by rw[Nat.add_mul,Nat.one_mul,Nat.mul_comm];exact m)
    symm
  have k:tab n (fun i=>f i * zgc s i)=tab n (fun i=>if i < n then f i * zgc s i else 0):=tab_ext fun i a=>(if_pos a).symm;rw [zff (zaq fun i _=>h i) (zaq fun i _=>zka s i),zlb,k,zup g (fun i a=>by
    split
    · rename_i z
      have:zgc s i=0:=by unfold zgc;rw[if_neg (by rw[top i a z];decide)]
      rw[this,Int.mul_zero]
    · rfl),zik (zaq λi _=>h i) (zaq λi a=>?_) (by rw[za8,za8]),zlb]
  · refine congrArg wordOf (tab_ext fun i a => ?_)
    by_cases b:i<s
    · rw [if_pos b, dif_zero (h i)]
      unfold zke;rw[if_neg (by rw[Nat.div_eq_of_lt b];decide)]
    · have e:i / s=(i - s) / s+1:=by
        have:=Nat.add_div_right (i - s) s0;rw[show i - s+s=i by symm] at this;exact this
      rw[if_neg b,if_pos #v[]];unfold zke zgc;by_cases j:i / s % 2=1
      · rw[if_pos j,if_pos #v[],Int.mul_one,z6z (h i) (h (i - s))]
      · rw[if_neg j,if_neg #v[],Int.mul_zero,dif_zero (h i)]
  · split
    · exact .inl rfl
    · split
      · exact ye0 (h _) (zka s _)
      · exact .inl rfl
noncomputable def six6 (m j:Int):Prop:=(0<=j/\j<m/\m<=6)
theorem yg5 (h:six6 m j):(m=1/\j=0)\/(m=2/\(j=0\/j=1))\/(m=3/\(j=0\/j=1\/j=2))\/(m=4/\(j=0\/j=1\/j=2\/j=3))\/(m=5/\(j=0\/j=1\/j=2\/j=3\/j=4))\/(m=6/\(j=0\/j=1\/j=2\/j=3\/j=4\/j=5)):=by
 obtain⟨a,b,c⟩:=h;symm
theorem z94 (h:six6 m j):yesW m/(1*2^(1*2^j.toNat:Int).toNat+1)=wordOf (tab (2^m.toNat) (zgc (2^j.toNat))):=by
 rcases yg5 h with⟨rfl,rfl⟩|⟨rfl,rfl|rfl⟩|⟨rfl,rfl|rfl|rfl⟩|⟨rfl,rfl|rfl|rfl|rfl⟩|⟨rfl,rfl|rfl|rfl|rfl|rfl⟩|⟨rfl,rfl|rfl|rfl|rfl|rfl|rfl⟩<;>decide +kernel
noncomputable def zpz (Ψ:Str->Fn):GS:=(gRet (gOp2 #v[0,0,3] #v[4,20] (gArg (gOp2 oAdd (gArg (gOp2 #v[0,0,1] #v[1] #v[0,11])) #v[1]))))
noncomputable def zym (Ψ:Str->Fn):GS:=(gSeq (gSet [] 3 (zac [Zc,Zc] (Ψ "times") (gCns #v[1,4] (gCns (gArg (zac [Zc,Zc] (Ψ "letter_no") (gCns #v[0,4] #v[9,11]))) gA0)))) (gRet (zac [Zc,Zc] (Ψ "plus") (gCns #v[1,4] (gCns (gArg (gOp2 #v[0,0,1] (zaa 3) (gArg (gOp2 #v[0,0,1] #v[1] (zaa 2))))) gA0)))))
noncomputable def NoOk (Φ:Fn):Prop:=∀m j:Int,six6 m j->Φ [.int m,.int j]=Za ([.int m,.int j],(.int (wordOf (tab (2^m.toNat) (zgc (2^j.toNat)))),Zc))
theorem yib (b:zg5 (Ψ "all_yes")):NoOk (zad [Zc,Zc] 2 (zpz Ψ)):=λm j h=>by
 have c:=h;obtain⟨a,g,e⟩:=c;have d:cDiv (yesW m) (1*2^(1*2^j.toNat:Int).toNat+1)=Zd:=by
  have f:j=0\/j=1\/j=2\/j=3\/j=4\/j=5:=by symm
  rcases f with rfl|rfl|rfl|rfl|rfl|rfl<;>exact zso #v[0,9] #v[0,9]
 exact zat rfl (z4a (op2_0 (arg_0 (zja rfl rfl (b m #v[] e) rfl)) (arg_0 (op2_0 (arg_0 (op2_0 rfl (arg_0 (op2_0 rfl rfl rfl rfl (oI_t (cP1 a #v[])))) rfl rfl (oI_t (cP2 a #v[])))) rfl rfl rfl rfl)) rfl rfl ((oI_t d).trans (by rw[z94 h])))) rfl
noncomputable def z6a (Φ:Fn):Prop:=∀(m j:Int) (f:Nat->Int),six6 m j->(∀i,Bit (f i))->Φ #v[9,18]=Za (#v[9,18],(.int (wordOf (tab (2^m.toNat) (zke (2^j.toNat) f))),Zc))
theorem yaq (hN:NoOk (Ψ "letter_no"))(hA:z11 (Ψ "times"))(hX:zog (Ψ "plus")):z6a (zad [Zc,Zc,Zc] 4 (zym Ψ)):=λm j f h g=>by
 have l:=h;obtain⟨d,p,n⟩:=l;have sz:=ygf d (show j<=6 by symm);have b:Bits (tab (2^m.toNat) f):=zaq λi _=>g i;have e:Bits (tab (2^m.toNat) (zgc (2^j.toNat))):=zaq λi _=>zka _ i;have t:=hA (wordOf (tab (2^m.toNat) f)) (wordOf (tab (2^m.toNat) (zgc (2^j.toNat))));generalize a:Builtin.bitAnd (wordOf (tab (2^m.toNat) f)) (wordOf (tab (2^m.toNat) (zgc (2^j.toNat))))=lo at t;have q:0<=lo/\lo<2^64:=by
  rw[<-a,zff b e];have o:=zr6 (λ_ _=>ye0) b e;have w:=zdt o;refine⟨w.1,Hq w.2 ?_⟩;rw[Hk,za8,za8];rcases ycq (show 0<=m by symm) n with rfl|rfl|rfl|rfl|rfl|rfl|rfl<;>decide
 have k:(1*2^j.toNat:Int).toNat=2^j.toNat:=by rw[Int.one_mul];exact Int.toNat_pow_of_nonneg #v[0,9] _
 have key:Builtin.bitXor (wordOf (tab (2^m.toNat) f)) (lo*2^(1*2^j.toNat:Int).toNat)=wordOf (tab (2^m.toNat) (zke (2^j.toNat) f)):=by
  rw[k,<-a];refine zv0 (c:=2^(m.toNat-j.toNat-1)) g (Dl #v[0,9]) ?_ (Dl #v[0,9]);rw[<-Nat.pow_succ',<-Nat.pow_add];congr 1;symm
 have x:=hX (wordOf (tab (2^m.toNat) f)) (lo*2^(1*2^j.toNat:Int).toNat);rw[key] at x;refine zat (en:=[#v[m,0],#v[(wordOf (tab (2^m.toNat) f)),0],#v[j,0],#v[lo,0]]) rfl ?_ rfl;refine (seq_nx (set_0 (zja (zs7 rfl (zs7 (arg_0 (zja rfl rfl (hN m j h) rfl)) rfl)) rfl t rfl) rfl)).trans ?_;exact z4a (zja (zs7 rfl (zs7 (arg_0 (r:=(.int (lo*2^(1*2^j.toNat:Int).toNat),Zc)) (op2_0 rfl (arg_0 (op2_0 rfl rfl rfl rfl (oI_t (cP1 d #v[])))) rfl rfl (oI_t (zl5 #v[] #v[] #v[])))) rfl)) rfl x rfl)
theorem z13 (n:Nat)(f:Nat->Int):tab (n+1) f=tab n f++[f n]:=by unfold tab;rw[Ex,Bx];rfl
theorem zkw (h:i<n):((tab n f).map W.int)[i]?=Za (.int (f i)):=by rw[Ak,zdp h];rfl
noncomputable def itF:Nat->(Nat->Int)->Nat->Int
 |0,f=>f
 |k+1,f=>zke (2^k) (itF k f)
theorem z53 (h:∀i,Bit (f i)):∀k i,Bit (itF k f i)
 |0,i=>h i
 |k+1,i=>z04 (z53 h k) i
noncomputable def rowF (m:Int) (f:Nat->Int) (k:Nat):Int:=wordOf (tab (2^m.toNat) (itF k f))
noncomputable def yay (Ψ:Str->Fn):GS:=(gSeq (gSet [] 2 (zau #v[4,13])) (gSeq (gFor [] (.nm 3) (zbt (gCns (zaa 0) gA0)) (zgk (gApp 2 (zac [Zc,Zc,Zc] (Ψ "stepped") #v[8,15])))) (gRet (gOpN zan (gCns (zaa 2) gA0)))))
noncomputable def zks (Φ:Fn):Prop:=∀(m:Int) (f:Nat->Int),0<=m->m<=6->(∀i,Bit (f i))->Φ [.int m,.int (rowF m f 0)]=Za ([.int m,.int (rowF m f 0)],(.tup ((tab (m.toNat+1) (rowF m f)).map W.int),Zc))
theorem z1e (o:z6a (Ψ "stepped")):zks (zad [Zc,Zc] 4 (yay Ψ)):=λm f u p l=>by
 have s:(1000:Nat)<=sizeLine:=by decide
 have r:(zbt (gCns (zaa 0) gA0)) #v[8,11]=Za (#v[8,11],rngW 0 m.toNat):=by
  show (if zby m then Za ((#v[8,11]:En),rngW 0 m.toNat) else Zb)=_;unfold zby;rw[Ag #v[],Ag #v[]]
  rfl
 obtain⟨n,h,q⟩:=zbv (mp:=[]) (T:=(.nm 3))
  (λi e=>∃b,e=[#v[m,0],#v[(rowF m f 0),0],#v[((tab (i+1) (rowF m f)).map W.int),2],b]) r ⟨Zb,rfl⟩
  (by
   rintro i w e j ⟨b,rfl⟩;obtain⟨t,rfl⟩:=zb3 j;have c:=o m (0+i) (itF i f) ⟨by symm,by symm,p⟩ (z53 l i);have d:(0+(i:Int)).toNat=i:=by symm
   rw[d] at c;have g:(tab (i+1) (rowF m f)).length=i+1:=za8 _ _;have k:(zac [Zc,Zc,Zc] (Ψ "stepped") #v[8,15]) #v[4,10]=Za (#v[4,10],(.int (rowF m f (i+1)),Zc)) :=
    zja (zs7 rfl (zs7 (arg_0 (op2_0 rfl rfl rfl rfl (zrb rfl (by rw[Fp];exact zbk (zkw #v[]))))) rfl)) rfl c rfl
   refine⟨#v[4,10],[#v[m,0],#v[(rowF m f 0),0],#v[((tab (i+1+1) (rowF m f)).map W.int),2],#v[(0+(i:Nat)),0]],rfl,.inl ?_,_,rfl⟩;have a:=z5n (i:=2) rfl k rfl (by rw[Ac];symm);rw[z13 (i+1),Bx];exact expr_ev a)
 obtain⟨b,rfl⟩:=q;rw[zcc] at h;refine zat (en:=[#v[m,0],#v[(rowF m f 0),0],#v[((tab (m.toNat+1) (rowF m f)).map W.int),2],b]) rfl ?_ rfl;exact (seq_nx rfl).trans ((seq_nx h).trans rfl)
noncomputable def zf1 (p:Nat):List Nat:=(List.range (p+1)).filter λo=>o &&& p==o
noncomputable def zam (f:Nat->Int) (p:Nat):Int:=((zf1 p).map f).sum%2
noncomputable def evS (L:List Nat) (f:Nat->Int) (S:Nat):Int:=((L.filter λi=>S.testBit i).map f).sum
theorem ev_xor (f:Nat->Int) (A B:Nat):∀L:List Nat,evS L f (A ^^^ B)%2=(evS L f A+evS L f B)%2
 |[]=>rfl
 | i::L=>by
  have a:=ev_xor f A B L;unfold evS at a ⊢;rw[Do,Do,Do,Cc];cases A.testBit i<;>cases B.testBit i<;>simp only [Gu,Bool.xor_true,Fw,Gv,Gn,if_false,Ax,Ds,Fq]<;>symm
noncomputable def itS:Nat->Nat->Nat
 |0,i=>2^i
 |k+1,i=>if i/2^k%2=1 then itS k i ^^^ itS k (i-2^k) else itS k i
theorem zy1:∀i:Fin 64,(List.range 64).filter (λj=>(2^i.val).testBit j)=[i.val]:=by decide +kernel
theorem z8g (h:∀i,Bit (f i)):∀k i,i<64->itF k f i=evS (List.range 64) f (itS k i)%2
 | 0,i,d=>by
  unfold evS itS itF;rw[zy1 ⟨i,d⟩];show f i=(f i+0)%2;rcases h i with e|e<;>rw[e]<;>rfl
 | k+1,i,d=>by
  have a:=z8g h k i d;have b:=z8g h k (i-2^k) (Gk (Nat.sub_le _ _) d);unfold itF itS zke;by_cases c:i/2^k%2=1
  ·rw [if_pos c,if_pos c,ev_xor]
   symm
  ·rw[if_neg c,if_neg c,a]
theorem zyr:∀m:Fin 7,∀p:Fin (2^m.val),(List.range 64).filter (λj=>(itS m.val p.val).testBit j)=zf1 p.val:=by decide +kernel
theorem zxo (h:∀i,Bit (f i))(a:m<=6)(b:p<2^m):itF m f p=zam f p:=by
 have lt:2^m<=2^6:=Bj #v[0,9] a;rw[z8g h m p #v[]];unfold evS zam;rw[zyr ⟨m,by symm⟩ ⟨p,b⟩]
theorem zzo (h:o∈zf1 p):o<=p:=by
 have:=Az.mp (Bl.mp h).1;symm
theorem z6x (g:Nat->Int)(h:t<64):zam g t=evS (List.range 64) g (itS 6 t)%2:=by
 unfold evS zam;rw[zyr ⟨6,by decide⟩ ⟨t,h⟩]
theorem zd2 (n:Nat)(f:Nat->Int):tab (n+1) f=tab n f++[f n]:=by unfold tab;rw[Ex,Bx];rfl
theorem zh8:∀(p:Nat) (xs:List Int),Bits xs->Builtin.bitAnd (wordOf xs/2^p) 1=xs.getD p 0
 | p,[],_=>by
  show Builtin.bitAnd ((0:Int)/2^p) 1=0;rw[Int.zero_ediv,zst]
 | 0,x::xs,h=>by
  have a:=zk0 (ze4 h.tail) (Int.le_refl 0) h.head (show Bit 1 from .inr rfl);rw[bitAnd_zero] at a;show Builtin.bitAnd (wordOf (x::xs)/1) 1=x;rw[Int.ediv_one,zb9];have e:(2*0+1:Int)=1:=rfl;rw[e] at a;symm
 | p+1,x::xs,h=>by
  have i:=zh8 p xs h.tail;have e:wordOf (x::xs)/2^(p+1)=wordOf xs/2^p:=by
   rw[zb9,Int.pow_succ,Int.mul_comm ((2:Int)^p) 2,<-Int.ediv_ediv_of_nonneg #v[0,9]];congr 1;rcases h.head with q|q<;>rw[q]<;>symm
  rw[e,i]
  rfl
theorem zss (h:∀i,n<=i->f i=0)(p:Nat):(tab n f).getD p 0=f p:=by
 rw[Au];by_cases c:p<n
 ·rw[zdp c];rfl
 ·rw[Ck (by rw[za8];symm),h p #v[]];rfl
noncomputable def dueL (f:Nat->Int) (n:Nat):List Nat:=(List.range n).filter λp=>decide (f p=1)
noncomputable def castL (M:List Nat):List W:=M.map λp:Nat=>W.int p
theorem zqm (M:List Nat):castL M=(M.map λp:Nat=>(p:Int)).map W.int:=by unfold castL;rw[Ca];rfl
theorem zaf (M:List Nat):(castL M).length=M.length:=Ac ..
theorem za7 {i:Nat}{w:W}(h:(castL M)[i]?=Za w):∃p,M[i]?=Za p/\w=.int (p:Nat):=by
 unfold castL at h;rw[Ak] at h;obtain⟨p,b,a⟩:=Option.map_eq_some_iff.mp h;exact⟨p,b,a.symm⟩
theorem z5i (h:∀p,a<=p->q p=Zc)(d:a<=b):(List.range b).filter q=(List.range a).filter q:=by
 obtain⟨k,rfl⟩ : ∃k,b=a+k:=⟨b-a,by symm⟩;rw[List.range_add,Es];have e:((List.range k).map (a + ·)).filter q=[]:=List.filter_eq_nil_iff.mpr λx c=>by
  obtain⟨j,_,rfl⟩:=Bd.mp c;rw[h (a+j) #v[]]
  decide
 rw[e,Bu]
theorem z79 (h:∀i,Bit (f i)):∀n,((dueL f n).length:Int)=(tab n f).sum
 |0=>rfl
 | n+1=>by
  have a:=z79 h n;unfold dueL at a ⊢;rw[Ex,Es,Bb,zd2,List.sum_append,<-a];rcases h n with e|e
  ·rw[Fh (by rw[e];decide),e];rfl
  ·rw[Fg (by rw[e];decide),e];rfl
theorem yai (h:0<=w):w<2^Builtin.Int.intBits w:=by
 unfold Builtin.Int.intBits;by_cases z:w=0
 ·subst z;decide
 ·rw[if_neg (by simpa using z)];have a:=Nat.lt_log2_self (n:=w.natAbs);have e:=Int.natAbs_of_nonneg h;have c:=Int.ofNat_lt.mpr a;rw[e] at c;exact c
theorem z0m (h:∀i,Bit (f i))(d:∀i,n<=i->f i=0):(List.range (Builtin.Int.intBits (wordOf (tab n f)))).filter (λp=>decide (f p=1))=dueL f n:=by
 have b:=zaq (n:=n) λi _=>h i;have c:=ze4 b;have e:∀p,n<=p->decide (f p=1)=Zc:=λp a=>At (by rw[d p a];decide);have q:∀p,Builtin.Int.intBits (wordOf (tab n f))<=p->decide (f p=1)=Zc:=λp a=>by
  have s:=zh8 p _ b;have lt:wordOf (tab n f)<2^p:=Hq (yai c) (by
   have:=Bj (n:=2) #v[0,9] a
   exact_mod_cast this)
  rw[Int.ediv_eq_zero_of_lt c lt,zss d] at s;exact At (by rw[<-s];decide)
 unfold dueL;rw[<-z5i e (Nat.le_max_left n (Builtin.Int.intBits (wordOf (tab n f)))),<-z5i q (Nat.le_max_right n _)]
theorem zq4 (f g h:Nat->Int):∀n,wordOf (tab n f)+wordOf (tab n g)-wordOf (tab n h)=wordOf (tab n λi=>f i+g i-h i)
 |0=>rfl
 | n+1=>by
  have a:=zq4 f g h n;rw[zd2,zd2,zd2,zd2,za9,za9,za9,za9,za8,za8,za8,za8];show _+2^n*(2*0+f n)+(_+2^n*(2*0+g n))-(_+2^n*(2*0+h n))=_+2^n*(2*0+(f n+g n-h n));rw[show (2*0+f n)=f n by symm,show (2*0+g n)=g n by symm,show (2*0+h n)=h n by symm,show (2*0+(f n+g n-h n))=f n+g n-h n by symm,Int.mul_sub,Int.mul_add];symm
theorem z3x (h:p<n):(1*2^p:Int)=wordOf (tab n λi=>if i=p then 1 else 0):=by
 obtain⟨k,rfl⟩ : ∃k,n=p+(1+k):=⟨n-p-1,by symm⟩;have a:(tab p λi=>if i=p then (1:Int) else 0)=List.replicate p 0:=by
  rw[<-zet];exact tab_ext λi c=>if_neg #v[]
 have e:(tab k λi=>if p+(1+i)=p then (1:Int) else 0)=List.replicate k 0:=by
  rw[<-zet];exact tab_ext λi c=>if_neg #v[]
 have b:(tab 1 λi=>if p+i=p then (1:Int) else 0)=[1]:=by
  show [if p+0=p then (1:Int) else 0]=[1];rw[if_pos #v[]]
 rw[zk4,zk4,a,e,b,za9,zc7,Ev];show _=0+2^p*(2*wordOf (List.replicate k 0)+1);rw[zc7];symm
theorem yei (x y:Int):Builtin.bitOr x y=x+y-Builtin.bitAnd x y:=by
 have h:=zjp x y;have e:Builtin.bitXor x y=Builtin.bitOr x y-Builtin.bitAnd x y:=rfl;symm
theorem zxa (h:∀i,Bit (f i))(a:p<n):Builtin.bitOr (wordOf (tab n f)) (1*2^p)=wordOf (tab n λi=>if i=p then 1 else f i):=by
 rw[z3x a,yei,zff (zaq λi _=>h i) (zaq λi _=>by split<;>first|exact .inr rfl|exact .inl rfl),zlb,zq4];refine congrArg wordOf (tab_ext λi _=>?_);by_cases c:i=p
 ·rw[if_pos c];symm
 ·rw[if_neg c];symm
theorem z5s (d:en[i]?=Za (#v[w,6]))(b:g en=Za (e1,x))(h:resA e1 x=Za u)(a:o w u=Za r)(c:(mp.contains i || !decide (i<e1.length))=Zc):gAug mp o i g en=Za (e1.set i (Za r),.nx):=by
 unfold gAug;rw[d];rw[b];show (resA e1 x).bind _=_;rw[h];show (o w u).bind _=_;rw[a];rw[c]
 rfl
noncomputable def ybx (Ψ:Str->Fn):GS:=(gRet (gOp2 #v[3,13] (gArg (gOp2 (oI (λ_ j=>decide (0<=j)) λi j=>.int (i / 2 ^ j.toNat)) (zaa 0) (zaa 1))) #v[1]))
noncomputable def zr5 (Φ:Fn):Prop:=∀(n p:Nat) (f:Nat->Int),(∀i,Bit (f i))->(∀i,n<=i->f i=0)->Φ #v[7,21]=Za (#v[7,21],(.int (f p),Zc))
theorem z9u (Ψ:Str->Fn):zr5 (zad [Zc,Zc] 2 (ybx Ψ)):=λn p f h b=>by
 have s:=zh8 p _ (zaq (n:=n) λi _=>h i);rw[zss b] at s;have a:gArg (gOp2 (oI (λ_ j=>decide (0<=j)) λi j=>.int (i / 2 ^ j.toNat)) (zaa 0) (zaa 1)) #v[4,21]=Za (#v[4,21],.inl (.int (wordOf (tab n f)/2^p))):=arg_0 (op2_0 (y:=.inl (.int (p:Nat))) rfl rfl rfl rfl (oI_t (Ag (Et p))));refine zat rfl (z4a (op2_0 a (show gArg (gC (.int 1)) _=Za (_,.inl (.int 1)) from rfl) rfl rfl ?_)) rfl;show Za (W.int (Builtin.bitAnd (wordOf (tab n f)/2^p) 1),Zc)=_;rw[s]
noncomputable def z62 (Ψ:Str->Fn):GS:=(gRet (gOpN zan (gCns (gArg (zbl #v[2,19] (.nm 1) (zbt #v[4,17]) (zaj #v[6,17]) (gVar 1))) gA0)))
noncomputable def zgo (Φ:Fn):Prop:=∀(n:Nat) (f:Nat->Int),(∀i,Bit (f i))->(∀i,n<=i->f i=0)->n<=64->Φ [.int (wordOf (tab n f))]=Za ([.int (wordOf (tab n f))],(.tup (castL (dueL f n)),Zc))
theorem z2c (u:zr5 (Ψ "says")):zgo (zad [Zc] 1 (z62 Ψ)):=λn f h d m=>by
 have B:(1000:Nat)<=sizeLine:=by decide
 have s:=ze4 (zaq (n:=n) λi _=>h i);have j:(wordOf (tab n f))<2^64:=by
  have b:=zdt (zaq (n:=n) λi _=>h i);rw[za8] at b;refine Hq b.2 ?_;have:=Bj (n:=2) #v[0,9] m
  exact_mod_cast this
 have bl:Builtin.Int.intBits (wordOf (tab n f))<=64:=by
  unfold Builtin.Int.intBits;split
  ·decide
  ·rename_i z;have l:((wordOf (tab n f))).natAbs≠0:=by
    intro q;exact z (by rw[Int.natAbs_eq_zero.mp q];rfl)
   have:=(Nat.log2_lt l).mpr (by
    have e:=Int.natAbs_of_nonneg s;rw[<-e] at j
    exact_mod_cast j)
   symm
 have o:(zbt #v[4,17]) #v[2,20]=Za (#v[2,20],rngW 0 (Builtin.Int.intBits (wordOf (tab n f)))):=by
  have r:=zxc (as:=#v[4,17]) (en:=#v[2,20]) rfl rfl (z7q #v[] #v[]);rw[r]
  rfl
 obtain⟨A,out,k,x⟩:=zee (cap:=#v[2,19]) (T:=(.nm 1)) (te:=(gVar 1)) (λi c g=>(∃v0 a,c=[v0,a,#v[(wordOf (tab n f)),0]])/\g=castL ((List.range i).filter λp=>decide (f p=1))) o rfl (by rw[zcc];symm) ⟨⟨_,_,rfl⟩,rfl⟩
  (by
   rintro i w c g y ⟨⟨v0,a,rfl⟩,rfl⟩;obtain⟨C,rfl⟩:=zb3 y;rw[Fp];have t:(zaj #v[6,17]) #v[9,12]=Za (#v[9,12],decide (f i=1)):=ycd (op2_0 (arg_0 (zja rfl rfl (u n i f h d) rfl)) (show gArg (gC (.int 1)) _=Za (_,.inl (.int 1)) from rfl) rfl rfl rfl);refine⟨#v[9,12],rfl,?_⟩;by_cases b:f i=1
   ·rw[Ag b] at t;refine .inl ⟨_,#v[9,12],(.int (i:Nat),Zc),t,rfl,⟨_,_,rfl⟩,?_⟩;unfold castL;rw[Ex,Es,Bx,Fg (p:=λp=>decide (f p=1)) (Ag b)]
    rfl
   ·rw[At b] at t;refine .inr ⟨_,t,⟨_,_,rfl⟩,?_⟩;rw[Ex,Es,Fh (by rw[At b];decide),Ei,Bu])
 obtain⟨⟨v0,a,rfl⟩,rfl⟩:=x;rw[zcc,z0m h d] at k;exact zat rfl (ret_ev (zwp (cns_ev (zcb k) rfl) rfl rfl)) rfl
noncomputable def znl (Ψ:Str->Fn):GS:=(gSeq (gSet [] 1 (gC (.int 0))) (gSeq (gFor [] (.nm 2) (zap (gVar 0)) #v[1,10]) (zdz [] 1)))
noncomputable def zg9 (Φ:Fn):Prop:=∀(n:Nat) (M:List Nat),n<=64->(∀p∈M,p<n)->Φ [.tup (castL M)]=Za ([.tup (castL M)],(.int (wordOf (tab n λi=>if i∈M then 1 else 0)),Zc))
theorem zt9 (Ψ:Str->Fn):zg9 (zad [Zc] 3 (znl Ψ)):=λn M s hM=>by
 have z:(wordOf (tab n λi=>if i∈M.take 0 then 1 else 0))=0:=by
  have:(tab n λi=>if i∈M.take 0 then (1:Int) else 0)=List.replicate n 0:=by
   rw[<-zet];exact tab_ext λi _=>if_neg (by rw[Dy];exact Br)
  rw[this,zc7]
 obtain⟨r,d,h⟩:=zbv (mp:=[]) (T:=(.nm 2)) (it:=(zap (gVar 0))) (body:=#v[1,10])
  (λj e=>∃b,e=[#v[(castL M),3],#v[(wordOf (tab n λi=>if i∈M.take j then 1 else 0)),0],b]) (en:=[#v[(castL M),3],#v[0,0],Zb]) (e0:=[#v[(castL M),3],#v[0,0],Zb]) rfl ⟨Zb,by rw[z]⟩
  (by
   rintro j w e k ⟨b,rfl⟩;obtain⟨p,h,rfl⟩:=za7 k;have g:p<n:=hM p (Bn h);have o:=zxa (f:=λi=>if i∈M.take j then 1 else 0) (λi=>by show Bit (if _ then _ else _);split<;>first|exact .inr rfl|exact .inl rfl) g;have l:(tab n λi=>if i=p then (1:Int) else if i∈M.take j then 1 else 0)=tab n λi=>if i∈M.take (j+1) then 1 else 0:=tab_ext λi _=>by
    have m:i∈M.take (j+1)↔(i∈M.take j\/i=p):=by
     rw[Dz,h,Bh];show _\/i∈[p]↔_;rw[As]
    by_cases c:i=p
    ·rw[if_pos c,if_pos (m.mpr (.inr c))]
    ·rw[if_neg c];by_cases a:i∈M.take j
     ·rw[if_pos a,if_pos (m.mpr (.inl a))]
     ·rw[if_neg a,if_neg (λq=>(m.mp q).elim a c)]
   rw[l] at o;refine⟨[#v[(castL M),3],#v[(wordOf (tab n λi=>if i∈M.take j then 1 else 0)),0],#v[(p:Nat),0]],[#v[(castL M),3],#v[(wordOf (tab n λi=>if i∈M.take (j+1) then 1 else 0)),0],#v[(p:Nat),0]],rfl,.inl (z5s rfl (arg_0 (op2_0 rfl rfl rfl rfl (oI_t (zl5 #v[] #v[] #v[0,9])))) rfl ?_ rfl),_,rfl⟩;show Za (W.int (Builtin.bitOr (wordOf (tab n λi=>if i∈M.take j then 1 else 0)) (1*2^p)),Zc)=_;rw[o])
 obtain⟨b,rfl⟩:=h;rw[zaf,Cp] at d;exact zat rfl ((seq_nx rfl).trans ((seq_nx d).trans rfl)) rfl
theorem zgq:∀ws:List W,za6 (ws.map Sum.inl)=Za ws
 |[]=>rfl
 |w::ws=>by show (za6 (ws.map Sum.inl)).bind _=_;rw[zgq ws];rfl
theorem zid:∀{xs:List (W ⊕ Nat)}{ws:List W},za6 xs=Za ws->xs=ws.map Sum.inl
 |[],_,e=>by obtain rfl:=sI e;rfl
 | .inl w::xs,_,e=>by
  obtain⟨ws,h,e⟩:=bS (show (za6 xs).bind _=_ from e);obtain rfl:=sI e;rw[zid h];rfl
 |.inr _::_,_,e=>by exact noSome e
theorem zmu (m:List Bool) (a:(m.all λb=>!b)=Zd) (h:xs.map isR=m):∃ws:List W,xs=ws.map Sum.inl:=by
 induction xs generalizing m with
 |nil=>exact⟨[],rfl⟩
 | cons x xs c =>
  cases m with
  |nil=>cases h
  | cons b m =>
   injection h with h1 h2;rw[Cb,Ae] at a;obtain⟨ws,e⟩:=c m a.2 h2;cases x with
   |inl w=>exact⟨w::ws,by rw[e];rfl⟩
   |inr i=>rw[<-h1] at a;cases a.1
theorem zh2:∀{m:List Bool} (a:(m.all λb=>!b)=Zd) (ws:List W),ws.length=m.length->(ws.map λ_=>Zc)=m
 |[],_,[],_=>rfl
 |[],_,_::_,h=>by cases h
 |_::_,_,[],h=>by cases h
 | b::m,a,w::ws,h=>by
  rw[Cb,Ae] at a;rw[Ax,zh2 a.2 ws (by simpa using h)];cases b with
  |false=>rfl
  |true=>cases a.1
theorem zcn (m:List Bool) (Φ:Fn) (as:GAs) (en:En) (f:(m.all λb=>!b)=Zd):zac m Φ as en=(as en).bind λp=>(za6 p.2).bind λws=>if ws.length=m.length then (Φ ws).bind λq=>if q.1.length=m.length then Za (p.1,q.2) else Zb else Zb:=by
 cases ha:as en with
 |none=>unfold zac;rw[ha];rfl
 | some p =>
  obtain⟨c,x⟩:=p;show _=(za6 x).bind _;cases hf:za6 x with
  | none =>
   unfold zac;rw[ha];show (if (decide (x.map isR=m)&&_&&_)=Zd then _ else Zb)=Zb;rw[At (λz=>by obtain⟨ws,e⟩:=zmu m f z;rw[e,zgq] at hf;cases hf)]
   rfl
  | some ws =>
   have g:=zid hf;subst g;show _=if ws.length=m.length then _ else Zb;by_cases a:ws.length=m.length
   ·rw [if_pos a]
    have d:=zh2 f ws a;cases hq:Φ ws with
    | none =>
     unfold zac;rw[ha];show (if (decide ((ws.map Sum.inl).map isR=m)&&zbc c (ws.map Sum.inl)&&zc1 (zbw (ws.map Sum.inl)))=Zd then _ else _)=_;have e:(ws.map Sum.inl).map isR=m:=by rw[<-d,Ca];rfl
     rw[Ag e,zfe,zh4];rw[zco];show (Φ ws).bind _=_;rw[hq]
     rfl
    | some q =>
     obtain⟨w,r⟩:=q;show _=if w.length=m.length then Za (c,r) else Zb;by_cases h:w.length=m.length
     ·rw [if_pos h]
      exact zlu ha d hq #v[]
     ·rw [if_neg h]
      unfold zac;rw[ha];show (if (decide ((ws.map Sum.inl).map isR=m)&&zbc c (ws.map Sum.inl)&&zc1 (zbw (ws.map Sum.inl)))=Zd then _ else _)=_;have e:(ws.map Sum.inl).map isR=m:=by rw[<-d,Ca];rfl
      rw[Ag e,zfe,zh4];rw[zco];show (Φ ws).bind _=_;rw[hq];show (if w.length=m.length then _ else Zb)=Zb;rw[if_neg h]
   ·rw [if_neg a]
    unfold zac;rw[ha];show (if (decide ((ws.map Sum.inl).map isR=m)&&_&&_)=Zd then _ else Zb)=Zb;rw[At (λz=>a (by rw[<-z,Ac,Ac]))]
    rfl
theorem zed (m:List Bool) (Φ:Fn) (as:GAs) (en:En) (A:(m.all λb=>!b)=Zd):zac (Zd::m) Φ as en=(as en).bind λp=>match p.2 with
  | .inr i::x=>(za6 x).bind λc=>(match p.1[i]? with
   | some (Za (s,Zd))=>if c.length=m.length then (Φ (s::c)).bind λq=>(match q.1 with
    |o::u=>if u.length=m.length then Za (p.1.set i (#v[o,5]),q.2) else Zb
    |[]=>Zb) else Zb
   |_=>Zb)
  |_=>Zb:=by
 cases k:as en with
 |none=>unfold zac;rw[k];rfl
 | some p =>
  obtain ⟨d,x⟩:=p;have base:zac (Zd::m) Φ as en=if decide (x.map isR=Zd::m)&&zbc d x&&zc1 (zbw x) then (zbi d x).bind λc=>(Φ c).bind λq=>if q.1.length=(Zd::m).length then Za (za4 (zbw x) d (zbj (Zd::m) q.1),q.2) else Zb else Zb:=by
   unfold zac;rw[k];rfl
  have a:x.map isR≠Zd::m->zac (Zd::m) Φ as en=Zb:=λz=>by rw[base,At z];rfl
  have f:zbc d x=Zc->zac (Zd::m) Φ as en=Zb:=λz=>by rw[base,z,Fj];rfl
  simp only [Fe]
  match x,k,base,a,f with
  |[],k,_,a,_=>rw[a (by simp)]
  |.inl w::x,k,_,a,_=>rw[a (by simp [isR])]
  | .inr i::x,k,base,a,f =>
   simp only;cases hf:za6 x with
   | none=>rw [a (λz=>by
     injection z with _ z;obtain⟨c,e⟩:=zmu m A z;rw[e,zgq] at hf;cases hf)];rfl
   | some c =>
    have D:=zid hf;subst D;simp only [Fe];have B:(∀s,d[i]?≠Za (Za (s,Zd)))->zbc d (.inr i::c.map Sum.inl)=Zc:=λz=>by
     unfold zbc;rw [Cb];have:(match d[i]? with | some (Za (_,Zd))=>Zd | _=>Zc)=Zc:=by
      split
      ·rename_i q;exact absurd q (z _)
      ·rfl
     simp only [Ee]
    split
    ·rename_i s h
     by_cases t:c.length=m.length
     ·rw [if_pos t]
      have C:=zh2 A c t;cases l:Φ (s::c) with
      | none =>
       rw[base];split
       ·have y:zbi d (.inr i::c.map Sum.inl)=Za (s::c):=by
         show (resA d (.inr i)).bind _=_;have:resA d (.inr i)=Za s:=by unfold resA;simp only [h]
         rw[this];rw[zco]
         rfl
        rw[y];show (Φ (s::c)).bind _=_;rw[l]
        rfl
       ·rfl
      | some q =>
       obtain ⟨g,r⟩:=q;simp only [Fe];have n:g.length≠(Zd::m).length->zac (Zd::m) Φ as en=Zb:=λz=>by
        rw[base];split
        ·have y:zbi d (.inr i::c.map Sum.inl)=Za (s::c):=by
          show (resA d (.inr i)).bind _=_;have:resA d (.inr i)=Za s:=by unfold resA;simp only [h]
          rw[this];rw[zco]
          rfl
         rw[y];show (Φ (s::c)).bind _=_;rw[l];show (if g.length=(Zd::m).length then _ else Zb)=Zb;rw[if_neg z]
        ·rfl
       match g,l,n with
       |[],l,n=>rw[n (by simp)]
       | o::u,l,n =>
        simp only;by_cases j:u.length=m.length
        ·rw [if_pos j]
         exact zsl k (by rw[C]) h l #v[]
        ·rw[if_neg j,n (by simpa using j)]
     ·rw [if_neg t,a (λz=>t (by
       have:=congrArg List.length z;simpa using this))]
    ·rename_i h
     exact f (B λs z=>h s z)
theorem oI_e {c:Int->Int->Bool}{g:Int->Int->W}{i j:Int}:oI c g (.int i) (.int j)=if c i j then #v[g i j,6] else Zb:=rfl
theorem ydo {i j:Int}:yes2 i j=Zd:=rfl
theorem z4f {ws:List W}:seqW (.tup ws)=Za ws:=rfl
theorem z09 {ws:List W}:seqW (.lst ws)=Za ws:=rfl
theorem z1s {ws:List W}:seqL (.lst ws)=Za ws:=rfl
theorem yhr {a:W}{i:Int}:oIx a (.int i)=(seqW a).bind λws=>(atI ws i).bind λw=>#v[w,6]:=by cases a<;>rfl
theorem yed {en:En}{w:W}:resA en (.inl w)=Za w:=rfl
theorem yeh {en:En}{i:Nat}:resA en (.inr i)=match en[i]? with|some (Za (w,_))=>Za w|_=>Zb:=by
 rfl
theorem yhj {i j:Int}:oEq (.int i) (.int j)=Za #v[7,17]:=rfl
theorem yhp {i j:Int}:oNe (.int i) (.int j)=Za (.bl (!decide (i=j)),false):=rfl
theorem z34 {w:W}{xs:List (W ⊕ Nat)}:za6 (.inl w::xs)=(za6 xs).bind λws=>Za (w::ws):=rfl
theorem z33:za6 []=Za []:=rfl
theorem yat {en:En}{x:W ⊕ Nat}{xs:List (W ⊕ Nat)}:zbi en (x::xs)=(resA en x).bind λw=>(zbi en xs).bind λws=>Za (w::ws):=rfl
theorem z8v {en:En}:zbi en []=Za []:=rfl
theorem z8h {b:Bool}{m:List Bool}{w:W}{ws:List W}:zbj (b::m) (w::ws)=Za (w,b)::zbj m ws:=rfl
theorem z97 {ws:List W}:zbj [] ws=[]:=by unfold zbj;simp
theorem yfu {en:En}:zc0 [] [] en=Za []:=rfl
theorem yfj {m:List Bool}{w u:W}{ws:List W}{en:En}:zc0 (Zd::m) (u::ws) (#v[w,5]::en)=(zc0 m ws en).bind λr=>Za (w::r):=rfl
theorem yby {m:List Bool}{w:W}{ws:List W}{x:Option (W×Bool)}{en:En}:zc0 (Zc::m) (w::ws) (x::en)=(zc0 m ws en).bind λr=>Za (w::r):=rfl
theorem yin {x:W}{xs:List W}:atI (x::xs) 0=Za x:=by
 have:=zbk (xs:=x::xs) (i:=0) rfl;exact this
theorem ygk {x y:W}{xs:List W}:atI (x::y::xs) 1=Za y:=by
 have:=zbk (xs:=x::y::xs) (i:=1) rfl;exact this
theorem ygs {x y z:W}{xs:List W}:atI (x::y::z::xs) 2=Za z:=by
 have:=zbk (xs:=x::y::z::xs) (i:=2) rfl;exact this
theorem z1k {n:Nat}:((no_index (OfNat.ofNat n):Nat):Int)=(OfNat.ofNat n:Int):=rfl
theorem z4u {xs ys:List W}:oAdd (.lst xs) (.lst ys)=if xs.length+ys.length<=sizeLine then #v[(xs++ys),2] else Zb:=by
 by_cases h:xs.length+ys.length<=sizeLine
 ·rw[if_pos h];exact zjz h
 ·rw [if_neg h];show oOr oCat (oOr z2k (oOr z67 z17)) (.lst xs) (.lst ys)=Zb;have e:oCat (.lst xs) (.lst ys)=Zb:=by
   show (if xs.length+ys.length<=sizeLine then _ else Zb)=Zb;rw[if_neg h]
  unfold oOr;rw[e]
  rfl
theorem zot:oIsi .int .non=Za #v[3,8]:=rfl
theorem ztr {b:Bool}:oIsi .int (.bl b)=Za #v[9,8]:=rfl
theorem zow {n:Int}:oIsi .int (.int n)=Za #v[9,8]:=rfl
theorem zpu {x:Str}:oIsi .int (.str x)=Za #v[3,8]:=rfl
theorem zp3 {xs:List W}:oIsi .int (.tup xs)=Za #v[3,8]:=rfl
theorem zo2 {xs:List W}:oIsi .int (.lst xs)=Za #v[3,8]:=rfl
theorem zpv:oIsi .int .dic=Za #v[3,8]:=rfl
theorem zmp:oIsi .bool .non=Za #v[3,8]:=rfl
theorem zp4 {b:Bool}:oIsi .bool (.bl b)=Za #v[9,8]:=rfl
theorem zly {n:Int}:oIsi .bool (.int n)=Za #v[3,8]:=rfl
theorem zl6 {x:Str}:oIsi .bool (.str x)=Za #v[3,8]:=rfl
theorem zmr {xs:List W}:oIsi .bool (.tup xs)=Za #v[3,8]:=rfl
theorem zm9 {xs:List W}:oIsi .bool (.lst xs)=Za #v[3,8]:=rfl
theorem zmz:oIsi .bool .dic=Za #v[3,8]:=rfl
theorem zqc:oIsi .str .non=Za #v[3,8]:=rfl
theorem zs1 {b:Bool}:oIsi .str (.bl b)=Za #v[3,8]:=rfl
theorem zn8 {n:Int}:oIsi .str (.int n)=Za #v[3,8]:=rfl
theorem zpf {x:Str}:oIsi .str (.str x)=Za #v[9,8]:=rfl
theorem zp2 {xs:List W}:oIsi .str (.tup xs)=Za #v[3,8]:=rfl
theorem zpt {xs:List W}:oIsi .str (.lst xs)=Za #v[3,8]:=rfl
theorem zp9:oIsi .str .dic=Za #v[3,8]:=rfl
theorem zkd:oIsi .tuple .non=Za #v[3,8]:=rfl
theorem znj {b:Bool}:oIsi .tuple (.bl b)=Za #v[3,8]:=rfl
theorem zkt {n:Int}:oIsi .tuple (.int n)=Za #v[3,8]:=rfl
theorem zkn {x:Str}:oIsi .tuple (.str x)=Za #v[3,8]:=rfl
theorem zkz {xs:List W}:oIsi .tuple (.tup xs)=Za #v[9,8]:=rfl
theorem zjx {xs:List W}:oIsi .tuple (.lst xs)=Za #v[3,8]:=rfl
theorem zk6:oIsi .tuple .dic=Za #v[3,8]:=rfl
theorem zm6:oIsi .list .non=Za #v[3,8]:=rfl
theorem zor {b:Bool}:oIsi .list (.bl b)=Za #v[3,8]:=rfl
theorem zl0 {n:Int}:oIsi .list (.int n)=Za #v[3,8]:=rfl
theorem zmd {x:Str}:oIsi .list (.str x)=Za #v[3,8]:=rfl
theorem znu {xs:List W}:oIsi .list (.tup xs)=Za #v[3,8]:=rfl
theorem zn3 {xs:List W}:oIsi .list (.lst xs)=Za #v[9,8]:=rfl
theorem zmc:oIsi .list .dic=Za #v[3,8]:=rfl
theorem ygq {i j:Bool}:oEq (.bl i) (.bl j)=Za #v[7,17]:=rfl
theorem ygv {i j:Bool}:oNe (.bl i) (.bl j)=Za (.bl (!decide (i=j)),false):=rfl
theorem yik {i j:Str}:oEq (.str i) (.str j)=Za #v[7,17]:=rfl
theorem yit {i j:Str}:oNe (.str i) (.str j)=Za (.bl (!decide (i=j)),false):=rfl
theorem yhk {i j:Bool}:oIs (.bl i) (.bl j)=Za #v[7,17]:=rfl
theorem ydp {f:List Bool->Bool}{bs:List Bool}:oBl f [.lst (bs.map W.bl)]=Za (.bl (f bs),Zc):=by
 show (blsOf (bs.map W.bl)).bind _=_;rw[zd1];rfl
theorem zig (p:it en=Za (e0,ws)) (s:ws.length<=1000) (k:rs.length=ws.length) (n:zc1 cap=Zd) (o:(capKeep cap).contains 1=Zc) (l:ze8 cap e0=Zb::Zb::xs) (j:∀v0 v1,za4 cap e0 (v0::v1::xs)=e0)
  (m:∀(i:Nat) v0 w r,ws[i]?=Za w->rs[i]?=Za r->∃u f,te (v0::#v[w,6]::xs)=Za (v0::u::xs,(r,f))) :
  zbl cap (.nm 1) it gYes te en=Za (e0,(.lst rs,Zd)):=by
 have t:(1000:Nat)<=sizeLine:=by decide
 obtain⟨q,out,g,a⟩:=zee (T:=.nm 1) (tc:=gYes) (λi c d=>(∃v0 v1,c=v0::v1::xs)/\d=rs.take i) p n #v[] ⟨⟨_,_,l⟩,rfl⟩
  (λi w c d e a=>by
   obtain⟨⟨v0,v1,rfl⟩,rfl⟩:=a;have lt:=(Ap.mp e).1;have b:rs[i]?=Za rs[i]:=Ab #v[];obtain⟨u,f,h⟩:=m i v0 w _ e b;refine⟨v0::#v[w,6]::xs,?_,.inl ⟨_,_,_,rfl,h,⟨_,_,rfl⟩,?_⟩⟩
   ·show (if (capKeep cap).contains 1 || !decide (1<(v0::v1::xs).length) then Zb else _)=_;rw[o]
    rfl
   ·show rs.take i ++ [rs[i]]=rs.take (i+1);rw[Dz,b];rfl)
 obtain⟨⟨v0,v1,rfl⟩,rfl⟩:=a;rw[j,<-k,Cp] at g;exact g
theorem zav (h:T.find? (·.nm==x)=Za t)(a:zai T bn (sem T bn (d+2)) (d+2) t=Za g):sem T bn (d+3) x=zad t.m t.N.length g:=by
 show (match T.find? (·.nm==x) with|some t=>fnAt T bn (sem T bn (d+2)) (d+2) t|none=>λ_=>Zb)=_;rw[h];show fnAt T bn (sem T bn (d+2)) (d+2) t=_;unfold fnAt;rw[a]
noncomputable def evA:=And.intro @oI_e ( And.intro @ydo ( And.intro @z0w ( And.intro @z4u ( And.intro @z4f ( And.intro @z09 ( And.intro @z1s ( And.intro @yhr ( And.intro @yed ( And.intro @yeh ( And.intro @yhj ( And.intro @yhp ( And.intro @ygq ( And.intro @ygv ( And.intro @yik ( And.intro @yit ( And.intro @yhk ( And.intro @ydp ( And.intro @z34 ( And.intro @z33 ( And.intro @yat ( And.intro @z8v ( And.intro @z8h ( And.intro @z97 ( And.intro @yfu ( And.intro @yfj ( And.intro @yby ( And.intro (λΦ as en=>zcn [Zc] Φ as en rfl) ( And.intro (λΦ as en=>zcn [Zc,Zc] Φ as en rfl) ( And.intro (λΦ as en=>zcn [Zc,Zc,Zc] Φ as en rfl) ( And.intro (λΦ as en=>zcn [Zc,Zc,Zc,Zc] Φ as en rfl) ( And.intro (λΦ as en=>zed [] Φ as en rfl) ( And.intro (λΦ as en=>zed [Zc] Φ as en rfl) ( And.intro (λΦ as en=>zed [Zc,Zc] Φ as en rfl) ( And.intro (λΦ as en=>zed [Zc,Zc,Zc] Φ as en rfl) ( And.intro @yin ( And.intro @ygk ( And.intro @ygs ( And.intro @Ic ( And.intro @zot ( And.intro @ztr ( And.intro @zow ( And.intro @zpu ( And.intro @zp3 ( And.intro @zo2 ( And.intro @zpv ( And.intro @zmp ( And.intro @zp4 ( And.intro @zly ( And.intro @zl6 ( And.intro @zmr ( And.intro @zm9 ( And.intro @zmz ( And.intro @zqc ( And.intro @zs1 ( And.intro @zn8 ( And.intro @zpf ( And.intro @zp2 ( And.intro @zpt ( And.intro @zp9 ( And.intro @zkd ( And.intro @znj ( And.intro @zkt ( And.intro @zkn ( And.intro @zkz ( And.intro @zjx ( And.intro @zk6 ( And.intro @zm6 ( And.intro @zor ( And.intro @zl0 ( And.intro @zmd ( And.intro @znu ( And.intro @zn3 ( And.intro @zmc ( And.intro @z1k ( And.intro @Option.bind_some.{0,0} ( And.intro @Option.bind_none.{0,0} ( And.intro @List.length_cons.{0} ( And.intro @List.length_nil.{0} ( And.intro @List.getElem?_cons_zero.{0} ( And.intro @List.getElem?_cons_succ.{0} ( And.intro @List.set_cons_zero.{0} ( And.intro @List.set_cons_succ.{0} ( And.intro @List.nil_append.{0} ( And.intro @List.cons_append.{0} ( And.intro @List.contains_nil.{0} ( And.intro @Bool.false_or ( And.intro @Bool.or_false ( And.intro @Fw ( And.intro @Gv ( And.intro @Dv ( And.intro @Nat.lt_add_one ( And.intro @Nat.zero_lt_succ ( And.intro @decide_true ( And.intro @decide_false ( And.intro @Du ( And.intro @List.elem_nil.{0} ( And.intro @List.elem_cons.{0} ( And.intro @Fq ( And.intro @Bool.true_eq_false ( And.intro @Bool.or_self ( And.intro @Bool.and_self ( And.intro @Bool.true_and ( And.intro @Ee ( And.intro @Fx ( And.intro @Fj ( And.intro @Bool.true_or ( And.intro @Bool.or_true ( And.intro @Ef ( And.intro @gVar.eq_1 ( And.intro @zaa.eq_1 ( And.intro @gC.eq_1 ( And.intro @gArg.eq_1 ( And.intro @gA0.eq_1 ( And.intro @gCns.eq_1 ( And.intro @gOp1.eq_1 ( And.intro @gOp2.eq_1 ( And.intro @gOpN.eq_1 ( And.intro @zaj.eq_1 ( And.intro @gAnd.eq_1 ( And.intro @gOr.eq_1 ( And.intro @gNot.eq_1 ( And.intro @zir.eq_1 ( And.intro @gOrT.eq_1 ( And.intro @ze2.eq_1 ( And.intro @gIf.eq_1 ( And.intro @zbb.eq_1 ( And.intro @zau.eq_1 ( And.intro @zln.eq_1 ( And.intro @zbx.eq_1 ( And.intro @ze5.eq_1 ( And.intro @gSl.eq_1 ( And.intro @zap.eq_1 ( And.intro @zbt.eq_1 ( And.intro @zmv.eq_1 ( And.intro @gRev.eq_1 ( And.intro @zbp.eq_1 ( And.intro @gBrk.eq_1 ( And.intro @gCnt.eq_1 ( And.intro @gSeq.eq_1 ( And.intro @gRet.eq_1 ( And.intro @yhg.eq_1 ( And.intro @gIfS.eq_1 ( And.intro @zgk.eq_1 ( And.intro @gSet.eq_1 ( And.intro @gAsg.eq_1 ( And.intro @gPar.eq_1 ( And.intro @zbo.eq_1 ( And.intro @gApp.eq_1 ( And.intro @gExt.eq_1 ( And.intro @gAug.eq_1 ( And.intro @gYes.eq_1 ( And.intro @zdz.eq_1 ( And.intro @gZip.eq_1 ( And.intro @ztt.eq_1 ( And.intro @zad.eq_1 ( And.intro @yil.eq_1 (@yh0.eq_1)))))))))))))))))))))))))))))))))))))))))))))))))))))))))))))))))))))))))))))))))))))))))))))))))))))))))))))))))))))))))))))))))))))))))))))))))))))))))))))
end L2
local macro_rules | `(tactic| simp! [$xs,*])=>do let a <- ("L2.evA L2.tgSet L2.keyW L2.oNeg L2.oLen L2.setAll List.replicate List.contains eq_self Nat.reduceAdd Nat.reduceSub Nat.reduceLT Nat.reduceLeDiff reduceIte reduceCtorEq Nat.reduceEqDiff Nat.reduceBEq Int.reduceEq Int.reduceLE Int.reduceLT Int.reduceAdd Int.reduceSub Int.reduceMul Int.reduceNeg".splitOn " ").mapM fun x=>`(Lean.Parser.Tactic.simpLemma| $(Lean.mkIdent x.toName):ident);`(tactic| simp only [↓reduceIte,$(.ofElems ((a.toArray.map fun x=>⟨x⟩)++xs.getElems)),*])
namespace L2
open PySem PySem.Spec PyProof.Rows
theorem b_var (h:en[i]?=Za (#v[w,6])):gVar i en=Za (en,(w,Zc)):=by
 have e:en.set i (#v[w,6])=en:=by
  refine Ea λj=>?_;rw[List.getElem?_set];split
  ·rename_i z;subst z;obtain⟨a,_⟩:=Ap.mp h;rw[if_pos a,h]
  ·rfl
 unfold gVar;rw[h];show Za (en.set i _,_)=_;rw[e]
theorem b_va (h:en[i]?=Za (#v[w,6])):zaa i en=Za (en,.inl w):=by unfold zaa;rw[h]
theorem b_arg (h:g en=Za (e1,(w,f))):gArg g en=Za (e1,.inl w):=zcb h
theorem b_cg (h:g en=Za (e1,(w,f)))(a:as e1=Za (e2,xs)):gCns (gArg g) as en=Za (e2,.inl w::xs):=cns_ev (zcb h) a
theorem b_a0:gA0 en=Za (en,[]):=rfl
theorem b_c:gC w en=Za (en,(w,Zc)):=rfl
theorem b_tp (h:a en=Za (e1,.inl w))(c:b e1=Za (e2,.inl u))(d:o w u=Za r):gOp2 o a b en=Za (e2,r):=zcg h c rfl rfl d
theorem b_call (h:as en=Za (e1,xs))(c:za6 xs=Za ws)(d:Φ ws=Za (ws',r))(a:((m.all λb=>!b)&&(ws.length==m.length)&&(ws'.length==m.length))=Zd):zac m Φ as en=Za (e1,r):=by
 rw[Ae,Ae] at a;rw[zcn m Φ as en a.1.1,h];show (za6 xs).bind _=_;rw[c];show (if ws.length=m.length then _ else _)=_;rw[if_pos (Bp a.1.2),d];show (if ws'.length=m.length then _ else _)=_;rw[if_pos (Bp a.2)]
theorem b_ifT (h:c en=Za (e1,t))(e:t=Zd)(d:a e1=r):gIfS c a b en=r:=by subst e;exact (z7h h).trans d
theorem b_ifF (h:c en=Za (e1,t))(e:t=Zc)(d:b e1=r):gIfS c a b en=r:=by subst e;exact (z98 h).trans d
theorem b_orF (h:a en=Za (e1,t))(d:t=Zc)(c:b e1=r):gOrT a b en=r:=by subst d;exact (yh1 h).trans c
theorem b_aT (h:a en=Za (e1,(.bl t,f)))(d:t=Zd)(c:b e1=r):gAnd a b en=r:=by unfold gAnd;rw[h,d];exact c
theorem b_asg (h:g en=Za (e1,(w,f)))(a:tgSet mp T w e1=Za e2):gAsg mp T g en=Za (e2,.nx):=by
 unfold gAsg;rw[h];show (tgSet mp T w e1).bind _=_;rw[a];rfl
theorem b_seqI (h:g en=Za (e1,(w,f)))(a:seqW w=Za ws):zap g en=Za (e1,ws):=by
 unfold zap;rw[h];show (seqW w).bind _=_;rw[a];rfl
theorem b_opN (a:as en=Za (e1,xs))(h:(zbi e1 xs).bind o=Za r):gOpN o as en=Za (e1,r):=by
 obtain⟨w,b,h⟩:=bS h;exact zwp a b h
theorem b_op1 (b:a en=Za (e1,x))(h:(resA e1 x).bind o=Za r):gOp1 o a en=Za (e1,r):=by
 obtain⟨w,c,h⟩:=bS h;exact ygg b c h
theorem b_rvU (h:en[i]?=Za (#v[w,6])):zdz mp i en=Za (en,.ret (w,Zc)):=by unfold zdz;rw[h]
theorem b_fn (b:ws.length=m.length)(h:g (zbj m ws++List.replicate (n-m.length) Zb)=Za (en,.ret r))(a:zc0 m ws en=Za ws'):zad m n g ws=Za (ws',r):=zat b h a
end L2
local macro_rules | `(tactic| simp_arith only [$xs,*])=>do let z <- `(tactic| fail);let f:=fun (s:String)=>(s.splitOn " ").foldrM (fun x r=>`(tactic| first | apply $(Lean.mkIdent (Lean.Name.mkStr `L2 x)) | $r:tactic)) z;let a <- f "b_a0 b_c b_var b_va b_cg cns_ev b_arg b_call b_tp b_op1 b_opN set_ev test_ev ret_ev b_rvU expr_ev notT_ev tupD_ev lstD_ev b_ifT b_orF b_aT b_asg b_seqI b_fn";let b <- f "b_ifF seq_rt";let s <- `(tactic| simp_arith only [$xs,*]);let e <- `(tactic| simp! [$xs,*]);`(tactic| focus first | ((with_reducible $a:tactic);all_goals $s:tactic) | ((with_reducible $b:tactic);all_goals $s:tactic) | (with_reducible assumption) | exact rfl | exact ⟨_,rfl⟩ | ($e:tactic;(try exact rfl);done))
local macro_rules | `(tactic| simp_arith [$xs,*])=>`(tactic| (apply Eq.trans;all_goals simp_arith only [$xs,*]))
namespace L2
open PySem PySem.Spec PyProof.Rows
noncomputable def tmW (t:List Nat):W:=.tup (t.map λl=>.int (l:Nat))
noncomputable def z0b:Nat->Nat->Nat->Nat->List (List Nat)
 |_,_,_,0=>[[]]
 |0,_,_,_+1=>[]
 |f+1,l,m,k+1=>(if l<m then (z0b f (l+1) m k).map (l :: ·)++z0b f (l+1) m (k+1) else [])
noncomputable def zab (m most:Nat):List (List Nat):=(List.range (most+1)).flatMap λk=>z0b (m+1) 0 m k
theorem zvg {α:Type}{ts:List α} (f:α->W) (p:α->Bool) (g:α->W) (z:it en=Za (e0,ts.map f)) (B:ts.length<=1000) (y:zc1 cap=Zd) (x:(capKeep cap).contains 1=Zc) (o:ze8 cap e0=Zb::Zb::xs) (n:∀v0 v1,za4 cap e0 (v0::v1::xs)=e0)
  (s:∀v0 a,a∈ts->∃u,tc (v0::#v[f a,6]::xs)=Za (v0::u::xs,p a)/\(p a=Zd->∃j b,te (v0::u::xs)=Za (v0::j::xs,(g a,b)))) :
  zbl cap (.nm 1) it tc te en=Za (e0,(.lst ((ts.filter p).map g),Zd)):=by
 have C:(1000:Nat)<=sizeLine:=by decide
 obtain ⟨A,out,l,e⟩:=zee (T:=.nm 1) (λi c k=>(∃v0 v1,c=v0::v1::xs)/\k=((ts.take i).filter p).map g) z y (by rw [Ac];symm) ⟨⟨_,_,o⟩,rfl⟩
  (λi w c k h e=>by
   obtain⟨⟨v0,v1,rfl⟩,rfl⟩:=e;rw[Ak] at h;cases ha:ts[i]? with
   |none=>rw[ha] at h;exact noSome h
   | some a =>
    rw[ha] at h;obtain rfl:=sI h;obtain⟨u,d,m⟩:=s v0 a (Bn ha);have t:ts.take (i+1)=ts.take i++[a]:=by rw[Dz,ha];rfl
    refine⟨v0::#v[f a,6]::xs,?_,?_⟩
    ·show (if (capKeep cap).contains 1 || !decide (1<(v0::v1::xs).length) then Zb else _)=_
     rw[x]
     rfl
    ·cases q:p a with
     | true =>
      obtain⟨j,b,r⟩:=m q;rw[q] at d;refine .inl ⟨_,_,_,d,r,⟨_,_,rfl⟩,?_⟩;rw[t,Es,Bx,Fg q];rfl
     | false =>
      rw[q] at d;refine .inr ⟨_,d,⟨_,_,rfl⟩,?_⟩;rw[t,Es,Fh (by rw[q];decide),Ei,Bu])
 obtain⟨⟨v0,v1,rfl⟩,rfl⟩:=e;rw[n,Ac,Cp] at l;exact l
theorem ze0 (h:a en=Za (e1,.inl (.int (n:Nat))))(c:n<=1000000):zbt (gCns a gA0) en=Za (e1,rngW 0 n):=by
 have r:zby (n:Int)=Zd:=by
  unfold zby;rw[Ag #v[],Ag #v[]];rfl
 have b:gCns a gA0 en=Za (e1,[.inl (.int (n:Nat))]):=by unfold gCns;rw[h];rfl
 have:=zxc b rfl r;exact this
theorem pow1 {l:Nat}(h:l<=100):cPow 1 (l:Int)=Zd:=by
 unfold cPow;rw[Ag #v[],Ag #v[]];rfl
theorem za1 (l:Nat):(1:Int)*2^l=((2^l:Nat):Int):=by rw[Int.one_mul];norm_cast
noncomputable def hasT (t:List Nat) (p:Nat):Bool:=t.all λl=>decide (p/2^l%2=1)
noncomputable def valF (ts:List (List Nat)) (p:Nat):Int:=(((ts.filter λt=>hasT t p).length%2:Nat):Int)
theorem zcp (h:m<=6):2^m<=64:=Bj #v[0,9] h
theorem zxx:∀m most:Fin 7,(zab m.val most.val).length<=64/\∀t∈zab m.val most.val,t.length<=6/\∀l∈t,l<m.val:=by decide +kernel
theorem zcl (h:m<=6)(a:most<=6):(zab m most).length<=64/\∀t∈zab m most,t.length<=6/\∀l∈t,l<m:=zxx ⟨m,by symm⟩ ⟨most,by symm⟩
theorem zm3 {α:Type}(f:α->PyData):∀l:List α,PyData.shownAll (l.map f)=l.map λx=>(f x).shown
 |[]=>rfl
 |x::l=>by rw[Ax,PyData.shownAll,zm3 f l];rfl
theorem zgh {α:Type} (f:α->PyData):∀l:List α,(∀x∈l,(f x).depth<=c)->PyData.depthAll (l.map f)<=c
 |[],_=>Bm _
 | x::l,h=>by
  rw[Ax,PyData.depthAll];have:=h x (An ..);have:=zgh f l λy a=>h y (Ai _ a);symm
theorem zef {α:Type}(f:α->PyData):∀l:List α,(∀x∈l,(f x).canLay0=Zd)->PyData.canLayAll0 (l.map f)=Zd
 |[],_=>rfl
 |x::l,h=>by rw[Ax,PyData.canLayAll0,h x (An ..),zef f l λy a=>h y (Ai _ a)];rfl
theorem zkx {α:Type}(f:α->W)(g:α->PyData)(h:∀x,dW (f x)=Za (g x)):∀l:List α,dWs (l.map f)=Za (l.map g)
 |[]=>rfl
 |x::l=>by rw[Ax,dWs,h x,zkx f g h l];rfl
noncomputable def ndI (ns:List Int):PyData:=.tuple (ns.map .int)
theorem z8u (ns:List Int):dW (.tup (ns.map W.int))=Za (ndI ns):=by
 rw[dW,zkx W.int .int (λ_=>by rw[dW]) ns];rfl
noncomputable def zgg (Ψ:Str->Fn):GE:=zbl [Zb,Zb] (.nm 1) (zap (gVar 1)) gYes (zac [Zc] (Ψ "word_at") #v[4,13])
noncomputable def zi6 (Ψ:Str->Fn):GS:=(gSeq (gSet [] 2 (zac [Zc] (Ψ "word_at") (gCns (gArg (zgg Ψ)) gA0))) (gRet (gOp2 oIx (gArg (zac [Zc,Zc] (Ψ "steps") (gCns #v[0,4] #v[9,11]))) (zaa 0))))
noncomputable def zzt (Ψ:Str->Fn):GE:=zwj [Zb,Zb,Zb,Za 0] (.nm 1) (zap (gVar 1)) gYes (.nm 2) (zmv (gCns (gArg (gOp2 oAdd (gArg (zkm (zaa 1) (gOp1 oNeg #v[1]))) #v[1])) #v[0,18])) gYes (gOp2 oAdd (zaa 1) (gArg (zbb #v[9,11])))
noncomputable def zlt (Ψ:Str->Fn):GS:=(gRet (zzt Ψ))
noncomputable def zzh (Ψ:Str->Fn):GS:=(gSeq (gSet [] 3 (zac [Zc,Zc] (Ψ "longer_terms") (gCns #v[1,4] #v[4,19]))) (zum [] 4 (gVar 3)))
noncomputable def zxr (Ψ:Str->Fn):GS:=gFor [] (.nm 5) (zbt (gCns (zaa 2) gA0)) (zzh Ψ)
noncomputable def zfv (Ψ:Str->Fn):GS:=(gSeq (gAsg [] (.tp [1,2]) (gVar 0)) (gSeq (gSet [] 3 (zau (gCns (gArg (zbb gA0)) gA0))) (gSeq (gSet [] 4 (zau (gCns (gArg (zbb gA0)) gA0))) (gSeq (zxr Ψ) (gRet #v[7,18])))))
theorem seq_e (h:a en=Za (e1,.nx))(c:b e1=r):gSeq a b en=r:=(seq_nx h).trans c
noncomputable def bitF (p i:Nat):Int:=((p/2^i%2:Nat):Int)
theorem bitF_word:∀p:Fin 64,wordOf (tab 6 (bitF p.val))=(p.val:Int):=by decide +kernel
theorem bitF_bit (p i:Nat):Bit (bitF p i):=by unfold bitF Bit;symm
theorem bitF_hi (h:p<2^n)(a:n<=i):bitF p i=0:=by
 unfold bitF;rw[Nat.div_eq_of_lt (Aw h (Bj #v[0,9] a))];rfl
noncomputable def letL (p:Nat):List Nat:=dueL (bitF p) 6
noncomputable def zao (t:List Nat):Nat:=(t.map λl=>2^l).sum
noncomputable def keyI (t:List Nat):List Int:=(t.length:Int)::t.map λl:Nat=>(l:Int)
theorem zcd:∀p:Fin 64,zao (letL p.val)=p.val:=by decide +kernel
theorem zzi:∀q p:Fin 64,hasT (letL q.val) p.val=(q.val &&& p.val==q.val):=by decide +kernel
theorem zjn:∀m:Fin 7,((List.range (2^m.val)).map letL).isPerm (zab m.val m.val)=Zd:=by decide +kernel
theorem zmk:∀m:Fin 7,(zab m.val m.val).Pairwise λa b=>lexI (keyI b) (keyI a)=Zc:=by decide +kernel
theorem zsy:∀m:Fin 7,∀p:Fin (2^m.val),(List.range (2^m.val)).filter (λq=>q &&& p.val==q)=zf1 p.val:=by decide +kernel
theorem z37:∀p:Fin 64,(zf1 p.val).foldr (λq a=>itS 6 q ^^^ a) 0=2^p.val:=by decide +kernel
theorem z7o (a:p<64)(h:q∈zf1 p):q<64:=by have:=zzo h;symm
theorem zn2 (f:Nat->Int):∀L:List Nat,(∀q∈L,q<64)->((L.map (zam f)).sum)%2=evS (List.range 64) f (L.foldr (λq a=>itS 6 q ^^^ a) 0)%2
 | [],_=>by
  have:evS (List.range 64) f 0=0:=by
   unfold evS;rw[List.filter_eq_nil_iff.mpr (λi _=>by rw[Cg];decide)];rfl
  show (0:Int)%2=evS (List.range 64) f 0%2;rw[this]
 | q::L,h=>by
  have d:=zn2 f L λx b=>h x (Ai _ b);have c:=z6x f (h q (An ..));rw[Ax,Ds,List.foldr_cons,ev_xor];symm
theorem zre (h:∀i,Bit (f i))(a:p<64):zam (zam f) p=f p:=by
 show ((zf1 p).map (zam f)).sum%2=f p;rw[zn2 f (zf1 p) λq b=>z7o a b,z37 ⟨p,a⟩];unfold evS;rw[zy1 ⟨p,a⟩];show (f p+0)%2=f p;rcases h p with e|e<;>rw[e]<;>rfl
theorem coef_bit (f:Nat->Int)(p:Nat):Bit (zam f p):=by unfold zam Bit;symm
noncomputable def duT (m:Nat) (f:Nat->Int):List (List Nat):=(zab m m).filter λt=>decide (zam f (zao t)=1)
noncomputable def plL (m:Nat) (f:Nat->Int):List Nat:=(List.range (2^m)).filter λq=>decide (zam f q=1)
theorem zu6 (f:Nat->Int)(a:m<=6):((plL m f).map letL).Perm (duT m f):=by
 have b:=zcp a;have p:=(List.isPerm_iff.mp (zjn ⟨m,by symm⟩)).filter λt=>decide (zam f (zao t)=1);rw[List.filter_map] at p;have e:(List.range (2^m)).filter ((λt=>decide (zam f (zao t)=1)) ∘ letL)=plL m f:=Hv λq h=>by
  show decide (zam f (zao (letL q))=1)=_;have:=Az.mp h;rw[zcd ⟨q,by symm⟩]
 rw[e] at p;exact p
theorem zji (b:m<=6)(h:t∈zab m m):∃q,q<2^m/\t=letL q:=by
 have:=(List.isPerm_iff.mp (zjn ⟨m,by symm⟩)).mem_iff.mpr h;obtain⟨q,a,rfl⟩:=Bd.mp this;exact⟨q,Az.mp a,rfl⟩
theorem zjy (a:m<=6)(h:t∈zab m m):zao t<2^m:=by
 have p:=zcp a;obtain⟨q,b,rfl⟩:=zji a h;rw[zcd ⟨q,by symm⟩];exact b
theorem zzm (g:Nat->Int) (h:∀i,Bit (g i)):∀L:List Nat,(L.map g).sum=((L.filter λq=>decide (g q=1)).length:Nat)
 |[]=>rfl
 | q::L=>by
  rw[Ax,Ds,zzm g h L,Do];rcases h q with e|e
  ·rw[e,if_neg #v[0,9]];symm
  ·rw[e,if_pos #v[0,9],Bg];symm
theorem val_du (h:∀i,Bit (f i))(a:m<=6)(d:p<2^m):valF (duT m f) p=f p:=by
 have g:=zcp a;have l:=((zu6 f a).filter λt=>hasT t p).length_eq;rw[List.filter_map,Ac] at l;have e:(plL m f).filter ((λt=>hasT t p) ∘ letL)=(zf1 p).filter λq=>decide (zam f q=1):=by
  rw[<-zsy ⟨m,by symm⟩ ⟨p,d⟩];unfold plL;rw[List.filter_filter,List.filter_filter];refine Hv λq b=>?_;have:=Az.mp b;show (hasT (letL q) p&&_)=_;rw[zzi ⟨q,by symm⟩ ⟨p,by symm⟩,Bool.and_comm]
 rw[e] at l;unfold valF;rw[<-l];have c:=zre h (p:=p) #v[];have s:=zzm (zam f) (coef_bit f) (zf1 p);have c:((zf1 p).map (zam f)).sum%2=f p:=c;rw[s] at c;symm
noncomputable def zju (t:List Nat):W:=.tup [.int (t.length:Nat),tmW t]
theorem zw9:∀t:List Nat,zo0 (t.map λl=>.int (l:Nat))=Za (t.map λl:Nat=>(l:Int))
 |[]=>rfl
 | l::t=>by
  show (zo0 (t.map λl=>.int (l:Nat))).bind _=_;rw[zw9 t];rfl
theorem yef (t:List Nat):kT (zju t)=Za (keyI t):=by
 show (zo0 (t.map λl=>.int (l:Nat))).bind _=_;rw[zw9];rfl
theorem zkl {α β γ:Type}{f:β->Option γ}{g:α->β}{k:α->γ} (h:∀a,f (g a)=Za (k a)):∀l:List α,mapO f (l.map g)=Za (l.map k)
 |[]=>rfl
 | a::l=>by
  show (f (g a)).bind _=_;rw[h a];rw[zkl h l];rfl
theorem zld:∀{t u:List Nat},(t.map λl:Nat=>(l:Int))=(u.map λl:Nat=>(l:Int))->t=u
 |[],[],_=>rfl
 |[],_::_,h=>by cases h
 |_::_,[],h=>by cases h
 | a::t,b::u,h=>by
  obtain⟨d,c⟩:=List.cons.inj h;rw[zld c,Int.ofNat.inj d]
theorem zw4 (h:keyI t=keyI u):t=u:=zld (List.cons.inj h).2
theorem zho:∀{l:List (List Int)},l.Nodup->zcy l=Zd
 |[],_=>rfl
 | x::b,h=>by
  have n:=Bt.mp h;unfold zcy;rw[Ae];exact⟨Bi.mpr λy a=>Ag λe=>n.1 (by rw[e];exact a),zho n.2⟩
noncomputable def ycv (t:List Nat):KP:=(keyI t,tmW t)
theorem zqn:∀ts:List (List Nat),(ts.map keyI).zip (ts.map tmW)=ts.map ycv
 |[]=>rfl
 |t::ts=>by rw[Ax,Ax,Da,zqn ts];rfl
theorem zus {ts us:List (List Nat)} (n:ts.Nodup) (p:ts.Perm us) (s:us.Pairwise λa b=>lexI (keyI b) (keyI a)=Zc):zvp (ts.map zju) (ts.map tmW)=Za (us.map tmW):=by
 have f:((mapO kI (ts.map zju)).orElse λ_=>mapO kT (ts.map zju))=Za (ts.map keyI):=by
  cases ts with
  |nil=>rfl
  | cons t ts =>
   have k:mapO kI ((t::ts).map zju)=Zb:=rfl;rw[k];exact zkl yef (t::ts)
 have d:zcy (ts.map keyI)=Zd:=zho (by
  rw[Bw,Cy];exact n.imp λ{a b} h e=>h (zw4 e))
 unfold zvp;rw [f];show (if zcy (ts.map keyI)&&decide ((ts.map keyI).length=(ts.map tmW).length) then Za ((zok ((ts.map keyI).zip (ts.map tmW))).map (·.2)) else Zb)=_;rw [d,Ag (by rw [Ac,Ac]),zqn];have e:=zep ((p.symm.map ycv).trans (zek _).symm) (by
  rw [Cy];exact s) (zcw _) λx g y c h=>by
   obtain⟨a,_,rfl⟩:=Bd.mp g;obtain⟨b,_,rfl⟩:=Bd.mp c;rw[zw4 h]
 rw[<-e,Ca];rfl
theorem zu8 (f:Nat->Int)(h:m<=6):(duT m f).Pairwise λa b=>lexI (keyI b) (keyI a)=Zc:=(zmk ⟨m,by symm⟩).sublist List.filter_sublist
theorem z1t (f:Nat->Int)(c:m<=6):((plL m f).map letL).Nodup:=by
 have p:=zcp c;rw[Bw,Cy];have n:(plL m f).Nodup:=List.Nodup.sublist List.filter_sublist List.nodup_range;refine n.imp_of_mem λ{a b} d h ne e=>ne ?_;have g:=Az.mp (Bl.mp d).1;have l:=Az.mp (Bl.mp h).1;have:=congrArg zao e;rw[zcd ⟨a,by symm⟩,zcd ⟨b,by symm⟩] at this;exact this
noncomputable def zk7 (Φ:Fn):Prop:=∀(n:Nat) (M:List Nat),n<=64->(∀p∈M,p<n)->Φ [.lst (castL M)]=Za ([.lst (castL M)],(.int (wordOf (tab n λi=>if i∈M then 1 else 0)),Zc))
theorem zpa (Ψ:Str->Fn):zk7 (zad [Zc] 3 (znl Ψ)):=λn M t hM=>by
 have z:(wordOf (tab n λi=>if i∈M.take 0 then 1 else 0))=0:=by
  have:(tab n λi=>if i∈M.take 0 then (1:Int) else 0)=List.replicate n 0:=by
   rw[<-zet];exact tab_ext λi _=>if_neg (by rw[Dy];exact Br)
  rw[this,zc7]
 obtain⟨s,d,h⟩:=zbv (mp:=[]) (T:=(.nm 2)) (it:=(zap (gVar 0))) (body:=#v[1,10])
  (λj e=>∃b,e=[#v[(castL M),1],#v[(wordOf (tab n λi=>if i∈M.take j then 1 else 0)),0],b]) (en:=#v[5,18]) (e0:=#v[5,18]) (ws:=castL M) rfl ⟨Zb,by rw[z]⟩
  (by
   rintro j w e k ⟨b,rfl⟩;obtain⟨p,h,rfl⟩:=za7 k;have g:p<n:=hM p (Bn h);have o:=zxa (n:=n) (p:=p) (f:=λi=>if i∈M.take j then 1 else 0) (λi=>by show Bit (if _ then _ else _);split<;>first|exact .inr rfl|exact .inl rfl) g;have l:(tab n λi=>if i=p then (1:Int) else if i∈M.take j then 1 else 0)=tab n λi=>if i∈M.take (j+1) then 1 else 0:=tab_ext λi _=>by
    have m:i∈M.take (j+1)↔(i∈M.take j\/i=p):=by
     rw[Dz,h,Bh];show _\/i∈[p]↔_;rw[As]
    by_cases c:i=p
    ·rw[if_pos c,if_pos (m.mpr (.inr c))]
    ·rw[if_neg c];by_cases a:i∈M.take j
     ·rw[if_pos a,if_pos (m.mpr (.inl a))]
     ·rw[if_neg a,if_neg (λq=>(m.mp q).elim a c)]
   rw[l] at o;refine⟨[#v[(castL M),1],#v[(wordOf (tab n λi=>if i∈M.take j then 1 else 0)),0],#v[(p:Nat),0]],[#v[(castL M),1],#v[(wordOf (tab n λi=>if i∈M.take (j+1) then 1 else 0)),0],#v[(p:Nat),0]],rfl,.inl (z5s (u:=.int (1*2^p)) rfl (arg_0 (r:=(.int (1*2^p),Zc)) (op2_0 (x:=.inl (.int 1)) (y:=.inl (.int (p:Nat))) rfl rfl rfl rfl (oI_t (zl5 #v[] #v[] #v[0,9])))) rfl ?_ rfl),_,rfl⟩;show Za (W.int (Builtin.bitOr (wordOf (tab n λi=>if i∈M.take j then 1 else 0)) (1*2^p)),Zc)=_;rw[o])
 obtain⟨b,rfl⟩:=h;rw[zaf,Cp] at d;exact zat rfl ((seq_nx (e1:=#v[5,18]) rfl).trans ((seq_nx d).trans rfl)) rfl
noncomputable def indF (M:List Nat) (i:Nat):Int:=if i∈M then 1 else 0
theorem zpl (M:List Nat)(i:Nat):Bit (indF M i):=by unfold indF;split<;>first|exact .inr rfl|exact .inl rfl
theorem zy4 (d:x ∉ M):∀{S:List Nat},S.Nodup->(S.map (indF (x::M))).sum=(S.map (indF M)).sum+(if x∈S then 1 else 0)
 |[],_=>rfl
 | q::S,h=>by
  have i:=zy4 d (Bt.mp h).2;rw[Ax,Ds,Ax,Ds,i];by_cases e:q=x
  ·subst e
   have n:q ∉ S:=(Bt.mp h).1;have a:indF (q::M) q=1:=by unfold indF;rw[if_pos An]
   have b:indF M q=0:=by unfold indF;rw[if_neg d]
   rw[a,b,if_neg n,if_pos An];symm
  ·have a:indF (x::M) q=indF M q:=by
    unfold indF;by_cases c:q∈M
    ·rw[if_pos c,if_pos (Ai _ c)]
    ·rw[if_neg c,if_neg λz=>(Ao.mp z).elim e c]
   rw[a];by_cases c:x∈S
   ·rw[if_pos c,if_pos (Ai _ c)];symm
   ·rw[if_neg c,if_neg λz=>(Ao.mp z).elim (λz=>e z.symm) c];symm
theorem zr2 {S:List Nat} (b:S.Nodup):∀{ts:List (List Nat)},(ts.map zao).Nodup->(S.map (indF (ts.map zao))).sum=((ts.filter λt=>decide (zao t∈S)).length:Nat)
 | [],_=>by
  have:∀L:List Nat,(L.map (indF [])).sum=0:=λL=>by
   induction L with
   |nil=>rfl
   |cons a l i=>rw[Ax,Ds,i];rfl
  exact this S
 | t::ts,h=>by
  have d:=Bt.mp h;rw[Ax,zy4 d.1 b,zr2 b d.2,Do];by_cases c:zao t∈S
  ·rw[if_pos c,if_pos (Ag c),Bg];symm
  ·rw[if_neg c,if_neg (by rw[At c];exact Ah)];symm
theorem zts (p:Nat):(zf1 p).Nodup:=List.nodup_range.filter _
theorem z36 (a:m<=6)(b:t∈zab m m)(d:p<64):hasT t p=decide (zao t∈zf1 p):=by
 have f:=zcp a;obtain⟨q,e,rfl⟩:=zji a b;rw[zzi ⟨q,by symm⟩ ⟨p,d⟩,zcd ⟨q,by symm⟩];unfold zf1;by_cases c:q &&& p=q
 ·have:q ≤ p:=by have:=Nat.and_le_right (n:=q) (m:=p);symm
  have h:q∈(List.range (p+1)).filter λo=>o &&& p==o:=Bl.mpr ⟨Az.mpr #v[],beq_iff_eq.mpr c⟩;rw[beq_iff_eq.mpr c,Ag h]
 ·have h : ¬ q∈(List.range (p+1)).filter λo=>o &&& p==o:=λz=>c (beq_iff_eq.mp (Bl.mp z).2);rw[Ge.mpr c,At h]
theorem zrq (h:m<=6)(a:t∈zab m m)(b:u∈zab m m)(e:zao t=zao u):t=u:=by
 have p:=zcp h;obtain⟨q,c,rfl⟩:=zji h a;obtain⟨r,d,rfl⟩:=zji h b;rw[zcd ⟨q,by symm⟩,zcd ⟨r,by symm⟩] at e;have e:q=r:=e;rw[e]
noncomputable def znx (m:Nat) (ts:List (List Nat)):Prop:=ts.Nodup/\∀t∈ts,t∈zab m m
theorem zi3 (b:m<=6):∀{ts:List (List Nat)},znx m ts->(ts.map zao).Nodup
 |[],_=>List.nodup_nil
 | t::ts,h=>by
  have n:=Bt.mp h.1;refine Bt.mpr ⟨λz=>?_,zi3 b ⟨n.2,λu a=>h.2 u (Ai _ a)⟩⟩;obtain⟨u,a,e⟩:=Bd.mp z;have:=zrq b (h.2 u (Ai _ a)) (h.2 t An) e;subst this;exact n.1 a
theorem zr1 {m p:Nat}{ts:List (List Nat)}(a:m<=6)(h:znx m ts)(c:p<64):zam (indF (ts.map zao)) p=valF ts p:=by
 unfold zam valF;rw[zr2 (zts p) (zi3 a h)];have e:=Hv λt b=>(z36 a (h.2 t b) c).symm;rw[e];symm
theorem z2y:∀q:Fin 64,wordOf (tab 6 λi=>if i∈letL q.val then 1 else 0)=(q.val:Int):=by decide +kernel
theorem zx2:∀q:Fin 64,∀l∈letL q.val,l<6:=by decide +kernel
theorem yae (hA:zg9 Φ)(h:m<=6)(a:t∈zab m m):Φ [tmW t]=Za ([tmW t],(.int (zao t:Nat),Zc)):=by
 have p:=zcp h;obtain⟨q,b,rfl⟩:=zji h a;have e:=hA 6 (letL q) #v[0,9] (zx2 ⟨q,by symm⟩);rw[z2y ⟨q,by symm⟩] at e;rw[zcd ⟨q,by symm⟩];exact e
noncomputable def zkb (Φ:Fn):Prop:=∀(m:Nat) (t:List (List Nat)),m<=6->t.length<=64->znx m t->Φ [.int (m:Nat),.tup (t.map tmW)]=Za ([.int (m:Nat),.tup (t.map tmW)],(.int (wordOf (tab (2^m) (valF t))),Zc))
theorem ztd (hA:zg9 (Ψ "word_at")) (j:zk7 (Ψ "word_at")) (o:zks (Ψ "steps")):zkb (zad [Zc,Zc] 3 (zi6 Ψ)):=λm ts b x h=>by
 have u:=zcp b;have n:zgg Ψ #v[5,17]=Za (#v[5,17],(.lst (castL (ts.map zao)),Zd)):=by
  unfold zgg;refine yfk (ws:=ts.map tmW) (by simp_arith []) (by rw[Ac];symm) (by rw[zaf,Ac,Ac]) λi y w r a c=>?_;rw[Ak] at a;cases ha:ts[i]? with
  |none=>rw[ha] at a;exact noSome a
  | some t =>
   rw [ha] at a;obtain rfl:=sI a;have g:r=.int (zao t:Nat):=by
    unfold castL at c;rw[Ak,Ak,ha] at c;exact (sI c).symm
   subst g;have e:=yae hA b (h.2 t (Bn ha));exact⟨#v[tmW t,6],Zc,by simp_arith [e]⟩
 have k:=j (2^m) (ts.map zao) u λp d=>by
  obtain⟨t,f,rfl⟩:=Bd.mp d;exact zjy b (h.2 t f)
 have s:=o (m:Int) (indF (ts.map zao)) (by symm) (by symm) (zpl _);have l:rowF (m:Int) (indF (ts.map zao)) 0=wordOf (tab (2^m) λi=>if i∈ts.map zao then 1 else 0):=rfl;rw [l] at s;have q:atI ((tab (m+1) (rowF (m:Int) (indF (ts.map zao)))).map W.int) (m:Int)=Za (.int (wordOf (tab (2^m) (valF ts)))):=by
  have e:rowF (m:Int) (indF (ts.map zao)) m=wordOf (tab (2^m) (valF ts)):=by
   unfold rowF;rw[Ef,tab_ext λp d=>(zxo (zpl _) b d).trans (zr1 b h #v[])]
  rw[<-e];exact zbk (zkw (Gc m))
 unfold zi6;refine zat (en:=[#v[(m:Nat),0],#v[(ts.map tmW),3],#v[(wordOf (tab (2^m) λi=>if i∈ts.map zao then 1 else 0)),0]]) rfl (seq_e (e1:=[#v[(m:Nat),0],#v[(ts.map tmW),3],#v[(wordOf (tab (2^m) λi=>if i∈ts.map zao then 1 else 0)),0]]) ?_ ?_) rfl
 ·simp_arith [n,k]
 ·simp_arith [s,q]
noncomputable def kdW (m t:Nat):W:=.tup #v[5,8]
noncomputable def tsP (Ψ:Str->Fn) (m t:Nat):Prop:=zad [Zc] 6 (zfv λ_=>zad [Zc,Zc] 2 (zlt Ψ)) [kdW m t]=Za ([kdW m t],(.tup ((zab m t).map tmW),Zc))
theorem yd4 (Ψ:Str->Fn):∀m t:Nat,1<=m->m<=6->t<=m->tsP Ψ m t
 |1,0,_,_,_=>by unfold tsP;kernel_rfl
 |1,1,_,_,_=>by unfold tsP;kernel_rfl
 |2,0,_,_,_=>by unfold tsP;kernel_rfl
 |2,1,_,_,_=>by unfold tsP;kernel_rfl
 |2,2,_,_,_=>by unfold tsP;kernel_rfl
 |3,0,_,_,_=>by unfold tsP;kernel_rfl
 |3,1,_,_,_=>by unfold tsP;kernel_rfl
 |3,2,_,_,_=>by unfold tsP;kernel_rfl
 |3,3,_,_,_=>by unfold tsP;kernel_rfl
 |4,0,_,_,_=>by unfold tsP;kernel_rfl
 |4,1,_,_,_=>by unfold tsP;kernel_rfl
 |4,2,_,_,_=>by unfold tsP;kernel_rfl
 |4,3,_,_,_=>by unfold tsP;kernel_rfl
 |4,4,_,_,_=>by unfold tsP;kernel_rfl
 |5,0,_,_,_=>by unfold tsP;kernel_rfl
 |5,1,_,_,_=>by unfold tsP;kernel_rfl
 |5,2,_,_,_=>by unfold tsP;kernel_rfl
 |5,3,_,_,_=>by unfold tsP;kernel_rfl
 |5,4,_,_,_=>by unfold tsP;kernel_rfl
 |5,5,_,_,_=>by unfold tsP;kernel_rfl
 |6,0,_,_,_=>by unfold tsP;kernel_rfl
 |6,1,_,_,_=>by unfold tsP;kernel_rfl
 |6,2,_,_,_=>by unfold tsP;kernel_rfl
 |6,3,_,_,_=>by unfold tsP;kernel_rfl
 |6,4,_,_,_=>by unfold tsP;kernel_rfl
 |6,5,_,_,_=>by unfold tsP;kernel_rfl
 |6,6,_,_,_=>by unfold tsP;kernel_rfl
 |0,_,h,_,_=>by symm
 |m+7,_,_,h,_=>by symm
 |1,t+2,_,_,h=>by symm
 |2,t+3,_,_,h=>by symm
 |3,t+4,_,_,h=>by symm
 |4,t+5,_,_,h=>by symm
 |5,t+6,_,_,h=>by symm
 |6,t+7,_,_,h=>by symm
noncomputable def zcz (Φ:Fn):Prop:=∀m t:Nat,1<=m->m<=6->t<=m->Φ [kdW m t]=Za ([kdW m t],(.tup ((zab m t).map tmW),Zc))
theorem z3m (h:Ψ "longer_terms" = zad [Zc,Zc] 2 (zlt Ψ')):zcz (zad [Zc] 6 (zfv Ψ)):=λm t a c b=>by
 have e:zfv Ψ=zfv (λ_=>Ψ "longer_terms"):=rfl;rw[e,h];exact yd4 Ψ' m t a c b
theorem z2w:∀m u:Fin 7,u.val<=m.val->∀t∈zab m.val u.val,t∈zab m.val m.val:=by decide +kernel
theorem zsc:∀m u:Fin 7,(zab m.val u.val).Nodup:=by decide +kernel
theorem z2z (s:List Nat)(ts:List (List Nat))(p:Nat):valF (s::ts) p=(valF ts p+if hasT s p then 1 else 0)%2:=by
 unfold valF;rw[Do];by_cases c:hasT s p=Zd
 ·rw[if_pos c,if_pos c,Bg];symm
 ·rw[if_neg c,if_neg c];symm
noncomputable def zf7 (Ψ:Str->Fn):GS:=(gRet (zbb (gCns #v[5,9] #v[7,14])))
noncomputable def zfy (Ψ:Str->Fn):GE:=zbl [Zb,Zb] (.nm 1) (zap (gVar 0)) gYes (gOpN oLen #v[6,14])
noncomputable def zl3 (Ψ:Str->Fn):GS:=(gRet (zkm (gArg (zfy Ψ)) (gOp1 oNeg #v[1])))
noncomputable def zec (Ψ:Str->Fn):GE:=zbl [Zb,Zb] (.nm 1) (zap (zac [Zc] (Ψ "where") #v[9,11])) gYes (zac [Zc] (Ψ "where") #v[4,13])
noncomputable def zi2 (Ψ:Str->Fn):GS:=(gSeq (gSet [] 2 (gOp2 oIx (gArg (zac [Zc,Zc] (Ψ "steps") (gCns #v[0,4] #v[4,13]))) (zaa 0))) (gRet (gOpN zan (gCns (gArg (zi7 (Ψ "term_order") (gArg (zec Ψ)))) gA0))))
noncomputable def zqq (Ψ:Str->Fn):GS:=(gSeq (gAsg [] (.tp [2,3]) (gVar 0)) (gRet (gOp2 (oI yes2 λi j=>.bl (decide (i<=j))) (gArg (zac [Zc] (Ψ "degree") (gCns (gArg (zac [Zc,Zc] (Ψ "poly_of") #v[7,8])) gA0))) (zaa 3))))
noncomputable def zpg (Φ:Fn):Prop:=∀t:List Nat,Φ [tmW t]=Za ([tmW t],(zju t,Zc))
theorem z4t (Ψ:Str->Fn):zpg (zad [Zc] 1 (zf7 Ψ)):=λt=>by
 have s:oLen [tmW t]=#v[(t.length:Nat),0]:=by
  show Za (W.int ((t.map λl=>W.int (l:Nat)).length:Nat),Zc)=_;rw[Ac]
 unfold zf7 zju tmW;unfold tmW at s
 simp_arith [Ac]
theorem yau {ts us:List (List Nat)}(hT:zpg Φ)(h:a en=Za (e1,.inl (.lst (ts.map tmW))))(n:ts.Nodup)(p:ts.Perm us)(s:us.Pairwise λa b=>lexI (keyI b) (keyI a)=Zc):zi7 Φ a en=Za (e1,(.lst (us.map tmW),Zd)):=by
 have mk:mapO (fnW Φ) (ts.map tmW)=Za (ts.map zju):=zkl (λt=>by unfold fnW;rw[hT t];rfl) ts;unfold zi7;rw[h];show (mapO (fnW Φ) (ts.map tmW)).bind _=_;rw[mk];show (zvp (ts.map zju) (ts.map tmW)).bind _=_;rw[zus n p s];rfl
noncomputable def zq9 (Φ:Fn):Prop:=∀(m:Nat) (f:Nat->Int),m<=6->(∀i,Bit (f i))->Φ #v[7,20]=Za (#v[7,20],(.tup ((duT m f).map tmW),Zc))
theorem z0z (hW:zgo Φ)(a:p<64):Φ [.int (p:Nat)]=Za ([.int (p:Nat)],(tmW (letL p),Zc)):=by
 have w:=hW 6 (bitF p) (bitF_bit p) (λi h=>bitF_hi (n:=6) #v[] h) #v[0,9];rw[bitF_word ⟨p,a⟩] at w;exact w
theorem yg2 (hW:zgo (Ψ "where"))(j:m<=6):zec Ψ #v[5,12]=Za (#v[5,12],(.lst (((plL m f).map letL).map tmW),Zd)):=by
 have l:=zcp j;have w:=hW (2^m) (λi=>if i<2^m then zam f i else 0) (λi=>by
  show Bit (if i<2^m then zam f i else 0);split
  ·exact coef_bit f i
  ·exact .inl rfl) (λi h=>if_neg #v[]) l
 have e:tab (2^m) (λi=>if i<2^m then zam f i else 0)=tab (2^m) (zam f):=tab_ext λi d=>if_pos d;have k:dueL (λi=>if i<2^m then zam f i else 0) (2^m)=plL m f:=by
  unfold dueL plL;refine Hv λq a=>?_;show decide ((if q<2^m then zam f q else 0)=1)=_;rw[if_pos (Az.mp a)]
 rw[e,k] at w;have s:(plL m f).length<=64:=by
  unfold plL;have:=List.length_filter_le (λq=>decide (zam f q=1)) (List.range (2^m));rw[Be] at this;symm
 unfold zec;refine zig (cap:=[Zb,Zb]) (it:=zap (zac [Zc] (Ψ "where") #v[9,11])) (xs:=[]) (en:=#v[5,12]) (e0:=#v[5,12]) (ws:=castL (plL m f)) (rs:=((plL m f).map letL).map tmW) (by simp_arith [w]) (by rw[zaf];symm) (by rw[zaf,Ac,Ac]) rfl rfl rfl (λ_ _=>rfl) λi v n r c b=>?_;obtain⟨q,a,rfl⟩:=za7 c;rw[Ak,Ak,a] at b;cases b;have o:=Az.mp (Bl.mp (Bn a)).1;have g:=z0z hW (p:=q) #v[];refine⟨#v[(q:Nat),0],Zc,?_⟩
 simp_arith [g]
theorem zs8 {Ψ:Str->Fn}(g:zks (Ψ "steps"))(hW:zgo (Ψ "where"))(hT:zpg (Ψ "term_order")):zq9 (zad [Zc,Zc] 3 (zi2 Ψ)):=λm f h b=>by
 have s:=g (m:Int) f #v[] #v[] b;have r:rowF (m:Int) f 0=wordOf (tab (2^m) f):=rfl;rw[r] at s;have i:atI ((tab (m+1) (rowF (m:Int) f)).map W.int) (m:Int)=Za (.int (wordOf (tab (2^m) (zam f)))):=by
  have e:rowF (m:Int) f m=wordOf (tab (2^m) (zam f)):=by
   unfold rowF;rw[Ef,tab_ext λp j=>zxo b h j]
  rw[<-e];exact zbk (zkw (Gc m))
 have d:=yg2 (Ψ:=Ψ) (f:=f) (v0:=#v[(m:Nat),0]) (v1:=#v[(wordOf (tab (2^m) f)),0]) hW h;have c:=yau (a:=gArg (zec Ψ)) (en:=#v[8,8]) (e1:=#v[8,8]) hT (by simp_arith [d]) (z1t f h) (zu6 f h) (zu8 f h);have o:zan [.lst ((duT m f).map tmW)]=#v[((duT m f).map tmW),3]:=rfl;unfold zi2;refine zat (en:=#v[8,8]) rfl (seq_e (e1:=#v[8,8]) ?_ ?_) rfl
 ·simp_arith [s,i]
 ·simp_arith [c,o]
theorem zr3 (ns:List Int):∀(k j:Nat) (b:Int),j+k=ns.length->mxF (λi=>ns.getD i 0) j k b=mx1 b (ns.drop j)
 |0,j,b,h=>by rw[List.drop_eq_nil_of_le #v[]];rfl
 | k+1,j,b,h=>by
  have a:j<ns.length:=by symm
  rw[mxF,zr3 ns k (j+1) _ #v[],Cs a];have e:ns.getD j 0=ns[j]:=by rw[Au,Ab a];rfl
  rw[e];rfl
theorem z20 (a:Int)(r:List Int)(d:Int):mxL (a::r) d=mx1 a r:=by
 show mxF (λi=>(a::r).getD i 0) 1 r.length a=_;rw[zr3 (a::r) r.length 1 a (by rw[Bg];symm)];rfl
theorem z0p (h:∀n∈ns,0<=n):mx1 (-1) ns=mxL ns (-1):=by
 cases ns with
 |nil=>rfl
 | cons a r =>
  rw[z20];show mx1 (if a > -1 then a else -1) r=_;rw[if_pos (by have:=h a (.head _);symm)]
theorem yds (h:a en=Za (e1,.inl w))(b:g e1=Za (e2,(.int d,f)))(c:seqW w=Za (ns.map W.int)):zkm a g en=Za (e2,(.int (mxL ns d),Zc)):=by
 unfold zkm;rw[h];show (g e1).bind _=_;rw[b];show (seqW w).bind _=_;rw[c];show (zcs (ns.map W.int)).bind _=_;rw[zej];rfl
noncomputable def zd5 (ts:List (List Nat)):List Int:=ts.map λt=>((t.length:Nat):Int)
theorem zvu:∀n∈zd5 ts,0<=n:=λn h=>by
 obtain⟨t,_,rfl⟩:=Bd.mp h;symm
theorem yf0 (c:ts.length<=64):zfy Ψ [Za (.tup (ts.map tmW),Zc)]=Za ([Za (.tup (ts.map tmW),Zc)],(.lst ((zd5 ts).map W.int),Zd)):=by
 unfold zfy;refine zig (cap:=[Zb,Zb]) (it:=zap (gVar 0)) (xs:=[]) (en:=#v[3,18]) (e0:=#v[3,18]) (ws:=ts.map tmW) (rs:=(zd5 ts).map W.int) (by simp_arith []) (by rw[Ac];symm) (by unfold zd5;rw[Ac,Ac,Ac]) rfl rfl rfl (λ_ _=>rfl) λi b w r h a=>?_;unfold zd5 at a;rw[Ak] at h;rw[Ak,Ak] at a;cases ha:ts[i]? with
 |none=>rw[ha] at h;cases h
 | some t =>
  rw[ha] at h a;cases h;cases a;refine⟨#v[tmW t,6],Zc,?_⟩;unfold tmW
  simp_arith [Ac]
noncomputable def z4r (Φ:Fn):Prop:=∀t:List (List Nat),t.length<=64->Φ [.tup (t.map tmW)]=Za ([.tup (t.map tmW)],(.int (mxL (zd5 t) (-1)),Zc))
theorem yev (Ψ:Str->Fn):z4r (zad [Zc] 1 (zl3 Ψ)):=λts h=>by
 have c:=yf0 (Ψ:=Ψ) h;have m:zkm (gArg (zfy Ψ)) (gOp1 oNeg #v[1]) #v[3,18]=Za (#v[3,18],(.int (mxL (zd5 ts) (-1)),Zc)):=yds (e1:=#v[3,18]) (w:=.lst ((zd5 ts).map W.int)) (f:=Zc) (by simp_arith [c]) (by simp_arith []) rfl;unfold zl3
 simp_arith [m]
noncomputable def IsIn (Φ:Fn):Prop:=∀(m most:Nat) (f:Nat->Int),m<=6->(∀i,Bit (f i))->Φ [.tup [.int (m:Nat),.int (most:Nat)],.int (wordOf (tab (2^m) f))]=Za ([.tup [.int (m:Nat),.int (most:Nat)],.int (wordOf (tab (2^m) f))],(.bl (decide (mxL (zd5 (duT m f)) (-1)<=(most:Int))),Zc))
theorem z5e (h:m<=6):(duT m f).length<=64:=by
 obtain⟨a,t⟩:=zcl (m:=m) (most:=m) h h;have:=(show (duT m f).Sublist (zab m m) from List.filter_sublist).length_le;symm
theorem z2q (hD:z4r (Ψ "degree"))(b:zq9 (Ψ "poly_of")):IsIn (zad [Zc,Zc] 4 (zqq Ψ)):=λm most f h c=>by
 have e:=b m f h c;have a:=hD (duT m f) (z5e h);unfold zqq;refine zat (en:=#v[4,14]) rfl (seq_e (e1:=#v[4,14]) ?_ ?_) rfl
 ·simp_arith []
 ·simp_arith [e,a]
theorem zc9 {f g:Nat->Int}{p:Nat}(h:∀q,q<=p->f q=g q):zam f p=zam g p:=by
 unfold zam;rw[Cv λq a=>h q (zzo a)]
theorem zwq:∀(L:List Int) (n:Int),mx1 n L<=B↔n<=B/\∀x∈L,x<=B
 |[],n=>⟨λh=>⟨h,λ_ z=>(nomatch z)⟩,λh=>h.1⟩
 | a::L,n=>by
  have i:=zwq (B:=B) L (if a > n then a else n);have e:mx1 n (a::L)=mx1 (if a > n then a else n) L:=rfl;rw[e,i];constructor
  ·rintro ⟨d,b⟩
   split at d
   ·exact⟨by symm,λx c=>(Ao.mp c).elim (λz=>by rw[z];exact d) (b x)⟩
   ·exact⟨d,λx c=>(Ao.mp c).elim (λz=>by rw[z];symm) (b x)⟩
  ·rintro ⟨d,b⟩
   have f:=b a An;exact⟨by split<;>symm,λx c=>b x (Ai _ c)⟩
theorem zr4 (n:Nat):(List.replicate n Zd).all id=Zd:=by
 induction n with
 |zero=>rfl
 |succ n i=>rw[Df,Cb,i];rfl
theorem zd8 (a b:List Nat):castL (a++b)=castL a++castL b:=by unfold castL;exact Bx ..
theorem zk5 (f g:Nat->Int)(p:Nat):zam (λq=>(f q+g q)%2) p=(zam f p+zam g p)%2:=by
 unfold zam;have go:∀L:List Nat,(L.map λq=>(f q+g q)%2).sum%2=((L.map f).sum+(L.map g).sum)%2:=by
  intro L
  induction L with
  |nil=>rfl
  |cons a L i=>rw[Ax,Ax,Ax,Ds,Ds,Ds];symm
 rw[go];symm
theorem zj7 (b:m<=6)(h:znx m ts)(a:q<64):zam (valF ts) q=indF (ts.map zao) q:=by
 rw[<-zre (zpl (ts.map zao)) a];exact zc9 λp c=>(zr1 b h #v[]).symm
theorem z6y (ts:List (List Nat))(p:Nat):Bit (valF ts p):=by unfold valF Bit;symm
theorem zfg (c:m<=6)(b:most<=m)(h:ts.Sublist (zab m most)):znx m ts:=⟨(zsc ⟨m,by symm⟩ ⟨most,by symm⟩).sublist h,λt a=>z2w ⟨m,by symm⟩ ⟨most,by symm⟩ b t (h.mem a)⟩
theorem z2t:∀m k:Fin 7,∀t∈zab m.val k.val,(letL (zao t)).length<=k.val:=by decide +kernel
noncomputable def Deg (m most:Nat) (f:Nat->Int):Prop:=∀q,q<2^m->zam f q=1->(letL q).length<=most
theorem zyy (a:m<=6)(c:most<=m)(h:ts.Sublist (zab m most)):Deg m most (valF ts):=λq d e=>by
 have p:=zcp a;rw[zj7 a (zfg a c h) #v[]] at e;unfold indF at e;split at e
 ·rename_i z;obtain⟨t,b,rfl⟩:=Bd.mp z;exact z2t ⟨m,by symm⟩ ⟨most,by symm⟩ t (h.mem b)
 ·cases e
theorem z0u (d:Deg m most f)(c:Deg m most g):Deg m most λp=>(f p+g p)%2:=λq h e=>by
 rw[zk5] at e;rcases coef_bit f q with a|a
 ·rcases coef_bit g q with b|b
  ·rw[a,b] at e;cases e
  ·exact c q h b
 ·exact d q h a
theorem zb7 (h:∀p,p<2^m->f p=g p)(b:Deg m most f):Deg m most g:=λq a e=>b q a ((zc9 λp c=>h p #v[]).trans e)
theorem zse (b:m<=6)(h:Deg m most f):∀t∈duT m f,t.length<=most:=λt a=>by
 have p:=zcp b;unfold duT at a;obtain⟨g,c⟩:=Bl.mp a;obtain⟨q,d,rfl⟩:=zji b g;have e:=Aq c;rw[zcd ⟨q,by symm⟩] at e;exact h q d e
theorem z6v:∀m k:Fin 7,∀s:Fin (2^m.val),(letL s.val).length<=k.val->letL s.val∈zab m.val k.val:=by decide +kernel
theorem z1j (f:Nat->Int) (c:Nat->Bool):∀L:List Nat,((L.filter c).map f).sum=(L.map λp=>f p*(if c p then 1 else 0)).sum
 |[]=>rfl
 | a::L=>by
  rw[Ax,Ds,<-z1j f c L];cases h:c a with
  |true=>rw[Fg h,Ax,Ds,if_pos rfl,Int.mul_one]
  |false=>rw[Fh (by rw[h];decide),if_neg #v[0,9],Int.mul_zero,Fp]
theorem zxn (f:Nat->Int)(h:∀p,f p=0):∀L:List Nat,(L.map f).sum=0
 |[]=>rfl
 |a::L=>by rw[Ax,Ds,zxn f h L,h];rfl
section
end
set_option maxHeartbeats 2000000
noncomputable def dkN (p:Nat):DKey:=.inl (.inl (p:Int))
theorem zqi (a b:Nat)(h:dkN a=dkN b):a=b:=Int.ofNat.inj (Sum.inl.inj (Sum.inl.inj h))
section
variable {κ:Type} [DecidableEq κ] {f:κ->DKey}
theorem zxg (c:∀a b,f a=f b->a=b) (g:κ->W) (p:κ):∀L:List κ,valW ((L.map f).zip (L.map g)) (f p)=if p∈L then Za (g p) else Zb
 |[]=>rfl
 | q::L=>by
  rw[Ax,Ax,Da,zhf,zxg c g p L];by_cases h:q=p
  ·subst h;rw[if_pos rfl,if_pos An]
  ·rw [if_neg λe=>h (c _ _ e)]
   by_cases m:p∈L
   ·rw[if_pos m,if_pos (Ai _ m)]
   ·rw[if_neg m,if_neg λz=>by rcases Ao.mp z with z|z;exact h z.symm;exact m z]
theorem zsn (c:∀a b,f a=f b->a=b){L:List κ}:f p∈L.map f↔p∈L:=by
 rw[Bd];exact⟨λ⟨a,h,e⟩=>c _ _ e ▸ h,λh=>⟨p,h,rfl⟩⟩
theorem z24 (c:∀a b,f a=f b->a=b)(ws:List W)(w:W){L:List κ}(h:p ∉ L):zgf (L.map f) ws (f p) w=ws++[w]:=by
 unfold zgf;rw[if_neg (mt (zsn c).mp h)]
theorem z32 (c:∀a b,f a=f b->a=b){L:List κ}(h:p ∉ L):zfx (L.map f) (f p)=L.map f++[f p]:=by
 unfold zfx;rw[if_neg (mt (zsn c).mp h)]
end
theorem yid (h:keyD u=Za d)(a:valW (ks.zip ws) d=Za w):oIxD (.dct ks ws) u=#v[w,6]:=by
 unfold oIxD;simp only [h,a,Fe]
noncomputable def tp (w:Nat):Nat:=w.log2
theorem zjh (h:a en=Za (e1,.nx))(c:b e1=r):gSeq a b en=r:=(seq_nx h).trans c
theorem zey (h:w≠0):w.testBit (tp w)=Zd:=Nat.testBit_log2 h
theorem zm4 (h:w.testBit i=Zd):i<=tp w:=by
 have a:w≠0:=λz=>by rw[z,Cg] at h;exact Ah h
 exact (Nat.le_log2 a).mpr (Nat.ge_two_pow_of_testBit h)
theorem zuw (h:tp w<i):w.testBit i=Zc:=by
 cases q:w.testBit i with
 |false=>rfl
 |true=>have:=zm4 q;symm
theorem ydm (h:w.testBit t=Zd)(b:∀i,t<i->w.testBit i=Zc):tp w=t:=by
 have a:=zm4 h;have d:w≠0:=λz=>by rw[z,Cg] at h;exact Ah h
 rcases Nat.lt_or_ge t (tp w) with c|c
 ·have:=b _ c;rw[zey d] at this;exact absurd this.symm Ah
 ·symm
noncomputable def sel:List Nat->Nat->Nat
 |[],_=>0
 |b::B,w=>(if w.testBit (tp b) then b else 0) ^^^ sel B w
noncomputable def RB (B:List Nat):Prop:=(∀b∈B,b≠0)/\B.Pairwise λa b=>a.testBit (tp b)=Zc/\b.testBit (tp a)=Zc
theorem RB.tail (h:RB (b::B)):RB B:=⟨λx a=>h.1 x (Ai _ a),(Ce.mp h.2).2⟩
theorem RB.two (h:RB B) (d:a∈B) (c:b∈B) (ne:a≠b):a.testBit (tp b)=Zc:=by
 induction B with
 |nil=>cases d
 | cons x B i =>
  have e:=Ce.mp h.2;rcases Ao.mp d with rfl|d
  ·rcases Ao.mp c with rfl | c
   ·exact absurd rfl ne
   ·exact (e.1 b c).1
  ·rcases Ao.mp c with rfl | c
   ·rename_i f
    exact (e.1 a (by assumption)).2
   ·exact i h.tail d c
theorem sel_no:∀{B:List Nat},(∀b∈B,b.testBit t=Zc)->(sel B w).testBit t=Zc
 |[],_=>Cg t
 | b::B,h=>by
  show ((if w.testBit (tp b) then b else 0) ^^^ sel B w).testBit t=Zc;rw[Cc,sel_no λx a=>h x (Ai _ a)];have c:=h b An;split
  ·rw[c];rfl
  ·rw[Cg];rfl
theorem sel_bit:∀{B:List Nat},RB B->∀b∈B,(sel B w).testBit (tp b)=w.testBit (tp b)
 |[],_,b,c=>by cases c
 | a::B,h,b,c=>by
  have d:=Ce.mp h.2;show ((if w.testBit (tp a) then a else 0) ^^^ sel B w).testBit (tp b)=_;rw[Cc];rcases Ao.mp c with rfl|c
  ·rw [sel_no λx e=>(d.1 x e).2,Gu]
   cases q:w.testBit (tp b) with
   |true=>rw[if_pos rfl];exact zey (h.1 b An)
   |false=>rw[if_neg Ah];exact Cg _
  ·rw [sel_bit h.tail b c]
   have:=(d.1 b c).1;split
   ·rw[this,Bool.false_xor]
   ·rw[Cg,Bool.false_xor]
theorem z0o (u v:Nat):∀B:List Nat,sel B (u ^^^ v)=sel B u ^^^ sel B v
 |[]=>(Cw 0).symm
 | b::B=>by
  show (if (u ^^^ v).testBit (tp b) then b else 0) ^^^ sel B (u ^^^ v)=((if u.testBit (tp b) then b else 0) ^^^ sel B u) ^^^ ((if v.testBit (tp b) then b else 0) ^^^ sel B v);rw[z0o u v B,Cc];have s:∀a b c d:Nat,(a ^^^ b) ^^^ (c ^^^ d)=(a ^^^ c) ^^^ (b ^^^ d):=λa b c d=>by rw[Bk,Bk,<-Bk b c d,Hn b c,Bk]
  rw[s];congr 1;cases u.testBit (tp b)<;>cases v.testBit (tp b)<;>simp
theorem zrh:∀B:List Nat,sel B 0=0
 |[]=>rfl
 | b::B=>by
  show (if (0:Nat).testBit (tp b) then b else 0) ^^^ sel B 0=0;rw[zrh B,Cg,if_neg Ah,Cw]
theorem zo8:∀{B:List Nat},(∀b∈B,w.testBit (tp b)=Zc)->sel B w=0
 |[],_=>rfl
 | b::B,h=>by
  show (if w.testBit (tp b) then b else 0) ^^^ sel B w=0;rw[zo8 λx a=>h x (Ai _ a),h b An,if_neg Ah,Cw]
theorem zsj:∀{B:List Nat},RB B->∀b∈B,sel B b=b
 |[],_,b,c=>by cases c
 | a::B,h,b,c=>by
  have d:=Ce.mp h.2;show (if b.testBit (tp a) then a else 0) ^^^ sel B b=b;rcases Ao.mp c with rfl|c
  ·rw[zo8 λx e=>(d.1 x e).1,zey (h.1 b An),if_pos rfl,Bv]
  ·rw[zsj h.tail b c,(d.1 b c).2,if_neg Ah,Fm]
theorem zqw:∀{B:List Nat},(sel B w).testBit t=Zd->∃b∈B,w.testBit (tp b)=Zd/\b.testBit t=Zd
 | [],h=>by
  have h:(0:Nat).testBit t=Zd:=h;rw[Cg] at h;exact absurd h Ah
 | a::B,h=>by
  have h:((if w.testBit (tp a) then a else 0) ^^^ sel B w).testBit t=Zd:=h;rw[Cc] at h;cases q:(sel B w).testBit t with
  | true =>
   obtain⟨b,c,r⟩:=zqw q;exact⟨b,Ai _ c,r⟩
  | false =>
   rw[q,Gu] at h;split at h
   ·rename_i z;exact⟨a,An,z,h⟩
   ·rw[Cg] at h;exact absurd h Ah
inductive SpN (S:List Nat):Nat->Prop where
 |zero:SpN S 0
 |add {v b:Nat} (h:SpN S v) (hb:b∈S):SpN S (v ^^^ b)
theorem SpN.one (h:b∈S):SpN S b:=by
 have:=SpN.add SpN.zero h
 rwa [Fm] at this
theorem SpN.xor (b:SpN S u)(a:SpN S v):SpN S (u ^^^ v):=by
 induction a with
 |zero=>rwa [Bv]
 |add _ h i=>rw[<-Bk];exact i.add h
theorem SpN.go (h:SpN S v)(a:∀b∈S,SpN T b):SpN T v:=by
 induction h with
 |zero=>exact .zero
 |add _ c i=>exact i.xor (a _ c)
noncomputable def zc2 (S T:List Nat):Prop:=(∀b∈S,SpN T b)/\∀b∈T,SpN S b
theorem zc2.refl (S:List Nat):zc2 S S:=⟨λ_ h=>.one h,λ_ h=>.one h⟩
theorem zc2.symm (h:zc2 S T):zc2 T S:=⟨h.2,h.1⟩
theorem zc2.trans (h:zc2 S T)(k:zc2 T U):zc2 S U:=⟨λb a=>(h.1 b a).go k.1,λb a=>(k.2 b a).go h.2⟩
theorem zc2.app {S T U V:List Nat}(h:zc2 S T)(k:zc2 U V):zc2 (S++U) (T++V):=by
 have l:∀{A B:List Nat}{v},SpN A v->SpN (A++B) v:=λh=>h.go λb c=>.one (Cq _ c);have r:∀{A B:List Nat}{v},SpN B v->SpN (A++B) v:=λh=>h.go λb c=>.one (Av _ c);exact⟨λb c=>(Bh.mp c).elim (λa=>l (h.1 b a)) λa=>r (k.1 b a),λb c=>(Bh.mp c).elim (λa=>l (h.2 b a)) λa=>r (k.2 b a)⟩
theorem z6c (w:Nat):∀{B C:List Nat},(∀b∈B,b∈C)->SpN C (sel B w)
 |[],_,_=>.zero
 | b::B,C,h=>by
  have i:=z6c w λx a=>h x (Ai _ a);show SpN C ((if w.testBit (tp b) then b else 0) ^^^ sel B w);split
  ·exact (SpN.one (h b An)).xor i
  ·rwa [Fm]
theorem z5k (h:RB B)(b:SpN B v):sel B v=v:=by
 induction b with
 |zero=>exact zrh B
 |add _ a i=>rw[z0o,i,zsj h _ a]
theorem z6g (h:a ^^^ b=0):a=b:=by
 have:(a ^^^ b) ^^^ b=0 ^^^ b:=by rw[h]
 rwa [Bk,Cw,Bv,Fm] at this
theorem zrf (hB:RB B)(a:RB C)(s:zc2 B C):∀b∈B,b∈C:=λb h=>by
 have top:∀{B C:List Nat},RB B->RB C->zc2 B C->∀b∈B,∃c∈C,tp c=tp b:=λ{B C} hB a s b h=>by
  have e:=z5k a (s.1 b h);have i:=zey (hB.1 b h);rw[<-e] at i;obtain⟨c,d,p,k⟩:=zqw (t:=tp (sel C b)) (by rw[e] at i ⊢;exact i);rw[e] at k;have:=zm4 p;have:=zm4 k;exact⟨c,d,by symm⟩
 obtain⟨c,d,l⟩:=top hB a s b h;have o:=(SpN.one h).xor (s.2 c d);have z:sel B (b ^^^ c)=0:=zo8 λm g=>by
  rw[Cc];by_cases e:m=b
  ·rw[e,zey (hB.1 b h),<-l,zey (a.1 c d)];rfl
  ·obtain ⟨u, j, f⟩:=top hB a s m g;have n:=hB.two h g (Ne.symm e);have r:c≠u:=λq=>by
    subst q;have:=zey (hB.1 b h);rw[<-l,f,n] at this;exact Ah this
   rw[n,<-f,a.two d j r];rfl
 rw[z5k hB o] at z;rw[z6g z];exact d
theorem RB.nodup (h:RB B):B.Nodup:=by
 refine h.2.imp_of_mem λ{a b} c d q e=>?_;subst e;rw[zey (h.1 a c)] at q;exact Ah q.1.symm
theorem zx6 (hB:RB B)(h:RB C)(s:zc2 B C):B.Perm C:=by
 rw[List.perm_iff_count];intro a;rw[hB.nodup.count,h.nodup.count];by_cases c:a∈B
 ·rw[if_pos c,if_pos (zrf hB h s a c)]
 ·rw[if_neg c,if_neg λz=>c (zrf h hB s.symm a z)]
noncomputable def boS (B:List Nat) (w:Nat):List Nat:=if w ^^^ sel B w=0 then B else B.map (λr=>r ^^^ sel [w ^^^ sel B w] r)++[w ^^^ sel B w]
theorem zge (l r:Nat):sel [l] r=if r.testBit (tp l) then l else 0:=by
 show (if r.testBit (tp l) then l else 0) ^^^ 0=_;rw[Bv]
theorem z43 (h:SpN S (u ^^^ v))(a:SpN S v):SpN S u:=by
 have:=h.xor a
 rwa [Bk,Cw,Bv] at this
theorem z7v (h:RB B)(w:Nat):RB (boS B w)/\zc2 (boS B w) (B++[w]):=by
 unfold boS;have j:∀b∈B,(w ^^^ sel B w).testBit (tp b)=Zc:=λb c=>by rw[Cc,sel_bit h b c,Bool.xor_self]
 have k:SpN B (sel B w):=z6c w λ_ h=>h;by_cases z:w ^^^ sel B w=0
 ·rw[if_pos z];refine⟨h,λb c=>.one (Cq _ c),λb c=>?_⟩;rcases Bh.mp c with c|c
  ·exact .one c
  ·rw[As.mp c,z6g z];exact k
 ·rw[if_neg z];have u:SpN (B++[w]) (w ^^^ sel B w):=(SpN.one (Av _ (As.mpr rfl))).xor (k.go λb c=>.one (Cq _ c));generalize D:w ^^^ sel B w=l at *
  have t:=zey z;have ne:∀b∈B,tp b≠tp l:=λb c e=>by have:=j b c;rw[e,t] at this;exact Ah this.symm
  have g:∀b∈B,tp (b ^^^ sel [l] b)=tp b/\b ^^^ sel [l] b≠0:=λb c=>by
   have p:=zey (h.1 b c);have m:(b ^^^ sel [l] b).testBit (tp b)=Zd:=by
    rw[zge];split
    ·rw[Cc,p,j b c];rfl
    ·rw[Bv];exact p
   refine⟨ydm m λi C=>?_,λe=>by rw[e,Cg] at m;exact Ah m⟩;rw[zge];split
   ·rename_i q;have:=zm4 q;rw[Cc,zuw C,zuw (w:=l) #v[]];rfl
   ·rw[Bv];exact zuw C
  have cut:∀b,(b ^^^ sel [l] b).testBit (tp l)=Zc:=λb=>by
   rw[zge,Cc];cases q:b.testBit (tp l) with
   |true=>rw[if_pos rfl,t];rfl
   |false=>rw[if_neg Ah,Cg];rfl
  refine⟨⟨λb c=>?_,?_⟩,λb c=>?_,λb c=>?_⟩
  ·rcases Bh.mp c with c|c
   ·obtain⟨a,d,rfl⟩:=Bd.mp c;exact (g a d).2
   ·rw[As.mp c];exact z
  ·rw[Ch];refine⟨?_,Gm _ _,λa d b c=>?_⟩
   ·rw [Cy];refine h.2.imp_of_mem λ{a b} d c q=>?_;have o:∀{x y:Nat},y∈B->x.testBit (tp y)=Zc->(x ^^^ sel [l] x).testBit (tp y)=Zc:=λ{x y} F f=>by
     rw[zge];split
     ·rw[Cc,f,j y F];rfl
     ·rw[Bv];exact f
    rw[(g a d).1,(g b c).1];exact⟨o c q.1,o d q.2⟩
   ·obtain⟨x,f,rfl⟩:=Bd.mp d;rw[As.mp c,(g x f).1];exact⟨cut x,j x f⟩
  ·rcases Bh.mp c with c|c
   ·obtain⟨a,d,rfl⟩:=Bd.mp c;have E:SpN (B++[w]) a:=.one (Cq _ d);rw[zge];split
    ·exact E.xor u
    ·rwa [Bv]
   ·rw[As.mp c];exact u
  ·have n:SpN (B.map (λr=>r ^^^ sel [l] r) ++ [l]) l:=.one (Av _ (As.mpr rfl));have A:∀a∈B,SpN (B.map (λr=>r ^^^ sel [l] r)++[l]) a:=λa d=>by
    have s:SpN (B.map (λr=>r ^^^ sel [l] r)++[l]) (a ^^^ sel [l] a):=.one (Cq _ (Bd.mpr ⟨a,d,rfl⟩));rw[zge] at s;split at s
    ·exact z43 s n
    ·rwa [Bv] at s
   rcases Bh.mp c with c|c
   ·exact A b c
   ·rw[As.mp c];refine z43 (v:=sel B w) (by rw[D];exact n) (k.go A)
noncomputable def bo (ws:List Nat):List Nat:=ws.foldl boS []
theorem z95 (ws:List Nat):RB (bo ws)/\zc2 (bo ws) ws:=by
 have go:∀(ws B S:List Nat),RB B->zc2 B S->RB (ws.foldl boS B)/\zc2 (ws.foldl boS B) (S++ws):=by
  intro ws
  induction ws with
  |nil=>intro B S h s;rw[Bu];exact⟨h,s⟩
  | cons w ws i =>
   intro B S h s;obtain⟨a,b⟩:=z7v h w;have:=i (boS B w) (S++[w]) a (b.trans (s.app (.refl [w])))
   rwa [Bf] at this
 exact go ws [] [] ⟨λb c=>(nomatch c),List.Pairwise.nil⟩ (.refl [])
noncomputable def bitN (w i:Nat):Int:=if w.testBit i then 1 else 0
theorem zf3 (w i:Nat):Bit (bitN w i):=by unfold bitN;split<;>first|exact .inr rfl|exact .inl rfl
theorem z7s (w i:Nat):decide (bitN w i=1)=w.testBit i:=by unfold bitN;cases w.testBit i<;>rfl
theorem zrx (n:Nat)(f:Nat->Int):tab (n+1) f=f 0::tab n λi=>f (i+1):=by
 unfold tab;rw[List.range_succ_eq_map,Ax,Ca]
 rfl
theorem zbq:∀(n w:Nat),w<2^n->wordOf (tab n (bitN w))=(w:Int)
 | 0,w,h=>by
  have:w=0:=by have:2^0=1:=rfl;symm
  subst this;rfl
 | n+1,w,h=>by
  rw[zrx,zb9,tab_ext (g:=bitN (w/2)) λi _=>by unfold bitN;rw[Nat.testBit_succ],zbq n (w/2) #v[]];unfold bitN;rw[Nat.testBit_zero];by_cases c:w%2=1
  ·rw[if_pos (Ag c)];symm
  ·rw[if_neg (by rw[At c];exact Ah)];symm
theorem zjv:∀xs:List Int,Bits xs->∃w,w<2^xs.length/\xs=tab xs.length (bitN w)
 |[],_=>⟨0,by decide,rfl⟩
 | x::xs,h=>by
  obtain⟨w,a,e⟩:=zjv xs h.tail;have p:2^(x::xs).length=2*2^xs.length:=by rw[Bg];symm
  have go:∀b:Nat,b<2->tab (xs.length+1) (bitN (2*w+b))=bitN (2*w+b) 0::xs:=λb c=>by
   rw[zrx,tab_ext (g:=bitN w) λi _=>by unfold bitN;rw[Nat.testBit_succ,show (2*w+b)/2=w by symm],<-e]
  rcases h.head with rfl|rfl
  ·refine ⟨2*w+0,by symm, ?_⟩
   rw[Bg,go 0 #v[]];unfold bitN;rw[Nat.testBit_zero,if_neg (by rw[At #v[]];exact Ah)]
  ·refine ⟨2*w+1,by symm, ?_⟩
   rw[Bg,go 1 #v[]];unfold bitN;rw[Nat.testBit_zero,if_pos (Ag #v[])]
theorem z3i (a b i:Nat):dif (bitN a i) (bitN b i)=bitN (a ^^^ b) i:=by
 unfold bitN dif;rw[Cc];cases a.testBit i<;>cases b.testBit i<;>rfl
theorem z9i (a b:Nat):Builtin.bitXor (a:Int) (b:Int)=((a ^^^ b:Nat):Int):=by
 have h:=Gk (Ep a b) Nat.lt_two_pow_self;have c:=Gk (Nat.le_add_left b a) Nat.lt_two_pow_self;have x:=zik (ys:=tab (a+b) (bitN b)) (zaq λi _=>zf3 a i) (zaq λi _=>zf3 b i) (by rw[za8,za8]);rw[zbq _ a h,zbq _ b c,zlb,tab_ext λi _=>z3i a b i,zbq _ _ (Er h c)] at x;exact x
theorem yak (h:w<2^n)(a:n<=i):bitN w i=0:=by
 unfold bitN;rw[Dw (Aw h (Bj #v[0,9] a)),if_neg Ah]
noncomputable def z3y (Φ:Fn):Prop:=∀w p:Nat,Φ [.int (w:Nat),.int (p:Nat)]=Za ([.int (w:Nat),.int (p:Nat)],(.int (bitN w p),Zc))
theorem z5g (h:zr5 Φ):z3y Φ:=λw p=>by
 have a:w<2^w:=Nat.lt_two_pow_self;have:=h w p (bitN w) (zf3 w) λi b=>yak a b
 rwa [zbq w w a] at this
noncomputable def XorN (Φ:Fn):Prop:=∀a b:Nat,Φ #v[9,16]=Za (#v[9,16],(.int ((a ^^^ b:Nat):Int),Zc))
theorem z7b (h:zog Φ):XorN Φ:=λa b=>by rw[<-z9i];exact h a b
noncomputable def z5a (Ψ:Str->Fn):GS:=(gRet (gOp2 #v[0,0,0] (gArg (gOp1 zdl (zaa 0))) #v[1]))
noncomputable def TopN (Φ:Fn):Prop:=∀w:Nat,w≠0->Φ [.int (w:Nat)]=Za ([.int (w:Nat)],(.int (tp w:Nat),Zc))
theorem ygx (Ψ:Str->Fn):TopN (zad [Zc] 1 (z5a Ψ)):=λw h=>by
 have e:(Builtin.Int.intBits (w:Int):Int)-1=(tp w:Nat):=by
  unfold Builtin.Int.intBits tp;rw[if_neg (by simp;exact h),Int.natAbs_natCast];symm
 have o:zdl (.int (w:Nat))=#v[(Builtin.Int.intBits (w:Int)),0]:=rfl;unfold z5a
 simp_arith [o,e]
noncomputable def zy2 (Ψ:Str->Fn):GS:=(gIfS (zaj (gOp2 oEq (gArg (zac [Zc,Zc] (Ψ "says") (gCns #v[1,4] (gCns (gArg (zac [Zc] (Ψ "top") #v[4,19])) gA0)))) #v[1])) (gSet [] 2 (zac [Zc,Zc] (Ψ "plus") (gCns #v[2,4] #v[4,19]))) zbp)
noncomputable def z45 (Ψ:Str->Fn):GS:=gFor [] (.nm 3) (zap (gVar 0)) (zy2 Ψ)
noncomputable def yhe (Ψ:Str->Fn):GS:=(gSeq (gSet [] 2 (gVar 1)) (gSeq (z45 Ψ) (zdz [] 2)))
noncomputable def WtN (Φ:Fn):Prop:=∀(B:List Nat) (w:Nat) (x:W),(x=.lst (castL B)\/x=.tup (castL B))->(∀b∈B,b≠0)->Φ [x,.int (w:Nat)]=Za ([x,.int (w:Nat)],(.int ((w ^^^ sel B w:Nat):Int),Zc))
theorem zqo (b w:Nat):∀B:List Nat,sel (B++[b]) w=sel B w ^^^ (if w.testBit (tp b) then b else 0)
 | []=>by
  show (if w.testBit (tp b) then b else 0) ^^^ 0=0 ^^^ (if w.testBit (tp b) then b else 0);rw[Bv,Fm]
 | a::B=>by
  show (if w.testBit (tp a) then a else 0) ^^^ sel (B++[b]) w=((if w.testBit (tp a) then a else 0) ^^^ sel B w) ^^^ _;rw[zqo b w B,Bk]
theorem wt_n (n:z3y (Ψ "says")) (hX:XorN (Ψ "plus")) (hT:TopN (Ψ "top")):WtN (zad [Zc,Zc] 4 (yhe Ψ)):=λB w x p r=>by
 have si:zap (gVar 0) #v[8,20]=Za (#v[8,20],castL B):=by rcases p with rfl|rfl<;>rfl
 have l:∃a,z45 Ψ #v[9,15]=Za ([Za (x,Zc),Za (.int (w:Nat),Zc),Za (.int ((w ^^^ sel B w:Nat):Int),Zc),a],.nx):=by
  obtain ⟨m,h,a,rfl⟩:=zbv (mp:=[]) (T:=.nm 3) (body:=zy2 Ψ) (λi e=>∃a,e=[Za (x,Zc),Za (.int (w:Nat),Zc),Za (.int ((w ^^^ sel (B.take i) w:Nat):Int),Zc),a]) si ⟨Zb,by rw [Dy];show _=[_,_,Za (W.int ((w ^^^ 0:Nat):Int),Zc),_];rw [Bv]⟩ λi u e f o=>by
   obtain ⟨a,rfl⟩:=o;obtain ⟨b,d,rfl⟩:=za7 f;have j:=Bn d;have t:=hT b (r b j);have s:=n w (tp b);have k:=hX (w ^^^ sel (B.take i) w) b;have g:sel (B.take (i+1)) w=sel (B.take i) w ^^^ (if w.testBit (tp b) then b else 0):=by
    rw[Gq,d];exact zqo b w _
   have c:=z7s w (tp b);refine⟨[#v[x,6],#v[(w:Nat),0],#v[((w ^^^ sel (B.take i) w:Nat):Int),0],#v[(b:Nat),0]],[#v[x,6],#v[(w:Nat),0],#v[((w ^^^ sel (B.take (i+1)) w:Nat):Int),0],#v[(b:Nat),0]],rfl,.inl ?_,_,rfl⟩;unfold zy2;rw[g];cases q:w.testBit (tp b) with
   | true =>
    rw[q] at c;rw[<-Bk]
    simp_arith [t,s,c,k]
   | false =>
    rw[q] at c;rw[if_neg Ah,Bv]
    simp_arith [t,s,c]
  rw[zaf,Cp] at h;exact⟨_,h⟩
 obtain⟨a,l⟩:=l;refine zat (en:=[#v[x,6],#v[(w:Nat),0],#v[((w ^^^ sel B w:Nat):Int),0],a]) rfl (zjh ?_ (zjh l ?_)) rfl
 ·show gSet [] 2 (gVar 1) [Za (x,Zc),Za (.int (w:Nat),Zc),Zb,Zb]=Za (#v[9,15],.nx)
  simp_arith []
 ·simp_arith []
noncomputable def z54 (Ψ:Str->Fn):GE:=zbl [Zb,Zb,Za 3] (.nm 1) (zap (gVar 1)) gYes (zac [Zc,Zc] (Ψ "without_tops") (gCns (gArg (zau #v[9,11])) #v[4,13]))
noncomputable def zwa (Ψ:Str->Fn):GS:=(gSeq (gSet [] 3 (zac [Zc,Zc] (Ψ "without_tops") (gCns #v[1,4] #v[9,11]))) (gIfS (zaj (gOp2 oNe (zaa 3) #v[0])) (gSet [] 1 (gOp2 oAdd (gArg (z54 Ψ)) (gArg (zau #v[4,19])))) zbp))
noncomputable def zyo (Ψ:Str->Fn):GS:=gFor [] (.nm 2) (zap (gVar 0)) (zwa Ψ)
noncomputable def yea (Ψ:Str->Fn):GS:=(gSeq (gSet [] 1 (zau gA0)) (gSeq (zyo Ψ) (gRet (gOpN zan (gCns (gArg (gOpN zhq #v[6,14])) gA0)))))
theorem ztk (B:List Nat)(b:Nat):castL (B++[b])=castL B++[.int (b:Nat)]:=by unfold castL;rw[Bx];rfl
theorem yh9 (hW:WtN (Ψ "without_tops"))(f:l≠0)(hB:B.length<=1000):z54 Ψ [v0,Za (.lst (castL B),o),v2,#v[(l:Nat),0]]=Za ([v0,#v[(castL B),1],v2,#v[(l:Nat),0]],(.lst (castL (B.map λr=>r ^^^ sel [l] r)),Zd)):=by
 refine zig (xs:=[#v[(l:Nat),0]]) (ws:=castL B) (by cases o<;>simp_arith []) (by rw[zaf];exact hB) (by rw[zaf,zaf,Ac]) rfl rfl rfl (λ_ _=>rfl) λi u w r d g=>?_;obtain⟨b,a,rfl⟩:=za7 d;obtain⟨c,h,rfl⟩:=za7 g;rw[Ak,a] at h;obtain rfl:=sI h;have e:=hW [l] b (.lst (castL [l])) (.inl rfl) λx j=>by rw[As.mp j];exact f
 have e:Ψ "without_tops" [.lst [.int (l:Nat)],.int (b:Nat)]=Za ([.lst [.int (l:Nat)],.int (b:Nat)],(.int ((b ^^^ sel [l] b:Nat):Int),Zc)):=e;refine⟨#v[(b:Nat),0],Zc,?_⟩
 simp_arith [e]
theorem z5z:∀(ws B:List Nat),(ws.foldl boS B).length<=B.length+ws.length
 |[],B=>Af _
 | w::ws,B=>by
  have:=z5z ws (boS B w);have h:(boS B w).length<=B.length+1:=by
   unfold boS;split
   ·symm
   ·rw[Bb,Ac];exact Af _
  rw[List.foldl_cons,Bg];symm
noncomputable def yf7 (Φ:Fn):Prop:=∀(w:List Nat) (x:W),(x=.lst (castL w)\/x=.tup (castL w))->w.length<=200->Φ [x]=Za ([x],(.tup ((zhy ((bo w).map λb:Nat=>(b:Int))).map W.int),Zc))
theorem ydz (hW:WtN (Ψ "without_tops")):yf7 (zad [Zc] 4 (yea Ψ)):=λws x k A=>by
 have si:zap (gVar 0) #v[3,19]=Za (#v[3,19],castL ws):=by rcases k with rfl|rfl<;>rfl
 have c:∃o w2 w3,zyo Ψ #v[3,19]=Za (#v[0,20],.nx):=by
  unfold zyo;obtain⟨n,h,o,w2,w3,rfl⟩:=zbv (mp:=[]) (T:=.nm 2) (body:=zwa Ψ) (λi e=>∃o w2 w3,e=[#v[x,6],Za (.lst (castL (bo (ws.take i))),o),w2,w3]) si ⟨Zd,Zb,Zb,rfl⟩ λi u e t p=>by
   obtain⟨o,w2,w3,rfl⟩:=p;obtain⟨b,g,rfl⟩:=za7 t;have a:bo (ws.take (i+1))=boS (bo (ws.take i)) b:=by
    unfold bo;rw[Gq,g];rw[Gr];rfl
   have bl:(bo (ws.take i)).length<=200:=by
    have:=z5z (ws.take i) [];have y:(ws.take i).length<=ws.length:=by rw[De];symm
    have C:([]:List Nat).length=0:=rfl;unfold bo;symm
   obtain⟨j,_⟩:=z95 (ws.take i);generalize bo (ws.take i)=B at *
   have f:=hW B b (.lst (castL B)) (.inl rfl) j.1;rw[a];unfold boS;generalize b ^^^ sel B b=l at *
   by_cases z:l=0
   ·rw[if_pos z];have d:(!decide ((l:Int)=0))=Zc:=by rw[Ag #v[]];rfl
    refine⟨#v[6,18],#v[2,14],rfl,.inl ?_,Zc,#v[(b:Nat),0],#v[(l:Nat),0],rfl⟩;refine zjh (e1:=#v[2,14]) ?_ ?_
    ·simp_arith [f]
    ·simp_arith [d]
   ·rw[if_neg z];have d:(!decide ((l:Int)=0))=Zd:=by rw[At #v[]];rfl
    have s:=yh9 (Ψ:=Ψ) hW (B:=B) (l:=l) (v0:=#v[x,6]) (v2:=#v[(b:Nat),0]) (o:=Zc) z #v[];have m:oAdd (.lst (castL (B.map λr=>r ^^^ sel [l] r))) (.lst [.int (l:Nat)])=#v[(castL (B.map (λr=>r ^^^ sel [l] r)++[l])),2]:=by
     rw[zjz (by rw[zaf,Ac,Ic];show _+1<=_;symm),ztk]
    refine⟨#v[6,18],[#v[x,6],#v[(castL (B.map (λr=>r ^^^ sel [l] r)++[l])),2],#v[(b:Nat),0],#v[(l:Nat),0]],rfl,.inl ?_,Zd,#v[(b:Nat),0],#v[(l:Nat),0],rfl⟩;unfold zwa;refine zjh (e1:=#v[2,14]) ?_ ?_
    ·simp_arith [f]
    ·simp_arith [d,s,m]
  rw[zaf,Cp] at h;exact⟨_,_,_,h⟩
 obtain⟨o,w2,w3,c⟩:=c;have w:zhq [.lst (castL (bo ws))]=#v[((zhy ((bo ws).map λb:Nat=>(b:Int))).map W.int),2]:=by
  rw[zqm];show (zcs (((bo ws).map λb:Nat=>(b:Int)).map W.int)).bind _=_;rw[zej];rfl
 have q:zan [.lst ((zhy ((bo ws).map λb:Nat=>(b:Int))).map W.int)]=#v[((zhy ((bo ws).map λb:Nat=>(b:Int))).map W.int),3]:=rfl;unfold yea;refine zat (en:=#v[0,20]) rfl (zjh ?_ (zjh c ?_)) rfl
 ·simp_arith []
 ·cases o<;>simp_arith [w,q]
end L2
namespace My
open PySem PySem.Spec PyProof.Rows L2
noncomputable def top (i:Nat):Stmt:=PySem.Challenge.pw_yesnowords_k91_whole_kinds_closed.main.body.getD i (.Pass ⟨0,0,0,0⟩)
noncomputable def zer:Fd:=⟨"is_whole",["thing"],["thing"],[Zc],top 4⟩
noncomputable def zhc:Fd:=⟨"is_row",["thing","size"],["thing","size"],[Zc,Zc],top 5⟩
noncomputable def zeh:Fd:=⟨"is_place",["many","thing"],["many","thing"],[Zc,Zc],top 6⟩
noncomputable def zf5:Fd:=⟨"all_yes",["many"],["many"],[Zc],top 7⟩
noncomputable def zfs:Fd:=⟨"is_word",["many","thing"],["many","thing"],[Zc,Zc],top 8⟩
noncomputable def zqt:Fd:=⟨"says",["word","place"],["word","place"],[Zc,Zc],top 9⟩
noncomputable def zj9:Fd:=⟨"where",["word"],["word"],[Zc],top 10⟩
noncomputable def zgb:Fd:=⟨"word_at",["some"],["some","word","place"],[Zc],top 11⟩
noncomputable def zq8:Fd:=⟨"plus",["one","other"],["one","other"],[Zc,Zc],top 12⟩
noncomputable def zjq:Fd:=⟨"times",["one","other"],["one","other"],[Zc,Zc],top 13⟩
noncomputable def zdo:Fd:=⟨"letter_no",["many","letter"],["many","letter"],[Zc,Zc],top 15⟩
noncomputable def zfj:Fd:=⟨"stepped",["many","word","letter"],["many","word","letter","lower"],[Zc,Zc,Zc],top 16⟩
noncomputable def zjr:Fd:=⟨"steps",["many","word"],["many","word","rows","letter"],[Zc,Zc],top 17⟩
noncomputable def zct:Fd:=⟨"term_order",["term"],["term"],[Zc],top 19⟩
noncomputable def zg3:Fd:=⟨"degree",["poly"],["poly"],[Zc],top 20⟩
noncomputable def zf0:Fd:=⟨"word_of",["many","poly"],["many","poly","marks"],[Zc,Zc],top 21⟩
noncomputable def zfd:Fd:=⟨"poly_of",["many","word"],["many","word","marks"],[Zc,Zc],top 22⟩
noncomputable def zb2:Fd:=⟨"longer_terms",["many","some"],["many","some"],[Zc,Zc],top 24⟩
noncomputable def zjt:Fd:=⟨"terms",["kind"],["kind","many","most","row","told","size"],[Zc],top 25⟩
noncomputable def zen:Fd:=⟨"how_many",["kind"],["kind"],[Zc],top 26⟩
noncomputable def zjw:Fd:=⟨"is_in",["kind","word"],["kind","word","many","most"],[Zc,Zc],top 27⟩
noncomputable def zdk:Fd:=⟨"word_with",["kind","digits"],["kind","digits","chosen"],[Zc,Zc],top 28⟩
noncomputable def zds:Fd:=⟨"digits_of",["kind","word"],["kind","word","many","most","poly"],[Zc,Zc],top 29⟩
noncomputable def zdg:Fd:=⟨"is_within",["one","other"],["one","other"],[Zc,Zc],top 30⟩
noncomputable def z1b:Fd:=⟨"top",["word"],["word"],[Zc],top 32⟩
noncomputable def zb4:Fd:=⟨"without_tops",["rows","word"],["rows","word","left","row"],[Zc,Zc],top 33⟩
noncomputable def zf8:Fd:=⟨"base_of",["some"],["some","rows","word","left"],[Zc],top 34⟩
noncomputable def zcq:Fd:=⟨"is_turning",["many","thing"],["many","thing","images","shift"],[Zc,Zc],top 36⟩
noncomputable def zsv:Fd:=⟨"sent",["turning","place"],["turning","place","images","told","letter"],[Zc,Zc],top 37⟩
noncomputable def zhb:Fd:=⟨"turned",["many","turning","word"],["many","turning","word"],[Zc,Zc,Zc],top 38⟩
noncomputable def zrc:Fd:=⟨"back",["turning"],["turning","many","whence"],[Zc],top 39⟩
noncomputable def zdi:Fd:=⟨"_law_hand",["_law_script"],["_law_script","_law_state","_law_weighs","_law_cell","_law_k","_law_one"],[Zc],top 41⟩
noncomputable def zdm:Fd:=⟨"_law_take",["_law_state","_law_count"],["_law_state","_law_count","_law_digit","_law_mixed"],[Zd,Zc],top 42⟩
noncomputable def zde:Fd:=⟨"_law_many",["_law_state"],["_law_state"],[Zd],top 43⟩
noncomputable def zdv:Fd:=⟨"_law_bits",["_law_state","_law_count"],["_law_state","_law_count","_law_way","_law_found","_law_k","_law_one"],[Zd,Zc],top 44⟩
noncomputable def zb0:Fd:=⟨"_law_turning",["_law_state","_law_many_here"],["_law_state","_law_many_here","_law_images","_law_sums","_law_letter","_law_some"],[Zd,Zc],top 45⟩
noncomputable def zay:Fd:=⟨"_law_walked_right",["_law_state"],["_law_state","_law_some","_law_kind","_law_words","_law_k","_law_one"],[Zd],top 46⟩
noncomputable def zaz:Fd:=⟨"_law_turned_right",["_law_state","_law_kind","_law_word"],["_law_state","_law_kind","_law_word","_law_turn","_law_turning_here","_law_there"],[Zd,Zc,Zc],top 47⟩
noncomputable def zcx:Fd:=⟨"_law_right",["_law_state","_law_kind","_law_other"],["_law_state","_law_kind","_law_other","_law_many_here","_law_mine","_law_theirs","_law_word","_law_more","_law_also","_law_both","_law_due","_law_most"],[Zd,Zc,Zc],top 48⟩
noncomputable def zpk:Fd:=⟨"law",["_law_script"],["_law_script","_law_state","_law_turn","_law_many_here","_law_kind","_law_other"],[Zc],top 49⟩
noncomputable def T:List Fd:=[zer,zhc,zeh,zf5,zfs,zqt,zj9,zgb,zq8,zjq,zdo,zfj,zjr,zct,zg3,zf0,zfd,zb2,zjt,zen,zjw,zdk,zds,zdg,z1b,zb4,zf8,zcq,zsv,zhb,zrc,zdi,zdm,zde,zdv,zb0,zay,zaz,zcx,zpk]
noncomputable def bn:List Str:=["abs","all","any","bool","d whence","dict","enumerate","inT","int","isinstance","len","max","min","range","set","sorted","tuple","zip"]
noncomputable def zgj (Ψ:Str->Fn):GS:=(gRet (gAnd (gOp1 (oIsi .int) (zaa 0)) (gNot (gOp1 (oIsi .bool) (zaa 0)))))
theorem sFq {d:Nat}{x:Str}{t:Fd}{g:(Str->Fn)->GS}(h:T.find? (·.nm==x)=Za t)(b:∀Ψ d,zai T bn Ψ (d+2) t=Za (g Ψ)):sem T bn (d+3) x=zad t.m t.N.length (g (sem T bn (d+2))):=zav h (b _ d)
theorem ztx (d:Nat):sem T bn (d+3) "is_whole"=zad [Zc] 1 (zgj (sem T bn (d+2))):=sFq (t:=zer) (by kernel_rfl) λ_ _=>by kernel_rfl
noncomputable def zg1 (Ψ:Str->Fn):GS:=(gRet (gAnd (gOp1 (oIsi .tuple) (zaa 0)) (gOp2 oEq #v[5,9] (zaa 1))))
theorem z2g (d:Nat):sem T bn (d+3) "is_row"=zad [Zc,Zc] 2 (zg1 (sem T bn (d+2))):=sFq (t:=zhc) (by kernel_rfl) λ_ _=>by kernel_rfl
noncomputable def zel (Ψ:Str->Fn):GS:=(gRet (gAnd (zac [Zc] (Ψ "is_whole") #v[4,13]) (zln (oI yes2 λi j=>.bl (decide (i<=j))) (oI yes2 λi j=>.bl (decide (i<j))) #v[0] (zaa 1) #v[6,16])))
theorem zut (d:Nat):sem T bn (d+3) "is_place"=zad [Zc,Zc] 2 (zel (sem T bn (d+2))):=sFq (t:=zeh) (by kernel_rfl) λ_ _=>by kernel_rfl
theorem zxh (d:Nat):sem T bn (d+3) "all_yes"=zad [Zc] 1 (zyq (sem T bn (d+2))):=sFq (t:=zf5) (by kernel_rfl) λ_ _=>by kernel_rfl
noncomputable def zfh (Ψ:Str->Fn):GS:=(gRet (gAnd (zac [Zc] (Ψ "is_whole") #v[4,13]) (zln (oI yes2 λi j=>.bl (decide (i<=j))) (oI yes2 λi j=>.bl (decide (i<=j))) #v[0] (zaa 1) #v[4,20])))
theorem zvw (d:Nat):sem T bn (d+3) "is_word"=zad [Zc,Zc] 2 (zfh (sem T bn (d+2))):=sFq (t:=zfs) (by kernel_rfl) λ_ _=>by kernel_rfl
theorem yc6 (d:Nat):sem T bn (d+3) "says"=zad [Zc,Zc] 2 (ybx (sem T bn (d+2))):=sFq (t:=zqt) (by kernel_rfl) λ_ _=>by kernel_rfl
theorem ybl (d:Nat):sem T bn (d+3) "where"=zad [Zc] 1 (z62 (sem T bn (d+2))):=sFq (t:=zj9) (by kernel_rfl) λ_ _=>by kernel_rfl
theorem zl8 (d:Nat):sem T bn (d+3) "word_at"=zad [Zc] 3 (znl (sem T bn (d+2))):=sFq (t:=zgb) (by kernel_rfl) λ_ _=>by kernel_rfl
theorem ycn (d:Nat):sem T bn (d+3) "plus"=zad [Zc,Zc] 2 (ye6 (sem T bn (d+2))):=sFq (t:=zq8) (by kernel_rfl) λ_ _=>by kernel_rfl
theorem z9q (d:Nat):sem T bn (d+3) "times"=zad [Zc,Zc] 2 (z99 (sem T bn (d+2))):=sFq (t:=zjq) (by kernel_rfl) λ_ _=>by kernel_rfl
theorem zqa (d:Nat):sem T bn (d+3) "letter_no"=zad [Zc,Zc] 2 (zpz (sem T bn (d+2))):=sFq (t:=zdo) (by kernel_rfl) λ_ _=>by kernel_rfl
theorem z0r (d:Nat):sem T bn (d+3) "stepped"=zad [Zc,Zc,Zc] 4 (zym (sem T bn (d+2))):=sFq (t:=zfj) (by kernel_rfl) λ_ _=>by kernel_rfl
theorem z73 (d:Nat):sem T bn (d+3) "steps"=zad [Zc,Zc] 4 (yay (sem T bn (d+2))):=sFq (t:=zjr) (by kernel_rfl) λ_ _=>by kernel_rfl
theorem zm5 (d:Nat):sem T bn (d+3) "term_order"=zad [Zc] 1 (zf7 (sem T bn (d+2))):=sFq (t:=zct) (by kernel_rfl) λ_ _=>by kernel_rfl
theorem z07 (d:Nat):sem T bn (d+3) "degree"=zad [Zc] 1 (zl3 (sem T bn (d+2))):=sFq (t:=zg3) (by kernel_rfl) λ_ _=>by kernel_rfl
theorem zvs (d:Nat):sem T bn (d+3) "word_of"=zad [Zc,Zc] 3 (zi6 (sem T bn (d+2))):=sFq (t:=zf0) (by kernel_rfl) λ_ _=>by kernel_rfl
theorem zxz (d:Nat):sem T bn (d+3) "poly_of"=zad [Zc,Zc] 3 (zi2 (sem T bn (d+2))):=sFq (t:=zfd) (by kernel_rfl) λ_ _=>by kernel_rfl
noncomputable def zez (Ψ:Str->Fn):GS:=(gRet (zzt Ψ))
theorem zi1 (d:Nat):sem T bn (d+3) "longer_terms"=zad [Zc,Zc] 2 (zez (sem T bn (d+2))):=sFq (t:=zb2) (by kernel_rfl) λ_ _=>by kernel_rfl
theorem z9k (d:Nat):sem T bn (d+3) "terms"=zad [Zc] 6 (zfv (sem T bn (d+2))):=sFq (t:=zjt) (by kernel_rfl) λ_ _=>by kernel_rfl
noncomputable def zeg (Ψ:Str->Fn):GS:=(gRet (gOp2 #v[0,0,1] #v[1] (gArg (gOpN oLen (gCns (gArg (zac [Zc] (Ψ "terms") #v[7,14])) gA0)))))
theorem zt5 (d:Nat):sem T bn (d+3) "how_many"=zad [Zc] 1 (zeg (sem T bn (d+2))):=sFq (t:=zen) (by kernel_rfl) λ_ _=>by kernel_rfl
theorem z8a (d:Nat):sem T bn (d+3) "is_in"=zad [Zc,Zc] 4 (zqq (sem T bn (d+2))):=sFq (t:=zjw) (by kernel_rfl) λ_ _=>by kernel_rfl
noncomputable def zgv (Ψ:Str->Fn):GE:=zbl #v[3,21] (.tp [1,2]) (gZip (zac [Zc] (Ψ "terms") #v[7,14]) (gVar 1)) (zaj #v[5,21]) (gVar 1)
noncomputable def zdc (Ψ:Str->Fn):GS:=(gSeq (gSet [] 2 (gOpN zan (gCns (gArg (zgv Ψ)) gA0))) (gRet (zac [Zc,Zc] (Ψ "word_of") (gCns #v[2,11] #v[9,11]))))
theorem zpn (d:Nat):sem T bn (d+3) "word_with"=zad [Zc,Zc] 3 (zdc (sem T bn (d+2))):=sFq (t:=zdk) (by kernel_rfl) λ_ _=>by kernel_rfl
noncomputable def zea (Ψ:Str->Fn):GE:=zbl [Zb,Zb,Za 4] (.nm 1) (zap (zac [Zc] (Ψ "terms") #v[7,14])) gYes (gIf (zaj (gOp2 (oInV Zc) (zaa 1) (zaa 2))) (gC (.int 1)) (gC (.int 0)))
noncomputable def zdr (Ψ:Str->Fn):GS:=(gSeq (gAsg [] (.tp [2,3]) (gVar 0)) (gSeq (gSet [] 4 (zac [Zc,Zc] (Ψ "poly_of") #v[7,8])) (gSeq (gIfS (zaj (gOp2 #v[3,11] (gArg (zac [Zc] (Ψ "degree") (gCns #v[4,4] gA0))) (zaa 3))) zq3 zbp) (gRet (gOpN zan (gCns (gArg (zea Ψ)) gA0))))))
theorem zp0 (d:Nat):sem T bn (d+3) "digits_of"=zad [Zc,Zc] 5 (zdr (sem T bn (d+2))):=sFq (t:=zds) (by kernel_rfl) λ_ _=>by kernel_rfl
noncomputable def zdj (Ψ:Str->Fn):GS:=(gRet (gAnd (gOp2 oEq #v[2,11] #v[2,12]) (gOp2 (oI yes2 λi j=>.bl (decide (i<=j))) (gArg (gOp2 oIx (zaa 0) #v[1])) #v[1,12])))
theorem zpq (d:Nat):sem T bn (d+3) "is_within"=zad [Zc,Zc] 2 (zdj (sem T bn (d+2))):=sFq (t:=zdg) (by kernel_rfl) λ_ _=>by kernel_rfl
theorem yir (d:Nat):sem T bn (d+3) "top"=zad [Zc] 1 (z5a (sem T bn (d+2))):=sFq (t:=z1b) (by kernel_rfl) λ_ _=>by kernel_rfl
theorem ziv (d:Nat):sem T bn (d+3) "without_tops"=zad [Zc,Zc] 4 (yhe (sem T bn (d+2))):=sFq (t:=zb4) (by kernel_rfl) λ_ _=>by kernel_rfl
theorem zzn (d:Nat):sem T bn (d+3) "base_of"=zad [Zc] 4 (yea (sem T bn (d+2))):=sFq (t:=zf8) (by kernel_rfl) λ_ _=>by kernel_rfl
noncomputable def zdb (Ψ:Str->Fn):GE:=zbl #v[2,19] (.nm 1) (zap (gVar 2)) gYes (zac [Zc,Zc] (Ψ "is_place") #v[7,8])
noncomputable def zcu (Ψ:Str->Fn):GS:=(gSeq (gIfS (ze2 (zaj (zac [Zc,Zc] (Ψ "is_row") (gCns #v[1,4] #v[5,19])))) #v[7,9] zbp) (gSeq (gAsg [] (.tp [2,3]) (gVar 1)) (gSeq (gIfS (gOrT (ze2 (zaj (zac [Zc,Zc] (Ψ "is_place") (gCns #v[0,4] #v[4,19])))) (ze2 (zaj (zac [Zc,Zc] (Ψ "is_row") (gCns #v[2,4] #v[7,14]))))) #v[7,9] zbp) (gSeq (gIfS (ze2 (zaj (gOpN (oBl λbs=>bs.all id) (gCns (gArg (zdb Ψ)) gA0)))) #v[7,9] zbp) (gRet (gOp2 oEq (gArg (gOpN oLen (gCns (gArg (zac [Zc] (Ψ "base_of") #v[9,11])) gA0))) (zaa 0)))))))
theorem e_is_turning (d:Nat):sem T bn (d+3) "is_turning"=zad [Zc,Zc] 4 (zcu (sem T bn (d+2))):=sFq (t:=zcq) (by kernel_rfl) λ_ _=>by kernel_rfl
noncomputable def zku (Ψ:Str->Fn):GS:=(gSet [] 3 (zac [Zc,Zc] (Ψ "plus") (gCns #v[3,4] (gCns (gArg (gOp2 oIx (zaa 2) (zaa 4))) gA0))))
noncomputable def zqf (Ψ:Str->Fn):GS:=gFor [] (.nm 4) (zap (zac [Zc] (Ψ "where") #v[4,13])) (zku Ψ)
noncomputable def zsu (Ψ:Str->Fn):GS:=(gSeq (gAsg [] (.tp [2,3]) (gVar 0)) (gSeq (zqf Ψ) (zdz [] 3)))
theorem yft (d:Nat):sem T bn (d+3) "sent"=zad [Zc,Zc] 5 (zsu (sem T bn (d+2))):=sFq (t:=zsv) (by kernel_rfl) λ_ _=>by kernel_rfl
noncomputable def zhl (Ψ:Str->Fn):GE:=zbl [Zb,Zb,Za 1,Za 2] (.nm 1) (zbt (gCns #v[6,16] gA0)) (zaj (gOp2 oEq (gArg (zac [Zc,Zc] (Ψ "says") (gCns #v[3,4] (gCns (gArg (zac [Zc,Zc] (Ψ "sent") #v[7,8])) gA0)))) #v[1])) (gVar 1)
noncomputable def zg4 (Ψ:Str->Fn):GS:=(gRet (zac [Zc] (Ψ "word_at") (gCns (gArg (zhl Ψ)) gA0)))
theorem z1u (d:Nat):sem T bn (d+3) "turned"=zad [Zc,Zc,Zc] 3 (zg4 (sem T bn (d+2))):=sFq (t:=zhb) (by kernel_rfl) λ_ _=>by kernel_rfl
noncomputable def zoe (Ψ:Str->Fn):GE:=zqu #v[2,19] (.nm 1) (zbt #v[2,21]) (zac [Zc,Zc] (Ψ "sent") #v[7,8]) (gVar 1)
noncomputable def zpb (Ψ:Str->Fn):GE:=zbl #v[1,19] (.nm 1) (zbt #v[6,14]) gYes (zac [Zc,Zc] (Ψ "plus") (gCns (gArg (gOp2 oIxD (zaa 2) #v[0,11])) #v[5,20]))
noncomputable def zrv (Ψ:Str->Fn):GS:=(gSeq (gSet [] 1 (gOpN oLen (gCns #v[2,11] gA0))) (gSeq (gSet [] 2 (zoe Ψ)) (gRet (zbb (gCns (gArg (gOpN zan (gCns (gArg (zpb Ψ)) gA0))) #v[5,20])))))
theorem yco (d:Nat):sem T bn (d+3) "back"=zad [Zc] 3 (zrv (sem T bn (d+2))):=sFq (t:=zrc) (by kernel_rfl) λ_ _=>by kernel_rfl
theorem zom (d:Nat):sem T bn (d+3) "_law_hand"=zad [Zc] 6 (ycj (sem T bn (d+2))):=sFq (t:=zdi) (by kernel_rfl) λ_ _=>by kernel_rfl
theorem zoj (d:Nat):sem T bn (d+3) "_law_take"=zad [Zd,Zc] 4 (zzy (sem T bn (d+2))):=sFq (t:=zdm) (by kernel_rfl) λ_ _=>by kernel_rfl
noncomputable def zcj (Ψ:Str->Fn):GS:=(gRet (gOp2 oIx (gArg (zau (gCns (gArg (gOp2 oAdd #v[1] (gArg (zac [Zd,Zc] (Ψ "_law_take") (gCns (zaa 0) (gCns #v[5] gA0)))))) (gCns #v[6] gA0)))) (gArg (gOpN oInt (gCns (gArg (gOp2 oEq (gArg (zac [Zd,Zc] (Ψ "_law_take") (gCns (zaa 0) (gCns #v[8] gA0)))) #v[0])) gA0)))))
theorem zpp (d:Nat):sem T bn (d+3) "_law_many"=zad [Zd] 1 (zcj (sem T bn (d+2))):=sFq (t:=zde) (by kernel_rfl) λ_ _=>by kernel_rfl
theorem zp7 (d:Nat):sem T bn (d+3) "_law_bits"=zad [Zd,Zc] 6 (yey (sem T bn (d+2))):=sFq (t:=zdv) (by kernel_rfl) λ_ _=>by kernel_rfl
noncomputable def zcm (Ψ:Str->Fn):GE:=zbl [Zb,Zb,Za 3] (.nm 1) (zbt #v[2,21]) (zaj (gOp2 (oInV Zd) (zaa 1) (zaa 2))) (gVar 1)
noncomputable def zck (Ψ:Str->Fn):GE:=zbl #v[1,19] (.nm 1) (zap (gVar 3)) gYes (gOp2 #v[2,13] (zaa 1) (gArg (gOp2 oIx (zaa 2) (gArg (gOp1 oNeg #v[1])))))
noncomputable def zbs (Ψ:Str->Fn):GS:=(gSeq (gSet [0] 5 (zcm Ψ)) (gSeq (zgk (gApp 2 (gOp2 oIx (zaa 5) (gArg (zac [Zd,Zc] (Ψ "_law_take") (gCns (zaa 0) (gCns (gArg (gOpN oLen (gCns (zaa 5) gA0))) gA0))))))) (gSet [0] 3 (gOp2 oAdd (zaa 3) (gArg (zck Ψ))))))
noncomputable def zcf (Ψ:Str->Fn):GS:=gFor [0] (.nm 4) (zbt #v[6,14]) (zbs Ψ)
noncomputable def zb1 (Ψ:Str->Fn):GS:=(gSeq (gSet [0] 2 (zau gA0)) (gSeq (gSet [0] 3 (zau #v[4,18])) (gSeq (zcf Ψ) (gRet (zbb (gCns (gArg (gOpN zan (gCns (zaa 2) gA0))) (gCns (gArg (zac [Zd,Zc] (Ψ "_law_take") (gCns (zaa 0) #v[2,21]))) gA0)))))))
theorem ziz (d:Nat):sem T bn (d+3) "_law_turning"=zad [Zd,Zc] 6 (zb1 (sem T bn (d+2))):=sFq (t:=zb0) (by kernel_rfl) λ_ _=>by kernel_rfl
noncomputable def zbg (Ψ:Str->Fn):GE:=zbl [Zb,Zb,Za 4] (.nm 1) (zbt #v[9,20]) gYes (gOpN oInt (gCns (gArg (gOp2 oEq (zaa 1) (zaa 2))) gA0))
noncomputable def zbf (Ψ:Str->Fn):GE:=zbl [Zb,Zb,Za 5] (.nm 1) (zap (gVar 3)) gYes (zac [Zc,Zc] (Ψ "plus") (gCns #v[1,4] #v[9,11]))
noncomputable def zar (Ψ:Str->Fn):GS:=(gSeq (gSet [0] 5 (zac [Zc,Zc] (Ψ "word_with") (gCns #v[2,4] (gCns (gArg (gOpN zan (gCns (gArg (zbg Ψ)) gA0))) gA0)))) (gSet [0] 3 (gOp2 oAdd (zaa 3) (gArg (zbf Ψ)))))
noncomputable def zbh (Ψ:Str->Fn):GS:=gFor [0] (.nm 4) (zbt #v[9,20]) (zar Ψ)
noncomputable def C4__law_walked_right (Ψ:Str->Fn):GE:=zbl #v[1,19] (.nm 1) (zap #v[7,13]) gYes (zac [Zc,Zc] (Ψ "is_in") #v[7,8])
noncomputable def zax (Ψ:Str->Fn):GS:=(gSeq (gSet [0] 1 (zau (gCns (gArg (zbb (gCns #v[1] #v[4,18]))) (gCns (gArg (zbb (gCns #v[1] #v[6,19]))) (gCns (gArg (zbb (gCns #v[2] #v[4,18]))) (gCns (gArg (zbb (gCns #v[2] #v[6,19]))) (gCns (gArg (zbb (gCns #v[2] #v[5,19]))) (gCns (gArg (zbb (gCns #v[3] #v[4,18]))) (gCns (gArg (zbb (gCns #v[3] #v[6,19]))) (gCns (gArg (zbb (gCns #v[3] #v[5,19]))) (gCns (gArg (zbb (gCns #v[3] (gCns #v[3] gA0)))) (gCns (gArg (zbb (gCns #v[4] #v[4,18]))) (gCns (gArg (zbb (gCns #v[4] #v[6,19]))) (gCns (gArg (zbb (gCns #v[4] #v[5,19]))) gA0)))))))))))))) (gSeq (gSet [0] 1 (gOp2 oAdd (zaa 1) (gArg (zau (gCns (gArg (zbb (gCns #v[5] #v[6,19]))) (gCns (gArg (zbb (gCns #v[6] #v[6,19]))) gA0)))))) (gSeq (gSet [0] 2 (gOp2 oIx (zaa 1) (gArg (zac [Zd,Zc] (Ψ "_law_take") (gCns (zaa 0) (gCns (gArg (gOpN oLen #v[6,14])) gA0)))))) (gSeq (gSet [0] 3 (zau #v[4,18])) (gSeq (zbh Ψ) (gSeq (gIfS (gOrT (zaj (gOp2 oNe (gArg (ztq #v[0,18])) #v[1,20])) (zaj (gOp2 oNe (gArg (gOpN oLen #v[0,18])) #v[1,20]))) #v[7,9] zbp) (gRet (gOpN (oBl λbs=>bs.all id) (gCns (gArg (C4__law_walked_right Ψ)) gA0)))))))))
theorem ze7 (d:Nat):sem T bn (d+3) "_law_walked_right"=zad [Zd] 6 (zax (sem T bn (d+2))):=sFq (t:=zay) (by kernel_rfl) λ_ _=>by kernel_rfl
noncomputable def zas (Ψ:Str->Fn):GS:=(gSeq (gSet [0] 4 (zac [Zd,Zc] (Ψ "_law_turning") (gCns (zaa 0) (gCns #v[2,12] gA0)))) (gSeq (gSet [0] 5 (zac [Zc,Zc,Zc] (Ψ "turned") (gCns #v[2,12] (gCns #v[4,4] #v[9,11])))) (gSeq (gIfS (gOrT (zaj (gOp2 zib (gArg (zac [Zc,Zc] (Ψ "is_turning") (gCns #v[2,12] (gCns #v[4,4] gA0)))) #v[8,18])) (zaj (gOp2 zib (gArg (zac [Zc,Zc] (Ψ "is_in") (gCns #v[1,4] (gCns #v[5,4] gA0)))) #v[8,18]))) #v[7,9] zbp) (gIfS (zaj (gOp2 oNe (gArg (zac [Zc,Zc,Zc] (Ψ "turned") (gCns #v[2,12] (gCns (gArg (zac [Zc] (Ψ "back") (gCns #v[4,4] gA0))) (gCns #v[5,4] gA0))))) (zaa 2))) #v[7,9] zbp))))
noncomputable def zbe (Ψ:Str->Fn):GS:=gFor [0] (.nm 3) (zbt #v[5,19]) (zas Ψ)
noncomputable def za2 (Ψ:Str->Fn):GS:=(gSeq (zbe Ψ) (gRet (gC (.bl Zd))))
theorem e__law_turned_right (d:Nat):sem T bn (d+3) "_law_turned_right"=zad [Zd,Zc,Zc] 6 (za2 (sem T bn (d+2))):=sFq (t:=zaz) (by kernel_rfl) λ_ _=>by kernel_rfl
noncomputable def zdx (Ψ:Str->Fn):GE:=zbl #v[3,21] (.tp [1,2]) (gZip (gVar 4) (gVar 8)) gYes (gOp2 #v[0,0,2] (gArg (gOp2 oAdd (zaa 1) (zaa 2))) #v[2])
noncomputable def zdq (Ψ:Str->Fn):GS:=(gIfS (gOrT (ze2 (zaj (zac [Zc,Zc] (Ψ "is_in") (gCns #v[7,19] (gCns #v[6,4] gA0))))) (zaj (gOp2 zib (gArg (zac [Zc,Zc] (Ψ "is_within") (gCns #v[1,4] (gCns #v[7,19] gA0)))) #v[8,18]))) #v[7,9] zbp)
noncomputable def zda (Ψ:Str->Fn):GS:=gFor [0] (.nm 11) (zmv (gCns #v[1,12] #v[6,20])) (zdq Ψ)
noncomputable def zdf (Ψ:Str->Fn):GE:=zbl [Zb,Zb,Za 1,Za 3] (.nm 1) (zbt (gCns #v[1,12] gA0)) gYes (zac [Zc,Zc] (Ψ "is_within") (gCns #v[2,4] (gCns (gArg (zbb (gCns #v[3,4] #v[4,13]))) gA0)))
noncomputable def zcv (Ψ:Str->Fn):GS:=(gSeq (gSet [0] 3 (gOp2 oIx (zaa 1) #v[0])) (gSeq (gPar [0] 4 5 (zac [Zd,Zc] (Ψ "_law_bits") (gCns (zaa 0) (gCns (gArg (gOpN oLen (gCns (gArg (zac [Zc] (Ψ "terms") #v[4,13])) gA0))) gA0))) (zac [Zd,Zc] (Ψ "_law_bits") (gCns (zaa 0) #v[9,20]))) (gSeq (gPar [0] 6 7 (zac [Zc,Zc] (Ψ "word_with") (gCns #v[1,4] (gCns (gArg #v[7,18]) gA0))) (zac [Zc,Zc] (Ψ "word_with") (gCns #v[2,4] (gCns (gArg (gOpN zan (gCns (zaa 5) gA0))) gA0)))) (gSeq (gIfS (gOrT (zaj (gOp2 oNe (gArg (zac [Zc,Zc] (Ψ "digits_of") #v[1,18])) (gArg #v[7,18]))) (gOrT (zaj (gOp2 zib (gArg (zac [Zc,Zc] (Ψ "is_word") (gCns #v[3,4] (gCns #v[6,4] gA0)))) #v[8,18])) (ze2 (zaj (zac [Zc,Zc] (Ψ "is_in") #v[1,18]))))) #v[7,9] zbp) (gSeq (gSet [0] 8 (zac [Zd,Zc] (Ψ "_law_bits") (gCns (zaa 0) (gCns (gArg (gOpN oLen (gCns (zaa 4) gA0))) gA0)))) (gSeq (gSet [0] 9 (zac [Zc,Zc] (Ψ "plus") (gCns #v[6,4] (gCns (gArg (zac [Zc,Zc] (Ψ "word_with") (gCns #v[1,4] (gCns (gArg (gOpN zan (gCns (zaa 8) gA0))) gA0)))) gA0)))) (gSeq (gSet [0] 10 (gOpN zan (gCns (gArg (zdx Ψ)) gA0))) (gSeq (gIfS (gOrT (ze2 (zaj (zac [Zc,Zc] (Ψ "is_in") (gCns #v[1,4] (gCns #v[9,4] gA0))))) (zaj (gOp2 oNe (gArg (zac [Zc,Zc] (Ψ "digits_of") (gCns #v[1,4] (gCns #v[9,4] gA0)))) (zaa 10)))) #v[7,9] zbp) (gSeq (gIfS (ze2 (zaj (zac [Zc,Zc] (Ψ "is_in") (gCns (gArg (zbb (gCns #v[3,4] (gCns (gArg (gOpN oMin (gCns (zaa 3) (gCns (gArg (gOp2 oAdd #v[1,12] (gArg (gOp2 oIx (zaa 2) #v[1])))) gA0)))) gA0)))) (gCns (gArg (zac [Zc,Zc] (Ψ "times") (gCns #v[6,4] (gCns #v[7,4] gA0)))) gA0))))) #v[7,9] zbp) (gSeq (zda Ψ) (gSeq (gIfS (zaj (gOpN (oBl λbs=>bs.any id) (gCns (gArg (zdf Ψ)) gA0))) #v[7,9] zbp) (gRet (zac [Zd,Zc,Zc] (Ψ "_law_turned_right") (gCns (zaa 0) #v[1,18]))))))))))))))
theorem e__law_right (d:Nat):sem T bn (d+3) "_law_right"=zad [Zd,Zc,Zc] 12 (zcv (sem T bn (d+2))):=sFq (t:=zcx) (by kernel_rfl) λ_ _=>by kernel_rfl
noncomputable def zr9 (Ψ:Str->Fn):GS:=(gSeq (gSet [] 3 (zac [Zd] (Ψ "_law_many") #v[6,14])) (gSeq (gPar [] 4 5 #v[7,11] #v[7,11]) (gIfS (ze2 (zaj (zac [Zd,Zc,Zc] (Ψ "_law_right") (gCns (zaa 1) (gCns #v[4,4] (gCns #v[5,4] gA0)))))) #v[7,9] zbp)))
noncomputable def zwi (Ψ:Str->Fn):GS:=gFor [] (.nm 2) (zbt (gCns #v[7,15] gA0)) (zr9 Ψ)
noncomputable def z8p (Ψ:Str->Fn):GS:=(gSeq (gSet [] 1 (zac [Zc] (Ψ "_law_hand") #v[7,14])) (gSeq (zwi Ψ) (gRet (zac [Zd] (Ψ "_law_walked_right") #v[6,14]))))
theorem yh7 (d:Nat):sem T bn (d+3) "law"=zad [Zc] 6 (z8p (sem T bn (d+2))):=sFq (t:=zpk) (by kernel_rfl) λ_ _=>by kernel_rfl
noncomputable def mono (U:List Nat) (p:Nat):Bool:=U.all λl=>p.testBit l
theorem zsr {U:List Nat}{p:Nat}:mono U p=Zd↔∀l∈U,p.testBit l=Zd:=Bi
noncomputable def par (ts:List (List Nat)) (p:Nat):Bool:=ts.foldr (λt b=>mono t p ^^ b) Zc
theorem yii:∀m:Fin 7,∀t∈zab m.val m.val,(∀l∈t,l<m.val)/\t.Nodup/\t.length<=m.val:=by decide +kernel
theorem z40 (t:List Nat)(p:Nat):hasT t p=mono t p:=by
 refine congrArg (λf=>t.all f) (funext λl=>?_);rw[Dx]
theorem zoz (p:Nat):∀ts:List (List Nat),valF ts p=if par ts p then 1 else 0
 |[]=>rfl
 | t::ts=>by
  rw[z2z,zoz p ts,z40];show _=if (mono t p ^^ par ts p) then 1 else 0;cases mono t p<;>cases par ts p<;>rfl
structure Cd (m r w:Nat):Prop where
 lt:w<2^2^m
 dg:Deg m r (bitN w)
theorem yc5 {n a b:Nat}(d:a<2^n)(e:b<2^n)(h:∀p,p<n->a.testBit p=b.testBit p):a=b:=by
 refine Nat.eq_of_testBit_eq λp=>?_;rcases Nat.lt_or_ge p n with c|c
 ·exact h p c
 ·rw[Dw (Aw d (Bj #v[0,9] c)),Dw (Aw e (Bj #v[0,9] c))]
theorem z9t (a b i:Nat):bitN (a ^^^ b) i=(bitN a i+bitN b i)%2:=by
 unfold bitN;rw[Cc];cases a.testBit i<;>cases b.testBit i<;>rfl
theorem z6n {m r a b:Nat}(A:Cd m r a)(B:Cd m r b):Cd m r (a ^^^ b) :=
 ⟨Er A.lt B.lt,zb7 (λp _=>(z9t a b p).symm) (z0u A.dg B.dg)⟩
noncomputable def bitF (p i:Nat):Int:=((p/2^i%2:Nat):Int)
theorem bitF_word:∀p:Fin 64,wordOf (tab 6 (bitF p.val))=(p.val:Int):=by decide +kernel
theorem bitF_bit (p i:Nat):Bit (bitF p i):=by unfold bitF Bit;symm
theorem bitF_hi {p n i:Nat}(h:p<2^n)(a:n<=i):bitF p i=0:=by
 unfold bitF;rw[Nat.div_eq_of_lt (Aw h (Bj #v[0,9] a))];rfl
noncomputable def gN (is:List Nat) (s p n:Nat):Nat:=(dueL (bitF p) n).foldl (λt l=>t ^^^ is.getD l 0) s
theorem za5 (is:List Nat)(s p n:Nat):gN is s p (n+1)=if p/2^n%2=1 then gN is s p n ^^^ is.getD n 0 else gN is s p n:=by
 unfold gN dueL;rw[Ex,Es];have e:(bitF p n=1)↔(p/2^n%2=1):=by unfold bitF;symm
 by_cases c:p/2^n%2=1
 ·rw[if_pos c,Fg (p:=λq=>decide (bitF p q=1)) (Ag (e.mpr c)),Ei,Gr];rfl
 ·rw[if_neg c,Fh (p:=λq=>decide (bitF p q=1)) (by rw[At (λz=>c (e.mp z))];decide),Ei,Bu]
theorem z5p {is:List Nat}{s p m:Nat} (h:p<2^m):∀k,gN is s p (m+k)=gN is s p m
 |0=>rfl
 | k+1=>by
  rw[<-Nat.add_assoc,za5,if_neg,z5p h k];rw[Nat.div_eq_of_lt (Aw h (Bj #v[0,9] #v[]))]
  decide
noncomputable def InM (m:Nat) (is:List Nat):Prop:=∀a∈is,a<2^m
theorem getD_lt {m:Nat}{is:List Nat}(h:InM m is)(l:Nat):is.getD l 0<2^m:=by
 rw[Au];cases e:is[l]? with
 |none=>exact Dl #v[0,9]
 |some a=>exact h a (Bn e)
theorem zqd {m:Nat}{is:List Nat}(h:InM m is):∀(b:List Nat) (s:Nat),s<2^m->b.foldl (λt l=>t ^^^ is.getD l 0) s<2^m
 |[],s,a=>a
 |l::b,s,a=>zqd h b _ (Er a (getD_lt h l))
theorem z3r {m:Nat}{is:List Nat}{s:Nat}(h:InM m is)(a:s<2^m)(p n:Nat):gN is s p n<2^m:=zqd h _ s a
noncomputable def tuW (is:List Nat) (s:Nat):W:=.tup [.tup (castL is),.int (s:Nat)]
noncomputable def bJ (F:Nat->Bool) (p:Nat):Int:=if F p then 1 else 0
noncomputable def CF (m r:Nat) (F:Nat->Bool):Prop:=Deg m r (bJ F)
theorem zb5 {m r:Nat}{F G:Nat->Bool}(h:∀p,p<2^m->F p=G p)(c:CF m r F):CF m r G:=zb7 (λp a=>by unfold bJ;rw[h p a]) c
theorem yh4 {m r s:Nat}{F:Nat->Bool}(h:r<=s)(c:CF m r F):CF m s F:=λq a e=>Cm (c q a e) h
theorem zl9 {m r:Nat}{F G:Nat->Bool}(c:CF m r F)(d:CF m r G):CF m r λp=>F p ^^ G p:=zb7 (λp _=>by
 show ((if F p=Zd then (1:Int) else 0)+(if G p=Zd then 1 else 0))%2=if (F p ^^ G p)=Zd then 1 else 0;cases F p<;>cases G p<;>rfl) (z0u c d)
theorem zfc (m r:Nat):CF m r λ_=>Zc:=λq h e=>by
 have z:zam (bJ λ_=>Zc) q=0:=by
  unfold zam;rw[zxn (bJ λ_=>Zc) (λ_=>rfl)]
  rfl
 rw[z] at e;cases e
noncomputable def zkp (t:List Nat):Nat:=t.foldr (λl a=>2^l ||| a) 0
theorem znt (l:Nat):∀t:List Nat,(zkp t).testBit l=t.contains l
 |[]=>Cg l
 | k::t=>by
  show (2^k ||| zkp t).testBit l=_;rw[Nat.testBit_or,Fb,znt l t,List.contains_cons];by_cases c:k=l
  ·subst c;rw[Ag rfl,beq_self_eq_true]
  ·rw[At c,Ge.mpr λe=>c e.symm]
theorem zsp {m:Nat}:∀{t:List Nat},(∀l∈t,l<m)->zkp t<2^m
 |[],_=>Dl #v[0,9]
 | k::t,h=>by
  show 2^k ||| zkp t<2^m;exact Nat.or_lt_two_pow (Hb #v[0,9] (h k An)) (zsp λl a=>h l (Ai _ a))
theorem zzv:∀q:Fin 64,∀l:Fin 64,(letL q.val).contains l.val=q.val.testBit l.val:=by decide +kernel
theorem letL_nd:∀q:Fin 64,(letL q.val).Nodup/\∀l∈letL q.val,l<6:=by decide +kernel
theorem zzk {q l:Nat}(a:q<64):l∈letL q↔q.testBit l=Zd:=by
 by_cases c:l<64
 ·rw[<-Fy,zzv ⟨q,a⟩ ⟨l,c⟩]
 ·refine⟨λh=>absurd ((letL_nd ⟨q,a⟩).2 l h) #v[],λh => ?_⟩;rw[Dw (Aw (show q<2^6 from a) (Bj #v[0,9] #v[]))] at h;cases h
theorem zps:∀{a b:List Nat},a.Nodup->(∀x∈a,x∈b)->a.length<=b.length
 |[],_,_,_=>Bm _
 | x::a,b,n,h=>by
  have n:=Bt.mp n;have i:=zps (a:=a) (b:=b.erase x) n.2 λy c=>(List.mem_erase_of_ne λe=>n.1 (by rw[<-e];exact c)).mpr (h y (Ai _ c));have d:=h x An;rw[List.length_erase_of_mem d] at i;have:0<b.length:=List.length_pos_of_mem d;rw[Bg];symm
theorem zhi {m r:Nat}{t:List Nat}(b:m<=6)(f:r<=m)(h:∀l∈t,l<m)(d:t.length<=r):CF m r (mono t):=by
 have q:=zsp h;have c:zkp t<64:=Aw q (Bj #v[0,9] b);have e:∀l,l∈letL (zkp t)↔l∈t:=λl=>by rw[zzk c,znt,Fy]
 have k:letL (zkp t)∈zab m r:=z6v ⟨m,by symm⟩ ⟨r,by symm⟩ ⟨_,q⟩ (Cm (zps (letL_nd ⟨_,c⟩).1 λx g=>(e x).mp g) d);refine zb7 (λp _=>?_) (zyy b f (List.singleton_sublist.mpr k));rw[zoz];show (if (mono (letL (zkp t)) p ^^ Zc) then 1 else 0)=bJ (mono t) p;have x:mono (letL (zkp t)) p=mono t p:=by
  refine Ej.mpr ?_;rw[zsr,zsr];exact⟨λz l a=>z l ((e l).mpr a),λz l a=>z l ((e l).mp a)⟩
 rw[Gu,x];rfl
theorem yc3 {m r:Nat}(b:m<=6)(a:r<=m):∀{ts:List (List Nat)},(∀t∈ts,(∀l∈t,l<m)/\t.length<=r)->CF m r (par ts)
 |[],_=>zfc m r
 |t::ts,h=>zl9 (zhi b a (h t An).1 (h t An).2) (yc3 b a λu c=>h u (Ai _ c))
theorem zzj {m r:Nat}{F:Nat->Bool}(d:m<=6)(c:CF m r F):∃ts:List (List Nat),(∀t∈ts,(∀l∈t,l<m)/\t.length<=r)/\∀p,p<2^m->F p=par ts p:=by
 refine⟨duT m (bJ F),λt h=>⟨λl e=>?_,zse d c t h⟩,λp g=>?_⟩
 ·exact (yii ⟨m,by symm⟩ t (Bl.mp h).1).1 l e
 ·have v:=val_du (f:=bJ F) (λi=>by unfold bJ;cases F i;exact .inl rfl;exact .inr rfl) d g;rw[zoz] at v;have v:(if par (duT m (bJ F)) p=Zd then (1:Int) else 0)=if F p=Zd then 1 else 0:=v;generalize par (duT m (bJ F)) p=b at *
  generalize F p=a at *
  cases a<;>cases b
  ·rfl
  ·exact absurd v #v[0,9]
  ·exact absurd v #v[0,9]
  ·rfl
theorem z1v (t u:List Nat)(p:Nat):mono (t++u) p=(mono t p&&mono u p):=List.all_append
theorem zsf {m r s:Nat}{t:List Nat} (b:m<=6) (c:r+s<=m) (a:(∀l∈t,l<m)/\t.length<=r):∀{us:List (List Nat)},(∀u∈us,(∀l∈u,l<m)/\u.length<=s)->CF m (r+s) λp=>mono t p&&par us p
 |[],_=>zb5 (λp _=>(Fj _).symm) (zfc m (r+s))
 | u::us,h=>by
  have f:=h u An;refine zb5 (λp _=>?_) (zl9 (zhi (t:=t++u) b c (λl e=>(Bh.mp e).elim (a.1 l) (f.1 l)) (by rw[Bb];symm)) (zsf b c a λv d=>h v (Ai _ d)));show _=(mono t p&&(mono u p ^^ par us p));rw[z1v];cases mono t p<;>cases mono u p<;>cases par us p<;>rfl
theorem zyc {m r s:Nat} (a:m<=6) (b:r+s<=m) {us:List (List Nat)} (c:∀u∈us,(∀l∈u,l<m)/\u.length<=s):∀{ts:List (List Nat)},(∀t∈ts,(∀l∈t,l<m)/\t.length<=r)->CF m (r+s) λp=>par ts p&&par us p
 |[],_=>zfc m (r+s)
 | t::ts,h=>by
  refine zb5 (λp _=>?_) (zl9 (zsf a b (h t An) c) (zyc a b c λv d=>h v (Ai _ d)));show _=((mono t p ^^ par ts p)&&par us p);cases mono t p<;>cases par ts p<;>cases par us p<;>rfl
theorem z5j {m r s:Nat}{F G:Nat->Bool}(h:m<=6)(g:r+s<=m)(c:CF m r F)(d:CF m s G):CF m (r+s) λp=>F p&&G p:=by
 obtain⟨t,f,b⟩:=zzj h c;obtain⟨u,k,e⟩:=zzj h d;exact zb5 (λp a=>by rw[b p a,e p a]) (zyc h g k f)
theorem ydk {m:Nat}(F:Nat->Bool)(d:m<=6):CF m m F:=λq a _=>by
 have c:q<64:=Aw a (Bj #v[0,9] d);have h:=zps (b:=List.range m) (letL_nd ⟨q,c⟩).1 λx e=>by
  refine Az.mpr (Decidable.not_not.mp λz=>?_);have:=(zzk c).mp e;rw[Dw (Aw a (Bj #v[0,9] #v[]))] at this;cases this
 rwa [Be] at h
theorem yhy:∀a b:Fin 64,Builtin.bitXor (a.val:Int) (b.val:Int)=((a.val ^^^ b.val:Nat):Int):=by decide +kernel
theorem xorN {a b:Nat}(h:a<64)(c:b<64):Builtin.bitXor (a:Int) (b:Int)=((a ^^^ b:Nat):Int):=yhy ⟨a,h⟩ ⟨b,c⟩
theorem z7x {is:List Nat}{l:Nat}(h:l<is.length):atI (castL is) (l:Int)=Za (.int (is.getD l 0:Nat)):=zbk (by unfold castL;rw[Ak,Au,Ab h];rfl)
noncomputable def zjf (Φ:Fn):Prop:=∀(m:Nat) (i:List Nat) (s p:Nat),m<=6->i.length=m->InM m i->s<2^m->p<2^m->Φ [tuW i s,.int (p:Nat)]=Za ([tuW i s,.int (p:Nat)],(.int (gN i s p m:Nat),Zc))
theorem yct {p m n l:Nat}(a:p<2^m)(h:l∈dueL (bitF p) n):l<m:=by
 unfold dueL at h;have:=Aq (Bl.mp h).2;apply Nat.lt_of_not_le;intro z;rw[bitF_hi a z] at this;cases this
theorem ya4 {Ψ:Str->Fn}(hX:zog (Ψ "plus")){m:Nat}{is:List Nat}{t l:Nat}{a b:Option (W×Bool)}(c:m<=6)(e:l<is.length)(d:InM m is)(g:t<2^m):zku Ψ [a,b,#v[(castL is),3],#v[(t:Nat),0],#v[(l:Nat),0]]=Za ([a,b,#v[(castL is),3],#v[((t ^^^ is.getD l 0:Nat):Int),0],#v[(l:Nat),0]],.nx):=by
 have p:=zcp c;have x:=xorN (a:=t) (b:=is.getD l 0) #v[] (by have:=getD_lt d l;symm);have h:=hX (t:Int) (is.getD l 0:Nat);rw[x] at h;have f:=z7x e;unfold zku;simp! [f,h]
theorem ybe {Ψ:Str->Fn}(hX:zog (Ψ "plus"))(hW:zgo (Ψ "where")):zjf (zad [Zc,Zc] 5 (zsu Ψ)):=λm is s p f y j q g=>by
 have z:=zcp f;have d:=hW 6 (bitF p) (bitF_bit p) (λi h=>bitF_hi (n:=6) #v[] h) #v[0,9];rw[bitF_word ⟨p,by symm⟩] at d;have c:∃a,zqf Ψ #v[6,9]=Za ([#v[tuW is s,6],#v[(p:Nat),0],#v[(castL is),3],#v[(gN is s p 6:Nat),0],a],.nx):=by
  unfold zqf;obtain⟨o,h,a,rfl⟩:=zbv (mp:=[]) (T:=.nm 4) (body:=zku Ψ) (it:=zap (zac [Zc] (Ψ "where") #v[4,13])) (λi e=>∃a,e=[#v[tuW is s,6],#v[(p:Nat),0],#v[(castL is),3],#v[((((dueL (bitF p) 6).take i).foldl (λt l=>t ^^^ is.getD l 0) s:Nat):Int),0],a]) (en:=#v[6,9]) (e0:=#v[6,9]) (ws:=castL (dueL (bitF p) 6)) (by simp! [d]) ⟨_,rfl⟩ λi w e x u=>by
   obtain⟨a,rfl⟩:=u;obtain⟨l,b,rfl⟩:=za7 x;have A:=yct g (Bn b);have k:(dueL (bitF p) 6).take (i+1)=(dueL (bitF p) 6).take i++[l]:=by rw[Dz,b];rfl
   refine⟨_,_,rfl,.inl (ya4 hX f #v[] j (zqd j _ s q)),#v[(l:Nat),0],?_⟩;rw[k,Gr];rfl
  rw[zaf,Cp] at h;exact⟨a,h⟩
 obtain⟨a,c⟩:=c;have r:gN is s p 6=gN is s p m:=by have:=z5p (is:=is) (s:=s) g (6-m);rw[show m+(6-m)=6 by symm] at this;exact this
 rw[r] at c;unfold zsu;refine zat (en:=[#v[tuW is s,6],#v[(p:Nat),0],#v[(castL is),3],#v[(gN is s p m:Nat),0],a]) rfl (seq_e (e1:=#v[6,9]) ?_ (seq_e c ?_)) rfl
 ·unfold tuW;simp! []
 ·simp! []
theorem zpj:∀{l l':List Nat},l.Nodup->(∀a∈l,a∈l')->l.length<=l'.length
 |[],_,_,_=>Bm _
 | a::l,l',g,d=>by
  have f:=d a (An ..);have h:=Bt.mp g;have:=zpj (l:=l) (l':=l'.erase a) h.2 λb c=>(List.mem_erase_of_ne (show b≠a from λe=>h.1 (by rw[<-e];exact c))).mpr (d b (Ai _ c));rw[List.length_erase_of_mem f] at this;have:=List.length_pos_of_mem f;rw[Bg];symm
theorem z9m (a b n:Nat):(a ^^^ b)/2^n%2=(a/2^n%2+b/2^n%2)%2:=by
 have h:=Cc (x:=a) (y:=b) (i:=n);simp only [Dx] at h;rcases Cz (a/2^n) with x|x<;>rcases Cz (b/2^n) with y|y<;>rcases Cz ((a ^^^ b)/2^n) with z|z<;>rw[x,y,z] at h<;>rw[x,y,z]<;>first|rfl|(revert h;decide)
theorem gN_u (is:List Nat) (u v p:Nat):∀n,gN is (u ^^^ v) p n=u ^^^ gN is v p n
 |0=>rfl
 | n+1=>by
  rw[za5,za5,gN_u is u v p n];split
  ·rw[Bk]
  ·rfl
theorem xor4 (a b j:Nat):(a ^^^ j) ^^^ (b ^^^ j)=a ^^^ b:=by
 rw[Bk,<-Bk j,Hn j b,Bk b,Cw,Bv]
theorem zsb (is:List Nat) (a b:Nat):∀n,gN is 0 (a ^^^ b) n=gN is 0 a n ^^^ gN is 0 b n
 |0=>(Cw 0).symm
 | n+1=>by
  rw[za5,za5,za5,z9m,zsb is a b n];rcases Cz (a/2^n) with x|x<;>rcases Cz (b/2^n) with y|y<;>rw[x,y]
  ·rfl
  ·rw[if_pos #v[0,9],if_neg #v[0,9],if_pos #v[0,9],Bk]
  ·rw[if_pos #v[0,9],if_pos #v[0,9],if_neg #v[0,9],Bk,Hn (gN is 0 b n),<-Bk]
  ·rw[if_neg #v[0,9],if_pos #v[0,9],if_pos #v[0,9],xor4]
theorem ydt (is:List Nat)(u a b n:Nat):gN is u (a ^^^ b) n=gN is u a n ^^^ gN is 0 b n:=by
 have h:=λp=>gN_u is u 0 p n;rw[Bv] at h;rw[h,h,zsb,Bk]
theorem zv2 (is:List Nat)(u:Nat):∀n,gN is u 0 n=u
 |0=>rfl
 |n+1=>by rw[za5,Nat.zero_div,if_neg #v[0,9],zv2 is u n]
noncomputable def Ind (is:List Nat):Prop:=∀l,l<is.length->∀q,q<2^l->is.getD l 0≠gN is 0 q l
theorem z0f {is:List Nat}{s q z:Nat}:∀{n:Nat},n<=is.length->gN (is++[z]) s q n=gN is s q n
 |0,_=>rfl
 | n+1,h=>by
  have e:(is++[z]).getD n 0=is.getD n 0:=by rw[Au,Au,Cr #v[]]
  rw[za5,za5,z0f (n:=n) #v[],e]
theorem zwe {is:List Nat}{s p q:Nat}:∀{n:Nat},(∀l,l<n->p/2^l%2=q/2^l%2)->gN is s p n=gN is s q n
 |0,_=>rfl
 |n+1,h=>by rw[za5,za5,zwe (n:=n) λl a=>h l #v[],h n #v[]]
theorem z8x {q n l:Nat}(h:l<n):(q%2^n)/2^l%2=q/2^l%2:=by
 have t:=Nat.testBit_mod_two_pow q n l;rw[Ag h,Bool.true_and,Dx,Dx] at t;rcases Cz (q%2^n/2^l) with x|x<;>rcases Cz (q/2^l) with y|y<;>rw[x,y] at t<;>rw[x,y]<;>first|rfl|(revert t;decide)
theorem gN_mod (is:List Nat)(s q n:Nat):gN is s q n=gN is s (q%2^n) n:=zwe λl h=>(z8x h).symm
theorem zr7 {is su:List Nat}{z:Nat}(h:Ind is)(d:∀q,q<2^is.length->gN is 0 q is.length∈su)(f:z ∉ su):Ind (is++[z])/\∀q,q<2^(is.length+1)->gN (is++[z]) 0 q (is.length+1)∈su++su.map λy=>y ^^^ z:=by
 refine⟨λl b q a=>?_,λq a=>?_⟩
 ·rw[Bb] at b;have b:l<is.length+1:=b;rw[z0f #v[]];by_cases c:l<is.length
  ·rw[Au,Cr c, <- Au];exact h l c q a
  ·have e:l=is.length:=by symm
   subst e;rw[Au,Db (Af _),Nat.sub_self];intro y;have:=d q a;rw[<-y] at this;exact f this
 ·have e:(is ++ [z]).getD is.length 0=z:=by rw[Au,Db (Af _),Nat.sub_self];rfl
  rw[za5,z0f (Af _),e,gN_mod];have m:=d (q%2^is.length) (Nat.mod_lt _ (Dl #v[0,9]));split
  ·exact Av _ (Bd.mpr ⟨_,m,rfl⟩)
  ·exact Cq _ m
theorem zzz {is:List Nat} (h:Ind is):∀{n x:Nat},n<=is.length->x<2^n->gN is 0 x n=0->x=0
 |0,x,_,a,_=>by have:2^0=1:=rfl;symm
 | n+1,x,f,a,e=>by
  rw[za5] at e;have p:2^(n+1)=2*2^n:=by rw[Nat.pow_succ];symm
  by_cases c:x/2^n%2=1
  ·rw [if_pos c,gN_mod] at e
   have:=h n #v[] (x%2^n) (Nat.mod_lt _ (Dl #v[0,9]));refine absurd ?_ this;have z:(gN is 0 (x%2^n) n ^^^ is.getD n 0) ^^^ is.getD n 0=0 ^^^ is.getD n 0:=by rw[e]
   rw[Bk,Cw,Bv,Fm] at z;exact z.symm
  ·rw [if_neg c] at e
   have lt:x<2^n:=by
    have d:x/2^n<2:=Nat.div_lt_of_lt_mul (by rw[Nat.mul_comm];rw[<-p];exact a);have b:∀y:Nat,y<2->¬ y%2=1->y=0:=by symm
    have z:x/2^n=0:=b _ d c;exact Nat.lt_of_div_eq_zero (Dl #v[0,9]) z
   exact zzz h (n:=n) #v[] lt e
theorem yb3 {is:List Nat}{s p q:Nat}(h:Ind is)(c:p<2^is.length)(b:q<2^is.length)(e:gN is s p is.length=gN is s q is.length):p=q:=by
 have u:=λx=>gN_u is s 0 x is.length;rw[Bv] at u;rw[u,u] at e;have a:gN is 0 p is.length=gN is 0 q is.length:=by
  have z:s ^^^ (s ^^^ gN is 0 p is.length)=s ^^^ (s ^^^ gN is 0 q is.length):=by rw[e]
  rw[<-Bk,<-Bk,Cw,Fm,Fm] at z;exact z
 have z:=zsb is p q is.length;rw[a,Cw] at z;have w:=zzz h (Af _) (Er c b) z;have v:(p ^^^ q) ^^^ q=0 ^^^ q:=by rw[w]
 rw[Bk,Cw,Bv,Fm] at v;exact v
theorem z4q:(List.range 7).all (λm=>(List.range (2^m)).all λp=>decide (gN ((List.range m).map λl=>2^l) 0 p m=p))=Zd:=by decide +kernel
theorem z87 {m p:Nat}(b:m<=6)(h:p<2^m):gN ((List.range m).map λl=>2^l) 0 p m=p:=by
 have a:=Bi.mp z4q m (Az.mpr #v[]);exact Aq (Bi.mp a p (Az.mpr h))
noncomputable def smL (m:Nat):List Nat:=(List.range m).map λl=>2^l
noncomputable def cmpL (j:List Nat) (m:Nat) (is:List Nat):List Nat:=is.map λi=>gN j 0 i m
theorem yaa (k:List Nat)(m:Nat)(a:List Nat)(n:Nat):(cmpL k m a).getD n 0=gN k 0 (a.getD n 0) m:=by
 unfold cmpL;rw[Au,Au,Ak];cases a[n]? with
 |none=>exact (zv2 k 0 m).symm
 |some j=>rfl
theorem zzx (k:List Nat) (v m:Nat) (j:List Nat) (u x:Nat):∀n,gN (cmpL k m j) (gN k v u m) x n=gN k v (gN j u x n) m
 |0=>rfl
 | n+1=>by
  rw[za5,za5,zzx k v m j u x n,yaa];split
  ·rw[ydt]
  ·rfl
noncomputable def Inj (is:List Nat) (s m:Nat):Prop:=∀p q,p<2^m->q<2^m->gN is s p m=gN is s q m->p=q
theorem hits {is:List Nat}{s m:Nat}(f:InM m is)(i:s<2^m)(h:Inj is s m){q:Nat}(d:q<2^m):∃p,p<2^m/\gN is s p m=q:=by
 have g:((List.range (2^m)).map λp=>gN is s p m).Nodup:=by
  rw[Bw,Cy];have:=List.nodup_range (n:=2^m);rw[Bw] at this;exact this.imp_of_mem λ{a b} j c ne e=>ne (h a b (Az.mp j) (Az.mp c) e)
 have:q∈(List.range (2^m)).map λp=>gN is s p m:=Decidable.byContradiction λn=>by
  have:=zpj (l:=q::(List.range (2^m)).map λp=>gN is s p m) (l':=List.range (2^m)) (Bt.mpr ⟨n,g⟩) λb c=>by
   rcases Ao.mp c with rfl|c
   ·exact Az.mpr d
   ·obtain⟨p,_,rfl⟩:=Bd.mp c;exact Az.mpr (z3r f i p m)
  rw[Bg,Ac,Be] at this;symm
 obtain⟨p,k,e⟩:=Bd.mp this;exact⟨p,Az.mp k,e⟩
noncomputable def invN (is:List Nat) (s m q:Nat):Nat:=((List.range (2^m)).find? λp=>decide (gN is s p m=q)).getD 0
theorem zc3 {is:List Nat}{s m:Nat} (b:InM m is) (c:s<2^m) (h:Inj is s m) {q:Nat} (a:q<2^m):invN is s m q<2^m/\gN is s (invN is s m q) m=q:=by
 unfold invN;cases e:(List.range (2^m)).find? λp=>decide (gN is s p m=q) with
 | none =>
  obtain⟨p,d,f⟩:=hits b c h a;have:=List.find?_eq_none.mp e p (Az.mpr d);rw[Ag f] at this;exact absurd rfl this
 |some p=>exact⟨Az.mp (List.mem_of_find?_eq_some e),Aq (List.find?_some (p:=λp=>decide (gN is s p m=q)) e)⟩
theorem z55 {is:List Nat}{s m p q:Nat}(a:InM m is)(b:s<2^m)(h:Inj is s m)(g:p<2^m)(e:gN is s p m=q):invN is s m q=p:=by
 have c:q<2^m:=by rw[<-e];exact z3r a b p m
 obtain⟨f,d⟩:=zc3 a b h c;exact h _ _ f g (d.trans e.symm)
noncomputable def bkL (is:List Nat) (s m:Nat):List Nat:=(List.range m).map λl=>invN is s m (2^l) ^^^ invN is s m 0
structure Good (m:Nat) (is:List Nat) (s:Nat):Prop where
 len:is.length=m
 inM:InM m is
 lt:s<2^m
 inj:Inj is s m
theorem gN_0 (is:List Nat)(s p m:Nat):gN is s p m=s ^^^ gN is 0 p m:=by have:=gN_u is s 0 p m;rwa [Bv] at this
theorem zg6 {l m:Nat}(h:l<m):2^l<2^m:=Hb #v[0,9] h
theorem ydr {m:Nat}{is:List Nat}{s:Nat}(g:Good m is s):InM m (bkL is s m):=λa h=>by
 obtain⟨l,b,rfl⟩:=Bd.mp h;have p:0<2^m:=Dl #v[0,9];exact Er (zc3 g.inM g.lt g.inj (zg6 (Az.mp b))).1 (zc3 g.inM g.lt g.inj p).1
theorem z51 {m:Nat}{is:List Nat}{s:Nat}:(bkL is s m).length=m:=by unfold bkL;rw[Ac,Be]
theorem xx (a b c:Nat):(c ^^^ a) ^^^ (c ^^^ b)=a ^^^ b:=by rw[Hn c a,Hn c b];exact xor4 a b c
theorem ygc {m:Nat}{is:List Nat}{s:Nat}(g:Good m is s):cmpL is m (bkL is s m)=smL m:=by
 have p:0<2^m:=Dl #v[0,9];unfold cmpL bkL smL;rw[Ca];apply Cv;intro l h;have a:=(zc3 g.inM g.lt g.inj (zg6 (Az.mp h))).2;have b:=(zc3 g.inM g.lt g.inj p).2;show gN is 0 (invN is s m (2^l) ^^^ invN is s m 0) m=2^l;rw[zsb,<-xx _ _ s,<-gN_0,<-gN_0,a,b,Bv]
theorem zop {m:Nat}{is:List Nat}{s q:Nat}(b:m<=6)(g:Good m is s)(a:q<2^m):gN (bkL is s m) (invN is s m 0) q m=invN is s m q:=by
 have p:0<2^m:=Dl #v[0,9];have h:=(zc3 g.inM g.lt g.inj p);refine (z55 g.inM g.lt g.inj (z3r (ydr g) h.1 q m) ?_).symm;rw[<-zzx,ygc g,h.2];exact z87 b a
theorem ybq {m:Nat}{is:List Nat}{s:Nat}(a:m<=6)(g:Good m is s):Good m (bkL is s m) (invN is s m 0):=by
 have d:0<2^m:=Dl #v[0,9];refine⟨z51,ydr g,(zc3 g.inM g.lt g.inj d).1,λp q c h e=>?_⟩;rw[zop a g c,zop a g h] at e;have b:=(zc3 g.inM g.lt g.inj c).2;rw[e,(zc3 g.inM g.lt g.inj h).2] at b;exact b.symm
theorem zj0 (n:Nat):rngW 0 n=(List.range n).map λj=>W.int (j:Nat):=by
 refine Cv λj _=>?_;rw[Fp]
theorem z77 (is:List Nat)(s p n j:Nat):(gN is s p (n+1)).testBit j=((gN is s p n).testBit j ^^ (p.testBit n&&(is.getD n 0).testBit j)):=by
 rw[za5,Dx (x:=p) (i:=n)];by_cases c:p/2^n%2=1
 ·rw[if_pos c,Ag c,Cc,Bool.true_and]
 ·rw[if_neg c,At c,Ee,Gu]
theorem zx0 {m:Nat} (a:m<=6) (b:1<=m) (is:List Nat) (s j:Nat):∀n,n<=m->CF m 1 λp=>(gN is s p n).testBit j
 | 0,_=>by
  cases c:s.testBit j with
  |true=>exact zb5 (λp _=>(show _=s.testBit j from rfl).trans c |>.symm) (zhi (t:=[]) a b (λ_ h=>(Br h).elim) (Bm _))
  |false=>exact zb5 (λp _=>(show _=s.testBit j from rfl).trans c |>.symm) (zfc m 1)
 | n+1,h=>by
  refine zb5 (λp _=>(z77 is s p n j).symm) (zl9 (zx0 a b is s j n #v[]) ?_);cases c:(is.getD n 0).testBit j with
  |true=>exact zb5 (λp _=>by rw[Fx];exact Fx _) (zhi (t:=[n]) a b (λl d=>by rw[As.mp d];symm) (Af 1))
  |false=>exact zb5 (λp _=>(Fj _).symm) (zfc m 1)
theorem ya0 {m r:Nat}{F:Nat->Bool}{is:List Nat}{s:Nat} (b:m<=6) (o:1<=m) (n:r<=m) (j:InM m is) (q:s<2^m) (c:CF m r F):CF m r λp=>F (gN is s p m):=by
 have k:∀t:List Nat,t.length<=m->CF m t.length λp=>mono t (gN is s p m):=λt=>by
  induction t with
  |nil=>exact λ_=>zhi (t:=[]) b (Bm _) (λ_ h=>(Br h).elim) (Bm _)
  | cons l t i =>
   intro h;rw[Bg] at h;have a:=z5j (r:=1) (s:=t.length) b #v[] (zx0 b o is s l m (Af m)) (i #v[]);rw[Nat.add_comm] at a;exact a
 obtain⟨d,e,g⟩:=zzj b c;refine zb5 (λp x=>(g _ (z3r j q p m)).symm) (F:=λp=>par d (gN is s p m)) ?_;clear g c
 induction d with
 |nil=>exact zfc m r
 | cons t d i =>
  have f:=e t An;exact zl9 (yh4 f.2 (k t (Cm f.2 n))) (i λu w=>e u (Ai _ w))
theorem z7z {m r u:Nat}{F:Nat->Bool}(h:u<2^2^m)(c:CF m r F)(e:∀p,p<2^m->u.testBit p=F p):Cd m r u:=⟨h,zb7 (λp a=>by unfold bJ bitN;rw[<-e p a]) c⟩
theorem z9b {m r u:Nat}(c:Cd m r u):CF m r u.testBit:=zb7 (λp _=>rfl) c.dg
noncomputable def yf1 (Φ:Fn):Prop:=∀(m:Nat) (i:List Nat) (s w:Nat),m<=6->i.length=m->InM m i->s<2^m->∃u:Nat,Φ [.int (m:Nat),tuW i s,.int (w:Nat)]=Za ([.int (m:Nat),tuW i s,.int (w:Nat)],(.int (u:Nat),Zc))/\u<2^2^m/\∀p,p<2^m->u.testBit p=w.testBit (gN i s p m)
theorem yah (n:Nat) (f:Nat->Bool):∃u:Nat,wordOf (tab n λi=>if i∈(List.range n).filter f then 1 else 0)=(u:Int)/\u<2^n/\∀p,p<n->u.testBit p=f p:=by
 obtain ⟨w,h,e⟩:=zjv (tab n λi=>if i∈(List.range n).filter f then 1 else 0) (zaq λi _=>by
  by_cases c:i∈(List.range n).filter f
  ·rw[if_pos c];exact .inr rfl
  ·rw[if_neg c];exact .inl rfl)
 rw[za8] at h e;refine⟨w,by rw[e,zbq _ _ h],h,λp b=>?_⟩;have a:(tab n λi=>if i∈(List.range n).filter f then (1:Int) else 0)[p]?=(tab n (bitN w))[p]?:=by rw[e]
 rw[zdp b,zdp b] at a;have a:(if p∈(List.range n).filter f then (1:Int) else 0)=if w.testBit p then 1 else 0:=sI a;have k:p∈(List.range n).filter f↔f p=Zd:=by rw[Bl];exact⟨λz=>z.2,λz=>⟨Az.mpr b,z⟩⟩
 cases x:f p with
 | true =>
  rw[if_pos (k.mpr x)] at a;cases y:w.testBit p with
  |true=>rfl
  |false=>rw[y] at a;exact absurd a #v[0,9]
 | false =>
  rw[if_neg λz=>by rw[k.mp z] at x;cases x] at a;cases y:w.testBit p with
  |false=>rfl
  |true=>rw[y] at a;exact absurd a #v[0,9]
theorem zxu {Ψ:Str->Fn}(i:z3y (Ψ "says"))(b:zjf (Ψ "sent")){m s w:Nat}{is:List Nat}(h:m<=6)(e:is.length=m)(c:InM m is)(f:s<2^m):zhl Ψ #v[3,20]=Za (#v[3,20],(.lst (castL ((List.range (2^m)).filter λp=>w.testBit (gN is s p m))),Zd)):=by
 have k:=zcp h;have q:=pow1 (l:=m) #v[];unfold zhl castL;refine zvg (xs:=[#v[tuW is s,6],#v[(w:Nat),0]]) (λp:Nat=>W.int (p:Nat)) (λp=>w.testBit (gN is s p m)) (λp:Nat=>W.int (p:Nat)) (ts:=List.range (2^m)) (by rw[<-zj0];exact ze0 (n:=2^m) (by simp! [q,za1]) #v[]) (by rw[Be];symm) rfl rfl rfl (λ_ _=>rfl) λu p j=>?_;have g:=b m is s p h e c f (Az.mp j);have a:=i w (gN is s p m);have d:decide (bitN w (gN is s p m)=1)=w.testBit (gN is s p m):=by
  unfold bitN;cases w.testBit (gN is s p m)<;>rfl
 generalize tuW is s=T at *
 exact⟨#v[(p:Nat),0],by simp! [g,a,d],λ_=>⟨#v[(p:Nat),0],Zc,rfl⟩⟩
theorem yd5 {Ψ:Str->Fn}(j:z3y (Ψ "says"))(b:zjf (Ψ "sent"))(hW:zk7 (Ψ "word_at")):yf1 (zad [Zc,Zc,Zc] 3 (zg4 Ψ)):=λm i s w h d c g=>by
 have f:=zxu j b (w:=w) h d c g;have a:=hW (2^m) ((List.range (2^m)).filter λp=>w.testBit (gN i s p m)) (zcp h) λp n=>Az.mp (Bl.mp n).1;obtain⟨u,e,l,k⟩:=yah (2^m) λp=>w.testBit (gN i s p m);rw[e] at a;refine⟨u,?_,l,k⟩;generalize castL ((List.range (2^m)).filter λp=>w.testBit (gN i s p m))=L at *
 unfold zg4
 simp_arith [f,a]
noncomputable def cI (t:List Nat):List Int:=t.map λl:Nat=>(l:Int)
theorem yh6 (t:List Nat):tmW t=.tup ((cI t).map W.int):=by unfold tmW cI;rw[Ca];rfl
theorem ycb (t:List Nat):dW (tmW t)=Za (ndI (cI t)):=by rw[yh6,z8u]
theorem zx5 (t:List Nat):(ndI (cI t)).canLay0=Zd/\(ndI (cI t)).depth<=1:=by
 constructor
 ·unfold ndI;rw[PyData.canLay0];exact zef _ _ λx _=>by rw[PyData.canLay0]
 ·unfold ndI;rw[PyData.depth];have:=zgh (c:=0) PyData.int (cI t) λx _=>by rw[PyData.depth];exact Af _
  symm
theorem yb6 {t u:List Nat}(h:cI t=cI u):t=u:=zld h
theorem z5t (t u:List Nat):PyData.eqv (ndI (cI t)) (ndI (cI u))=decide (t=u):=by
 unfold ndI;rw[PyData.eqv,PySem.W.ked_eqvAll];exact decide_eq_decide.mpr ⟨yb6,λh=>h ▸ rfl⟩
theorem yf8 (t:List Nat)(ts:List (List Nat)):oInV Zc (tmW t) (.tup (ts.map tmW))=Za (.bl (decide (t∈ts)),Zc):=by
 have a:oIn Zc (tmW t) (.tup (ts.map tmW))=Zb:=rfl;have e:dWs (ts.map tmW)=Za (ts.map λu=>ndI (cI u)):=zkx tmW (λu=>ndI (cI u)) ycb ts;have b:PyData.canLayAll0 (ts.map λu=>ndI (cI u))=Zd:=zef _ _ λu _=>(zx5 u).1;have c:((ts.map λu=>ndI (cI u)).any λd=>PyData.eqv d (ndI (cI t)))=decide (t∈ts):=by
  rw[List.any_map,Ej,Gd,decide_eq_true_iff];constructor
  ·rintro ⟨u,f,h⟩;have h:PyData.eqv (ndI (cI u)) (ndI (cI t))=Zd:=h;rw[z5t] at h;exact (Aq h) ▸ f
  ·intro h;refine⟨t,h,?_⟩;show PyData.eqv (ndI (cI t)) (ndI (cI t))=Zd;rw[z5t];exact Ag rfl
 have g:=(zx5 t).2;unfold oInV;rw[a];show (dW (tmW t)).bind _=_;rw[ycb];show (dWs (ts.map tmW)).bind _=_;rw[e];show (if (ndI (cI t)).canLay0&&PyData.canLayAll0 (ts.map λu=>ndI (cI u))&&decide ((ndI (cI t)).depth<=90) then Za (W.bl ((ts.map λu=>ndI (cI u)).any λd=>PyData.eqv d (ndI (cI t))),Zc) else Zb)=_;rw[(zx5 t).1,b,Ag (show (ndI (cI t)).depth<=90 by symm),c];rfl
theorem yhx {Ψ:Str->Fn} (hT:zcz (Ψ "terms")) {m t:Nat}{P:List (List Nat)}{x:Int}{v2 v3:Option (W×Bool)} (j:1<=m) (f:m<=6) (d:t<=m) (g:(zab m t).length<=64) :
  zea Ψ #v[0,12]=Za (#v[0,12],(.lst ((zab m t).map λu=>.int (if u∈P then 1 else 0)),Zd)):=by
 have e:=hT m t j f d;generalize zab m t=b at e g;unfold zea;refine zig (cap:=[Zb,Zb,Za 4]) (it:=zap (zac [Zc] (Ψ "terms") #v[7,14])) (xs:=[#v[(P.map tmW),3]]) (en:=#v[0,12]) (e0:=#v[0,12]) (ws:=b.map tmW) (rs:=b.map λu=>.int (if u∈P then 1 else 0)) (by simp! [e]) (by rw[Ac];symm) (by rw[Ac,Ac]) rfl rfl rfl (λ_ _=>rfl) λi k w r h c=>?_;rw[Ak] at h;rw[Ak] at c;cases ha:b[i]? with
 |none=>rw[ha] at h;cases h
 | some u =>
  rw[ha] at h c;cases h;cases c;refine⟨#v[tmW u,6],Zc,?_⟩;by_cases a:u∈P
  ·simp! [yf8 u P,Ag a,if_pos a]
  ·simp! [yf8 u P,At a,if_neg a]
noncomputable def chz:List (List Nat)->List Int->List (List Nat)
 |u::t,d::a=>if d=1 then u::chz t a else chz t a
 |_,_=>[]
theorem zih:∀(ts:List (List Nat)) (ds:List Int),(chz ts ds).Sublist ts
 |[],_=>List.Sublist.refl _
 |u::ts,[]=>List.nil_sublist _
 | u::ts,d::ds=>by
  unfold chz;split
  ·exact (zih ts ds).cons_cons u
  ·exact (zih ts ds).cons u
theorem zy0:∀{ts:List (List Nat)}{ds:List Int},ts.Nodup->ts.length=ds.length->Bits ds->(ts.map λu=>if u∈chz ts ds then (1:Int) else 0)=ds
 |[],[],_,_,_=>rfl
 |[],_::_,_,h,_=>by cases h
 |_::_,[],_,h,_=>by cases h
 | u::ts,d::ds,l,g,a=>by
  have n:=Bt.mp l;have i:=zy0 n.2 (Nat.succ.inj g) (λx k=>a x (Ai _ k));have b:u ∉ chz ts ds:=λh=>n.1 ((zih ts ds).mem h);have j:=a d An;rw[Ax];unfold chz;by_cases c:d=1
  ·rw [if_pos c,if_pos An,c]
   congr 1;refine Eq.trans (Cv λv f=>?_) i;have ne:v≠u:=λe=>n.1 (e ▸ f);by_cases q:v∈chz ts ds
   ·rw[if_pos q,if_pos (Ai _ q)]
   ·rw[if_neg q,if_neg λz=>(Ao.mp z).elim ne q]
  ·rw [if_neg c,if_neg b,i]
   congr 1;rcases j with e|e
   ·exact e.symm
   ·exact absurd e c
theorem zsk:∀{ts:List (List Nat)}{ds:List Int}{i:Nat}{u:List Nat}{d:Int},ts[i]?=Za u->ds[i]?=Za d->chz (ts.take (i+1)) (ds.take (i+1))=chz (ts.take i) (ds.take i)++if d=1 then [u] else []
 |[],_,_,_,_,h,_=>nomatch h
 |_::_,[],_,_,_,_,h=>nomatch h
 | v::ts,e::ds,0,u,d,b,a=>by
  cases b;cases a;rw[Ek,Ek,Dy,Dy];unfold chz;split<;>rfl
 | v::ts,e::ds,i+1,u,d,b,a=>by
  have c:=zsk (ts:=ts) (ds:=ds) (i:=i) (u:=u) (d:=d) b a;rw[Ek,Ek,Ek,Ek];unfold chz;rw[c];split<;>rfl
theorem yf4 {it:GL}{en e0:En}{ts:List (List Nat)}{ds:List Int}(p:it en=Za (e0,zipW (ts.map tmW) (ds.map W.int)))(n:∀c,za4 #v[3,21] e0 c=e0)(h:ts.length=ds.length)(s:ts.length<=64):zbl #v[3,21] (.tp [1,2]) it (zaj #v[5,21]) (gVar 1) en=Za (e0,(.lst ((chz ts ds).map tmW),Zd)):=by
 have t:(1000:Nat)<=sizeLine:=by decide
 have l:(zipW (ts.map tmW) (ds.map W.int)).length=ts.length:=by rw[zgz,Ac,Ac,<-h,Nat.min_self]
 obtain⟨q,out,j,⟨A,r,B,rfl⟩,rfl⟩:=zee (cap:=#v[3,21]) (T:=.tp [1,2]) (it:=it) (tc:=zaj #v[5,21]) (te:=gVar 1) (λi c e=>(∃u k b,c=[u,k,b])/\e=(chz (ts.take i) (ds.take i)).map tmW) p rfl (by rw[l];symm) ⟨⟨_,_,_,rfl⟩,rfl⟩ λi w c e f m=>by
  obtain⟨⟨u,k,b,rfl⟩,rfl⟩:=m;have o:i<ts.length:=by have:=(Ap.mp f).1;symm
  have g:ts[i]?=Za ts[i]:=Ab o;have a:ds[i]?=Za (ds[i]'#v[]):=Ab #v[];generalize ts[i]=x at g;generalize ds[i]'#v[]=d at a;have z:=zkf (xs:=ts.map tmW) (ys:=ds.map W.int) (i:=i) (x:=tmW x) (y:=.int d) (by rw[Ak,g];rfl) (by rw[Ak,a];rfl);rw[f] at z;obtain rfl:=sI z;rw[zsk g a];refine⟨[u,#v[tmW x,6],#v[d,0]],rfl,?_⟩;by_cases c:d=1
  ·refine .inl ⟨[u,Za (tmW x,Zc),Za (.int d,Zc)], [u,Za (tmW x,Zc),Za (.int d,Zc)],(tmW x,Zc), ?_,rfl,⟨_,_,_,rfl⟩, ?_⟩
   ·simp! [c]
   ·rw[if_pos c,Bx];rfl
  ·refine .inr ⟨[u,Za (tmW x,Zc),Za (.int d,Zc)], ?_,⟨_,_,_,rfl⟩, ?_⟩
   ·simp! [At c]
   ·rw[if_neg c,Bu]
 rw[l,El (Af _),El (Nat.le_of_eq h.symm),n] at j;exact j
theorem z5x {m t:Nat}{P:List (List Nat)}(c:m<=6)(i:t<=m)(h:P.Sublist (zab m t))(u:List Nat):u∈duT m (valF P)↔u∈P:=by
 have p:=zcp c;have g:=zfg c i h;unfold duT;rw[Bl,Du];constructor
 ·rintro ⟨a,b⟩;have l:=zjy c a;rw[zj7 c g #v[]] at b;unfold indF at b;split at b
  ·rename_i z;obtain⟨v,d,e⟩:=Bd.mp z;exact zrq c (g.2 v d) a e ▸ d
  ·cases b
 ·intro f;have a:=g.2 u f;have l:=zjy c a;refine⟨a,?_⟩;rw[zj7 c g #v[]];unfold indF;rw[if_pos (Bd.mpr ⟨u,f,rfl⟩)]
theorem yb8:∀m t:Fin 7,∀u∈zab m.val t.val,u.length<=t.val:=by decide +kernel
theorem yb9 {ts:List (List Nat)}:mxL (zd5 ts) (-1)=mx1 (-1) (zd5 ts):=(z0p zvu).symm
theorem yie {m t:Nat}{P:List (List Nat)}(a:m<=6)(c:t<=m)(h:P.Sublist (zab m t)):¬ (t:Int)<mxL (zd5 (duT m (valF P))) (-1):=by
 rw[yb9];have:=(zwq (B:=(t:Int)) (zd5 (duT m (valF P))) (-1)).mpr ⟨by symm,λx b=>by
  obtain⟨u,d,rfl⟩:=Bd.mp b;have:=yb8 ⟨m,by symm⟩ ⟨t,by symm⟩ u (h.mem ((z5x a c h u).mp d));have:u.length<=t:=this;symm⟩
 symm
noncomputable def z6p (Φ:Fn):Prop:=∀(m t:Nat) (d:List Int),1<=m->m<=6->t<=m->(zab m t).length=d.length->Φ [kdW m t,.tup (d.map W.int)]=Za ([kdW m t,.tup (d.map W.int)],(.int (wordOf (tab (2^m) (valF (chz (zab m t) d)))),Zc))
theorem z9g {Ψ:Str->Fn}(hT:zcz (Ψ "terms"))(g:zkb (Ψ "word_of")):z6p (zad [Zc,Zc] 3 (zdc Ψ)):=λm t ds j h a f=>by
 obtain⟨b,k⟩:=zcl (m:=m) (most:=t) h #v[];have d:=hT m t j h a;have sub:=zih (zab m t) ds;have e:=g m (chz (zab m t) ds) h (by have:=sub.length_le;symm) (zfg h a sub);have i:gZip (zac [Zc] (Ψ "terms") #v[7,14]) (gVar 1) #v[6,13]=Za (#v[6,13],zipW ((zab m t).map tmW) (ds.map W.int)):=by
  simp! [d]
 have c:=yf4 i (λ_=>rfl) f b;have c:zgv Ψ #v[6,13]=Za (#v[6,13],(.lst ((chz (zab m t) ds).map tmW),Zd)):=c;have o:zan [.lst ((chz (zab m t) ds).map tmW)]=#v[((chz (zab m t) ds).map tmW),3]:=rfl;unfold zdc;refine zat (en:=#v[4,16]) rfl (seq_e (e1:=#v[4,16]) ?_ ?_) rfl
 ·simp! [c,o]
 ·unfold kdW;simp! [e]
theorem yio (m:Nat):yesW (m:Int)=((2^2^m-1:Nat):Int):=by
 have p:0<2^2^m:=Dl #v[0,9];have e:((1:Int)*2^m).toNat=2^m:=by rw[za1,Ef]
 unfold yesW;rw[Ef,e,za1];generalize 2^2^m=n at *
 symm
noncomputable def AllN (Φ:Fn):Prop:=∀m:Nat,m<=6->Φ [.int (m:Nat)]=Za ([.int (m:Nat)],(.int ((2^2^m-1:Nat):Int),Zc))
theorem ybm {Φ:Fn}(h:zg5 Φ):AllN Φ:=λm a=>by rw[<-yio];exact h m #v[] #v[]
noncomputable def DG (m t u:Nat):List Int:=(zab m t).map λT=>zam (bitN u) (zao T)
theorem yhc {m t u:Nat}(h:m<=6)(a:t<=m):(zab m t).map (λT=>W.int (if T∈duT m (bitN u) then 1 else 0))=(DG m t u).map W.int:=by
 unfold DG;rw[Ca];refine Cv λT hT=>?_;have V:=(zfg h a (List.Sublist.refl (zab m t))).2 T hT;show W.int _=W.int _;congr 1;have k:T∈duT m (bitN u)↔zam (bitN u) (zao T)=1:=by
  unfold duT;rw[Bl,Du];exact⟨λz=>z.2,λz=>⟨V,z⟩⟩
 rcases coef_bit (bitN u) (zao T) with e|e
 ·rw[if_neg (λz=>by rw[k.mp z] at e;cases e)];exact e.symm
 ·rw[if_pos (k.mpr e)];exact e.symm
theorem dg_x (m t a b:Nat):DG m t (a ^^^ b)=(zab m t).map λT=>(zam (bitN a) (zao T)+zam (bitN b) (zao T))%2:=by
 unfold DG;refine Cv λT _=>?_;rw[zc9 (g:=λq=>(bitN a q+bitN b q)%2) λq _=>z9t a b q,zk5]
noncomputable def zzp (Φ:Fn):Prop:=∀(m t:Nat) (d:List Int),1<=m->m<=6->t<=m->(zab m t).length=d.length->Bits d->∃u:Nat,Φ [kdW m t,.tup (d.map W.int)]=Za ([kdW m t,.tup (d.map W.int)],(.int (u:Nat),Zc))/\Cd m t u/\DG m t u=d
theorem ye7 {Φ:Fn}(h:z6p Φ):zzp Φ:=λm t d x b g o w=>by
 have e:=h m t d x b g o;have sub:=zih (zab m t) d;obtain⟨u,j,l⟩:=zjv (tab (2^m) (valF (chz (zab m t) d))) (zaq λi _=>z6y _ i);rw[za8] at j l;rw[l,zbq _ _ j] at e;have r:∀p,p<2^m->valF (chz (zab m t) d) p=bitN u p:=λp s=>by
  have a:(tab (2^m) (valF (chz (zab m t) d)))[p]?=(tab (2^m) (bitN u))[p]?:=by rw[l]
  rw[zdp s,zdp s] at a;exact sI a
 refine⟨u,e,⟨j,zb7 r (zyy b g sub)⟩,?_⟩;have n:(zab m t).Nodup:=zsc ⟨m,by symm⟩ ⟨t,by symm⟩;refine Eq.trans (Cv λT hT=>?_) (zy0 n o w);have V:=(zfg b g (List.Sublist.refl (zab m t))).2 T hT;have lt:=zjy b V;rw[<-zc9 (f:=valF (chz (zab m t) d)) λq y=>r q #v[]];have k:zam (valF (chz (zab m t) d)) (zao T)=1↔T∈chz (zab m t) d:=by
  rw[<-z5x b g sub];unfold duT;rw[Bl,Du];exact⟨λz=>⟨V,z⟩,λz=>z.2⟩
 rcases coef_bit (valF (chz (zab m t) d)) (zao T) with c|c
 ·rw[if_neg (λz=>by rw[k.mpr z] at c;cases c)];exact c
 ·rw[if_pos (k.mp c)];exact c
theorem z48 {m t u:Nat}(h:m<=6)(c:Cd m t u):mxL (zd5 (duT m (bitN u))) (-1)<=(t:Int):=by
 have:=(zwq (B:=(t:Int)) (zd5 (duT m (bitN u))) (-1)).mpr ⟨by symm,λx a=>by
  obtain⟨T,hT,rfl⟩:=Bd.mp a;have:=zse h c.dg T hT;symm⟩
 rw[z0p zvu] at this;exact this
noncomputable def DigN (Φ:Fn):Prop:=∀m t u:Nat,1<=m->m<=6->t<=m->Cd m t u->Φ [kdW m t,.int (u:Nat)]=Za ([kdW m t,.int (u:Nat)],(.tup ((DG m t u).map W.int),Zc))
theorem ygr {Ψ:Str->Fn}(hT:zcz (Ψ "terms"))(hD:z4r (Ψ "degree"))(i:zq9 (Ψ "poly_of")):DigN (zad [Zc,Zc] 5 (zdr Ψ)):=λm t u g h a c=>by
 have e:=i m (bitN u) h (zf3 u);rw[zbq _ _ c.lt] at e;have f:=hD (duT m (bitN u)) (z5e h);have le:=z48 h c;have j:decide ((t:Int)<mxL (zd5 (duT m (bitN u))) (-1))=Zc:=At #v[];have d:=(zcl h (show t<=6 by symm)).1;have b:=yhx (Ψ:=Ψ) hT (P:=duT m (bitN u)) (x:=(u:Int)) (v2:=#v[(m:Nat),0]) (v3:=#v[(t:Nat),0]) g h a d;rw[yhc h a] at b;have o:zan [.lst ((DG m t u).map W.int)]=#v[((DG m t u).map W.int),3]:=rfl;generalize mxL (zd5 (duT m (bitN u))) (-1)=M at *
 generalize (DG m t u).map W.int=D at *
 generalize (duT m (bitN u)).map tmW=P at *
 unfold zdr kdW at *
 refine zat (en:=#v[3,12]) rfl (seq_e (e1:=[#v[#v[5,8],3],#v[(u:Nat),0],#v[(m:Nat),0],#v[(t:Nat),0],Zb]) ?_ (seq_e (e1:=#v[3,12]) ?_ (seq_e (e1:=#v[3,12]) ?_ ?_))) rfl
 ·simp_arith []
 ·simp_arith [e]
 ·simp_arith [f,j]
 ·simp_arith [b,o]
noncomputable def InN (Φ:Fn):Prop:=∀m t u:Nat,m<=6->Cd m t u->Φ [kdW m t,.int (u:Nat)]=Za ([kdW m t,.int (u:Nat)],#v[9,8])
theorem in_n {Φ:Fn}(h:IsIn Φ):InN Φ:=λm t u a c=>by
 have e:=h m t (bitN u) a (zf3 u);rw[zbq _ _ c.lt,Ag (z48 a c)] at e;exact e
theorem zu1 {m:Nat}{su:List Nat}(h:su.length<2^m):0<((List.range (2^m)).filter λp=>!su.contains p).length:=by
 apply Nat.pos_of_ne_zero;intro z;have e:=List.eq_nil_of_length_eq_zero z;have:=zpj (l:=List.range (2^m)) (l':=su) List.nodup_range λa b=>by
  have:a ∉ (List.range (2^m)).filter λp=>!su.contains p:=by rw[e];exact Br
  rw[Bl,not_and] at this;have:=this b;rw[Bo,Dc] at this;exact Fy.mp this
 rw[Be] at this;symm
theorem yfg {p:Nat}{su:List Nat}:oIn Zd (.int (p:Nat)) (.lst (castL su))=Za (.bl (!su.contains p),Zc):=by
 have f:(castL su).all zh9=Zd:=by unfold castL;rw[List.all_map,Bi];intro x _;rfl
 have a:((castL su).any λy=>eqF y (.int (p:Nat)))=su.contains p:=by
  unfold castL;rw[List.any_map,Ej,Gd,Fy];constructor
  ·rintro ⟨x,b,h⟩;have:((x:Int)==(p:Int))=Zd:=h;have:x=p:=by have:=Bp this;symm
   exact this ▸ b
  ·intro h;exact⟨p,h,show ((p:Int)==(p:Int))=Zd from beq_self_eq_true _⟩
 show (if zh9 (.int (p:Nat))&&(castL su).all zh9 then Za (W.bl (if Zd then !((castL su).any λy=>eqF y (.int (p:Nat))) else _),Zc) else Zb)=_;rw[f,a];rfl
theorem z70 {p:Nat}{su:List Nat}:oInV Zd (.int (p:Nat)) (.lst (castL su))=Za (.bl (!su.contains p),Zc):=by
 unfold oInV;rw[yfg]
theorem z7y {xs:List W}{x:W}:atI (xs++[x]) (-1)=Za x:=by
 have l:(xs++[x]).length=xs.length+1:=by rw[Bb];rfl
 have i:ixN (xs++[x]).length (-1)=Za xs.length:=by
  rw[l];unfold ixN;rw[if_neg #v[0,9],if_pos #v[]];congr 1;symm
 unfold atI;rw[i];show (xs++[x])[xs.length]?=_;rw[Db (Af _),Nat.sub_self];rfl
noncomputable def left (m:Nat) (su:List Nat):List Nat:=(List.range (2^m)).filter λp=>!su.contains p
theorem ygn {Ψ:Str->Fn}{m:Nat}{su:List Nat}{a c e f:Option (W×Bool)}(h:m<=6):zcm Ψ [a,#v[(m:Nat),0],c,#v[(castL su),2],e,f]=Za ([a,#v[(m:Nat),0],c,#v[(castL su),2],e,f],(.lst (castL (left m su)),Zd)):=by
 have i:=zcp h;have b:=pow1 (l:=m) #v[];unfold zcm;unfold left;rw[show castL ((List.range (2^m)).filter λp=>!su.contains p)=((List.range (2^m)).filter λp=>!su.contains p).map λp:Nat=>W.int (p:Nat) from rfl];refine zvg (xs:=[#v[(castL su),2]]) (λp:Nat=>W.int (0+(p:Int))) (λp=>!su.contains p) (λp:Nat=>W.int (p:Nat)) (e0:=[a,#v[(m:Nat),0],c,#v[(castL su),2],e,f]) (ts:=List.range (2^m)) (ze0 (n:=2^m) (by simp! [b,za1]) #v[]) (by rw[Be];symm) rfl rfl rfl (λ_ _=>rfl) λd p g=>?_;rw[Fp];refine⟨#v[(p:Nat),0],?_,λ_=>⟨#v[(p:Nat),0],Zc,by simp! []⟩⟩;simp! [z70]
theorem yg9 {Ψ:Str->Fn}{m z:Nat}{is su:List Nat}{a b e f:Option (W×Bool)}(g:m<=6)(n:z<2^m)(k:InM m su)(l:su.length<=64):zck Ψ [a,b,#v[(castL is++[.int (z:Nat)]),2],#v[(castL su),2],e,f]=Za ([a,b,#v[(castL is++[.int (z:Nat)]),2],#v[(castL su),1],e,f],(.lst (castL (su.map λy=>y ^^^ z)),Zd)):=by
 have p:=zcp g;unfold zck;refine zig (cap:=#v[1,19]) (it:=zap (gVar 3)) (rs:=castL (su.map λy=>y ^^^ z)) (en:=[a,b,#v[(castL is++[.int (z:Nat)]),2],#v[(castL su),2],e,f]) (xs:=[#v[(castL is++[.int (z:Nat)]),2]]) (e0:=[a,b,#v[(castL is++[.int (z:Nat)]),2],#v[(castL su),1],e,f]) (ws:=castL su) (by simp! []) (by rw[zaf];symm) (by rw[zaf,zaf,Ac]) rfl rfl rfl (λ_ _=>rfl) λi o w r d j=>?_;obtain⟨y,h,rfl⟩:=za7 d;obtain⟨x,c,rfl⟩:=za7 j;rw[Ak,h] at c;cases c;have xx:=xorN (a:=y) (b:=z) (by have:=k y (Bn h);symm) #v[];refine⟨#v[(y:Nat),0],Zc,?_⟩;simp! [z7y,xx]
theorem yha {Ψ:Str->Fn}(hT:zgr (Ψ "_law_take")){k m:Nat}{st:W}{is su:List Nat}{e f:Option (W×Bool)}(t:HS k st)(F:k+10<big)(g:m<=6)(A:InM m su)(o:su.length<2^m)(H:is.length<=64):∃s z,zbs Ψ [#v[st,5],#v[(m:Nat),0],#v[(castL is),2],#v[(castL su),2],e,f]=Za ([#v[s,5],#v[(m:Nat),0],#v[(castL (is++[z])),2],#v[(castL (su++su.map λy=>y ^^^ z)),2],e,#v[(castL (left m su)),2]],.nx)/\HS (k+1) s/\z<2^m/\z ∉ su:=by
 have D:=zcp g;have C:=zu1 o;have I:(left m su).length<=64:=by unfold left;have:=List.length_filter_le (λp=>!su.contains p) (List.range (2^m));rw[Be] at this;symm
 obtain⟨s,r,d,w,B,E⟩:=hT k st ((left m su).length:Nat) t #v[] (by unfold left;symm) #v[];obtain⟨r,rfl⟩:=Eg B;have l:r<(left m su).length:=by symm
 have h:(left m su)[r]<2^m:=Az.mp (Bl.mp (show (left m su)[r]∈(List.range (2^m)).filter _ from Ff l)).1;have i:atI (castL (left m su)) (r:Int)=Za (.int ((left m su)[r]:Nat)):=zbk (by unfold castL;rw[Ak,Ab l];rfl);have j:(left m su)[r] ∉ su:=by
  have:=(Bl.mp (show (left m su)[r]∈(List.range (2^m)).filter (λp=>!su.contains p) from Ff l)).2;simpa using this
 generalize (left m su)[r]=z at h i j;have x:=ygn (Ψ:=Ψ) (su:=su) (a:=#v[st,5]) (c:=#v[(castL is),2]) (e:=e) (f:=f) g;have u:=yg9 (Ψ:=Ψ) (is:=is) (a:=#v[s,5]) (b:=#v[(m:Nat),0]) (e:=e) (f:=#v[(castL (left m su)),2]) g h A #v[];have lt:(is.length<16777216)=True:=eq_true #v[];have n:(su.length+su.length<=16777216)=True:=eq_true #v[];have q:castL (is++[z])=castL is++[.int (z:Nat)]:=zd8 is [z];refine⟨s,z,?_,w,h,j⟩;rw[zd8 su,q];unfold zbs;refine seq_e (e1:=[#v[st,5],#v[(m:Nat),0],#v[(castL is),2],#v[(castL su),2],e,#v[(castL (left m su)),2]]) ?_ (seq_e (e1:=[#v[s,5],#v[(m:Nat),0],#v[(castL is++[.int (z:Nat)]),2],#v[(castL su),2],e,#v[(castL (left m su)),2]]) ?_ ?_)
 ·simp! [x]
 ·simp! [zaf,d,i,lt]
 ·simp! [u,zaf,Ac,n]
noncomputable def zlq (Φ:Fn):Prop:=∀(k:Nat) (b:W) (m:Nat),HS k b->k+100<big->m<=6->∃(a:W) (i:List Nat) (s:Nat),Φ [b,.int (m:Nat)]=Za ([a,.int (m:Nat)],(tuW i s,Zc))/\HS (k+10) a/\i.length=m/\InM m i/\s<2^m/\Ind i
theorem zs6 {Ψ:Str->Fn}(hT:zgr (Ψ "_law_take")):zlq (zad [Zd,Zc] 6 (zb1 Ψ)):=λk st m I S C=>by
 have Q:=zcp C;have F:0<2^m:=Dl #v[0,9];have p:=pow1 (l:=m) #v[];have t:∃st' is su v4 v5,zcf Ψ #v[8,10]=Za (#v[1,17],.nx)/\HS (k+m) st'/\is.length=m/\InM m is/\Ind is:=by
  unfold zcf;obtain⟨H,h,st',is,su,v4,v5,rfl,g,j,o,u,si,d,_⟩:=zbv (mp:=[0]) (T:=.nm 4) (body:=zbs Ψ) (λi e=>∃st' is su v4 v5,e=#v[1,17]/\HS (k+i) st'/\is.length=i/\InM m is/\su.length=2^i/\InM m su/\Ind is/\∀q,q<2^is.length->gN is 0 q is.length∈su) (ze0 (a:=zaa 1) (en:=#v[8,10]) (e1:=#v[8,10]) (n:=m) (by simp! []) #v[]) ⟨st,[],[0],Zb,Zb,rfl,I,rfl,(λa h=>by cases h),rfl,(λa h=>by cases h with|head=>exact F|tail _ h=>cases h),(λl h=>absurd h (Nat.not_lt_zero _)),(λq _=>.head _)⟩ λi w e N J=>by
   obtain⟨st',is,su,v4,v5,rfl,g,j,o,u,si,d,B⟩:=J;obtain⟨M,rfl⟩:=zb3 N;have P:2^i<2^m:=Hb #v[0,9] M;obtain⟨c,z,D,r,x,A⟩:=yha (Ψ:=Ψ) (e:=#v[(0+(i:Int)),0]) (f:=v5) hT g #v[] C si #v[] (show is.length<=64 by symm);refine⟨_,_,rfl,.inl D,c,_,_,_,_,rfl,r,by rw[Bb,j];rfl,λa b=>?_,by rw[Bb,Ac,u,Nat.pow_succ];symm,λa b=>?_,(zr7 d B A).1,by rw[Bb];exact (zr7 d B A).2⟩
   ·rcases Bh.mp b with b|b
    ·exact o a b
    ·cases b with
     |head=>exact x
     |tail _ h=>cases h
   ·rcases Bh.mp b with b|b
    ·exact si a b
    ·obtain⟨y,E,rfl⟩:=Bd.mp b;exact Er (si y E) x
  rw[zcc] at g j;exact⟨st',is,su,v4,v5,h,g,j,o,d⟩
 obtain⟨st',is,su,v4,v5,t,g,j,o,d⟩:=t;obtain⟨c,s,L,r,O,R⟩:=hT (k+m) st' ((2^m:Nat):Int) g #v[] #v[] #v[];obtain⟨s,rfl⟩:=Eg O;have K:zan [.lst (castL is)]=#v[(castL is),3]:=rfl;refine⟨c,is,s,?_,r.mono #v[],j,o,by symm,d⟩;unfold zb1;refine zat (en:=[#v[c,5],#v[(m:Nat),0],#v[(castL is),2],#v[(castL su),2],v4,v5]) rfl (seq_e (e1:=[#v[st,5],#v[(m:Nat),0],#v[[],2],Zb,Zb,Zb]) ?_ (seq_e (e1:=#v[8,10]) ?_ (seq_e t ?_))) rfl
 ·simp! []
 ·simp! []
 ·unfold tuW;simp! [K,p,za1,L]
theorem z9v {L D:List Nat}{p:Nat}{g iv:Nat->Nat}(h:g p ∉ D.map g)(a:iv (g p)=p):zfx ((D.map g).map dkN) (dkN (g p))=((D++[p]).map g).map dkN/\zgf ((D.map g).map dkN) (castL D) (dkN (g p)) (.int (p:Nat))=castL (D++[p]):=by
 refine⟨?_,?_⟩
 ·rw[z32 zqi h,Bx,Bx];rfl
 ·rw[z24 zqi _ _ h,zd8];rfl
theorem ydj {gk:GE}{x:Option (W×Bool)}{v0:Option (W×Bool)}{g:Nat->Nat}:∀(L D:List Nat) (v1:Option (W×Bool)),(∀p∈L,gk [v0,Za (.int (p:Nat),Zc),x]=Za ([v0,Za (.int (p:Nat),Zc),x],(.int (g p:Nat),Zc)))->((D++L).map g).Nodup->∃b,zmw [2] (.nm 1) gk (gVar 1) (castL L) [v0,v1,x] ((D.map g).map dkN) (castL D)=Za ([v0,b,x],((D++L).map g).map dkN,castL (D++L))
 |[],D,v1,_,_=>⟨v1,by rw[Bu];rfl⟩
 | p::L,D,v1,c,h=>by
  have f:=c p An;have n:g p ∉ D.map g:=λz=>by
   rw[Bx,Ax] at h;have:=(List.nodup_append.mp h).2.2 (g p) z (g p) An;exact this rfl
  obtain⟨i,e⟩:=z9v (L:=L) (iv:=λ_=>p) n rfl;have a:D++p::L=(D++[p])++L:=by rw[Bf];rfl
  obtain⟨b,j⟩:=ydj (g:=g) (x:=x) (v0:=v0) L (D++[p]) (#v[(p:Nat),0]) (λq d=>c q (Ai _ d)) (by rw[<-a];exact h);refine⟨b,?_⟩;rw[a,<-j,<-i,<-e];show (tgSet [2] (.nm 1) (.int (p:Nat)) [v0,v1,x]).bind _=_;have t:tgSet [2] (.nm 1) (.int (p:Nat)) [v0,v1,x]=Za [v0,#v[(p:Nat),0],x]:=rfl;rw[t];show (gk [v0,#v[(p:Nat),0],x]).bind _=_;rw[f]
  rfl
theorem zzq {m:Nat}{is:List Nat}{s:Nat}(g:Good m is s):castL (List.range (2^m))=((List.range (2^m)).map λp=>gN is s p m).map λq=>W.int (invN is s m q:Nat):=by
 unfold castL;rw[Ca];apply Cv;intro p h;show W.int (p:Nat)=W.int (invN is s m (gN is s p m):Nat);rw[z55 g.inM g.lt g.inj (Az.mp h) rfl]
theorem z66 {m:Nat}{is:List Nat}{s:Nat}(g:Good m is s):((List.range (2^m)).map λp=>gN is s p m).Nodup:=by
 rw[Bw,Cy];have:=List.nodup_range (n:=2^m);rw[Bw] at this;exact this.imp_of_mem λ{a b} h c ne e=>ne (g.inj a b (Az.mp h) (Az.mp c) e)
noncomputable def dK43 (is:List Nat) (s m:Nat):List DKey:=((List.range (2^m)).map λp=>gN is s p m).map dkN
theorem at43 {m:Nat}{is:List Nat}{s q:Nat}(g:Good m is s)(b:q<2^m):oIxD (.dct (dK43 is s m) (castL (List.range (2^m)))) (.int (q:Nat))=#v[(invN is s m q:Nat),0]:=by
 refine yid (d:=dkN q) rfl ?_;unfold dK43;rw[zzq g,zxg zqi,if_pos];obtain⟨a,h⟩:=zc3 g.inM g.lt g.inj b;exact Bd.mpr ⟨_,Az.mpr a,h⟩
theorem zwk (n:Nat):rngW 0 n=castL (List.range n):=by
 apply Ea;intro i;by_cases h:i<n
 ·unfold castL;rw[Ak,Hl h];have a:i<(rngW 0 n).length:=by rw[zcc];exact h
  rw[Ab a];have:=zb3 (Ab a);rw[this.2,Fp];rfl
 ·rw[Ck (by rw[zcc];symm),Ck (by rw[zaf,Be];symm)]
theorem z82 {Ψ:Str->Fn}(hN:zjf (Ψ "sent")){m:Nat}{is:List Nat}{s:Nat}{v2:Option (W×Bool)}(h:m<=6)(g:Good m is s):zoe Ψ #v[0,15]=Za (#v[0,15],(.dct (dK43 is s m) (castL (List.range (2^m))),Zd)):=by
 have f:=zcp h;have c:(100000:Nat)<=sizeLine:=by decide
 have e:=pow1 (l:=m) #v[];have i:zbt #v[2,21] #v[0,15]=Za (#v[0,15],castL (List.range (2^m))):=by
  rw[<-zwk];exact ze0 (n:=2^m) (by simp! [e,za1]) #v[]
 obtain⟨a,d⟩:=ydj (gk:=zac [Zc,Zc] (Ψ "sent") #v[7,8]) (x:=#v[tuW is s,6]) (v0:=Zb) (g:=λp=>gN is s p m) (List.range (2^m)) [] Zb (λp b=>by
  have:=hN m is s p h g.len g.inM g.lt (Az.mp b);simp! [this]) (z66 g)
 unfold zoe zqu;rw[i];show (if zc1 #v[2,19]&&decide ((castL (List.range (2^m))).length<=sizeLine) then _ else Zb)=_;rw[zaf,Be,Ag (show 2^m<=sizeLine by symm)];show (zmw [2] (.nm 1) _ _ (castL (List.range (2^m))) [Zb,Zb,#v[tuW is s,6]] [] []).bind _=_;have d:zmw [2] (.nm 1) (zac [Zc,Zc] (Ψ "sent") #v[7,8]) (gVar 1) (castL (List.range (2^m))) [Zb,Zb,#v[tuW is s,6]] [] []=Za ([Zb,a,#v[tuW is s,6]],dK43 is s m,castL (List.range (2^m))):=d;rw[d]
 rfl
noncomputable def z6h (Φ:Fn):Prop:=∀(m:Nat) (i:List Nat) (s:Nat),m<=6->Good m i s->Φ [tuW i s]=Za ([tuW i s],(tuW (bkL i s m) (invN i s m 0),Zc))
theorem z83 {Ψ:Str->Fn}(hN:zjf (Ψ "sent"))(hX:zog (Ψ "plus")):z6h (zad [Zc] 3 (zrv Ψ)):=λm is s c g=>by
 have p:0<2^m:=Dl #v[0,9];have y:=zcp c;have n:=z82 (Ψ:=Ψ) (v2:=Zb) hN c g;have b:oIxD (.dct (dK43 is s m) (castL (List.range (2^m)))) (.int 0)=#v[(invN is s m 0:Nat),0]:=at43 g p;have z:=(zc3 g.inM g.lt g.inj p).1;have k:zpb Ψ #v[7,7]=Za (#v[7,7],(.lst (castL (bkL is s m)),Zd)):=by
  unfold zpb;refine zig (cap:=#v[1,19]) (it:=zbt #v[6,14]) (xs:=[Za (.dct (dK43 is s m) (castL (List.range (2^m))),Zd)]) (en:=#v[7,7]) (e0:=#v[7,7]) (ws:=rngW 0 m) (rs:=castL (bkL is s m)) (ze0 (by simp! []) #v[]) (by rw[zcc];symm) (by rw[zaf,zcc,z51]) rfl rfl rfl (λ_ _=>rfl) λi v w r t d=>?_;obtain⟨a,rfl⟩:=zb3 t;rw[Fp];obtain⟨q,h,rfl⟩:=za7 d;have f:q=invN is s m (2^i) ^^^ invN is s m 0:=by
   unfold bkL at h;rw[Ak,Hl a] at h;exact (sI h).symm
  subst f;have e:=pow1 (l:=i) #v[];have j:=at43 g (zg6 a);have A:=(zc3 g.inM g.lt g.inj (zg6 a)).1;have x:=hX (invN is s m (2^i):Nat) (invN is s m 0:Nat);rw[xorN #v[] #v[]] at x;refine⟨#v[(i:Nat),0],Zc,?_⟩;simp! [e,za1,j,b,x]
 have o:zan [.lst (castL (bkL is s m))]=#v[(castL (bkL is s m)),3]:=rfl;have u:(castL is).length=m:=by rw[zaf,g.len]
 unfold zrv;refine zat (en:=#v[7,7]) rfl (seq_e (e1:=[#v[tuW is s,6],#v[(m:Nat),0],Zb]) ?_ (seq_e (e1:=#v[7,7]) ?_ ?_)) rfl
 ·unfold tuW;simp! [u]
 ·simp! [n]
 ·simp! [k,o,b];try rfl
noncomputable def unN (m:Nat):List Nat:=(List.range m).map λl=>2^l
theorem z46 (l:Nat):tp (2^l)=l:=ydm (by rw[Fb];exact Ag rfl) λi h=>by rw[Fb];exact At #v[]
theorem ygm (m:Nat):RB (unN m):=by
 refine⟨λb c=>?_,?_⟩
 ·obtain⟨l,_,rfl⟩:=Bd.mp c;exact Nat.ne_of_gt (Nat.two_pow_pos l)
 ·unfold unN;rw[Cy];refine List.pairwise_lt_range.imp λ{a b} h=>?_;rw[z46,z46,Fb,Fb];exact⟨At #v[],At #v[]⟩
theorem z6r:∀(m v:Nat),v<2^m->SpN (unN m) v
 |0,v,h=>by rw[show v=0 by symm];exact .zero
 | m+1,v,h=>by
  have d:∀{u},SpN (unN m) u->SpN (unN (m+1)) u:=λh=>h.go λb a=>.one (by unfold unN at a ⊢;rw[Ex,Bx];exact Cq _ a);cases q:v.testBit m with
  | false=>exact d (z6r m v (Nat.lt_pow_two_of_testBit _ λi e=>by
    by_cases c:i=m
    ·subst c;exact q
    ·exact Dw (Aw h (Bj #v[0,9] #v[]))))
  | true =>
   have l:v ^^^ 2^m<2^m:=Nat.lt_pow_two_of_testBit _ λi e=>by
    rw[Cc,Fb];by_cases c:m=i
    ·subst c;rw[q,Ag rfl];rfl
    ·rw[At c,Gu];exact Dw (Aw h (Bj #v[0,9] #v[]))
   have:=(d (z6r m _ l)).add (b:=2^m) (by unfold unN;rw[Ex,Bx];exact Av _ (As.mpr rfl));rw[Bk,Cw,Bv] at this;exact this
theorem z12 (ns:List Int):(zhy ns).length=ns.length:=by
 have s:=List.pairwise_mergeSort (le:=λa b:Int=>decide (a<=b)) (λa b c e d=>Ag (Int.le_trans (Aq e) (Aq d))) (λa b=>by rw[Co,Du,Du];exact Int.le_total a b) ns;rw[zqz (List.mergeSort_perm ns _) (s.imp λh=>Aq h)];exact (List.mergeSort_perm ns _).length_eq
noncomputable def yc9 (Φ:Fn):Prop:=∀(k:Nat) (a:W),HS k a->k+10<big->∃(s:W) (m:Nat),Φ [a]=Za ([s],(.int (m:Nat),Zc))/\HS (k+2) s/\1<=m/\m<=6
theorem z2b {Ψ:Str->Fn}(hT:zgr (Ψ "_law_take")):yc9 (zad [Zd] 1 (zcj Ψ)):=λk f l p=>by
 obtain⟨a,r,e,j,i,m⟩:=hT k f 5 l #v[] #v[0,9] #v[0,9];obtain⟨s,q,b,g,t,n⟩:=hT (k+1) a 8 j #v[] #v[0,9] #v[0,9];obtain⟨r,rfl⟩:=Eg i;by_cases c:q=0
 ·subst c;refine⟨s,6,?_,g,by decide,Af _⟩;have o:oInt [.bl Zd]=#v[1,0]:=rfl;unfold zcj;simp! [e,b,o]
 ·refine⟨s,1+r, ?_,g,by symm,by symm⟩;have d:decide (q=0)=Zc:=At c;have o:oInt [.bl Zc]=#v[0,0]:=rfl;have h:(1:Int)+(r:Int)=((1+r:Nat):Int):=by symm
  unfold zcj;simp! [e,b,d,o,h]
theorem zyb {is:List Nat}{s p:Nat}:∀n,n<=is.length->SpN is (gN is s p n ^^^ s)
 |0,_=>by show SpN is (s ^^^ s);rw[Cw];exact .zero
 | n+1,h=>by
  have i:=zyb (is:=is) (s:=s) (p:=p) n #v[];rw[za5];split
  ·have a:is.getD n 0∈is:=by
    rw[Au,Ab #v[]];exact Ff #v[]
   have:=i.add a;rw[Bk,Hn s,<-Bk] at this;exact this
  ·exact i
theorem z8y {m s:Nat}{is:List Nat}(g:Good m is s):(bo is).length=m:=by
 have f:∀v,v<2^m->SpN is v:=λv c=>by
  obtain⟨p,_,e⟩:=hits g.inM g.lt g.inj (q:=v ^^^ s) (Er c g.lt);have:=zyb (is:=is) (s:=s) (p:=p) m (by rw[g.len];exact Af m);rw[e,Bk,Cw,Bv] at this;exact this
 have a:zc2 is (unN m):=⟨λb h=>z6r m b (g.inM b h),λb h=>f b (by
  obtain⟨l,d,rfl⟩:=Bd.mp h;exact Hb #v[0,9] (Az.mp d))⟩
 have:=(zx6 (z95 is).1 (ygm m) ((z95 is).2.trans a)).length_eq;rw[this];unfold unN;rw[Ac,Be]
noncomputable def zsm (Φ:Fn):Prop:=∀n:Nat,Φ [.int (n:Nat)]=Za ([.int (n:Nat)],#v[9,8])
theorem z9p (Ψ:Str->Fn):zsm (zad [Zc] 1 (zgj Ψ)):=λn=>rfl
noncomputable def RowN (Φ:Fn):Prop:=∀(w:List W) (n:Nat),w.length=n->Φ [.tup w,.int (n:Nat)]=Za ([.tup w,.int (n:Nat)],#v[9,8])
theorem yhl (Ψ:Str->Fn):RowN (zad [Zc,Zc] 2 (zg1 Ψ)):=λw n h=>by
 subst h;have o:oLen [.tup w]=#v[(w.length:Nat),0]:=rfl;have d:oEq (.int (w.length:Nat)) (.int (w.length:Nat))=Za #v[9,8]:=by
  show Za (W.bl (decide ((w.length:Int)=(w.length:Int))),Zc)=_;rw[Ag rfl]
 have i:oIsi .tuple (.tup w)=Za #v[9,8]:=rfl;unfold zg1
 simp_arith [o,d,i]
noncomputable def z5b (Φ:Fn):Prop:=∀m p:Nat,m<=6->p<2^m->Φ [.int (m:Nat),.int (p:Nat)]=Za ([.int (m:Nat),.int (p:Nat)],#v[9,8])
theorem yap {Ψ:Str->Fn}(hW:zsm (Ψ "is_whole")):z5b (zad [Zc,Zc] 2 (zel Ψ)):=λm p h b=>by
 have e:=hW p;have q:=pow1 (l:=m) #v[];have d:decide ((0:Int)<=(p:Int))=Zd:=Ag #v[];have a:decide ((p:Int)<((2^m:Nat):Int))=Zd:=Ag #v[];unfold zel;simp! [e,q,za1,d,a]
noncomputable def ye4 (Φ:Fn):Prop:=∀m w:Nat,m<=6->w<2^2^m->Φ [.int (m:Nat),.int (w:Nat)]=Za ([.int (m:Nat),.int (w:Nat)],#v[9,8])
theorem yd9 {Ψ:Str->Fn}(hW:zsm (Ψ "is_whole"))(hA:AllN (Ψ "all_yes")):ye4 (zad [Zc,Zc] 2 (zfh Ψ)):=λm w h c=>by
 have e:=hW w;have a:=hA m h;have d:decide ((0:Int)<=(w:Int))=Zd:=Ag #v[];generalize f:(2^2^m:Nat)=z at *
 have b:decide ((w:Int)<=((z-1:Nat):Int))=Zd:=Ag #v[];unfold zfh;simp! [e,a,d,b]
noncomputable def zxy (Φ:Fn):Prop:=∀(m s:Nat) (i:List Nat),m<=6->Good m i s->Φ [.int (m:Nat),tuW i s]=Za ([.int (m:Nat),tuW i s],#v[9,8])
theorem z1z {Ψ:Str->Fn}(hR:RowN (Ψ "is_row"))(c:z5b (Ψ "is_place"))(hB:yf7 (Ψ "base_of")):zxy (zad [Zc,Zc] 4 (zcu Ψ)):=λm s is d g=>by
 have a:=hR [.tup (castL is),.int (s:Nat)] 2 rfl;have a:Ψ "is_row" [tuW is s,.int 2]=Za ([tuW is s,.int 2],#v[9,8]):=a;have n:=c m s d g.lt;have o:=hR (castL is) m (by rw[zaf];exact g.len);have l:=hB is (.tup (castL is)) (.inr rfl) (by rw[g.len];symm);have k:decide ((((zhy ((bo is).map λb:Nat=>(b:Int))).map W.int).length:Int)=(m:Int))=Zd:=Ag (by rw[Ac,z12,Ac,z8y g]);have q:zdb Ψ #v[9,17]=Za (#v[9,17],(.lst (is.map λ_=>W.bl Zd),Zd)):=by
  unfold zdb castL;refine zig (xs:=[#v[(m:Nat),0]]) (e0:=[#v[(m:Nat),0],#v[tuW is s,6],#v[(is.map λp:Nat=>W.int p),3],#v[(s:Nat),0]]) (ws:=is.map λp:Nat=>W.int p) rfl (by rw[Ac,g.len];symm) (by rw[Ac,Ac]) rfl rfl rfl (λ_ _=>rfl) λi u w r j h=>?_;rw[Ak] at j h;obtain⟨p,f,rfl⟩:=Option.map_eq_some_iff.mp j;rw[f] at h;obtain rfl:=sI h;have e:=c m p d (g.inM p (Bn f));exact⟨#v[(p:Nat),0],Zc,by simp! [e]⟩
 have t:oBl (λbs=>bs.all id) [.lst (is.map λ_=>W.bl Zd)]=Za #v[9,8]:=by
  show ((blsOf (is.map λ_=>W.bl Zd)).bind λbs=>#v[W.bl (bs.all id),6])=_;rw[show is.map (λ_=>W.bl Zd)=(is.map λ_=>Zd).map W.bl from Ca.symm,zd1,List.map_const'];show #v[W.bl ((List.replicate _ Zd).all id),6]=_;rw[zr4]
 generalize is.map (λ_=>W.bl Zd)=B at *
 generalize (zhy ((bo is).map λb:Nat=>(b:Int))).map W.int=S at *
 unfold zcu tuW at *
 generalize castL is=L at *
 refine zat (en:=#v[8,9]) rfl (seq_e (e1:=[#v[(m:Nat),0],#v[[.tup L,.int (s:Nat)],3],Zb,Zb]) ?_ (seq_e (e1:=#v[8,9]) ?_ (seq_e (e1:=#v[8,9]) ?_ (seq_e (e1:=#v[8,9]) ?_ ?_)))) rfl
 ·simp_arith [a]
 ·simp_arith []
 ·simp_arith [n,o]
 ·simp_arith [q,t]
 ·simp! [l,k]
noncomputable abbrev OW:=Option (W×Bool)
theorem z7w:zib (.bl Zd) (.bl Zd)=Za #v[3,8]:=rfl
structure TFns (Ψ:Str->Fn):Prop where
 hU:zlq (Ψ "_law_turning")
 hT:yf1 (Ψ "turned")
 hI:zxy (Ψ "is_turning")
 hN:InN (Ψ "is_in")
 hB:z6h (Ψ "back")
theorem yfz {m s:Nat}{is:List Nat}(g:m<=6)(h:is.length=m)(b:InM m is)(d:s<2^m)(c:Ind is):Good m is s:=⟨h,b,d,λp q f a e=>by subst h;exact yb3 c f a e⟩
theorem ydy {m s w u v:Nat}{is:List Nat}(d:m<=6)(g:Good m is s)(b:w<2^2^m)(c:v<2^2^m)(e:∀p,p<2^m->u.testBit p=w.testBit (gN is s p m))(a:∀p,p<2^m->v.testBit p=u.testBit (gN (bkL is s m) (invN is s m 0) p m)):v=w:=by
 refine yc5 c b λp h=>?_;have i:=zc3 g.inM g.lt g.inj h;rw[a p h,zop d g h,e _ i.1,i.2]
theorem ygy {Ψ:Str->Fn}(F:TFns Ψ){k m t w:Nat}{st:W}{v3 v4 v5:OW}(A:HS k st)(C:k+100<big)(z:1<=m)(h:m<=6)(x:t<=m)(c:Cd m t w):∃q:W×OW×OW,zas Ψ [#v[st,5],#v[kdW m t,6],#v[(w:Nat),0],v3,v4,v5]=Za ([#v[q.1,5],#v[kdW m t,6],#v[(w:Nat),0],v3,q.2.1,q.2.2],.nx)/\HS (k+10) q.1:=by
 obtain⟨st1,i,s,e,H,l,f,a,r⟩:=F.hU k st m A C h;have g:=yfz h l f a r;obtain⟨u,D,L,n⟩:=F.hT m i s w h l f a;have J:Cd m t u:=z7z L (ya0 h z x f a (z9b c)) n;have E:=F.hI m s i h g;have B:=F.hN m t u h J;have p:=F.hB m i s h g;have j:=ybq h g;obtain⟨v,I,K,y⟩:=F.hT m (bkL i s m) (invN i s m 0) u h j.len j.inM j.lt;obtain rfl:=ydy h g c.lt K n y;have b:atI #v[6,11] 0=Za (.int (m:Nat)):=rfl;have d:decide ((v:Int)=(v:Int))=Zd:=Ag rfl;have o:=z7w;refine⟨(st1,#v[tuW i s,6],#v[(u:Nat),0]),?_,H⟩;generalize tuW i s=T1 at *
 generalize tuW (bkL i s m) (invN i s m 0)=M at *
 unfold zas kdW at *
 refine seq_e (e1:=[#v[st1,5],#v[#v[5,8],3],#v[(v:Nat),0],v3,#v[T1,6],v5]) ?_ (seq_e (e1:=#v[0,17]) ?_ (seq_e (e1:=#v[0,17]) ?_ ?_))
 ·simp! [b,e]
 ·simp! [b,D]
 ·simp! [b,E,B,o]
 ·simp! [b,p,I,d,Fw]
noncomputable def zri (Φ:Fn):Prop:=∀(k m t w:Nat) (a:W),HS k a->k+200<big->1<=m->m<=6->t<=m->Cd m t w->∃s,Φ [a,kdW m t,.int (w:Nat)]=Za ([s,kdW m t,.int (w:Nat)],#v[9,8])/\HS (k+20) s
theorem zz6 {Ψ:Str->Fn}(F:TFns Ψ):zri (zad [Zd,Zc,Zc] 6 (za2 Ψ)):=λk m t w st u B r p d c=>by
 have l:∃q:W×OW×OW×OW,zbe Ψ #v[3,14]=Za ([#v[q.1,5],#v[kdW m t,6],#v[(w:Nat),0],q.2.1,q.2.2.1,q.2.2.2],.nx)/\HS (k+20) q.1:=by
  unfold zbe;obtain⟨s,h,q,rfl,g⟩:=zbv (mp:=[0]) (T:=.nm 3) (body:=zas Ψ) (λi e=>∃q:W×OW×OW×OW,e=[#v[q.1,5],#v[kdW m t,6],#v[(w:Nat),0],q.2.1,q.2.2.1,q.2.2.2]/\HS (k+10*i) q.1) (ze0 (n:=2) (a:=gArg (gC (.int 2))) (en:=#v[3,14]) (e1:=#v[3,14]) rfl #v[0,9]) ⟨(st,Zb,Zb,Zb),rfl,u⟩ λi x e j z=>by
   obtain⟨q,rfl,g⟩:=z;obtain⟨A,rfl⟩:=zb3 j;obtain⟨b,f,o⟩:=ygy F (v3:=#v[(0+(i:Int)),0]) (v4:=q.2.2.1) (v5:=q.2.2.2) g #v[] r p d c;exact⟨_,_,rfl,.inl f,(b.1,#v[(0+(i:Int)),0],b.2),rfl,o.mono #v[]⟩
  have y:(rngW 0 2).length=2:=rfl;rw[y] at g;exact⟨q,h,g⟩
 obtain⟨q,l,g⟩:=l;refine⟨q.1,?_,g⟩;unfold za2;exact zat (en:=[#v[q.1,5],#v[kdW m t,6],#v[(w:Nat),0],q.2.1,q.2.2.1,q.2.2.2]) rfl (seq_e l rfl) rfl
theorem zfu {α:Type}{cap:Cap}{T:Tg}{it:GL}{te:GE}{en e0:En}{ts:List α} (P:En->Prop) (f g:α->W) (u:it en=Za (e0,ts.map f)) (x:ts.length<=100000) (s:zc1 cap=Zd) (o:P (ze8 cap e0)) (n:∀c,P c->za4 cap e0 c=e0) (q:∀c a,P c->a∈ts->∃e j b,tgSet (capKeep cap) T (f a) c=Za e/\te e=Za (j,(g a,b))/\P j):zbl cap T it gYes te en=Za (e0,(.lst (ts.map g),Zd)):=by
 have y:(100000:Nat)<=sizeLine:=by decide
 obtain ⟨v,out,l,h⟩:=zee (λi c k=>P c/\k=(ts.take i).map g) u s (by rw [Ac];symm) ⟨o,rfl⟩
  (λi w c k d h=>by
   obtain⟨h,rfl⟩:=h;rw[Ak] at d;cases ha:ts[i]? with
   |none=>rw[ha] at d;exact noSome d
   | some a =>
    rw[ha] at d;obtain rfl:=sI d;obtain⟨e,j,b,r,m,p⟩:=q c a h (Bn ha);have t:ts.take (i+1)=ts.take i++[a]:=by rw[Dz,ha];rfl
    exact⟨e,r,.inl ⟨_,_,_,rfl,m,p,by rw[t,Bx];rfl⟩⟩)
 obtain⟨h,rfl⟩:=h;rw[n _ h,Ac,Cp] at l;exact l
theorem zipW_map {α:Type} (f g:α->W):∀L:List α,zipW (L.map f) (L.map g)=L.map λa=>.tup [f a,g a]
 |[]=>rfl
 | a::L=>by
  show W.tup [f a,g a]::zipW (L.map f) (L.map g)=_;rw[zipW_map f g L];rfl
theorem ybt (as:List Int):eqD (.tup (as.map W.int)) (.tup (as.map W.int))=Za Zd:=by
 have d:dWs (as.map W.int)=Za (as.map .int):=zkx W.int .int (λ_=>by rw[dW]) as;have l:(PyData.tuple (as.map .int)).canLay0=Zd:=by rw[PyData.canLay0];exact zef _ _ λn h=>by rw[PyData.canLay0]
 have b:=zgh (c:=0) PyData.int as λn h=>by rw[PyData.depth];exact Af _
 have a:(PyData.tuple (as.map .int)).depth<=100:=by rw[PyData.depth];symm
 unfold eqD;rw[dW,d];show (if (PyData.tuple (as.map .int)).canLay0&&(PyData.tuple (as.map .int)).canLay0&&decide ((PyData.tuple (as.map .int)).depth<=100) then Za (PyData.eqv (.tuple (as.map .int)) (.tuple (as.map .int))) else Zb)=_;rw[l,Ag a,SeqAt.eqv_refl _ l];rfl
theorem yc0 (as:List Int):oNe (.tup (as.map W.int)) (.tup (as.map W.int))=Za #v[3,8]:=by
 show (eqD _ _).bind _=_;rw[ybt as];rfl
noncomputable def zlc (Φ:Fn):Prop:=∀m t r:Nat,Φ [kdW m t,kdW m r]=Za ([kdW m t,kdW m r],(.bl (decide (t<=r)),Zc))
theorem z1p (Ψ:Str->Fn):zlc (zad [Zc,Zc] 2 (zdj Ψ)):=λm t r=>by
 have i:∀t:Nat,atI #v[6,11] 0=Za (.int (m:Nat)):=λ_=>rfl;have b:∀t:Nat,atI #v[6,11] 1=Za (.int (t:Nat)):=λ_=>rfl;have d:decide ((m:Int)=(m:Int))=Zd:=Ag rfl;have a:decide ((t:Int)<=(r:Int))=decide (t<=r):=decide_eq_decide.mpr #v[];unfold zdj kdW;simp! [i,b,d,a]
noncomputable def z44 (Φ:Fn):Prop:=∀a b:Nat,Φ #v[9,16]=Za (#v[9,16],(.int ((a &&& b:Nat):Int),Zc))
theorem yc4 {m t s u v:Nat}(a:m<=6)(c:Cd m t u)(d:Cd m s v):Cd m (min m (t+s)) (u &&& v):=by
 have lt:u &&& v<2^2^m:=Gk Nat.and_le_left c.lt;by_cases h:t+s<=m
 ·rw[Nat.min_eq_right h];exact z7z lt (z5j a h (z9b c) (z9b d)) λp _=>Nat.testBit_and ..
 ·rw[Nat.min_eq_left #v[]];exact z7z lt (ydk _ a) λp _=>rfl
theorem yhf {m t r u:Nat}(h:t<=r)(c:Cd m t u):Cd m r u:=⟨c.lt,λq a e=>Cm (c.dg q a e) h⟩
theorem c1_r {Ψ:Str->Fn}{α:Type}{v0 v1 v2 v3 v5 v6 v7 v9 v10 v11:OW}{L:List α}{b:Bool}(f g:α->Int)(i:L.length<=64):zdx Ψ [v0,v1,v2,v3,#v[((L.map f).map W.int),1],v5,v6,v7,Za (.lst ((L.map g).map W.int),b),v9,v10,v11]=Za ([v0,v1,v2,v3,#v[((L.map f).map W.int),1],v5,v6,v7,#v[((L.map g).map W.int),1],v9,v10,v11],(.lst ((L.map λp=>(f p+g p)%2).map W.int),Zd)):=by
 unfold zdx;rw[Ca,Ca,Ca];refine zfu (λc=>∃u d a,c=[u,d,a]) (ts:=L) (λp=>.tup [(W.int ∘ f) p,(W.int ∘ g) p]) (W.int ∘ λp=>(f p+g p)%2) ?_ #v[] rfl ⟨_,_,_,rfl⟩ (λc ⟨_,_,_,e⟩=>by rw[e];rfl) λc p h _=>?_
 ·rw[<- zipW_map];generalize L.map (W.int ∘ f)=A;generalize L.map (W.int ∘ g)=B;cases b<;>rfl
 ·obtain⟨u,d,a,rfl⟩:=h;refine⟨[u,#v[(f p),0],#v[(g p),0]],[u,#v[(f p),0],#v[(g p),0]],Zc,rfl,?_,_,_,_,rfl⟩;show _=Za ([u,#v[(f p),0],#v[(g p),0]],(W.int ((f p+g p)%2),Zc))
  simp_arith []
theorem c3_r {Ψ:Str->Fn}(hW:zlc (Ψ "is_within")){v0 v2 v4 v5 v6 v7 v8 v9 v10 v11:OW}{m t:Nat}(d:t<=64):zdf Ψ #v[8,17]=Za (#v[8,17],(.lst ((List.range t).map λ_=>W.bl Zc),Zd)):=by
 have i:atI #v[6,11] 1=Za (.int (t:Nat)):=rfl;unfold zdf;refine zfu (λc=>∃u a,c=[u,a,#v[kdW m t,6],#v[(m:Nat),0]]) (λr:Nat=>W.int (r:Nat)) (λ_=>W.bl Zc) (ts:=List.range t) (by rw[<-zj0];exact ze0 (n:=t) (by unfold kdW;simp! [i]) #v[]) (by rw[Be];symm) rfl ⟨_,_,rfl⟩ (λc ⟨_,_,e⟩=>by rw[e];rfl) λc r b h=>?_;obtain⟨u,a,rfl⟩:=b;have e:=hW m t r;rw[At (by have:=Az.mp h;symm)] at e;refine⟨[u,#v[(r:Nat),0],#v[kdW m t,6],#v[(m:Nat),0]],[u,#v[(r:Nat),0],#v[kdW m t,6],#v[(m:Nat),0]],Zc,rfl,?_,_,_,rfl⟩;show _=Za ([u,#v[(r:Nat),0],#v[kdW m t,6],#v[(m:Nat),0]],(W.bl Zc,Zc));unfold kdW at *
 simp! [e]
theorem l2_r {Ψ:Str->Fn}(hW:zlc (Ψ "is_within"))(hN:InN (Ψ "is_in")){m t u:Nat}{v0 v2 v4 v5 v7 v8 v9 v10 v11:OW}(n:m<=6)(q:t<=m)(c:Cd m t u):∃w11,zda Ψ #v[5,11]=Za (#v[0,16],.nx):=by
 have g:atI #v[6,11] 1=Za (.int (t:Nat)):=rfl;have d:zby (t:Int)=Zd:=by
  unfold zby;rw[Ag #v[],Ag #v[]];rfl
 have r:zby ((m:Int)+1)=Zd:=by
  unfold zby;rw[Ag #v[],Ag #v[]];rfl
 have k:=z7w;unfold zda;obtain⟨o,h,w11,rfl⟩:=zbv (mp:=[0]) (T:=.nm 11) (body:=zdq Ψ) (λi e=>∃w11,e=#v[0,16]) (z6t (as:=gCns #v[1,12] #v[6,20]) (en:=#v[5,11]) (e1:=#v[5,11]) (xs:=[.inl (.int (t:Nat)),.inl (.int ((m:Int)+1))]) (i:=(t:Int)) (j:=(m:Int)+1) (by unfold kdW;simp! [g]) rfl d r) ⟨_,rfl⟩ λi x e f p=>by
  obtain⟨w11,rfl⟩:=p;obtain⟨s,rfl⟩:=zb3 f;have l:(t:Int)+(i:Int)=((t+i:Nat):Int):=by symm
  have a:=hN m (t+i) u n (yhf #v[] c);have b:=hW m t (t+i);rw[Ag #v[]] at b;rw[l];refine⟨_,[v0,#v[kdW m t,6],v2,#v[(m:Nat),0],v4,v5,#v[(u:Nat),0],v7,v8,v9,v10,#v[((t+i:Nat):Int),0]],rfl,.inl ?_,_,rfl⟩;have a:Ψ "is_in" [.tup [.int (m:Nat),.int ((t+i:Nat):Int)],.int (u:Nat)]=Za ([.tup [.int (m:Nat),.int ((t+i:Nat):Int)],.int (u:Nat)],#v[9,8]):=a;have b:Ψ "is_within" [kdW m t,.tup [.int (m:Nat),.int ((t+i:Nat):Int)]]=Za ([kdW m t,.tup [.int (m:Nat),.int ((t+i:Nat):Int)]],#v[9,8]):=b;clear f d r g;generalize kdW m t=K at *
  generalize ((t+i:Nat):Int)=z at *
  generalize ((u:Nat):Int)=y at *
  unfold zdq;simp! [a,b,k,Fw]
 exact⟨w11,h⟩
structure RFns (Ψ:Str->Fn):Prop where
 hB:zvd (Ψ "_law_bits")
 hT:zcz (Ψ "terms")
 hW:zzp (Ψ "word_with")
 hD:DigN (Ψ "digits_of")
 hI:ye4 (Ψ "is_word")
 hN:InN (Ψ "is_in")
 hX:XorN (Ψ "plus")
 hA:z44 (Ψ "times")
 hH:zlc (Ψ "is_within")
 hR:zri (Ψ "_law_turned_right")
theorem yh8 (t:Nat):oBl (λbs=>bs.any id) [.lst ((List.range t).map λ_=>W.bl Zc)]=Za #v[3,8]:=by
 show ((blsOf ((List.range t).map λ_=>W.bl Zc)).bind λbs=>#v[W.bl (bs.any id),6])=_;rw[show (List.range t).map (λ_=>W.bl Zc)=((List.range t).map λ_=>Zc).map W.bl from Ca.symm,zd1];show Za (W.bl (((List.range t).map λ_=>Zc).any id),Zc)=_;rw[List.any_eq_false.mpr λb h=>by
  obtain⟨_,_,rfl⟩:=Bd.mp h;exact Ah]
noncomputable def z6j (Φ:Fn):Prop:=∀(k m t s:Nat) (b:W),HS k b->k+500<big->1<=m->m<=6->t<=m->s<=m->∃a,Φ [b,kdW m t,kdW m s]=Za ([a,kdW m t,kdW m s],#v[9,8])/\HS (k+220) a
theorem z3n {Ψ:Str->Fn}(F:RFns Ψ):z6j (zad [Zd,Zc,Zc] 12 (zcv Ψ)):=λk m t s st hs hk j h l q=>by
 have tm:=F.hT m t j h l;have sm:=F.hT m s j h q;have tl:=(zcl h (show t<=6 by symm)).1;have sl:=(zcl h (show s<=6 by symm)).1;obtain⟨U,g,e,g1,l1,b1⟩:=F.hB k st ((zab m t).length:Nat) hs #v[] (Et _) #v[];obtain⟨d,E,e2,g2,l2,b2⟩:=F.hB (k+66) U ((zab m s).length:Nat) g1 #v[] (Et _) #v[];obtain⟨u,e3,i,S⟩:=F.hW m t g j h l #v[] b1;obtain⟨v,e4,cv,_⟩:=F.hW m s E j h q #v[] b2;obtain⟨st3,A,e5,g3,l3,b3⟩:=F.hB (k+132) d (g.length:Nat) g2 #v[] (Et _) #v[];obtain⟨w,e6,cw,dw⟩:=F.hW m t A j h l #v[] b3;have cb:=z6n i cw;have e7:=F.hX u w;have Q:=F.hD m t u j h l i;have e9:=F.hI m u h i.lt;have H:=F.hN m t u h i;have I:=F.hN m t (u ^^^ w) h cb;have C:=F.hD m t (u ^^^ w) j h l cb;have P:=F.hA u v;have B:=F.hN m (min m (t+s)) (u &&& v) h (yc4 h i cv);have p:=λM a f=>c1_r (Ψ:=Ψ) (v0:=#v[st3,5]) (v1:=#v[kdW m t,6]) (v2:=#v[kdW m s,6]) (v3:=#v[(m:Nat),0]) (v5:=#v[(E.map W.int),2]) (v6:=#v[(u:Nat),0]) (v7:=#v[(v:Nat),0]) (v9:=M) (v10:=a) (v11:=f) (L:=zab m t) (b:=Zd) (λT=>zam (bitN u) (zao T)) (λT=>zam (bitN w) (zao T)) tl;have dx:(zab m t).map (λT=>zam (bitN u) (zao T))=g:=S;have dz:(zab m t).map (λT=>zam (bitN w) (zao T))=A:=dw;rw[dx,dz,<-dg_x] at p;rw[S] at Q;have n1:=yc0 g;have n2:=yc0 (DG m t (u ^^^ w));obtain⟨o,n⟩:=l2_r (Ψ:=Ψ) F.hH F.hN (v0:=#v[st3,5]) (v2:=#v[kdW m s,6]) (v4:=#v[(g.map W.int),1]) (v5:=#v[(E.map W.int),2]) (v7:=#v[(v:Nat),0]) (v8:=#v[(A.map W.int),1]) (v9:=#v[((u ^^^ w:Nat):Int),0]) (v10:=#v[((DG m t (u ^^^ w)).map W.int),3]) (v11:=Zb) h l i;have O:=c3_r (Ψ:=Ψ) F.hH (v0:=#v[st3,5]) (v2:=#v[kdW m s,6]) (v4:=#v[(g.map W.int),1]) (v5:=#v[(E.map W.int),2]) (v6:=#v[(u:Nat),0]) (v7:=#v[(v:Nat),0]) (v8:=#v[(A.map W.int),1]) (v9:=#v[((u ^^^ w:Nat):Int),0]) (v10:=#v[((DG m t (u ^^^ w)).map W.int),3]) (v11:=o) (m:=m) (show t<=64 by symm);have af:=yh8 t;obtain⟨r,J,g4⟩:=F.hR (k+198) m t u st3 g3 #v[] j h l i;have lt1:((zab m t).map tmW).length=(zab m t).length:=Ac ..;have lt2:((zab m s).map tmW).length=(zab m s).length:=Ac ..;have lx:(g.map W.int).length=g.length:=Ac ..;have K:∀L:List W,zan [.lst L]=#v[L,3]:=λ_=>rfl;have mn:oMin [.int (m:Nat),.int ((t:Int)+(s:Int))]=#v[((min m (t+s):Nat):Int),0]:=by
  show Za (W.int (if (t:Int)+(s:Int)<(m:Int) then ((t:Int)+(s:Int)) else (m:Int)),Zc)=_;by_cases c:(t:Int)+(s:Int)<(m:Int)
  ·rw[if_pos c,Nat.min_eq_right #v[],Int.natCast_add]
  ·rw[if_neg c,Nat.min_eq_left #v[]]
 have i0:atI #v[6,11] 0=Za (.int (m:Nat)):=rfl;have i1:atI #v[6,11] 1=Za (.int (t:Nat)):=rfl;have i2:atI [W.int (m:Nat),W.int (s:Nat)] 1=Za (.int (s:Nat)):=rfl;have tt:=z7w;have p:=p (#v[((u ^^^ w:Nat):Int),0]) Zb Zb;refine⟨r,?_,g4.mono #v[]⟩;clear F S dw dx dz l1 l2 l3 b1 b2 b3 i cv cw cb hs g1 g2 g3 tl sl;have N:kdW m t=.tup #v[5,8]:=rfl;have R:kdW m s=.tup #v[9,13]:=rfl;have km:kdW m (min m (t+s))=.tup [.int (m:Nat),.int ((min m (t+s):Nat):Int)]:=rfl;rw[N] at tm e3 e6 Q H I C J p n O;rw[R] at sm e4 p n O;rw[km] at B;rw[N,R];clear N R km;generalize (zab m t).map tmW=TT at *
 generalize (zab m s).map tmW=TS at *
 generalize (zab m t).length=nt at *
 generalize (zab m s).length=ns at *
 generalize hX:g.map W.int=X at *
 generalize E.map W.int=Y at *
 generalize A.map W.int=Z at *
 generalize (DG m t (u ^^^ w)).map W.int=D at *
 generalize ((u ^^^ w:Nat):Int)=x at *
 generalize ((u &&& v:Nat):Int)=y at *
 generalize ((min m (t+s):Nat):Int)=z at *
 generalize (List.range t).map (λ_=>W.bl Zc)=FF at *
 unfold zcv;refine zat (en:=[#v[r,5],#v[#v[5,8],3],#v[#v[9,13],3],#v[(m:Nat),0],#v[X,1],#v[Y,2],#v[(u:Nat),0],#v[(v:Nat),0],#v[Z,1],#v[x,0],#v[D,3],o]) rfl (seq_e (e1:=[#v[st,5],#v[#v[5,8],3],#v[#v[9,13],3],#v[(m:Nat),0],Zb,Zb,Zb,Zb,Zb,Zb,Zb,Zb]) ?_ (seq_e (e1:=[#v[d,5],#v[#v[5,8],3],#v[#v[9,13],3],#v[(m:Nat),0],#v[X,1],#v[Y,2],Zb,Zb,Zb,Zb,Zb,Zb]) ?_ (seq_e (e1:=[#v[d,5],#v[#v[5,8],3],#v[#v[9,13],3],#v[(m:Nat),0],#v[X,1],#v[Y,2],#v[(u:Nat),0],#v[(v:Nat),0],Zb,Zb,Zb,Zb]) ?_ ?_))) rfl
 ·simp! [i0]
 ·simp! [tm,sm,lt1,lt2,e,e2]
 ·simp! [K,e3,e4]
 ·refine seq_e (e1:=[Za (d,Zd),Za (.tup #v[7,16],Zc),Za (.tup #v[8,16],Zc),Za (.int (m:Nat),Zc),Za (.lst X,Zc),Za (.lst Y,Zd),Za (.int (u:Nat),Zc),Za (.int (v:Nat),Zc),Zb,Zb,Zb,Zb]) ?_ (seq_e (e1:=[Za (st3,Zd),Za (.tup #v[7,16],Zc),Za (.tup #v[8,16],Zc),Za (.int (m:Nat),Zc),Za (.lst X,Zc),Za (.lst Y,Zd),Za (.int (u:Nat),Zc),Za (.int (v:Nat),Zc),Za (.lst Z,Zd),Zb,Zb,Zb]) ?_ (seq_e (e1:=[Za (st3,Zd),Za (.tup #v[7,16],Zc),Za (.tup #v[8,16],Zc),Za (.int (m:Nat),Zc),Za (.lst X,Zc),Za (.lst Y,Zd),Za (.int (u:Nat),Zc),Za (.int (v:Nat),Zc),Za (.lst Z,Zd),Za (.int x,Zc),Zb,Zb]) ?_ (seq_e (e1 := #v[4,7]) ?_ (seq_e (e1 := #v[4,7]) ?_ (seq_e (e1 := #v[4,7]) ?_ (seq_e n (seq_e (e1:=[Za (st3,Zd),Za (.tup #v[7,16],Zc),Za (.tup #v[8,16],Zc),Za (.int (m:Nat),Zc),Za (.lst X,Zc),Za (.lst Y,Zd),Za (.int (u:Nat),Zc),Za (.int (v:Nat),Zc),Za (.lst Z,Zc),Za (.int x,Zc),Za (.tup D,Zc),o]) ?_ ?_)))))))
  ·simp! [K,Q,n1,e9,H,tt,Fw,Bool.or_false]
  ·simp! [lx,e5]
  ·simp! [K,e6,e7]
  ·simp! [p,K]
  ·simp! [I,C,n2,Fw,Bool.or_false]
  ·simp! [i1,i2,mn,P,B,Fw]
  ·simp! [O,af]
  ·simp! [J]
theorem zvm (ns:List Int):cntI ns=ns.length↔ns.Nodup:=by
 have e:∀i,i<=ns.length->(List.range i).map (λi=>ns.getD i 0)=ns.take i:=λi k=>by
  refine List.ext_getElem (by rw[Ac,Be,De];symm) λj m f=>?_;rw[List.getElem_map,List.getElem_range,List.getElem_take,Au,Ab (by rw[De] at f;symm)];rfl
 have key:∀i,i<=ns.length->((firstMet (λi=>ns.getD i 0) i).length=i↔(ns.take i).Nodup):=by
  intro i
  induction i with
  |zero=>intro _;exact⟨λ_=>by rw[Dy];exact List.nodup_nil,λ_=>rfl⟩
  | succ i b =>
   intro k;have b:=b (by symm);have le:=firstMet_length_le (λi=>ns.getD i 0) i;have d:=firstMet_any (λi=>ns.getD i 0) i (ns.getD i 0);rw [e i (by symm)] at d;have t:ns.take (i+1)=ns.take i++[ns.getD i 0]:=by
    rw[Dz,Ab #v[],Au,Ab #v[]];rfl
   rw[firstMet_succ,step_length,d,t,List.nodup_append];by_cases c:(ns.take i).any (· == ns.getD i 0)=Zd
   ·rw [if_pos c]
    refine⟨λz=>by symm,λz=>?_⟩;obtain⟨x,h,l⟩:=Gd.mp c;exact absurd (Bp l) (z.2.2 x h _ (As.mpr rfl))
   ·rw [if_neg c]
    refine⟨λz=>⟨b.mp #v[],by simp,λx h y g a=>c ?_⟩,λz=>by have:=b.mpr z.1;symm⟩;rw[As.mp g] at a;exact Gd.mpr ⟨x,h,by rw[a];exact beq_self_eq_true _⟩
 have:=key ns.length (Af _);rw[Cp] at this;exact this
noncomputable def KL:List (Nat×Nat):=[(1,0),(1,1),(2,0),(2,1),(2,2),(3,0),(3,1),(3,2),(3,3),(4,0),(4,1),(4,2),(5,1),(6,1)]
theorem z7l:∀p∈KL,1<=p.1/\p.1<=6/\p.2<=p.1/\(zab p.1 p.2).length<=11:=by decide +kernel
noncomputable def co (m t w j:Nat):Int:=(DG m t w).getD j 0
theorem z23 {m t w j:Nat}(h:j<(zab m t).length):co m t w j=zam (bitN w) (zao (zab m t)[j]):=by
 unfold co DG;rw[Au,Ak,Ab h];rfl
theorem co_x {m t a b j:Nat}(h:j<(zab m t).length):co m t (a ^^^ b) j=(co m t a j+co m t b j)%2:=by
 rw[z23 h,z23 h,z23 h,zc9 (g:=λq=>(bitN a q+bitN b q)%2) λq _=>z9t a b q,zk5]
theorem co_0 {m t j:Nat}(h:j<(zab m t).length):co m t 0 j=0:=by
 have x:=co_x (m:=m) (t:=t) (a:=0) (b:=0) h;rw[Cw] at x;have:=coef_bit (bitN 0) (zao (zab m t)[j]);rw[<-z23 h] at this;rcases this with e|e
 ·exact e
 ·rw[e] at x;exact absurd x #v[0,9]
theorem cd_0 (m t:Nat):Cd m t 0:=⟨Dl #v[0,9],zb7 (λp _=>by unfold bJ bitN;rw[Cg]) (zfc m t)⟩
noncomputable def unt (n k:Nat):List Int:=(List.range n).map λj=>if j=k then 1 else 0
theorem yal (n k:Nat):(unt n k).length=n:=by unfold unt;rw[Ac,Be]
theorem z4p (n k:Nat):Bits (unt n k):=λx h=>by
 unfold unt at h;obtain⟨j,_,rfl⟩:=Bd.mp h;by_cases c:j=k
 ·rw[if_pos c];exact .inr rfl
 ·rw[if_neg c];exact .inl rfl
theorem ydd {n k j:Nat}(h:j<n):(unt n k).getD j 0=if j=k then 1 else 0:=by
 unfold unt;rw[Au,Ak,Ab (by rw[Be];exact h),List.getElem_range]
 rfl
structure Wk (m t i:Nat) (L:List Nat):Prop where
 len:L.length=2^i
 nd:L.Nodup
 cd:∀w∈L,Cd m t w
 no:∀w∈L,∀j,i<=j->j<(zab m t).length->co m t w j=0
theorem wk_0 (m t:Nat):Wk m t 0 [0]:=⟨rfl,Bt.mpr ⟨Br,List.nodup_nil⟩,λw h=>by rw[As.mp h];exact cd_0 m t,λw h j _ a=>by rw[As.mp h];exact co_0 a⟩
theorem z8l {m t i u:Nat}{L:List Nat}(h:Wk m t i L)(k:i<(zab m t).length)(c:Cd m t u)(d:DG m t u=unt (zab m t).length i):Wk m t (i+1) (L++L.map (· ^^^ u)):=by
 have n:∀j,j<(zab m t).length->co m t u j=if j=i then 1 else 0:=λj q=>by unfold co;rw[d,ydd q]
 have p:∀w∈L,co m t (w ^^^ u) i=1:=λw f=>by rw[co_x k,h.no w f i (Af i) k,n i k,if_pos rfl];rfl
 refine⟨by rw[Bb,Ac,h.len,Nat.pow_succ];symm,?_,λw f=>?_,λw f j s g=>?_⟩
 ·refine List.nodup_append.mpr ⟨h.nd, ?_,λa r b o e => ?_⟩
  ·rw[Bw,Cy];refine (Bw.mp h.nd).imp λ{a b} ne e=>ne ?_;have:=congrArg (· ^^^ u) e;simpa only [Bk,Cw,Bv] using this
  ·obtain⟨w,f,rfl⟩:=Bd.mp o;have:=p w f;rw[<-e,h.no a r i (Af i) k] at this;cases this
 ·rcases Bh.mp f with f|f
  ·exact h.cd w f
  ·obtain⟨x,l,rfl⟩:=Bd.mp f;exact z6n (h.cd x l) c
 ·rcases Bh.mp f with f|f
  ·exact h.no w f j #v[] g
  ·obtain⟨x,l,rfl⟩:=Bd.mp f;rw[co_x g,h.no x l j #v[] g,n j g,if_neg #v[]];rfl
theorem c1_w {Ψ:Str->Fn}(hT:zcz (Ψ "terms")){m t k:Nat}{v0 v1 v3 v5:OW}(g:1<=m)(h:m<=6)(b:t<=m):zbg Ψ #v[0,21]=Za (#v[0,21],(.lst ((unt (zab m t).length k).map W.int),Zd)):=by
 have l:=(zcl h (show t<=6 by symm)).1;have f:=hT m t g h b;have lt:((zab m t).map tmW).length=(zab m t).length:=Ac ..;generalize (zab m t).map tmW=TT at *
 generalize (zab m t).length=n at *
 unfold zbg unt;rw[Ca];refine zfu (λc=>∃u a,c=[u,a,#v[(k:Nat),0]]) (λj:Nat=>W.int (j:Nat)) (W.int ∘ λj=>if j=k then 1 else 0) (ts:=List.range n) (by
  rw[<-zj0];refine ze0 (n:=n) ?_ #v[];rw[<-lt];generalize kdW m t=K at *
  simp! [f]) (by rw[Be];symm) rfl ⟨_,_,rfl⟩ (λc ⟨_,_,e⟩=>by rw[e];rfl) λc j i _=>?_
 obtain⟨u,a,rfl⟩:=i;refine⟨[u,#v[(j:Nat),0],#v[(k:Nat),0]],[u,#v[(j:Nat),0],#v[(k:Nat),0]],Zc,rfl,?_,_,_,rfl⟩;show _=Za ([u,#v[(j:Nat),0],#v[(k:Nat),0]],(W.int (if j=k then 1 else 0),Zc));by_cases c:j=k
 ·have o:oInt [.bl Zd]=Za (.int 1,Zc):=rfl;have d:decide ((j:Int)=(k:Int))=Zd:=Ag #v[];rw[if_pos c];simp! [d,o]
 ·have o:oInt [.bl Zc]=Za (.int 0,Zc):=rfl;have d:decide ((j:Int)=(k:Int))=Zc:=At #v[];rw[if_neg c];simp! [d,o]
theorem c2_w {Ψ:Str->Fn}(hX:XorN (Ψ "plus")){v0 v1 v2 v4:OW}{L:List Nat}{u:Nat}{b:Bool}(h:L.length<=100000):zbf Ψ [v0,v1,v2,Za (.lst (castL L),b),v4,#v[(u:Nat),0]]=Za ([v0,v1,v2,#v[(castL L),1],v4,#v[(u:Nat),0]],(.lst (castL (L.map (· ^^^ u))),Zd)):=by
 unfold zbf castL;rw[Ca];refine zfu (λc=>∃a d,c=[a,d,#v[(u:Nat),0]]) (λp:Nat=>W.int (p:Nat)) ((λp:Nat=>W.int (p:Nat)) ∘ λx=>x ^^^ u) (ts:=L) (by cases b<;>rfl) h rfl ⟨_,_,rfl⟩ (λc ⟨_,_,e⟩=>by rw[e];rfl) λc p f _=>?_;obtain⟨a,d,rfl⟩:=f;have x:=hX p u;refine⟨[a,#v[(p:Nat),0],#v[(u:Nat),0]],[a,#v[(p:Nat),0],#v[(u:Nat),0]],Zc,rfl,?_,_,_,rfl⟩;show _=Za ([a,#v[(p:Nat),0],#v[(u:Nat),0]],(W.int ((p ^^^ u:Nat):Int),Zc))
 simp_arith [x]
theorem b3_w {Ψ:Str->Fn}(hT:zcz (Ψ "terms"))(hW:zzp (Ψ "word_with"))(hX:XorN (Ψ "plus")){m t i:Nat}{L:List Nat}{v0 v1 v5:OW}(d:1<=m)(c:m<=6)(a:t<=m)(n:(zab m t).length<=11)(q:i<(zab m t).length)(h:Wk m t i L):∃(f:List Nat) (w:OW),zar Ψ [v0,v1,#v[kdW m t,6],#v[(castL L),2],#v[(i:Nat),0],v5]=Za ([v0,v1,#v[kdW m t,6],#v[(castL f),2],#v[(i:Nat),0],w],.nx)/\Wk m t (i+1) f:=by
 obtain⟨u,e,p,r⟩:=hW m t (unt (zab m t).length i) d c a (yal _ _).symm (z4p _ _);have j:=c1_w (Ψ:=Ψ) hT (k:=i) (v0:=v0) (v1:=v1) (v3:=#v[(castL L),2]) (v5:=v5) d c a;have l:2^i<=2^11:=Bj #v[0,9] #v[];have y:L.length<=2048:=by rw[h.len];exact l
 have x:(16777216:Nat)=sizeLine:=Ic.symm;have g:=c2_w (Ψ:=Ψ) hX (v0:=v0) (v1:=v1) (v2:=#v[kdW m t,6]) (v4:=#v[(i:Nat),0]) (L:=L) (u:=u) (b:=Zd) #v[];have s:oAdd (.lst (castL L)) (.lst (castL (L.map (· ^^^ u))))=#v[(castL (L++L.map (· ^^^ u))),2]:=by
  rw[zd8];exact zjz (by rw[zaf,zaf,Ac];symm)
 refine⟨L++L.map (· ^^^ u),#v[(u:Nat),0],?_,z8l h q p r⟩;have o:∀L:List W,zan [.lst L]=#v[L,3]:=λ_=>rfl;generalize (unt (zab m t).length i).map W.int=U at *
 generalize castL (L++L.map (· ^^^ u))=A at *
 generalize castL (L.map (· ^^^ u))=B at *
 generalize castL L=C at *
 generalize kdW m t=K at *
 unfold zar;refine seq_e (e1:=[v0,v1,#v[K,6],#v[C,2],#v[(i:Nat),0],#v[(u:Nat),0]]) ?_ ?_
 ·simp! [j,o,e]
 ·simp! [g,s]
noncomputable def HowN (Φ:Fn):Prop:=∀m t:Nat,1<=m->m<=6->t<=m->Φ [kdW m t]=Za ([kdW m t],(.int ((2^(zab m t).length:Nat):Int),Zc))
theorem yif {Ψ:Str->Fn}(hT:zcz (Ψ "terms")):HowN (zad [Zc] 1 (zeg Ψ)):=λm t c h a=>by
 have b:=hT m t c h a;have d:=(zcl h (show t<=6 by symm)).1;have lt:((zab m t).map tmW).length=(zab m t).length:=Ac ..;have q:=pow1 (l:=(zab m t).length) #v[];generalize (zab m t).map tmW=TT at *
 generalize (zab m t).length=n at *
 generalize kdW m t=K at *
 unfold zeg;simp! [b,lt,q,za1]
theorem c4_w {Ψ:Str->Fn}(hN:InN (Ψ "is_in")){m t:Nat}{L:List Nat}{v0 v1 v4 v5:OW}(n:m<=6)(I:L.length<=2048)(D:∀w∈L,Cd m t w):∃(F:List W),C4__law_walked_right Ψ #v[8,12]=Za (#v[8,12],(.lst F,Zd))/\oBl (λbs=>bs.all id) [.lst F]=Za #v[9,8]:=by
 have J:(16777216:Nat)=sizeLine:=Ic.symm;have o:∃M:List Nat,zap #v[7,13] #v[8,12]=Za (#v[8,12],castL M)/\M.length<=100000/\∀w∈M,w∈L:=by
  have a:∀l d:Option Int,∃M:List Nat,cutW (castL L) l d=castL M/\M.length<=2048/\∀w∈M,w∈L:=λl d=>by
   refine⟨(L.drop (HT.sIx (castL L).length 0 l)).take (HT.sIx (castL L).length (castL L).length d-HT.sIx (castL L).length 0 l),?_,?_,λw h=>List.mem_of_mem_drop (List.mem_of_mem_take h)⟩
   ·unfold cutW castL;rw[List.map_take,List.map_drop]
   ·rw[De,Gz];symm
  obtain⟨A,q,O,k⟩:=a Zb (Za 40);obtain⟨B,j,N,E⟩:=a (Za (-20)) Zb;have s:oSl (.lst (castL L)) Zb (Za 40)=#v[(castL A),2]:=by rw[<-q];rfl
  have z:oSl (.lst (castL L)) (Za (-20)) Zb=#v[(castL B),2]:=by rw[<-j];rfl
  have H:oAdd (.lst (castL A)) (.lst (castL B))=#v[(castL (A++B)),2]:=by
   rw[zd8];exact zjz (by rw[zaf,zaf];symm)
  refine⟨A++B,?_,by rw[Bb];symm,λw h=>(Bh.mp h).elim (k w) (E w)⟩;generalize castL (A++B)=X at *
  generalize castL L=C at *
  generalize castL A=P at *
  generalize castL B=Q at *
  have x:oNeg (.int 20)=#v[(-20),0]:=rfl
  simp_arith [s,z,H,x]
 obtain⟨M,i,y,g⟩:=o;refine⟨M.map λ_=>W.bl Zd,?_,?_⟩
 ·unfold C4__law_walked_right;unfold castL at i;refine zfu (λc=>∃u f,c=[u,f,#v[kdW m t,6]]) (λp:Nat=>W.int (p:Nat)) (λ_=>W.bl Zd) (ts:=M) i y rfl ⟨_,_,rfl⟩ (λc ⟨_,_,e⟩=>by rw[e];rfl) λc p b r=>?_;obtain⟨u,f,rfl⟩:=b;have e:=hN m t p n (D p (g p r));refine⟨[u,#v[(p:Nat),0],#v[kdW m t,6]],[u,#v[(p:Nat),0],#v[kdW m t,6]],Zc,rfl,?_,_,_,rfl⟩;show _=Za ([u,#v[(p:Nat),0],#v[kdW m t,6]],(W.bl Zd,Zc));generalize kdW m t=K at *
  simp_arith [e]
 ·show ((blsOf (M.map λ_=>W.bl Zd)).bind λbs=>Za (W.bl (bs.all id),Zc))=_;rw[show M.map (λ_=>W.bl Zd)=(M.map λ_=>Zd).map W.bl from Ca.symm,zd1,List.map_const'];show #v[W.bl ((List.replicate _ Zd).all id),6]=_;rw[zr4]
noncomputable def z6i (Φ:Fn):Prop:=∀(k:Nat) (a:W),HS k a->k+100<big->∃s,Φ [a]=Za ([s],#v[9,8])/\HS (k+1) s
noncomputable def klW:List W:=KL.map λp=>kdW p.1 p.2
theorem z9c {Ψ:Str->Fn}(hK:zgr (Ψ "_law_take"))(hT:zcz (Ψ "terms"))(hW:zzp (Ψ "word_with"))(hX:XorN (Ψ "plus"))(hN:InN (Ψ "is_in"))(hH:HowN (Ψ "how_many")):z6i (zad [Zd] 6 (zax Ψ)):=λk s M hk=>by
 have s9:(16777216:Nat)=sizeLine:=Ic.symm;obtain⟨st1,r,b,P,r0,r1⟩:=hK k s 14 M #v[] #v[0,9] #v[0,9];obtain⟨r,rfl⟩:=Eg r0;have z:r<KL.length:=by show r<14;symm
 have I:∃m t,atI klW (r:Nat)=Za (kdW m t)/\1<=m/\m<=6/\t<=m/\(zab m t).length<=11:=by
  have:=z7l KL[r] (Ff z);exact⟨KL[r].1,KL[r].2,zbk (by unfold klW;rw[Ak,Ab z];rfl),this⟩
 obtain⟨m,t,E,j,f,g,c⟩:=I;have D:=hT m t j f g;have X:=hH m t j f g;have lt:((zab m t).map tmW).length=(zab m t).length:=Ac ..;have l:∃(L:List Nat) (w4 w5:OW),zbh Ψ #v[6,10]=Za (#v[6,8],.nx)/\Wk m t (zab m t).length L:=by
  unfold zbh;obtain⟨J,h,L,w4,w5,rfl,wk⟩:=zbv (mp:=[0]) (T:=.nm 4) (body:=zar Ψ) (λi e=>∃(L:List Nat) (w4 w5:OW),e=#v[6,8]/\Wk m t i L) (ze0 (n:=(zab m t).length) (a:=gArg #v[2,9]) (en:=#v[6,10]) (e1:=#v[6,10]) (by
   rw[<-lt];generalize (zab m t).map tmW=TT at *
   generalize kdW m t=K at *
   generalize klW=y at *
   simp! [D]) #v[]) ⟨[0],Zb,Zb,rfl,wk_0 m t⟩ λi x e U O=>by
   obtain⟨L,w4,w5,rfl,wk⟩:=O;obtain⟨Q,rfl⟩:=zb3 U;obtain⟨Z,q,A,w⟩:=b3_w (v0:=#v[st1,5]) (v1:=#v[klW,2]) (v5:=w5) hT hW hX j f g c Q wk;have B:(0:Int)+(i:Int)=(i:Int):=Fp _;rw[B];exact⟨[#v[st1,5],#v[klW,2],#v[kdW m t,6],#v[(castL L),2],#v[(i:Nat),0],w5],_,rfl,.inl A,Z,#v[(i:Nat),0],q,rfl,w⟩
  rw[show (rngW 0 (zab m t).length).length=(zab m t).length from by unfold rngW;rw[Ac,Be]] at wk;exact⟨L,w4,w5,h,wk⟩
 obtain⟨L,w4,w5,l,wk⟩:=l;have o:2^(zab m t).length<=2^11:=Bj #v[0,9] c;have ll:L.length<=2048:=by rw[wk.len];exact o
 obtain⟨F,c4,R⟩:=c4_w (Ψ:=Ψ) hN (v0:=#v[st1,5]) (v1:=#v[klW,2]) (v4:=w4) (v5:=w5) f ll wk.cd;have Y:cntI (L.map λp:Nat=>(p:Int))=L.length:=by
  rw[(zvm _).mpr ?_,Ac];rw[Bw,Cy];exact (Bw.mp wk.nd).imp λne e=>ne (Int.ofNat.inj e)
 have u:ztq #v[0,18] #v[6,8]=Za (#v[6,8],(.int (L.length:Nat),Zc)):=by
  have:=z61 (as:=gCns (zaa 3) gA0) (en:=#v[6,8]) (e1:=#v[6,8]) (xs:=[.inr 3]) (ns:=L.map λp:Nat=>(p:Int)) rfl (by rw[<-zqm];rfl) (by rw[Ac];symm);rw[Y] at this;exact this
 rw[wk.len] at u;have H:(castL L).length=2^(zab m t).length:=by rw[zaf,wk.len]
 have d:decide (((2^(zab m t).length:Nat):Int)=((2^(zab m t).length:Nat):Int))=Zd:=Ag rfl;generalize (2^(zab m t).length:Nat)=N at *
 refine⟨st1,?_,P⟩;generalize castL L=C at *
 unfold zax;refine zat (en:=#v[0,19]) rfl (seq_e (e1:=[#v[s,5],#v[(klW.take 12),2],Zb,Zb,Zb,Zb]) rfl (seq_e (e1:=[#v[s,5],#v[klW,2],Zb,Zb,Zb,Zb]) ?_ (seq_e (e1:=[#v[st1,5],#v[klW,2],#v[kdW m t,6],Zb,Zb,Zb]) ?_ (seq_e (e1:=#v[6,10]) rfl (seq_e l (seq_e (e1:=#v[0,19]) ?_ ?_)))))) rfl
 ·rfl
 ·have S:klW.length=14:=rfl;generalize klW=y at *
  generalize kdW m t=K at *
  simp! [S,b,E]
 ·clear l;generalize klW=y at *
  generalize kdW m t=K at *
  simp! [u,X,H,d]
 ·simp! [c4,R]
structure LFns (Ψ:Str->Fn):Prop where
 hM:yc9 (Ψ "_law_many")
 hK:zgr (Ψ "_law_take")
 hR:z6j (Ψ "_law_right")
theorem ye3 {Ψ:Str->Fn}(F:LFns Ψ){k:Nat}{st:W}{v0 v2 v3 v4 v5:OW}(j:HS k st)(y:k+1000<big):∃q:W×OW×OW×OW,zr9 Ψ [v0,#v[st,5],v2,v3,v4,v5]=Za ([v0,#v[q.1,5],v2,q.2.1,q.2.2.1,q.2.2.2],.nx)/\HS (k+300) q.1:=by
 obtain⟨b,m,e,r,i,h⟩:=F.hM k st j #v[];obtain⟨c,t,o,u,f,z⟩:=F.hK (k+2) b ((m:Int)+1) r #v[] #v[] #v[];obtain⟨t,rfl⟩:=Eg f;obtain⟨a,s,p,g,w,x⟩:=F.hK (k+3) c ((m:Int)+1) u #v[] #v[] #v[];obtain⟨s,rfl⟩:=Eg w;obtain⟨d,l,n⟩:=F.hR (k+4) m t s a g #v[] i h #v[] #v[];refine⟨(d,#v[(m:Nat),0],#v[kdW m t,6],#v[kdW m s,6]),?_,n.mono #v[]⟩;unfold kdW at *
 unfold zr9;refine seq_e (e1:=[v0,#v[b,5],v2,#v[(m:Nat),0],v4,v5]) ?_ (seq_e (e1:=[v0,#v[a,5],v2,#v[(m:Nat),0],#v[#v[5,8],3],#v[#v[9,13],3]]) ?_ ?_)
 ·simp! [e]
 ·simp! [o,p]
 ·simp! [l,Fw]
theorem yci {Ψ:Str->Fn}(F:LFns Ψ){st:W}{ns:List Int}(B:ns.length<=63)(p:HS 0 st):∃(s:W) (z u l j:OW) (k:Nat),zwi Ψ #v[2,15]=Za ([Za #v[0,8],#v[s,5],z,u,l,j],.nx)/\HS k s/\k<=3000:=by
 have E:(20000:Nat)<big:=by decide
 have o:∃n:Nat,oMin [.int 5,.int (ns.length:Nat)]=#v[(n:Nat),0]/\n<=5:=by
  by_cases c:(ns.length:Int)<5
  ·exact⟨ns.length,by show Za (W.int (if (ns.length:Int)<5 then _ else _),Zc)=_;rw[if_pos c],by symm⟩
  ·exact⟨5,by show Za (W.int (if (ns.length:Int)<5 then _ else _),Zc)=_;rw[if_neg c];rfl,by symm⟩
 obtain⟨n,o,C⟩:=o;have t:seqW (.frl (ns.map W.int))=Za (ns.map W.int):=rfl;have f:(2:Int)+(n:Int)=((2+n:Nat):Int):=by symm
 unfold zwi;obtain⟨m,h,q,rfl,g⟩:=zbv (mp:=[]) (T:=.nm 2) (body:=zr9 Ψ) (λi e=>∃q:W×OW×OW×OW×OW,e=[Za #v[0,8],#v[q.1,5],q.2.1,q.2.2.1,q.2.2.2.1,q.2.2.2.2]/\HS (300*i) q.1) (ze0 (a:=#v[7,15]) (en:=#v[2,15]) (e1:=#v[2,15]) (n:=2+n) (by simp! [t,Ac,o,f]) #v[]) ⟨(st,Zb,Zb,Zb,Zb),rfl,p⟩ λi w e x r=>by
  obtain⟨q,rfl,g⟩:=r;obtain⟨D,rfl⟩:=zb3 x;obtain⟨b,d,y⟩:=ye3 (Ψ:=Ψ) F (v0:=Za #v[0,8]) (v2:=#v[(0+(i:Int)),0]) (v3:=q.2.2.1) (v4:=q.2.2.2.1) (v5:=q.2.2.2.2) g #v[];exact⟨_,_,rfl,.inl d,(b.1,#v[(0+(i:Int)),0],b.2),rfl,y.mono #v[]⟩
 have A:(rngW 0 (2+n)).length=2+n:=by unfold rngW;rw[Ac,Be]
 rw[A] at g;exact⟨_,_,_,_,_,_,h,g,by symm⟩
theorem z9s {Φ:Fn}(h:z11 Φ):z44 Φ:=λa b=>by
 have e:=h (a:Nat) (b:Nat);rw[band] at e;exact e
theorem z21 (ns:List Int)(z:ns.length<=63):sem T bn 40 "law" [.frl (ns.map W.int)]=Za ([.frl (ns.map W.int)],#v[9,8]):=by
 have M:(20000:Nat)<big:=by decide
 rw[yh7];generalize b:sem T bn 39=Ψ;have hH:z5w (Ψ "_law_hand"):=by rw[<-b,zom];exact yax (sem T bn 0)
 have hK:∀d,zgr (sem T bn (d+3) "_law_take"):=λd=>by rw[zoj];exact ybo (sem T bn 0)
 have e:∀d,zr5 (sem T bn (d+3) "says"):=λd=>by rw[yc6];exact z9u (sem T bn 0)
 have s:∀d,zg9 (sem T bn (d+3) "word_at"):=λd=>by rw[zl8];exact zt9 (sem T bn 0)
 have h:∀d,zog (sem T bn (d+3) "plus"):=λd=>by rw[ycn];exact z9y (sem T bn 0)
 have g:∀d,z11 (sem T bn (d+3) "times"):=λd=>by rw[z9q];exact z31 (sem T bn 0)
 have q:∀d,zg5 (sem T bn (d+3) "all_yes"):=λd=>by rw[zxh];exact zt7 (sem T bn 0)
 have hB:∀d,zvd (sem T bn (d+5) "_law_bits"):=λd=>by rw[zp7];exact ybc (hK _)
 have l:∀d,zks (sem T bn (d+8) "steps"):=λd=>by rw[z73];exact z1e (by rw[z0r];exact yaq (by rw[zqa];exact yib (q _)) (g _) (h _))
 have p:∀d,zk7 (sem T bn (d+3) "word_at"):=λd=>by rw[zl8];exact zpa (sem T bn 0)
 have r:∀d,zkb (sem T bn (d+12) "word_of"):=λd=>by rw[zvs];exact ztd (s _) (p _) (l _)
 have i:∀d,zgo (sem T bn (d+5) "where"):=λd=>by rw[ybl];exact z2c (e _)
 have m:∀d,zq9 (sem T bn (d+11) "poly_of"):=λd=>by rw[zxz];exact zs8 (l _) (i _) (by rw[zm5];exact z4t (sem T bn 0))
 have n:∀d,z4r (sem T bn (d+3) "degree"):=λd=>by rw[z07];exact yev (sem T bn 0)
 have a:∀d,zcz (sem T bn (d+5) "terms"):=λd=>by rw[z9k];exact z3m (Ψ':=sem T bn 0) (by rw[zi1];rfl)
 have o:∀d,zzp (sem T bn (d+15) "word_with"):=λd=>by rw[zpn];exact ye7 (z9g (a _) (r _))
 have t:∀d,DigN (sem T bn (d+14) "digits_of"):=λd=>by rw[zp0];exact ygr (a _) (n _) (m _)
 have f:∀d,InN (sem T bn (d+14) "is_in"):=λd=>by rw[z8a];exact in_n (z2q (n _) (m _))
 have c:∀d,zsm (sem T bn (d+3) "is_whole"):=λd=>by rw[ztx];exact z9p (sem T bn 0)
 have j:∀d,zjf (sem T bn (d+8) "sent"):=λd=>by rw[yft];exact ybe (h _) (i _)
 have F:LFns Ψ:=by
  refine⟨?_,?_,?_⟩
  ·rw[<-b,zpp];exact z2b (hK 35)
  ·rw[<-b];exact hK 36
  ·rw[<- b,e__law_right];refine z3n ⟨hB 33,a 33,o 23,t 24,?_,f 24,z7b (h 35),z9s (g 35),?_,?_⟩
   ·rw[zvw];exact yd9 (c _) (ybm (q _))
   ·rw[zpq];exact z1p (sem T bn 0)
   ·rw[e__law_turned_right];refine zz6 ⟨?_,?_,?_,f 23,?_⟩
    ·rw[ziz];exact zs6 (hK _)
    ·rw[z1u];exact yd5 (z5g (e _)) (j 28) (p _)
    ·rw[e_is_turning];exact z1z (by rw[z2g];exact yhl (sem T bn 0)) (by rw[zut];exact yap (c _)) (by rw[zzn];exact ydz (by rw[ziv];exact wt_n (z5g (e _)) (z7b (h _)) (by rw[yir];exact ygx (sem T bn 0))))
    ·rw[yco];exact z83 (j 28) (h _)
 have x:z6i (Ψ "_law_walked_right"):=by
  rw[<-b,ze7];exact z9c (hK 35) (a 33) (o 23) (z7b (h 35)) (f 24) (by rw[zt5];exact yif (a _))
 clear hK e s h g q hB l p r i m n a o t f c j;obtain⟨u,A,I⟩:=hH ns z;obtain⟨y,K,E,C,B,k,D,J,L⟩:=yci F z I;obtain⟨w,H,_⟩:=x k y J #v[];unfold z8p;refine zat (en:=[Za #v[0,8],#v[w,5],K,E,C,B]) rfl (seq_e (e1:=[Za #v[0,8],#v[u,5],Zb,Zb,Zb,Zb]) ?_ (seq_e D ?_)) rfl
 ·simp! [A]
 ·simp! [H]
noncomputable abbrev nA (K:Zg) (n:Str) (f:Zh):Prop:=PySem.W.nsIn K mainGlobals n=Za (Za (.ref f))
noncomputable abbrev nL (K:Zg) (f:Zh) (e:Ze) (o:Option Zh) (n:Str) (st:Stmt) (kV d p:Ze) (a:Option Zh) (b c:Ze) (s:Array (Option Ze)):Prop:=K.lookup f=Za ⟨e,o,.func (PySem.W.fnOf n n (zgd st) (zd6 st) (za0 st) .none kV d p a b c),s⟩
noncomputable abbrev nC (K:Zg) (c:Ze) (n:Str):Prop:=PySem.W.codeIn K c n=Zd
noncomputable abbrev nK (K:Zg) (f:Zh):Prop:=PySem.W.keepIn K (.ref f)=Zd
noncomputable def nD (K:Zg) (t:Fd):Prop:=∃(f:Zh) (e:Ze) (o:Option Zh) (kV d p:Ze) (b:Option Zh) (c a:Ze) (s:Array (Option Ze)),nA K t.nm f/\nL K f e o t.nm t.st kV d p b c a s/\nC K c t.nm/\nK K f
theorem nD_i {K:Zg}{n:Str}{t:Fd}{f:Zh}{i:Ze}{o:Option Zh}{kV g p:Ze}{h:Option Zh}{b d:Ze}{s:Array (Option Ze)}(e:t.nm=n)(a:nA K n f)(l:nL K f i o n t.st kV g p h b d s)(c:nC K b n)(k:nK K f):nD K t:=by
 subst e;exact⟨_,_,_,_,_,_,_,_,_,_,a,l,c,k⟩
noncomputable def bO (t:Fd):Prop:=FnScope t.N t.ps (za0 t.st)/\t.m.length=t.ps.length/\∀(kV doc p:Ze) (a:Option Zh) (cdv c:Ze) (u:List Ze),u.length=t.ps.length->bindArgs (PySem.W.fnOf t.nm t.nm (zgd t.st) (zd6 t.st) (za0 t.st) .none kV doc p a cdv c) ⟨u,[]⟩=pure (t.ps.zip u)
theorem yh5 {K:Zg}{h:Heap}{m:Str->Option Ze}(X:K.In h)(G:h.Ns mainGlobals m){t:Fd}(b:bO t)(e:t.nm∈lams->z2h K t.nm=Zd)(d:nD K t):FdOk K m t:=by
 obtain⟨f,q,o,kV,i,p,j,n,g,s,a,l,c,k⟩:=d;have F:=z47 (st:=t.st) l c k;exact⟨b.1,b.2.1,⟨_,_,F,F.binds b.2.2,PySem.W.mg_of X G a⟩,e⟩
theorem nd_T:(T.map (·.nm)).Nodup:=by decide +kernel
theorem all_c {α:Type}{P:α->Prop}{a:α}{l:List α}(h:P a)(r:∀x∈l,P x):∀x∈a::l,P x:=List.forall_mem_cons.mpr ⟨h,r⟩
theorem all_n {α:Type}{P:α->Prop}:∀x∈([]:List α),P x:=λ_ h=>nomatch h
@[elab_as_elim] theorem lenS {α:Type}{P:List α->Prop}{n:Nat} (us:List α) (b:us.length=n+1) (h:∀a l,l.length=n->P (a::l)):P us:=by
 cases us with
 |nil=>cases b
 |cons a l=>exact h a l (Nat.succ.inj b)
@[elab_as_elim] theorem len0 {α:Type}{P:List α->Prop} (us:List α) (b:us.length=0) (h:P []):P us:=by
 cases us with
 |nil=>exact h
 |cons a l=>cases b
@[elab_as_elim] theorem len1 {α:Type}{P:List α->Prop} (us:List α) (b:us.length=1) (h:∀a,P [a]):P us:=lenS us b λa l e=>len0 l e (h a)
@[elab_as_elim] theorem len2 {α:Type}{P:List α->Prop} (us:List α) (c:us.length=2) (h:∀a b,P [a,b]):P us:=lenS us c λa l e=>lenS l e λb l e=>len0 l e (h a b)
@[elab_as_elim] theorem len3 {α:Type}{P:List α->Prop} (us:List α) (d:us.length=3) (h:∀a b c,P [a,b,c]):P us:=lenS us d λa l e=>len2 l e (h a)
theorem zoa:bO zer:=#v[3,7]
theorem zzr:bO zhc:=#v[0,7]
theorem zos:bO zeh:=#v[0,7]
theorem zuu:bO zf5:=#v[3,7]
theorem zuf:bO zfs:=#v[0,7]
theorem z9f:bO zqt:=#v[0,7]
theorem z06:bO zj9:=#v[3,7]
theorem ztz:bO zgb:=#v[3,7]
theorem z80:bO zq8:=#v[0,7]
theorem z01:bO zjq:=#v[0,7]
theorem zni:bO zdo:=#v[0,7]
theorem zul:bO zfj:=#v[9,9]
theorem z1o:bO zjr:=#v[0,7]
theorem zj3:bO zct:=#v[3,7]
theorem z0e:bO zg3:=#v[3,7]
theorem zug:bO zf0:=#v[0,7]
theorem zs3:bO zfd:=#v[0,7]
theorem zhw:bO zb2:=#v[0,7]
theorem z30:bO zjt:=#v[3,7]
theorem zoy:bO zen:=#v[3,7]
theorem z2r:bO zjw:=#v[0,7]
theorem zme:bO zdk:=#v[0,7]
theorem zm0:bO zds:=#v[0,7]
theorem zn5:bO zdg:=#v[0,7]
theorem yfw:bO z1b:=#v[3,7]
theorem zia:bO zb4:=#v[0,7]
theorem ztb:bO zf8:=#v[3,7]
theorem zj5:bO zcq:=#v[0,7]
theorem z9j:bO zsv:=#v[0,7]
theorem zw1:bO zhb:=#v[9,9]
theorem yas:bO zrc:=#v[3,7]
theorem znm:bO zdi:=#v[3,7]
theorem znn:bO zdm:=#v[0,7]
theorem zm8:bO zde:=#v[3,7]
theorem zng:bO zdv:=#v[0,7]
theorem zhg:bO zb0:=#v[0,7]
theorem zev:bO zay:=#v[3,7]
theorem zeu:bO zaz:=#v[9,9]
theorem zki:bO zcx:=#v[9,9]
theorem yc1:bO zpk:=#v[3,7]
theorem all_mk {l:PySem.W.OpenLaw}{w:World}{K:Zg}{h:Heap}{m:Str->Option Ze}{g:Zh} (X:K.In h) (G:h.Ns mainGlobals m) (d:m "law" = Za (.ref g)) (D:∀t∈T,nD K t) (M:∀x∈(["law"]:List Str),z2h K x=Zd) (Z:∀x∈bn,PySem.W.nsIn K mainGlobals x=Za Zb) :
  ∃i:FuncData,(∀(s:Zf) (v:Ze),BindsTo s i ⟨[v],[]⟩ [("_law_script",v)])/\∀base:Heap,K.In base->base.Ns mainGlobals m->FnOk l.prog w K m base CX0 40 g i ["_law_script"] (spF K [Zc] (sem T bn 40 "law")):=by
 have B:∀t∈T,bO t:=all_c zoa (all_c zzr (all_c zos (all_c zuu (all_c zuf (all_c z9f (all_c z06 (all_c ztz (all_c z80 (all_c z01 (all_c zni (all_c zul (all_c z1o (all_c zj3 (all_c z0e (all_c zug (all_c zs3 (all_c zhw (all_c z30 (all_c zoy (all_c z2r (all_c zme (all_c zm0 (all_c zn5 (all_c yfw (all_c zia (all_c ztb (all_c zj5 (all_c z9j (all_c zw1 (all_c yas (all_c znm (all_c znn (all_c zm8 (all_c zng (all_c zhg (all_c zev (all_c zeu (all_c zki (all_c yc1 (all_n))))))))))))))))))))))))))))))))))))))));have q:∀t∈T,t.nm∈lams->t.nm∈(["law"]:List Str):=by decide +kernel
 obtain⟨f,z,H,kV,C,E,I,y,A,u,a,r,c,k⟩:=D zpk (by simp [T]);have F:=z47 (st:=zpk.st) r c k;have e:=d.symm.trans (PySem.W.mg_of X G a);cases e;exact⟨_,λs v=>.of_eq rfl,λbase p o=>zyp nd_T (λt b=>yh5 X G (B t b) (λj=>M _ (q t b j)) (D t b)) (λx n=>PySem.W.mg_none_of X G (Z x n)) p o (λh=>absurd h #v[0,0,7]) 40 zpk (by simp [T]) _ _ F (PySem.W.mg_of X G a)⟩
theorem walk {l:PySem.W.OpenLaw}{q:Program}{b:List Str}{X:(Str->Option Ze)->Heap->Prop}{Y:World->Heap->Prop}{d:DefRec}{K:Params->Zg} (A:l.most=Za 63) (g:d.params.defaults=[])
  (y:∀(w:World) (h:Heap),Y w h->(K w.params).In h)
  (B:∀w:World,PySem.W.noTabs (K w.params)=Zd) (t:∀w:World,zxi (K w.params)=Zd) (hrec:∀(w:World),∀x∈lams,∀c P,PySem.W.tabIn (K w.params) x=Za (c,P)->∃d,(recsOf q).find? (λe=>e.name==x)=Za d)
  (F:∀(w:World) (m:Str->Option Ze) (j:Zh) (h:Heap),(K w.params).In h->h.Ns mainGlobals m->m d.name=Za (.ref j) ->
   ∃o:FuncData,(∀(s:Zf) (u:Ze),BindsTo s o ⟨[u],[]⟩ [("_law_script",u)])/\∀base:Heap,(K w.params).In base->base.Ns mainGlobals m->FnOk l.prog w (K w.params) m base CX0 40 j o ["_law_script"] (spF (K w.params) [Zc] (sem T bn 40 "law"))) :
  PySem.W.WalkO q b X Y l.row.toRowW d [] (λf vs=>PySem.call f vs) :=
 L2.walk_ofT (n:=63) (k:=40) (x := "_law_script") (CX:=λ_=>CX0) (sp:=λw=>spF (K w.params) [Zc] (sem T bn 40 "law")) A #v[0,9] g ⟨rfl,by decide,by decide,rfl⟩ y B t hrec F (λ_ _ _ a i r p C=>ztw p.sub p.tb C (ws':=[.frl (i.map W.int)]) (z21 i r) rfl) λ_ _ _ _ _ z=>z
end My
open PySem PySem.W PyProof.Rows
set_option maxRecDepth 100000 in
set_option maxHeartbeats 0 in
theorem PySem.Challenge.cw_yesnowords_k91_whole_kinds_closed_holds : PySem.Challenge.rw_yesnowords_k91_whole_kinds_closed.Holds := by
 w_on;o_law;k_head;(case hw=>w_witness2)
 k_fill
 refine My.walk (l:=PySem.Challenge.rw_yesnowords_k91_whole_kinds_closed) rfl rfl (fun w h Y=>by first | exact PySem.W.kIn_of Y | exact PySem.W.km_in_of Y) ?nt ?nd ?hrec ?F
 case nt=>exact fun w=>by kernel_rfl
 case nd=>exact fun w=>by kernel_rfl
 case hrec =>
  intro w x hx c P e;simp only [L2.lams,Ao,Br,Ha] at hx;rcases hx with rfl | rfl | rfl | rfl | rfl
  ·exact nomatch (Eq.trans (by kernel_rfl) e:(none:Option (Addr × Addr))=some (c,P))
  ·exact nomatch (Eq.trans (by kernel_rfl) e:(none:Option (Addr × Addr))=some (c,P))
  ·exact nomatch (Eq.trans (by kernel_rfl) e:(none:Option (Addr × Addr))=some (c,P))
  ·exact nomatch (Eq.trans (by kernel_rfl) e:(none:Option (Addr × Addr))=some (c,P))
  ·exact Hz.mp (by kernel_rfl)
 case F =>
  intro w mg fa h KX G hmg;refine My.all_mk KX G hmg ?xD ?xM ?xZ
  case xM=>exact My.all_c (by kernel_rfl) (My.all_n)
  case xZ =>
   refine' My.all_c ?_ (My.all_c ?_ (My.all_c ?_ (My.all_c ?_ (My.all_c ?_ (My.all_c ?_ (My.all_c ?_ (My.all_c ?_ (My.all_c ?_ (My.all_c ?_ (My.all_c ?_ (My.all_c ?_ (My.all_c ?_ (My.all_c ?_ (My.all_c ?_ (My.all_c ?_ (My.all_c ?_ (My.all_c ?_ (My.all_n))))))))))))))))))
   any_goals k_is
  case xD =>
   refine' My.all_c (My.nD_i (n := "is_whole") rfl ?_ ?_ ?_ ?_) (My.all_c (My.nD_i (n := "is_row") rfl ?_ ?_ ?_ ?_) (My.all_c (My.nD_i (n := "is_place") rfl ?_ ?_ ?_ ?_) (My.all_c (My.nD_i (n := "all_yes") rfl ?_ ?_ ?_ ?_) (My.all_c (My.nD_i (n := "is_word") rfl ?_ ?_ ?_ ?_) (My.all_c (My.nD_i (n := "says") rfl ?_ ?_ ?_ ?_) (My.all_c (My.nD_i (n := "where") rfl ?_ ?_ ?_ ?_) (My.all_c (My.nD_i (n := "word_at") rfl ?_ ?_ ?_ ?_) (My.all_c (My.nD_i (n := "plus") rfl ?_ ?_ ?_ ?_) (My.all_c (My.nD_i (n := "times") rfl ?_ ?_ ?_ ?_) (My.all_c (My.nD_i (n := "letter_no") rfl ?_ ?_ ?_ ?_) (My.all_c (My.nD_i (n := "stepped") rfl ?_ ?_ ?_ ?_) (My.all_c (My.nD_i (n := "steps") rfl ?_ ?_ ?_ ?_) (My.all_c (My.nD_i (n := "term_order") rfl ?_ ?_ ?_ ?_) (My.all_c (My.nD_i (n := "degree") rfl ?_ ?_ ?_ ?_) (My.all_c (My.nD_i (n := "word_of") rfl ?_ ?_ ?_ ?_) (My.all_c (My.nD_i (n := "poly_of") rfl ?_ ?_ ?_ ?_) (My.all_c (My.nD_i (n := "longer_terms") rfl ?_ ?_ ?_ ?_) (My.all_c (My.nD_i (n := "terms") rfl ?_ ?_ ?_ ?_) (My.all_c (My.nD_i (n := "how_many") rfl ?_ ?_ ?_ ?_) (My.all_c (My.nD_i (n := "is_in") rfl ?_ ?_ ?_ ?_) (My.all_c (My.nD_i (n := "word_with") rfl ?_ ?_ ?_ ?_) (My.all_c (My.nD_i (n := "digits_of") rfl ?_ ?_ ?_ ?_) (My.all_c (My.nD_i (n := "is_within") rfl ?_ ?_ ?_ ?_) (My.all_c (My.nD_i (n := "top") rfl ?_ ?_ ?_ ?_) (My.all_c (My.nD_i (n := "without_tops") rfl ?_ ?_ ?_ ?_) (My.all_c (My.nD_i (n := "base_of") rfl ?_ ?_ ?_ ?_) (My.all_c (My.nD_i (n := "is_turning") rfl ?_ ?_ ?_ ?_) (My.all_c (My.nD_i (n := "sent") rfl ?_ ?_ ?_ ?_) (My.all_c (My.nD_i (n := "turned") rfl ?_ ?_ ?_ ?_) (My.all_c (My.nD_i (n := "back") rfl ?_ ?_ ?_ ?_) (My.all_c (My.nD_i (n := "_law_hand") rfl ?_ ?_ ?_ ?_) (My.all_c (My.nD_i (n := "_law_take") rfl ?_ ?_ ?_ ?_) (My.all_c (My.nD_i (n := "_law_many") rfl ?_ ?_ ?_ ?_) (My.all_c (My.nD_i (n := "_law_bits") rfl ?_ ?_ ?_ ?_) (My.all_c (My.nD_i (n := "_law_turning") rfl ?_ ?_ ?_ ?_) (My.all_c (My.nD_i (n := "_law_walked_right") rfl ?_ ?_ ?_ ?_) (My.all_c (My.nD_i (n := "_law_turned_right") rfl ?_ ?_ ?_ ?_) (My.all_c (My.nD_i (n := "_law_right") rfl ?_ ?_ ?_ ?_) (My.all_c (My.nD_i (n := "law") rfl ?_ ?_ ?_ ?_) (My.all_n))))))))))))))))))))))))))))))))))))))))
   any_goals (first | (delta My.nA;k_is) | (delta My.nL;k_is) | (delta My.nC;k_is) | (delta My.nK;k_is) | k_is)