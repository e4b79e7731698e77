import PyProof.Rows.All
import Wide.All
import OpenK.AllK
import Wide.FinOn
import Lean
import PyProof.EqAt
import PyProof.EqKinds
import PyProof.TupleCall
import PySem.Challenge.RW_yesnowords_k69_bent_or_not
set_option Elab.async false
set_option linter.all false
set_option maxRecDepth 100000
namespace PySem.W.Fast
def tw2406153401773695768:=0
def tw3986806581622807735:=0
def tw17285733228644032415:=0
def tw8452204002076483143:=0
def tw7300082942631081684:=0
def tw10097714286306263578:=0
def tw6822349102058121:=0
def tw4372229475378530226:=0
def tw7053664800641388658:=0
def tw13158420358282612009:=0
def tw8748246634606936458:=0
def tw17947897218644877828:=0
def tw11101706285767826639:=0
def tw11773913730751670903:=0
def tw11033716122847248082:=0
def tw14080566466896450132:=0
def tw135863038382143609:=0
def tw7161838529579901263:=0
def tw1885840198735336835:=0
def tw3777394359597669391:=0
def tw9391356554996929891:=0
def tw6641553677713047968:=0
def tw13306186522652398837:=0
def tw17549994281817757814:=0
def tw8706252248530941499:=0
def tw41913992360649544:=0
def tw8804532934112280508:=0
def tw4181815159473045396:=0
def tw17570415603643239360:=0
def tw8045420732992461900:=0
def tw9250817793860906274:=0
def tw12794790034625903258:=0
def tw2355415594732476146:=0
def tw7196072267030732129:=0
def tw4648490494205513249:=0
def tw17157385351604736306:=0
def tw13793258387388778986:=0
def tw18302850733453481497:=0
def tw2164829871252284231:=0
def tw3409030241412294292:=0
def tw15222736291934253626:=0
def tw14959487417490939274:=0
def tw18357023293631200899:=0
def tw10595077307894213863:=0
def tw16719427973404707967:=0
def tw7260052058146339802:=0
def tw8425626488653457207:=0
def tw5065887782656626753:=0
def tw13263017876265430732:=0
def tw16422863533711635423:=0
def tw17528178252234794834:=0
def tw13725927161229598987:=0
def tw2018256893342360087:=0
def tw12524030523852916793:=0
def tw9574754417628611741:=0
def tw7091108925569815513:=0
def tw4412272022772408686:=0
def tw597163092291278847:=0
def tw10670386902954795949:=0
def tw6662631012917889434:=0
def tw13462741657464737291:=0
def tw15279307897200470935:=0
def tw8113613817647511291:=0
def tw8575051386144957357:=0
def tw14948182839005610477:=0
def tw2386667096039391491:=0
def tw5320117771750860680:=0
def tw7108306935704912693:=0
def tw15013097704757651864:=0
def tw13322068440236818127:=0
def tw17393250573874964503:=0
def tw12763243783349912867:=0
def tw9253724984230753828:=0
def tw17807770508045258269:=0
def tw9584996188370630100:=0
def tw15555276585985276775:=0
def tw11033250522610905375:=0
def tw3095833047581822547:=0
def tw5151810870125747138:=0
def tw14584560641845516367:=0
def tw1593764665598662492:=0
def tw6230454899130195849:=0
def tw11160771713435365509:=0
def tw8917395679857619086:=0
def tw11901490909810052314:=0
def tw8617039409016067383:=0
def tw11127392656582423971:=0
def tw7422774249800176653:=0
def tw8967813608549652235:=0
def tw5705314220330635378:=0
def tw15138205051682898561:=0
def tw6825060013334307712:=0
def tw6484655350064790408:=0
def tw17786943265385828171:=0
def tw5875783579451729051:=0
def tw11221212177178723530:=0
def tw8924373042594540667:=0
def tw18211551034086604488:=0
def tw10583230281213231789:=0
def tw14303796662828286370:=0
def tw18064955229891115302:=0
def tw14057547428351073952:=0
def tw897307110221779042:=0
def tw17957382327853946381:=0
def tw8829640143238066372:=0
def tw6258947969995871243:=0
def tw2074432742566266553:=0
def tw7061093656299848254:=0
def tw16354917273029725282:=0
def tw3287520112402927962:=0
def tw5709589684381263798:=0
def tw1375706379053613033:=0
def tw17470268680196659861:=0
end PySem.W.Fast
theorem bS {α β}{o:Option α}{f:α->Option β}{b}(h:o.bind f=some b):∃a,o=some a/\f a=some b:=Option.bind_eq_some_iff.mp h
theorem sI {α}{a b:α}(h:some a=some b):a=b:=Option.some.inj h
namespace L2
open PySem PySem.Spec PyProof.Rows
theorem aG {P:Prop}(h:∀G:Prop,(P->G)->G):P:=h P id
end L2
set_option hygiene false
local macro_rules | `(tactic| nofun) => `(tactic| refine L2.aG fun _ qG=>?_)
local macro_rules | `(tactic| ac_rfl) => `(tactic| (refine qG ?_;clear qG))
local macro_rules | `(#v[$x]) => `((gArg (gC (.int $x))))
local macro_rules | `(#v[$x,0]) => `(some (.int $x,false))
local macro_rules | `(#v[$x,1]) => `(some (.lst $x,false))
local macro_rules | `(#v[$x,2]) => `(some (.lst $x,true))
local macro_rules | `(#v[$x,3]) => `(some (.tup $x,false))
local macro_rules | `(#v[$x,4]) => `((gArg (gVar $x)))
local macro_rules | `(#v[$x,5]) => `(some ($x,true))
local macro_rules | `(#v[$x,6]) => `(some ($x,false))
local macro_rules | `(#v[0,0,0]) => `((oI yes2 fun i j=>.int (i - j)))
local macro_rules | `(#v[0,0,1]) => `((oI cPow fun i j=>.int (i * 2 ^ j.toNat)))
local macro_rules | `(#v[0,0,2]) => `((oI (fun _ j=>decide (0 < j)) fun i j=>.int (i % j)))
local macro_rules | `(#v[0,0,3]) => `((oI cDiv fun i j=>.int (i / j)))
local macro_rules | `(#v[]) => `((by omega))
local macro_rules | `(#v[0,0,5]) => `(⟨by kernel_rfl,by kernel_rfl,by kernel_rfl,by decide +kernel,rfl,by decide +kernel,by decide +kernel⟩)
local macro_rules | `(#v[0,9]) => `((by decide))
local macro_rules | `(#v[0,0,7]) => `((by decide +kernel))
local macro_rules | `(tactic| omega) => `(tactic| first | lia | omega +splitDisjunctions)
set_option hygiene true
namespace L2
open PySem PySem.Spec PyProof.Rows
noncomputable abbrev Key:=Sum Int Str
noncomputable def zpj:Key->Value->Bool
 | .inl k,v=>Value.isInt k v
 | .inr x,v=>Value.isStrOf x v
noncomputable def keyH (w:World):Key->Int
 | .inl k=>hashInt k
 | .inr x=>hashStr w x
theorem keyIs_shape:∀{k:Key}{v:Value},zpj k v=true->(∃i t,k=Sum.inl i/\v=Value.int i t)\/(∃x t,k=Sum.inr x/\v=Value.str x t)
  | .inl i,v,h=>by
    obtain⟨t,e⟩:=Value.isInt_shape (k:=i) (v:=v) h;exact .inl ⟨i,t,rfl,e⟩
  | .inr x,v,h=>by
    obtain⟨t,e⟩:=Value.isStrOf_shape (x:=x) (v:=v) h;exact .inr ⟨x,t,rfl,e⟩
theorem zti (i:Int)(t:Tok):zpj (.inl i) (.int i t)=true:=by simp [zpj,Value.isInt]
theorem zq8 (x:Str)(t:Tok):zpj (.inr x) (.str x t)=true:=by simp [zpj,Value.isStrOf]
theorem z5r (a b:Int):decide ((Sum.inl a:Key)=Sum.inl b)=(a == b):=by
 by_cases e:a=b
 ·subst e;simp
 ·have h : ¬ (Sum.inl a : Key) = Sum.inl b := fun q => e (Sum.inl.inj q);rw[decide_eq_false h];exact (beq_eq_false_iff_ne.mpr e).symm
theorem z2y (a b:Str):decide ((Sum.inr a:Key)=Sum.inr b)=decide (a=b):=by
 by_cases e:a=b
 ·subst e;simp
 ·have h : ¬ (Sum.inr a : Key) = Sum.inr b := fun q => e (Sum.inr.inj q);rw[decide_eq_false h,decide_eq_false e]
theorem z43 (a:Int)(b:Str):decide ((Sum.inl a:Key)=Sum.inr b)=false:=decide_eq_false (fun q=>nomatch q)
theorem z23 (a:Str)(b:Int):decide ((Sum.inr a:Key)=Sum.inl b)=false:=decide_eq_false (fun q=>nomatch q)
noncomputable def zcv (prog:Program) (w:World):PySem.KeyKind prog w Key where
 is:=zpj
 hash:=keyH w
 inj:=fun v a b ha hb=>by
  rcases keyIs_shape ha with ⟨i,t,rfl,rfl⟩ | ⟨x,t,rfl,rfl⟩
  ·rcases keyIs_shape hb with ⟨j, u, rfl, e⟩ | ⟨y, u, rfl, e⟩
   ·injection e with e1 _;rw[e1]
   ·exact nomatch e
  ·rcases keyIs_shape hb with ⟨j, u, rfl, e⟩ | ⟨y, u, rfl, e⟩
   ·exact nomatch e
   ·injection e with e1 _;rw[e1]
 byValue:=fun k v h=>by
  rcases keyIs_shape h with ⟨i,t,rfl,rfl⟩ | ⟨x,t,rfl,rfl⟩<;>rfl
 pyHash:=fun hv h=>by
  rcases keyIs_shape hv with ⟨i,t,rfl,rfl⟩ | ⟨x,t,rfl,rfl⟩
  ·exact wpAny_pyHash_int h
  ·exact wpAny_pyHash_str h
 eqBool:=fun hu hv h=>by
  rcases keyIs_shape hu with ⟨i,t,rfl,rfl⟩ | ⟨x,t,rfl,rfl⟩
  ·rcases keyIs_shape hv with ⟨j, u, rfl, rfl⟩ | ⟨y, u, rfl, rfl⟩
   ·rw[z5r] at h;exact wpAny_eqBool_int h
   ·rw[z43] at h;exact SeqAt.EqAt.int_str i t y u _ _ _ _ h
  ·rcases keyIs_shape hv with ⟨j, u, rfl, rfl⟩ | ⟨y, u, rfl, rfl⟩
   ·rw[z23] at h;exact SeqAt.EqAt.str_int x t j u _ _ _ _ h
   ·rw[z2y] at h;exact wpAny_eqBool_str h
 «strs»:=fun k x t v h=>by
  rcases keyIs_shape h with ⟨i,u,rfl,e⟩ | ⟨y,u,rfl,e⟩
  ·exact nomatch e
  ·injection e with e1 _;subst e1;cases v<;>rfl
theorem zlz (prog:Program)(w:World)(i:Int)(t:Tok):(zcv prog w).is (.inl i) (.int i t)=true:=zti i t
theorem zll (prog:Program)(w:World)(x:Str)(t:Tok):(zcv prog w).is (.inr x) (.str x t)=true:=zq8 x t
inductive V where
 | non | bl (b:Bool) | int (i:Int) | str (x:Str) | byt (b:Array UInt8) | flt (b:UInt64) | ref (a:Addr) | ty (n:String)
 deriving DecidableEq
noncomputable def RelV:V->Value->Prop
 | .non,u=>u=Value.none
 | .bl b,u=>u=Value.bool b
 | .int i,u=>∃t,u=Value.int i t
 | .str x,u=>∃t,u=Value.str x t
 | .byt b,u=>∃t,u=Value.bytes b t
 | .flt b,u=>∃t,u=Value.float b t
 | .ref a,u=>u=Value.ref a
 | .ty n,u=>u=Value.type n
noncomputable abbrev Vals:List V->List Value->Prop:=Paired RelV
theorem Vals.length {xs:List V}{us:List Value}(r:Vals xs us):xs.length=us.length:=Paired.length r
theorem Vals.get:∀{xs:List V}{us:List Value}{i:Nat}{x:V},Vals xs us->xs[i]?=some x->∃u,us[i]?=some u/\RelV x u
  | _,_,_,_,.nil,e=>by simp at e
  | _,_,0,_,.cons r _,e=>by simp at e;subst e;exact⟨_,rfl,r⟩
  | _,_,i+1,x,.cons _ t,e=>by
    obtain⟨u,h1,h2⟩:=Vals.get (i:=i) (x:=x) t (by simpa using e);exact⟨u,by simpa using h1,h2⟩
theorem Vals.set {x:V}{u:Value}(r:RelV x u):∀{xs:List V}{us:List Value} (i:Nat),Vals xs us->Vals (xs.set i x) (us.set i u)
 | _,_,_,.nil=>.nil
 | _,_,0,.cons _ t=>.cons r t
 | _,_,i+1,.cons q t=>.cons q (Vals.set r i t)
theorem Vals.append:∀{xs ys:List V}{us ws:List Value},Vals xs us->Vals ys ws->Vals (xs++ys) (us++ws)
 | _,_,_,_,.nil,s=>s
 | _,_,_,_,.cons r t,s=>.cons r (Vals.append t s)
theorem Vals.take:∀{xs:List V}{us:List Value} (n:Nat),Vals xs us->Vals (xs.take n) (us.take n)
 | _,_,0,_=>.nil
 | _,_,_+1,.nil=>.nil
 | _,_,n+1,.cons r t=>.cons r (Vals.take n t)
theorem Vals.drop:∀{xs:List V}{us:List Value} (n:Nat),Vals xs us->Vals (xs.drop n) (us.drop n)
 | _,_,0,r=>r
 | _,_,_+1,.nil=>.nil
 | _,_,n+1,.cons _ t=>Vals.drop n t
noncomputable def RelO:Option V->Option Value->Prop
 | some v,some u=>RelV v u
 | none,none=>True
 | _,_=>False
noncomputable def KV {κ:Type}:List (κ × V)->List (κ × Value)->Prop:=Paired fun (p:κ × V) (q:κ × Value)=>p.1=q.1/\RelV p.2 q.2
noncomputable def kV:Key->V
 | .inl i=>.int i
 | .inr x=>.str x
inductive HO where
 /-- a list -/
 | lst (xs:List V)
 /-- a tuple (never changes) -/
 | tup (xs:List V)
 /-- a dict whose keys are ints and texts;one whose keys are tuples of ints and texts (the empty one is both) -/
 | dK (kvs:List (Key × V)) | dT (kvs:List (List Key × V))
 /-- a set of ints: its members,its size -/
 | set (S:Int->Bool) (n:Nat)
 /-- an instance of the class at C,its dict at dx,its attributes -/
 | ins (C dx:Addr) (fs:List (Str × V))
 /-- the dict of the instance at x -/
 | own (x:Addr)
 /-- the dict of an exception -/
 | xd (fs:List (Str × V))
 /-- a bound method,f of x -/
 | met (f x:Addr)
 /-- a range object lo,lo+1,.. below hi -/
 | rng (lo hi:Int)
 /-- a thing that is known to the object (the script;a dict while a loop walks it): read,never written while it is so -/
 | frz (o:Obj) (u:HO)
 /-- a code object's table -/
 | tbl (ps:Array Value)
 /-- any other thing,by what is true of its one object (a def of one's own: SetO a S n:=HO.ext fun h=>..) -/
 | ext (φ:Heap->Prop)
noncomputable abbrev Hp:=Addr->Option HO
noncomputable def upd (H:Hp) (a:Addr) (o:HO):Hp:=fun b=>if b=a then some o else H b
theorem upd_same {H:Hp}{a:Addr}{o:HO}:upd H a o a=some o:=by unfold upd;rw[if_pos rfl]
theorem upd_ne {H:Hp}{a b:Addr}{o:HO}(h:b≠a):upd H a o b=H b:=by unfold upd;rw[if_neg h]
theorem zab {H:Hp}{a b:Addr}{o:HO}(h:H a=some o)(h' : H b=none):a≠b:=by
 intro e;subst e;rw[h] at h';cases h'
noncomputable def zjs (h:Heap) (a:Addr) (items:Array Value):Prop:=∃o,h.get? a=some o/\(o.cls=.type "tuple"/\∃n,o.data=.seq items n)/\o.dict=none
theorem zjs.t {h:Heap}{a:Addr}{items:Array Value}(x:zjs h a items):IsTup h a items:=let ⟨o,e,r,_⟩:=x;⟨o,e,r⟩
theorem zjs.new (h:Heap)(items:Array Value):zjs (h.push { cls:=.type "tuple",data:=.seq items }) h.objs.size items:=⟨_,Heap.get?_push_size _ rfl,⟨rfl,_,rfl⟩,rfl⟩
section
variable (P:Program) (w:World)
noncomputable def ObjOk (H:Hp) (h:Heap) (a:Addr):HO->Prop
 | .lst xs=>xs.length<=sizeLine/\∃(its:List Value) (n:Nat),Vals xs its/\h.get? a=some { cls:=.type "list",data:=.seq its.toArray n }
 | .tup xs=>xs.length<=sizeLine/\∃its:List Value,Vals xs its/\zjs h a its.toArray
 | .dK kvs=>kvs.length<=sizeLine/\(a == sysModules)=false/\∃vs,KV kvs vs/\h.DictOf (zcv P w) a vs
 | .dT kvs=>kvs.length<=sizeLine/\(a == sysModules)=false/\∃xs:List (List Key × Addr × Value),
   Paired (fun (p:List Key × V) (q:List Key × Addr × Value)=>p.1=q.1/\H q.2.1=some (.tup (p.1.map kV))/\RelV p.2 q.2.2) kvs xs /\
   ∃o es ep,h.get? a=some o/\o.ExactDict/\o.data=.dict es ep/\es.toList=xs.map (entryOfKey (tupleKind (zcv P w)))/\(xs.map (·.1)).Nodup
 | .set S n=>h.SetOf (intKind P w) a S n
 | .ins C dx fs=>H dx=some (.own a)/\fs.length<=1000/\dx≠a/\h.get? a=some (PySem.W.instObj C dx) /\
   ∃mA,h.Ns1 dx mA/\(∀f,RelO (fs.lookup f) (mA f))/\PySem.Within mA (fs.map (·.1))
 | .own _=>∃o,h.get? a=some o
 | .xd fs=>∃mA,h.Ns1 a mA/\∀f,RelO (fs.lookup f) (mA f)
 | .rng lo hi=>∃t u v,h.get? a=some { cls:=.type "range",data:=.fields #[.int lo t,.int hi u,.int 1 v] }
 | .frz o u=>h.get? a=some o/\ObjOk H h a u
 | .tbl ps=>h.get? a=some { cls:=.none,data:=.fields ps }
 | .met f x=>h.get? a=some (PySem.W.methodObj (.ref f) (.ref x))
 | .ext φ=>φ h/\(∃o,h.get? a=some o)/\∀h1 h2:Heap,φ h1->(∀o,h1.get? a=some o->h2.get? a=some o)->φ h2
noncomputable def HOk (H:Hp) (h:Heap):Prop:=∀a o,H a=some o->ObjOk P w H h a o
end
section
variable {P:Program}{w:World}{H H' : Hp}{h h' : Heap}{a:Addr}{o:HO}
theorem ObjOk.lt (x:ObjOk P w H h a o):a < h.objs.size:=by
 cases o with
 | lst xs=>obtain⟨_,_,_,_,e⟩:=x;exact Heap.lt_size e
 | tup xs=>obtain⟨_,_,_,p⟩:=x;exact p.t.lt
 | dK kvs=>obtain⟨_,_,_,_,o,_,_,e,_⟩:=x;exact Heap.lt_size e
 | dT kvs=>obtain⟨_,_,_,_,o,_,_,e,_⟩:=x;exact Heap.lt_size e
 | set S n=>obtain⟨o,_,_,_,e,_⟩:=x;exact Heap.lt_size e
 | ins C dx fs=>obtain⟨_,_,_,e,_⟩:=x;exact Heap.lt_size e
 | own y=>obtain⟨_,e⟩:=x;exact Heap.lt_size e
 | xd fs=>obtain⟨_,⟨_,_,_,e,_⟩,_⟩:=x;exact Heap.lt_size e
 | rng lo hi=>obtain⟨_,_,_,e⟩:=x;exact Heap.lt_size e
 | frz ob u=>obtain⟨e,_⟩:=x;exact Heap.lt_size e
 | tbl ps=>exact Heap.lt_size (show h.get? a=some _ from x)
 | met f y=>exact Heap.lt_size (show h.get? a=some _ from x)
 | ext φ=>obtain⟨_,⟨_,e⟩,_⟩:=x;exact Heap.lt_size e
theorem Paired.mapP {α β:Type}{F G:α->β->Prop}:∀{l₁:List α}{l₂:List β},Paired F l₁ l₂->(∀a b,F a b->G a b)->Paired G l₁ l₂
 | _,_,.nil,_=>.nil
 | _,_,.cons r t,f=>.cons (f _ _ r) (Paired.mapP t f)
theorem ObjOk.stay (x:ObjOk P w H h a o) (k:∀b u,(b=a\/H b=some (.own a))->h.get? b=some u->h'.get? b=some u)
    (ho:∀b,H b=some (.own a)->H' b=some (.own a)) (ht:∀b xs,H b=some (.tup xs)->H' b=some (.tup xs)):ObjOk P w H' h' a o:=by
  induction o with
  | lst xs=>obtain⟨z,its,n,r,e⟩:=x;exact⟨z,its,n,r,k _ _ (.inl rfl) e⟩
  | tup xs=>obtain⟨z,its,r,ob,e,c⟩:=x;exact⟨z,its,r,ob,k _ _ (.inl rfl) e,c⟩
  | dK kvs=>obtain⟨z,y,vs,r,ob,es,ep,e,c⟩:=x;exact⟨z,y,vs,r,ob,es,ep,k _ _ (.inl rfl) e,c⟩
  | dT kvs =>
    obtain⟨z,y,xs,r,ob,es,ep,e,c⟩:=x;exact⟨z,y,xs,Paired.mapP r fun p q z=>⟨z.1,ht _ _ z.2.1,z.2.2⟩,ob,es,ep,k _ _ (.inl rfl) e,c⟩
  | set S n=>obtain⟨ob,es,ep,t,e,c⟩:=x;exact⟨ob,es,ep,t,k _ _ (.inl rfl) e,c⟩
  | ins C dx fs =>
    obtain⟨d,z,ne,e,mA,⟨od,es,ep,e2,c⟩,r⟩:=x;exact⟨ho _ d,z,ne,k _ _ (.inl rfl) e,mA,⟨od,es,ep,k _ _ (.inr d) e2,c⟩,r⟩
  | own y=>obtain⟨ob,e⟩:=x;exact⟨ob,k _ _ (.inl rfl) e⟩
  | xd fs=>obtain⟨mA,⟨od,es,ep,e,c⟩,r⟩:=x;exact⟨mA,⟨od,es,ep,k _ _ (.inl rfl) e,c⟩,r⟩
  | rng lo hi=>obtain⟨t,u,v,e⟩:=x;exact⟨t,u,v,k _ _ (.inl rfl) e⟩
  | frz ob u ih=>obtain⟨e,q⟩:=x;exact⟨k _ _ (.inl rfl) e,ih q⟩
  | tbl ps =>
    have e:h.get? a=some { cls:=.none,data:=.fields ps }:=x;show h'.get? a=some { cls:=.none,data:=.fields ps };exact k a _ (.inl rfl) e
  | met f y =>
    have e:h.get? a=some (PySem.W.methodObj (.ref f) (.ref y)):=x;show h'.get? a=some (PySem.W.methodObj (.ref f) (.ref y));exact k a _ (.inl rfl) e
  | ext φ=>obtain⟨p,⟨o,e⟩,st⟩:=x;exact⟨st _ _ p fun o q=>k _ _ (.inl rfl) q,⟨o,k _ _ (.inl rfl) e⟩,st⟩
theorem HOk.lt (x:HOk P w H h)(e:H a=some o):a < h.objs.size:=(x a o e).lt
theorem HOk.fresh (x:HOk P w H h)(e:h.objs.size<=a):H a=none:=by
 cases q:H a with
 | none=>rfl
 | some u=>exact absurd (Nat.lt_of_lt_of_le (x.lt q) e) (Nat.lt_irrefl _)
theorem HOk.kept (x:HOk P w H h)(k:∀b u,h.get? b=some u->h'.get? b=some u):HOk P w H h':=fun a o e =>
 (x a o e).stay (fun b u _ q=>k b u q) (fun _ q=>q) fun _ _ q=>q
theorem HOk.laid (x:HOk P w H h)(k:∀b u,h.get? b=some u->h'.get? b=some u)(hp:h.objs.size<=a)(new:ObjOk P w (upd H a o) h' a o):HOk P w (upd H a o) h':=fun b u e=>by
 have hn:=x.fresh hp;by_cases hb:b=a
 ·subst hb;rw[upd_same] at e;obtain rfl:=sI e;exact new
 ·rw[upd_ne hb] at e;exact (x b u e).stay (fun c v _ q=>k c v q) (fun c q=>by rw[upd_ne (zab q hn)];exact q) fun c xs q=>by rw[upd_ne (zab q hn)];exact q
end
noncomputable def Rd (H:Hp) (a:Addr) (u:HO):Prop:=H a=some u\/∃o,H a=some (.frz o u)
theorem Rd.ok {P:Program}{w:World}{H:Hp}{h:Heap}{a:Addr}{u:HO}(r:Rd H a u)(x:HOk P w H h):ObjOk P w H h a u:=by
 rcases r with r | ⟨o,r⟩
 ·exact x a u r
 ·obtain⟨_, q⟩ := x a _ r;exact q
noncomputable def Mut:Option HO->Prop
 | some (.lst _)=>True
 | some (.dK _)=>True
 | some (.dT _)=>True
 | some (.set _ _)=>True
 | some (.ins _ _ _)=>True
 | some (.ext _)=>True
 | _=>False
section
variable {P:Program}{w:World}{H:Hp}{h h' : Heap}{x e:Addr}{o' : HO}
theorem HOk.write (ok:HOk P w H h) (mu:Mut (H x)) (he:e=x\/H e=some (.own x)) (k:∀b u,b≠e->h.get? b=some u->h'.get? b=some u) (heo:∃u,h'.get? e=some u)
  (new:ObjOk P w (upd H x o') h' x o'):HOk P w (upd H x o') h':=fun b u q=>by
 have nown:∀c y,H c=some (.own y)->c≠x:=fun c y r z=>by subst z;rw[r] at mu;exact mu
 have ntup:∀c xs,H c=some (.tup xs)->c≠x:=fun c xs r z=>by subst z;rw[r] at mu;exact mu
 by_cases hb:b=x
 ·subst hb;rw[upd_same] at q;obtain rfl:=sI q;exact new
 ·rw[upd_ne hb] at q;by_cases hbe:b=e
  ·have q' : H b=some (.own x):=by
    rcases he with z | z
    ·exact absurd (hbe.trans z) hb
    ·rw[hbe];exact z
   rw[q] at q';obtain rfl:=sI q';obtain⟨v,hv⟩:=heo;exact⟨v,by rw[hbe];exact hv⟩
  ·refine (ok b u q).stay (fun c v hc r => k c v ?_ r) (fun c r => by rw[upd_ne (nown c b r)]; exact r) fun c xs r => by rw[upd_ne (ntup c xs r)]; exact r
   rcases hc with rfl | hc
   ·exact hbe
   ·rintro rfl;rcases he with z | z
    ·exact nown c b hc z
    ·rw[hc] at z;cases z;exact hb rfl
end
structure Un (fs ex:List Addr) (H H' : Hp) (h h' : Heap):Prop where
 keep:∀b o,h.get? b=some o->H b=none->b ∉ fs->b ∉ ex->h'.get? b=some o
 slot:∀b o,h.get? b=some o->H b=none->b∈fs->b ∉ ex->∃sl,h'.get? b=some { o with slots:=sl }
 free:∀b o,h.get? b=some o->H b=none->b ∉ ex->H' b=none
 there:∀b o,h.get? b=some o->b ∉ ex->∃o',h'.get? b=some o'
 tups:∀b xs,H b=some (.tup xs)->H' b=some (.tup xs)
 frzs:∀b o u,H b=some (.frz o u)->H' b=some (.frz o u)
 tbls:∀b ps,H b=some (.tbl ps)->∃more,H' b=some (.tbl (ps++more))
section
variable {fs fs' ex ex' : List Addr}{H H1 H2:Hp}{h h1 h2 h' : Heap}{a x e:Addr}{o:HO}
theorem Un.any (u:Un fs ex H H1 h h1){b:Addr}{ob:Obj}(q:h.get? b=some ob)(n:H b=none)(hx:b ∉ ex):∃sl,h1.get? b=some { ob with slots:=sl }:=by
 by_cases hb:b∈fs
 ·exact u.slot b ob q n hb hx
 ·exact⟨ob.slots,u.keep b ob q n hb hx⟩
theorem Un.kept (k:∀b u,h.get? b=some u->h'.get? b=some u):Un fs ex H H h h' :=
 ⟨fun b ob q _ _ _=>k b ob q,fun b ob q _ _ _=>⟨ob.slots,k b ob q⟩,fun _ _ _ n _=>n,fun b ob q _=>⟨ob,k b ob q⟩,fun _ _ q=>q,fun _ _ _ q=>q,fun _ ps q=>⟨#[],by rw[q];simp⟩⟩
theorem Un.refl:Un fs ex H H h h:=Un.kept fun _ _ q=>q
theorem Un.laid (k:∀b u,h.get? b=some u->h'.get? b=some u)(hp:h.objs.size<=a)(hn:H a=none):Un fs ex H (upd H a o) h h' where
 keep:=fun b u q _ _ _=>k b u q
 slot:=fun b u q _ _ _=>⟨u.slots,k b u q⟩
 free:=fun b u q n _=>by rw[upd_ne (Nat.ne_of_lt (Nat.lt_of_lt_of_le (Heap.lt_size q) hp))];exact n
 there:=fun b u q _=>⟨u,k b u q⟩
 tups:=fun b xs q=>by rw[upd_ne (zab q hn)];exact q
 frzs:=fun b u xs q=>by rw[upd_ne (zab q hn)];exact q
 tbls:=fun b ps q=>⟨#[],by rw[upd_ne (zab q hn),q];simp⟩
theorem Un.write (mu:Mut (H x))(he:e=x\/H e=some (.own x))(k:∀b u,b≠e->h.get? b=some u->h'.get? b=some u)(heo:∃u,h'.get? e=some u):Un fs ex H (upd H x o) h h':=by
 have hx:∀b,H b=none->b≠x:=fun b n z=>by subst z;rw[n] at mu;exact mu
 have hb:∀b,H b=none->b≠e:=fun b n z=>by
  subst z;rcases he with r | r
  ·exact hx b n r
  ·rw[n] at r;cases r
 have hm:∀b u,H b=some u->¬ Mut (some u)->b≠x:=fun b u q nm z=>by subst z;rw[q] at mu;exact nm mu
 refine⟨fun b u q n _ _=>k b u (hb b n) q,fun b u q n _ _=>⟨u.slots,k b u (hb b n) q⟩,fun b u q n _=>by rw[upd_ne (hx b n)];exact n,fun b u q _=>?_,
  fun b xs q=>by rw[upd_ne (hm b _ q fun z=>z)];exact q,fun b u xs q=>by rw[upd_ne (hm b _ q fun z=>z)];exact q,fun b ps q=>⟨#[],by rw[upd_ne (hm b _ q fun z=>z),q];simp⟩⟩
 by_cases hbe:b=e
 ·subst hbe;exact heo
 ·exact⟨u,k b u hbe q⟩
end
noncomputable def trk (h:Heap) (H:Hp):List Addr:=(List.range h.objs.size).filter fun a=>(H a).isSome
noncomputable def hidT (h:Heap) (H:Hp):Heap:=PySem.W.hideAll h (trk h H)
theorem zs8 (h:Heap)(H:Hp):(hidT h H).objs.size=h.objs.size:=PySem.W.hideAll_size _ _
theorem zxe {h:Heap}{H:Hp}{b:Addr}{o:Obj}(e:h.get? b=some o)(n:H b=none):(hidT h H).get? b=some o :=
 PySem.W.hideAll_get _ e fun hm=>by
  have q:(H b).isSome=true:=(List.mem_filter.mp hm).2;rw[n] at q;simp at q
theorem z1q {h:Heap}{H:Hp}{b:Addr}{o:Obj} (e:(hidT h H).get? b=some o):h.get? b=some o/\H b=none:=by
  have e' : h.get? b=some o:=PySem.W.of_hideAll (trk h H) e;refine⟨e',?_⟩;cases q:H b with
  | none=>rfl
  | some x =>
    have hm:b∈trk h H:=List.mem_filter.mpr ⟨List.mem_range.mpr (Heap.lt_size e'),by simp [q]⟩;have z:(hidT h H).get? b=none:=PySem.W.hideAll_none (trk h H) hm;rw[z] at e;cases e
noncomputable def z13 (g h:Heap) (L:Addr):List (Addr × Obj):=(List.range h.objs.size).filterMap fun a=>if a=L\/(g.get? a).isSome=true then none else (h.get? a).map fun o=>(a,o)
noncomputable def rest (g h:Heap) (L d:Addr):List (Addr × Obj):=(z13 g h L).filter fun p=>decide (p.1≠d)
structure Mod (K:PySem.W.Frag) (mg:Str->Option Value) (base:Heap):Prop where
 kin:K.In base
 glob:base.Ns mainGlobals mg
 blt:∃mb,base.Ns builtinsNs mb/\∀x:Str,x≠"__name__" -> mb x=bootBuiltins x
 nolimit:base.NoLimit
 bmn:∃(b:Addr) (ob:Obj),mg "__builtins__" = some (.ref b)/\b≠builtinsNs/\base.get? b=some ob/\ob.cls=.type "module"/\ob.dict=some builtinsNs/\ob.data=.plain
structure Cx where
 prog:Program
 w:World
 K:PySem.W.Frag
 mg:Str->Option Value
 base:Heap
 A:Around
 N:List Str
 s₀:Shared
 H₀:Hp
 env:Env
 outer:List Env
 stack:List Env
 ex:List Addr
 fn:Str->Bool
 calm:Bool
 pn:List (Addr × Obj)
 xe:Value->Shared->Prop
noncomputable def frs (l:List Env):List Addr:=l.filterMap (·.frame)
noncomputable abbrev Cx.fs (X:Cx):List Addr:=frs X.outer
noncomputable def Vis (sc:Scope) (x:Str):Prop:=sc.names.lookup x=some .local\/sc.names.lookup x=some .cell\/sc.names.lookup x=some .free
noncomputable def Loc (sc:Scope) (x:Str):Prop:=sc.names.lookup x=some .local\/sc.names.lookup x=some .cell
noncomputable def Look (env:Env) (h:Heap) (m:Str->Option Value) (x:Str) (u:Value):Prop :=
 (env.kindOf x=some .local/\m x=some u)\/((env.kindOf x=some .cell\/env.kindOf x=some .free)/\∃c,env.cells.lookup x=some c/\h.IsCell c (some u))
structure Cx.Ok (X:Cx):Prop where
 mod:Mod X.K X.mg X.base
 kind:X.env.scope.kind=.function
 glob:X.env.globals=mainGlobals
 blt:X.env.builtins=builtinsNs
 above:X.s₀.heap.objs.size<=X.env.locals
 inj:∀x y c,X.env.cells.lookup x=some c->X.env.cells.lookup y=some c->x=y
 has:∀x,(X.env.kindOf x=some .cell\/X.env.kindOf x=some .free)->∃c,X.env.cells.lookup x=some c
 cab:∀x c,X.fn x=true->X.env.cells.lookup x=some c->X.s₀.heap.objs.size<=c
 hd:X.calm=true->X.A.handled=none
 frames:X.A.frames=some X.stack
 stk:X.stack=X.outer\/(X.stack=X.env::X.outer/\X.env.frame=some X.env.locals)
 exf:∀b∈X.ex,b≠X.env.locals/\∀x c,X.env.cells.lookup x=some c->c≠b
 bs:∀b o,X.base.get? b=some o->X.s₀.heap.get? b=some o/\X.H₀ b=none
 bsz:X.base.objs.size<=X.s₀.heap.objs.size
 noex:∀b o,X.base.get? b=some o->b ∉ X.ex
 exfs:∀b∈X.ex,b ∉ X.fs
 funs:X.s₀.heap.FunFrames X.base X.outer
 frf:∀b∈X.fs,X.H₀ b=none
structure Inv (X:Cx) (pins:List (Addr × Obj)) (σ:List (Option V)) (H:Hp) (s:Shared):Prop where
 ok:X.Ok
 os:s.os=X.s₀.os
 bare:AllBare s.gens
 base:Un X.fs X.ex X.H₀ H X.s₀.heap s.heap
 loc:∃m,s.heap.Ns X.env.locals m/\∀(i:Nat) (x:Str) (v:V),X.N[i]?=some x->σ[i]?=some (some v)->Vis X.env.scope x->∃u,RelV v u/\Look X.env s.heap m x u
 cell:∀x c,X.env.cells.lookup x=some c->∃v,s.heap.IsCell c v
 free:H X.env.locals=none
 freeC:∀x c,X.env.cells.lookup x=some c->H c=none
 pin:∀p∈X.pn++pins,s.heap.get? p.1=some p.2/\H p.1=none/\p.1≠X.env.locals/\p.1 ∉ X.fs/\∀v,p.2.data≠.cell v
 hok:HOk X.prog X.w H s.heap
 len:σ.length=X.N.length
section
variable {X:Cx}{pins:List (Addr × Obj)}{σ:List (Option V)}{H H' : Hp}{s:Shared}{h' : Heap}
theorem Cx.Ok.nofr (ok:X.Ok){b:Addr}{o:Obj}(e:X.base.get? b=some o):b ∉ X.fs:=fun hb=>by
 have:=(ok.funs.mem hb).1;rw[e] at this;cases this
theorem Inv.bs (I:Inv X pins σ H s):∀b o,X.base.get? b=some o->s.heap.get? b=some o/\H b=none:=fun b o e =>
 ⟨I.base.keep b o (I.ok.bs b o e).1 (I.ok.bs b o e).2 (I.ok.nofr e) (I.ok.noex b o e),I.base.free b o (I.ok.bs b o e).1 (I.ok.bs b o e).2 (I.ok.noex b o e)⟩
theorem Inv.bk (I:Inv X pins σ H s):∀b o,X.base.get? b=some o->s.heap.get? b=some o:=fun b o e=>(I.bs b o e).1
theorem Inv.mod (I:Inv X pins σ H s):Mod X.K X.mg X.base:=I.ok.mod
theorem Inv.kIn (I:Inv X pins σ H s):X.K.In s.heap:=I.ok.mod.kin.keeps I.bk
theorem Inv.lt (I:Inv X pins σ H s):X.env.locals < s.heap.objs.size:=let ⟨_,hn,_⟩:=I.loc;hn.lt
theorem Inv.sz (I:Inv X pins σ H s):X.s₀.heap.objs.size<=s.heap.objs.size:=Nat.le_trans I.ok.above (Nat.le_of_lt I.lt)
theorem Inv.nofs (I:Inv X pins σ H s){a:Addr}(h:s.heap.objs.size<=a):a ∉ X.fs:=fun hb=>by
 obtain⟨_,o,ho,_⟩:=I.ok.funs.mem hb;exact absurd (Nat.lt_of_lt_of_le (Heap.lt_size ho) (Nat.le_trans I.sz h)) (Nat.lt_irrefl _)
theorem Inv.cne (I:Inv X pins σ H s):∀x c,X.env.cells.lookup x=some c->c≠X.env.locals:=fun x c e z=>by
 obtain⟨v,o,ho,hd⟩:=I.cell x c e;obtain⟨m,⟨o',es,ep,ho',hd',_⟩,_⟩:=I.loc;rw[z,ho'] at ho;obtain rfl:=sI ho;rw[hd'] at hd;cases hd
theorem Inv.funs (I:Inv X pins σ H s):s.heap.FunFrames X.base X.outer:=by
  have all:∀(l:List Env),(∀b∈frs l,b∈X.fs)->X.s₀.heap.FunFrames X.base l->s.heap.FunFrames X.base l:=by
    intro l
    induction l with
    | nil=>intro _ _;trivial
    | cons env r ih =>
      intro hs hl;nofun;obtain⟨hk,⟨L,o,hf,hn,ho,hd⟩,hr⟩:=hl;ac_rfl;have hL:L∈X.fs:=hs L (by unfold frs;rw[List.filterMap_cons,hf];exact List.mem_cons_self);obtain⟨sl,e⟩:=I.base.slot L o ho (I.ok.frf L hL) hL fun z=>I.ok.exfs L z hL;exact⟨hk,⟨L,_,hf,hn,e,hd⟩,ih (fun b hb=>hs b (by unfold frs;rw[List.filterMap_cons,hf];exact List.mem_cons_of_mem _ hb)) hr⟩
  exact all X.outer (fun _ hb=>hb) I.ok.funs
theorem Inv.stack (I:Inv X pins σ H s):s.heap.FunFrames X.base X.stack:=by
 rcases I.ok.stk with e | ⟨e,hf⟩
 ·rw[e];exact I.funs
 ·rw[e];obtain⟨m,hn,_⟩:=I.loc;refine .cons (by rw[I.ok.kind];decide) hf hn ?_ I.funs;exact Heap.get?_none_of_le (Nat.le_trans I.ok.bsz I.ok.above)
theorem Inv.stkSub (I:Inv X pins σ H s):∀b∈frs X.stack,b∈X.env.locals::X.fs:=fun b hb=>by
 rcases I.ok.stk with e | ⟨e,hf⟩
 ·rw[e] at hb;exact List.mem_cons_of_mem _ hb
 ·rw[e] at hb;unfold frs at hb;rw[List.filterMap_cons,hf] at hb;exact hb
theorem Inv.stkFree (I:Inv X pins σ H s):∀b∈frs X.stack,H b=none:=fun b hb=>by
 rcases List.mem_cons.mp (I.stkSub b hb) with e | hb
 ·rw[e];exact I.free
 ·obtain⟨_, o, ho, _⟩ := I.ok.funs.mem hb;exact I.base.free b o ho (I.ok.frf b hb) fun z=>I.ok.exfs b z hb
theorem Inv.step {g' : Array GenState}{t' : Nat}{d' : Drawn}{ch:List Addr} (I:Inv X pins σ H s)
  (hch:∀b∈ch,(b∈X.ex\/X.s₀.heap.objs.size<=b)/\b≠X.env.locals/\(∀x c,X.env.cells.lookup x=some c->c≠b)/\∀p∈X.pn++pins,p.1≠b)
  (keep:∀b o,b≠X.env.locals->b ∉ X.fs->b ∉ ch->s.heap.get? b=some o->H b=none->h'.get? b=some o)
  (slot:∀b o,b≠X.env.locals->b∈X.fs->b ∉ ch->s.heap.get? b=some o->H b=none->∃sl,h'.get? b=some { o with slots:=sl }) (free:∀b o,b ∉ ch->s.heap.get? b=some o->H b=none->H' b=none)
  (there:∀b o,b ∉ ch->s.heap.get? b=some o->∃o',h'.get? b=some o')
  (tups:∀b xs,H b=some (.tup xs)->H' b=some (.tup xs)) (frzs:∀b o u,H b=some (.frz o u)->H' b=some (.frz o u)) (tbls:∀b ps,H b=some (.tbl ps)->∃more,H' b=some (.tbl (ps++more)))
  (ns:∀m,s.heap.Ns X.env.locals m->h'.Ns X.env.locals m) (hok:HOk X.prog X.w H' h') (hg:AllBare g') :
  Inv X pins σ H' { s with heap:=h',gens:=g',drawn:=d',toks:=t' }:=by
 have neL:∀b o,X.s₀.heap.get? b=some o->b≠X.env.locals:=fun b o e=>Nat.ne_of_lt (Nat.lt_of_lt_of_le (Heap.lt_size e) I.ok.above);have neC:∀b o,X.s₀.heap.get? b=some o->b ∉ X.ex->b ∉ ch:=fun b o e hx hb=>by
  rcases (hch b hb).1 with z | z
  ·exact hx z
  ·exact absurd (Nat.lt_of_lt_of_le (Heap.lt_size e) z) (Nat.lt_irrefl _)
 have cellK:∀x c,X.env.cells.lookup x=some c->∀v,s.heap.IsCell c v->h'.IsCell c v:=fun x c e v ⟨o,ho,hd⟩=>by
  have nch:c ∉ ch:=fun z=>(hch c z).2.2.1 x c e rfl;by_cases hc:c∈X.fs
  ·obtain⟨sl, q⟩ := slot c o (I.cne x c e) hc nch ho (I.freeC x c e);exact⟨_,q,hd⟩
  ·exact⟨o,keep c o (I.cne x c e) hc nch ho (I.freeC x c e),hd⟩
 refine⟨I.ok,I.os,hg,⟨fun b o e n hb hx=>?_,fun b o e n hb hx=>?_,fun b o e n hx=>?_,fun b o e hx=>?_,fun b xs e=>tups b xs (I.base.tups b xs e),fun b o xs e=>frzs b o xs (I.base.frzs b o xs e),fun b ps e=>?_⟩,?_,fun x c e=>?_,?_,fun x c e=>?_,fun p hp=>?_,hok,I.len⟩
 ·exact keep b o (neL b o e) hb (neC b o e hx) (I.base.keep b o e n hb hx) (I.base.free b o e n hx)
 ·obtain⟨sl, e1⟩ := I.base.slot b o e n hb hx;obtain⟨sl',e2⟩:=slot b _ (neL b o e) hb (neC b o e hx) e1 (I.base.free b o e n hx);exact⟨sl',e2⟩
 ·obtain⟨o', e1⟩ := I.base.there b o e hx;exact free b o' (neC b o e hx) e1 (I.base.free b o e n hx)
 ·obtain⟨o', e1⟩ := I.base.there b o e hx;exact there b o' (neC b o e hx) e1
 ·obtain⟨m1, e1⟩ := I.base.tbls b ps e;obtain⟨m2,e2⟩:=tbls b _ e1;exact⟨m1++m2,by rw[e2,Array.append_assoc]⟩
 ·obtain⟨m, hn, hl⟩ := I.loc;refine⟨m,ns m hn,fun i x v e1 e2 e3=>?_⟩;obtain⟨u,r,l⟩:=hl i x v e1 e2 e3;refine⟨u,r,?_⟩;rcases l with l | ⟨k,c,e,z⟩
  ·exact .inl l
  ·exact .inr ⟨k,c,e,cellK x c e _ z⟩
 ·obtain⟨v, z⟩ := I.cell x c e;exact⟨v,cellK x c e v z⟩
 ·obtain⟨m, ⟨o, _, _, ho, _⟩, _⟩ := I.loc;exact free _ o (fun z=>(hch _ z).2.1 rfl) ho I.free
 ·obtain⟨v, o, ho, hd⟩ := I.cell x c e;exact free c o (fun z=>(hch c z).2.2.1 x c e rfl) ho (I.freeC x c e)
 ·obtain⟨e, n, ne, nf, d⟩ := I.pin p hp;have nch:p.1 ∉ ch:=fun z=>(hch p.1 z).2.2.2 p hp rfl;exact⟨keep p.1 p.2 ne nf nch e n,free p.1 p.2 nch e n,ne,nf,d⟩
theorem Inv.un {t' : Nat}(I:Inv X pins σ H s)(u:Un X.fs [] H H' s.heap h')(hok:HOk X.prog X.w H' h'):Inv X pins σ H' { s with heap:=h',toks:=t' }:=by
 obtain⟨m,⟨o,es,ep,ho,r⟩,_⟩:=id I.loc;obtain⟨sl,hL⟩:=u.any ho I.free (by simp);exact I.step (g':=s.gens) (d':=s.drawn) (ch:=[]) (fun _ z=>nomatch z) (fun b o _ hb _ e n=>u.keep b o e n hb (by simp)) (fun b o _ hb _ e n=>u.slot b o e n hb (by simp)) (fun b o _ e n=>u.free b o e n (by simp)) (fun b o _ e=>u.there b o e (by simp)) u.tups u.frzs u.tbls (fun m' hm=>by
  obtain⟨o',es',ep',ho',r'⟩:=hm;rw[ho] at ho';obtain rfl:=sI ho';exact⟨_,es',ep',hL,r'⟩) hok I.bare
theorem Inv.call {g' : Array GenState}{t' : Nat}{d' : Drawn}{ch:List Addr} (I:Inv X pins σ H s) (u:Un (frs X.stack) ch H H' s.heap h') (hok:HOk X.prog X.w H' h') (hg:AllBare g')
  (hch:∀b∈ch,(b∈X.ex\/X.s₀.heap.objs.size<=b)/\b≠X.env.locals/\(∀x c,X.env.cells.lookup x=some c->c≠b)/\∀p∈X.pn++pins,p.1≠b) :
  Inv X pins σ H' { s with heap:=h',gens:=g',drawn:=d',toks:=t' }:=by
 obtain⟨m,⟨o,es,ep,ho,r⟩,_⟩:=id I.loc;obtain⟨sl,hL⟩:=u.any ho I.free fun z=>(hch _ z).2.1 rfl;exact I.step (ch:=ch) hch (fun b o hL hb hc e n=>u.keep b o e n (fun z=>(List.mem_cons.mp (I.stkSub b z)).elim hL hb) hc) (fun b o _ _ hc e n=>u.any e n hc) (fun b o hc e n=>u.free b o e n hc) (fun b o hc e=>u.there b o e hc) u.tups u.frzs u.tbls (fun m' hm=>by
  obtain⟨o',es',ep',ho',r'⟩:=hm;rw[ho] at ho';obtain rfl:=sI ho';exact⟨_,es',ep',hL,r'⟩) hok hg
theorem Inv.turned {t' : Nat}{it:Addr} (I:Inv X pins σ H s) (k:∀b o,b≠it->s.heap.get? b=some o->h'.get? b=some o) (hn:H it=none) (hL:it≠X.env.locals)
  (h1:it∈X.ex\/X.s₀.heap.objs.size<=it) (h2:∀x c,X.env.cells.lookup x=some c->c≠it) (h3:∀p∈X.pn++pins,p.1≠it):Inv X pins σ H { s with heap:=h',toks:=t' }:=by
 have nit:∀b u,H b=some u->b≠it:=fun b u e z=>by rw[z,hn] at e;cases e
 refine I.step (g':=s.gens) (d':=s.drawn) (ch:=[it]) (fun b hb=>?_) (fun b o _ _ hc e _=>k b o (fun z=>hc (by simp [z])) e) (fun b o _ _ hc e _=>⟨o.slots,k b o (fun z=>hc (by simp [z])) e⟩) (fun _ _ _ _ n=>n)
  (fun b o hc e=>⟨o,k b o (fun z=>hc (by simp [z])) e⟩) (fun _ _ e=>e) (fun _ _ _ e=>e) (fun b ps e=>⟨#[],by rw[e];simp⟩) (fun m hm=>?_) (fun b u e=>?_) I.bare
 ·have e : b = it := by simpa using hb
  subst e;exact⟨h1,hL,h2,h3⟩
 ·obtain⟨o, es, ep, ho, r⟩ := hm;exact⟨o,es,ep,k _ o (Ne.symm hL) ho,r⟩
 ·refine (I.hok b u e).stay (fun c v hc q => k c v ?_ q) (fun _ q => q) fun _ _ q => q;rcases hc with z | z
  ·rw[z];exact nit b u e
  ·exact nit c _ z
theorem Inv.tok (I:Inv X pins σ H s)(t:Nat):Inv X pins σ H { s with toks:=t }:=I.un (h':=s.heap) (t':=t) Un.refl I.hok
theorem Inv.kept {t' : Nat}(I:Inv X pins σ H s)(k:∀b u,s.heap.get? b=some u->h'.get? b=some u):Inv X pins σ H { s with heap:=h',toks:=t' }:=I.un (Un.kept k) (I.hok.kept k)
theorem Inv.laid {a:Addr}{o:HO}{t' : Nat} (I:Inv X pins σ H s) (k:∀b u,s.heap.get? b=some u->h'.get? b=some u) (hp:s.heap.objs.size<=a) (new:ObjOk X.prog X.w (upd H a o) h' a o) :
  Inv X pins σ (upd H a o) { s with heap:=h',toks:=t' }:=I.un (Un.laid k hp (I.hok.fresh hp)) (I.hok.laid k hp new)
theorem Inv.write {x e:Addr}{o:HO}{t' : Nat} (I:Inv X pins σ H s) (mu:Mut (H x)) (he:e=x\/H e=some (.own x)) (k:∀b u,b≠e->s.heap.get? b=some u->h'.get? b=some u) (heo:∃u,h'.get? e=some u)
  (new:ObjOk X.prog X.w (upd H x o) h' x o):Inv X pins σ (upd H x o) { s with heap:=h',toks:=t' }:=I.un (Un.write mu he k heo) (I.hok.write mu he k heo new)
theorem Inv.pins_of {pins' : List (Addr × Obj)}(I:Inv X pins σ H s)(h:∀p∈pins',s.heap.get? p.1=some p.2/\H p.1=none/\p.1≠X.env.locals/\p.1 ∉ X.fs/\∀v,p.2.data≠.cell v):Inv X pins' σ H s :=
 ⟨I.ok,I.os,I.bare,I.base,I.loc,I.cell,I.free,I.freeC,fun p hp=>(List.mem_append.mp hp).elim (fun z=>I.pin p (List.mem_append_left _ z)) (h p),I.hok,I.len⟩
theorem zny {N:List Str}(hN:N.Nodup){i j:Nat}{x:Str}(a:N[i]?=some x)(b:N[j]?=some x):i=j:=by
 obtain⟨h1,e1⟩:=List.getElem?_eq_some_iff.mp a;obtain⟨h2,e2⟩:=List.getElem?_eq_some_iff.mp b;exact (List.getElem_inj hN).mp (e1.trans e2.symm)
theorem zjt {M:Model}{A:Around}{E:Value->Shared->Prop}{i:Nat}{x:Str}{v:V}{u:Value}{Q:Unit->Shared->Prop} (I:Inv X pins σ H s) (hN:X.N.Nodup) (hi:X.N[i]?=some x) (hx:Loc X.env.scope x) (r:RelV v u)
  (h:∀s',Inv X pins (σ.set i (some v)) H s'->(∃a,Heap.SameBut a s.heap s'.heap/\(a=X.env.locals\/X.env.cells.lookup x=some a))->Q () s') (hf:X.fn x=true\/X.env.scope.names.lookup x=some .local:=by first | exact .inl rfl | exact .inr rfl | assumption):wpAny M A (storeName X.env x u) Q E s:=by
 obtain⟨m,hn,hl⟩:=id I.loc;have hcls:(X.env.scope.kind == .class || (X.env.scope.kind == .module && X.env.locals != X.env.globals))=false:=by rw[I.ok.kind];rfl
 have hiσ:i < σ.length:=by rw[I.len];exact (List.getElem?_eq_some_iff.mp hi).1
 have cne:=I.cne;have tracked:∀{a:Addr}{h' : Heap},(∃o,s.heap.get? a=some o/\H a=none)->Heap.SameBut a s.heap h'->HOk X.prog X.w H h':=fun {a h'} ha hs b ob e=>by
  obtain⟨_,_,hfree⟩:=ha;refine (I.hok b ob e).stay (fun c w' hc q=>(hs.2 c ?_).trans q) (fun _ q=>q) fun _ _ q=>q;rintro rfl;rcases hc with rfl | hc
  ·rw[hfree] at e;cases e
  ·rw[hfree] at hc;cases hc
 rcases hx with hk | hk
 ·refine wpAny_storeName_local hk hn (fun h' hn' hs => ?_) hcls;obtain⟨oL,_,_,hoL,_⟩:=id hn;refine h _ ⟨I.ok,I.os,I.bare,⟨fun b o e n hb hx=>?_,fun b o e n hb hx=>?_,I.base.free,fun b o e hx=>?_,I.base.tups,I.base.frzs,I.base.tbls⟩,⟨_,hn',fun j y v' e1 e2 e3=>?_⟩,fun y c e=>?_,I.free,I.freeC,fun p hp=>?_,tracked ⟨oL,hoL,I.free⟩ hs,by simpa using I.len⟩ ⟨_,hs,.inl rfl⟩
  ·exact (hs.2 b (Nat.ne_of_lt (Nat.lt_of_lt_of_le (Heap.lt_size e) I.ok.above))).trans (I.base.keep b o e n hb hx)
  ·obtain⟨sl, e1⟩ := I.base.slot b o e n hb hx;exact⟨sl,(hs.2 b (Nat.ne_of_lt (Nat.lt_of_lt_of_le (Heap.lt_size e) I.ok.above))).trans e1⟩
  ·obtain⟨o', e1⟩ := I.base.there b o e hx;exact⟨o',(hs.2 b (Nat.ne_of_lt (Nat.lt_of_lt_of_le (Heap.lt_size e) I.ok.above))).trans e1⟩
  ·by_cases hj : j = i
   ·subst hj;rw[hi] at e1;obtain rfl:=sI e1;rw[List.getElem?_set_self hiσ] at e2;cases e2;exact⟨u,r,.inl ⟨hk,by simp⟩⟩
   ·rw[List.getElem?_set_ne (Ne.symm hj)] at e2;obtain⟨u',r',q⟩:=hl j y v' e1 e2 e3;refine⟨u',r',?_⟩;rcases q with ⟨k,e⟩ | ⟨k,c,e,z⟩
    ·refine .inl ⟨k, ?_⟩;have:y≠x:=fun e=>hj (zny hN e1 (e ▸ hi));simp [this,e]
    ·exact .inr ⟨k,c,e,z.sameBut hs (cne y c e)⟩
  ·obtain⟨w', z⟩ := I.cell y c e;exact⟨w',z.sameBut hs (cne y c e)⟩
  ·obtain⟨e, n, ne, nf, d⟩ := I.pin p hp;exact⟨(hs.2 p.1 ne).trans e,n,ne,nf,d⟩
 ·have hfn:X.fn x=true:=by
   rcases hf with z | z
   ·exact z
   ·rw[z] at hk;cases hk
  obtain⟨c,hc⟩:=I.ok.has x (.inl hk);obtain⟨w',z⟩:=I.cell x c hc;refine wpAny_storeName_cell I.ok.kind hk hc z (fun h' hc' hs=>?_);obtain⟨oc,hoc,hocd⟩:=id z;refine h { s with heap:=h' } ⟨I.ok,I.os,I.bare,⟨fun b o e n hb hx=>?_,fun b o e n hb hx=>?_,I.base.free,fun b o e hx=>?_,I.base.tups,I.base.frzs,I.base.tbls⟩,⟨m,hn.sameBut hs (Ne.symm (cne x c hc)),fun j y v' e1 e2 e3=>?_⟩,fun y c' e=>?_,I.free,I.freeC,fun p hp=>?_,tracked ⟨oc,hoc,I.freeC x c hc⟩ hs,by simpa using I.len⟩ ⟨c,hs,.inr hc⟩
  ·exact (hs.2 b (Nat.ne_of_lt (Nat.lt_of_lt_of_le (Heap.lt_size e) (I.ok.cab x c hfn hc)))).trans (I.base.keep b o e n hb hx)
  ·obtain⟨sl, e1⟩ := I.base.slot b o e n hb hx;exact⟨sl,(hs.2 b (Nat.ne_of_lt (Nat.lt_of_lt_of_le (Heap.lt_size e) (I.ok.cab x c hfn hc)))).trans e1⟩
  ·obtain⟨o', e1⟩ := I.base.there b o e hx;exact⟨o',(hs.2 b (Nat.ne_of_lt (Nat.lt_of_lt_of_le (Heap.lt_size e) (I.ok.cab x c hfn hc)))).trans e1⟩
  ·by_cases hj : j = i
   ·subst hj;rw[hi] at e1;obtain rfl:=sI e1;rw[List.getElem?_set_self hiσ] at e2;cases e2;exact⟨u,r,.inr ⟨.inl hk,c,hc,hc'⟩⟩
   ·rw[List.getElem?_set_ne (Ne.symm hj)] at e2;obtain⟨u',r',q⟩:=hl j y v' e1 e2 e3;refine⟨u',r',?_⟩;rcases q with q | ⟨k,c',e,z'⟩
    ·exact .inl q
    ·refine .inr ⟨k, c', e, z'.sameBut hs ?_⟩;rintro rfl;exact hj (zny hN e1 (I.ok.inj _ _ _ e hc ▸ hi))
  ·by_cases hcc : c' = c
   ·subst hcc;exact⟨_,hc'⟩
   ·obtain⟨w2, z2⟩ := I.cell y c' e;exact⟨w2,z2.sameBut hs hcc⟩
  ·obtain⟨e, n, ne, nf, d⟩ := I.pin p hp;refine⟨(hs.2 p.1 ?_).trans e,n,ne,nf,d⟩;intro q;rw[q,hoc] at e;have q' : oc=p.2:=sI e;exact d w' (by rw[<-q'];exact hocd)
theorem zfc {M:Model}{A:Around}{E:Value->Shared->Prop}{i:Nat}{x:Str}{v:V}{u:Value}{Q:Unit->Shared->Prop} (I:Inv X pins σ H s) (hN:X.N.Nodup) (hi:X.N[i]?=some x) (hx:Loc X.env.scope x) (r:RelV v u)
  (h:∀s',Inv X pins (σ.set i (some v)) H s'->Q () s') (hf:X.fn x=true\/X.env.scope.names.lookup x=some .local:=by first | exact .inl rfl | exact .inr rfl | assumption):wpAny M A (storeName X.env x u) Q E s :=
 zjt I hN hi hx r (fun s' I' _=>h s' I') hf
theorem Inv.call' {s' : Shared}{ch:List Addr} (I:Inv X pins σ H s) (ho:s'.os=s.os) (u:Un (frs X.stack) ch H H' s.heap s'.heap) (hok:HOk X.prog X.w H' s'.heap) (hg:AllBare s'.gens)
  (hch:∀b∈ch,(b∈X.ex\/X.s₀.heap.objs.size<=b)/\b≠X.env.locals/\(∀x c,X.env.cells.lookup x=some c->c≠b)/\∀p∈X.pn++pins,p.1≠b):Inv X pins σ H' s':=by
 obtain⟨h',g',d',t',o'⟩:=s';have e:o'=s.os:=ho;subst e;exact I.call (g':=g') (t':=t') (d':=d') u hok hg hch
end
noncomputable abbrev XK:=Value->Option Addr->Hp->Prop
noncomputable abbrev St:=List (Option V)
noncomputable abbrev VK:=V->Hp->Prop
noncomputable abbrev TE:=St->Hp->VK->Prop
noncomputable abbrev TT:=St->Hp->(Bool->Hp->Prop)->Prop
noncomputable abbrev TA:=St->Hp->(List V->Hp->Prop)->Prop
structure Ends where
 nx:St->Hp->Prop
 rt:VK
 bk:St->Hp->Prop:=fun _ _=>False
 ct:St->Hp->Prop:=fun _ _=>False
noncomputable abbrev TS:=Ends->St->Hp->Prop
noncomputable def EP (X:Cx) (pins:List (Addr × Obj)) (σ:St) (Q:VK) (u:Value) (s' : Shared):Prop:=∃v H',Inv X pins σ H' s'/\RelV v u/\Q v H'
noncomputable def TP (X:Cx) (pins:List (Addr × Obj)) (σ:St) (Q:Bool->Hp->Prop) (b:Bool) (s' : Shared):Prop:=∃H',Inv X pins σ H' s'/\Q b H'
noncomputable def AP (X:Cx) (pins:List (Addr × Obj)) (σ:St) (Q:List V->Hp->Prop) (us:List Value) (s' : Shared):Prop:=∃vs H',Inv X pins σ H' s'/\Vals vs us/\Q vs H'
noncomputable def SP (X:Cx) (pins:List (Addr × Obj)) (D:Ends) (f:Flow) (s' : Shared):Prop :=
 match f with
 | .next=>∃σ' H',Inv X pins σ' H' s'/\D.nx σ' H'
 | .brk=>∃σ' H',Inv X pins σ' H' s'/\D.bk σ' H'
 | .cont=>∃σ' H',Inv X pins σ' H' s'/\D.ct σ' H'
 | .ret u=>∃v σ' H',Inv X pins σ' H' s'/\RelV v u/\D.rt v H'
noncomputable def PE (X:Cx) (e:Expr) (t:TE):Prop :=
 ∀(pins:List (Addr × Obj)) (s:Shared) (σ:St) (H:Hp) (Q:VK),Inv X pins σ H s->t σ H Q->wpAny (model X.prog X.w) X.A (eval e X.env) (EP X pins σ Q) X.xe s
noncomputable def PT (X:Cx) (e:Expr) (t:TT):Prop :=
 ∀(pins:List (Addr × Obj)) (s:Shared) (σ:St) (H:Hp) (Q:Bool->Hp->Prop),Inv X pins σ H s->t σ H Q->wpAny (model X.prog X.w) X.A (isTrue e X.env (eval e X.env)) (TP X pins σ Q) X.xe s
noncomputable def PW (X:Cx) (e:Expr) (t:TT):Prop :=
 ∀(whole:Sem Value) (pins:List (Addr × Obj)) (s:Shared) (σ:St) (H:Hp) (Q:Bool->Hp->Prop),Inv X pins σ H s->t σ H Q->wpAny (model X.prog X.w) X.A (isTrue e X.env whole) (TP X pins σ Q) X.xe s
theorem PW.pt {X:Cx}{e:Expr}{t:TT}(h:PW X e t):PT X e t:=h _
noncomputable def PA (X:Cx) (es:List Expr) (t:TA):Prop :=
 ∀(pos:Pos) (pins:List (Addr × Obj)) (s:Shared) (σ:St) (H:Hp) (Q:List V->Hp->Prop),Inv X pins σ H s->t σ H Q->wpAny (model X.prog X.w) X.A (spliced (backTo pos (starEach es X.env))) (AP X pins σ Q) X.xe s
noncomputable def PS (X:Cx) (st:Stmt) (t:TS):Prop :=
 ∀(pins:List (Addr × Obj)) (s:Shared) (σ:St) (H:Hp) (D:Ends),Inv X pins σ H s->t D σ H->wpAny (model X.prog X.w) X.A (exec st X.env) (SP X pins D) X.xe s
noncomputable def PSs (X:Cx) (st:List Stmt) (t:TS):Prop :=
 ∀(pins:List (Addr × Obj)) (s:Shared) (σ:St) (H:Hp) (D:Ends),Inv X pins σ H s->t D σ H->wpAny (model X.prog X.w) X.A (execs st X.env) (SP X pins D) X.xe s
theorem thn {α:Type}{t:Sem α}{Q Q' : α->Shared->Prop}{M:Model}{A:Around}{E:Value->Shared->Prop}{s:Shared}(h:wpAny M A t Q E s)(hQ:∀a s,Q a s->Q' a s):wpAny M A t Q' E s:=wpAny_mono h hQ fun _ _ x=>x
section
variable {X:Cx}
theorem bin {a b:Expr}{ta tb:TE} (ha:PE X a ta) (hb:PE X b tb) {pins:List (Addr × Obj)}{s:Shared}{σ:St}{H:Hp}{R:V->V->Hp->Prop} (I:Inv X pins σ H s) (h:ta σ H fun x H1=>tb σ H1 fun y H2=>R x y H2)
  {α:Type}{Q:α->Shared->Prop}{f:Value->Value->Sem α}
  (hf:∀v u s2 x y H2,Inv X pins σ H2 s2->RelV x v->RelV y u->R x y H2->wpAny (model X.prog X.w) X.A (f v u) Q X.xe s2) :
  wpAny (model X.prog X.w) X.A (eval a X.env) (fun v s₁=>wpAny (model X.prog X.w) X.A (eval b X.env) (fun u s₂=>wpAny (model X.prog X.w) X.A (f v u) Q X.xe s₂) X.xe s₁) X.xe s:=by
 refine thn (ha pins s σ H _ I h) fun v s1 ⟨x,H1,I1,r1,q1⟩=>?_;refine thn (hb pins s1 σ H1 _ I1 q1) fun u s2 ⟨y,H2,I2,r2,q2⟩=>?_;exact hf v u s2 x y H2 I2 r1 r2 q2
noncomputable def tVar (i:Nat):TE:=fun σ H Q=>∃v,σ[i]?=some (some v)/\Q v H
noncomputable def tC (v:V):TE:=fun _ H Q=>Q v H
theorem zoc {i:Nat}{x:Str}{pos:Pos}(hN:X.N[i]?=some x)(hv:Vis X.env.scope x)(hd:(x == ("__debug__" : Str))=false:=by decide)(hcd:(x == ("__classdict__" : Str))=false:=by decide):PE X (.Name x pos) (tVar i):=by
 intro pins s σ H Q I h;nofun;obtain⟨v,e,h⟩:=h;obtain⟨m,hn,hl⟩:=I.loc;obtain⟨u,r,l⟩:=hl i x v hN e hv;ac_rfl;have fin:EP X pins σ Q u s:=⟨v,H,I,r,h⟩;rcases l with ⟨hk,hm⟩ | ⟨hk,c,hc,hcell⟩
 ·exact wpAny_Name (wpAny_loadName_local I.ok.kind hk hn hm fin) hd
 ·rcases hk with hk | hk
  ·exact wpAny_Name (wpAny_loadName_cell I.ok.kind hk hc hcell fin) hd
  ·exact wpAny_Name (wpAny_loadName_free I.ok.kind hk hc hcell fin hcd) hd
theorem z5x {i j pos}:PE X (.Constant (.int i) j pos) (tC (.int i)):=fun _ _ _ H _ I h=>wpAny_Constant_int ⟨.int i,H,I.tok _,⟨_,rfl⟩,h⟩
theorem z6c {b j pos}:PE X (.Constant (.bool b) j pos) (tC (.bl b)):=fun _ _ _ H _ I h=>Constant_bool ⟨.bl b,H,I,rfl,h⟩
theorem z3z {j pos}:PE X (.Constant .none j pos) (tC .non):=fun _ _ _ H _ I h=>Constant_none ⟨.non,H,I,rfl,h⟩
theorem z2i {x j pos}:PE X (.Constant (.str x) j pos) (tC (.str x)):=fun _ _ _ H _ I h=>Calls.Constant_str ⟨.str x,H,I.tok _,⟨_,rfl⟩,h⟩
noncomputable def Gl (X:Cx) (x:Str):Prop:=X.env.kindOf x=some .globalImplicit
theorem z1t {E:Value->Shared->Prop}{pins:List (Addr × Obj)}{s:Shared}{σ:St}{H:Hp}{x:Str}{u:Value}{pos:Pos}{Q:Value->Shared->Prop} (I:Inv X pins σ H s) (hg:Gl X x) (hm:X.mg x=some u) (h:Q u s)
  (hd:(x == ("__debug__" : Str))=false:=by decide):wpAny (model X.prog X.w) X.A (eval (.Name x pos) X.env) Q E s :=
 Calls.Name_function_global I.ok.kind hg (Calls.loadGlobal_global (by rw[I.ok.glob];exact I.mod.glob.keeps I.bk) hm h) hd
theorem zdw {E:Value->Shared->Prop}{pins:List (Addr × Obj)}{s:Shared}{σ:St}{H:Hp}{x:Str}{u:Value}{pos:Pos}{Q:Value->Shared->Prop} (I:Inv X pins σ H s) (hg:Gl X x) (hm:X.mg x=none) (hv:bootBuiltins x=some u) (h:Q u s)
  (hn:x≠"__name__" := by decide) (hd:(x == ("__debug__" : Str))=false:=by decide):wpAny (model X.prog X.w) X.A (eval (.Name x pos) X.env) Q E s:=by
 obtain⟨mb,h1,h2⟩:=I.mod.blt;exact Calls.Name_function_global I.ok.kind hg (Calls.loadGlobal_builtin (by rw[I.ok.glob];exact I.mod.glob.keeps I.bk) hm (by rw[I.ok.blt];exact h1.keeps I.bk) ((h2 x hn).trans hv) h) hd
theorem z1r {x:Str}{v:V}{u:Value}{pos:Pos}(hg:Gl X x)(hm:X.mg x=none)(hv:bootBuiltins x=some u)(r:RelV v u)(hn:x≠"__name__" := by decide)(hd:(x == ("__debug__" : Str))=false:=by decide):PE X (.Name x pos) (tC v) :=
 fun _ _ _ H _ I h=>zdw I hg hm hv ⟨v,H,I,r,h⟩ hn hd
variable {a b:Expr}{ta tb:TE}{pos:Pos}
noncomputable def PC (X:Cx) (op:CmpOp) (a b:Expr) (t:TE):Prop :=
  ∀(pins:List (Addr × Obj)) (s:Shared) (σ:St) (H:Hp) (Q:VK),Inv X pins σ H s->t σ H Q ->
    wpAny (model X.prog X.w) X.A (eval a X.env) (fun v s₁=>wpAny (model X.prog X.w) X.A (eval b X.env) (fun u s₂=>wpAny (model X.prog X.w) X.A (compareOp op v u) (EP X pins σ Q) X.xe s₂) X.xe s₁) X.xe s
theorem zxk (b:Expr){op:CmpOp}(h:op≠.In)(h2:op≠.NotIn):behindInMarks op b=false:=by
 have e1:(op == CmpOp.In)=false:=by cases op<;>first | rfl | exact absurd rfl h
 have e2:(op == CmpOp.NotIn)=false:=by cases op<;>first | rfl | exact absurd rfl h2
 cases b<;>simp [behindInMarks,e1,e2]
noncomputable def tB (t:TE):TT:=fun σ H Q=>t σ H fun x H1=>∃c,x=.bl c/\Q c H1
theorem z7u {op:CmpOp}{t:TE}(h:PC X op a b t)(h1:behindInMarks op b=false:=by first | exact zxk _ #v[0,9] #v[0,9] | rfl):PT X (.Compare a [op] [b] pos) (tB t):=by
 intro pins s σ H Q I hw;refine wpAny_isTrue_Compare1 (thn (h pins s σ H _ I hw) fun v s1 h1=>thn h1 fun u s2 h2=>thn h2 fun c s3 ⟨x,H1,I1,r1,q1⟩=>?_) h1;obtain⟨d,rfl,q⟩:=q1;cases r1;exact wpAny_truthy_bool ⟨H1,I1,q⟩
theorem z2t {e:Expr}{t:TE}(h:PE X e t)(he:∀whole,isTrue e X.env whole=(do let v <- whole;standAt e.pos;holding [v] (truthy v)):=by intro _;rfl):PT X e (tB t):=by
 intro pins s σ H Q I hw;refine isTrue_plain (thn (h pins s σ H _ I hw) fun v s1 ⟨x,H1,I1,r1,q1⟩=>?_) (he _);obtain⟨d,rfl,q⟩:=q1;cases r1;exact wpAny_truthy_bool ⟨H1,I1,q⟩
variable {tA tB' : TT}{rest:List Expr}
noncomputable def tAnd (t u:TT):TT:=fun σ H Q=>t σ H fun c H1=>if c=true then u σ H1 Q else Q false H1
noncomputable def tOr (t u:TT):TT:=fun σ H Q=>t σ H fun c H1=>if c=true then Q true H1 else u σ H1 Q
noncomputable def tNot (t:TT):TT:=fun σ H Q=>t σ H fun c H1=>Q (!c) H1
theorem z16 (ha:PT X a tA):PW X (.BoolOp .And [a] pos) tA:=by
 intro wh pins s σ H Q I h;refine isTrue_and (thn (ha pins s σ H Q I h) fun c s1 e=>?_);cases c with
 | true=>exact isTrue_and_nil e
 | false=>exact e
theorem z4c (ha:PT X a tA):PW X (.BoolOp .Or [a] pos) tA:=by
 intro wh pins s σ H Q I h;refine isTrue_or (thn (ha pins s σ H Q I h) fun c s1 e=>?_);cases c with
 | false=>exact isTrue_or_nil e
 | true=>exact e
theorem z5q (ha:PT X a tA)(hb:PW X (.BoolOp .And (b::rest) pos) tB'):PW X (.BoolOp .And (a::b::rest) pos) (tAnd tA tB'):=by
 intro wh pins s σ H Q I h;refine isTrue_and (thn (ha pins s σ H _ I h) fun c s1 ⟨H1,I1,q1⟩=>?_);cases c with
 | true=>exact hb wh pins s1 σ H1 Q I1 q1
 | false=>exact⟨H1,I1,q1⟩
theorem z56 (ha:PT X a tA)(hb:PW X (.BoolOp .Or (b::rest) pos) tB'):PW X (.BoolOp .Or (a::b::rest) pos) (tOr tA tB'):=by
 intro wh pins s σ H Q I h;refine isTrue_or (thn (ha pins s σ H _ I h) fun c s1 ⟨H1,I1,q1⟩=>?_);cases c with
 | true=>exact⟨H1,I1,q1⟩
 | false=>exact hb wh pins s1 σ H1 Q I1 q1
theorem z4o (ha:PT X a tA):PT X (.UnaryOp .Not a pos) (tNot tA):=by
 intro pins s σ H Q I h;exact isTrue_not (ha pins s σ H (fun c H1=>Q (!c) H1) I h)
noncomputable def z46 (ta tb:TE):TE:=fun σ H Q=>ta σ H fun x H1=>∃c,x=.bl c/\if c=true then tb σ H1 Q else Q (.bl false) H1
theorem z5c {op}{t:TE}(h:PE X a t):PE X (.BoolOp op [a] pos) t:=fun pins s σ H Q I hw=>BoolOp_one (h pins s σ H Q I hw)
theorem z4u (ha:PE X a ta)(hb:PE X (.BoolOp .And (b::rest) pos) tb):PE X (.BoolOp .And (a::b::rest) pos) (z46 ta tb):=by
 intro pins s σ H Q I h;refine BoolOp_and (thn (ha pins s σ H _ I h) fun v s1 ⟨x,H1,I1,r1,q1⟩=>?_);obtain⟨c,rfl,q1⟩:=q1;cases r1;refine wpAny_truthy_bool ?_;cases c with
 | true=>exact hb pins s1 σ H1 Q I1 q1
 | false=>exact⟨.bl false,H1,I1,rfl,q1⟩
noncomputable def tIf (t:TT) (ta tb:TE):TE:=fun σ H Q=>t σ H fun c H1=>if c=true then ta σ H1 Q else tb σ H1 Q
theorem zve {c:Expr}(hc:PT X c tA)(ha:PE X a ta)(hb:PE X b tb):PE X (.IfExp c a b pos) (tIf tA ta tb):=by
 intro pins s σ H Q I h;refine wpAny_IfExp (thn (hc pins s σ H _ I h) fun d s1 ⟨H1,I1,q1⟩=>?_);cases d with
 | true=>exact ha pins s1 σ H1 Q I1 q1
 | false=>exact hb pins s1 σ H1 Q I1 q1
end
noncomputable def SqL (K:PySem.W.Frag) (H:Hp) (a:Addr) (xs:List V):Prop :=
 Rd H a (.lst xs) \/
  ∃(o:Obj) (its:Array Value) (n:Nat),K.lookup a=some o/\o.cls=.type "list"/\o.dict=none/\o.data=.seq its n/\its.size<=sizeLine/\Vals xs its.toList
noncomputable def SqT (K:PySem.W.Frag) (H:Hp) (a:Addr) (xs:List V):Prop :=
 Rd H a (.tup xs) \/
  ∃(o:Obj) (its:Array Value) (n:Nat),K.lookup a=some o/\o.cls=.type "tuple"/\o.data=.seq its n/\its.size<=sizeLine/\Vals xs its.toList
noncomputable def absV:Value->Option V
 | .none=>some .non
 | .bool b=>some (.bl b)
 | .int i _=>some (.int i)
 | .str x _=>some (.str x)
 | .bytes b _=>some (.byt b)
 | .float b _=>some (.flt b)
 | .ref a=>some (.ref a)
 | .type n=>some (.ty n)
 | _=>none
theorem RelV.abs {x:V}{u:Value}(r:RelV x u):absV u=some x:=by
 cases x with
 | non=>cases r;rfl
 | bl _=>cases r;rfl
 | int _=>obtain⟨t,rfl⟩:=r;rfl
 | str _=>obtain⟨t,rfl⟩:=r;rfl
 | byt _=>obtain⟨t,rfl⟩:=r;rfl
 | flt _=>obtain⟨t,rfl⟩:=r;rfl
 | ref _=>cases r;rfl
 | ty _=>cases r;rfl
theorem RelV.inj {x y:V}{u:Value}(r:RelV x u)(q:RelV y u):x=y:=sI (r.abs.symm.trans q.abs)
theorem Vals.inj:∀{xs ys:List V}{us:List Value},Vals xs us->Vals ys us->xs=ys
 | _,_,_,.nil,.nil=>rfl
 | _,_,_,.cons r t,.cons r' t'=>by rw[r.inj r',Vals.inj t t']
section
variable {X:Cx}{pins:List (Addr × Obj)}{σ:St}{H:Hp}{s:Shared}{a:Addr}{xs ys:List V}
theorem Inv.list (I:Inv X pins σ H s)(h:SqL X.K H a xs):∃its:List Value,Vals xs its/\PlainL s.heap a its.toArray/\xs.length<=sizeLine:=by
 rcases h with h | ⟨o,its,n,hk,hc,hd,hs,hz,r⟩
 ·obtain⟨z, its, n, r, e⟩ := h.ok I.hok;exact⟨its,r,⟨_,n,e,rfl,rfl,rfl⟩,z⟩
 ·refine⟨its.toList, r, ⟨o, n, I.kIn a o hk, hc, hd, by simpa using hs⟩, ?_⟩;have e:=r.length;simp only [Array.length_toList] at e;omega
theorem Inv.tuple (I:Inv X pins σ H s)(h:SqT X.K H a xs):∃its:List Value,Vals xs its/\IsTup s.heap a its.toArray/\xs.length<=sizeLine:=by
 rcases h with h | ⟨o,its,n,hk,hc,hs,hz,r⟩
 ·obtain⟨z, its, r, p⟩ := h.ok I.hok;exact⟨its,r,p.t,z⟩
 ·refine⟨its.toList, r, ⟨o, I.kIn a o hk, hc, n, by simpa using hs⟩, ?_⟩;have e:=r.length;simp only [Array.length_toList] at e;omega
theorem Inv.list_inj (I:Inv X pins σ H s)(h:SqL X.K H a xs)(h' : SqL X.K H a ys):xs=ys:=by
 obtain⟨its,r,⟨o,n,e,_,_,d⟩,_⟩:=I.list h;obtain⟨its',r',⟨o',n',e',_,_,d'⟩,_⟩:=I.list h';rw[e] at e';obtain rfl:=sI e';rw[d] at d';injection d' with d1 _;have:its=its':=by simpa using congrArg Array.toList d1
 subst this;exact r.inj r'
theorem Inv.tuple_inj (I:Inv X pins σ H s)(h:SqT X.K H a xs)(h' : SqT X.K H a ys):xs=ys:=by
 obtain⟨its,r,⟨o,e,_,n,d⟩,_⟩:=I.tuple h;obtain⟨its',r',⟨o',e',_,n',d'⟩,_⟩:=I.tuple h';rw[e] at e';obtain rfl:=sI e';rw[d] at d';injection d' with d1 _;have:its=its':=by simpa using congrArg Array.toList d1
 subst this;exact r.inj r'
end
noncomputable abbrev Cx.wish (X:Cx) (E:Value->Shared->Prop):Cx:={ X with xe:=E }
noncomputable abbrev Cx.nox (X:Cx):Cx:=X.wish fun _ _=>False
theorem Cx.Ok.wish {X:Cx}(ok:X.Ok)(E:Value->Shared->Prop):(X.wish E).Ok :=
 ⟨ok.mod,ok.kind,ok.glob,ok.blt,ok.above,ok.inj,ok.has,ok.cab,ok.hd,ok.frames,ok.stk,ok.exf,ok.bs,ok.bsz,ok.noex,ok.exfs,ok.funs,ok.frf⟩
theorem Cx.Ok.unwish {X:Cx}{E:Value->Shared->Prop}(ok:(X.wish E).Ok):X.Ok :=
 ⟨ok.mod,ok.kind,ok.glob,ok.blt,ok.above,ok.inj,ok.has,ok.cab,ok.hd,ok.frames,ok.stk,ok.exf,ok.bs,ok.bsz,ok.noex,ok.exfs,ok.funs,ok.frf⟩
section
variable {X:Cx}{pins:List (Addr × Obj)}{σ:St}{H:Hp}{s:Shared}{E:Value->Shared->Prop}
theorem Inv.wish (I:Inv X pins σ H s)(E:Value->Shared->Prop):Inv (X.wish E) pins σ H s:=⟨I.ok.wish E,I.os,I.bare,I.base,I.loc,I.cell,I.free,I.freeC,I.pin,I.hok,I.len⟩
theorem Inv.unwish (I:Inv (X.wish E) pins σ H s):Inv X pins σ H s:=⟨I.ok.unwish,I.os,I.bare,I.base,I.loc,I.cell,I.free,I.freeC,I.pin,I.hok,I.len⟩
theorem SP.unwish {D:Ends}{f:Flow}{s' : Shared}(h:SP (X.wish E) pins D f s'):SP X pins D f s':=by
 cases f with
 | next=>obtain⟨σ',H',I,q⟩:=h;exact⟨σ',H',I.unwish,q⟩
 | brk=>obtain⟨σ',H',I,q⟩:=h;exact⟨σ',H',I.unwish,q⟩
 | cont=>obtain⟨σ',H',I,q⟩:=h;exact⟨σ',H',I.unwish,q⟩
 | ret u=>obtain⟨v,σ',H',I,r,q⟩:=h;exact⟨v,σ',H',I.unwish,r,q⟩
theorem PE.nox {e:Expr}{t:TE}(h:PE X.nox e t):PE X e t:=fun pins s σ H Q I hw =>
 wpAny_mono (h pins s σ H Q (I.wish _) hw) (fun _ _ ⟨v,H',I',r,q⟩=>⟨v,H',I'.unwish,r,q⟩) fun _ _ z=>False.elim z
theorem PSs.nox {st:List Stmt}{t:TS}(h:PSs X.nox st t):PSs X st t:=fun pins s σ H D I hw =>
 wpAny_mono (h pins s σ H D (I.wish _) hw) (fun _ _ q=>q.unwish) fun _ _ z=>False.elim z
end
section
variable {X:Cx}{st:Stmt}{rest:List Stmt}{t u:TS}{e:Expr}{te:TE}{pos:Pos}
noncomputable def zz6:TS:=fun D σ H=>D.nx σ H
noncomputable def tSeq (t u:TS):TS:=fun D σ H=>t { D with nx:=u D } σ H
theorem z03:PSs X [] zz6:=fun _ _ σ H _ I h=>wpAny_execs_nil ⟨σ,H,I,h⟩
theorem zvk (h1:PS X st t) (h2:PSs X rest u):PSs X (st::rest) (tSeq t u):=by
  intro pins s σ H D I h;refine wpAny_execs_cons (thn (h1 pins s σ H { D with nx:=u D } I h) fun f s1 q=>?_);cases f with
  | next =>
    obtain⟨σ',H',I',q⟩:=q;exact h2 pins s1 σ' H' D I' q
  | ret v=>exact q
  | brk=>exact q
  | cont=>exact q
theorem z0a (h1:PS X st t):PSs X [st] t:=by
 intro pins s σ H D I h;refine wpAny_execs_cons (thn (h1 pins s σ H D I h) fun f s1 q=>?_);cases f with
 | next=>exact wpAny_execs_nil q
 | ret v=>exact q
 | brk=>exact q
 | cont=>exact q
theorem z2b:PS X (.Pass pos) zz6:=fun _ _ σ H _ I h=>wpAny_Pass ⟨σ,H,I,h⟩
theorem Inv.quiet {pins:List (Addr × Obj)}{σ:St}{H:Hp}{s:Shared}(I:Inv X pins σ H s):interactive X.env=false:=by simp [interactive,I.ok.kind]
noncomputable def z4s (te:TE):TS:=fun D σ H=>te σ H fun _ H1=>D.nx σ H1
theorem z1z (he:PE X e te)(hs:swapsWith e none pos.line X.env=pure false:=by rfl):PS X (.Expr e pos) (z4s te):=by
 intro pins s σ H D I h;exact wpAny_Expr_any (thn (he pins s σ H _ I h) fun v s1 ⟨x,H1,I1,r1,q1⟩=>⟨σ,H1,I1,q1⟩) I.quiet hs
noncomputable def tRet (te:TE):TS:=fun D σ H=>te σ H D.rt
theorem zyp (he:PE X e te):PS X (.Return (some e) pos) (tRet te):=by
 intro pins s σ H D I h;exact wpAny_Return_some (thn (he pins s σ H _ I h) fun v s1 ⟨x,H1,I1,r1,q1⟩=>⟨x,σ,H1,I1,r1,q1⟩)
noncomputable def tIfS (c:TT) (t u:TS):TS:=fun D σ H=>c σ H fun b H1=>if b=true then t D σ H1 else u D σ H1
theorem z6j {c:Expr}{a b:List Stmt}{tc:TT}(hc:PT X c tc)(ha:PSs X a t)(hb:PSs X b u):PS X (.If c a b pos) (tIfS tc t u):=by
 intro pins s σ H D I h;refine wpAny_If (thn (hc pins s σ H _ I h) fun d s1 ⟨H1,I1,q1⟩=>?_);cases d with
 | true=>exact ha pins s1 σ H1 D I1 q1
 | false=>exact hb pins s1 σ H1 D I1 q1
end
noncomputable abbrev TG:=V->St->Hp->(St->Hp->Prop)->Prop
noncomputable abbrev TGs:=List V->St->Hp->(St->Hp->Prop)->Prop
noncomputable def PG (X:Cx) (target:Expr) (t:TG):Prop :=
  ∀(pins:List (Addr × Obj)) (s:Shared) (σ:St) (H:Hp) (v:V) (u:Value) (Q:St->Hp->Prop),Inv X pins σ H s->RelV v u->t v σ H Q ->
    wpAny (model X.prog X.w) X.A (assign target X.env u) (fun _ s'=>∃σ' H',Inv X pins σ' H' s'/\Q σ' H') X.xe s
noncomputable def PGs (X:Cx) (ts:List Expr) (t:TGs):Prop :=
  ∀(pins:List (Addr × Obj)) (s:Shared) (σ:St) (H:Hp) (vs:List V) (us:List Value) (Q:St->Hp->Prop),Inv X pins σ H s->Vals vs us->t vs σ H Q ->
    wpAny (model X.prog X.w) X.A (assignInOrder ((assignEach ts X.env).map (·.2)) us) (fun _ s'=>∃σ' H',Inv X pins σ' H' s'/\Q σ' H') X.xe s
noncomputable abbrev TSet:=V->V->V->Hp->(Hp->Prop)->Prop
noncomputable def PSet (X:Cx) (t:TSet):Prop :=
  ∀(pins:List (Addr × Obj)) (s:Shared) (σ:St) (H:Hp) (o i v:V) (ov iv u:Value) (Q:Hp->Prop),Inv X pins σ H s->RelV o ov->RelV i iv->RelV v u->t o i v H Q ->
    wpAny (model X.prog X.w) X.A (setItem ov iv u) (fun _ s'=>∃H',Inv X pins σ H' s'/\Q H') X.xe s
section
variable {X:Cx}{pos:Pos}
noncomputable def zlt (i:Nat):TG:=fun v σ H Q=>Q (σ.set i (some v)) H
theorem zlu {i:Nat}{x:Str}(hN:X.N.Nodup)(hi:X.N[i]?=some x)(hx:Loc X.env.scope x)(hf:X.fn x=true\/X.env.scope.names.lookup x=some .local:=by first | exact .inl rfl | exact .inr rfl | assumption):PG X (.Name x pos) (zlt i):=by
 intro pins s σ H v u Q I r h;exact wpAny_assign_Name (zfc I hN hi hx r (fun s' I'=>⟨_,H,I',h⟩) hf)
noncomputable def gNil:TGs:=fun vs σ H Q=>vs=[]/\Q σ H
noncomputable def zur (t:TG) (u:TGs):TGs:=fun vs σ H Q=>∃v r,vs=v::r/\t v σ H fun σ' H'=>u r σ' H' Q
theorem zsv:PGs X [] gNil:=by
 intro pins s σ H vs us Q I r h;obtain⟨e,h⟩:=h;subst e;cases r;exact assignInOrder_nil ⟨σ,H,I,h⟩
theorem zhe {e:Expr}{es:List Expr}{t:TG}{u:TGs} (h1:PG X e t) (h2:PGs X es u)
    (hs:(assignEach (e::es) X.env).map (·.2)=assign e X.env::(assignEach es X.env).map (·.2):=by rfl):PGs X (e::es) (zur t u):=by
  intro pins s σ H vs us Q I r h;obtain⟨v,vr,e1,h⟩:=h;subst e1;cases r with
  | cons r rr =>
    rw[hs];refine assignInOrder_cons (thn (h1 pins s σ H _ _ _ I r h) fun _ s1 ⟨σ1,H1,I1,q1⟩=>?_);exact h2 pins s1 σ1 H1 _ _ Q I1 rr q1
noncomputable def gTup (K:PySem.W.Frag) (n:Nat) (t:TGs):TG:=fun v σ H Q=>∃a xs,v=.ref a/\SqT K H a xs/\xs.length=n/\t xs σ H Q
theorem z4r {es:List Expr}{k:Nat}{t:TGs}{n:Nat} (hc:X.calm=true) (h:PGs X es t)
  (hn:(assignEach es X.env).length=n:=by rfl) (hst:(assignEach es X.env).findIdx? (·.1)=none:=by rfl):PG X (.Tuple es k pos) (gTup X.K n t):=by
 intro pins s σ H v u Q I r hw;nofun;obtain⟨a,xs,e1,hq,hl,hw⟩:=hw;ac_rfl;subst e1;cases r;nofun;obtain⟨its,rv,ht,hz⟩:=I.tuple hq;ac_rfl;refine assign_Tuple_tuple (I.ok.hd hc) ht (by simp [hn,<-hl,rv.length]) hst fun h' hx=>?_;have I1:Inv X pins σ H { s with heap:=h' }:=I.kept (t':=s.toks) fun b o e=>hx b o (Nat.ne_of_lt (Heap.lt_size e)) e;exact h pins _ σ H xs _ Q I1 (by simpa using rv) hw
noncomputable def gSub (to ti:TE) (t:TSet):TG:=fun v σ H Q=>to σ H fun o H1=>ti σ H1 fun i H2=>t o i v H2 fun H3=>Q σ H3
theorem z3p {o i:Expr}{to ti:TE}{t:TSet} (ho:PE X o to) (hi:PE X i ti) (hs:PSet X t)
  (ha:∀v,assign (.Subscript o i pos) X.env v=(do
   let ov <- holding [v] (eval o X.env)
   let iv <- holding [v,ov] (eval i X.env)
   standAt pos
   holding [v,ov,iv] (setItem ov iv v)
   release [v,ov,iv] []):=by intro _;rfl):PG X (.Subscript o i pos) (gSub to ti t):=by
 intro pins s σ H v u Q I r h;rw[ha];refine wpAny_bind (wpAny_holding (thn (ho pins s σ H _ I h) fun ov s1 ⟨x,H1,I1,r1,q1⟩=>?_));refine wpAny_bind (wpAny_holding (thn (hi pins s1 σ H1 _ I1 q1) fun iv s2 ⟨y,H2,I2,r2,q2⟩=>?_));refine wpAny_bind (wpAny_standAt (wpAny_bind (wpAny_holding (thn (hs pins s2 σ H2 x y v ov iv u _ I2 r1 r2 r q2) fun _ s3 ⟨H3,I3,q3⟩=>?_))));exact wpAny_release ⟨σ,H3,I3,q3⟩
noncomputable def tAsg (te:TE) (g:TG):TS:=fun D σ H=>te σ H fun x H1=>g x σ H1 D.nx
theorem z3h {tg e:Expr}{te:TE}{g:TG} (he:PE X e te) (hg:PG X tg g) (hs:swapsWithSole [tg] e pos.line X.env=pure false:=by rfl) (hw:swappedStores [tg] e X.env=pure none:=by rfl)
  (h1:(assignEach [tg] X.env).map (·.2)=[assign tg X.env]:=by rfl):PS X (.Assign [tg] e pos) (tAsg te g):=by
 intro pins s σ H D I h;refine wpAny_Assign_stores (thn (he pins s σ H _ I h) fun v s1 ⟨x,H1,I1,r1,q1⟩=>?_) hs hw;rw[h1];exact thn (hg pins s1 σ H1 x v _ I1 r1 q1) fun _ s2 q=>q
theorem zxv {i:Nat}{x:Str}{e:Expr}{te:TE}{pos' : Pos} (hN:X.N.Nodup) (hi:X.N[i]?=some x) (hx:Loc X.env.scope x) (he:PE X e te) (hs:swapsWith e (some (.Name x pos')) pos.line X.env=pure false:=by rfl) (hf:X.fn x=true\/X.env.scope.names.lookup x=some .local:=by first | exact .inl rfl | exact .inr rfl | assumption) :
  PS X (.Assign [.Name x pos'] e pos) (tAsg te (zlt i)):=by
 intro pins s σ H D I h;refine wpAny_Assign_Name (thn (he pins s σ H _ I h) fun v s1 ⟨y,H1,I1,r1,q1⟩=>?_) hs;exact zfc I1 hN hi hx r1 (fun s2 I2=>⟨_,H1,I2,q1⟩) hf
noncomputable def tPar (i j:Nat) (ta:TA):TS:=fun D σ H=>ta σ H fun vs H1=>∃v w,vs=[v,w]/\D.nx ((σ.set i (some v)).set j (some w)) H1
theorem z4b {i j:Nat}{x y:Str}{a b:Expr}{ta:TA}{px py pt:Pos}{kt k2 pt2} (hc:X.calm=true) (hN:X.N.Nodup) (hi:X.N[i]?=some x) (hj:X.N[j]?=some y) (hij:i≠j)
    (hx:X.env.scope.names.lookup x=some .local) (hy:X.env.scope.names.lookup y=some .local) (ha:PA X [a,b] ta)
    (hw:swappedStores [.Tuple [.Name x px,.Name y py] kt pt] (.Tuple [a,b] k2 pt2) X.env=pure (some [x,y]))
    (hs:swapsWithSole [.Tuple [.Name x px,.Name y py] kt pt] (.Tuple [a,b] k2 pt2) pos.line X.env=pure false:=by rfl) :
    PS X (.Assign [.Tuple [.Name x px,.Name y py] kt pt] (.Tuple [a,b] k2 pt2) pos) (tPar i j ta):=by
  intro pins s σ H D I h;rw [exec_Assign_arm];refine wpAny_bind (wpAny_standAt ?_);rw [hs];refine wpAny_bind (wpAny_pure ?_);rw [if_neg (by decide)];refine wpAny_bind (Tuple_ (thn (ha _ pins s σ H _ I h) fun us s1 ⟨vs,H1,I1,r1,q1⟩=>?_));refine aG fun _ qG=>?_;obtain ⟨v,w,e1,q1⟩:=q1;refine qG ?_;clear qG;subst e1;obtain ⟨u1,u2,rfl,rv,rw'⟩ : ∃u1 u2,us=[u1,u2]/\RelV v u1/\RelV w u2:=by
    cases r1 with
    | cons p q =>
      cases q with
      | cons p' q' =>
        cases q';exact⟨_,_,rfl,p,p'⟩
  refine wpAny_newObj_type ?_ (by show 2<=sizeLine;decide);have I2:Inv X pins σ H1 { s1 with heap:=s1.heap.push { cls:=.type "tuple",data:=.seq [u1,u2].toArray } }:=I1.kept (t':=s1.toks) fun b o e=>Heap.get?_push_of_some _ e;rw[hw];refine wpAny_bind (wpAny_pure ?_);show wpAny (model X.prog X.w) X.A (do rule "assign.swapped-stores";let items <- unpackItems (.ref s1.heap.objs.size) 2 none;assignInOrder [fun v=>bindName X.env y v,fun v=>bindName X.env x v] items.reverse;pure Flow.next) _ _ _;refine wpAny_bind (wpAny_rule (wpAny_bind (unpackItems_tuple (items:=#[u1,u2]) (I.ok.hd hc) (IsTup.new s1.heap _) fun h' hx'=>?_)));have I3:=I2.kept (h':=h') (t':=s1.toks) fun b o e=>hx' b o (Nat.ne_of_lt (Heap.lt_size e)) e;show wpAny _ _ (assignInOrder [fun v=>bindName X.env y v,fun v=>bindName X.env x v] [u2,u1] >>= fun _=>pure Flow.next) _ _ _;refine wpAny_bind (assignInOrder_cons (wpAny_bindName (zfc I3 hN hj (.inl hy) rw' (fun s2 I4=>?_) (.inr hy))));refine assignInOrder_cons (wpAny_bindName (zfc I4 hN hi (.inl hx) rv (fun s3 I5=>assignInOrder_nil (wpAny_pure ?_)) (.inr hx)));rw[List.set_comm _ _ (Ne.symm hij)] at I5;exact⟨_,H1,I5,q1⟩
end
section
variable {X:Cx}{pos:Pos}
end
structure It where
 go:Nat->Hp->Prop
 yld:Nat->Hp->V->Hp->Prop
 stop:Nat->Hp->Prop
noncomputable def FpOk (X:Cx) (pins:List (Addr × Obj)) (H:Hp) (b:Addr):Prop :=
 H b=none/\b≠X.env.locals/\b ∉ X.fs/\(b∈X.ex\/X.s₀.heap.objs.size<=b)/\(∀x c,X.env.cells.lookup x=some c->c≠b)/\∀p∈X.pn++pins,p.1≠b
theorem Inv.fpOk {X:Cx}{pins:List (Addr × Obj)}{σ:St}{H H' : Hp}{s:Shared}{b:Addr}(I:Inv X pins σ H s)(hb:s.heap.objs.size<=b)(hn:H' b=none):FpOk X pins H' b:=by
 refine⟨hn,Nat.ne_of_gt (Nat.lt_of_lt_of_le I.lt hb),I.nofs hb,.inr (Nat.le_trans I.sz hb),fun x c e z=>?_,fun p hp z=>?_⟩
 ·obtain⟨v, q⟩ := I.cell x c e;exact absurd (Nat.lt_of_lt_of_le q.lt (by rw[z];exact hb)) (Nat.lt_irrefl _)
 ·exact absurd (Nat.lt_of_lt_of_le (Heap.lt_size (I.pin p hp).1) (by rw[z];exact hb)) (Nat.lt_irrefl _)
structure Turn (P:Program) (w:World) (K:PySem.W.Frag) (tg:Expr) (J:It) (fp:List Addr) (it:Addr) (tn:Nat->Heap->Prop):Prop where
 mem:it∈fp
 obj:∀i h,tn i h->∀b∈fp,∃o,h.get? b=some o/\∀v,o.data≠.cell v
 keep:∀i h h',tn i h->(∀b∈fp,∀o,h.get? b=some o->h'.get? b=some o)->tn i h'
 item:∀(X:Cx),X.prog=P->X.w=w->X.K=K->X.calm=true->∀(i:Nat) (pins:List (Addr × Obj)) (s:Shared) (σ:St) (H:Hp) (E:Value->Shared->Prop),Inv X pins σ H s->(∀b∈fp,FpOk X pins H b)->tn i s.heap->J.go i H ->
  wpAny (model P w) X.A (pyNext (.ref it)) (fun r s1=>∃u,r=some u /\
   wpAny (model P w) X.A (letOwnedTupleGo tg (.ref it) u) (fun _ s2=>∃x H',Inv X pins σ H' s2/\RelV x u/\J.yld i H x H'/\tn (i+1) s2.heap/\∀b∈fp,H' b=none) E s1) E s
 done:∀(X:Cx),X.prog=P->X.w=w->X.K=K->X.calm=true->∀(i:Nat) (pins:List (Addr × Obj)) (s:Shared) (σ:St) (H:Hp) (E:Value->Shared->Prop),Inv X pins σ H s->(∀b∈fp,FpOk X pins H b)->tn i s.heap->J.stop i H ->
  wpAny (model P w) X.A (pyNext (.ref it)) (fun r s1=>r=none/\Inv X pins σ H s1) E s
 self:∀(A:Around) (i:Nat) (s:Shared) (Q:Value->Shared->Prop) (E:Value->Shared->Prop),tn i s.heap->Q (.ref it) s->wpAny (model P w) A (pyIter (.ref it)) Q E s
noncomputable abbrev TI:=St->Hp->(It->Hp->Prop)->Prop
noncomputable def PIE (X:Cx) (pins:List (Addr × Obj)) (σ:St) (tg:Expr) (R:It->Hp->Prop) (itv:Value) (s2:Shared):Prop :=
 ∃(it:Addr) (fp:List Addr) (tn:Nat->Heap->Prop) (J:It) (H' : Hp),itv=.ref it/\Inv X pins σ H' s2/\Turn X.prog X.w X.K tg J fp it tn/\tn 0 s2.heap/\(∀b∈fp,FpOk X pins H' b)/\R J H'
noncomputable def PI (X:Cx) (tg iter:Expr) (wi:TI):Prop :=
  ∀(pins:List (Addr × Obj)) (s:Shared) (σ:St) (H:Hp) (R:It->Hp->Prop),Inv X pins σ H s->wi σ H R ->
    wpAny (model X.prog X.w) X.A (eval iter X.env) (fun v s1=>wpAny (model X.prog X.w) X.A (pyIter v) (PIE X pins σ tg R) X.xe s1) X.xe s
theorem zww {M:Model}{A:Around}{E:Value->Shared->Prop}{s:Shared}{tg:Expr}{it:Addr}{u:Value}{o:Obj}{n:String}{vs:Array Value}{Q:Unit->Shared->Prop} (ho:s.heap.get? it=some o) (hc:o.cls=.type n) (hd:o.data=.fields vs)
    (hn:["enumerate","zip","dict_itemiterator","dict_reverseitemiterator","odict_iterator","itertools.zip_longest","itertools.pairwise"].contains n=false) (hQ:Q () s):wpAny M A (letOwnedTupleGo tg (.ref it) u) Q E s:=by
  unfold letOwnedTupleGo;cases tg<;>first
    | exact wpAny_pure hQ
    | (cases u<;>first
        | exact wpAny_pure hQ
        | (refine wpAny_bind (wpAny_load ho ?_)
           rw[hc,hd];show wpAny M A (if (["enumerate","zip","dict_itemiterator","dict_reverseitemiterator","odict_iterator","itertools.zip_longest","itertools.pairwise"].contains n && vs[0]? == some (rawInt _))=true then _ else _) Q E s;rw[if_neg (by intro h;rw[hn,Bool.false_and] at h;cases h)];exact wpAny_pure hQ))
noncomputable def Itl (K:PySem.W.Frag) (a:Addr):It :=
 ⟨fun i H=>∃xs x,SqL K H a xs/\xs[i]?=some x,fun i H x H'=>H'=H/\∀xs,SqL K H a xs->xs[i]?=some x,fun i H=>∃xs,SqL K H a xs/\xs.length<=i⟩
noncomputable def Itt (K:PySem.W.Frag) (a:Addr):It :=
 ⟨fun i H=>∃xs x,SqT K H a xs/\xs[i]?=some x,fun i H x H'=>H'=H/\∀xs,SqT K H a xs->xs[i]?=some x,fun i H=>∃xs,SqT K H a xs/\xs.length<=i⟩
noncomputable def Itr (lo:Int) (n:Nat):It:=⟨fun i _=>i < n,fun i H x H'=>H'=H/\x=.int (lo+i),fun i _=>n<=i⟩
theorem ztx {P:Program}{w:World}{K:PySem.W.Frag}{tg:Expr}(a it:Addr):Turn P w K tg (Itl K a) [it] it (fun i h=>h.IsListIter it a i) where
 mem:=by simp
 obj:=fun i h st b hb=>by
  have e:b=it:=by simpa using hb
  subst e;nofun;obtain⟨o,e,c,d⟩:=st;ac_rfl;exact⟨o,e,fun v z=>by rw[d] at z;cases z⟩
 keep:=fun i h h' st k=>st.at fun o e=>k it (by simp) o e
 item:=by
  intro X hP hw hK hc i pins s σ H E I hf st hg;subst hP hw hK;nofun;obtain⟨xs,x,hq,hx⟩:=hg;obtain⟨its,rv,p,hz⟩:=I.list hq;obtain⟨u,hu,ru⟩:=rv.get hx;obtain⟨f0,f1,f2,f3,f4,f5⟩:=hf it (by simp);ac_rfl;refine wpAny_pyNext_list_item st p.isList (x:=u) (by simpa using hu) fun h' st' sb=>?_;have I1:Inv X pins σ H { s with heap:=h' }:=I.turned (t':=s.toks) (fun b o hb e=>(sb.2 b hb).trans e) f0 f1 f3 f4 f5;nofun;obtain⟨o,e,c,d⟩:=id st';ac_rfl;exact⟨u,rfl,zww (s:={ s with heap:=h' }) e c d #v[0,9] ⟨x,H,I1,ru,⟨rfl,fun ys hy=>by rw[I.list_inj hy hq];exact hx⟩,st',fun b hb=>(hf b hb).1⟩⟩
 done:=by
  intro X hP hw hK hc i pins s σ H E I hf st hg;subst hP hw hK;nofun;obtain⟨xs,hq,hx⟩:=hg;obtain⟨its,rv,p,hz⟩:=I.list hq;obtain⟨f0,f1,f2,f3,f4,f5⟩:=hf it (by simp);ac_rfl;have hl:=rv.length;exact wpAny_pyNext_list_end (I.ok.hd hc) st p.isList (by simp;omega) fun h' eb=>⟨rfl,I.turned (t':=s.toks) (fun b o hb e=>eb b o hb e) f0 f1 f3 f4 f5⟩
 self:=fun _ _ _ _ _ st h=>wpAny_pyIter_listiter st h
theorem zpk {P:Program}{w:World}{K:PySem.W.Frag}{tg:Expr}(a it:Addr):Turn P w K tg (Itt K a) [it] it (fun i h=>h.IsTupleIter it a i) where
 mem:=by simp
 obj:=fun i h st b hb=>by
  have e:b=it:=by simpa using hb
  subst e;nofun;obtain⟨o,e,c,d⟩:=st;ac_rfl;exact⟨o,e,fun v z=>by rw[d] at z;cases z⟩
 keep:=fun i h h' st k=>st.at fun o e=>k it (by simp) o e
 item:=by
  intro X hP hw hK hc i pins s σ H E I hf st hg;subst hP hw hK;nofun;obtain⟨xs,x,hq,hx⟩:=hg;obtain⟨its,rv,p,hz⟩:=I.tuple hq;obtain⟨u,hu,ru⟩:=rv.get hx;obtain⟨f0,f1,f2,f3,f4,f5⟩:=hf it (by simp);ac_rfl;refine wpAny_pyNext_tuple_item st (show s.heap.IsTuple a its.toArray from p) (x:=u) (by simpa using hu) fun h' st' sb=>?_;have I1:Inv X pins σ H { s with heap:=h' }:=I.turned (t':=s.toks) (fun b o hb e=>(sb.2 b hb).trans e) f0 f1 f3 f4 f5;nofun;obtain⟨o,e,c,d⟩:=id st';ac_rfl;exact⟨u,rfl,zww (s:={ s with heap:=h' }) e c d #v[0,9] ⟨x,H,I1,ru,⟨rfl,fun ys hy=>by rw[I.tuple_inj hy hq];exact hx⟩,st',fun b hb=>(hf b hb).1⟩⟩
 done:=by
  intro X hP hw hK hc i pins s σ H E I hf st hg;subst hP hw hK;nofun;obtain⟨xs,hq,hx⟩:=hg;obtain⟨its,rv,p,hz⟩:=I.tuple hq;obtain⟨f0,f1,f2,f3,f4,f5⟩:=hf it (by simp);ac_rfl;have hl:=rv.length;exact wpAny_pyNext_tuple_end (I.ok.hd hc) st (show s.heap.IsTuple a its.toArray from p) (by simp;omega) fun h' eb=>⟨rfl,I.turned (t':=s.toks) (fun b o hb e=>eb b o hb e) f0 f1 f3 f4 f5⟩
 self:=fun _ _ _ _ _ st h=>wpAny_pyIter_tupleiter st h
theorem zpy {P:Program}{w:World}{K:PySem.W.Frag}{tg:Expr}(it:Addr)(lo:Int)(n:Nat):Turn P w K tg (Itr lo n) [it] it (fun i h=>IsRangeIter h it (lo+(i:Nat) * 1) ((n:Int) - (i:Nat)) 1) where
 mem:=by simp
 obj:=fun i h st b hb=>by
  have e:b=it:=by simpa using hb
  subst e;exact⟨_,st,fun v z=>by
   have z' : Data.fields _=Data.cell v:=z;cases z'⟩
 keep:=fun i h h' st k=>k it (by simp) _ st
 item:=by
  intro X hP hw hK hc i pins s σ H E I hf st hg;subst hP hw hK;nofun;obtain⟨f0,f1,f2,f3,f4,f5⟩:=hf it (by simp);ac_rfl;have W:=Walks.range (prog:=X.prog) (w:=X.w) (I.ok.hd hc) it lo 1 n;refine W.item i s _ _ hg st fun v h' tk hv st' kk=>?_;obtain⟨t,rfl⟩:=hv;have I1:Inv X pins σ H { s with heap:=h',toks:=tk }:=I.turned (fun b o hb e=>kk b o (by simpa using hb) e) f0 f1 f3 f4 f5;refine⟨_,rfl,zww (s:={ s with heap:=h',toks:=tk }) (n := "range_iterator") st' rfl rfl #v[0,9] ⟨.int (lo+i),H,I1,⟨t,?_⟩,⟨rfl,rfl⟩,st',fun b hb=>(hf b hb).1⟩⟩;rw[Int.mul_one]
 done:=by
  intro X hP hw hK hc i pins s σ H E I hf st hg;subst hP hw hK;nofun;obtain⟨f0,f1,f2,f3,f4,f5⟩:=hf it (by simp);ac_rfl;exact wpAny_pyNext_range_end (I.ok.hd hc) st (by have:n<=i:=hg;omega) fun h' eb=>⟨rfl,I.turned (t':=s.toks) (fun b o hb e=>eb b o hb e) f0 f1 f3 f4 f5⟩
 self:=fun _ _ _ _ _ st h=>wpAny_pyIter_rangeiter st h
section
variable {X:Cx}{tg:Expr}
theorem zus {pins:List (Addr × Obj)}{σ:St}{H:Hp}{s:Shared}{R:It->Hp->Prop}{E:Value->Shared->Prop}{lo hi:Int}{t u v:Tok}{tk:Nat} (I:Inv X pins σ H s) (h1:-(2 ^ 62)<=lo) (h2:lo < 2 ^ 62) (h3:-(2 ^ 62)<=hi) (h4:hi < 2 ^ 62)
  (q:R (Itr lo (hi - lo).toNat) H):wpAny (model X.prog X.w) X.A (pyIter (.ref s.heap.objs.size)) (PIE X pins σ tg R) E { s with heap:=s.heap.push { cls:=.type "range",data:=.fields #[.int lo t,.int hi u,.int 1 v] },toks:=tk }:=by
 refine wpAny_pyIter_range (IsRange.new ..) (small_one h1 h2 h3 h4) ?_;have I1:Inv X pins σ H { s with heap:=s.heap.push { cls:=.type "range",data:=.fields #[.int lo t,.int hi u,.int 1 v] },toks:=tk }:=I.kept fun b o e=>Heap.get?_push_of_some _ e;refine⟨(s.heap.push { cls:=.type "range",data:=.fields #[.int lo t,.int hi u,.int 1 v] }).objs.size,[(s.heap.push { cls:=.type "range",data:=.fields #[.int lo t,.int hi u,.int 1 v] }).objs.size],_,_,H,rfl,
  I1.kept (t':=tk) fun b o e=>Heap.get?_push_of_some _ e,zpy _ lo (hi - lo).toNat,?_,fun b hb=>?_,q⟩
 ·have e1 : lo + ((0 : Nat) : Int) * 1 = lo := by simp
  have e2:(((hi - lo).toNat:Nat):Int) - ((0:Nat):Int)=Builtin.Range.rangeSize lo hi 1:=by rw[rangeSize_one];split<;>omega
  show IsRangeIter _ _ (lo+((0:Nat):Int) * 1) ((((hi - lo).toNat:Nat):Int) - ((0:Nat):Int)) 1;rw[e1,e2];exact Heap.get?_push_size _ rfl
 ·have e : b = (s.heap.push { cls := .type "range", data := .fields #[.int lo t, .int hi u, .int 1 v] }).objs.size := by simpa using hb
  subst e;exact I1.fpOk (Nat.le_refl _) (I1.hok.fresh (Nat.le_refl _))
noncomputable def z45 (ta:TA):TI:=fun σ H R=>ta σ H fun vs H1=>∃j:Int,vs=[.int j]/\-(2 ^ 62)<=j/\j < 2 ^ 62/\R (Itr 0 j.toNat) H1
theorem zqz {a:Expr}{ta:TA}{p pos:Pos} (hg:Gl X "range") (hm:X.mg "range" = none) (ha:PA X [a] ta) (hs:starEach [a] X.env=[(false,eval a X.env)]:=by rfl):PI X tg (.Call (.Name "range" p) [a] [] pos) (z45 ta):=by
  intro pins s σ H R I h;refine Call_ (zdw I hg hm boot_range (PyProof.Rows.callWith_type1 (thn (ha pos pins s σ H _ I h) fun us s1 ⟨vs,H1,I1,r1,q1⟩=>?_) hs rfl));nofun;obtain⟨j,e,q1,q2,q⟩:=q1;ac_rfl;subst e;cases r1 with
  | cons r rr =>
    cases rr;obtain⟨t,rfl⟩:=r;exact call_range_1 (zus I1 #v[] #v[] q1 q2 (by simpa using q))
noncomputable def tFor (wi:TI) (g:TG) (tb:TS):TS:=fun D σ H=>wi σ H fun J H1=>∃W:Nat->Nat->St->Hp->Prop,(∃m,W 0 m σ H1)/\∀i m σ H,W i m σ H ->
 (J.stop i H/\D.nx σ H)\/(J.go i H/\∃N:St->Hp->Prop,(∀σ' H',N σ' H'->∃m',m' < m/\W (i+1) m' σ' H')/\∀x H',J.yld i H x H'->g x σ H' fun σ2 H2=>tb { D with nx:=N,ct:=N,bk:=D.nx } σ2 H2)
noncomputable def zj2 (fp:List Addr) (h:Heap):List (Addr × Obj):=fp.filterMap fun b=>(h.get? b).map fun o=>(b,o)
theorem zdl {fp:List Addr}{h:Heap}{b:Addr}{o:Obj}(hb:b∈fp)(e:h.get? b=some o):(b,o)∈zj2 fp h:=List.mem_filterMap.mpr ⟨b,hb,by rw[e];rfl⟩
theorem zto {fp:List Addr}{h:Heap}{p:Addr × Obj} (hp:p∈zj2 fp h):p.1∈fp/\h.get? p.1=some p.2:=by
  obtain⟨b,hb,e⟩:=List.mem_filterMap.mp hp;cases q:h.get? b with
  | none=>rw[q] at e;cases e
  | some o =>
    rw[q] at e;have e' : (b,o)=p:=sI e;subst e';exact⟨hb,q⟩
theorem Inv.pinned {pins:List (Addr × Obj)}{σ:St}{H:Hp}{s:Shared}{fp:List Addr}(I:Inv X pins σ H s)(hf:∀b∈fp,FpOk X pins H b)(ho:∀b∈fp,∃o,s.heap.get? b=some o/\∀v,o.data≠.cell v):Inv X (pins++zj2 fp s.heap) σ H s :=
 I.pins_of fun p hp=>(List.mem_append.mp hp).elim (fun z=>I.pin p (List.mem_append_right _ z)) fun z=>by
  nofun;obtain⟨hb,e⟩:=zto z;obtain⟨f0,f1,f2,_⟩:=hf p.1 hb;obtain⟨o,e',d⟩:=ho p.1 hb;ac_rfl;rw[e] at e';obtain rfl:=sI e';exact⟨e,f0,f1,f2,d⟩
theorem Inv.unpinned {pins pl:List (Addr × Obj)}{σ:St}{H:Hp}{s:Shared}(I:Inv X (pins++pl) σ H s):Inv X pins σ H s:=I.pins_of fun p hp=>I.pin p (List.mem_append_right _ (List.mem_append_left _ hp))
theorem z4p {iter:Expr}{body:List Stmt}{wi:TI}{g:TG}{tb:TS}{pos:Pos} (hp:PassesOwn (model X.prog X.w) X.A X.env X.xe) (hc:X.calm=true) (hi:PI X tg iter wi) (hg:PG X tg g) (hb:PSs X body tb)
  (hs:∀x,foldedSetIterable iter X.env x=pure x:=by intro _;rfl):PS X (.For tg iter body [] pos) (tFor wi g tb):=by
 intro pins s σ H D I h;refine wpAny_For (thn (hi pins s σ H _ I h) fun v s1 h1=>thn h1 fun itv s2 h2=>?_) hs;nofun;obtain⟨it,fp,tn,J,H2,e,I2,T,st2,f2,W,⟨m0,w0⟩,turn⟩:=h2;ac_rfl;subst e;have stat:∀{H' : Hp},(∀b∈fp,H' b=none)->∀b∈fp,FpOk X pins H' b:=fun hn b hb=>⟨hn b hb,(f2 b hb).2⟩;refine codeAny_forLoop_any (fun n s'=>∃i σ' H',Inv X pins σ' H' s'/\tn i s'.heap/\(∀b∈fp,H' b=none)/\W i n σ' H') ?_ m0 ⟨0,σ,H2,I2,st2,fun b hb=>(f2 b hb).1,w0⟩;rintro n s3 ⟨i,σ3,H3,I3,st3,fr3,w3⟩;rcases turn i n σ3 H3 w3 with ⟨stop,qn⟩ | ⟨go,N,hN,step⟩
 ·refine wpAny_passesOwn hp (thn (T.done X rfl rfl rfl hc i pins s3 σ3 H3 X.xe I3 (stat fr3) st3 stop) fun r s4 ⟨hr, I4⟩ => ?_);subst hr;exact wpAny_execs_nil ⟨σ3,H3,I4,qn⟩
 ·refine wpAny_passesOwn hp (thn (T.item X rfl rfl rfl hc i pins s3 σ3 H3 X.xe I3 (stat fr3) st3 go) fun r s4 ⟨u, hr, h4⟩ => ?_);subst hr;refine wpAny_passesOwn hp (thn h4 fun _ s5 ⟨x,H5,I5,r5,y5,st5,fr5⟩=>?_);have I5':=I5.pinned (stat fr5) (T.obj _ _ st5);refine wpAny_passesOwn hp (thn (hg _ s5 σ3 H5 x u _ I5' r5 (step x H5 y5)) fun _ s6 ⟨σ6,H6,I6,q6⟩=>?_);refine wpAny_passesOwn hp (thn (hb _ s6 σ6 H6 _ I6 q6) fun f s7 q7=>?_);have again:∀{σ7:St}{H7:Hp},Inv X (pins++zj2 fp s5.heap) σ7 H7 s7->N σ7 H7->∃m,m < n/\∃i σ' H',Inv X pins σ' H' s7/\tn i s7.heap/\(∀b∈fp,H' b=none)/\W i m σ' H':=fun {σ7 H7} I7 n7=>by
   obtain⟨m',hm,w7⟩:=hN σ7 H7 n7;refine⟨m',hm,i+1,σ7,H7,I7.unpinned,T.keep _ _ _ st5 fun b hb o e=>(I7.pin (b,o) (List.mem_append_right _ (List.mem_append_right _ (zdl hb e)))).1,fun b hb=>?_,w7⟩;obtain⟨o,e,d⟩:=T.obj _ _ st5 b hb;exact (I7.pin (b,o) (List.mem_append_right _ (List.mem_append_right _ (zdl hb e)))).2.1
  cases f with
  | next=>obtain⟨σ7,H7,I7,n7⟩:=q7;exact again I7 n7
  | cont=>obtain⟨σ7,H7,I7,n7⟩:=q7;exact again I7 n7
  | brk=>obtain⟨σ7,H7,I7,q7⟩:=q7;exact⟨σ7,H7,I7.unpinned,q7⟩
  | ret v=>obtain⟨x7,σ7,H7,I7,r7,q7⟩:=q7;exact⟨x7,σ7,H7,I7.unpinned,r7,q7⟩
end
noncomputable abbrev R2:=V->V->Hp->VK->Prop
noncomputable def OpR (X:Cx) (f:Value->Value->Sem Value) (r:R2):Prop :=
  ∀(pins:List (Addr × Obj)) (s:Shared) (σ:St) (H:Hp) (x y:V) (v u:Value) (Q:VK),Inv X pins σ H s->RelV x v->RelV y u->r x y H Q ->
    wpAny (model X.prog X.w) X.A (f v u) (EP X pins σ Q) X.xe s
noncomputable def UnR (X:Cx) (f:Value->Sem Value) (r:V->Hp->VK->Prop):Prop :=
  ∀(pins:List (Addr × Obj)) (s:Shared) (σ:St) (H:Hp) (x:V) (v:Value) (Q:VK),Inv X pins σ H s->RelV x v->r x H Q ->
    wpAny (model X.prog X.w) X.A (f v) (EP X pins σ Q) X.xe s
noncomputable def zc9 (X:Cx) (f:Value) (r:List V->Hp->VK->Prop):Prop :=
  ∀(pins:List (Addr × Obj)) (s:Shared) (σ:St) (H:Hp) (xs:List V) (us:List Value) (Q:VK),Inv X pins σ H s->Vals xs us->r xs H Q ->
    wpAny (model X.prog X.w) X.A (call f us) (EP X pins σ Q) X.xe s
noncomputable def tOp (r:R2) (ta tb:TE):TE:=fun σ H Q=>ta σ H fun x H1=>tb σ H1 fun y H2=>r x y H2 Q
noncomputable def tUn (r:V->Hp->VK->Prop) (ta:TE):TE:=fun σ H Q=>ta σ H fun x H1=>r x H1 Q
noncomputable def rI (C:Int->Int->Prop) (g:Int->Int->V):R2:=fun x y H Q=>∃i j,x=.int i/\y=.int j/\C i j/\Q (g i j) H
noncomputable def rI0 (g:Int->Int->V):R2:=fun x y H Q=>∃i j,x=.int i/\y=.int j/\Q (g i j) H
noncomputable def rU (g:Int->V):V->Hp->VK->Prop:=fun x H Q=>∃i,x=.int i/\Q (g i) H
section
variable {X:Cx}{a b c:Expr}{ta tb tc:TE}{pos:Pos}
theorem binT (ha:PE X a ta) (hb:PE X b tb) {pins:List (Addr × Obj)}{s:Shared}{σ:St}{H:Hp}{R:V->V->Hp->Prop} (I:Inv X pins σ H s)
  (h:ta σ H fun x H1=>tb σ H1 fun y H2=>R x y H2) {Q:Value->Shared->Prop}{f:Value->Value->Sem Value}
  (hf:∀v u s2 x y H2,Inv X pins σ H2 s2->RelV x v->RelV y u->R x y H2->wpAny (model X.prog X.w) X.A (f v u) Q X.xe s2) :
  wpAny (model X.prog X.w) X.A (eval a X.env) (fun v s₁=>wpAny (model X.prog X.w) X.A (eval b X.env) (fun u s₂=>wpAny (model X.prog X.w) X.A (f v u) Q X.xe s₂) X.xe s₁) X.xe s:=by
 refine thn (ha pins s σ H _ I h) fun v s1 ⟨x,H1,I1,r1,q1⟩=>?_;refine thn (hb pins s1 σ H1 _ I1 q1) fun u s2 ⟨y,H2,I2,r2,q2⟩=>?_;exact hf v u s2 x y H2 I2 r1 r2 q2
theorem z6z {op:Operator}{r:R2}(ho:OpR X (binaryOp op) r)(ha:PE X a ta)(hb:PE X b tb):PE X (.BinOp a op b pos) (tOp r ta tb):=by
 intro pins s σ H Q I h;exact wpAny_BinOp (binT ha hb I h fun v u s2 x y H2 I2 rx ry q=>ho pins s2 σ H2 x y v u Q I2 rx ry q)
theorem z6m {op:UnaryOp}{r:V->Hp->VK->Prop}(ho:UnR X (unaryOp op) r)(ha:PE X a ta):PE X (.UnaryOp op a pos) (tUn r ta):=by
 intro pins s σ H Q I h;exact UnaryOp_ (thn (ha pins s σ H _ I h) fun v s1 ⟨x,H1,I1,r1,q1⟩=>ho pins s1 σ H1 x v Q I1 r1 q1)
theorem opI {f:Value->Value->Sem Value}{C:Int->Int->Prop}{g:Int->Int->Int}
  (rule:∀(i j:Int) (t u:Tok) (s:Shared) (Q:Value->Shared->Prop) (E:Value->Shared->Prop),C i j->Q (.int (g i j) s.toks) { s with toks:=s.toks+1 }->wpAny (model X.prog X.w) X.A (f (.int i t) (.int j u)) Q E s) :
  OpR X f (rI C fun i j=>.int (g i j)):=by
 intro pins s σ H x y v u Q I rx ry h;obtain⟨i,j,rfl,rfl,hc,q⟩:=h;obtain⟨t,rfl⟩:=rx;obtain⟨t',rfl⟩:=ry;exact rule i j t t' s _ _ hc ⟨.int (g i j),H,I.tok _,⟨_,rfl⟩,q⟩
theorem opI0 {f:Value->Value->Sem Value}{g:Int->Int->Int}
  (rule:∀(i j:Int) (t u:Tok) (s:Shared) (Q:Value->Shared->Prop) (E:Value->Shared->Prop),Q (.int (g i j) s.toks) { s with toks:=s.toks+1 }->wpAny (model X.prog X.w) X.A (f (.int i t) (.int j u)) Q E s) :
  OpR X f (rI0 fun i j=>.int (g i j)):=by
 intro pins s σ H x y v u Q I rx ry h;obtain⟨i,j,rfl,rfl,q⟩:=h;obtain⟨t,rfl⟩:=rx;obtain⟨t',rfl⟩:=ry;exact rule i j t t' s _ _ ⟨.int (g i j),H,I.tok _,⟨_,rfl⟩,q⟩
theorem opB0 {f:Value->Value->Sem Value}{g:Int->Int->Bool}
  (rule:∀(i j:Int) (t u:Tok) (s:Shared) (Q:Value->Shared->Prop) (E:Value->Shared->Prop),Q (.bool (g i j)) s->wpAny (model X.prog X.w) X.A (f (.int i t) (.int j u)) Q E s) :
  OpR X f (rI0 fun i j=>.bl (g i j)):=by
 intro pins s σ H x y v u Q I rx ry h;obtain⟨i,j,rfl,rfl,q⟩:=h;obtain⟨t,rfl⟩:=rx;obtain⟨t',rfl⟩:=ry;exact rule i j t t' s _ _ ⟨.bl (g i j),H,I,rfl,q⟩
noncomputable def CPow (i j:Int):Prop:=0<=j/\j<=1000000/\i.natAbs < 2 ^ 64
noncomputable def CMul (i j:Int):Prop:=(-(2 ^ 64) < i/\i < 2 ^ 64)\/(-(2 ^ 64) < j/\j < 2 ^ 64)
theorem CMul.ok {i j:Int}(h:CMul i j):IntMulOk i j:=by
 rcases h with ⟨h1,h2⟩ | ⟨h1,h2⟩
 ·exact .of_left (intBits_le_64 h1 h2)
 ·exact .of_right (intBits_le_64 h1 h2)
theorem zpg (k:Nat):(0:Int)<=2 ^ k:=by
 rw[two_pow_cast];exact Int.natCast_nonneg _
theorem z2r:OpR X (binaryOp .Add) (rI0 fun i j=>.int (i+j)):=opI0 fun _ _ _ _ _ _ _ q=>add_int q
theorem z5z:OpR X (binaryOp .Sub) (rI0 fun i j=>.int (i - j)):=opI0 fun _ _ _ _ _ _ _ q=>sub_int q
theorem z5p:OpR X (binaryOp .Mult) (rI CMul fun i j=>.int (i * j)):=opI fun _ _ _ _ _ _ _ hc q=>mul_int q hc.ok
theorem z41:OpR X (binaryOp .Mod) (rI (fun _ j=>0 < j) fun i j=>.int (i % j)):=opI fun i j _ _ _ _ _ hc q=>by
 have h1:(0:Int) < j:=hc;exact mod_int' #v[] (by rw[Int.fmod_eq_emod_of_nonneg i #v[]];exact q)
theorem z30:OpR X (binaryOp .Pow) (rI CPow fun i j=>.int (i ^ j.toNat)):=opI fun _ _ _ _ _ _ _ hc q=>pow_int_small hc.1 hc.2.1 hc.2.2 q
theorem z44:OpR X (binaryOp .LShift) (rI CPow fun i j=>.int (i * 2 ^ j.toNat)):=opI fun _ _ _ _ _ _ _ hc q=>lshift_int_small hc.1 hc.2.1 hc.2.2 q
theorem z2w:OpR X (binaryOp .RShift) (rI (fun _ j=>0<=j) fun i j=>.int (i / 2 ^ j.toNat)):=opI fun i j _ _ _ _ _ hc q =>
 rshift_int hc (by rw[Int.fdiv_eq_ediv_of_nonneg i (zpg _)];exact q)
theorem z22:OpR X (binaryOp .BitAnd) (rI0 fun i j=>.int (Builtin.bitAnd i j)):=opI0 fun _ _ _ _ _ _ _ q=>and_int q
theorem z7k:OpR X (binaryOp .BitOr) (rI0 fun i j=>.int (Builtin.bitOr i j)):=opI0 fun _ _ _ _ _ _ _ q=>or_int q
theorem z4z:OpR X (binaryOp .BitXor) (rI0 fun i j=>.int (Builtin.bitXor i j)):=opI0 fun _ _ _ _ _ _ _ q=>xor_int q
theorem unI {f:Value->Sem Value}{g:Int->Int}
  (rule:∀(i:Int) (t:Tok) (s:Shared) (Q:Value->Shared->Prop) (E:Value->Shared->Prop),Q (.int (g i) s.toks) { s with toks:=s.toks+1 }->wpAny (model X.prog X.w) X.A (f (.int i t)) Q E s) :
  UnR X f (rU fun i=>.int (g i)):=by
 intro pins s σ H x v Q I rx h;obtain⟨i,rfl,q⟩:=h;obtain⟨t,rfl⟩:=rx;exact rule i t s _ _ ⟨.int (g i),H,I.tok _,⟨_,rfl⟩,q⟩
theorem z4e:UnR X (unaryOp .USub) (rU fun i=>.int (-i)):=unI fun _ _ _ _ _ q=>neg_int q
end
noncomputable def scal:V->V->Bool
 | .non,.non=>true | .non,.int _=>true | .int _,.non=>true | .non,.bl _=>true | .bl _,.non=>true | .non,.str _=>true | .str _,.non=>true
 | .int _,.int _=>true | .bl _,.bl _=>true | .str _,.str _=>true | .byt _,.byt _=>true
 | .int _,.str _=>true | .str _,.int _=>true | .bl _,.str _=>true | .str _,.bl _=>true
 | _,_=>false
noncomputable def rEq:R2:=fun x y H Q=>scal x y=true/\Q (.bl (decide (x=y))) H
noncomputable def rNe:R2:=fun x y H Q=>scal x y=true/\Q (.bl (!decide (x=y))) H
theorem zr0 {i j:Int}:decide (V.int i=V.int j)=(i == j):=by
 rw[Bool.eq_iff_iff];simp
theorem zyc {i j:Bool}:decide (V.bl i=V.bl j)=(i == j):=by
 rw[Bool.eq_iff_iff];simp
theorem zso {i j:Str}:decide (V.str i=V.str j)=(i == j):=by
 rw[Bool.eq_iff_iff];simp
theorem zss {i j:Array UInt8}:decide (V.byt i=V.byt j)=(i.toList == j.toList):=by
 rw[Bool.eq_iff_iff];cases i;cases j;simp
section
variable {X:Cx}{a b c:Expr}{ta tb tc:TE}{pos:Pos}
theorem zae {pins:List (Addr × Obj)}{σ:St}{H:Hp}{s:Shared}{Q:VK}{k k' : Bool}(I:Inv X pins σ H s)(q:Q (.bl k) H)(e:k=k'):EP X pins σ Q (.bool k') s:=by
 subst e;exact⟨.bl k,H,I,rfl,q⟩
theorem z6v:OpR X (compareOp .Eq) rEq:=by
  intro pins s σ H x y v u Q I rx ry h;obtain⟨hs,q⟩:=h;cases x with
  | non =>
    cases rx;cases y with
    | non=>cases ry;exact PySem.EqNone.eq_none_none (zae I q (by simp))
    | bl j=>cases ry;exact PySem.EqNone.eq_none_bool (zae I q (by simp))
    | int j=>obtain⟨t',rfl⟩:=ry;exact PySem.EqNone.eq_none_int (zae I q (by simp))
    | str j=>obtain⟨t',rfl⟩:=ry;exact PySem.EqNone.eq_none_str (zae I q (by simp))
    | _=>exact absurd (show false=true from hs) Bool.false_ne_true
  | bl i =>
    cases rx;cases y with
    | non=>cases ry;exact PySem.EqNone.eq_bool_none (zae I q (by simp))
    | bl j=>cases ry;exact eq_bool (zae I q zyc)
    | str j=>obtain⟨t',rfl⟩:=ry;exact PySem.EqMixed.eq_bool_str (zae I q (by simp))
    | _=>exact absurd (show false=true from hs) Bool.false_ne_true
  | int i =>
    obtain⟨t,rfl⟩:=rx;cases y with
    | non=>cases ry;exact PySem.EqNone.eq_int_none (zae I q (by simp))
    | int j=>obtain⟨t',rfl⟩:=ry;exact eq_int (zae I q zr0)
    | str j=>obtain⟨t',rfl⟩:=ry;exact PySem.EqMixed.eq_int_str (zae I q (by simp))
    | _=>exact absurd (show false=true from hs) Bool.false_ne_true
  | str i =>
    obtain⟨t,rfl⟩:=rx;cases y with
    | non=>cases ry;exact PySem.EqNone.eq_str_none (zae I q (by simp))
    | bl j=>cases ry;exact PySem.EqMixed.eq_str_bool (zae I q (by simp))
    | int j=>obtain⟨t',rfl⟩:=ry;exact PySem.EqMixed.eq_str_int (zae I q (by simp))
    | str j=>obtain⟨t',rfl⟩:=ry;exact eq_str (zae I q zso)
    | _=>exact absurd (show false=true from hs) Bool.false_ne_true
  | byt i =>
    obtain⟨t,rfl⟩:=rx;cases y with
    | byt j=>obtain⟨t',rfl⟩:=ry;exact PySem.W.eq_bytes (zae I q zss)
    | _=>exact absurd (show false=true from hs) Bool.false_ne_true
  | _=>cases y<;>exact absurd (show false=true from hs) Bool.false_ne_true
theorem z6x:OpR X (compareOp .NotEq) rNe:=by
  intro pins s σ H x y v u Q I rx ry h;obtain⟨hs,q⟩:=h;cases x with
  | non =>
    cases rx;cases y with
    | non=>cases ry;exact PySem.EqNone.ne_none_none (zae I q (by simp))
    | bl j=>cases ry;exact PySem.EqNone.ne_none_bool (zae I q (by simp))
    | int j=>obtain⟨t',rfl⟩:=ry;exact PySem.EqNone.ne_none_int (zae I q (by simp))
    | str j=>obtain⟨t',rfl⟩:=ry;exact PySem.EqNone.ne_none_str (zae I q (by simp))
    | _=>exact absurd (show false=true from hs) Bool.false_ne_true
  | bl i =>
    cases rx;cases y with
    | non=>cases ry;exact PySem.EqNone.ne_bool_none (zae I q (by simp))
    | bl j=>cases ry;exact ne_bool (zae I q (congrArg not zyc))
    | str j=>obtain⟨t',rfl⟩:=ry;exact PySem.EqMixed.ne_bool_str (zae I q (by simp))
    | _=>exact absurd (show false=true from hs) Bool.false_ne_true
  | int i =>
    obtain⟨t,rfl⟩:=rx;cases y with
    | non=>cases ry;exact PySem.EqNone.ne_int_none (zae I q (by simp))
    | int j=>obtain⟨t',rfl⟩:=ry;exact ne_int (zae I q (congrArg not zr0))
    | str j=>obtain⟨t',rfl⟩:=ry;exact PySem.EqMixed.ne_int_str (zae I q (by simp))
    | _=>exact absurd (show false=true from hs) Bool.false_ne_true
  | str i =>
    obtain⟨t,rfl⟩:=rx;cases y with
    | non=>cases ry;exact PySem.EqNone.ne_str_none (zae I q (by simp))
    | bl j=>cases ry;exact PySem.EqMixed.ne_str_bool (zae I q (by simp))
    | int j=>obtain⟨t',rfl⟩:=ry;exact PySem.EqMixed.ne_str_int (zae I q (by simp))
    | str j=>obtain⟨t',rfl⟩:=ry;exact ne_str (zae I q (congrArg not zso))
    | _=>exact absurd (show false=true from hs) Bool.false_ne_true
  | byt i =>
    obtain⟨t,rfl⟩:=rx;cases y with
    | byt j=>obtain⟨t',rfl⟩:=ry;exact PySem.W.ne_bytes (zae I q (congrArg not zss))
    | _=>exact absurd (show false=true from hs) Bool.false_ne_true
  | _=>cases y<;>exact absurd (show false=true from hs) Bool.false_ne_true
theorem z7m:OpR X (compareOp .Lt) (rI0 fun i j=>.bl (decide (i < j))):=opB0 fun _ _ _ _ _ _ _ q=>lt_int q
theorem z6o:OpR X (compareOp .LtE) (rI0 fun i j=>.bl (decide (i<=j))):=opB0 fun _ _ _ _ _ _ _ q=>le_int q
theorem z7q:OpR X (compareOp .Gt) (rI0 fun i j=>.bl (decide (j < i))):=opB0 fun _ _ _ _ _ _ _ q=>gt_int q
theorem z61:OpR X (compareOp .GtE) (rI0 fun i j=>.bl (decide (j<=i))):=opB0 fun _ _ _ _ _ _ _ q=>ge_int q
theorem zzt:OpR X (compareOp .IsNot) (fun x y H Q=>y=.non/\Q (.bl (!decide (x=.non))) H):=by
 intro pins s σ H x y v u Q I rx ry h;obtain⟨rfl,q⟩:=h;cases ry;refine isnot_none_gen (zae I q ?_);cases x<;>first
  | (cases rx;rfl)
  | (obtain⟨t,rfl⟩:=rx;rfl)
theorem OpR.or {f:Value->Value->Sem Value}{r r' : R2}(h:OpR X f r)(h' : OpR X f r'):OpR X f (fun x y H Q=>r x y H Q\/r' x y H Q):=by
 intro pins s σ H x y v u Q I rx ry q;rcases q with q | q
 ·exact h pins s σ H x y v u Q I rx ry q
 ·exact h' pins s σ H x y v u Q I rx ry q
theorem zy9 {op:CmpOp}{r:R2}(ho:OpR X (compareOp op) r)(ha:PE X a ta)(hb:PE X b tb)(hm:behindInMarks op b=false):PE X (.Compare a [op] [b] pos) (tOp r ta tb):=by
 intro pins s σ H Q I h;exact wpAny_Compare1 (binT ha hb I h fun v u s2 x y H2 I2 rx ry q=>ho pins s2 σ H2 x y v u Q I2 rx ry q) hm
noncomputable def z5i (t:TE):TT:=fun σ H Q=>t σ H fun x H'=>∃k,x=.bl k/\Q k H'
theorem z0b {op:CmpOp}{r:R2}(ho:OpR X (compareOp op) r)(ha:PE X a ta)(hb:PE X b tb)(hm:behindInMarks op b=false):PT X (.Compare a [op] [b] pos) (z5i (tOp r ta tb)):=by
 intro pins s σ H Q I h;refine wpAny_isTrue_Compare1 (thn (ha pins s σ H _ I h) fun v s1 ⟨x,H1,I1,r1,q1⟩=>thn (hb pins s1 σ H1 _ I1 q1) fun u s2 ⟨y,H2,I2,r2,q2⟩ =>
  thn (ho pins s2 σ H2 x y v u _ I2 r1 r2 q2) fun c s3 ⟨z,H3,I3,r3,k,e,q3⟩=>?_) hm
 subst e;cases r3;exact wpAny_truthy_bool ⟨H3,I3,q3⟩
theorem znf:(sizeLine:Nat) < 2 ^ 63:=by rw[sizeLine_eq];decide
theorem zoz:OpR X (binaryOp .Add) (fun x y H Q=>∃i j,x=.str i/\y=.str j/\i.length+j.length<=sizeLine/\Q (.str (i++j)) H):=by
 intro pins s σ H x y v u Q I rx ry h;obtain⟨i,j,rfl,rfl,hz,q⟩:=h;obtain⟨t,rfl⟩:=rx;obtain⟨t',rfl⟩:=ry;exact add_str (fun t' tk=>⟨.str (i++j),H,I.tok _,⟨_,rfl⟩,q⟩) hz
theorem vals1 {x:V}{us:List Value}(r:Vals [x] us):∃u,us=[u]/\RelV x u:=by
 cases r with
 | cons r1 r2=>cases r2;exact⟨_,rfl,r1⟩
theorem zwu:zc9 X (.builtin "abs") (fun xs H Q=>∃i,xs=[.int i]/\Q (.int (if i < 0 then -i else i)) H):=by
 intro pins s σ H xs us Q I r h;obtain⟨i,rfl,q⟩:=h;obtain⟨u,rfl,t,rfl⟩:=vals1 r;exact call_abs_int fun u tk=>⟨.int (if i < 0 then -i else i),H,I.tok _,⟨_,rfl⟩,q⟩
theorem ztm:zc9 X (.type "int") (fun xs H Q=>(∃i,xs=[.int i]/\Q (.int i) H)\/∃k,xs=[.bl k]/\Q (.int (if k then 1 else 0)) H):=by
 intro pins s σ H xs us Q I r h;rcases h with ⟨i,rfl,q⟩ | ⟨k,rfl,q⟩
 ·obtain⟨u, rfl, t, rfl⟩ := vals1 r;exact call_int_int ⟨.int i,H,I,⟨_,rfl⟩,q⟩
 ·obtain⟨u, rfl, r1⟩ := vals1 r;cases r1;exact call_int_bool ⟨.int (if k then 1 else 0),H,I.tok _,⟨_,rfl⟩,q⟩
end
structure ObjM (h:Heap) (x dx C:Addr) (mA:Str->Option Value):Prop where
 obj:h.get? x=some (PySem.W.instObj C dx)
 ns:h.Ns1 dx mA
 ne:dx≠x
theorem zrq {h:Heap}{dx:Addr}{mA:Str->Option Value}(n:h.Ns1 dx mA):∃od,h.get? dx=some od/\∀name,PySem.W.lookIn name od=some (mA name):=by
 nofun;obtain⟨o,es,ep,ho,hd,hk,_,hm⟩:=n;ac_rfl;refine⟨o,ho,fun name=>?_⟩;have e:=hm name;unfold nsFind findBy at e;rw[<-Array.find?_toList] at e;unfold PySem.W.lookIn;rw[hd];dsimp only;split
 ·rename_i y q;rw[q] at e;exact congrArg some e
 ·rename_i q;rw [q] at e;have a:es.toList.any (·.refKey)=false:=by
   rw[List.any_eq_false];intro y hy;obtain⟨z,t,hkey⟩:=hk y (Array.mem_toList_iff.mp hy);simp [DictEntry.refKey,hkey]
  have a' : ¬ es.toList.any (·.refKey)=true:=by rw[a];exact Bool.false_ne_true
  rw[if_neg a'];exact congrArg some e
theorem ObjM.look {h:Heap}{x dx C:Addr}{mA:Str->Option Value}(I:ObjM h x dx C mA):∃od,PySem.W.InstAt h x (PySem.W.instObj C dx) C (some od)/\∀name,PySem.W.lookIn name od=some (mA name) :=
 let ⟨od,ho,hl⟩:=zrq I.ns
 ⟨od,⟨I.obj,rfl,rfl,ho⟩,hl⟩
section
variable {prog:Program}{w:World}{A:Around}{E:Value->Shared->Prop}{s:Shared}{K:PySem.W.Frag}{x dx C f:Addr}{mA:Str->Option Value}{name:Str}{v:Value}
end
section
variable {P:Program}{w:World}{H H' : Hp}{h h' : Heap}{a C dx:Addr}{fs fs' : List (Str × V)}
theorem z2d (hok:HOk P w H h)(e:H a=some (.ins C dx fs)):∃mA,ObjM h a dx C mA/\(∀f,RelO (fs.lookup f) (mA f))/\PySem.Within mA (fs.map (·.1))/\fs.length<=1000/\H dx=some (.own a):=by
 nofun;obtain⟨d,z,ne,ob,mA,n,r,q⟩:=(show ObjOk P w H h a (.ins C dx fs) from hok a _ e);ac_rfl;exact⟨mA,⟨ob,n,ne⟩,r,q,z,d⟩
end
structure Cls (K:PySem.W.Frag) (C:Addr):Prop where
 pg:PySem.W.plainGet K C Str.empty=true
 hd:PySem.W.hasDictIn K C=true
 po:PySem.W.plainOver K C=true
 sa:PySem.W.findIn K (.ref C) "__setattr__" = some (some (.builtin "object.__setattr__"))
theorem Cls.get {K:PySem.W.Frag}{C:Addr}(c:Cls K C)(f:Str):PySem.W.plainGet K C f=true:=c.pg
section
variable {X:Cx}{pins:List (Addr × Obj)}{σ:St}{H:Hp}{s:Shared}{a C dx:Addr}{fs:List (Str × V)}{f:Str}{v:V}{A:Around}{E:Value->Shared->Prop}
end
section
variable {X:Cx}{o e value:Expr}{f:Str}{pos pos' tpos:Pos}{ta tv:TE}
end
section
variable {X:Cx}{pins:List (Addr × Obj)}{σ:St}{H:Hp}{s:Shared}{A:Around}{E:Value->Shared->Prop}{Q:Value->Shared->Prop}{c:Value}{b:Bool}
inductive TyOf (K:PySem.W.Frag) (H:Hp):V->Value->Prop where
 | non:TyOf K H .non (.type "NoneType")
 | bl (x:Bool):TyOf K H (.bl x) (.type "bool")
 | int (i:Int):TyOf K H (.int i) (.type "int")
 | str (x:Str):TyOf K H (.str x) (.type "str")
 | flt (x:UInt64):TyOf K H (.flt x) (.type "float")
 | lst {a:Addr}{xs:List V} (e:H a=some (.lst xs)):TyOf K H (.ref a) (.type "list")
 | frz {a:Addr}{o:Obj}{xs:List V} (e:H a=some (.frz o (.lst xs))):TyOf K H (.ref a) (.type "list")
 | tup {a:Addr}{xs:List V} (e:H a=some (.tup xs)):TyOf K H (.ref a) (.type "tuple")
 | dK {a:Addr}{kvs:List (Key × V)} (e:H a=some (.dK kvs)):TyOf K H (.ref a) (.type "dict")
 | dT {a:Addr}{kvs:List (List Key × V)} (e:H a=some (.dT kvs)):TyOf K H (.ref a) (.type "dict")
 | ins {a C dx:Addr}{fs:List (Str × V)} (e:H a=some (.ins C dx fs)) (cl:Cls K C) (ha:PySem.W.findIn K (.ref C) "__class__" = some (some (.builtin "object.__class__")))
   (hn:PySem.W.specialIn K (.builtin "object.__class__") "__get__" = some (some (.builtin "getset_descriptor.__get__"))) (htk:PySem.W.takesIn K (.builtin "object.__class__")=some true)
   (hm:PySem.W.mroIn K C (.type "object")=some true):TyOf K H (.ref a) (.ref C)
theorem zqa {x:V}{u t:Value} (I:Inv X pins σ H s) (rx:RelV x u) (ty:TyOf X.K H x t) (e:PySem.W.kitOne X.K t c=some b) (h:∀tk,Q (.bool b) { s with toks:=tk }) :
    wpAny (model X.prog X.w) A (call (.builtin "isinstance") [u,c]) Q E s:=by
  cases ty with
  | non=>cases (show u=Value.none from rx);exact PySem.W.kia_one PySem.W.kitx_none I.kIn True.intro e (fun z=>nomatch z) h
  | bl y=>cases (show u=Value.bool y from rx);exact PySem.W.kia_one PySem.W.kitx_bool I.kIn True.intro e (fun z=>nomatch z) h
  | int i=>obtain⟨t,q⟩:=(show ∃t,u=Value.int i t from rx);cases q;exact PySem.W.kia_one PySem.W.kitx_int I.kIn True.intro e (fun z=>nomatch z) h
  | str y=>obtain⟨t,q⟩:=(show ∃t,u=Value.str y t from rx);cases q;exact PySem.W.kia_one PySem.W.kitx_str I.kIn True.intro e (fun z=>nomatch z) h
  | flt y=>obtain⟨t,q⟩:=(show ∃t,u=Value.float y t from rx);cases q;exact PySem.W.kia_one PySem.W.kitx_float I.kIn True.intro e (fun z=>nomatch z) h
  | @lst a xs ea =>
    cases (show u=Value.ref a from rx);obtain⟨_,_,n,_,h1⟩:=(show ObjOk X.prog X.w H s.heap a (.lst xs) from I.hok a _ ea);exact PySem.W.kia_one PySem.W.kitx_list I.kIn ⟨_,h1,rfl⟩ e (fun z=>nomatch z) h
  | @frz a ob xs ea =>
    cases (show u=Value.ref a from rx);obtain⟨_,_,_,n,_,h1⟩:=(show ObjOk X.prog X.w H s.heap a (.frz ob (.lst xs)) from I.hok a _ ea);exact PySem.W.kia_one PySem.W.kitx_list I.kIn ⟨_,h1,rfl⟩ e (fun z=>nomatch z) h
  | @tup a xs ea =>
    cases (show u=Value.ref a from rx);obtain⟨_,_,_,p⟩:=(show ObjOk X.prog X.w H s.heap a (.tup xs) from I.hok a _ ea);obtain⟨o,h1,h2,_⟩:=p;exact PySem.W.kia_one PySem.W.kitx_tuple I.kIn ⟨o,h1,h2.1⟩ e (fun z=>nomatch z) h
  | @dK a kvs ea =>
    cases (show u=Value.ref a from rx);obtain⟨_,_,vs,_,p⟩:=(show ObjOk X.prog X.w H s.heap a (.dK kvs) from I.hok a _ ea);obtain⟨o,es,ep,h1,h2,_⟩:=p;exact PySem.W.kia_one PySem.W.kitx_dict I.kIn ⟨o,h1,h2.1⟩ e (fun z=>nomatch z) h
  | @dT a kvs ea =>
    cases (show u=Value.ref a from rx);obtain⟨_,_,xs,_,o,es,ep,h1,h2,_⟩:=(show ObjOk X.prog X.w H s.heap a (.dT kvs) from I.hok a _ ea);exact PySem.W.kia_one PySem.W.kitx_dict I.kIn ⟨o,h1,h2.1⟩ e (fun z=>nomatch z) h
  | @ins a C dx fs ea cl ha hn htk hm =>
    cases (show u=Value.ref a from rx);obtain⟨mA,O,_⟩:=z2d I.hok ea;obtain⟨od,J,_⟩:=O.look;exact PySem.W.kia_one (PySem.W.kitx_own (cl.get _) cl.hd ha hn htk hm) I.kIn J e (fun z=>nomatch z) h
end
structure Room (k:Nat) (A:Around):Prop where
 hd:A.handled=none
 dp:A.depth+3 * k+5 < recursionLimit
 un:A.units+16 * k+200 < cLine
 gd:A.guards=some []
theorem Room.mono {j k:Nat}{A:Around}(r:Room k A)(h:j<=k):Room j A:=⟨r.hd,by have:=r.dp;omega,by have:=r.un;omega,r.gd⟩
theorem Room.deeper {k:Nat}{A:Around}(r:Room (k+1) A)(env:Env):Room k (A.deeper env) :=
 ⟨r.hd,by have:=r.dp;show A.depth+1+3 * k+5 < _;omega,by have:=r.un;show A.units+3+16 * k+200 < _;omega,r.gd⟩
theorem Room.depth {k:Nat}{A:Around}(r:Room k A):A.depth < recursionLimit:=by have:=r.dp;omega
noncomputable def tNil:TA:=fun _ H Q=>Q [] H
noncomputable def zdv (ta:TE) (tr:TA):TA:=fun σ H Q=>ta σ H fun x H1=>tr σ H1 fun xs H2=>Q (x::xs) H2
section
variable {X:Cx}{e:Expr}{es:List Expr}{te:TE}{t:TA}{pos:Pos}
theorem zdd:PA X [] tNil:=fun _ _ _ _ H Q I h=>Calls.spliced_nil ⟨[],H,I,.nil,h⟩
theorem zrx (ha:PE X e te)(hr:PA X es t)(hs:starEach (e::es) X.env=(false,eval e X.env)::starEach es X.env:=by rfl):PA X (e::es) (zdv te t):=by
 intro pos pins s σ H Q I h;rw[hs];show wpAny _ _ (spliced ((false,eval e X.env)::backTo pos (starEach es X.env))) _ _ s;refine Calls.spliced_cons (thn (ha pins s σ H _ I h) fun u s1 ⟨x,H1,I1,r1,q1⟩=>?_);exact thn (hr pos pins s1 σ H1 _ I1 q1) fun us s2 ⟨xs,H2,I2,r2,q2⟩=>⟨x::xs,H2,I2,.cons r1 r2,q2⟩
noncomputable def tTup (t:TA):TE:=fun σ H Q=>t σ H fun xs H1=>xs.length<=sizeLine/\∀p,H1 p=none->Q (.ref p) (upd H1 p (.tup xs))
noncomputable def tLst (t:TA):TE:=fun σ H Q=>t σ H fun xs H1=>xs.length<=sizeLine/\∀p,H1 p=none->Q (.ref p) (upd H1 p (.lst xs))
theorem z3x {x1}(h:PA X es t):PE X (.Tuple es x1 pos) (tTup t):=by
 intro pins s σ H Q I hq;refine wpAny_Tuple_spliced (thn (h pos pins s σ H _ I hq) fun us s1 ⟨xs,H1,I1,r,z,q⟩=>⟨by rw[<-r.length];exact z,?_⟩);have hf:H1 s1.heap.objs.size=none:=I1.hok.fresh (Nat.le_refl _);refine⟨.ref s1.heap.objs.size,upd H1 s1.heap.objs.size (.tup xs),I1.laid (t':=s1.toks) (fun b u e=>Heap.get?_push_of_some _ e) (Nat.le_refl _) ?_,rfl,q _ hf⟩;exact⟨z,us,r,⟨_,Heap.get?_push_size _ rfl,⟨rfl,_,rfl⟩,rfl⟩⟩
theorem z5g (h:PA X es t):PE X (.List es pos) (tLst t):=by
 intro pins s σ H Q I hq;refine wpAny_List_spliced (thn (h pos pins s σ H _ I hq) fun us s1 ⟨xs,H1,I1,r,z,q⟩=>⟨by rw[<-r.length];exact z,?_⟩);have hf:H1 s1.heap.objs.size=none:=I1.hok.fresh (Nat.le_refl _);refine⟨.ref s1.heap.objs.size,upd H1 s1.heap.objs.size (.lst xs),I1.laid (t':=s1.toks) (fun b u e=>Heap.get?_push_of_some _ e) (Nat.le_refl _) ?_,rfl,q _ hf⟩;exact⟨z,us,0,r,Heap.get?_push_size _ rfl⟩
end
noncomputable abbrev Sp:=List V->Hp->VK->XK->Prop
noncomputable abbrev CXT:=List Env->Hp->Shared->XK->Value->Shared->Prop
structure Env0 (P:Program) (w:World) (K:PySem.W.Frag) (mg:Str->Option Value) (base:Heap) (A:Around) (outer:List Env) (s:Shared) (H:Hp):Prop where
 frames:A.frames=some outer
 mod:Mod K mg base
 bs:∀b o,base.get? b=some o->s.heap.get? b=some o/\H b=none
 bsz:base.objs.size<=s.heap.objs.size
 funs:s.heap.FunFrames base outer
 frf:∀b∈frs outer,H b=none
 hok:HOk P w H s.heap
 bare:AllBare s.gens
noncomputable def CE (outer:List Env) (P:Program) (w:World) (H:Hp) (s:Shared) (Q:VK) (u:Value) (s' : Shared):Prop :=
 ∃v H',s'.os=s.os/\AllBare s'.gens/\Un (frs outer) [] H H' s.heap s'.heap/\HOk P w H' s'.heap/\RelV v u/\Q v H'
noncomputable def CR (CX:CXT) (outer:List Env) (P:Program) (w:World) (H:Hp) (s:Shared) (Q:VK) (E:XK) (r:Result) (s' : Shared):Prop :=
 match r with
 | .ok (.ret u)=>CE outer P w H s Q u s'
 | .ok _=>False
 | .error e=>CX outer H s E e s'
structure FnOk (P:Program) (w:World) (K:PySem.W.Frag) (mg:Str->Option Value) (base:Heap) (CX:CXT) (k:Nat) (f:Addr) (fd:FuncData) (ps:List Str) (sp:Sp):Prop where
 len:∀vs H Q E,sp vs H Q E->vs.length=ps.length
 run:∀(A:Around) (outer:List Env) (s:Shared) (H:Hp) (args:Args) (us:List Value) (vs:List V) (Q:VK) (E:XK),Room k A->Env0 P w K mg base A outer s H->BindsTo s fd args (ps.zip us)->Vals vs us->sp vs H Q E ->
  codeAny (model P w) A (.call (.ref f) args) (CR CX outer P w H s Q E) s
section
variable {X:Cx}{pins:List (Addr × Obj)}{σ:St}{H:Hp}{s s' : Shared}
theorem Inv.env0 (I:Inv X pins σ H s):Env0 X.prog X.w X.K X.mg X.base X.A X.stack s H :=
 ⟨I.ok.frames,I.ok.mod,I.bs,Nat.le_trans I.ok.bsz I.sz,I.stack,I.stkFree,I.hok,I.bare⟩
theorem Inv.after {Q:VK}{u:Value}(I:Inv X pins σ H s)(h:CE X.stack X.prog X.w H s Q u s'):EP X pins σ Q u s':=by
 nofun;obtain⟨v,H',os,bare,un,hok,r,q⟩:=h;obtain⟨hh,g,d,t,os'⟩:=s';ac_rfl;obtain rfl:os'=s.os:=os;exact⟨v,H',I.call (h':=hh) (g':=g) (d':=d) (t':=t) (ch:=[]) un hok bare (fun b z=>absurd z (by simp)),r,q⟩
end
noncomputable def z12 (sp:Sp) (dvs:List V) (E:XK) (t:TA):TE:=fun σ H Q=>t σ H fun vs H1=>sp (vs++dvs) H1 Q E
noncomputable def zlx (K:PySem.W.Frag) (fd:FuncData) (ps:List Str) (ds:List Value):Prop :=
 ∀(s:Shared) (us:List Value),K.In s.heap->(us++ds).length=ps.length->BindsTo s fd ⟨us,[]⟩ (ps.zip (us++ds))
theorem zlx.all {K:PySem.W.Frag}{fd:FuncData}{ps:List Str}(h:∀us:List Value,us.length=ps.length->bindArgs fd ⟨us,[]⟩=pure (ps.zip us)):zlx K fd ps []:=fun s us _ hl=>by
 rw[List.append_nil] at hl ⊢;exact .of_eq (h us hl)
noncomputable def zrs (CX:CXT) (X:Cx) (E:XK):Prop:=∀(pins:List (Addr × Obj)) (σ:St) (H:Hp) (s:Shared) (e:Value) (s' : Shared),Inv X pins σ H s->CX X.stack H s E e s'->X.xe e s'
section
variable {X:Cx}{CX:CXT}{k:Nat}{f C:Addr}{fd:FuncData}{ps:List Str}{sp:Sp}{dvs:List V}{ds:List Value}{E:XK}{x m:Str}{p pos apos:Pos}{e o:Expr}{es:List Expr}{ta:TE}{t:TA}
theorem z3q {pins:List (Addr × Obj)}{σ:St}{H:Hp}{s:Shared}{Q:VK}{us:List Value}{vs:List V} (F:FnOk X.prog X.w X.K X.mg X.base CX k f fd ps sp) (hr:Room k X.A) (hb:zlx X.K fd ps ds) (hd:Vals dvs ds) (hx:zrs CX X E)
    (I:Inv X pins σ H s) (r:Vals vs us) (h:sp (vs++dvs) H Q E):wpAny (model X.prog X.w) X.A (call (.ref f) us) (EP X pins σ Q) X.xe s:=by
  have r2:Vals (vs++dvs) (us++ds):=r.append hd;have hl:(us++ds).length=ps.length:=by rw[<-r2.length];exact F.len _ _ _ _ h
  refine wpAny_call (codeAny_mono (F.run X.A X.stack s H ⟨us,[]⟩ (us++ds) (vs++dvs) Q E hr I.env0 (hb s us I.kIn hl) r2 h) fun r s' hq=>?_);cases r with
  | error e=>exact hx pins σ H s e s' I hq
  | ok fl =>
    cases fl with
    | ret u=>exact I.after hq
    | next=>exact False.elim hq
    | brk=>exact False.elim hq
    | cont=>exact False.elim hq
theorem z0m (F:FnOk X.prog X.w X.K X.mg X.base CX k f fd ps sp) (hr:Room k X.A) (hg:Gl X x) (hm:X.mg x=some (.ref f)) (hk:PySem.W.keepIn X.K (.ref f)=true) (hb:zlx X.K fd ps ds) (hd:Vals dvs ds) (hx:zrs CX X E)
  (ha:PA X (e::es) t) (hdb:(x == ("__debug__" : Str))=false:=by decide) (he:starEach (e::es) X.env=(false,eval e X.env)::starEach es X.env:=by rfl) (hpl:(backTo pos (starEach es X.env)).any (·.1)=false:=by rfl) :
  PE X (.Call (.Name x p) (e::es) [] pos) (z12 sp dvs E t):=by
 intro pins s σ H Q I h;refine wpAny_Call_Name_kw (z1t I hg hm ?_ hdb);refine PySem.W.callWith_K (h₀:=X.base) I.ok.mod.kin hk (thn (ha pos pins s σ H _ I h) fun us s1 ⟨vs,H1,I1,r,q⟩=>⟨I1.kIn,?_⟩) he hpl;exact z3q F hr hb hd hx I1 r q
end
section
variable {X:Cx}{CX:CXT}{k:Nat}{f C:Addr}{fd:FuncData}{ps ks:List Str}{sp:Sp}{E:XK}{x m:Str}{p pos apos kpos:Pos}{e o:Expr}{es:List Expr}{kws:List Keyword}{te ta:TE}{t tk:TA}{nm:Option Str}
variable {g:List Value->List Value->List Value}{gV:List V->List V->List V}
end
structure FnScope (N P:List Str) (sc:Scope):Prop where
 kind:sc.kind=.function
 co:sc.isCoroutine=false
 gen:sc.isGenerator=false
 nd:N.Nodup
 pre:N.take P.length=P
 par:∀x∈P,sc.names.lookup x=some .local\/sc.names.lookup x=some .cell
 nofree:∀y∈sc.names,y.2≠.free
theorem zk0 {kindOf:Str->Option NameKind}{x:Str}:∀{binds:List (Str × Value)}{m:Str->Option Value},(∀v,(x,v) ∉ binds)->bindL kindOf binds m x=m x
  | [],_,_=>rfl
  | (n,v)::r,m,h=>by
    unfold bindL;rw[zk0 fun w hw=>h w (List.mem_cons_of_mem _ hw)];split
    · have : x ≠ n := by rintro rfl; exact h v List.mem_cons_self
      simp [this]
    · rfl
theorem zjh {kindOf:Str->Option NameKind}{x:Str}:∀{binds:List (Str × Value)}{m:Str->Option Value},(∀v,(x,v) ∉ binds)->bindC kindOf binds m x=m x
  | [],_,_=>rfl
  | (n,v)::r,m,h=>by
    unfold bindC;rw[zjh fun w hw=>h w (List.mem_cons_of_mem _ hw)];split
    · rfl
    · have : x ≠ n := by rintro rfl; exact h v List.mem_cons_self
      simp [this]
theorem zkj {kindOf:Str->Option NameKind}{x:Str}{v:Value}:∀{P:List Str}{vs:List Value}{i:Nat}{m:Str->Option Value},P.Nodup->P[i]?=some x->vs[i]?=some v->kindOf x=some .local ->
    bindL kindOf (P.zip vs) m x=some v
  | [],_,_,_,_,h,_,_=>by simp at h
  | _::_,[],_,_,_,_,h,_=>by simp at h
  | p::P,w::vs,0,m,nd,h1,h2,hk=>by
    simp at h1 h2;subst h1;subst h2;show bindL kindOf ((p,w)::P.zip vs) m p=_;unfold bindL;rw[zk0 fun v hv=>(List.nodup_cons.mp nd).1 (List.of_mem_zip hv).1,if_pos hk];simp
  | p::P,w::vs,i+1,m,nd,h1,h2,hk=>by
    show bindL kindOf ((p,w)::P.zip vs) m x=_;unfold bindL;exact zkj (i:=i) (List.nodup_cons.mp nd).2 (by simpa using h1) (by simpa using h2) hk
theorem zj6 {kindOf:Str->Option NameKind}{x:Str}{v:Value}:∀{P:List Str}{vs:List Value}{i:Nat}{m:Str->Option Value},P.Nodup->P[i]?=some x->vs[i]?=some v->kindOf x≠some .local ->
    bindC kindOf (P.zip vs) m x=some v
  | [],_,_,_,_,h,_,_=>by simp at h
  | _::_,[],_,_,_,_,h,_=>by simp at h
  | p::P,w::vs,0,m,nd,h1,h2,hk=>by
    simp at h1 h2;subst h1;subst h2;show bindC kindOf ((p,w)::P.zip vs) m p=_;unfold bindC;rw[zjh fun v hv=>(List.nodup_cons.mp nd).1 (List.of_mem_zip hv).1,if_neg hk];simp
  | p::P,w::vs,i+1,m,nd,h1,h2,hk=>by
    show bindC kindOf ((p,w)::P.zip vs) m x=_;unfold bindC;exact zj6 (i:=i) (List.nodup_cons.mp nd).2 (by simpa using h1) (by simpa using h2) hk
noncomputable def start (N:List Str) (vs:List V):St:=vs.map some++List.replicate (N.length - vs.length) none
noncomputable def cxOf (CX:CXT) (P:Program) (w:World) (K:PySem.W.Frag) (mg:Str->Option Value) (base:Heap) (N:List Str) (qual:Str) (scope:Scope) (f:Addr) (cd:Value) (A:Around) (outer:List Env) (s:Shared) (H:Hp) (E:XK):Cx where
 prog:=P
 w:=w
 K:=K
 mg:=mg
 base:=base
 A:=A.deeper (envOfC qual scope s.heap.objs.size f cd)
 N:=N
 s₀:=s
 H₀:=H
 env:=envOfC qual scope s.heap.objs.size f cd
 outer:=outer
 stack:=envOfC qual scope s.heap.objs.size f cd::outer
 ex:=[]
 calm:=true
 fn:=fun _=>true
 pn:=[]
 xe:=fun e s'=>wpAny (model P w) (A.deeper (envOfC qual scope s.heap.objs.size f cd)) (leaving (envOfC qual scope s.heap.objs.size f cd) e) (fun _ s''=>CX outer H s E e s'') (fun e' s''=>CX outer H s E e' s'') s'
theorem cell_has {sc:Scope}{n:Nat}{x:Str}(h:sc.names.lookup x=some .cell):∃c,(cellsFrom n sc.names []).lookup x=some c:=by
 have q:=PySem.W.cellsFrom_some sc.names n [] (.inl h);exact Option.isSome_iff_exists.mp q
theorem zj7 {CX:CXT}{P:Program}{w:World}{K:PySem.W.Frag}{mg:Str->Option Value}{base:Heap}{N ps:List Str}{qual:Str}{scope:Scope}{f:Addr}{cd:Value}{A:Around}{outer:List Env}{s s1:Shared}{H:Hp}{E:XK}{us:List Value}{vs:List V}
  (S:FnScope N ps scope) (hd:A.handled=none) (e0:Env0 P w K mg base A outer s H) (hl:vs.length=ps.length) (r:Vals vs us)
  (x:InCallC s s.heap.objs.size (bindL (envOfC qual scope s.heap.objs.size f cd).kindOf (ps.zip us) fun _=>none) (cellsFrom (s.heap.objs.size+1) scope.names []) (bindC (envOfC qual scope s.heap.objs.size f cd).kindOf (ps.zip us) fun _=>none) s1) :
  Inv (cxOf CX P w K mg base N qual scope f cd A outer s H E) [] (start N vs) H s1:=by
 have hpl:ps.length<=N.length:=by have:=congrArg List.length S.pre;rw[List.length_take] at this;omega
 obtain⟨h1,tk,rfl,hk⟩:=x.done;have noA:∀b:Addr,b ∉ (cxOf CX P w K mg base N qual scope f cd A outer s H E).ex:=fun b z=>absurd (show b∈([]:List Addr) from z) (by simp);refine⟨⟨e0.mod,S.kind,rfl,rfl,Nat.le_refl _,fun y z c h1 h2=>?_,fun y hy=>?_,fun y c _ h=>?_,fun _=>hd,Around.frames_deeper e0.frames,.inr ⟨rfl,rfl⟩,fun b z=>absurd z (noA b),e0.bs,e0.bsz,fun b _ _=>noA b,fun b z=>absurd z (noA b),e0.funs,e0.frf⟩,
  rfl,e0.bare,Un.kept hk,⟨_,x.toInCall.ns,fun i y v h1 h2 h3=>?_⟩,fun y c h=>⟨_,x.cell y c h⟩,e0.hok.fresh (Nat.le_refl _),fun y c h=>?_,fun p hp=>absurd (show p∈([]:List (Addr × Obj)) from hp) (by simp),e0.hok.kept hk,?_⟩
 ·exact name_of_addr x.apart (PySem.mem_of_lookup h1) (PySem.mem_of_lookup h2)
 ·have hy : scope.names.lookup y = some .cell \/ scope.names.lookup y = some .free := hy;rcases hy with hy | hy
  ·exact cell_has hy
  ·exact absurd rfl (S.nofree _ (PySem.mem_of_lookup hy))
 ·exact Nat.le_of_lt (x.above y c (PySem.mem_of_lookup h))
 ·have hi:i < vs.length:=by
   unfold start at h2;by_cases hi:i < vs.length
   ·exact hi
   ·rw[List.getElem?_append_right (by simpa using hi)] at h2;rw[List.getElem?_replicate] at h2;split at h2<;>cases h2
  have ha:vs[i]?=some v:=by
   unfold start at h2;rw[List.getElem?_append_left (by simpa using hi),List.getElem?_map] at h2;cases e:vs[i]? with
   | none=>rw[e] at h2;cases h2
   | some a=>rw[e] at h2;cases h2;rfl
  obtain⟨u,hu,rv⟩:=r.get ha;have hp:ps[i]?=some y:=by
   rw[<-S.pre,List.getElem?_take_of_lt #v[]];exact h1
  have ndP:ps.Nodup:=by rw[<-S.pre];exact S.nd.sublist (List.take_sublist _ _)
  refine⟨u,rv,?_⟩;rcases S.par y (List.mem_of_getElem? hp) with k | k
  ·exact .inl ⟨k,zkj ndP hp hu k⟩
  ·obtain⟨c, e⟩ := cell_has (n := s.heap.objs.size + 1) k;refine .inr ⟨.inl k,c,e,?_⟩;have q:=x.cell y c e;rw[zj6 ndP hp hu (by show scope.names.lookup y≠_;rw[k];decide)] at q;exact q
 ·exact e0.hok.fresh (Nat.le_of_lt (x.above y c (PySem.mem_of_lookup h)))
 ·unfold start;show _=N.length;rw[List.length_append,List.length_map,List.length_replicate];omega
theorem z6b {CX:CXT}{P:Program}{w:World}{K:PySem.W.Frag}{mg:Str->Option Value}{base:Heap}{k:Nat}{f:Addr}{name qual:Str}{params:Arguments}{body:List Stmt}{scope:Scope}{dV kV doc pm cdv ct oc:Value}{an od:Option Addr}
    {osl:Array (Option Value)}{N ps:List Str}{sp:Sp} (lk:K.lookup f=some ⟨oc,od,.func (PySem.W.fnOf name qual params body scope dV kV doc pm an cdv ct),osl⟩) (hcd:PySem.W.codeIn K cdv qual=true) (S:FnScope N ps scope)
    (len:∀vs H Q E,sp vs H Q E->vs.length=ps.length)
    (hbody:∀(A:Around) (outer:List Env) (s:Shared) (H:Hp) (vs:List V) (Q:VK) (E:XK),(Room k (A.deeper (envOfC qual scope s.heap.objs.size f cdv))/\Room (k+1) A)->sp vs H Q E ->
      ∃t,PSs (cxOf CX P w K mg base N qual scope f cdv A outer s H E) body t/\t { nx:=fun _ H'=>Q .non H',rt:=Q } (start N vs) H) :
    FnOk P w K mg base CX (k+1) f (PySem.W.fnOf name qual params body scope dV kV doc pm an cdv ct) ps sp:=by
  refine ⟨len,fun A outer s H args us vs Q E hr e0 hb r hsp=>?_⟩;have hl:=len _ _ _ _ hsp;have KX:K.In s.heap:=e0.mod.kin.keeps fun b o e=>(e0.bs b o e).1;have lim:s.heap.NoLimit:=e0.mod.nolimit.keeps fun b o e=>(e0.bs b o e).1;have hkind:∀y∈ps.zip us,scope.names.lookup y.1=some .local\/(scope.names.lookup y.1=some .cell/\((cellsFrom (s.heap.objs.size+1) scope.names []).lookup y.1).isSome=true):=fun ⟨n,v⟩ hy=>by
    rcases S.par n (List.of_mem_zip hy).1 with q | q
    · exact .inl q
    · exact .inr ⟨q,PySem.W.cellsFrom_some _ _ _ (.inl q)⟩
  refine codeAny_call_function hr.depth (KX _ _ lk) rfl S.co S.gen rfl (PySem.W.codeRec_of KX hcd) (hb _ _ _ _ ?_);refine wpAny_newFunctionEnv_cells S.kind hkind fun env he s1 x=>?_;subst he;refine ⟨lim.keeps x.toInCall.keep,codeAny_func ?_⟩;obtain ⟨t,ht,hq⟩:=hbody A outer s H vs Q E ⟨hr.deeper _,hr⟩ hsp;have I:Inv (cxOf CX P w K mg base N qual scope f cdv A outer s H E) [] (start N vs) H s1:=zj7 S hr.hd e0 hl r x;refine wpAny_mono (ht [] s1 (start N vs) H _ I hq) (fun fl s' hs=>?_) fun e s' hs=>hs;have fin:∀{σ' : St}{H' : Hp}{v:V}{u:Value},Inv (cxOf CX P w K mg base N qual scope f cdv A outer s H E) [] σ' H' s'->RelV v u->Q v H'->CE outer P w H s Q u s' :=
    fun {σ' H' v u} J rv q=>⟨v,H',J.os,J.bare,J.base,J.hok,rv,q⟩
  cases fl with
  | ret u =>
    obtain⟨v,σ',H',J,rv,q⟩:=hs;exact fin J rv q
  | next =>
    obtain⟨σ',H',J,q⟩:=hs;exact fin (v:=V.non) (u:=Value.none) J rfl q
  | brk =>
    obtain⟨_,_,_,q⟩:=hs;exact False.elim q
  | cont =>
    obtain⟨_,_,_,q⟩:=hs;exact False.elim q
section
variable {X:Cx}{x:Str}{p pos:Pos}{e:Expr}{es:List Expr}{t:TA}{id T:String}{r:List V->Hp->VK->Prop}
noncomputable def tCB (r:List V->Hp->VK->Prop) (t:TA):TE:=fun σ H Q=>t σ H fun vs H1=>r vs H1 Q
theorem zch (hc:zc9 X (.builtin id) r) (hg:Gl X x) (hm:X.mg x=none) (hv:bootBuiltins x=some (.builtin id)) (ha:PA X (e::es) t) (hn:x≠"__name__" := by decide) (hdb:(x == ("__debug__" : Str))=false:=by decide)
  (he:starEach (e::es) X.env=(false,eval e X.env)::starEach es X.env:=by rfl) (hpl:(backTo pos (starEach es X.env)).any (·.1)=false:=by rfl):PE X (.Call (.Name x p) (e::es) [] pos) (tCB r t):=by
 intro pins s σ H Q I h;refine wpAny_Call_Name_kw (zdw I hg hm hv ?_ hn hdb);exact PyProof.Rows.callWith_builtin1 (thn (ha pos pins s σ H _ I h) fun us s1 ⟨vs,H1,I1,r1,q1⟩=>hc pins s1 σ H1 vs us Q I1 r1 q1) he hpl
theorem zd6 (hc:zc9 X (.type T) r) (hg:Gl X x) (hm:X.mg x=none) (hv:bootBuiltins x=some (.type T)) (ha:PA X (e::es) t) (hn:x≠"__name__" := by decide) (hdb:(x == ("__debug__" : Str))=false:=by decide)
  (he:starEach (e::es) X.env=(false,eval e X.env)::starEach es X.env:=by rfl) (hpl:(backTo pos (starEach es X.env)).any (·.1)=false:=by rfl):PE X (.Call (.Name x p) (e::es) [] pos) (tCB r t):=by
 intro pins s σ H Q I h;refine wpAny_Call_Name_kw (zdw I hg hm hv ?_ hn hdb);exact PyProof.Rows.callWith_type1 (thn (ha pos pins s σ H _ I h) fun us s1 ⟨vs,H1,I1,r1,q1⟩=>hc pins s1 σ H1 vs us Q I1 r1 q1) he hpl
end
end L2
namespace HT
open PySem PyProof.Rows
section
open PySem.SeqAt
open PySem.AutoSeq1 (wpAny_loadPart')
open PySem.MeetsSeq PySem.MeetsSeq2 PySem.MeetsSeq3
end
section
variable {prog:Program}{w:World}{A:Around}{E:Value->Shared->Prop}{s:Shared}
theorem cat_tup {t b:Addr}{vs ws:List Value}{Q:Value->Shared->Prop} (ht:IsTup s.heap t vs.toArray) (hb:IsTup s.heap b ws.toArray) (hv:vs≠[])
  (h1:ws=[]->Q (.ref t) s) (h2:ws≠[]->Q (.ref s.heap.objs.size) { s with heap:=s.heap.push { cls:=.type "tuple",data:=.seq (vs++ws).toArray } })
  (hsz:vs.length+ws.length<=sizeLine):wpAny (model prog w) A (binaryOp .Add (.ref t) (.ref b)) Q E s:=by
 obtain⟨⟨cls,dd,data,sl⟩,ho,hc,n,hd⟩:=id ht;obtain⟨⟨cls2,dd2,data2,sl2⟩,ho2,hc2,n2,hd2⟩:=id hb;simp only at hc hd hc2 hd2;subst hc hd hc2 hd2;have e:vs.toArray++ws.toArray=(vs++ws).toArray:=by simp
 by_cases hw:ws=[]
 ·exact concat_meets ⟨_,ho,rfl⟩ ⟨_,ho2,rfl⟩ noFill_tuple_add seq_tuple_add PySem.F.slot_tuple_add PySem.F.entry_tuple_add (PySem.F.args_tuple_add_2 _ _)
   (tuple_addW1 t b vs.toArray ws.toArray n n2 dd dd2 sl sl2 (by simpa using hv) (by simp [hw])) ⟨ho,ho2,h1 hw⟩
 ·refine concat_meets ⟨_,ho,rfl⟩ ⟨_,ho2,rfl⟩ noFill_tuple_add seq_tuple_add PySem.F.slot_tuple_add PySem.F.entry_tuple_add (PySem.F.args_tuple_add_2 _ _)
   (tuple_addW2 t b vs.toArray ws.toArray n n2 dd dd2 sl sl2 (by simpa using hv) (by simpa using hw) (by rw[List.size_toArray,List.size_toArray];exact hsz)) ⟨ho,ho2,?_⟩
  rw[e];exact h2 hw
noncomputable def sIx (n d:Nat):Option Int->Nat
 | none=>d
 | some v=>if v < 0 then (v+(n:Int)).toNat else min v.toNat n
theorem sIx_nat (n d k:Nat):sIx n d (some (k:Int))=min k n:=by
 show (if (k:Int) < 0 then ((k:Int)+(n:Int)).toNat else min (k:Int).toNat n)=min k n;rw[if_neg #v[],Int.toNat_natCast]
theorem z33 (n d:Nat) (hd:d<=n) (o:Option Int):sIx n d o<=n:=by
  cases o with
  | none=>exact hd
  | some v =>
    show (if v < 0 then (v+(n:Int)).toNat else min v.toNat n)<=n;by_cases hv:v < 0
    · rw[if_pos hv];omega
    · rw[if_neg hv];exact Nat.min_le_right _ _
theorem zsb (v:Int)(n d:Nat):(if v < 0 then max (v+(n:Int)) 0 else min v (n:Int))=((sIx n d (some v):Nat):Int):=by
 show (if v < 0 then max (v+(n:Int)) 0 else min v (n:Int))=(((if v < 0 then (v+(n:Int)).toNat else min v.toNat n):Nat):Int);by_cases hv:v < 0
 ·simp only [if_pos hv];omega
 ·simp only [if_neg hv];omega
theorem zpu (lo hi:Option Int)(n:Nat):Builtin.Slice.sliceAdjust lo hi 1 (n:Int)=(((sIx n 0 lo:Nat):Int),((sIx n n hi:Nat):Int)):=by
 have h1:¬ ((1:Int) < 0):=by omega
 unfold Builtin.Slice.sliceAdjust;simp only [h1,if_false];refine Prod.ext ?_ ?_
 ·cases lo with
  | none=>rfl
  | some v=>exact zsb v n 0
 ·cases hi with
  | none=>rfl
  | some v=>exact zsb v n n
theorem zo7 (i j:Nat):Builtin.Slice.slicePlaces (i:Int) (j:Int) 1=j - i:=by
 unfold Builtin.Slice.slicePlaces;have h1:(1:Int) > 0:=by omega
 simp only [h1,if_true,Int.ediv_one];split<;>omega
theorem zg4 {v:Value}{o:Option Int}{Q:Option Int->Shared->Prop}(p:IsPart v o)(h:Q o s):wpAny (model prog w) A (Builtin.Slice.slicePartIndex v) Q E s:=by
 cases p with
 | none=>exact slicePart_none h
 | int i t=>exact slicePart_int h
theorem zcx {sl:Addr}{vl vu:Value}{lo hi:Option Int}{n:Nat}{Q:Int × Int × Nat->Shared->Prop} (hs:s.heap.IsSliceOf sl vl vu .none) (pl:IsPart vl lo) (pu:IsPart vu hi)
  (h:Q (((sIx n 0 lo:Nat):Int),1,sIx n n hi - sIx n 0 lo) s):wpAny (model prog w) A (Builtin.Slice.sliceApplied (.ref sl) (pure (n:Int))) Q E s:=by
 obtain⟨os,hos,hcs,hds⟩:=id hs;unfold Builtin.Slice.sliceApplied Builtin.Slice.sliceFields;refine wpAny_bind (wpAny_bind (wpAny_field hos hds (x:=vl) rfl (wpAny_bind (wpAny_field hos hds (x:=vu) rfl (wpAny_bind (wpAny_field hos hds (x:=.none) rfl (wpAny_pure ?_)))))));refine wpAny_bind (slicePart_none ?_);show wpAny _ _ (if ((1:Int) == 0)=true then _ else _) _ _ s;rw[if_neg #v[0,9]];refine wpAny_bind (zg4 pl (wpAny_bind (zg4 pu (wpAny_bind (wpAny_pure ?_)))));show wpAny _ _ (match Builtin.Slice.sliceAdjust lo hi 1 (n:Int) with | (lo,hi)=>pure (lo,(1:Int),Builtin.Slice.slicePlaces lo hi 1)) _ _ s;rw[zpu lo hi n];show wpAny _ _ (pure (((sIx n 0 lo:Nat):Int),(1:Int),Builtin.Slice.slicePlaces ((sIx n 0 lo:Nat):Int) ((sIx n n hi:Nat):Int) 1)) _ _ s;rw[zo7];exact wpAny_pure h
theorem zvx (xs:Array Value)(i k:Nat):((List.range k).filterMap fun (m:Nat)=>xs[((i:Int)+(m:Int) * 1).toNat]?).toArray=((xs.toList.drop i).take k).toArray:=by
 have e:(fun (m:Nat)=>xs[((i:Int)+(m:Int) * 1).toNat]?)=fun m=>xs[i+m]?:=by
  funext m
  have:((i:Int)+(m:Int) * 1).toNat=i+m:=by omega
  rw[this]
 rw[e];have:=pick_run xs i k;rw[List.filterMap_map] at this;have e2:((fun x=>xs[x]?) ∘ fun x=>i+x)=fun m=>xs[i+m]?:=rfl;rw[e2] at this;rw[this]
theorem getItem_tuple_cut {t sl:Addr}{items:Array Value}{vl vu:Value}{lo hi:Option Int}{Q:Value->Shared->Prop} (ht:IsTup s.heap t items) (hs:s.heap.IsSliceOf sl vl vu .none) (pl:IsPart vl lo) (pu:IsPart vu hi)
  (hw:¬ (sIx items.size 0 lo=0/\sIx items.size items.size hi=items.size))
  (h:Q (.ref s.heap.objs.size) { s with heap:=s.heap.push { cls:=.type "tuple",data:=.seq ((items.toList.drop (sIx items.size 0 lo)).take (sIx items.size items.size hi - sIx items.size 0 lo)).toArray } })
  (hsz:items.size<=sizeLine):wpAny (model prog w) A (getItem (.ref t) (.ref sl)) Q E s:=by
 have htake:sizeOk (.seq ((items.toList.drop (sIx items.size 0 lo)).take (sIx items.size items.size hi - sIx items.size 0 lo)).toArray):=by
  show ((items.toList.drop (sIx items.size 0 lo)).take (sIx items.size items.size hi - sIx items.size 0 lo)).toArray.size<=sizeLine;rw[List.size_toArray,List.length_take,List.length_drop,Array.length_toList];omega
 have hj:sIx items.size items.size hi<=items.size:=z33 _ _ (Nat.le_refl _) hi;obtain⟨os,hos,hcs,hds⟩:=id hs;have hTs:s.TypeIs (.ref sl) "slice" := ⟨os,hos,hcs⟩;unfold getItem
 try with_reducible refine wpAny_holding ?_
 first | refine wpAny_bind (wpAny_pure ?_) | skip
 refine wpAny_bind (wpAny_sequenceKey ht.typeIs #v[0,9] ?_);refine wpAny_bind (wpAny_callSpecial?_slot (name:=Str.ofString "__getitem__") ht.typeIs PyProof.Rows.slot_tuple_getitem
  (wpAny_call_entry PyProof.Rows.slot_tuple_getitem ht.typeIs entry_tuple_getitem ?_ (args_tuple_getitem _ _)))
 show wpAny _ _ (Builtin.Tuple.tupleItemsOf (.ref t) >>= _) _ _ s;refine wpAny_bind (tupleItemsOf_ ht ?_);refine wpAny_bind (wpAny_typeOf hTs ?_);rw[if_pos #v[0,9]];refine wpAny_bind (zcx hs pl pu ?_);have hno:¬ ((((sIx items.size 0 lo:Nat):Int) == 0 && (1:Int) == 1 && (sIx items.size items.size hi - sIx items.size 0 lo) == items.size)=true):=by
  intro q;rw[Bool.and_eq_true,Bool.and_eq_true] at q;have q1:((sIx items.size 0 lo:Nat):Int)=0:=eq_of_beq q.1.1;have q2:sIx items.size items.size hi - sIx items.size 0 lo=items.size:=eq_of_beq q.2;exact hw ⟨by omega,by omega⟩
 show wpAny _ _ (if (((sIx items.size 0 lo:Nat):Int) == 0 && (1:Int) == 1 && (sIx items.size items.size hi - sIx items.size 0 lo) == items.size)=true then _ else _) _ _ s;rw[if_neg hno,zvx]
 first
  | exact wpAny_bind (m:=Builtin.Tuple.tupleExact _) (wpAny_newObj_type (wpAny_pure ⟨_,rfl,wpAny_pure h⟩) htake)
  | exact wpAny_bind (m:=Builtin.Tuple.tupleExact _) (wpAny_newObj_type (wpAny_bind (wpAny_pure (wpAny_pure ⟨_,rfl,wpAny_pure h⟩))) htake)
  | exact wpAny_bind (wpAny_bind (m:=Builtin.Tuple.tupleExact _) (wpAny_newObj_type (wpAny_pure (wpAny_pure ⟨_,rfl,wpAny_pure h⟩)) htake))
  | exact wpAny_bind (wpAny_bind (m:=Builtin.Tuple.tupleExact _) (wpAny_newObj_type (wpAny_pure ⟨_,rfl,wpAny_pure h⟩) htake))
end
end HT
namespace L2
open PySem PySem.Spec PyProof.Rows
noncomputable abbrev TO:=St->Hp->(Option Int->Hp->Prop)->Prop
noncomputable def PO (X:Cx) (e:Option Expr) (t:TO):Prop :=
  ∀(pins:List (Addr × Obj)) (s:Shared) (σ:St) (H:Hp) (Q:Option Int->Hp->Prop),Inv X pins σ H s->t σ H Q ->
    wpAny (model X.prog X.w) X.A (evalPart e X.env) (fun u s'=>∃o H',Inv X pins σ H' s'/\IsPart u o/\Q o H') X.xe s
noncomputable def zp3:TO:=fun _ H Q=>Q none H
noncomputable def z3u (t:TE):TO:=fun σ H Q=>t σ H fun x H1=>∃i,x=.int i/\Q (some i) H1
section
variable {X:Cx}{e:Expr}{te:TE}{lo hi:Option Expr}{tl th:TO}{pos p2:Pos}
theorem zy2:PO X none zp3:=by
 intro pins s σ H Q I h;rw[evalPart_none];exact wpAny_pure ⟨none,H,I,.none,h⟩
theorem zzx (h:PE X e te):PO X (some e) (z3u te):=by
 intro pins s σ H Q I hw;rw[evalPart_some];refine thn (h pins s σ H _ I hw) fun u s1 ⟨x,H1,I1,r1,q1⟩=>?_;obtain⟨i,rfl,q⟩:=q1;obtain⟨t,rfl⟩:=r1;exact⟨some i,H1,I1,.int i t,q⟩
noncomputable def SlR (X:Cx) (r:V->Option Int->Option Int->Hp->VK->Prop):Prop :=
  ∀(pins:List (Addr × Obj)) (s:Shared) (σ:St) (H:Hp) (x:V) (v vl vu:Value) (lo hi:Option Int) (sl:Addr) (Q:VK),Inv X pins σ H s->RelV x v->s.heap.IsSliceOf sl vl vu .none->IsPart vl lo->IsPart vu hi->r x lo hi H Q ->
    ∃T id,typeLookup (.type T) "__getitem__" = pure (some (.builtin id))/\s.TypeIs v T/\wpAny (model X.prog X.w) X.A (getItem v (.ref sl)) (EP X pins σ Q) X.xe s
theorem SlR.or {r r' : V->Option Int->Option Int->Hp->VK->Prop}(h:SlR X r)(h' : SlR X r'):SlR X (fun x lo hi H Q=>r x lo hi H Q\/r' x lo hi H Q):=by
 intro pins s σ H x v vl vu lo hi sl Q I rx hs pl pu q;rcases q with q | q
 ·exact h pins s σ H x v vl vu lo hi sl Q I rx hs pl pu q
 ·exact h' pins s σ H x v vl vu lo hi sl Q I rx hs pl pu q
noncomputable def tSl (r:V->Option Int->Option Int->Hp->VK->Prop) (te:TE) (tl th:TO):TE:=fun σ H Q=>te σ H fun x H1=>tl σ H1 fun l H2=>th σ H2 fun u H3=>r x l u H3 Q
theorem zvy {r:V->Option Int->Option Int->Hp->VK->Prop}(hr:SlR X r)(he:PE X e te)(hl:PO X lo tl)(hu:PO X hi th):PE X (.Subscript e (.Slice lo hi none p2) pos) (tSl r te tl th):=by
 intro pins s σ H Q I h;refine Subscript_ (thn (he pins s σ H _ I h) fun v s1 ⟨x,H1,I1,r1,q1⟩=>?_);refine wpAny_Slice (thn (hl pins s1 σ H1 _ I1 q1) fun vl s2 ⟨l,H2,I2,pl,q2⟩=>thn (hu pins s2 σ H2 _ I2 q2) fun vu s3 ⟨u,H3,I3,pu,q3⟩=>?_);rw[evalPart_none];refine wpAny_pure ?_;have I4:Inv X pins σ H3 { s3 with heap:=s3.heap.push { cls:=.type "slice",data:=.fields #[vl,vu,.none] } }:=I3.kept (t':=s3.toks) fun b ob q=>Heap.get?_push_of_some _ q;obtain⟨T,id,hT,ht,hg⟩:=hr pins { s3 with heap:=s3.heap.push { cls:=.type "slice",data:=.fields #[vl,vu,.none] } } σ H3 x v vl vu l u s3.heap.objs.size Q I4 r1 (Heap.IsSliceOf.new ..) pl pu q3;show wpAny (model X.prog X.w) X.A (subscriptTail e (.Slice lo hi none p2) v (.ref s3.heap.objs.size)) (EP X pins σ Q) X.xe { s3 with heap:=s3.heap.push { cls:=.type "slice",data:=.fields #[vl,vu,.none] } };exact tail_any (ops:=[.ref s3.heap.objs.size,v]) ht hT hg (by with_unfolding_all rfl)
noncomputable def cutV (xs:List V) (lo hi:Option Int):List V:=(xs.drop (HT.sIx xs.length 0 lo)).take (HT.sIx xs.length xs.length hi - HT.sIx xs.length 0 lo)
theorem zf9 (xs:List V)(lo hi:Option Int):(cutV xs lo hi).length<=xs.length:=by
 unfold cutV;rw[List.length_take,List.length_drop];omega
noncomputable def rSlT (K:PySem.W.Frag):V->Option Int->Option Int->Hp->VK->Prop:=fun x lo hi H Q=>∃a xs,x=.ref a/\SqT K H a xs /\
 ¬ (HT.sIx xs.length 0 lo=0/\HT.sIx xs.length xs.length hi=xs.length)/\∀p,H p=none->Q (.ref p) (upd H p (.tup (cutV xs lo hi)))
theorem z3l:SlR X (rSlT X.K):=by
 intro pins s σ H x v vl vu lo hi sl Q I rx hs pl pu h;obtain⟨a,xs,rfl,hx,hw,q⟩:=h;cases rx;obtain⟨its,r,ht,hz⟩:=I.tuple hx;have hlen:its.toArray.size=xs.length:=by rw[List.size_toArray];exact r.length.symm
 refine⟨"tuple",_,PyProof.Rows.slot_tuple_getitem.lookup,ht.typeIs,?_⟩;refine HT.getItem_tuple_cut ht hs pl pu (by rw[hlen];exact hw) ?_ (by rw[hlen];exact hz);rw[hlen];refine⟨.ref s.heap.objs.size,_,I.laid (t':=s.toks) (o:=.tup (cutV xs lo hi)) (fun b ob q=>Heap.get?_push_of_some _ q) (Nat.le_refl _) ?_,rfl,q _ (I.hok.fresh (Nat.le_refl _))⟩;exact⟨Nat.le_trans (zf9 xs lo hi) hz,_,(r.drop (HT.sIx xs.length 0 lo)).take (HT.sIx xs.length xs.length hi - HT.sIx xs.length 0 lo),zjs.new _ _⟩
noncomputable def z2z (K:PySem.W.Frag):R2:=fun x y H Q=>∃a b xs ys,x=.ref a/\y=.ref b/\SqT K H a xs/\SqT K H b ys/\xs≠[]/\xs.length+ys.length<=sizeLine /\
 (ys=[]->Q (.ref a) H)/\(ys≠[]->∀p,H p=none->Q (.ref p) (upd H p (.tup (xs++ys))))
theorem Vals.nil_iff {xs:List V}{us:List Value}(r:Vals xs us):us=[]↔xs=[]:=by
 cases r with
 | nil=>simp
 | cons _ _=>simp
theorem zzu:OpR X (binaryOp .Add) (z2z X.K):=by
 intro pins s σ H x y v u Q I rx ry h;obtain⟨a,b,xs,ys,rfl,rfl,ha,hb,hx,hz,q1,q2⟩:=h;cases rx;cases ry;obtain⟨its,r1,p1,_⟩:=I.tuple ha;obtain⟨its2,r2,p2,_⟩:=I.tuple hb;refine HT.cat_tup p1 p2 (fun z=>hx (r1.nil_iff.mp z)) (fun z=>⟨.ref a,H,I,rfl,q1 (r2.nil_iff.mp z)⟩) (fun z=>?_) (by rw[<-r1.length,<-r2.length];exact hz);refine⟨.ref s.heap.objs.size,_,I.laid (t':=s.toks) (o:=.tup (xs++ys)) (fun b ob q=>Heap.get?_push_of_some _ q) (Nat.le_refl _) ?_,rfl,q2 (fun w=>z (r2.nil_iff.mpr w)) _ (I.hok.fresh (Nat.le_refl _))⟩;exact⟨by rw[List.length_append];exact hz,_,r1.append r2,zjs.new _ _⟩
end
noncomputable def ixN (n:Nat) (i:Int):Option Nat:=if 0<=i then (if i < n then some i.toNat else none) else if -(n:Int)<=i then some (i+n).toNat else none
noncomputable def atI {α:Type} (xs:List α) (i:Int):Option α:=(ixN xs.length i).bind fun j=>xs[j]?
theorem zl6 {n:Nat}{i:Int}{j:Nat}(h:ixN n i=some j):seqIndex? i n=some j/\j < n/\-(n:Int)<=i/\i < n:=by
 unfold ixN at h;by_cases h0:0<=i
 ·rw[if_pos h0] at h;by_cases h1:i < n
  ·rw[if_pos h1] at h;have e:i.toNat=j:=sI h;exact⟨by rw[seqIndex_of h0 h1,e],by omega,by omega,h1⟩
  ·rw[if_neg h1] at h;cases h
 ·rw[if_neg h0] at h;by_cases h1:-(n:Int)<=i
  ·rw[if_pos h1] at h;have e:(i+n).toNat=j:=sI h;exact⟨by rw[seqIndex_neg #v[] h1,e],by omega,h1,by omega⟩
  ·rw[if_neg h1] at h;cases h
theorem zr5 {α:Type}{xs:List α}{i:Int}{v:α} (h:atI xs i=some v):∃j,seqIndex? i xs.length=some j/\xs[j]?=some v/\j < xs.length/\-(xs.length:Int)<=i/\i < xs.length:=by
  unfold atI at h;cases e:ixN xs.length i with
  | none=>rw[e] at h;cases h
  | some j =>
    rw[e] at h;obtain⟨h1,h2,h3,h4⟩:=zl6 e;exact⟨j,h1,h,h2,h3,h4⟩
theorem z1d {α:Type}{xs:List α}{j:Nat}{v:α}(h:xs[j]?=some v):atI xs (j:Int)=some v:=by
 have hj:j < xs.length:=(List.getElem?_eq_some_iff.mp h).1;have e:ixN xs.length (j:Int)=some j:=by
  unfold ixN;rw[if_pos #v[],if_pos #v[]];simp
 unfold atI;rw[e];exact h
noncomputable def zsp (b:Expr):Prop:=∀o i,subscripted b false o i=operate [o,i] (getItem o i)
noncomputable def IxR (X:Cx) (r:R2):Prop :=
  ∀(value slice:Expr) (pins:List (Addr × Obj)) (s:Shared) (σ:St) (H:Hp) (x y:V) (v u:Value) (Q:VK),Inv X pins σ H s->RelV x v->RelV y u->r x y H Q ->
    subscripted slice false v u=operate [v,u] (getItem v u)->wpAny (model X.prog X.w) X.A (subscriptTail value slice v u) (EP X pins σ Q) X.xe s
noncomputable def MtR (X:Cx) (id:String) (r:V->List V->Hp->VK->Prop):Prop :=
  ∀(pins:List (Addr × Obj)) (s:Shared) (σ:St) (H:Hp) (x:V) (xs:List V) (v:Value) (us:List Value) (Q:VK),Inv X pins σ H s->RelV x v->Vals xs us->r x xs H Q ->
    wpAny (model X.prog X.w) X.A (call (.builtin id) (v::us)) (EP X pins σ Q) X.xe s
section
variable {X:Cx}{a b:Expr}{ta tb:TE}{pos:Pos}
theorem IxR.or {r r' : R2}(h:IxR X r)(h' : IxR X r'):IxR X (fun x y H Q=>r x y H Q\/r' x y H Q):=by
 intro value slice pins s σ H x y v u Q I rx ry q hs;rcases q with q | q
 ·exact h value slice pins s σ H x y v u Q I rx ry q hs
 ·exact h' value slice pins s σ H x y v u Q I rx ry q hs
theorem z6y {r:R2}(hr:IxR X r)(ha:PE X a ta)(hb:PE X b tb)(hs:zsp b):PE X (.Subscript a b pos) (tOp r ta tb):=by
 intro pins s σ H Q I h;exact Subscript_ (binT ha hb I h fun v u s2 x y H2 I2 rx ry q=>hr a b pins s2 σ H2 x y v u Q I2 rx ry q (hs _ _))
noncomputable def rIxL (K:PySem.W.Frag):R2:=fun x y H Q=>∃p xs i v,x=.ref p/\y=.int i/\SqL K H p xs/\atI xs i=some v/\Q v H
noncomputable def rIxT (K:PySem.W.Frag):R2:=fun x y H Q=>∃p xs i v,x=.ref p/\y=.int i/\SqT K H p xs/\atI xs i=some v/\Q v H
theorem z0c:IxR X (rIxL X.K):=by
 intro value slice pins s σ H x y v u Q I rx ry h hs;nofun;obtain⟨p,xs,i,z,rfl,rfl,hq,he,q⟩:=h;ac_rfl;cases rx;nofun;obtain⟨t,rfl⟩:=ry;obtain⟨its,r,pl,hz⟩:=I.list hq;obtain⟨j,h1,h2,h3,h4,h5⟩:=zr5 he;obtain⟨w,ew,rw'⟩:=r.get h2;ac_rfl;have hl:=r.length;have hn:=znf;have fin:EP X pins σ Q w s:=⟨z,H,I,rw',q⟩;by_cases h0:0<=i
 ·have hj:i.toNat=j:=by
   rw[seqIndex_of h0 h5] at h1;exact sI h1
  exact item_listR pl.isList h0 #v[] (by rw[hj];simpa using ew) fin hs
 ·have hj:(i+(its.toArray.size:Int)).toNat=j:=by
   rw[seqIndex_neg #v[] h4] at h1;rw[List.size_toArray,<-hl];exact sI h1
  exact subscriptTail_builtinR (x:=w) pl.isList.typeIs slot_list_getitem.lookup
   (wpAny_getItem_list_neg (Q:=fun r s'=>r=w/\EP X pins σ Q r s') pl.isList #v[] (by rw[List.size_toArray]<;>omega) #v[] (by rw[hj];simpa using ew) ⟨rfl,fin⟩) hs
theorem z2g:IxR X (rIxT X.K):=by
 intro value slice pins s σ H x y v u Q I rx ry h hs;obtain⟨p,xs,i,z,rfl,rfl,hq,he,q⟩:=h;cases rx;obtain⟨t,rfl⟩:=ry;obtain⟨its,r,pl,hz⟩:=I.tuple hq;obtain⟨j,h1,h2,h3,h4,h5⟩:=zr5 he;obtain⟨w,ew,rw'⟩:=r.get h2;have hl:=r.length;have hn:=znf;have fin:EP X pins σ Q w s:=⟨z,H,I,rw',q⟩;exact subscriptTail_builtinR (x:=w) pl.typeIs slot_tuple_getitem.lookup
  (getItem_tuple (j:=j) (Q:=fun r s'=>r=w/\EP X pins σ Q r s') pl #v[] #v[] (by rw[List.size_toArray,<-hl];exact h1) (by simpa using ew) ⟨rfl,fin⟩) hs
theorem zo5 (its:List Value)(n j:Nat)(u:Value):Obj.mapSeq (·.setIfInBounds j u) { cls:=.type "list",data:=.seq its.toArray n }={ cls:=.type "list",data:=.seq (its.set j u).toArray n }:=by
 simp [Obj.mapSeq]
theorem Inv.lst {pins:List (Addr × Obj)}{σ:St}{H:Hp}{s:Shared}{p:Addr}{xs:List V} (I:Inv X pins σ H s) (h:H p=some (.lst xs)) :
  ∃(its:List Value) (n:Nat),Vals xs its/\s.heap.get? p=some { cls:=.type "list",data:=.seq its.toArray n }/\xs.length<=sizeLine:=by
 nofun;obtain⟨z,its,n,r,e⟩:=I.hok p _ h;ac_rfl;exact⟨its,n,r,e,z⟩
theorem Inv.lstUpd {pins:List (Addr × Obj)}{σ:St}{H:Hp}{s:Shared}{p:Addr}{xs ys:List V}{its its' : List Value}{n n' : Nat}{f:Obj->Obj} (I:Inv X pins σ H s) (h:H p=some (.lst xs))
  (ho:s.heap.get? p=some { cls:=.type "list",data:=.seq its.toArray n }) (hf:f { cls:=.type "list",data:=.seq its.toArray n }={ cls:=.type "list",data:=.seq its'.toArray n' }) (r:Vals ys its') (hz:ys.length<=sizeLine) (t:Nat) :
  Inv X pins σ (upd H p (.lst ys)) { s with heap:=s.heap.update p f,toks:=t }:=by
 have e:(s.heap.update p f).get? p=some { cls:=.type "list",data:=.seq its'.toArray n' }:=by
  rw[Heap.get?_update_self f ho (by rw[hf]<;>rfl),hf]
 refine I.write (x:=p) (e:=p) (by rw[h];trivial) (.inl rfl) (fun b u hb q=>(Heap.get?_update_other _ _ (Ne.symm hb)).trans q) ⟨_,e⟩ ?_;exact⟨hz,its',n',r,e⟩
noncomputable def z2j:V->V->V->Hp->(Hp->Prop)->Prop:=fun o i v H Q=>∃p xs k j,o=.ref p/\i=.int k/\H p=some (.lst xs)/\ixN xs.length k=some j/\Q (upd H p (.lst (xs.set j v)))
theorem zvd:PSet X z2j:=by
 intro pins s σ H o i v ov iv u Q I ro ri rv h;nofun;obtain⟨p,xs,k,j,rfl,rfl,hp,hj,q⟩:=h;ac_rfl;cases ro;nofun;obtain⟨t,rfl⟩:=ri;obtain⟨its,n,r,ho,hz⟩:=I.lst hp;obtain⟨h1,h2,h3,h4⟩:=zl6 hj;ac_rfl;have hl:=r.length;have hn:=znf;have I' : Inv X pins σ (upd H p (.lst (xs.set j v))) { s with heap:=s.heap.update p (Obj.mapSeq (·.setIfInBounds j u)) } :=
  I.lstUpd hp ho (zo5 its n j u) (r.set rv j) (by rw[List.length_set];exact hz) s.toks
 by_cases h0:0<=k
 ·have hk:k.toNat=j:=by
   rw[seqIndex_of h0 h4] at h1;exact sI h1
  exact PySem.W.ki_setAt ho h0 #v[] (by rw[List.size_toArray,<-hl];exact h4) (by rw[hk];exact⟨_,I',q⟩)
 ·have hk:(k+(its.toArray.size:Int)).toNat=j:=by
   rw[seqIndex_neg #v[] h3] at h1;rw[List.size_toArray,<-hl];exact sI h1
  exact PySem.W.ki_setBack ho #v[] (by rw[List.size_toArray,<-hl];exact h3) #v[] (by rw[hk];exact⟨_,I',q⟩)
theorem zju (lo hi:Option Int) (n:Nat):(sliceBounds lo hi none n).1=((HT.sIx n 0 lo:Nat):Int)/\(sliceBounds lo hi none n).2.1=((HT.sIx n n hi:Nat):Int)/\(sliceBounds lo hi none n).2.2=1:=by
  refine⟨?_,?_,rfl⟩
  · cases lo with
    | none=>simp [sliceBounds,HT.sIx]
    | some i =>
      simp only [sliceBounds,HT.sIx,Option.getD_none,show (1:Int) > 0 by decide,if_true];by_cases h:i < 0
      · simp only [h,if_true]<;>omega
      · simp only [h,if_false]<;>omega
  · cases hi with
    | none=>simp [sliceBounds,HT.sIx]
    | some i =>
      simp only [sliceBounds,HT.sIx,Option.getD_none,show (1:Int) > 0 by decide,if_true];by_cases h:i < 0
      · simp only [h,if_true]<;>omega
      · simp only [h,if_false]<;>omega
theorem zia (its:List Value)(lo hi:Option Int):slicePick its.toArray lo hi none=((its.drop (HT.sIx its.length 0 lo)).take (HT.sIx its.length its.length hi - HT.sIx its.length 0 lo)).toArray:=by
 obtain⟨h1,h2,h3⟩:=zju lo hi its.toArray.size;unfold slicePick;rw[h1,h2,h3];simp only [sliceRange_one,pick_run,List.size_toArray]<;>rfl
noncomputable def rSlL (K:PySem.W.Frag):V->Option Int->Option Int->Hp->VK->Prop:=fun x lo hi H Q=>∃a xs,x=.ref a/\SqL K H a xs/\∀p,H p=none->Q (.ref p) (upd H p (.lst (cutV xs lo hi)))
theorem zyw:SlR X (rSlL X.K):=by
 intro pins s σ H x v vl vu lo hi sl Q I rx hs pl pu h;obtain⟨a,xs,rfl,hx,q⟩:=h;cases rx;obtain⟨its,r,ht,hz⟩:=I.list hx;have hlen:=r.length;refine⟨"list",_,slot_list_getitem.lookup,ht.isList.typeIs,?_⟩;refine wpAny_getItem_list_slice ht.isList hs pl pu .none (by simp) ?_ (by rw[List.size_toArray]<;>omega);rw[zia,<-hlen];refine⟨.ref s.heap.objs.size,_,I.laid (t':=s.toks) (o:=.lst (cutV xs lo hi)) (fun b ob q=>Heap.get?_push_of_some _ q) (Nat.le_refl _) ?_,rfl,q _ (I.hok.fresh (Nat.le_refl _))⟩;exact⟨Nat.le_trans (zf9 xs lo hi) hz,_,0,(r.drop (HT.sIx xs.length 0 lo)).take (HT.sIx xs.length xs.length hi - HT.sIx xs.length 0 lo),Heap.get?_push_size _ rfl⟩
theorem zey:zc9 X (.builtin "len") (fun xs H Q=>∃p ys,xs=[.ref p]/\(SqL X.K H p ys\/SqT X.K H p ys)/\Q (.int ys.length) H):=by
 intro pins s σ H xs us Q I r h;obtain⟨p,ys,rfl,hq,q⟩:=h;obtain⟨u,rfl,rx⟩:=vals1 r;cases rx;have hn:=znf;rcases hq with hq | hq
 ·obtain⟨its, r', pl, hz⟩ := I.list hq;have hlen:=r'.length;exact Calls.call_len_list pl.isList (by simp only [List.size_toArray]<;>omega) ⟨.int ys.length,H,I.tok _,⟨s.toks+1,by rw[List.size_toArray,hlen]⟩,q⟩
 ·obtain⟨its, r', pl, hz⟩ := I.tuple hq;have hlen:=r'.length;exact len_tuple pl (by simp only [List.size_toArray]<;>omega) ⟨.int ys.length,H,I.tok _,⟨s.toks+1,by rw[List.size_toArray,hlen]⟩,q⟩
theorem zc9.or {f:Value}{r r' : List V->Hp->VK->Prop}(h:zc9 X f r)(h' : zc9 X f r'):zc9 X f (fun xs H Q=>r xs H Q\/r' xs H Q):=by
 intro pins s σ H xs us Q I rs q;rcases q with q | q
 ·exact h pins s σ H xs us Q I rs q
 ·exact h' pins s σ H xs us Q I rs q
theorem zkp:zc9 X (.type "list") (fun xs H Q=>∃p ys,xs=[.ref p]/\(SqL X.K H p ys\/SqT X.K H p ys)/\∀l,H l=none->Q (.ref l) (upd H l (.lst ys))):=by
 intro pins s σ H xs us Q I r h;obtain ⟨p,ys,rfl,hq,q⟩:=h;obtain ⟨u,rfl,rx⟩:=vals1 r;cases rx;have fin:∀(its:List Value),Vals ys its->ys.length<=sizeLine->∀(h' : Heap) (c' : Nat),(∀b o',s.heap.get? b=some o'->h'.get? b=some o') ->
   h'.get? s.heap.objs.size=some { cls:=.type "list",dict:=none,data:=.seq its.toArray c',slots:=#[] }->EP X pins σ Q (.ref s.heap.objs.size) { s with heap:=h' }:=fun its r' hz h' c' kp e =>
  ⟨.ref s.heap.objs.size,_,I.laid (t':=s.toks) kp (Nat.le_refl _) (show ObjOk X.prog X.w _ h' _ (.lst ys) from ⟨hz,its,c',r',e⟩),rfl,q _ (I.hok.fresh (Nat.le_refl _))⟩
 rcases hq with hq | hq
 ·obtain⟨its, r', pl, hz⟩ := I.list hq;have hlen:=r'.length;obtain⟨o,ho,hc,n,hd⟩:=pl.isList;exact call_list_seq p (.inl rfl) ho hc hd (fun h' c' kp e=>fin its r' hz h' c' kp e) (by simp only [List.size_toArray]<;>omega)
 ·obtain⟨its, r', pl, hz⟩ := I.tuple hq;have hlen:=r'.length;obtain⟨o,ho,hc,n,hd⟩:=pl;exact call_list_seq p (.inr rfl) ho hc hd (fun h' c' kp e=>fin its r' hz h' c' kp e) (by simp only [List.size_toArray]<;>omega)
theorem zhv:zc9 X (.type "tuple") (fun xs H Q=>∃p ys,xs=[.ref p]/\((SqL X.K H p ys/\∀l,H l=none->Q (.ref l) (upd H l (.tup ys)))\/(SqT X.K H p ys/\Q (.ref p) H))):=by
 intro pins s σ H xs us Q I r h;obtain⟨p,ys,rfl,h⟩:=h;obtain⟨u,rfl,rx⟩:=vals1 r;cases rx;rcases h with ⟨hq,q⟩ | ⟨hq,q⟩
 ·obtain ⟨its, r', pl, hz⟩ := I.list hq;have hlen:=r'.length;refine call_tuple_list pl.isList (fun h' kp=>?_) (by simp only [List.size_toArray]<;>omega);have I1:Inv X pins σ H { s with heap:=h' }:=I.kept (t':=s.toks) kp;have I2:Inv X pins σ (upd H h'.objs.size (.tup ys)) { s with heap:=h'.push { cls:=.type "tuple",data:=.seq its.toArray } } :=
   I1.laid (t':=s.toks) (fun b o e=>Heap.get?_push_of_some _ e) (Nat.le_refl _) (show ObjOk X.prog X.w _ _ _ (.tup ys) from ⟨hz,its,r',zjs.new _ _⟩)
  exact⟨.ref h'.objs.size,_,I2,rfl,q _ (I1.hok.fresh (Nat.le_refl _))⟩
 ·obtain⟨its, r', pl, hz⟩ := I.tuple hq;exact call_tuple_same pl ⟨.ref p,H,I,rfl,q⟩
noncomputable def tyV (K:PySem.W.Frag) (T:String) (x:V) (H:Hp):Prop:=match x with
 | .str _=>T = "str"
 | .int _=>T = "int"
 | .ref p=>(T = "list"/\∃xs,SqL K H p xs)\/(T = "tuple"/\∃o,K.lookup p=some o/\o.cls=.type "tuple"/\o.dict=none) \/
   (T = "dict"/\((∃kvs,H p=some (.dK kvs))\/∃kvs,H p=some (.dT kvs)))\/(T = "set"/\∃S n,H p=some (.set S n))
 | _=>False
theorem z4i {pins:List (Addr × Obj)}{σ:St}{H:Hp}{s:Shared}{T:String}{x:V}{v:Value} (I:Inv X pins σ H s) (r:RelV x v) (ty:tyV X.K T x H) :
    s.TypeIs v T/\∀a,v=.ref a->∃ob,s.heap.get? a=some ob/\ob.dict=none:=by
  cases x with
  | str z =>
    obtain⟨t,rfl⟩:=r;cases (show T = "str" from ty);exact⟨typeIs_str s z t,fun _ e=>nomatch e⟩
  | int i =>
    obtain⟨t,rfl⟩:=r;cases (show T = "int" from ty);exact⟨typeIs_int s i t,fun _ e=>nomatch e⟩
  | ref p =>
    cases r;rcases ty with ⟨rfl,xs,hq⟩ | ⟨rfl,o,hk,hc,hd⟩ | ⟨rfl,hk⟩ | ⟨rfl,S,n,hk⟩
    · obtain ⟨its, _, pl, _⟩ := I.list hq
      refine⟨pl.isList.typeIs,fun a e=>?_⟩;cases e;obtain⟨o,n,e,c,hd,_⟩:=pl;exact⟨o,e,hd⟩
    · refine ⟨⟨o, I.kIn p o hk, hc⟩, fun a e => ?_⟩
      cases e;exact⟨o,I.kIn _ o hk,hd⟩
    · have z:∃o,s.heap.get? p=some o/\o.ExactDict:=by
        rcases hk with ⟨kvs,hk⟩ | ⟨kvs,hk⟩
        · obtain ⟨_, _, _, _, o, _, _, e, ex, _⟩ := I.hok p _ hk
          exact⟨o,e,ex⟩
        · obtain ⟨_, _, _, _, o, _, _, e, ex, _⟩ := I.hok p _ hk
          exact⟨o,e,ex⟩
      obtain⟨o,e,ex⟩:=z;refine⟨⟨o,e,ex.1⟩,fun a e2=>?_⟩;cases e2;exact⟨o,e,ex.2.1⟩
    · obtain ⟨o, _, _, _, e, ex, _⟩ := I.hok p _ hk
      refine⟨⟨o,e,ex.1⟩,fun a e2=>?_⟩;cases e2;exact⟨o,e,ex.2.1⟩
  | _=>exact False.elim ty
noncomputable def tBM (K:PySem.W.Frag) (T:String) (r:V->List V->Hp->VK->Prop) (to:TE) (t:TA):TE:=fun σ H Q=>to σ H fun x H1=>tyV K T x H1/\t σ H1 fun xs H2=>r x xs H2 Q
variable {o e:Expr}{es:List Expr}{to:TE}{t:TA}{name:Str}{apos cpos:Pos}{T id:String}{r:V->List V->Hp->VK->Prop}
theorem z27 (pa:PlainAttrs T) (slot:Slot T name id) (hty:typeOf (.builtin id)=pure (.type "method_descriptor")) (hm:MtR X id r) (ho:PE X o to) (ha:PA X (e::es) t)
  (hbase:attributeBase o name X.env (eval o X.env)=eval o X.env:=by rfl)
  (hfew:((backTo cpos (starEach (e::es) X.env)).all (fun x=>!x.1) && (backToKw cpos (keywordEach [] X.env)).all (fun x=>x.1.isSome)
   && decide ((e::es).length+([]:List Keyword).length+(if ([]:List Keyword).isEmpty then 0 else 1) < 30))=true:=by rfl)
  (hline:(apos.endLine == cpos.line)=true:=by rfl) (hs:starEach (e::es) X.env=(false,eval e X.env)::starEach es X.env:=by rfl) (hplain:(backTo cpos (starEach es X.env)).any (·.1)=false:=by rfl) :
  PE X (.Call (.Attribute o name apos) (e::es) [] cpos) (tBM X.K T r to t):=by
 intro pins s σ H Q I h;refine wpAny_Call_method_late hbase hfew hline rfl (thn (ho pins s σ H _ I h) fun v s1 ⟨x,H1,I1,r1,ty,q1⟩=>?_);obtain⟨h1,h2⟩:=z4i I1 r1 ty;refine⟨T,id,pa,slot,hty,h1,h2,?_⟩;have hA:=ha cpos pins s1 σ H1 _ I1 q1;rw[hs] at hA ⊢;refine Calls.callWith_builtin (by show (false || (backTo cpos (starEach es X.env)).any (·.1))=false;rw[hplain]<;>rfl) (Calls.evalArgs_plain ?_);exact thn hA fun us s2 ⟨vs,H2,I2,r2,q2⟩=>hm pins s2 σ H2 x vs v us Q I2 r1 r2 q2
end
noncomputable def MtM (X:Cx) (id:String) (r:V->List V->Hp->VK->Prop):Prop :=
  ∀(pins:List (Addr × Obj)) (s:Shared) (σ:St) (H:Hp) (x:V) (xs:List V) (v:Value) (us:List Value) (Q:VK),Inv X pins σ H s->RelV x v->Vals xs us->r x xs H Q ->
    wpAny (model X.prog X.w) X.A (call (.builtin id) (v::us)) (EP X pins σ Q) X.xe s
theorem Vals.one:∀{x:V}{us:List Value},Vals [x] us->∃u,us=[u]/\RelV x u
 | _,_,.cons r .nil=>⟨_,rfl,r⟩
theorem Vals.eraseIdx:∀{xs:List V}{us:List Value} (i:Nat),Vals xs us->Vals (xs.eraseIdx i) (us.eraseIdx i)
 | _,_,_,.nil=>.nil
 | _,_,0,.cons _ t=>t
 | _,_,i+1,.cons r t=>.cons r (Vals.eraseIdx i t)
theorem Vals.rep {xs:List V}{us:List Value} (h:Vals xs us):∀k:Nat,Vals (List.replicate k xs).flatten (List.replicate k us).flatten
  | 0=>.nil
  | k+1=>by
    rw[List.replicate_succ,List.replicate_succ,List.flatten_cons,List.flatten_cons];exact Vals.append h (Vals.rep h k)
theorem len_erase {α:Type}:∀(l:List α) (i:Nat),(l.eraseIdx i).length<=l.length
 | [],_=>Nat.le_refl _
 | _::_,0=>Nat.le_succ _
 | _::r,i+1=>Nat.succ_le_succ (len_erase r i)
theorem zjx (its:List Value):∀(k:Nat) (acc:List Value),
    List.foldl (fun x1 x2=>x1++x2) acc.toArray (List.replicate k its.toArray)=(acc++(List.replicate k its).flatten).toArray
  | 0,acc=>by simp
  | k+1,acc=>by
    have e:acc.toArray++its.toArray=(acc++its).toArray:=by simp
    have e2:(acc++its)++(List.replicate k its).flatten=acc++(List.replicate (k+1) its).flatten:=by
      rw[List.replicate_succ,List.flatten_cons,List.append_assoc]
    rw[<-e2,<-zjx its k (acc++its),<-e,List.replicate_succ,List.foldl_cons]
section
variable {X:Cx}{pins:List (Addr × Obj)}{σ:St}{H:Hp}{s:Shared}{l b:Addr}{xs ys zs:List V}
theorem Inv.lset {its its' : List Value}{n:Nat}{f:Array Value->Array Value}{t' : Nat} (I:Inv X pins σ H s) (hH:H l=some (.lst xs))
  (e:s.heap.get? l=some { cls:=.type "list",data:=.seq its.toArray n }) (hf:f its.toArray=its'.toArray) (hv:Vals ys its') (hz:ys.length<=sizeLine) :
  Inv X pins σ (upd H l (.lst ys)) { s with heap:=s.heap.update l (Obj.mapSeq f),toks:=t' }:=by
 have q:=PySem.IsL.update e f;rw[hf] at q;refine I.write (x:=l) (e:=l) (by rw[hH];exact trivial) (.inl rfl) (fun b' u hb hu=>(Heap.get?_update_other s.heap (Obj.mapSeq f) (Ne.symm hb)).trans hu) ⟨_,q⟩ ?_;exact⟨hz,its',_,hv,q⟩
theorem Inv.lnew {its:List Value}{t' : Nat} (I:Inv X pins σ H s) (hv:Vals ys its) (hz:ys.length<=sizeLine) :
  Inv X pins σ (upd H s.heap.objs.size (.lst ys)) { s with heap:=s.heap.push { cls:=.type "list",data:=.seq its.toArray },toks:=t' } :=
 I.laid (fun _ _ q=>Heap.get?_push_of_some _ q) (Nat.le_refl _) ⟨hz,its,0,hv,Heap.get?_push_size _ rfl⟩
theorem Inv.fresh (I:Inv X pins σ H s):H s.heap.objs.size=none:=I.hok.fresh (Nat.le_refl _)
theorem Inv.lstM (I:Inv X pins σ H s)(hH:H l=some (.lst xs)):xs.length<=sizeLine/\∃(its:List Value) (n:Nat),Vals xs its/\xs.length=its.length/\s.heap.get? l=some { cls:=.type "list",data:=.seq its.toArray n }:=by
 nofun;obtain⟨z,its,n,r,e⟩:=I.hok l _ hH;ac_rfl;exact⟨z,its,n,r,r.length,e⟩
theorem zoi {n:Nat}(h:n<=sizeLine):Builtin.List.listTooLong n=false:=by
 unfold Builtin.List.listTooLong;exact decide_eq_false #v[]
end
section
variable {X:Cx}
noncomputable def zqc:V->List V->Hp->VK->Prop:=fun x vs H Q=>∃l xs y,x=.ref l/\vs=[y]/\H l=some (.lst xs)/\xs.length < sizeLine/\Q .non (upd H l (.lst (xs++[y])))
theorem zi8:MtM X "list.append" zqc:=by
 intro pins s σ H x vs v us Q I rx rv h;obtain⟨l,xs,y,rfl,rfl,hH,hz,q⟩:=h;cases rx;obtain⟨u,rfl,ru⟩:=rv.one;obtain⟨z,its,n,r,hl,e⟩:=I.lstM hH;refine call_meets F.slot_list_append ⟨_,e,rfl⟩ F.entry_list_append (F.args_list_append_2 _ _) (PySem.list_append l its.toArray n u (by rw[List.size_toArray];omega)) ⟨e,?_⟩;refine⟨.non,_,I.lset (its':=its++[u]) hH e (by simp) (r.append (.cons ru .nil)) ?_,rfl,q⟩;rw[List.length_append,List.length_singleton];omega
noncomputable def z0w:V->List V->Hp->VK->Prop:=fun x vs H Q=>∃l b xs zs,x=.ref l/\vs=[.ref b]/\H l=some (.lst xs)/\H b=some (.lst zs)/\xs.length+zs.length<=sizeLine/\Q .non (upd H l (.lst (xs++zs)))
theorem z3i:MtM X "list.extend" z0w:=by
 intro pins s σ H x vs v us Q I rx rv h;nofun;obtain⟨l,b,xs,zs,rfl,rfl,hH,hB,hz,q⟩:=h;ac_rfl;cases rx;obtain⟨u,rfl,ru⟩:=rv.one;cases ru;nofun;obtain⟨z,its,n,r,hl,e⟩:=I.lstM hH;obtain⟨z2,its2,n2,r2,hl2,e2⟩:=I.lstM hB;ac_rfl;have hsz:its.toArray.size+its2.toArray.size<=sizeLine:=by rw[List.size_toArray,List.size_toArray];omega
 have hlong:¬ (!its.toArray.isEmpty && Builtin.List.listTooLong (its.toArray.size+its2.toArray.size))=true:=by
  rw[zoi hsz,Bool.and_false];exact Bool.false_ne_true
 refine call_meets F.slot_list_extend ⟨_,e,rfl⟩ F.entry_list_extend (F.args_list_extend_2 _ _)
  (AutoSeq1.list_extend_list_list_0 l its.toArray n b its2.toArray n2 hlong (by rw[List.size_toArray];omega) #v[]) ⟨e,e2,?_⟩
 refine⟨.non,_,I.lset (its':=its++its2) hH e (by simp) (r.append r2) ?_,rfl,q⟩;rw[List.length_append];omega
noncomputable def zx2:V->List V->Hp->VK->Prop:=fun x vs H Q=>∃l xs i k y,x=.ref l/\vs=[.int i]/\H l=some (.lst xs)/\-(2 ^ 63)<=i/\i < 2 ^ 63/\seqIndex? i xs.length=some k/\xs[k]?=some y/\Q y (upd H l (.lst (xs.eraseIdx k)))
theorem zuo:MtM X "list.pop" zx2:=by
 intro pins s σ H x vs v us Q I rx rv h;nofun;obtain⟨l,xs,i,k,y,rfl,rfl,hH,h1,h2,hk,hy,q⟩:=h;ac_rfl;cases rx;nofun;obtain⟨u,rfl,ru⟩:=rv.one;obtain⟨t,rfl⟩:=ru;obtain⟨z,its,n,r,hl,e⟩:=I.lstM hH;obtain⟨w,hw,rw'⟩:=r.get hy;ac_rfl;refine call_meets F.slot_list_pop ⟨_,e,rfl⟩ F.entry_list_pop (F.args_list_pop_2 _ _)
  (MeetsSeq.list_pop_at l its.toArray n i t k w (fitsIndex_both h1 h2) (by rw[List.size_toArray,<-hl];exact hk) (by rw[<-Array.getElem?_toList];exact hw) (by rw[List.size_toArray];omega)) ⟨e,?_⟩
 refine⟨y,_,I.lset (its':=its.eraseIdx k) hH e ?_ (r.eraseIdx k) ?_,rw',q⟩
 ·show its.toArray.eraseIdxIfInBounds k = (its.eraseIdx k).toArray;rw[List.eraseIdxIfInBounds_toArray]
 ·have := len_erase xs k;omega
noncomputable def rCat:R2:=fun x y H Q=>∃l b xs zs,x=.ref l/\y=.ref b/\H l=some (.lst xs)/\H b=some (.lst zs)/\xs.length+zs.length<=sizeLine/\∀p,H p=none->Q (.ref p) (upd H p (.lst (xs++zs)))
theorem z3t:OpR X (binaryOp .Add) rCat:=by
 intro pins s σ H x y v u Q I rx ry h;nofun;obtain⟨l,b,xs,zs,rfl,rfl,hH,hB,hz,q⟩:=h;ac_rfl;cases rx;cases ry;nofun;obtain⟨z,its,n,r,hl,e⟩:=I.lstM hH;obtain⟨z2,its2,n2,r2,hl2,e2⟩:=I.lstM hB;ac_rfl;refine PySem.P.add_list e e2 ?_ (by rw[List.size_toArray,List.size_toArray];omega);have ea:its.toArray++its2.toArray=(its++its2).toArray:=by simp
 rw[ea];exact⟨.ref _,_,I.lnew (t':=s.toks) (r.append r2) (by rw[List.length_append];omega),rfl,q _ I.fresh⟩
noncomputable def rRep:R2:=fun x y H Q=>∃l k xs,x=.ref l/\y=.int k/\H l=some (.lst xs)/\-(2 ^ 63)<=k/\k < 2 ^ 63/\xs.length * k.toNat<=sizeLine /\
 ∀p,H p=none->Q (.ref p) (upd H p (.lst (List.replicate k.toNat xs).flatten))
theorem zzg {α:Type}(xs:List α)(k:Nat):(List.replicate k xs).flatten.length=k * xs.length:=by
 induction k with
 | zero=>simp
 | succ k ih=>rw[List.replicate_succ,List.flatten_cons,List.length_append,ih,Nat.succ_mul,Nat.add_comm]
theorem z4t:OpR X (binaryOp .Mult) rRep:=by
 intro pins s σ H x y v u Q I rx ry h;nofun;obtain⟨l,k,xs,rfl,rfl,hH,h1,h2,hz,q⟩:=h;ac_rfl;cases rx;nofun;obtain⟨t,rfl⟩:=ry;obtain⟨z,its,n,r,hl,e⟩:=I.lstM hH;ac_rfl;have hlen:its.toArray.size * k.toNat<=sizeLine:=by rw[List.size_toArray,<-hl];exact hz
 have hcap:¬ its.toArray.size * k.toNat > (2 ^ 63 - 1) / 8:=by
  have:(sizeLine:Nat)<=(2 ^ 63 - 1) / 8:=by decide
  omega
 have hfit:¬ (!Builtin.List.listFitsIndex k)=true:=by
  rw[fitsIndex_both h1 h2];exact Bool.false_ne_true
 have hlong:¬ Builtin.List.listTooLong (its.toArray.size * k.toNat)=true:=by
  rw[zoi hlen];exact Bool.false_ne_true
 have hnew:List.foldl (fun x1 x2=>x1++x2) #[] (List.replicate (if its.toArray.isEmpty=true then 0 else k.toNat) its.toArray)=(List.replicate k.toNat its).flatten.toArray:=by
  have f0:∀m:Nat,List.foldl (fun x1 x2=>x1++x2) #[] (List.replicate m its.toArray)=(List.replicate m its).flatten.toArray:=fun m=>by
   have:=zjx its m [];rw[List.nil_append] at this;exact this
  rw[f0];cases its with
  | nil=>simp
  | cons a r'=>rw[if_neg (by simp)]
 refine wpAny_binaryOp_repeat_ref (T := "list") (U := "int") #v[0,9] ⟨_,e,rfl⟩ (fun s'=>typeIs_int s' k t) noFill_list_mul F.fills_int_mul F.slot_int_rmul repeat_list F.slot_int_index.lookup
  (call_meets F.slot_int_rmul (typeIs_int s k t) F.entry_int_rmul (F.args_int_rmul_2 _ _) (int___rmul___int_list k t l its.toArray n)
   ⟨e,rfl,⟨_,e,rfl⟩,call_meets F.slot_list_mul ⟨_,e,rfl⟩ F.entry_list_mul (F.args_list_mul_2 _ _) (AutoListH.list___mul___list_int_3 l its.toArray n k t hfit hcap hlong) ⟨e,?_⟩⟩)
 rw[hnew];exact⟨.ref _,_,I.lnew (t':=s.toks) (r.rep k.toNat) (by rw[zzg,Nat.mul_comm];exact hz),rfl,q _ I.fresh⟩
end
section
variable {prog:Program}{w:World}{A:Around}{E:Value->Shared->Prop}{s:Shared}
end
section
variable {X:Cx}
end
end L2
namespace Att
open PySem PySem.W PySem.Calls PyProof.Rows
theorem zf6 {P:Params}{h:Heap}:∀(ns:List Int) (vs:List Value),WellAll P h vs (ns.map WData.int)->IntsAre vs ns:=by
  intro ns
  induction ns with
  | nil =>
    intro vs w;rw[List.map_nil] at w;cases w;exact .nil
  | cons n ns ih =>
    intro vs w;rw[List.map_cons] at w;cases w with
    | cons a b =>
      cases a;exact .cons _ _ (ih _ b)
theorem zsl {l:OpenLaw}{n:Nat} (hn:l.most=some n) {P:Params}{h:Heap}{args:List WData}{vals:List Value}
    (hpre:l.row.toRowW.claim.pre args=true) (hwl:WellAll P h vals args) :
    ∃a vs ns,vals=[Value.ref a]/\args=[WData.list (ns.map WData.int)]/\h.get? a=some { cls:=.type "list",data:=.seq vs.toArray }/\IntsAre vs ns/\ns.length<=n:=by
  have hsh:WShape.hasAll [] args [.list .int]=true:=(pre_splitW hpre).1;have hc:l.pre.holds [] { args:=args }=true:=(pre_splitW hpre).2;obtain ⟨d,r,rfl,h1,h2⟩:=hasAllW_cons hsh;obtain rfl:=hasAllW_nil h2;obtain ⟨xs,rfl,h3⟩:=hasW_list h1;obtain ⟨ns,rfl⟩:=items_int h3;have hlen:ns.length<=n:=by
    unfold OpenLaw.pre at hc;have h4:(WTm.not (.lt (.lit (.int (n:Int))) (.len (.arg 0)))).holds [] { args:=[.list (ns.map .int)] }=true:=by
      have h4:=(holds_andW hc).1;rw[hn] at h4;exact h4
    have h5:=condW_of h4 (w_not (w_lt w_lit (w_len_list (w_arg rfl))));rw[List.length_map] at h5;refine Nat.le_of_not_lt fun q=>?_;have q' : (n:Int) < ((ns.length:Nat):Int):=by omega
    first
      | (rw[decide_eq_true q'] at h5;exact absurd h5 #v[0,9])
      | (simp at h5;omega)
  cases hwl with
  | cons w1 w2 =>
    cases w2;cases w1 with
    | list ho hall=>exact⟨_,_,ns,rfl,rfl,ho,zf6 ns _ hall,hlen⟩
theorem zp0 (l:OpenLaw)(args:List WData):l.row.toRowW.claim.post args (.bool true) args=true :=
 postW_of (r:=l.row.toRowW) (X:=(true == true))
  (show WShape.has [] (.bool true) .bool=true by first | rfl | decide | simp [WShape.has,WShape.arms,WShape.armsAll])
  (show (WTm.eq .res (.lit (.bool true))).value [] { args:=args,res:=some (.bool true),after:=args }=some (.bool (true == true)) from w_eq_bool (w_res rfl) w_lit) rfl
theorem attach_call {l:OpenLaw}{n:Nat}{q:Program}{loose:List Str}{XP:(Str->Option Value)->Heap->Prop}{YP:World->Heap->Prop}{d:DefRec}
  (hn:l.most=some n) (hdf:d.params.defaults=[])
  (call:∀(w:World) (s₀ s₁:Shared) (mg mb:Str->Option Value) (fa:Addr) (o:Obj) (pm cd doc:Value) (a:Addr) (vs:List Value) (ns:List Int),
   Ground q loose [] XP w s₀ mg mb s₁.heap->YP w s₁.heap ->
   s₁.heap.get? fa=some o->o.data=.func (docDef d.name d.params d.body d.scope pm cd doc)->s₁.heap.CodeRec cd d.name->mg d.name=some (.ref fa) ->
   s₁.heap.get? a=some { cls:=.type "list",data:=.seq vs.toArray }->IntsAre vs ns->ns.length<=n->s₁.gens=#[] ->
   codeAny (model l.prog w) callerA (.call (.ref fa) ⟨[.ref a],[]⟩) (fun r s'=>r=.ok (.ret (.bool true))/\OldK s₁.heap s'.heap/\s'.os=s₁.os/\AllBare s'.gens) s₁) :
  WalkO q loose XP YP l.row.toRowW d [] (fun f vs=>PySem.call f vs):=by
 intro w s₀ s₁ mg mb G Y fa o pm cd doc dV kV ho hd hcd hD hmg hg args vals as hpre hlay hrd hwl hlo;obtain rfl:dV=.none:=Dflts.none hD hdf;obtain rfl:kV=.none:=Dflts.noKw hD;obtain⟨a,vs,ns,rfl,rfl,hobj,hints,hlen⟩:=zsl hn hpre hwl;refine enter_call (codeAny_mono (call w s₀ s₁ mg mb fa o pm cd doc a vs ns G Y ho (fd_plain hd) hcd hmg hobj hints hlen hg) fun r s' hq=>?_);obtain⟨rfl,h2,h3,h4⟩:=hq;exact⟨.inl ⟨.bool true,.bool true,[],rfl,fun _=>rfl,.bool true,zp0 l _,fun _=>⟨List.Pairwise.nil,fun _ hm=>(nomatch hm)⟩⟩,h2,h3,h4⟩
section
variable {prog:Program}{w:World}{A:Around}{E:Value->Shared->Prop}{s:Shared}{K:Frag}
end
end Att
namespace L2
open PySem PySem.Spec PyProof.Rows
theorem zkd:∀{vs:List Value}{ns:List Int},IntsAre vs ns->Vals (ns.map V.int) vs
 | _,_,.nil=>.nil
 | _,_,.cons n t h=>.cons ⟨t,rfl⟩ (zkd h)
noncomputable def zen (s:Stmt):Arguments:=match s with
 | .FunctionDef _ a _ _ _ _ _ _ _ _=>a
 | _=>{ posonlyargs:=[],args:=[],vararg:=none,kwonlyargs:=[],kw_defaults:=[],kwarg:=none,defaults:=[] }
noncomputable def zdg (s:Stmt):List Stmt:=match s with
 | .FunctionDef _ _ b _ _ _ _ _ _ _=>b
 | _=>[]
noncomputable def zam (s:Stmt):Scope:=match s with
 | .FunctionDef _ _ _ _ _ _ sc _ _ _=>sc
 | _=>{ kind:=.function,names:=[],isGenerator:=false,isCoroutine:=false }
noncomputable abbrev CX0:CXT:=fun _ _ _ _ _ _=>False
noncomputable abbrev E0:XK:=fun _ _ _=>False
theorem z7r {X:Cx}:zrs CX0 X E0:=fun _ _ _ _ _ _ _ h=>h.elim
structure Fun (K:PySem.W.Frag) (x qual:Str) (st:Stmt) (f:Addr) (fd:FuncData):Prop where
 ex:∃(oc:Value) (od:Option Addr) (kV doc pm:Value) (an:Option Addr) (cdv ct:Value) (osl:Array (Option Value)),
  fd=PySem.W.fnOf x qual (zen st) (zdg st) (zam st) .none kV doc pm an cdv ct/\K.lookup f=some ⟨oc,od,.func fd,osl⟩/\PySem.W.codeIn K cdv qual=true
 kp:PySem.W.keepIn K (.ref f)=true
section
variable {P:Program}{w:World}{K:PySem.W.Frag}{mg:Str->Option Value}{base:Heap}
theorem Fun.binds {x qual:Str}{st:Stmt}{f:Addr}{fd:FuncData}{ps:List Str} (F:Fun K x qual st f fd)
  (h:∀(kV doc pm:Value) (an:Option Addr) (cdv ct:Value) (us:List Value),us.length=ps.length->bindArgs (PySem.W.fnOf x qual (zen st) (zdg st) (zam st) .none kV doc pm an cdv ct) ⟨us,[]⟩=pure (ps.zip us)):zlx K fd ps []:=by
 obtain⟨oc,od,kV,doc,pm,an,cdv,ct,osl,rfl,lk,hcd⟩:=F.ex;exact .all (h kV doc pm an cdv ct)
theorem zx3 {x qual:Str}{st:Stmt}{f:Addr}{oc:Value}{od an:Option Addr}{osl:Array (Option Value)}{kV doc pm cdv ct:Value} (l:K.lookup f=some ⟨oc,od,.func (PySem.W.fnOf x qual (zen st) (zdg st) (zam st) .none kV doc pm an cdv ct),osl⟩)
  (c:PySem.W.codeIn K cdv qual=true) (k:PySem.W.keepIn K (.ref f)=true):Fun K x qual st f (PySem.W.fnOf x qual (zen st) (zdg st) (zam st) .none kV doc pm an cdv ct):=⟨⟨oc,od,kV,doc,pm,an,cdv,ct,osl,rfl,l,c⟩,k⟩
end
section
variable {X:Cx}
theorem pv (i:Nat) {x:Str}{pos:Pos} (hN:X.N[i]?=some x:=by rfl) (hv:Vis X.env.scope x:=by first | exact Or.inl rfl | exact Or.inr (Or.inl rfl) | exact Or.inr (Or.inr rfl)) (hd:(x == ("__debug__" : Str))=false:=by decide)
  (hcd:(x == ("__classdict__" : Str))=false:=by decide):PE X (.Name x pos) (tVar i):=zoc hN hv hd hcd
end
theorem iteF {A B:Prop}(h:B):if false=true then A else B:=by
 rw[if_neg Bool.false_ne_true];exact h
theorem iteT {A B:Prop}(h:A):if true=true then A else B:=by
 rw[if_pos rfl];exact h
noncomputable def Same (H H' : Hp):Prop:=∀b o,H b=some o->H' b=some o
theorem Same.refl (H:Hp):Same H H:=fun _ _ h=>h
theorem Same.trans {H H1 H2:Hp}(a:Same H H1)(b:Same H1 H2):Same H H2:=fun c o h=>b c o (a c o h)
theorem Same.free {H H' : Hp} (e:Same H H') {l:Addr} (h:H' l=Option.none):H l=Option.none:=by
  cases q:H l with
  | none=>rfl
  | some o =>
    rw[e l o q] at h;cases h
theorem Same.seq {K:PySem.W.Frag}{H H' : Hp}{a:Addr}{xs:List V}(e:Same H H')(h:SqL K H a xs):SqL K H' a xs:=by
 rcases h with (h | ⟨o,h⟩) | h
 ·exact .inl (.inl (e _ _ h))
 ·exact .inl (.inr ⟨o,e _ _ h⟩)
 ·exact .inr h
noncomputable def capSt (cap:List (Option Nat)) (σ:St):St:=cap.map fun o=>match o with
 | some i=>(σ[i]?).getD none
 | none=>none
noncomputable def zgr (cap:List (Option Nat)) (Nc N:List Str) (scope:Scope):Bool :=
 decide (cap.length=Nc.length) && (cap.zip Nc).all fun p=>match p.1 with
  | some i=>decide (N[i]?=some p.2) && decide (scope.names.lookup p.2=some NameKind.free)
  | none=>true
theorem zsq {cap Nc N scope}(h:zgr cap Nc N scope=true):cap.length=Nc.length:=by
 unfold zgr at h;rw[Bool.and_eq_true] at h;exact of_decide_eq_true h.1
theorem zs5 {cap:List (Option Nat)}{Nc N:List Str}{scope:Scope}(h:zgr cap Nc N scope=true){j i:Nat}{x:Str}(h1:cap[j]?=some (some i))(h2:Nc[j]?=some x):N[i]?=some x/\scope.names.lookup x=some .free:=by
 unfold zgr at h;rw[Bool.and_eq_true] at h;have hm:(some i,x)∈cap.zip Nc:=by
  refine List.mem_of_getElem? (i:=j) ?_;rw[List.getElem?_zip_eq_some];exact⟨h1,h2⟩
 have q:=List.all_eq_true.mp h.2 _ hm;simp only [Bool.and_eq_true,decide_eq_true_eq] at q;exact q
noncomputable def zfu (scope:Scope) (out:Scope):Bool:=scope.names.all fun p=>!(p.2 == NameKind.free) || decide (out.names.lookup p.1=some .cell) || decide (out.names.lookup p.1=some .free)
theorem zel {env:Env}:∀(names:List (Str × NameKind)) (acc:List (Str × Addr)),(∀x,(x,NameKind.free)∈names->∃c,env.cells.lookup x=some c)->(∀x c,acc.lookup x=some c->env.cells.lookup x=some c) ->
    ∃cl,(forIn names acc fun (p:Str × NameKind) cs=>if p.2 == NameKind.free then do let c <- cellOf env p.1;pure (ForInStep.yield ((p.1,c)::cs)) else pure (ForInStep.yield cs):Sem (List (Str × Addr)))=pure cl /\
      (∀x c,cl.lookup x=some c->env.cells.lookup x=some c)/\(∀x,(x,NameKind.free)∈names\/(∃c,acc.lookup x=some c)->∃c,cl.lookup x=some c)
  | [],acc,_,h2=>⟨acc,by rw [List.forIn_nil],h2,fun x hx=>by
      rcases hx with hx | hx
      · cases hx
      · exact hx⟩
  | (n,k)::r,acc,h1,h2=>by
    rw[List.forIn_cons];by_cases hk:(k == NameKind.free)=true
    · have ek : k = .free := by simpa using hk
      subst ek;obtain ⟨c,hc⟩:=h1 n List.mem_cons_self;have h2' : ∀x d,((n,c)::acc).lookup x=some d->env.cells.lookup x=some d:=fun x d hx=>by
        rw[List.lookup_cons] at hx;cases e:x == n with
        | true => rw [e] at hx; obtain rfl := sI hx; have : x = n := by simpa using e
                  rw[this];exact hc
        | false=>rw[e] at hx;exact h2 x d hx
      obtain⟨cl,e,a,b⟩:=zel r ((n,c)::acc) (fun x hx=>h1 x (List.mem_cons_of_mem _ hx)) h2';refine⟨cl,?_,a,fun x hx=>b x ?_⟩
      · rw [<- e]
        have hcell:cellOf env n=pure c:=by unfold cellOf;rw[hc]
        simp only [beq_self_eq_true,if_true,hcell]
        rfl
      · have gen:∀y d,acc.lookup y=some d->∃d',((n,c)::acc).lookup y=some d':=fun y d hy=>by
          rw[List.lookup_cons];cases e:y == n with
          | true=>exact⟨_,rfl⟩
          | false=>exact⟨d,hy⟩
        rcases hx with hx | ⟨d,hx⟩
        · rcases List.mem_cons.mp hx with hx | hx
          · injection hx with hx _
            subst hx;exact .inr ⟨c,by rw[List.lookup_cons];simp⟩
          · exact .inl hx
        · exact .inr (gen x d hx)
    · have hk' : (k == NameKind.free) = false := by simpa using hk
      obtain⟨cl,e,a,b⟩:=zel r acc (fun x hx=>h1 x (List.mem_cons_of_mem _ hx)) h2;refine⟨cl,?_,a,fun x hx=>b x ?_⟩
      · rw [<- e]
        simp only [hk',Bool.false_eq_true,if_false]
        rfl
      · rcases hx with hx | hx
        · rcases List.mem_cons.mp hx with hx | hx
          · injection hx with _ hx
            subst hx;simp at hk'
          · exact .inl hx
        · exact .inr hx
theorem zc2 {env:Env}{scope:Scope} (h:∀x,(x,NameKind.free)∈scope.names->∃c,env.cells.lookup x=some c) :
  ∃cl,closureFor scope env=pure cl/\(∀x c,cl.lookup x=some c->env.cells.lookup x=some c)/\(∀x,(x,NameKind.free)∈scope.names->∃c,cl.lookup x=some c):=by
 nofun;obtain⟨cl,e,a,b⟩:=zel (env:=env) scope.names [] h (fun x c hx=>by simp at hx);ac_rfl;refine⟨cl,?_,a,fun x hx=>b x (.inl hx)⟩;rw[closureFor];have e':=e;simp only [bind_assoc,pure_bind] at e' ⊢;exact congrArg (fun m=>m >>= fun r=>pure r) e |>.trans (by rw[pure_bind])
noncomputable def za0 (X:Cx) (Nc:List Str) (scope:Scope) (cl:List (Str × Addr)) (C:Addr) (s3:Shared) (H3:Hp) (fp:List Addr):Cx where
 prog:=X.prog
 w:=X.w
 K:=X.K
 mg:=X.mg
 base:=X.base
 A:=X.A
 N:=Nc
 s₀:=s3
 H₀:=H3
 env:=compEnvC scope cl C X.env
 outer:=X.stack
 stack:=X.stack
 ex:=fp
 fn:=fun x=>decide (scope.names.lookup x=some NameKind.cell)
 calm:=X.calm
 pn:=[]
 xe:=fun _ _=>False
noncomputable def zyb:TT:=fun σ H Q=>Q true H
noncomputable def PTs (X:Cx) (ifs:List Expr) (t:TT):Prop :=
  ∀(pins:List (Addr × Obj)) (s:Shared) (σ:St) (H:Hp) (Q:Bool->Hp->Prop),Inv X pins σ H s->t σ H Q ->
    wpAny (model X.prog X.w) X.A (forIn ifs true fun c r=>if r=true then do let ok <- isTrue c X.env (eval c X.env);pure (ForInStep.yield ok) else pure (ForInStep.yield r)) (TP X pins σ Q) X.xe s
theorem zza {X:Cx}:PTs X [] zyb:=fun pins s σ H Q I h=>by
 rw[List.forIn_nil];exact wpAny_pure ⟨H,I,h⟩
theorem zzq {X:Cx}{c:Expr}{t:TT}(h:PT X c t):PTs X [c] t:=fun pins s σ H Q I q=>by
 rw[List.forIn_cons];simp only [if_true];refine wpAny_bind (wpAny_bind (thn (h pins s σ H Q I q) fun b s1 q1=>?_));refine wpAny_pure ?_;dsimp only;rw[List.forIn_nil];exact wpAny_pure q1
section
variable {X:Cx}
theorem zaw {env:Env}:∀{names:List (Str × NameKind)}{x:Str},names.lookup x=some .free ->
    (names.map fun (n,k)=>if (k == NameKind.free && env.scope.kind == .function && env.kindOf n == some .cell) then (n,NameKind.cell) else (n,k)).lookup x=some .cell \/
    (names.map fun (n,k)=>if (k == NameKind.free && env.scope.kind == .function && env.kindOf n == some .cell) then (n,NameKind.cell) else (n,k)).lookup x=some .free
  | [],_,h=>by simp at h
  | (n,k)::r,x,h=>by
    have ih:=@zaw env r x;rw[List.map_cons];rw[List.lookup_cons] at h;cases hx:x == n with
    | true =>
      rw[hx] at h;obtain rfl:=sI h;dsimp only;split
      · rw[List.lookup_cons,hx];exact .inl rfl
      · rw[List.lookup_cons,hx];exact .inr rfl
    | false =>
      rw[hx] at h;dsimp only;split
      · rw[List.lookup_cons,hx];exact ih h
      · rw[List.lookup_cons,hx];exact ih h
theorem za8 {env:Env}:∀{names:List (Str × NameKind)}{x:Str}{k:NameKind},(k=.cell\/k=.free) ->
    (names.map fun (n,k)=>if (k == NameKind.free && env.scope.kind == .function && env.kindOf n == some .cell) then (n,NameKind.cell) else (n,k)).lookup x=some k->names.lookup x=some .free\/names.lookup x=some .cell
  | [],_,_,_,h=>by simp at h
  | (n,k0)::r,x,k,hk,h=>by
    rw[List.map_cons] at h;rw[List.lookup_cons];cases hx:x == n with
    | true =>
      dsimp only at h;split at h
      · rename_i hc
        rw[List.lookup_cons,hx] at h;simp only [Bool.and_eq_true,beq_iff_eq] at hc;rw[hc.1.1];exact .inl rfl
      · rw [List.lookup_cons, hx] at h
        obtain rfl:=sI h;rcases hk with rfl | rfl
        · exact .inr rfl
        · exact .inl rfl
    | false =>
      dsimp only at h;split at h
      · rw[List.lookup_cons,hx] at h;exact za8 hk h
      · rw[List.lookup_cons,hx] at h;exact za8 hk h
theorem zdp {scope out:Scope}(h:zfu scope out=true){x:Str}(hx:(x,NameKind.free)∈scope.names):out.names.lookup x=some .cell\/out.names.lookup x=some .free:=by
 have q:=List.all_eq_true.mp h _ hx;simpa using q
theorem capSt_get {cap:List (Option Nat)}{σ:St}{j:Nat}{v:V} (h:(capSt cap σ)[j]?=some (some v)):∃i,cap[j]?=some (some i)/\σ[i]?=some (some v):=by
  unfold capSt at h;rw[List.getElem?_map] at h;cases e:cap[j]? with
  | none=>rw[e] at h;cases h
  | some o =>
    rw[e] at h;cases o with
    | none=>cases h
    | some i =>
      refine⟨i,rfl,?_⟩;have h' : (σ[i]?).getD none=some v:=sI h;cases e2:σ[i]? with
      | none=>rw[e2] at h';cases h'
      | some z=>rw[e2] at h';exact congrArg some h'
theorem za3 {env:Env}:∀{names:List (Str × NameKind)}{x:Str}{k:NameKind},k≠.free->names.lookup x=some k ->
    (names.map fun (n,k)=>if (k == NameKind.free && env.scope.kind == .function && env.kindOf n == some .cell) then (n,NameKind.cell) else (n,k)).lookup x=some k
  | [],_,_,_,h=>by simp at h
  | (n,k0)::r,x,k,hk,h=>by
    have ih:=@za3 env r x k hk;rw[List.map_cons];rw[List.lookup_cons] at h;cases hx:x == n with
    | true =>
      rw[hx] at h;obtain rfl:=sI h;have:(k0 == NameKind.free)=false:=by cases k0<;>first | rfl | exact absurd rfl hk
      dsimp only;rw[this,Bool.false_and,Bool.false_and,if_neg Bool.false_ne_true,List.lookup_cons,hx]
    | false =>
      rw[hx] at h;dsimp only;split
      · rw[List.lookup_cons,hx];exact ih h
      · rw[List.lookup_cons,hx];exact ih h
noncomputable def ze0 (scope:Scope):Bool:=scope.names.all fun p=>!(p.2 == NameKind.cell) || decide (scope.names.lookup p.1=some .cell)
theorem zo9 {scope:Scope}(h:ze0 scope=true){x:Str}(hx:(x,NameKind.cell)∈scope.names):scope.names.lookup x=some .cell:=by
 have q:=List.all_eq_true.mp h _ hx;simpa using q
theorem zca:∀(names:List (Str × NameKind)) (n:Nat) (acc:List (Str × Addr)),cellsFrom n names acc=cellsFrom n names []++acc
  | [],_,_=>rfl
  | (x,k)::r,n,acc=>by
    unfold cellsFrom;split
    · rw[zca r (n+1) ((x,n)::acc),zca r (n+1) [(x,n)],List.append_assoc];rfl
    · exact zca r n acc
theorem zga:∀(names:List (Str × NameKind)) (n:Nat) {x:Str}{c:Addr},(x,c)∈cellsFrom n names []->(x,NameKind.cell)∈names
  | [],_,_,_,h=>by cases h
  | (y,k)::r,n,x,c,h=>by
    unfold cellsFrom at h;split at h
    · rename_i hk
      rw[zca] at h;rcases List.mem_append.mp h with h | h
      · exact List.mem_cons_of_mem _ (zga r _ h)
      · have e := List.mem_singleton.mp h
        cases e;have:k=NameKind.cell:=by simpa using hk
        rw[this];exact List.mem_cons_self
    · exact List.mem_cons_of_mem _ (zga r _ h)
theorem cells_of {names:List (Str × NameKind)}{n:Nat}{cl:List (Str × Addr)}{x:Str}{c:Addr}(h:(cellsFrom n names cl).lookup x=some c):(cellsFrom n names []).lookup x=some c\/((cellsFrom n names []).lookup x=none/\cl.lookup x=some c):=by
 rw[zca,List.lookup_append] at h;cases e:(cellsFrom n names []).lookup x with
 | some d=>rw[e] at h;exact .inl h
 | none=>rw[e] at h;exact .inr ⟨rfl,h⟩
theorem zg6 {scope:Scope} (h:ze0 scope=true) {n:Nat}{cl:List (Str × Addr)}{x:Str}{c:Addr} (hx:scope.names.lookup x=some .free) (hc:cl.lookup x=some c):(cellsFrom n scope.names cl).lookup x=some c:=by
  rw[zca,List.lookup_append];cases e:(cellsFrom n scope.names []).lookup x with
  | none=>exact hc
  | some d =>
    have:=zo9 h (zga _ _ (PySem.mem_of_lookup e));rw[hx] at this;cases this
theorem zw8 {pins:List (Addr × Obj)}{σ:St}{H3:Hp}{s3:Shared}{Nc:List Str}{scope:Scope}{cl:List (Str × Addr)}{cap:List (Option Nat)}{fp:List Addr}{h4:Heap}{tk:Nat}
  (I:Inv X pins σ H3 s3) (hk:scope.kind=.function) (hcap:zgr cap Nc X.N scope=true) (hfr:zfu scope X.env.scope=true) (hnc:ze0 scope=true)
  (c1:∀x c,cl.lookup x=some c->X.env.cells.lookup x=some c) (c2:∀x,(x,NameKind.free)∈scope.names->∃c,cl.lookup x=some c)
  (hf:∀b∈fp,FpOk X pins H3 b) (ho:∀b∈fp,b < s3.heap.objs.size)
  (hns:h4.Ns s3.heap.objs.size (fun _=>none)) (hkeep:∀b o,s3.heap.get? b=some o->h4.get? b=some o) (hcs:CellsOk h4 (s3.heap.objs.size+1) (cellsFrom (s3.heap.objs.size+1) scope.names [])) :
  Inv (za0 X Nc scope (cellsFrom (s3.heap.objs.size+1) scope.names cl) s3.heap.objs.size s3 H3 fp) [] (capSt cap σ) H3 { s3 with heap:=h4,toks:=tk }:=by
 have stkne:∀b∈fp,b ∉ frs X.stack:=fun b hb z=>by
  obtain⟨_,g1,g2,_⟩:=hf b hb;rcases List.mem_cons.mp (I.stkSub b z) with e | e
  ·exact g1 e
  ·exact g2 e
 have own:∀x c,(cellsFrom (s3.heap.objs.size+1) scope.names []).lookup x=some c->h4.IsCell c none/\s3.heap.objs.size+1<=c:=fun x c h=>hcs.empty x c (PySem.mem_of_lookup h);have old:∀x c,cl.lookup x=some c->c < s3.heap.objs.size:=fun x c h=>by
  obtain⟨v,q⟩:=I.cell x c (c1 x c h);exact q.lt
 refine⟨⟨I.mod,hk,I.ok.glob,I.ok.blt,Nat.le_refl _,fun x y c h1 h2=>?_,fun x hx=>?_,fun x c h h'=>?_,I.ok.hd,I.ok.frames,.inl rfl,fun b hb=>⟨Nat.ne_of_lt (ho b hb),fun x c h=>?_⟩,
  fun b o e=>I.bs b o e,Nat.le_trans I.ok.bsz I.sz,fun b o e hb=>?_,stkne,I.stack,I.stkFree⟩,rfl,I.bare,Un.kept hkeep,⟨_,hns,fun j x v h1 h2 h3=>?_⟩,fun x c h=>?_,I.hok.fresh (Nat.le_refl _),fun x c h=>?_,fun p hp=>absurd (show p∈([]:List (Addr × Obj)) from hp) (by simp),I.hok.kept hkeep,?_⟩
 ·rcases cells_of h1 with z1 | ⟨_, z1⟩
  ·rcases cells_of h2 with z2 | ⟨_, z2⟩
   ·exact name_of_addr hcs.apart (PySem.mem_of_lookup z1) (PySem.mem_of_lookup z2)
   ·have a := (own x c z1).2;have b:=old y c z2;exact absurd (Nat.lt_of_lt_of_le b (Nat.le_of_succ_le a)) (Nat.lt_irrefl _)
  ·rcases cells_of h2 with z2 | ⟨_, z2⟩
   ·have a := (own y c z2).2;have b:=old x c z1;exact absurd (Nat.lt_of_lt_of_le b (Nat.le_of_succ_le a)) (Nat.lt_irrefl _)
   ·exact I.ok.inj x y c (c1 x c z1) (c1 y c z2)
 ·have hx' : scope.names.lookup x=some .free\/scope.names.lookup x=some .cell:=by
   rcases hx with hx | hx
   ·exact za8 (env:=X.env) (.inl rfl) hx
   ·exact za8 (env:=X.env) (.inr rfl) hx
  rcases hx' with hx' | hx'
  ·obtain⟨c, e⟩ := c2 x (PySem.mem_of_lookup hx');exact⟨c,zg6 hnc hx' e⟩
  ·exact Option.isSome_iff_exists.mp (PySem.W.cellsFrom_some scope.names _ cl (.inl hx'))
 ·have hx : scope.names.lookup x = some .cell := of_decide_eq_true h;rcases cells_of h' with z | ⟨z,_⟩
  ·exact Nat.le_of_succ_le (own x c z).2
  ·obtain⟨d, e⟩ := cell_has (n := s3.heap.objs.size + 1) hx;rw[z] at e;cases e
 ·rcases cells_of h with z | ⟨_, z⟩
  ·have a := (own x c z).2;have:=ho b hb;exact Ne.symm (Nat.ne_of_lt (Nat.lt_of_lt_of_le this (Nat.le_of_succ_le a)))
  ·exact (hf b hb).2.2.2.2.1 x c (c1 x c z)
 ·rcases (hf b hb).2.2.2.1 with z | z
  ·exact I.ok.noex b o e z
  ·have h1 : b < X.base.objs.size := Heap.lt_size e;exact absurd (Nat.lt_of_lt_of_le h1 (Nat.le_trans I.ok.bsz z)) (Nat.lt_irrefl _)
 ·obtain ⟨i, e1, e2⟩ := capSt_get h2;have hNx:Nc[j]?=some x:=h1;obtain ⟨n1,n2⟩:=zs5 hcap e1 hNx;have vis:Vis X.env.scope x:=by
   rcases zdp hfr (PySem.mem_of_lookup n2) with z | z
   ·exact .inr (.inl z)
   ·exact .inr (.inr z)
  obtain⟨m,hn,hl⟩:=I.loc;obtain⟨u,r,l⟩:=hl i x v n1 e2 vis;refine⟨u,r,?_⟩;rcases l with ⟨hk',_⟩ | ⟨_,c,e,z⟩
  ·have hk2 : X.env.scope.names.lookup x = some .local := hk';rcases zdp hfr (PySem.mem_of_lookup n2) with z | z
   ·rw[z] at hk2;cases hk2
   ·rw[z] at hk2;cases hk2
  ·obtain⟨c', e'⟩ := c2 x (PySem.mem_of_lookup n2);have:=c1 x c' e';rw[e] at this;obtain rfl:=sI this;refine .inr ⟨zaw (env:=X.env) n2,c,zg6 hnc n2 e',?_⟩;obtain⟨o,ho',hd⟩:=z;exact⟨o,hkeep _ _ ho',hd⟩
 ·rcases cells_of h with z | ⟨_, z⟩
  ·exact⟨none,(own x c z).1⟩
  ·obtain⟨v, o, ho', hd⟩ := I.cell x c (c1 x c z);exact⟨v,o,hkeep _ _ ho',hd⟩
 ·rcases cells_of h with z | ⟨_, z⟩
  ·exact I.hok.fresh (Nat.le_of_succ_le (own x c z).2)
  ·exact I.freeC x c (c1 x c z)
 ·show (capSt cap σ).length = Nc.length;rw[<-zsq hcap];unfold capSt;rw[List.length_map]
theorem zg9 {M:Model}{A:Around}{E:Value->Shared->Prop}{s:Shared}{scope:Scope}{globals:Addr}{cl:List (Str × Addr)}{qual:Str}{outer:Env}{Q:Env->Shared->Prop}
  (hQ:∀h',h'.Ns s.heap.objs.size (fun _=>none)->(∀b o,s.heap.get? b=some o->h'.get? b=some o)->CellsOk h' (s.heap.objs.size+1) (cellsFrom (s.heap.objs.size+1) scope.names []) ->
   Q (newEnv scope s.heap.objs.size globals (cellsFrom (s.heap.objs.size+1) scope.names cl) qual none .none (some outer) builtinsNs) { s with heap:=h' }) :
  wpAny M A (newFunctionEnv scope globals cl [] qual none .none (some outer)) Q E s:=by
 simp only [newFunctionEnv,Option.isSome_some,if_true];refine wpAny_bind (wpAny_alloc ?_);refine wpAny_bind (wpAny_layCells _ (fun name kind cells=>by cases hkc:kind == NameKind.cell<;>simp [hkc]) _ _ _ _ ?_);have ok:=cellsFrom_ok scope.names (s.heap.push { cls:=.type "dict",data:=.dict #[] }) (s.heap.objs.size+1) [] ⟨fun _ _ hm=>(nomatch hm),List.Pairwise.nil⟩ (by rw[Heap.size_push];exact Nat.le_refl _);rw[Heap.size_push] at ok;rw[show ({ s with heap:=s.heap.push { cls:=.type "dict",data:=.dict #[] } }:Shared).heap.objs.size=s.heap.objs.size+1 from Heap.size_push ..];refine wpAny_bind ?_;rw[List.forIn_nil];exact wpAny_pure (wpAny_pure (hQ _ ((Heap.Ns.new s.heap (.type "dict")).keeps (pushCells_keeps _ _)) (fun b o e=>pushCells_keeps _ _ b o (Heap.get?_push_of_some _ e)) ok))
end
noncomputable abbrev TM:=St->Hp->(St->Hp->Prop)->Prop
noncomputable def PM (X:Cx) (em:Sem Unit) (t:TM):Prop :=
  ∀(pins:List (Addr × Obj)) (s:Shared) (σ:St) (H:Hp) (N:St->Hp->Prop),Inv X pins σ H s->t σ H N ->
    wpAny (model X.prog X.w) X.A em (fun _ s'=>∃σ' H',Inv X pins σ' H' s'/\N σ' H') X.xe s
noncomputable def zpo (e:Expr) (d:Nat) (tg iter:Expr) (ifs:List Expr) (em:Sem Unit) (it acc:Value) (env:Env):Sem Fin:=do
  standAt iter.pos
  match <- pyNext it with
  | none=>pure (.done .next)
  | some v =>
    letOwnedTupleGo tg it v
    assign tg env v
    let mut ok:=true
    for c in ifs do
      if ok then ok <- isTrue c env (eval c env)
    if ok then em
    again (.compLoop e d it acc env)
noncomputable def znu (J:It) (g:TG) (tc:TT) (tm:TM) (σ:St) (H:Hp) (Q:St->Hp->Prop):Prop:=∃W:Nat->Nat->St->Hp->Prop,(∃m,W 0 m σ H) /\
 ∀i m σc Hc,W i m σc Hc->(J.stop i Hc/\Q σc Hc)\/(J.go i Hc/\∃N:St->Hp->Prop,(∀σ' H',N σ' H'->∃m',m' < m/\W (i+1) m' σ' H')/\∀x H',J.yld i Hc x H'->g x σc H' fun σ2 H2 =>
  tc σ2 H2 fun b H3=>if b=true then tm σ2 H3 N else N σ2 H3)
noncomputable def zrv (wi:TI) (cap:List (Option Nat)) (g:TG) (tc:TT) (tm:Addr->TM):TE:=fun σ H Q=>wi σ H fun J H1=>∀acc,H1 acc=none->znu J g tc (tm acc) (capSt cap σ) (upd H1 acc (.lst [])) fun _ Hc=>Q (.ref acc) Hc
section
variable {X:Cx}
theorem zsa {elt:Expr}{gens:List Comprehension}{scope:Scope}{pos:Pos}{d:Nat}{tg iter:Expr}{ifs:List Expr}{em:Sem Unit}{acc:Value}{g:TG}{tc:TT}{tm:TM}{pins:List (Addr × Obj)}{σ:St}{H:Hp}{s:Shared}{it:Addr}{fp:List Addr}{tn:Nat->Heap->Prop}{J:It}{N0:St->Hp->Prop}{R:Result->Shared->Prop}
  (hx:∀v s,¬ X.xe v s) (hc:X.calm=true) (ht:compTurn (.ListComp elt gens scope pos) d (.ref it) acc X.env=zpo (.ListComp elt gens scope pos) d tg iter ifs em (.ref it) acc X.env)
  (hg:PG X tg g) (hs:PTs X ifs tc) (hm:PM X em tm) (I:Inv X pins σ H s) (T:Turn X.prog X.w X.K tg J fp it tn) (st:tn 0 s.heap) (f:∀b∈fp,FpOk X pins H b)
  (hW:znu J g tc tm σ H N0)
  (hR:∀σ' H' s',Inv X pins σ' H' s'->N0 σ' H'->R (.ok .next) s'):codeAny (model X.prog X.w) X.A (.compLoop (.ListComp elt gens scope pos) d (.ref it) acc X.env) R s:=by
 have stat:∀{H' : Hp},(∀b∈fp,H' b=none)->∀b∈fp,FpOk X pins H' b:=fun hn b hb=>⟨hn b hb,(f b hb).2⟩;nofun;obtain⟨W,⟨m0,w0⟩,turn⟩:=hW;ac_rfl;refine codeAny_loop rfl (fun n s'=>∃i σ' H',Inv X pins σ' H' s'/\tn i s'.heap/\(∀b∈fp,H' b=none)/\W i n σ' H') ?_ m0 ⟨0,σ,H,I,st,fun b hb=>(f b hb).1,w0⟩;rintro n s3 ⟨i,σ3,H3,I3,st3,fr3,w3⟩;show wpAny _ X.A ((compTurn (.ListComp elt gens scope pos) d (.ref it) acc X.env).onRaise (fun x=>do noteFrame x X.env;theTreesLotGoes x)) _ _ s3;refine wpAny_noted ?_;rw[ht];unfold zpo;refine wpAny_bind (wpAny_standAt (wpAny_bind ?_));rcases turn i n σ3 H3 w3 with ⟨stop,qn⟩ | ⟨go,N,hN,step⟩
 ·refine wpAny_mono (T.done X rfl rfl rfl hc i pins s3 σ3 H3 (fun _ _ => False) I3 (stat fr3) st3 stop) (fun r s4 ⟨hr, I4⟩ => ?_) fun _ _ z => z.elim;subst hr;exact wpAny_pure (hR σ3 H3 s4 I4 qn)
 ·refine wpAny_mono (T.item X rfl rfl rfl hc i pins s3 σ3 H3 (fun _ _ => False) I3 (stat fr3) st3 go) (fun r s4 ⟨u, hr, h4⟩ => ?_) fun _ _ z => z.elim;subst hr;refine wpAny_bind (wpAny_mono h4 (fun _ s5 ⟨x,H5,I5,r5,y5,st5,fr5⟩=>?_) fun _ _ z=>z.elim);have I5':=I5.pinned (stat fr5) (T.obj _ _ st5);refine wpAny_bind (wpAny_mono (hg _ s5 σ3 H5 x u _ I5' r5 (step x H5 y5)) (fun _ s6 ⟨σ6,H6,I6,q6⟩=>?_) fun v s z=>(hx v s z).elim);refine wpAny_bind (wpAny_mono (hs _ s6 σ6 H6 _ I6 q6) (fun ok s7 ⟨H7,I7,q7⟩=>?_) fun v s z=>(hx v s z).elim);have again:∀{sx:Shared}{σx:St}{Hx:Hp},Inv X (pins++zj2 fp s5.heap) σx Hx sx->N σx Hx->∃m,m < n/\∃i σ' H',Inv X pins σ' H' sx/\tn i sx.heap/\(∀b∈fp,H' b=none)/\W i m σ' H':=fun {sx σx Hx} Ix nx=>by
   obtain⟨m',hm,wx⟩:=hN σx Hx nx;refine⟨m',hm,i+1,σx,Hx,Ix.unpinned,T.keep _ _ _ st5 fun b hb o e=>(Ix.pin (b,o) (List.mem_append_right _ (List.mem_append_right _ (zdl hb e)))).1,fun b hb=>?_,wx⟩;obtain⟨o,e,d⟩:=T.obj _ _ st5 b hb;exact (Ix.pin (b,o) (List.mem_append_right _ (List.mem_append_right _ (zdl hb e)))).2.1
  cases ok with
  | false=>exact wpAny_pure ⟨rfl,again I7 q7⟩
  | true=>exact wpAny_bind (wpAny_mono (hm _ s7 σ6 H7 N I7 q7) (fun _ s8 ⟨σ8,H8,I8,n8⟩=>wpAny_pure ⟨rfl,again I8 n8⟩) fun v s z=>(hx v s z).elim)
noncomputable def zxa (acc:Addr) (te:TE):TM:=fun σ H N=>te σ H fun y H4=>∃ys,H4 acc=some (.lst ys)/\ys.length < sizeLine/\N σ (upd H4 acc (.lst (ys++[y])))
noncomputable def z09 (elt:Expr) (acc:Value) (env:Env):Sem Unit:=do let _ <- call (.builtin "list.append") [acc,<-eval elt env]
theorem z4n {elt:Expr}{te:TE}{acc:Addr}(he:PE X elt te):PM X (z09 elt (.ref acc) X.env) (zxa acc te):=by
 intro pins s σ H N I h;unfold z09;refine wpAny_bind (thn (he pins s σ H _ I h) fun yv s10 ⟨y,H10,I10,r10,ys,ha,hz,q10⟩=>?_);refine wpAny_bind (thn (zi8 _ s10 σ H10 (.ref acc) [y] _ [yv] (fun _ H'=>N σ H') I10 rfl (.cons r10 .nil) ⟨_,ys,y,rfl,rfl,ha,hz,q10⟩) fun _ s11 ⟨_,H11,I11,_,q11⟩=>?_);exact wpAny_pure ⟨σ,H11,I11,q11⟩
end
theorem HOk.but {P:Program}{w:World}{H:Hp}{h h' : Heap}{a:Addr}(x:HOk P w H h)(hn:H a=none)(hs:Heap.SameBut a h h'):HOk P w H h':=fun b ob e=>by
 refine (x b ob e).stay (fun c w' hc q=>(hs.2 c ?_).trans q) (fun _ q=>q) fun _ _ q=>q;rintro rfl;rcases hc with rfl | hc
 ·rw[hn] at e;cases e
 ·rw[hn] at hc;cases hc
section
variable {X:Cx}
theorem zgy {elt tg iter:Expr}{ifs:List Expr}{gs:List Comprehension}{scope:Scope}{pos:Pos}{cl:List (Str × Addr)}{Nc:List Str}{cap:List (Option Nat)}{g:TG}{tc:TT}{em:Value->Env->Sem Unit}{tm:Addr->TM}{pins:List (Addr × Obj)}{σ:St}{H2:Hp}{s2:Shared}{it:Addr}{fp:List Addr}{tn:Nat->Heap->Prop}{J:It}{Q:VK}{RR:Value->Addr->Result->Shared->Prop}{E:Value->Shared->Prop}
  (hc:X.calm=true) (hk:scope.kind=.function) (hcap:zgr cap Nc X.N scope=true) (hfr:zfu scope X.env.scope=true) (hnc:ze0 scope=true)
  (hturn:∀it acc env,compTurn (.ListComp elt (⟨tg,iter,ifs,0⟩ :: gs) scope pos) 0 it acc env=zpo (.ListComp elt (⟨tg,iter,ifs,0⟩ :: gs) scope pos) 0 tg iter ifs (em acc env) it acc env)
  (hg:∀cl C s3 H3 fp,PG (za0 X Nc scope cl C s3 H3 fp) tg g) (ht:∀cl C s3 H3 fp,PTs (za0 X Nc scope cl C s3 H3 fp) ifs tc) (hm:∀cl C s3 H3 fp acc,PM (za0 X Nc scope cl C s3 H3 fp) (em (.ref acc) (za0 X Nc scope cl C s3 H3 fp).env) (tm acc))
  (c1:∀x c,cl.lookup x=some c->X.env.cells.lookup x=some c) (c2:∀x,(x,NameKind.free)∈scope.names->∃c,cl.lookup x=some c)
  (I2:Inv X pins σ H2 s2) (T:Turn X.prog X.w X.K tg J fp it tn) (st2:tn 0 s2.heap) (f2:∀b∈fp,FpOk X pins H2 b)
  (hW:∀acc,H2 acc=none->znu J g tc (tm acc) (capSt cap σ) (upd H2 acc (.lst [])) fun _ Hc=>Q (.ref acc) Hc)
  (hR:∀acc C s' H',(∃m,s'.heap.Ns C m)->(∀h',Heap.SameBut C s'.heap h'->Inv X pins σ H' { s' with heap:=h' })->FpOk X pins H' C->Q (.ref acc) H'->RR (.ref acc) C (.ok .next) s') :
  wpAny (model X.prog X.w) X.A (newList []) (fun acc s₃=>wpAny (model X.prog X.w) X.A (newFunctionEnv scope X.env.globals cl [] X.env.qual none .none (some X.env)) (fun cenv s₄ =>
   codeAny (model X.prog X.w) X.A (.compStart (.ListComp elt (⟨tg,iter,ifs,0⟩ :: gs) scope pos) 0 (.ref it) acc { cenv with scope:=relabel scope X.env }) (RR acc cenv.locals) s₄) E s₃) E s2:=by
 refine wpAny_newObj_type (zg9 fun h₁ hns₁ keep4 hcs=>?_);dsimp only at hns₁ keep4 hcs ⊢;have hacc:H2 s2.heap.objs.size=none:=I2.hok.fresh (Nat.le_refl _);have I3:Inv X pins σ (upd H2 s2.heap.objs.size (.lst [])) { s2 with heap:=s2.heap.push { cls:=.type "list",dict:=none,data:=.seq ([]:List Value).toArray },toks:=s2.toks } :=
  I2.laid (t':=s2.toks) (fun b u e=>Heap.get?_push_of_some _ e) (Nat.le_refl _) ⟨by simp,[],0,.nil,Heap.get?_push_size _ rfl⟩
 have hW':=hW s2.heap.objs.size hacc;generalize hH:s2.heap.push { cls:=.type "list",dict:=none,data:=.seq ([]:List Value).toArray }=hp at hns₁ keep4 hcs I3 ⊢;have f3:∀b∈fp,FpOk X pins (upd H2 s2.heap.objs.size (.lst [])) b:=fun b hb=>by
  obtain⟨o,ho,_⟩:=T.obj _ _ st2 b hb;exact⟨by rw[upd_ne (Nat.ne_of_lt (Heap.lt_size ho))];exact (f2 b hb).1,(f2 b hb).2⟩
 have up:∀b o,s2.heap.get? b=some o->hp.get? b=some o:=fun b o e=>hH ▸ Heap.get?_push_of_some _ e;have I4:=zw8 (Nc:=Nc) (cap:=cap) (fp:=fp) (h4:=h₁) (tk:=s2.toks) I3 hk hcap hfr hnc c1 c2 f3 (fun b hb=>by
  obtain⟨o,ho,_⟩:=T.obj _ _ st2 b hb;exact Heap.lt_size (up b o ho)) hns₁ keep4 hcs
 have st4:tn 0 h₁:=T.keep _ _ _ st2 fun b _ o e=>keep4 b o (up b o e);have loop:codeAny (model X.prog X.w) X.A (.compLoop (.ListComp elt (⟨tg,iter,ifs,0⟩ :: gs) scope pos) 0 (.ref it) (.ref s2.heap.objs.size) (compEnvC scope (cellsFrom (hp.objs.size+1) scope.names cl) hp.objs.size X.env)) (RR (.ref s2.heap.objs.size) hp.objs.size) { s2 with heap:=h₁,toks:=s2.toks }:=by
  refine zsa (X:=za0 X Nc scope (cellsFrom (hp.objs.size+1) scope.names cl) hp.objs.size { s2 with heap:=hp,toks:=s2.toks } (upd H2 s2.heap.objs.size (.lst [])) fp) (fun _ _ z=>z) hc (hturn _ _ _) (hg _ _ _ _ _) (ht _ _ _ _ _) (hm _ _ _ _ _ _) I4 T st4
   (fun b hb=>⟨(f3 b hb).1,(I4.ok.exf b hb).1,I4.ok.exfs b hb,.inl hb,(I4.ok.exf b hb).2,fun p hp'=>absurd (show p∈([]:List (Addr × Obj)) from hp') (by simp)⟩) hW' fun σ5 H5 s6 I6 qn=>?_
  obtain⟨m6,hm6,_⟩:=I6.loc;have fC:H5 hp.objs.size=none:=I6.free;refine hR _ _ _ H5 ⟨m6,hm6⟩ (fun h' hsb=>?_) (I3.fpOk (Nat.le_refl _) fC) qn;refine I3.call' (s':={ s6 with heap:=h' }) (ch:=fp) I6.os ?_ (I6.hok.but fC hsb) I6.bare fun b hb=>⟨(f3 b hb).2.2.2.1,(f3 b hb).2.1,(f3 b hb).2.2.2.2.1,(f3 b hb).2.2.2.2.2⟩;have U:Un (frs X.stack) fp (upd H2 s2.heap.objs.size (.lst [])) H5 hp s6.heap:=I6.base;have nb:∀b o,hp.get? b=some o->b≠hp.objs.size:=fun b o e=>Nat.ne_of_lt (Heap.lt_size e);exact⟨fun b o e n hb hx=>(hsb.2 b (nb b o e)).trans (U.keep b o e n hb hx),fun b o e n hb hx=>let ⟨sl,z⟩:=U.slot b o e n hb hx;⟨sl,(hsb.2 b (nb b o e)).trans z⟩,U.free,fun b o e hx=>let ⟨o',z⟩:=U.there b o e hx;⟨o',(hsb.2 b (nb b o e)).trans z⟩,U.tups,U.frzs,U.tbls⟩
 exact codeAny_compStart_list loop (T.self _ 0 _ _ _ st4 loop)
theorem z0x {elt tg iter:Expr}{ifs:List Expr}{gs:List Comprehension}{scope:Scope}{pos:Pos}{Nc:List Str}{cap:List (Option Nat)}{wi:TI}{g:TG}{tc:TT}{em:Value->Env->Sem Unit}{tm:Addr->TM} (hi:PI X tg iter wi)
  (hg:∀cl C s3 H3 fp,PG (za0 X Nc scope cl C s3 H3 fp) tg g) (ht:∀cl C s3 H3 fp,PTs (za0 X Nc scope cl C s3 H3 fp) ifs tc) (hm:∀cl C s3 H3 fp acc,PM (za0 X Nc scope cl C s3 H3 fp) (em (.ref acc) (za0 X Nc scope cl C s3 H3 fp).env) (tm acc))
  (hturn:∀it acc env,compTurn (.ListComp elt (⟨tg,iter,ifs,0⟩ :: gs) scope pos) 0 it acc env=zpo (.ListComp elt (⟨tg,iter,ifs,0⟩ :: gs) scope pos) 0 tg iter ifs (em acc env) it acc env)
  (hc:X.calm=true:=by rfl) (hk:scope.kind=.function:=by rfl) (hcap:zgr cap Nc X.N scope=true:=by rfl) (hfr:zfu scope X.env.scope=true:=by rfl) (hnc:ze0 scope=true:=by rfl)
  (hnm:(scope.names.all fun p=>!(p.2 == NameKind.local) || decide (scope.names.lookup p.1=some .local))=true:=by rfl)
  (hs:∀x,foldedSetIterable iter X.env x=pure x:=by intro _;rfl):PE X (.ListComp elt (⟨tg,iter,ifs,0⟩ :: gs) scope pos) (zrv wi cap g tc tm):=by
 intro pins s σ H Q I h;rw[eval_ListComp];nofun;obtain⟨cl,hclos,c1,c2⟩:=zc2 (env:=X.env) (scope:=scope) fun x hx=>I.ok.has x (zdp hfr hx);ac_rfl;have hnames:∀x∈scope.names,x.2=.local->scope.names.lookup x.1=some .local:=fun x hx e=>by
  have q:=List.all_eq_true.mp hnm _ hx;simpa [e] using q
 refine wpAny_comprehension_free (use:=none) rfl hs hclos hk hnames (thn (hi pins s σ H _ I h) fun v s1 h1=>thn h1 fun itv s2 h2=>?_);nofun;obtain⟨it,fp,tn,J,H2,e,I2,T,st2,f2,hW⟩:=h2;ac_rfl;subst e;refine zgy (RR:=fun acc C=>compPost (model X.prog X.w) X.A X.xe none (EP X pins σ Q) acc C) hc hk hcap hfr hnc hturn hg ht hm c1 c2 I2 T st2 f2 hW ?_;intro acc C s' H' ⟨m,hm⟩ hI hC q;exact⟨m,hm,fun h' hsb=>⟨.ref acc,H',hI h' hsb,rfl,q⟩⟩
theorem z0k {y:Str}{py:Pos}{spos:Pos}{i:Nat}{elt tg iter:Expr}{ifs:List Expr}{gs:List Comprehension}{scope:Scope}{pos:Pos}{Nc:List Str}{cap:List (Option Nat)}{wi:TI}{g:TG}{tc:TT}{em:Value->Env->Sem Unit}{tm:Addr->TM} (hN:X.N.Nodup) (hiy:X.N[i]?=some y) (hy:Loc X.env.scope y) (hi:PI X tg iter wi)
  (hg:∀cl C s3 H3 fp,PG (za0 X Nc scope cl C s3 H3 fp) tg g) (ht:∀cl C s3 H3 fp,PTs (za0 X Nc scope cl C s3 H3 fp) ifs tc) (hm:∀cl C s3 H3 fp acc,PM (za0 X Nc scope cl C s3 H3 fp) (em (.ref acc) (za0 X Nc scope cl C s3 H3 fp).env) (tm acc))
  (hturn:∀it acc env,compTurn (.ListComp elt (⟨tg,iter,ifs,0⟩ :: gs) scope pos) 0 it acc env=zpo (.ListComp elt (⟨tg,iter,ifs,0⟩ :: gs) scope pos) 0 tg iter ifs (em acc env) it acc env)
  (hsw:swapsWith (.ListComp elt (⟨tg,iter,ifs,0⟩ :: gs) scope pos) (some (.Name y py)) spos.line X.env=pure true:=by rfl)
  (hc:X.calm=true:=by rfl) (hk:scope.kind=.function:=by rfl) (hcap:zgr cap Nc X.N scope=true:=by rfl) (hfr:zfu scope X.env.scope=true:=by rfl) (hnc:ze0 scope=true:=by rfl)
  (hnm:(scope.names.all fun p=>!(p.2 == NameKind.local) || decide (scope.names.lookup p.1=some .local))=true:=by rfl)
  (hs:∀x,foldedSetIterable iter X.env x=pure x:=by intro _;rfl) (hf:X.fn y=true\/X.env.scope.names.lookup y=some .local:=by first | exact .inl rfl | exact .inr rfl | assumption) :
  PS X (.Assign [.Name y py] (.ListComp elt (⟨tg,iter,ifs,0⟩ :: gs) scope pos) spos) (tAsg (zrv wi cap g tc tm) (zlt i)):=by
 intro pins s σ H D I h;nofun;obtain⟨cl,hclos,c1,c2⟩:=zc2 (env:=X.env) (scope:=scope) fun x hx=>I.ok.has x (zdp hfr hx);ac_rfl;have hnames:∀x∈scope.names,x.2=.local->scope.names.lookup x.1=some .local:=fun x hx e=>by
  have q:=List.all_eq_true.mp hnm _ hx;simpa [e] using q
 rw[exec_Assign_Name_used _ _ _ _ hsw];refine wpAny_bind (wpAny_standAt (wpAny_bind ?_));show wpAny _ X.A (do let _ <- comprehension (.ListComp elt (⟨tg,iter,ifs,0⟩ :: gs) scope pos) scope X.env _ (newList []) false (eval iter X.env) (some (assign (.Name y py) X.env))) _ _ s;refine wpAny_bind (wpAny_mono (wpAny_comprehension_free (use:=some (assign (.Name y py) X.env)) (Q:=fun _ s'=>SP X pins D .next s') rfl hs hclos hk hnames
  (thn (hi pins s σ H _ I h) fun v s1 h1=>thn h1 fun itv s2 h2=>?_)) (fun _ s' hq=>wpAny_pure (wpAny_pure hq)) fun _ _ e=>e)
 nofun;obtain⟨it,fp,tn,J,H2,e,I2,T,st2,f2,hW⟩:=h2;ac_rfl;subst e;refine zgy (Q:=fun x H1=>D.nx (σ.set i (some x)) H1) (RR:=fun acc C=>compPost (model X.prog X.w) X.A X.xe (some (assign (.Name y py) X.env)) (fun _ s'=>SP X pins D .next s') acc C) hc hk hcap hfr hnc hturn hg ht hm c1 c2 I2 T st2 f2 hW ?_;intro acc C s' H' ⟨m,hm⟩ hI hC q;show wpAny _ X.A (assign (.Name y py) X.env (.ref acc)) _ _ _;have I' : Inv X pins σ H' s':=hI s'.heap (.refl ..);refine wpAny_assign_Name (zjt I' hN hiy hy (v:=.ref acc) rfl (fun s'' I'' ⟨a,hsb,ha⟩=>?_) hf);have ne:C≠a:=by
  rcases ha with rfl | ha
  ·exact hC.2.1
  ·exact fun z=>hC.2.2.2.2.1 y a ha z.symm
 refine⟨m,hm.sameBut hsb ne,fun h' hsb'=>⟨_,H',?_,q⟩⟩;exact I''.turned (t':=s''.toks) (fun b o hb e=>(hsb'.2 b hb).trans e) hC.1 hC.2.1 hC.2.2.2.1 hC.2.2.2.2.1 hC.2.2.2.2.2
end
section
variable {X:Cx}{pins:List (Addr × Obj)}{σ:St}{H:Hp}{s:Shared}
theorem Inv.turnLay {h' : Heap}{t' : Nat}{ch:List Addr}{T:Addr}{o:HO} (I:Inv X pins σ H s) (k:∀b o,b ∉ ch->s.heap.get? b=some o->h'.get? b=some o) (th:∀b∈ch,∃o',h'.get? b=some o') (hch:∀b∈ch,FpOk X pins H b) (hT:s.heap.objs.size<=T)
  (new:ObjOk X.prog X.w (upd H T o) h' T o):Inv X pins σ (upd H T o) { s with heap:=h',toks:=t' }:=by
 have hn:H T=none:=I.hok.fresh hT;have ne:∀b u,s.heap.get? b=some u->b≠T:=fun b u e=>Nat.ne_of_lt (Nat.lt_of_lt_of_le (Heap.lt_size e) hT);have nch:∀b u,H b=some u->b ∉ ch:=fun b u e hb=>by rw[(hch b hb).1] at e;cases e
 refine I.step (g':=s.gens) (d':=s.drawn) (ch:=ch) (fun b hb=>⟨(hch b hb).2.2.2.1,(hch b hb).2.1,(hch b hb).2.2.2.2.1,(hch b hb).2.2.2.2.2⟩) (fun b o _ _ hc e _=>k b o hc e) (fun b o _ _ hc e _=>⟨o.slots,k b o hc e⟩) (fun b u _ e n=>by rw[upd_ne (ne b u e)];exact n)
  (fun b u hc e=>⟨u,k b u hc e⟩) (fun b xs e=>by rw[upd_ne (zab e hn)];exact e) (fun b u xs e=>by rw[upd_ne (zab e hn)];exact e) (fun b ps e=>⟨#[],by rw[upd_ne (zab e hn),e];simp⟩) (fun m hm=>?_) (fun b u e=>?_) I.bare
 ·obtain⟨o, es, ep, ho, r⟩ := hm;exact⟨o,es,ep,k _ o (fun z=>(hch _ z).2.1 rfl) ho,r⟩
 ·by_cases hb : b = T
  ·subst hb;rw[upd_same] at e;obtain rfl:=sI e;exact new
  ·rw[upd_ne hb] at e;refine (I.hok b u e).stay (fun c v hc q=>k c v ?_ q) (fun c q=>by rw[upd_ne (zab q hn)];exact q) fun c xs q=>by rw[upd_ne (zab q hn)];exact q
   rcases hc with z | z
   ·rw[z];exact nch b u e
   ·exact nch c _ z
theorem Inv.turnL {h' : Heap}{t' : Nat}{ch:List Addr}(I:Inv X pins σ H s)(k:∀b o,b ∉ ch->s.heap.get? b=some o->h'.get? b=some o)(hch:∀b∈ch,FpOk X pins H b):Inv X pins σ H { s with heap:=h',toks:=t' }:=by
 have nch:∀b u,H b=some u->b ∉ ch:=fun b u e hb=>by rw[(hch b hb).1] at e;cases e
 refine I.step (g':=s.gens) (d':=s.drawn) (ch:=ch) (fun b hb=>⟨(hch b hb).2.2.2.1,(hch b hb).2.1,(hch b hb).2.2.2.2.1,(hch b hb).2.2.2.2.2⟩) (fun b o _ _ hc e _=>k b o hc e) (fun b o _ _ hc e _=>⟨o.slots,k b o hc e⟩) (fun b u _ e n=>n)
  (fun b u hc e=>⟨u,k b u hc e⟩) (fun b xs e=>e) (fun b u xs e=>e) (fun b ps e=>⟨#[],by rw[e];simp⟩) (fun m hm=>?_) (fun b u e=>?_) I.bare
 ·obtain⟨o, es, ep, ho, r⟩ := hm;exact⟨o,es,ep,k _ o (fun z=>(hch _ z).2.1 rfl) ho,r⟩
 ·refine (I.hok b u e).stay (fun c v hc q => k c v ?_ q) (fun c q => q) fun c xs q => q;rcases hc with z | z
  ·rw[z];exact nch b u e
  ·exact nch c _ z
end
noncomputable def Ite (K:PySem.W.Frag) (a:Addr):It :=
 ⟨fun i H=>∃xs x,SqL K H a xs/\xs[i]?=some x,fun i H x H'=>∃p v,x=.ref p/\H p=none/\H'=upd H p (.tup [.int i,v])/\∀xs,SqL K H a xs->xs[i]?=some v,fun i H=>∃xs,SqL K H a xs/\xs.length<=i⟩
theorem zt5 {P:Program}{w:World}{K:PySem.W.Frag}{es:List Expr}{x1}{px:Pos}(a e it:Addr)(hei:e≠it):Turn P w K (.Tuple es x1 px) (Ite K a) [e,it] e (fun i h=>(∃old,IsEnum h e it i old)/\h.IsListIter it a i) where
 mem:=by simp
 obj:=fun i h st b hb=>by
  nofun;obtain⟨⟨old,he⟩,o,hi,c,d⟩:=st;ac_rfl;rcases List.mem_cons.mp hb with rfl | hb
  ·exact⟨_,he,fun v z=>by cases z⟩
  ·have : b = it := by simpa using hb
   subst this;exact⟨o,hi,fun v z=>by rw[d] at z;cases z⟩
 keep:=fun i h h' st k=>⟨let ⟨old,he⟩:=st.1;⟨old,k e (by simp) _ he⟩,st.2.at fun o z=>k it (by simp) o z⟩
 item:=by
  intro X hP hw hK hc i pins s σ H E I hf st hg;subst hP hw hK;nofun;obtain⟨xs,x,hq,hx⟩:=hg;obtain⟨its,rv,p,hz⟩:=I.list hq;obtain⟨u,hu,ru⟩:=rv.get hx;obtain⟨⟨old,he⟩,hit⟩:=st;ac_rfl;refine wpAny_pyNext_enum_item he hit p.isList (x:=u) (by simpa using hu) hei fun h' ho hit' hT hsz hk=>⟨_,rfl,?_⟩;refine wpAny_letOwnedTupleGo_enum ho fun h'' he'' hs''=>?_;have kk:∀b o,b ∉ [e,it]->s.heap.get? b=some o->h''.get? b=some o:=fun b o hb q=>by
   have h1:b≠e:=fun z=>hb (by simp [z]);have h2:b≠it:=fun z=>hb (by simp [z]);exact (hs''.2 b h1).trans (hk b o h1 h2 q)
  have hTe:s.heap.objs.size≠e:=fun z=>absurd (Heap.lt_size he) (by rw[z];exact Nat.lt_irrefl _);have hit'' : h''.IsListIter it a (i+1):=hit'.at fun o y=>(hs''.2 it hei.symm).trans y;refine⟨.ref s.heap.objs.size,upd H s.heap.objs.size (.tup [.int i,x]),I.turnLay kk (fun b hb=>?_) hf (Nat.le_refl _) ⟨by show 2<=sizeLine;decide,[.int i s.toks,u],.cons ⟨_,rfl⟩ (.cons ru .nil),?_⟩,rfl,⟨_,x,rfl,I.hok.fresh (Nat.le_refl _),rfl,fun ys hy=>by rw[I.list_inj hy hq];exact hx⟩,⟨⟨_,by simpa using he''⟩,hit''⟩,fun b hb=>?_⟩
  ·rcases List.mem_cons.mp hb with rfl | hb
   ·exact⟨_,he''⟩
   ·have : b = it := by simpa using hb
    subst this;obtain⟨o,z,_⟩:=hit'';exact⟨o,z⟩
  ·exact⟨_,(hs''.2 _ hTe).trans hT,⟨rfl,_,rfl⟩,rfl⟩
  ·have:b≠s.heap.objs.size:=by
    rcases List.mem_cons.mp hb with rfl | hb
    ·exact hTe.symm
    ·have e2 : b = it := by simpa using hb
     subst e2;obtain⟨o,z,_⟩:=hit;exact Nat.ne_of_lt (Heap.lt_size z)
   rw[upd_ne this];exact (hf b hb).1
 done:=by
  intro X hP hw hK hc i pins s σ H E I hf st hg;subst hP hw hK;nofun;obtain⟨xs,hq,hx⟩:=hg;obtain⟨its,rv,p,hz⟩:=I.list hq;obtain⟨⟨old,he⟩,hit⟩:=st;obtain⟨f0,f1,f2,f3,f4,f5⟩:=hf it (by simp);ac_rfl;have hl:=rv.length;exact wpAny_pyNext_enum_end (I.ok.hd hc) he hit p.isList (Array.getElem?_eq_none (by simp;omega)) fun h' eb=>⟨rfl,I.turned (t':=s.toks) (fun b o hb e=>eb b o hb e) f0 f1 f3 f4 f5⟩
 self:=fun _ _ _ _ _ st h=>let ⟨_,he⟩:=st.1;wpAny_pyIter_enum he h
section
variable {X:Cx}
end
noncomputable def Itv (K:PySem.W.Frag) (a:Addr) (n:Nat):It :=
 ⟨fun i H=>i < n/\∃xs,SqL K H a xs/\xs.length=n,fun i H x H'=>H'=H/\∀xs,SqL K H a xs->xs[n - 1 - i]?=some x,fun i H=>i=n⟩
theorem zvv {P:Program}{w:World}{K:PySem.W.Frag}{tg:Expr}(a it:Addr)(n:Nat):Turn P w K tg (Itv K a n) [it] it (fun i h=>h.IsRevIter it a ((n:Int) - 1 - (i:Int))) where
 mem:=by simp
 obj:=fun i h st b hb=>by
  have e:b=it:=by simpa using hb
  subst e;nofun;obtain⟨o,e,c,d⟩:=st;ac_rfl;exact⟨o,e,fun v z=>by rw[d] at z;cases z⟩
 keep:=fun i h h' st k=>st.at fun o e=>k it (by simp) o e
 item:=by
  intro X hP hw hK hc i pins s σ H E I hf st hg;subst hP hw hK;nofun;obtain⟨hi,xs,hq,hn⟩:=hg;ac_rfl;have hlt:n - 1 - i < xs.length:=by omega
  nofun;obtain⟨its,rv,p,hz⟩:=I.list hq;obtain⟨u,hu,ru⟩:=rv.get (List.getElem?_eq_getElem hlt);obtain⟨f0,f1,f2,f3,f4,f5⟩:=hf it (by simp);ac_rfl;have e:(n:Int) - 1 - (i:Int)=((n - 1 - i:Nat):Int):=by omega
  have st':=st;rw[e] at st';refine wpAny_pyNext_rev_item st' p.isList (x:=u) (by simpa using hu) fun h' st' sb=>?_;have I1:Inv X pins σ H { s with heap:=h' }:=I.turned (t':=s.toks) (fun b o hb e=>(sb.2 b hb).trans e) f0 f1 f3 f4 f5;nofun;obtain⟨o,e2,c,d⟩:=id st';ac_rfl;have e3:((n - 1 - i:Nat):Int) - 1=(n:Int) - 1 - ((i+1:Nat):Int):=by omega
  rw[e3] at st';exact⟨u,rfl,zww (s:={ s with heap:=h' }) e2 c d #v[0,9] ⟨_,H,I1,ru,⟨rfl,fun ys hy=>by rw[I.list_inj hy hq];exact List.getElem?_eq_getElem hlt⟩,st',fun b hb=>(hf b hb).1⟩⟩
 done:=by
  intro X hP hw hK hc i pins s σ H E I hf st hg;subst hP hw hK;have hg' : i=n:=hg;subst hg';nofun;obtain⟨f0,f1,f2,f3,f4,f5⟩:=hf it (by simp);ac_rfl;have e:(i:Int) - 1 - (i:Int)=-1:=by omega
  rw[e] at st;exact wpAny_pyNext_rev_end (I.ok.hd hc) st fun h' eb=>⟨rfl,I.turned (t':=s.toks) (fun b o hb e=>eb b o hb e) f0 f1 f3 f4 f5⟩
 self:=fun _ _ _ _ _ st h=>wpAny_pyIter_revIter st h
section
variable {X:Cx}{tg:Expr}
noncomputable def iRev (K:PySem.W.Frag) (ta:TA):TI:=fun σ H R=>ta σ H fun vs H1=>∃a xs,vs=[.ref a]/\SqL K H1 a xs/\R (Itv K a xs.length) H1
theorem z3o {l:Expr}{tl:TA}{p pos:Pos} (hg:Gl X "reversed") (hm:X.mg "reversed" = none) (hl:PA X [l] tl) (hs:starEach [l] X.env=[(false,eval l X.env)]:=by rfl) :
    PI X tg (.Call (.Name "reversed" p) [l] [] pos) (iRev X.K tl):=by
  intro pins s σ H R I h;refine Call_ (zdw I hg hm boot_reversed (PyProof.Rows.callWith_type1 (thn (hl pos pins s σ H _ I h) fun us s1 ⟨vs,H1,I1,r1,q1⟩=>?_) hs rfl));nofun;obtain⟨a,xs,e,hq,q⟩:=q1;ac_rfl;subst e;cases r1 with
  | cons r rr =>
    cases rr;cases r;nofun;obtain⟨its,rv,p',hz⟩:=I1.list hq;ac_rfl;refine call_reversed_list p'.isList ?_;have hit:(s1.heap.push (revObj a ((its.toArray.size:Int) - 1))).IsRevIter s1.heap.objs.size a ((its.toArray.size:Int) - 1):=⟨_,Heap.get?_push_size _ rfl,rfl,rfl⟩;refine wpAny_pyIter_revIter hit ?_;refine⟨s1.heap.objs.size,[s1.heap.objs.size],_,_,H1,rfl,I1.kept (t':=s1.toks) fun b o e=>Heap.get?_push_of_some _ e,zvv a _ xs.length,?_,fun b hb=>?_,q⟩
    · have e : ((its.toArray.size : Int) - 1) = (xs.length : Int) - 1 - ((0 : Nat) : Int) := by have := rv.length; simp; omega
      rw[e] at hit;have ge:((its.toArray.size:Int) - 1)=(xs.length:Int) - 1 - ((0:Nat):Int):=e;dsimp only;rw[<-ge];exact⟨_,Heap.get?_push_size _ rfl,rfl,rfl⟩
    · have e : b = s1.heap.objs.size := by simpa using hb
      subst e;exact I1.fpOk (Nat.le_refl _) (I1.hok.fresh (Nat.le_refl _))
end
section
variable {κ:Type} [DecidableEq κ]
noncomputable def putK (kvs:List (κ × V)) (k:κ) (v:V):List (κ × V) :=
 if (kvs.any fun kv=>decide (kv.1=k))=true then kvs.map (fun kv=>if kv.1=k then (kv.1,v) else kv) else kvs++[(k,v)]
theorem zlm (kvs:List (κ × V))(k:κ)(v:V):(putK kvs k v).length<=kvs.length+1:=by
 unfold putK;split
 ·rw[List.length_map];omega
 ·rw[List.length_append,List.length_cons,List.length_nil];omega
theorem KV.any {kvs:List (κ × V)}{vs:List (κ × Value)}(r:KV kvs vs)(k:κ):(kvs.any fun kv=>decide (kv.1=k))=vs.any fun kv=>decide (kv.1=k):=by
 unfold KV at r
 induction r with
 | nil=>rfl
 | cons h t ih=>rw[List.any_cons,List.any_cons,ih,h.1]
theorem KV.repl {kvs:List (κ × V)}{vs:List (κ × Value)} (r:KV kvs vs) (k:κ) {y:V}{u:Value} (ry:RelV y u) :
    KV (kvs.map fun kv=>if kv.1=k then (kv.1,y) else kv) (vs.map fun kv=>if kv.1=k then (kv.1,u) else kv):=by
  unfold KV at r ⊢
  induction r with
  | nil=>exact .nil
  | @cons p q ps qs h t ih =>
    rw[List.map_cons,List.map_cons];refine .cons ?_ ih;obtain⟨h1,h2⟩:=h;by_cases e:p.1=k
    · rw[if_pos e,if_pos (h1.symm.trans e)];exact⟨h1,ry⟩
    · rw[if_neg e,if_neg (fun z=>e (h1.trans z))];exact⟨h1,h2⟩
theorem KV.put {kvs:List (κ × V)}{vs:List (κ × Value)}(r:KV kvs vs)(k:κ){y:V}{u:Value}(ry:RelV y u):KV (putK kvs k y) (stored vs k u):=by
 unfold putK stored;rw[r.any k];by_cases e:(vs.any fun kv=>decide (kv.1=k))=true
 ·rw[if_pos e,if_pos e];exact r.repl k ry
 ·rw[if_neg e,if_neg e];exact Paired.snoc r ⟨rfl,ry⟩
theorem KV.length {kvs:List (κ × V)}{vs:List (κ × Value)}(r:KV kvs vs):kvs.length=vs.length:=Paired.length r
end
theorem z63 {P:Program}{w:World}{k:Key}{u:Value}(r:RelV (kV k) u):(zcv P w).is k u=true:=by
 cases k with
 | inl i=>obtain⟨t,e⟩:=(show ∃t,u=Value.int i t from r);subst e;exact zlz P w i t
 | inr x=>obtain⟨t,e⟩:=(show ∃t,u=Value.str x t from r);subst e;exact zll P w x t
section
variable {P:Program}{w:World}{H:Hp}{h:Heap}{a:Addr}
theorem rd_of {u:HO}(ok:HOk P w H h)(e:Rd H a u):ObjOk P w H h a u:=e.ok ok
theorem z7n {kvs:List (Key × V)}(ok:HOk P w H h)(e:Rd H a (.dK kvs)):kvs.length<=sizeLine/\(a == sysModules)=false/\∃vs,KV kvs vs/\h.DictOf (zcv P w) a vs :=
 show ObjOk P w H h a (.dK kvs) from rd_of ok e
end
section
variable {X:Cx}{pins:List (Addr × Obj)}{σ:St}{H:Hp}{s:Shared}{a:Addr}{y v:V}{u r:Value}{o:Option V}{A:Around}{E:Value->Shared->Prop}
theorem Inv.big (I:Inv X pins σ H s):sysModules < s.heap.objs.size:=by
 have h:mainGlobals < s.heap.objs.size:=(I.mod.glob.keeps I.bk).lt;exact Nat.lt_trans #v[0,9] h
theorem z3b {P:Program}{w:World}{H' : Hp}{h' : Heap}{kvs:List (Key × V)}{vs:List (Key × Value)} (z:kvs.length<=sizeLine) (hd:(a == sysModules)=false) (rel:KV kvs vs) (dd:h'.DictOf (zcv P w) a vs) :
  ObjOk P w H' h' a (.dK kvs):=⟨z,hd,vs,rel,dd⟩
end
section
variable {X:Cx}{pins:List (Addr × Obj)}{σ:St}{H:Hp}{s:Shared}{a:Addr}{kvs:List (Key × V)}{k:Key}{u:Value}{A:Around}{E:Value->Shared->Prop}
theorem z59 {Q:Value->Shared->Prop}(I:Inv X pins σ H s)(e:Rd H a (.dK kvs))(h:∀t s',Inv X pins σ H s'->Q (.int kvs.length t) s'):wpAny (model X.prog X.w) A (call (.builtin "len") [.ref a]) Q E s:=by
 obtain⟨z,hd,vs,rel,dd⟩:=z7n I.hok e;refine call_len_dict hd dd (by rw[<-rel.length];rw[sizeLine_eq] at z;omega) ?_;rw[<-rel.length];exact h _ _ (I.tok _)
end
section
variable {X:Cx}{o i e value:Expr}{pos pos' tpos:Pos}{td ty tv:TE}
end
section
variable {X:Cx}{pos:Pos}
end
noncomputable def zez (kvs more:List (Key × V)):List (Key × V):=more.foldl (fun acc kv=>putK acc kv.1 kv.2) kvs
theorem KV.merge:∀{more:List (Key × V)}{rs:List (Key × Value)}{kvs:List (Key × V)}{vs:List (Key × Value)},KV more rs->KV kvs vs->KV (zez kvs more) (merged vs rs):=by
  intro more rs kvs vs r;unfold KV at r
  induction r generalizing kvs vs with
  | nil=>intro q;exact q
  | @cons p q ps qs h t ih =>
    intro r0;have e:KV (putK kvs p.1 p.2) (stored vs q.1 q.2):=by
      have:=r0.put p.1 h.2;rw[<-h.1];exact this
    exact ih e
theorem zd3:∀(more kvs:List (Key × V)),(zez kvs more).length<=kvs.length+more.length
  | [],kvs=>by show kvs.length<=kvs.length+0;omega
  | p::r,kvs=>by
    have h1:=zd3 r (putK kvs p.1 p.2);have h2:=zlm kvs p.1 p.2;show (zez (putK kvs p.1 p.2) r).length<=_;rw[List.length_cons];omega
section
variable {X:Cx}{pins:List (Addr × Obj)}{σ:St}{H:Hp}{s:Shared}{a:Addr}{y d:V}{u r:Value}{o:Option V}{A:Around}{E:Value->Shared->Prop}
end
section
variable {X:Cx}{o e f:Expr}{apos cpos:Pos}{td ty tx:TE}
end
section
variable {X:Cx}{pins:List (Addr × Obj)}{σ:St}{H:Hp}{s:Shared}{a:Addr}{kvs:List (Key × V)}{A:Around}{E:Value->Shared->Prop}
end
section
variable {X:Cx}{pins:List (Addr × Obj)}{σ:St}{H:Hp}{s:Shared}{a:Addr}{y:V}{u:Value}{A:Around}{E:Value->Shared->Prop}
end
section
variable {X:Cx}
theorem z24 {bs:List Bool}{its:List Value}{i:Nat}{v:Value}(r:Vals (bs.map V.bl) its)(h:its[i]?=some v):∃b,bs[i]?=some b/\v=.bool b:=by
 have hl:=r.length;rw[List.length_map] at hl;have hi:i < bs.length:=by rw[hl];exact (List.getElem?_eq_some_iff.mp h).1
 obtain⟨u,hu,ru⟩:=r.get (i:=i) (x:=.bl bs[i]) (by rw[List.getElem?_map,List.getElem?_eq_getElem hi];rfl);rw[h] at hu;obtain rfl:=sI hu;exact⟨bs[i],List.getElem?_eq_getElem hi,ru⟩
theorem zh6 {bs:List Bool}{i:Nat}(hi:i < bs.length):bs.getD i false=bs[i]:=by rw[List.getD_eq_getElem?_getD,List.getElem?_eq_getElem hi];rfl
theorem zsf (bs:List Bool):((List.range bs.length).any fun i=>bs.getD i false)=bs.any id:=by
 rw[Bool.eq_iff_iff,List.any_eq_true,List.any_eq_true];constructor
 ·rintro ⟨i, hi, h⟩;rw[List.mem_range] at hi;refine⟨bs[i],List.getElem_mem hi,?_⟩;rw[zh6 hi] at h;exact h
 ·rintro ⟨b, hb, h⟩;obtain⟨i,hi,e⟩:=List.mem_iff_getElem.mp hb;refine⟨i,List.mem_range.mpr hi,?_⟩;rw[zh6 hi,e];exact h
theorem zud (bs:List Bool):((List.range bs.length).all fun i=>bs.getD i false)=bs.all id:=by
 rw[Bool.eq_iff_iff,List.all_eq_true,List.all_eq_true];constructor
 ·intro h b hb;obtain⟨i,hi,e⟩:=List.mem_iff_getElem.mp hb;have:=h i (List.mem_range.mpr hi);rw[zh6 hi,e] at this;exact this
 ·intro h i hi;rw[List.mem_range] at hi;rw[zh6 hi];exact h _ (List.getElem_mem hi)
theorem zne {P:Program}{w:World}{A:Around}{bs:List Bool}{its:List Value}(r:Vals (bs.map V.bl) its):TruthOf P w A (fun i v=>its.toArray[i]?=some v) (fun i=>bs.getD i false):=fun i v s Q E hP hQ=>by
 obtain⟨b,hb,e⟩:=z24 r (by simpa using hP);subst e;have:bs.getD i false=b:=by rw[List.getD_eq_getElem?_getD,hb];rfl
 have hQ' : Q (bs.getD i false) s:=hQ;rw[this] at hQ';exact wpAny_truthy_bool hQ'
theorem zvo (hc:X.calm=true):zc9 X (.builtin "any") (fun xs H Q=>∃(a:Addr) (bs:List Bool),xs=[.ref a]/\SqL X.K H a (bs.map V.bl)/\Q (.bl (bs.any id)) H):=by
 intro pins s σ H xs us Q I r h;obtain⟨a,bs,rfl,hq,q⟩:=h;obtain⟨u,rfl,rx⟩:=vals1 r;cases rx;obtain⟨its,rv,p,hz⟩:=I.list hq;have hl:=rv.length;rw[List.length_map] at hl;have ha:a < s.heap.objs.size:=by obtain⟨o,e,_⟩:=p.isList;exact Heap.lt_size e
 refine call_any_walk (wpAny_pyIter_list p.isList ?_);refine⟨s.heap.objs.size,_,[s.heap.objs.size],its.toArray.size,_,_,_,rfl,Walks.list (A:=X.A.in1) (show X.A.in1.handled=none from I.ok.hd hc) _ a (Nat.ne_of_lt ha) its.toArray,⟨⟨_,Heap.get?_push_size _ rfl,rfl,rfl⟩,p.isList.push _⟩,zne rv,fun h' tk hk=>?_⟩;have e:its.toArray.size=bs.length:=by simp;omega
 rw[e,zsf];refine⟨.bl _,H,I.kept fun b o hb=>?_,rfl,q⟩;exact hk b o (by intro z;rw[List.mem_singleton] at z;subst z;exact absurd (Heap.lt_size hb) (Nat.lt_irrefl _)) (Heap.get?_push_of_some _ hb)
theorem zuf (hc:X.calm=true):zc9 X (.builtin "all") (fun xs H Q=>∃(a:Addr) (bs:List Bool),xs=[.ref a]/\SqL X.K H a (bs.map V.bl)/\Q (.bl (bs.all id)) H):=by
 intro pins s σ H xs us Q I r h;obtain⟨a,bs,rfl,hq,q⟩:=h;obtain⟨u,rfl,rx⟩:=vals1 r;cases rx;obtain⟨its,rv,p,hz⟩:=I.list hq;have hl:=rv.length;rw[List.length_map] at hl;have ha:a < s.heap.objs.size:=by obtain⟨o,e,_⟩:=p.isList;exact Heap.lt_size e
 refine call_all_walk (wpAny_pyIter_list p.isList ?_);refine⟨s.heap.objs.size,_,[s.heap.objs.size],its.toArray.size,_,_,_,rfl,Walks.list (A:=X.A.in1) (show X.A.in1.handled=none from I.ok.hd hc) _ a (Nat.ne_of_lt ha) its.toArray,⟨⟨_,Heap.get?_push_size _ rfl,rfl,rfl⟩,p.isList.push _⟩,zne rv,fun h' tk hk=>?_⟩;have e:its.toArray.size=bs.length:=by simp;omega
 rw[e,zud];refine⟨.bl _,H,I.kept fun b o hb=>?_,rfl,q⟩;exact hk b o (by intro z;rw[List.mem_singleton] at z;subst z;exact absurd (Heap.lt_size hb) (Nat.lt_irrefl _)) (Heap.get?_push_of_some _ hb)
theorem zva:zc9 X (.builtin "isinstance") (fun xs H Q=>∃x t c b,xs=[x,.ty c]/\TyOf X.K H x t/\PySem.W.kitOne X.K t (.type c)=some b/\Q (.bl b) H):=by
  intro pins s σ H xs us Q I r h;nofun;obtain⟨x,t,c,b,rfl,ty,e,q⟩:=h;ac_rfl;cases r with
  | cons rx rr =>
    obtain⟨u,rfl,rc⟩:=vals1 rr;cases (show u=Value.type c from rc);exact zqa I rx ty e fun tk=>⟨.bl b,H,I.tok _,rfl,q⟩
theorem zqj:OpR X (compareOp .IsNot) (fun x y H Q=>∃b,y=.bl b/\Q (.bl (!decide (x=.bl b))) H):=by
 intro pins s σ H x y v u Q I rx ry h;obtain⟨b,rfl,q⟩:=h;cases ry;cases x with
 | bl c=>cases rx;exact wpAny_isNot_plain rfl (zae I q (by cases b<;>cases c<;>rfl))
 | non=>cases rx;exact wpAny_isNot_plain rfl (zae I q (by cases b<;>rfl))
 | ref _=>cases rx;exact wpAny_isNot_plain rfl (zae I q (by cases b<;>rfl))
 | ty _=>cases rx;exact wpAny_isNot_plain rfl (zae I q (by cases b<;>rfl))
 | int _=>obtain⟨t,e⟩:=rx;subst e;exact wpAny_isNot_plain rfl (zae I q (by cases b<;>rfl))
 | str _=>obtain⟨t,e⟩:=rx;subst e;exact wpAny_isNot_plain rfl (zae I q (by cases b<;>rfl))
 | byt _=>obtain⟨t,e⟩:=rx;subst e;exact wpAny_isNot_plain rfl (zae I q (by cases b<;>rfl))
 | flt _=>obtain⟨t,e⟩:=rx;subst e;exact wpAny_isNot_plain rfl (zae I q (by cases b<;>rfl))
end
noncomputable def z5e (i j:Int):Prop:=Builtin.Int.intBits i<=2 ^ 20/\Builtin.Int.intBits j<=2 ^ 20
theorem z1m {X:Cx}:OpR X (binaryOp .Mult) (rI z5e fun i j=>.int (i * j)):=opI fun _ _ _ _ _ _ _ hc q=>mul_int q (IntMulOk.of_bits hc.1 hc.2)
structure Cal (P:Program) (w:World) (K:PySem.W.Frag) (mg:Str->Option Value) (base:Heap) (n:Nat) (x:Str) (ps:List Str) (sp:Sp):Prop where
 ex:∃f fd,FnOk P w K mg base CX0 n f fd ps sp/\zlx K fd ps []/\PySem.W.keepIn K (.ref f)=true/\mg x=some (.ref f)
theorem z4k {X:Cx}{n k:Nat}{x:Str}{ps:List Str}{sp:Sp}{e:Expr}{es:List Expr}{t:TA}{p pos:Pos} (C:Cal X.prog X.w X.K X.mg X.base n x ps sp) (hr:Room k X.A) (hg:Gl X x) (ha:PA X (e::es) t) (hk:n<=k:=by decide)
  (hdb:(x == ("__debug__" : Str))=false:=by decide) (hs:starEach (e::es) X.env=(false,eval e X.env)::starEach es X.env:=by rfl) (hpl:(backTo pos (starEach es X.env)).any (·.1)=false:=by rfl) :
  PE X (.Call (.Name x p) (e::es) [] pos) (z12 sp [] E0 t):=by
 nofun;obtain⟨f,fd,F,b,kp,m⟩:=C.ex;ac_rfl;exact z0m F (hr.mono hk) hg m kp b .nil z7r ha hdb hs hpl
theorem Same.new {p:Addr}{H:Hp}(h:H p=none)(o:HO):Same H (L2.upd H p o):=fun b u e=>by rw[upd_ne (zab e h)];exact e
theorem SqL.of' {K:PySem.W.Frag}{H:Hp}{a:Addr}{xs:List V}(h:H a=some (.lst xs)):SqL K H a xs:=.inl (.inl h)
noncomputable def MM:Int:=2305843009213693951
noncomputable def big:Nat:=1099511627776
noncomputable def Bits (xs:List Int):Prop:=∀x∈xs,x=0\/x=1
noncomputable def wordOf (xs:List Int):Int:=xs.foldr (fun b a=>2 * a+b) 0
theorem zyt:bootBuiltins "len" = some (.builtin "len"):=by decide +kernel
theorem z29:bootBuiltins "abs" = some (.builtin "abs"):=by decide +kernel
theorem z31:bootBuiltins "any" = some (.builtin "any"):=by decide +kernel
theorem z39:bootBuiltins "all" = some (.builtin "all"):=by decide +kernel
theorem z5d:bootBuiltins "sum" = some (.builtin "sum"):=by decide +kernel
theorem zhx:bootBuiltins "isinstance" = some (.builtin "isinstance"):=by decide +kernel
theorem zx6:bootBuiltins "int" = some (.type "int"):=by decide +kernel
theorem z2e:bootBuiltins "bool" = some (.type "bool"):=by decide +kernel
theorem z52:bootBuiltins "str" = some (.type "str"):=by decide +kernel
theorem zn1:bootBuiltins "tuple" = some (.type "tuple"):=by decide +kernel
theorem zmk:bootBuiltins "list" = some (.type "list"):=by decide +kernel
theorem zwh {w:Int}{i:Nat}(h0:0 < w)(h:w<=2 ^ (200 * i)):0 < w * 10 ^ 60/\w * 10 ^ 60<=2 ^ (200 * (i+1)):=by
 have e:(2:Int) ^ (200 * (i+1))=2 ^ (200 * i) * 2 ^ 200:=by rw[Nat.mul_add,Int.pow_add]
 rw[e];refine⟨Int.mul_pos h0 #v[0,9],?_⟩;have h1:w * 10 ^ 60<=2 ^ (200 * i) * 10 ^ 60:=Int.mul_le_mul_of_nonneg_right h #v[0,9];have h2:(2:Int) ^ (200 * i) * 10 ^ 60<=2 ^ (200 * i) * 2 ^ 200:=Int.mul_le_mul_of_nonneg_left #v[0,9] #v[];omega
theorem zie {w:Int}{i:Nat}(h0:0<=w)(h:w<=2 ^ (200 * i))(hi:i<=63):Builtin.Int.intBits w<=2 ^ 20:=by
 have h1:(2:Int) ^ (200 * i) < 2 ^ (200 * i+1):=by rw[Int.pow_succ];have:(0:Int) < 2 ^ (200 * i):=Int.pow_pos #v[0,9];omega
 have h2:w.natAbs < 2 ^ (200 * i+1):=by
  have:((w.natAbs:Nat):Int) < ((2 ^ (200 * i+1):Nat):Int):=by
   rw[Int.natCast_pow];have e:((w.natAbs:Nat):Int)=w:=by omega
   rw[e];exact Int.lt_of_le_of_lt h h1
  exact Int.ofNat_lt.mp this
 have:=PyProof.Rows.intBits_le h2;omega
theorem zfx:∀{xs:List Int},Bits xs->0<=wordOf xs/\wordOf xs < 2 ^ xs.length
  | [],_=>by decide
  | x::r,h=>by
    have hx:=h x List.mem_cons_self;have ih:=zfx (xs:=r) fun y hy=>h y (List.mem_cons_of_mem _ hy);show 0<=2 * wordOf r+x/\2 * wordOf r+x < 2 ^ (r.length+1);rw[Int.pow_succ];omega
noncomputable def zad:Expr->Bool
 | .Starred ..=>false
 | _=>true
theorem zag {e:Expr}{es:List Expr}{env:Env}(h:zad e=true):starEach (e::es) env=(false,eval e env)::starEach es env:=by
 cases e<;>first | rfl | (cases h)
theorem pac {X:Cx}{e:Expr}{es:List Expr}{te:TE}{t:TA}(ha:PE X e te)(hr:PA X es t)(h:zad e=true:=by rfl):PA X (e::es) (zdv te t):=zrx ha hr (zag h)
end L2
namespace L2
theorem noSome {α:Type}{a:α}{P:Prop}(h:none=some a):P:=by cases h
open PySem PySem.Spec PyProof.Rows
noncomputable abbrev DKey:=Key ⊕ List Key
inductive W where
 | non | bl (b:Bool) | int (i:Int) | str (x:Str) | tup (xs:List W) | lst (xs:List W) | frl (xs:List W) | dic | dct (ks:List DKey) (vs:List W) | dcz (ks:List DKey) (vs:List W)
 deriving BEq,Inhabited
mutual
inductive Rep (K:PySem.W.Frag) (F:Hp):W->V->Prop where
 | non:Rep K F .non .non
 | bl (b:Bool):Rep K F (.bl b) (.bl b)
 | int (i:Int):Rep K F (.int i) (.int i)
 | str (x:Str):Rep K F (.str x) (.str x)
 | tup {ws:List W}{a:Addr}{vs:List V} (h:F a=some (.tup vs)) (r:Reps K F ws vs):Rep K F (.tup ws) (.ref a)
 | lst {ws:List W}{a:Addr}{vs:List V} (h:F a=some (.lst vs)) (r:Reps K F ws vs):Rep K F (.lst ws) (.ref a)
 | frl {ws:List W}{a:Addr}{vs:List V} (h:SqL K F a vs) (r:Reps K F ws vs):Rep K F (.frl ws) (.ref a)
 | dic {a:Addr}{kvs:List (Key × V)} (h:F a=some (.dK kvs)):Rep K F .dic (.ref a)
 | dct {a:Addr}{ks:List Key}{ws:List W}{vs:List V} (h:F a=some (.dK (ks.zip vs))) (hl:ks.length=vs.length) (r:Reps K F ws vs):Rep K F (.dct (ks.map .inl) ws) (.ref a)
 | dctT {a:Addr}{ks:List (List Key)}{ws:List W}{vs:List V} (h:F a=some (.dT (ks.zip vs))) (hl:ks.length=vs.length) (r:Reps K F ws vs):Rep K F (.dct (ks.map .inr) ws) (.ref a)
 | dcz {a:Addr}{o:Obj}{ks:List Key}{ws:List W}{vs:List V} (h:F a=some (.frz o (.dK (ks.zip vs)))) (hl:ks.length=vs.length) (r:Reps K F ws vs):Rep K F (.dcz (ks.map .inl) ws) (.ref a)
 | dczT {a:Addr}{o:Obj}{ks:List (List Key)}{ws:List W}{vs:List V} (h:F a=some (.frz o (.dT (ks.zip vs)))) (hl:ks.length=vs.length) (r:Reps K F ws vs):Rep K F (.dcz (ks.map .inr) ws) (.ref a)
inductive Reps (K:PySem.W.Frag) (F:Hp):List W->List V->Prop where
 | nil:Reps K F [] []
 | cons {w:W}{v:V}{ws:List W}{vs:List V} (h:Rep K F w v) (r:Reps K F ws vs):Reps K F (w::ws) (v::vs)
end
theorem zb7 {α:Type}{l:List α}{i j:Nat}{x y:α}(hi:i < l.length)(h:(l.set i x)[j]?=some y):(j=i/\y=x)\/(j≠i/\l[j]?=some y):=by
 by_cases e:j=i
 ·subst e;rw[List.getElem?_set_self hi] at h;exact .inl ⟨rfl,(sI h).symm⟩
 ·rw[List.getElem?_set_ne (Ne.symm e)] at h;exact .inr ⟨e,h⟩
theorem zw9 {α:Type}{l:List α}{i:Nat}{x:α}(h:l[i]?=some x):l.set i x=l:=by
 apply List.ext_getElem?;intro j;by_cases e:j=i
 ·subst e;rw[List.getElem?_set_self (List.getElem?_eq_some_iff.mp h).1,h]
 ·rw[List.getElem?_set_ne (Ne.symm e)]
section
variable {K:PySem.W.Frag}{F F' H H' : Hp}
mutual
theorem Rep.mono (s:Same F F'):∀{w:W}{v:V},Rep K F w v->Rep K F' w v
 | _,_,.non=>.non
 | _,_,.bl b=>.bl b
 | _,_,.int i=>.int i
 | _,_,.str x=>.str x
 | _,_,.tup h r=>.tup (s _ _ h) (Reps.mono s r)
 | _,_,.lst h r=>.lst (s _ _ h) (Reps.mono s r)
 | _,_,.frl h r=>.frl (s.seq h) (Reps.mono s r)
 | _,_,.dic h=>.dic (s _ _ h)
 | _,_,.dct h hl r=>.dct (s _ _ h) hl (Reps.mono s r)
 | _,_,.dctT h hl r=>.dctT (s _ _ h) hl (Reps.mono s r)
 | _,_,.dcz h hl r=>.dcz (s _ _ h) hl (Reps.mono s r)
 | _,_,.dczT h hl r=>.dczT (s _ _ h) hl (Reps.mono s r)
theorem Reps.mono (s:Same F F'):∀{ws:List W}{vs:List V},Reps K F ws vs->Reps K F' ws vs
 | _,_,.nil=>.nil
 | _,_,.cons h r=>.cons (Rep.mono s h) (Reps.mono s r)
end
theorem Reps.length:∀{ws:List W}{vs:List V},Reps K F ws vs->ws.length=vs.length
 | _,_,.nil=>rfl
 | _,_,.cons _ r=>congrArg (· + 1) (Reps.length r)
theorem Reps.get:∀{ws:List W}{vs:List V}{i:Nat}{w:W},Reps K F ws vs->ws[i]?=some w->∃v,vs[i]?=some v/\Rep K F w v
  | _,_,_,_,.nil,e=>by simp at e
  | _,_,0,_,.cons h _,e=>by simp at e;subst e;exact⟨_,rfl,h⟩
  | _,_,i+1,w,.cons _ r,e=>by
    obtain⟨v,h1,h2⟩:=Reps.get (i:=i) (w:=w) r (by simpa using e);exact⟨v,by simpa using h1,h2⟩
theorem Reps.getV:∀{ws:List W}{vs:List V}{i:Nat}{v:V},Reps K F ws vs->vs[i]?=some v->∃w,ws[i]?=some w/\Rep K F w v
  | _,_,_,_,.nil,e=>by simp at e
  | _,_,0,_,.cons h _,e=>by simp at e;subst e;exact⟨_,rfl,h⟩
  | _,_,i+1,v,.cons _ r,e=>by
    obtain⟨w,h1,h2⟩:=Reps.getV (i:=i) (v:=v) r (by simpa using e);exact⟨w,by simpa using h1,h2⟩
theorem Reps.append:∀{xs ys:List W}{us ws:List V},Reps K F xs us->Reps K F ys ws->Reps K F (xs++ys) (us++ws)
 | _,_,_,_,.nil,s=>s
 | _,_,_,_,.cons h r,s=>.cons h (Reps.append r s)
theorem Reps.take:∀{xs:List W}{us:List V} (n:Nat),Reps K F xs us->Reps K F (xs.take n) (us.take n)
 | _,_,0,_=>.nil
 | _,_,_+1,.nil=>.nil
 | _,_,n+1,.cons h r=>.cons h (Reps.take n r)
theorem Reps.drop:∀{xs:List W}{us:List V} (n:Nat),Reps K F xs us->Reps K F (xs.drop n) (us.drop n)
 | _,_,0,r=>r
 | _,_,_+1,.nil=>.nil
 | _,_,n+1,.cons _ r=>Reps.drop n r
theorem Reps.set {w:W}{v:V}(h:Rep K F w v):∀{xs:List W}{us:List V} (i:Nat),Reps K F xs us->Reps K F (xs.set i w) (us.set i v)
 | _,_,_,.nil=>.nil
 | _,_,0,.cons _ r=>.cons h r
 | _,_,i+1,.cons q r=>.cons q (Reps.set h i r)
theorem Reps.rep {xs:List W}{us:List V}(r:Reps K F xs us):∀k:Nat,Reps K F (List.replicate k xs).flatten (List.replicate k us).flatten
 | 0=>.nil
 | k+1=>by rw[List.replicate_succ,List.replicate_succ,List.flatten_cons,List.flatten_cons];exact r.append (r.rep k)
noncomputable def isIt:W->V->Prop
 | .int i,v=>v=.int i
 | .bl b,v=>v=.bl b
 | _,_=>True
theorem Rep.isIt {w:W}{v:V}(h:Rep K F w v):isIt w v:=by cases h<;>first | rfl | trivial
theorem Reps.uncons {w:W}{ws:List W}{vs:List V}(h:Reps K F (w::ws) vs):∃v us,vs=v::us/\Rep K F w v/\Reps K F ws us:=by
 cases h with
 | cons h r=>exact⟨_,_,rfl,h,r⟩
theorem Reps.ints:∀{ns:List Int}{vs:List V},Reps K F (ns.map W.int) vs->vs=ns.map V.int:=by
  intro ns
  induction ns with
  | nil=>intro vs h;cases h;rfl
  | cons n ns ih =>
    intro vs h;obtain⟨v,us,e,h1,h2⟩:=Reps.uncons h;rw[e,ih h2,show v=.int n from h1.isIt];rfl
theorem Reps.ofInts:∀(ns:List Int),Reps K F (ns.map W.int) (ns.map V.int)
 | []=>.nil
 | n::ns=>.cons (.int n) (Reps.ofInts ns)
theorem Reps.bls:∀{bs:List Bool}{vs:List V},Reps K F (bs.map W.bl) vs->vs=bs.map V.bl:=by
  intro ns
  induction ns with
  | nil=>intro vs h;cases h;rfl
  | cons n ns ih =>
    intro vs h;obtain⟨v,us,e,h1,h2⟩:=Reps.uncons h;rw[e,ih h2,show v=.bl n from h1.isIt];rfl
noncomputable abbrev En:=List (Option (W × Bool))
noncomputable abbrev Prt:=Addr->HO->Prop
inductive OwnR (K:PySem.W.Frag) (F:Hp):W->HO->Prop where
 | lst {ws:List W}{vs:List V} (r:Reps K F ws vs):OwnR K F (.lst ws) (.lst vs)
 | dct {ks:List Key}{ws:List W}{vs:List V} (hl:ks.length=vs.length) (r:Reps K F ws vs):OwnR K F (.dct (ks.map .inl) ws) (.dK (ks.zip vs))
 | dctT {ks:List (List Key)}{ws:List W}{vs:List V} (hl:ks.length=vs.length) (r:Reps K F ws vs):OwnR K F (.dct (ks.map .inr) ws) (.dT (ks.zip vs))
theorem OwnR.mono {w:W}{o:HO}(s:Same F F')(h:OwnR K F w o):OwnR K F' w o:=by
 cases h with
 | lst r=>exact .lst (r.mono s)
 | dct hl r=>exact .dct hl (r.mono s)
 | dctT hl r=>exact .dctT hl (r.mono s)
theorem OwnR.rep {w:W}{o:HO}{a:Addr}(h:OwnR K F w o)(e:F a=some o):Rep K F w (.ref a):=by
 cases h with
 | lst r=>exact .lst e r
 | dct hl r=>exact .dct e hl r
 | dctT hl r=>exact .dctT e hl r
theorem OwnR.list {ws:List W}{o:HO}(h:OwnR K F (.lst ws) o):∃vs,o=.lst vs/\Reps K F ws vs:=by
 cases h with
 | lst r=>exact⟨_,rfl,r⟩
noncomputable def lams:List Str:=["_law_terms","_law_in_order","_law_poly_of","voted_terms","law"]
noncomputable def lamQ (x:Str):Str:=x++".<locals>."++"<lambda>"
noncomputable def zc5 (c:Addr) (q:Str) (h:Heap):Prop:=∃oc vs t,h.get? c=some oc/\oc.data=.fields vs/\vs[1]?=some (.str q t)
noncomputable def zzc (K:PySem.W.Frag):Prop:=∀x∈lams,∀x'∈lams,∀c c' P,PySem.W.tabIn K x=some (c,P)->PySem.W.tabIn K x'=some (c',P)->x=x'
noncomputable def NoT (pr:Prt):Prop:=∀b xs,¬ pr b (.tup xs)
noncomputable def zpe (K:PySem.W.Frag) (F:Hp) (pr:Prt) (H:Hp):Prop:=(zzc K/\NoT pr)/\∀x∈lams,∀c P,PySem.W.tabIn K x=some (c,P)->∃ps:Array Value,H P=some (.tbl ps)/\F P=none/\(∀o,¬ pr P o)/\TriplesOk ps.toList /\
 ∀pos cv,codeAmong pos ps.toList=some cv->∃c',cv=.ref c'/\F c'=some (.ext (zc5 c' (lamQ x)))
theorem zpe.go {F F' H H' : Hp}{pr pr' : Prt}(T:zpe K F pr H)(h4:∀b xs,pr' b (.tup xs)->pr b (.tup xs))(h1:∀b ps,H b=some (.tbl ps)->F b=none->H' b=some (.tbl ps)/\F' b=none)(h2:Same F F')(h3:∀b ps,H b=some (.tbl ps)->(∀o,¬ pr b o)->∀o,¬ pr' b o):zpe K F' pr' H':=⟨⟨T.1.1,fun b xs z=>T.1.2 b xs (h4 b xs z)⟩,fun x hx c P e=>by
 nofun;obtain⟨ps,a1,a2,a3,a4,a5⟩:=T.2 x hx c P e;ac_rfl;refine⟨ps,(h1 P ps a1 a2).1,(h1 P ps a1 a2).2,h3 P ps a1 a3,a4,fun pos cv q=>?_⟩;obtain⟨c',b1,b2⟩:=a5 pos cv q;exact⟨c',b1,h2 _ _ b2⟩⟩
structure Rel (K:PySem.W.Frag) (F:Hp) (pr:Prt) (en:En) (σ:St) (H:Hp):Prop where
 len:en.length=σ.length
 sub:Same F H
 val:∀(i:Nat) (w:W),en[i]?=some (#v[w,6])->∃v,σ[i]?=some (some v)/\Rep K F w v
 own:∀(i:Nat) (w:W),en[i]?=some (#v[w,5])->∃(a:Addr) (o:HO) (w' : W),w=w'/\σ[i]?=some (some (V.ref a))/\H a=some o/\F a=none/\OwnR K F w' o
 inj:∀(i j:Nat) (a:Addr) (w w' : W),en[i]?=some (#v[w,5])->en[j]?=some (#v[w',5])->σ[i]?=some (some (V.ref a))->σ[j]?=some (some (V.ref a))->i=j
 prt:∀b o,pr b o->H b=some o/\F b=none/\∀(i:Nat) (w:W),en[i]?=some (#v[w,5])->σ[i]?≠some (some (V.ref b))
 tb:zpe K F pr H
noncomputable def Res (K:PySem.W.Frag) (F H:Hp) (pr:Prt) (en:En) (σ:St):W × Bool->V->Prop
 | (w,false),v=>Rep K F w v
 | (w,true),v=>∃(a:Addr) (o:HO) (w' : W),w=w'/\v=V.ref a/\H a=some o/\F a=none/\OwnR K F w' o/\(∀(i:Nat) (w' : W),en[i]?=some (#v[w',5])->σ[i]?≠some (some (V.ref a)))/\∀b o,pr b o->b≠a
noncomputable def RepB (K:PySem.W.Frag) (F H:Hp) (w:W) (v:V):Prop:=Rep K F w v\/∃(a:Addr) (o:HO) (w' : W),w=w'/\v=V.ref a/\H a=some o/\OwnR K F w' o
inductive Out (K:PySem.W.Frag) (F H:Hp):W × Bool->V->Hp->Prop where
 | val {w:W}{v:V} (r:Rep K F w v):Out K F H (w,false) v H
 | lst {p:Addr}{ws:List W}{vs:List V} (n:H p=none) (r:Reps K F ws vs):Out K F H (.lst ws,true) (.ref p) (upd H p (.lst vs))
 | tup {p:Addr}{ws:List W}{vs:List V} (n:H p=none) (r:Reps K F ws vs):Out K F H (.tup ws,false) (.ref p) (upd H p (.tup vs))
theorem Same.upd_both {F H:Hp}(s:Same F H)(p:Addr)(o:HO):Same (upd F p o) (upd H p o):=fun b u e=>by
 by_cases hb:b=p
 ·subst hb;rw[upd_same] at e ⊢;exact e
 ·rw[upd_ne hb] at e ⊢;exact s _ _ e
variable {pr:Prt}{en:En}{σ:St}
theorem Rel.lay (R:Rel K F pr en σ H){p:Addr}(hp:H p=none)(o:HO):Rel K F pr en σ (upd H p o):=by
 have ne:∀a u,H a=some u->a≠p:=fun a u e=>zab e hp;refine⟨R.len,R.sub.trans (Same.new hp o),R.val,fun i w e=>?_,R.inj,fun q o2 hq=>?_,R.tb.go (fun _ _ z=>z) (fun b ps e f=>⟨by rw[upd_ne (ne b _ e)];exact e,f⟩) (.refl F) fun b ps e h=>h⟩
 ·refine aG fun Gg qG => ?_;obtain⟨a,vs,ws,h1,h2,h3,h4,h5⟩:=R.own i w e;ac_rfl;exact⟨a,vs,ws,h1,h2,by rw[upd_ne (ne a _ h3)];exact h3,h4,h5⟩
 ·obtain⟨h1, h2, h3⟩ := R.prt q o2 hq;exact⟨by rw[upd_ne (ne _ _ h1)];exact h1,h2,h3⟩
theorem Rel.layF (R:Rel K F pr en σ H){p:Addr}(hp:H p=none)(o:HO):Rel K (upd F p o) pr en σ (upd H p o):=by
 have ne:∀a u,H a=some u->a≠p:=fun a u e=>zab e hp;have fp:F p=none:=R.sub.free hp;have s:Same F (upd F p o):=Same.new fp o;refine⟨R.len,R.sub.upd_both p o,fun i w e=>?_,fun i w e=>?_,R.inj,fun q o2 hq=>?_,R.tb.go (fun _ _ z=>z) (fun b ps e f=>⟨by rw[upd_ne (ne b _ e)];exact e,by rw[upd_ne (ne b _ e)];exact f⟩) s fun b ps e h=>h⟩
 ·obtain⟨v, h1, h2⟩ := R.val i w e;exact⟨v,h1,h2.mono s⟩
 ·refine aG fun Gg qG => ?_;obtain⟨a,vs,ws,h1,h2,h3,h4,h5⟩:=R.own i w e;ac_rfl;exact⟨a,vs,ws,h1,h2,by rw[upd_ne (ne a _ h3)];exact h3,by rw[upd_ne (ne a _ h3)];exact h4,h5.mono s⟩
 ·obtain⟨h1, h2, h3⟩ := R.prt q o2 hq;exact⟨by rw[upd_ne (ne _ _ h1)];exact h1,by rw[upd_ne (ne _ _ h1)];exact h2,h3⟩
theorem Out.close {r:W × Bool}{v:V} (R:Rel K F pr en σ H) (o:Out K F H r v H'):∃F',Same F F'/\Rel K F' pr en σ H'/\Res K F' H' pr en σ r v:=by
  cases o with
  | val r=>exact⟨F,.refl F,R,r⟩
  | @lst p ws vs n r =>
    refine⟨F,.refl F,R.lay n _,p,_,_,rfl,rfl,upd_same,R.sub.free n,.lst r,fun i w' e z=>?_,fun q o2 hq z=>?_⟩
    · obtain ⟨a, vs, ws, h1, h2, h3, h4, h5⟩ := R.own i w' e
      rw[h2] at z;cases z;rw[n] at h3;exact noSome h3
    · have := (R.prt q o2 hq).1
      rw[z,n] at this;exact noSome this
  | @tup p ws vs n r=>exact⟨upd F p (.tup vs),Same.new (R.sub.free n) _,R.layF n _,.tup upd_same (r.mono (Same.new (R.sub.free n) _))⟩
theorem Out.mono {r:W × Bool}{v:V}(s:Same F F')(o:Out K F H r v H'):Out K F' H r v H':=by
 cases o with
 | val r=>exact .val (r.mono s)
 | lst n r=>exact .lst n (r.mono s)
 | tup n r=>exact .tup n (r.mono s)
theorem Res.freeze {r:W × Bool}{v:V} (R:Rel K F pr en σ H) (h:Res K F H pr en σ r v):∃F',Same F F'/\Rel K F' pr en σ H/\Rep K F' r.1 v:=by
  obtain⟨w,b⟩:=r;cases b with
  | false=>exact⟨F,.refl F,R,h⟩
  | true =>
    nofun;obtain⟨a,vs,ws,rfl,rfl,h1,h2,h3,h4,h5⟩:=h;ac_rfl;have s:Same F (upd F a vs):=Same.new h2 _;have nt:∀ps,vs≠.tbl ps:=fun ps z=>by cases h3<;>cases z
    refine⟨upd F a vs,s,⟨R.len,fun b u e=>?_,fun i w e=>?_,fun i w e=>?_,R.inj,fun q o2 hq=>?_,R.tb.go (fun _ _ z=>z) (fun b ps e f=>⟨e,by rw[upd_ne (fun z=>by subst z;rw[h1] at e;exact nt ps (sI e))];exact f⟩) s fun b ps e h=>h⟩,(h3.mono s).rep upd_same⟩
    · by_cases hb : b = a
      · subst hb;rw[upd_same] at e;obtain rfl:=sI e;exact h1
      · rw[upd_ne hb] at e;exact R.sub _ _ e
    · obtain ⟨v, q1, q2⟩ := R.val i w e
      exact⟨v,q1,q2.mono s⟩
    · refine aG fun Gg qG => ?_
      obtain⟨a',vs',ws',q1,q2,q3,q4,q5⟩:=R.own i w e;ac_rfl;have ne:a'≠a:=fun z=>by subst z;exact h4 i w e q2
      exact⟨a',vs',ws',q1,q2,q3,by rw[upd_ne ne];exact q4,q5.mono s⟩
    · obtain ⟨q1, q2, q3⟩ := R.prt q o2 hq
      exact⟨q1,by rw[upd_ne (h5 q o2 hq)];exact q2,q3⟩
theorem Rel.freeze (R:Rel K F pr en σ H) {i:Nat}{w:W}{v:V}{fl:Bool} (e:en[i]?=some (some (w,fl))) (hv:σ[i]?=some (some v)):∃F',Same F F'/\Rel K F' pr (en.set i (some (w,false))) σ H/\Rep K F' w v:=by
  have hi:i < en.length:=(List.getElem?_eq_some_iff.mp e).1;cases fl with
  | false =>
    obtain⟨v',h1,h2⟩:=R.val i w e;rw[hv] at h1;cases h1;refine⟨F,.refl F,?_,h2⟩;rw[zw9 e];exact R
  | true =>
    nofun;obtain⟨a,vs,ws,e0,h2,h3,h4,h5⟩:=R.own i w e;ac_rfl;subst e0;rw[hv] at h2;cases h2;have s:Same F (upd F a vs):=Same.new h4 _;have nt:∀ps,vs≠.tbl ps:=fun ps z=>by cases h5<;>cases z
    have g:∀j w' b,(en.set i (some (w,false)))[j]?=some (some (w',b))->(j=i/\w'=w/\b=false)\/(j≠i/\en[j]?=some (some (w',b))):=fun j w' b h=>by
      rcases zb7 hi h with ⟨z,q⟩ | z
      · cases q;exact .inl ⟨z,rfl,rfl⟩
      · exact .inr z
    refine⟨upd F a vs,s,⟨by rw[List.length_set];exact R.len,fun b u e'=>?_,fun j w' e'=>?_,fun j w' e'=>?_,fun j k b w1 w2 e1 e2=>?_,fun q o2 hq=>?_,R.tb.go (fun _ _ z=>z) (fun b ps e f=>⟨e,by rw[upd_ne (fun z=>by subst z;rw[h3] at e;exact nt ps (sI e))];exact f⟩) s fun b ps e h=>h⟩,(h5.mono s).rep upd_same⟩
    · by_cases hb : b = a
      · subst hb;rw[upd_same] at e';obtain rfl:=sI e';exact h3
      · rw[upd_ne hb] at e';exact R.sub _ _ e'
    · rcases g j w' false e' with ⟨rfl, rfl, _⟩ | ⟨_, z⟩
      · exact⟨_,hv,(h5.mono s).rep upd_same⟩
      · obtain ⟨v', q1, q2⟩ := R.val j w' z
        exact⟨v',q1,q2.mono s⟩
    · rcases g j w' true e' with ⟨_, _, z⟩ | ⟨ne, z⟩
      · cases z
      · refine aG fun Gg qG => ?_
        obtain⟨a',vs',ws',q1,q2,q3,q4,q5⟩:=R.own j w' z;ac_rfl;have ne2:a'≠a:=fun q=>by subst q;exact ne (R.inj j i a' _ _ z e q2 hv)
        exact⟨a',vs',ws',q1,q2,q3,by rw[upd_ne ne2];exact q4,q5.mono s⟩
    · rcases g j w1 true e1 with ⟨_, _, z⟩ | ⟨_, z1⟩
      · cases z
      · rcases g k w2 true e2 with ⟨_, _, z⟩ | ⟨_, z2⟩
        · cases z
        · exact R.inj j k b _ _ z1 z2
    · obtain ⟨q1, q2, q3⟩ := R.prt q o2 hq
      have ne:q≠a:=fun z=>by
        have:=q3 i _ e;rw[hv,z] at this;exact this rfl
      refine⟨q1,by rw[upd_ne ne];exact q2,fun j w' e'=>?_⟩;rcases g j w' true e' with ⟨_,_,z⟩ | ⟨_,z⟩
      · cases z
      · exact q3 j w' z
theorem Rel.repB (R:Rel K F pr en σ H) {i:Nat}{w:W}{fl:Bool}{v:V} (e:en[i]?=some (some (w,fl))) (hv:σ[i]?=some (some v)):RepB K F H w v:=by
  cases fl with
  | false =>
    obtain⟨v',h1,h2⟩:=R.val i w e;rw[hv] at h1;cases h1;exact .inl h2
  | true =>
    nofun;obtain⟨a,o,ws,h1,h2,h3,h4,h5⟩:=R.own i w e;ac_rfl;rw[hv] at h2;cases h2;exact .inr ⟨a,o,ws,h1,rfl,h3,h5⟩
theorem Rel.has (R:Rel K F pr en σ H){i:Nat}{w:W}{fl:Bool}(e:en[i]?=some (some (w,fl))):∃v,σ[i]?=some (some v):=by
 cases fl with
 | false=>obtain⟨v,h,_⟩:=R.val i w e;exact⟨v,h⟩
 | true=>obtain⟨a,_,_,_,h,_⟩:=R.own i w e;exact⟨_,h⟩
theorem Rel.store (R:Rel K F pr en σ H){i:Nat}{r:W × Bool}{v:V}(h:Res K F H pr en σ r v)(hi:i < en.length):Rel K F pr (en.set i (some r)) (σ.set i (some v)) H:=by
 have hi' : i < σ.length:=by rw[<-R.len];exact hi
 have g:∀j x,(en.set i (some r))[j]?=some (some x)->(j=i/\x=r)\/(j≠i/\en[j]?=some (some x)):=fun j x h=>by
  rcases zb7 hi h with ⟨z,q⟩ | z
  ·obtain rfl:=sI q;exact .inl ⟨z,rfl⟩
  ·exact .inr z
 have s1:(σ.set i (some v))[i]?=some (some v):=List.getElem?_set_self hi';have s2:∀j,j≠i->(σ.set i (some v))[j]?=σ[j]?:=fun j hj=>List.getElem?_set_ne (Ne.symm hj);refine⟨by rw[List.length_set,List.length_set];exact R.len,R.sub,fun j w e=>?_,fun j w e=>?_,fun j k a w1 w2 e1 e2=>?_,fun q o2 hq=>?_,R.tb⟩
 ·rcases g j _ e with ⟨rfl, z⟩ | ⟨hj, z⟩
  ·subst z;exact⟨v,s1,h⟩
  ·rw[s2 j hj];exact R.val j w z
 ·rcases g j _ e with ⟨rfl, z⟩ | ⟨hj, z⟩
  ·subst z;obtain⟨a,vs,ws,h1,h2,h3,h4,h5,_⟩:=h;exact⟨a,vs,ws,h1,by rw[s1,h2],h3,h4,h5⟩
  ·rw[s2 j hj];exact R.own j w z
 ·intro q1 q2;rcases g j _ e1 with ⟨rfl,z1⟩ | ⟨hj,z1⟩
  ·rcases g k _ e2 with ⟨rfl, z2⟩ | ⟨hk, z2⟩
   ·rfl
   ·subst z1;obtain⟨a',vs,ws,h1,h2,h3,h4,h5,h6,_⟩:=h;rw[s1,h2] at q1;cases q1;rw[s2 k hk] at q2;exact absurd q2 (h6 k _ z2)
  ·rcases g k _ e2 with ⟨rfl, z2⟩ | ⟨hk, z2⟩
   ·subst z2;obtain⟨a',vs,ws,h1,h2,h3,h4,h5,h6,_⟩:=h;rw[s1,h2] at q2;cases q2;rw[s2 j hj] at q1;exact absurd q1 (h6 j _ z1)
   ·rw[s2 j hj] at q1; rw[s2 k hk] at q2;exact R.inj j k a _ _ z1 z2 q1 q2
 ·obtain⟨q1, q2, q3⟩ := R.prt q o2 hq;refine⟨q1,q2,fun j w e=>?_⟩;rcases g j _ e with ⟨rfl,z⟩ | ⟨hj,z⟩
  ·subst z;obtain⟨a',vs,ws,h1,h2,h3,h4,h5,h6,h7⟩:=h;rw[s1,h2];intro q';cases q';exact h7 q o2 hq rfl
  ·rw[s2 j hj];exact q3 j w z
theorem Rel.changeO (R:Rel K F pr en σ H){i:Nat}{w w0:W}{a:Addr}{o0:HO}(e:en[i]?=some (#v[w,5]))(hv:σ[i]?=some (some (.ref a)))(r:OwnR K F w0 o0):Rel K F pr (en.set i (#v[w0,5])) σ (upd H a o0):=by
 have hi:i < en.length:=(List.getElem?_eq_some_iff.mp e).1;nofun;obtain⟨a0,vs,ws,h1,h2,h3,h4,h5⟩:=R.own i w e;ac_rfl;rw[hv] at h2;cases h2;have nt:∀ps,vs≠.tbl ps:=fun ps z=>by cases h5<;>cases z
 have nx:∀φ,vs≠.ext φ:=fun ps z=>by cases h5<;>cases z
 have g:∀j x,(en.set i (#v[w0,5]))[j]?=some (some x)->(j=i/\x=(w0,true))\/(j≠i/\en[j]?=some (some x)):=fun j x h=>by
  rcases zb7 hi h with ⟨z,q⟩ | z
  ·obtain rfl:=sI q;exact .inl ⟨z,rfl⟩
  ·exact .inr z
 refine⟨by rw[List.length_set];exact R.len,fun b u hb=>?_,fun j w' e'=>?_,fun j w' e'=>?_,fun j k b w1 w2 e1 e2 q1 q2=>?_,fun q o2 hq=>?_,R.tb.go (fun _ _ z=>z) (fun b ps e f=>⟨by rw[upd_ne (fun z=>by subst z;rw[h3] at e;exact nt ps (sI e))];exact e,f⟩) (.refl F) fun b ps e h=>h⟩
 ·have : b ≠ a := fun z => by subst z; rw[h4] at hb; cases hb
  rw[upd_ne this];exact R.sub _ _ hb
 ·rcases g j _ e' with ⟨_, z⟩ | ⟨_, z⟩
  ·cases z
  ·exact R.val j w' z
 ·rcases g j _ e' with ⟨rfl, z⟩ | ⟨hj, z⟩
  ·cases z;exact⟨a,o0,w0,rfl,hv,upd_same,h4,r⟩
  ·refine aG fun Gg qG => ?_;obtain⟨a',vs2,ws2,q1,q2,q3,q4,q5⟩:=R.own j w' z;ac_rfl;have ne:a'≠a:=fun z'=>by subst z';exact hj (R.inj j i a' _ _ z e q2 hv)
   exact⟨a',vs2,ws2,q1,q2,by rw[upd_ne ne];exact q3,q4,q5⟩
 ·have z1:∃w0,en[j]?=some (some (w0,true)):=by
   rcases g j _ e1 with ⟨rfl,_⟩ | ⟨_,z⟩
   ·exact⟨_,e⟩
   ·exact⟨_,z⟩
  have z2:∃w0,en[k]?=some (#v[w0,5]):=by
   rcases g k _ e2 with ⟨rfl,_⟩ | ⟨_,z⟩
   ·exact⟨_,e⟩
   ·exact⟨_,z⟩
  obtain⟨_,z1⟩:=z1;obtain⟨_,z2⟩:=z2;exact R.inj j k b _ _ z1 z2 q1 q2
 ·obtain ⟨q1, q2, q3⟩ := R.prt q o2 hq;have ne:q≠a:=fun z=>by
   have:=q3 i _ e;rw[hv,z] at this;exact this rfl
  refine⟨by rw[upd_ne ne];exact q1,q2,fun j w' e'=>?_⟩;rcases g j _ e' with ⟨rfl,_⟩ | ⟨_,z⟩
  ·exact q3 j _ e
  ·exact q3 j w' z
theorem Rel.change (R:Rel K F pr en σ H){i:Nat}{w:W}{a:Addr}{ws' : List W}{vs' : List V}(e:en[i]?=some (#v[w,5]))(hv:σ[i]?=some (some (.ref a)))(r:Reps K F ws' vs'):Rel K F pr (en.set i (#v[ws',2])) σ (upd H a (.lst vs')):=R.changeO e hv (.lst r)
theorem Rel.ownL (R:Rel K F pr en σ H){i:Nat}{ws:List W}(e:en[i]?=some (#v[ws,2])):∃(a:Addr) (vs:List V) (ws' : List W),W.lst ws=.lst ws'/\σ[i]?=some (some (V.ref a))/\H a=some (.lst vs)/\F a=none/\Reps K F ws' vs:=by
 nofun;obtain⟨a,o,w',e1,h2,h3,h4,h5⟩:=R.own i _ e;ac_rfl;subst e1;obtain⟨vs,rfl,r⟩:=h5.list;exact⟨a,vs,ws,rfl,h2,h3,h4,r⟩
end
end L2
namespace L2
open PySem PySem.Spec PyProof.Rows
noncomputable abbrev GE:=En->Option (En × (W × Bool))
noncomputable abbrev GA:=En->Option (En × (W ⊕ Nat))
noncomputable abbrev GT:=En->Option (En × Bool)
noncomputable abbrev GAs:=En->Option (En × List (W ⊕ Nat))
noncomputable abbrev GL:=En->Option (En × List W)
noncomputable def ArgR (K:PySem.W.Frag) (F:Hp) (σ:St):W ⊕ Nat->V->Prop
 | .inl w,v=>Rep K F w v
 | .inr i,v=>σ[i]?=some (some v)
inductive ArgRs (K:PySem.W.Frag) (F:Hp) (σ:St):List (W ⊕ Nat)->List V->Prop where
 | nil:ArgRs K F σ [] []
 | cons {x:W ⊕ Nat}{v:V}{xs:List (W ⊕ Nat)}{vs:List V} (h:ArgR K F σ x v) (r:ArgRs K F σ xs vs):ArgRs K F σ (x::xs) (v::vs)
noncomputable def resA (en:En):W ⊕ Nat->Option W
  | .inl w=>some w
  | .inr i=>match en[i]? with
    | some (some (w,_))=>some w
    | _=>none
section
variable {K:PySem.W.Frag}{F F' H:Hp}{pr:Prt}{en:En}{σ:St}
theorem ArgR.mono (s:Same F F'){x:W ⊕ Nat}{v:V}(h:ArgR K F σ x v):ArgR K F' σ x v:=by
 cases x with
 | inl w=>exact Rep.mono s h
 | inr i=>exact h
theorem ArgR.repB (R:Rel K F pr en σ H) {x:W ⊕ Nat}{v:V}{w:W} (h:ArgR K F σ x v) (e:resA en x=some w):RepB K F H w v:=by
  cases x with
  | inl u=>obtain rfl:=sI e;exact .inl h
  | inr i =>
    unfold resA at e;cases q:en[i]? with
    | none=>simp only [q] at e;exact noSome e
    | some o =>
      cases o with
      | none=>simp only [q] at e;exact noSome e
      | some p =>
        obtain⟨u,fl⟩:=p;simp only [q] at e;obtain rfl:=sI e;exact R.repB q h
end
noncomputable def tE (K:PySem.W.Frag) (g:GE):TE:=fun σ H Q=>∃F pr en en' r,Rel K F pr en σ H/\g en=some (en',r)/\∀F' H' v,Same F F'->Rel K F' pr en' σ H'->Res K F' H' pr en' σ r v->Q v H'
noncomputable def tA (K:PySem.W.Frag) (g:GA):TE:=fun σ H Q=>∃F pr en en' x,Rel K F pr en σ H/\g en=some (en',x)/\∀F' H' v,Same F F'->Rel K F' pr en' σ H'->ArgR K F' σ x v->Q v H'
noncomputable def tT (K:PySem.W.Frag) (g:GT):TT:=fun σ H Q=>∃F pr en en' b,Rel K F pr en σ H/\g en=some (en',b)/\∀F' H',Same F F'->Rel K F' pr en' σ H'->Q b H'
noncomputable def tAs (K:PySem.W.Frag) (g:GAs):TA:=fun σ H Q=>∃F pr en en' xs,Rel K F pr en σ H/\g en=some (en',xs)/\∀F' H' vs,Same F F'->Rel K F' pr en' σ H'->ArgRs K F' σ xs vs->Q vs H'
theorem PE.wk {X:Cx}{e:Expr}{t t' : TE}(h:PE X e t)(i:∀σ H Q,t' σ H Q->t σ H Q):PE X e t':=fun pins s σ H Q I q=>h pins s σ H Q I (i σ H Q q)
theorem PT.wk {X:Cx}{e:Expr}{t t' : TT}(h:PT X e t)(i:∀σ H Q,t' σ H Q->t σ H Q):PT X e t':=fun pins s σ H Q I q=>h pins s σ H Q I (i σ H Q q)
theorem PW.wk {X:Cx}{e:Expr}{t t' : TT}(h:PW X e t)(i:∀σ H Q,t' σ H Q->t σ H Q):PW X e t':=fun wh pins s σ H Q I q=>h wh pins s σ H Q I (i σ H Q q)
theorem PA.wk {X:Cx}{es:List Expr}{t t' : TA}(h:PA X es t)(i:∀σ H Q,t' σ H Q->t σ H Q):PA X es t':=fun pos pins s σ H Q I q=>h pos pins s σ H Q I (i σ H Q q)
theorem PS.wk {X:Cx}{st:Stmt}{t t' : TS}(h:PS X st t)(i:∀D σ H,t' D σ H->t D σ H):PS X st t':=fun pins s σ H D I q=>h pins s σ H D I (i D σ H q)
theorem PSs.wk {X:Cx}{st:List Stmt}{t t' : TS}(h:PSs X st t)(i:∀D σ H,t' D σ H->t D σ H):PSs X st t':=fun pins s σ H D I q=>h pins s σ H D I (i D σ H q)
theorem PI.wk {X:Cx}{tg e:Expr}{t t' : TI}(h:PI X tg e t)(i:∀σ H R,t' σ H R->t σ H R):PI X tg e t':=fun pins s σ H R I q=>h pins s σ H R I (i σ H R q)
noncomputable def gVar (i:Nat):GE:=fun en=>match en[i]? with
 | some (some (w,_))=>some (en.set i (#v[w,6]),(w,false))
 | _=>none
noncomputable def zaa (i:Nat):GA:=fun en=>match en[i]? with
 | some (#v[w,5])=>some (en,.inr i)
 | some (#v[w,6])=>some (en,.inl w)
 | _=>none
noncomputable def gC (w:W):GE:=fun en=>some (en,(w,false))
noncomputable def gArg (g:GE):GA:=fun en=>(g en).bind fun p=>some (p.1,.inl p.2.1)
noncomputable def gA0:GAs:=fun en=>some (en,[])
noncomputable def gCns (a:GA) (as:GAs):GAs:=fun en=>(a en).bind fun p=>(as p.1).bind fun q=>some (q.1,p.2::q.2)
noncomputable def gOp1 (o:W->Option (W × Bool)) (a:GA):GE:=fun en=>(a en).bind fun p=>(resA p.1 p.2).bind fun w=>(o w).bind fun r=>some (p.1,r)
noncomputable def gOp2 (o:W->W->Option (W × Bool)) (a b:GA):GE:=fun en=>(a en).bind fun p=>(b p.1).bind fun q=>(resA q.1 p.2).bind fun w=>(resA q.1 q.2).bind fun u=>(o w u).bind fun r=>some (q.1,r)
noncomputable def zar (en:En):List (W ⊕ Nat)->Option (List W)
 | []=>some []
 | x::xs=>(resA en x).bind fun w=>(zar en xs).bind fun ws=>some (w::ws)
noncomputable def gOpN (o:List W->Option (W × Bool)) (as:GAs):GE:=fun en=>(as en).bind fun p=>(zar p.1 p.2).bind fun ws=>(o ws).bind fun r=>some (p.1,r)
noncomputable def zak (g:GE):GT:=fun en=>match g en with
 | some (en',(.bl b,_))=>some (en',b)
 | _=>none
noncomputable def gAnd (a b:GE):GE:=fun en=>match a en with
 | some (en',(.bl true,_))=>b en'
 | some (en',(.bl false,_))=>some (en',(.bl false,false))
 | _=>none
noncomputable def gOr (a b:GE):GE:=fun en=>match a en with
 | some (en',(.bl true,_))=>some (en',(.bl true,false))
 | some (en',(.bl false,_))=>b en'
 | _=>none
noncomputable def gNot (a:GE):GE:=fun en=>match a en with
 | some (en',(.bl b,_))=>some (en',(.bl (!b),false))
 | _=>none
noncomputable def zgt (a b:GT):GT:=fun en=>match a en with
 | #v[en',5]=>b en'
 | #v[en',6]=>#v[en',6]
 | none=>none
noncomputable def gOrT (a b:GT):GT:=fun en=>match a en with
 | #v[en',5]=>#v[en',5]
 | #v[en',6]=>b en'
 | none=>none
noncomputable def zml (a:GT):GT:=fun en=>match a en with
 | some (en',b)=>some (en',!b)
 | none=>none
noncomputable def gIf (c:GT) (a b:GE):GE:=fun en=>match c en with
 | #v[en',5]=>a en'
 | #v[en',6]=>b en'
 | none=>none
section
variable {K:PySem.W.Frag}{σ:St}{H:Hp}
theorem zvn {i:Nat}{Q:VK} (h:tE K (gVar i) σ H Q):tVar i σ H Q:=by
  obtain⟨F,pr,en,en',r,R,h,q⟩:=h;unfold gVar at h;cases e:en[i]? with
  | none=>simp only [e] at h;exact noSome h
  | some o =>
    cases o with
    | none=>simp only [e] at h;exact noSome h
    | some p =>
      obtain⟨w,fl⟩:=p;simp only [e] at h;cases h;obtain⟨v,hv⟩:=R.has e;obtain⟨F',s,R',z⟩:=R.freeze e hv;exact⟨v,hv,q F' H v s R' z⟩
theorem zqr {i:Nat}{Q:VK} (h:tA K (zaa i) σ H Q):tVar i σ H Q:=by
  obtain⟨F,pr,en,en',r,R,h,q⟩:=h;unfold zaa at h;cases e:en[i]? with
  | none=>simp only [e] at h;exact noSome h
  | some o =>
    cases o with
    | none=>simp only [e] at h;exact noSome h
    | some p =>
      obtain⟨w,fl⟩:=p;cases fl with
      | true =>
        simp only [e] at h;cases h;obtain⟨v,hv⟩:=R.has e;exact⟨v,hv,q F H v (.refl F) R hv⟩
      | false =>
        simp only [e] at h;cases h;obtain⟨v,hv,z⟩:=R.val i w e;exact⟨v,hv,q F H v (.refl F) R z⟩
theorem zdr {w:W}{v:V}{Q:VK}(hr:∀F,Rep K F w v)(h:tE K (gC w) σ H Q):tC v σ H Q:=by
 obtain⟨F,pr,en,en',r,R,h,q⟩:=h;cases h;exact q F H v (.refl F) R (hr F)
theorem zhg {g:GE}{Q:VK}(h:tA K (gArg g) σ H Q):tE K g σ H Q:=by
 obtain⟨F,pr,en,en',x,R,h,q⟩:=h;obtain⟨⟨e1,r⟩,h1,h⟩:=bS h;cases h;refine⟨F,pr,en,e1,r,R,h1,fun F1 H1 v s1 R1 z=>?_⟩;obtain⟨F2,s2,R2,y⟩:=z.freeze R1;exact q F2 H1 v (s1.trans s2) R2 y
theorem zn7 {Q:List V->Hp->Prop}(h:tAs K gA0 σ H Q):tNil σ H Q:=by
 obtain⟨F,pr,en,en',x,R,h,q⟩:=h;cases h;exact q F H [] (.refl F) R .nil
theorem znt {a:GA}{as:GAs}{Q:List V->Hp->Prop}(h:tAs K (gCns a as) σ H Q):tA K a σ H fun x H1=>tAs K as σ H1 fun xs H2=>Q (x::xs) H2:=by
 nofun;obtain⟨F,pr,en,en',x,R,h,q⟩:=h;obtain⟨⟨e1,y⟩,h1,h⟩:=bS h;obtain⟨⟨e2,ys⟩,h2,h⟩:=bS h;ac_rfl;cases h;exact⟨F,pr,en,e1,y,R,h1,fun F1 H1 v s1 R1 a1=>⟨F1,pr,e1,e2,ys,R1,h2,fun F2 H2 vs s2 R2 a2=>q F2 H2 (v::vs) (s1.trans s2) R2 (.cons (a1.mono s2) a2)⟩⟩
noncomputable def OpS (K:PySem.W.Frag) (r:R2) (o:W->W->Option (W × Bool)):Prop:=∀F H w1 w2 v1 v2 rv Q,Same F H->RepB K F H w1 v1->RepB K F H w2 v2->o w1 w2=some rv->(∀v H',Out K F H rv v H'->Q v H')->r v1 v2 H Q
theorem ze5 {r:R2}{o:W->W->Option (W × Bool)}{a b:GA}{Q:VK}(ho:OpS K r o)(h:tE K (gOp2 o a b) σ H Q):tOp r (tA K a) (tA K b) σ H Q:=by
 nofun;obtain⟨F,pr,en,en',rv,R,h,q⟩:=h;obtain⟨⟨e1,x1⟩,h1,h⟩:=bS h;obtain⟨⟨e2,x2⟩,h2,h⟩:=bS h;obtain⟨w1,hw1,h⟩:=bS h;obtain⟨w2,hw2,h⟩:=bS h;obtain⟨r',hr,h⟩:=bS h;ac_rfl;cases h;refine⟨F,pr,en,e1,x1,R,h1,fun F1 H1 v1 s1 R1 a1=>⟨F1,pr,e1,e2,x2,R1,h2,fun F2 H2 v2 s2 R2 a2=>?_⟩⟩;refine ho F2 H2 w1 w2 v1 v2 rv Q R2.sub ((a1.mono s2).repB R2 hw1) (a2.repB R2 hw2) hr fun v H' z=>?_;nofun;obtain⟨F3,s3,R3,y⟩:=z.close R2;ac_rfl;exact q F3 H' v (s1.trans (s2.trans s3)) R3 y
noncomputable def OpS1 (K:PySem.W.Frag) (r:V->Hp->VK->Prop) (o:W->Option (W × Bool)):Prop:=∀F H w v rv Q,Same F H->RepB K F H w v->o w=some rv->(∀u H',Out K F H rv u H'->Q u H')->r v H Q
theorem zxj {r:V->Hp->VK->Prop}{o:W->Option (W × Bool)}{a:GA}{Q:VK}(ho:OpS1 K r o)(h:tE K (gOp1 o a) σ H Q):tUn r (tA K a) σ H Q:=by
 nofun;obtain⟨F,pr,en,en',rv,R,h,q⟩:=h;obtain⟨⟨e1,x1⟩,h1,h⟩:=bS h;obtain⟨w1,hw1,h⟩:=bS h;obtain⟨r',hr,h⟩:=bS h;ac_rfl;cases h;refine⟨F,pr,en,e1,x1,R,h1,fun F1 H1 v1 s1 R1 a1=>?_⟩;refine ho F1 H1 w1 v1 rv Q R1.sub (a1.repB R1 hw1) hr fun v H' z=>?_;nofun;obtain⟨F3,s3,R3,y⟩:=z.close R1;ac_rfl;exact q F3 H' v (s1.trans s3) R3 y
inductive RepBs (K:PySem.W.Frag) (F H:Hp):List W->List V->Prop where
 | nil:RepBs K F H [] []
 | cons {w:W}{v:V}{ws:List W}{vs:List V} (h:RepB K F H w v) (r:RepBs K F H ws vs):RepBs K F H (w::ws) (v::vs)
theorem ArgRs.repBs {F:Hp}{pr:Prt}{en:En} (R:Rel K F pr en σ H):∀{xs:List (W ⊕ Nat)}{vs:List V}{ws:List W},ArgRs K F σ xs vs->zar en xs=some ws->RepBs K F H ws vs
  | _,_,_,.nil,e=>by obtain rfl:=sI e;exact .nil
  | _,_,_,.cons h r,e=>by
    obtain⟨w,hw,e⟩:=bS e;obtain⟨ws,hws,e⟩:=bS e;obtain rfl:=sI e;exact .cons (h.repB R hw) (ArgRs.repBs R r hws)
noncomputable def OpSN (K:PySem.W.Frag) (r:List V->Hp->VK->Prop) (o:List W->Option (W × Bool)):Prop:=∀F H ws vs rv Q,Same F H->RepBs K F H ws vs->o ws=some rv->(∀u H',Out K F H rv u H'->Q u H')->r vs H Q
theorem zn2 {r:List V->Hp->VK->Prop}{o:List W->Option (W × Bool)}{as:GAs}{Q:VK}(ho:OpSN K r o)(h:tE K (gOpN o as) σ H Q):tCB r (tAs K as) σ H Q:=by
 nofun;obtain⟨F,pr,en,en',rv,R,h,q⟩:=h;obtain⟨⟨e1,x1⟩,h1,h⟩:=bS h;obtain⟨w1,hw1,h⟩:=bS h;obtain⟨r',hr,h⟩:=bS h;ac_rfl;cases h;refine⟨F,pr,en,e1,x1,R,h1,fun F1 H1 v1 s1 R1 a1=>?_⟩;refine ho F1 H1 w1 v1 rv Q R1.sub (a1.repBs R1 hw1) hr fun v H' z=>?_;nofun;obtain⟨F3,s3,R3,y⟩:=z.close R1;ac_rfl;exact q F3 H' v (s1.trans s3) R3 y
theorem Res.isBl {F H:Hp}{pr:Prt}{en:En}{σ:St}{b fl:Bool}{v:V}(h:Res K F H pr en σ (.bl b,fl) v):v=.bl b:=by
 cases fl with
 | false=>cases (show Rep K F (.bl b) v from h);rfl
 | true=>obtain⟨_,_,_,e,_,_,_,q,_⟩:=h;subst e;cases q
theorem zjk {g:GE}{t:TE}{Q:Bool->Hp->Prop} (ht:∀σ H Q,tE K g σ H Q->t σ H Q) (h:tT K (zak g) σ H Q):z5i t σ H Q:=by
  obtain⟨F,pr,en,en',b,R,h,q⟩:=h;unfold zak at h;refine ht σ H _ ?_;cases e:g en with
  | none=>simp only [e] at h;exact noSome h
  | some p =>
    obtain⟨e1,w,fl⟩:=p;cases w with
    | bl c=>simp only [e] at h;cases h;exact⟨F,pr,en,_,_,R,e,fun F' H' v s' R' z=>⟨b,z.isBl,q F' H' s' R'⟩⟩
    | _=>simp only [e] at h;exact noSome h
theorem zvm {a b:GE}{Q:VK} (h:tE K (gAnd a b) σ H Q):z46 (tE K a) (tE K b) σ H Q:=by
  nofun;obtain⟨F,pr,en,en',r,R,h,q⟩:=h;ac_rfl;unfold gAnd at h;cases e:a en with
  | none=>simp only [e] at h;exact noSome h
  | some p =>
    obtain⟨e1,w,fl⟩:=p;cases w with
    | bl c =>
      refine⟨F,pr,en,_,_,R,e,fun F1 H1 v s1 R1 z=>⟨c,z.isBl,?_⟩⟩;cases c with
      | true =>
        simp only [e] at h;exact iteT ⟨F1,pr,e1,en',r,R1,h,fun F2 H2 v s2 R2 z2=>q F2 H2 v (s1.trans s2) R2 z2⟩
      | false =>
        simp only [e] at h;cases h;exact iteF (q F1 H1 _ s1 R1 (.bl false))
    | _=>simp only [e] at h;exact noSome h
theorem zt4 {a b:GT}{Q:Bool->Hp->Prop} (h:tT K (zgt a b) σ H Q):tAnd (tT K a) (tT K b) σ H Q:=by
  nofun;obtain⟨F,pr,en,en',r,R,h,q⟩:=h;ac_rfl;unfold zgt at h;cases e:a en with
  | none=>simp only [e] at h;exact noSome h
  | some p =>
    obtain⟨e1,c⟩:=p;refine⟨F,pr,en,_,_,R,e,fun F1 H1 s1 R1=>?_⟩;cases c with
    | true=>simp only [e] at h;exact iteT ⟨F1,pr,e1,en',r,R1,h,fun F2 H2 s2 R2=>q F2 H2 (s1.trans s2) R2⟩
    | false=>simp only [e] at h;cases h;exact iteF (q F1 H1 s1 R1)
theorem zxo {a b:GT}{Q:Bool->Hp->Prop} (h:tT K (gOrT a b) σ H Q):tOr (tT K a) (tT K b) σ H Q:=by
  nofun;obtain⟨F,pr,en,en',r,R,h,q⟩:=h;ac_rfl;unfold gOrT at h;cases e:a en with
  | none=>simp only [e] at h;exact noSome h
  | some p =>
    obtain⟨e1,c⟩:=p;refine⟨F,pr,en,_,_,R,e,fun F1 H1 s1 R1=>?_⟩;cases c with
    | false=>simp only [e] at h;exact iteF ⟨F1,pr,e1,en',r,R1,h,fun F2 H2 s2 R2=>q F2 H2 (s1.trans s2) R2⟩
    | true=>simp only [e] at h;cases h;exact iteT (q F1 H1 s1 R1)
theorem zr3 {a:GT}{Q:Bool->Hp->Prop} (h:tT K (zml a) σ H Q):tNot (tT K a) σ H Q:=by
  obtain⟨F,pr,en,en',r,R,h,q⟩:=h;unfold zml at h;cases e:a en with
  | none=>simp only [e] at h;exact noSome h
  | some p =>
    obtain⟨e1,c⟩:=p;simp only [e] at h;cases h;exact⟨F,pr,en,_,_,R,e,fun F1 H1 s1 R1=>q F1 H1 s1 R1⟩
theorem z2f {c:GT}{a b:GE}{Q:VK} (h:tE K (gIf c a b) σ H Q):tIf (tT K c) (tE K a) (tE K b) σ H Q:=by
  nofun;obtain⟨F,pr,en,en',r,R,h,q⟩:=h;ac_rfl;unfold gIf at h;cases e:c en with
  | none=>simp only [e] at h;exact noSome h
  | some p =>
    obtain⟨e1,d⟩:=p;refine⟨F,pr,en,_,_,R,e,fun F1 H1 s1 R1=>?_⟩;cases d with
    | true=>simp only [e] at h;exact iteT ⟨F1,pr,e1,en',r,R1,h,fun F2 H2 v s2 R2 z=>q F2 H2 v (s1.trans s2) R2 z⟩
    | false=>simp only [e] at h;exact iteF ⟨F1,pr,e1,en',r,R1,h,fun F2 H2 v s2 R2 z=>q F2 H2 v (s1.trans s2) R2 z⟩
end
noncomputable def zba:List (W ⊕ Nat)->Option (List W)
 | []=>some []
 | .inl w::xs=>(zba xs).bind fun ws=>some (w::ws)
 | .inr _::_=>none
theorem ArgRs.reps {K:PySem.W.Frag}{F:Hp}{σ:St}:∀{xs:List (W ⊕ Nat)}{vs:List V}{ws:List W},ArgRs K F σ xs vs->zba xs=some ws->Reps K F ws vs
  | _,_,_,.nil,e=>by obtain rfl:=sI e;exact .nil
  | .inl w::xs,_,_,.cons h r,e=>by
    obtain⟨ws,hws,e⟩:=bS (show (zba xs).bind _=_ from e);obtain rfl:=sI e;exact .cons h (ArgRs.reps r hws)
  | .inr i::xs,_,_,.cons h r,e=>by exact noSome e
noncomputable def zgg (as:GAs):GE:=fun en=>(as en).bind fun p=>(zba p.2).bind fun ws=>if ws.length<=sizeLine then some (p.1,(.tup ws,false)) else none
noncomputable def zas (as:GAs):GE:=fun en=>(as en).bind fun p=>(zba p.2).bind fun ws=>if ws.length<=sizeLine then some (p.1,(.lst ws,true)) else none
section
variable {K:PySem.W.Frag}{σ:St}{H:Hp}
theorem zv4 {as:GAs}{Q:VK}(h:tE K (zgg as) σ H Q):tTup (tAs K as) σ H Q:=by
 obtain⟨F,pr,en,en',r,R,h,q⟩:=h;obtain⟨⟨e1,xs⟩,h1,h⟩:=bS h;obtain⟨ws,h2,h⟩:=bS h;split at h
 ·rename_i hz;cases h;refine⟨F,pr,en,e1,xs,R,h1,fun F1 H1 vs s1 R1 a1=>?_⟩;have rr:=a1.reps h2;refine⟨by rw[<-rr.length];exact hz,fun p hp=>?_⟩;obtain⟨F2,s2,R2,z⟩:=(Out.tup (K:=K) hp rr).close R1;exact q F2 _ _ (s1.trans s2) R2 z
 ·exact noSome h
theorem zxl {as:GAs}{Q:VK}(h:tE K (zas as) σ H Q):tLst (tAs K as) σ H Q:=by
 nofun;obtain⟨F,pr,en,en',r,R,h,q⟩:=h;obtain⟨⟨e1,xs⟩,h1,h⟩:=bS h;obtain⟨ws,h2,h⟩:=bS h;ac_rfl;split at h
 ·rename_i hz;cases h;refine⟨F,pr,en,e1,xs,R,h1,fun F1 H1 vs s1 R1 a1=>?_⟩;have rr:=a1.reps h2;refine⟨by rw[<-rr.length];exact hz,fun p hp=>?_⟩;nofun;obtain⟨F2,s2,R2,z⟩:=(Out.lst (K:=K) hp rr).close R1;ac_rfl;exact q F2 _ _ (s1.trans s2) R2 z
 ·exact noSome h
noncomputable def z37 (o o' : W->W->Option (W × Bool)) (a b c:GA):GE:=fun en=>(a en).bind fun p=>(b p.1).bind fun q=>(resA q.1 p.2).bind fun w=>(resA q.1 q.2).bind fun u=>match o w u with
 | some (.bl true,false)=>(c q.1).bind fun t=>(resA t.1 q.2).bind fun u'=>(resA t.1 t.2).bind fun z=>(o' u' z).bind fun r=>some (t.1,r)
 | some (.bl false,false)=>some (q.1,(.bl false,false))
 | _=>none
end
section
variable {K:PySem.W.Frag}{F H:Hp}{v:V}
theorem RepB.int {i:Int}(h:RepB K F H (.int i) v):v=.int i:=by
 rcases h with h | ⟨_,_,_,e,_,_,q⟩
 ·cases h;rfl
 ·subst e;cases q
theorem RepB.bl {b:Bool}(h:RepB K F H (.bl b) v):v=.bl b:=by
 rcases h with h | ⟨_,_,_,e,_,_,q⟩
 ·cases h;rfl
 ·subst e;cases q
theorem RepB.str {x:Str}(h:RepB K F H (.str x) v):v=.str x:=by
 rcases h with h | ⟨_,_,_,e,_,_,q⟩
 ·cases h;rfl
 ·subst e;cases q
theorem RepB.non (h:RepB K F H .non v):v=.non:=by
 rcases h with h | ⟨_,_,_,e,_,_,q⟩
 ·cases h;rfl
 ·subst e;cases q
theorem RepB.lst {ws:List W}(s:Same F H)(h:RepB K F H (.lst ws) v):∃a vs,v=.ref a/\H a=some (.lst vs)/\Reps K F ws vs:=by
 rcases h with h | ⟨a,o,ws',e,e2,h,r⟩
 ·cases h with
  | lst h r=>exact⟨_,_,rfl,s _ _ h,r⟩
 ·subst e;obtain⟨vs,rfl,r'⟩:=r.list;exact⟨a,vs,e2,h,r'⟩
theorem RepB.tup {ws:List W}(s:Same F H)(h:RepB K F H (.tup ws) v):∃a vs,v=.ref a/\H a=some (.tup vs)/\F a=some (.tup vs)/\Reps K F ws vs:=by
 rcases h with h | ⟨_,_,_,e,_,_,q⟩
 ·cases h with
  | tup h r=>exact⟨_,_,rfl,s _ _ h,h,r⟩
 ·subst e;cases q
theorem RepB.frl {ws:List W}(s:Same F H)(h:RepB K F H (.frl ws) v):∃a vs,v=.ref a/\SqL K H a vs/\Reps K F ws vs:=by
 rcases h with h | ⟨_,_,_,e,_,_,q⟩
 ·cases h with
  | frl h r=>exact⟨_,_,rfl,s.seq h,r⟩
 ·subst e;cases q
noncomputable def seqL:W->Option (List W)
 | .lst ws=>some ws
 | .frl ws=>some ws
 | _=>none
noncomputable def seqW:W->Option (List W)
 | .lst ws=>some ws
 | .frl ws=>some ws
 | .tup ws=>some ws
 | _=>none
theorem RepB.seqL {w:W}{ws:List W}(s:Same F H)(h:RepB K F H w v)(e:L2.seqL w=some ws):∃a vs,v=.ref a/\SqL K H a vs/\Reps K F ws vs:=by
 cases w with
 | lst xs=>obtain rfl:=sI e;obtain⟨a,vs,e,h,r⟩:=h.lst s;exact⟨a,vs,e,SqL.of' h,r⟩
 | frl xs=>obtain rfl:=sI e;exact h.frl s
 | _=>exact noSome e
theorem RepB.seqW {w:W}{ws:List W}(s:Same F H)(h:RepB K F H w v)(e:L2.seqW w=some ws):∃a vs,v=.ref a/\(SqL K H a vs\/SqT K H a vs)/\Reps K F ws vs:=by
 cases w with
 | lst xs=>obtain rfl:=sI e;obtain⟨a,vs,e,h,r⟩:=h.lst s;exact⟨a,vs,e,.inl (SqL.of' h),r⟩
 | frl xs=>obtain rfl:=sI e;obtain⟨a,vs,e,h,r⟩:=h.frl s;exact⟨a,vs,e,.inl h,r⟩
 | tup xs=>obtain rfl:=sI e;obtain⟨a,vs,e,h,_,r⟩:=h.tup s;exact⟨a,vs,e,.inr (.inl (.inl h)),r⟩
 | _=>exact noSome e
end
noncomputable abbrev O2:=W->W->Option (W × Bool)
noncomputable def oI (c:Int->Int->Bool) (g:Int->Int->W):O2
 | .int i,.int j=>if c i j then #v[g i j,6] else none
 | _,_=>none
section
variable {K:PySem.W.Frag}
theorem zm6 {c:Int->Int->Bool}{C:Int->Int->Prop}{g:Int->Int->W}{g' : Int->Int->V} (hc:∀i j,c i j=true->C i j) (hg:∀F i j,Rep K F (g i j) (g' i j)):OpS K (rI C g') (oI c g):=fun F H w1 w2 v1 v2 rv Q s r1 r2 e q=>by
  cases w1 with
  | int i =>
    cases w2 with
    | int j =>
      unfold oI at e;simp only at e;split at e
      · rename_i z
        obtain rfl:=sI e;exact⟨i,j,r1.int,r2.int,hc i j z,q _ _ (.val (hg F i j))⟩
      · exact noSome e
    | _=>exact noSome e
  | _=>exact noSome e
theorem zea {g:Int->Int->W}{g' : Int->Int->V} (hg:∀F i j,Rep K F (g i j) (g' i j)):OpS K (rI0 g') (oI (fun _ _=>true) g):=fun F H w1 w2 v1 v2 rv Q s r1 r2 e q=>by
  cases w1 with
  | int i =>
    cases w2 with
    | int j=>obtain rfl:=sI e;exact⟨i,j,r1.int,r2.int,q _ _ (.val (hg F i j))⟩
    | _=>exact noSome e
  | _=>exact noSome e
theorem OpS.or {r r' : R2}{o o' : O2}(h:OpS K r o)(h' : OpS K r' o'):OpS K (fun x y H Q=>r x y H Q\/r' x y H Q) (fun a b=>match o a b with | some p=>some p | none=>o' a b):=fun F H w1 w2 v1 v2 rv Q s r1 r2 e q=>by
 cases z:o w1 w2 with
 | some p=>simp only [z] at e;obtain rfl:=sI e;exact .inl (h F H w1 w2 v1 v2 _ Q s r1 r2 z q)
 | none=>simp only [z] at e;exact .inr (h' F H w1 w2 v1 v2 _ Q s r1 r2 e q)
end
noncomputable def oOr (o o' : O2):O2:=fun a b=>match o a b with | some p=>some p | none=>o' a b
noncomputable def oCat:O2
 | .lst xs,.lst ys=>if xs.length+ys.length<=sizeLine then #v[(xs++ys),2] else none
 | _,_=>none
noncomputable def zu3:O2
 | .tup (x::xs),.tup ys=>if (x::xs).length+ys.length<=sizeLine then #v[(x::xs++ys),3] else none
 | _,_=>none
noncomputable def z1x:O2
 | .tup [],.tup ys=>#v[ys,3]
 | _,_=>none
noncomputable def zu9:O2
 | .str x,.str y=>if x.length+y.length<=sizeLine then some (.str (x++y),false) else none
 | _,_=>none
noncomputable def oRep:O2
 | .lst xs,.int k=>if -(2 ^ 63)<=k/\k < 2 ^ 63/\xs.length * k.toNat<=sizeLine then #v[(List.replicate k.toNat xs).flatten,2] else none
 | _,_=>none
section
variable {K:PySem.W.Frag}
theorem zzj:OpS K rCat oCat:=fun F H w1 w2 v1 v2 rv Q s r1 r2 e q=>by
  cases w1 with
  | lst xs =>
    cases w2 with
    | lst ys =>
      unfold oCat at e;simp only at e;split at e
      · rename_i z
        obtain rfl:=sI e;nofun;obtain⟨a,vs,e1,h1,p1⟩:=r1.lst s;obtain⟨b,us,e2,h2,p2⟩:=r2.lst s;ac_rfl;exact⟨a,b,vs,us,e1,e2,h1,h2,by rw[<-p1.length,<-p2.length];exact z,fun p hp=>q _ _ (.lst hp (p1.append p2))⟩
      · exact noSome e
    | _=>exact noSome e
  | _=>exact noSome e
theorem z07:OpS K rRep oRep:=fun F H w1 w2 v1 v2 rv Q s r1 r2 e q=>by
  cases w1 with
  | lst xs =>
    cases w2 with
    | int k =>
      unfold oRep at e;simp only at e;split at e
      · rename_i z
        obtain rfl:=sI e;obtain⟨a,vs,e1,h1,p1⟩:=r1.lst s;exact⟨a,k,vs,e1,r2.int,h1,z.1,z.2.1,by rw[<-p1.length];exact z.2.2,fun p hp=>q _ _ (.lst hp (p1.rep _))⟩
      · exact noSome e
    | _=>exact noSome e
  | _=>exact noSome e
theorem zv7:OpS K (z2z K) zu3:=fun F H w1 w2 v1 v2 rv Q s r1 r2 e q=>by
  cases w1 with
  | tup xs =>
    cases xs with
    | nil=>cases w2<;>exact noSome e
    | cons x xs =>
      cases w2 with
      | tup ys =>
        unfold zu3 at e;simp only at e;split at e
        · rename_i z
          obtain rfl:=sI e;nofun;obtain⟨a,vs,e1,h1,f1,p1⟩:=r1.tup s;obtain⟨b,us,e2,h2,f2,p2⟩:=r2.tup s;ac_rfl;refine⟨a,b,vs,us,e1,e2,.inl (.inl h1),.inl (.inl h2),?_,by rw[<-p1.length,<-p2.length];exact z,fun hu=>?_,fun _ p hp=>q _ _ (.tup hp (p1.append p2))⟩
          · intro e;subst e;cases p1
          · subst hu
            cases p2;rw[List.append_nil] at q;exact q _ _ (.val (.tup f1 p1))
        · exact noSome e
      | _=>exact noSome e
  | _=>exact noSome e
mutual
inductive DV (H:Hp):V->PyData->Prop where
 | non:DV H .non .none
 | bl (b:Bool):DV H (.bl b) (.bool b)
 | int (i:Int):DV H (.int i) (.int i)
 | str (x:Str):DV H (.str x) (.str x)
 | tup {a:Addr}{vs:List V}{ds:List PyData} (h:H a=some (.tup vs)) (r:DVs H vs ds):DV H (.ref a) (.tuple ds)
 | lst {a:Addr}{vs:List V}{ds:List PyData} (h:H a=some (.lst vs)) (r:DVs H vs ds):DV H (.ref a) (.list ds)
inductive DVs (H:Hp):List V->List PyData->Prop where
 | nil:DVs H [] []
 | cons {v:V}{d:PyData}{vs:List V}{ds:List PyData} (h:DV H v d) (r:DVs H vs ds):DVs H (v::vs) (d::ds)
end
section
variable {X:Cx}{pins:List (Addr × Obj)}{σ:St}{H:Hp}{s:Shared}
mutual
theorem DV.reads (I:Inv X pins σ H s):∀{v:V}{d:PyData}{u:Value},DV H v d->RelV v u->∃as,Reads s.heap u d as
  | _,_,_,.non,r=>by cases (show _=Value.none from r);exact⟨_,.none⟩
  | _,_,_,.bl b,r=>by cases (show _=Value.bool b from r);exact⟨_,.bool b⟩
  | _,_,_,.int i,r=>by obtain⟨t,e⟩:=(show ∃t,_=Value.int i t from r);subst e;exact⟨_,.int i t⟩
  | _,_,_,.str x,r=>by obtain⟨t,e⟩:=(show ∃t,_=Value.str x t from r);subst e;exact⟨_,.str x t⟩
  | _,_,_,.tup h q,r=>by
    cases r;obtain⟨its,rv,⟨o,e,c,n,dt⟩,_⟩:=I.tuple (.inl (.inl h));obtain⟨as,ra⟩:=DVs.reads I q rv;exact⟨as,.tuple e c dt (by simpa using ra)⟩
  | _,_,_,.lst h q,r=>by
    cases r;obtain⟨its,rv,⟨o,n,e,c,_,dt⟩,_⟩:=I.list (SqL.of' h);obtain⟨as,ra⟩:=DVs.reads I q rv;exact⟨_,.list e c dt (by simpa using ra)⟩
theorem DVs.reads (I:Inv X pins σ H s):∀{vs:List V}{ds:List PyData}{us:List Value},DVs H vs ds->Vals vs us->∃as,ReadsAll s.heap us ds as
  | _,_,_,.nil,r=>by cases r;exact⟨_,.nil⟩
  | _,_,_,.cons h q,r=>by
    cases r with
    | cons r1 r2 =>
      obtain⟨as,a⟩:=DV.reads I h r1;obtain⟨bs,b⟩:=DVs.reads I q r2;exact⟨_,.cons a b⟩
end
end
mutual
noncomputable def dW:W->Option PyData
 | .non=>some .none
 | .bl b=>some (.bool b)
 | .int i=>some (.int i)
 | .str x=>some (.str x)
 | .tup ws=>(dWs ws).bind fun ds=>some (.tuple ds)
 | .lst ws=>(dWs ws).bind fun ds=>some (.list ds)
 | _=>none
noncomputable def dWs:List W->Option (List PyData)
 | []=>some []
 | w::ws=>(dW w).bind fun d=>(dWs ws).bind fun ds=>some (d::ds)
end
section
variable {K:PySem.W.Frag}{F H:Hp}
mutual
theorem zye (s:Same F H):∀{w:W}{v:V}{d:PyData},Rep K F w v->dW w=some d->DV H v d
  | _,_,_,.non,e=>by obtain rfl:=sI e;exact .non
  | _,_,_,.bl b,e=>by obtain rfl:=sI e;exact .bl b
  | _,_,_,.int i,e=>by obtain rfl:=sI e;exact .int i
  | _,_,_,.str x,e=>by obtain rfl:=sI e;exact .str x
  | _,_,_,.tup h r,e=>by
    rw[dW] at e;obtain⟨ds,e1,e2⟩:=bS e;obtain rfl:=sI e2;exact .tup (s _ _ h) (zhd s r e1)
  | _,_,_,.lst h r,e=>by
    rw[dW] at e;obtain⟨ds,e1,e2⟩:=bS e;obtain rfl:=sI e2;exact .lst (s _ _ h) (zhd s r e1)
  | _,_,_,.frl _ _,e=>by exact noSome e
  | _,_,_,.dic _,e=>by exact noSome e
  | _,_,_,.dct _ _ _,e=>by exact noSome e
  | _,_,_,.dctT _ _ _,e=>by exact noSome e
  | _,_,_,.dcz _ _ _,e=>by exact noSome e
  | _,_,_,.dczT _ _ _,e=>by exact noSome e
theorem zhd (s:Same F H):∀{ws:List W}{vs:List V}{ds:List PyData},Reps K F ws vs->dWs ws=some ds->DVs H vs ds
  | _,_,_,.nil,e=>by cases e;exact .nil
  | _,_,_,.cons h r,e=>by
    rw[dWs] at e;obtain⟨d,e1,e⟩:=bS e;obtain⟨ds,e2,e3⟩:=bS e;cases e3;exact .cons (zye s h e1) (zhd s r e2)
end
theorem zr4 {w:W}{v:V}{d:PyData} (s:Same F H) (r:RepB K F H w v) (hd:dW w=some d):DV H v d:=by
  rcases r with r | ⟨a,o,us,z,rfl,h,q⟩
  · exact zye s r hd
  · subst z
    cases q with
    | dct hl q=>exact noSome hd
    | dctT hl q=>exact noSome hd
    | lst q =>
      rw[dW] at hd;obtain⟨ds,e1,e2⟩:=bS hd;obtain rfl:=sI e2;exact .lst h (zhd s q e1)
end
noncomputable def rEqD (g:Bool->Bool):R2:=fun x y H Q=>∃d d',DV H x d/\DV H y d'/\d.canLay0=true/\d'.canLay0=true/\d.depth<=100/\Q (.bl (g (PyData.eqv d d'))) H
theorem z5y {X:Cx}{k:Nat}(hr:Room k X.A):OpR X (compareOp .Eq) (rEqD id):=by
 intro pins s σ H x y v u Q I rx ry h;nofun;obtain⟨d,d',d1,d2,h1,h2,h3,q⟩:=h;obtain⟨as,ra⟩:=d1.reads I rx;obtain⟨bs,rb⟩:=d2.reads I ry;ac_rfl;exact SeqAt.compareEq_reads ra rb h1 h2 (by have:=hr.un;omega) ⟨.bl _,H,I,rfl,q⟩
theorem z5o {X:Cx}{k:Nat}(hr:Room k X.A):OpR X (compareOp .NotEq) (rEqD not):=by
 intro pins s σ H x y v u Q I rx ry h;nofun;obtain⟨d,d',d1,d2,h1,h2,h3,q⟩:=h;obtain⟨as,ra⟩:=d1.reads I rx;obtain⟨bs,rb⟩:=d2.reads I ry;ac_rfl;exact SeqAt.neOverData X.prog X.w X.A X.xe s v u d d' as bs _ ra rb h1 h2 (by have:=hr.un;omega) ⟨.bl _,H,I,rfl,q⟩
noncomputable def eqD (a b:W):Option Bool:=(dW a).bind fun d=>(dW b).bind fun d'=>if d.canLay0 && d'.canLay0 && decide (d.depth<=100) then some (PyData.eqv d d') else none
theorem zyi {K:PySem.W.Frag}{F H:Hp}{w1 w2:W}{v1 v2:V}{k:Bool}(s:Same F H)(r1:RepB K F H w1 v1)(r2:RepB K F H w2 v2)(e:eqD w1 w2=some k):∃d d',DV H v1 d/\DV H v2 d'/\d.canLay0=true/\d'.canLay0=true/\d.depth<=100/\k=PyData.eqv d d':=by
 nofun;obtain⟨d,h1,e⟩:=bS e;obtain⟨d',h2,e⟩:=bS e;ac_rfl;split at e
 ·rename_i z;rw[Bool.and_eq_true,Bool.and_eq_true] at z;obtain rfl:=sI e;exact⟨d,d',zr4 s r1 h1,zr4 s r2 h2,z.1.1,z.1.2,of_decide_eq_true z.2,rfl⟩
 ·exact noSome e
noncomputable def z0i:W->W->Option Bool
 | .non,.non=>some true | .non,.int _=>some false | .int _,.non=>some false | .non,.bl _=>some false | .bl _,.non=>some false | .non,.str _=>some false | .str _,.non=>some false
 | .int i,.int j=>some (decide (i=j)) | .bl i,.bl j=>some (decide (i=j)) | .str i,.str j=>some (decide (i=j))
 | .int _,.str _=>some false | .str _,.int _=>some false | .bl _,.str _=>some false | .str _,.bl _=>some false
 | _,_=>none
noncomputable def oEq:O2:=fun a b=>match z0i a b with
 | some k=>some (.bl k,false)
 | none=>(eqD a b).bind fun k=>some (.bl k,false)
noncomputable def oNe:O2:=fun a b=>match z0i a b with
 | some k=>some (.bl (!k),false)
 | none=>(eqD a b).bind fun k=>some (.bl (!k),false)
theorem znv {F H:Hp}{w1 w2:W}{v1 v2:V}{k:Bool} (r1:RepB K F H w1 v1) (r2:RepB K F H w2 v2) (e:z0i w1 w2=some k):scal v1 v2=true/\decide (v1=v2)=k:=by
  cases w1 with
  | non =>
    have:=r1.non;subst this;cases w2 with
    | non=>have:=r2.non;subst this;obtain rfl:=sI e;exact⟨rfl,by decide⟩
    | int j=>have:=r2.int;subst this;obtain rfl:=sI e;exact⟨rfl,by simp⟩
    | bl j=>have:=r2.bl;subst this;obtain rfl:=sI e;exact⟨rfl,by simp⟩
    | str j=>have:=r2.str;subst this;obtain rfl:=sI e;exact⟨rfl,by simp⟩
    | _=>exact noSome e
  | int i =>
    have:=r1.int;subst this;cases w2 with
    | non=>have:=r2.non;subst this;obtain rfl:=sI e;exact⟨rfl,by simp⟩
    | int j=>have:=r2.int;subst this;obtain rfl:=sI e;exact⟨rfl,by simp⟩
    | str j=>have:=r2.str;subst this;obtain rfl:=sI e;exact⟨rfl,by simp⟩
    | _=>exact noSome e
  | bl i =>
    have:=r1.bl;subst this;cases w2 with
    | non=>have:=r2.non;subst this;obtain rfl:=sI e;exact⟨rfl,by simp⟩
    | bl j=>have:=r2.bl;subst this;obtain rfl:=sI e;exact⟨rfl,by simp⟩
    | str j=>have:=r2.str;subst this;obtain rfl:=sI e;exact⟨rfl,by simp⟩
    | _=>exact noSome e
  | str i =>
    have:=r1.str;subst this;cases w2 with
    | non=>have:=r2.non;subst this;obtain rfl:=sI e;exact⟨rfl,by simp⟩
    | int j=>have:=r2.int;subst this;obtain rfl:=sI e;exact⟨rfl,by simp⟩
    | bl j=>have:=r2.bl;subst this;obtain rfl:=sI e;exact⟨rfl,by simp⟩
    | str j=>have:=r2.str;subst this;obtain rfl:=sI e;exact⟨rfl,by simp⟩
    | _=>exact noSome e
  | _=>cases w2<;>exact noSome e
theorem z36:OpS K (fun x y H Q=>rEq x y H Q\/rEqD id x y H Q) oEq:=fun F H w1 w2 v1 v2 rv Q s r1 r2 e q=>by
 unfold oEq at e;split at e
 ·rename_i k hk;obtain rfl:=sI e;obtain⟨h1,h2⟩:=znv r1 r2 hk;refine .inl ⟨h1,?_⟩;rw[h2];exact q _ _ (.val (.bl k))
 ·obtain⟨k, hk, e⟩ := bS e;obtain rfl:=sI e;nofun;obtain⟨d,d',d1,d2,h1,h2,h3,rfl⟩:=zyi s r1 r2 hk;ac_rfl;exact .inr ⟨d,d',d1,d2,h1,h2,h3,q _ _ (.val (.bl _))⟩
theorem z2u:OpS K (fun x y H Q=>rNe x y H Q\/rEqD not x y H Q) oNe:=fun F H w1 w2 v1 v2 rv Q s r1 r2 e q=>by
 unfold oNe at e;split at e
 ·rename_i k hk;obtain rfl:=sI e;obtain⟨h1,h2⟩:=znv r1 r2 hk;refine .inl ⟨h1,?_⟩;rw[h2];exact q _ _ (.val (.bl _))
 ·obtain⟨k, hk, e⟩ := bS e;obtain rfl:=sI e;nofun;obtain⟨d,d',d1,d2,h1,h2,h3,rfl⟩:=zyi s r1 r2 hk;ac_rfl;exact .inr ⟨d,d',d1,d2,h1,h2,h3,q _ _ (.val (.bl _))⟩
noncomputable def isW:W->W->Option Bool
 | .non,.non=>some true
 | _,.non=>some false
 | .bl a,.bl b=>some (decide (a=b))
 | _,.bl _=>some false
 | _,_=>none
noncomputable def z5m:R2:=fun x y H Q=>(y=.non/\Q (.bl (!decide (x=.non))) H)\/(∃b,y=.bl b/\Q (.bl (!decide (x=.bl b))) H)
noncomputable def oIs:O2:=fun a b=>(isW a b).bind fun k=>some (.bl k,false)
noncomputable def zng:O2:=fun a b=>(isW a b).bind fun k=>some (.bl (!k),false)
theorem RepB.noBl {F H:Hp}{w:W}{v:V}(r:RepB K F H w v)(h:∀b,w≠.bl b)(b:Bool):v≠.bl b:=fun e=>by
 subst e;rcases r with r | ⟨_,_,_,_,e,_⟩
 ·cases r;exact h b rfl
 ·cases e
theorem RepB.noNon {F H:Hp}{w:W}{v:V}(r:RepB K F H w v)(h:w≠.non):v≠.non:=fun e=>by
 subst e;rcases r with r | ⟨_,_,_,_,e,_⟩
 ·cases r;exact h rfl
 ·cases e
theorem z47 {F H:Hp}{w1 w2:W}{v1 v2:V}{k:Bool} (r1:RepB K F H w1 v1) (r2:RepB K F H w2 v2) (e:isW w1 w2=some k):(v2=.non/\decide (v1=.non)=k)\/(∃b,v2=.bl b/\decide (v1=.bl b)=k):=by
  cases w2 with
  | non =>
    refine .inl ⟨r2.non,?_⟩;cases w1 with
    | non=>obtain rfl:=sI e;rw[r1.non];rfl
    | _=>obtain rfl:=sI e;exact decide_eq_false (r1.noNon (by simp))
  | bl b =>
    refine .inr ⟨b,r2.bl,?_⟩;cases w1 with
    | bl a=>obtain rfl:=sI e;rw[r1.bl];simp
    | _=>obtain rfl:=sI e;exact decide_eq_false (r1.noBl (by simp) b)
  | _=>cases w1<;>exact noSome e
theorem zp6:OpS K z5m zng:=fun F H w1 w2 v1 v2 rv Q s r1 r2 e q=>by
 obtain⟨k,hk,e⟩:=bS e;obtain rfl:=sI e;rcases z47 r1 r2 hk with ⟨h1,h2⟩ | ⟨b,h1,h2⟩
 ·exact .inl ⟨h1,by rw[h2];exact q _ _ (.val (.bl _))⟩
 ·exact .inr ⟨b,h1,by rw[h2];exact q _ _ (.val (.bl _))⟩
noncomputable def oIx:O2
 | a,.int i=>(seqW a).bind fun ws=>(atI ws i).bind fun w=>#v[w,6]
 | _,_=>none
theorem zwj {F:Hp}{ws:List W}{vs:List V}{i:Int}{w:W}(r:Reps K F ws vs)(h:atI ws i=some w):∃v,atI vs i=some v/\Rep K F w v:=by
 unfold atI at h ⊢;rw[<-r.length];obtain⟨j,h1,h2⟩:=bS h;obtain⟨v,h3,h4⟩:=r.get h2;exact⟨v,by rw[h1];exact h3,h4⟩
noncomputable def rIxB (K:PySem.W.Frag):R2:=fun x y H Q=>rIxL K x y H Q\/rIxT K x y H Q
theorem z5l:OpS K (rIxB K) oIx:=fun F H w1 w2 v1 v2 rv Q s r1 r2 e q=>by
  cases w2 with
  | int i =>
    obtain⟨ws,hs,e⟩:=bS (show (seqW w1).bind _=_ from e);obtain⟨w,hw,e⟩:=bS e;obtain rfl:=sI e;obtain⟨a,vs,e1,hq,p⟩:=r1.seqW s hs;obtain⟨v,hv,rv⟩:=zwj p hw;rcases hq with hq | hq
    · exact .inl ⟨a,vs,i,v,e1,r2.int,hq,hv,q _ _ (.val rv)⟩
    · exact .inr ⟨a,vs,i,v,e1,r2.int,hq,hv,q _ _ (.val rv)⟩
  | _=>cases w1<;>exact noSome e
noncomputable def oNeg:W->Option (W × Bool)
 | .int i=>#v[(-i),0]
 | _=>none
theorem zzw:OpS1 K (rU fun i=>.int (-i)) oNeg:=fun F H w v rv Q s r e q=>by
 cases w with
 | int i=>obtain rfl:=sI e;exact⟨i,r.int,q _ _ (.val (.int _))⟩
 | _=>exact noSome e
end
theorem zg1:∀(ns:List Int) (k:Nat),k<=ns.length->preSum (fun i=>ns.getD i 0) k=(ns.take k).sum
  | ns,0,_=>rfl
  | ns,k+1,h=>by
    have ih:=zg1 ns k #v[];show preSum (fun i=>ns.getD i 0) k+ns.getD k 0=_;rw[ih,List.take_succ,List.sum_append];have hk:k < ns.length:=by omega
    rw[List.getElem?_eq_getElem hk,List.getD_eq_getElem?_getD,List.getElem?_eq_getElem hk];simp
section
variable {X:Cx}
theorem zz5 {ns:List Int}{its:List Value}{i:Nat}{v:Value}(r:Vals (ns.map V.int) its)(h:its[i]?=some v):∃t,v=.int (ns.getD i 0) t:=by
 have hl:=r.length;rw[List.length_map] at hl;have hi:i < ns.length:=by rw[hl];exact (List.getElem?_eq_some_iff.mp h).1
 obtain⟨u,hu,ru⟩:=r.get (i:=i) (x:=.int ns[i]) (by rw[List.getElem?_map,List.getElem?_eq_getElem hi];rfl);rw[h] at hu;obtain rfl:=sI hu;obtain⟨t,e⟩:=ru;exact⟨t,by rw[e,List.getD_eq_getElem?_getD,List.getElem?_eq_getElem hi];rfl⟩
theorem ztq (hc:X.calm=true):zc9 X (.builtin "sum") (fun xs H Q=>∃(a:Addr) (ns:List Int),xs=[.ref a]/\SqL X.K H a (ns.map V.int)/\Q (.int ns.sum) H):=by
 intro pins s σ H xs us Q I r h;nofun;obtain⟨a,ns,rfl,hq,q⟩:=h;obtain⟨u,rfl,rx⟩:=vals1 r;ac_rfl;cases rx;nofun;obtain⟨its,rv,p,hz⟩:=I.list hq;ac_rfl;have hl:=rv.length;rw[List.length_map] at hl;have ha:a < s.heap.objs.size:=by obtain⟨o,e,_⟩:=p.isList;exact Heap.lt_size e
 refine call_sum_walkG (wpAny_pyIter_list p.isList ?_);refine⟨s.heap.objs.size,_,[s.heap.objs.size],its.toArray.size,_,_,fun i=>ns.getD i 0,rfl,Walks.list (A:=X.A.in1) (show X.A.in1.handled=none from I.ok.hd hc) _ a (Nat.ne_of_lt ha) its.toArray,⟨⟨_,Heap.get?_push_size _ rfl,rfl,rfl⟩,p.isList.push _⟩,?_,fun i v hv=>zz5 rv (by simpa using hv),fun h' tk t' hk=>?_⟩
 ·intro b hb;have e0:∀o:Obj,(s.heap.push o).objs.size=s.heap.objs.size+1:=fun o=>Heap.size_push ..;have hb' : b=s.heap.objs.size\/b=a:=by simpa using hb
  show b < (s.heap.push _).objs.size;rw[e0];rcases hb' with rfl | rfl
  ·exact Nat.lt_succ_self _
  ·exact Nat.lt_succ_of_lt ha
 ·have e : its.toArray.size = ns.length := by simp; omega
  rw[e,zg1 ns ns.length (Nat.le_refl _),List.take_length];refine⟨.int _,H,I.kept fun b o hb=>?_,⟨_,rfl⟩,q⟩;exact hk b o (by intro z;rw[List.mem_singleton] at z;subst z;exact absurd (Heap.lt_size hb) (Nat.lt_irrefl _)) (Heap.get?_push_of_some _ hb)
theorem z00:OpR X (binaryOp .Add) (fun x y H Q=>∃a b ys,x=.ref a/\y=.ref b/\SqT X.K H a []/\SqT X.K H b ys/\Q (.ref b) H):=by
 intro pins s σ H x y v u Q I rx ry h;nofun;obtain⟨a,b,ys,rfl,rfl,ha,hb,q⟩:=h;ac_rfl;cases rx;cases ry;nofun;obtain⟨its,r1,p1,_⟩:=I.tuple ha;obtain⟨its2,r2,p2,_⟩:=I.tuple hb;obtain⟨⟨c1,d1,t1,l1⟩,g1,k1,n1,q1⟩:=id p1;obtain⟨⟨c2,d2,t2,l2⟩,g2,k2,n2,q2⟩:=id p2;ac_rfl;simp only at k1 q1 k2 q2;subst k1 q1 k2 q2;have e0:its=[]:=by cases r1;rfl
 subst e0;exact concat_meets (T := "tuple") ⟨_,g1,rfl⟩ ⟨_,g2,rfl⟩ noFill_tuple_add seq_tuple_add PySem.F.slot_tuple_add PySem.F.entry_tuple_add (PySem.F.args_tuple_add_2 _ _)
  (tuple_addW0 a b _ _ n1 n2 d1 d2 l1 l2 rfl) ⟨g1,g2,⟨.ref b,H,I.tok _,rfl,q⟩⟩
theorem zw6:OpR X (binaryOp .FloorDiv) (rI (fun _ j=>0 < j/\j.natAbs.log2 < 9000) fun i j=>.int (i / j)):=opI fun i j _ _ _ _ _ hc q=>by
 have h1:(0:Int) < j:=hc.1;exact floordiv_int #v[] (by rw[Int.fdiv_eq_ediv_of_nonneg i #v[]];exact q) (.inl (PyProof.noPylong_of_log2 hc.2))
end
section
variable {K:PySem.W.Frag}
noncomputable def z6n (K:PySem.W.Frag):R2:=fun x y H Q=>∃a b ys,x=.ref a/\y=.ref b/\SqT K H a []/\SqT K H b ys/\Q (.ref b) H
theorem zxc:OpS K (z6n K) z1x:=fun F H w1 w2 v1 v2 rv Q s r1 r2 e q=>by
  cases w1 with
  | tup xs =>
    cases xs with
    | cons _ _=>cases w2<;>exact noSome e
    | nil =>
      cases w2 with
      | tup ys =>
        obtain rfl:=sI e;nofun;obtain⟨a,vs,e1,h1,f1,p1⟩:=r1.tup s;obtain⟨b,us,e2,h2,f2,p2⟩:=r2.tup s;ac_rfl;cases p1;subst e2;exact⟨a,b,us,e1,rfl,.inl (.inl h1),.inl (.inl h2),q _ _ (.val (.tup f2 p2))⟩
      | _=>exact noSome e
  | _=>exact noSome e
noncomputable def z6d:R2:=fun x y H Q=>∃i j,x=.str i/\y=.str j/\i.length+j.length<=sizeLine/\Q (.str (i++j)) H
theorem zun:OpS K z6d zu9:=fun F H w1 w2 v1 v2 rv Q s r1 r2 e q=>by
  cases w1 with
  | str x =>
    cases w2 with
    | str y =>
      unfold zu9 at e;simp only at e;split at e
      · rename_i z;obtain rfl:=sI e;exact⟨x,y,r1.str,r2.str,z,q _ _ (.val (.str _))⟩
      · exact noSome e
    | _=>exact noSome e
  | _=>exact noSome e
noncomputable abbrev ON:=List W->Option (W × Bool)
noncomputable def oLen:ON
 | [w]=>(seqW w).bind fun ws=>#v[ws.length,0]
 | _=>none
theorem zua:OpSN K (fun xs H Q=>∃p ys,xs=[.ref p]/\(SqL K H p ys\/SqT K H p ys)/\Q (.int ys.length) H) oLen:=fun F H ws vs rv Q s r e q=>by
  cases r with
  | nil=>exact noSome e
  | cons h r =>
    cases r with
    | cons _ _=>exact noSome e
    | nil =>
      obtain⟨ws,hs,e⟩:=bS (show (seqW _).bind _=_ from e);obtain rfl:=sI e;obtain⟨a,vs,e1,hq,p⟩:=h.seqW s hs;subst e1;exact⟨a,vs,rfl,hq,by rw[<-p.length];exact q _ _ (.val (.int _))⟩
noncomputable def oAbs:ON
 | [.int i]=>#v[(if i < 0 then -i else i),0]
 | _=>none
theorem RepBs.one {F H:Hp}{w:W}{vs:List V}(r:RepBs K F H [w] vs):∃v,vs=[v]/\RepB K F H w v:=by
 cases r with
 | cons h r=>cases r;exact⟨_,rfl,h⟩
theorem zy1:OpSN K (fun xs H Q=>∃i,xs=[.int i]/\Q (.int (if i < 0 then -i else i)) H) oAbs:=fun F H ws vs rv Q s r e q=>by
  match ws,e with
  | [.int i],e =>
    obtain rfl:=sI e;obtain⟨v,e1,h⟩:=r.one;subst e1;exact⟨i,by rw[h.int],q _ _ (.val (.int _))⟩
noncomputable def oInt:ON
 | [.int i]=>#v[i,0]
 | [.bl k]=>#v[(if k then 1 else 0),0]
 | _=>none
theorem z0o:OpSN K (fun xs H Q=>(∃i,xs=[.int i]/\Q (.int i) H)\/∃k,xs=[.bl k]/\Q (.int (if k then 1 else 0)) H) oInt:=fun F H ws vs rv Q s r e q=>by
  match ws,e with
  | [.int i],e =>
    obtain rfl:=sI e;obtain⟨v,e1,h⟩:=r.one;subst e1;exact .inl ⟨i,by rw[h.int],q _ _ (.val (.int _))⟩
  | [.bl k],e =>
    obtain rfl:=sI e;obtain⟨v,e1,h⟩:=r.one;subst e1;exact .inr ⟨k,by rw[h.bl],q _ _ (.val (.int _))⟩
noncomputable def zsh:ON
 | [w]=>(seqW w).bind fun ws=>#v[ws,2]
 | _=>none
theorem zui:OpSN K (fun xs H Q=>∃p ys,xs=[.ref p]/\(SqL K H p ys\/SqT K H p ys)/\∀l,H l=none->Q (.ref l) (upd H l (.lst ys))) zsh:=fun F H ws vs rv Q s r e q=>by
  match ws,e with
  | [w],e =>
    obtain⟨ws,hs,e⟩:=bS (show (seqW _).bind _=_ from e);obtain rfl:=sI e;nofun;obtain⟨v,e1,h⟩:=r.one;obtain⟨a,us,e2,hq,p⟩:=h.seqW s hs;ac_rfl;subst e1 e2;exact⟨a,us,rfl,hq,fun l hl=>q _ _ (.lst hl p)⟩
noncomputable def zbw:ON
 | [.tup ws]=>#v[ws,3]
 | [w]=>(seqL w).bind fun ws=>#v[ws,3]
 | _=>none
theorem zsd:OpSN K (fun xs H Q=>∃p ys,xs=[.ref p]/\((SqL K H p ys/\∀l,H l=none->Q (.ref l) (upd H l (.tup ys)))\/(SqT K H p ys/\Q (.ref p) H))) zbw:=fun F H ws vs rv Q s r e q=>by
  match ws,e with
  | [.tup ws],e =>
    obtain rfl:=sI e;nofun;obtain⟨v,e1,h⟩:=r.one;obtain⟨a,us,e2,hq,f,p⟩:=h.tup s;ac_rfl;subst e1 e2;exact⟨a,us,rfl,.inr ⟨.inl (.inl hq),q _ _ (.val (.tup f p))⟩⟩
  | [.lst ws],e =>
    obtain rfl:=sI e;nofun;obtain⟨v,e1,h⟩:=r.one;obtain⟨a,us,e2,hq,p⟩:=h.lst s;ac_rfl;subst e1 e2;exact⟨a,us,rfl,.inl ⟨SqL.of' hq,fun l hl=>q _ _ (.tup hl p)⟩⟩
  | [.frl ws],e =>
    obtain rfl:=sI e;nofun;obtain⟨v,e1,h⟩:=r.one;obtain⟨a,us,e2,hq,p⟩:=h.frl s;ac_rfl;subst e1 e2;exact⟨a,us,rfl,.inl ⟨hq,fun l hl=>q _ _ (.tup hl p)⟩⟩
  | [.non],e=>exact noSome e
  | [.bl _],e=>exact noSome e
  | [.int _],e=>exact noSome e
  | [.str _],e=>exact noSome e
  | [.dic],e=>exact noSome e
  | [.dct _ _],e=>exact noSome e
  | [.dcz _ _],e=>exact noSome e
noncomputable def zl7:List W->Option (List Bool)
 | []=>some []
 | .bl b::ws=>(zl7 ws).bind fun bs=>some (b::bs)
 | _=>none
noncomputable def zcz:List W->Option (List Int)
 | []=>some []
 | .int b::ws=>(zcz ws).bind fun bs=>some (b::bs)
 | _=>none
theorem zox:∀{ws:List W}{bs:List Bool},zl7 ws=some bs->ws=bs.map W.bl
  | [],_,e=>by obtain rfl:=sI e;rfl
  | .bl b::ws,_,e=>by
    obtain⟨bs,h,e⟩:=bS (show (zl7 ws).bind _=_ from e);obtain rfl:=sI e;rw[zox h];rfl
  | .non::_,_,e=>by exact noSome e
  | .int _::_,_,e=>by exact noSome e
  | .str _::_,_,e=>by exact noSome e
  | .tup _::_,_,e=>by exact noSome e
  | .lst _::_,_,e=>by exact noSome e
  | .frl _::_,_,e=>by exact noSome e
theorem zjn:∀{ws:List W}{bs:List Int},zcz ws=some bs->ws=bs.map W.int
  | [],_,e=>by obtain rfl:=sI e;rfl
  | .int b::ws,_,e=>by
    obtain⟨bs,h,e⟩:=bS (show (zcz ws).bind _=_ from e);obtain rfl:=sI e;rw[zjn h];rfl
  | .non::_,_,e=>by exact noSome e
  | .bl _::_,_,e=>by exact noSome e
  | .str _::_,_,e=>by exact noSome e
  | .tup _::_,_,e=>by exact noSome e
  | .lst _::_,_,e=>by exact noSome e
  | .frl _::_,_,e=>by exact noSome e
theorem zg5:∀(ns:List Int),zcz (ns.map W.int)=some ns
 | []=>rfl
 | n::ns=>by show (zcz (ns.map W.int)).bind _=_;rw[zg5 ns];rfl
theorem zki:∀(ns:List Bool),zl7 (ns.map W.bl)=some ns
 | []=>rfl
 | n::ns=>by show (zl7 (ns.map W.bl)).bind _=_;rw[zki ns];rfl
noncomputable def oBl (f:List Bool->Bool):ON
 | [w]=>(seqL w).bind fun ws=>(zl7 ws).bind fun bs=>some (.bl (f bs),false)
 | _=>none
theorem zyr {f:List Bool->Bool}:OpSN K (fun xs H Q=>∃(a:Addr) (bs:List Bool),xs=[.ref a]/\SqL K H a (bs.map V.bl)/\Q (.bl (f bs)) H) (oBl f):=fun F H ws vs rv Q s r e q=>by
  match ws,e with
  | [w],e =>
    nofun;obtain⟨ws,hs,e⟩:=bS (show (seqL _).bind _=_ from e);obtain⟨bs,hb,e⟩:=bS e;ac_rfl;obtain rfl:=sI e;nofun;obtain⟨v,e1,h⟩:=r.one;obtain⟨a,us,e2,hq,p⟩:=h.seqL s hs;ac_rfl;subst e1 e2;rw[zox hb] at p;rw[p.bls] at hq;exact⟨a,bs,rfl,hq,q _ _ (.val (.bl _))⟩
noncomputable def oSum:ON
 | [w]=>(seqL w).bind fun ws=>(zcz ws).bind fun ns=>#v[ns.sum,0]
 | _=>none
theorem z0e:OpSN K (fun xs H Q=>∃(a:Addr) (ns:List Int),xs=[.ref a]/\SqL K H a (ns.map V.int)/\Q (.int ns.sum) H) oSum:=fun F H ws vs rv Q s r e q=>by
  match ws,e with
  | [w],e =>
    nofun;obtain⟨ws,hs,e⟩:=bS (show (seqL _).bind _=_ from e);obtain⟨bs,hb,e⟩:=bS e;ac_rfl;obtain rfl:=sI e;nofun;obtain⟨v,e1,h⟩:=r.one;obtain⟨a,us,e2,hq,p⟩:=h.seqL s hs;ac_rfl;subst e1 e2;rw[zjn hb] at p;rw[p.ints] at hq;exact⟨a,bs,rfl,hq,q _ _ (.val (.int _))⟩
noncomputable def tyW:W->Option String
 | .non=>some "NoneType"
 | .bl _=>some "bool"
 | .int _=>some "int"
 | .str _=>some "str"
 | .tup _=>some "tuple"
 | .lst _=>some "list"
 | .frl _=>none
 | .dic=>none
 | .dct _ _=>none
 | .dcz _ _=>none
inductive Kd where
 | int | bool | str | tuple | list
 deriving DecidableEq
noncomputable def Kd.nm:Kd->String
 | .int => "int" | .bool => "bool" | .str => "str" | .tuple => "tuple" | .list => "list"
noncomputable def isiW (k:Kd):W->Option Bool
 | .non=>some false
 | .bl _=>some (k == .bool || k == .int)
 | .int _=>some (k == .int)
 | .str _=>some (k == .str)
 | .tup _=>some (k == .tuple)
 | .lst _=>some (k == .list)
 | .frl _=>none
 | .dic=>some false
 | .dct _ _=>some false
 | .dcz _ _=>none
noncomputable def oIsi (k:Kd) (w:W):Option (W × Bool):=(isiW k w).bind fun b=>some (.bl b,false)
theorem z2c {F H:Hp}{w:W}{v:V}{k:Kd}{b:Bool} (s:Same F H) (r:RepB K F H w v) (e:isiW k w=some b):∃t,TyOf K H v t/\PySem.W.kitOne K t (.type k.nm)=some b:=by
  cases w with
  | non=>rw[r.non];obtain rfl:=sI e;exact⟨_,.non,by cases k<;>(with_unfolding_all rfl)⟩
  | bl x=>rw[r.bl];obtain rfl:=sI e;exact⟨_,.bl x,by cases k<;>(with_unfolding_all rfl)⟩
  | int x=>rw[r.int];obtain rfl:=sI e;exact⟨_,.int x,by cases k<;>(with_unfolding_all rfl)⟩
  | str x=>rw[r.str];obtain rfl:=sI e;exact⟨_,.str x,by cases k<;>(with_unfolding_all rfl)⟩
  | tup x=>obtain⟨a,vs,e1,h,_⟩:=r.tup s;subst e1;obtain rfl:=sI e;exact⟨_,.tup h,by cases k<;>(with_unfolding_all rfl)⟩
  | lst x=>obtain⟨a,vs,e1,h,_⟩:=r.lst s;subst e1;obtain rfl:=sI e;exact⟨_,.lst h,by cases k<;>(with_unfolding_all rfl)⟩
  | frl x=>exact noSome e
  | dic =>
    rcases r with r | ⟨_,_,_,z,_,_,q⟩
    · cases r with
      | dic h=>obtain rfl:=sI e;exact⟨_,.dK (s _ _ h),by cases k<;>(with_unfolding_all rfl)⟩
    · subst z;cases q
  | dct ks ws =>
    obtain rfl:=sI e;rcases r with r | ⟨_,_,_,z,e1,h,q⟩
    · cases r with
      | dct h _ _=>exact⟨_,.dK (s _ _ h),by cases k<;>(with_unfolding_all rfl)⟩
      | dctT h _ _=>exact⟨_,.dT (s _ _ h),by cases k<;>(with_unfolding_all rfl)⟩
    · subst z e1
      cases q with
      | dct _ _=>exact⟨_,.dK h,by cases k<;>(with_unfolding_all rfl)⟩
      | dctT _ _=>exact⟨_,.dT h,by cases k<;>(with_unfolding_all rfl)⟩
  | dcz ks ws=>exact noSome e
noncomputable def rIsi (K:PySem.W.Frag):List V->Hp->VK->Prop:=fun xs H Q=>∃x t c b,xs=[x,.ty c]/\TyOf K H x t/\PySem.W.kitOne K t (.type c)=some b/\Q (.bl b) H
theorem zvw {k:Kd}{a:GA}{σ:St}{H:Hp}{Q:VK}(h:tE K (gOp1 (oIsi k) a) σ H Q):tCB (rIsi K) (zdv (tA K a) (zdv (tC (.ty k.nm)) tNil)) σ H Q:=by
 nofun;obtain⟨F,pr,en,en',rv,R,h,q⟩:=h;obtain⟨⟨e1,x1⟩,h1,h⟩:=bS h;obtain⟨w1,hw1,h⟩:=bS h;obtain⟨r',hr,h⟩:=bS h;obtain⟨b,hb,hr⟩:=bS hr;ac_rfl;obtain rfl:=sI hr;cases h;refine⟨F,pr,en,e1,x1,R,h1,fun F1 H1 v1 s1 R1 a1=>?_⟩;obtain⟨t,ty,ek⟩:=z2c R1.sub (a1.repB R1 hw1) hb;exact⟨v1,t,_,b,rfl,ty,ek,q F1 H1 _ s1 R1 (.bl b)⟩
noncomputable abbrev GO:=En->Option (En × Option Int)
noncomputable def zb4:GO:=fun en=>some (en,none)
noncomputable def zfi (g:GE):GO:=fun en=>match g en with
 | some (en',(.int i,_))=>some (en',some i)
 | _=>none
noncomputable def tO (K:PySem.W.Frag) (g:GO):TO:=fun σ H Q=>∃F pr en en' o,Rel K F pr en σ H/\g en=some (en',o)/\∀F' H',Same F F'->Rel K F' pr en' σ H'->Q o H'
theorem Res.isInt {F H:Hp}{pr:Prt}{en:En}{σ:St}{i:Int}{fl:Bool}{v:V}(h:Res K F H pr en σ (.int i,fl) v):v=.int i:=by
 cases fl with
 | false=>cases (show Rep K F (.int i) v from h);rfl
 | true=>obtain⟨_,_,_,e,_,_,_,q,_⟩:=h;subst e;cases q
theorem zmq {σ:St}{H:Hp}{Q:Option Int->Hp->Prop}(h:tO K zb4 σ H Q):zp3 σ H Q:=by
 obtain⟨F,pr,en,en',o,R,h,q⟩:=h;cases h;exact q F H (.refl F) R
theorem zq9 {g:GE}{σ:St}{H:Hp}{Q:Option Int->Hp->Prop} (h:tO K (zfi g) σ H Q):z3u (tE K g) σ H Q:=by
  nofun;obtain⟨F,pr,en,en',o,R,h,q⟩:=h;ac_rfl;unfold zfi at h;cases e:g en with
  | none=>simp only [e] at h;exact noSome h
  | some p =>
    obtain⟨e1,w,fl⟩:=p;cases w with
    | int c=>simp only [e] at h;cases h;exact⟨F,pr,en,_,_,R,e,fun F' H' v s' R' z=>⟨c,z.isInt,q F' H' s' R'⟩⟩
    | _=>simp only [e] at h;exact noSome h
open HT in
theorem zpm {prog:Program}{w:World}{A:Around}{E:Value->Shared->Prop}{s:Shared}{t sl:Addr}{items:Array Value}{vl vu:Value}{lo hi:Option Int}{Q:Value->Shared->Prop} (ht:IsTup s.heap t items) (hs:s.heap.IsSliceOf sl vl vu .none) (pl:IsPart vl lo) (pu:IsPart vu hi)
  (h0:sIx items.size 0 lo=0) (h1:sIx items.size items.size hi=items.size) (h:Q (.ref t) s):wpAny (model prog w) A (getItem (.ref t) (.ref sl)) Q E s:=by
 obtain⟨os,g1,g2,_⟩:=id hs;have ty:s.TypeIs (.ref sl) "slice" := ⟨os,g1,g2⟩;unfold getItem
 try with_reducible refine wpAny_holding ?_
 first | refine wpAny_bind (wpAny_pure ?_) | skip
 refine wpAny_bind (wpAny_sequenceKey ht.typeIs #v[0,9] ?_);refine wpAny_bind (wpAny_callSpecial?_slot (name:=Str.ofString "__getitem__") ht.typeIs PyProof.Rows.slot_tuple_getitem (wpAny_call_entry PyProof.Rows.slot_tuple_getitem ht.typeIs entry_tuple_getitem ?_ (args_tuple_getitem _ _)));show wpAny _ _ (Builtin.Tuple.tupleItemsOf (.ref t) >>= _) _ _ s;refine wpAny_bind (tupleItemsOf_ ht ?_);refine wpAny_bind (wpAny_typeOf ty ?_);rw[if_pos #v[0,9]];refine wpAny_bind (zcx hs pl pu ?_);rw[h0,h1];show wpAny _ _ (if ((((0:Nat):Int) == 0 && (1:Int) == 1 && (items.size - 0) == items.size)=true) then _ else _) _ _ s;rw[if_pos (by simp)];unfold Builtin.Tuple.tupleIsExact;refine wpAny_bind (wpAny_bind (wpAny_typeOf ht.typeIs (wpAny_pure ?_)));rw[if_pos #v[0,9]];refine wpAny_bind (wpAny_rule (wpAny_pure ⟨_,rfl,?_⟩));exact wpAny_pure h
noncomputable def rSlW (K:PySem.W.Frag):V->Option Int->Option Int->Hp->VK->Prop:=fun x lo hi H Q=>∃a xs,x=.ref a/\SqT K H a xs/\HT.sIx xs.length 0 lo=0/\HT.sIx xs.length xs.length hi=xs.length/\Q x H
theorem z1f {X:Cx}:SlR X (rSlW X.K):=by
 intro pins s σ H x v vl vu lo hi sl Q I rx hs pl pu h;nofun;obtain⟨a,xs,rfl,hx,h0,h1,q⟩:=h;ac_rfl;cases rx;nofun;obtain⟨its,r,ht,hz⟩:=I.tuple hx;ac_rfl;have hlen:its.toArray.size=xs.length:=by rw[List.size_toArray];exact r.length.symm
 exact⟨"tuple",_,PyProof.Rows.slot_tuple_getitem.lookup,ht.typeIs,zpm ht hs pl pu (by rw[hlen];exact h0) (by rw[hlen];exact h1) ⟨.ref a,H,I,rfl,q⟩⟩
noncomputable def cutW (xs:List W) (lo hi:Option Int):List W:=(xs.drop (HT.sIx xs.length 0 lo)).take (HT.sIx xs.length xs.length hi - HT.sIx xs.length 0 lo)
noncomputable def oSl (w:W) (lo hi:Option Int):Option (W × Bool):=match w with
 | .lst ws=>#v[(cutW ws lo hi),2]
 | .frl ws=>#v[(cutW ws lo hi),2]
 | .tup ws=>#v[(cutW ws lo hi),3]
 | _=>none
noncomputable def rSlB (K:PySem.W.Frag):V->Option Int->Option Int->Hp->VK->Prop:=fun x lo hi H Q=>(rSlL K x lo hi H Q\/rSlT K x lo hi H Q)\/rSlW K x lo hi H Q
theorem z3a {F H:Hp}{w:W}{v:V}{lo hi:Option Int}{rv:W × Bool}{Q:VK} (s:Same F H) (r:RepB K F H w v) (e:oSl w lo hi=some rv) (q:∀u H',Out K F H rv u H'->Q u H'):rSlB K v lo hi H Q:=by
  have cut:∀{ws:List W}{vs:List V},Reps K F ws vs->Reps K F (cutW ws lo hi) (cutV vs lo hi):=fun {ws vs} p=>by
    unfold cutW cutV;rw[<-p.length];exact (p.drop _).take _
  cases w with
  | lst ws=>obtain rfl:=sI e;obtain⟨a,vs,e1,h,p⟩:=r.lst s;exact .inl (.inl ⟨a,vs,e1,SqL.of' h,fun l hl=>q _ _ (.lst hl (cut p))⟩)
  | frl ws=>obtain rfl:=sI e;obtain⟨a,vs,e1,h,p⟩:=r.frl s;exact .inl (.inl ⟨a,vs,e1,h,fun l hl=>q _ _ (.lst hl (cut p))⟩)
  | tup ws =>
    obtain rfl:=sI e;obtain⟨a,vs,e1,h,hf,p⟩:=r.tup s;by_cases y:HT.sIx vs.length 0 lo=0/\HT.sIx vs.length vs.length hi=vs.length
    · refine .inr ⟨a, vs, e1, .inl (.inl h), y.1, y.2, ?_⟩
      have ew:cutW ws lo hi=ws:=by
        unfold cutW;rw[p.length,y.1,y.2,List.drop_zero,Nat.sub_zero,<-p.length,List.take_length]
      rw[ew] at q;subst e1;exact q _ _ (.val (.tup hf p))
    · exact .inl (.inr ⟨a,vs,e1,.inl (.inl h),y,fun l hl=>q _ _ (.tup hl (cut p))⟩)
  | _=>exact noSome e
noncomputable def gSl (a:GA) (lo hi:GO):GE:=fun en=>(a en).bind fun p=>(lo p.1).bind fun l=>(hi l.1).bind fun h=>(resA h.1 p.2).bind fun w=>(oSl w l.2 h.2).bind fun r=>some (h.1,r)
theorem z0s {a:GA}{lo hi:GO}{σ:St}{H:Hp}{Q:VK}(h:tE K (gSl a lo hi) σ H Q):tSl (rSlB K) (tA K a) (tO K lo) (tO K hi) σ H Q:=by
 nofun;obtain⟨F,pr,en,en',rv,R,h,q⟩:=h;obtain⟨⟨e1,x1⟩,h1,h⟩:=bS h;obtain⟨⟨e2,l⟩,h2,h⟩:=bS h;obtain⟨⟨e3,u⟩,h3,h⟩:=bS h;obtain⟨w1,hw1,h⟩:=bS h;obtain⟨r',hr,h⟩:=bS h;ac_rfl;cases h;refine⟨F,pr,en,e1,x1,R,h1,fun F1 H1 v1 s1 R1 a1=>⟨F1,pr,e1,e2,l,R1,h2,fun F2 H2 s2 R2=>⟨F2,pr,e2,e3,u,R2,h3,fun F3 H3 s3 R3=>?_⟩⟩⟩;refine z3a R3.sub ((a1.mono (s2.trans s3)).repB R3 hw1) hr fun v H' z=>?_;nofun;obtain⟨F4,s4,R4,y⟩:=z.close R3;ac_rfl;exact q F4 H' v (s1.trans (s2.trans (s3.trans s4))) R4 y
end
structure ItOk (K:PySem.W.Frag) (F:Hp) (J:It) (ws:List W):Prop where
 go:∀i H,Same F H->i < ws.length->J.go i H
 stop:∀H,Same F H->J.stop ws.length H
 yld:∀i H x H',Same F H->i < ws.length->J.yld i H x H'->∃w,ws[i]?=some w/\Out K F H (w,false) x H'
noncomputable def tI (K:PySem.W.Frag) (g:GL):TI:=fun σ H R=>∃F pr en en' ws,Rel K F pr en σ H/\g en=some (en',ws)/\∀F' H' J,Same F F'->Rel K F' pr en' σ H'->ItOk K F' J ws->R J H'
section
variable {K:PySem.W.Frag}{F H:Hp}
theorem zbz {F F' : Hp}{a:Addr}{vs:List V}(s:Same F F')(h:SqT K F a vs):SqT K F' a vs:=by
 rcases h with (h | ⟨o,h⟩) | h
 ·exact .inl (.inl (s _ _ h))
 ·exact .inl (.inr ⟨o,s _ _ h⟩)
 ·exact .inr h
theorem zn0 {a:Addr}{vs:List V}{ws:List W}(h:SqL K F a vs)(r:Reps K F ws vs):ItOk K F (Itl K a) ws where
 go:=fun i H s hi=>⟨vs,vs[i]'(by rw[<-r.length];exact hi),s.seq h,by rw[List.getElem?_eq_getElem]⟩
 stop:=fun H s=>⟨vs,s.seq h,by rw[r.length];exact Nat.le_refl _⟩
 yld:=fun i H x H' s hi y=>by
  obtain⟨e,y⟩:=y;subst e;obtain⟨w,e,q⟩:=r.getV (y vs (s.seq h));exact⟨w,e,.val q⟩
theorem z5j {a:Addr}{vs:List V}{ws:List W}(h:SqT K F a vs)(r:Reps K F ws vs):ItOk K F (Itt K a) ws where
 go:=fun i H s hi=>⟨vs,vs[i]'(by rw[<-r.length];exact hi),zbz s h,by rw[List.getElem?_eq_getElem]⟩
 stop:=fun H s=>⟨vs,zbz s h,by rw[r.length];exact Nat.le_refl _⟩
 yld:=fun i H x H' s hi y=>by
  obtain⟨e,y⟩:=y;subst e;obtain⟨w,e,q⟩:=r.getV (y vs (zbz s h));exact⟨w,e,.val q⟩
noncomputable def rngW (lo:Int) (n:Nat):List W:=(List.range n).map fun k=>W.int (lo+(k:Nat))
theorem zv0 (lo:Int)(n:Nat):ItOk K F (Itr lo n) (rngW lo n) where
 go:=fun i H s hi=>by unfold rngW at hi;rw[List.length_map,List.length_range] at hi;exact hi
 stop:=fun H s=>by unfold rngW;rw[List.length_map,List.length_range];exact Nat.le_refl n
 yld:=fun i H x H' s hi y=>by
  obtain⟨e,y⟩:=y;subst e y;unfold rngW at hi ⊢;rw[List.length_map,List.length_range] at hi;exact⟨_,by rw[List.getElem?_map,List.getElem?_range hi];rfl,.val (.int _)⟩
noncomputable def zgc (ws:List W) (k:Nat):List W:=match ws with
 | []=>[]
 | w::ws=>.tup [.int k,w]::zgc ws (k+1)
theorem zb8:∀(ws:List W) (k:Nat),(zgc ws k).length=ws.length
 | [],_=>rfl
 | _::ws,k=>congrArg (· + 1) (zb8 ws (k+1))
theorem zd2:∀{ws:List W}{k i:Nat}{w:W},ws[i]?=some w->(zgc ws k)[i]?=some (.tup [.int (k+i:Nat),w])
  | [],_,_,_,e=>by simp at e
  | w::ws,k,0,_,e=>by simp at e;subst e;rfl
  | w::ws,k,i+1,u,e=>by
    have:=zd2 (ws:=ws) (k:=k+1) (i:=i) (w:=u) (by simpa using e);show (zgc ws (k+1))[i]?=_;rw[this];have:k+1+i=k+(i+1):=by omega
    rw[this]
theorem zy3 {a:Addr}{vs:List V}{ws:List W}(h:SqL K F a vs)(r:Reps K F ws vs):ItOk K F (Ite K a) (zgc ws 0) where
 go:=fun i H s hi=>by rw[zb8] at hi;exact⟨vs,vs[i]'(by rw[<-r.length];exact hi),s.seq h,by rw[List.getElem?_eq_getElem]⟩
 stop:=fun H s=>⟨vs,s.seq h,by rw[zb8,r.length];exact Nat.le_refl _⟩
 yld:=fun i H x H' s hi y=>by
  nofun;obtain⟨p,v,e,hp,e2,y⟩:=y;ac_rfl;subst e e2;obtain⟨w,e,q⟩:=r.getV (y vs (s.seq h));refine⟨_,zd2 e,?_⟩;rw[Nat.zero_add];exact .tup hp (.cons (.int _) (.cons q .nil))
theorem z26 {a:Addr}{vs:List V}{ws:List W}(h:SqL K F a vs)(r:Reps K F ws vs):ItOk K F (Itv K a vs.length) ws.reverse where
 go:=fun i H s hi=>by rw[List.length_reverse,r.length] at hi;exact⟨hi,vs,s.seq h,rfl⟩
 stop:=fun H s=>by rw[List.length_reverse,r.length];rfl
 yld:=fun i H x H' s hi y=>by
  obtain⟨e,y⟩:=y;subst e;obtain⟨w,e,q⟩:=r.getV (y vs (s.seq h));refine⟨w,?_,.val q⟩;rw[List.length_reverse] at hi;rw[List.getElem?_reverse hi,r.length];exact e
end
section
variable {X:Cx}{tg:Expr}
noncomputable def iSeq (K:PySem.W.Frag) (tl:TE):TI:=fun σ H R=>tl σ H fun x H1=>∃a,x=.ref a/\((∃xs,SqL K H1 a xs)/\R (Itl K a) H1\/(∃xs,SqT K H1 a xs)/\R (Itt K a) H1)
theorem zxt {l:Expr}{tl:TE}(hl:PE X l tl):PI X tg l (iSeq X.K tl):=fun pins s σ H R I h =>
 thn (hl pins s σ H _ I h) fun v s1 ⟨x,H1,I1,r1,a,e,q1⟩=>by
  subst e;cases r1;have fp:∀b∈[s1.heap.objs.size],FpOk X pins H1 b:=fun b hb=>by
   rw[List.mem_singleton] at hb;subst hb;exact I1.fpOk (Nat.le_refl _) (I1.hok.fresh (Nat.le_refl _))
  rcases q1 with ⟨⟨xs,hq⟩,q⟩ | ⟨⟨xs,hq⟩,q⟩
  ·obtain⟨its, _, p, _⟩ := I1.list hq;exact wpAny_pyIter_list p.isList ⟨_,_,_,_,H1,rfl,I1.kept (t':=s1.toks) fun b o e=>Heap.get?_push_of_some _ e,ztx a _,⟨_,Heap.get?_push_size _ rfl,rfl,rfl⟩,fp,q⟩
  ·obtain⟨its, _, p, _⟩ := I1.tuple hq;exact wpAny_pyIter_tuple (show s1.heap.IsTuple a its.toArray from p) ⟨_,_,_,_,H1,rfl,I1.kept (t':=s1.toks) fun b o e=>Heap.get?_push_of_some _ e,zpk a _,⟨_,Heap.get?_push_size _ rfl,rfl,rfl⟩,fp,q⟩
end
noncomputable def zb5 (g:GE):GL:=fun en=>(g en).bind fun p=>(seqW p.2.1).bind fun ws=>some (p.1,ws)
noncomputable def zdu (i:Int):Bool:=decide (-(2 ^ 62)<=i) && decide (i < 2 ^ 62)
noncomputable def zbb (as:GAs):GL:=fun en=>(as en).bind fun p=>match zar p.1 p.2 with
 | some [.int j]=>if zdu j then some (p.1,rngW 0 j.toNat) else none
 | _=>none
noncomputable def z65 (as:GAs):GL:=fun en=>(as en).bind fun p=>match zar p.1 p.2 with
 | some [.int i,.int j]=>if zdu i && zdu j then some (p.1,rngW i (j - i).toNat) else none
 | _=>none
noncomputable def gRev (g:GE):GL:=fun en=>(g en).bind fun p=>(seqL p.2.1).bind fun ws=>some (p.1,ws.reverse)
theorem zih {i:Int}(h:zdu i=true):-(2 ^ 62)<=i/\i < 2 ^ 62:=by
 unfold zdu at h;rw[Bool.and_eq_true] at h;exact⟨of_decide_eq_true h.1,of_decide_eq_true h.2⟩
section
variable {K:PySem.W.Frag}{σ:St}{H:Hp}
theorem zkw {g:GE}{R:It->Hp->Prop} (h:tI K (zb5 g) σ H R):iSeq K (tE K g) σ H R:=by
  nofun;obtain⟨F,pr,en,en',ws,Re,h,q⟩:=h;obtain⟨⟨e1,rv⟩,h1,h⟩:=bS h;obtain⟨us,hs,h⟩:=bS h;ac_rfl;cases h;refine⟨F,pr,en,e1,rv,Re,h1,fun F1 H1 v s1 R1 z=>?_⟩;nofun;obtain⟨F2,s2,R2,y⟩:=z.freeze R1;obtain⟨w,fl⟩:=rv;ac_rfl;cases w with
  | lst xs=>obtain rfl:=sI hs;cases y with
    | lst y r=>exact⟨_,rfl,.inl ⟨⟨_,SqL.of' (R2.sub _ _ y)⟩,q F2 H1 _ (s1.trans s2) R2 (zn0 (SqL.of' y) r)⟩⟩
  | frl xs=>obtain rfl:=sI hs;cases y with
    | frl y r=>exact⟨_,rfl,.inl ⟨⟨_,R2.sub.seq y⟩,q F2 H1 _ (s1.trans s2) R2 (zn0 y r)⟩⟩
  | tup xs=>obtain rfl:=sI hs;cases y with
    | tup y r=>exact⟨_,rfl,.inr ⟨⟨_,.inl (.inl (R2.sub _ _ y))⟩,q F2 H1 _ (s1.trans s2) R2 (z5j (.inl (.inl y)) r)⟩⟩
  | _=>cases hs
theorem zq3 {as:GAs}{R:It->Hp->Prop} (h:tI K (zbb as) σ H R):z45 (tAs K as) σ H R:=by
  nofun;obtain⟨F,pr,en,en',ws,Re,h,q⟩:=h;obtain⟨⟨e1,xs⟩,h1,h⟩:=bS h;ac_rfl;refine⟨F,pr,en,e1,xs,Re,h1,fun F1 H1 vs s1 R1 a1=>?_⟩;cases e:zar e1 xs with
  | none=>simp only [e] at h;exact noSome h
  | some us =>
    have rr:=a1.repBs R1 e
    match us,e,rr with
    | [.int j],e,rr =>
      simp only [e] at h;split at h
      · rename_i z
        cases h;obtain⟨v,e1,hv⟩:=rr.one;subst e1;exact⟨j,by rw[hv.int],(zih z).1,(zih z).2,q F1 H1 _ s1 R1 (zv0 0 j.toNat)⟩
      · exact noSome h
    | [],e,_=>simp only [e] at h;exact noSome h
    | .non::_,e,_=>simp only [e] at h;exact noSome h
    | .bl _::_,e,_=>simp only [e] at h;exact noSome h
    | .str _::_,e,_=>simp only [e] at h;exact noSome h
    | .tup _::_,e,_=>simp only [e] at h;exact noSome h
    | .lst _::_,e,_=>simp only [e] at h;exact noSome h
    | .frl _::_,e,_=>simp only [e] at h;exact noSome h
    | .dic::_,e,_=>simp only [e] at h;exact noSome h
    | .dct _ _::_,e,_=>simp only [e] at h;exact noSome h
    | .dcz _ _::_,e,_=>simp only [e] at h;exact noSome h
    | .int _::_::_,e,_=>simp only [e] at h;exact noSome h
theorem zmr {F:Hp}{w:W}{ws:List W}{v:V} (y:Rep K F w v) (hs:seqL w=some ws):∃a vs,v=.ref a/\SqL K F a vs/\Reps K F ws vs:=by
  cases w with
  | lst xs=>obtain rfl:=sI hs;cases y with
    | lst y r=>exact⟨_,_,rfl,SqL.of' y,r⟩
  | frl xs=>obtain rfl:=sI hs;cases y with
    | frl y r=>exact⟨_,_,rfl,y,r⟩
  | _=>cases hs
theorem zu8 {g:GE}{R:It->Hp->Prop}(h:tI K (gRev g) σ H R):iRev K (zdv (tE K g) tNil) σ H R:=by
 nofun;obtain⟨F,pr,en,en',ws,Re,h,q⟩:=h;obtain⟨⟨e1,rv⟩,h1,h⟩:=bS h;obtain⟨us,hs,h⟩:=bS h;ac_rfl;cases h;refine⟨F,pr,en,e1,rv,Re,h1,fun F1 H1 v s1 R1 z=>?_⟩;nofun;obtain⟨F2,s2,R2,y⟩:=z.freeze R1;obtain⟨a,vs,e,hq,r⟩:=zmr y hs;ac_rfl;subst e;exact⟨a,vs,rfl,R2.sub.seq hq,q F2 H1 _ (s1.trans s2) R2 (z26 hq r)⟩
end
inductive Tg where
 | nm (i:Nat)
 | tp (is:List Nat)
 | nt (i:Nat) (js:List Nat)
noncomputable def setAll (mp:List Nat):List Nat->List W->En->Option En
 | [],[],en=>some en
 | i::is,w::ws,en=>if mp.contains i || !decide (i < en.length) then none else setAll mp is ws (en.set i (#v[w,6]))
 | _,_,_=>none
noncomputable def tgSet (mp:List Nat):Tg->W->En->Option En
 | .nm i,w,en=>if mp.contains i || !decide (i < en.length) then none else some (en.set i (#v[w,6]))
 | .tp is,.tup ws,en=>setAll mp is ws en
 | .tp is,.lst ws,en=>setAll mp is ws en
 | .nt i js,.tup [w,.tup ws],en=>if mp.contains i || !decide (i < en.length) then none else setAll mp js ws (en.set i (#v[w,6]))
 | _,_,_=>none
noncomputable def zgv:List Nat->TGs
 | []=>gNil
 | i::is=>zur (zlt i) (zgv is)
noncomputable def ztl (K:PySem.W.Frag) (n:Nat) (t:TGs):TG:=fun v σ H Q=>∃a xs,v=.ref a/\(SqT K H a xs\/SqL K H a xs)/\xs.length=n/\t xs σ H Q
theorem zm4 {X:Cx}{es:List Expr}{k:Nat}{t:TGs}{n:Nat}{pos:Pos}(hc:X.calm=true)(h:PGs X es t)(hn:(assignEach es X.env).length=n)(hst:(assignEach es X.env).findIdx? (·.1)=none):PG X (.Tuple es k pos) (ztl X.K n t):=by
 intro pins s σ H v u Q I r hw;nofun;obtain⟨a,xs,e1,hq,hl,hw⟩:=hw;ac_rfl;rcases hq with hq | hq
 ·exact z4r hc h hn hst pins s σ H v u Q I r ⟨a,xs,e1,hq,hl,hw⟩
 ·subst e1;cases r;nofun;obtain⟨its,rv,⟨o,m,q1,q2,_,q3⟩,hz⟩:=I.list hq;ac_rfl;rw[assign_Tuple];refine wpAny_bind (wpAny_standAt ?_);unfold unpack;have hs:(assignEach es X.env).length=its.toArray.size:=by rw[List.size_toArray,hn,<-hl,rv.length]
  rw[hs,hst];refine wpAny_bind (wpAny_holding (PySem.W.kun_itemsOf (I.ok.hd hc) ⟨o,q1,q2,m,q3⟩ fun h' hx=>?_));have I1:Inv X pins σ H { s with heap:=h' }:=I.kept (t':=s.toks) fun b o e=>hx b o (Nat.ne_of_lt (Heap.lt_size e)) e;exact h pins _ σ H xs _ Q I1 (by simpa using rv) hw
noncomputable def TGof (K:PySem.W.Frag):Tg->TG
 | .nm i=>zlt i
 | .tp is=>ztl K is.length (zgv is)
 | .nt i js=>ztl K 2 (zur (zlt i) (zur (ztl K js.length (zgv js)) gNil))
noncomputable def Keep (mp:List Nat) (σ σ' : St):Prop:=∀i∈mp,σ'[i]?=σ[i]?
theorem Keep.refl (mp:List Nat)(σ:St):Keep mp σ σ:=fun _ _=>rfl
theorem Keep.trans {mp:List Nat}{σ σ1 σ2:St}(a:Keep mp σ σ1)(b:Keep mp σ1 σ2):Keep mp σ σ2:=fun i h=>(b i h).trans (a i h)
theorem Keep.set {mp:List Nat}{σ:St}{i:Nat}(h:mp.contains i=false)(v:Option V):Keep mp σ (σ.set i v):=fun j hj=>by
 have:i≠j:=fun e=>by subst e;rw[List.contains_iff_mem.mpr hj] at h;cases h
 exact List.getElem?_set_ne this
section
variable {K:PySem.W.Frag}{F H:Hp}{pr:Prt}
theorem zdx {mp:List Nat}{Q:St->Hp->Prop}:∀{is:List Nat}{ws:List W}{vs:List V}{en en' : En}{σ:St},Rel K F pr en σ H->Reps K F ws vs->setAll mp is ws en=some en'->(∀σ',Rel K F pr en' σ' H->Keep mp σ σ'->Q σ' H)->zgv is vs σ H Q
  | [],[],_,en,en',σ,R,.nil,h,q=>by obtain rfl:=sI h;exact⟨rfl,q σ R (.refl _ _)⟩
  | i::is,w::ws,_,en,en',σ,R,.cons (v:=v) (vs:=vs) h0 r,h,q=>by
    unfold setAll at h;split at h
    · exact noSome h
    · rename_i z
      rw[Bool.or_eq_true,not_or,Bool.not_eq_true,Bool.not_eq_true,Bool.not_eq_false'] at z;refine⟨v,vs,rfl,?_⟩;exact zdx (R.store (r:=(w,false)) (i:=i) h0 (of_decide_eq_true z.2)) r h fun σ' R' k=>q σ' R' ((Keep.set z.1 _).trans k)
  | [],_::_,_,_,_,_,_,_,h,_=>by exact noSome h
  | _::_,[],_,_,_,_,_,_,h,_=>by exact noSome h
theorem ztg {mp:List Nat}:∀(is:List Nat) (ws:List W) (en en' : En),setAll mp is ws en=some en'->is.length=ws.length:=by
  intro is
  induction is with
  | nil=>intro ws en en' h;cases ws with
    | nil=>rfl
    | cons _ _=>exact noSome h
  | cons i is ih=>intro ws en en' h;cases ws with
    | nil=>exact noSome h
    | cons w ws =>
      unfold setAll at h;split at h
      · exact noSome h
      · exact congrArg (· + 1) (ih _ _ _ h)
theorem zrk {mp is:List Nat}{ws:List W}{v:V}{en en' : En}{σ:St}{Q:St->Hp->Prop}(R:Rel K F pr en σ H)(h0:Rep K F (.tup ws) v)(h:setAll mp is ws en=some en')(q:∀σ',Rel K F pr en' σ' H->Keep mp σ σ'->Q σ' H):ztl K is.length (zgv is) v σ H Q:=by
 cases h0 with
 | tup hf r=>exact⟨_,_,rfl,.inl (.inl (.inl (R.sub _ _ hf))),by rw[ztg is ws en en' h,r.length],zdx R r h q⟩
theorem zqw {mp:List Nat}{T:Tg}{w:W}{v:V}{en en' : En}{σ:St}{Q:St->Hp->Prop} (R:Rel K F pr en σ H) (h0:Rep K F w v) (h:tgSet mp T w en=some en') (q:∀σ',Rel K F pr en' σ' H->Keep mp σ σ'->Q σ' H):TGof K T v σ H Q:=by
  cases T with
  | nm i =>
    unfold tgSet at h;simp only at h;split at h
    · exact noSome h
    · rename_i z
      rw[Bool.or_eq_true,not_or,Bool.not_eq_true,Bool.not_eq_true,Bool.not_eq_false'] at z;obtain rfl:=sI h;exact q _ (R.store (r:=(w,false)) h0 (of_decide_eq_true z.2)) (Keep.set z.1 _)
  | tp is =>
    cases w with
    | tup ws=>exact zrk R h0 h q
    | lst ws =>
      cases h0 with
      | lst hf r =>
        exact⟨_,_,rfl,.inr (SqL.of' (R.sub _ _ hf)),by rw[ztg is ws en en' h,r.length],zdx R r h q⟩
    | _=>exact noSome h
  | nt i js =>
    unfold tgSet at h;split at h
    · rename_i e;cases e
    · rename_i e;cases e
    · rename_i e;cases e
    · rename_i i2 js2 u us e3
      cases e3;cases h0 with
      | tup hf r =>
        cases r with
        | cons r1 r =>
          cases r with
          | cons r2 r =>
            cases r;split at h
            · exact noSome h
            · rename_i z
              rw[Bool.or_eq_true,not_or,Bool.not_eq_true,Bool.not_eq_true,Bool.not_eq_false'] at z;exact⟨_,_,rfl,.inl (.inl (.inl (R.sub _ _ hf))),rfl,_,_,rfl,_,_,rfl,zrk (R.store (r:=(u,false)) (i:=i) r1 (of_decide_eq_true z.2)) r2 h fun σ' R' k=>⟨rfl,q σ' R' ((Keep.set z.1 _).trans k)⟩⟩
    · exact noSome h
end
inductive Fl where
 | nx | ret (r:W × Bool) | brk | cnt
noncomputable abbrev GS:=En->Option (En × Fl)
noncomputable def zvq (K:PySem.W.Frag) (mp:List Nat) (F:Hp) (pr:Prt) (σ:St) (D:Ends) (en' : En):Fl->Prop
 | .nx=>∀F' σ' H',Same F F'->Rel K F' pr en' σ' H'->Keep mp σ σ'->D.nx σ' H'
 | .brk=>∀F' σ' H',Same F F'->Rel K F' pr en' σ' H'->Keep mp σ σ'->D.bk σ' H'
 | .cnt=>∀F' σ' H',Same F F'->Rel K F' pr en' σ' H'->Keep mp σ σ'->D.ct σ' H'
 | .ret r=>∀F' σ' H' v,Same F F'->Rel K F' pr en' σ' H'->Keep mp σ σ'->Res K F' H' pr en' σ' r v->D.rt v H'
noncomputable def tS (K:PySem.W.Frag) (mp:List Nat) (g:GS):TS:=fun D σ H=>∃F pr en en' fl,Rel K F pr en σ H/\g en=some (en',fl)/\zvq K mp F pr σ D en' fl
theorem zvq.step {K:PySem.W.Frag}{mp:List Nat}{F F1:Hp}{pr:Prt}{σ σ1:St}{D:Ends}{en' : En}{fl:Fl}(s:Same F F1)(k:Keep mp σ σ1)(h:zvq K mp F pr σ D en' fl):zvq K mp F1 pr σ1 D en' fl:=by
 cases fl with
 | nx=>exact fun F' σ' H' s' R' k'=>h F' σ' H' (s.trans s') R' (k.trans k')
 | brk=>exact fun F' σ' H' s' R' k'=>h F' σ' H' (s.trans s') R' (k.trans k')
 | cnt=>exact fun F' σ' H' s' R' k'=>h F' σ' H' (s.trans s') R' (k.trans k')
 | ret r=>exact fun F' σ' H' v s' R' k' z=>h F' σ' H' v (s.trans s') R' (k.trans k') z
noncomputable def zcy:GS:=fun en=>some (en,.nx)
noncomputable def gBrk:GS:=fun en=>some (en,.brk)
noncomputable def gCnt:GS:=fun en=>some (en,.cnt)
noncomputable def gSeq (a b:GS):GS:=fun en=>match a en with
 | some (en',.nx)=>b en'
 | some (en',f)=>some (en',f)
 | none=>none
noncomputable def gRet (g:GE):GS:=fun en=>(g en).bind fun p=>some (p.1,.ret p.2)
noncomputable def z6w:GS:=fun en=>some (en,.ret (.non,false))
noncomputable def gIfS (c:GT) (a b:GS):GS:=fun en=>match c en with
 | #v[en',5]=>a en'
 | #v[en',6]=>b en'
 | none=>none
noncomputable def zc4 (g:GE):GS:=fun en=>(g en).bind fun p=>some (p.1,.nx)
noncomputable def gSet (mp:List Nat) (i:Nat) (g:GE):GS:=fun en=>(g en).bind fun p=>if mp.contains i || !decide (i < p.1.length) then none else some (p.1.set i (some p.2),.nx)
noncomputable def gAsg (mp:List Nat) (T:Tg) (g:GE):GS:=fun en=>(g en).bind fun p=>(tgSet mp T p.2.1 p.1).bind fun e=>some (e,.nx)
section
variable {K:PySem.W.Frag}{mp:List Nat}{D:Ends}{σ:St}{H:Hp}
theorem zji (h:tS K mp zcy D σ H):zz6 D σ H:=by
 obtain⟨F,pr,en,en',fl,R,h,q⟩:=h;cases h;exact q F σ H (.refl F) R (.refl _ _)
theorem zuh {a b:GS} (h:tS K mp (gSeq a b) D σ H):tSeq (tS K mp a) (tS K mp b) D σ H:=by
  nofun;obtain⟨F,pr,en,en',fl,R,h,q⟩:=h;ac_rfl;unfold gSeq at h;cases e:a en with
  | none=>simp only [e] at h;exact noSome h
  | some p =>
    obtain⟨e1,f1⟩:=p;refine⟨F,pr,en,e1,f1,R,e,?_⟩;cases f1 with
    | nx =>
      simp only [e] at h;exact fun F1 σ1 H1 s1 R1 k1=>⟨F1,pr,e1,en',fl,R1,h,q.step s1 k1⟩
    | brk=>simp only [e] at h;cases h;exact q
    | cnt=>simp only [e] at h;cases h;exact q
    | ret r=>simp only [e] at h;cases h;exact q
theorem zn3 {g:GE}(h:tS K mp (gRet g) D σ H):tRet (tE K g) D σ H:=by
 nofun;obtain⟨F,pr,en,en',fl,R,h,q⟩:=h;obtain⟨⟨e1,r⟩,h1,h⟩:=bS h;ac_rfl;cases h;exact⟨F,pr,en,e1,r,R,h1,fun F' H' v s' R' z=>q F' σ H' v s' R' (.refl _ _) z⟩
theorem zwd {c:GT}{a b:GS} (h:tS K mp (gIfS c a b) D σ H):tIfS (tT K c) (tS K mp a) (tS K mp b) D σ H:=by
  nofun;obtain⟨F,pr,en,en',fl,R,h,q⟩:=h;ac_rfl;unfold gIfS at h;cases e:c en with
  | none=>simp only [e] at h;exact noSome h
  | some p =>
    obtain⟨e1,d⟩:=p;refine⟨F,pr,en,e1,d,R,e,fun F1 H1 s1 R1=>?_⟩;cases d with
    | true=>simp only [e] at h;exact iteT ⟨F1,pr,e1,en',fl,R1,h,q.step s1 (.refl _ _)⟩
    | false=>simp only [e] at h;exact iteF ⟨F1,pr,e1,en',fl,R1,h,q.step s1 (.refl _ _)⟩
theorem zr1 {g:GE}(h:tS K mp (zc4 g) D σ H):z4s (tE K g) D σ H:=by
 nofun;obtain⟨F,pr,en,en',fl,R,h,q⟩:=h;obtain⟨⟨e1,r⟩,h1,h⟩:=bS h;ac_rfl;cases h;exact⟨F,pr,en,e1,r,R,h1,fun F' H' v s' R' z=>q F' σ H' s' R' (.refl _ _)⟩
theorem zh5 {i:Nat}{g:GE}(h:tS K mp (gSet mp i g) D σ H):tAsg (tE K g) (zlt i) D σ H:=by
 nofun;obtain⟨F,pr,en,en',fl,R,h,q⟩:=h;obtain⟨⟨e1,r⟩,h1,h⟩:=bS h;ac_rfl;split at h
 ·exact noSome h
 ·rename_i z;rw[Bool.or_eq_true,not_or,Bool.not_eq_true,Bool.not_eq_true,Bool.not_eq_false'] at z;cases h;exact⟨F,pr,en,e1,r,R,h1,fun F' H' v s' R' y=>q F' _ H' s' (R'.store y (of_decide_eq_true z.2)) (Keep.set z.1 _)⟩
noncomputable def gPar (mp:List Nat) (i j:Nat) (a b:GE):GS:=fun en=>(a en).bind fun p=>(b p.1).bind fun q=>if mp.contains i || mp.contains j || !decide (i < q.1.length) || !decide (j < q.1.length) then none else some ((q.1.set i (#v[p.2.1,6])).set j (some q.2),.nx)
theorem zwg {i j:Nat}{a b:GE} (h:tS K mp (gPar mp i j a b) D σ H):tPar i j (zdv (tE K a) (zdv (tE K b) tNil)) D σ H:=by
  nofun;obtain⟨F,pr,en,en',fl,R,h,q⟩:=h;obtain⟨⟨e1,r1⟩,h1,h⟩:=bS h;obtain⟨⟨e2,r2⟩,h2,h⟩:=bS h;ac_rfl;split at h
  · exact noSome h
  · rename_i z
    simp only [Bool.or_eq_true,not_or,Bool.not_eq_true,Bool.not_eq_false',decide_eq_true_eq] at z;refine aG fun _ qG=>?_;obtain ⟨⟨⟨z1,z2⟩,z3⟩,z4⟩:=z;refine qG ?_;clear qG;cases h;refine ⟨F,pr,en,e1,r1,R,h1,fun F1 H1 v1 s1 R1 y1=>?_⟩;refine aG fun _ qG=>?_;obtain ⟨F2,s2,R2,x1⟩:=y1.freeze R1;refine qG ?_;clear qG;refine ⟨F2,pr,e1,e2,r2,R2,h2,fun F3 H3 v2 s3 R3 y2=>⟨v1,v2,rfl,?_⟩⟩;have Ra:Rel K F3 pr (e2.set i (some (r1.1,false))) (σ.set i (some v1)) H3:=R3.store (r:=(r1.1,false)) (x1.mono s3) z3;have y2' : Res K F3 H3 pr (e2.set i (some (r1.1,false))) (σ.set i (some v1)) r2 v2:=by
      obtain⟨w2,fl2⟩:=r2;cases fl2 with
      | false=>exact y2
      | true =>
        nofun;obtain⟨a,vs,ws,q1,q2,q3,q4,q5,q6,q7⟩:=y2;ac_rfl;refine⟨a,vs,ws,q1,q2,q3,q4,q5,fun k w' hk=>?_,q7⟩;rcases zb7 z3 hk with ⟨_,e⟩ | ⟨hne,e⟩
        · cases e
        · rw[List.getElem?_set_ne (Ne.symm hne)];exact q6 k w' e
    exact q F3 _ H3 (s1.trans (s2.trans s3)) (Ra.store y2' (by rw[List.length_set];exact z4)) ((Keep.set z1 _).trans (Keep.set z2 _))
noncomputable def zap (i:Nat) (k:GE) (g:GE):GS:=fun en=>(g en).bind fun p=>match p.1[i]? with
  | some (some _)=>(k p.1).bind fun q=>match q.2,q.1[i]? with
    | (.int n,_),some (#v[ws,2])=>(ixN ws.length n).bind fun j=>some (q.1.set i (#v[(ws.set j p.2.1),2]),.nx)
    | _,_=>none
  | _=>none
theorem zpi {i:Nat}{k g:GE}(h:tS K mp (zap i k g) D σ H):tAsg (tE K g) (gSub (tVar i) (tE K k) z2j) D σ H:=by
 obtain⟨F,pr,en,en',fl,R,h,q⟩:=h;obtain⟨⟨e1,r1⟩,h1,h⟩:=bS h;refine⟨F,pr,en,e1,r1,R,h1,fun F1 H1 v1 s1 R1 y1=>?_⟩;obtain⟨F2,s2,R2,x1⟩:=y1.freeze R1;split at h
 ·rename_i x0 hx0;obtain⟨⟨e2,r2⟩,h2,h⟩:=bS h;obtain⟨w0,f0⟩:=x0;obtain⟨v0,hv0⟩:=R2.has hx0;refine⟨v0,hv0,F2,pr,e1,e2,r2,R2,h2,fun F3 H3 v2 s3 R3 y2=>?_⟩;split at h
  ·rename_i n fl2 ws eq1 eq2;simp only at eq1;subst eq1;obtain⟨j,hj,h⟩:=bS h;cases h;obtain⟨a,vs,ws',q1,q2,q3,q4,q5⟩:=R3.ownL eq2;cases q1;rw[hv0] at q2;cases q2;refine⟨a,vs,n,j,rfl,y2.isInt,q3,by rw[<-q5.length];exact hj,?_⟩;exact q F3 σ _ (s1.trans (s2.trans s3)) (R3.change eq2 hv0 (q5.set (x1.mono s3) j)) (.refl _ _)
  ·exact noSome h
 ·exact noSome h
noncomputable def gApp (i:Nat) (g:GE):GE:=fun en=>match en[i]? with
  | some (some (.lst _,true))=>(g en).bind fun p=>match p.1[i]? with
    | some (#v[ws,2])=>if ws.length < sizeLine then some (p.1.set i (#v[(ws++[p.2.1]),2]),(.non,false)) else none
    | _=>none
  | _=>none
theorem zu1 {i:Nat}{g:GE}{Q:VK}(h:tE K (gApp i g) σ H Q):tBM K "list" zqc (tVar i) (zdv (tE K g) tNil) σ H Q:=by
 nofun;obtain⟨F,pr,en,en',r,R,h,q⟩:=h;ac_rfl;unfold gApp at h;split at h
 ·rename_i w0 hx0;nofun;obtain⟨a,vs,ws0,q1,q2,q3,q4,q5⟩:=R.ownL hx0;obtain⟨⟨e1,r1⟩,h1,h⟩:=bS h;ac_rfl;refine⟨.ref a,q2,.inl ⟨rfl,vs,SqL.of' q3⟩,F,pr,en,e1,r1,R,h1,fun F1 H1 v1 s1 R1 y1=>?_⟩;nofun;obtain⟨F2,s2,R2,x1⟩:=y1.freeze R1;ac_rfl;split at h
  ·rename_i ws hx1;split at h
   ·rename_i hz;cases h;nofun;obtain⟨a',vs',ws',p1,p2,p3,p4,p5⟩:=R2.ownL hx1;ac_rfl;cases p1;rw[q2] at p2;cases p2;refine⟨a,vs',v1,rfl,rfl,p3,by rw[<-p5.length];exact hz,?_⟩;exact q F2 _ _ (s1.trans s2) (R2.change hx1 q2 (p5.append (.cons x1 .nil))) .non
   ·exact noSome h
  ·exact noSome h
 ·exact noSome h
noncomputable def gExt (i:Nat) (g:GE):GE:=fun en=>match en[i]? with
  | some (some (.lst _,true))=>(g en).bind fun p=>match p.2.1,p.1[i]? with
    | .lst us,some (#v[ws,2])=>if ws.length+us.length<=sizeLine then some (p.1.set i (#v[(ws++us),2]),(.non,false)) else none
    | _,_=>none
  | _=>none
noncomputable def gAug (mp:List Nat) (o:O2) (i:Nat) (g:GA):GS:=fun en=>match en[i]? with
 | some (#v[w,6])=>(g en).bind fun p=>(resA p.1 p.2).bind fun u=>(o w u).bind fun r=>if mp.contains i || !decide (i < p.1.length) then none else some (p.1.set i (some r),.nx)
 | _=>none
noncomputable def zjo (mp:List Nat) (T:Tg) (body:GS):List W->En->Option (En × Fl)
  | [],en=>some (en,.nx)
  | w::ws,en=>(tgSet mp T w en).bind fun e1=>match body e1 with
    | some (e2,.nx)=>zjo mp T body ws e2
    | some (e2,.cnt)=>zjo mp T body ws e2
    | some (e2,.brk)=>some (e2,.nx)
    | some (e2,.ret r)=>some (e2,.ret r)
    | none=>none
noncomputable def gFor (mp:List Nat) (T:Tg) (it:GL) (body:GS):GS:=fun en=>(it en).bind fun p=>zjo mp T body p.2 p.1
theorem zu5 {T:Tg}{it:GL}{body:GS} (h:tS K mp (gFor mp T it body) D σ H):tFor (tI K it) (TGof K T) (tS K mp body) D σ H:=by
  nofun;obtain⟨F,pr,en,en',fl,R,h,q⟩:=h;obtain⟨⟨e1,ws⟩,h1,h⟩:=bS h;ac_rfl;refine⟨F,pr,en,e1,ws,R,h1,fun F1 H1 J s1 R1 ok=>?_⟩;refine⟨fun i m σ' H'=>m=ws.length - i/\i<=ws.length/\∃F' e',Same F1 F'/\Rel K F' pr e' σ' H'/\Keep mp σ σ'/\zjo mp T body (ws.drop i) e'=some (en',fl),⟨_,rfl,Nat.zero_le _,F1,e1,.refl _,R1,.refl _ _,by simpa using h⟩,?_⟩;rintro i m σ' H' ⟨rfl,hi,F',e',s',R',k',hl⟩;by_cases hlt:i < ws.length
  · refine .inr ⟨ok.go i H' (s'.trans R'.sub) hlt, ?_⟩
    have hd:ws.drop i=ws[i]::ws.drop (i+1):=(List.drop_eq_getElem_cons hlt);rw[hd] at hl;obtain⟨e2,h2,hl⟩:=bS (show (tgSet mp T ws[i] e').bind _=_ from hl);refine⟨fun σ2 H2=>∃F2 e3,Same F1 F2/\Rel K F2 pr e3 σ2 H2/\Keep mp σ σ2/\zjo mp T body (ws.drop (i+1)) e3=some (en',fl),?_,?_⟩
    · rintro σ2 H2 ⟨F2, e3, s2, R2, k2, hl2⟩
      exact⟨ws.length - (i+1),by omega,rfl,hlt,F2,e3,s2,R2,k2,hl2⟩
    · intro x H2 y
      obtain⟨w,ew,out⟩:=ok.yld i H' x H2 (s'.trans R'.sub) hlt y;rw[List.getElem?_eq_getElem hlt] at ew;obtain rfl:=sI ew;nofun;obtain⟨F3,s3,R3,z⟩:=(out.mono s').close R';ac_rfl;refine zqw (w:=ws[i]) R3 z h2 fun σ3 R4 k4=>?_;cases eb:body e2 with
      | none=>simp only [eb] at hl;exact noSome hl
      | some p =>
        obtain⟨e5,f5⟩:=p;refine⟨F3,pr,e2,e5,f5,R4,eb,?_⟩;have sF:Same F1 F3:=s'.trans s3;cases f5 with
        | nx =>
          simp only [eb] at hl;exact fun F6 σ6 H6 s6 R6 k6=>⟨F6,e5,sF.trans s6,R6,(k'.trans k4).trans k6,hl⟩
        | cnt =>
          simp only [eb] at hl;exact fun F6 σ6 H6 s6 R6 k6=>⟨F6,e5,sF.trans s6,R6,(k'.trans k4).trans k6,hl⟩
        | brk =>
          simp only [eb] at hl;cases hl;exact fun F6 σ6 H6 s6 R6 k6=>q F6 σ6 H6 (s1.trans (sF.trans s6)) R6 ((k'.trans k4).trans k6)
        | ret r =>
          simp only [eb] at hl;cases hl;exact fun F6 σ6 H6 v s6 R6 k6 z=>q F6 σ6 H6 v (s1.trans (sF.trans s6)) R6 ((k'.trans k4).trans k6) z
  · have e : i = ws.length := by omega
    subst e;rw[List.drop_length] at hl;cases hl;exact .inl ⟨ok.stop H' (s'.trans R'.sub),q F' σ' H' (s1.trans s') R' k'⟩
end
section
variable {X:Cx}
end
section
variable {K:PySem.W.Frag}{σ:St}{H:Hp}
noncomputable def intW:W->Option Int
 | .int k=>some k
 | _=>none
end
section
variable {prog:Program}{w:World}{A:Around}{E:Value->Shared->Prop}{s:Shared}{it d:Addr}{o:Obj}{es:Array DictEntry}{i ep:Nat}
end
section
variable {X:Cx}{tg:Expr}
end
section
variable {K:PySem.W.Frag}{F F' H:Hp}{pr:Prt}{en:En}{σ:St}
end
theorem Rel.drop {K:PySem.W.Frag}{F H:Hp}{pr:Prt}{en:En}{σ:St}(R:Rel K F pr en σ H){i:Nat}{w:W}(e:en[i]?=some (#v[w,5])):∃v,σ[i]?=some (some v)/\Rel K F pr (en.set i none) σ H/\Res K F H pr (en.set i none) σ (w,true) v:=by
 have hi:i < en.length:=(List.getElem?_eq_some_iff.mp e).1;nofun;obtain⟨a,vs,ws,h1,h2,h3,h4,h5⟩:=R.own i w e;ac_rfl;have g:∀(j:Nat) (x:W × Bool),(en.set i none)[j]?=some (some x)->j≠i/\en[j]?=some (some x):=fun j x h=>by
  rcases zb7 hi h with ⟨_,q⟩ | z
  ·cases q
  ·exact z
 refine⟨_,h2,⟨by rw[List.length_set];exact R.len,R.sub,fun j u q=>R.val j u (g j _ q).2,fun j u q=>R.own j u (g j _ q).2,fun j k b u u' q q'=>R.inj j k b u u' (g j _ q).2 (g k _ q').2,fun b o q=>⟨(R.prt b o q).1,(R.prt b o q).2.1,fun j u z=>(R.prt b o q).2.2 j u (g j _ z).2⟩,R.tb⟩,a,vs,ws,h1,rfl,h3,h4,h5,fun j u q z=>?_,fun b o q z=>?_⟩
 ·exact (g j _ q).1 (R.inj j i a _ _ (g j _ q).2 e z h2)
 ·subst z;exact (R.prt b o q).2.2 i w e h2
section
variable {prog:Program}{w:World}{A:Around}{E:Value->Shared->Prop}{s:Shared}{d:Addr}{o:Obj}{es:Array DictEntry}{ep:Nat}
theorem z3n {Q:Value->Shared->Prop} (hd:(d == sysModules)=false) (ho:s.heap.get? d=some o) (hx:o.ExactDict) (hdat:o.data=.dict es ep) (hfit:(es.size:Int) < 2 ^ 63)
  (h:∀t tk,Q (.int es.size t) { s with toks:=tk }):wpAny (model prog w) A (call (.builtin "len") [.ref d]) Q E s:=by
 have hT:s.TypeIs (.ref d) "dict" := ⟨o,ho,hx.1⟩;refine Calls.call_function_entry kind_len plain_len entry_len (args_len1 _) ?_;unfold Builtin.«len»;refine wpAny_bind (m:=oneArg "len" _) (wpAny_pure ?_);refine wpAny_bind (m:=callSpecial? (.ref d) (Str.ofString "__len__")) (wpAny_callSpecial?_slot (name:=Str.ofString "__len__") hT F.slot_dict_len (wpAny_call_entry F.slot_dict_len hT F.entry_dict_len ?_ (F.args_dict_len_1 _)));show wpAny _ _ (dictSize d >>= _) _ _ s;unfold dictSize;refine wpAny_bind (wpAny_bind (wpAny_dictEntries ho hdat (wpAny_pure ?_)));show wpAny _ _ (Builtin.Dict.pendingCount d >>= _) _ _ s;refine wpAny_bind (wpAny_pendingCount_other hd ?_);refine wpAny_bind (wpAny_mkInt (wpAny_pure ⟨_,rfl,?_⟩));rw[Nat.add_zero];show wpAny _ _ _ _ _ { s with toks:=s.toks+1 };refine wpAny_bind (wpAny_holding (wpAny_pure ?_));refine wpAny_bind (wpAny_letGo ?_);show wpAny _ _ (if ((es.size:Nat):Int) < 0 then _ else _) _ _ _;rw[if_neg #v[]];show wpAny _ _ (if ((es.size:Nat):Int) ≥ 2 ^ 63 then _ else _) _ _ _;rw[if_neg #v[]];exact wpAny_bind (wpAny_mkInt (wpAny_pure ⟨_,rfl,h _ _⟩))
end
noncomputable abbrev Cap:=List (Option Nat)
noncomputable def zee (cap:Cap) (en:En):En:=cap.map fun o=>match o with
 | some i=>(en[i]?).getD none
 | none=>none
noncomputable def zal (cap:Cap) (i:Nat):Option Nat:=cap.findIdx? (· == some i)
noncomputable def zbl (cap:Cap):Bool:=(List.range cap.length).all fun j=>match cap[j]? with
 | some (some i)=>zal cap i == some j
 | _=>true
noncomputable def capKeep (cap:Cap):List Nat:=(List.range cap.length).filter fun j=>match cap[j]? with
 | some (some _)=>true
 | _=>false
noncomputable def zan (cap:Cap) (en ce:En):En:=en.mapIdx fun i x=>match zal cap i with
 | some j=>(ce[j]?).getD none
 | none=>x
theorem za5 {cap:Cap}{i j:Nat}(h:zal cap i=some j):cap[j]?=some (some i):=by
 unfold zal at h;obtain⟨hl,h1,_⟩:=List.findIdx?_eq_some_iff_getElem.mp h;rw[List.getElem?_eq_getElem hl];have:cap[j]=some i:=by simpa using h1
 rw[this]
theorem zcd {cap:Cap}{i:Nat}(h:zal cap i=none)(j:Nat):cap[j]?≠some (some i):=fun e=>by
 unfold zal at h;have:=List.findIdx?_eq_none_iff.mp h (some i) (List.mem_of_getElem? e);simp at this
theorem ze4 {cap:Cap}(h:zbl cap=true){i j:Nat}(e:cap[j]?=some (some i)):zal cap i=some j:=by
 unfold zbl at h;have hj:j < cap.length:=(List.getElem?_eq_some_iff.mp e).1;have:=List.all_eq_true.mp h j (List.mem_range.mpr hj);simp only [e] at this;simpa using this
theorem zla {cap:Cap}{i j:Nat}(e:cap[j]?=some (some i)):j∈capKeep cap:=by
 unfold capKeep;exact List.mem_filter.mpr ⟨List.mem_range.mpr (List.getElem?_eq_some_iff.mp e).1,by simp only [e]⟩
theorem zdb {cap:Cap}{en:En}{j:Nat}{x:W × Bool} (h:(zee cap en)[j]?=some (some x)):∃i,cap[j]?=some (some i)/\en[i]?=some (some x):=by
  unfold zee at h;rw[List.getElem?_map] at h;cases e:cap[j]? with
  | none=>rw[e] at h;exact noSome h
  | some o =>
    rw[e] at h;cases o with
    | none=>cases h
    | some i =>
      refine⟨i,rfl,?_⟩;have h' : (en[i]?).getD none=some x:=sI h;cases e2:en[i]? with
      | none=>rw[e2] at h';exact noSome h'
      | some z=>rw[e2] at h';exact congrArg some h'
theorem zno {cap:Cap}{σ:St}{i j:Nat}(h:cap[j]?=some (some i)):(capSt cap σ)[j]?=some ((σ[i]?).getD none):=by
 unfold capSt;rw[List.getElem?_map,h]
 rfl
theorem zek {cap:Cap}{σ:St}{i j:Nat}{v:V}(h:cap[j]?=some (some i))(hv:σ[i]?=some (some v)):(capSt cap σ)[j]?=some (some v):=by
 rw[zno h,hv];rfl
theorem backEn_get {cap:Cap}{en ce:En}{i:Nat}{x:W × Bool} (h:(zan cap en ce)[i]?=some (some x)):(∃j,zal cap i=some j/\ce[j]?=some (some x))\/(zal cap i=none/\en[i]?=some (some x)):=by
  unfold zan at h;rw[List.getElem?_mapIdx] at h;cases e:en[i]? with
  | none=>rw[e] at h;exact noSome h
  | some o =>
    rw[e] at h;cases c:zal cap i with
    | none=>simp only [c,Option.map_some] at h;exact .inr ⟨rfl,h⟩
    | some j =>
      simp only [c,Option.map_some] at h;have h' : (ce[j]?).getD none=some x:=sI h;refine .inl ⟨j,rfl,?_⟩;cases e2:ce[j]? with
      | none=>rw[e2] at h';exact noSome h'
      | some z=>rw[e2] at h';exact congrArg some h'
noncomputable def zbj (pr:Prt) (cap:Cap) (en:En) (σ:St) (H:Hp):Prt:=fun b o=>pr b o\/∃(j:Nat) (w:W),en[j]?=some (#v[w,5])/\zal cap j=none/\σ[j]?=some (some (V.ref b))/\H b=some o
noncomputable def zgq (pb:Prt) (acc:Addr) (vs:List V):Prt:=fun b o=>pb b o\/(b=acc/\o=.lst vs)
section
variable {K:PySem.W.Frag}{F H:Hp}{pr pb:Prt}{en:En}{σ:St}
theorem Rel.ownT (R:Rel K F pr en σ H){j:Nat}{w:W}{b:Addr}{ps:Array Value}(e:en[j]?=some (#v[w,5]))(s:σ[j]?=some (some (V.ref b))):H b≠some (.tbl ps):=fun z=>by
 obtain⟨a,o,w',_,h2,h3,_,h5⟩:=R.own j w e;rw[s] at h2;cases h2;rw[z] at h3;obtain rfl:=sI h3;cases h5
theorem zgz {cap:Cap}{b:Addr}{ps:Array Value}(R:Rel K F pr en σ H)(e:H b=some (.tbl ps))(hh:∀o,¬ pr b o):∀o,¬ zbj pr cap en σ H b o:=fun o z=>by
 rcases z with z | ⟨j,w,q1,_,q2,_⟩
 ·exact hh o z
 ·exact R.ownT q1 q2 e
theorem zg2 {cap:Cap}{b:Addr}{xs:List V}(R:Rel K F pr en σ H)(z:zbj pr cap en σ H b (.tup xs)):pr b (.tup xs):=by
 rcases z with z | ⟨j,w,q1,_,q2,q3⟩
 ·exact z
 ·obtain⟨a, o, w', _, h2, h3, _, h5⟩ := R.own j w q1;rw[q2] at h2;cases h2;rw[q3] at h3;obtain rfl:=sI h3;cases h5
theorem Rel.accUpd {acc:Addr}{vs us:List V}(R:Rel K F (zgq pb acc vs) en σ H)(hb:∀b o,pb b o->b≠acc):Rel K F (zgq pb acc us) en σ (upd H acc (.lst us)):=by
 obtain⟨a1,a2,a3⟩:=R.prt acc (.lst vs) (.inr ⟨rfl,rfl⟩);have nt:∀b ps,H b=some (.tbl ps)->b≠acc:=fun b ps e z=>by subst z;rw[a1] at e;cases e
 have nx:∀b φ,H b=some (.ext φ)->b≠acc:=fun b φ e z=>by subst z;rw[a1] at e;cases e
 refine⟨R.len,fun b o e=>?_,R.val,fun i w e=>?_,R.inj,fun b o q=>?_,R.tb.go (fun b xs z=>z.elim .inl fun z=>nomatch z.2) (fun b ps e f=>⟨by rw[upd_ne (nt b ps e)];exact e,f⟩) (.refl F) fun b ps e hh o z=>z.elim (fun z=>hh o (.inl z)) fun z=>nt b ps e z.1⟩
 ·have : b ≠ acc := fun z => by subst z; rw[a2] at e; exact noSome e
  rw[upd_ne this];exact R.sub _ _ e
 ·refine aG fun Gg qG => ?_;obtain⟨a,vs',ws,h1,h2,h3,h4,h5⟩:=R.own i w e;ac_rfl;have:a≠acc:=fun z=>by subst z;exact a3 i w e h2
  exact⟨a,vs',ws,h1,h2,by rw[upd_ne this];exact h3,h4,h5⟩
 ·rcases q with q | ⟨rfl, rfl⟩
  ·obtain⟨b1, b2, b3⟩ := R.prt b o (.inl q);exact⟨by rw[upd_ne (hb b o q)];exact b1,b2,b3⟩
  ·exact⟨upd_same,a2,a3⟩
theorem zs7 {cap:Cap}{acc:Addr}(R:Rel K F pr en σ H)(hn:H acc=none):∀b o,zbj pr cap en σ H b o->b≠acc:=fun b o q=>by
 rcases q with q | ⟨j,w,_,_,_,q⟩
 ·exact zab (R.prt b o q).1 hn
 ·exact zab q hn
theorem Rel.block {cap:Cap}{acc:Addr}(R:Rel K F pr en σ H)(hn:H acc=none)(nd:zbl cap=true):Rel K F (zgq (zbj pr cap en σ H) acc []) (zee cap en) (capSt cap σ) (upd H acc (.lst [])):=by
 have fa:F acc=none:=R.sub.free hn;have R2:=R.lay hn (.lst []);refine⟨by unfold zee capSt;rw[List.length_map,List.length_map],R2.sub,fun j w e=>?_,fun j w e=>?_,fun j l a w w' e1 e2 q1 q2=>?_,fun b o q=>?_,R.tb.go (fun b xs z=>z.elim (zg2 R) fun z=>nomatch z.2) (fun b ps e f=>⟨by rw[upd_ne (zab e hn)];exact e,f⟩) (.refl F) fun b ps e hh o z=>z.elim (zgz R e hh o) fun z=>zab e hn z.1⟩
 ·refine aG fun Gg qG => ?_;obtain⟨i,c,e⟩:=zdb e;obtain⟨v,h1,h2⟩:=R.val i w e;ac_rfl;exact⟨v,zek c h1,h2⟩
 ·refine aG fun Gg qG => ?_;obtain⟨i,c,e⟩:=zdb e;obtain⟨a,vs,ws,h1,h2,h3,h4,h5⟩:=R2.own i w e;ac_rfl;exact⟨a,vs,ws,h1,zek c h2,h3,h4,h5⟩
 ·refine aG fun Gg qG => ?_;obtain⟨i,c1,e1⟩:=zdb e1;obtain⟨k,c2,e2⟩:=zdb e2;obtain⟨i',c1',q1⟩:=capSt_get q1;obtain⟨k',c2',q2⟩:=capSt_get q2;ac_rfl;rw[c1] at c1';cases c1';rw[c2] at c2';cases c2';have:=R.inj i k a _ _ e1 e2 q1 q2;subst this;have x:=ze4 nd c1;rw[ze4 nd c2] at x;exact (sI x).symm
 ·have own2:∀(j:Nat) (w:W),(zee cap en)[j]?=some (some (w,true))->∃(i:Nat) (a:Addr),cap[j]?=some (some i)/\en[i]?=some (some (w,true))/\σ[i]?=some (some (V.ref a))/\(capSt cap σ)[j]?=some (some (V.ref a))/\∃o,H a=some o:=fun j w e=>by
   nofun;obtain⟨i,c,e⟩:=zdb e;obtain⟨a,vs,ws,h1,h2,h3,h4,h5⟩:=R.own i w e;ac_rfl;exact⟨i,a,c,e,h2,zek c h2,_,h3⟩
  rcases q with (q | ⟨j0,w0,e0,c0,s0,h0⟩) | ⟨rfl,rfl⟩
  ·obtain⟨b1, b2, b3⟩ := R2.prt b o q;refine⟨b1,b2,fun j w e=>?_⟩;nofun;obtain⟨i,a,_,e,h2,h3,_⟩:=own2 j w e;ac_rfl;rw[h3];intro z;cases z;exact b3 i w e h2
  ·refine aG fun Gg qG => ?_;obtain⟨a,vs,ws,h1,h2,h3,h4,h5⟩:=R.own j0 w0 e0;ac_rfl;rw[s0] at h2;cases h2;refine⟨by rw[upd_ne (zab h0 hn)];exact h0,h4,fun j w e=>?_⟩;nofun;obtain⟨i,a,c,e,h2,h3,_⟩:=own2 j w e;ac_rfl;rw[h3];intro z;cases z;have:=R.inj i j0 _ _ _ e e0 h2 s0;subst this;exact zcd c0 j c
  ·refine⟨upd_same, fa, fun j w e => ?_⟩;nofun;obtain⟨i,a,c,e,h2,h3,o,h4⟩:=own2 j w e;ac_rfl;rw[h3];intro z;cases z;rw[hn] at h4;exact noSome h4
theorem Rel.unblock {cap:Cap}{acc:Addr}{F' H' : Hp}{ce:En}{σc:St}{vs:List V}{ws:List W} (R:Rel K F pr en σ H) (hn:H acc=none) (s:Same F F') (Rc:Rel K F' (zgq (zbj pr cap en σ H) acc vs) ce σc H') (kp:Keep (capKeep cap) (capSt cap σ) σc) (rs:Reps K F' ws vs) :
  Rel K F' pr (zan cap en ce) σ H'/\Res K F' H' pr (zan cap en ce) σ (.lst ws,true) (.ref acc):=by
 have slot:∀(i j:Nat) (v:V),zal cap i=some j->σc[j]?=some (some v)->σ[i]?=some (some v):=fun i j v c e=>by
  have c':=za5 c;rw[kp j (zla c'),zno c'] at e;have e' : (σ[i]?).getD none=some v:=sI e;cases q:σ[i]? with
  | none=>rw[q] at e';exact noSome e'
  | some z=>rw[q] at e';exact congrArg some e'
 obtain⟨a1,a2,a3⟩:=Rc.prt acc (.lst vs) (.inr ⟨rfl,rfl⟩);have un:∀(i:Nat) (w:W),zal cap i=none->en[i]?=some (#v[w,5])->∃(a:Addr) (vs:HO) (ws:W),w=ws/\σ[i]?=some (some (V.ref a))/\H a=some vs/\H' a=some vs/\F' a=none/\OwnR K F ws vs/\∀(j:Nat) (w' : W),ce[j]?=some (#v[w',5])->σc[j]?≠some (some (V.ref a)):=fun i w c e=>by
  nofun;obtain⟨a,vs,ws,h1,h2,h3,h4,h5⟩:=R.own i w e;obtain⟨b1,b2,b3⟩:=Rc.prt a vs (.inl (.inr ⟨i,w,e,c,h2,h3⟩));ac_rfl;exact⟨a,vs,ws,h1,h2,h3,b1,b2,h5,b3⟩
 have capt:∀(i j:Nat) (w:W),zal cap i=some j->ce[j]?=some (#v[w,5])->∃(a:Addr) (vs:HO) (ws:W),w=ws/\σ[i]?=some (some (V.ref a))/\σc[j]?=some (some (V.ref a))/\H' a=some vs/\F' a=none/\OwnR K F' ws vs:=fun i j w c e=>by
  nofun;obtain⟨a,vs,ws,h1,h2,h3,h4,h5⟩:=Rc.own j w e;ac_rfl;exact⟨a,vs,ws,h1,slot i j _ c h2,h2,h3,h4,h5⟩
 refine⟨⟨by unfold zan;rw[List.length_mapIdx];exact R.len,Rc.sub,fun i w e=>?_,fun i w e=>?_,fun i k a w w' e1 e2 q1 q2=>?_,fun b o q=>?_,Rc.tb.go (fun b xs z=>.inl (.inl z)) (fun b ps e f=>⟨e,f⟩) (.refl F') fun b ps e hh o z=>hh o (.inl (.inl z))⟩,acc,_,_,rfl,rfl,a1,a2,.lst rs,fun i w e=>?_,fun b o q=>zab (R.prt b o q).1 hn⟩
 ·rcases backEn_get e with ⟨j, c, e⟩ | ⟨c, e⟩
  ·obtain⟨v, h1, h2⟩ := Rc.val j w e;exact⟨v,slot i j v c h1,h2⟩
  ·obtain⟨v, h1, h2⟩ := R.val i w e;exact⟨v,h1,h2.mono s⟩
 ·rcases backEn_get e with ⟨j, c, e⟩ | ⟨c, e⟩
  ·refine aG fun Gg qG => ?_;obtain⟨a,vs,ws,h1,h2,_,h3,h4,h5⟩:=capt i j w c e;ac_rfl;exact⟨a,vs,ws,h1,h2,h3,h4,h5⟩
  ·refine aG fun Gg qG => ?_;obtain⟨a,vs,ws,h1,h2,_,h3,h4,h5,_⟩:=un i w c e;ac_rfl;exact⟨a,vs,ws,h1,h2,h3,h4,h5.mono s⟩
 ·rcases backEn_get e1 with ⟨j, c, e1⟩ | ⟨c, e1⟩
  ·refine aG fun Gg qG => ?_;obtain⟨a',_,_,_,h2,h3,_⟩:=capt i j w c e1;ac_rfl;rw[q1] at h2;cases h2;rcases backEn_get e2 with ⟨l,c2,e2⟩ | ⟨c2,e2⟩
   ·refine aG fun Gg qG => ?_;obtain⟨a',_,_,_,g2,g3,_⟩:=capt k l w' c2 e2;ac_rfl;rw[q2] at g2;cases g2;have:=Rc.inj j l a _ _ e1 e2 h3 g3;subst this;have x:=za5 c;rw[za5 c2] at x;cases x;rfl
   ·refine aG fun Gg qG => ?_;obtain⟨a',_,_,_,g2,_,_,_,_,g3⟩:=un k w' c2 e2;ac_rfl;rw[q2] at g2;cases g2;exact absurd h3 (g3 j w e1)
  ·refine aG fun Gg qG => ?_;obtain⟨a',_,_,_,h2,_,_,_,_,h3⟩:=un i w c e1;ac_rfl;rw[q1] at h2;cases h2;rcases backEn_get e2 with ⟨l,c2,e2⟩ | ⟨c2,e2⟩
   ·refine aG fun Gg qG => ?_;obtain⟨a',_,_,_,g2,g3,_⟩:=capt k l w' c2 e2;ac_rfl;rw[q2] at g2;cases g2;exact absurd g3 (h3 l w' e2)
   ·exact R.inj i k a _ _ e1 e2 q1 q2
 ·obtain⟨b1, b2, b3⟩ := Rc.prt b o (.inl (.inl q));refine⟨b1,b2,fun i w e=>?_⟩;rcases backEn_get e with ⟨j,c,e⟩ | ⟨c,e⟩
  ·refine aG fun Gg qG => ?_;obtain⟨a,_,_,_,h2,h3,_⟩:=capt i j w c e;ac_rfl;rw[h2];intro z;cases z;exact b3 j w e h3
  ·exact (R.prt b o q).2.2 i w e
 ·rcases backEn_get e with ⟨j, c, e⟩ | ⟨c, e⟩
  ·refine aG fun Gg qG => ?_;obtain⟨a,_,_,_,h2,h3,_⟩:=capt i j w c e;ac_rfl;rw[h2];intro z;cases z;exact a3 j w e h3
  ·refine aG fun Gg qG => ?_;obtain⟨a,_,_,_,h2,h3,_⟩:=un i w c e;ac_rfl;rw[h2];intro z;cases z;rw[hn] at h3;exact noSome h3
end
noncomputable def zfo (mp:List Nat) (T:Tg) (tc:GT) (te:GE):List W->En->Option (En × List W)
  | [],ce=>some (ce,[])
  | w::ws,ce=>(tgSet mp T w ce).bind fun c1=>match tc c1 with
    | #v[c2,5]=>(te c2).bind fun p=>(zfo mp T tc te ws p.1).bind fun q=>some (q.1,p.2.1::q.2)
    | #v[c2,6]=>zfo mp T tc te ws c2
    | none=>none
noncomputable def zaz (cap:Cap) (T:Tg) (it:GL) (tc:GT) (te:GE):GE:=fun en=>(it en).bind fun p=>if zbl cap && decide (p.2.length<=sizeLine) then (zfo (capKeep cap) T tc te p.2 (zee cap p.1)).bind fun q=>some (zan cap p.1 q.1,(.lst q.2,true)) else none
noncomputable def gYes:GT:=fun en=>#v[en,5]
noncomputable def zes (mp:List Nat) (T:Tg) (tc:GT) (em:GL):List W->En->Option (En × List W)
  | [],ce=>some (ce,[])
  | w::ws,ce=>(tgSet mp T w ce).bind fun c1=>match tc c1 with
    | #v[c2,5]=>(em c2).bind fun p=>(zes mp T tc em ws p.1).bind fun q=>some (q.1,p.2++q.2)
    | #v[c2,6]=>zes mp T tc em ws c2
    | none=>none
noncomputable def gOne (te:GE):GL:=fun en=>(te en).bind fun p=>some (p.1,[p.2.1])
noncomputable def zyg (cap:Cap) (T:Tg) (it:GL) (tc:GT) (em:GL):GE:=fun en=>(it en).bind fun p=>if zbl cap then (zes (capKeep cap) T tc em p.2 (zee cap p.1)).bind fun q=>if q.2.length<=sizeLine then some (zan cap p.1 q.1,(.lst q.2,true)) else none else none
theorem zf8 {mp:List Nat}{T:Tg}{tc:GT}{te:GE}:∀{ws:List W}{ce ce' : En}{out:List W},zfo mp T tc te ws ce=some (ce',out)->zes mp T tc (gOne te) ws ce=some (ce',out)/\out.length<=ws.length
  | [],_,_,_,h=>by cases h;exact⟨rfl,Nat.le_refl _⟩
  | w::ws,ce,ce',out,h=>by
    obtain ⟨c1,h1,h⟩:=bS (show (tgSet mp T w ce).bind _=_ from h);have e:zes mp T tc (gOne te) (w::ws) ce=match tc c1 with
      | #v[c2,5]=>(gOne te c2).bind fun p=>(zes mp T tc (gOne te) ws p.1).bind fun q=>some (q.1,p.2++q.2)
      | #v[c2,6]=>zes mp T tc (gOne te) ws c2
      | none=>none:=by rw[zes,h1];rfl
    rw[e];cases et:tc c1 with
    | none=>simp only [et] at h;exact noSome h
    | some p =>
      obtain⟨c2,b⟩:=p;cases b with
      | false=>simp only [et] at h;exact⟨(zf8 h).1,Nat.le_succ_of_le (zf8 h).2⟩
      | true =>
        simp only [et] at h;obtain⟨⟨c3,rv⟩,h5,h⟩:=bS h;obtain⟨⟨c4,rest⟩,h6,h⟩:=bS h;cases h;refine⟨?_,Nat.succ_le_succ (zf8 h6).2⟩;show (gOne te c2).bind _=_;rw[gOne,h5];show (zes mp T tc (gOne te) ws c3).bind _=_;rw[(zf8 h6).1]
        rfl
noncomputable def MOk (K:PySem.W.Frag) (mp:List Nat) (pb:Prt) (acc:Addr) (em:GL) (tm:TM):Prop:=∀(F:Hp) (ce:En) (σ:St) (H:Hp) (vs:List V) (ce' : En) (out:List W) (N:St->Hp->Prop),Rel K F (zgq pb acc vs) ce σ H->em ce=some (ce',out)->vs.length+out.length<=sizeLine ->
 (∀F' σ' H' us,Same F F'->Rel K F' (zgq pb acc (vs++us)) ce' σ' H'->Keep mp σ σ'->Reps K F' out us->N σ' H')->tm σ H N
section
variable {K:PySem.W.Frag}{mp:List Nat}{pb:Prt}{acc:Addr}
theorem z67 {te:GE}(hb:∀b o,pb b o->b≠acc):MOk K mp pb acc (gOne te) (zxa acc (tE K te)):=by
 intro F ce σ H vs ce' out N R h hz q;nofun;obtain⟨⟨c3,rv⟩,h5,h⟩:=bS h;ac_rfl;cases h;refine⟨F,_,ce,c3,rv,R,h5,fun F6 H6 v s6 R6 y6=>?_⟩;nofun;obtain⟨F7,s7,R7,y7⟩:=y6.freeze R6;obtain⟨a1,_,_⟩:=R7.prt acc (.lst vs) (.inr ⟨rfl,rfl⟩);ac_rfl;exact⟨vs,a1,hz,q F7 σ _ [v] (s6.trans s7) (R7.accUpd hb) (.refl _ _) (.cons y7 .nil)⟩
theorem z17 {em:GL}{tm:TM}{T:Tg}{tc:GT}{F1:Hp}{vs0:List V}{ce0 ce' : En}{σ0:St}{H0:Hp}{J:It}{ws out:List W}{N0:St->Hp->Prop} (M:MOk K mp pb acc em tm) (R:Rel K F1 (zgq pb acc vs0) ce0 σ0 H0) (ok:ItOk K F1 J ws) (h:zes mp T tc em ws ce0=some (ce',out)) (hz:vs0.length+out.length<=sizeLine)
    (q:∀F' σ' H' us,Same F1 F'->Rel K F' (zgq pb acc (vs0++us)) ce' σ' H'->Keep mp σ0 σ'->Reps K F' out us->N0 σ' H'):znu J (TGof K T) (tT K tc) tm σ0 H0 N0:=by
  refine ⟨fun i m σc Hc=>m=ws.length - i/\i<=ws.length/\∃F' ce dn us rest,Same F1 F'/\Rel K F' (zgq pb acc (vs0++us)) ce σc Hc/\Keep mp σ0 σc/\Reps K F' dn us/\zes mp T tc em (ws.drop i) ce=some (ce',rest)/\dn++rest=out,
    ⟨_,rfl,Nat.zero_le _,F1,ce0,[],[],out,.refl _,by rw[List.append_nil];exact R,.refl _ _,.nil,h,rfl⟩,?_⟩
  rintro i m σc Hc ⟨rfl,hi,F',ce,dn,us,rest,s',R',k',rd,hl,ho⟩;by_cases hlt:i < ws.length
  · refine .inr ⟨ok.go i Hc (s'.trans R'.sub) hlt, ?_⟩
    have hd:ws.drop i=ws[i]::ws.drop (i+1):=(List.drop_eq_getElem_cons hlt);rw[hd] at hl;obtain⟨c1,h3,hl⟩:=bS (show (tgSet mp T ws[i] ce).bind _=_ from hl);refine⟨fun σ2 H2=>∃F' ce dn us rest,Same F1 F'/\Rel K F' (zgq pb acc (vs0++us)) ce σ2 H2/\Keep mp σ0 σ2/\Reps K F' dn us/\zes mp T tc em (ws.drop (i+1)) ce=some (ce',rest)/\dn++rest=out,fun σ2 H2 z=>⟨ws.length - (i+1),by omega,rfl,hlt,z⟩,?_⟩;intro x H2 y;obtain⟨w,ew,o⟩:=ok.yld i Hc x H2 (s'.trans R'.sub) hlt y;rw[List.getElem?_eq_getElem hlt] at ew;obtain rfl:=sI ew;nofun;obtain⟨F3,s3,R3,z3⟩:=(o.mono s').close R';ac_rfl;refine zqw (w:=ws[i]) R3 z3 h3 fun σ3 R4 k4=>?_;cases et:tc c1 with
    | none=>simp only [et] at hl;exact noSome hl
    | some p =>
      obtain⟨c2,b⟩:=p;refine⟨F3,_,c1,c2,b,R4,et,fun F5 H5 s5 R5=>?_⟩;cases b with
      | false =>
        simp only [et] at hl;exact iteF ⟨F5,c2,dn,us,rest,s'.trans (s3.trans s5),R5,k'.trans k4,rd.mono (s3.trans s5),hl,ho⟩
      | true =>
        simp only [et] at hl;nofun;obtain⟨⟨c3,o1⟩,h5,hl⟩:=bS hl;obtain⟨⟨c4,rest'⟩,h6,hl⟩:=bS hl;ac_rfl;cases hl;refine iteT (M F5 c2 σ3 H5 (vs0++us) c3 o1 _ R5 h5 ?_ fun F6 σ6 H6 us2 s6 R6 k6 r6=>?_)
        · dsimp only at ho
          rw[<-ho,List.length_append,List.length_append,rd.length] at hz;rw[List.length_append];omega
        · have sAll : Same F' F6 := s3.trans (s5.trans s6)
          exact⟨F6,c3,dn++o1,us++us2,rest',s'.trans sAll,by rw[<-List.append_assoc];exact R6,k'.trans (k4.trans k6),(rd.mono sAll).append r6,h6,by rw[List.append_assoc];exact ho⟩
  · have e : i = ws.length := by omega
    subst e;rw[List.drop_length] at hl;cases hl;rw[List.append_nil] at ho;subst ho;exact .inl ⟨ok.stop Hc (s'.trans R'.sub),q F' σc Hc us s' R' k' rd⟩
end
theorem zo2 {K:PySem.W.Frag}{cap:Cap}{T:Tg}{it:GL}{tc:GT}{em:GL}{tm:Addr->TM}{σ:St}{H:Hp}{Q:VK}(M:∀(pb:Prt) (acc:Addr),(∀b o,pb b o->b≠acc)->MOk K (capKeep cap) pb acc em (tm acc))(h:tE K (zyg cap T it tc em) σ H Q):zrv (tI K it) cap (TGof K T) (tT K tc) tm σ H Q:=by
 nofun;obtain⟨F,pr,en,en',r,R,h,q⟩:=h;obtain⟨⟨e1,ws⟩,h1,h⟩:=bS h;ac_rfl;refine⟨F,pr,en,e1,ws,R,h1,fun F1 H1 J s1 R1 ok acc hacc=>?_⟩;split at h
 ·rename_i nd;nofun;obtain⟨⟨ce',out⟩,h2,h⟩:=bS h;ac_rfl;split at h
  ·rename_i hz;cases h;refine z17 (M _ acc (zs7 (cap:=cap) R1 hacc)) (R1.block hacc nd) ok h2 (by rw[List.length_nil,Nat.zero_add];exact hz) fun F' σ' H' us s' R' k' rd=>?_;obtain⟨Ro,rz⟩:=R1.unblock hacc s' R' k' rd;exact q F' H' _ (s1.trans s') Ro rz
  ·exact noSome h
 ·exact noSome h
theorem zrl {K:PySem.W.Frag}{cap:Cap}{T:Tg}{it:GL}{tc:GT}{te:GE}{σ:St}{H:Hp}{Q:VK}(h:tE K (zaz cap T it tc te) σ H Q):zrv (tI K it) cap (TGof K T) (tT K tc) (fun acc=>zxa acc (tE K te)) σ H Q:=by
 refine zo2 (fun pb acc hb=>z67 hb) ?_;obtain⟨F,pr,en,en',r,R,h,q⟩:=h;refine⟨F,pr,en,en',r,R,?_,q⟩;nofun;obtain⟨⟨e1,ws⟩,h1,h⟩:=bS h;ac_rfl;split at h
 ·rename_i z;rw[Bool.and_eq_true] at z;nofun;obtain⟨⟨ce',out⟩,h2,h⟩:=bS h;ac_rfl;obtain⟨h3,h4⟩:=zf8 h2;rw[zyg,h1];show (if zbl cap=true then (zes (capKeep cap) T tc (gOne te) ws (zee cap e1)).bind _ else none)=_;rw[if_pos z.1,h3];show (if out.length<=sizeLine then _ else none)=_;rw[if_pos (Nat.le_trans h4 (of_decide_eq_true z.2))];exact h
 ·exact noSome h
noncomputable def z7a:GE:=fun en=>some (en,(.dic,false))
noncomputable def keyW:W->Bool
 | .int _=>true
 | .str _=>true
 | _=>false
noncomputable def z6p (k v:GE):GE:=fun en=>(k en).bind fun p=>if keyW p.2.1 then (v p.1).bind fun q=>some (q.1,(.dic,false)) else none
noncomputable def Src (h:Heap) (it l:Addr) (k:Nat) (xs:Array Value):Prop:=(h.IsListIter it l k/\h.IsList l xs)\/(h.IsTupleIter it l k/\h.IsTuple l xs)
theorem Src.at {h h' : Heap}{it l:Addr}{k:Nat}{xs:Array Value}(c:Src h it l k xs)(a:∀o,h.get? it=some o->h'.get? it=some o)(b:∀o,h.get? l=some o->h'.get? l=some o):Src h' it l k xs:=by
 rcases c with ⟨p,q⟩ | ⟨p,q⟩
 ·exact .inl ⟨p.at a,q.at b⟩
 ·obtain⟨o, e, r⟩ := q;exact .inr ⟨p.at a,o,b o e,r⟩
theorem Src.src {h:Heap}{it l:Addr}{k:Nat}{xs:Array Value}(c:Src h it l k xs):∃o,h.get? l=some o:=by
 rcases c with ⟨_,⟨o,e,_⟩⟩ | ⟨_,⟨o,e,_⟩⟩<;>exact⟨o,e⟩
section
variable {prog:Program}{w:World}{A:Around}{E:Value->Shared->Prop}{s:Shared}
theorem zfb {it l:Addr}{k:Nat}{xs:Array Value}{x:Value}{Q:Value->Shared->Prop} (c:Src s.heap it l k xs) (hx:xs[k]?=some x) (ne:l≠it)
  (q:∀h',Src h' it l (k+1) xs->Heap.SameBut it s.heap h'->Q x { s with heap:=h' }):wpAny (model prog w) A (Builtin.SmallTypes.nextOf (.ref it)) Q E s:=by
 rcases c with ⟨c1,c2⟩ | ⟨c1,c2⟩
 ·exact wpAny_nextOf_list_item c1 c2 hx fun h' a b=>q h' (.inl ⟨a,c2.at fun o e=>(b.2 l ne).trans e⟩) b
 ·refine aG fun Gg qG => ?_;obtain⟨oi,ei,ci,di⟩:=id c1;obtain⟨os,es,cs,ns,ds⟩:=id c2;ac_rfl;unfold Builtin.SmallTypes.nextOf;refine wpAny_bind (wpAny_callSpecial?_slot (name:=Str.ofString "__next__") c1.typeIs F.slot_tuple_iterator_next (wpAny_call_entry F.slot_tuple_iterator_next c1.typeIs F.entry_tuple_iterator_next ?_ (F.args_tuple_iterator_next_1 _)));refine (show wpAny _ _ (field (.ref it) 0 >>= _) _ _ s from wpAny_bind (wpAny_field ei di (x:=.ref l) rfl ?_));refine (show wpAny _ _ (if (Value.ref l == Value.none)=true then _ else _) _ _ s from ?_);rw[if_neg (by intro z;cases z)];refine (show wpAny _ _ (field (.ref it) 1 >>= _) _ _ s from wpAny_bind (wpAny_field ei di (x:=.int k 0) rfl ?_));refine (show wpAny _ _ (seqItems? (.ref l) >>= _) _ _ s from wpAny_bind (wpAny_seqItems es ds ?_));simp only [Int.toNat_natCast,hx];refine wpAny_bind (wpAny_setField ei di (by simp) (wpAny_pure ⟨x,rfl,wpAny_pure ?_⟩));refine q _ (.inr ⟨⟨_,Heap.get?_update_self _ ei (Obj.isFreed_of_fields (Obj.data_mapFields di _)),(Obj.cls_mapFields ..).trans ci,by rw[Obj.data_mapFields di];simp [rawInt]⟩,os,?_,cs,ns,ds⟩) (Heap.SameBut.update ..);exact ((Heap.SameBut.update ..).2 l ne).trans es
theorem zh2 {it l:Addr}{k:Nat}{xs:Array Value}{Q:Value->Shared->Prop} (hn:A.handled=none) (c:Src s.heap it l k xs) (hx:xs[k]?=none)
  (q:∀h' e,Heap.ExtBut it s.heap h'->(∃o,h'.get? e=some o/\o.cls=.type "StopIteration")->E (.ref e) { s with heap:=h' }):wpAny (model prog w) A (Builtin.SmallTypes.nextOf (.ref it)) Q E s:=by
 rcases c with ⟨c1,c2⟩ | ⟨c1,c2⟩
 ·exact wpAny_nextOf_list_end hn c1 c2 hx q
 ·obtain⟨oi, ei, ci, di⟩ := id c1;obtain⟨os,es,cs,ns,ds⟩:=id c2;unfold Builtin.SmallTypes.nextOf;refine wpAny_bind (wpAny_callSpecial?_slot (name:=Str.ofString "__next__") c1.typeIs F.slot_tuple_iterator_next (wpAny_call_entry F.slot_tuple_iterator_next c1.typeIs F.entry_tuple_iterator_next ?_ (F.args_tuple_iterator_next_1 _)));refine (show wpAny _ _ (field (.ref it) 0 >>= _) _ _ s from wpAny_bind (wpAny_field ei di (x:=.ref l) rfl ?_));refine (show wpAny _ _ (if (Value.ref l == Value.none)=true then _ else _) _ _ s from ?_);rw[if_neg (by intro z;cases z)];refine (show wpAny _ _ (field (.ref it) 1 >>= _) _ _ s from wpAny_bind (wpAny_field ei di (x:=.int k 0) rfl ?_));refine (show wpAny _ _ (seqItems? (.ref l) >>= _) _ _ s from wpAny_bind (wpAny_seqItems es ds ?_));simp only [Int.toNat_natCast,hx];refine wpAny_bind (wpAny_rule (wpAny_bind (wpAny_setField ei di (by simp) (show wpAny _ _ (newExc (.type "StopIteration") [] >>= _) _ _ _ from wpAny_bind ?_))));simp only [newExc,newTuple];refine wpAny_bind (wpAny_newObj_type (wpAny_bind (m:=firstArgMember _ _) (wpAny_of_eq (a:=Value.none) (by first | rfl | (simp only [firstArgMember];rfl)) (wpAny_newObj_type ?_ (by size_fits)))) (by size_fits));simp only [raiseNew];refine wpAny_bind (wpAny_handled ?_);rw[show A.in1.handled=none from hn];exact wpAny_bind (wpAny_pure (wpAny_throw (q _ _ (((Heap.SameBut.update ..).extBut.push _).push _) ⟨_,Heap.get?_push_size _ rfl,rfl⟩)))
theorem zz4 {z TI TO i1 i2 l1 l2:Addr}{k1 k2:Nat}{xs ys:Array Value}{x y a b:Value}{Q:Value->Shared->Prop} (D:ZipApart z TI TO i1 i2 l1 l2) (gz:IsZip s.heap z TI TO .none) (gi:IsPair s.heap TI (.ref i1) (.ref i2)) (go:IsPair s.heap TO a b)
  (c1:Src s.heap i1 l1 k1 xs) (c2:Src s.heap i2 l2 k2 ys) (ex:xs[k1]?=some x) (ey:ys[k2]?=some y)
  (q:∀h',IsZip h' z TI TO (rawInt s.heap.objs.size)->IsPair h' TO x y->Src h' i1 l1 (k1+1) xs->Src h' i2 l2 (k2+1) ys->IsPair h' s.heap.objs.size x y ->
   (∀c o,c≠z->c≠TO->c≠i1->c≠i2->s.heap.get? c=some o->h'.get? c=some o)->Q (.ref s.heap.objs.size) { s with heap:=h' }) :
  wpAny (model prog w) A (Builtin.«zip.__next__» ⟨[.ref z],[]⟩) (fun fin s'=>∃v,fin=.done (.ret v)/\Q v s') E s:=by
 refine (show wpAny _ _ (field (.ref z) 2 >>= _) _ _ _ from wpAny_bind (wpAny_field gz rfl (x:=.bool false) rfl ?_));refine (show wpAny _ _ (field (.ref z) 3 >>= _) _ _ _ from wpAny_bind (wpAny_field gz rfl (x:=.ref TI) rfl (wpAny_bind (wpAny_seqItems gi rfl ?_))));refine (show wpAny _ _ (Builtin.SmallTypes.ownedTupleIsFree (.ref z) >>= _) _ _ _ from wpAny_bind ?_);unfold Builtin.SmallTypes.ownedTupleIsFree;refine wpAny_bind (wpAny_field gz rfl (x:=.none) rfl (wpAny_pure ?_));simp only [if_true];refine wpAny_bind (wpAny_rule (wpAny_bind (wpAny_field gz rfl (x:=.ref TO) rfl (wpAny_bind (wpAny_setField_rec gz (by simp) fun g1 z1 u1=>?_)))));have z1' : IsZip g1 z TI TO .ellipsis:=z1;refine wpAny_bind ?_;simp only [List.zipIdx_cons,List.zipIdx_nil,List.forIn_cons,List.forIn_nil];have k1' : ∀c o,c≠z->s.heap.get? c=some o->g1.get? c=some o:=fun c o n e=>u1.extBut _ _ n e;refine wpAny_bind (wpAny_bind (wpAny_onRaise (show wpAny _ _ (Builtin.SmallTypes.nextOf (.ref i1) >>= _) _ _ _ from wpAny_bind (zfb (c1.at (fun o=>k1' _ o D.i1z) fun o=>k1' _ o D.l1z) ex D.l1i1 fun g2 d2 u2=>wpAny_pure ?_))));have k2' : ∀c o,c≠z->c≠i1->s.heap.get? c=some o->g2.get? c=some o:=fun c o n m e=>u2.extBut _ _ m (k1' c o n e);refine wpAny_bind (wpAny_seqItems (k2' _ _ D.TOz D.TOi1 go) rfl (wpAny_bind (wpAny_updateSeq_pair (k2' _ _ D.TOz D.TOi1 go) fun g3 t3 u3=>wpAny_bind (wpAny_letGo (wpAny_pure ?_)))));have t3' : IsPair g3 TO x b:=t3;have k3' : ∀c o,c≠z->c≠i1->c≠TO->s.heap.get? c=some o->g3.get? c=some o:=fun c o n m r e=>u3.extBut _ _ r (k2' c o n m e);refine wpAny_bind (wpAny_bind (wpAny_onRaise (show wpAny _ _ (Builtin.SmallTypes.nextOf (.ref i2) >>= _) _ _ _ from wpAny_bind (zfb (c2.at (fun o=>k3' _ o D.i2z D.i12.symm D.TOi2.symm) fun o=>k3' _ o D.l2z D.l2i1 D.l2TO) ey D.l2i2 fun g4 d4 u4=>wpAny_pure ?_))));have t4:IsPair g4 TO x b:=u4.extBut _ _ D.TOi2 t3';refine wpAny_bind (wpAny_seqItems t4 rfl (wpAny_bind (wpAny_updateSeq_pair t4 fun g5 t5 u5=>wpAny_bind (wpAny_letGo (wpAny_pure (wpAny_pure ?_))))));have t5' : IsPair g5 TO x y:=t5;refine wpAny_bind (wpAny_seqItems t5' rfl (wpAny_bind (wpAny_newTuple ?_)));have n5:g5.objs.size=s.heap.objs.size:=by rw[u5.1,u4.1,u3.1,u2.1,u1.1]
 have z5:IsZip g5 z TI TO .ellipsis:=u5.extBut _ _ D.TOz.symm (u4.extBut _ _ D.i2z.symm (u3.extBut _ _ D.TOz.symm (u2.extBut _ _ D.i1z.symm z1')));have k5:∀c o,c≠z->c≠TO->c≠i1->c≠i2->s.heap.get? c=some o->g5.get? c=some o:=fun c o n r m p e=>u5.extBut _ _ r (u4.extBut _ _ p (k3' c o n m r e));have d2' : Src g5 i1 l1 (k1+1) xs:=d2.at (fun o e=>u5.extBut _ _ D.TOi1.symm (u4.extBut _ _ D.i12 (u3.extBut _ _ D.TOi1.symm e))) fun o e=>u5.extBut _ _ D.l1TO (u4.extBut _ _ D.l1i2 (u3.extBut _ _ D.l1TO e));have d4' : Src g5 i2 l2 (k2+1) ys:=d4.at (fun o e=>u5.extBut _ _ D.TOi2.symm e) fun o e=>u5.extBut _ _ D.l2TO e;refine (show wpAny _ _ (Builtin.SmallTypes.ownedTupleHandOut (.ref z) (.ref g5.objs.size) >>= _) _ _ _ from wpAny_bind ?_);unfold Builtin.SmallTypes.ownedTupleHandOut;have z6:IsZip (g5.push { cls:=.type "tuple",data:=.seq #[x,y] }) z TI TO .ellipsis:=Heap.get?_push_of_some _ z5;refine wpAny_bind (wpAny_setField_rec z6 (by simp) fun g7 z7 u7=>wpAny_setField_rec (show IsZip g7 z TI TO (rawInt g5.objs.size) from z7) (by simp) fun g8 z8 u8=>wpAny_pure ⟨_,rfl,?_⟩);have up:∀c o,c≠z->g5.get? c=some o->g8.get? c=some o:=fun c o n e=>u8.extBut _ _ n (u7.extBut _ _ n (Heap.get?_push_of_some _ e));have lz:g5.objs.size≠z:=Nat.ne_of_gt (Heap.lt_size z5);have t8:IsPair g8 g5.objs.size x y:=u8.extBut _ _ lz (u7.extBut _ _ lz (Heap.get?_push_size _ rfl));have z8' : IsZip g8 z TI TO (rawInt g5.objs.size):=z8;rw[n5] at t8 z8';show Q (.ref g5.objs.size) _;rw[n5];exact q g8 z8' (up _ _ D.TOz t5') (d2'.at (fun o=>up _ o D.i1z) fun o=>up _ o D.l1z) (d4'.at (fun o=>up _ o D.i2z) fun o=>up _ o D.l2z) t8 fun c o n r m p e=>up c o n (k5 c o n r m p e)
theorem z4m {z TI TO i1 i2 l1 l2:Addr}{k1 k2:Nat}{xs ys:Array Value}{a b:Value}{Q:Fin->Shared->Prop} (hn:A.handled=none) (D:ZipApart z TI TO i1 i2 l1 l2) (gz:IsZip s.heap z TI TO .none) (gi:IsPair s.heap TI (.ref i1) (.ref i2)) (go:IsPair s.heap TO a b)
    (c1:Src s.heap i1 l1 k1 xs) (c2:Src s.heap i2 l2 k2 ys) (he:xs[k1]?=none\/ys[k2]?=none)
    (q:∀h' e,(∀c o,c≠z->c≠TO->c≠i1->c≠i2->s.heap.get? c=some o->h'.get? c=some o)->(∃o,h'.get? e=some o/\o.cls=.type "StopIteration")->E (.ref e) { s with heap:=h' }) :
    wpAny (model prog w) A (Builtin.«zip.__next__» ⟨[.ref z],[]⟩) Q E s:=by
  refine (show wpAny _ _ (field (.ref z) 2 >>= _) _ _ _ from wpAny_bind (wpAny_field gz rfl (x:=.bool false) rfl ?_));refine (show wpAny _ _ (field (.ref z) 3 >>= _) _ _ _ from wpAny_bind (wpAny_field gz rfl (x:=.ref TI) rfl (wpAny_bind (wpAny_seqItems gi rfl ?_))));refine (show wpAny _ _ (Builtin.SmallTypes.ownedTupleIsFree (.ref z) >>= _) _ _ _ from wpAny_bind ?_);unfold Builtin.SmallTypes.ownedTupleIsFree;refine wpAny_bind (wpAny_field gz rfl (x:=.none) rfl (wpAny_pure ?_));simp only [if_true];refine wpAny_bind (wpAny_rule (wpAny_bind (wpAny_field gz rfl (x:=.ref TO) rfl (wpAny_bind (wpAny_setField_rec gz (by simp) fun g1 z1 u1=>?_)))));have z1' : IsZip g1 z TI TO .ellipsis:=z1;refine wpAny_bind ?_;simp only [List.zipIdx_cons,List.zipIdx_nil,List.forIn_cons,List.forIn_nil];have k1' : ∀c o,c≠z->s.heap.get? c=some o->g1.get? c=some o:=fun c o n e=>u1.extBut _ _ n e;refine wpAny_bind (wpAny_bind (wpAny_onRaise (show wpAny _ _ (Builtin.SmallTypes.nextOf (.ref i1) >>= _) _ _ _ from wpAny_bind ?_)));have d1:Src g1 i1 l1 k1 xs:=c1.at (fun o=>k1' _ o D.i1z) fun o=>k1' _ o D.l1z;cases hx:xs[k1]? with
  | none =>
    refine zh2 hn d1 hx fun g2 e u2 so=>?_;obtain⟨oe,ge,ce⟩:=so;have z2:IsZip g2 z TI TO .ellipsis:=u2 _ _ D.i1z.symm z1';have ne:e≠z:=fun r=>by subst r;rw[z2] at ge;obtain rfl:=sI ge;simp at ce
    exact wpAny_setField_rec z2 (by simp) fun g3 _ u3=>q g3 e (fun c o n _ m _ x=>u3.extBut _ _ n (u2 _ _ m (k1' c o n x))) ⟨oe,u3.extBut _ _ ne ge,ce⟩
  | some x =>
    have hy:ys[k2]?=none:=he.resolve_left (by rw[hx];simp);refine zfb d1 hx D.l1i1 fun g2 d2 u2=>wpAny_pure ?_;have k2' : ∀c o,c≠z->c≠i1->s.heap.get? c=some o->g2.get? c=some o:=fun c o n m e=>u2.extBut _ _ m (k1' c o n e);refine wpAny_bind (wpAny_seqItems (k2' _ _ D.TOz D.TOi1 go) rfl (wpAny_bind (wpAny_updateSeq_pair (k2' _ _ D.TOz D.TOi1 go) fun g3 t3 u3=>wpAny_bind (wpAny_letGo (wpAny_pure ?_)))));have k3' : ∀c o,c≠z->c≠i1->c≠TO->s.heap.get? c=some o->g3.get? c=some o:=fun c o n m r e=>u3.extBut _ _ r (k2' c o n m e);refine wpAny_bind (wpAny_bind (wpAny_onRaise (show wpAny _ _ (Builtin.SmallTypes.nextOf (.ref i2) >>= _) _ _ _ from wpAny_bind (zh2 hn (c2.at (fun o=>k3' _ o D.i2z D.i12.symm D.TOi2.symm) fun o=>k3' _ o D.l2z D.l2i1 D.l2TO) hy fun g4 e u4 so=>?_))));obtain⟨oe,ge,ce⟩:=so;have z4:IsZip g4 z TI TO .ellipsis:=u4 _ _ D.i2z.symm (u3.extBut _ _ D.TOz.symm (u2.extBut _ _ D.i1z.symm z1'));have ne:e≠z:=fun r=>by subst r;rw[z4] at ge;obtain rfl:=sI ge;simp at ce
    exact wpAny_setField_rec z4 (by simp) fun g5 _ u5=>q g5 e (fun c o n r m p x=>u5.extBut _ _ n (u4 _ _ p (k3' c o n m r x))) ⟨oe,u5.extBut _ _ ne ge,ce⟩
theorem z0q {z TI TO i1 i2 l1 l2:Addr}{k1 k2:Nat}{xs ys:Array Value}{x y a b:Value}{Q:Option Value->Shared->Prop} (D:ZipApart z TI TO i1 i2 l1 l2) (gz:IsZip s.heap z TI TO .none) (gi:IsPair s.heap TI (.ref i1) (.ref i2)) (go:IsPair s.heap TO a b)
  (c1:Src s.heap i1 l1 k1 xs) (c2:Src s.heap i2 l2 k2 ys) (ex:xs[k1]?=some x) (ey:ys[k2]?=some y)
  (q:∀h',IsZip h' z TI TO (rawInt s.heap.objs.size)->IsPair h' TO x y->Src h' i1 l1 (k1+1) xs->Src h' i2 l2 (k2+1) ys->IsPair h' s.heap.objs.size x y ->
   (∀c o,c≠z->c≠TO->c≠i1->c≠i2->s.heap.get? c=some o->h'.get? c=some o)->Q (some (.ref s.heap.objs.size)) { s with heap:=h' }):wpAny (model prog w) A (pyNext (.ref z)) Q E s:=by
 have ty:s.TypeIs (.ref z) "zip" := ⟨_,gz,rfl⟩;unfold pyNext;exact wpAny_bind (wpAny_attempt (wpAny_callSpecial?_slot (name:=Str.ofString "__next__") ty F.slot_zip_next (wpAny_call_entry F.slot_zip_next ty F.entry_zip_next (zz4 D gz gi go c1 c2 ex ey fun h' a1 a2 a3 a4 a5 a6=>wpAny_pure (q h' a1 a2 a3 a4 a5 a6)) (F.args_zip_next_1 _))))
theorem z4v {z TI TO i1 i2 l1 l2:Addr}{k1 k2:Nat}{xs ys:Array Value}{a b:Value}{Q:Option Value->Shared->Prop} (hn:A.handled=none) (D:ZipApart z TI TO i1 i2 l1 l2) (gz:IsZip s.heap z TI TO .none) (gi:IsPair s.heap TI (.ref i1) (.ref i2)) (go:IsPair s.heap TO a b)
  (c1:Src s.heap i1 l1 k1 xs) (c2:Src s.heap i2 l2 k2 ys) (he:xs[k1]?=none\/ys[k2]?=none)
  (q:∀h',(∀c o,c≠z->c≠TO->c≠i1->c≠i2->s.heap.get? c=some o->h'.get? c=some o)->Q none { s with heap:=h' }):wpAny (model prog w) A (pyNext (.ref z)) Q E s:=by
 have ty:s.TypeIs (.ref z) "zip" := ⟨_,gz,rfl⟩;unfold pyNext;refine wpAny_bind (wpAny_attempt (wpAny_callSpecial?_slot (name:=Str.ofString "__next__") ty F.slot_zip_next (wpAny_call_entry F.slot_zip_next ty F.entry_zip_next (z4m hn D gz gi go c1 c2 he fun h' e k so=>?_) (F.args_zip_next_1 _))));obtain⟨o,go',co⟩:=so;exact wpAny_bind (wpAny_isInstance (T := "StopIteration") (b:=true) ⟨o,go',co⟩ isSubtype_stop (wpAny_pure (q _ k)))
end
noncomputable def SrcO (h:Heap) (b:Bool) (l:Addr) (xs:Array Value):Prop:=match b with
 | true=>h.IsList l xs
 | false=>h.IsTuple l xs
noncomputable def itO (b:Bool) (l:Addr):Obj:={ cls:=.type (if b then "list_iterator" else "tuple_iterator"),data:=.fields #[.ref l,.int 0 0] }
theorem SrcO.push {h:Heap}{b:Bool}{l:Addr}{xs:Array Value} (c:SrcO h b l xs) (o:Obj):SrcO (h.push o) b l xs:=by
  cases b with
  | true=>exact Heap.IsList.push c o
  | false =>
    obtain⟨q,e,r⟩:=c;exact⟨q,Heap.get?_push_of_some _ e,r⟩
section
variable {prog:Program}{w:World}{A:Around}{E:Value->Shared->Prop}{s:Shared}
theorem ziu {b:Bool}{l:Addr}{xs:Array Value}{Q:Value->Shared->Prop}(c:SrcO s.heap b l xs)(q:Q (.ref s.heap.objs.size) { s with heap:=s.heap.push (itO b l) }):wpAny (model prog w) A (pyIter (.ref l)) Q E s:=by
 cases b with
 | true=>exact wpAny_pyIter_list c q
 | false=>exact wpAny_pyIter_tuple c q
end
noncomputable abbrev zA (h:Heap) (b:Bool) (l:Addr):Heap:=h.push (itO b l)
noncomputable abbrev zB (h:Heap) (b c:Bool) (l m:Addr):Heap:=(zA h b l).push (itO c m)
noncomputable abbrev zC (h:Heap) (b c:Bool) (l m:Addr):Heap:=(zB h b c l m).push { cls:=.type "tuple",data:=.seq #[.ref h.objs.size,.ref (zA h b l).objs.size] }
noncomputable abbrev zD (h:Heap) (b c:Bool) (l m:Addr):Heap:=(zC h b c l m).push { cls:=.type "tuple",data:=.seq #[.none,.none] }
noncomputable abbrev zE (h:Heap) (b c:Bool) (l m:Addr):Heap:=(zD h b c l m).push { cls:=.type "zip",data:=.fields #[.none,.bool false,.bool false,.ref (zB h b c l m).objs.size,.ref (zC h b c l m).objs.size] }
theorem zts (b c:Bool)(l m:Addr)(xs ys:Array Value):Meets (Builtin.«zip.__new__» ⟨[.type "zip",.ref l,.ref m],[]⟩) (fun _ R s=>SrcO s.heap b l xs/\SrcO s.heap c m ys/\R (.ok (.ret (.ref (zD s.heap b c l m).objs.size))) { s with heap:=zE s.heap b c l m }) :=
 .of_wp fun prog w A R s h=>by
  obtain⟨hp,g,d,tk,os⟩:=s;obtain⟨x1,x2,h⟩:=h;have hsub:=sub_zip;have y1:SrcO (Shared.heap ⟨hp,g,d,tk,os⟩) b l xs:=x1;have y2:SrcO (Shared.heap ⟨hp.push (itO b l),g,d,tk,os⟩) c m ys:=SrcO.push x2 _
  wp_walk using ziu y1,ziu y2
  exact⟨_,rfl,h⟩
section
variable {prog:Program}{w:World}{A:Around}{E:Value->Shared->Prop}{s:Shared}
theorem zxp {b c:Bool}{l m:Addr}{xs ys:Array Value}{Q:Value->Shared->Prop} (x1:SrcO s.heap b l xs) (x2:SrcO s.heap c m ys)
  (h:∀h',IsZip h' (s.heap.objs.size+4) (s.heap.objs.size+2) (s.heap.objs.size+3) .none->IsPair h' (s.heap.objs.size+2) (.ref s.heap.objs.size) (.ref (s.heap.objs.size+1))->IsPair h' (s.heap.objs.size+3) .none .none ->
   h'.get? s.heap.objs.size=some (itO b l)->h'.get? (s.heap.objs.size+1)=some (itO c m)->(∀c o,s.heap.get? c=some o->h'.get? c=some o)->Q (.ref (s.heap.objs.size+4)) { s with heap:=h' }) :
  wpAny (model prog w) A (call (.type "zip") [.ref l,.ref m]) Q E s:=by
 refine callType_new F.called_zip #v[0,9] (F.typeCall_zip_2 _ _) (F.newCall_zip_2 _ _) (fun obj=>F.args_object_init_3 obj _ _) F.entry_zip_new (zts b c l m xs ys) ⟨x1,x2,?_⟩;have n1:(zA s.heap b l).objs.size=s.heap.objs.size+1:=Heap.size_push ..;have n2:(zB s.heap b c l m).objs.size=s.heap.objs.size+2:=by rw[Heap.size_push,n1]
 have n3:(zC s.heap b c l m).objs.size=s.heap.objs.size+3:=by rw[Heap.size_push,n2]
 have n4:(zD s.heap b c l m).objs.size=s.heap.objs.size+4:=by rw[Heap.size_push,n3]
 have up:∀r o,s.heap.get? r=some o->(zE s.heap b c l m).get? r=some o:=fun r o x=>Heap.get?_push_of_some _ (Heap.get?_push_of_some _ (Heap.get?_push_of_some _ (Heap.get?_push_of_some _ (Heap.get?_push_of_some _ x))));have e5:(zE s.heap b c l m).get? (zD s.heap b c l m).objs.size=some _:=Heap.get?_push_size _ rfl;have e4:(zE s.heap b c l m).get? (zC s.heap b c l m).objs.size=some _:=Heap.get?_push_of_some _ (Heap.get?_push_size _ rfl);have e3:(zE s.heap b c l m).get? (zB s.heap b c l m).objs.size=some _:=Heap.get?_push_of_some _ (Heap.get?_push_of_some _ (Heap.get?_push_size _ rfl));have e2:(zE s.heap b c l m).get? (zA s.heap b l).objs.size=some (itO c m):=Heap.get?_push_of_some _ (Heap.get?_push_of_some _ (Heap.get?_push_of_some _ (Heap.get?_push_size _ rfl)));have e1:(zE s.heap b c l m).get? s.heap.objs.size=some (itO b l):=Heap.get?_push_of_some _ (Heap.get?_push_of_some _ (Heap.get?_push_of_some _ (Heap.get?_push_of_some _ (Heap.get?_push_size _ rfl))));show _/\_;rw[n2,n3,n4] at e5;rw[n1,n2] at e3;rw[n3] at e4;rw[n1] at e2;rw[n4];exact⟨⟨_,e5,rfl⟩,h _ e5 e3 e4 e1 e2 up⟩
end
noncomputable def SqK (K:PySem.W.Frag) (k:Bool) (H:Hp) (a:Addr) (xs:List V):Prop:=match k with
 | true=>SqL K H a xs
 | false=>SqT K H a xs
noncomputable def ItI (h:Heap) (k:Bool) (it l:Addr) (i:Nat):Prop:=match k with
 | true=>h.IsListIter it l i
 | false=>h.IsTupleIter it l i
theorem SqK.mono {K:PySem.W.Frag}{k:Bool}{F H:Hp}{a:Addr}{xs:List V}(s:Same F H)(h:SqK K k F a xs):SqK K k H a xs:=by
 cases k with
 | true=>exact s.seq h
 | false=>exact zbz s h
theorem Inv.sqK {X:Cx}{pins:List (Addr × Obj)}{σ:St}{H:Hp}{s:Shared}{k:Bool}{a:Addr}{xs:List V}(I:Inv X pins σ H s)(h:SqK X.K k H a xs):∃its:List Value,Vals xs its/\SrcO s.heap k a its.toArray:=by
 cases k with
 | true=>obtain⟨its,r,p,_⟩:=I.list h;exact⟨its,r,p.isList⟩
 | false=>obtain⟨its,r,p,_⟩:=I.tuple h;exact⟨its,r,p⟩
theorem Inv.sqK_inj {X:Cx}{pins:List (Addr × Obj)}{σ:St}{H:Hp}{s:Shared}{k:Bool}{a:Addr}{xs ys:List V}(I:Inv X pins σ H s)(h:SqK X.K k H a xs)(h' : SqK X.K k H a ys):xs=ys:=by
 cases k with
 | true=>exact I.list_inj h h'
 | false=>exact I.tuple_inj h h'
theorem ItI.src {h:Heap}{k:Bool}{it l:Addr}{i:Nat}{xs:Array Value}(a:ItI h k it l i)(b:SrcO h k l xs):Src h it l i xs:=by
 cases k with
 | true=>exact .inl ⟨a,b⟩
 | false=>exact .inr ⟨a,b⟩
theorem Src.itI {h:Heap}{k:Bool}{it l:Addr}{i:Nat}{xs:Array Value} (c:Src h it l i xs) (b:SrcO h k l xs):ItI h k it l i:=by
  cases k with
  | true =>
    rcases c with ⟨c,_⟩ | ⟨_,⟨o,e,q,_⟩⟩
    · exact c
    · obtain ⟨o', e', q', _⟩ := b
      rw[e] at e';obtain rfl:=sI e';rw[q] at q';simp at q'
  | false =>
    rcases c with ⟨_,⟨o,e,q,_⟩⟩ | ⟨c,_⟩
    · obtain ⟨o', e', q', _⟩ := b
      rw[e] at e';obtain rfl:=sI e';rw[q] at q';simp at q'
    · exact c
theorem ItI.at {h h' : Heap}{k:Bool}{it l:Addr}{i:Nat}(a:ItI h k it l i)(q:∀o,h.get? it=some o->h'.get? it=some o):ItI h' k it l i:=by
 cases k with
 | true=>exact Heap.IsListIter.at a q
 | false=>exact Heap.IsTupleIter.at a q
theorem ItI.obj {h:Heap}{k:Bool}{it l:Addr}{i:Nat}(a:ItI h k it l i):∃o,h.get? it=some o/\∀v,o.data≠.cell v:=by
 cases k with
 | true=>obtain⟨o,e,_,d⟩:=a;exact⟨o,e,fun v z=>by rw[d] at z;cases z⟩
 | false=>obtain⟨o,e,_,d⟩:=a;exact⟨o,e,fun v z=>by rw[d] at z;cases z⟩
noncomputable def Itz (K:PySem.W.Frag) (ka kb:Bool) (a b:Addr):It :=
 ⟨fun i H=>∃xs ys x y,SqK K ka H a xs/\SqK K kb H b ys/\xs[i]?=some x/\ys[i]?=some y,
  fun i H x H'=>∃p v u,x=.ref p/\H p=none/\H'=upd H p (.tup [v,u])/\(∀xs,SqK K ka H a xs->xs[i]?=some v)/\(∀ys,SqK K kb H b ys->ys[i]?=some u),
  fun i H=>∃xs ys,SqK K ka H a xs/\SqK K kb H b ys/\(xs.length<=i\/ys.length<=i)⟩
noncomputable def zSt (ka kb:Bool) (z TI TO i1 i2 a b:Addr) (i:Nat) (h:Heap):Prop:=IsZip h z TI TO .none/\IsPair h TI (.ref i1) (.ref i2)/\(∃u v,IsPair h TO u v)/\ItI h ka i1 a i/\ItI h kb i2 b i
theorem zwf {P:Program}{w:World}{K:PySem.W.Frag}{es:List Expr}{x1}{px:Pos}(ka kb:Bool)(z TI TO i1 i2 a b:Addr)(D:ZipApart z TI TO i1 i2 a b):Turn P w K (.Tuple es x1 px) (Itz K ka kb a b) [z,TI,TO,i1,i2] z (zSt ka kb z TI TO i1 i2 a b) where
 mem:=by simp
 obj:=fun i h st c hc=>by
  nofun;obtain⟨gz,gi,⟨u,v,go⟩,t1,t2⟩:=st;ac_rfl;simp only [List.mem_cons,List.mem_singleton,List.not_mem_nil,or_false] at hc;rcases hc with rfl | rfl | rfl | rfl | rfl
  ·exact⟨_,gz,fun v q=>by cases q⟩
  ·exact⟨_,gi,fun v q=>by cases q⟩
  ·exact⟨_,go,fun v q=>by cases q⟩
  ·exact t1.obj
  ·exact t2.obj
 keep:=fun i h h' st k=>by
  nofun;obtain⟨gz,gi,⟨u,v,go⟩,t1,t2⟩:=st;ac_rfl;exact⟨k z (by simp) _ gz,k TI (by simp) _ gi,⟨u,v,k TO (by simp) _ go⟩,t1.at fun o e=>k i1 (by simp) o e,t2.at fun o e=>k i2 (by simp) o e⟩
 item:=by
  intro X hP hw hK hc i pins s σ H E I hf st hg;subst hP hw hK;nofun;obtain⟨xs,ys,x,y,q1,q2,e1,e2⟩:=hg;obtain⟨gz,gi,⟨u0,v0,go⟩,t1,t2⟩:=st;obtain⟨its,r1,so1⟩:=I.sqK q1;obtain⟨its',r2,so2⟩:=I.sqK q2;obtain⟨u,hu,ru⟩:=r1.get e1;obtain⟨v,hv,rv⟩:=r2.get e2;ac_rfl;refine z0q D gz gi go (t1.src so1) (t2.src so2) (x:=u) (y:=v) (by simpa using hu) (by simpa using hv) fun h' g1 g2 g3 g4 g5 g6=>⟨_,rfl,?_⟩;refine wpAny_letOwnedTupleGo_zip g1 fun h'' k1 k2=>?_;have lt:∀c o,s.heap.get? c=some o->c≠s.heap.objs.size:=fun c o e=>Nat.ne_of_lt (Heap.lt_size e);have kk:∀c o,c ∉ [z,TI,TO,i1,i2]->s.heap.get? c=some o->h''.get? c=some o:=fun c o hb e=>by
   simp only [List.mem_cons,List.mem_singleton,List.not_mem_nil,or_false,not_or] at hb;exact (k2.2 c hb.1).trans (g6 c o hb.1 hb.2.2.1 hb.2.2.2.1 hb.2.2.2.2 e)
  obtain⟨o1,eo1⟩:=(t1.src so1).src;obtain⟨o2,eo2⟩:=(t2.src so2).src;have so1' : SrcO h' ka a its.toArray:=by
   cases ka with
   | true=>exact so1.at fun o e=>g6 a o D.l1z D.l1TO D.l1i1 D.l1i2 e
   | false=>obtain⟨o,e,r⟩:=so1;exact⟨o,g6 a o D.l1z D.l1TO D.l1i1 D.l1i2 e,r⟩
  have so2' : SrcO h' kb b its'.toArray:=by
   cases kb with
   | true=>exact so2.at fun o e=>g6 b o D.l2z D.l2TO D.l2i1 D.l2i2 e
   | false=>obtain⟨o,e,r⟩:=so2;exact⟨o,g6 b o D.l2z D.l2TO D.l2i1 D.l2i2 e,r⟩
  have t1' : ItI h'' ka i1 a (i+1):=(g3.itI so1').at fun o e=>(k2.2 i1 D.i1z).trans e;have t2' : ItI h'' kb i2 b (i+1):=(g4.itI so2').at fun o e=>(k2.2 i2 D.i2z).trans e;have gi' : IsPair h'' TI (.ref i1) (.ref i2):=(k2.2 TI D.TIz).trans (g6 TI _ D.TIz D.TITO D.TIi1 D.TIi2 gi);have go' : IsPair h'' TO u v:=(k2.2 TO D.TOz).trans g2;have Tz:s.heap.objs.size≠z:=(lt z _ gz).symm;refine⟨.ref s.heap.objs.size,upd H s.heap.objs.size (.tup [x,y]),I.turnLay kk (fun c hb=>?_) hf (Nat.le_refl _) ⟨by show 2<=sizeLine;decide,[u,v],.cons ru (.cons rv .nil),?_⟩,rfl,⟨_,x,y,rfl,I.hok.fresh (Nat.le_refl _),rfl,fun zs hz=>by rw[I.sqK_inj hz q1];exact e1,fun zs hz=>by rw[I.sqK_inj hz q2];exact e2⟩,⟨k1,gi',⟨u,v,go'⟩,t1',t2'⟩,fun c hb=>?_⟩
  ·simp only [List.mem_cons, List.mem_singleton, List.not_mem_nil, or_false] at hb;rcases hb with rfl | rfl | rfl | rfl | rfl
   ·exact⟨_,k1⟩
   ·exact⟨_,gi'⟩
   ·exact⟨_,go'⟩
   ·obtain⟨o,e,_⟩:=t1'.obj;exact⟨o,e⟩
   ·obtain⟨o,e,_⟩:=t2'.obj;exact⟨o,e⟩
  ·exact⟨_,(k2.2 _ Tz).trans g5,⟨rfl,_,rfl⟩,rfl⟩
  ·have ne:c≠s.heap.objs.size:=by
    simp only [List.mem_cons,List.mem_singleton,List.not_mem_nil,or_false] at hb;rcases hb with rfl | rfl | rfl | rfl | rfl
    ·exact lt _ _ gz
    ·exact lt _ _ gi
    ·exact lt _ _ go
    ·obtain⟨o,e,_⟩:=t1.obj;exact lt _ _ e
    ·obtain⟨o,e,_⟩:=t2.obj;exact lt _ _ e
   rw[upd_ne ne];exact (hf c hb).1
 done:=by
  intro X hP hw hK hc i pins s σ H E I hf st hg;subst hP hw hK;nofun;obtain⟨xs,ys,q1,q2,he⟩:=hg;obtain⟨gz,gi,⟨u0,v0,go⟩,t1,t2⟩:=st;obtain⟨its,r1,so1⟩:=I.sqK q1;obtain⟨its',r2,so2⟩:=I.sqK q2;ac_rfl;have l1:=r1.length;have l2:=r2.length;refine z4v (I.ok.hd hc) D gz gi go (t1.src so1) (t2.src so2) ?_ fun h' k=>⟨rfl,I.turnL (t':=s.toks) (ch:=[z,TI,TO,i1,i2]) (fun c o hb e=>?_) hf⟩
  ·rcases he with he | he
   ·exact .inl (Array.getElem?_eq_none (by simp;omega))
   ·exact .inr (Array.getElem?_eq_none (by simp;omega))
  ·simp only [List.mem_cons, List.mem_singleton, List.not_mem_nil, or_false, not_or] at hb;exact k c o hb.1 hb.2.2.1 hb.2.2.2.1 hb.2.2.2.2 e
 self:=fun _ _ _ _ _ st h=>wpAny_pyIter_zip st.1 h
theorem zxm:bootBuiltins "zip" = some (.type "zip"):=by decide +kernel
section
variable {X:Cx}
noncomputable def iZip (K:PySem.W.Frag) (ta:TA):TI:=fun σ H R=>ta σ H fun vs H1=>∃a b ka kb xs ys,vs=[.ref a,.ref b]/\SqK K ka H1 a xs/\SqK K kb H1 b ys/\R (Itz K ka kb a b) H1
theorem z2o {es:List Expr}{x1}{px:Pos}{l m:Expr}{tl:TA}{p pos:Pos} (hg:Gl X "zip") (hm:X.mg "zip" = none) (hl:PA X [l,m] tl) (hs:starEach [l,m] X.env=[(false,eval l X.env),(false,eval m X.env)]) (hs2:starEach [m] X.env=[(false,eval m X.env)]) :
    PI X (.Tuple es x1 px) (.Call (.Name "zip" p) [l,m] [] pos) (iZip X.K tl):=by
  intro pins s σ H R I h;refine Call_ (zdw I hg hm zxm (PyProof.Rows.callWith_type1 (thn (hl pos pins s σ H _ I h) fun us s1 ⟨vs,H1,I1,r1,q1⟩=>?_) (by rw[hs,hs2]) (by rw[hs2];rfl)));nofun;obtain⟨a,b,ka,kb,xs,ys,e,q2,q3,q⟩:=q1;ac_rfl;subst e;cases r1 with
  | cons r rr =>
    cases rr with
    | cons r' rr =>
      cases rr;cases r;cases r';refine aG fun _ qG=>?_;obtain ⟨its,rv1,so1⟩:=I1.sqK q2;obtain ⟨its',rv2,so2⟩:=I1.sqK q3;refine qG ?_;clear qG;refine zxp so1 so2 fun h' g1 g2 g3 g4 g5 up=>wpAny_pyIter_zip g1 ?_;have la:a < s1.heap.objs.size:=by
        cases ka with
        | true=>obtain⟨o,e,_⟩:=so1;exact Heap.lt_size e
        | false=>obtain⟨o,e,_⟩:=so1;exact Heap.lt_size e
      have lb:b < s1.heap.objs.size:=by
        cases kb with
        | true=>obtain⟨o,e,_⟩:=so2;exact Heap.lt_size e
        | false=>obtain⟨o,e,_⟩:=so2;exact Heap.lt_size e
      have D:ZipApart (s1.heap.objs.size+4) (s1.heap.objs.size+2) (s1.heap.objs.size+3) s1.heap.objs.size (s1.heap.objs.size+1) a b:=by
        have up:∀{c:Addr} (k:Nat),c < s1.heap.objs.size->c≠s1.heap.objs.size+k:=fun k h=>Nat.ne_of_lt (Nat.lt_of_lt_of_le h (Nat.le_add_right _ k));refine⟨?_,?_,?_,?_,?_,?_,?_,?_,?_,?_,up 4 la,up 3 la,up 0 la,up 1 la,up 4 lb,up 3 lb,up 0 lb,up 1 lb⟩<;>(intro z;have z' : (_:Nat)=_:=z;omega)
      have t1:ItI h' ka s1.heap.objs.size a 0:=by cases ka<;>exact⟨_,g4,rfl,rfl⟩
      have t2:ItI h' kb (s1.heap.objs.size+1) b 0:=by cases kb<;>exact⟨_,g5,rfl,rfl⟩
      refine ⟨_,_,_,_,H1,rfl,I1.kept (t':=s1.toks) up,zwf ka kb _ _ _ _ _ a b D,⟨g1,g2,⟨_,_,g3⟩,t1,t2⟩,fun c hb=>?_,q⟩;have le:s1.heap.objs.size<=c:=by
        simp only [List.mem_cons,List.mem_singleton,List.not_mem_nil,or_false] at hb;rcases hb with rfl | rfl | rfl | rfl | rfl
        · exact Nat.le_add_right _ _
        · exact Nat.le_add_right _ _
        · exact Nat.le_add_right _ _
        · exact Nat.le_refl _
        · exact Nat.le_add_right _ _
      exact I1.fpOk le (I1.hok.fresh le)
end
noncomputable def zipW:List W->List W->List W
 | x::xs,y::ys=>.tup [x,y]::zipW xs ys
 | _,_=>[]
theorem zdk:∀(xs ys:List W),(zipW xs ys).length=min xs.length ys.length
 | [],_=>by simp [zipW]
 | _::_,[]=>by simp [zipW]
 | _::xs,_::ys=>by simp only [zipW,List.length_cons,zdk xs ys];omega
theorem zii:∀{xs ys:List W}{i:Nat}{x y:W},xs[i]?=some x->ys[i]?=some y->(zipW xs ys)[i]?=some (.tup [x,y])
  | [],_,_,_,_,e,_=>by simp at e
  | _::_,[],_,_,_,_,e=>by simp at e
  | _::xs,_::ys,0,_,_,e,e'=>by simp at e e';subst e e';rfl
  | _::xs,_::ys,i+1,x,y,e,e'=>by
    show (zipW xs ys)[i]?=_;exact zii (by simpa using e) (by simpa using e')
noncomputable def gZip (g g' : GE):GL:=fun en=>(g en).bind fun p=>(g' p.1).bind fun q=>(seqW p.2.1).bind fun ws=>(seqW q.2.1).bind fun us=>some (q.1,zipW ws us)
section
variable {K:PySem.W.Frag}{F H:Hp}{σ:St}
theorem zdz {w:W}{ws:List W}{v:V} (y:Rep K F w v) (hs:seqW w=some ws):∃a k vs,v=.ref a/\SqK K k F a vs/\Reps K F ws vs:=by
  cases w with
  | lst xs=>obtain rfl:=sI hs;cases y with
    | lst y r=>exact⟨_,true,_,rfl,SqL.of' y,r⟩
  | frl xs=>obtain rfl:=sI hs;cases y with
    | frl y r=>exact⟨_,true,_,rfl,y,r⟩
  | tup xs=>obtain rfl:=sI hs;cases y with
    | tup y r=>exact⟨_,false,_,rfl,.inl (.inl y),r⟩
  | _=>exact noSome hs
theorem z50 {a b:Addr}{ka kb:Bool}{vs us:List V}{ws zs:List W}(h:SqK K ka F a vs)(h' : SqK K kb F b us)(r:Reps K F ws vs)(r' : Reps K F zs us):ItOk K F (Itz K ka kb a b) (zipW ws zs) where
 go:=fun i H s hi=>by
  rw[zdk] at hi;have l1:i < vs.length:=by rw[<-r.length];omega
  have l2:i < us.length:=by rw[<-r'.length];omega
  exact⟨vs,us,vs[i],us[i],h.mono s,h'.mono s,List.getElem?_eq_getElem l1,List.getElem?_eq_getElem l2⟩
 stop:=fun H s=>⟨vs,us,h.mono s,h'.mono s,by rw[zdk,r.length,r'.length];omega⟩
 yld:=fun i H x H' s hi y=>by
  nofun;obtain⟨p,v,u,e1,hp,e2,y1,y2⟩:=y;ac_rfl;subst e1 e2;nofun;obtain⟨w1,g1,q1⟩:=r.getV (y1 vs (h.mono s));obtain⟨w2,g2,q2⟩:=r'.getV (y2 us (h'.mono s));ac_rfl;exact⟨_,zii g1 g2,.tup hp (.cons q1 (.cons q2 .nil))⟩
theorem zw0 {g g' : GE}{R:It->Hp->Prop}(h:tI K (gZip g g') σ H R):iZip K (zdv (tE K g) (zdv (tE K g') tNil)) σ H R:=by
 nofun;obtain⟨F,pr,en,en',ws,Re,h,q⟩:=h;obtain⟨⟨e1,r1⟩,h1,h⟩:=bS h;obtain⟨⟨e2,r2⟩,h2,h⟩:=bS h;obtain⟨us,hs,h⟩:=bS h;obtain⟨zs,hs',h⟩:=bS h;ac_rfl;cases h;refine⟨F,pr,en,e1,r1,Re,h1,fun F1 H1 v s1 R1 z=>?_⟩;nofun;obtain⟨F2,s2,R2,y⟩:=z.freeze R1;ac_rfl;refine⟨F2,pr,e1,e2,r2,R2,h2,fun F3 H3 v' s3 R3 z'=>?_⟩;nofun;obtain⟨F4,s4,R4,y'⟩:=z'.freeze R3;obtain⟨a,ka,vs,ea,qa,ra⟩:=zdz (y.mono (s3.trans s4)) hs;obtain⟨b,kb,vs',eb,qb,rb⟩:=zdz y' hs';ac_rfl;subst ea eb;exact⟨a,b,ka,kb,vs,vs',rfl,qa.mono R4.sub,qb.mono R4.sub,q F4 H3 _ (s1.trans (s2.trans (s3.trans s4))) R4 (z50 qa qb ra rb)⟩
end
open AutoSeq1 (wpAny_loadPart')
section
variable {prog:Program}{w:World}{A:Around}{E:Value->Shared->Prop}{s:Shared}
theorem zt1 {it l:Addr}{xs:Array Value}(ne:l≠it)(hn:A.handled=none):Draws prog w A.in1 it [it,l] xs.size (fun i x=>xs[i]?=some x) (fun k h=>h.IsTupleIter it l k/\h.IsTuple l xs) where
 live:=fun i h st=>let ⟨⟨o,e,_⟩,_⟩:=st;⟨o,e⟩
 frame:=fun i h h' st k=>⟨st.1.at fun o e=>k it (by simp) o e,let ⟨o,e,r⟩:=st.2;⟨o,k l (by simp) o e,r⟩⟩
 item:=fun i s Q E hi st q=>zfb (k:=i) (xs:=xs) (x:=xs[i]) (.inr st) (Array.getElem?_eq_getElem hi) ne fun h' c sb=>by
  rcases c with ⟨⟨o,e,c1,_⟩,c2⟩ | c
  ·obtain ⟨o', e', c1', _⟩ := st.1;have:=st.2;exact absurd c2 (fun c2=>by
    obtain⟨o2,e2,c3,_⟩:=c2;obtain⟨o3,e3,c4,_⟩:=st.2;rw[(sb.2 l ne).trans e3] at e2;obtain rfl:=sI e2;rw[c4] at c3;exact absurd (Value.type.inj c3) #v[0,9])
  ·exact q xs[i] h' s.toks (Array.getElem?_eq_getElem hi) c sb
 done:=fun s Q E st q=>zh2 (k:=xs.size) (xs:=xs) (show A.in1.handled=none from hn) (.inr st) (Array.getElem?_eq_none (Nat.le_refl _)) q
theorem zmz (l:Addr) (items:Array Value) (n:Nat) (dct:Option Addr) (sl:Array (Option Value)) :
  Meets (Builtin.«enumerate.__new__» ⟨[.type "enumerate",.ref l],[]⟩) (fun _ R s=>s.heap.get? l=some { cls:=.type "tuple",dict:=dct,data:=.seq items n,slots:=sl } /\
   R (.ok (.ret (.ref (s.heap.push { cls:=.type "tuple_iterator",data:=.fields #[.ref l,.int 0 0] }).objs.size)))
    { s with heap:=(s.heap.push { cls:=.type "tuple_iterator",data:=.fields #[.ref l,.int 0 0] }).push { cls:=.type "enumerate",data:=.fields #[.none,.bool false,.ref s.heap.objs.size,rawInt 0,.none,.none] } }) :=
 .of_wp fun prog w A R s h=>by
  obtain⟨hp,g,d,tk,os⟩:=s;obtain⟨hl,h⟩:=h;have hsub:=sub_enumerate;have hL:Heap.IsTuple (Shared.heap ⟨hp,g,d,tk,os⟩) l items:=⟨_,hl,rfl,n,rfl⟩
  wp_walk using wpAny_loadPart' hl
  refine wpAny_stack_any fun st=>wpAny_pure ?_;split
  ·rename_i c _ _ _ _ _;cases (c == Value.type "enumerate")<;>(wp_walk using wpAny_loadPart' hl,wpAny_pyIter_tuple hL)<;>exact⟨_,rfl,h⟩
  ·wp_walk using wpAny_loadPart' hl, wpAny_pyIter_tuple hL
   exact⟨_,rfl,h⟩
theorem zo6 {l:Addr}{items:Array Value}{Q:Value->Shared->Prop} (hL:s.heap.IsTuple l items)
  (h:∀h',IsEnum h' (s.heap.objs.size+1) s.heap.objs.size 0 .none->h'.IsTupleIter s.heap.objs.size l 0->(∀b o,s.heap.get? b=some o->h'.get? b=some o)->Q (.ref (s.heap.objs.size+1)) { s with heap:=h' }) :
  wpAny (model prog w) A (call (.type "enumerate") [.ref l]) Q E s:=by
 nofun;obtain⟨⟨c,dct,dt,sl⟩,hl,hc,n,hd⟩:=hL;ac_rfl;cases (show c=.type "tuple" from hc);cases (show dt=.seq items n from hd);refine callType_new F.called_enumerate #v[0,9] (F.typeCall_enumerate_1 _) (F.newCall_enumerate_1 _) (fun obj=>F.args_object_init_2 obj _) F.entry_enumerate_new (zmz l items n dct sl) ⟨hl,?_⟩;have hz:(s.heap.push { cls:=.type "tuple_iterator",data:=.fields #[.ref l,.int 0 0] }).objs.size=s.heap.objs.size+1:=Heap.size_push ..;show _/\_;rw[hz];have he:=Heap.get?_push_size (s.heap.push { cls:=.type "tuple_iterator",data:=.fields #[.ref l,.int 0 0] }) (o:={ cls:=.type "enumerate",data:=.fields #[.none,.bool false,.ref s.heap.objs.size,rawInt 0,.none,.none] }) rfl;rw[hz] at he;exact⟨⟨_,he,rfl⟩,h _ he ⟨_,Heap.get?_push_of_some _ (Heap.get?_push_size _ rfl),rfl,rfl⟩ fun b o x=>Heap.get?_push_of_some _ (Heap.get?_push_of_some _ x)⟩
end
noncomputable def IteT (K:PySem.W.Frag) (a:Addr):It :=
 ⟨fun i H=>∃xs x,SqT K H a xs/\xs[i]?=some x,fun i H x H'=>∃p v,x=.ref p/\H p=none/\H'=upd H p (.tup [.int i,v])/\∀xs,SqT K H a xs->xs[i]?=some v,fun i H=>∃xs,SqT K H a xs/\xs.length<=i⟩
theorem zpn {P:Program}{w:World}{K:PySem.W.Frag}{es:List Expr}{x1}{px:Pos}(a e it:Addr)(hei:e≠it)(hea:e≠a)(hai:a≠it):Turn P w K (.Tuple es x1 px) (IteT K a) [e,it] e (fun i h=>(∃old,IsEnum h e it i old)/\h.IsTupleIter it a i) where
 mem:=by simp
 obj:=fun i h st b hb=>by
  nofun;obtain⟨⟨old,he⟩,o,hi,c,d⟩:=st;ac_rfl;rcases List.mem_cons.mp hb with rfl | hb
  ·exact⟨_,he,fun v z=>by cases z⟩
  ·have : b = it := by simpa using hb
   subst this;exact⟨o,hi,fun v z=>by rw[d] at z;cases z⟩
 keep:=fun i h h' st k=>⟨let ⟨old,he⟩:=st.1;⟨old,k e (by simp) _ he⟩,st.2.at fun o z=>k it (by simp) o z⟩
 item:=by
  intro X hP hw hK hc i pins s σ H E I hf st hg;subst hP hw hK;nofun;obtain⟨xs,x,hq,hx⟩:=hg;obtain⟨its,rv,p,hz⟩:=I.tuple hq;obtain⟨u,hu,ru⟩:=rv.get hx;obtain⟨⟨old,he⟩,hit⟩:=st;ac_rfl;have hT:s.heap.IsTuple a its.toArray:=p;have lt:i < its.toArray.size:=by
   rw[List.size_toArray];exact (List.getElem?_eq_some_iff.mp hu).1
  refine wpAny_pyNext_enum_itemD (zt1 hai (I.ok.hd hc)) he ⟨hit,hT⟩ lt hei (by simp [hei,hea]) fun y h' tk hy ho hst hT' hsz hk=>⟨_,rfl,?_⟩;have eu:y=u:=by
   have:its[i]?=some y:=by simpa using hy
   rw[hu] at this;exact (sI this).symm
  subst eu;refine wpAny_letOwnedTupleGo_enum ho fun h'' he'' hs''=>?_;have kk:∀b o,b ∉ [e,it]->s.heap.get? b=some o->h''.get? b=some o:=fun b o hb q=>by
   have h1:b≠e:=fun z=>hb (by simp [z]);have h2:b≠it:=fun z=>hb (by simp [z]);exact (hs''.2 b h1).trans (hk b o h1 h2 q)
  have hTe:s.heap.objs.size≠e:=fun z=>absurd (Heap.lt_size he) (by rw[z];exact Nat.lt_irrefl _);have hit'' : h''.IsTupleIter it a (i+1):=hst.1.at fun o y=>(hs''.2 it hei.symm).trans y;refine⟨.ref s.heap.objs.size,upd H s.heap.objs.size (.tup [.int i,x]),I.turnLay kk (fun b hb=>?_) hf (Nat.le_refl _) ⟨by show 2<=sizeLine;decide,[.int i tk,y],.cons ⟨_,rfl⟩ (.cons ru .nil),?_⟩,rfl,⟨_,x,rfl,I.hok.fresh (Nat.le_refl _),rfl,fun ys hy=>by rw[I.tuple_inj hy hq];exact hx⟩,⟨⟨_,by simpa using he''⟩,hit''⟩,fun b hb=>?_⟩
  ·rcases List.mem_cons.mp hb with rfl | hb
   ·exact⟨_,he''⟩
   ·have : b = it := by simpa using hb
    subst this;obtain⟨o,z,_⟩:=hit'';exact⟨o,z⟩
  ·exact⟨_,(hs''.2 _ hTe).trans hT',⟨rfl,_,rfl⟩,rfl⟩
  ·have:b≠s.heap.objs.size:=by
    rcases List.mem_cons.mp hb with rfl | hb
    ·exact hTe.symm
    ·have e2 : b = it := by simpa using hb
     subst e2;obtain⟨o,z,_⟩:=hit;exact Nat.ne_of_lt (Heap.lt_size z)
   rw[upd_ne this];exact (hf b hb).1
 done:=by
  intro X hP hw hK hc i pins s σ H E I hf st hg;subst hP hw hK;nofun;obtain⟨xs,hq,hx⟩:=hg;obtain⟨its,rv,p,hz⟩:=I.tuple hq;obtain⟨⟨old,he⟩,hit⟩:=st;obtain⟨f0,f1,f2,f3,f4,f5⟩:=hf it (by simp);ac_rfl;have hl:=rv.length;have hT:s.heap.IsTuple a its.toArray:=p;have hTy:s.TypeIs (.ref e) "enumerate" := ⟨_,he,rfl⟩;unfold pyNext;refine wpAny_bind (wpAny_attempt (wpAny_callSpecial?_slot (name:=Str.ofString "__next__") hTy F.slot_enumerate_next (wpAny_call_entry F.slot_enumerate_next hTy F.entry_enumerate_next ?_ (F.args_enumerate_next_1 _))));show wpAny _ _ (field (.ref e) 2 >>= _) _ _ _;refine wpAny_bind (wpAny_field he rfl (x:=.ref it) rfl ?_);refine wpAny_bind (zh2 (show _=none from I.ok.hd hc) (.inr ⟨hit,hT⟩) (Array.getElem?_eq_none (by simp;omega)) fun h' x eb hx'=>?_);obtain⟨o,ho,hc'⟩:=hx';refine wpAny_bind (wpAny_isInstance (T := "StopIteration") (b:=true) ⟨o,ho,hc'⟩ isSubtype_stop ?_);exact wpAny_pure ⟨rfl,I.turned (t':=s.toks) (fun b o hb e=>eb b o hb e) f0 f1 f3 f4 f5⟩
 self:=fun _ _ _ _ _ st h=>let ⟨_,he⟩:=st.1;wpAny_pyIter_enum he h
section
variable {X:Cx}
noncomputable def zyo (K:PySem.W.Frag) (ta:TA):TI:=fun σ H R=>ta σ H fun vs H1=>∃a xs,vs=[.ref a]/\(SqL K H1 a xs/\R (Ite K a) H1\/SqT K H1 a xs/\R (IteT K a) H1)
theorem zxb {es:List Expr}{x1}{px:Pos}{l:Expr}{tl:TA}{p pos:Pos} (hg:Gl X "enumerate") (hm:X.mg "enumerate" = none) (hl:PA X [l] tl) (hs:starEach [l] X.env=[(false,eval l X.env)]:=by rfl) :
    PI X (.Tuple es x1 px) (.Call (.Name "enumerate" p) [l] [] pos) (zyo X.K tl):=by
  intro pins s σ H R I h;refine Call_ (zdw I hg hm boot_enumerate (PyProof.Rows.callWith_type1 (thn (hl pos pins s σ H _ I h) fun us s1 ⟨vs,H1,I1,r1,q1⟩=>?_) hs rfl));obtain⟨a,xs,e,q⟩:=q1;subst e;cases r1 with
  | cons r rr =>
    cases rr;cases r;have fp:∀b∈[s1.heap.objs.size+1,s1.heap.objs.size],FpOk X pins H1 b:=fun b hb=>by
      have e:s1.heap.objs.size<=b:=by
        rcases List.mem_cons.mp hb with rfl | hb
        · exact Nat.le_succ _
        · have e2 : b = s1.heap.objs.size := by simpa using hb
          rw[e2];exact Nat.le_refl _
      exact I1.fpOk e (I1.hok.fresh e)
    rcases q with ⟨hq,q⟩ | ⟨hq,q⟩
    · obtain ⟨its, rv, p', hz⟩ := I1.list hq
      refine call_enumerate_list p'.isList fun h' he hit hsz hk=>wpAny_pyIter_enum he ?_;exact⟨s1.heap.objs.size+1,[s1.heap.objs.size+1,s1.heap.objs.size],_,_,H1,rfl,I1.kept (t':=s1.toks) hk,zt5 a _ _ (Nat.succ_ne_self _),⟨⟨_,by simpa using he⟩,hit⟩,fp,q⟩
    · obtain ⟨its, rv, p', hz⟩ := I1.tuple hq
      have hT:s1.heap.IsTuple a its.toArray:=p';have al:a < s1.heap.objs.size:=let ⟨o,e,_⟩:=hT;Heap.lt_size e;refine zo6 hT fun h' he hit hk=>wpAny_pyIter_enum he ?_;exact⟨s1.heap.objs.size+1,[s1.heap.objs.size+1,s1.heap.objs.size],_,_,H1,rfl,I1.kept (t':=s1.toks) hk,zpn a _ _ (Nat.succ_ne_self _) (Nat.ne_of_gt (Nat.lt_succ_of_lt al)) (Nat.ne_of_lt al),⟨⟨_,by simpa using he⟩,hit⟩,fp,q⟩
end
section
variable {K:PySem.W.Frag}{F H:Hp}{σ:St}
theorem zu0 {a:Addr}{vs:List V}{ws:List W}(h:SqT K F a vs)(r:Reps K F ws vs):ItOk K F (IteT K a) (zgc ws 0) where
 go:=fun i H s hi=>by rw[zb8] at hi;exact⟨vs,vs[i]'(by rw[<-r.length];exact hi),zbz s h,by rw[List.getElem?_eq_getElem]⟩
 stop:=fun H s=>⟨vs,zbz s h,by rw[zb8,r.length];exact Nat.le_refl _⟩
 yld:=fun i H x H' s hi y=>by
  nofun;obtain⟨p,v,e,hp,e2,y⟩:=y;ac_rfl;subst e e2;obtain⟨w,e,q⟩:=r.getV (y vs (zbz s h));refine⟨_,zd2 e,?_⟩;rw[Nat.zero_add];exact .tup hp (.cons (.int _) (.cons q .nil))
noncomputable def zm7 (g:GE):GL:=fun en=>(g en).bind fun p=>(seqW p.2.1).bind fun ws=>some (p.1,zgc ws 0)
theorem zqb {g:GE}{R:It->Hp->Prop}(h:tI K (zm7 g) σ H R):zyo K (zdv (tE K g) tNil) σ H R:=by
 nofun;obtain⟨F,pr,en,en',ws,Re,h,q⟩:=h;obtain⟨⟨e1,rv⟩,h1,h⟩:=bS h;obtain⟨us,hs,h⟩:=bS h;ac_rfl;cases h;refine⟨F,pr,en,e1,rv,Re,h1,fun F1 H1 v s1 R1 z=>?_⟩;nofun;obtain⟨F2,s2,R2,y⟩:=z.freeze R1;obtain⟨a,k,vs,e,hq,r⟩:=zdz y hs;ac_rfl;subst e;cases k with
 | true=>exact⟨a,vs,rfl,.inl ⟨R2.sub.seq hq,q F2 H1 _ (s1.trans s2) R2 (zy3 hq r)⟩⟩
 | false=>exact⟨a,vs,rfl,.inr ⟨zbz R2.sub hq,q F2 H1 _ (s1.trans s2) R2 (zu0 hq r)⟩⟩
end
end L2
namespace L2
open PySem PySem.Spec PyProof.Rows
section
variable {X:Cx}{pins:List (Addr × Obj)}{σ:St}{H:Hp}{s:Shared}
end
section
variable {K:PySem.W.Frag}{F H:Hp}
end
noncomputable abbrev Fn:=List W->Option (List W × (W × Bool))
noncomputable def zay (m:List Bool) (ws:List W):En:=List.zipWith (fun w b=>some (w,b)) ws m
noncomputable def spF (K:PySem.W.Frag) (m:List Bool) (Φ:Fn):Sp:=fun vs H Q _=>∃F pr ws ws' r,ws.length=m.length/\ws'.length=m.length/\Rel K F pr (zay m ws) (vs.map some) H/\Φ ws=some (ws',r) /\
 ∀F' H' v,Same F F'->Rel K F' pr (zay m ws') (vs.map some) H'->Res K F' H' pr (zay m ws') (vs.map some) r v->Q v H'
theorem zeb {m:List Bool}{ws:List W}{k:Nat}{w:W}{b:Bool}:(zay m ws)[k]?=some (some (w,b))↔ws[k]?=some w/\m[k]?=some b:=by
 unfold zay;rw[List.getElem?_zipWith];cases ws[k]?<;>cases m[k]?<;>simp
theorem zd1 {m:List Bool}{ws:List W}(h:ws.length=m.length):(zay m ws).length=m.length:=by
 unfold zay;rw[List.length_zipWith,h,Nat.min_self]
theorem zri {K:PySem.W.Frag}{m:List Bool}{Φ:Fn}{vs:List V}{H:Hp}{Q:VK}{E:XK}(h:spF K m Φ vs H Q E):vs.length=m.length:=by
 obtain⟨F,pr,ws,ws',r,h1,_,R,_⟩:=h;have:=R.len;rw[zd1 h1,List.length_map] at this;exact this.symm
noncomputable def isR:W ⊕ Nat->Bool
 | .inr _=>true
 | .inl _=>false
noncomputable def zax (xs:List (W ⊕ Nat)):Cap:=xs.map fun x=>match x with
 | .inr i=>some i
 | .inl _=>none
noncomputable def zao (en:En) (xs:List (W ⊕ Nat)):Bool:=xs.all fun x=>match x with
  | .inr i=>match en[i]? with
    | some (#v[_,5])=>true
    | _=>false
  | .inl _=>true
noncomputable def gCall (m:List Bool) (Φ:Fn) (as:GAs):GE:=fun en=>(as en).bind fun p=>if decide (p.2.map isR=m) && zao p.1 p.2 && zbl (zax p.2) then (zar p.1 p.2).bind fun ws=>(Φ ws).bind fun q=>if q.1.length=m.length then some (zan (zax p.2) p.1 (zay m q.1),q.2) else none else none
theorem ArgRs.get {K:PySem.W.Frag}{F:Hp}{σ:St}:∀{xs:List (W ⊕ Nat)}{vs:List V}{k:Nat}{x:W ⊕ Nat},ArgRs K F σ xs vs->xs[k]?=some x->∃v,vs[k]?=some v/\ArgR K F σ x v
  | _,_,_,_,.nil,e=>by simp at e
  | _,_,0,_,.cons h _,e=>by simp at e;subst e;exact⟨_,rfl,h⟩
  | _,_,k+1,x,.cons _ r,e=>by
    obtain⟨v,h1,h2⟩:=ArgRs.get (k:=k) (x:=x) r (by simpa using e);exact⟨v,by simpa using h1,h2⟩
theorem ArgRs.length {K:PySem.W.Frag}{F:Hp}{σ:St}:∀{xs:List (W ⊕ Nat)}{vs:List V},ArgRs K F σ xs vs->xs.length=vs.length
 | _,_,.nil=>rfl
 | _,_,.cons _ r=>congrArg (· + 1) (ArgRs.length r)
theorem zk5 {en:En}:∀{xs:List (W ⊕ Nat)}{ws:List W},zar en xs=some ws->ws.length=xs.length
  | [],_,e=>by obtain rfl:=sI e;rfl
  | x::xs,_,e=>by
    obtain⟨w,_,e⟩:=bS e;obtain⟨ws,h,e⟩:=bS e;obtain rfl:=sI e;exact congrArg (· + 1) (zk5 h)
theorem zjg {en:En}:∀{xs:List (W ⊕ Nat)}{ws:List W}{k:Nat}{w:W},zar en xs=some ws->ws[k]?=some w->∃x,xs[k]?=some x/\resA en x=some w
  | [],_,_,_,e,h=>by obtain rfl:=sI e;simp at h
  | x::xs,_,k,w,e,h=>by
    obtain⟨u,hu,e⟩:=bS e;obtain⟨us,h2,e⟩:=bS e;obtain rfl:=sI e;cases k with
    | zero=>simp at h;subst h;exact⟨x,rfl,hu⟩
    | succ k=>obtain⟨y,h3,h4⟩:=zjg (k:=k) h2 (by simpa using h);exact⟨y,by simpa using h3,h4⟩
theorem zeg {xs:List (W ⊕ Nat)}{k i:Nat}:(zax xs)[k]?=some (some i)↔xs[k]?=some (.inr i):=by
 unfold zax;rw[List.getElem?_map];cases e:xs[k]? with
 | none=>simp
 | some x=>cases x<;>simp
section
variable {K:PySem.W.Frag}{F H:Hp}{pr:Prt}{en:En}{σ:St}
theorem Rel.back {cap:Cap}{F' H' : Hp}{ce:En}{σc:St} (R:Rel K F pr en σ H) (s:Same F F') (Rc:Rel K F' (zbj pr cap en σ H) ce σc H') (slot:∀(i j:Nat) (v:V),zal cap i=some j->σc[j]?=some (some v)->σ[i]?=some (some v)) :
    Rel K F' pr (zan cap en ce) σ H'/\∀r v,Res K F' H' (zbj pr cap en σ H) ce σc r v->Res K F' H' pr (zan cap en ce) σ r v:=by
  have un:∀(i:Nat) (w:W),zal cap i=none->en[i]?=some (some (w,true))->∃(a:Addr) (vs:HO) (ws:W),w=ws/\σ[i]?=some (some (V.ref a))/\H a=some vs/\H' a=some vs/\F' a=none/\OwnR K F ws vs/\∀(j:Nat) (w' : W),ce[j]?=some (some (w',true))->σc[j]?≠some (some (V.ref a)):=fun i w c e=>by
    obtain⟨a,vs,ws,h1,h2,h3,h4,h5⟩:=R.own i w e;obtain⟨b1,b2,b3⟩:=Rc.prt a vs (.inr ⟨i,w,e,c,h2,h3⟩);exact⟨a,vs,ws,h1,h2,h3,b1,b2,h5,b3⟩
  have capt:∀(i j:Nat) (w:W),zal cap i=some j->ce[j]?=some (some (w,true))->∃(a:Addr) (vs:HO) (ws:W),w=ws/\σ[i]?=some (some (V.ref a))/\σc[j]?=some (some (V.ref a))/\H' a=some vs/\F' a=none/\OwnR K F' ws vs:=fun i j w c e=>by
    obtain⟨a,vs,ws,h1,h2,h3,h4,h5⟩:=Rc.own j w e;exact⟨a,vs,ws,h1,slot i j _ c h2,h2,h3,h4,h5⟩
  refine⟨⟨by unfold zan;rw[List.length_mapIdx];exact R.len,Rc.sub,fun i w e=>?_,fun i w e=>?_,fun i k a w w' e1 e2 q1 q2=>?_,fun b o q=>?_,Rc.tb.go (fun b xs z=>.inl z) (fun b ps e f=>⟨e,f⟩) (.refl F') fun b ps e hh o z=>hh o (.inl z)⟩,fun r v z=>?_⟩
  · rcases backEn_get e with ⟨j, c, e⟩ | ⟨c, e⟩
    · obtain ⟨v, h1, h2⟩ := Rc.val j w e
      exact⟨v,slot i j v c h1,h2⟩
    · obtain ⟨v, h1, h2⟩ := R.val i w e
      exact⟨v,h1,h2.mono s⟩
  · rcases backEn_get e with ⟨j, c, e⟩ | ⟨c, e⟩
    · obtain ⟨a, vs, ws, h1, h2, _, h3, h4, h5⟩ := capt i j w c e
      exact⟨a,vs,ws,h1,h2,h3,h4,h5⟩
    · obtain ⟨a, vs, ws, h1, h2, _, h3, h4, h5, _⟩ := un i w c e
      exact⟨a,vs,ws,h1,h2,h3,h4,h5.mono s⟩
  · rcases backEn_get e1 with ⟨j, c, e1⟩ | ⟨c, e1⟩
    · obtain ⟨a', _, _, _, h2, h3, _⟩ := capt i j w c e1
      rw[q1] at h2;cases h2;rcases backEn_get e2 with ⟨l,c2,e2⟩ | ⟨c2,e2⟩
      · obtain ⟨a', _, _, _, g2, g3, _⟩ := capt k l w' c2 e2
        rw[q2] at g2;cases g2;have:=Rc.inj j l a _ _ e1 e2 h3 g3;subst this;have x:=za5 c;rw[za5 c2] at x;cases x;rfl
      · obtain ⟨a', _, _, _, g2, _, _, _, _, g3⟩ := un k w' c2 e2
        rw[q2] at g2;cases g2;exact absurd h3 (g3 j w e1)
    · obtain ⟨a', _, _, _, h2, _, _, _, _, h3⟩ := un i w c e1
      rw[q1] at h2;cases h2;rcases backEn_get e2 with ⟨l,c2,e2⟩ | ⟨c2,e2⟩
      · obtain ⟨a', _, _, _, g2, g3, _⟩ := capt k l w' c2 e2
        rw[q2] at g2;cases g2;exact absurd g3 (h3 l w' e2)
      · exact R.inj i k a _ _ e1 e2 q1 q2
  · obtain ⟨b1, b2, b3⟩ := Rc.prt b o (.inl q)
    refine⟨b1,b2,fun i w e=>?_⟩;rcases backEn_get e with ⟨j,c,e⟩ | ⟨c,e⟩
    · obtain ⟨a, _, _, _, h2, h3, _⟩ := capt i j w c e
      rw[h2];intro z;cases z;exact b3 j w e h3
    · exact (R.prt b o q).2.2 i w e
  · obtain ⟨w, fl⟩ := r
    cases fl with
    | false=>exact z
    | true =>
      obtain⟨a,vs,ws,q1,q2,q3,q4,q5,q6,q7⟩:=z;refine⟨a,vs,ws,q1,q2,q3,q4,q5,fun i w' e=>?_,fun b o p=>q7 b o (.inl p)⟩;rcases backEn_get e with ⟨j,c,e⟩ | ⟨c,e⟩
      · obtain ⟨a', _, _, _, h2, h3, _⟩ := capt i j w' c e
        rw[h2];intro z;cases z;exact q6 j w' e h3
      · obtain ⟨a', vs', ws', h1, h2, h3, h4, h5⟩ := R.own i w' e
        rw[h2];intro z;cases z;exact q7 a vs' (.inr ⟨i,w',e,c,h2,h3⟩) rfl
theorem ztu {m:List Bool}{Φ:Fn}{xs:List (W ⊕ Nat)}{e1 en' : En}{F1 H1:Hp}{vs:List V}{r:W × Bool}{Q:VK}{E:XK} (R1:Rel K F1 pr e1 σ H1) (a1:ArgRs K F1 σ xs vs)
    (h:(if decide (xs.map isR=m) && zao e1 xs && zbl (zax xs) then (zar e1 xs).bind fun ws=>(Φ ws).bind fun q=>if q.1.length=m.length then some (zan (zax xs) e1 (zay m q.1),q.2) else none else none)=some (en',r))
    (q:∀F' H' v,Same F1 F'->Rel K F' pr en' σ H'->Res K F' H' pr en' σ r v->Q v H'):spF K m Φ vs H1 Q E:=by
  split at h
  · rename_i z
    rw[Bool.and_eq_true,Bool.and_eq_true] at z;obtain⟨⟨z1,z2⟩,nd⟩:=z;have hm:xs.map isR=m:=of_decide_eq_true z1;nofun;obtain⟨ws,h2,h⟩:=bS h;obtain⟨⟨ws',r'⟩,h3,h⟩:=bS h;ac_rfl;split at h
    · rename_i hl
      cases h;have lx:ws.length=xs.length:=zk5 h2;have lm:xs.length=m.length:=by rw[<-hm,List.length_map]
      have lv:=a1.length;have at' : ∀(k:Nat) (w:W) (b:Bool),(zay m ws)[k]?=some (some (w,b))->∃x v,xs[k]?=some x/\isR x=b/\resA e1 x=some w/\vs[k]?=some v/\ArgR K F1 σ x v:=fun k w b e=>by
        nofun;obtain⟨g1,g2⟩:=zeb.mp e;obtain⟨x,g3,g4⟩:=zjg h2 g1;obtain⟨v,g5,g6⟩:=a1.get g3;ac_rfl;rw[<-hm,List.getElem?_map,g3] at g2;exact⟨x,v,g3,sI g2,g4,g5,g6⟩
      have ow:∀(k:Nat) (w:W),(zay m ws)[k]?=some (some (w,true))->∃i v,xs[k]?=some (.inr i)/\e1[i]?=some (some (w,true))/\vs[k]?=some v/\σ[i]?=some (some v):=fun k w e=>by
        nofun;obtain⟨x,v,g1,g2,g3,g4,g5⟩:=at' k w true e;ac_rfl;cases x with
        | inl _=>cases g2
        | inr i =>
          refine⟨i,v,g1,?_,g4,g5⟩;have o:=List.all_eq_true.mp z2 _ (List.mem_of_getElem? g1);simp only at o;split at o
          · rename_i w0 e0
            unfold resA at g3;simp only [e0] at g3;obtain rfl:=sI g3;exact e0
          · cases o
      have RC:Rel K F1 (zbj pr (zax xs) e1 σ H1) (zay m ws) (vs.map some) H1:=by
        refine⟨by rw[zd1 #v[],List.length_map];omega,R1.sub,fun k w e=>?_,fun k w e=>?_,fun k l a w w' g1 g2 g3 g4=>?_,fun b o p=>?_,R1.tb.go (fun b xs z=>zg2 R1 z) (fun b ps e f=>⟨e,f⟩) (.refl F1) fun b ps e hh o z=>zgz R1 e hh o z⟩
        · refine aG fun Gg qG => ?_
          obtain⟨x,v,g1,g2,g3,g4,g5⟩:=at' k w false e;ac_rfl;cases x with
          | inr _=>cases g2
          | inl u=>obtain rfl:=sI g3;exact⟨v,by rw[List.getElem?_map,g4];rfl,g5⟩
        · refine aG fun Gg qG => ?_
          obtain⟨i,v,g1,g2,g3,g4⟩:=ow k w e;obtain⟨a,us,wz,p1,p2,p3,p4,p5⟩:=R1.own i w g2;ac_rfl;rw[g4] at p2;cases p2;exact⟨a,us,wz,p1,by rw[List.getElem?_map,g3];rfl,p3,p4,p5⟩
        · refine aG fun Gg qG => ?_
          obtain⟨i,v,k1,k2,k3,k4⟩:=ow k w g1;obtain⟨i',v',l1,l2,l3,l4⟩:=ow l w' g2;ac_rfl;rw[List.getElem?_map,k3] at g3;cases g3;rw[List.getElem?_map,l3] at g4;cases g4;have:=R1.inj i i' a _ _ k2 l2 k4 l4;subst this;have y:=ze4 nd (zeg.mpr k1);rw[ze4 nd (zeg.mpr l1)] at y;exact (sI y).symm
        · rcases p with p | ⟨j, w, p1, p2, p3, p4⟩
          · obtain ⟨b1, b2, b3⟩ := R1.prt b o p
            refine⟨b1,b2,fun k w e=>?_⟩;nofun;obtain⟨i,v,g1,g2,g3,g4⟩:=ow k w e;ac_rfl;rw[List.getElem?_map,g3];intro y;cases y;exact b3 i w g2 g4
          · refine aG fun Gg qG => ?_
            obtain⟨a,us,wz,p1',p2',p3',p4',p5'⟩:=R1.own j w p1;ac_rfl;rw[p3] at p2';cases p2';refine⟨p4,p4',fun k w' e=>?_⟩;nofun;obtain⟨i,v,g1,g2,g3,g4⟩:=ow k w' e;ac_rfl;rw[List.getElem?_map,g3];intro y;cases y;have:=R1.inj i j _ _ _ g2 p1 g4 p3;subst this;exact zcd p2 k (zeg.mpr g1)
      refine ⟨F1,zbj pr (zax xs) e1 σ H1,ws,ws',_,by omega,hl,RC,h3,fun F2 H2 v s2 R2 y2=>?_⟩;obtain ⟨Ro,rz⟩:=R1.back s2 R2 fun i j v c e=>by
        have c':=zeg.mp (za5 c);obtain⟨v',g1,g2⟩:=a1.get c';rw[List.getElem?_map,g1] at e;cases e;exact g2
      exact q F2 H2 v s2 Ro (rz _ _ y2)
    · cases h
  · cases h
theorem zsr {m:List Bool}{Φ:Fn}{as:GAs}{Q:VK}(h:tE K (gCall m Φ as) σ H Q):z12 (spF K m Φ) [] E0 (tAs K as) σ H Q:=by
 nofun;obtain⟨F,pr,en,en',r,R,h,q⟩:=h;obtain⟨⟨e1,xs⟩,h1,h⟩:=bS h;ac_rfl;refine⟨F,pr,en,e1,xs,R,h1,fun F1 H1 vs s1 R1 a1=>?_⟩;show spF K m Φ (vs++[]) H1 Q E0;rw[List.append_nil];exact ztu R1 a1 h fun F' H' v s'=>q F' H' v (s1.trans s')
end
noncomputable def zb6:List Bool->List W->En->Option (List W)
 | [],[],_=>some []
 | true::m,_::ws,#v[w,5]::en=>(zb6 m ws en).bind fun r=>some (w::r)
 | false::m,w::ws,_::en=>(zb6 m ws en).bind fun r=>some (w::r)
 | _,_,_=>none
noncomputable def mpOf (m:List Bool):List Nat:=(List.range m.length).filter fun k=>m[k]? == some true
noncomputable def zah (m:List Bool) (n:Nat) (g:GS):Fn:=fun ws=>if ws.length=m.length then match g (zay m ws++List.replicate (n - m.length) none) with
 | some (en,.ret r)=>(zb6 m ws en).bind fun ws'=>some (ws',r)
 | some (en,.nx)=>(zb6 m ws en).bind fun ws'=>some (ws',(.non,false))
 | _=>none else none
theorem zha:∀{m:List Bool}{ws:List W}{en:En}{ws' : List W},zb6 m ws en=some ws'->ws'.length=m.length/\∀(k:Nat) (w:W),ws'[k]?=some w->(m[k]?=some true->en[k]?=some (some (w,true)))/\(m[k]?=some false->ws[k]?=some w)
  | [],[],_,_,e=>by obtain rfl:=sI e;exact⟨rfl,fun k w h=>by simp at h⟩
  | true::m,_::ws,some (u,true)::en,_,e=>by
    obtain⟨r,h,e⟩:=bS (show (zb6 m ws en).bind _=_ from e);obtain rfl:=sI e;obtain⟨h1,h2⟩:=zha h;refine⟨congrArg (· + 1) h1,fun k w hk=>?_⟩;cases k with
    | zero=>simp at hk;subst hk;exact⟨fun _=>rfl,fun z=>by simp at z⟩
    | succ k =>
      have:=h2 k w (by simpa using hk);exact⟨fun z=>by simpa using this.1 (by simpa using z),fun z=>by simpa using this.2 (by simpa using z)⟩
  | false::m,u::ws,_::en,_,e=>by
    obtain⟨r,h,e⟩:=bS (show (zb6 m ws en).bind _=_ from e);obtain rfl:=sI e;obtain⟨h1,h2⟩:=zha h;refine⟨congrArg (· + 1) h1,fun k w hk=>?_⟩;cases k with
    | zero=>simp at hk;subst hk;exact⟨fun z=>by simp at z,fun _=>rfl⟩
    | succ k =>
      have:=h2 k w (by simpa using hk);exact⟨fun z=>by simpa using this.1 (by simpa using z),fun z=>by simpa using this.2 (by simpa using z)⟩
  | [],_::_,_,_,e=>by exact noSome e
  | true::_,[],_,_,e=>by exact noSome e
  | false::_,[],_,_,e=>by exact noSome e
  | true::_,_::_,[],_,e=>by exact noSome e
  | false::_,_::_,[],_,e=>by exact noSome e
  | true::_,_::_,none::_,_,e=>by exact noSome e
  | true::_,_::_,#v[_,6]::_,_,e=>by exact noSome e
theorem ztd {K:PySem.W.Frag}{m:List Bool}{N:List Str}{g:GS}{vs:List V}{H:Hp}{Q:VK}{E:XK} (h:spF K m (zah m N.length g) vs H Q E):tS K (mpOf m) g { nx:=fun _ H'=>Q .non H',rt:=Q } (start N vs) H:=by
  have hv:=zri h;refine aG fun _ qG=>?_;obtain ⟨F,pr,ws,ws',r,h1,h2,R,h3,q⟩:=h;refine qG ?_;clear qG;unfold zah at h3;rw [if_pos h1] at h3;have la:=zd1 h1;have pad:∀(i:Nat) (x:W × Bool),(zay m ws++List.replicate (N.length - m.length) none)[i]?=some (some x)->(zay m ws)[i]?=some (some x):=fun i x e=>by
    by_cases hi:i < (zay m ws).length
    · rw[List.getElem?_append_left hi] at e;exact e
    · rw [List.getElem?_append_right (by omega), List.getElem?_replicate] at e
      split at e<;>cases e
  have st:∀(i:Nat) (v:V),(vs.map some)[i]?=some (some v)->(start N vs)[i]?=some (some v):=fun i v e=>by
    unfold start;rw[List.getElem?_append_left (by have:=(List.getElem?_eq_some_iff.mp e).1;exact this)];exact e
  have st' : ∀(i:Nat) (v:V),i < m.length->(start N vs)[i]?=some (some v)->(vs.map some)[i]?=some (some v):=fun i v hi e=>by
    unfold start at e;rw[List.getElem?_append_left (by rw[List.length_map];omega)] at e;exact e
  have R0:Rel K F pr (zay m ws++List.replicate (N.length - m.length) none) (start N vs) H:=by
    refine⟨?_,R.sub,fun i w e=>?_,fun i w e=>?_,fun i j a w w' e1 e2 q1 q2=>?_,fun b o p=>?_,R.tb⟩
    · unfold start
      rw[List.length_append,List.length_append,List.length_replicate,List.length_replicate,List.length_map,la,hv]
    · obtain ⟨v, g1, g2⟩ := R.val i w (pad i _ e)
      exact⟨v,st i v g1,g2⟩
    · refine aG fun Gg qG => ?_
      obtain⟨a,us,wz,g1,g2,g3⟩:=R.own i w (pad i _ e);ac_rfl;exact⟨a,us,wz,g1,st i _ g2,g3⟩
    · have l1 : i < m.length := by have := (List.getElem?_eq_some_iff.mp (pad i _ e1)).1; omega
      have l2:j < m.length:=by have:=(List.getElem?_eq_some_iff.mp (pad j _ e2)).1;omega
      exact R.inj i j a w w' (pad i _ e1) (pad j _ e2) (st' i _ l1 q1) (st' j _ l2 q2)
    · obtain ⟨b1, b2, b3⟩ := R.prt b o p
      refine⟨b1,b2,fun i w e z=>?_⟩;have l1:i < m.length:=by have:=(List.getElem?_eq_some_iff.mp (pad i _ e)).1;omega
      exact b3 i w (pad i _ e) (st' i _ l1 z)
  have back:∀(en:En) (wz:List W) (F' : Hp) (σ' : St) (H' : Hp),zb6 m ws en=some wz->Same F F'->Rel K F' pr en σ' H'->Keep (mpOf m) (start N vs) σ' ->
      Rel K F' pr (zay m wz) (vs.map some) H'/\∀r v,Res K F' H' pr en σ' r v->Res K F' H' pr (zay m wz) (vs.map some) r v:=fun en wz F' σ' H' ho s' R' k'=>by
    obtain ⟨o1,o2⟩:=zha ho;have own:∀(k:Nat) (w:W),(zay m wz)[k]?=some (some (w,true))->en[k]?=some (some (w,true))/\∀v,σ'[k]?=some (some v)↔(vs.map some)[k]?=some (some v):=fun k w e=>by
      obtain⟨g1,g2⟩:=zeb.mp e;have lk:k < m.length:=(List.getElem?_eq_some_iff.mp g2).1;have hk:k∈mpOf m:=List.mem_filter.mpr ⟨List.mem_range.mpr lk,by rw[g2];simp⟩;refine⟨(o2 k w g1).1 g2,fun v=>?_⟩;rw[k' k hk];exact⟨st' k v lk,st k v⟩
    refine⟨⟨by rw[zd1 o1,List.length_map,hv],R'.sub,fun k w e=>?_,fun k w e=>?_,fun k l a w w' e1 e2 q1 q2=>?_,fun b o p=>?_,R'.tb⟩,fun r v z=>?_⟩
    · refine aG fun Gg qG => ?_
      obtain⟨g1,g2⟩:=zeb.mp e;obtain⟨v,g3,g4⟩:=R.val k w (zeb.mpr ⟨(o2 k w g1).2 g2,g2⟩);ac_rfl;exact⟨v,g3,g4.mono s'⟩
    · refine aG fun Gg qG => ?_
      obtain⟨g1,g2⟩:=own k w e;obtain⟨a,us,wz,p1,p2,p3⟩:=R'.own k w g1;ac_rfl;exact⟨a,us,wz,p1,(g2 _).mp p2,p3⟩
    · obtain ⟨g1, g2⟩ := own k w e1
      obtain⟨g3,g4⟩:=own l w' e2;exact R'.inj k l a _ _ g1 g3 ((g2 _).mpr q1) ((g4 _).mpr q2)
    · obtain ⟨b1, b2, b3⟩ := R'.prt b o p
      refine⟨b1,b2,fun k w e z=>?_⟩;obtain⟨g1,g2⟩:=own k w e;exact b3 k w g1 ((g2 _).mpr z)
    · obtain ⟨w0, fl⟩ := r
      cases fl with
      | false=>exact z
      | true =>
        nofun;obtain⟨a,us,wz',q1,q2,q3,q4,q5,q6,q7⟩:=z;ac_rfl;refine⟨a,us,wz',q1,q2,q3,q4,q5,fun k w e y=>?_,q7⟩;obtain⟨g1,g2⟩:=own k w e;exact q6 k w g1 ((g2 _).mpr y)
  cases eg:g (zay m ws++List.replicate (N.length - m.length) none) with
  | none=>simp only [eg] at h3;exact noSome h3
  | some p =>
    obtain⟨en,fl⟩:=p;refine⟨F,pr,_,en,fl,R0,eg,?_⟩;cases fl with
    | brk=>simp only [eg] at h3;exact noSome h3
    | cnt=>simp only [eg] at h3;exact noSome h3
    | nx =>
      simp only [eg] at h3;obtain⟨wz,ho,h3⟩:=bS h3;cases h3;intro F' σ' H' s' R' k';obtain⟨Rb,_⟩:=back en ws' F' σ' H' ho s' R' k';exact q F' H' .non s' Rb .non
    | ret r' =>
      simp only [eg] at h3;obtain⟨wz,ho,h3⟩:=bS h3;cases h3;intro F' σ' H' v s' R' k' z;obtain⟨Rb,rb⟩:=back en ws' F' σ' H' ho s' R' k';exact q F' H' v s' Rb (rb _ _ z)
end L2
set_option maxHeartbeats 4000000
namespace L2
open PySem PyProof.Rows
namespace Tim
noncomputable def gal:Bool->Keyed->Array Keyed->Nat->Nat->Nat->StateT SortSt Sem (Option Nat):=sortPriv% PySem.Builtin.gallop
noncomputable def mLo:Array Keyed->Array Keyed->StateT SortSt Sem (Array Keyed):=sortPriv% PySem.Builtin.mergeLo
noncomputable def mHi:Array Keyed->Array Keyed->StateT SortSt Sem (Array Keyed):=sortPriv% PySem.Builtin.mergeHi
theorem aG {P:Prop}(h:∀G:Prop,(P->G)->G):P:=h P id
structure Ord (lt:Keyed->Keyed->Bool) (bf le:Keyed->Keyed->Prop):Prop where
 tr:∀{x y z},le x y->le y z->le x z
 tot:∀x y,le x y\/le y x
 f1:∀{x y},bf x y->(lt y x=false↔le x y)
 f2:∀{x y},lt x y=true->le x y
 irr:∀x,lt x x=false
 ltr:∀{x y z},lt x y=true->lt y z=true->lt x z=true
 nt:∀{x z} (y),lt x z=true->lt x y=true\/lt y z=true
section
variable {lt:Keyed->Keyed->Bool}{bf le:Keyed->Keyed->Prop} (O:Ord lt bf le)
include O
theorem Ord.rf (x:Keyed):le x x:=(O.tot x x).elim id id
theorem Ord.f3 {x y:Keyed}(h:bf x y)(q:lt y x=true):¬ le x y:=fun z=>by rw[(O.f1 h).mpr z] at q;cases q
end
noncomputable abbrev d0:Keyed:=(Value.none,Value.none)
noncomputable def G (xs:Array Keyed) (i:Nat):Keyed:=(xs[i]?).getD d0
theorem zx1 {xs:Array Keyed}{i:Nat}(h:i < xs.size):xs[i]?=some (G xs i):=by unfold G;rw[getElem?_pos xs i h];rfl
theorem z05 {xs a₀:Array Keyed}(p:xs.Perm a₀){i:Nat}(h:i < xs.size):G xs i∈a₀.toList:=by
 refine (Array.perm_iff_toList_perm.mp p).mem_iff.mp ?_;unfold G;rw[getElem?_pos xs i h];simp
theorem zf1 {xs ys:Array Keyed}{i j:Nat}(h:xs[i]?=ys[j]?):G xs i=G ys j:=by unfold G;rw[h]
noncomputable def Asks (prog:Program) (w:World) (A:Around) (E:Value->Shared->Prop) (s:Shared) (κ:SortKind) (a₀:Array Keyed) (lt:Keyed->Keyed->Bool):Prop :=
 ∀(x y:Keyed) (st:SortSt) (Q:Option Bool->SortSt->Prop),x∈a₀.toList->y∈a₀.toList->kindOf st=κ->Q (some (lt x y)) st->wpS (model prog w) A E s (lt' x y) Q st
section
variable {prog:Program}{w:World}{A:Around}{E:Value->Shared->Prop}{s:Shared}{κ:SortKind}{a₀:Array Keyed}{lt:Keyed->Keyed->Bool}{st:SortSt}
theorem zaq {arr:Array Keyed}{i:Nat}{Q:Keyed->SortSt->Prop}(hi:i < arr.size)(h:Q (G arr i) st):wpS (model prog w) A E s (elem' arr i) Q st:=by
 rw[elem'_eq,zx1 hi];exact wpS_pure h
theorem zg8 {i j:Nat}{Q:Option Bool->SortSt->Prop} (C:Asks prog w A E s κ a₀ lt) (hk:kindOf st=κ) (p:(arrOf st).Perm a₀) (hi:i < a₀.size) (hj:j < a₀.size) (h:Q (some (lt (G (arrOf st) i) (G (arrOf st) j))) st) :
  wpS (model prog w) A E s (ltAt' i j) Q st:=by
 have e:=p.size_eq;rw[ltAt'_eq];refine wpS_bind (wpS_get ?_);exact wpS_bind (zaq #v[] (wpS_bind (zaq #v[] (C _ _ _ _ (z05 p #v[]) (z05 p #v[]) hk h))))
theorem zo0 {left:Bool}{key:Keyed}{arr:Array Keyed}{base n hint:Nat}{B:Nat->Bool}{Q:Option Nat->SortSt->Prop} (C:Asks prog w A E s κ a₀ lt) (hk:kindOf st=κ) (hkey:key∈a₀.toList)
    (hs:base+n<=arr.size) (hm:∀i,i < n->G arr (base+i)∈a₀.toList) (hB:∀i,i < n->B i=if left then lt (G arr (base+i)) key else !lt key (G arr (base+i)))
    (mono:∀i j,i<=j->j < n->B j=true->B i=true) (hh:hint < n)
    (h:∀k,k<=n->(∀i,i < k->B i=true)->(∀i,k<=i->i < n->B i=false)->Q (some k) st):wpS (model prog w) A E s (gal left key arr base n hint) Q st:=by
  have mono' : ∀i j,i<=j->j < n->B i=false->B j=false:=fun i j h1 h2 h3=>by
    cases q:B j with
    | false=>rfl
    | true=>rw[mono i j h1 h2 q] at h3;cases h3
  let beyond:Nat->StateT SortSt Sem (Option Bool):=fun i=>do
    let x <- elem' arr (base+i)
    if left=true then lt' x key else do
      let r <- lt' key x
      pure (r.map (!·))
  have hb:∀(i:Nat) (R:Option Bool->SortSt->Prop),i < n->R (some (B i)) st->wpS (model prog w) A E s (beyond i) R st:=fun i R hi hR=>by
    refine wpS_bind (zaq #v[] ?_);have e:=hB i hi;cases left with
    | true =>
      rw[if_pos rfl] at e;rw[if_pos rfl];exact C _ _ _ _ (hm i hi) hkey hk (by rw[<-e];exact hR)
    | false =>
      rw[if_neg #v[0,9]] at e;rw[if_neg #v[0,9]];exact wpS_bind (C _ _ _ _ hkey (hm i hi) hk (wpS_pure (by show R (some (!lt key (G arr (base+i)))) st;rw[<-e];exact hR)))
  show wpS (model prog w) A E s (do let o <- beyond hint;_) Q st;refine wpS_bind (hb _ _ hh ?_);cases q:B hint with
  | true =>
    refine wpS_bind (wpS_mono (wpS_forRange (I:=fun x c st'=>st'=st/\∃l o,c=(none,l,o)/\l < o/\x < o/\hint+l < n/\B (hint+l)=true)
      (Q:=fun c st'=>st'=st/\∃l o,c=(none,l,o)/\l < o/\hint+l < n/\B (hint+l)=true/\(n - hint<=o\/hint+o < n/\B (hint+o)=false)) ?step ?fin ⟨rfl,0,1,rfl,by omega,by omega,by omega,q⟩) ?post)
    case fin =>
      rintro c st' ⟨rfl,l,o,rfl,a1,a2,a3,a4⟩;exact⟨rfl,l,o,rfl,a1,a3,a4,.inl #v[]⟩
    case step =>
      rintro x c st' _ hx ⟨rfl,l,o,rfl,a1,a2,a3,a4⟩;dsimp only;by_cases g:o ≥ n - hint
      · rw [if_pos g]
        exact wpS_pure ⟨rfl,l,o,rfl,a1,a3,a4,.inl g⟩
      · rw [if_neg g]
        refine wpS_bind (hb _ _ #v[] ?_);cases q2:B (hint+o) with
        | true =>
          dsimp only;rw[if_neg #v[0,9]];exact wpS_pure ⟨rfl,o,2 * o+1,rfl,by omega,by omega,by omega,q2⟩
        | false =>
          dsimp only;rw[if_pos #v[0,9]];exact wpS_pure ⟨rfl,l,o,rfl,a1,a3,a4,.inr ⟨by omega,q2⟩⟩
    case post =>
      rintro c st' ⟨rfl,l,o,rfl,a1,a3,a4,a5⟩;dsimp only;refine wpS_bind (wpS_mono (wpS_forRange (I:=fun x c st''=>st''=st'/\∃lo hi,c=(none,lo,hi)/\lo<=hi/\hi<=n/\hi - lo<=n - x/\(∀i,i < lo->B i=true)/\∀i,hi<=i->i < n->B i=false)
        (Q:=fun c st''=>st''=st'/\∃lo hi,c=(none,lo,hi)/\lo=hi/\hi<=n/\(∀i,i < lo->B i=true)/\∀i,hi<=i->i < n->B i=false) ?s3 ?f3 ⟨rfl,hint+l+1,hint+min o (n - hint),rfl,by omega,by omega,by omega,fun i hi=>mono i _ #v[] a3 a4,fun i h1 h2=>a5.elim (fun a5=>by omega) fun a5=>mono' _ i #v[] h2 a5.2⟩) ?p3)
      case f3 =>
        rintro c st'' ⟨rfl,lo,hi,rfl,a1,a2,a3,a4,a5⟩;exact⟨rfl,lo,hi,rfl,by omega,a2,a4,a5⟩
      case s3 =>
        rintro x c st'' _ hx ⟨rfl,lo,hi,rfl,a1,a2,a3,a4,a5⟩;dsimp only;by_cases g:lo ≥ hi
        · rw [if_pos g]
          exact wpS_pure ⟨rfl,lo,hi,rfl,by omega,a2,a4,a5⟩
        · rw [if_neg g]
          refine wpS_bind (hb _ _ #v[] ?_);cases q:B (lo+(hi - lo) / 2) with
          | true =>
            dsimp only;rw[if_pos rfl];refine wpS_pure ⟨rfl,lo+(hi - lo) / 2+1,hi,rfl,by omega,a2,by omega,fun i hi'=>?_,a5⟩;exact mono i _ #v[] #v[] q
          | false =>
            dsimp only;rw[if_neg #v[0,9]];refine wpS_pure ⟨rfl,lo,lo+(hi - lo) / 2,rfl,by omega,by omega,by omega,a4,fun i h1 h2=>?_⟩;exact mono' _ i h1 h2 q
      case p3 =>
        rintro c st'' ⟨rfl,lo,hi,rfl,rfl,a2,a4,a5⟩;exact wpS_pure (h lo a2 a4 a5)
  | false =>
    refine wpS_bind (wpS_mono (wpS_forRange (I:=fun x c st'=>st'=st/\∃l o,c=(none,l,o)/\l < o/\x < o/\l<=hint/\B (hint - l)=false)
      (Q:=fun c st'=>st'=st/\∃l o,c=(none,l,o)/\l < o/\l<=hint/\B (hint - l)=false/\(hint+1<=o\/o<=hint/\B (hint - o)=true)) ?step ?fin ⟨rfl,0,1,rfl,by omega,by omega,by omega,q⟩) ?post)
    case fin =>
      rintro c st' ⟨rfl,l,o,rfl,a1,a2,a3,a4⟩;exact⟨rfl,l,o,rfl,a1,a3,a4,.inl #v[]⟩
    case step =>
      rintro x c st' _ hx ⟨rfl,l,o,rfl,a1,a2,a3,a4⟩;dsimp only;by_cases g:o ≥ hint+1
      · rw [if_pos g]
        exact wpS_pure ⟨rfl,l,o,rfl,a1,a3,a4,.inl g⟩
      · rw [if_neg g]
        refine wpS_bind (hb _ _ #v[] ?_);cases q2:B (hint - o) with
        | true =>
          dsimp only;rw[if_pos rfl];exact wpS_pure ⟨rfl,l,o,rfl,a1,a3,a4,.inr ⟨by omega,q2⟩⟩
        | false =>
          dsimp only;rw[if_neg #v[0,9]];exact wpS_pure ⟨rfl,o,2 * o+1,rfl,by omega,by omega,by omega,q2⟩
    case post =>
      rintro c st' ⟨rfl,l,o,rfl,a1,a3,a4,a5⟩;dsimp only;refine wpS_bind (wpS_mono (wpS_forRange (I:=fun x c st''=>st''=st'/\∃lo hi,c=(none,lo,hi)/\lo<=hi/\hi<=n/\hi - lo<=n - x/\(∀i,i < lo->B i=true)/\∀i,hi<=i->i < n->B i=false)
        (Q:=fun c st''=>st''=st'/\∃lo hi,c=(none,lo,hi)/\lo=hi/\hi<=n/\(∀i,i < lo->B i=true)/\∀i,hi<=i->i < n->B i=false) ?s4 ?f4 ⟨rfl,hint+1 - min o (hint+1),hint - l,rfl,by omega,by omega,by omega,fun i hi=>a5.elim (fun a5=>by omega) fun a5=>mono i _ #v[] #v[] a5.2,fun i h1 h2=>mono' _ i h1 h2 a4⟩) ?p4)
      case f4 =>
        rintro c st'' ⟨rfl,lo,hi,rfl,a1,a2,a3,a4,a5⟩;exact⟨rfl,lo,hi,rfl,by omega,a2,a4,a5⟩
      case s4 =>
        rintro x c st'' _ hx ⟨rfl,lo,hi,rfl,a1,a2,a3,a4,a5⟩;dsimp only;by_cases g:lo ≥ hi
        · rw [if_pos g]
          exact wpS_pure ⟨rfl,lo,hi,rfl,by omega,a2,a4,a5⟩
        · rw [if_neg g]
          refine wpS_bind (hb _ _ #v[] ?_);cases q:B (lo+(hi - lo) / 2) with
          | true =>
            dsimp only;rw[if_pos rfl];refine wpS_pure ⟨rfl,lo+(hi - lo) / 2+1,hi,rfl,by omega,a2,by omega,fun i hi'=>?_,a5⟩;exact mono i _ #v[] #v[] q
          | false =>
            dsimp only;rw[if_neg #v[0,9]];refine wpS_pure ⟨rfl,lo,lo+(hi - lo) / 2,rfl,by omega,by omega,by omega,a4,fun i h1 h2=>?_⟩;exact mono' _ i h1 h2 q
      case p4 =>
        rintro c st'' ⟨rfl,lo,hi,rfl,rfl,a2,a4,a5⟩;exact wpS_pure (h lo a2 a4 a5)
end
end Tim
namespace Tim
noncomputable def Srt (le:Keyed->Keyed->Prop) (xs:Array Keyed) (lo hi:Nat):Prop:=∀i j,lo<=i->i < j->j < hi->le (G xs i) (G xs j)
noncomputable def Cut (bf:Keyed->Keyed->Prop) (xs:Array Keyed) (c:Nat):Prop:=∀i j,i < c->c<=j->j < xs.size->bf (G xs i) (G xs j)
structure Re (xs ys:Array Keyed) (lo hi:Nat):Prop where
 perm:ys.Perm xs
 out:∀i,i < lo\/hi<=i->G ys i=G xs i
 inn:∀i,lo<=i->i < hi->∃j,lo<=j/\j < hi/\G ys i=G xs j
theorem Re.refl (xs:Array Keyed)(lo hi:Nat):Re xs xs lo hi:=⟨.refl _,fun _ _=>rfl,fun i h1 h2=>⟨i,h1,h2,rfl⟩⟩
theorem Re.trans {xs ys zs:Array Keyed}{lo hi:Nat}(a:Re xs ys lo hi)(b:Re ys zs lo hi):Re xs zs lo hi :=
 ⟨b.perm.trans a.perm,fun i h=>(b.out i h).trans (a.out i h),fun i h1 h2=>by
  obtain⟨j,g1,g2,e⟩:=b.inn i h1 h2;obtain⟨k,k1,k2,e'⟩:=a.inn j g1 g2;exact⟨k,k1,k2,e.trans e'⟩⟩
theorem Re.mono {xs ys:Array Keyed}{lo hi lo' hi' : Nat}(a:Re xs ys lo hi)(h1:lo'<=lo)(h2:hi<=hi'):Re xs ys lo' hi' :=
 ⟨a.perm,fun i h=>a.out i #v[],fun i g1 g2=>by
  by_cases c:lo<=i/\i < hi
  ·obtain⟨j, k1, k2, e⟩ := a.inn i c.1 c.2;exact⟨j,by omega,by omega,e⟩
  ·exact⟨i,g1,g2,a.out i #v[]⟩⟩
theorem Re.size {xs ys:Array Keyed}{lo hi:Nat}(a:Re xs ys lo hi):ys.size=xs.size:=a.perm.size_eq
theorem Cut.re {bf:Keyed->Keyed->Prop}{xs ys:Array Keyed}{lo hi c:Nat}(h:Cut bf xs c)(a:Re xs ys lo hi)(hs:hi<=xs.size)(hc:c<=lo\/hi<=c):Cut bf ys c:=fun i j h1 h2 h3=>by
 have e:=a.size;have wi:∃i',i' < c/\G ys i=G xs i':=by
  by_cases k:lo<=i/\i < hi
  ·obtain⟨i', g1, g2, e⟩ := a.inn i k.1 k.2;exact⟨i',by omega,e⟩
  ·exact⟨i,h1,a.out i #v[]⟩
 have wj:∃j',c<=j'/\j' < xs.size/\G ys j=G xs j':=by
  by_cases k:lo<=j/\j < hi
  ·obtain⟨j', g1, g2, e⟩ := a.inn j k.1 k.2;exact⟨j',by omega,by omega,e⟩
  ·exact⟨j,h2,by omega,a.out j #v[]⟩
 obtain⟨i',e1,e2⟩:=wi;obtain⟨j',e3,e4,e5⟩:=wj;rw[e2,e5];exact h i' j' e1 e3 e4
theorem Srt.re {le:Keyed->Keyed->Prop}{xs ys:Array Keyed}{lo hi a b:Nat}(h:Srt le xs a b)(r:Re xs ys lo hi)(hc:b<=lo\/hi<=a):Srt le ys a b:=fun i j h1 h2 h3=>by
 rw[r.out i #v[],r.out j #v[]];exact h i j h1 h2 h3
noncomputable def mir (xs:Array Keyed) (i j:Nat):Array Keyed:=mirror xs i j ((j - i) / 2)
theorem zgl {xs:Array Keyed}{i j:Nat}(hj:j<=xs.size)(k:Nat):G (mir xs i j) k=if i<=k/\k < j then G xs (i+j - 1 - k) else G xs k:=by
 have e:=getElem?_mirror_all (i:=i) hj k;unfold mir;by_cases h1:i<=k/\k < j
 ·rw[if_pos h1] at e ⊢;exact zf1 e
 ·rw[if_neg h1] at e ⊢;exact zf1 e
theorem Re.mir {xs:Array Keyed}{i j:Nat}(hj:j<=xs.size):Re xs (mir xs i j) i j :=
 ⟨mirror_perm _ _ _ _,fun k h=>by rw[zgl hj,if_neg #v[]],fun k h1 h2=>⟨i+j - 1 - k,by omega,by omega,by rw[zgl hj,if_pos ⟨h1,h2⟩]⟩⟩
theorem zuq {xs:Array Keyed}{src d:Nat}(hs:src < xs.size)(hd:d<=src)(k:Nat):G (bubble xs src d) k=if k=src - d then G xs src else if src - d < k/\k<=src then G xs (k - 1) else G xs k:=by
 have e:=getElem?_bubble hs d hd k;by_cases h1:k=src - d
 ·rw[if_pos h1] at e ⊢;exact zf1 e
 ·rw[if_neg h1] at e ⊢;by_cases h2:src - d < k/\k<=src
  ·rw[if_pos h2] at e ⊢;exact zf1 e
  ·rw[if_neg h2] at e ⊢;exact zf1 e
theorem Re.bub {xs:Array Keyed}{src d:Nat}(hs:src < xs.size)(hd:d<=src):Re xs (bubble xs src d) (src - d) (src+1) :=
 ⟨bubble_perm _ _ _,fun k h=>by rw[zuq hs hd,if_neg #v[],if_neg #v[]],fun k h1 h2=>by
  rw[zuq hs hd];by_cases c:k=src - d
  ·exact⟨src,by omega,by omega,by rw[if_pos c]⟩
  ·exact⟨k - 1,by omega,by omega,by rw[if_neg c,if_pos ⟨by omega,by omega⟩]⟩⟩
structure SI (κ:SortKind) (a₀:Array Keyed) (pd:Array (Nat × Nat × Nat)) (st:SortSt):Prop where
 kind:kindOf st=κ
 failed:failedOf st=none
 perm:(arrOf st).Perm a₀
 pend:pendingOf st=pd
theorem SI.size {κ a₀ pd st}(h:SI κ a₀ pd st):(arrOf st).size=a₀.size:=h.perm.size_eq
theorem SI.set {κ a₀ pd st}(h:SI κ a₀ pd st){ys:Array Keyed}(p:ys.Perm (arrOf st)):SI κ a₀ pd (setArr st ys):=⟨h.kind,h.failed,p.trans h.perm,h.pend⟩
section
variable {prog:Program}{w:World}{A:Around}{E:Value->Shared->Prop}{s:Shared}{κ:SortKind}{a₀:Array Keyed}{lt:Keyed->Keyed->Bool}{bf le:Keyed->Keyed->Prop}{st:SortSt}{pd:Array (Nat × Nat × Nat)}
theorem zxr {i j:Nat}{Q:Unit->SortSt->Prop}(h:Q () (setArr st (mir (arrOf st) i j))):wpS (model prog w) A E s (reverseSlice' i j) Q st:=by
 rw[reverseSlice'_eq];exact wpS_modify h
theorem z3j {i j:Nat}{Q:Unit->SortSt->Prop}(h:Q () (setArr st (bubble (arrOf st) i (i - j)))):wpS (model prog w) A E s (moveDown' i j) Q st:=by
 rw[moveDown'_eq];exact wpS_modify h
theorem grp (O:Ord lt bf le) {xs ys:Array Keyed}{lo n c:Nat} (c1:lo<=c) (c2:c < lo+n) (hy:∀k,G ys k=if c<=k/\k < lo+n then G xs (c+(lo+n) - 1 - k) else G xs k)
  (d1:∀i j,lo<=i->i < j->j < c->le (G xs j) (G xs i)) (d2:∀i j,lo<=i->i < c->c<=j->j < lo+n->lt (G xs j) (G xs i)=true)
  (d3:∀i j,c<=i->i < j->j < lo+n->le (G xs i) (G xs j)) (d4:∀i j,c<=i->i < lo+n->c<=j->j < lo+n->lt (G xs i) (G xs j)=false) :
  (∀i j,lo<=i->i < j->j < lo+n->le (G ys j) (G ys i))/\∀y,lt y (G xs (lo+n - 1))=true->∀i,lo<=i->i < lo+n->lt y (G ys i)=true:=by
 constructor
 ·intro i j h1 h2 h3;rw[hy i,hy j];by_cases a:j < c
  ·rw[if_neg #v[], if_neg #v[]];exact d1 i j h1 h2 a
  ·rw[if_pos ⟨by omega, h3⟩];by_cases b:i < c
   ·rw[if_neg #v[]];exact O.f2 (d2 i _ h1 b #v[] #v[])
   ·rw[if_pos ⟨by omega, by omega⟩];exact d3 _ _ #v[] #v[] #v[]
 ·intro y h i h1 h2;rw[hy i];by_cases b:c<=i/\i < lo+n
  ·rw[if_pos b];exact (O.nt _ h).resolve_right (fun q=>by rw[d4 _ _ #v[] #v[] #v[] #v[]] at q;cases q)
  ·rw[if_neg b];exact O.ltr h (d2 i _ h1 #v[] #v[] #v[])
structure DI (lt:Keyed->Keyed->Bool) (le:Keyed->Keyed->Prop) (lo n neq:Nat) (xs:Array Keyed):Prop where
 nq:neq+1<=n
 d1:∀i j,lo<=i->i < j->j < lo+n - (neq+1)->le (G xs j) (G xs i)
 d2:∀i j,lo<=i->i < lo+n - (neq+1)->lo+n - (neq+1)<=j->j < lo+n->lt (G xs j) (G xs i)=true
 d3:∀i j,lo+n - (neq+1)<=i->i < j->j < lo+n->le (G xs i) (G xs j)
 d4:∀i j,lo+n - (neq+1)<=i->i < lo+n->lo+n - (neq+1)<=j->j < lo+n->lt (G xs i) (G xs j)=false
theorem DI.turn (O:Ord lt bf le) {lo n neq:Nat}{xs:Array Keyed} (d:DI lt le lo n neq xs) (hz:lo+n<=xs.size) :
  (∀i j,lo<=i->i < j->j < lo+n->le (G (mir xs (lo+n - (neq+1)) (lo+n)) j) (G (mir xs (lo+n - (neq+1)) (lo+n)) i))/\∀y,lt y (G xs (lo+n - 1))=true->∀i,lo<=i->i < lo+n->lt y (G (mir xs (lo+n - (neq+1)) (lo+n)) i)=true :=
 grp O (by have:=d.nq;omega) (by have:=d.nq;omega) (fun k=>zgl hz k) d.d1 d.d2 d.d3 d.d4
theorem DI.turn0 (O:Ord lt bf le) {lo n:Nat}{xs:Array Keyed} (d:DI lt le lo n 0 xs) :
  (∀i j,lo<=i->i < j->j < lo+n->le (G xs j) (G xs i))/\∀y,lt y (G xs (lo+n - 1))=true->∀i,lo<=i->i < lo+n->lt y (G xs i)=true :=
 grp (c:=lo+n - 1) O (by have:=d.nq;omega) (by have:=d.nq;omega) (fun k=>by
  split
  ·congr 1;omega
  ·rfl) d.d1 d.d2 d.d3 d.d4
theorem DI.next (O:Ord lt bf le){lo n:Nat}{xs:Array Keyed}(h:∀i j,lo<=i->i < j->j < lo+n->le (G xs j) (G xs i))(h2:∀i,lo<=i->i < lo+n->lt (G xs (lo+n)) (G xs i)=true):DI lt le lo (n+1) 0 xs :=
 ⟨by omega,fun i j a b c=>h i j a b #v[],fun i j a b c d=>by
  have e:j=lo+n:=by omega
  rw[e];exact h2 i a #v[],fun i j a b c=>by omega,fun i j a b c d=>by
  have e:j=i:=by omega
  rw[e];exact O.irr _⟩
theorem DI.like (O:Ord lt bf le) {lo n neq:Nat}{xs:Array Keyed} (d:DI lt le lo n neq xs) (hb:∀i,lo<=i->i < lo+n->bf (G xs i) (G xs (lo+n))) (q1:lt (G xs (lo+n)) (G xs (lo+n - 1))=false) (q2:lt (G xs (lo+n - 1)) (G xs (lo+n))=false):DI lt le lo (n+1) (neq+1) xs:=by
  have nq:=d.nq;have ec:lo+(n+1) - (neq+1+1)=lo+n - (neq+1):=by omega
  have t1:∀i,lo+n - (neq+1)<=i->i < lo+n->lt (G xs (lo+n)) (G xs i)=false:=fun i a b=>by
    cases q:lt (G xs (lo+n)) (G xs i) with
    | false=>rfl
    | true =>
      rcases O.nt (G xs (lo+n - 1)) q with z | z
      · rw[q1] at z;cases z
      · rw[d.d4 _ _ #v[] #v[] a b] at z;cases z
  have t2:∀i,lo+n - (neq+1)<=i->i < lo+n->lt (G xs i) (G xs (lo+n))=false:=fun i a b=>by
    cases q:lt (G xs i) (G xs (lo+n)) with
    | false=>rfl
    | true =>
      rcases O.nt (G xs (lo+n - 1)) q with z | z
      · rw[d.d4 _ _ a b #v[] #v[]] at z;cases z
      · rw[q2] at z;cases z
  refine⟨by omega,?_,?_,?_,?_⟩<;>rw[ec]
  · exact d.d1
  · intro i j a b c e
    by_cases k:j < lo+n
    · exact d.d2 i j a b c k
    · have ej : j = lo + n := by omega
      rw[ej];exact (O.nt (G xs (lo+n)) (d.d2 i (lo+n - 1) a b #v[] #v[])).resolve_left (fun z=>by rw[q2] at z;cases z)
  · intro i j a b c
    by_cases k:j < lo+n
    · exact d.d3 i j a b k
    · have ej : j = lo + n := by omega
      rw[ej];exact (O.f1 (hb i #v[] #v[])).mp (t1 i a #v[])
  · intro i j a b c e
    by_cases k:j < lo+n
    · by_cases k2 : i < lo + n
      · exact d.d4 i j a k2 c k
      · have ei : i = lo + n := by omega
        rw[ei];exact t1 j c k
    · have ej : j = lo + n := by omega
      rw[ej];by_cases k2:i < lo+n
      · exact t2 i a k2
      · have ei : i = lo + n := by omega
        rw[ei];exact O.irr _
theorem z3m {α:Type}{c:Prop} [Decidable c] {x y:StateT SortSt Sem α}{Q:α->SortSt->Prop}{T:SortSt->Prop}(h:∀s3,T s3->wpS (model prog w) A E s y Q s3)(h0:¬ c->T st)(h1:c->(∀s3,T s3->wpS (model prog w) A E s y Q s3)->wpS (model prog w) A E s x Q st):wpS (model prog w) A E s (if c then x else y) Q st:=by
 by_cases k:c
 ·rw[if_pos k];exact h1 k h
 ·rw[if_neg k];exact h st (h0 k)
theorem z1u (C:Asks prog w A E s κ a₀ lt) (O:Ord lt bf le) {lo nrem:Nat}{Q:Option Nat->SortSt->Prop} (I:SI κ a₀ pd st) (hsz:lo+nrem<=a₀.size) (h1:1<=nrem) (hc:∀c,lo<=c->Cut bf (arrOf st) c)
    (h:∀m st',SI κ a₀ pd st'->1<=m->m<=nrem->Re (arrOf st) (arrOf st') lo (lo+m)->Srt le (arrOf st') lo (lo+m)->Q (some m) st'):wpS (model prog w) A E s (countRun' lo nrem) Q st:=by
  have sz:=I.size;rw [countRun'_eq];refine wpS_bind (wpS_mono (wpS_forRange (I:=fun x c s2=>s2=st/\c=(none,x)/\1<=x/\x<=nrem/\Srt le (arrOf st) lo (lo+x))
    (Q:=fun c s2=>s2=st/\∃k,c=(none,k)/\1<=k/\k<=nrem/\Srt le (arrOf st) lo (lo+k)/\(k=nrem\/lt (G (arrOf st) (lo+k)) (G (arrOf st) (lo+k - 1))=true)) ?as1 ?af1 ⟨rfl,rfl,Nat.le_refl _,h1,(fun i j g1 g2 g3=>by omega)⟩) ?ap1)
  case af1 =>
    rintro c s2 ⟨e2,rfl,a0,a1,a2⟩;rw[show max 1 nrem=nrem by omega] at *
    exact⟨e2,nrem,rfl,by omega,Nat.le_refl _,a2,.inl rfl⟩
  case as1 =>
    rintro x c s2 b1 b2 ⟨e2,rfl,a0,a1,a2⟩;subst e2;dsimp only;refine wpS_bind (zg8 C I.kind I.perm #v[] #v[] ?_);cases q:lt (G (arrOf s2) (lo+x)) (G (arrOf s2) (lo+x - 1)) with
    | true =>
      dsimp only;rw[if_pos rfl];exact wpS_pure ⟨rfl,x,rfl,a0,a1,a2,.inr q⟩
    | false =>
      dsimp only;rw[if_neg #v[0,9]];refine wpS_pure ⟨rfl,rfl,by omega,by omega,fun i j h1 h2 h3=>?_⟩;by_cases hj:j < lo+x
      · exact a2 i j h1 h2 hj
      · have ej : j = lo + x := by omega
        subst ej;have b:le (G (arrOf s2) (lo+x - 1)) (G (arrOf s2) (lo+x)):=(O.f1 (hc (lo+x) #v[] (lo+x - 1) (lo+x) #v[] (Nat.le_refl _) (by rw[I.size];omega))).mp q;by_cases hi:i=lo+x - 1
        · rw[hi];exact b
        · exact O.tr (a2 i (lo+x - 1) h1 #v[] #v[]) b
  case ap1 =>
    rintro c s2 ⟨e2,n,rfl,a0,a1,a2,a3⟩;subst e2;dsimp only;by_cases en:n=nrem
    · rw [if_pos (by simpa using en)]
      exact wpS_pure (h n s2 I a0 a1 (.refl _ _ _) a2)
    · rw [if_neg (by simpa using en)]
      have q3:=a3.resolve_left en;refine z3m (T:=fun s3=>SI κ a₀ pd s3/\Re (arrOf s2) (arrOf s3) lo (lo+(n+1))/\DI lt le lo (n+1) 0 (arrOf s3)) (fun s3 ⟨I3,R3,D3⟩=>?main) (fun n1=>?no) (fun n1 H=>?yes)
      case yes =>
        refine wpS_bind (zg8 C I.kind I.perm #v[] #v[] ?_);cases q:lt (G (arrOf s2) lo) (G (arrOf s2) (lo+n - 1)) with
        | true =>
          dsimp only;rw[if_pos rfl];exact wpS_pure (h n s2 I a0 a1 (.refl _ _ _) a2)
        | false =>
          dsimp only;rw [if_neg (by decide)];refine wpS_bind (zxr ?_);have lk:∀i,lo<=i->i < lo+n->lt (G (arrOf s2) (lo+n)) (G (arrOf s2) i)=true:=fun i g1 g2=>by
            have z1:lt (G (arrOf s2) i) (G (arrOf s2) (lo+n - 1))=false:=by
              cases z:lt (G (arrOf s2) i) (G (arrOf s2) (lo+n - 1)) with
              | false=>rfl
              | true =>
                rcases O.nt (G (arrOf s2) lo) z with y | y
                · by_cases ei : i = lo
                  · rw[ei,O.irr] at y;cases y
                  · have := O.f3 (hc i g1 lo i (by omega) (Nat.le_refl _) (by omega)) y
                    exact absurd (a2 lo i (Nat.le_refl _) #v[] g2) this
                · rw[q] at y;cases y
            exact (O.nt _ q3).resolve_right (fun y=>by rw[z1] at y;cases y)
          obtain ⟨s3,e3,I3,R3,D3⟩ : ∃s3,s3=(setArr s2 (mir (arrOf s2) lo (lo+n)))/\SI κ a₀ pd s3/\Re (arrOf s2) (arrOf s3) lo (lo+(n+1))/\DI lt le lo (n+1) 0 (arrOf s3):=⟨_,rfl,I.set (Re.mir (by omega)).perm,(Re.mir (by omega)).mono (Nat.le_refl _) (by omega),DI.next O (fun i j g1 g2 g3=>by
                      show le (G (mir (arrOf s2) lo (lo+n)) j) (G (mir (arrOf s2) lo (lo+n)) i);rw[zgl #v[],zgl #v[],if_pos ⟨by omega,by omega⟩,if_pos ⟨by omega,by omega⟩];exact a2 _ _ #v[] #v[] #v[]) (fun i g1 g2=>by
                      show lt (G (mir (arrOf s2) lo (lo+n)) (lo+n)) (G (mir (arrOf s2) lo (lo+n)) i)=true;rw[zgl #v[],zgl #v[],if_neg #v[],if_pos ⟨by omega,by omega⟩];exact lk _ #v[] #v[])⟩
          rw[<-e3];exact H s3 ⟨I3,R3,D3⟩
      case no =>
        have en1:n=1:=by omega
        subst en1;exact ⟨I,.refl _ _ _,DI.next O (fun i j g1 g2 g3=>by omega) (fun i g1 g2=>by
          have ei:i=lo:=by omega
          rw[ei];exact q3)⟩
      case main =>
        refine wpS_bind (wpS_lift (wpAny_rule ⟨rfl,?_⟩));refine wpS_bind (wpS_mono (wpS_forRange (I:=fun x c s4=>∃neq,c=(none,x,neq)/\n+1<=x/\x<=nrem/\SI κ a₀ pd s4/\Re (arrOf s2) (arrOf s4) lo (lo+x)/\DI lt le lo x neq (arrOf s4))
          (Q:=fun c s4=>∃m neq,c=(none,m,neq)/\n+1<=m/\m<=nrem/\SI κ a₀ pd s4/\Re (arrOf s2) (arrOf s4) lo (lo+m)/\DI lt le lo m neq (arrOf s4)) ?dsd1 ?dfd1 ⟨0,rfl,Nat.le_refl _,by omega,I3,R3,D3⟩) ?dpd1)
        case dfd1 =>
          rintro c s4 ⟨neq,rfl,b0,b1,b2,b3,b4⟩;have e:max (n+1) nrem=nrem:=by omega
          rw[e] at b0 b1 b3 b4 ⊢;exact⟨nrem,neq,rfl,b0,b1,b2,b3,b4⟩
        case dsd1 =>
          rintro x c s4 g1 g2 ⟨neq,rfl,b0,b1,I4,R4,D4⟩;dsimp only;have z4:=I4.size;have cut4:∀c,lo+x<=c->Cut bf (arrOf s4) c:=fun c hc'=>(hc c #v[]).re R4 #v[] (.inr hc');refine wpS_bind (zg8 C I4.kind I4.perm #v[] #v[] ?_);cases q5:lt (G (arrOf s4) (lo+x)) (G (arrOf s4) (lo+x - 1)) with
          | true =>
            dsimp only;rw[if_pos rfl];by_cases nq:neq > 0
            · rw [if_pos nq]
              refine wpS_bind (zxr (wpS_pure ⟨0,rfl,by omega,by omega,I4.set (Re.mir #v[]).perm,(R4.trans ((Re.mir #v[]).mono (by have:=D4.nq;omega) (Nat.le_refl _))).mono (Nat.le_refl _) #v[],?_⟩));obtain⟨t1,t2⟩:=D4.turn O #v[];refine DI.next O t1 fun i k1 k2=>?_;have:=t2 _ q5 i k1 k2;show lt (G (mir (arrOf s4) (lo+x - (neq+1)) (lo+x)) (lo+x)) _=true;rw[zgl #v[],if_neg #v[]];exact this
            · rw [if_neg nq]
              have e0:neq=0:=by omega
              subst e0;obtain⟨t1,t2⟩:=D4.turn0 O;exact wpS_pure ⟨0,rfl,by omega,by omega,I4,R4.mono (Nat.le_refl _) #v[],DI.next O t1 fun i k1 k2=>t2 _ q5 i k1 k2⟩
          | false =>
            dsimp only;rw[if_neg #v[0,9]];refine wpS_bind (zg8 C I4.kind I4.perm #v[] #v[] ?_);cases q6:lt (G (arrOf s4) (lo+x - 1)) (G (arrOf s4) (lo+x)) with
            | true =>
              dsimp only;rw[if_pos rfl];exact wpS_pure ⟨x,neq,rfl,b0,b1,I4,R4,D4⟩
            | false =>
              dsimp only;rw[if_neg #v[0,9]];exact wpS_pure ⟨neq+1,rfl,by omega,by omega,I4,R4.mono (Nat.le_refl _) #v[],D4.like O (fun i k1 k2=>cut4 (lo+x) (Nat.le_refl _) i (lo+x) k2 (Nat.le_refl _) #v[]) q5 q6⟩
        case dpd1 =>
          rintro c s4 ⟨n,neq,rfl,b0,n2,I4,R4,D4⟩;dsimp only;have z4:=I4.size;refine z3m (T:=fun s6=>SI κ a₀ pd s6/\Re (arrOf s2) (arrOf s6) lo (lo+n)/\∀i j,lo<=i->i < j->j < lo+n->le (G (arrOf s6) j) (G (arrOf s6) i)) (fun s6 ⟨I6,R6,t1⟩=>?tl) (fun nq=>?tn) (fun nq H=>?ty)
          case ty =>
            refine wpS_bind (zxr ?_);have I6:SI κ a₀ pd (setArr s4 (mir (arrOf s4) (lo+n - (neq+1)) (lo+n))):=I4.set (Re.mir #v[]).perm;have R6:Re (arrOf s2) (mir (arrOf s4) (lo+n - (neq+1)) (lo+n)) lo (lo+n):=R4.trans ((Re.mir #v[]).mono (by have:=D4.nq;omega) (Nat.le_refl _));have t1:=(D4.turn O #v[]).1;exact H _ ⟨I6,R6,t1⟩
          case tn =>
            have e0:neq=0:=by omega
            subst e0;exact⟨I4,R4,(D4.turn0 O).1⟩
          case tl =>
            have z6:=I6.size;refine wpS_bind (zxr ?_);have I5:SI κ a₀ pd (setArr s6 (mir (arrOf s6) lo (lo+n))):=I6.set (Re.mir (by omega)).perm;have R5:Re (arrOf s2) (mir (arrOf s6) lo (lo+n)) lo (lo+n):=R6.trans (Re.mir (by omega));have z5:Srt le (mir (arrOf s6) lo (lo+n)) lo (lo+n):=fun i j h1 h2 h3=>by
              rw[zgl #v[],zgl #v[],if_pos ⟨by omega,by omega⟩,if_pos ⟨by omega,by omega⟩];exact t1 _ _ #v[] #v[] #v[]
            have ea:mir (arrOf s6) lo (lo+n)=arrOf (setArr s6 (mir (arrOf s6) lo (lo+n))):=rfl
            revert I5 R5 z5
            rw [ea];generalize (setArr s6 (mir (arrOf s6) lo (lo+n)))=s5;intro I5 R5 z5;have hz5:=I5.size;have hc5:∀c,lo+n<=c->Cut bf (arrOf s5) c:=fun c hc'=>(hc c (by omega)).re R5 (by omega) (.inr hc');refine wpS_bind (wpS_mono (wpS_forRange (I:=fun x c s2=>s2=s5/\c=(none,x)/\n<=x/\x<=nrem/\Srt le (arrOf s5) lo (lo+x))
              (Q:=fun c s2=>s2=s5/\∃k,c=(none,k)/\n<=k/\k<=nrem/\Srt le (arrOf s5) lo (lo+k)/\(k=nrem\/lt (G (arrOf s5) (lo+k)) (G (arrOf s5) (lo+k - 1))=true)) ?asd11 ?afd11 ⟨rfl,rfl,Nat.le_refl _,n2,z5⟩) ?apd11)
            case afd11 =>
              rintro c s2 ⟨e2,rfl,y0,y1,a2⟩;rw[show max n nrem=nrem by omega] at *
              exact⟨e2,nrem,rfl,by omega,Nat.le_refl _,a2,.inl rfl⟩
            case asd11 =>
              rintro x c s2 b1 b2 ⟨e2,rfl,y0,y1,a2⟩;subst e2;dsimp only;refine wpS_bind (zg8 C I5.kind I5.perm #v[] #v[] ?_);cases q:lt (G (arrOf s2) (lo+x)) (G (arrOf s2) (lo+x - 1)) with
              | true =>
                dsimp only;rw[if_pos rfl];exact wpS_pure ⟨rfl,x,rfl,y0,y1,a2,.inr q⟩
              | false =>
                dsimp only;rw[if_neg #v[0,9]];refine wpS_pure ⟨rfl,rfl,by omega,by omega,fun i j h1 h2 h3=>?_⟩;by_cases hj:j < lo+x
                · exact a2 i j h1 h2 hj
                · have ej : j = lo + x := by omega
                  subst ej;have b:le (G (arrOf s2) (lo+x - 1)) (G (arrOf s2) (lo+x)):=(O.f1 (hc5 (lo+x) #v[] (lo+x - 1) (lo+x) #v[] (Nat.le_refl _) (by rw[I5.size];omega))).mp q;by_cases hi:i=lo+x - 1
                  · rw[hi];exact b
                  · exact O.tr (a2 i (lo+x - 1) h1 #v[] #v[]) b
            case apd11 =>
              rintro c s7 ⟨e7,m,rfl,y0,y1,y2,y3⟩;subst e7;exact wpS_pure (h m s7 I5 #v[] y1 (R5.mono (Nat.le_refl _) #v[]) y2)
end
end Tim
namespace Tim
section
variable {prog:Program}{w:World}{A:Around}{E:Value->Shared->Prop}{s:Shared}{κ:SortKind}{a₀:Array Keyed}{lt:Keyed->Keyed->Bool}{bf le:Keyed->Keyed->Prop}{st:SortSt}{pd:Array (Nat × Nat × Nat)}
theorem z7b (C:Asks prog w A E s κ a₀ lt) (O:Ord lt bf le) {lo n ok:Nat}{Q:Bool->SortSt->Prop} (I:SI κ a₀ pd st) (hsz:lo+n<=a₀.size) (hok:ok<=n) (h1:1<=ok) (hs:Srt le (arrOf st) lo (lo+ok)) (hc:∀c,lo+ok<=c->Cut bf (arrOf st) c)
    (h:∀st',SI κ a₀ pd st'->Re (arrOf st) (arrOf st') lo (lo+n)->Srt le (arrOf st') lo (lo+n)->Q true st'):wpS (model prog w) A E s (binarySort' lo n ok) Q st:=by
  have sz:=I.size;rw[binarySort'_eq];have em:max ok 1=ok:=by omega
  rw [em];refine wpS_bind (wpS_mono (wpS_forRange (I:=fun k c s2=>c=(none,())/\ok<=k/\k<=n/\SI κ a₀ pd s2/\Re (arrOf st) (arrOf s2) lo (lo+k)/\Srt le (arrOf s2) lo (lo+k))
    (Q:=fun c s2=>c=(none,())/\SI κ a₀ pd s2/\Re (arrOf st) (arrOf s2) lo (lo+n)/\Srt le (arrOf s2) lo (lo+n)) ?step ?fin ⟨rfl,Nat.le_refl _,hok,I,.refl _ _ _,hs⟩) ?post)
  case post =>
    rintro c s2 ⟨rfl,I2,R2,S2⟩;exact wpS_pure (h s2 I2 R2 S2)
  case fin =>
    rintro c s2 ⟨hc,b0,b1,I2,R2,S2⟩;have e:max ok n=n:=by omega
    rw[e] at R2 S2;exact⟨hc,I2,R2,S2⟩
  case step =>
    rintro k c s2 g1 g2 ⟨rfl,b0,b1,I2,R2,S2⟩;have z2:=I2.size;have ct:Cut bf (arrOf s2) (lo+k):=(hc (lo+k) (by omega)).re R2 (by omega) (.inr (Nat.le_refl _));refine wpS_bind (wpS_mono (wpS_forRange (I:=fun x c s3=>s3=s2/\∃l r,c=(none,l,r)/\l<=r/\r<=k/\r - l<=k - x/\(∀i,i < l->le (G (arrOf s2) (lo+i)) (G (arrOf s2) (lo+k)))/\∀i,r<=i->i < k->le (G (arrOf s2) (lo+k)) (G (arrOf s2) (lo+i)))
      (Q:=fun c s3=>s3=s2/\∃l,c=(none,l,l)/\l<=k/\(∀i,i < l->le (G (arrOf s2) (lo+i)) (G (arrOf s2) (lo+k)))/\∀i,l<=i->i < k->le (G (arrOf s2) (lo+k)) (G (arrOf s2) (lo+i))) ?istep ?ifin ⟨rfl,0,k,rfl,by omega,by omega,by omega,fun i hi=>by omega,fun i k1 k2=>by omega⟩) ?ipost)
    case ifin =>
      rintro c s3 ⟨e3,l,r,rfl,c1,c2,c3,c4,c5⟩;have e:r=l:=by omega
      subst e;exact⟨e3,r,rfl,c2,c4,c5⟩
    case istep =>
      rintro x c s3 _ hx ⟨e3,l,r,rfl,c1,c2,c3,c4,c5⟩;subst e3;dsimp only;by_cases g:l ≥ r
      · rw [if_pos g]
        have e:r=l:=by omega
        subst e;exact wpS_pure ⟨rfl,r,rfl,c2,c4,c5⟩
      · rw [if_neg g]
        refine wpS_bind (zg8 C I2.kind I2.perm #v[] #v[] ?_);have b:=ct (lo+(l+r) / 2) (lo+k) #v[] (Nat.le_refl _) #v[];cases q:lt (G (arrOf s3) (lo+k)) (G (arrOf s3) (lo+(l+r) / 2)) with
        | true =>
          dsimp only;rw[if_pos rfl];refine wpS_pure ⟨rfl,l,(l+r) / 2,rfl,by omega,by omega,by omega,c4,fun i k1 k2=>?_⟩;by_cases e:i=(l+r) / 2
          · rw[e];exact O.f2 q
          · exact O.tr (O.f2 q) (S2 _ _ #v[] #v[] #v[])
        | false =>
          dsimp only;rw[if_neg #v[0,9]];refine wpS_pure ⟨rfl,(l+r) / 2+1,r,rfl,by omega,by omega,by omega,fun i k1=>?_,c5⟩;by_cases e:i=(l+r) / 2
          · rw[e];exact (O.f1 b).mp q
          · exact O.tr (S2 _ _ #v[] #v[] #v[]) ((O.f1 b).mp q)
    case ipost =>
      rintro c s3 ⟨e3,l,rfl,c2,c4,c5⟩;subst e3;refine wpS_bind (z3j (wpS_pure ⟨rfl,by omega,by omega,I2.set (bubble_perm _ _ _),?_,?_⟩))
      · refine (R2.mono (Nat.le_refl _) #v[]).trans ((Re.bub #v[] #v[]).mono #v[] #v[])
      · intro i j h1 h2 h3
        show le (G (bubble (arrOf s3) (lo+k) (lo+k - (lo+l))) i) (G (bubble (arrOf s3) (lo+k) (lo+k - (lo+l))) j);have el:lo+k - (lo+k - (lo+l))=lo+l:=by omega
        rw [zuq (by omega) (by omega),zuq (by omega) (by omega),el];have p4:∀i,lo<=i->i < lo+l->le (G (arrOf s3) i) (G (arrOf s3) (lo+k)):=fun i k1 k2=>by
          have:=c4 (i - lo) #v[];rw[show lo+(i - lo)=i by omega] at this;exact this
        have p5:∀i,lo+l<=i->i < lo+k->le (G (arrOf s3) (lo+k)) (G (arrOf s3) i):=fun i k1 k2=>by
          have:=c5 (i - lo) #v[] #v[];rw[show lo+(i - lo)=i by omega] at this;exact this
        by_cases a1:i=lo+l
        · rw [if_pos a1, if_neg (by omega), if_pos ⟨by omega, by omega⟩]
          exact p5 _ #v[] #v[]
        · rw [if_neg a1]
          by_cases a2:j=lo+l
          · rw [if_neg (by omega), if_pos a2]
            exact p4 _ h1 #v[]
          · rw [if_neg a2]
            by_cases a3:lo+l < i/\i<=lo+k
            · rw [if_pos a3, if_pos ⟨by omega, by omega⟩]
              exact S2 _ _ #v[] #v[] #v[]
            · rw [if_neg a3]
              by_cases a4:lo+l < j/\j<=lo+k
              · rw [if_pos a4]
                by_cases a5:i=j - 1
                · rw[a5];exact O.rf _
                · exact S2 _ _ #v[] #v[] #v[]
              · rw [if_neg a4]
                exact S2 _ _ #v[] #v[] #v[]
end
end Tim
namespace Tim
theorem G_list {a:Array Keyed}{i:Nat}(h:i < a.size):a.toList[i]?=some (G a i):=by rw[Array.getElem?_toList];exact zx1 h
theorem take_G {a:Array Keyed}{i:Nat}(h:i < a.size):a.toList.take (i+1)=a.toList.take i++[G a i]:=by rw[List.take_add_one,G_list h];rfl
theorem zt9 {a:Array Keyed}{i:Nat}(h:i < a.size):a.toList.drop i=G a i::a.toList.drop (i+1):=by
 have h' : i < a.toList.length:=by simpa using h
 rw[List.drop_eq_getElem_cons h'];have e:=G_list h;rw[List.getElem?_eq_getElem h'] at e;rw[sI e]
theorem mem_drop {a:Array Keyed}{n:Nat}{x:Keyed}(h:x∈a.toList.drop n):∃i,n<=i/\i < a.size/\x=G a i:=by
 obtain⟨i,hi,e⟩:=List.mem_iff_getElem.mp h;have h1:n+i < a.toList.length:=by rw[List.length_drop] at hi;omega
 have h2:n+i < a.size:=by simpa using h1
 refine⟨n+i,by omega,h2,?_⟩;rw[List.getElem_drop] at e;have g:=G_list h2;rw[List.getElem?_eq_getElem h1] at g;rw[<-e];exact sI g
theorem mem_take {a:Array Keyed}{n:Nat}{x:Keyed}(h:x∈a.toList.take n):∃i,i < n/\i < a.size/\x=G a i:=by
 obtain⟨i,hi,e⟩:=List.mem_iff_getElem.mp h;rw[List.length_take] at hi;have h1:i < a.toList.length:=by omega
 have h2:i < a.size:=by simpa using h1
 refine⟨i,by omega,h2,?_⟩;rw[List.getElem_take] at e;have g:=G_list h2;rw[List.getElem?_eq_getElem h1] at g;rw[<-e];exact sI g
theorem srt_list {le:Keyed->Keyed->Prop}{a:Array Keyed}(h:Srt le a 0 a.size):a.toList.Pairwise le:=by
 rw[List.pairwise_iff_getElem];intro i j hi hj hij;have hi' : i < a.size:=by simpa using hi
 have hj' : j < a.size:=by simpa using hj
 have e1:=G_list hi';have e2:=G_list hj';rw[List.getElem?_eq_getElem hi] at e1;rw[List.getElem?_eq_getElem hj] at e2;rw[sI e1,sI e2];exact h i j (Nat.zero_le _) hij hj'
theorem zck (a:Array Keyed)(i j:Nat):(a.extract i j).toList=(a.toList.drop i).take (j - i):=by rw[Array.toList_extract]
theorem zhz (a:Array Keyed)(i:Nat):(a.extract i a.size).toList=a.toList.drop i:=by
 rw[zck,List.take_of_length_le];rw[List.length_drop];simp
structure Fin (le:Keyed->Keyed->Prop) (a b:Array Keyed) (r:List Keyed):Prop where
 p:r.Perm (a.toList++b.toList)
 s:r.Pairwise le
structure MI (le:Keyed->Keyed->Prop) (a b:Array Keyed) (o:List Keyed) (ia ib:Nat):Prop where
 p:o.Perm (a.toList.take ia++b.toList.take ib)
 s:o.Pairwise le
 oa:∀x∈o,∀i,ia<=i->i < a.size->le x (G a i)
 ob:∀x∈o,∀j,ib<=j->j < b.size->le x (G b j)
structure MH (le:Keyed->Keyed->Prop) (a b:Array Keyed) (o:List Keyed) (na nb:Nat):Prop where
 p:o.Perm (a.toList.drop na++b.toList.drop nb)
 s:o.Pairwise le
 oa:∀x∈o,∀i,i < na->le (G a i) x
 ob:∀x∈o,∀j,j < nb->le (G b j) x
section
variable {lt:Keyed->Keyed->Bool}{bf le:Keyed->Keyed->Prop} (O:Ord lt bf le) {a b:Array Keyed}{o:List Keyed}{ia ib na nb:Nat} (Sa:Srt le a 0 a.size) (Sb:Srt le b 0 b.size)
theorem zwn {x:Keyed}{o p q:List Keyed}(h:o.Perm (p++q)):(o++[x]).Perm ((p++[x])++q):=by
 refine (h.append_right [x]).trans ?_;rw[List.append_assoc,List.append_assoc];exact List.perm_append_comm.append_left p
theorem MI.pushA (Sa:Srt le a 0 a.size)(m:MI le a b o ia ib)(hi:ia < a.size)(hb:∀j,ib<=j->j < b.size->le (G a ia) (G b j)):MI le a b (o++[G a ia]) (ia+1) ib:=by
 refine⟨by rw[take_G hi];exact zwn m.p,?_,fun x hx i h1 h2=>?_,fun x hx j h1 h2=>?_⟩
 ·rw[List.pairwise_append];refine⟨m.s,List.pairwise_singleton _ _,fun x hx y hy=>?_⟩;rw[List.mem_singleton.mp hy];exact m.oa x hx ia (Nat.le_refl _) hi
 ·rcases List.mem_append.mp hx with z | z
  ·exact m.oa x z i #v[] h2
  ·rw[List.mem_singleton.mp z];exact Sa _ _ (Nat.zero_le _) #v[] h2
 ·rcases List.mem_append.mp hx with z | z
  ·exact m.ob x z j h1 h2
  ·rw[List.mem_singleton.mp z];exact hb j h1 h2
theorem MI.pushB (Sb:Srt le b 0 b.size)(m:MI le a b o ia ib)(hj:ib < b.size)(ha:∀i,ia<=i->i < a.size->le (G b ib) (G a i)):MI le a b (o++[G b ib]) ia (ib+1):=by
 refine⟨?_,?_,fun x hx i h1 h2=>?_,fun x hx j h1 h2=>?_⟩
 ·rw[take_G hj];have:=m.p.append_right [G b ib];rw[List.append_assoc] at this;exact this
 ·rw[List.pairwise_append];refine⟨m.s,List.pairwise_singleton _ _,fun x hx y hy=>?_⟩;rw[List.mem_singleton.mp hy];exact m.ob x hx ib (Nat.le_refl _) hj
 ·rcases List.mem_append.mp hx with z | z
  ·exact m.oa x z i h1 h2
  ·rw[List.mem_singleton.mp z];exact ha i h1 h2
 ·rcases List.mem_append.mp hx with z | z
  ·exact m.ob x z j #v[] h2
  ·rw[List.mem_singleton.mp z];exact Sb _ _ (Nat.zero_le _) #v[] h2
theorem zow {a:Array Keyed}{i k:Nat}(h:i+k < a.size):(a.toList.drop i).take (k+1)=(a.toList.drop i).take k++[G a (i+k)]:=by
 rw[List.take_add_one,List.getElem?_drop,G_list h];rfl
theorem MI.appA (Sa:Srt le a 0 a.size) (m:MI le a b o ia ib):∀k,ia+k<=a.size->(∀i,ia<=i->i < ia+k->∀j,ib<=j->j < b.size->le (G a i) (G b j))->MI le a b (o++(a.toList.drop ia).take k) (ia+k) ib
  | 0,_,_=>by rw[List.take_zero,List.append_nil];exact m
  | k+1,h1,h2=>by
    have:=(m.appA Sa k #v[] fun i g1 g2=>h2 i g1 #v[]).pushA Sa #v[] (h2 (ia+k) #v[] #v[]);rw[zow #v[],<-List.append_assoc];exact this
theorem MI.appB (Sb:Srt le b 0 b.size) (m:MI le a b o ia ib):∀k,ib+k<=b.size->(∀j,ib<=j->j < ib+k->∀i,ia<=i->i < a.size->le (G b j) (G a i))->MI le a b (o++(b.toList.drop ib).take k) ia (ib+k)
  | 0,_,_=>by rw[List.take_zero,List.append_nil];exact m
  | k+1,h1,h2=>by
    have:=(m.appB Sb k #v[] fun i g1 g2=>h2 i g1 #v[]).pushB Sb #v[] (h2 (ib+k) #v[] #v[]);rw[zow #v[],<-List.append_assoc];exact this
theorem zoa (b:Array Keyed):b.toList.take b.size=b.toList:=List.take_of_length_le (by simp)
theorem MI.finB (Sa:Srt le a 0 a.size)(m:MI le a b o ia b.size):Fin le a b (o++a.toList.drop ia):=by
 refine⟨?_,?_⟩
 ·have h := m.p;rw[zoa] at h;refine (h.append_right _).trans ?_;rw[List.append_assoc];refine (List.perm_append_comm.append_left _).trans ?_;rw[<-List.append_assoc,List.take_append_drop]
 ·rw[List.pairwise_append];refine⟨m.s,(srt_list Sa).sublist (List.drop_sublist _ _),fun x hx y hy=>?_⟩;obtain⟨i,h1,h2,rfl⟩:=mem_drop hy;exact m.oa x hx i h1 h2
theorem MI.finA (Sb:Srt le b 0 b.size)(m:MI le a b o a.size ib):Fin le a b (o++b.toList.drop ib):=by
 refine⟨?_,?_⟩
 ·have h := m.p;rw[zoa] at h;refine (h.append_right _).trans ?_;rw[List.append_assoc,List.take_append_drop]
 ·rw[List.pairwise_append];refine⟨m.s,(srt_list Sb).sublist (List.drop_sublist _ _),fun x hx y hy=>?_⟩;obtain⟨i,h1,h2,rfl⟩:=mem_drop hy;exact m.ob x hx i h1 h2
theorem MI.finL (Sa:Srt le a 0 a.size)(Sb:Srt le b 0 b.size)(m:MI le a b o ia ib)(e:ia+1=a.size)(HA:∀j,j < b.size->le (G b j) (G a (a.size - 1))):Fin le a b (o++b.toList.drop ib++a.toList.drop ia):=by
 refine⟨?_,?_⟩
 ·refine ((m.p.append_right _).append_right _).trans ?_;rw[List.append_assoc,List.append_assoc,<-List.append_assoc (b.toList.take ib),List.take_append_drop];refine (List.perm_append_comm.append_left _).trans ?_;rw[<-List.append_assoc,List.take_append_drop]
 ·rw[List.pairwise_append, List.pairwise_append];refine⟨⟨m.s,(srt_list Sb).sublist (List.drop_sublist _ _),fun x hx y hy=>?_⟩,(srt_list Sa).sublist (List.drop_sublist _ _),fun x hx y hy=>?_⟩
  ·obtain⟨i, h1, h2, rfl⟩ := mem_drop hy;exact m.ob x hx i h1 h2
  ·obtain⟨i, h1, h2, rfl⟩ := mem_drop hy;rcases List.mem_append.mp hx with z | z
   ·exact m.oa x z i h1 h2
   ·obtain⟨j, g1, g2, rfl⟩ := mem_drop z;have:i=a.size - 1:=by omega
    rw[this];exact HA j g2
theorem MH.pushA (Sa:Srt le a 0 a.size)(m:MH le a b o (na+1) nb)(h:na < a.size)(hb:∀j,j < nb->le (G b j) (G a na)):MH le a b (G a na::o) na nb:=by
 refine⟨?_,List.pairwise_cons.mpr ⟨fun x hx=>m.oa x hx na #v[],m.s⟩,fun x hx i h1=>?_,fun x hx j h1=>?_⟩
 ·rw[zt9 h];exact m.p.cons _
 ·rcases List.mem_cons.mp hx with z | z
  ·rw[z];exact Sa _ _ (Nat.zero_le _) h1 h
  ·exact m.oa x z i #v[]
 ·rcases List.mem_cons.mp hx with z | z
  ·rw[z];exact hb j h1
  ·exact m.ob x z j h1
theorem MH.pushB (Sb:Srt le b 0 b.size)(m:MH le a b o na (nb+1))(h:nb < b.size)(ha:∀i,i < na->le (G a i) (G b nb)):MH le a b (G b nb::o) na nb:=by
 refine⟨?_,List.pairwise_cons.mpr ⟨fun x hx=>m.ob x hx nb #v[],m.s⟩,fun x hx i h1=>?_,fun x hx j h1=>?_⟩
 ·rw[zt9 h];exact (m.p.cons _).trans List.perm_middle.symm
 ·rcases List.mem_cons.mp hx with z | z
  ·rw[z];exact ha i h1
  ·exact m.oa x z i h1
 ·rcases List.mem_cons.mp hx with z | z
  ·rw[z];exact Sb _ _ (Nat.zero_le _) h1 h
  ·exact m.ob x z j #v[]
theorem znb {a:Array Keyed}{i k:Nat}(h:i < a.size):(a.toList.drop i).take (k+1)=G a i::(a.toList.drop (i+1)).take k:=by
 rw[zt9 h,List.take_succ_cons]
theorem MH.appA (Sa:Srt le a 0 a.size):∀(k at_:Nat),MH le a b o (at_+k) nb->at_+k<=a.size->(∀i,at_<=i->i < at_+k->∀j,j < nb->le (G b j) (G a i))->MH le a b ((a.toList.drop at_).take k++o) at_ nb
  | 0,at_,m,_,_=>by rw[List.take_zero];exact m
  | k+1,at_,m,h1,h2=>by
    have:=(MH.appA Sa k (at_+1) (by rw[show at_+1+k=at_+(k+1) by omega];exact m) #v[] fun i g1 g2=>h2 i #v[] #v[]).pushA Sa #v[] (h2 at_ (Nat.le_refl _) #v[]);rw[znb #v[]];exact this
theorem MH.appB (Sb:Srt le b 0 b.size):∀(k at_:Nat),MH le a b o na (at_+k)->at_+k<=b.size->(∀j,at_<=j->j < at_+k->∀i,i < na->le (G a i) (G b j))->MH le a b ((b.toList.drop at_).take k++o) na at_
  | 0,at_,m,_,_=>by rw[List.take_zero];exact m
  | k+1,at_,m,h1,h2=>by
    have:=(MH.appB Sb k (at_+1) (by rw[show at_+1+k=at_+(k+1) by omega];exact m) #v[] fun i g1 g2=>h2 i #v[] #v[]).pushB Sb #v[] (h2 at_ (Nat.le_refl _) #v[]);rw[znb #v[]];exact this
theorem MH.finA (Sb:Srt le b 0 b.size)(m:MH le a b o 0 nb):Fin le a b (b.toList.take nb++o):=by
 refine⟨?_,?_⟩
 ·refine (m.p.append_left _).trans ?_;rw[List.drop_zero];refine List.perm_append_comm_assoc _ _ _ |>.trans ?_;rw[List.take_append_drop]
 ·rw[List.pairwise_append];refine⟨(srt_list Sb).sublist (List.take_sublist _ _),m.s,fun x hx y hy=>?_⟩;obtain⟨i,h1,h2,rfl⟩:=mem_take hx;exact m.ob y hy i h1
theorem MH.finB (Sa:Srt le a 0 a.size)(m:MH le a b o na 0):Fin le a b (a.toList.take na++o):=by
 refine⟨?_,?_⟩
 ·refine (m.p.append_left _).trans ?_;rw[List.drop_zero,<-List.append_assoc,List.take_append_drop]
 ·rw[List.pairwise_append];refine⟨(srt_list Sa).sublist (List.take_sublist _ _),m.s,fun x hx y hy=>?_⟩;obtain⟨i,h1,h2,rfl⟩:=mem_take hx;exact m.oa y hy i h1
theorem MH.finF (Sa:Srt le a 0 a.size)(Sb:Srt le b 0 b.size)(m:MH le a b o na 1)(H0:∀i,i < a.size->le (G b 0) (G a i)):Fin le a b (b.toList.take 1++a.toList.take na++o):=by
 refine⟨?_,?_⟩
 ·refine (m.p.append_left _).trans ?_;rw[List.append_assoc,<-List.append_assoc (a.toList.take na),List.take_append_drop];refine List.perm_append_comm_assoc _ _ _ |>.trans ?_;rw[List.take_append_drop]
 ·rw[List.pairwise_append, List.pairwise_append];refine⟨⟨(srt_list Sb).sublist (List.take_sublist _ _),(srt_list Sa).sublist (List.take_sublist _ _),fun x hx y hy=>?_⟩,m.s,fun x hx y hy=>?_⟩
  ·obtain⟨i, h1, h2, rfl⟩ := mem_take hx;obtain⟨j,g1,g2,rfl⟩:=mem_take hy;have:i=0:=by omega
   rw[this];exact H0 j g2
  ·rcases List.mem_append.mp hx with z | z
   ·obtain⟨i, h1, h2, rfl⟩ := mem_take z;exact m.ob y hy i h1
   ·obtain⟨i, h1, h2, rfl⟩ := mem_take z;exact m.oa y hy i h1
end
end Tim
namespace Tim
noncomputable def setG:Nat->StateT SortSt Sem Unit:=sortPriv% PySem.Builtin.setMinGallop
section
variable {prog:Program}{w:World}{A:Around}{E:Value->Shared->Prop}{s:Shared}{κ:SortKind}{a₀:Array Keyed}{lt:Keyed->Keyed->Bool}{bf le:Keyed->Keyed->Prop}{st:SortSt}{pd:Array (Nat × Nat × Nat)}
structure SG (κ:SortKind) (a₀:Array Keyed) (pd:Array (Nat × Nat × Nat)) (xs:Array Keyed) (st:SortSt):Prop where
 i:SI κ a₀ pd st
 e:arrOf st=xs
theorem zou {xs:Array Keyed}{g:Nat}{Q:Unit->SortSt->Prop}(S:SG κ a₀ pd xs st)(h:∀st',SG κ a₀ pd xs st'->Q () st'):wpS (model prog w) A E s (setG g) Q st :=
 wpS_modify (h _ ⟨⟨S.i.kind,S.i.failed,S.i.perm,S.i.pend⟩,S.e⟩)
theorem q_lt {x y:Keyed}{Q:Option Bool->SortSt->Prop}(C:Asks prog w A E s κ a₀ lt){xs:Array Keyed}(S:SG κ a₀ pd xs st)(hx:x∈a₀.toList)(hy:y∈a₀.toList)(h:Q (some (lt x y)) st):wpS (model prog w) A E s (lt' x y) Q st:=C _ _ _ _ hx hy S.i.kind h
theorem zj4 {out a b:Array Keyed}{ia ib:Nat}:(out++a.extract ia a.size++b.extract ib b.size).toList=out.toList++a.toList.drop ia++b.toList.drop ib:=by
 rw[Array.toList_append,Array.toList_append,zhz,zhz]
theorem znw {le:Keyed->Keyed->Prop}{out a b:Array Keyed}{ia ib:Nat}(e:ib=b.size)(h:Fin le a b (out.toList++a.toList.drop ia)):Fin le a b (out++a.extract ia a.size++b.extract ib b.size).toList:=by
 subst e;rw[zj4,List.drop_of_length_le (l:=b.toList) (by simp),List.append_nil];exact h
theorem z3y {le:Keyed->Keyed->Prop}{out a b:Array Keyed}{ia ib:Nat}(e:ia=a.size)(h:Fin le a b (out.toList++b.toList.drop ib)):Fin le a b (out++a.extract ia a.size++b.extract ib b.size).toList:=by
 subst e;rw[zj4,List.drop_of_length_le (l:=a.toList) (by simp),List.append_nil];exact h
theorem zod {le:Keyed->Keyed->Prop}{out a b:Array Keyed}{ia ib:Nat}(h:Fin le a b (out.toList++b.toList.drop ib++a.toList.drop ia)):Fin le a b (out++b.extract ib b.size++a.extract ia a.size).toList:=by
 rw[Array.toList_append,Array.toList_append,zhz,zhz];exact h
theorem q_if {α:Type}{c:Prop} [Decidable c] {x y:StateT SortSt Sem α}{Q:α->SortSt->Prop}(h1:c->wpS (model prog w) A E s x Q st)(h2:¬ c->wpS (model prog w) A E s y Q st):wpS (model prog w) A E s (if c then x else y) Q st:=by
 by_cases h:c
 ·rw[if_pos h];exact h1 h
 ·rw[if_neg h];exact h2 h
theorem zrd {α:Type}{x:StateT SortSt Sem α}{Q:α->SortSt->Prop}(h:∀Q',(∀r t,Q r t->Q' r t)->wpS (model prog w) A E s x Q' st):wpS (model prog w) A E s x Q st:=h Q fun _ _ z=>z
theorem q_eq {α β:Type}{c:β->Prop} [∀m,Decidable (c m)] {x:β->StateT SortSt Sem α}{Q:α->SortSt->Prop}{g:β->β}{f:β->StateT SortSt Sem α}(e:∀m,x m=f (g m))(h:∀u,wpS (model prog w) A E s (f u) Q st):∀m,wpS (model prog w) A E s (if c m then x m else f m) Q st:=fun m=>by
 rw[e];exact q_if (fun _=>h _) fun _=>h _
theorem zwp {α β γ:Type}{c:Prop} [Decidable c] {x:β->γ->StateT SortSt Sem α}{Q:α->SortSt->Prop}{v:β}{u:γ}{f:β->γ->StateT SortSt Sem α} (P:β->γ->Prop) (h0:¬ c->P v u) (h1:c->(∀v u,P v u->wpS (model prog w) A E s (f v u) Q st)->wpS (model prog w) A E s (x v u) Q st)
  (h:∀v u,P v u->wpS (model prog w) A E s (f v u) Q st):∀v',v=v'->∀u',u=u'->wpS (model prog w) A E s (if c then x v' u' else f v' u') Q st:=by
 rintro _ rfl _ rfl;exact q_if (fun k=>h1 k h) fun k=>h _ _ (h0 k)
theorem MI.finA' {le:Keyed->Keyed->Prop}{a b:Array Keyed}{o:List Keyed}{ia ib:Nat}(Sb:Srt le b 0 b.size)(m:MI le a b o ia ib)(e:ia=a.size):Fin le a b (o++b.toList.drop ib):=by subst e;exact m.finA Sb
theorem MI.finB' {le:Keyed->Keyed->Prop}{a b:Array Keyed}{o:List Keyed}{ia ib:Nat}(Sa:Srt le a 0 a.size)(m:MI le a b o ia ib)(e:ib=b.size):Fin le a b (o++a.toList.drop ia):=by subst e;exact m.finB Sa
structure MP (lt:Keyed->Keyed->Bool) (bf le:Keyed->Keyed->Prop) (a₀ a b:Array Keyed):Prop where
 sa:Srt le a 0 a.size
 sb:Srt le b 0 b.size
 ma:∀i,i < a.size->G a i∈a₀.toList
 mb:∀i,i < b.size->G b i∈a₀.toList
 bf:∀i j,i < a.size->j < b.size->bf (G a i) (G b j)
 a1:1<=a.size
 b1:1<=b.size
 h0:∀i,i < a.size->le (G b 0) (G a i)
 ha:∀j,j < b.size->le (G b j) (G a (a.size - 1))
inductive Fi {γ:Type} (F:Array Keyed->Prop):Option (Array Keyed) × γ->Prop
 | mk (r:Array Keyed) (g:γ):F r->Fi F (some r,g)
structure LX (le:Keyed->Keyed->Prop) (a b:Array Keyed) (x:Nat) (out:Array Keyed) (ia ib:Nat):Prop where
 m:MI le a b out.toList ia ib
 l:ia+1 < a.size
 r:ib < b.size
 s:x<=ia+ib
inductive L5 (P:Array Keyed->Nat->Nat->Prop):Option (Array Keyed) × Array Keyed × Nat × Nat × Nat->Prop
 | mk (out:Array Keyed) (ia ib mg:Nat):P out ia ib->L5 P (none,out,ia,ib,mg)
inductive L6 (P:Array Keyed->Nat->Nat->Prop):Option (Array Keyed) × Array Keyed × Nat × Nat × Nat × Nat->Prop
 | mk (out:Array Keyed) (ia ib ac bc:Nat):P out ia ib->L6 P (none,out,ia,ib,ac,bc)
inductive L7 (P:Array Keyed->Nat->Nat->Prop):Option (Array Keyed) × Array Keyed × Nat × Nat × Nat × Nat × Nat->Prop
 | mk (out:Array Keyed) (ia ib mg ac bc:Nat):P out ia ib->L7 P (none,out,ia,ib,mg,ac,bc)
theorem z6q (C:Asks prog w A E s κ a₀ lt) (O:Ord lt bf le) {a b xs:Array Keyed}{Q:Array Keyed->SortSt->Prop} (S:SG κ a₀ pd xs st) (P:MP lt bf le a₀ a b)
    (h:∀r st',SG κ a₀ pd xs st'->Fin le a b r.toList->Q r st'):wpS (model prog w) A E s (mLo a b) Q st:=by
  have leA:∀i j,i<=j->j < a.size->le (G a i) (G a j):=fun i j h1 h2=>by
    by_cases e:i=j
    · rw[e];exact O.rf _
    · exact P.sa i j (Nat.zero_le _) #v[] h2
  have leB:∀i j,i<=j->j < b.size->le (G b i) (G b j):=fun i j h1 h2=>by
    by_cases e:i=j
    · rw[e];exact O.rf _
    · exact P.sb i j (Nat.zero_le _) #v[] h2
  have pa:=P.a1;have pb:=P.b1;show wpS (model prog w) A E s (liftM (rule _) >>= _) Q st;refine wpS_bind (wpS_lift (wpAny_rule ⟨rfl,?_⟩));refine wpS_bind (zaq pb ?_);have m0:MI le a b (#[G b 0]:Array Keyed).toList 0 1:=by
    have:=MI.pushB (o:=[]) (ia:=0) (ib:=0) P.sb ⟨by simp,.nil,fun x hx=>by simp at hx,fun x hx=>by simp at hx⟩ #v[] (fun i _ h2=>P.h0 i h2);simpa using this
  dsimp only;by_cases e1:1=b.size
  · rw [if_pos (by simpa using e1)]
    refine wpS_pure (h _ _ S (znw e1 (m0.finB' P.sa e1)))
  rw[if_neg (by simpa using e1)];by_cases e2:0+1=a.size
  · rw [if_pos (by simpa using e2)]
    exact wpS_pure (h _ _ S (zod (m0.finL P.sa P.sb e2 P.ha)))
  rw [if_neg (by simpa using e2)];refine wpS_bind (wpS_get ?_);refine wpS_bind (wpS_mono (wpS_forRange (I:=fun x c s2=>SG κ a₀ pd xs s2/\L5 (LX le a b x) c)
    (Q:=fun c s2=>SG κ a₀ pd xs s2/\Fi (fun r=>Fin le a b r.toList) c) ?os ?of ⟨S,.mk _ 0 1 _ ⟨m0,by omega,by omega,by omega⟩⟩) ?op)
  case of =>
    rintro c s2 ⟨_,out,ia,ib,mg,b2,b3,b4,b5⟩;exfalso;omega
  case op =>
    rintro c s2 hC;refine aG fun G hG=>?_;obtain⟨b1,r,g,b2⟩:=hC;refine hG ?_;clear hG;clear G;exact wpS_pure (h _ _ b1 b2)
  case os =>
    rintro x c s2 _ hx hC;refine aG fun G hG=>?_;obtain ⟨S2,out,ia,ib,mg,Z2⟩:=hC;refine hG ?_;clear hG;clear G;dsimp only;refine wpS_bind (wpS_mono (wpS_forRange (I:=fun y c s3=>s3=s2/\L6 (LX le a b x) c)
      (Q:=fun c s3=>s3=s2/\(Fi (fun r=>Fin le a b r.toList) c\/L6 (LX le a b x) c)) ?is1 ?if1 ⟨rfl,.mk out ia ib 0 0 Z2⟩) ?ip1)
    case if1 =>
      rintro c s3 ⟨e3,z⟩;exact⟨e3,.inr z⟩
    case is1 =>
      rintro y c s3 _ hy hC;refine aG fun G hG=>?_;obtain⟨e3,out,ia,ib,ac,bc,m3,c3,c4,c5⟩:=hC;refine hG ?_;clear hG;clear G;subst e3;dsimp only;refine wpS_bind (zaq c4 (wpS_bind (zaq #v[] (wpS_bind (q_lt C S2 (P.mb _ c4) (P.ma _ #v[]) ?_)))));have bb:=P.bf ia ib #v[] c4;cases q:lt (G b ib) (G a ia) with
      | true =>
        dsimp only;rw [if_pos rfl];refine wpS_bind (zaq c4 ?_);have m4:MI le a b (out.push (G b ib)).toList ia (ib+1):=by
          rw[Array.toList_push];exact m3.pushB P.sb c4 fun i g1 g2=>O.tr (O.f2 q) (leA _ _ g1 g2)
        by_cases e:ib+1=b.size
        · rw [if_pos (by simpa using e)]
          refine wpS_pure ⟨rfl,.inl (.mk _ _ (znw e ?_))⟩;rw[e] at m4;exact m4.finB P.sa
        · rw [if_neg (by simpa using e)]
          split
          · exact wpS_pure ⟨rfl,.inr (.mk _ _ _ _ _ ⟨m4,c3,by omega,by omega⟩)⟩
          · exact wpS_pure ⟨rfl,.mk _ _ _ _ _ ⟨m4,c3,by omega,by omega⟩⟩
      | false =>
        dsimp only;rw [if_neg (by decide)];refine wpS_bind (zaq (by omega) ?_);have m4:MI le a b (out.push (G a ia)).toList (ia+1) ib:=by
          rw[Array.toList_push];exact m3.pushA P.sa #v[] fun j g1 g2=>O.tr ((O.f1 bb).mp q) (leB _ _ g1 g2)
        by_cases e:ia+1+1=a.size
        · rw [if_pos (by simpa using e)]
          exact wpS_pure ⟨rfl,.inl (.mk _ _ (zod (m4.finL P.sa P.sb e P.ha)))⟩
        · rw [if_neg (by simpa using e)]
          split
          · exact wpS_pure ⟨rfl,.inr (.mk _ _ _ _ _ ⟨m4,by omega,c4,by omega⟩)⟩
          · exact wpS_pure ⟨rfl,.mk _ _ _ _ _ ⟨m4,by omega,c4,by omega⟩⟩
    case ip1 =>
      rintro c s3 ⟨e3,z⟩;subst e3;refine aG fun G hG=>?_;rcases z with ⟨r,g,f⟩ | ⟨out,ia,ib,ac,bc,m3,c3,c4,c5⟩
      · refine hG ?_
        clear hG;clear G;exact wpS_pure ⟨S2,.mk _ _ f⟩
      · refine hG ?_
        clear hG;clear G;dsimp only;refine wpS_bind (wpS_lift (wpAny_rule ⟨rfl,?_⟩));refine wpS_bind (wpS_mono (wpS_forRange (I:=fun y c s4=>SG κ a₀ pd xs s4/\L7 (LX le a b (x+y)) c)
          (Q:=fun c s4=>SG κ a₀ pd xs s4/\(Fi (fun r=>Fin le a b r.toList) c\/L7 (LX le a b (x+1)) c)) ?gs ?gf ⟨S2,.mk out ia ib _ ac bc ⟨m3,c3,c4,by omega⟩⟩) ?gp)
        case gf =>
          rintro c s4 ⟨S4,out,ia,ib,mg,ac,bc,m4,d3,d4,d5⟩;exact⟨S4,.inr (.mk _ _ _ _ _ _ ⟨m4,d3,d4,by omega⟩)⟩
        case gp =>
          rintro c s4 ⟨S4,z⟩;refine aG fun G hG=>?_;rcases z with ⟨r,g,f⟩ | ⟨out,ia,ib,mg,ac,bc,Z4⟩
          · refine hG ?_
            clear hG;clear G;exact wpS_pure ⟨S4,.mk _ _ f⟩
          · refine hG ?_
            clear hG;clear G;dsimp only;exact wpS_bind (zou S4 fun s5 S5=>wpS_pure ⟨S5,.mk _ _ _ _ Z4⟩)
        case gs =>
          rintro y c s4 _ hy hC;refine aG fun G hG=>?_;obtain⟨S4,out,ia,ib,mg,ac,bc,m4,d3,d4,d5⟩:=hC;refine hG ?_;clear hG;clear G;simp (config:={ maxSteps:=10000000,failIfUnchanged:=false }) only [];refine zrd fun Q' hQ=>?_;generalize mg=mg
          revert mg
          refine q_eq (g:=fun mg=>mg - 1) (fun _=>rfl) fun mg=>?_;dsimp (config:={ failIfUnchanged:=false }) only;refine wpS_bind (zou S4 fun s5 S5=>wpS_bind (zaq d4 (wpS_bind (zo0 (left:=false) (key:=G b ib) (arr:=a) (base:=ia) (n:=a.size - ia) (hint:=0) (B:=fun i=>!lt (G b ib) (G a (ia+i))) C S5.i.kind (P.mb _ d4) #v[] (fun i hi=>P.ma _ #v[]) (fun i hi=>rfl) (fun i j h1 h2 h3=>?mono1) #v[] fun k k1 k2 k3=>?_))))
          case mono1 =>
            have h3' : lt (G b ib) (G a (ia+j))=false:=by simpa using h3
            have l1:=(O.f1 (P.bf (ia+j) ib #v[] d4)).mp h3';have l2:=(O.f1 (P.bf (ia+i) ib #v[] d4)).mpr (O.tr (leA _ _ #v[] #v[]) l1);show (!lt (G b ib) (G a (ia+i)))=true;rw[l2];rfl
          have w1:∀i,ia<=i->i < ia+k->le (G a i) (G b ib):=fun i g1 g2=>by
            have:=k2 (i - ia) #v[];rw[Nat.add_sub_cancel' g1] at this;exact (O.f1 (P.bf i ib #v[] d4)).mp (by simpa using this)
          have w2:∀i,ia+k<=i->i < a.size->le (G b ib) (G a i):=fun i g1 g2=>by
            have:=k3 (i - ia) #v[] #v[];rw[Nat.add_sub_cancel' (Nat.le_trans (Nat.le_add_right _ _) g1)] at this;exact O.f2 (by simpa using this)
          have m5:MI le a b (out++a.extract ia (ia+k)).toList (ia+k) ib:=by
            rw[Array.toList_append,zck,Nat.add_sub_cancel_left];exact m4.appA P.sa k #v[] fun i g1 g2 j g3 g4=>O.tr (w1 i g1 g2) (leB _ _ g3 g4)
          dsimp (config:={ failIfUnchanged:=false }) only;generalize eou:out=out'
          revert out'
          generalize ena:ia=na'
          revert na'
          refine zwp (fun ia1 out1=>MI le a b out1.toList ia1 ib/\(∀i,ia1<=i->i < a.size->le (G b ib) (G a i))/\ia1+1 < a.size/\x+y<=ia1+ib) (fun hk0=>?_) (fun hc H=>?_) fun ia1 out1 ⟨n5,u1,b6,p6⟩=>?_
          · have k0 : k = 0 := by omega
            subst k0;exact⟨m4,w2,d3,d5⟩
          · refine q_if (fun e1 => ?_) fun e1 => ?_
            · have e1 : ia + k + 1 = a.size := by simpa using e1
              exact wpS_pure (hQ _ _ ⟨S5,.inl (.mk _ _ (zod (m5.finL P.sa P.sb e1 P.ha)))⟩)
            have e1:¬ ia+k+1=a.size:=by simpa using e1
            refine q_if (fun e2=>?_) fun e2=>?_
            · have e2 : ia + k = a.size := by simpa using e2
              exact wpS_pure (hQ _ _ ⟨S5,.inl (.mk _ _ (z3y e2 (m5.finA' P.sb e2)))⟩)
            have e2:¬ ia+k=a.size:=by simpa using e2
            exact H _ _ ⟨m5,w2,by omega,by omega⟩
          clear m5 m4 w2 w1 k3 k2 k1;dsimp (config:={ failIfUnchanged:=false }) only;refine wpS_bind (zaq d4 ?_);have m6:MI le a b (out1.push (G b ib)).toList ia1 (ib+1):=by
            rw[Array.toList_push];exact n5.pushB P.sb d4 u1
          refine q_if (fun e3=>?_) fun e3=>?_
          · have e3 : ib + 1 = b.size := by simpa using e3
            exact wpS_pure (hQ _ _ ⟨S5,.inl (.mk _ _ (znw e3 (m6.finB' P.sa e3)))⟩)
          have e3:¬ ib+1=b.size:=by simpa using e3
          refine wpS_bind (zaq #v[] (wpS_bind (zo0 (left:=true) (key:=G a ia1) (arr:=b) (base:=ib+1) (n:=b.size - (ib+1)) (hint:=0) (B:=fun j=>lt (G b (ib+1+j)) (G a ia1)) C S5.i.kind (P.ma _ #v[]) #v[] (fun j hj=>P.mb _ #v[]) (fun j hj=>rfl) (fun i j h1 h2 h3=>?mono2) #v[] fun l l1 l2 l3=>?_)))
          case mono2 =>
            have n1:=O.f3 (P.bf ia1 (ib+1+j) #v[] #v[]) h3;cases q:lt (G b (ib+1+i)) (G a ia1) with
            | true=>rfl
            | false=>exact absurd (O.tr ((O.f1 (P.bf ia1 (ib+1+i) #v[] #v[])).mp q) (leB _ _ #v[] #v[])) n1
          have v1:∀j,ib+1<=j->j < ib+1+l->le (G b j) (G a ia1):=fun j g1 g2=>by
            have:=l2 (j - (ib+1)) #v[];rw[Nat.add_sub_cancel' g1] at this;exact O.f2 this
          have v2:∀j,ib+1+l<=j->j < b.size->le (G a ia1) (G b j):=fun j g1 g2=>by
            have:=l3 (j - (ib+1)) #v[] #v[];rw[Nat.add_sub_cancel' (Nat.le_trans (Nat.le_add_right _ _) g1)] at this;exact (O.f1 (P.bf ia1 j #v[] g2)).mp this
          have m7:MI le a b (out1.push (G b ib)++b.extract (ib+1) (ib+1+l)).toList ia1 (ib+1+l):=by
            rw[Array.toList_append,zck,Nat.add_sub_cancel_left];exact m6.appB P.sb l #v[] fun j g1 g2 i g3 g4=>O.tr (v1 j g1 g2) (leA _ _ g3 g4)
          dsimp (config:={ failIfUnchanged:=false }) only;generalize hnb:ib+1=ib1 at m7 m6 v2 e3 ⊢;generalize hout:out1.push (G b ib)=out2 at m7 m6 ⊢;generalize eou:out2=out'
          revert out'
          generalize ena:ib1=na'
          revert na'
          refine zwp (fun ib2 out2=>MI le a b out2.toList ia1 ib2/\(∀j,ib2<=j->j < b.size->le (G a ia1) (G b j))/\ib2 < b.size/\x+y+1<=ia1+ib2) (fun hl0=>?_) (fun hc H=>?_) fun ib2 out3 ⟨n7,u2,b7,p7⟩=>?_
          · have k0 : l = 0 := by omega
            subst k0;exact⟨m6,v2,by omega,by omega⟩
          · refine q_if (fun e4 => ?_) fun e4 => ?_
            · have e4 : ib1 + l = b.size := by simpa using e4
              exact wpS_pure (hQ _ _ ⟨S5,.inl (.mk _ _ (znw e4 (m7.finB' P.sa e4)))⟩)
            have e4:¬ ib1+l=b.size:=by simpa using e4
            exact H _ _ ⟨m7,v2,by omega,by omega⟩
          dsimp (config:={ failIfUnchanged:=false }) only;refine wpS_bind (zaq (by omega) ?_);have m8:MI le a b (out3.push (G a ia1)).toList (ia1+1) ib2:=by
            rw[Array.toList_push];exact n7.pushA P.sa #v[] u2
          refine q_if (fun e5=>?_) fun e5=>?_
          · have e5 : ia1 + 1 + 1 = a.size := by simpa using e5
            exact wpS_pure (hQ _ _ ⟨S5,.inl (.mk _ _ (zod (m8.finL P.sa P.sb e5 P.ha)))⟩)
          have e5:¬ ia1+1+1=a.size:=by simpa using e5
          refine q_if (fun _=>?_) fun _=>?_
          · exact wpS_pure (hQ _ _ ⟨S5,.inr (.mk _ _ _ _ _ _ ⟨m8,by omega,b7,by omega⟩)⟩)
          · exact wpS_pure (hQ _ _ ⟨S5,.mk _ _ _ _ _ _ ⟨m8,by omega,b7,by omega⟩⟩)
end
end Tim
namespace Tim
section
variable {prog:Program}{w:World}{A:Around}{E:Value->Shared->Prop}{s:Shared}{κ:SortKind}{a₀:Array Keyed}{lt:Keyed->Keyed->Bool}{bf le:Keyed->Keyed->Prop}{st:SortSt}{pd:Array (Nat × Nat × Nat)}
variable {a b out:Array Keyed}{o:List Keyed}{na nb at_:Nat}
theorem MH.pushA' (Sa:Srt le a 0 a.size)(m:MH le a b out.toList.reverse na nb)(h1:1<=na)(h:na<=a.size)(hb:∀j,j < nb->le (G b j) (G a (na - 1))):MH le a b (out.push (G a (na - 1))).toList.reverse (na - 1) nb:=by
 obtain⟨n,rfl⟩ : ∃n,na=n+1:=⟨na - 1,by omega⟩;rw[Array.toList_push,List.reverse_append];exact m.pushA Sa #v[] hb
theorem MH.pushB' (Sb:Srt le b 0 b.size)(m:MH le a b out.toList.reverse na nb)(h1:1<=nb)(h:nb<=b.size)(ha:∀i,i < na->le (G a i) (G b (nb - 1))):MH le a b (out.push (G b (nb - 1))).toList.reverse na (nb - 1):=by
 obtain⟨n,rfl⟩ : ∃n,nb=n+1:=⟨nb - 1,by omega⟩;rw[Array.toList_push,List.reverse_append];exact m.pushB Sb #v[] ha
theorem zsi (x:Array Keyed)(i j:Nat):(out++(x.extract i j).reverse).toList.reverse=(x.toList.drop i).take (j - i)++out.toList.reverse:=by
 rw[Array.toList_append,List.reverse_append,Array.toList_reverse,List.reverse_reverse,zck]
theorem MH.appA' (Sa:Srt le a 0 a.size)(m:MH le a b out.toList.reverse na nb)(h1:at_<=na)(h:na<=a.size)(hb:∀i,at_<=i->i < na->∀j,j < nb->le (G b j) (G a i)):MH le a b (out++(a.extract at_ na).reverse).toList.reverse at_ nb:=by
 rw[zsi];obtain⟨k,rfl⟩ : ∃k,na=at_+k:=⟨na - at_,by omega⟩;rw[show at_+k - at_=k by omega];exact MH.appA Sa k at_ m h hb
theorem MH.appB' (Sb:Srt le b 0 b.size)(m:MH le a b out.toList.reverse na nb)(h1:at_<=nb)(h:nb<=b.size)(ha:∀j,at_<=j->j < nb->∀i,i < na->le (G a i) (G b j)):MH le a b (out++(b.extract at_ nb).reverse).toList.reverse na at_:=by
 rw[zsi];obtain⟨k,rfl⟩ : ∃k,nb=at_+k:=⟨nb - at_,by omega⟩;rw[show at_+k - at_=k by omega];exact MH.appB Sb k at_ m h ha
theorem zdt (x:Array Keyed)(n:Nat):(x.extract 0 n).toList=x.toList.take n:=by rw[zck,List.drop_zero,Nat.sub_zero]
theorem MH.done0 (Sb:Srt le b 0 b.size)(m:MH le a b out.toList.reverse na nb)(e:na=0):Fin le a b (a.extract 0 na++b.extract 0 nb++out.reverse).toList:=by
 subst e;rw[Array.toList_append,Array.toList_append,zdt,zdt,List.take_zero,List.nil_append,Array.toList_reverse];exact m.finA Sb
theorem MH.done1 (Sa:Srt le a 0 a.size)(m:MH le a b out.toList.reverse na nb)(e:nb=0):Fin le a b (a.extract 0 na++b.extract 0 nb++out.reverse).toList:=by
 subst e;rw[Array.toList_append,Array.toList_append,zdt,zdt,List.take_zero,List.append_nil,Array.toList_reverse];exact m.finB Sa
theorem MH.first (Sa:Srt le a 0 a.size)(Sb:Srt le b 0 b.size)(m:MH le a b out.toList.reverse na nb)(e:nb=1)(H0:∀i,i < a.size->le (G b 0) (G a i)):Fin le a b (b.extract 0 nb++a.extract 0 na++out.reverse).toList:=by
 subst e;rw[Array.toList_append,Array.toList_append,zdt,zdt,Array.toList_reverse];exact m.finF Sa Sb H0
structure HX (le:Keyed->Keyed->Prop) (a b:Array Keyed) (x:Nat) (out:Array Keyed) (na nb:Nat):Prop where
 m:MH le a b out.toList.reverse na nb
 l:1<=na
 r:2<=nb
 s:na<=a.size
 t:nb<=b.size
 u:x+na+nb<=a.size+b.size
inductive H5 (P:Array Keyed->Nat->Nat->Prop):Option (Array Keyed) × Nat × Nat × Array Keyed × Nat->Prop
 | mk (out:Array Keyed) (na nb mg:Nat):P out na nb->H5 P (none,na,nb,out,mg)
inductive H6 (P:Array Keyed->Nat->Nat->Prop):Option (Array Keyed) × Nat × Nat × Array Keyed × Nat × Nat->Prop
 | mk (out:Array Keyed) (na nb ac bc:Nat):P out na nb->H6 P (none,na,nb,out,ac,bc)
inductive H7 (P:Array Keyed->Nat->Nat->Prop):Option (Array Keyed) × Nat × Nat × Array Keyed × Nat × Nat × Nat->Prop
 | mk (out:Array Keyed) (na nb mg ac bc:Nat):P out na nb->H7 P (none,na,nb,out,mg,ac,bc)
theorem z62 (C:Asks prog w A E s κ a₀ lt) (O:Ord lt bf le) {a b xs:Array Keyed}{Q:Array Keyed->SortSt->Prop} (S:SG κ a₀ pd xs st) (P:MP lt bf le a₀ a b)
    (h:∀r st',SG κ a₀ pd xs st'->Fin le a b r.toList->Q r st'):wpS (model prog w) A E s (mHi a b) Q st:=by
  have leA:∀i j,i<=j->j < a.size->le (G a i) (G a j):=fun i j h1 h2=>by
    by_cases e:i=j
    · rw[e];exact O.rf _
    · exact P.sa i j (Nat.zero_le _) #v[] h2
  have leB:∀i j,i<=j->j < b.size->le (G b i) (G b j):=fun i j h1 h2=>by
    by_cases e:i=j
    · rw[e];exact O.rf _
    · exact P.sb i j (Nat.zero_le _) #v[] h2
  have pa:=P.a1;have pb:=P.b1;show wpS (model prog w) A E s (liftM (rule _) >>= _) Q st;refine wpS_bind (wpS_lift (wpAny_rule ⟨rfl,?_⟩));refine wpS_bind (zaq (show a.size - 1 < a.size by omega) ?_);have m0:MH le a b (#[G a (a.size - 1)]:Array Keyed).toList.reverse (a.size - 1) b.size:=by
    have:=MH.pushA' (out:=#[]) (na:=a.size) (nb:=b.size) (a:=a) (b:=b) P.sa ⟨by simp,.nil,fun x hx=>by simp at hx,fun x hx=>by simp at hx⟩ pa (Nat.le_refl _) P.ha;simpa using this
  dsimp only;by_cases e1:a.size - 1=0
  · rw [if_pos (by simpa using e1)]
    exact wpS_pure (h _ _ S (m0.done0 P.sb e1))
  rw[if_neg (by simpa using e1)];by_cases e2:b.size=1
  · rw [if_pos (by simpa using e2)]
    exact wpS_pure (h _ _ S (m0.first P.sa P.sb e2 P.h0))
  rw [if_neg (by simpa using e2)];refine wpS_bind (wpS_get ?_);refine wpS_bind (wpS_mono (wpS_forRange (I:=fun x c s2=>SG κ a₀ pd xs s2/\H5 (HX le a b x) c)
    (Q:=fun c s2=>SG κ a₀ pd xs s2/\Fi (fun r=>Fin le a b r.toList) c) ?os ?of ⟨S,.mk _ (a.size - 1) b.size _ ⟨m0,by omega,by omega,by omega,by omega,by omega⟩⟩) ?op)
  case of =>
    rintro c s2 ⟨_,out,na,nb,mg,b2,b3,b4,b5,b6,b7⟩;exfalso;omega
  case op =>
    rintro c s2 hC;refine aG fun G hG=>?_;obtain⟨b1,r,g,b2⟩:=hC;refine hG ?_;clear hG;clear G;exact wpS_pure (h _ _ b1 b2)
  case os =>
    rintro x c s2 _ hx hC;refine aG fun G hG=>?_;obtain ⟨S2,out,na,nb,mg,Z2⟩:=hC;refine hG ?_;clear hG;clear G;dsimp only;refine wpS_bind (wpS_mono (wpS_forRange (I:=fun y c s3=>s3=s2/\H6 (HX le a b x) c)
      (Q:=fun c s3=>s3=s2/\(Fi (fun r=>Fin le a b r.toList) c\/H6 (HX le a b x) c)) ?is1 ?if1 ⟨rfl,.mk out na nb 0 0 Z2⟩) ?ip1)
    case if1 =>
      rintro c s3 ⟨e3,z⟩;exact⟨e3,.inr z⟩
    case is1 =>
      rintro y c s3 _ hy hC;refine aG fun G hG=>?_;obtain⟨e3,out,na,nb,ac,bc,m3,c3,c4,c5,c6,c7⟩:=hC;refine hG ?_;clear hG;clear G;subst e3;dsimp only;refine wpS_bind (zaq #v[] (wpS_bind (zaq #v[] (wpS_bind (q_lt C S2 (P.mb _ #v[]) (P.ma _ #v[]) ?_)))));have bb:=P.bf (na - 1) (nb - 1) #v[] #v[];cases q:lt (G b (nb - 1)) (G a (na - 1)) with
      | true =>
        dsimp only;rw[if_pos rfl];refine wpS_bind (zaq #v[] ?_);have m4:=m3.pushA' P.sa c3 c5 fun j g=>O.tr (leB j (nb - 1) #v[] #v[]) (O.f2 q);by_cases e:na - 1=0
        · rw [if_pos (by simpa using e)]
          exact wpS_pure ⟨rfl,.inl (.mk _ _ (m4.done0 P.sb e))⟩
        · rw [if_neg (by simpa using e)]
          split
          · exact wpS_pure ⟨rfl,.inr (.mk _ _ _ _ _ ⟨m4,by omega,by omega,by omega,by omega,by omega⟩)⟩
          · exact wpS_pure ⟨rfl,.mk _ _ _ _ _ ⟨m4,by omega,by omega,by omega,by omega,by omega⟩⟩
      | false =>
        dsimp only;rw[if_neg #v[0,9]];refine wpS_bind (zaq #v[] ?_);have m4:=m3.pushB' P.sb #v[] c6 fun i g=>O.tr (leA i (na - 1) #v[] #v[]) ((O.f1 bb).mp q);by_cases e:nb - 1=1
        · rw [if_pos (by simpa using e)]
          exact wpS_pure ⟨rfl,.inl (.mk _ _ (m4.first P.sa P.sb e P.h0))⟩
        · rw [if_neg (by simpa using e)]
          split
          · exact wpS_pure ⟨rfl,.inr (.mk _ _ _ _ _ ⟨m4,by omega,by omega,by omega,by omega,by omega⟩)⟩
          · exact wpS_pure ⟨rfl,.mk _ _ _ _ _ ⟨m4,by omega,by omega,by omega,by omega,by omega⟩⟩
    case ip1 =>
      rintro c s3 ⟨e3,z⟩;subst e3;refine aG fun G hG=>?_;rcases z with ⟨r,g,f⟩ | ⟨out,na,nb,ac,bc,m3,c3,c4,c5,c6,c7⟩
      · refine hG ?_
        clear hG;clear G;exact wpS_pure ⟨S2,.mk _ _ f⟩
      · refine hG ?_
        clear hG;clear G;dsimp only;refine wpS_bind (wpS_lift (wpAny_rule ⟨rfl,?_⟩));refine wpS_bind (wpS_mono (wpS_forRange (I:=fun y c s4=>SG κ a₀ pd xs s4/\H7 (HX le a b (x+y)) c)
          (Q:=fun c s4=>SG κ a₀ pd xs s4/\(Fi (fun r=>Fin le a b r.toList) c\/H7 (HX le a b (x+1)) c)) ?gs ?gf ⟨S2,.mk out na nb _ ac bc ⟨m3,c3,c4,c5,c6,by omega⟩⟩) ?gp)
        case gf =>
          rintro c s4 ⟨S4,out,na,nb,mg,ac,bc,m4,d3,d4,d5,d6,d7⟩;exact⟨S4,.inr (.mk _ _ _ _ _ _ ⟨m4,d3,d4,d5,d6,by omega⟩)⟩
        case gp =>
          rintro c s4 ⟨S4,z⟩;refine aG fun G hG=>?_;rcases z with ⟨r,g,f⟩ | ⟨out,na,nb,mg,ac,bc,Z4⟩
          · refine hG ?_
            clear hG;clear G;exact wpS_pure ⟨S4,.mk _ _ f⟩
          · refine hG ?_
            clear hG;clear G;dsimp only;exact wpS_bind (zou S4 fun s5 S5=>wpS_pure ⟨S5,.mk _ _ _ _ Z4⟩)
        case gs =>
          rintro y c s4 _ hy hC;refine aG fun G hG=>?_;obtain⟨S4,out,na,nb,mg,ac,bc,m4,d3,d4,d5,d6,d7⟩:=hC;refine hG ?_;clear hG;clear G;simp (config:={ maxSteps:=10000000,failIfUnchanged:=false }) only [];refine zrd fun Q' hQ=>?_;generalize mg=mg
          revert mg
          refine q_eq (g:=fun mg=>mg - 1) (fun _=>rfl) fun mg=>?_;dsimp (config:={ failIfUnchanged:=false }) only;refine wpS_bind (zou S4 fun s5 S5=>wpS_bind (zaq (show nb - 1 < b.size by omega) (wpS_bind (zo0 (left:=false) (key:=G b (nb - 1)) (arr:=a) (base:=0) (n:=na) (hint:=na - 1) (B:=fun i=>!lt (G b (nb - 1)) (G a (0+i))) C S5.i.kind (P.mb _ #v[]) #v[] (fun i hi=>P.ma _ #v[]) (fun i hi=>rfl) (fun i j h1 h2 h3=>?mono1) #v[] fun k k1 k2 k3=>?_))))
          case mono1 =>
            have h3' : lt (G b (nb - 1)) (G a (0+j))=false:=by simpa using h3
            have l1:=(O.f1 (P.bf (0+j) (nb - 1) #v[] #v[])).mp h3';have l2:=(O.f1 (P.bf (0+i) (nb - 1) #v[] #v[])).mpr (O.tr (leA _ _ #v[] #v[]) l1);show (!lt (G b (nb - 1)) (G a (0+i)))=true;rw[l2];rfl
          have w1:∀i,i < k->le (G a i) (G b (nb - 1)):=fun i g1=>by
            have:=k2 i g1;rw[Nat.zero_add] at this;exact (O.f1 (P.bf i (nb - 1) #v[] #v[])).mp (by simpa using this)
          have w2:∀i,k<=i->i < na->le (G b (nb - 1)) (G a i):=fun i g1 g2=>by
            have:=k3 i #v[] #v[];rw[Nat.zero_add] at this;exact O.f2 (by simpa using this)
          have m5:=m4.appA' P.sa k1 d5 fun i g1 g2 j g3=>O.tr (leB j (nb - 1) #v[] #v[]) (w2 i g1 g2);dsimp (config:={ failIfUnchanged:=false }) only;generalize hac:na - k=ac1 at m5 ⊢;generalize eou:out=out'
          revert out'
          generalize ena:na=na'
          revert na'
          refine zwp (fun na1 out1=>MH le a b out1.toList.reverse na1 nb/\(∀i,i < na1->le (G a i) (G b (nb - 1)))/\(1<=na1/\na1<=a.size)/\x+y+na1+nb<=a.size+b.size) (fun hk0=>?_) (fun hc H=>?_) fun na1 out1 ⟨n5,u1,b8,p6⟩=>?_
          · have k0 : k = na := by omega
            exact⟨m4,k0 ▸ w1,by omega,by omega⟩
          · refine q_if (fun e1 => ?_) fun e1 => ?_
            · have e1 : k = 0 := by simpa using e1
              exact wpS_pure (hQ _ _ ⟨S5,.inl (.mk _ _ (m5.done0 P.sb e1))⟩)
            have e1:¬ k=0:=by simpa using e1
            exact H _ _ ⟨m5,w1,by omega,by omega⟩
          clear m5 m4 w2 w1 k3 k2 k1 hac;dsimp (config:={ failIfUnchanged:=false }) only;refine wpS_bind (zaq #v[] ?_);have m6:=n5.pushB' P.sb #v[] d6 u1;refine q_if (fun e3=>?_) fun e3=>?_
          · have e3 : nb - 1 = 1 := by simpa using e3
            exact wpS_pure (hQ _ _ ⟨S5,.inl (.mk _ _ (m6.first P.sa P.sb e3 P.h0))⟩)
          have e3:¬ nb - 1=1:=by simpa using e3
          refine wpS_bind (zaq (show na1 - 1 < a.size by omega) (wpS_bind (zo0 (left:=true) (key:=G a (na1 - 1)) (arr:=b) (base:=0) (n:=nb - 1) (hint:=nb - 1 - 1) (B:=fun j=>lt (G b (0+j)) (G a (na1 - 1))) C S5.i.kind (P.ma _ #v[]) #v[] (fun j hj=>P.mb _ #v[]) (fun j hj=>rfl) (fun i j h1 h2 h3=>?mono2) #v[] fun l l1 l2 l3=>?_)))
          case mono2 =>
            have n1:=O.f3 (P.bf (na1 - 1) (0+j) #v[] #v[]) h3;cases q:lt (G b (0+i)) (G a (na1 - 1)) with
            | true=>rfl
            | false=>exact absurd (O.tr ((O.f1 (P.bf (na1 - 1) (0+i) #v[] #v[])).mp q) (leB _ _ #v[] #v[])) n1
          have v1:∀j,j < l->le (G b j) (G a (na1 - 1)):=fun j g1=>by
            have:=l2 j g1;rw[Nat.zero_add] at this;exact O.f2 this
          have v2:∀j,l<=j->j < nb - 1->le (G a (na1 - 1)) (G b j):=fun j g1 g2=>by
            have:=l3 j #v[] #v[];rw[Nat.zero_add] at this;exact (O.f1 (P.bf (na1 - 1) j #v[] #v[])).mp this
          have m7:=m6.appB' P.sb l1 #v[] fun j g1 g2 i g3=>O.tr (leA i (na1 - 1) #v[] #v[]) (v2 j g1 g2);dsimp (config:={ failIfUnchanged:=false }) only;generalize hbc:nb - 1 - l=bc1 at m7 ⊢;generalize hnb:nb - 1=nb1 at hbc m7 m6 ⊢;generalize hout:out1.push (G b nb1)=out2 at m7 m6 ⊢;generalize eou:out2=out'
          revert out'
          generalize ena:nb1=na'
          revert na'
          refine zwp (fun nb2 out2=>MH le a b out2.toList.reverse na1 nb2/\(∀j,j < nb2->le (G b j) (G a (na1 - 1)))/\(2<=nb2/\nb2<=b.size)/\x+y+1+na1+nb2<=a.size+b.size) (fun hl0=>?_) (fun hc H=>?_) fun nb2 out3 ⟨n7,u2,b7,p7⟩=>?_
          · have k0 : l = nb1 := by omega
            exact⟨m6,k0 ▸ v1,by omega,by omega⟩
          · refine q_if (fun e4 => ?_) fun e4 => ?_
            · have e4 : l = 1 := by simpa using e4
              exact wpS_pure (hQ _ _ ⟨S5,.inl (.mk _ _ (m7.first P.sa P.sb e4 P.h0))⟩)
            have e4:¬ l=1:=by simpa using e4
            refine q_if (fun e6=>?_) fun e6=>?_
            · have e6 : l = 0 := by simpa using e6
              exact wpS_pure (hQ _ _ ⟨S5,.inl (.mk _ _ (m7.done1 P.sa e6))⟩)
            have e6:¬ l=0:=by simpa using e6
            exact H _ _ ⟨m7,v1,by omega,by omega⟩
          dsimp (config:={ failIfUnchanged:=false }) only;refine wpS_bind (zaq #v[] ?_);have m8:=n7.pushA' P.sa b8.1 b8.2 u2;refine q_if (fun e5=>?_) fun e5=>?_
          · have e5 : na1 - 1 = 0 := by simpa using e5
            exact wpS_pure (hQ _ _ ⟨S5,.inl (.mk _ _ (m8.done0 P.sb e5))⟩)
          have e5:¬ na1 - 1=0:=by simpa using e5
          refine q_if (fun _=>?_) fun _=>?_
          · exact wpS_pure (hQ _ _ ⟨S5,.inr (.mk _ _ _ _ _ _ ⟨m8,by omega,by omega,by omega,by omega,by omega⟩)⟩)
          · exact wpS_pure (hQ _ _ ⟨S5,.mk _ _ _ _ _ _ ⟨m8,by omega,by omega,by omega,by omega,by omega⟩⟩)
end
end Tim
namespace Tim
noncomputable def wr (xs:Array Keyed) (s0:Nat) (l:List Keyed) (m:Nat):Array Keyed:=(l.zipIdx m).foldl (fun a (x:Keyed × Nat)=>match x with | (p,j)=>a.setIfInBounds (s0+j) p) xs
theorem zsw (xs:Array Keyed)(s0:Nat)(p:Keyed)(l:List Keyed)(m:Nat):wr xs s0 (p::l) m=wr (xs.setIfInBounds (s0+m) p) s0 l (m+1):=by unfold wr;rw[List.zipIdx_cons,List.foldl_cons]
theorem zsx (s0:Nat):∀(l:List Keyed) (m:Nat) (xs:Array Keyed),(wr xs s0 l m).size=xs.size
 | [],m,xs=>rfl
 | p::l,m,xs=>by rw[zsw,zsx s0 l,Array.size_setIfInBounds]
theorem z6t {xs:Array Keyed}{i k:Nat}{p:Keyed}(h:i < xs.size):G (xs.setIfInBounds i p) k=if i=k then p else G xs k:=by
 unfold G;rw[Array.getElem?_setIfInBounds];split
 ·rename_i e;subst e
  first | rfl | (rw[if_pos h];rfl)
 ·rfl
theorem G_wr (s0:Nat):∀(l:List Keyed) (m:Nat) (xs:Array Keyed),s0+m+l.length<=xs.size->∀i,G (wr xs s0 l m) i=if s0+m<=i/\i < s0+m+l.length then (l[i - (s0+m)]?).getD d0 else G xs i
  | [],m,xs,h,i=>by rw[if_neg (by simp)];rfl
  | p::l,m,xs,h,i=>by
    rw[List.length_cons] at h;rw[zsw,G_wr s0 l (m+1) _ (by rw[Array.size_setIfInBounds];omega),z6t #v[]];rw[List.length_cons];by_cases c:i=s0+m
    · subst c
      rw[if_neg #v[],if_pos rfl,if_pos ⟨by omega,by omega⟩,Nat.sub_self]
      rfl
    · by_cases c2 : s0 + m ≤ i /\ i < s0 + m + (l.length + 1)
      · rw[if_pos ⟨by omega,by omega⟩,if_pos c2,show i - (s0+m)=i - (s0+(m+1))+1 by omega,List.getElem?_cons_succ]
      · rw[if_neg #v[],if_neg #v[],if_neg c2]
theorem znk {xs:Array Keyed}{i:Nat}(h:i < xs.size):G xs i=xs[i]:=by unfold G;rw[getElem?_pos xs i h];rfl
theorem znq {xs:Array Keyed}{i j k:Nat}(hj:j<=xs.size)(hk:i+k < j):G (xs.extract i j) k=G xs (i+k):=by
 have h:k < (xs.extract i j).size:=by rw[Array.size_extract];omega
 rw[znk h,Array.getElem_extract,znk #v[]]
theorem zds {xs:Array Keyed}{i j:Nat}(hj:j<=xs.size):(xs.extract i j).size=j - i:=by rw[Array.size_extract];omega
theorem z7o {xs:Array Keyed}{s0 m e:Nat}{r:List Keyed}(h1:s0<=m)(h2:m<=e)(h3:e<=xs.size)(p:r.Perm ((xs.extract s0 m).toList++(xs.extract m e).toList)):Re xs (wr xs s0 r 0) s0 e/\r.length=e - s0:=by
 have hl:r.length=e - s0:=by
  rw[p.length_eq,List.length_append,Array.length_toList,Array.length_toList,zds #v[],zds h3];omega
 have hg:=G_wr s0 r 0 xs #v[];refine⟨⟨?_,fun i hi=>?_,fun i g1 g2=>?_⟩,hl⟩
 ·have e1:(wr xs s0 r 0).toList=xs.toList.take s0++r++xs.toList.drop e:=by
   apply List.ext_getElem?;intro i;have sz:(wr xs s0 r 0).size=xs.size:=zsx _ _ _ _;by_cases hi:i < xs.size
   ·have a1 : (wr xs s0 r 0).toList[i]? = some (G (wr xs s0 r 0) i) := G_list #v[];rw[a1,hg i];by_cases c1:i < s0
    ·rw[if_neg #v[],List.append_assoc,List.getElem?_append_left (by simp;omega),List.getElem?_take_of_lt c1,G_list hi]
    ·by_cases c2 : i < e
     ·rw[if_pos ⟨by omega, by omega⟩, List.append_assoc, List.getElem?_append_right (by simp; omega), List.getElem?_append_left (by simp; omega)];have:(List.take s0 xs.toList).length=s0:=by simp;omega
      rw[this,Nat.add_zero,List.getElem?_eq_getElem #v[]]
      rfl
     ·rw[if_neg #v[], List.getElem?_append_right (by simp; omega), List.getElem?_drop];have:(List.take s0 xs.toList++r).length=e:=by simp;omega
      rw[this,show e+(i - e)=i by omega,G_list hi]
   ·rw[List.getElem?_eq_none (by simp;omega),List.getElem?_eq_none (by simp;omega)]
  have e2:xs.toList=xs.toList.take s0++((xs.extract s0 m).toList++(xs.extract m e).toList)++xs.toList.drop e:=by
   rw[zck,zck];have t1:(xs.toList.drop s0).take (m - s0)++(xs.toList.drop m).take (e - m)=(xs.toList.drop s0).take (e - s0):=by
    rw[show e - s0=(m - s0)+(e - m) by omega,List.take_add,List.drop_drop,show s0+(m - s0)=m by omega]
   rw[t1,List.append_assoc];have t2:(xs.toList.drop s0).take (e - s0)++xs.toList.drop e=xs.toList.drop s0:=by
    have:=List.take_append_drop (e - s0) (xs.toList.drop s0);rw[List.drop_drop,show s0+(e - s0)=e by omega] at this;exact this
   rw[t2,List.take_append_drop]
  refine Array.perm_iff_toList_perm.mpr ?_;rw[e1];have q:=(p.append_left (xs.toList.take s0)).append_right (xs.toList.drop e);rw[<-e2] at q;exact q
 ·rw[hg i,if_neg #v[]]
 ·rw[hg i, if_pos ⟨by omega, by omega⟩, List.getElem?_eq_getElem #v[]];have hm:=p.mem_iff.mp (List.getElem_mem (l:=r) (n:=i - (s0+0)) #v[]);show ∃j,s0<=j/\j < e/\r[i - (s0+0)]=G xs j;rcases List.mem_append.mp hm with z | z
  ·obtain⟨k, k1, k2, k3⟩ := mem_drop (n := 0) (by rw[List.drop_zero]; exact z);rw[zds #v[]] at k2;exact⟨s0+k,by omega,by omega,by rw[k3,znq #v[] #v[]]⟩
  ·obtain⟨k, k1, k2, k3⟩ := mem_drop (n := 0) (by rw[List.drop_zero]; exact z);rw[zds h3] at k2;exact⟨m+k,by omega,by omega,by rw[k3,znq h3 #v[]]⟩
section
variable (bf le:Keyed->Keyed->Prop)
noncomputable def Chain (xs:Array Keyed):Nat->List (Nat × Nat × Nat)->Nat->Prop
 | c,[],hi=>c=hi
 | c,(s0,n,_)::r,hi=>s0=c/\1<=n/\Srt le xs c (c+n)/\Cut bf xs c/\Chain xs (c+n) r hi
end
section
variable {bf le:Keyed->Keyed->Prop}{xs ys:Array Keyed}
theorem Chain.len:∀{l:List (Nat × Nat × Nat)}{c hi:Nat},Chain bf le xs c l hi->c+l.length<=hi
  | [],c,hi,h=>by cases h;simp
  | (s0,n,_)::r,c,hi,h=>by
    have:=Chain.len h.2.2.2.2;have:=h.2.1;rw[List.length_cons];omega
theorem Chain.app:∀{l l' : List (Nat × Nat × Nat)}{c hi:Nat},Chain bf le xs c (l++l') hi↔∃m,Chain bf le xs c l m/\Chain bf le xs m l' hi
 | [],l',c,hi=>⟨fun h=>⟨c,rfl,h⟩,fun ⟨m,e,h⟩=>by cases e;exact h⟩
 | (s0,n,_)::r,l',c,hi=>⟨fun ⟨a1,a2,a3,a4,a5⟩=>by
   obtain⟨m,b1,b2⟩:=Chain.app.mp a5;exact⟨m,⟨a1,a2,a3,a4,b1⟩,b2⟩,fun ⟨m,⟨a1,a2,a3,a4,b1⟩,b2⟩=>⟨a1,a2,a3,a4,Chain.app.mpr ⟨m,b1,b2⟩⟩⟩
theorem Chain.re:∀{l:List (Nat × Nat × Nat)}{c hi lo' hi' : Nat},Chain bf le xs c l hi->Re xs ys lo' hi'->hi'<=xs.size->(hi<=lo'\/hi'<=c)->Chain bf le ys c l hi
  | [],c,hi,lo',hi',h,_,_,_=>h
  | (s0,n,q)::r,c,hi,lo',hi',⟨a1,a2,a3,a4,a5⟩,R,hz,hc=>by
    have:=Chain.len a5;exact⟨a1,a2,a3.re R #v[],a4.re R hz #v[],Chain.re a5 R hz #v[]⟩
end
section
variable {prog:Program}{w:World}{A:Around}{E:Value->Shared->Prop}{s:Shared}{κ:SortKind}{a₀:Array Keyed}{lt:Keyed->Keyed->Bool}{bf le:Keyed->Keyed->Prop}{st:SortSt}{pd:Array (Nat × Nat × Nat)}
theorem z68 {st' : SortSt}{Q:PUnit->SortSt->Prop}(h:Q ⟨⟩ st'):wpS (model prog w) A E s (set st' : StateT SortSt Sem PUnit) Q st:=by
 unfold wpS;rw[StateT.run_set];exact wpAny_pure ⟨rfl,h⟩
theorem z4w {st' : SortSt}{P:SortSt->Prop}{Q:PUnit->SortSt->Prop}(hp:P st')(h:∀st1,P st1->Q ⟨⟩ st1):wpS (model prog w) A E s (set st' : StateT SortSt Sem PUnit) Q st:=z68 (h _ hp)
theorem z4l {l:List (Nat × Nat × Nat)}{i:Nat}(h:i+1 < l.length):l=l.take i++l[i]::l[i+1]::l.drop (i+2):=by
 have e1:=List.drop_eq_getElem_cons (l:=l) (i:=i) #v[];have e2:=List.drop_eq_getElem_cons (l:=l) (i:=i+1) #v[];have:=List.take_append_drop i l;rw[e1,e2] at this;exact this.symm
theorem zj3 (C:Asks prog w A E s κ a₀ lt) (O:Ord lt bf le) {i lo:Nat}{Q:Bool->SortSt->Prop} (I:SI κ a₀ pd st) (hi:i+1 < pd.size) (ch:Chain bf le (arrOf st) 0 pd.toList lo) (hlo:lo<=a₀.size)
  (h:∀st' pd',SI κ a₀ pd' st'->pd'.size+1=pd.size->Chain bf le (arrOf st') 0 pd'.toList lo->Re (arrOf st) (arrOf st') 0 lo->Q true st'):wpS (model prog w) A E s (mergeAt' i) Q st:=by
 have sz:=I.size;have hil:i+1 < pd.toList.length:=by simpa using hi
 have es:=z4l hil;obtain⟨⟨sa,na,pw⟩,ea⟩ : ∃t,pd.toList[i]=t:=⟨_,rfl⟩;obtain⟨⟨sb,nb,pw'⟩,eb⟩ : ∃t,pd.toList[i+1]=t:=⟨_,rfl⟩;rw[ea,eb] at es;have ch0:=ch;rw[es] at ch;obtain⟨m,c1,⟨e1,a2,a3,a4,⟨e2,b2,b3,b4,c2⟩⟩⟩:=Chain.app.mp ch;subst e1;subst e2;have l2:=Chain.len c2;have l1:=Chain.len c1;have np:∃pd' : Array (Nat × Nat × Nat),pd'=(pd.setIfInBounds i (sa,na+nb,pw)).eraseIdxIfInBounds (i+1)/\pd'.size+1=pd.size/\pd'.toList=pd.toList.take i++(sa,na+nb,pw)::pd.toList.drop (i+2):=by
  refine (fun (q:((pd.setIfInBounds i (sa,na+nb,pw)).eraseIdxIfInBounds (i+1)).toList=_)=>⟨_,rfl,by
   have q2:=congrArg List.length q;rw[Array.length_toList,List.length_append,List.length_cons,List.length_take,List.length_drop,Array.length_toList] at q2;omega,q⟩) ?_
  ·rw [Array.toList_eraseIdxIfInBounds, Array.toList_setIfInBounds];have:(pd.toList.set i (sa,na+nb,pw))=pd.toList.take i++(sa,na+nb,pw)::(sa+na,nb,pw')::pd.toList.drop (i+2):=by
    rw[List.set_eq_take_append_cons_drop,if_pos #v[],List.drop_eq_getElem_cons hil,eb]
   rw[this];have l3:(pd.toList.take i).length=i:=by rw[List.length_take];omega
   rw[List.eraseIdx_append_of_length_le #v[],l3,show i+1 - i=1 by omega]
   rfl
 obtain⟨pd',epd,zpd,lpd⟩:=np;have fin:∀st',kindOf st'=κ->failedOf st'=none->pendingOf st'=pd'->Re (arrOf st) (arrOf st') sa (sa+na+nb)->Srt le (arrOf st') sa (sa+na+nb)->Q true st':=fun st' k1 k2 k3 R S=>by
  refine h st' pd' ⟨k1,k2,R.perm.trans I.perm,k3⟩ zpd ?_ (R.mono #v[] #v[]);rw[lpd];refine Chain.app.mpr ⟨sa,c1.re R #v[] (.inl (Nat.le_refl _)),rfl,by omega,?_,a4.re R #v[] (.inl (Nat.le_refl _)),?_⟩
  ·rw[<-Nat.add_assoc];exact S
  ·rw[<-Nat.add_assoc];exact c2.re R #v[] (.inr (Nat.le_refl _))
 have leX:∀i j,sa<=i->i<=j->j < sa+na->le (G (arrOf st) i) (G (arrOf st) j):=fun i j h1 h2 h3=>by
  by_cases e:i=j
  ·rw[e];exact O.rf _
  ·exact a3 i j h1 #v[] h3
 have leY:∀i j,sa+na<=i->i<=j->j < sa+na+nb->le (G (arrOf st) i) (G (arrOf st) j):=fun i j h1 h2 h3=>by
  by_cases e:i=j
  ·rw[e];exact O.rf _
  ·exact b3 i j h1 #v[] h3
 have bfs:∀i j,i < sa+na->sa+na<=j->j < sa+na+nb->bf (G (arrOf st) i) (G (arrOf st) j):=fun i j h1 h2 h3=>b4 i j h1 h2 #v[];have mem:∀i,i < a₀.size->G (arrOf st) i∈a₀.toList:=fun i hi=>z05 I.perm #v[];show wpS (model prog w) A E s (get >>= _) Q st;refine wpS_bind (wpS_get ?_);have g1:(pendingOf st)[i]?=some (sa,na,pw):=by
  rw[I.pend,<-Array.getElem?_toList,List.getElem?_eq_getElem #v[],ea]
 have g2:(pendingOf st)[i+1]?=some (sa+na,nb,pw'):=by
  rw[I.pend,<-Array.getElem?_toList,List.getElem?_eq_getElem hil,eb]
 dsimp only;rw[g1,g2];refine wpS_bind (z4w (P:=SG κ a₀ pd' (arrOf st)) ⟨⟨I.kind,I.failed,I.perm,by have q:=I.pend;subst epd;subst q;rfl⟩,rfl⟩ fun st1 S1=>?_);refine wpS_bind (zaq (show sa+na < (arrOf st).size by omega) (wpS_bind (zo0 (left:=false) (key:=G (arrOf st) (sa+na)) (arr:=arrOf st) (base:=sa) (n:=na) (hint:=0) (B:=fun i=>!lt (G (arrOf st) (sa+na)) (G (arrOf st) (sa+i))) C S1.i.kind (mem _ #v[]) #v[] (fun i hi=>mem _ #v[]) (fun i hi=>rfl) (fun i j h1 h2 h3=>?mono1) #v[] fun k k1 k2 k3=>?_)))
 case mono1 =>
  have h3' : lt (G (arrOf st) (sa+na)) (G (arrOf st) (sa+j))=false:=by simpa using h3
  have z1:=(O.f1 (bfs (sa+j) (sa+na) #v[] #v[] #v[])).mp h3';have z2:=(O.f1 (bfs (sa+i) (sa+na) #v[] #v[] #v[])).mpr (O.tr (leX _ _ #v[] #v[] #v[]) z1);show (!lt (G (arrOf st) (sa+na)) (G (arrOf st) (sa+i)))=true;rw[z2];rfl
 have w1:∀i,sa<=i->i < sa+k->le (G (arrOf st) i) (G (arrOf st) (sa+na)):=fun i g1 g2=>by
  have:=k2 (i - sa) #v[];rw[show sa+(i - sa)=i by omega] at this;exact (O.f1 (bfs i (sa+na) #v[] #v[] #v[])).mp (by simpa using this)
 have w2:∀i,sa+k<=i->i < sa+na->le (G (arrOf st) (sa+na)) (G (arrOf st) i):=fun i g1 g2=>by
  have:=k3 (i - sa) #v[] #v[];rw[show sa+(i - sa)=i by omega] at this;exact O.f2 (by simpa using this)
 refine q_if (fun q1=>?_) fun q1=>?_
 ·have q1 : na - k = 0 := by simpa using q1
  refine wpS_pure (fin _ S1.i.kind S1.i.failed S1.i.pend (by rw[S1.e];exact .refl _ _ _) ?_);rw[S1.e];intro i j h1 h2 h3;by_cases c1:j < sa+na
  ·exact a3 i j h1 h2 c1
  ·by_cases c2 : i < sa + na
   ·exact O.tr (w1 i h1 #v[]) (leY _ _ (Nat.le_refl _) #v[] h3)
   ·exact b3 i j #v[] h2 h3
 have q1:¬ na - k=0:=by simpa using q1
 have e3:sa+k+(na - k) - 1=sa+na - 1:=by omega
 refine wpS_bind (zaq (show sa+k+(na - k) - 1 < (arrOf st).size by omega) (wpS_bind (zo0 (left:=true) (key:=G (arrOf st) (sa+k+(na - k) - 1)) (arr:=arrOf st) (base:=sa+na) (n:=nb) (hint:=nb - 1) (B:=fun i=>lt (G (arrOf st) (sa+na+i)) (G (arrOf st) (sa+k+(na - k) - 1))) C S1.i.kind (mem _ #v[]) #v[] (fun i hi=>mem _ #v[]) (fun i hi=>rfl) (fun i j h1 h2 h3=>?mono2) #v[] fun l l1 l2 l3=>?_)))
 case mono2 =>
  have n1:=O.f3 (bfs (sa+k+(na - k) - 1) (sa+na+j) #v[] #v[] #v[]) h3;cases q:lt (G (arrOf st) (sa+na+i)) (G (arrOf st) (sa+k+(na - k) - 1)) with
  | true=>rfl
  | false=>exact absurd (O.tr ((O.f1 (bfs _ (sa+na+i) #v[] #v[] #v[])).mp q) (leY _ _ #v[] #v[] #v[])) n1
 rw[e3] at l2 l3;have v1:∀j,sa+na<=j->j < sa+na+l->le (G (arrOf st) j) (G (arrOf st) (sa+na - 1)):=fun j g1 g2=>by
  have:=l2 (j - (sa+na)) #v[];rw[show sa+na+(j - (sa+na))=j by omega] at this;exact O.f2 this
 have v2:∀j,sa+na+l<=j->j < sa+na+nb->le (G (arrOf st) (sa+na - 1)) (G (arrOf st) j):=fun j g1 g2=>by
  have:=l3 (j - (sa+na)) #v[] #v[];rw[show sa+na+(j - (sa+na))=j by omega] at this;exact (O.f1 (bfs _ j #v[] #v[] g2)).mp this
 refine q_if (fun q2=>?_) fun q2=>?_
 ·have q2 : l = 0 := by simpa using q2
  refine wpS_pure (fin _ S1.i.kind S1.i.failed S1.i.pend (by rw[S1.e];exact .refl _ _ _) ?_);rw[S1.e];intro i j h1 h2 h3;by_cases c1:j < sa+na
  ·exact a3 i j h1 h2 c1
  ·by_cases c2 : i < sa + na
   ·exact O.tr (leX i (sa+na - 1) h1 #v[] #v[]) (v2 j #v[] h3)
   ·exact b3 i j #v[] h2 h3
 have q2:¬ l=0:=by simpa using q2
 have sx:((arrOf st).extract (sa+k) (sa+na)).size=na - k:=by rw[zds #v[]];omega
 have sy:((arrOf st).extract (sa+na) (sa+na+l)).size=l:=by rw[zds #v[]];omega
 have gx:∀i,i < na - k->G ((arrOf st).extract (sa+k) (sa+na)) i=G (arrOf st) (sa+k+i):=fun i hi=>znq #v[] #v[];have gy:∀i,i < l->G ((arrOf st).extract (sa+na) (sa+na+l)) i=G (arrOf st) (sa+na+i):=fun i hi=>znq #v[] #v[];have P:MP lt bf le a₀ ((arrOf st).extract (sa+k) (sa+na)) ((arrOf st).extract (sa+na) (sa+na+l)):=by
  refine⟨?_,?_,?_,?_,?_,?_,?_,?_,?_⟩
  ·intro i j h1 h2 h3;rw[sx] at h3;rw[gx i #v[],gx j h3];exact a3 _ _ #v[] #v[] #v[]
  ·intro i j h1 h2 h3;rw[sy] at h3;rw[gy i #v[],gy j h3];exact b3 _ _ #v[] #v[] #v[]
  ·intro i hi;rw[sx] at hi;rw[gx i hi];exact mem _ #v[]
  ·intro i hi;rw[sy] at hi;rw[gy i hi];exact mem _ #v[]
  ·intro i j hi hj;rw[sx] at hi;rw[sy] at hj;rw[gx i hi,gy j hj];exact bfs _ _ #v[] #v[] #v[]
  ·rw[sx];omega
  ·rw[sy];omega
  ·intro i hi;rw[sx] at hi;rw[gx i hi,gy 0 #v[]];exact w2 _ #v[] #v[]
  ·intro j hj;rw[sy] at hj;rw[gy j hj,sx,gx _ #v[],show sa+k+(na - k - 1)=sa+na - 1 by omega];exact v1 _ #v[] #v[]
 have close:∀(r:Array Keyed) (st2:SortSt),SG κ a₀ pd' (arrOf st) st2->Fin le ((arrOf st).extract (sa+k) (sa+na)) ((arrOf st).extract (sa+na) (sa+na+l)) r.toList ->
   Q true (setArr st2 (wr (arrOf st2) (sa+k) r.toList 0)):=fun r st2 S2 F=>by
  obtain⟨R,hl⟩:=z7o (xs:=arrOf st) (s0:=sa+k) (m:=sa+na) (e:=sa+na+l) #v[] #v[] #v[] F.p;have hg:=G_wr (sa+k) r.toList 0 (arrOf st) #v[];refine fin _ S2.i.kind S2.i.failed S2.i.pend ?_ ?_
  ·show Re (arrOf st) (wr (arrOf st2) (sa + k) r.toList 0) sa (sa + na + nb);rw[S2.e];exact R.mono #v[] #v[]
  ·show Srt le (wr (arrOf st2) (sa + k) r.toList 0) sa (sa + na + nb);rw[S2.e];have inm:∀i,sa+k<=i->i < sa+na+l->(∃j,sa+k<=j/\j < sa+na+l/\G (wr (arrOf st) (sa+k) r.toList 0) i=G (arrOf st) j):=fun i h1 h2=>R.inn i h1 h2;intro i j h1 h2 h3;by_cases ci:i < sa+k
   ·rw[R.out i (.inl ci)];by_cases cj:j < sa+k
    ·rw[R.out j (.inl cj)];exact a3 i j h1 h2 #v[]
    ·have below:∀z,sa+k<=z->z < sa+na+nb->le (G (arrOf st) i) (G (arrOf st) z):=fun z z1 z2=>by
      by_cases c:z < sa+na
      ·exact leX i z h1 #v[] c
      ·exact O.tr (w1 i h1 ci) (leY _ _ (Nat.le_refl _) #v[] z2)
     by_cases cj2:j < sa+na+l
     ·obtain⟨z, z1, z2, z3⟩ := inm j #v[] cj2;rw[z3];exact below z z1 #v[]
     ·rw[R.out j (.inr #v[])];exact below j #v[] h3
   ·by_cases ci2 : i < sa + na + l
    ·by_cases cj2 : j < sa + na + l
     ·rw[hg i, hg j, if_pos ⟨by omega, by omega⟩, if_pos ⟨by omega, by omega⟩, List.getElem?_eq_getElem #v[], List.getElem?_eq_getElem #v[]];exact (List.pairwise_iff_getElem.mp F.s) _ _ _ _ #v[]
     ·rw[R.out j (.inr #v[])];obtain⟨z,z1,z2,z3⟩:=inm i #v[] ci2;rw[z3];by_cases c:z < sa+na
      ·exact O.tr (leX z (sa+na - 1) #v[] #v[] #v[]) (v2 j #v[] h3)
      ·exact leY z j #v[] #v[] h3
    ·rw[R.out i (.inr #v[]), R.out j (.inr #v[])];exact b3 i j #v[] h2 h3
 have en:∀(r:Array Keyed) (st2:SortSt),SG κ a₀ pd' (arrOf st) st2->Fin le ((arrOf st).extract (sa+k) (sa+na)) ((arrOf st).extract (sa+na) (sa+na+l)) r.toList ->
   Q ((failedOf (setArr st2 (wr (arrOf st2) (sa+k) r.toList 0))).isNone) (setArr st2 (wr (arrOf st2) (sa+k) r.toList 0)):=fun r st2 S2 F=>by
  have e:failedOf (setArr st2 (wr (arrOf st2) (sa+k) r.toList 0))=none:=S2.i.failed;rw[e];exact close r st2 S2 F
 refine q_if (fun _=>?_) fun _=>?_
 ·exact wpS_bind (z6q C O S1 P fun r st2 S2 F=>wpS_bind (wpS_modify (wpS_bind (wpS_get (wpS_pure (en r st2 S2 F))))))
 ·exact wpS_bind (z62 C O S1 P fun r st2 S2 F=>wpS_bind (wpS_modify (wpS_bind (wpS_get (wpS_pure (en r st2 S2 F))))))
end
end Tim
namespace Tim
section
variable {prog:Program}{w:World}{A:Around}{E:Value->Shared->Prop}{s:Shared}{κ:SortKind}{a₀:Array Keyed}{lt:Keyed->Keyed->Bool}{bf le:Keyed->Keyed->Prop}{st:SortSt}{pd:Array (Nat × Nat × Nat)}
structure SP (κ:SortKind) (bf le:Keyed->Keyed->Prop) (a₀:Array Keyed) (lo:Nat) (st:SortSt):Prop where
 kind:kindOf st=κ
 failed:failedOf st=none
 perm:(arrOf st).Perm a₀
 ch:Chain bf le (arrOf st) 0 (pendingOf st).toList lo
 cut:∀c,lo<=c->Cut bf (arrOf st) c
theorem SP.si {lo:Nat}(h:SP κ bf le a₀ lo st):SI κ a₀ (pendingOf st) st:=⟨h.kind,h.failed,h.perm,rfl⟩
theorem zit:∀{l:List (Nat × Nat × Nat)}{i c hi pw:Nat}{xs:Array Keyed},Chain bf le xs c l hi->Chain bf le xs c (l.modify i fun x=>match x with | (a,b,_)=>(a,b,pw)) hi
 | [],i,c,hi,pw,xs,h=>by cases i<;>exact h
 | (s0,n,q)::r,0,c,hi,pw,xs,h=>h
 | (s0,n,q)::r,i+1,c,hi,pw,xs,⟨a1,a2,a3,a4,a5⟩=>⟨a1,a2,a3,a4,zit a5⟩
theorem zq1 {f:SortSt->SortSt}{P:SortSt->Prop}{Q:PUnit->SortSt->Prop}(hp:P (f st))(h:∀st1,P st1->Q ⟨⟩ st1):wpS (model prog w) A E s (modify f:StateT SortSt Sem PUnit) Q st:=wpS_modify (h _ hp)
theorem q_sort (C:Asks prog w A E s κ a₀ lt) (O:Ord lt bf le) {Q:Unit->SortSt->Prop} (I:SI κ a₀ #[] st) (ea:arrOf st=a₀) (hb:∀c,Cut bf a₀ c)
    (h:∀st',failedOf st'=none->(arrOf st').Perm a₀->Srt le (arrOf st') 0 a₀.size->Q () st'):wpS (model prog w) A E s sortRuns' Q st:=by
  rw [sortRuns'_eq];refine wpS_bind (wpS_get ?_);have sz:=I.size;rw [sz];dsimp only;have P0:SP κ bf le a₀ 0 st:=⟨I.kind,I.failed,I.perm,by rw [I.pend];rfl,fun c _=>by rw [ea];exact hb c⟩;refine wpS_bind (wpS_mono (wpS_forRange (I:=fun x c s2=>∃lo,c=(none,lo)/\x<=lo/\lo<=a₀.size/\SP κ bf le a₀ lo s2)
    (Q:=fun c s2=>c=(none,a₀.size)/\SP κ bf le a₀ a₀.size s2) ?os ?of ⟨0,rfl,by omega,by omega,P0⟩) ?op)
  case of =>
    rintro c s2 ⟨lo,rfl,h1,h2,P⟩;have e:lo=a₀.size:=by omega
    subst e;exact⟨rfl,P⟩
  case os =>
    rintro x c s2 _ hx ⟨lo,rfl,h1,h2,P⟩;refine q_if (fun g=>?_) fun g=>?_
    · have e : lo = a₀.size := by omega
      subst e;exact wpS_pure ⟨rfl,P⟩
    have g:lo < a₀.size:=by omega
    refine wpS_bind (z1u C O P.si (show lo+(a₀.size - lo)<=a₀.size by omega) #v[] P.cut fun n s3 I3 n1 n2 R3 S3=>?_);have z3:=I3.size;have z2:=P.si.size;have c3:∀c,lo+n<=c->Cut bf (arrOf s3) c:=fun c hc=>(P.cut c #v[]).re R3 #v[] (.inr hc);dsimp only;refine q_if (fun g2=>?_) fun g2=>?_;refine wpS_bind (wpS_lift (wpAny_rule ⟨rfl,?_⟩));refine wpS_bind (z7b C O I3 (show lo+min (a₀.size - lo) (minRun' a₀.size a₀.size 0)<=a₀.size by omega) #v[] n1 S3 c3 fun s4 I4 R4 S4=>?_);refine q_if (fun z=>by simp at z) fun _=>?_;have hm:1<=min (a₀.size - lo) (minRun' a₀.size a₀.size 0):=by omega
    have hM:lo+min (a₀.size - lo) (minRun' a₀.size a₀.size 0)<=a₀.size:=by omega
    have R5:Re (arrOf s2) (arrOf s4) lo (lo+min (a₀.size - lo) (minRun' a₀.size a₀.size 0)):=(R3.mono (Nat.le_refl _) #v[]).trans R4;generalize min (a₀.size - lo) (minRun' a₀.size a₀.size 0)=m at I4 R4 S4 hm hM R5 ⊢;clear I3 R3 S3 z3 c3 R4 g2
    rotate_left
    have hm:=n1;have hM:lo+n<=a₀.size:=by omega
    have R5:=R3;have I4:=I3;have S4:=S3;clear I3 R3 S3 z3 c3 g2;generalize n=m at I4 S4 hm hM R5 ⊢;generalize s3=s4 at I4 S4 R5 ⊢
    rotate_left
    all_goals
      have z4:=I4.size;have c4:∀c,lo+m<=c->Cut bf (arrOf s4) c:=fun c hc=>(P.cut c (by omega)).re R5 (by omega) (.inr hc);have k4:Cut bf (arrOf s4) lo:=(P.cut lo (Nat.le_refl _)).re R5 (by omega) (.inl (Nat.le_refl _));have ch4:Chain bf le (arrOf s4) 0 (pendingOf s4).toList lo:=by
        rw[I4.pend];exact P.ch.re R5 #v[] (.inl (Nat.le_refl _))
      have K4:kindOf s4=κ/\failedOf s4=none/\(arrOf s4).Perm a₀:=⟨I4.kind,I4.failed,I4.perm⟩;clear I4 R5;refine wpS_bind (wpS_get ?_);have push:∀s5,kindOf s5=κ->failedOf s5=none->(arrOf s5).Perm a₀->Chain bf le (arrOf s5) 0 (pendingOf s5).toList lo->Srt le (arrOf s5) lo (lo+m)->Cut bf (arrOf s5) lo->(∀c,lo+m<=c->Cut bf (arrOf s5) c) ->
          SP κ bf le a₀ (lo+m) (setPending s5 ((pendingOf s5).push (lo,m,0))):=fun s5 a1 a2 a3 a4 a5 a6 a7=>by
        refine⟨a1,a2,a3,?_,a7⟩;show Chain bf le (arrOf s5) 0 ((pendingOf s5).push (lo,m,0)).toList (lo+m);rw[Array.toList_push];exact Chain.app.mpr ⟨lo,a4,rfl,hm,a5,a6,rfl⟩
      cases q:(pendingOf s4).back? with
      | none =>
        exact wpS_bind (zq1 (P:=SP κ bf le a₀ (lo+m)) (push s4 K4.1 K4.2.1 K4.2.2 ch4 S4 k4 c4) fun s6 P6=>wpS_pure ⟨lo+m,rfl,by omega,hM,P6⟩)
      | some t =>
        obtain ⟨s1,n1',p1⟩:=t;dsimp only;refine wpS_bind (wpS_mono (wpS_forRange (I:=fun y c s5=>c=(none,())/\(kindOf s5=κ/\failedOf s5=none/\(arrOf s5).Perm a₀)/\Chain bf le (arrOf s5) 0 (pendingOf s5).toList lo/\Srt le (arrOf s5) lo (lo+m)/\Cut bf (arrOf s5) lo/\∀c,lo+m<=c->Cut bf (arrOf s5) c)
          (Q:=fun c s5=>c=(none,())/\(kindOf s5=κ/\failedOf s5=none/\(arrOf s5).Perm a₀)/\Chain bf le (arrOf s5) 0 (pendingOf s5).toList lo/\Srt le (arrOf s5) lo (lo+m)/\Cut bf (arrOf s5) lo/\∀c,lo+m<=c->Cut bf (arrOf s5) c) ?ms ?mf ⟨rfl,K4,ch4,S4,k4,c4⟩) ?mp)
        case mf =>
          intro c s5 z;exact z
        case mp =>
          rintro c s5 ⟨rfl,K5,ch5,S5,k5,c5⟩;dsimp only;refine wpS_bind (zq1 (P:=fun s6=>(kindOf s6=κ/\failedOf s6=none/\(arrOf s6).Perm a₀)/\Chain bf le (arrOf s6) 0 (pendingOf s6).toList lo/\Srt le (arrOf s6) lo (lo+m)/\Cut bf (arrOf s6) lo/\∀c,lo+m<=c->Cut bf (arrOf s6) c) ⟨K5,?_,S5,k5,c5⟩ fun s6 z6=>?_)
          · show Chain bf le (arrOf s5) 0 ((pendingOf s5).modify _ _).toList lo
            rw[Array.toList_modify];exact zit ch5
          · refine aG fun Gg qG => ?_
            obtain⟨K6,ch6,S6,k6,c6⟩:=z6;ac_rfl;exact wpS_bind (zq1 (P:=SP κ bf le a₀ (lo+m)) (push s6 K6.1 K6.2.1 K6.2.2 ch6 S6 k6 c6) fun s7 P7=>wpS_pure ⟨lo+m,rfl,by omega,hM,P7⟩)
        case ms =>
          rintro y c s5 _ hy ⟨rfl,K5,ch5,S5,k5,c5⟩;refine wpS_bind (wpS_get ?_)
          try dsimp only
          by_cases g4:(pendingOf s5).size > 1
          · rw [if_pos g4]
            obtain⟨⟨t1,t2,t3⟩,et⟩ : ∃t,(pendingOf s5)[(pendingOf s5).size - 2]?=some t:=⟨_,getElem?_pos _ _ #v[]⟩;rw[et];dsimp only;refine q_if (fun _=>wpS_pure ⟨rfl,K5,ch5,S5,k5,c5⟩) fun _=>?_;refine wpS_bind (zj3 C O (i:=(pendingOf s5).size - 2) (lo:=lo) ⟨K5.1,K5.2.1,K5.2.2,rfl⟩ #v[] ch5 h2 fun s6 pd6 I6 z6 ch6 R6=>?_);have zz:=K5.2.2.size_eq;refine q_if (fun z=>by simp at z) fun _=>?_;refine wpS_pure ⟨rfl,⟨I6.kind,I6.failed,I6.perm⟩,by rw[I6.pend];exact ch6,S5.re R6 (.inr (Nat.le_refl _)),k5.re R6 #v[] (.inr (Nat.le_refl _)),fun c hc=>(c5 c hc).re R6 #v[] (.inr #v[])⟩
          · rw [if_neg g4]
            exact wpS_pure ⟨rfl,K5,ch5,S5,k5,c5⟩
  case op =>
    rintro c s2 ⟨rfl,P⟩;have l0:=Chain.len P.ch;rw [Array.length_toList] at l0;have one:∀s3,SP κ bf le a₀ a₀.size s3->(pendingOf s3).size<=1->Srt le (arrOf s3) 0 a₀.size:=fun s3 P3 h1=>by
      have hc:=P3.ch;have e1:(pendingOf s3).toList.length<=1:=by simpa using h1
      revert hc e1
      generalize (pendingOf s3).toList=l;intro hc e1
      match l,hc,e1 with
      | [],hc,_ =>
        have:0=a₀.size:=hc;intro i j g1 g2 g3;omega
      | [(s0,n,q)],⟨b1,b2,b3,b4,b5⟩,_ =>
        have:0+n=a₀.size:=b5;rw[<-this];exact b3
      | _::_::_,_,e1=>simp at e1
    refine wpS_bind (wpS_mono (wpS_forRange (I:=fun y c s3=>c=(none,())/\SP κ bf le a₀ a₀.size s3/\((pendingOf s3).size<=1\/(pendingOf s3).size+y<=a₀.size)) (Q:=fun c s3=>c=(none,())/\SP κ bf le a₀ a₀.size s3/\(pendingOf s3).size<=1) ?fs ?ff ⟨rfl,P,.inr #v[]⟩) ?fp)
    case ff =>
      rintro c s3 ⟨hc,P3,z⟩;exact⟨hc,P3,by omega⟩
    case fp =>
      rintro c s3 ⟨rfl,P3,z⟩;exact wpS_pure (h s3 P3.failed P3.perm (one s3 P3 z))
    case fs =>
      rintro y c s3 _ hy ⟨rfl,P3,z⟩;refine wpS_bind (wpS_get ?_);refine q_if (fun g=>wpS_pure ⟨rfl,P3,g⟩) fun g=>?_;have zz:=P3.perm.size_eq;have go:∀i,i+1 < (pendingOf s3).size->wpS (model prog w) A E s (mergeAt' i) (fun b s4=>b=true/\SP κ bf le a₀ a₀.size s4/\((pendingOf s4).size<=1\/(pendingOf s4).size+(y+1)<=a₀.size)) s3:=fun i hi =>
        zj3 C O (lo:=a₀.size) P3.si hi P3.ch (Nat.le_refl _) fun s4 pd4 I4 z4 ch4 R4=>⟨rfl,⟨I4.kind,I4.failed,I4.perm,by rw[I4.pend];exact ch4,fun c hc=>(P3.cut c hc).re R4 #v[] (.inr hc)⟩,by rw[I4.pend];omega⟩
      refine wpS_bind (wpS_mono (go _ (by
        have g' : ¬ (pendingOf s3).size<=1:=g;generalize (if (pendingOf s3).size - 2 > 0 then Option.map (fun x=>x.snd.fst) (pendingOf s3)[(pendingOf s3).size - 2 - 1]? else none)=bf9
        try dsimp only
        split<;>omega)) fun b s4 z4=>?_)
      obtain⟨rfl,P4,z5⟩:=z4;refine q_if (fun z=>by simp at z) fun _=>?_;exact wpS_pure ⟨rfl,P4,z5⟩
end
end Tim
end L2
namespace L2
open PySem PySem.Spec PyProof.Rows
open PySem.AutoSeq1 (wpAny_loadPart')
open PySem.SeqAt
noncomputable def lexI:List Int->List Int->Bool
 | [],[]=>false
 | [],_::_=>true
 | _::_,[]=>false
 | a::as,b::bs=>if a=b then lexI as bs else decide (a < b)
theorem zdo:∀xs,lexI xs xs=false
 | []=>rfl
 | a::as=>by unfold lexI;rw[if_pos rfl];exact zdo as
theorem zer:∀{xs ys zs:List Int},lexI xs ys=true->lexI ys zs=true->lexI xs zs=true
  | [],[],_,h,_=>by cases h
  | [],_::_,[],_,h=>by cases h
  | [],_::_,_::_,_,_=>rfl
  | _::_,[],_,h,_=>by cases h
  | _::_,_::_,[],_,h=>by cases h
  | a::as,b::bs,c::cs,h1,h2=>by
    unfold lexI at h1 h2 ⊢;by_cases e1:a=b
    · subst e1
      rw[if_pos rfl] at h1;by_cases e2:a=c
      · rw[if_pos e2] at h2 ⊢;exact zer h1 h2
      · rw[if_neg e2] at h2 ⊢;exact h2
    · rw [if_neg e1] at h1
      have l1:=of_decide_eq_true h1;by_cases e2:b=c
      · subst e2;rw[if_neg e1];exact h1
      · rw [if_neg e2] at h2
        have l2:=of_decide_eq_true h2;rw[if_neg #v[]];exact decide_eq_true #v[]
theorem zic:∀{xs ys:List Int},lexI xs ys=false->lexI ys xs=false->xs=ys
  | [],[],_,_=>rfl
  | [],_::_,h,_=>by cases h
  | _::_,[],_,h=>by cases h
  | a::as,b::bs,h1,h2=>by
    unfold lexI at h1 h2;by_cases e:a=b
    · subst e
      rw[if_pos rfl] at h1 h2;rw[zic h1 h2]
    · rw [if_neg e] at h1
      rw[if_neg (fun z=>e z.symm)] at h2;have:=of_decide_eq_false h1;have:=of_decide_eq_false h2;omega
theorem zpa (l b:Addr) (items items2:Array Value) (n n2:Nat) (dd dd2:Option Addr) (sl sl2:Array (Option Value)) (ns ms:List Int) (h1:IntsAre items.toList ns) (h2:IntsAre items2.toList ms) :
    Meets (Builtin.«tuple.__lt__» ⟨[.ref l,.ref b],[]⟩)
      (fun A R s=>s.heap.get? l=some { cls:=.type "tuple",dict:=dd,data:=.seq items n,slots:=sl }/\s.heap.get? b=some { cls:=.type "tuple",dict:=dd2,data:=.seq items2 n2,slots:=sl2 } /\
        R (.ok (.ret (.bool (lexI ns ms)))) s) :=
  .of_wp fun prog w A R s h=>by
    obtain⟨hp,g,d,tk,os⟩:=s;obtain⟨hl,hb,h⟩:=h;have f2:=AutoSeq1.sub_tuple_tuple;have e1:items.size=ns.length:=by have:=h1.length;simpa using this
    have e2:items2.size=ms.length:=by have:=h2.length;simpa using this
    wp_walk using wpAny_loadPart' hl,wpAny_loadPart' hb,wpAny_forIn_list _ (fun rest b s'=>b.1=none/\s'=⟨hp,g,d,tk,os⟩/\∃xs ys ns' ms',rest=List.zip xs ys/\IntsAre xs ns'/\IntsAre ys ms'/\ns.length+ms'.length=ns'.length+ms.length /\
      R (.ok (.ret (.bool (lexI ns' ms')))) ⟨hp,g,d,tk,os⟩) _
    case turn =>
      rintro ⟨y,x⟩ rest b s' ⟨hb',rfl,xs,ys,ns',ms',hz,i1,i2,hln,hR⟩;cases i1 with
      | nil=>simp at hz
      | cons a t i1 =>
        cases i2 with
        | nil=>simp at hz
        | cons c u i2 =>
          rw[List.zip_cons_cons] at hz;injection hz with hyx hrest;cases hyx;unfold lexI at hR;refine wpAny_bind (wpAny_eqBool_int ?_);by_cases q:a=c
          · rw [if_pos q] at hR
            have:(a == c)=true:=by simpa using q
            rw[this]
            wp_walk
            exact⟨rfl,rfl,_,_,_,_,hrest,i1,i2,by simp at hln;omega,hR⟩
          · rw [if_neg q] at hR
            have:(a == c)=false:=by simpa using q
            rw[this];simp only [Bool.not_false,if_true];refine wpAny_bind (wpAny_rule ?_);refine wpAny_bind (show wpAny _ _ (compareOp .Lt _ _) _ _ _ from PyProof.Rows.lt_int ?_)
            wp_walk
            exact⟨_,rfl,by simpa using hR⟩
    case fin =>
      rintro ⟨b1,b2⟩ s' ⟨hb',rfl,xs,ys,ns',ms',hz,i1,i2,hln,hR⟩;simp only at hb';subst hb'
      wp_walk
      refine ⟨_,rfl,?_⟩;have:lexI ns' ms'=decide (items.size < items2.size):=by
        rw[e1,e2];cases i1 with
        | nil =>
          cases i2 with
          | nil=>unfold lexI;symm;apply decide_eq_false;simp at hln;omega
          | cons c u i2=>unfold lexI;symm;apply decide_eq_true;simp at hln;omega
        | cons a t i1 =>
          cases i2 with
          | nil=>unfold lexI;symm;apply decide_eq_false;simp at hln;omega
          | cons c u i2=>simp at hz
      rw[this] at hR;simpa [Builtin.Tuple.tupleCompareSizes] using hR
    case h =>
      exact⟨rfl,rfl,items.toList,items2.toList,ns,ms,rfl,h1,h2,by omega,by simpa using h⟩
theorem zl5 {xs ys zs:List Int} (h:lexI xs zs=true):lexI xs ys=true\/lexI ys zs=true:=by
  cases q:lexI xs ys with
  | true=>exact .inl rfl
  | false =>
    cases q2:lexI ys xs with
    | true=>exact .inr (zer q2 h)
    | false=>rw[zic q q2] at h;exact .inr h
theorem zzm (kf:Value->List Int):Tim.Ord (fun x y:Keyed=>lexI (kf x.1) (kf y.1)) (fun _ _=>True) (fun x y=>lexI (kf y.1) (kf x.1)=false) where
  tr:=fun {x y z} h1 h2=>by
    cases q:lexI (kf z.1) (kf x.1) with
    | false=>rfl
    | true =>
      rcases zl5 (ys:=kf y.1) q with a | a
      · rw[h2] at a;cases a
      · rw[h1] at a;cases a
  tot:=fun x y=>by
    cases q:lexI (kf y.1) (kf x.1) with
    | false=>exact .inl rfl
    | true =>
      right
      cases q2:lexI (kf x.1) (kf y.1) with
      | false=>rfl
      | true =>
        have:=zer q q2;rw[zdo] at this;cases this
  f1:=fun _=>Iff.rfl
  f2:=fun {x y} h=>by
    cases q2:lexI (kf y.1) (kf x.1) with
    | false=>rfl
    | true =>
      have:=zer h q2;rw[zdo] at this;cases this
  irr:=fun x=>zdo _
  ltr:=fun h1 h2=>zer h1 h2
  nt:=fun y h=>zl5 h
section
variable {prog:Program}{w:World}{A:Around}{E:Value->Shared->Prop}{s:Shared}{a₀:Array Keyed}
theorem zp2 {κ:SortKind}{lt:Keyed->Keyed->Bool}(h:∀(x y:Keyed) (E:Value->Shared->Prop) (Q:Bool->Shared->Prop),x∈a₀.toList->y∈a₀.toList->Q (lt x y) s->wpAny (model prog w) A (keyLt' κ x.1 y.1) Q E s):Tim.Asks prog w A E s κ a₀ lt:=fun x y st Q hx hy hk hq=>by
 rw[lt'_eq];refine wpS_bind (wpS_get ?_);rw[hk];refine wpS_bind (wpS_lift (wpAny_attempt (h x y _ _ hx hy ⟨rfl,?_⟩)));exact wpS_pure hq
theorem zwi {kf:Value->List Int}(h:∀x∈a₀.toList,∃n t,x.1=.int n t/\kf x.1=[n]):Tim.Asks prog w A E s oneType' a₀ (fun x y=>lexI (kf x.1) (kf y.1)):=zp2 fun x y E Q hx hy hq=>by
 nofun;obtain⟨n,t,e1,e2⟩:=h x hx;obtain⟨m,u,e3,e4⟩:=h y hy;ac_rfl;rw[keyLt'_oneType,e1,e3];refine oneLt_int ?_;have e:lexI (kf x.1) (kf y.1)=decide (n < m):=by
  rw[e2,e4];unfold lexI;by_cases q:n=m
  ·rw[if_pos q];subst q;simp [lexI]
  ·rw[if_neg q]
 rw[<-e];exact hq
theorem eqv_ints:∀ns ms:List Int,PyData.eqvAll (ns.map .int) (ms.map .int)=decide (ns=ms)
  | [],[]=>by simp [PyData.eqvAll]
  | [],_::_=>by simp [PyData.eqvAll]
  | _::_,[]=>by simp [PyData.eqvAll]
  | a::ns,b::ms=>by
    rw[List.map_cons,List.map_cons,PyData.eqvAll,eqv_ints ns ms,PyData.eqv];by_cases h:a=b
    · simp [h]
    · simp [h]
theorem zej {h:Heap}:∀{its:List Value}{ns:List Int},IntsAre its ns->ReadsAll h its (ns.map .int) []
 | _,_,.nil=>.nil
 | _,_,.cons n t r=>.cons (.int n t) (zej r)
theorem zi6 {h:Heap}{b:Addr}{its:List Value}{ns:List Int}(q:IsTup h b its.toArray)(r:IntsAre its ns):Reads h (.ref b) (.tuple (ns.map .int)) []:=by
 obtain⟨o,g1,g2,n,g3⟩:=id q;exact .tuple g1 g2 g3 (by simpa using zej r)
theorem zol (ns:List Int):PyData.canLay0 (.tuple (ns.map .int))=true:=by
 rw[PyData.canLay0];exact canLayAll_ints ns
theorem depth_ints (ns:List Int):PyData.depth (.tuple (ns.map .int))<=1:=by
 rw[PyData.depth,depthAll_ints]
 decide
theorem zvl {b b' : Addr}{its its' : List Value}{ns ns' : List Int}{Q:Bool->Shared->Prop} (hu:A.units+1 < cLine) (q2:IsTup s.heap b its.toArray) (q3:IntsAre its ns) (p2:IsTup s.heap b' its'.toArray) (p3:IntsAre its' ns') (h:Q (decide (ns=ns')) s) :
  wpAny (model prog w) A (eqBool (.ref b) (.ref b')) Q E s:=by
 refine PySem.SeqAt.eqBoolOverData prog w A E s _ _ _ _ [] [] Q (zi6 q2 q3) (zi6 p2 p3) (zol ns) (zol ns') ?_ ?_
 ·have := depth_ints ns;omega
 ·have e : PyData.eqv (.tuple (ns.map .int)) (.tuple (ns'.map .int)) = decide (ns = ns') := by rw[PyData.eqv]; exact eqv_ints ns ns'
  rw[e];exact h
theorem zwy {b b' : Addr}{its its' : List Value}{ns ns' : List Int}{Q:Value->Shared->Prop} (hu:A.units < cLine) (q2:IsTup s.heap b its.toArray) (q3:IntsAre its ns) (p2:IsTup s.heap b' its'.toArray) (p3:IntsAre its' ns') (h:Q (.bool (lexI ns ns')) s) :
  wpAny (model prog w) A (compareOp .Lt (.ref b) (.ref b')) Q E s:=by
 nofun;obtain⟨⟨cls,dd,data,sl⟩,ho,hc,n,hd⟩:=id q2;obtain⟨⟨cls2,dd2,data2,sl2⟩,ho2,hc2,n2,hd2⟩:=id p2;ac_rfl;simp only at hc hd hc2 hd2;subst hc hd hc2 hd2;exact richCompare_meets_room (op:=.Lt) ⟨_,ho,rfl⟩ ⟨_,ho2,rfl⟩ F.slot_tuple_lt F.entry_tuple_lt (F.args_tuple_lt_2 _ _) (zpa b b' its.toArray its'.toArray n n2 dd dd2 sl sl2 ns ns' (by simpa using q3) (by simpa using p3))
  ⟨ho,ho2,show Value.bool (lexI ns ns')≠Value.notImplemented/\Q (.bool (lexI ns ns')) s from ⟨(fun x=>nomatch x),h⟩⟩ hu
structure KeyT (h:Heap) (v:Value) (k:List Int):Prop where
 ex:∃(a b:Addr) (i:Int) (t:Tok) (ns:List Int) (its:List Value) (c:Value),v=.ref a/\k=i::ns/\IsTup h a [.int i t,c].toArray/\c=.ref b/\IsTup h b its.toArray/\IntsAre its ns
theorem zuu {kf:Value->List Int}(hu:A.units+2 < cLine)(h:∀x∈a₀.toList,KeyT s.heap x.1 (kf x.1)):Tim.Asks prog w A E s (tuples' true) a₀ (fun x y=>lexI (kf x.1) (kf y.1)):=zp2 fun x y E Q hx hy hq=>by
 nofun;obtain⟨a,b,i,t,ns,its,c,e1,e2,q1,rfl,q2,q3⟩:=(h x hx).ex;obtain⟨a',b',i',t',ns',its',c',f1,f2,p1,rfl,p2,p3⟩:=(h y hy).ex;ac_rfl;rw[e2,f2] at hq;rw[e1,f1];nofun;obtain⟨o,g1,g2,n,g3⟩:=id q1;obtain⟨o',k1,k2,n',k3⟩:=id p1;ac_rfl;refine PySem.W.kat_lt g1 g3 k1 k3 ?_;refine PySem.W.kat_cons (wpAny_eqBool_int ?_);unfold lexI at hq;by_cases z:i=i'
 ·have zz : (i == i') = true := by simpa using z
  rw[zz];rw[if_pos z] at hq;refine PySem.W.kat_yes (PySem.W.kat_cons (zvl #v[] q2 q3 p2 p3 ?_));by_cases z2:ns=ns'
  ·rw[decide_eq_true z2];refine PySem.W.kat_yes (PySem.W.kat_nil ?_);subst z2;rw[zdo] at hq;exact hq
  ·rw[decide_eq_false z2];refine PySem.W.kat_no ?_;exact PySem.W.kat_one _ _ (zwy #v[] q2 q3 p2 p3 hq)
 ·have zz : (i == i') = false := by simpa using z
  rw[zz];rw[if_neg z] at hq;refine PySem.W.kat_no ?_;exact oneLt_int hq
end
end L2
namespace L2
open PySem PySem.Spec PyProof.Rows
section
variable {prog:Program}{w:World}{A:Around}{E:Value->Shared->Prop}{s:Shared}{a kS:Addr}{e e1:Nat}{keys:Array Value}{vs:List Value}{P:PySem.Fin->Shared->Prop}
theorem zwq {st:SortSt} (hk:s.heap.get? kS=some (seqObj "list" keys e)) (ha:s.heap.get? a=some (seqObj "list" #[] e1)) (hne:kS≠a) (hz:keys.size<=sizeLine) (hz2:(arrOf st).size<=sizeLine) (hf:failedOf st=none)
  (h:∀h' c,h'.get? a=some (seqObj "list" ((arrOf st).map (·.2)) c)->(∀b o,b≠a->b≠kS->s.heap.get? b=some o->h'.get? b=some o)->P (.done (.ret .none)) { s with heap:=h' }):wpAny (model prog w) A (ksk_tail a false e1 (.ref kS) st) P E s:=by
 have s1:=Heap.SameBut.update s.heap kS (Obj.mapSeq fun _=>(#[]:Array Value));have na1:(s.heap.update kS (Obj.mapSeq fun _=>(#[]:Array Value))).get? a=some (seqObj "list" #[] e1):=(s1.2 a hne.symm).trans ha;have s2:=Heap.SameBut.update (s.heap.update kS (Obj.mapSeq fun _=>(#[]:Array Value))) a (Obj.mapSeq fun _=>(arrOf st).map (·.2));unfold ksk_tail
 try dsimp only
 refine wpAny_bind (listUpdate_at hk rfl ?_ hz (Nat.zero_le _));refine wpAny_bind (wpAny_letGo ?_);refine wpAny_bind (seqEpoch_at na1 rfl ?_);refine wpAny_bind (listUpdate_at na1 rfl ?_ (Nat.zero_le _) (by simp only [Bool.false_eq_true,if_false,Array.size_map];omega));rw[hf];simp only [bne_self_eq_false,Bool.false_eq_true,if_false];refine wpAny_pure (h _ _ (get?_update_seq na1 fun _=>(arrOf st).map (·.2)) fun b o n1 n2 eb=>?_);exact (s2.2 b n1).trans ((s1.2 b n2).trans eb)
theorem z0p {κ:SortKind}{kf:Value->List Int} (hk:s.heap.get? kS=some (seqObj "list" keys e)) (ha:s.heap.get? a=some (seqObj "list" #[] e1)) (hne:kS≠a) (hl:keys.size=vs.length) (hz:vs.length<=sizeLine)
  (kd:2<=vs.length->∀Q' : SortKind->Shared->Prop,Q' κ s->wpAny (model prog w) A (keyKind' keys) Q' E s)
  (C:Tim.Asks prog w A E s κ (keys.zip vs.toArray) (fun x y=>lexI (kf x.1) (kf y.1)))
  (h:∀(r:List Keyed) h' c,r.Perm (keys.toList.zip vs)->r.Pairwise (fun x y=>lexI (kf y.1) (kf x.1)=false)->h'.get? a=some (seqObj "list" (r.map (·.2)).toArray c)->(∀b o,b≠a->b≠kS->s.heap.get? b=some o->h'.get? b=some o)->P (.done (.ret .none)) { s with heap:=h' }) :
  wpAny (model prog w) A (ksk_end a false vs.toArray e1 (.ref kS) keys) P E s:=by
 have hzs:(keys.zip vs.toArray).size=vs.length:=by rw[Array.size_zip,hl,List.size_toArray,Nat.min_self]
 have fin:∀st:SortSt,(arrOf st).Perm (keys.zip vs.toArray)->failedOf st=none->Tim.Srt (fun x y=>lexI (kf y.1) (kf x.1)=false) (arrOf st) 0 (keys.zip vs.toArray).size->wpAny (model prog w) A (ksk_tail a false e1 (.ref kS) st) P E s:=fun st hp hf hs=>by
  refine zwq hk ha hne #v[] (by rw[hp.size_eq,hzs];exact hz) hf fun h' c ea kp=>?_;refine h (arrOf st).toList h' c ?_ (Tim.srt_list (by rw[hp.size_eq];exact hs)) (by rw[ea,<-Array.toList_map,Array.toArray_toList]) kp;rw[<-ksk_zip];exact Array.perm_iff_toList_perm.mp hp
 unfold ksk_end
 try dsimp only
 simp only [Bool.false_eq_true,if_false];by_cases h2:vs.toArray.size < 2
 ·rw[if_pos h2, if_pos h2];refine wpAny_bind (wpAny_pure ?_);rw[StateT.run_pure];refine wpAny_bind (wpAny_pure ?_)
  try dsimp only
  refine fin (SortSt.mk' general' (keys.zip vs.toArray) #[] 7 none) (Array.Perm.refl _) rfl fun i j _ h3 h4=>?_;rw[List.size_toArray] at h2;omega
 ·rw [if_neg h2, if_neg h2];rw [List.size_toArray] at h2;refine wpAny_bind (kd (by omega) _ ?_);refine wpAny_bind (wpAny_mono (Tim.q_sort (bf:=fun _ _=>True) (st:=SortSt.mk' κ (keys.zip vs.toArray) #[] 7 none) (Q:=fun _ st'=>(arrOf st').Perm (keys.zip vs.toArray)/\failedOf st'=none/\Tim.Srt (fun x y=>lexI (kf y.1) (kf x.1)=false) (arrOf st') 0 (keys.zip vs.toArray).size)
   C (zzm kf) ⟨rfl,rfl,Array.Perm.refl _,rfl⟩ rfl (fun _ _ _ _ _ _=>trivial) fun st' a1 a2 a3=>⟨a2,a1,a3⟩) ?_ fun _ _ e=>e)
  rintro ⟨⟨⟩,st'⟩ s' ⟨rfl,hp,hf,hs⟩
  try dsimp only
  exact fin st' hp hf hs
end
noncomputable abbrev KP:=List Int × W
noncomputable def insK (x:KP):List KP->List KP
 | []=>[x]
 | y::ys=>if lexI x.1 y.1 then x::y::ys else y::insK x ys
noncomputable def zo8:List KP->List KP
 | []=>[]
 | x::xs=>insK x (zo8 xs)
theorem zf4 (x:KP):∀l,(insK x l).Perm (x::l)
  | []=>.refl _
  | y::ys=>by
    unfold insK;split
    · exact .refl _
    · exact ((zf4 x ys).cons y).trans (.swap x y ys)
theorem zgx:∀l:List KP,(zo8 l).Perm l
 | []=>.refl _
 | x::xs=>(zf4 x _).trans ((zgx xs).cons x)
noncomputable abbrev leK (x y:KP):Prop:=lexI y.1 x.1=false
theorem z3w {x y z:KP} (h1:leK x y) (h2:leK y z):leK x z:=by
  unfold leK at *
  cases q:lexI z.1 x.1 with
  | false=>rfl
  | true =>
    rcases zl5 (ys:=y.1) q with a | a
    · rw[h2] at a;cases a
    · rw[h1] at a;cases a
theorem zk1 {x y:KP} (h:lexI x.1 y.1=true):leK x y:=by
  unfold leK;cases q:lexI y.1 x.1 with
  | false=>rfl
  | true =>
    have:=zer h q;rw[zdo] at this;cases this
theorem zgd {x:KP}:∀{l:List KP},l.Pairwise leK->(insK x l).Pairwise leK
  | [],_=>List.pairwise_singleton _ _
  | y::ys,h=>by
    have hy:=List.pairwise_cons.mp h;unfold insK;split
    · rename_i q
      refine List.pairwise_cons.mpr ⟨fun z hz=>?_,h⟩;rcases List.mem_cons.mp hz with rfl | hz
      · exact zk1 q
      · exact z3w (zk1 q) (hy.1 z hz)
    · rename_i q
      refine List.pairwise_cons.mpr ⟨fun z hz=>?_,zgd hy.2⟩;rcases List.mem_cons.mp ((zf4 x ys).mem_iff.mp hz) with rfl | hz
      · unfold leK;simpa using q
      · exact hy.1 z hz
theorem ze1:∀l:List KP,(zo8 l).Pairwise leK
 | []=>.nil
 | x::xs=>zgd (ze1 xs)
theorem zg7:∀{l l' : List KP},l.Perm l'->l.Pairwise leK->l'.Pairwise leK->(∀x∈l,∀y∈l,x.1=y.1->x=y)->l=l'
  | [],l',p,_,_,_=>p.nil_eq
  | x::xs,[],p,_,_,_=>by simpa using p.length_eq
  | x::xs,y::ys,p,h1,h2,hu=>by
    have a1:=List.pairwise_cons.mp h1;have a2:=List.pairwise_cons.mp h2;have hy:y∈x::xs:=p.mem_iff.mpr List.mem_cons_self;have hx:x∈y::ys:=p.mem_iff.mp List.mem_cons_self;have exy:x=y:=by
      rcases List.mem_cons.mp hy with e | hy'
      · exact e.symm
      · rcases List.mem_cons.mp hx with e | hx'
        · exact e
        · exact hu x List.mem_cons_self y hy (zic (show lexI x.1 y.1=false from a2.1 x hx') (show lexI y.1 x.1=false from a1.1 y hy'))
    subst exy;have p':=(List.perm_cons x).mp p;rw[zg7 p' a1.2 a2.2 fun u hu' v hv=>hu u (List.mem_cons_of_mem _ hu') v (List.mem_cons_of_mem _ hv)]
inductive All2 {α β:Type} (R:α->β->Prop):List α->List β->Prop where
 | nil:All2 R [] []
 | cons {a b as bs} (h:R a b) (t:All2 R as bs):All2 R (a::as) (b::bs)
theorem All2.perm {α β:Type}{R:α->β->Prop}{bs bs' : List β} (p:bs.Perm bs'):∀{as:List α},All2 R as bs->∃as',as.Perm as'/\All2 R as' bs':=by
  induction p with
  | nil=>exact fun h=>⟨_,.refl _,h⟩
  | cons x p ih =>
    intro as h;cases h with
    | cons h t =>
      obtain⟨as',q1,q2⟩:=ih t;exact⟨_,q1.cons _,.cons h q2⟩
  | swap x y l =>
    intro as h;cases h with
    | cons h1 t =>
      cases t with
      | cons h2 t=>exact⟨_,.swap _ _ _,.cons h2 (.cons h1 t)⟩
  | trans p1 p2 ih1 ih2 =>
    intro as h;obtain⟨as1,q1,h1⟩:=ih1 h;obtain⟨as2,q2,h2⟩:=ih2 h1;exact⟨as2,q1.trans q2,h2⟩
theorem All2.pair {α β:Type}{R:α->β->Prop}{P:α->α->Prop}{Q:β->β->Prop} (hPQ:∀a b a' b',R a b->R a' b'->Q b b'->P a a'):∀{as:List α}{bs:List β},All2 R as bs->bs.Pairwise Q->as.Pairwise P
  | _,_,.nil,_=>.nil
  | _,_,.cons h t,hp=>by
    have hc:=List.pairwise_cons.mp hp;refine List.pairwise_cons.mpr ⟨fun a' ha'=>?_,All2.pair hPQ t hc.2⟩;have:∀{as:List α}{bs:List β},All2 R as bs->a'∈as->∃b',b'∈bs/\R a' b':=by
      intro as bs h
      induction h with
      | nil=>intro z;cases z
      | cons h t ih =>
        intro z;rcases List.mem_cons.mp z with rfl | z
        · exact⟨_,List.mem_cons_self,h⟩
        · obtain ⟨b', q1, q2⟩ := ih z
          exact⟨b',List.mem_cons_of_mem _ q1,q2⟩
    obtain⟨b',hb',hr⟩:=this t ha';exact hPQ _ _ _ _ h hr (hc.1 b' hb')
noncomputable def zv3:List W->Option (List Int)
 | []=>some []
 | .int i::ws=>(zv3 ws).bind fun is=>some (i::is)
 | _=>none
noncomputable def kI:W->Option (List Int)
 | .int i=>some [i]
 | _=>none
noncomputable def kT:W->Option (List Int)
 | .tup [.int i,.tup xs]=>(zv3 xs).bind fun is=>some (i::is)
 | _=>none
noncomputable def mapO {α β:Type} (f:α->Option β):List α->Option (List β)
 | []=>some []
 | a::as=>(f a).bind fun b=>(mapO f as).bind fun bs=>some (b::bs)
noncomputable def ze8:List (List Int)->Bool
 | []=>true
 | x::xs=>xs.all (fun y=>decide (x≠y)) && ze8 xs
theorem zgf:∀{l:List (List Int)},ze8 l=true->l.Nodup
  | [],_=>List.nodup_nil
  | x::xs,h=>by
    unfold ze8 at h;rw[Bool.and_eq_true] at h;refine List.nodup_cons.mpr ⟨fun z=>?_,zgf h.2⟩;have:=List.all_eq_true.mp h.1 x z;simp at this
noncomputable def zv2 (ks ws:List W):Option (List W):=((mapO kI ks).orElse fun _=>mapO kT ks).bind fun kl=>if ze8 kl && decide (kl.length=ws.length) then some ((zo8 (kl.zip ws)).map (·.2)) else none
noncomputable def Cx.inn (X:Cx):Cx:={ X with A:=X.A.in1.in1 }
section
variable {X:Cx}{pins:List (Addr × Obj)}{σ:St}{H:Hp}{s:Shared}
theorem Cx.Ok.inn (o:X.Ok):X.inn.Ok:=⟨o.mod,o.kind,o.glob,o.blt,o.above,o.inj,o.has,o.cab,o.hd,o.frames,o.stk,o.exf,o.bs,o.bsz,o.noex,o.exfs,o.funs,o.frf⟩
theorem Cx.Ok.out (o:X.inn.Ok):X.Ok:=⟨o.mod,o.kind,o.glob,o.blt,o.above,o.inj,o.has,o.cab,o.hd,o.frames,o.stk,o.exf,o.bs,o.bsz,o.noex,o.exfs,o.funs,o.frf⟩
theorem Inv.inn (I:Inv X pins σ H s):Inv X.inn pins σ H s:=⟨I.ok.inn,I.os,I.bare,I.base,I.loc,I.cell,I.free,I.freeC,I.pin,I.hok,I.len⟩
theorem Inv.out (I:Inv X.inn pins σ H s):Inv X pins σ H s:=⟨I.ok.out,I.os,I.bare,I.base,I.loc,I.cell,I.free,I.freeC,I.pin,I.hok,I.len⟩
theorem Inv.adopt {h' : Heap}{t' : Nat}{ch:List Addr}{T:Addr}{o:HO} (I:Inv X pins σ H s) (k:∀b o,b ∉ ch->s.heap.get? b=some o->h'.get? b=some o) (hch:∀b∈ch,FpOk X pins H b) (hT:T∈ch)
  (new:ObjOk X.prog X.w (upd H T o) h' T o):Inv X pins σ (upd H T o) { s with heap:=h',toks:=t' }:=by
 have hn:H T=none:=(hch T hT).1;have nch:∀b u,H b=some u->b ∉ ch:=fun b u e hb=>by rw[(hch b hb).1] at e;exact noSome e
 refine I.step (g':=s.gens) (d':=s.drawn) (ch:=ch) (fun b hb=>⟨(hch b hb).2.2.2.1,(hch b hb).2.1,(hch b hb).2.2.2.2.1,(hch b hb).2.2.2.2.2⟩) (fun b o _ _ hc e _=>k b o hc e) (fun b o _ _ hc e _=>⟨o.slots,k b o hc e⟩) (fun b u hc e n=>by rw[upd_ne (fun z=>hc (by rw[z];exact hT))];exact n)
  (fun b u hc e=>⟨u,k b u hc e⟩) (fun b xs e=>by rw[upd_ne (zab e hn)];exact e) (fun b u xs e=>by rw[upd_ne (zab e hn)];exact e) (fun b ps e=>⟨#[],by rw[upd_ne (zab e hn),e];simp⟩) (fun m hm=>?_) (fun b u e=>?_) I.bare
 ·obtain⟨o, es, ep, ho, r⟩ := hm;exact⟨o,es,ep,k _ o (fun z=>(hch _ z).2.1 rfl) ho,r⟩
 ·by_cases hb : b = T
  ·subst hb;rw[upd_same] at e;obtain rfl:=sI e;exact new
  ·rw[upd_ne hb] at e;refine (I.hok b u e).stay (fun c v hc q=>k c v ?_ q) (fun c q=>by rw[upd_ne (zab q hn)];exact q) fun c xs q=>by rw[upd_ne (zab q hn)];exact q
   rcases hc with z | z
   ·rw[z];exact nch b u e
   ·exact nch c _ z
structure KCall (X:Cx) (f:Value) (Φ:W->Option W) (Al:List (Addr × Obj)->Hp->Prop):Prop where
 mono:∀{pins pins' : List (Addr × Obj)}{F F' : Hp},Al pins F->(∀p∈pins,p∈pins')->Same F F'->Al pins' F'
 run:∀(pins:List (Addr × Obj)) (s:Shared) (σ:St) (H F:Hp) (pr:Prt) (en:En) (w k:W) (v:V) (u:Value),Al pins F->Inv X pins σ H s->Rel X.K F pr en σ H->Rep X.K F w v->RelV v u->Φ w=some k ->
  wpAny (model X.prog X.w) X.A (call f [u]) (fun u' s'=>∃v' F' H',Inv X pins σ H' s'/\Same F F'/\Rel X.K F' pr en σ H'/\RelV v' u'/\Rep X.K F' k v') (fun _ _=>False) s
structure Apart (X:Cx) (pins:List (Addr × Obj)) (b:Addr):Prop where
 l:b≠X.env.locals
 f:b ∉ X.fs
 x:b∈X.ex\/X.s₀.heap.objs.size<=b
 c:∀x c,X.env.cells.lookup x=some c->c≠b
 p:∀p∈X.pn++pins,p.1≠b
theorem Apart.fp {b:Addr}(a:Apart X pins b)(h:H b=none):FpOk X pins H b:=⟨h,a.l,a.f,a.x,a.c,a.p⟩
theorem FpOk.apart {b:Addr}(h:FpOk X pins H b):Apart X pins b:=⟨h.2.1,h.2.2.1,h.2.2.2.1,h.2.2.2.2.1,h.2.2.2.2.2⟩
theorem zfa {α β:Type}{f:α->Option β}:∀{as:List α}{bs:List β}{i:Nat}{a:α},mapO f as=some bs->as[i]?=some a->∃b,f a=some b/\bs[i]?=some b
  | [],_,_,_,_,h=>by simp at h
  | x::xs,bs,i,a,e,h=>by
    obtain⟨b,h1,e⟩:=bS e;obtain⟨bs',h2,e⟩:=bS e;obtain rfl:=sI e;cases i with
    | zero=>simp at h;subst h;exact⟨b,h1,rfl⟩
    | succ i =>
      obtain⟨c,q1,q2⟩:=zfa (i:=i) h2 (by simpa using h);exact⟨c,q1,by simpa using q2⟩
theorem zff {α β:Type}{f:α->Option β}:∀{as:List α}{bs:List β},mapO f as=some bs->bs.length=as.length
  | [],_,e=>by obtain rfl:=sI e;rfl
  | x::xs,bs,e=>by
    obtain⟨b,h1,e⟩:=bS e;obtain⟨bs',h2,e⟩:=bS e;obtain rfl:=sI e;exact congrArg (· + 1) (zff h2)
theorem zvs {f:Value}{Φ:W->Option W}{Al:List (Addr × Obj)->Hp->Prop} (KC:KCall X f Φ Al) {F:Hp}{pr:Prt}{en:En}{a kS:Addr}{e1:Nat}{vs:List Value}{vvs:List V}{ws ks:List W}{P:PySem.Fin->Shared->Prop}{E:Value->Shared->Prop}
  (I:Inv X ((kS,seqObj "list" #[] 0)::(a,seqObj "list" #[] e1)::pins) σ H s) (al:Al pins F) (R:Rel X.K F pr en σ H) (rv:Vals vvs vs) (rw' : Reps X.K F ws vvs) (hk:mapO Φ ws=some ks) (hz:vs.length<=sizeLine)
  (ap:Apart X ((a,seqObj "list" #[] e1)::pins) kS)
  (fin:∀s' H' F' keys e kvs,Inv X ((kS,seqObj "list" keys e)::(a,seqObj "list" #[] e1)::pins) σ H' s'->Same F F'->Rel X.K F' pr en σ H'->Vals kvs keys.toList->Reps X.K F' ks kvs->wpAny (model X.prog X.w) X.A (ksk_end a false vs.toArray e1 (.ref kS) keys) P E s') :
  wpAny (model X.prog X.w) X.A (ksk_rest a f false vs.toArray e1 (.ref kS)) P E s:=by
 have lw:ws.length=vs.length:=by rw[rw'.length,rv.length]
 have lk:ks.length=vs.length:=by rw[zff hk,lw]
 unfold ksk_rest;refine wpAny_bind (wpAny_rule ?_);rw[List.forIn_toArray];refine wpAny_bind (ksk_fold (fun i s'=>∃H' F' keys e kvs,Inv X ((kS,seqObj "list" keys e)::(a,seqObj "list" #[] e1)::pins) σ H' s'/\Same F F'/\Rel X.K F' pr en σ H'/\Vals kvs keys.toList/\Reps X.K F' (ks.take i) kvs) vs 0 s
  ⟨H,F,#[],0,[],I,.refl F,R,.nil,.nil⟩ ?step ?done)
 case step =>
  rintro j x s' hx ⟨H',F',keys,e,kvs,I',s1,R',rk,rp⟩;simp only [Nat.zero_add] at rp ⊢;have hj:j < vs.length:=(List.getElem?_eq_some_iff.mp hx).1;obtain⟨w,hw⟩ : ∃w,ws[j]?=some w:=⟨_,List.getElem?_eq_getElem #v[]⟩;nofun;obtain⟨k,hk1,hk2⟩:=zfa hk hw;obtain⟨v,hv,rp1⟩:=rw'.get hw;obtain⟨u,hu,ru⟩:=rv.get hv;ac_rfl;rw[hx] at hu;obtain rfl:=sI hu;have zk:keys.size<=vs.length:=by
   have a1:kvs.length=keys.size:=rk.length.trans Array.length_toList;have a2:min j ks.length=kvs.length:=by rw[<-List.length_take];exact rp.length
   omega
  refine wpAny_bind (wpAny_attempt (wpAny_mono (KC.run _ s' σ H' F' pr en w k v x (KC.mono al (fun p hp=>List.mem_cons_of_mem _ (List.mem_cons_of_mem _ hp)) s1) I' R' (rp1.mono s1) ru hk1) (fun u' s2 he=>?_) fun _ _ hF=>hF.elim));nofun;obtain⟨v',F2,H2,I2,s2',R2,ru',rp2⟩:=he;obtain⟨g1,g2,_,_,_⟩:=I2.pin (kS,seqObj "list" keys e) (List.mem_append_right _ List.mem_cons_self);ac_rfl
  try dsimp only
  refine wpAny_bind (listUpdate_at g1 rfl ?_ #v[] (Nat.le_trans (Nat.le_of_eq (Array.size_push ..)) #v[]));have sb:=Heap.SameBut.update s2.heap kS (Obj.mapSeq (·.push u'));obtain⟨c2,hc2⟩ : ∃c2,(s2.heap.update kS (Obj.mapSeq (·.push u'))).get? kS=some (seqObj "list" (keys.push u') c2):=⟨_,get?_update_seq g1 (·.push u')⟩;have I3:Inv X ((a,seqObj "list" #[] e1)::pins) σ H2 s2:=I2.pins_of fun p hp=>I2.pin p (List.mem_append_right _ (List.mem_cons_of_mem _ hp));have I4:Inv X ((a,seqObj "list" #[] e1)::pins) σ H2 { s2 with heap:=s2.heap.update kS (Obj.mapSeq (·.push u')) }:=I3.turned (t':=s2.toks) (it:=kS) (fun b o hb eb=>(sb.2 b hb).trans eb) g2 ap.l ap.x ap.c ap.p;refine wpAny_pure ⟨rfl,H2,F2,keys.push u',c2,kvs++[v'],?_,s1.trans s2',R2,?_,?_⟩
  ·refine I4.pins_of fun p hp => ?_;rcases List.mem_cons.mp hp with rfl | hp
   ·exact⟨hc2,g2,ap.l,ap.f,fun v z=>by cases z⟩
   ·exact I4.pin p (List.mem_append_right _ hp)
  ·rw[Array.toList_push];exact Vals.append rk (.cons ru' .nil)
  ·rw[List.take_add_one, hk2];exact (rp.mono s2').append (.cons rp2 .nil)
 case done =>
  rintro s' ⟨H',F',keys,e,kvs,I',s1,R',rk,rp⟩;rw[Nat.zero_add,List.take_of_length_le #v[]] at rp;obtain⟨g1,_⟩:=I'.pin (kS,seqObj "list" keys e) (List.mem_append_right _ List.mem_cons_self)
  try dsimp only
  refine wpAny_bind (listItems_at g1 rfl ?_);exact fin s' H' F' keys e kvs I' s1 R' rk rp
end
noncomputable def intV:V->Option Int
 | .int j=>some j
 | _=>none
noncomputable def kfV (H:Hp):Value->List Int
  | .int n _=>[n]
  | .ref a=>match H a with
    | some (.tup [.int i,.ref b])=>(match H b with
      | some (.tup vs)=>i::vs.filterMap intV
      | _=>[])
    | _=>[]
  | _=>[]
theorem zft:∀is:List Int,(is.map V.int).filterMap intV=is
 | []=>rfl
 | i::is=>by rw[List.map_cons,List.filterMap_cons];show i::_=_;rw[zft is]
theorem zg0 {K:PySem.W.Frag}{F:Hp}:∀{ws:List W}{is:List Int}{vs:List V},zv3 ws=some is->Reps K F ws vs->vs=is.map V.int
  | [],_,_,e,r=>by obtain rfl:=sI e;cases r;rfl
  | w::ws,is,vs,e,r=>by
    cases w with
    | int i =>
      obtain⟨is',h,e⟩:=bS (show (zv3 ws).bind _=_ from e);obtain rfl:=sI e;cases r with
      | cons h1 r =>
        cases h1;rw[zg0 h r];rfl
    | _=>exact noSome e
theorem zrt {is:List Int}{its:List Value} (h:Vals (is.map V.int) its):IntsAre its is:=by
  induction is generalizing its with
  | nil=>cases h;exact .nil
  | cons i is ih =>
    cases h with
    | cons h1 t =>
      obtain⟨t1,rfl⟩:=h1;exact .cons i t1 (ih t)
section
variable {X:Cx}{pins:List (Addr × Obj)}{σ:St}{H F:Hp}{s:Shared}
theorem zuc {k:W}{kl:List Int}{v:V}{u:Value} (e:kI k=some kl) (r:Rep X.K F k v) (ru:RelV v u):(∃n t,u=.int n t/\kfV H u=[n])/\kfV H u=kl:=by
  cases k with
  | int i =>
    obtain rfl:=sI e;cases r;obtain⟨t,rfl⟩:=ru;exact⟨⟨i,t,rfl,rfl⟩,rfl⟩
  | _=>exact noSome e
theorem zq4 (I:Inv X pins σ H s) (sm:Same F H) {k:W}{kl:List Int}{v:V}{u:Value} (e:kT k=some kl) (r:Rep X.K F k v) (ru:RelV v u):KeyT s.heap u kl/\kfV H u=kl:=by
  unfold kT at e;split at e
  · rename_i i xs
    obtain⟨is,hi,e⟩:=bS e;obtain rfl:=sI e;cases r with
    | @tup ws a vs h rs =>
      cases rs with
      | @cons _ v1 _ vs1 h1 rs =>
        cases h1;cases rs with
        | @cons _ v2 _ vs2 h2 rs =>
          cases rs;cases h2 with
          | @tup _ b us hb rb =>
            have eu:=zg0 hi rb;subst eu;cases (show u=Value.ref a from ru);nofun;obtain⟨its,r1,t1,_⟩:=I.tuple (.inl (.inl (sm _ _ h)));obtain⟨its2,r2,t2,_⟩:=I.tuple (.inl (.inl (sm _ _ hb)));ac_rfl;cases r1 with
            | cons q1 r1 =>
              cases r1 with
              | cons q2 r1 =>
                cases r1;obtain⟨t,rfl⟩:=q1;cases (show _=Value.ref b from q2);refine⟨⟨a,b,i,t,is,its2,.ref b,rfl,rfl,t1,rfl,t2,zrt r2⟩,?_⟩;show (match H a with | some (.tup [.int i,.ref b])=>_ | _=>_)=_;rw[sm _ _ h];show (match H b with | some (.tup vs)=>i::vs.filterMap intV | _=>[])=_;rw[sm _ _ hb];show i::_=_;rw[zft]
  · exact noSome e
theorem zw3 {keys:Array Value}{vs:List Value}{ks:List W}{kvs:List V}{kl:List (List Int)}{A:Around}{E:Value->Shared->Prop} (I:Inv X pins σ H s) (sm:Same F H) (hu:A.units+2 < cLine) (rk:Vals kvs keys.toList) (rp:Reps X.K F ks kvs) (hkl:((mapO kI ks).orElse fun _=>mapO kT ks)=some kl) (hl:keys.size=vs.length) :
    ∃κ:SortKind,(2<=vs.length->∀Q' : SortKind->Shared->Prop,Q' κ s->wpAny (model X.prog X.w) A (keyKind' keys) Q' E s)/\Tim.Asks X.prog X.w A E s κ (keys.zip vs.toArray) (fun x y=>lexI (kfV H x.1) (kfV H y.1))/\keys.toList.map (kfV H)=kl:=by
  have lk:ks.length=keys.size:=by rw[rp.length,rk.length,Array.length_toList]
  have mem:∀x∈(keys.zip vs.toArray).toList,∃i,keys.toList[i]?=some x.1:=fun x hx=>by
    rw[ksk_zip] at hx;obtain⟨a,b⟩:=x;have:=(List.of_mem_zip hx).1;obtain⟨i,hi,e⟩:=List.mem_iff_getElem.mp this;exact⟨i,by rw[List.getElem?_eq_getElem hi,e]⟩
  have back:∀(f:W->Option (List Int)),mapO f ks=some kl->(∀(k:W) (l:List Int) (v:V) (u:Value),f k=some l->Rep X.K F k v->RelV v u->kfV H u=l)->keys.toList.map (kfV H)=kl:=fun f hf hk=>by
    apply List.ext_getElem?;intro i;rw[List.getElem?_map];by_cases hi:i < keys.size
    · obtain ⟨k, ek⟩ : ∃ k, ks[i]? = some k := ⟨_, List.getElem?_eq_getElem (by omega)⟩
      nofun;obtain⟨l,e1,e2⟩:=zfa hf ek;obtain⟨v,ev,rv⟩:=rp.get ek;obtain⟨u,eu,ru⟩:=rk.get ev;ac_rfl;rw[eu,e2];exact congrArg some (hk k l v u e1 rv ru)
    · rw[List.getElem?_eq_none (by simpa using hi),List.getElem?_eq_none (by rw[zff hf];omega)];rfl
  have at' : ∀(f:W->Option (List Int)),mapO f ks=some kl->∀(i:Nat) (u:Value),keys.toList[i]?=some u->∃k l v,f k=some l/\Rep X.K F k v/\RelV v u:=fun f hf i u hu=>by
    have hi:i < keys.size:=by have:=(List.getElem?_eq_some_iff.mp hu).1;simpa using this
    obtain⟨k,ek⟩ : ∃k,ks[i]?=some k:=⟨_,List.getElem?_eq_getElem #v[]⟩;nofun;obtain⟨l,e1,e2⟩:=zfa hf ek;obtain⟨v,ev,rv⟩:=rp.get ek;obtain⟨u',eu,ru⟩:=rk.get ev;ac_rfl;rw[hu] at eu;obtain rfl:=sI eu;exact⟨k,l,v,e1,rv,ru⟩
  cases q:mapO kI ks with
  | some kl' =>
    rw [q] at hkl;cases (show some kl'=some kl from hkl);have all:∀(i:Nat) (u:Value),keys.toList[i]?=some u->∃n t,u=.int n t/\kfV H u=[n]:=fun i u hu=>by
      nofun;obtain⟨k,l,v,e1,rv,ru⟩:=at' kI q i u hu;ac_rfl;exact (zuc (H:=H) e1 rv ru).1
    refine⟨oneType',fun h2 Q' hq=>?_,zwi fun x hx=>?_,back kI q fun k l v u e1 rv ru=>(zuc (H:=H) e1 rv ru).2⟩
    · have ia:=intsAre_map keys.toList fun v hv=>by
        nofun;obtain⟨i,hi,e⟩:=List.mem_iff_getElem.mp hv;obtain⟨n,t,h,_⟩:=all i v (by rw[List.getElem?_eq_getElem hi,e]);ac_rfl;exact⟨n,t,h⟩
      rw[ksk_kind ia #v[]];exact wpAny_pure hq
    · obtain ⟨i, hi⟩ := mem x hx
      exact all i x.1 hi
  | none =>
    rw [q] at hkl;have hkl:mapO kT ks=some kl:=hkl;have all:∀(i:Nat) (u:Value),keys.toList[i]?=some u->KeyT s.heap u (kfV H u):=fun i u hu=>by
      nofun;obtain⟨k,l,v,e1,rv,ru⟩:=at' kT hkl i u hu;obtain⟨g1,g2⟩:=zq4 I sm e1 rv ru;ac_rfl;rw[g2];exact g1
    refine⟨tuples' true,fun h2 Q' hq=>?_,zuu hu fun x hx=>?_,back kT hkl fun k l v u e1 rv ru=>(zq4 I sm e1 rv ru).2⟩
    · have kt:∃fs:List Value,PySem.W.KatTups s.heap keys.toList fs/\fs.length=keys.size/\∀v∈fs,∃n t,v=.int n t:=by
        have gen:∀l:List Value,(∀(i:Nat) (u:Value),l[i]?=some u->KeyT s.heap u (kfV H u))->∃fs:List Value,PySem.W.KatTups s.heap l fs/\fs.length=l.length/\∀v∈fs,∃n t,v=.int n t:=by
          intro l
          induction l with
          | nil=>exact fun _=>⟨[],trivial,rfl,fun v hv=>by simp at hv⟩
          | cons u l ih =>
            intro h;nofun;obtain⟨fs,g1,g2,g3⟩:=ih fun i v hv=>h (i+1) v (by simpa using hv);obtain⟨a,b,i,t,ns,its,c,e1,e2,q1,rfl,q2,q3⟩:=(h 0 u rfl).ex;obtain⟨o,k1,k2,n,k3⟩:=id q1;ac_rfl;subst e1;exact⟨.int i t::fs,PySem.W.KatTups.cons k1 k2 k3 rfl g1,by simpa using g2,fun v hv=>(List.mem_cons.mp hv).elim (fun z=>⟨i,t,z⟩) (g3 v)⟩
        nofun;obtain⟨fs,g1,g2,g3⟩:=gen keys.toList all;ac_rfl;exact⟨fs,g1,by simpa using g2,g3⟩
      refine aG fun _ qG=>?_;obtain ⟨fs,g1,g2,g3⟩:=kt;refine qG ?_;clear qG;have:=PySem.W.kat_kind (M:=model X.prog X.w) (A:=A) (E:=E) (s:=s) (T:=.type "int") (Q:=Q') g1 (by omega) (fun v hv=>by
        obtain⟨n,t,rfl⟩:=g3 v hv;exact .now) rfl hq
      rw[Array.toArray_toList] at this;exact this
    · obtain ⟨i, hi⟩ := mem x hx
      exact all i x.1 hi
end
section
variable {X:Cx}{pins:List (Addr × Obj)}{σ:St}{H F:Hp}{s:Shared}{pr:Prt}{en:En}
theorem zsm {α:Type} [DecidableEq α] {β:Type}:∀{kl:List α}{ws:List β},kl.Nodup->∀x∈kl.zip ws,∀y∈kl.zip ws,x.1=y.1->x=y
  | [],_,_,x,hx,_,_,_=>by simp at hx
  | _::_,[],_,x,hx,_,_,_=>by simp at hx
  | k::kl,w::ws,nd,x,hx,y,hy,e=>by
    have n:=List.nodup_cons.mp nd;rw[List.zip_cons_cons] at hx hy;rcases List.mem_cons.mp hx with rfl | hx
    · rcases List.mem_cons.mp hy with rfl | hy
      · rfl
      · have := (List.of_mem_zip (a := y.1) (b := y.2) hy).1
        exact absurd (by rw[<-e] at this;exact this) n.1
    · rcases List.mem_cons.mp hy with rfl | hy
      · have := (List.of_mem_zip (a := x.1) (b := x.2) hx).1
        exact absurd (by rw[e] at this;exact this) n.1
      · exact zsm n.2 x hx y hy e
theorem zm9 {K:PySem.W.Frag}{F:Hp}{kf:Value->List Int}:∀{ku:List Value}{ws:List W}{vvs:List V}{vs:List Value},Vals vvs vs->Reps K F ws vvs->All2 (fun (z:KP) (x:Keyed)=>kf x.1=z.1/\∃v,RelV v x.2/\Rep K F z.2 v) ((ku.map kf).zip ws) (ku.zip vs)
 | [],_,_,_,_,_=>by simp;exact .nil
 | k::ku,_,_,_,.nil,.nil=>by simp;exact .nil
 | k::ku,_,_,_,.cons r rv,.cons h hr=>.cons ⟨rfl,_,r,h⟩ (zm9 rv hr)
theorem zna {K:PySem.W.Frag}{F:Hp}{kf:Value->List Int}:∀{zs:List KP}{r:List Keyed},All2 (fun (z:KP) (x:Keyed)=>kf x.1=z.1/\∃v,RelV v x.2/\Rep K F z.2 v) zs r->∃vs,Vals vs (r.map (·.2))/\Reps K F (zs.map (·.2)) vs
  | _,_,.nil=>⟨[],.nil,.nil⟩
  | _,_,.cons ⟨_,v,h1,h2⟩ t=>by
    obtain⟨vs,a,b⟩:=zna t;exact⟨v::vs,.cons h1 a,.cons h2 b⟩
theorem zpr {q l:Addr}{Φ:W->Option W}{Al:List (Addr × Obj)->Hp->Prop}{vvs:List V}{ws ks out:List W}{Q:VK}{E:Value->Shared->Prop} (KC:KCall X.inn (.ref q) Φ Al) (I:Inv X pins σ H s) (al:Al pins F) (R:Rel X.K F pr en σ H) (hl:SqL X.K H l vvs) (rws:Reps X.K F ws vvs)
  (hk:mapO Φ ws=some ks) (hs:zv2 ks ws=some out) (hu:X.A.units+4 < cLine) (h:∀F' H' v,Same F F'->Rel X.K F' pr en σ H'->Res X.K F' H' pr en σ (.lst out,true) v->Q v H') :
  wpAny (model X.prog X.w) X.A (call (.builtin "sorted") [.ref l] [(Str.ofString "key",.ref q)]) (EP X pins σ Q) E s:=by
 nofun;obtain⟨vs,rv,pl,hz⟩:=I.list hl;ac_rfl;have lv:vvs.length=vs.length:=rv.length;have hz' : vs.length<=sizeLine:=by omega
 have il:s.heap.IsList l vs.toArray:=by
  nofun;obtain⟨o,n,g1,g2,g3,g4⟩:=pl;ac_rfl;exact⟨o,g1,g2,_,g4⟩
 have lw:ws.length=vs.length:=by rw[rws.length,lv]
 have lk:ks.length=vs.length:=by rw[zff hk,lw]
 refine call_function_entry_kw kind_sorted plain_sorted entry_sorted (ksk_s1 _ _) ?_;unfold Builtin.«sorted»;refine wpAny_bind (m:=checkCount "sorted" 1 1 _) (wpAny_pure ?_);refine wpAny_bind (collect_list il ?_ hz');refine wpAny_bind (wpAny_newList ?_ hz');have hsz:((s.heap.push (seqObj "list" #[] 0)).update s.heap.objs.size (Obj.mapSeq (·++vs.toArray))).objs.size=s.heap.objs.size+1:=by
  rw[Heap.size_update,size_push']
 have hoL:(((s.heap.push (seqObj "list" #[] 0)).update s.heap.objs.size (Obj.mapSeq (·++vs.toArray))).push (seqObj "list" vs.toArray 0)).get? (s.heap.objs.size+1)=some (seqObj "list" vs.toArray 0):=by
  rw[<-hsz];exact Heap.get?_push_size _ rfl
 have keep:∀b o,s.heap.get? b=some o->(((s.heap.push (seqObj "list" #[] 0)).update s.heap.objs.size (Obj.mapSeq (·++vs.toArray))).push (seqObj "list" vs.toArray 0)).get? b=some o:=fun b o q=>by
  have hlt:b < s.heap.objs.size:=Heap.lt_size q;rw[Heap.get?_push_ne _ _ _ (by rw[hsz];exact Nat.ne_of_lt (Nat.lt_succ_of_lt hlt)),Heap.get?_update_ne _ _ _ _ (Nat.ne_of_lt hlt),Heap.get?_push_ne _ _ _ (Nat.ne_of_lt hlt)];exact q
 have hsz3:(((s.heap.push (seqObj "list" #[] 0)).update s.heap.objs.size (Obj.mapSeq (·++vs.toArray))).push (seqObj "list" vs.toArray 0)).objs.size=s.heap.objs.size+2:=by rw[size_push',hsz]
 show wpAny _ _ _ _ _ { s with heap:=((s.heap.push (seqObj "list" #[] 0)).update s.heap.objs.size (Obj.mapSeq (·++vs.toArray))).push (seqObj "list" vs.toArray 0) };rw[hsz];generalize ((s.heap.push (seqObj "list" #[] 0)).update s.heap.objs.size (Obj.mapSeq (·++vs.toArray))).push (seqObj "list" vs.toArray 0)=h3 at hoL keep hsz3 ⊢;obtain⟨a,ea⟩ : ∃a,a=s.heap.objs.size+1:=⟨_,rfl⟩;rw[<-ea] at hoL ⊢;refine wpAny_bind (wpAny_holding (wpAny_call_entry_kw slot_list_sort ⟨_,hoL,rfl⟩ entry_list_sort ?body (ksk_l1 _ _)))
 case body =>
  show wpAny (model X.prog X.w) X.A.in1.in1 (Builtin.«list.sort» ⟨[.ref a],[(Str.ofString "key",.ref q)]⟩) _ _ _;rw[ksk_t1];have ha:a < h3.objs.size:=by omega
  have s1:=Heap.SameBut.update h3 a (Obj.mapSeq fun _=>(#[]:Array Value));obtain⟨e1,ho1⟩ : ∃e1,(h3.update a (Obj.mapSeq fun _=>(#[]:Array Value))).get? a=some (seqObj "list" #[] e1):=⟨_,get?_update_seq hoL fun _=>#[]⟩;unfold ksk_tree;refine wpAny_bind (listItems_at hoL rfl ?_);refine wpAny_bind (listUpdate_at hoL rfl ?_ (by rw[List.size_toArray];omega) (Nat.zero_le _));refine wpAny_bind (seqEpoch_at ho1 rfl ?_);refine wpAny_bind (wpAny_newTuple ?_ hz');refine wpAny_bind (wpAny_newList ?_ (Nat.zero_le _));refine wpAny_holding ?_;have hz4:((h3.update a (Obj.mapSeq fun _=>(#[]:Array Value))).push (seqObj "tuple" vs.toArray 0)).objs.size=s.heap.objs.size+3:=by rw[size_push',Heap.size_update,hsz3]
  show wpAny _ _ (ksk_rest a (.ref q) false vs.toArray e1 (.ref ((h3.update a (Obj.mapSeq fun _=>(#[]:Array Value))).push (seqObj "tuple" vs.toArray 0)).objs.size)) _ _ { s with heap:=((h3.update a (Obj.mapSeq fun _=>(#[]:Array Value))).push (seqObj "tuple" vs.toArray 0)).push (seqObj "list" #[] 0) };obtain⟨kS,ek⟩ : ∃kS,kS=((h3.update a (Obj.mapSeq fun _=>(#[]:Array Value))).push (seqObj "tuple" vs.toArray 0)).objs.size:=⟨_,rfl⟩;rw[<-ek] at hz4 ⊢;have kp6:∀b o,s.heap.get? b=some o->(((h3.update a (Obj.mapSeq fun _=>(#[]:Array Value))).push (seqObj "tuple" vs.toArray 0)).push (seqObj "list" #[] 0)).get? b=some o:=fun b o eb=>by
   refine Heap.get?_push_of_some _ (Heap.get?_push_of_some _ ?_);have hlt:b < s.heap.objs.size:=Heap.lt_size eb;exact (s1.2 b (Nat.ne_of_lt (by rw[ea];exact Nat.lt_succ_of_lt hlt))).trans (keep b o eb)
  have ga:(((h3.update a (Obj.mapSeq fun _=>(#[]:Array Value))).push (seqObj "tuple" vs.toArray 0)).push (seqObj "list" #[] 0)).get? a=some (seqObj "list" #[] e1):=Heap.get?_push_of_some _ (Heap.get?_push_of_some _ ho1);have gk:(((h3.update a (Obj.mapSeq fun _=>(#[]:Array Value))).push (seqObj "tuple" vs.toArray 0)).push (seqObj "list" #[] 0)).get? kS=some (seqObj "list" #[] 0):=by rw[ek];exact Heap.get?_push_size _ rfl
  generalize ((h3.update a (Obj.mapSeq fun _=>(#[]:Array Value))).push (seqObj "tuple" vs.toArray 0)).push (seqObj "list" #[] 0)=h6 at kp6 ga gk ⊢;have na:H a=none:=I.hok.fresh #v[];have nk:H kS=none:=I.hok.fresh #v[];have pa:Apart X pins a:=(I.fpOk (H':=H) #v[] na).apart;have pk:Apart X pins kS:=(I.fpOk (H':=H) #v[] nk).apart;have hak:kS≠a:=by omega
  have pk' : Apart X ((a,seqObj "list" #[] e1)::pins) kS:=⟨pk.l,pk.f,pk.x,pk.c,fun p hp=>by
   rcases List.mem_append.mp hp with z | z
   ·exact pk.p p (List.mem_append_left _ z)
   ·rcases List.mem_cons.mp z with rfl | z
    ·exact hak.symm
    ·exact pk.p p (List.mem_append_right _ z)⟩
  have I6:Inv X pins σ H { s with heap:=h6 }:=I.kept (t':=s.toks) kp6;have I7:Inv X ((kS,seqObj "list" #[] 0)::(a,seqObj "list" #[] e1)::pins) σ H { s with heap:=h6 }:=I6.pins_of fun p hp=>by
   rcases List.mem_cons.mp hp with rfl | hp
   ·exact⟨gk,nk,pk.l,pk.f,fun v z=>by cases z⟩
   ·rcases List.mem_cons.mp hp with rfl | hp
    ·exact⟨ga,na,pa.l,pa.f,fun v z=>by cases z⟩
    ·exact I6.pin p (List.mem_append_right _ hp)
  refine zvs (X:=X.inn) (pins:=pins) KC I7.inn al R rv rws hk hz' ⟨pk'.l,pk'.f,pk'.x,pk'.c,pk'.p⟩ fun s' H' F' keys e kvs I8 s8 R8 rk rp=>?_;have I8':=I8.out;nofun;obtain⟨g1,g2,_⟩:=I8'.pin (kS,seqObj "list" keys e) (List.mem_append_right _ List.mem_cons_self);obtain⟨g3,g4,_⟩:=I8'.pin (a,seqObj "list" #[] e1) (List.mem_append_right _ (List.mem_cons_of_mem _ List.mem_cons_self));ac_rfl;have hks:keys.size=vs.length:=by
   have a1:kvs.length=keys.size:=rk.length.trans Array.length_toList;have a2:ks.length=kvs.length:=rp.length;omega
  unfold zv2 at hs;obtain⟨kl,hkl,hs⟩:=bS hs;split at hs
  ·rename_i dc;rw[Bool.and_eq_true] at dc;nofun;obtain⟨κ,kd,C,ekl⟩:=zw3 (A:=X.A.in1.in1) (E:=E) (vs:=vs) I8' R8.sub (by show X.A.units+1+1+2 < cLine;omega) rk rp hkl hks;ac_rfl;refine z0p (kf:=kfV H') g1 g3 hak hks hz' kd C fun r h' c pm pw ga' kp'=>⟨_,rfl,?_⟩;obtain⟨zs,p1,al2⟩:=All2.perm pm.symm (zm9 (K:=X.K) (F:=F') (kf:=kfV H') (ku:=keys.toList) rv (rws.mono s8));rw[ekl] at p1;have ps:zs.Pairwise leK:=All2.pair (P:=leK) (Q:=fun x y:Keyed=>lexI (kfV H' y.1) (kfV H' x.1)=false) (fun z x z' x' h1 h2 q=>by show lexI z'.1 z.1=false;rw[<-h1.1,<-h2.1];exact q) al2 pw;have ez:zs=zo8 (kl.zip ws):=zg7 (p1.symm.trans (zgx _).symm) ps (ze1 _) fun x hx y hy=>zsm (zgf dc.1) x (p1.symm.mem_iff.mp hx) y (p1.symm.mem_iff.mp hy);obtain⟨ov,o1,o2⟩:=zna al2;have eo:out=zs.map (·.2):=by rw[ez];exact (sI hs).symm
   rw[<-eo] at o2;have lo:ov.length<=sizeLine:=by
    have:out.length=ov.length:=o2.length;have l2:out.length=zs.length:=by rw[eo,List.length_map]
    have l3:=p1.length_eq;rw[List.length_zip] at l3;omega
   have I9:Inv X pins σ H' s':=I8'.pins_of fun p hp=>I8'.pin p (List.mem_append_right _ (List.mem_cons_of_mem _ (List.mem_cons_of_mem _ hp)));have I10:Inv X pins σ (upd H' a (.lst ov)) { s' with heap:=h' }:=I9.adopt (t':=s'.toks) (ch:=[a,kS]) (fun b o hb eb=>kp' b o (fun z=>hb (by simp [z])) (fun z=>hb (by simp [z])) eb) (fun b hb=>by
    rcases List.mem_cons.mp hb with rfl | hb
    ·exact pa.fp g4
    ·rw[List.mem_singleton.mp hb];exact pk.fp g2) List.mem_cons_self ⟨lo,r.map (·.2),c,o1,ga'⟩
   refine wpAny_pure ⟨_,rfl,.ref a,_,I10,rfl,?_⟩;nofun;obtain⟨F9,s9,R9,y9⟩:=(Out.lst (K:=X.K) (F:=F') (H:=H') (p:=a) g4 o2).close R8;ac_rfl;exact h F9 _ _ (s8.trans s9) R9 y9
  ·exact noSome hs
end
section
variable {prog:Program}{w:World}{A:Around}{E:Value->Shared->Prop}{s:Shared}{a:Addr}{vs:List Value}{P:PySem.Fin->Shared->Prop}
end
noncomputable def zzs (ns:List Int):List Int:=(zo8 (ns.map fun n=>([n],W.int n))).map fun z=>z.1.headD 0
section
variable {X:Cx}
end
noncomputable def z1k:ON
 | [w]=>(seqW w).bind fun ws=>(zcz ws).bind fun ns=>#v[((zzs ns).map W.int),2]
 | _=>none
structure Sx where
 N:List Str
 kd:List (Str × NameKind)
 bn:List Str
 fs:List (Str × (List Bool × Fn))
 mp:List Nat
 top:Bool
 nm:Str := ""
 dp:Nat:=0
noncomputable def Sx.rd (S:Sx) (x:Str):Option Nat:=if x == ("__debug__" : Str) || x == ("__classdict__" : Str) then none else match S.kd.lookup x with
 | some .local=>S.N.findIdx? (· == x)
 | some .cell=>S.N.findIdx? (· == x)
 | some .free=>S.N.findIdx? (· == x)
 | _=>none
noncomputable def Sx.wr (S:Sx) (x:Str):Option Nat:=match S.kd.lookup x with
 | some .local=>S.N.findIdx? (· == x)
 | some .cell=>S.N.findIdx? (· == x)
 | _=>none
noncomputable def Sx.bl (S:Sx) (x:Str):Bool:=S.kd.lookup x == some .globalImplicit && S.bn.contains x
structure CxOk (X:Cx) (S:Sx) (d:Nat):Prop where
 N:X.N=S.N
 nd:S.N.Nodup
 loc:∀x,S.kd.lookup x=some .local->X.env.scope.names.lookup x=some .local
 cel:∀x,S.kd.lookup x=some .cell->X.env.scope.names.lookup x=some .cell/\X.fn x=true
 vis:∀x,S.kd.lookup x=some .cell\/S.kd.lookup x=some .free->X.env.scope.names.lookup x=some .cell\/X.env.scope.names.lookup x=some .free
 gl:∀x,S.kd.lookup x=some .globalImplicit->Gl X x
 calm:X.calm=true
 xe:X.xe=fun _ _=>False
 bn:∀x∈S.bn,X.mg x=none
 fs:∀x m Φ,S.fs.lookup x=some (m,Φ)->∃ps,ps.length=m.length/\Cal X.prog X.w X.K X.mg X.base d x ps (spF X.K m Φ)
 room:Room d X.A
 sl:X.A.units+16 * d+205 < cLine
 bk:X.env.blockKind=.function
 lam:S.nm∈lams->∃c P,PySem.W.tabIn X.K S.nm=some (c,P)/\PySem.W.codeHdIn X.K c P=true/\X.env.code=.ref c/\X.env.qual=S.nm++".<locals>."
 dpo:S.dp<=d
theorem zfg {N:List Str}{x:Str}{i:Nat}(h:N.findIdx? (· == x)=some i):N[i]?=some x:=by
 obtain⟨hl,h1,_⟩:=List.findIdx?_eq_some_iff_getElem.mp h;rw[List.getElem?_eq_getElem hl];have:N[i]=x:=by simpa using h1
 rw[this]
section
variable {X:Cx}{S:Sx}{d:Nat}
theorem zo3 (C:CxOk X S d){x:Str}{i:Nat}{pos:Pos}(h:S.rd x=some i):PE X (.Name x pos) (tVar i):=by
 unfold Sx.rd at h;split at h
 ·exact noSome h
 ·rename_i z;rw[Bool.or_eq_true,not_or,Bool.not_eq_true,Bool.not_eq_true] at z;split at h
  ·rename_i e;exact zoc (by rw[C.N];exact zfg h) (.inl (C.loc x e)) z.1 z.2
  ·rename_i e;exact zoc (by rw[C.N];exact zfg h) (.inr (C.vis x (.inl e))) z.1 z.2
  ·rename_i e;exact zoc (by rw[C.N];exact zfg h) (.inr (C.vis x (.inr e))) z.1 z.2
  ·exact noSome h
theorem zpq (C:CxOk X S d){x:Str}{i:Nat}(h:S.wr x=some i):X.N[i]?=some x/\Loc X.env.scope x/\(X.fn x=true\/X.env.scope.names.lookup x=some .local):=by
 unfold Sx.wr at h;split at h
 ·rename_i e;exact⟨by rw[C.N];exact zfg h,.inl (C.loc x e),.inr (C.loc x e)⟩
 ·rename_i e;exact⟨by rw[C.N];exact zfg h,.inr (C.cel x e).1,.inl (C.cel x e).2⟩
 ·exact noSome h
theorem ze3 (C:CxOk X S d){x:Str}(h:S.bl x=true):Gl X x/\X.mg x=none:=by
 unfold Sx.bl at h;rw[Bool.and_eq_true] at h;exact⟨C.gl x (by simpa using h.1),C.bn x (by simpa using h.2)⟩
theorem ndN (C:CxOk X S d):X.N.Nodup:=by rw[C.N];exact C.nd
end
noncomputable def zn5:Expr->Bool
 | .Set ..=>false
 | _=>true
noncomputable def zdn:Expr->Bool
 | .Slice ..=>false
 | _=>true
noncomputable def zfl:Expr->Bool
 | .ListComp ..=>false
 | .SetComp ..=>false
 | .DictComp ..=>false
 | _=>true
noncomputable def zoq:Expr->Bool
 | .UnaryOp .Not _ _=>false
 | .BoolOp ..=>false
 | .IfExp ..=>false
 | .Compare ..=>false
 | _=>true
theorem zte {e:Expr}{env:Env}(h:zn5 e=true):∀x,foldedSetIterable e env x=pure x:=by
 intro x;cases e<;>first | rfl | (cases h)
theorem zom {op:CmpOp}{e:Expr}(h:zn5 e=true):behindInMarks op e=false:=by
 cases e<;>first | rfl | (cases h)
theorem zpw {e:Expr}(h:zdn e=true):zsp e:=fun o i=>by
 cases e<;>first | rfl | (cases h)
theorem zns {e:Expr}{t:Option Expr}{l:Nat}{env:Env}(h:zfl e=true):swapsWith e t l env=pure false:=by
 cases e<;>first | rfl | (cases h)
theorem zps {e:Expr}{env:Env}(h:zoq e=true):∀whole,isTrue e env whole=(do let v <- whole;standAt e.pos;holding [v] (truthy v)):=by
 intro whole;cases e with
 | UnaryOp op _ _=>cases op<;>first | rfl | (cases h)
 | _=>first | rfl | (cases h)
theorem znj {es:List Expr}{env:Env}{pos:Pos} (h:es.all zad=true):(backTo pos (starEach es env)).any (·.1)=false:=by
  induction es with
  | nil=>rfl
  | cons e es ih =>
    rw[List.all_cons,Bool.and_eq_true] at h;rw[zag h.1];show (false || (backTo pos (starEach es env)).any (·.1))=false;rw[ih h.2]
    rfl
noncomputable def cPow (i j:Int):Bool:=decide (0<=j) && decide (j<=1000000) && decide (i.natAbs < 2 ^ 64)
noncomputable def cMul (i j:Int):Bool:=(decide (-(2 ^ 64) < i) && decide (i < 2 ^ 64)) || (decide (-(2 ^ 64) < j) && decide (j < 2 ^ 64))
noncomputable def zpb (i j:Int):Bool:=decide (Builtin.Int.intBits i<=2 ^ 20) && decide (Builtin.Int.intBits j<=2 ^ 20)
noncomputable def cDiv (i j:Int):Bool:=decide (0 < j) && decide (j.natAbs.log2 < 9000)
noncomputable def yes2 (_ _:Int):Bool:=true
noncomputable def oAdd:O2:=oOr (oI yes2 fun i j=>.int (i+j)) (oOr oCat (oOr zu3 (oOr z1x zu9)))
noncomputable def oMult:O2:=oOr (oI cMul fun i j=>.int (i * j)) (oOr (oI zpb fun i j=>.int (i * j)) oRep)
noncomputable def binO:Operator->Option O2
 | .Add=>some oAdd
 | .Sub=>some #v[0,0,0]
 | .Mult=>some oMult
 | .FloorDiv=>some #v[0,0,3]
 | .Mod=>some #v[0,0,2]
 | .Pow=>some (oI cPow fun i j=>.int (i ^ j.toNat))
 | .LShift=>some #v[0,0,1]
 | .RShift=>some (oI (fun _ j=>decide (0<=j)) fun i j=>.int (i / 2 ^ j.toNat))
 | .BitAnd=>some (oI yes2 fun i j=>.int (Builtin.bitAnd i j))
 | .BitOr=>some (oI yes2 fun i j=>.int (Builtin.bitOr i j))
 | .BitXor=>some (oI yes2 fun i j=>.int (Builtin.bitXor i j))
 | _=>none
theorem ztb {i j:Int}(h:cPow i j=true):CPow i j:=by
 unfold cPow at h;rw[Bool.and_eq_true,Bool.and_eq_true] at h;exact⟨of_decide_eq_true h.1.1,of_decide_eq_true h.1.2,of_decide_eq_true h.2⟩
theorem z01 {i j:Int}(h:cMul i j=true):CMul i j:=by
 unfold cMul at h;rw[Bool.or_eq_true,Bool.and_eq_true,Bool.and_eq_true] at h;rcases h with h | h
 ·exact .inl ⟨of_decide_eq_true h.1,of_decide_eq_true h.2⟩
 ·exact .inr ⟨of_decide_eq_true h.1,of_decide_eq_true h.2⟩
theorem zwl {i j:Int}(h:zpb i j=true):z5e i j:=by
 unfold zpb at h;rw[Bool.and_eq_true] at h;exact⟨of_decide_eq_true h.1,of_decide_eq_true h.2⟩
theorem z11 {i j:Int}(h:cDiv i j=true):0 < j/\j.natAbs.log2 < 9000:=by
 unfold cDiv at h;rw[Bool.and_eq_true] at h;exact⟨of_decide_eq_true h.1,of_decide_eq_true h.2⟩
section
variable {X:Cx}
theorem z18 {op:Operator}{o:O2}(h:binO op=some o):∃r,OpR X (binaryOp op) r/\OpS X.K r o:=by
 cases op with
 | Add=>obtain rfl:=sI h;exact⟨_,z2r.or (z3t.or (zzu.or (z00.or zoz))),(zea fun _ _ _=>.int _).or (zzj.or (zv7.or (zxc.or zun)))⟩
 | Sub=>obtain rfl:=sI h;exact⟨_,z5z,zea fun _ _ _=>.int _⟩
 | Mult=>obtain rfl:=sI h;exact⟨_,z5p.or (z1m.or z4t),(zm6 (fun _ _=>z01) fun _ _ _=>.int _).or ((zm6 (fun _ _=>zwl) fun _ _ _=>.int _).or z07)⟩
 | FloorDiv=>obtain rfl:=sI h;exact⟨_,zw6,zm6 (fun _ _=>z11) fun _ _ _=>.int _⟩
 | Mod=>obtain rfl:=sI h;exact⟨_,z41,zm6 (fun _ _=>of_decide_eq_true) fun _ _ _=>.int _⟩
 | Pow=>obtain rfl:=sI h;exact⟨_,z30,zm6 (fun _ _=>ztb) fun _ _ _=>.int _⟩
 | LShift=>obtain rfl:=sI h;exact⟨_,z44,zm6 (fun _ _=>ztb) fun _ _ _=>.int _⟩
 | RShift=>obtain rfl:=sI h;exact⟨_,z2w,zm6 (fun _ _=>of_decide_eq_true) fun _ _ _=>.int _⟩
 | BitAnd=>obtain rfl:=sI h;exact⟨_,z22,zea fun _ _ _=>.int _⟩
 | BitOr=>obtain rfl:=sI h;exact⟨_,z7k,zea fun _ _ _=>.int _⟩
 | BitXor=>obtain rfl:=sI h;exact⟨_,z4z,zea fun _ _ _=>.int _⟩
 | _=>exact noSome h
noncomputable def cmpO:CmpOp->Option O2
 | .Eq=>some oEq
 | .NotEq=>some oNe
 | .Lt=>some (oI yes2 fun i j=>.bl (decide (i < j)))
 | .LtE=>some (oI yes2 fun i j=>.bl (decide (i<=j)))
 | .Gt=>some (oI yes2 fun i j=>.bl (decide (j < i)))
 | .GtE=>some (oI yes2 fun i j=>.bl (decide (j<=i)))
 | .IsNot=>some zng
 | _=>none
theorem z2a {kr:Nat}(hr:Room kr X.A){op:CmpOp}{o:O2}(h:cmpO op=some o):∃r,OpR X (compareOp op) r/\OpS X.K r o:=by
 cases op with
 | Eq=>obtain rfl:=sI h;exact⟨_,.or z6v (z5y hr),z36⟩
 | NotEq=>obtain rfl:=sI h;exact⟨_,.or z6x (z5o hr),z2u⟩
 | Lt=>obtain rfl:=sI h;exact⟨_,z7m,zea fun _ _ _=>.bl _⟩
 | LtE=>obtain rfl:=sI h;exact⟨_,z6o,zea fun _ _ _=>.bl _⟩
 | Gt=>obtain rfl:=sI h;exact⟨_,z7q,zea fun _ _ _=>.bl _⟩
 | GtE=>obtain rfl:=sI h;exact⟨_,z61,zea fun _ _ _=>.bl _⟩
 | IsNot=>obtain rfl:=sI h;exact⟨_,zzt.or zqj,zp6⟩
 | _=>exact noSome h
end
noncomputable def za4 (f:Sx->Expr->Option GE) (S:Sx) (e:Expr):Option GA:=match e with
 | .Name x _=>(S.rd x).bind fun i=>some (zaa i)
 | _=>(f S e).bind fun g=>some (gArg g)
noncomputable def asL (f:Expr->Option GA):List Expr->Option GAs
 | []=>some gA0
 | e::es=>if zad e then (f e).bind fun a=>(asL f es).bind fun as=>some (gCns a as) else none
noncomputable def asM (f:Sx->Expr->Option GE) (S:Sx):List Expr->List Bool->Option GAs
 | [],[]=>some gA0
 | e::es,b::m=>if zad e then (if b then za4 f S e else (f S e).bind fun g=>some (gArg g)).bind fun a=>(asM f S es m).bind fun as=>some (gCns a as) else none
 | _,_=>none
noncomputable def zbp (f:Sx->Expr->Option GE):Prop:=∀X S d,CxOk X S d->∀e g,f S e=some g->PE X e (tE X.K g)
noncomputable def zkt (f:Sx->Expr->Option GT):Prop:=∀X S d,CxOk X S d->∀e g,f S e=some g->PT X e (tT X.K g)
section
variable {X:Cx}{S:Sx}{d:Nat}{f:Sx->Expr->Option GE}
theorem zaj (Hf:zbp f)(C:CxOk X S d){e:Expr}{a:GA}(h:za4 f S e=some a):PE X e (tA X.K a):=by
 unfold za4 at h;split at h
 ·obtain⟨i, hi, h⟩ := bS h;obtain rfl:=sI h;exact (zo3 C hi).wk fun _ _ _=>zqr
 ·obtain⟨g, hg, h⟩ := bS h;obtain rfl:=sI h;exact (Hf X S d C _ _ hg).wk fun _ _ _=>zhg
theorem zf0 {fa:Expr->Option GA} (Hf:∀e a,fa e=some a->PE X e (tA X.K a)):∀{es:List Expr}{as:GAs},asL fa es=some as->PA X es (tAs X.K as)/\es.all zad=true
  | [],_,h=>by obtain rfl:=sI h;exact⟨zdd.wk fun _ _ _=>zn7,rfl⟩
  | e::es,_,h=>by
    unfold asL at h;split at h
    · rename_i z
      obtain⟨a,ha,h⟩:=bS h;obtain⟨as,has,h⟩:=bS h;obtain rfl:=sI h;obtain⟨p,q⟩:=zf0 Hf has;exact⟨(pac (Hf e a ha) p z).wk fun _ _ _=>znt,by rw[List.all_cons,z,q];rfl⟩
    · exact noSome h
theorem zys (Hf:zbp f) (C:CxOk X S d):∀{es:List Expr}{m:List Bool}{as:GAs},asM f S es m=some as->PA X es (tAs X.K as)/\es.all zad=true
  | [],[],_,h=>by obtain rfl:=sI h;exact⟨zdd.wk fun _ _ _=>zn7,rfl⟩
  | e::es,b::m,_,h=>by
    unfold asM at h;split at h
    · rename_i z
      obtain ⟨a,ha,h⟩:=bS h;obtain ⟨as,has,h⟩:=bS h;obtain rfl:=sI h;obtain ⟨p,q⟩:=zys Hf C has;have pe:PE X e (tA X.K a):=by
        cases b with
        | true=>exact zaj Hf C (by simpa using ha)
        | false =>
          obtain⟨g,hg,ha⟩:=bS (show (f S e).bind _=some a from by simpa using ha);obtain rfl:=sI ha;exact (Hf X S d C _ _ hg).wk fun _ _ _=>zhg
      exact⟨(pac pe p z).wk fun _ _ _=>znt,by rw[List.all_cons,z,q];rfl⟩
    · exact noSome h
  | [],_::_,_,h=>by exact noSome h
  | _::_,[],_,h=>by exact noSome h
end
noncomputable def cmpE (f:Sx->Expr->Option GE) (S:Sx) (a:Expr) (ops:List CmpOp) (cs:List Expr):Option GE:=match ops,cs with
 | [op],[b]=>if zn5 b then (za4 f S a).bind fun x=>(za4 f S b).bind fun y=>(cmpO op).bind fun o=>some (gOp2 o x y) else none
 | _,_=>none
noncomputable def z1j (f:Expr->Option GE) (op:BoolOp):Expr->List Expr->Option GE
 | v,[]=>f v
 | v,u::us=>match op with | .And=>(f v).bind fun a=>(z1j f op u us).bind fun b=>some (gAnd a b) | .Or=>none
noncomputable def z0y (f:Expr->Option GT) (op:BoolOp):Expr->List Expr->Option GT
 | v,[]=>f v
 | v,u::us=>(f v).bind fun a=>(z0y f op u us).bind fun b=>some (match op with | .And=>zgt a b | .Or=>gOrT a b)
section
variable {X:Cx}{S:Sx}{d:Nat}{f:Sx->Expr->Option GE}
theorem ztk (Hf:zbp f)(C:CxOk X S d){a:Expr}{ops:List CmpOp}{cs:List Expr}{g:GE}{pos:Pos}(h:cmpE f S a ops cs=some g):PE X (.Compare a ops cs pos) (tE X.K g)/\PT X (.Compare a ops cs pos) (tT X.K (zak g)):=by
 unfold cmpE at h;split at h
 ·rename_i op b;split at h
  ·rename_i z;nofun;obtain⟨x,hx,h⟩:=bS h;obtain⟨y,hy,h⟩:=bS h;obtain⟨o,ho,h⟩:=bS h;ac_rfl;obtain rfl:=sI h;obtain⟨r,h1,h2⟩:=z2a (X:=X) C.room ho;exact⟨(zy9 h1 (zaj Hf C hx) (zaj Hf C hy) (zom z)).wk fun _ _ _=>ze5 h2,(z0b h1 (zaj Hf C hx) (zaj Hf C hy) (zom z)).wk fun _ _ _=>zjk fun _ _ _=>ze5 h2⟩
  ·exact noSome h
 ·exact noSome h
theorem zot {fe:Expr->Option GE} (Hf:∀e g,fe e=some g->PE X e (tE X.K g)) {op:BoolOp}{pos:Pos}:∀{v:Expr}{vs:List Expr}{g:GE},z1j fe op v vs=some g->PE X (.BoolOp op (v::vs) pos) (tE X.K g)
  | v,[],g,h=>z5c (Hf v g h)
  | v,u::us,g,h=>by
    cases op with
    | And =>
      obtain⟨a,ha,h⟩:=bS h;obtain⟨b,hb,h⟩:=bS h;obtain rfl:=sI h;exact (z4u (Hf v a ha) (zot Hf hb)).wk fun _ _ _=>zvm
    | Or=>exact noSome h
theorem zir {fe:Expr->Option GT} (Hf:∀e g,fe e=some g->PT X e (tT X.K g)) {op:BoolOp}{pos:Pos}:∀{v:Expr}{vs:List Expr}{g:GT},z0y fe op v vs=some g->PW X (.BoolOp op (v::vs) pos) (tT X.K g)
  | v,[],g,h=>by
    cases op with
    | And=>exact z16 (Hf v g h)
    | Or=>exact z4c (Hf v g h)
  | v,u::us,g,h=>by
    obtain⟨a,ha,h⟩:=bS h;obtain⟨b,hb,h⟩:=bS h;obtain rfl:=sI h;cases op with
    | And=>exact (z5q (Hf v a ha) (zir Hf hb)).wk fun _ _ _=>zt4
    | Or=>exact (z56 (Hf v a ha) (zir Hf hb)).wk fun _ _ _=>zxo
end
noncomputable def bltO (x:Str):Option ON :=
 if x == ("len" : Str) then some oLen else if x == ("abs" : Str) then some oAbs else if x == ("int" : Str) then some oInt else if x == ("list" : Str) then some zsh else if x == ("tuple" : Str) then some zbw else if x == ("all" : Str) then some (oBl fun bs=>bs.all id) else if x == ("any" : Str) then some (oBl fun bs=>bs.any id)
 else if x == ("sum" : Str) then some oSum else none
section
variable {X:Cx}{S:Sx}{d:Nat}
set_option maxHeartbeats 4000000 in
theorem z1l (C:CxOk X S d){x:Str}{o:ON}{e:Expr}{es:List Expr}{t:TA}{p pos:Pos}(hb:S.bl x=true)(h:bltO x=some o)(ha:PA X (e::es) t)(hst:(e::es).all zad=true):∃r,PE X (.Call (.Name x p) (e::es) [] pos) (tCB r t)/\OpSN X.K r o:=by
 obtain⟨g,m⟩:=ze3 C hb;rw[List.all_cons,Bool.and_eq_true] at hst;have s1:=zag (env:=X.env) (es:=es) hst.1;have s2:=znj (env:=X.env) (pos:=pos) hst.2;unfold bltO at h;split at h
 ·rename_i z;obtain rfl:=sI h;have e:=eq_of_beq z;subst e;exact⟨_,zch zey g m zyt ha #v[0,9] #v[0,9] s1 s2,zua⟩
 split at h
 ·rename_i z;obtain rfl:=sI h;have e:=eq_of_beq z;subst e;exact⟨_,zch zwu g m z29 ha #v[0,9] #v[0,9] s1 s2,zy1⟩
 split at h
 ·rename_i z;obtain rfl:=sI h;have e:=eq_of_beq z;subst e;exact⟨_,zd6 ztm g m zx6 ha #v[0,9] #v[0,9] s1 s2,z0o⟩
 split at h
 ·rename_i z;obtain rfl:=sI h;have e:=eq_of_beq z;subst e;exact⟨_,zd6 zkp g m zmk ha #v[0,9] #v[0,9] s1 s2,zui⟩
 split at h
 ·rename_i z;obtain rfl:=sI h;have e:=eq_of_beq z;subst e;exact⟨_,zd6 zhv g m zn1 ha #v[0,9] #v[0,9] s1 s2,zsd⟩
 split at h
 ·rename_i z;obtain rfl:=sI h;have e:=eq_of_beq z;subst e;exact⟨_,zch (zuf C.calm) g m z39 ha #v[0,9] #v[0,9] s1 s2,zyr⟩
 split at h
 ·rename_i z;obtain rfl:=sI h;have e:=eq_of_beq z;subst e;exact⟨_,zch (zvo C.calm) g m z31 ha #v[0,9] #v[0,9] s1 s2,zyr⟩
 split at h
 ·rename_i z;obtain rfl:=sI h;have e:=eq_of_beq z;subst e;exact⟨_,zch (ztq C.calm) g m z5d ha #v[0,9] #v[0,9] s1 s2,z0e⟩
 exact noSome h
noncomputable def z42 (x:Str):Option ON:=bltO x
theorem zv9 (C:CxOk X S d){x:Str}{o:ON}{e:Expr}{es:List Expr}{t:TA}{p pos:Pos}(hb:S.bl x=true)(h:z42 x=some o)(ha:PA X (e::es) t)(hst:(e::es).all zad=true):∃r,PE X (.Call (.Name x p) (e::es) [] pos) (tCB r t)/\OpSN X.K r o:=by
 exact z1l C hb h ha hst
end
noncomputable def kdOf (x:Str):Option Kd:=if x == ("int" : Str) then some .int else if x == ("bool" : Str) then some .bool else if x == ("str" : Str) then some .str else if x == ("tuple" : Str) then some .tuple else if x == ("list" : Str) then some .list else none
theorem z1w {x:Str}{k:Kd}(h:kdOf x=some k):bootBuiltins x=some (.type k.nm)/\x≠("__name__" : Str)/\(x == ("__debug__" : Str))=false:=by
 unfold kdOf at h;split at h
 ·rename_i z;obtain rfl:=sI h;have e:=eq_of_beq z;subst e;exact⟨zx6,by decide,by decide⟩
 split at h
 ·rename_i z;obtain rfl:=sI h;have e:=eq_of_beq z;subst e;exact⟨z2e,by decide,by decide⟩
 split at h
 ·rename_i z;obtain rfl:=sI h;have e:=eq_of_beq z;subst e;exact⟨z52,by decide,by decide⟩
 split at h
 ·rename_i z;obtain rfl:=sI h;have e:=eq_of_beq z;subst e;exact⟨zn1,by decide,by decide⟩
 split at h
 ·rename_i z;obtain rfl:=sI h;have e:=eq_of_beq z;subst e;exact⟨zmk,by decide,by decide⟩
 exact noSome h
noncomputable def zq7:Expr->Bool
 | .Call _ _ _ _=>true
 | _=>false
theorem zst {o:Expr}{a:Str}{env:Env}{w:Sem Value}(h:zq7 o=false):attributeBase o a env w=w:=by
 cases o<;>first | rfl | (cases h)
noncomputable def zy4 (f:Sx->Expr->Option GE) (S:Sx) (o:Expr) (name:Str) (apos:Pos) (args:List Expr) (cpos:Pos):Option GE :=
  if !(apos.endLine == cpos.line) || zq7 o then none else match args with
  | [e]=>if !zad e then none else match o with
    | .Name x _=>(S.rd x).bind fun i=>(f S e).bind fun g=>if name == ("append" : Str) then some (gApp i g) else none
    | _=>none
  | _=>none
theorem zt8 {e:Expr}{env:Env}{cpos:Pos}(h:zad e=true):((backTo cpos (starEach [e] env)).all (fun x=>!x.1) && (backToKw cpos (keywordEach [] env)).all (fun x=>x.1.isSome) && decide (([e]:List Expr).length+([]:List Keyword).length+(if ([]:List Keyword).isEmpty then 0 else 1) < 30))=true:=by
 rw[zag h];rfl
section
variable {X:Cx}{S:Sx}{d:Nat}{f:Sx->Expr->Option GE}
theorem zwr (Hf:zbp f)(C:CxOk X S d){o:Expr}{name:Str}{apos cpos:Pos}{args:List Expr}{g:GE}(h:zy4 f S o name apos args cpos=some g):PE X (.Call (.Attribute o name apos) args [] cpos) (tE X.K g):=by
 unfold zy4 at h;split at h
 ·exact noSome h
 ·rename_i z;rw[Bool.or_eq_true,not_or,Bool.not_eq_true,Bool.not_eq_true,Bool.not_eq_false'] at z;have hb:=zst (a:=name) (env:=X.env) (w:=eval o X.env) z.2;split at h
  ·rename_i e;split at h
   ·exact noSome h
   ·rename_i y;rw[Bool.not_eq_true,Bool.not_eq_false'] at y;split at h
    ·rename_i x px;obtain⟨i,hi,h⟩:=bS h;obtain⟨ge,hg,h⟩:=bS h;have pa:PA X [e] (zdv (tE X.K ge) tNil):=pac (Hf X S d C _ _ hg) zdd y;split at h
     ·rename_i q;obtain rfl:=sI h;have e':=eq_of_beq q;subst e';exact (z27 PySem.F.plainAttrs_list PySem.F.slot_list_append PySem.F.type_list_append zi8 (zo3 C hi) pa hb (zt8 y) z.1 (zag y) rfl).wk fun _ _ _=>zu1
     ·exact noSome h
    ·exact noSome h
  ·exact noSome h
end
noncomputable def zue (f:Sx->Expr->Option GE) (S:Sx) (x:Str) (args:List Expr):Option GE:=if x == ("__debug__" : Str) then none else match args with
  | []=>none
  | e::es=>match S.fs.lookup x with
    | some (m,Φ)=>if S.kd.lookup x == some .globalImplicit then (asM f S (e::es) m).bind fun as=>some (gCall m Φ as) else none
    | none=>if x == ("isinstance" : Str) && S.bl x then (match e,es with
        | e,[.Name t _]=>if zad e && S.bl t then (kdOf t).bind fun k=>(za4 f S e).bind fun a=>some (gOp1 (oIsi k) a) else none
        | _,_=>none)
      else if S.bl x then (z42 x).bind fun o=>(asL (za4 f S) (e::es)).bind fun as=>some (gOpN o as) else none
theorem zor {X:Cx}{S:Sx}{d:Nat}{f:Sx->Expr->Option GE}(Hf:zbp f)(C:CxOk X S d){x:Str}{args:List Expr}{g:GE}{p pos:Pos}(h:zue f S x args=some g):PE X (.Call (.Name x p) args [] pos) (tE X.K g):=by
 unfold zue at h;split at h
 ·exact noSome h
 ·rename_i hdb;rw[Bool.not_eq_true] at hdb;split at h
  ·exact noSome h
  ·rename_i e es;split at h
   ·rename_i m Φ hfs;split at h
    ·rename_i hgl;obtain⟨as,has,h⟩:=bS h;obtain rfl:=sI h;obtain⟨ps,hl,cal⟩:=C.fs x m Φ hfs;obtain⟨pa,st⟩:=zys Hf C has;rw[List.all_cons,Bool.and_eq_true] at st;exact (z4k cal C.room (C.gl x (by simpa using hgl)) pa (Nat.le_refl _) hdb (zag st.1) (znj st.2)).wk fun _ _ _=>zsr
    ·exact noSome h
   ·split at h
    ·rename_i hi;rw[Bool.and_eq_true] at hi;have e':=eq_of_beq hi.1;subst e';obtain⟨gI,mI⟩:=ze3 C hi.2;split at h
     ·rename_i t pt;split at h
      ·rename_i z;rw[Bool.and_eq_true] at z;obtain⟨k,hk,h⟩:=bS h;obtain⟨a,ha,h⟩:=bS h;obtain rfl:=sI h;obtain⟨k1,k2,k3⟩:=z1w hk;obtain⟨gT,mT⟩:=ze3 C z.2;have pt' : PE X (.Name t pt) (tC (.ty k.nm)):=z1r gT mT k1 rfl k2 k3;have pa:PA X [e,.Name t pt] (zdv (tA X.K a) (zdv (tC (.ty k.nm)) tNil)):=pac (zaj Hf C ha) (pac pt' zdd rfl) z.1;exact (zch zva gI mI zhx pa #v[0,9] hdb (zag z.1) rfl).wk fun _ _ _=>zvw
      ·exact noSome h
     ·exact noSome h
    ·split at h
     ·rename_i hb;obtain⟨o,ho,h⟩:=bS h;obtain⟨as,has,h⟩:=bS h;obtain rfl:=sI h;obtain⟨pa,st⟩:=zf0 (fun e a ha=>zaj Hf C ha) has;obtain⟨r,h1,h2⟩:=zv9 (pos:=pos) (p:=p) C hb ho pa st;exact h1.wk fun _ _ _=>zn2 h2
     ·exact noSome h
noncomputable def dOn (S:Sx) (x:Str):Bool:=S.bn.contains (("d " : Str)++x)
noncomputable def zqx (f:Sx->Expr->Option GE) (S:Sx) (tg e:Expr):Option GL:=if !zn5 e then none else match e with
  | .Call (.Name x _) args [] _ =>
    if x == ("range" : Str) && S.bl x then (match args with
      | [a]=>if zad a then (asL (za4 f S) [a]).bind fun as=>some (zbb as) else none
      | _=>none)
    else if x == ("enumerate" : Str) && S.bl x then (match args,tg with
      | [a],.Tuple _ _ _=>if zad a then (f S a).bind fun g=>some (zm7 g) else none
      | _,_=>none)
    else if x == ("reversed" : Str) && S.bl x then (match args with
      | [a]=>if zad a then (f S a).bind fun g=>some (gRev g) else none
      | _=>none)
    else if x == ("zip" : Str) && S.bl x then (match args,tg with
      | [a,b],.Tuple _ _ _=>if zad a && zad b then (f S a).bind fun g=>(f S b).bind fun g'=>some (gZip g g') else none
      | _,_=>none)
    else (f S e).bind fun g=>some (zb5 g)
  | _=>(f S e).bind fun g=>some (zb5 g)
theorem zov {X:Cx}{S:Sx}{d:Nat}{f:Sx->Expr->Option GE}(Hf:zbp f)(C:CxOk X S d){tg e:Expr}{g:GL}(h:zqx f S tg e=some g):PI X tg e (tI X.K g)/\∀x,foldedSetIterable e X.env x=pure x:=by
 unfold zqx at h;split at h
 ·exact noSome h
 ·rename_i hs;rw[Bool.not_eq_true,Bool.not_eq_false'] at hs;refine⟨?_,zte hs⟩;split at h
  ·rename_i x px args pc;split at h
   ·rename_i z;rw[Bool.and_eq_true] at z;have e':=eq_of_beq z.1;subst e';obtain⟨gl,mg⟩:=ze3 C z.2;split at h
    ·rename_i a;split at h
     ·rename_i y;obtain⟨as,has,h⟩:=bS h;obtain rfl:=sI h;obtain⟨pa,_⟩:=zf0 (fun e a ha=>zaj Hf C ha) has;exact (zqz gl mg pa (zag y)).wk fun _ _ _=>zq3
     ·exact noSome h
    ·exact noSome h
   ·split at h
    ·rename_i z;rw[Bool.and_eq_true] at z;have e':=eq_of_beq z.1;subst e';obtain⟨gl,mg⟩:=ze3 C z.2;split at h
     ·rename_i a es k1 p1;split at h
      ·rename_i y;obtain⟨ge,hg,h⟩:=bS h;obtain rfl:=sI h;exact (zxb gl mg (pac (Hf X S d C _ _ hg) zdd y) (zag y)).wk fun _ _ _=>zqb
      ·exact noSome h
     ·exact noSome h
    ·split at h
     ·rename_i z;rw[Bool.and_eq_true] at z;have e':=eq_of_beq z.1;subst e';obtain⟨gl,mg⟩:=ze3 C z.2;split at h
      ·rename_i a;split at h
       ·rename_i y;obtain⟨ge,hg,h⟩:=bS h;obtain rfl:=sI h;exact (z3o gl mg (pac (Hf X S d C _ _ hg) zdd y) (zag y)).wk fun _ _ _=>zu8
       ·exact noSome h
      ·exact noSome h
     ·split at h
      ·rename_i z;rw[Bool.and_eq_true] at z;have e':=eq_of_beq z.1;subst e';obtain⟨gl,mg⟩:=ze3 C z.2;split at h
       ·rename_i a b es k1 p1;split at h
        ·rename_i y;rw[Bool.and_eq_true] at y;nofun;obtain⟨ge,hg,h⟩:=bS h;obtain⟨ge',hg',h⟩:=bS h;ac_rfl;obtain rfl:=sI h;exact (z2o gl mg (pac (Hf X S d C _ _ hg) (pac (Hf X S d C _ _ hg') zdd y.2) y.1) (by rw[zag y.1,zag y.2];rfl) (zag y.2)).wk fun _ _ _=>zw0
        ·exact noSome h
       ·exact noSome h
      ·obtain⟨ge, hg, h⟩ := bS h;obtain rfl:=sI h;exact (zxt (Hf X S d C _ _ hg)).wk fun _ _ _=>zkw
  ·obtain⟨ge, hg, h⟩ := bS h;obtain rfl:=sI h;exact (zxt (Hf X S d C _ _ hg)).wk fun _ _ _=>zkw
noncomputable def zhr (S:Sx):List Expr->Option (List Nat)
 | []=>some []
 | .Name x _::es=>(S.wr x).bind fun i=>(zhr S es).bind fun is=>some (i::is)
 | _=>none
noncomputable def tgE0 (S:Sx):Expr->Option Tg
 | .Name x _=>(S.wr x).bind fun i=>some (.nm i)
 | .Tuple es _ _=>(zhr S es).bind fun is=>some (.tp is)
 | _=>none
section
variable {X:Cx}{S:Sx}{d:Nat}
theorem zgu (C:CxOk X S d):∀(es:List Expr) {is:List Nat},zhr S es=some is->PGs X es (zgv is)/\(assignEach es X.env).length=is.length/\(assignEach es X.env).findIdx? (·.1)=none:=by
  intro es
  induction es with
  | nil=>intro is h;obtain rfl:=sI h;exact⟨zsv,rfl,rfl⟩
  | cons e es ih =>
    intro is h;obtain ⟨x,p,rfl⟩ : ∃x p,e=.Name x p:=by
      cases e with
      | Name x p=>exact⟨x,p,rfl⟩
      | _=>exact noSome h
    nofun;obtain⟨i,hi,h⟩:=bS (show (S.wr x).bind _=_ from h);obtain⟨is,his,h⟩:=bS h;ac_rfl;obtain rfl:=sI h;nofun;obtain⟨a,b,c⟩:=ih his;obtain⟨w1,w2,w3⟩:=zpq C hi;ac_rfl;refine⟨zhe (zlu (ndN C) w1 w2 w3) a rfl,congrArg (· + 1) b,?_⟩;show List.findIdx? (·.1) ((false,assign (.Name x p) X.env)::assignEach es X.env)=none;rw[List.findIdx?_cons,c]
    rfl
theorem z0u (C:CxOk X S d){e:Expr}{T:Tg}(h:tgE0 S e=some T):PG X e (TGof X.K T):=by
 unfold tgE0 at h;split at h
 ·obtain⟨i, hi, h⟩ := bS h;obtain rfl:=sI h;obtain⟨w1,w2,w3⟩:=zpq C hi;exact zlu (ndN C) w1 w2 w3
 ·obtain⟨is, his, h⟩ := bS h;obtain rfl:=sI h;obtain⟨a,b,c⟩:=zgu C _ his;exact zm4 C.calm a b c
 ·exact noSome h
noncomputable def zub (S:Sx):Expr->Option Tg
 | .Tuple [.Name x _,.Tuple es _ _] _ _=>(S.wr x).bind fun i=>(zhr S es).bind fun js=>some (.nt i js)
 | _=>none
theorem zsn (C:CxOk X S d){e:Expr}{T:Tg}(h:zub S e=some T):PG X e (TGof X.K T):=by
 unfold zub at h;split at h
 ·obtain⟨i, hi, h⟩ := bS h;obtain⟨js,hjs,h⟩:=bS h;obtain rfl:=sI h;obtain⟨w1,w2,w3⟩:=zpq C hi;obtain⟨a,b,c⟩:=zgu C _ hjs;exact zm4 C.calm (zhe (zlu (ndN C) w1 w2 w3) (zhe (zm4 C.calm a b c) zsv rfl) rfl) rfl rfl
 ·exact noSome h
noncomputable def tgE (S:Sx) (e:Expr):Option Tg:=match tgE0 S e with
 | some T=>some T
 | none=>zub S e
theorem zym (C:CxOk X S d){e:Expr}{T:Tg}(h:tgE S e=some T):PG X e (TGof X.K T):=by
 unfold tgE at h;split at h
 ·rename_i T2 e2;obtain rfl:=sI h;exact z0u C e2
 ·exact zsn C h
end
noncomputable def zz8 (te:GE):Fn:=zah [false] 1 (gRet te)
noncomputable def lamΦ (te:GE) (w:W):Option W:=(zz8 te [w]).bind fun p=>if p.1.length=1 then some p.2.1 else none
noncomputable def zoe (te:GE) (a:GA):GE:=fun en=>(a en).bind fun p=>(resA p.1 p.2).bind fun w=>(seqL w).bind fun ws=>(mapO (lamΦ te) ws).bind fun ks=>(zv2 ks ws).bind fun out=>some (p.1,(.lst out,true))
theorem zko {scope:Scope}{env:Env} (h:(scope.names.all fun p=>!(p.2 == NameKind.free))=true):closureFor scope env=pure []:=by
  unfold closureFor;have go:∀(names:List (Str × NameKind)) (cs:List (Str × Addr)),(names.all fun p=>!(p.2 == NameKind.free))=true->(forIn names cs fun (p:Str × NameKind) cs=>(if p.2 == NameKind.free then do let c <- cellOf env p.1;pure (ForInStep.yield ((p.1,c)::cs)) else pure (ForInStep.yield cs):Sem (ForInStep (List (Str × Addr)))))=pure cs:=by
    intro names
    induction names with
    | nil=>intro cs _;rw[List.forIn_nil]
    | cons p r ih =>
      intro cs h;rw[List.all_cons,Bool.and_eq_true] at h;rw[List.forIn_cons];have e:(p.2 == NameKind.free)=false:=by simpa using h.1
      simp only [e,Bool.false_eq_true,if_false,pure_bind];exact ih cs h.2
  have:=go scope.names [] h;simpa using this
theorem zzo {P:Program}{w:World}{K:PySem.W.Frag}{mg:Str->Option Value}{base:Heap}{k:Nat}{f c' : Addr}{qual:Str}{params:Arguments}{body:Expr}{scope:Scope}{pm ctv:Value}{N ps:List Str}{A:Around}{outer:List Env}{s:Shared}{H:Hp}{us:List Value}{vs:List V}{Q:VK}{E:XK}
  (ho:s.heap.get? f=some (PySem.W.kla_obj "<lambda>" qual params body scope [] pm c' ctv)) (hcd:s.heap.CodeRec (.ref c') qual) (S:FnScope N ps scope) (hr:Room (k+1) A) (e0:Env0 P w K mg base A outer s H)
  (hb:bindArgs (PySem.W.kla_fn "<lambda>" qual params body scope [] pm (.ref c') ctv) ⟨us,[]⟩=pure (ps.zip us)) (r:Vals vs us) (hl:vs.length=ps.length)
  (hbody:Room k (A.deeper (envOfC qual scope s.heap.objs.size f (.ref c')))->∃t,PE (cxOf CX0 P w K mg base N qual scope f (.ref c') A outer s H E).nox body t/\t (start N vs) H Q) :
  codeAny (model P w) A (.call (.ref f) ⟨us,[]⟩) (CR CX0 outer P w H s Q E) s:=by
 have lim:s.heap.NoLimit:=e0.mod.nolimit.keeps fun b o e=>(e0.bs b o e).1;have hkind:∀y∈ps.zip us,scope.names.lookup y.1=some .local\/(scope.names.lookup y.1=some .cell/\((cellsFrom (s.heap.objs.size+1) scope.names []).lookup y.1).isSome=true):=fun ⟨n,v⟩ hy=>by
  rcases S.par n (List.of_mem_zip hy).1 with q | q
  ·exact .inl q
  ·exact .inr ⟨q,PySem.W.cellsFrom_some _ _ _ (.inl q)⟩
 refine PySem.W.kla_callFunE hr.depth ho rfl S.co S.gen rfl hcd ?_;rw[hb];refine wpAny_pure (wpAny_newFunctionEnv_cells S.kind hkind fun env he s1 x=>?_);subst he;refine⟨lim.keeps x.toInCall.keep,PySem.W.kla_codeExpr ?_⟩;obtain⟨t,ht,hq⟩:=hbody (hr.deeper _);have I:Inv (cxOf CX0 P w K mg base N qual scope f (.ref c') A outer s H E) [] (start N vs) H s1:=zj7 S hr.hd e0 hl r x;refine wpAny_mono (ht.nox [] s1 (start N vs) H Q I hq) (fun u s' hs=>?_) fun e s' hs=>hs;obtain⟨v,H',J,rv,q⟩:=hs;exact⟨v,H',J.os,J.bare,J.base,J.hok,rv,q⟩
noncomputable def zfp (params:Arguments):Option Str:=match params.posonlyargs,params.args,params.vararg,params.kwonlyargs,params.kwarg,params.defaults,params.kw_defaults with
 | [],[a],none,[],none,[],[]=>some a.arg
 | _,_,_,_,_,_,_=>none
theorem zxi {params:Arguments}{p:Str}(hp:zfp params=some p){qual:Str}{body:Expr}{scope:Scope}{pm ctv:Value}{c' : Addr}{u:Value}:bindArgs (PySem.W.kla_fn "<lambda>" qual params body scope [] pm (.ref c') ctv) ⟨[u],[]⟩=pure ([p].zip [u]):=by
 nofun;obtain⟨po,ar,va,ko,kd,ka,df⟩:=params;ac_rfl;unfold zfp at hp;split at hp
 ·rename_i a q1 q2 q3 q4 q5 q6 q7;simp only at q1 q2 q3 q4 q5 q6 q7;subst q1 q2 q3 q4 q5 q6 q7;obtain rfl:=sI hp;have e:([(a.arg,u)]:List (Str × Value)).lookup a.arg=some u:=by simp [List.lookup]
  have d:seqItems? (Value.none)=(pure none:Sem _):=rfl;unfold bindArgs;simp [e,d]
 ·exact noSome hp
noncomputable def zly (scope:Scope) (p:Str):Bool:=decide (scope.kind=.function) && !scope.isCoroutine && !scope.isGenerator && decide (scope.names.lookup p=some .local) && (scope.names.all fun q=>!(q.2 == NameKind.free))
theorem zvb {scope:Scope}{p:Str}(h:zly scope p=true):FnScope [p] [p] scope:=by
 unfold zly at h;simp only [Bool.and_eq_true,Bool.not_eq_true',decide_eq_true_eq] at h;obtain⟨⟨⟨⟨h1,h2⟩,h3⟩,h4⟩,h5⟩:=h;refine⟨h1,h2,h3,by simp,rfl,fun x hx=>.inl (by rw[List.mem_singleton.mp hx];exact h4),fun y hy z=>?_⟩;have:=List.all_eq_true.mp h5 y hy;rw[z] at this;cases this
noncomputable def lamS (S:Sx) (scope:Scope) (p:Str):Sx:={ N:=[p],kd:=scope.names,bn:=S.bn,fs:=[],mp:=[],top:=true }
section
variable {X:Cx}{S:Sx}{d:Nat}
theorem zvf {fE:Sx->Expr->Option GE} (HE:zbp fE) {f c' : Addr}{qual:Str}{params:Arguments}{body:Expr}{scope:Scope}{pm ctv:Value}{p:Str}{te:GE} (hp:zfp params=some p) (hs:zly scope p=true) (ht:fE (lamS S scope p) body=some te) (hbn:∀x∈S.bn,X.mg x=none) (hr:Room 1 X.A) :
    KCall X (.ref f) (lamΦ te) (fun pins F=>(f,PySem.W.kla_obj "<lambda>" qual params body scope [] pm c' ctv)∈pins/\F c'=some (.ext (zc5 c' qual))) where
  mono:=fun h hp sm=>⟨hp _ h.1,sm _ _ h.2⟩
  run:=fun pins s σ H F pr en w k v u al I R rp ru hΦ=>by
    have FS:=zvb hs;nofun;obtain⟨⟨ws',r⟩,e1,e2⟩:=bS hΦ;ac_rfl;split at e2
    · rename_i hl1
      obtain rfl:=sI e2;have cr:s.heap.CodeRec (.ref c') qual:=by
        nofun;obtain⟨φ,_,_⟩:=(show ObjOk X.prog X.w H s.heap c' (.ext (zc5 c' qual)) from I.hok c' _ (R.sub _ _ al.2));obtain⟨oc,vs,t,g1,g2,g3⟩:=φ;ac_rfl;exact⟨c',oc,vs,t,rfl,g1,g2,g3⟩
      have ho:=(I.pin _ (List.mem_append_right _ al.1)).1;have bk:zan (zax [(Sum.inl w:W ⊕ Nat)]) en (zay [false] ws')=en:=by
        unfold zan;apply List.ext_getElem?;intro i;rw[List.getElem?_mapIdx];cases en[i]? with
        | none=>rfl
        | some x=>rfl
      have sp:spF X.K [false] (zz8 te) [v] H (fun v' H'=>∃F',Same F F'/\Rel X.K F' pr en σ H'/\Rep X.K F' r.1 v') E0:=by
        refine ztu (xs:=[.inl w]) (en':=en) (r:=r) R (.cons rp .nil) ?_ fun F' H' v' s' R' y=>?_
        · show (if (true && true && _) = true then _ else none) = _
          rw[if_pos (by rfl)];show ((zz8 te) [w]).bind _=_;rw[e1];show (if ws'.length=1 then some (zan (zax [(Sum.inl w:W ⊕ Nat)]) en (zay [false] ws'),r) else none)=_;rw[if_pos hl1,bk]
        · refine aG fun Gg qG => ?_
          obtain⟨F'',s'',R'',y''⟩:=y.freeze R';ac_rfl;exact⟨F'',s'.trans s'',R'',y''⟩
      refine wpAny_call (codeAny_mono (zzo (N:=[p]) (ps:=[p]) (E:=E0) (Q:=fun v' H'=>∃F',Same F F'/\Rel X.K F' pr en σ H'/\Rep X.K F' r.1 v') ho cr FS hr I.env0 ?bind (.cons ru .nil) rfl fun hr'=>?body) fun res s' hq=>?_)
      case bind =>
        exact zxi hp
      case body =>
        have rd:=ztd (N:=[p]) sp;have C:CxOk (cxOf CX0 X.prog X.w X.K X.mg X.base [p] qual scope f (.ref c') X.A X.stack s H E0).nox (lamS S scope p) 0:={
          N:=rfl
          nd:=by show [p].Nodup;simp
          loc:=fun x e=>e
          cel:=fun x e=>⟨e,rfl⟩
          vis:=fun x e=>e
          gl:=fun x e=>e
          calm:=rfl
          xe:=rfl
          bn:=hbn
          fs:=fun x m Φ e=>by exact noSome e
          room:=hr'
          sl:=by have:=hr.un;show X.A.units+3+16 * 0+205 < cLine;omega
          bk:=by
            show (if scope.kind.isAnnotationScope then ScopeKind.function else scope.kind)=.function;rw[FS.kind];rfl
          lam:=fun h=>absurd (show ("" : Str)∈lams from h) #v[0,0,7]
          dpo:=Nat.zero_le _ }
        exact⟨_,HE _ _ _ C _ _ ht,zn3 rd⟩
      cases res with
      | error e=>exact hq.elim
      | ok fl =>
        cases fl with
        | ret u' =>
          nofun;obtain⟨v',H',I',rv',F',s1,R1,y1⟩:=I.after hq;ac_rfl;exact⟨v',F',H',I',s1,R1,rv',y1⟩
        | next=>exact False.elim hq
        | brk=>exact False.elim hq
        | cont=>exact False.elim hq
    · exact noSome e2
variable {pins:List (Addr × Obj)}{σ:St}{H F:Hp}{s:Shared}{pr:Prt}{en:En}
theorem zu2 (C:CxOk X S d) (hn:S.nm∈lams) {params:Arguments}{body:Expr}{scope:Scope}{pos:Pos}{p:Str} (hp:zfp params=some p) (hs:zly scope p=true) (I:Inv X pins σ H s) (R:Rel X.K F pr en σ H) {Q:Value->Shared->Prop}{E:Value->Shared->Prop}
    (h:∀f c' pm ctv s' H' F',Inv X pins σ H' s'->Same F F'->Rel X.K F' pr en σ H'->s'.heap.get? f=some (PySem.W.kla_obj "<lambda>" (lamQ S.nm) params body scope [] pm c' ctv)->H' f=none->Apart X pins f->F' c'=some (.ext (zc5 c' (lamQ S.nm)))->Q (.ref f) s') :
    wpAny (model X.prog X.w) X.A (eval (.Lambda params body scope pos) X.env) Q E s:=by
  refine aG fun _ qG=>?_;obtain ⟨c,P,ht,hc,ecd,eq⟩:=C.lam hn;obtain ⟨ps,t1,t2,t3,t4,t5⟩:=R.tb.2 S.nm hn c P ht;refine qG ?_;clear qG;have hcl:closureFor scope X.env=pure []:=zko (by unfold zly at hs;simp only [Bool.and_eq_true] at hs;exact hs.2);have hg:=I.mod.glob.keeps I.bk;have CH:PySem.W.CodeHd s.heap c P:=PySem.W.codeHd_of_K I.kIn hc;have hP:s.heap.get? P=some (PySem.W.tabObj ps):=I.hok P _ t1;have hgP:mainGlobals≠P:=fun z=>by
    nofun;obtain⟨o,es,ep,g1,g2,_⟩:=hg;ac_rfl;rw[z,hP] at g1;obtain rfl:=sI g1;cases g2
  refine aG fun _ qG=>?_;obtain ⟨bm,ob,b1,b2,b3,b4,b5,b6⟩:=I.mod.bmn;refine qG ?_;clear qG;have b3':=I.bk _ _ b3;have hbG:bm≠mainGlobals:=fun z=>by
    nofun;obtain⟨o,es,ep,g1,g2,_⟩:=hg;ac_rfl;rw[z,g1] at b3';obtain rfl:=sI b3';rw[g2] at b6;cases b6
  have hbP:bm≠P:=fun z=>by
    rw[z,hP] at b3';obtain rfl:=sI b3';cases b4
  have hbm:s.heap.BuiltinsAt X.mg P:=⟨bm,ob,b1,b2,hbG,hbP,b3',b4,b5,b6⟩;have hdef:defaultsOf params X.env=([],[]):=by
    nofun;obtain⟨po,ar,va,ko,kd,ka,df⟩:=params;ac_rfl;unfold zfp at hp;split at hp
    · rename_i a q1 q2 q3 q4 q5 q6 q7
      simp only at q1 q2 q3 q4 q5 q6 q7;subst q1 q2 q3 q4 q5 q6 q7
      rfl
    · cases hp
  have eq' : X.env.qual++"<lambda>" = lamQ S.nm:=by rw[eq];rfl
  refine PySem.W.kla_eval hdef ?_;rw[eq'];cases hf:codeAmong pos ps.toList with
  | some cv =>
    obtain⟨c',rfl,hc'⟩:=t5 pos cv hf;refine PySem.W.kla_makeFunctionHit hcl I.ok.glob hg ecd CH hP t4 hf hbm fun ctv h' tk k hz=>?_;have k2:∀b o,s.heap.get? b=some o->(h'.push (PySem.W.kla_obj "<lambda>" (lamQ S.nm) params body scope [] ((X.mg "__name__").getD .none) c' ctv)).get? b=some o:=fun b o e=>Heap.get?_push_of_some _ (k b o e);exact h h'.objs.size c' _ ctv _ H F (I.kept k2) (.refl F) R (Heap.get?_push_size _ rfl) (I.hok.fresh hz) (I.fpOk (H':=H) hz (I.hok.fresh hz)).apart hc'
  | none =>
    refine PySem.W.kla_makeFunction hcl I.ok.glob hg ecd CH hP t4 hf hgP hbm fun c' ctv h' tk hx hge hlt hrec htb=>?_;have hn' : H c'=none:=I.hok.fresh hge;have nP:c'≠P:=fun z=>by rw[z,t1] at hn';cases hn'
    obtain⟨ps',eps⟩ : ∃ps',ps'=ps++#[rawInt pos.line,rawInt pos.col,.ref c']:=⟨_,rfl⟩;rw[<-eps] at htb;have sizes:s.heap.objs.size<=h'.objs.size:=Nat.le_of_lt (Nat.lt_of_le_of_lt hge hlt);have neP:∀b,H b=none->b≠P:=fun b e z=>by rw[z,t1] at e;cases e
    let fo:=PySem.W.kla_obj "<lambda>" (lamQ S.nm) params body scope [] ((X.mg "__name__").getD .none) c' ctv
    have k2:∀b o,b≠P->s.heap.get? b=some o->(h'.push fo).get? b=some o:=fun b o hb e=>Heap.get?_push_of_some _ (hx b o hb e)
    let H' : Hp:=upd (upd H P (.tbl ps')) c' (.ext (zc5 c' (lamQ S.nm)))
    have hH:∀b,b≠P->b≠c'->H' b=H b:=fun b h1 h2=>by show upd (upd H P _) c' _ b=_;rw[upd_ne h2,upd_ne h1]
    have hHP:H' P=some (.tbl ps'):=by show upd (upd H P _) c' _ P=_;rw[upd_ne nP.symm,upd_same]
    have hHc:H' c'=some (.ext (zc5 c' (lamQ S.nm))):=upd_same;have nc:∀b o,s.heap.get? b=some o->b≠c':=fun b o e z=>by subst z;exact absurd (Heap.lt_size e) (Nat.not_lt_of_le hge)
    have nH:∀b u,H b=some u->b≠c':=fun b u e z=>by rw[z,hn'] at e;cases e
    have ntb:∀b u,H b=some u->(∀q,u≠.tbl q)->b≠P:=fun b u e hu z=>by rw[z,t1] at e;obtain rfl:=sI e;exact hu _ rfl
    have I' : Inv X pins σ H' { s with heap:=h'.push fo,toks:=tk }:=by
      refine I.step (g':=s.gens) (d':=s.drawn) (ch:=[]) (fun b hb=>by cases hb) (fun b o _ _ _ e n=>k2 b o (neP b n) e) (fun b o _ _ _ e n=>⟨o.slots,k2 b o (neP b n) e⟩) (fun b u _ e n=>by rw [hH b (neP b n) (nc b u e)];exact n)
        (fun b u _ e=>?_) (fun b xs e=>by rw[hH b (ntb b _ e fun _ z=>by cases z) (nH b _ e)];exact e) (fun b u xs e=>by rw[hH b (ntb b _ e fun _ z=>by cases z) (nH b _ e)];exact e) (fun b qs e=>?_) (fun m hm=>?_) (fun b u e=>?_) I.bare
      · by_cases hb : b = P
        · subst hb;exact⟨_,Heap.get?_push_of_some _ htb⟩
        · exact⟨u,k2 b u hb e⟩
      · by_cases hb : b = P
        · subst hb
          rw[t1] at e;cases e;exact⟨#[rawInt pos.line,rawInt pos.col,.ref c'],by rw[hHP,eps]⟩
        · exact⟨#[],by rw[hH b hb (nH b _ e),e];simp⟩
      · refine aG fun Gg qG => ?_
        obtain⟨o,es,ep,ho,r⟩:=hm;ac_rfl;exact⟨o,es,ep,k2 _ o (neP _ I.free) ho,r⟩
      · by_cases hb : b = c'
        · subst hb
          rw[hHc] at e;obtain rfl:=sI e;nofun;obtain⟨c2,oc,vs,t,e2,hoc,hd,hv⟩:=hrec;ac_rfl;cases e2;refine⟨⟨oc,vs,t,Heap.get?_push_of_some _ hoc,hd,hv⟩,⟨oc,Heap.get?_push_of_some _ hoc⟩,fun h1 h2 ⟨oc,vs,t,g1,g2,g3⟩ kk=>⟨oc,vs,t,kk oc g1,g2,g3⟩⟩
        · by_cases hb2 : b = P
          · subst hb2
            rw[hHP] at e;obtain rfl:=sI e;exact Heap.get?_push_of_some _ htb
          · rw [hH b hb2 hb] at e
            refine (I.hok b u e).stay (fun c v hc q=>k2 c v ?_ q) (fun c q=>by rw[hH c (ntb c _ q fun _ z=>by cases z) (nH c _ q)];exact q) fun c xs q=>by rw[hH c (ntb c _ q fun _ z=>by cases z) (nH c _ q)];exact q
            rcases hc with z | z
            · rw[z];exact hb2
            · exact ntb c _ z fun _ y=>by cases y
    have fc:F c'=none:=R.sub.free hn';have sF:Same F (upd F c' (.ext (zc5 c' (lamQ S.nm)))):=Same.new fc _;have R' : Rel X.K (upd F c' (.ext (zc5 c' (lamQ S.nm)))) pr en σ H':=by
      refine⟨R.len,fun b u e=>?_,fun i w e=>?_,fun i w e=>?_,R.inj,fun b o q=>?_,R.tb.1,fun x hx' c0 P0 e0=>?_⟩
      · by_cases hb : b = c'
        · subst hb;rw[upd_same] at e;rw[hHc];exact e
        · rw [upd_ne hb] at e
          have e':=R.sub _ _ e;rw[hH b (fun z=>by rw[z,t2] at e;cases e) hb];exact e'
      · obtain ⟨v, g1, g2⟩ := R.val i w e
        exact⟨v,g1,g2.mono sF⟩
      · refine aG fun Gg qG => ?_
        obtain⟨a,o,w',g1,g2,g3,g4,g5⟩:=R.own i w e;ac_rfl;have na:a≠c':=nH a _ g3;exact⟨a,o,w',g1,g2,by rw[hH a (ntb a _ g3 fun _ z=>by cases g5<;>cases z) na];exact g3,by rw[upd_ne na];exact g4,g5.mono sF⟩
      · obtain ⟨g1, g2, g3⟩ := R.prt b o q
        have nb:b≠c':=nH b _ g1;exact⟨by rw[hH b (fun z=>by subst z;exact t3 o q) nb];exact g1,by rw[upd_ne nb];exact g2,g3⟩
      · refine aG fun Gg qG => ?_
        obtain⟨qs,u1,u2,u3,u4,u5⟩:=R.tb.2 x hx' c0 P0 e0;ac_rfl;by_cases hp0:P0=P
        · subst hp0
          have ex:x=S.nm:=R.tb.1.1 x hx' S.nm hn c0 c P0 e0 ht;subst ex;rw[t1] at u1;cases u1;refine⟨ps',hHP,by rw[upd_ne nP.symm];exact t2,t3,?_,fun pos2 cv e2=>?_⟩
          · rw [eps]
            have:=TriplesOk_snoc pos.line pos.col (.ref c') ps.toList t4;simpa using this
          · rw [eps] at e2
            have e3:codeAmong pos2 (ps.toList++[rawInt pos.line,rawInt pos.col,.ref c'])=some cv:=by simpa using e2
            have gen:∀l:List Value,TriplesOk l->codeAmong pos2 (l++[rawInt pos.line,rawInt pos.col,.ref c'])=some cv->codeAmong pos2 l=some cv\/cv=.ref c':=fun l hl=>by
              fun_induction TriplesOk l with
              | case1 =>
                intro z;show _\/_
                right
                simp only [List.nil_append,rawInt,codeAmong] at z;split at z
                · exact (sI z).symm
                · cases z
              | case2 a b c d e rest ih =>
                intro z;simp only [List.cons_append,codeAmong] at z ⊢;split at z
                · rename_i q;rw[if_pos q];exact .inl z
                · rename_i q;rw[if_neg q];exact ih hl z
              | case3=>exact hl.elim
            rcases gen ps.toList t4 e3 with z | z
            · obtain ⟨c2, q1, q2⟩ := u5 pos2 cv z
              exact⟨c2,q1,sF _ _ q2⟩
            · exact⟨c',z,upd_same⟩
        · have np0 : P0 ≠ c' := nH P0 _ u1
          refine⟨qs,by rw[hH P0 hp0 np0];exact u1,by rw[upd_ne np0];exact u2,u3,u4,fun pos2 cv e2=>?_⟩;obtain⟨c2,q1,q2⟩:=u5 pos2 cv e2;exact⟨c2,q1,sF _ _ q2⟩
    have nf:H' h'.objs.size=none:=by
      rw[hH _ (fun z=>?_) (Nat.ne_of_gt hlt)]
      · exact I.hok.fresh sizes
      · have := I.hok.fresh sizes
        rw[z,t1] at this;cases this
    exact h h'.objs.size c' _ ctv _ H' _ I' sF R' (Heap.get?_push_size _ rfl) nf (I.fpOk (H':=H) sizes (I.hok.fresh sizes)).apart upd_same
theorem zwo (h:Room 2 X.A):Room 1 X.inn.A:=⟨h.hd,by have:=h.dp;show X.A.depth+3 * 1+5 < _;omega,by have:=h.un;show X.A.units+1+1+16 * 1+200 < _;omega,h.gd⟩
theorem zvu {fE:Sx->Expr->Option GE} (HE:zbp fE) (C:CxOk X S d) {e:Expr}{a:GA} (ha:za4 fE S e=some a) (hns:zad e=true) {params:Arguments}{body:Expr}{scope:Scope}{lpos kpos px pos:Pos}{p:Str}{te:GE} (hn:S.nm∈lams) (h2:2<=S.dp) (hp:zfp params=some p) (hs:zly scope p=true) (ht:fE (lamS S scope p) body=some te) (hbl:S.bl "sorted" = true) :
    PE X (.Call (.Name "sorted" px) [e] [⟨some "key",.Lambda params body scope lpos,kpos⟩] pos) (tE X.K (zoe te a)):=by
  intro pins s σ H Q I h;nofun;nofun;obtain⟨F,pr,en,en',r,R,hg,q⟩:=h;obtain⟨⟨e1,x⟩,h1,hg⟩:=bS hg;obtain⟨w,hw,hg⟩:=bS hg;obtain⟨ws,hws,hg⟩:=bS hg;obtain⟨ks,hks,hg⟩:=bS hg;obtain⟨out,ho,hg⟩:=bS hg;ac_rfl;ac_rfl;cases hg;obtain⟨gl,mn⟩:=ze3 C hbl;have hr:Room 2 X.A:=C.room.mono (Nat.le_trans h2 C.dpo);have hst:starEach [e] X.env=(false,eval e X.env)::starEach [] X.env:=by cases e<;>first | rfl | (cases hns)
  refine wpAny_Call_Name_kw (zdw I gl mn (show bootBuiltins "sorted" = some (.builtin "sorted") from PyProof.Rows.boot_sorted) ?_);refine PyProof.Rows.callWith_kw ?_ (by rw[hst];rfl) (by rw[hst];rfl);refine thn (zrx (zaj HE C ha) zdd hst pos pins s σ H (fun vs H1=>∃v F1,vs=[v]/\Same F F1/\Rel X.K F1 pr e1 σ H1/\ArgR X.K F1 σ x v) I ⟨F,pr,en,e1,x,R,h1,fun F1 H1 v s1 R1 a1=>⟨v,F1,rfl,s1,R1,a1⟩⟩) fun us s1 ⟨vs,H1,I1,rv,v,F1,ev,sm1,R1,a1⟩=>?_;subst ev;cases rv with
  | cons ru rv =>
    cases rv;refine PyProof.Rows.kws_cons (zu2 C hn hp hs I1 R1 fun f c' pm ctv s2 H2 F2 I2 sm2 R2 gf nf apf gc=>PyProof.Rows.kws_nil ?_);have I3:Inv X ((f,PySem.W.kla_obj "<lambda>" (lamQ S.nm) params body scope [] pm c' ctv)::pins) σ H2 s2:=I2.pins_of fun y hy=>by
      rcases List.mem_cons.mp hy with rfl | hy
      · exact⟨gf,nf,apf.l,apf.f,fun v z=>by cases z⟩
      · exact I2.pin y (List.mem_append_right _ hy)
    have rb:=(a1.mono sm2).repB R2 hw;nofun;nofun;obtain⟨l,vvs,ev,sq,rps⟩:=rb.seqL R2.sub hws;ac_rfl;ac_rfl;subst ev;cases (show _=Value.ref l from ru);refine thn (zpr (E:=X.xe) (Q:=Q) (zvf (X:=X.inn) (S:=S) (f:=f) (c':=c') (qual:=lamQ S.nm) (pm:=pm) (ctv:=ctv) HE hp hs ht C.bn (zwo hr)) I3 ⟨List.mem_cons_self,gc⟩ R2 sq rps hks ho (by have:=hr.un;omega) fun F' H' v s' R' y=>q F' H' v (sm1.trans (sm2.trans s')) R' y) fun u s' ⟨v,H',I',rv',q'⟩=>⟨v,H',I'.pins_of fun y hy=>I'.pin y (List.mem_append_right _ (List.mem_cons_of_mem _ hy)),rv',q'⟩
noncomputable def z1a (fE:Sx->Expr->Option GE) (S:Sx) (x:Str) (e:Expr) (key:Str) (params:Arguments) (body:Expr) (scope:Scope):Option GE :=
 if x == ("sorted" : Str) && key == ("key" : Str) && S.bl x && zad e && lams.contains S.nm && decide (2<=S.dp) then (zfp params).bind fun p=>if zly scope p then (za4 fE S e).bind fun a=>(fE (lamS S scope p) body).bind fun te=>some (zoe te a) else none else none
theorem zvh {fE:Sx->Expr->Option GE}(HE:zbp fE)(C:CxOk X S d){x key:Str}{e:Expr}{params:Arguments}{body:Expr}{scope:Scope}{lpos kpos px pos:Pos}{g:GE}(h:z1a fE S x e key params body scope=some g):PE X (.Call (.Name x px) [e] [⟨some key,.Lambda params body scope lpos,kpos⟩] pos) (tE X.K g):=by
 unfold z1a at h;split at h
 ·rename_i z;simp only [Bool.and_eq_true,decide_eq_true_eq,List.contains_iff_mem] at z;nofun;obtain⟨⟨⟨⟨⟨z1,z2⟩,z3⟩,z4⟩,z5⟩,z6⟩:=z;ac_rfl;have e1:=eq_of_beq z1;have e2:=eq_of_beq z2;subst e1 e2;obtain⟨p,hp,h⟩:=bS h;split at h
  ·rename_i y;nofun;obtain⟨a,ha,h⟩:=bS h;obtain⟨te,ht,h⟩:=bS h;ac_rfl;obtain rfl:=sI h;exact zvu HE C ha z4 z5 z6 hp y ht z3
  ·exact noSome h
 ·exact noSome h
end
section
variable {prog:Program}{w:World}{A:Around}{E:Value->Shared->Prop}{s:Shared}
noncomputable def mxF (f:Nat->Int):Nat->Nat->Int->Int
 | _,0,b=>b
 | j,k+1,b=>mxF f (j+1) k (if f j > b then f j else b)
variable {I:Addr}{fp wr:List Addr}{n:Nat}{P:Nat->Value->Prop}{St:Nat->Heap->Prop}{R:Result->Shared->Prop}
noncomputable def maxD (f:Nat->Int) (n:Nat) (d:Int):Int:=match n with
 | 0=>d
 | n+1=>mxF f 1 n (f 0)
end
noncomputable def mxL (ns:List Int) (d:Int):Int:=maxD (fun i=>ns.getD i 0) ns.length d
noncomputable def z7i (a:GA) (g:GE):GE:=fun en=>(a en).bind fun p=>(g p.1).bind fun q=>(resA q.1 p.2).bind fun w=>(seqW w).bind fun ws=>(zcz ws).bind fun ns=>match q.2.1 with
 | .int d=>some (q.1,(.int (mxL ns d),false))
 | _=>none
section
variable {X:Cx}{S:Sx}{d:Nat}
noncomputable def maxE (fE:Sx->Expr->Option GE) (S:Sx) (x:Str) (e:Expr) (key:Str) (ed:Expr):Option GE :=
 if x == ("max" : Str) && key == ("default" : Str) && S.bl x && zad e then (za4 fE S e).bind fun a=>(fE S ed).bind fun g=>some (z7i a g) else none
end
noncomputable def rgV (n:Nat):List V:=(List.range n).map fun i=>V.int (i:Nat)
noncomputable def tLR (ta:TA):TE:=fun σ H Q=>ta σ H fun vs H1=>∃j:Int,vs=[.int j]/\-(2 ^ 62)<=j/\j<=2 ^ 24/\∀p,H1 p=none->Q (.ref p) (upd H1 p (.lst (rgV j.toNat)))
noncomputable def lrOk (j:Int):Bool:=zdu j && decide (j<=16777216)
noncomputable def zgh (as:GAs):GE:=fun en=>(as en).bind fun p=>match zar p.1 p.2 with
 | some [.int j]=>if lrOk j then some (p.1,(.lst (rngW 0 j.toNat),true)) else none
 | _=>none
theorem zvj {as:GAs}{en e1:En}{xs:List (W ⊕ Nat)}{j:Int}(h:as en=some (e1,xs))(r:zar e1 xs=some [.int j])(q:lrOk j=true):zgh as en=some (e1,(.lst (rngW 0 j.toNat),true)):=by
 unfold zgh;rw[h];show (match zar e1 xs with
  | some [.int j]=>if lrOk j then some (e1,(W.lst (rngW 0 j.toNat),true)) else none
  | _=>none)=_
 rw[r];show (if lrOk j then some (e1,(W.lst (rngW 0 j.toNat),true)) else none)=_;rw[q];rfl
section
variable {X:Cx}
theorem z06 {n:Nat}{acc:Array Value} (h:ItemsOf (fun i v=>∃t,v=Value.int (0+(i:Int) * 1) t) acc n):Vals (rgV n) acc.toList:=by
  obtain⟨hz,hi⟩:=h;have hl:acc.toList.length=n:=by rw[Array.length_toList];exact hz
  have go:∀(l:List Value) (k:Nat),(∀(j:Nat) (v:Value),l[j]?=some v->∃t,v=Value.int ((k+j:Nat):Int) t)->Vals ((List.range' k l.length).map fun i=>V.int (i:Nat)) l:=by
    intro l
    induction l with
    | nil=>exact fun _ _=>.nil
    | cons v l ih =>
      intro k h;rw[List.length_cons,List.range'_succ,List.map_cons];refine .cons ?_ (ih (k+1) fun j u e=>?_)
      · obtain ⟨t, e⟩ := h 0 v rfl
        exact⟨t,e⟩
      · obtain ⟨t, e⟩ := h (j + 1) u e
        exact⟨t,by rw[e];congr 1;omega⟩
  have:=go acc.toList 0 fun j v e=>by
    obtain⟨t,q⟩:=hi j v (by rw[<-Array.getElem?_toList];exact e);exact⟨t,by rw[q];congr 1;omega⟩
  rw[hl] at this;unfold rgV;rw[List.range_eq_range'];exact this
theorem z6k {a:Expr}{ta:TA}{p p' pos pos' : Pos} (hc:X.calm=true) (gl:Gl X "list") (ml:X.mg "list" = none) (hg:Gl X "range") (hm:X.mg "range" = none) (ha:PA X [a] ta) (hs:starEach [a] X.env=[(false,eval a X.env)]):PE X (.Call (.Name "list" p) [.Call (.Name "range" p') [a] [] pos'] [] pos) (tLR ta):=by
  intro pins s σ H Q I h;refine Call_ (zdw I gl ml zmk (PyProof.Rows.callWith_type1 (Calls.spliced_cons ?_) rfl rfl));refine Call_ (zdw I hg hm boot_range (PyProof.Rows.callWith_type1 (thn (ha pos' pins s σ H _ I h) fun us s1 ⟨vs,H1,I1,r1,q1⟩=>?_) hs rfl));nofun;obtain⟨j,e,b1,b2,q⟩:=q1;ac_rfl;subst e;cases r1 with
  | cons r rr =>
    cases rr;obtain⟨t,rfl⟩:=r;refine call_range_1 ?_;refine Calls.spliced_nil ?_;have I2:Inv X pins σ H1 { s1 with heap:=s1.heap.push { cls:=.type "range",data:=.fields #[.int 0 s1.toks,.int j t,.int 1 (s1.toks+1)] },toks:=s1.toks+1+1 }:=I1.kept fun b o e=>Heap.get?_push_of_some _ e;refine call_list_range (n:=j.toNat) (I2.ok.hd hc) (IsRange.new ..) (small_one #v[] #v[] b1 #v[]) (by rw[rangeSize_one];split<;>omega) #v[] fun h' tk acc c kp ga it=>?_;have rv:=z06 it;exact⟨.ref _,_,I2.laid (t':=tk) (o:=.lst (rgV j.toNat)) kp (Nat.le_refl _) ⟨by unfold rgV;rw[List.length_map,List.length_range,sizeLine_eq];omega,acc.toList,c,rv,by rw[Array.toArray_toList];exact ga⟩,rfl,q _ (I2.hok.fresh (Nat.le_refl _))⟩
theorem zxh {K:PySem.W.Frag}{F:Hp}(n:Nat):Reps K F (rngW 0 n) (rgV n):=by
 have go:∀l:List Nat,Reps K F (l.map fun i=>W.int ((i:Nat):Int)) (l.map fun i=>V.int (i:Nat)):=by
  intro l
  induction l with
  | nil=>exact .nil
  | cons a l ih=>exact .cons (.int _) ih
 have e:rngW 0 n=(List.range n).map fun i=>W.int ((i:Nat):Int):=by
  unfold rngW;exact List.map_congr_left fun i _=>by rw[Int.zero_add]
 rw[e];exact go _
theorem zzl {K:PySem.W.Frag}{as:GAs}{σ:St}{H:Hp}{Q:VK} (h:tE K (zgh as) σ H Q):tLR (tAs K as) σ H Q:=by
  obtain⟨F,pr,en,en',r,Re,h,q⟩:=h;obtain⟨⟨e1,xs⟩,h1,h⟩:=bS h;refine⟨F,pr,en,e1,xs,Re,h1,fun F1 H1 vs s1 R1 a1=>?_⟩;cases e:zar e1 xs with
  | none=>simp only [e] at h;exact noSome h
  | some us =>
    have rr:=a1.repBs R1 e
    match us,e,rr with
    | [w],e,rr =>
      cases w with
      | int j =>
        simp only [e] at h;split at h
        · rename_i z
          unfold lrOk at z;rw[Bool.and_eq_true] at z;obtain rfl:=(Prod.mk.inj (sI h)).1;obtain rfl:=(Prod.mk.inj (sI h)).2;obtain⟨v,e2,hv⟩:=rr.one;subst e2;refine⟨j,by rw[hv.int],(zih z.1).1,by have:=of_decide_eq_true z.2;omega,fun p hp=>?_⟩;obtain⟨F9,s9,R9,y9⟩:=(Out.lst (K:=K) (F:=F1) (H:=H1) (p:=p) hp (zxh j.toNat)).close R1;exact q F9 _ _ (s1.trans s9) R9 y9
        · exact noSome h
      | _=>simp only [e] at h;exact noSome h
    | [],e,_=>simp only [e] at h;exact noSome h
    | _::_::_,e,_=>simp only [e] at h;exact noSome h
end
noncomputable def z10 (f:Sx->Expr->Option GE) (S:Sx) (x:Str) (args:List Expr):Option GE:=match args with
 | [.Call (.Name y _) [a] [] _]=>if x == ("list" : Str) && y == ("range" : Str) && S.bl x && S.bl y && zad a then (asL (za4 f S) [a]).bind fun as=>some (zgh as) else zue f S x args
 | _=>zue f S x args
theorem zup {X:Cx}{S:Sx}{d:Nat}{f:Sx->Expr->Option GE}(Hf:zbp f)(C:CxOk X S d){x:Str}{args:List Expr}{g:GE}{p pos:Pos}(h:z10 f S x args=some g):PE X (.Call (.Name x p) args [] pos) (tE X.K g):=by
 unfold z10 at h;split at h
 ·rename_i y py a pc;split at h
  ·rename_i z;simp only [Bool.and_eq_true] at z;obtain⟨⟨⟨⟨z1,z2⟩,z3⟩,z4⟩,z5⟩:=z;have e1:=eq_of_beq z1;have e2:=eq_of_beq z2;subst e1 e2;obtain⟨as,has,h⟩:=bS h;obtain rfl:=sI h;obtain⟨pa,_⟩:=zf0 (fun e a ha=>zaj Hf C ha) has;obtain⟨g1,m1⟩:=ze3 C z3;obtain⟨g2,m2⟩:=ze3 C z4;exact (z6k C.calm g1 m1 g2 m2 pa (zag z5)).wk fun _ _ _=>zzl
  ·exact zor Hf C h
 ·exact zor Hf C h
noncomputable def fnW (Φ:Fn) (w:W):Option W:=(Φ [w]).bind fun p=>if p.1.length=1 then some p.2.1 else none
noncomputable def z3e (Φ:Fn) (a:GA):GE:=fun en=>(a en).bind fun p=>(resA p.1 p.2).bind fun w=>(seqL w).bind fun ws=>(mapO (fnW Φ) ws).bind fun ks=>(zv2 ks ws).bind fun out=>some (p.1,(.lst out,true))
section
variable {X:Cx}{S:Sx}{d:Nat}
noncomputable def z38 (fE:Sx->Expr->Option GE) (S:Sx) (e:Expr) (y:Str):Option GE:=if zad e && S.bl "sorted" && S.kd.lookup y == some .globalImplicit && !(y == ("__debug__" : Str)) then (match S.fs.lookup y with
  | some (m,Φ)=>if m == [false] then (za4 fE S e).bind fun a=>some (z3e Φ a) else none
  | none=>none) else none
end
section
variable {K:PySem.W.Frag}{σ:St}{H:Hp}
theorem Reps.eraseIdx {K:PySem.W.Frag}{F:Hp}:∀{xs:List W}{us:List V} (i:Nat),Reps K F xs us->Reps K F (xs.eraseIdx i) (us.eraseIdx i)
 | _,_,_,.nil=>.nil
 | _,_,0,.cons _ r=>r
 | _,_,i+1,.cons q r=>.cons q (Reps.eraseIdx i r)
noncomputable def zht (i:Nat) (g:GE):GE:=fun en=>match en[i]? with
  | some (some (.lst _,true))=>(g en).bind fun p=>(intW p.2.1).bind fun k=>match p.1[i]? with
    | some (#v[ws,2])=>if 0<=k/\ws.length < sizeLine then (ws[k.toNat]?).bind fun w=>some (p.1.set i (#v[(ws.eraseIdx k.toNat),2]),(w,false)) else none
    | _=>none
  | _=>none
theorem zwz {i:Nat}{g:GE}{Q:VK}(h:tE K (zht i g) σ H Q):tBM K "list" zx2 (tVar i) (zdv (tE K g) tNil) σ H Q:=by
 nofun;obtain⟨F,pr,en,en',r,R,h,q⟩:=h;ac_rfl;unfold zht at h;split at h
 ·rename_i w0 hx0;nofun;obtain⟨a,vs,ws0,q1,q2,q3,q4,q5⟩:=R.ownL hx0;obtain⟨⟨e1,w1,f1⟩,h1,ha⟩:=bS h;obtain⟨k,hk,hc⟩:=bS ha;ac_rfl;clear ha h;refine⟨.ref a,q2,.inl ⟨rfl,vs,SqL.of' q3⟩,F,pr,en,e1,(w1,f1),R,h1,fun F1 H1 v1 s1 R1 y1=>?_⟩;split at hc
  ·rename_i ws hx1;have ew:w1=.int k:=by
    cases w1 with
    | int j=>obtain rfl:=sI hk;rfl
    | _=>exact noSome hk
   subst ew;have ek:=y1.isInt;subst ek;by_cases hz:0<=k/\ws.length < sizeLine
   ·rw[if_pos hz] at hc;obtain⟨w,hw,hc⟩:=bS hc;cases hc;nofun;obtain⟨a',vs',ws',p1,p2,p3,p4,p5⟩:=R1.ownL hx1;ac_rfl;cases p1;rw[q2] at p2;cases p2;obtain⟨v,hv,rv⟩:=p5.get hw;have hl:k.toNat < ws.length:=(List.getElem?_eq_some_iff.mp hw).1;refine⟨a,vs',k,k.toNat,v,rfl,rfl,p3,Int.le_trans #v[0,9] hz.1,?_,?_,hv,?_⟩
    ·have line : sizeLine = 16777216 := sizeLine_eq;omega
    ·have ix:ixN vs'.length k=some k.toNat:=by
      unfold ixN;rw[if_pos hz.1,if_pos (by rw[<-p5.length];omega)]
     exact (zl6 ix).1
    ·exact q F1 _ _ s1 (R1.change hx1 q2 (p5.eraseIdx _)) rv
   ·rw[if_neg hz] at hc;exact noSome hc
  ·exact noSome hc
 ·exact noSome h
theorem z7h {i:Nat}{g:GE}{en e1:En}{us ws:List W}{k:Nat}{f:Bool}{w:W}(h0:en[i]?=some (#v[us,2]))(h1:g en=some (e1,(.int k,f)))(h2:e1[i]?=some (#v[ws,2]))(hk:ws[k]?=some w)(hz:ws.length < sizeLine):zht i g en=some (e1.set i (#v[(ws.eraseIdx k),2]),(w,false)):=by
 unfold zht;rw[h0];simp only [h1,Option.bind_some,intW,h2];rw[if_pos ⟨Int.natCast_nonneg k,hz⟩,Int.toNat_natCast,hk]
 rfl
end
noncomputable def zmv (x:Expr->Option GE) (X:Cx):Prop:=∀e g,x e=some g->PE X e (tE X.K g)
section
variable {X:Cx}{S:Sx}{d:Nat}{fE:Sx->Expr->Option GE}
noncomputable def ztf (fE:Sx->Expr->Option GE) (S:Sx):Expr->Option GE
 | .Call (.Attribute (.Name x _) name apos) [e] [] cpos=>if name == ("pop" : Str) && (apos.endLine == cpos.line) && zad e then (S.rd x).bind fun i=>(fE S e).bind fun g=>some (zht i g) else none
 | _=>none
theorem zru (HE:zbp fE)(C:CxOk X S d):zmv (ztf fE S) X:=fun e g h=>by
 unfold ztf at h;split at h
 ·split at h
  ·rename_i z;rw[Bool.and_eq_true,Bool.and_eq_true] at z;obtain⟨⟨z1,z2⟩,y⟩:=z;have e1:=eq_of_beq z1;subst e1;obtain⟨i,hi,h⟩:=bS h;obtain⟨g1,hg1,h⟩:=bS h;obtain rfl:=sI h;exact (z27 PySem.F.plainAttrs_list PySem.F.slot_list_pop PySem.F.type_list_pop zuo (zo3 C hi) (pac (HE X S d C _ _ hg1) zdd y) (zst rfl) (zt8 y) z2 (zag y) rfl).wk fun _ _ _=>zwz
  ·exact noSome h
 ·exact noSome h
end
noncomputable def keyF:W->Option Key
 | .int i=>some (.inl i)
 | .str s=>some (.inr s)
 | _=>none
noncomputable def z2p:List W->Option (List Key)
 | []=>some []
 | w::ws=>(keyF w).bind fun k=>(z2p ws).bind fun ks=>some (k::ks)
noncomputable def keyD:W->Option DKey
 | .tup ws=>(z2p ws).bind fun ks=>some (.inr ks)
 | w=>(keyF w).bind fun k=>some (.inl k)
section
variable {K:PySem.W.Frag}{F H:Hp}
theorem Rep.keyF {w:W}{v:V}{k:Key}(h:Rep K F w v)(e:keyF w=some k):v=kV k:=by
 cases w with
 | int i=>obtain rfl:=sI e;exact h.isIt
 | str s=>obtain rfl:=sI e;cases h;rfl
 | _=>exact noSome e
noncomputable def valW (kvs:List (DKey × W)) (k:DKey):Option W:=(kvs.find? fun kv=>decide (kv.1=k)).map (·.2)
theorem zq0 (p:DKey × W)(r:List (DKey × W))(k:DKey):valW (p::r) k=if p.1=k then some p.2 else valW r k:=by
 unfold valW;rw[List.find?_cons];by_cases h:p.1=k
 ·rw[decide_eq_true h,if_pos h];rfl
 ·rw[decide_eq_false h,if_neg h]
noncomputable def zd0 {κ:Type} [DecidableEq κ] (ks:List κ) (k:κ):List κ:=if k∈ks then ks else ks++[k]
noncomputable def zdy {κ α:Type} [DecidableEq κ] (ks:List κ) (vs:List α) (k:κ) (v:α):List α:=if k∈ks then List.zipWith (fun k' v'=>if k'=k then v else v') ks vs else vs++[v]
theorem zsc {κ:Type} [DecidableEq κ] {f:κ->DKey}(hf:∀a b,f a=f b->a=b)(ks:List κ)(k:κ):zd0 (ks.map f) (f k)=(zd0 ks k).map f:=by
 have m:f k∈ks.map f↔k∈ks:=by
  rw[List.mem_map];exact⟨fun ⟨a,h,e⟩=>hf _ _ e ▸ h,fun h=>⟨k,h,rfl⟩⟩
 unfold zd0;by_cases h:k∈ks
 ·rw[if_pos h,if_pos (m.mpr h)]
 ·rw[if_neg h,if_neg (mt m.mp h),List.map_append];rfl
theorem zja {κ:Type} [DecidableEq κ] {f:κ->DKey} (hf:∀a b,f a=f b->a=b) {k:κ}{w:W}{v:V} (h:Rep K F w v):∀{ks:List κ}{ws:List W}{vs:List V},Reps K F ws vs->Reps K F (List.zipWith (fun k' v'=>if k'=f k then w else v') (ks.map f) ws) (List.zipWith (fun k' v'=>if k'=k then v else v') ks vs)
  | [],_,_,_=>.nil
  | _::_,_,_,.nil=>.nil
  | k' :: ks,_,_,.cons q r=>by
    rw[List.map_cons,List.zipWith_cons_cons,List.zipWith_cons_cons];refine .cons ?_ (zja hf h r);by_cases z:k'=k
    · subst z;rw[if_pos rfl,if_pos rfl];exact h
    · rw[if_neg z,if_neg fun e=>z (hf _ _ e)];exact q
theorem zpl {κ:Type} [DecidableEq κ] {f:κ->DKey}(hf:∀a b,f a=f b->a=b){k:κ}{w:W}{v:V}(h:Rep K F w v){ks:List κ}{ws:List W}{vs:List V}(r:Reps K F ws vs):Reps K F (zdy (ks.map f) ws (f k) w) (zdy ks vs k v):=by
 have m:f k∈ks.map f↔k∈ks:=by
  rw[List.mem_map];exact⟨fun ⟨a,h,e⟩=>hf _ _ e ▸ h,fun h=>⟨k,h,rfl⟩⟩
 unfold zdy;by_cases z:k∈ks
 ·rw[if_pos z,if_pos (m.mpr z)];exact zja hf h r
 ·rw[if_neg z,if_neg (mt m.mp z)];exact r.append (.cons h .nil)
theorem zy6 {κ α:Type} [DecidableEq κ] {ks:List κ}{vs:List α}(hl:ks.length=vs.length)(k:κ)(v:α):(zd0 ks k).length=(zdy ks vs k v).length:=by
 unfold zd0 zdy;split
 ·rw[List.length_zipWith,hl,Nat.min_self]
 ·rw[List.length_append,List.length_append,hl];rfl
theorem zr6 {κ:Type} [DecidableEq κ] (k:κ) (v:V):∀{ks:List κ}{vs:List V},(ks.zip vs).map (fun kv=>if kv.1=k then (kv.1,v) else kv)=ks.zip (List.zipWith (fun k' v'=>if k'=k then v else v') ks vs)
  | [],_=>rfl
  | _::_,[]=>rfl
  | k' :: ks,v' :: vs=>by
    rw[List.zip_cons_cons,List.map_cons,zr6 k v,List.zipWith_cons_cons,List.zip_cons_cons];by_cases z:k'=k
    · rw[if_pos z,if_pos z]
    · rw[if_neg z,if_neg z]
theorem zp7 {κ:Type} [DecidableEq κ] (k:κ):∀{ks:List κ}{vs:List V},ks.length=vs.length->((ks.zip vs).any fun kv=>decide (kv.1=k))=decide (k∈ks)
  | [],_,_=>rfl
  | _::_,[],h=>by simp at h
  | k' :: ks,v' :: vs,h=>by
    rw[List.zip_cons_cons,List.any_cons,zp7 k (Nat.succ.inj h)];by_cases z:k'=k
    · subst z;simp
    · have : ¬ k = k' := fun e => z e.symm
      simp [z,this]
theorem zuj {κ:Type} [DecidableEq κ] {ks:List κ}{vs:List V}(hl:ks.length=vs.length)(k:κ)(v:V):putK (ks.zip vs) k v=(zd0 ks k).zip (zdy ks vs k v):=by
 unfold putK zd0 zdy;rw[zp7 k hl];by_cases z:k∈ks
 ·rw[if_pos (decide_eq_true z),if_pos z,if_pos z,zr6]
 ·rw[if_neg (fun q=>z (of_decide_eq_true q)),if_neg z,if_neg z,List.zip_append hl];rfl
noncomputable def DctR (K:PySem.W.Frag) (F H:Hp) (a:Addr) (ks:List DKey) (ws:List W):Prop :=
 (∃(js:List Key) (vs:List V),ks=js.map .inl/\H a=some (.dK (js.zip vs))/\js.length=vs.length/\Reps K F ws vs) \/
 ∃(js:List (List Key)) (vs:List V),ks=js.map .inr/\H a=some (.dT (js.zip vs))/\js.length=vs.length/\Reps K F ws vs
theorem OwnR.dct' {ks:List DKey}{ws:List W}{o:HO}{a:Addr}(h:OwnR K F (.dct ks ws) o)(e:H a=some o):DctR K F H a ks ws:=by
 generalize hw:W.dct ks ws=w at h;cases h with
 | lst r=>cases hw
 | dct hl r=>cases hw;exact .inl ⟨_,_,rfl,e,hl,r⟩
 | dctT hl r=>cases hw;exact .inr ⟨_,_,rfl,e,hl,r⟩
theorem RepB.dct {ks:List DKey}{ws:List W}{v:V}(s:Same F H)(r:RepB K F H (.dct ks ws) v):∃a,v=.ref a/\DctR K F H a ks ws:=by
 rcases r with r | ⟨a,o,w',e,rfl,h,q⟩
 ·generalize hw : W.dct ks ws = w at r;cases r with
  | dct h hl r=>cases hw;exact⟨_,rfl,.inl ⟨_,_,rfl,s _ _ h,hl,r⟩⟩
  | dctT h hl r=>cases hw;exact⟨_,rfl,.inr ⟨_,_,rfl,s _ _ h,hl,r⟩⟩
  | _=>cases hw
 ·subst e;exact⟨a,rfl,q.dct' h⟩
theorem zqv (a b:Key)(h:(Sum.inl a:DKey)=.inl b):a=b:=Sum.inl.inj h
noncomputable def z6e (d:DKey) (ks:List DKey):Bool:=ks.all fun k=>k.isLeft == d.isLeft
end
section
variable {X:Cx}{pins:List (Addr × Obj)}{σ:St}{H:Hp}{s:Shared}{a:Addr}
end
noncomputable def oIxD:O2:=fun a k=>match a with
 | .dct ks ws=>(keyD k).bind fun d=>(valW (ks.zip ws) d).bind fun w=>#v[w,6]
 | .dcz ks ws=>(keyD k).bind fun d=>(valW (ks.zip ws) d).bind fun w=>#v[w,6]
 | a=>oIx a k
section
variable {K:PySem.W.Frag}{F H:Hp}{pr:Prt}{en:En}{σ:St}
theorem Rel.newOwn (R:Rel K F pr en σ H){p:Addr}(hp:H p=none){w:W}{o:HO}(h:OwnR K F w o):Rel K F pr en σ (upd H p o)/\Res K F (upd H p o) pr en σ (w,true) (.ref p):=by
 refine⟨R.lay hp o,p,o,w,rfl,rfl,upd_same,R.sub.free hp,h,fun i w' e z=>?_,fun q o2 hq z=>?_⟩
 ·obtain⟨a, vs, ws, h1, h2, h3, h4, h5⟩ := R.own i w' e;rw[h2] at z;cases z;rw[hp] at h3;exact noSome h3
 ·have := (R.prt q o2 hq).1;rw[z,hp] at this;exact noSome this
end
noncomputable def z69 (i:Nat) (g g' : GE):GE:=fun en=>match en[i]? with
  | some (some (.dct _ _,_))=>(g en).bind fun p=>(g' p.1).bind fun q=>(keyD p.2.1).bind fun d=>match q.1[i]? with
    | some (some (.dct ks ws,_))=>(match valW (ks.zip ws) d with
      | some w=>some (q.1,(w,false))
      | none=>if z6e d ks then some (q.1,q.2) else none)
    | _=>none
  | _=>none
section
variable {X:Cx}
end
noncomputable def keyV:DKey->Option W
 | .inl (.inl i)=>some (.int i)
 | .inl (.inr s)=>some (.str s)
 | .inr _=>none
noncomputable def zv6:List DKey->Option (List W)
 | []=>some []
 | k::ks=>(keyV k).bind fun w=>(zv6 ks).bind fun ws=>some (w::ws)
noncomputable def z2h:ON
 | [.dct ks _]=>(zv6 ks).bind fun ws=>#v[ws,2]
 | ws=>zsh ws
section
variable {X:Cx}
end
noncomputable def z3v:ON
 | [.dct ks _]=>(zv6 ks).bind fun ws=>(zcz ws).bind fun ns=>if ks.isEmpty then none else #v[((zzs ns).map W.int),2]
 | [.dcz ks _]=>(zv6 ks).bind fun ws=>(zcz ws).bind fun ns=>if ks.isEmpty then none else #v[((zzs ns).map W.int),2]
 | ws=>z1k ws
noncomputable def z35:List V->Hp->VK->Prop:=fun xs H Q=>∃a,xs=[.ref a]/\((∃kvs:List (Key × V),Rd H a (.dK kvs)/\Q (.int kvs.length) H)\/∃kvs:List (List Key × V),Rd H a (.dT kvs)/\Q (.int kvs.length) H)
theorem zrz {X:Cx}:zc9 X (.builtin "len") z35:=by
 intro pins s σ H xs us Q I r h;obtain⟨a,rfl,h⟩:=h;obtain⟨u,rfl,ru⟩:=vals1 r;cases ru;rcases h with ⟨kvs,hr,q⟩ | ⟨kvs,hr,q⟩
 ·exact z59 I hr fun t s' I'=>⟨.int kvs.length,H,I',⟨t,rfl⟩,q⟩
 ·obtain⟨z, hd, xs, rel, o, es, ep, ho, hx, hdat, hes, hn⟩ := (show ObjOk X.prog X.w H s.heap a (.dT kvs) from rd_of I.hok hr);have e:es.size=kvs.length:=by rw[<-Array.length_toList,hes,List.length_map,rel.length]
  exact z3n hd ho hx hdat (by rw[sizeLine_eq] at z;omega) fun t tk=>⟨.int kvs.length,H,I.kept (t':=tk) (fun b o e=>e),⟨t,by rw[e]⟩,q⟩
noncomputable def zs0:ON
 | [.dct ks ws]=>if ks.length=ws.length then #v[(ks.length:Nat),0] else none
 | ws=>oLen ws
theorem zwk {K:PySem.W.Frag}:OpSN K (fun xs H Q=>(∃p ys,xs=[.ref p]/\(SqL K H p ys\/SqT K H p ys)/\Q (.int ys.length) H)\/z35 xs H Q) zs0:=fun F H ws vs rv Q s r e q=>by
 unfold zs0 at e;split at e
 ·rename_i ks us;split at e
  ·rename_i hl;obtain rfl:=sI e;obtain⟨v,e1,h⟩:=r.one;obtain⟨a,rfl,D⟩:=h.dct s;subst e1;have zl:∀{κ:Type}{js:List κ}{vs:List V},js.length=vs.length->(js.zip vs).length=js.length:=fun h=>by rw[List.length_zip,h,Nat.min_self]
   rcases D with ⟨js,vs,rfl,h,hl,r⟩ | ⟨js,vs,rfl,h,hl,r⟩
   ·exact .inr ⟨a,rfl,.inl ⟨_,.inl h,by rw[zl hl];rw[List.length_map] at q;exact q _ _ (.val (.int _))⟩⟩
   ·exact .inr ⟨a,rfl,.inr ⟨_,.inl h,by rw[zl hl];rw[List.length_map] at q;exact q _ _ (.val (.int _))⟩⟩
  ·exact noSome e
 ·exact .inl (zua F H ws vs rv Q s r e q)
noncomputable def z4a (S:Sx):Expr->Bool
 | .Name x _=>dOn S x
 | _=>false
section
variable {X:Cx}{S:Sx}{d:Nat}{fE:Sx->Expr->Option GE}
noncomputable def z60 (fE:Sx->Expr->Option GE) (S:Sx):Expr->Option GE
 | .Call (.Attribute (.Name x _) name apos) [e,e'] [] cpos=>if name == ("get" : Str) && (apos.endLine == cpos.line) && zad e && zad e' then (S.rd x).bind fun i=>(fE S e).bind fun g=>(fE S e').bind fun g'=>some (z69 i g g') else none
 | _=>none
noncomputable def ztr:Expr->Bool
 | .Call (.Name x _) _ _ _=>x == ("dict" : Str)
 | _=>false
noncomputable def z7t (fE:Sx->Expr->Option GE) (S:Sx):Expr->Option GE
 | .Call (.Name x _) [e] [] _=>if (z4a S e || ztr e) && S.bl x && zad e then (if x == ("list" : Str) then (asL (za4 fE S) [e]).bind fun as=>some (gOpN z2h as) else if x == ("sorted" : Str) then (asL (za4 fE S) [e]).bind fun as=>some (gOpN z3v as) else none) else none
 | _=>none
noncomputable def lOn (S:Sx):Expr->Bool
 | .Name x _=>S.bn.contains (("l " : Str)++x)
 | e=>ztr e
noncomputable def zm3 (fE:Sx->Expr->Option GE) (S:Sx):Expr->Option GE
 | .Call (.Name x _) [e] [] _=>if lOn S e && S.bl x && zad e && x == ("len" : Str) then (asL (za4 fE S) [e]).bind fun as=>some (gOpN zs0 as) else none
 | _=>none
theorem zo4 (HE:zbp fE)(C:CxOk X S d):zmv (zm3 fE S) X:=fun e g h=>by
 unfold zm3 at h;split at h
 ·split at h
  ·rename_i z;rw[Bool.and_eq_true,Bool.and_eq_true,Bool.and_eq_true] at z;obtain⟨gl,m⟩:=ze3 C z.1.1.2;have e1:=eq_of_beq z.2;subst e1;obtain⟨as,has,h⟩:=bS h;obtain rfl:=sI h;obtain⟨pa,_⟩:=zf0 (fun e a ha=>zaj HE C ha) has;exact (zch (zey.or zrz) gl m zyt pa #v[0,9] #v[0,9] (zag z.1.2) rfl).wk fun _ _ _=>zn2 zwk
  ·exact noSome h
 ·exact noSome h
end
section
variable {X:Cx}{S:Sx}{d:Nat}{fE:Sx->Expr->Option GE}
end
section
variable {X:Cx}{pins:List (Addr × Obj)}{σ:St}{H:Hp}{s:Shared}{a:Addr}{y:V}{u:Value}{A:Around}{E:Value->Shared->Prop}{Q:Value->Shared->Prop}
end
section
variable {K:PySem.W.Frag}{F H:Hp}{pr:Prt}{en:En}{σ:St}
end
section
variable {X:Cx}{S:Sx}{d:Nat}{f:Sx->Expr->Option GE}
end
section
variable {X:Cx}{S:Sx}{d:Nat}{f:Sx->Expr->Option GE}
end
section
variable {prog:Program}{w:World}{A:Around}{E:Value->Shared->Prop}{s:Shared}
theorem zeh:entryFor table "dict.update.loop" = some Builtin.«dict.update.loop»:=by kernel_rfl
theorem zbg:plainId "dict.update.loop" = true:=by decide +kernel
variable {K:Type} [DecidableEq K]
noncomputable def dmF (kf:Nat->K) (vf:Nat->Value):Nat->Nat->List (K × Value)->List (K × Value)
 | _,0,kvs=>kvs
 | j,k+1,kvs=>dmF kf vf (j+1) k (stored kvs (kf j) (vf j))
theorem zhk {a:Addr}{ps:Array Value}{o:Obj}{Q:List Value->Shared->Prop}(h:s.heap.get? a=some o)(hc:o.cls=.type "tuple")(hd:∃c,o.data=.seq ps c)(q:Q ps.toList s):wpAny (model prog w) A (Builtin.Dict.pairItems (.ref a)) Q E s:=by
 obtain⟨c,hd⟩:=hd;show wpAny _ A (typeOf (.ref a) >>= _) Q E s;refine wpAny_bind (wpAny_typeOf_ref h ?_);rw[hc];show wpAny _ A (seqItems? (.ref a) >>= _) Q E s;refine wpAny_bind (wpAny_seqItems h hd (wpAny_pure ?_));exact q
variable {I:Addr}{fp wr:List Addr}{n:Nat}{P:Nat->Value->Prop}{St:Nat->Heap->Prop}{R:Result->Shared->Prop}
noncomputable def zrr (prog:Program) (w:World) {K:Type} [DecidableEq K] (knd:KeyKind prog w K) (h:Heap) (v:Value) (k:K) (x:Value) (wr:List Addr) (D:Addr):Prop:=∃a o c key,v=.ref a/\h.get? a=some o/\o.cls=.type "tuple"/\o.data=.seq #[key,x] c/\knd.is k key=true/\a ∉ wr/\a≠D
theorem zy7 {knd:KeyKind prog w K} (W:Walks prog w A.in1 I fp wr n P St) (kf:Nat->K) (vf:Nat->Value) (D:Addr) (nD:D ∉ fp) :
    ∀(k j:Nat) (s:Shared) (kvs:List (K × Value)) (i:Int) (t:Tok),n=j+k->(∀i v,P i v->zrr prog w knd s.heap v (kf i) (vf i) wr D)->St j s.heap->Heap.DictOf knd s.heap D kvs->kvs.length+k<=sizeLine ->
      (∀h' tk,(∀a o,a ∉ wr->a≠D->s.heap.get? a=some o->h'.get? a=some o)->Heap.DictOf knd h' D (dmF kf vf j k kvs)->R (.ok (.ret .none)) { s with heap:=h',toks:=tk })->codeAny (model prog w) A (.builtin "dict.update.loop" ⟨[.ref D,.ref I,.int i t,.none],[]⟩) R s:=by
  have nW:D ∉ wr:=fun h=>nD (W.sub _ h);intro k
  induction k with
  | zero =>
    intro j s kvs i t hn hP st hD hz hR;refine codeAny_builtin zeh ?_;rw[Around.under_plainId zbg _];show wpAny _ A.in1 (pyNext (.ref I) >>= _) _ _ s;have st' : St n s.heap:=by rw[hn];exact st
    refine wpAny_bind (W.done s _ _ st' fun h' tk k1=>?_);show wpAny _ A.in1 (Builtin.Dict.addKeywords D [] >>= _) _ _ _;refine wpAny_bind (wpAny_of_eq (show Builtin.Dict.addKeywords D []=pure () from rfl) (wpAny_pure ?_));obtain⟨o,es,ep,g1,g2⟩:=hD;exact hR h' tk (fun a o a1 _ e=>k1 a o a1 e) ⟨o,es,ep,k1 D o nW g1,g2⟩
  | succ k ih =>
    intro j s kvs i t hn hP st hD hz hR;refine codeAny_builtin zeh ?_;rw [Around.under_plainId zbg _];show wpAny _ A.in1 (pyNext (.ref I) >>= _) _ _ s;refine wpAny_bind (W.item j s _ _ (by omega) st fun v h1 tk p1 st1 k1=>?_);obtain ⟨a,o,c,key,rfl,ha,hc,hd,hk,aw,aD⟩:=hP j v p1;have ha1:=k1 a o aw ha;have hD1:Heap.DictOf knd h1 D kvs:=by
      obtain⟨o,es,ep,g1,g2⟩:=hD;exact⟨o,es,ep,k1 D o nW g1,g2⟩
    show wpAny _ A.in1 (holding [.ref a] (tryCatch (Builtin.Dict.pairItems (.ref a)) _ >>= _) >>= _) _ _ _;refine wpAny_bind (wpAny_holding (wpAny_bind (wpAny_tryCatch (zhk ha1 hc ⟨c,hd⟩ ?_))));show wpAny _ A.in1 (holding [key,vf j] (dictSet D key (vf j))) _ _ _;refine wpAny_holding (wpAny_dictSet_pairs hk hD1 (fun h2 hD2 sb=>?_) #v[]);refine wpAny_pure ⟨plainId_quiet zbg _,ih (j+1) _ _ _ _ #v[] ?_ ?_ hD2 ?_ fun h' tk' k2 d2=>?_⟩
    · intro i v p
      obtain⟨a,o,c,key,rfl,ha,hc,hd,hk,aw,aD⟩:=hP i v p;exact⟨a,o,c,key,rfl,(sb.2 a aD).trans (k1 a o aw ha),hc,hd,hk,aw,aD⟩
    · exact W.frame _ _ _ st1 fun b hb o e=>(sb.2 b fun z=>nD (z ▸ hb)).trans e
    · have := PySem.stored_length_le kvs (kf j) (vf j)
      omega
    · refine hR h' tk' (fun b o b1 b2 e=>k2 b o b1 b2 ((sb.2 b b2).trans (k1 b o b1 e))) d2
end
section
variable {prog:Program}{w:World}{A:Around}{E:Value->Shared->Prop}{s:Shared}
theorem zuy (v:Value):bindSpecial (.builtin "list.__getattribute__") v=pure (.builtin "list.__getattribute__",[v]):=by
 have h:typeOf (.builtin "list.__getattribute__")=pure (.type "wrapper_descriptor"):=by kernel_rfl
 unfold bindSpecial;rw[h]
 rfl
theorem zqe:typeLookup (Value.type "list") (Str.ofString "keys")=pure none:=am_miss_of_fast #v[0,0,7]
theorem zhs {l:Addr}{o:Obj}{xs:Array Value}{k:Nat}{Q:Option Value->Shared->Prop} (h:s.heap.get? l=some o) (hc:o.cls=.type "list") (hd:o.data=.seq xs k) (ho:o.dict=none) (hh:A.handled=none)
  (q:∀h' tk,(∀b ob,s.heap.get? b=some ob->h'.get? b=some ob)->Q none { s with heap:=h',toks:=tk }):wpAny (model prog w) A (getAttr? (.ref l) (Str.ofString "keys")) Q E s:=by
 obtain⟨oc,od,odt,osl⟩:=o;simp only at hc hd ho;subst hc hd ho;unfold getAttr?;refine wpAny_bind (wpAny_mkText ?_);unfold getAttrBy?;refine wpAny_bind (wpAny_attempt ?_);unfold getAttrBy;refine wpAny_holding (wpAny_bind (wpAny_typeOf_ref h ?_));rw[list_getattribute];refine wpAny_bind (wpAny_pure ?_);show wpAny _ A (getAttrByItsOwn (.ref l) _ (.type "list") (.builtin "list.__getattribute__") false false) _ _ _;unfold getAttrByItsOwn;show wpAny _ A (hookBefore (.type "list") >>= _) _ _ _;refine wpAny_bind (wpAny_of_eq (show hookBefore (.type "list")=pure none from rfl) ?_);refine wpAny_bind (wpAny_attempt (wpAny_holding ?_));show wpAny _ A (boundAndCalled (.builtin "list.__getattribute__") (.ref l) _) _ _ _;unfold boundAndCalled;rw[zuy];refine wpAny_bind (wpAny_pure ?_);show wpAny _ A (call (.builtin "list.__getattribute__") [.ref l,_]) _ _ _;refine call_meets PySem.F.slot_list_getattribute ⟨_,h,rfl⟩ am_entry_list_getattribute (PySem.F.args_list_getattribute_2 _ _) (meets_getattribute_miss_list l xs k osl (Str.ofString "keys") _ zqe #v[0,0,7]) ⟨h,hh,fun h' tk e ne=>?_⟩;show wpAny _ A (getattributeRaised (.ref l) _ (.type "list") (.ref e) none false false) _ _ _;obtain⟨t,u,he⟩:=ne.there;have ty:Shared.TypeIs { s with heap:=h',toks:=tk } (.ref e) "AttributeError" := ⟨_,he,rfl⟩;unfold getattributeRaised;refine wpAny_bind (wpAny_isInstance ty sub_AttributeError ?_);rw[if_pos rfl];show wpAny _ A (typeLookup (.type "list") (Str.ofString "__getattr__") >>= _) _ _ _;rw[am_list_getattr_none];refine wpAny_bind (wpAny_pure ?_);show wpAny _ A (throw (.ref e) >>= _) _ _ _;refine wpAny_bind (wpAny_throw ?_);show wpAny _ A (isInstance (.ref e) (.type "AttributeError") >>= _) _ _ _;refine wpAny_bind (wpAny_isInstance ty sub_AttributeError ?_);rw[if_pos rfl];exact wpAny_pure (q h' tk ne.keeps)
end
section
variable {X:Cx}{pins:List (Addr × Obj)}{σ:St}{H:Hp}{s:Shared}{A:Around}{E:Value->Shared->Prop}
noncomputable def PV (H:Hp):List V->List (Key × V)->Prop:=Paired fun v p=>∃b,v=V.ref b/\Rd H b (.tup [kV p.1,p.2])
theorem zxw {K:Type} [DecidableEq K] {kf:Nat->K}{vf:Nat->Value}:∀(rs:List (K × Value)) (j:Nat) (kvs:List (K × Value)),(∀i p,rs[i]?=some p->kf (j+i)=p.1/\vf (j+i)=p.2)->dmF kf vf j rs.length kvs=merged kvs rs
  | [],_,_,_=>rfl
  | p::rs,j,kvs,h=>by
    obtain ⟨e1,e2⟩:=h 0 p rfl;show dmF kf vf (j+1) rs.length (stored kvs (kf (j+0)) (vf (j+0)))=_;rw [e1,e2,zxw rs (j+1) _ fun i q hq=>by
      have:=h (i+1) q hq
      rwa [show j+(i+1)=j+1+i by omega] at this]
    rfl
end
noncomputable def z0l:W->Option (Key × W)
 | .tup [k,v]=>(keyF k).bind fun d=>some (d,v)
 | _=>none
noncomputable def zfq:List W->Option (List (Key × W))
 | []=>some []
 | w::ws=>(z0l w).bind fun p=>(zfq ws).bind fun ps=>some (p::ps)
noncomputable def updW:List (Key × W)->List DKey->List W->List DKey × List W
 | [],ks,ws=>(ks,ws)
 | p::ps,ks,ws=>updW ps (zd0 ks (.inl p.1)) (zdy ks ws (.inl p.1) p.2)
section
variable {K:PySem.W.Frag}{F H:Hp}
theorem zm8 (s:Same F H):∀{us:List W}{ps:List (Key × W)}{vs:List V},zfq us=some ps->Reps K F us vs->∃more:List (Key × V),PV H vs more/\Paired (fun (p:Key × W) (q:Key × V)=>p.1=q.1/\Rep K F p.2 q.2) ps more
  | [],_,_,e,.nil=>by obtain rfl:=sI e;exact⟨[],.nil,.nil⟩
  | w::us,_,_,e,.cons r rs=>by
    obtain⟨p,hp,e⟩:=bS (show (z0l w).bind _=_ from e);obtain⟨ps,hps,e⟩:=bS e;obtain rfl:=sI e;obtain⟨more,h1,h2⟩:=zm8 s hps rs;unfold z0l at hp;split at hp
    · rename_i k v
      obtain⟨d,hd,hp⟩:=bS hp;obtain rfl:=sI hp;cases r with
      | tup h rr =>
        cases rr with
        | cons rk rr =>
          cases rr with
          | cons rx rr =>
            cases rr;have kx:=rk.keyF hd;subst kx;exact⟨(d,_)::more,.cons ⟨_,rfl,.inl (s _ _ h)⟩ h1,.cons ⟨rfl,rx⟩ h2⟩
    · exact noSome hp
theorem zq2:∀{ps:List (Key × W)}{more:List (Key × V)}{js:List Key}{vs:List V}{ws:List W},Paired (fun (p:Key × W) (q:Key × V)=>p.1=q.1/\Rep K F p.2 q.2) ps more->js.length=vs.length->Reps K F ws vs->OwnR K F (.dct (updW ps (js.map .inl) ws).1 (updW ps (js.map .inl) ws).2) (.dK (zez (js.zip vs) more))
  | _,_,_,_,_,.nil,hl,r=>.dct hl r
  | p::ps,q::more,js,vs,ws,.cons ⟨e,rx⟩ h,hl,r=>by
    show OwnR K F (.dct (updW ps (zd0 (js.map (Sum.inl:Key->DKey)) (.inl p.1)) (zdy (js.map (Sum.inl:Key->DKey)) ws (.inl p.1) p.2)).1 (updW ps (zd0 (js.map (Sum.inl:Key->DKey)) (.inl p.1)) (zdy (js.map (Sum.inl:Key->DKey)) ws (.inl p.1) p.2)).2) (.dK (zez (putK (js.zip vs) q.1 q.2) more));rw[zsc zqv,zuj hl,<-e];exact zq2 h (zy6 hl _ _) (zpl zqv rx r)
end
section
variable {X:Cx}{S:Sx}{d:Nat}{fE:Sx->Expr->Option GE}
end
section
variable {X:Cx}{pins:List (Addr × Obj)}{σ:St}{H:Hp}
end
section
variable {X:Cx}
variable {S:Sx}{d:Nat}{fE:Sx->Expr->Option GE}
end
section
variable {prog:Program}{w:World}{A:Around}{E:Value->Shared->Prop}{s:Shared}{it d v:Addr}{o:Obj}{es:Array DictEntry}{i ep:Nat}
end
section
variable {X:Cx}{tg:Expr}
end
section
variable {X:Cx}{S:Sx}{d:Nat}{f:Sx->Expr->Option GE}
end
section
variable {prog:Program}{w:World}{A:Around}{E:Value->Shared->Prop}{s:Shared}
theorem zse {K:Type} [DecidableEq K] {knd:KeyKind prog w K}{l:Addr}{o:Obj}{xs:Array Value}{k:Nat}{Q:Value->Shared->Prop} (hl:s.heap.get? l=some o) (hc:o.cls=.type "list") (hd:o.data=.seq xs k) (ho:o.dict=none) (hL:s.heap.IsList l xs)
  (hh:A.handled=none) (kf:Nat->K) (vf:Nat->Value) (hP:∀i v,xs[i]?=some v->∃a,v=.ref a/\a < s.heap.objs.size/\zrr prog w knd s.heap v (kf i) (vf i) [] s.heap.objs.size) (hz:xs.size<=sizeLine)
  (q:∀h' tk,(∀a o,s.heap.get? a=some o->h'.get? a=some o)->Heap.DictOf knd h' s.heap.objs.size (dmF kf vf 0 xs.size [])->Q (.ref s.heap.objs.size) { s with heap:=h',toks:=tk }):wpAny (model prog w) A (call (.type "dict") [.ref l]) Q E s:=by
 have lt0:l < s.heap.objs.size:=Heap.lt_size hl;refine callType_codes (Q₁:=fun obj s₁=>obj=.ref s.heap.objs.size/\s₁={ s with heap:=s.heap.push { cls:=.type "dict",data:=.dict #[] } }) PySem.F.kt_called_dict (PySem.F.kt_typeCall_dict_1 _) PySem.F.entry_dict_init (kt_code_dict_new _ ⟨rfl,rfl⟩) fun obj s₁ ⟨e1,e2⟩=>?_;subst e1 e2;have g0:(s.heap.push { cls:=.type "dict",data:=.dict #[] }).get? s.heap.objs.size=some { cls:=.type "dict",data:=.dict #[] }:=Heap.get?_push_size _ rfl;have kp:∀b ob,s.heap.get? b=some ob->(s.heap.push { cls:=.type "dict",data:=.dict #[] }).get? b=some ob:=fun b ob e=>Heap.get?_push_of_some _ e;refine⟨⟨_,g0,rfl⟩,PySem.F.args_dict_init_2 _ _,?_⟩;show wpAny _ A.in1.in1 (Builtin.Dict.selfAndRest "__init__" ⟨[.ref s.heap.objs.size,.ref l],[]⟩ >>= _) _ _ _;unfold Builtin.Dict.selfAndRest;refine wpAny_bind (wpAny_bind (wpAny_notOrdered_dict ⟨_,g0,rfl⟩ ?_));show wpAny _ A.in1.in1 (pure s.heap.objs.size >>= _) _ _ _;refine wpAny_bind (wpAny_pure (wpAny_pure ?_));show wpAny _ A.in1.in1 (Builtin.Dict.updateFrom "dict.__init__" s.heap.objs.size (.ref l) [] .none) _ _ _;unfold Builtin.Dict.updateFrom;refine wpAny_bind (wpAny_typeOf_ref (kp l o hl) ?_);rw[hc];show wpAny _ A.in1.in1 (getAttr? (.ref l) (Str.ofString "keys") >>= _) _ _ _;refine wpAny_bind (zhs (kp l o hl) hc hd ho hh fun h1 tk k1=>?_);show wpAny _ A.in1.in1 (rule _ >>= _) _ _ _;refine wpAny_bind (wpAny_rule ?_);have hL1:h1.IsList l xs:=by
  obtain⟨o',a1,a2⟩:=hL;exact⟨o',k1 l o' (kp l o' a1),a2⟩
 refine wpAny_bind (wpAny_pyIter_list hL1 (wpAny_pure ⟨plainId_quiet zbg _,?_⟩));have lh:l < h1.objs.size:=Heap.lt_size (k1 l o (kp l o hl));have dh:s.heap.objs.size < h1.objs.size:=Heap.lt_size (k1 _ _ g0);refine zy7 (knd:=knd) (Walks.list (A:=A.in1.in1) hh h1.objs.size l (Nat.ne_of_lt lh) xs) kf vf s.heap.objs.size (fun m=>?_) xs.size 0 _ [] 0 0 #v[] (fun i v p=>?_) ⟨⟨_,Heap.get?_push_size _ rfl,rfl,rfl⟩,hL1.push _⟩ ⟨_,#[],0,Heap.get?_push_of_some _ (k1 _ _ g0),⟨rfl,rfl,rfl⟩,rfl,(fun e he=>absurd he (by simp)),.nil,List.nodup_nil⟩ (by show 0+_<=_;omega) fun h' tk' k2 d2=>?_
 ·rcases List.mem_cons.mp m with z | z
  ·exact Nat.ne_of_lt dh z
  ·exact Nat.ne_of_lt lt0 (List.mem_singleton.mp z).symm
 ·obtain⟨a', _, la, a, ob, c, key, rfl, ha, x1, x2, x3, _, x5⟩ := hP i v p;have ah:a < h1.objs.size:=Heap.lt_size (k1 a ob (kp a ob ha));exact⟨a,ob,c,key,rfl,Heap.get?_push_of_some _ (k1 a ob (kp a ob ha)),x1,x2,x3,fun m=>Nat.ne_of_lt ah (List.mem_singleton.mp m),x5⟩
 ·refine⟨rfl, q h' tk' (fun a ob e => ?_) d2⟩;have ah:a < h1.objs.size:=Heap.lt_size (k1 a ob (kp a ob e));exact k2 a ob (fun m=>Nat.ne_of_lt ah (List.mem_singleton.mp m)) (Nat.ne_of_lt (Heap.lt_size e)) (Heap.get?_push_of_some _ (k1 a ob (kp a ob e)))
end
section
variable {X:Cx}{pins:List (Addr × Obj)}{σ:St}{H:Hp}{s:Shared}{A:Around}{E:Value->Shared->Prop}
theorem zyq (I:Inv X pins σ H s):∀{vs:List V}{more:List (Key × V)}{its:List Value},PV H vs more->Vals vs its->∃rs:List (Key × Value),KV more rs/\rs.length=its.length/\∀(i:Nat) (v:Value),its[i]?=some v->∃p a,rs[i]?=some p/\v=.ref a/\a < s.heap.objs.size/\zrr X.prog X.w (zcv X.prog X.w) s.heap v p.1 p.2 [] s.heap.objs.size
  | _,_,_,.nil,.nil=>⟨[],.nil,rfl,fun i v h=>by simp at h⟩
  | _,_,_,.cons (b:=p) ⟨b,ev,hb⟩ pv,.cons (b:=u) ru vs=>by
    obtain⟨rs,r1,r2,r3⟩:=zyq I pv vs;subst ev;obtain rfl:u=Value.ref b:=ru;obtain⟨its,r,⟨o,ho,hc,n,hd⟩,hz⟩:=I.tuple (show SqT X.K H b _ from .inl hb);cases r with
    | cons rk r =>
      cases r with
      | cons rx r =>
        cases r;rename_i uk ux;refine⟨(p.1,ux)::rs,.cons ⟨rfl,rx⟩ r1,by rw[List.length_cons,List.length_cons,r2],fun i v hv=>?_⟩;cases i with
        | zero =>
          obtain rfl:=sI hv;have lt:=Heap.lt_size ho;exact⟨_,b,rfl,rfl,lt,b,o,n,uk,rfl,ho,hc,hd,z63 rk,List.not_mem_nil,Nat.ne_of_lt lt⟩
        | succ i=>exact r3 i v hv
theorem z4y {l:Addr}{more:List (Key × V)}{vs:List V}{Q:Value->Shared->Prop} (hh:A.handled=none) (I:Inv X pins σ H s) (el:H l=some (.lst vs)) (pv:PV H vs more) (hm:(s.heap.objs.size == sysModules)=false) (hz:more.length<=sizeLine)
  (h:∀p s',H p=none->Inv X pins σ (upd H p (.dK (zez [] more))) s'->Q (.ref p) s'):wpAny (model X.prog X.w) A (call (.type "dict") [.ref l]) Q E s:=by
 obtain⟨its,r,⟨o,n,ho,hc,hd0,hd⟩,_⟩:=I.list (SqL.of' el);obtain⟨rs,r1,r2,r3⟩:=zyq I pv r;have lr:more.length=rs.length:=r1.length;have get:∀i p,rs[i]?=some p->(rs.getD (0+i) (Sum.inl 0,.none)).1=p.1/\(rs.getD (0+i) (Sum.inl 0,.none)).2=p.2:=fun i p hp=>by
  rw[Nat.zero_add,List.getD_eq_getElem?_getD,hp];exact⟨rfl,rfl⟩
 refine zse (knd:=zcv X.prog X.w) (xs:=its.toArray) ho hc hd hd0 ⟨o,ho,hc,n,hd⟩ hh (fun i=>(rs.getD i (Sum.inl 0,.none)).1) (fun i=>(rs.getD i (Sum.inl 0,.none)).2) (fun i v hv=>?_) (by simp only [List.size_toArray];omega) fun h' tk k1 d1=>h _ _ (I.hok.fresh (Nat.le_refl _)) ?_
 ·have hv : its[i]? = some v := by simpa using hv
  obtain⟨p,a,hp,q⟩:=r3 i v hv;obtain⟨e1,e2⟩:=get i p hp;rw[Nat.zero_add] at e1 e2;refine⟨a,q.1,q.2.1,?_⟩;rw[e1,e2];exact q.2.2
 ·have sz : its.toArray.size = rs.length := by simp only [List.size_toArray]; exact r2.symm
  rw[sz,zxw rs 0 [] get] at d1;exact I.laid (t':=tk) (o:=.dK (zez [] more)) k1 (Nat.le_refl _) (z3b (by have:=zd3 more [];rw[List.length_nil] at this;omega) hm (r1.merge .nil) d1)
end
noncomputable def zya:List V->Hp->VK->Prop:=fun xs H Q=>∃l vs more,xs=[.ref l]/\H l=some (.lst vs)/\PV H vs more/\more.length<=sizeLine/\∀p,H p=none->Q (.ref p) (upd H p (.dK (zez [] more)))
theorem zpc {X:Cx}(hc:X.calm=true):zc9 X (.type "dict") zya:=by
 intro pins s σ H xs us Q I r h;obtain⟨l,vs,more,rfl,el,pv,hz,q⟩:=h;obtain⟨u,rfl,rx⟩:=vals1 r;cases rx;have big:=I.big;have hm:(s.heap.objs.size == sysModules)=false:=by
  cases e:s.heap.objs.size == sysModules with
  | false=>rfl
  | true=>have:=eq_of_beq e;rw[this] at big;exact absurd big (Nat.lt_irrefl _)
 exact z4y (I.ok.hd hc) I el pv hm hz fun p s' hp I'=>⟨.ref p,_,I',rfl,q p hp⟩
noncomputable def zgw (g:GE):GE:=fun en=>(g en).bind fun p=>match p.2.1 with
 | .lst us=>(zfq us).bind fun ps=>if ps.length<=sizeLine then some (p.1,(.dct (updW ps [] []).1 (updW ps [] []).2,true)) else none
 | _=>none
theorem zpx {K:PySem.W.Frag}{g:GE}{σ:St}{H:Hp}{Q:VK} (h:tE K (zgw g) σ H Q):tCB zya (zdv (tE K g) tNil) σ H Q:=by
  obtain⟨F,pr,en,en',r,R,h,q⟩:=h;obtain⟨⟨e1,r1⟩,h1,h⟩:=bS h;refine⟨F,pr,en,e1,r1,R,h1,fun F1 H1 v1 s1 R1 y1=>?_⟩;obtain⟨F2,s2,R2,x1⟩:=y1.freeze R1;split at h
  · rename_i us er
    obtain⟨ps,hps,h⟩:=bS h;split at h
    · rename_i z
      cases h;have er:r1.1=.lst us:=er;rw[er] at x1;cases x1 with
      | lst ha rv =>
        obtain⟨more,pv,pm⟩:=zm8 R2.sub hps rv;refine⟨_,_,more,rfl,R2.sub _ _ ha,pv,by have:=Paired.length pm;omega,fun p hp=>?_⟩;obtain⟨R3,y3⟩:=R2.newOwn hp (zq2 (js:=[]) (vs:=[]) (ws:=[]) pm rfl .nil);exact q F2 _ _ (s1.trans s2) R3 y3
    · exact noSome h
  · exact noSome h
section
variable {X:Cx}{S:Sx}{d:Nat}{fE:Sx->Expr->Option GE}
noncomputable def zh8 (fE:Sx->Expr->Option GE) (S:Sx):Expr->Option GE
 | .Call (.Name x _) [e] [] _=>if x == ("dict" : Str) && S.bl x && zad e then (fE S e).bind fun g=>some (zgw g) else none
 | _=>none
theorem zmd (HE:zbp fE)(C:CxOk X S d):zmv (zh8 fE S) X:=fun e g h=>by
 unfold zh8 at h;split at h
 ·split at h
  ·rename_i z;simp only [Bool.and_eq_true] at z;obtain⟨⟨z1,z2⟩,y⟩:=z;have e1:=eq_of_beq z1;subst e1;obtain⟨g1,hg1,h⟩:=bS h;obtain rfl:=sI h;obtain⟨gl,m⟩:=ze3 C z2;exact (zd6 (zpc C.calm) gl m (by kernel_rfl) (pac (HE X S d C _ _ hg1) zdd y) #v[0,9] #v[0,9] (zag y) rfl).wk fun _ _ _=>zpx
  ·exact noSome h
 ·exact noSome h
end
section
variable {X:Cx}
end
section
variable {K:PySem.W.Frag}{F H:Hp}{pr pb:Prt}{en:En}{σ:St}
end
section
variable {K:PySem.W.Frag}{mp:List Nat}{pb:Prt}{acc:Addr}
end
section
variable {X:Cx}{S:Sx}{d:Nat}{f:Sx->Expr->Option GE}
end
section
variable {prog:Program}{w:World}{A:Around}{E:Value->Shared->Prop}{s:Shared}
end
section
variable {K:PySem.W.Frag}{F:Hp}
end
section
variable {X:Cx}{tg:Expr}
end
section
variable {K:PySem.W.Frag}{σ:St}{H:Hp}
end
section
variable {X:Cx}{S:Sx}{d:Nat}{f:Sx->Expr->Option GE}
end
section
variable {K:PySem.W.Frag}
end
section
variable {K:PySem.W.Frag}{σ:St}{H:Hp}
end
section
open PySem.AutoSeq1 (wpAny_loadPart')
end
section
variable {X:Cx}{S:Sx}{d:Nat}{fE:Sx->Expr->Option GE}
end
set_option maxHeartbeats 1000000
section
variable {prog:Program}{w:World}{A:Around}{E:Value->Shared->Prop}{s:Shared}
end
section
variable {prog:Program}{w:World}{A:Around}{E:Value->Shared->Prop}{s:Shared}
end
section
variable {X:Cx}{S:Sx}{d:Nat}{fE:Sx->Expr->Option GE}
end
section
variable {X:Cx}{S:Sx}{d:Nat}{fE:Sx->Expr->Option GE}
end
namespace SetT
noncomputable abbrev HT:=Array Int × SetTable
end SetT
section
variable {prog:Program}{w:World}{A:Around}{E:Value->Shared->Prop}{s:Shared}
end
section
variable {prog:Program}{w:World}{A:Around}{R:Result->Shared->Prop}{I:Addr}{fp wr:List Addr}{G:Array GenState->Array GenState->Prop}{n:Nat}{P:Nat->Value->Prop}{St:Nat->Shared->Prop}
end
section
variable {prog:Program}{w:World}{A:Around}{E:Value->Shared->Prop}{s:Shared}
end
end L2
namespace L2
open PySem PySem.Spec PyProof.Rows
section
variable {prog:Program}{w:World}{A:Around}{E:Value->Shared->Prop}{s:Shared}{it d:Addr}{es:Array (Int × Value)}{ep slot i:Nat}{t:SetTable}
end
section
variable {prog:Program}{w:World}{A:Around}{E:Value->Shared->Prop}{s:Shared}
end
section
variable {X:Cx}{pins:List (Addr × Obj)}{σ:St}{H:Hp}
end
section
variable {X:Cx}{pins:List (Addr × Obj)}{σ:St}{H:Hp}
end
section
variable {X:Cx}{S:Sx}{d:Nat}{fE:Sx->Expr->Option GE}
end
section
variable {fE:Sx->Expr->Option GE}{X:Cx}{S:Sx}{d:Nat}
end
section
open PySem.AutoSeq1 (wpAny_loadPart')
end
section
variable {X:Cx}{S:Sx}{d:Nat}{fE:Sx->Expr->Option GE}
end
section
open PySem.AutoSeq1 (wpAny_loadPart')
variable {prog:Program}{w:World}{A:Around}{E:Value->Shared->Prop}{s:Shared}
end
section
variable {X:Cx}{S:Sx}{d:Nat}{fE:Sx->Expr->Option GE}
end
section
variable {prog:Program}{w:World}{A:Around}{E:Value->Shared->Prop}{s:Shared}
open HT in
end
section
variable {X:Cx}{S:Sx}{d:Nat}{fE:Sx->Expr->Option GE}
noncomputable def orX (a b:Option GE):Option GE:=match a with
 | some g=>some g
 | none=>b
theorem zt6 {x y:Expr->Option GE}(hx:zmv x X)(hy:zmv y X):zmv (fun e=>orX (x e) (y e)) X:=fun e g h=>by
 have h:orX (x e) (y e)=some g:=h;unfold orX at h;split at h
 ·rename_i g' q;obtain rfl:=sI h;exact hx e g' q
 ·exact hy e g h
noncomputable def extE (fE:Sx->Expr->Option GE) (S:Sx) (e:Expr):Option GE:=orX (zm3 fE S e) (orX (ztf fE S e) (zh8 fE S e))
theorem z1n (HE:zbp fE)(C:CxOk X S d):zmv (extE fE S) X:=zt6 (zo4 HE C) (zt6 (zru HE C) (zmd HE C))
end
noncomputable def ncOf (scope:Scope):List Str:=(scope.names.filter fun p=>p.2 == .free || p.2 == .local || p.2 == .cell).map (·.1)
noncomputable def capC (S:Sx) (scope:Scope):Cap:=(ncOf scope).map fun x=>if scope.names.lookup x == some .free then S.N.findIdx? (· == x) else none
noncomputable def inS (S:Sx) (scope:Scope):Sx:={ N:=ncOf scope,kd:=scope.names,bn:=S.bn,fs:=S.fs,mp:=capKeep (capC S scope),top:=false }
noncomputable def zmy (S:Sx) (scope:Scope):Bool:=decide (scope.kind=.function) && zgr (capC S scope) (ncOf scope) S.N scope && (scope.names.all fun p=>!(p.2 == .free) || S.kd.lookup p.1 == some .cell || S.kd.lookup p.1 == some .free) &&
 ze0 scope && (scope.names.all fun p=>!(p.2 == NameKind.local) || decide (scope.names.lookup p.1=some .local)) && decide (ncOf scope).Nodup
noncomputable def zxy (fT:Sx->Expr->Option GT) (S:Sx):List Expr->Option GT
 | []=>some gYes
 | [c]=>fT S c
 | _=>none
noncomputable def zrf (fE:Sx->Expr->Option GE) (fT:Sx->Expr->Option GT) (S:Sx) (elt:Expr) (gens:List Comprehension) (scope:Scope):Option GE:=match gens with
 | [c]=>if zmy S scope && decide (c.is_async=0) then (zqx fE S c.target c.iter).bind fun gi=>(tgE (inS S scope) c.target).bind fun T=>(zxy fT (inS S scope) c.ifs).bind fun tc=>(fE (inS S scope) elt).bind fun te=>some (zaz (capC S scope) T gi tc te) else none
 | _=>none
structure ScOk (X:Cx) (S:Sx) (scope:Scope):Prop where
 kind:scope.kind=.function
 cap:zgr (capC S scope) (ncOf scope) X.N scope=true
 fr:zfu scope X.env.scope=true
 nc:ze0 scope=true
 nm:(scope.names.all fun p=>!(p.2 == NameKind.local) || decide (scope.names.lookup p.1=some .local))=true
 nd:(ncOf scope).Nodup
section
variable {X:Cx}{S:Sx}{d:Nat}
theorem zxd (C:CxOk X S d){scope:Scope}(h:zmy S scope=true):ScOk X S scope:=by
 unfold zmy at h;simp only [Bool.and_eq_true] at h;obtain⟨⟨⟨⟨⟨h1,h2⟩,h3⟩,h4⟩,h5⟩,h6⟩:=h;refine⟨of_decide_eq_true h1,by rw[C.N];exact h2,?_,h4,h5,of_decide_eq_true h6⟩;unfold zfu;refine List.all_eq_true.mpr fun p hp=>?_;have q:=List.all_eq_true.mp h3 p hp;simp only [Bool.or_eq_true,Bool.not_eq_true',beq_eq_false_iff_ne,beq_iff_eq,decide_eq_true_eq] at q ⊢;rcases q with (q | q) | q
 ·exact .inl (.inl q)
 ·rcases C.vis p.1 (.inl q) with z | z
  ·exact .inl (.inr z)
  ·exact .inr z
 ·rcases C.vis p.1 (.inr q) with z | z
  ·exact .inl (.inr z)
  ·exact .inr z
theorem z0v (C:CxOk X S d){scope:Scope}(h:ScOk X S scope)(cl:List (Str × Addr))(L:Addr)(s3:Shared)(H3:Hp)(fp:List Addr):CxOk (za0 X (ncOf scope) scope cl L s3 H3 fp) (inS S scope) d where
 N:=rfl
 nd:=h.nd
 loc:=fun x e=>za3 (env:=X.env) #v[0,9] e
 cel:=fun x e=>⟨za3 (env:=X.env) #v[0,9] e,decide_eq_true e⟩
 vis:=fun x e=>by
  rcases e with e | e
  ·exact .inl (za3 (env:=X.env) #v[0,9] e)
  ·exact zaw (env:=X.env) e
 gl:=fun x e=>za3 (env:=X.env) #v[0,9] e
 calm:=C.calm
 xe:=rfl
 bn:=C.bn
 fs:=C.fs
 room:=C.room
 sl:=C.sl
 lam:=fun h=>absurd (show ("" : Str)∈lams from h) #v[0,0,7]
 dpo:=Nat.zero_le _
 bk:=by
  show (if scope.kind.isAnnotationScope then ScopeKind.function else scope.kind)=.function;rw[h.kind];rfl
end
theorem zul {K:PySem.W.Frag}{σ:St}{H:Hp}{Q:Bool->Hp->Prop}(h:tT K gYes σ H Q):zyb σ H Q:=by
 obtain⟨F,pr,en,en',b,R,h,q⟩:=h;cases h;exact q F H (.refl F) R
structure CompP (X:Cx) (S:Sx) (elt:Expr) (gens:List Comprehension) (scope:Scope) (g:GE):Prop where
 ex:∃tg iter ifs gs gi T tc,∃(em:Pos->Value->Env->Sem Unit) (tm:Addr->TM),gens=⟨tg,iter,ifs,0⟩ :: gs/\(∀pos it acc env,compTurn (.ListComp elt gens scope pos) 0 it acc env=zpo (.ListComp elt gens scope pos) 0 tg iter ifs (em pos acc env) it acc env)/\ScOk X S scope/\PI X tg iter (tI X.K gi)/\(∀x,foldedSetIterable iter X.env x=pure x) /\
  (∀cl C s3 H3 fp,PG (za0 X (ncOf scope) scope cl C s3 H3 fp) tg (TGof X.K T))/\(∀cl C s3 H3 fp,PTs (za0 X (ncOf scope) scope cl C s3 H3 fp) ifs (tT X.K tc))/\(∀pos cl C s3 H3 fp acc,PM (za0 X (ncOf scope) scope cl C s3 H3 fp) (em pos (.ref acc) (za0 X (ncOf scope) scope cl C s3 H3 fp).env) (tm acc)) /\
  ∀σ H Q,tE X.K g σ H Q->zrv (tI X.K gi) (capC S scope) (TGof X.K T) (tT X.K tc) tm σ H Q
section
variable {X:Cx}{S:Sx}{d:Nat}{fE:Sx->Expr->Option GE}{fT:Sx->Expr->Option GT}
theorem PTs.wk {ifs:List Expr}{t t' : TT}(h:PTs X ifs t)(i:∀σ H Q,t' σ H Q->t σ H Q):PTs X ifs t':=fun pins s σ H Q I q=>h pins s σ H Q I (i σ H Q q)
theorem zwx (HT:zkt fT)(C:CxOk X S d):∀{ifs:List Expr}{tc:GT},zxy fT S ifs=some tc->PTs X ifs (tT X.K tc)
 | [],_,h=>by obtain rfl:=sI h;exact zza.wk fun _ _ _=>zul
 | [_],_,h=>zzq (HT _ _ d C _ _ h)
 | _::_::_,_,h=>noSome h
theorem zfr (HE:zbp fE)(HT:zkt fT)(C:CxOk X S d){elt:Expr}{gens:List Comprehension}{scope:Scope}{g:GE}(h:zrf fE fT S elt gens scope=some g):CompP X S elt gens scope g:=by
 unfold zrf at h;split at h
 ·rename_i c;obtain⟨tg,iter,ifs,as⟩:=c;split at h
  ·rename_i z;rw[Bool.and_eq_true] at z;have ha:as=0:=of_decide_eq_true z.2;subst ha;obtain⟨gi,hi,h⟩:=bS h;obtain⟨T,hT,h⟩:=bS h;obtain⟨tc,htc,h⟩:=bS h;obtain⟨te,hte,h⟩:=bS h;obtain rfl:=sI h;have so:=zxd C z.1;obtain⟨pi,pf⟩:=zov HE C hi;exact⟨tg,iter,ifs,[],gi,T,tc,fun _=>z09 elt,fun acc=>zxa acc (tE X.K te),rfl,fun _ _ _ _=>rfl,so,pi,pf,fun cl L s3 H3 fp=>zym (z0v C so cl L s3 H3 fp) hT,fun cl L s3 H3 fp=>zwx HT (z0v C so cl L s3 H3 fp) htc,fun _ cl L s3 H3 fp acc=>z4n (HE _ _ d (z0v C so cl L s3 H3 fp) _ _ hte),fun _ _ _=>zrl⟩
  ·exact noSome h
 ·exact noSome h
theorem zqt (C:CxOk X S d){elt:Expr}{gens:List Comprehension}{scope:Scope}{g:GE}{pos:Pos}(h:CompP X S elt gens scope g):PE X (.ListComp elt gens scope pos) (tE X.K g):=by
 nofun;obtain⟨tg,iter,ifs,gs,gi,T,tc,em,tm,e1,e2,so,pi,pf,pg,pt,pe,rd⟩:=h.ex;ac_rfl;subst e1;exact (z0x pi pg pt (pe pos) (e2 pos) C.calm so.kind so.cap so.fr so.nc so.nm pf).wk rd
noncomputable def kwE (fE:Sx->Expr->Option GE) (S:Sx) (x:Str) (e:Expr) (key:Str) (ed:Expr):Option GE:=match ed with
 | .Name y p=>if x == ("sorted" : Str) && key == ("key" : Str) then z38 fE S e y else maxE fE S x e key (.Name y p)
 | ed=>maxE fE S x e key ed
noncomputable def z14 (fE:Sx->Expr->Option GE) (S:Sx):Option Expr->Option GO
 | none=>some zb4
 | some e=>(fE S e).bind fun g=>some (zfi g)
noncomputable def zxq (fE:Sx->Expr->Option GE) (fT:Sx->Expr->Option GT) (S:Sx) (e:Expr):Option GE:=match e with
  | .Name x _=>(S.rd x).bind fun i=>some (gVar i)
  | .Constant c _ _=>(match c with
    | .int i=>some (gC (.int i))
    | .bool b=>some (gC (.bl b))
    | .none=>some (gC .non)
    | .str x=>some (gC (.str x))
    | _=>none)
  | .BinOp a op b _=>(za4 fE S a).bind fun x=>(za4 fE S b).bind fun y=>(binO op).bind fun o=>some (gOp2 o x y)
  | .UnaryOp op a _=>(match op with
    | .USub=>(za4 fE S a).bind fun x=>some (gOp1 oNeg x)
    | _=>none)
  | .BoolOp op vs _=>(match vs with
    | v::vs=>z1j (fE S) op v vs
    | []=>none)
  | .Compare a ops cs _=>cmpE fE S a ops cs
  | .IfExp c a b _=>(fT S c).bind fun t=>(fE S a).bind fun x=>(fE S b).bind fun y=>some (gIf t x y)
  | .Subscript a s _=>(match s with
    | .Slice lo hi st _=>(match st with
      | none=>(za4 fE S a).bind fun x=>(z14 fE S lo).bind fun l=>(z14 fE S hi).bind fun h=>some (gSl x l h)
      | some _=>none)
    | s=>if zdn s then (za4 fE S a).bind fun x=>(za4 fE S s).bind fun y=>some (gOp2 oIx x y) else none)
  | .List es _=>(asL (fun e=>(fE S e).bind fun g=>some (gArg g)) es).bind fun as=>some (zas as)
  | .Tuple es _ _=>(asL (fun e=>(fE S e).bind fun g=>some (gArg g)) es).bind fun as=>some (zgg as)
  | .Call fu args kws pos=>(match kws with
    | []=>(match fu with
      | .Name x _=>z10 fE S x args
      | .Attribute o m ap=>zy4 fE S o m ap args pos
      | _=>none)
    | [⟨some key,.Lambda params body scope _,_⟩]=>(match fu,args with
      | .Name x _,[e]=>z1a fE S x e key params body scope
      | _,_=>none)
    | _=>none)
  | .ListComp elt gens scope _=>zrf fE fT S elt gens scope
  | _=>none
noncomputable def zzi (fE:Sx->Expr->Option GE) (fT:Sx->Expr->Option GT) (S:Sx) (e:Expr):Option GT:=match e with
  | .BoolOp op vs _=>(match vs with
    | v::vs=>z0y (fT S) op v vs
    | []=>none)
  | .Compare a ops cs _=>(cmpE fE S a ops cs).bind fun g=>some (zak g)
  | .UnaryOp op a p=>(match op with
    | .Not=>(fT S a).bind fun g=>some (zml g)
    | op=>if zoq (.UnaryOp op a p) then (fE S (.UnaryOp op a p)).bind fun g=>some (zak g) else none)
  | e=>if zoq e then (fE S e).bind fun g=>some (zak g) else none
theorem zob (HE:zbp fE) (C:CxOk X S d) {o:Option Expr}{g:GO} (h:z14 fE S o=some g):PO X o (tO X.K g):=by
  cases o with
  | none=>obtain rfl:=sI h;exact fun pins s σ H Q I q=>zy2 pins s σ H Q I (zmq q)
  | some e =>
    obtain⟨ge,hg,h⟩:=bS h;obtain rfl:=sI h;exact fun pins s σ H Q I q=>zzx (HE X S d C _ _ hg) pins s σ H Q I (zq9 q)
theorem zxn (HE:zbp fE) (HT:zkt fT):zbp (zxq fE fT):=fun X S d C e g h=>by
  have HA:∀e a,((fE S e).bind fun g=>some (gArg g))=some a->PE X e (tA X.K a):=fun e a h=>by
    obtain⟨ge,hg,h⟩:=bS h;obtain rfl:=sI h;exact (HE X S d C _ _ hg).wk fun _ _ _=>zhg
  cases e with
  | Name x p =>
    obtain⟨i,hi,h⟩:=bS (show (S.rd x).bind _=_ from h);obtain rfl:=sI h;exact (zo3 C hi).wk fun _ _ _=>zvn
  | Constant c k p =>
    cases c with
    | int i=>obtain rfl:=sI h;exact z5x.wk fun _ _ _=>zdr fun _=>.int i
    | bool b=>obtain rfl:=sI h;exact z6c.wk fun _ _ _=>zdr fun _=>.bl b
    | none=>obtain rfl:=sI h;exact z3z.wk fun _ _ _=>zdr fun _=>.non
    | str x=>obtain rfl:=sI h;exact z2i.wk fun _ _ _=>zdr fun _=>.str x
    | _=>exact noSome h
  | BinOp a op b p =>
    obtain⟨x,hx,h⟩:=bS (show (za4 fE S a).bind _=_ from h);obtain⟨y,hy,h⟩:=bS h;obtain⟨o,ho,h⟩:=bS h;obtain rfl:=sI h;obtain⟨r,h1,h2⟩:=z18 (X:=X) ho;exact (z6z h1 (zaj HE C hx) (zaj HE C hy)).wk fun _ _ _=>ze5 h2
  | UnaryOp op a p =>
    cases op with
    | USub =>
      obtain⟨x,hx,h⟩:=bS (show (za4 fE S a).bind _=_ from h);obtain rfl:=sI h;exact (z6m z4e (zaj HE C hx)).wk fun _ _ _=>zxj zzw
    | _=>exact noSome h
  | BoolOp op vs p =>
    cases vs with
    | nil=>exact noSome h
    | cons v vs=>exact zot (fun e g=>HE X S d C e g) h
  | Compare a ops cs p=>exact (ztk HE C h).1
  | IfExp c a b p =>
    obtain⟨t,ht,h⟩:=bS (show (fT S c).bind _=_ from h);obtain⟨x,hx,h⟩:=bS h;obtain⟨y,hy,h⟩:=bS h;obtain rfl:=sI h;exact (zve (HT X S d C _ _ ht) (HE X S d C _ _ hx) (HE X S d C _ _ hy)).wk fun _ _ _=>z2f
  | Subscript a s p =>
    have ix:∀s,(if zdn s then (za4 fE S a).bind fun x=>(za4 fE S s).bind fun y=>some (gOp2 oIx x y) else none)=some g->PE X (.Subscript a s p) (tE X.K g):=fun s h=>by
      split at h
      · rename_i z
        obtain⟨x,hx,h⟩:=bS h;obtain⟨y,hy,h⟩:=bS h;obtain rfl:=sI h;exact (z6y (z0c.or z2g) (zaj HE C hx) (zaj HE C hy) (zpw z)).wk fun _ _ _=>ze5 z5l
      · exact noSome h
    cases s with
    | Slice lo hi st p2 =>
      cases st with
      | some _=>exact noSome h
      | none =>
        obtain⟨x,hx,h⟩:=bS (show (za4 fE S a).bind _=_ from h);obtain⟨l,hl,h⟩:=bS h;obtain⟨u,hu,h⟩:=bS h;obtain rfl:=sI h;exact (zvy ((zyw.or z3l).or z1f) (zaj HE C hx) (zob HE C hl) (zob HE C hu)).wk fun _ _ _=>z0s
    | _=>exact ix _ h
  | List es p =>
    obtain⟨as,has,h⟩:=bS (show (asL _ es).bind _=_ from h);obtain rfl:=sI h;exact (z5g (zf0 HA has).1).wk fun _ _ _=>zxl
  | Tuple es k p =>
    obtain⟨as,has,h⟩:=bS (show (asL _ es).bind _=_ from h);obtain rfl:=sI h;exact (z3x (zf0 HA has).1).wk fun _ _ _=>zv4
  | Call fu args kws p =>
    simp only [zxq] at h;split at h
    · cases fu with
      | Name x p2=>exact zup HE C h
      | Attribute o m ap=>exact zwr HE C h
      | _=>exact noSome h
    · split at h
      · exact zvh HE C h
      · exact noSome h
    · exact noSome h
  | ListComp elt gens scope p=>exact zqt C (zfr HE HT C h)
  | _=>exact noSome h
theorem zu7 (HE:zbp fE) (HT:zkt fT):zkt (zzi fE fT):=fun X S d C e g h=>by
  have plain:∀e,(if zoq e then (fE S e).bind fun g=>some (zak g) else none)=some g->PT X e (tT X.K g):=fun e h=>by
    split at h
    · rename_i z
      obtain⟨x,hx,h⟩:=bS h;obtain rfl:=sI h;exact (z2t (HE X S d C _ _ hx) (zps z)).wk fun _ _ _=>zjk fun _ _ _ q=>q
    · exact noSome h
  cases e with
  | BoolOp op vs p =>
    cases vs with
    | nil=>exact noSome h
    | cons v vs=>exact (zir (fun e g=>HT X S d C e g) h).pt
  | Compare a ops cs p =>
    obtain⟨x,hx,h⟩:=bS (show (cmpE fE S a ops cs).bind _=_ from h);obtain rfl:=sI h;exact (ztk HE C hx).2
  | UnaryOp op a p =>
    cases op with
    | Not =>
      obtain⟨x,hx,h⟩:=bS (show (fT S a).bind _=_ from h);obtain rfl:=sI h;exact (z4o (HT X S d C _ _ hx)).wk fun _ _ _=>zr3
    | _=>exact plain _ h
  | _=>exact plain _ h
end
mutual
noncomputable def zh4:W->Bool
 | .non=>true
 | .bl _=>true
 | .int _=>true
 | .str _=>true
 | .tup xs=>zos xs
 | _=>false
noncomputable def zos:List W->Bool
 | []=>true
 | w::ws=>zh4 w && zos ws
end
noncomputable def zz9:W->Bool
 | .lst ws=>zos ws
 | _=>false
noncomputable def borX (x y:Option (W × Bool)):Option (W × Bool):=match x with
  | some (_,true)=>(match y with
    | #v[w,5]=>if zz9 w then #v[w,5] else none
    | _=>none)
  | x=>x
noncomputable def gBor (i:Nat) (g:GE):GE:=fun en=>match en[i]? with
 | some (#v[ws,2])=>(g (en.set i (#v[ws,1]))).bind fun p=>if p.1.length=en.length/\zh4 p.2.1=true/\p.2.2=false then some ((List.zipWith borX en p.1).set i (#v[ws,2]),p.2) else none
 | _=>g en
section
variable {K:PySem.W.Frag}
mutual
theorem zn9 {F F2:Hp}(hF:∀b w,zh4 w=true->Rep K F2 w (.ref b)->F b=F2 b):∀{w:W}{v:V},Rep K F2 w v->zh4 w=true->Rep K F w v
 | _,_,.non,_=>.non
 | _,_,.bl b,_=>.bl b
 | _,_,.int i,_=>.int i
 | _,_,.str x,_=>.str x
 | _,_,.tup h r,p=>.tup ((hF _ _ p (.tup h r)).trans h) (zfn hF r p)
 | _,_,.lst _ _,p=>nomatch p
 | _,_,.frl _ _,p=>nomatch p
 | _,_,.dic _,p=>nomatch p
 | _,_,.dct _ _ _,p=>nomatch p
 | _,_,.dctT _ _ _,p=>nomatch p
 | _,_,.dcz _ _ _,p=>nomatch p
 | _,_,.dczT _ _ _,p=>nomatch p
theorem zfn {F F2:Hp}(hF:∀b w,zh4 w=true->Rep K F2 w (.ref b)->F b=F2 b):∀{ws:List W}{vs:List V},Reps K F2 ws vs->zos ws=true->Reps K F ws vs
 | _,_,.nil,_=>.nil
 | _,_,.cons h r,p=>.cons (zn9 hF h ((Bool.and_eq_true _ _).mp p).1) (zfn hF r ((Bool.and_eq_true _ _).mp p).2)
end
open Classical in
noncomputable def zd7 (K:PySem.W.Frag) (F F2:Hp):Hp:=fun b=>match F b with
 | some o=>some o
 | none=>if (∃c,F2 b=some (.ext c))\/∃w,zh4 w=true/\Rep K F2 w (.ref b) then F2 b else none
theorem zqs {F F2:Hp}(s:Same F F2):Same (zd7 K F F2) F2:=fun b o e=>by
 unfold zd7 at e;split at e
 ·rename_i o' e';cases e;exact s _ _ e'
 ·split at e
  ·exact e
  ·cases e
theorem zql {F F2:Hp}:Same F (zd7 K F F2):=fun b o e=>by
 unfold zd7;rw[e]
theorem zpp {F F2:Hp}(s:Same F F2)(b:Addr)(w:W)(p:zh4 w=true)(r:Rep K F2 w (.ref b)):zd7 K F F2 b=F2 b:=by
 unfold zd7;split
 ·rename_i o e;exact (s _ _ e).symm
 ·rw[if_pos (.inr ⟨w,p,r⟩)]
theorem zum {i:Nat}{g:GE}{σ:St}{H:Hp}{Q:VK} (h:tE K (gBor i g) σ H Q):tE K g σ H Q:=by
  obtain⟨F,pr,en,en',r,R,h,q⟩:=h;unfold gBor at h;split at h
  · rename_i ws e
    obtain⟨⟨e1,r1⟩,h1,h⟩:=bS h;split at h
    · rename_i z
      obtain ⟨z1,z2,z3⟩:=z;cases h;obtain ⟨a,o,w',rfl,sa,ha,fa,ow⟩:=R.own i _ e;obtain ⟨vs,rfl,rv⟩:=ow.list;obtain ⟨F1,s1,R1,y1⟩:=R.freeze e sa;have f1:F1 a=some (.lst vs):=by
        cases y1 with
        | lst hf _=>exact hf.trans ((R1.sub _ _ hf).symm.trans ha)
      refine ⟨F1,pr,_,e1,r1,R1,h1,fun F2 H2 v s2 R2 y2=>?_⟩;have s02:Same F F2:=s1.trans s2;have f2:F2 a=some (.lst vs):=s2 _ _ f1;have sub:=zqs (K:=K) s02;have old:Same F (zd7 K F F2):=zql;have pu:∀b w,zh4 w=true->Rep K F2 w (.ref b)->zd7 K F F2 b=F2 b:=zpp s02;have none_of:∀b,F2 b=none->zd7 K F F2 b=none:=fun b e=>by
        cases x:zd7 K F F2 b with
        | none=>rfl
        | some o=>rw[sub _ _ x] at e;cases e
      have ka:zd7 K F F2 a=none:=by
        unfold zd7;rw[fa];refine if_neg fun z=>?_;rcases z with ⟨c,z⟩ | ⟨w,z,y⟩
        · rw[f2] at z;cases z
        · cases y with
          | tup hf _=>rw[f2] at hf;cases hf
          | _=>cases z
      have hi:i < (List.zipWith borX en e1).length:=by rw[List.length_zipWith,z1,Nat.min_self];exact (List.getElem?_eq_some_iff.mp e).1
      have get:∀(j:Nat) (w:W) (b:Bool),((List.zipWith borX en e1).set i (some (.lst ws,true)))[j]?=some (some (w,b))->(j=i/\w=.lst ws/\b=true)\/(j≠i/\b=false/\en[j]?=some (some (w,false)))\/(j≠i/\b=true/\(∃w0,en[j]?=some (some (w0,true)))/\e1[j]?=some (some (w,true))/\zz9 w=true):=fun j w b x=>by
        have x0:=zb7 hi x;clear x;rcases x0 with ⟨ji,y⟩ | ⟨ne,x⟩
        · cases y;exact .inl ⟨ji,rfl,rfl⟩
        · rw [List.getElem?_zipWith] at x
          refine .inr ?_;cases x1:en[j]? with
          | none=>rw[x1] at x;cases x
          | some u =>
            cases x2:e1[j]? with
            | none=>rw[x1,x2] at x;cases x
            | some u2 =>
              rw[x1,x2] at x;have x:borX u u2=some (w,b):=sI x
              match u,x with
              | none,x=>cases x
              | #v[w0,6],x=>cases x;exact .inl ⟨ne,rfl,rfl⟩
              | some (w0,true),x =>
                match u2,x with
                | none,x=>cases x
                | #v[w1,6],x=>cases x
                | some (w1,true),x =>
                  have x:(if zz9 w1 then #v[w1,5] else none)=some (w,b):=x;split at x
                  · rename_i pw
                    cases x;exact .inr ⟨ne,rfl,⟨w0,rfl⟩,rfl,pw⟩
                  · cases x
      refine q (zd7 K F F2) H2 v old ⟨?_,fun b o x=>R2.sub _ _ (sub _ _ x),fun j w x=>?_,fun j w x=>?_,fun j k b w w' x1 x2 y1 y2=>?_,fun b o x=>?_,?_⟩ ?_
      · rw[List.length_set,List.length_zipWith,z1,Nat.min_self];exact R.len
      · rcases get j w false x with ⟨_, _, c⟩ | ⟨_, _, x⟩ | ⟨_, c, _⟩
        · cases c
        · obtain ⟨v, y1, y2⟩ := R.val j w x
          exact⟨v,y1,y2.mono old⟩
        · cases c
      · rcases get j w true x with ⟨rfl, rfl, _⟩ | ⟨_, c, _⟩ | ⟨_, _, _, x, pw⟩
        · exact⟨a,.lst vs,.lst ws,rfl,sa,R2.sub _ _ f2,ka,.lst (rv.mono old)⟩
        · cases c
        · obtain ⟨b, o, w', rfl, y1, y2, y3, y4⟩ := R2.own j w x
          refine⟨b,o,w,rfl,y1,y2,none_of b y3,?_⟩;cases y4 with
          | lst r=>exact .lst (zfn pu r pw)
          | _=>cases pw
      · rcases get j w true x1 with ⟨rfl, _, _⟩ | ⟨_, c, _⟩ | ⟨n1, _, _, u1, _⟩
        · rcases get k w' true x2 with ⟨rfl, _, _⟩ | ⟨_, c, _⟩ | ⟨n2, _, _, u2, _⟩
          · rfl
          · cases c
          · obtain ⟨b', o, w2, _, y3, y4, y5, _⟩ := R2.own k _ u2
            rw[y2] at y3;cases y3;rw[y1] at sa;cases sa;rw[f2] at y5;cases y5
        · cases c
        · rcases get k w' true x2 with ⟨rfl, _, _⟩ | ⟨_, c, _⟩ | ⟨n2, _, _, u2, _⟩
          · obtain ⟨b', o, w2, _, y3, y4, y5, _⟩ := R2.own j _ u1
            rw[y1] at y3;cases y3;rw[y2] at sa;cases sa;rw[f2] at y5;cases y5
          · cases c
          · exact R2.inj j k b w w' u1 u2 y1 y2
      · obtain ⟨y1, y2, y3⟩ := R2.prt b o x
        refine⟨y1,none_of b y2,fun j w y=>?_⟩;rcases get j w true y with ⟨rfl,_,_⟩ | ⟨_,c,_⟩ | ⟨_,_,_,u,_⟩
        · exact (R.prt b o x).2.2 j _ e
        · cases c
        · exact y3 j w u
      · refine ⟨R2.tb.1, fun x hx c P ex => ?_⟩
        obtain⟨ps,a1,a2,a3,a4,a5⟩:=R2.tb.2 x hx c P ex;refine⟨ps,a1,none_of P a2,a3,a4,fun pos cv y=>?_⟩;obtain⟨c',b1,b2⟩:=a5 pos cv y;refine⟨c',b1,?_⟩;cases x0:F c' with
        | some o=>rw[old _ _ x0];exact (s02 _ _ x0).symm.trans b2
        | none =>
          unfold zd7;rw[x0];exact (if_pos (.inl ⟨_,b2⟩)).trans b2
      · obtain ⟨w, fl⟩ := r1
        cases z3;exact zn9 pu y2 z2
    · cases h
  · exact⟨F,pr,en,en',r,R,h,q⟩
end
noncomputable def borA (S:Sx):Expr->Option Nat
 | .Name x _=>if S.bn.contains (("b " : Str)++x) then S.rd x else none
 | _=>none
noncomputable def borN (S:Sx):Expr->Option Nat
 | .Call (.Name f _) args [] _=>if S.bl f then none else args.findSome? (borA S)
 | _=>none
noncomputable def borE (S:Sx) (e:Expr) (g:GE):GE:=match borN S e with
 | some i=>gBor i g
 | none=>g
theorem zrh {X:Cx}{S:Sx}{e:Expr}{g:GE}(h:PE X e (tE X.K g)):PE X e (tE X.K (borE S e g)):=by
 unfold borE;split
 ·exact h.wk fun _ _ _=>zum
 ·exact h
noncomputable def z1c:GE:=fun _=>none
noncomputable def zqf:GT:=fun _=>none
mutual
noncomputable def compE:Nat->Sx->Expr->Option GE
 | 0,_,_=>some z1c
 | n+1,S,e=>some (borE S e ((orX (extE (compE n) S e) (zxq (compE n) (compT n) S e)).getD z1c))
noncomputable def compT:Nat->Sx->Expr->Option GT
 | 0,_,_=>some zqf
 | n+1,S,e=>some ((zzi (compE n) (compT n) S e).getD zqf)
end
theorem zqq {X:Cx}{e:Expr}:PE X e (tE X.K z1c):=fun _ _ _ _ _ _ q=>by obtain⟨_,_,_,_,_,_,h,_⟩:=q;exact noSome h
theorem zof {X:Cx}{e:Expr}:PT X e (tT X.K zqf):=fun _ _ _ _ _ _ q=>by obtain⟨_,_,_,_,_,_,h,_⟩:=q;exact noSome h
theorem zfm:∀n,zbp (compE n)/\zkt (compT n)
  | 0=>⟨fun _ _ _ _ _ _ h=>by rw[compE] at h;obtain rfl:=sI h;exact zqq,fun _ _ _ _ _ _ h=>by rw[compT] at h;obtain rfl:=sI h;exact zof⟩
  | n+1=>by
    obtain⟨a,b⟩:=zfm n;refine⟨fun X S d C e g h=>?_,fun X S d C e g h=>?_⟩
    · rw [compE] at h
      cases q:orX (extE (compE n) S e) (zxq (compE n) (compT n) S e) with
      | none=>rw[q] at h;obtain rfl:=sI h;exact zrh zqq
      | some g'=>rw[q] at h;obtain rfl:=sI h;exact zrh (zt6 (z1n a C) (zxn a b X S d C) e _ q)
    · rw [compT] at h
      cases q:zzi (compE n) (compT n) S e with
      | none=>rw[q] at h;obtain rfl:=sI h;exact zof
      | some g'=>rw[q] at h;obtain rfl:=sI h;exact zu7 a b X S d C e _ q
end L2
namespace L2
open PySem PySem.Spec PyProof.Rows
section
variable {X:Cx}{pos:Pos}
end
section
variable {K:PySem.W.Frag}{mp:List Nat}{D:Ends}{σ:St}{H:Hp}
end
section
variable {X:Cx}{S:Sx}{d:Nat}{fE:Sx->Expr->Option GE}
end
section
variable {X:Cx}{S:Sx}{d:Nat}{fE:Sx->Expr->Option GE}
theorem z40 {o k e:Expr}{p:Pos}{env:Env}:swappedStores [.Subscript o k p] e env=pure none:=by
 cases e<;>rfl
theorem zxf {o k e:Expr}{p:Pos}{l:Nat}{env:Env}:swapsWithSole [.Subscript o k p] e l env=pure false:=by
 cases e<;>rfl
theorem zpz {o k:Expr}{p:Pos}{env:Env} (h:zdn k=true):∀v,assign (.Subscript o k p) env v=(do
   let ov <- holding [v] (eval o env)
   let iv <- holding [v,ov] (eval k env)
   standAt p
   holding [v,ov,iv] (setItem ov iv v)
   release [v,ov,iv] []):=by
 intro v;cases k<;>first | rfl | (cases h)
end
noncomputable def zcr (mp:List Nat) (i:Nat):GS:=fun en=>match en[i]? with
 | some (#v[w,5])=>if mp.contains i then none else some (en.set i none,.ret (w,true))
 | some (#v[w,6])=>some (en,.ret (w,false))
 | _=>none
theorem zr8 {K:PySem.W.Frag}{mp:List Nat}{D:Ends}{σ:St}{H:Hp}{i:Nat}(h:tS K mp (zcr mp i) D σ H):tRet (tVar i) D σ H:=by
 obtain⟨F,pr,en,en',fl,R,h,q⟩:=h;unfold zcr at h;split at h
 ·rename_i w e;split at h
  ·exact noSome h
  ·cases h;obtain⟨v,hv,R',z⟩:=R.drop e;exact⟨v,hv,q F σ H v (.refl F) R' (.refl _ _) z⟩
 ·rename_i w e;cases h;obtain⟨v,hv,z⟩:=R.val i w e;exact⟨v,hv,q F σ H v (.refl F) R (.refl _ _) z⟩
 ·exact noSome h
noncomputable def zw1 (f:Sx->Stmt->Option GS):Prop:=∀X S d,CxOk X S d->∀st g,f S st=some g->PS X st (tS X.K S.mp g)
noncomputable def blk (f:Sx->Stmt->Option GS) (S:Sx):List Stmt->Option GS
  | []=>some zcy
  | st::sts=>match sts with
    | []=>f S st
    | _::_=>(f S st).bind fun a=>(blk f S sts).bind fun b=>some (gSeq a b)
noncomputable def zh9 (S:Sx) (x:Str) (px:Pos) (scope:Scope) (pos:Pos):Bool:=S.kd.lookup x == some .local && px.line == pos.line && !(scope.names.any fun (n,k)=>n == x && (k == .local || k == .cell))
noncomputable def zme (S:Sx) (x:Str):Bool:=S.top && S.kd.lookup x == some .cell
noncomputable def zwm (S:Sx) (x:Str) (px:Pos) (y:Str) (py:Pos) (a b:Expr):Bool:=S.kd.lookup x == some .local && S.kd.lookup y == some .local && px.line == py.line && !(x == y) && !(foldedForSure 8 a && foldedForSure 8 b) && !(constantsAlone 8 a && constantsAlone 8 b) && zad a && zad b
noncomputable def z7v:Expr->Bool
 | .Tuple ..=>true
 | _=>false
noncomputable def asgE (fE:Sx->Expr->Option GE) (fT:Sx->Expr->Option GT) (S:Sx) (tg e:Expr):Option GS:=match tg with
  | .Name x px=>(S.wr x).bind fun i=>(match e with
    | .ListComp elt gens scope pos=>(zrf fE fT S elt gens scope).bind fun g=>if zh9 S x px scope pos || zme S x then some (gSet S.mp i g) else none
    | e=>if zfl e then (fE S e).bind fun g=>some (gSet S.mp i g) else none)
  | .Tuple es _ _=>(match es,e with
    | [.Name x px,.Name y py],.Tuple [a,b] _ _=>if zwm S x px y py a b then (S.wr x).bind fun i=>(S.wr y).bind fun j=>(fE S a).bind fun ga=>(fE S b).bind fun gb=>some (gPar S.mp i j ga gb) else none
    | _,_=>none)
  | .Subscript o k _=>(match o with
    | .Name x _=>if zdn k then (S.rd x).bind fun i=>(fE S k).bind fun gk=>(fE S e).bind fun g=>some (zap i gk g) else none
    | _=>none)
  | _=>none
noncomputable def z0h (fS:Sx->Stmt->Option GS) (fE:Sx->Expr->Option GE) (fT:Sx->Expr->Option GT) (S:Sx) (st:Stmt):Option GS:=match st with
  | .Return o _=>(match o with
    | none=>none
    | some e=>(match e with
      | .Name x _=>(S.rd x).bind fun i=>some (zcr S.mp i)
      | e=>(fE S e).bind fun g=>some (gRet g)))
  | .If c a b _=>(fT S c).bind fun t=>(blk fS S a).bind fun x=>(blk fS S b).bind fun y=>some (gIfS t x y)
  | .For tg it body els _=>(match els with
    | []=>(zqx fE S tg it).bind fun gi=>(tgE S tg).bind fun T=>(blk fS S body).bind fun g=>some (gFor S.mp T gi g)
    | _=>none)
  | .Pass _=>some zcy
  | .Expr e _=>if zfl e then (fE S e).bind fun g=>some (zc4 g) else none
  | .Assign ts e _=>(match ts with
    | [tg]=>asgE fE fT S tg e
    | _=>none)
  | _=>none
section
variable {X:Cx}{S:Sx}{d:Nat}{fS:Sx->Stmt->Option GS}{fE:Sx->Expr->Option GE}{fT:Sx->Expr->Option GT}
theorem zke (HS:zw1 fS) (C:CxOk X S d):∀{sts:List Stmt}{g:GS},blk fS S sts=some g->PSs X sts (tS X.K S.mp g)
  | [],_,h=>by obtain rfl:=sI h;exact z03.wk fun _ _ _=>zji
  | [st],_,h=>z0a (HS X S d C _ _ h)
  | st::st' :: sts,_,h=>by
    obtain⟨a,ha,h⟩:=bS (show (fS S st).bind _=_ from h);obtain⟨b,hb,h⟩:=bS h;obtain rfl:=sI h;exact (zvk (HS X S d C _ _ ha) (zke HS C hb)).wk fun _ _ _=>zuh
theorem z7l (C:CxOk X S d){x:Str}{px pos:Pos}{elt:Expr}{gens:List Comprehension}{scope:Scope}{l:Nat}(h:zh9 S x px scope pos=true):swapsWith (.ListComp elt gens scope pos) (some (.Name x px)) l X.env=pure true:=by
 unfold zh9 at h;rw[Bool.and_eq_true,Bool.and_eq_true] at h;have h1:X.env.kindOf x=some .local:=C.loc x (by simpa using h.1.1);show (pure (X.env.blockKind == .function && X.env.kindOf x == some .local && px.line == pos.line && !(scope.names.any fun (n,k)=>n == x && (k == .local || k == .cell))):Sem Bool)=pure true;rw[C.bk,h1,h.1.2,h.2]
 rfl
theorem swNo (C:CxOk X S d){x:Str}{px pos:Pos}{elt:Expr}{gens:List Comprehension}{scope:Scope}{l:Nat}(h:zme S x=true):swapsWith (.ListComp elt gens scope pos) (some (.Name x px)) l X.env=pure false:=by
 unfold zme at h;rw[Bool.and_eq_true] at h;have h1:X.env.kindOf x=some .cell:=(C.cel x (by simpa using h.2)).1;show (pure (X.env.blockKind == .function && X.env.kindOf x == some .local && px.line == pos.line && !(scope.names.any fun (n,k)=>n == x && (k == .local || k == .cell))):Sem Bool)=pure false;rw[h1];have:(some NameKind.cell == some NameKind.local)=false:=rfl;rw[this,Bool.and_false,Bool.false_and,Bool.false_and]
theorem z21 (C:CxOk X S d){x y:Str}{px py pt pt2:Pos}{a b:Expr}{kt k2:Nat}(h:zwm S x px y py a b=true):swappedStores [.Tuple [.Name x px,.Name y py] kt pt] (.Tuple [a,b] k2 pt2) X.env=pure (some [x,y]):=by
 unfold zwm at h;simp only [Bool.and_eq_true] at h;nofun;obtain⟨⟨⟨⟨⟨⟨⟨h1,h2⟩,h3⟩,h4⟩,h5⟩,h6⟩,h7⟩,h8⟩:=h;ac_rfl;have k1:X.env.kindOf x=some .local:=C.loc x (by simpa using h1);have k2:X.env.kindOf y=some .local:=C.loc y (by simpa using h2);have e3:px.line=py.line:=by simpa using h3
 have ne:¬ x=y:=by simpa using h4
 have st:∀e,zad e=true->(match e with | .Starred ..=>true | _=>false)=false:=fun e h=>by cases e<;>first | rfl | (cases h)
 have st' : ([a,b].any fun e=>match e with | .Starred ..=>true | _=>false)=false:=by
  rw[List.any_cons,List.any_cons,List.any_nil,st a h7,st b h8];rfl
 unfold swappedStores;simp only [List.length_cons,List.length_nil,C.bk,pure_bind];rw[if_neg #v[0,9]]
 try simp only [pure_bind]
 refine (if_neg (fun z=>Bool.false_ne_true (st'.symm.trans z))).trans ?_;have nm:List.filterMap (fun e=>match e with | .Name id pos=>if (X.env.kindOf id == some .local && pos.line == (Option.map (fun e=>e.pos.line) ([Expr.Name x px,Expr.Name y py]:List Expr).head?).getD 0)=true then some id else none | _=>none) ([Expr.Name x px,Expr.Name y py]:List Expr)=[x,y]:=by
  have ex:((Expr.Name x px).pos.line)=px.line:=rfl;simp [k1,k2,ex,e3]
 try simp only [pure_bind]
 generalize hq:List.filterMap _ ([Expr.Name x px,Expr.Name y py]:List Expr)=names;have hq' : names=[x,y]:=hq.symm.trans nm;subst hq';have yx:(y == x)=false:=by
  cases q:y == x with
  | false=>rfl
  | true=>exact absurd (eq_of_beq q).symm ne
 have ed:([x,y]:List Str).eraseDups=[x,y]:=by
  rw[List.eraseDups_cons,List.filter_cons,yx];simp only [Bool.not_false,if_true,List.filter_nil];rw[List.eraseDups_cons,List.filter_nil,List.eraseDups_nil]
 rw[ed,if_neg (by simp)]
 try simp only [pure_bind]
 have n5:¬ (foldedForSure 8 a && foldedForSure 8 b)=true:=fun z=>by rw[z] at h5;cases h5
 have n6:¬ (constantsAlone 8 a && constantsAlone 8 b)=true:=fun z=>by rw[z] at h6;cases h6
 rw[if_neg (by simp only [List.all_cons,List.all_nil,Bool.and_true];exact n5),if_neg (by simp only [List.all_cons,List.all_nil,Bool.and_true];exact n6)]
theorem zws {es:List Expr}{kt:Nat}{p:Pos}{e:Expr}{l:Nat}{env:Env}:swapsWithSole [.Tuple es kt p] e l env=pure false:=by
 cases e<;>rfl
theorem zy8 (HE:zbp fE) (HT:zkt fT) (C:CxOk X S d) {tg e:Expr}{g:GS}{pos:Pos} (h:asgE fE fT S tg e=some g):PS X (.Assign [tg] e pos) (tS X.K S.mp g):=by
  cases tg with
  | Name x px =>
    refine aG fun _ qG=>?_;obtain ⟨i,hi,h⟩:=bS (show (S.wr x).bind _=_ from h);obtain ⟨w1,w2,w3⟩:=zpq C hi;refine qG ?_;clear qG;have plain:(if zfl e then (fE S e).bind fun g=>some (gSet S.mp i g) else none)=some g->PS X (.Assign [.Name x px] e pos) (tS X.K S.mp g):=fun h=>by
      split at h
      · rename_i z
        obtain⟨ge,hg,h⟩:=bS h;obtain rfl:=sI h;exact (zxv (ndN C) w1 w2 (HE X S d C _ _ hg) (zns z) w3).wk fun _ _ _=>zh5
      · exact noSome h
    cases e with
    | ListComp elt gens scope pc =>
      obtain⟨ge,hg,h⟩:=bS (show (zrf fE fT S elt gens scope).bind _=_ from h);have cp:=zfr HE HT C hg;split at h
      · rename_i z
        obtain rfl:=sI h;rw[Bool.or_eq_true] at z;rcases z with z | z
        · refine aG fun Gg qG => ?_
          obtain ⟨tg,iter,ifs,gs,gi,T,tc,em,tm,e1,e2,so,pi,pf,pg,pt,pe,rd⟩:=cp.ex;refine qG ?_;clear qG;subst e1;exact (z0k (ndN C) w1 w2 pi pg pt (pe pc) (e2 pc) (z7l C z) C.calm so.kind so.cap so.fr so.nc so.nm pf w3).wk fun D σ H q=>by
            have q':=zh5 q;exact rd _ _ _ q'
        · exact (zxv (ndN C) w1 w2 (zqt C cp) (swNo C z) w3).wk fun _ _ _=>zh5
      · exact noSome h
    | _=>exact plain h
  | Tuple es kt p =>
    unfold asgE at h;simp only at h;split at h
    · rename_i x px y py a b k2 p2
      split at h
      · rename_i z
        refine aG fun _ qG=>?_;obtain ⟨i,hi,h⟩:=bS h;obtain ⟨j,hj,h⟩:=bS h;obtain ⟨ga,hga,h⟩:=bS h;obtain ⟨gb,hgb,h⟩:=bS h;refine qG ?_;clear qG;obtain rfl:=sI h;have hsw:=z21 (pt:=p) (pt2:=p2) (kt:=kt) (k2:=k2) C z;unfold zwm at z;simp only [Bool.and_eq_true] at z;refine aG fun _ qG=>?_;obtain ⟨⟨⟨⟨⟨⟨⟨h1,h2⟩,h3⟩,h4⟩,h5⟩,h6⟩,h7⟩,h8⟩:=z;obtain ⟨x1,_,_⟩:=zpq C hi;obtain ⟨y1,_,_⟩:=zpq C hj;refine qG ?_;clear qG;have ne:i≠j:=fun e=>by
          subst e;rw[x1] at y1;obtain rfl:=sI y1;simp at h4
        exact (z4b C.calm (ndN C) x1 y1 ne (C.loc x (by simpa using h1)) (C.loc y (by simpa using h2)) (pac (HE X S d C _ _ hga) (pac (HE X S d C _ _ hgb) zdd h8) h7) hsw zws).wk fun _ _ _=>zwg
      · exact noSome h
    · exact noSome h
  | Subscript o k p =>
    cases o with
    | Name x px =>
      have h' : (if zdn k then (S.rd x).bind fun i=>(fE S k).bind fun gk=>(fE S e).bind fun g=>some (zap i gk g) else none)=some g:=h;split at h'
      · rename_i z
        nofun;obtain⟨i,hi,h⟩:=bS h';obtain⟨gk,hgk,h⟩:=bS h;obtain⟨ge,hg,h⟩:=bS h;ac_rfl;obtain rfl:=sI h;exact (z3h (HE X S d C _ _ hg) (z3p (zo3 C hi) (HE X S d C _ _ hgk) zvd (zpz z)) zxf z40 rfl).wk fun _ _ _=>zpi
      · exact noSome h'
    | _=>exact noSome h
  | _=>exact noSome h
theorem zxs (HS:zw1 fS) (HE:zbp fE) (HT:zkt fT):zw1 (z0h fS fE fT):=fun X S d C st g h=>by
  have pn:PassesOwn (model X.prog X.w) X.A X.env X.xe:=by rw[C.xe];exact PassesOwn.never
  cases st with
  | Return o p =>
    cases o with
    | none=>cases h
    | some e =>
      have gen:((fE S e).bind fun g=>some (gRet g))=some g->PS X (.Return (some e) p) (tS X.K S.mp g):=fun h=>by
        obtain⟨ge,hg,h⟩:=bS h;obtain rfl:=sI h;exact (zyp (HE X S d C _ _ hg)).wk fun _ _ _=>zn3
      cases e with
      | Name x px =>
        obtain⟨i,hi,h⟩:=bS (show (S.rd x).bind _=_ from h);obtain rfl:=sI h;exact (zyp (zo3 C hi)).wk fun _ _ _=>zr8
      | _=>exact gen h
  | If c a b p =>
    obtain⟨t,ht,h⟩:=bS (show (fT S c).bind _=_ from h);obtain⟨x,hx,h⟩:=bS h;obtain⟨y,hy,h⟩:=bS h;obtain rfl:=sI h;exact (z6j (HT X S d C _ _ ht) (zke HS C hx) (zke HS C hy)).wk fun _ _ _=>zwd
  | For tg it body els p =>
    cases els with
    | cons _ _=>exact noSome h
    | nil =>
      obtain⟨gi,hgi,h⟩:=bS (show (zqx fE S tg it).bind _=_ from h);obtain⟨T,hT,h⟩:=bS h;obtain⟨gb,hb,h⟩:=bS h;obtain rfl:=sI h;obtain⟨pi,pf⟩:=zov HE C hgi;exact (z4p pn C.calm pi (zym C hT) (zke HS C hb) pf).wk fun _ _ _=>zu5
  | Pass p=>obtain rfl:=sI h;exact z2b.wk fun _ _ _=>zji
  | Expr e p =>
    have h' : (if zfl e then (fE S e).bind fun g=>some (zc4 g) else none)=some g:=h;split at h'
    · rename_i z
      obtain⟨ge,hg,h⟩:=bS h';obtain rfl:=sI h;exact (z1z (HE X S d C _ _ hg) (zns z)).wk fun _ _ _=>zr1
    · exact noSome h'
  | Assign ts e p =>
    match ts,h with
    | [tg],h=>exact zy8 HE HT C h
    | [],h=>exact noSome h
    | _::_::_,h=>exact noSome h
  | _=>exact noSome h
end
noncomputable def zt2:GS:=fun _=>none
noncomputable def ztw:Nat->Sx->Stmt->Option GS
 | 0,_,_=>some zt2
 | n+1,S,st=>some ((z0h (ztw n) (compE n) (compT n) S st).getD zt2)
theorem znn {X:Cx}{st:Stmt}{mp:List Nat}:PS X st (tS X.K mp zt2):=fun _ _ _ _ _ _ q=>by obtain⟨_,_,_,_,_,_,h,_⟩:=q;exact noSome h
theorem zg3:∀n,zw1 (ztw n)
  | 0=>fun _ _ _ _ _ _ h=>by obtain rfl:=sI h;exact znn
  | n+1=>fun X S d C st g h=>by
    rw[ztw] at h;cases q:z0h (ztw n) (compE n) (compT n) S st with
    | none=>rw[q] at h;obtain rfl:=sI h;exact znn
    | some g'=>rw[q] at h;obtain rfl:=sI h;exact zxs (zg3 n) (zfm n).1 (zfm n).2 X S d C st _ q
structure Fd where
 nm:Str
 ps:List Str
 N:List Str
 m:List Bool
 st:Stmt
noncomputable def deep:Nat:=60
noncomputable def sxOf (T:List Fd) (bn:List Str) (Ψ:Str->Fn) (d:Nat) (t:Fd):Sx:={ N:=t.N,kd:=(zam t.st).names,bn:=bn,fs:=T.map fun u=>(u.nm,(u.m,Ψ u.nm)),mp:=mpOf t.m,top:=true,nm:=t.nm,dp:=d }
noncomputable def zat (T:List Fd) (bn:List Str) (Ψ:Str->Fn) (d:Nat) (t:Fd):Option GS:=blk (ztw deep) (sxOf T bn Ψ d t) (zdg t.st)
noncomputable def fnAt (T:List Fd) (bn:List Str) (Ψ:Str->Fn) (d:Nat) (t:Fd):Fn:=match zat T bn Ψ d t with
 | some g=>zah t.m t.N.length g
 | none=>fun _=>none
noncomputable def sem (T:List Fd) (bn:List Str):Nat->Str->Fn
  | 0,_=>fun _=>none
  | d+1,x=>match T.find? (·.nm == x) with
    | some t=>fnAt T bn (sem T bn d) d t
    | none=>fun _=>none
noncomputable def zwc (K:PySem.W.Frag) (x:Str):Bool:=match PySem.W.tabIn K x with
 | some (c,P)=>PySem.W.codeHdIn K c P
 | none=>false
theorem Fun.okC {P:Program}{w:World}{K:PySem.W.Frag}{mg:Str->Option Value}{base:Heap}{x qual:Str}{st:Stmt}{f:Addr}{fd:FuncData}{N ps:List Str}{k:Nat}{sp:Sp} (F:Fun K x qual st f fd) (S:FnScope N ps (zam st)) (len:∀vs H Q E,sp vs H Q E->vs.length=ps.length)
  (hbody:∀(A:Around) (outer:List Env) (s:Shared) (H:Hp) (vs:List V) (Q:VK) (E:XK),(Room k (A.deeper (envOfC qual (zam st) s.heap.objs.size f fd.code))/\Room (k+1) A)->sp vs H Q E ->
   ∃t,PSs (cxOf CX0 P w K mg base N qual (zam st) f fd.code A outer s H E).nox (zdg st) t/\t { nx:=fun _ H'=>Q .non H',rt:=Q } (start N vs) H):FnOk P w K mg base CX0 (k+1) f fd ps sp:=by
 nofun;obtain⟨oc,od,kV,doc,pm,an,cdv,ct,osl,rfl,lk,hcd⟩:=F.ex;ac_rfl;refine z6b lk hcd S len fun A outer s H vs Q E hr hsp=>?_;obtain⟨t,h,q⟩:=hbody A outer s H vs Q E hr hsp;exact⟨t,h.nox,q⟩
structure FdOk (K:PySem.W.Frag) (mg:Str->Option Value) (t:Fd):Prop where
 sc:FnScope t.N t.ps (zam t.st)
 m:t.m.length=t.ps.length
 ex:∃f fd,Fun K t.nm t.nm t.st f fd/\zlx K fd t.ps []/\mg t.nm=some (.ref f)
 lam:t.nm∈lams->zwc K t.nm=true
theorem zph {T:List Fd}{Ψ:Str->Fn}{x:Str}{m:List Bool}{Φ:Fn} (h:(T.map fun u=>(u.nm,(u.m,Ψ u.nm))).lookup x=some (m,Φ)):∃t∈T,t.nm=x/\t.m=m/\Φ=Ψ x:=by
  induction T with
  | nil=>exact noSome h
  | cons t T ih =>
    rw[List.map_cons,List.lookup_cons] at h;cases q:x == t.nm with
    | true =>
      rw[q] at h;cases h;have:=eq_of_beq q;subst this;exact⟨t,List.mem_cons_self,rfl,rfl,rfl⟩
    | false =>
      rw[q] at h;obtain⟨u,h1,h2⟩:=ih h;exact⟨u,List.mem_cons_of_mem _ h1,h2⟩
theorem zzv {T:List Fd} (nd:(T.map (·.nm)).Nodup) {t:Fd} (h:t∈T):T.find? (·.nm == t.nm)=some t:=by
  induction T with
  | nil=>cases h
  | cons u T ih =>
    rw[List.map_cons,List.nodup_cons] at nd;rw[List.find?_cons];rcases List.mem_cons.mp h with rfl | h
    · simp
    · have:(u.nm == t.nm)=false:=by
        cases q:u.nm == t.nm with
        | false=>rfl
        | true=>exact absurd (List.mem_map.mpr ⟨t,h,(eq_of_beq q).symm⟩) nd.1
      rw[this];exact ih nd.2 h
theorem zsk {P:Program}{w:World}{K:PySem.W.Frag}{mg:Str->Option Value}{base:Heap}{T:List Fd}{bn:List Str} (nd:(T.map (·.nm)).Nodup) (ok:∀t∈T,FdOk K mg t) (hb:∀x∈bn,mg x=none) (kb:K.In base) (nb:base.Ns mainGlobals mg) :
    ∀(d:Nat) (t:Fd),t∈T->∀f fd,Fun K t.nm t.nm t.st f fd->mg t.nm=some (.ref f)->FnOk P w K mg base CX0 d f fd t.ps (spF K t.m (sem T bn d t.nm))
  | 0,t,_,f,fd,_,_=>⟨fun vs H Q E h=>(by obtain⟨_,_,_,_,_,_,_,_,h,_⟩:=h;cases h),fun A outer s H args us vs Q E hr he hbi hv h=>(by obtain⟨_,_,_,_,_,_,_,_,h,_⟩:=h;cases h)⟩
  | d+1,t,ht,f,fd,F,M=>by
    have o:=ok t ht;refine F.okC (k:=d) o.sc (fun vs H Q E h=>(zri h).trans o.m) (fun A outer s H vs Q E hr h=>?_);have es:sem T bn (d+1) t.nm=fnAt T bn (sem T bn d) d t:=by
      show (match T.find? (·.nm == t.nm) with | some t=>fnAt T bn (sem T bn d) d t | none=>fun _=>none)=_;rw[zzv nd ht]
    rw[es] at h;unfold fnAt at h;cases e:zat T bn (sem T bn d) d t with
    | none =>
      rw[e] at h;nofun;obtain⟨_,_,_,_,_,_,_,_,h,_⟩:=h;ac_rfl;exact noSome h
    | some g =>
      rw [e] at h;have C:CxOk (cxOf CX0 P w K mg base t.N t.nm (zam t.st) f fd.code A outer s H E).nox (sxOf T bn (sem T bn d) d t) d:={
        N:=rfl
        nd:=o.sc.nd
        loc:=fun x e=>e
        cel:=fun x e=>⟨e,rfl⟩
        vis:=fun x e=>e
        gl:=fun x e=>e
        calm:=rfl
        xe:=rfl
        bn:=hb
        fs:=fun x m Φ e=>by
          nofun;obtain⟨u,hu,e1,e2,e3⟩:=zph e;ac_rfl;subst e1 e2 e3;nofun;obtain⟨fa,fb,F',B',M'⟩:=(ok u hu).ex;ac_rfl;exact⟨u.ps,(ok u hu).m.symm,⟨fa,fb,zsk nd ok hb kb nb d u hu fa fb F' M',B',F'.kp,M'⟩⟩
        room:=hr.1
        sl:=by have:=hr.2.un;show A.units+3+16 * d+205 < cLine;omega
        dpo:=Nat.le_refl _
        lam:=fun h=>by
          have q:=o.lam h;unfold zwc at q;split at q
          · rename_i c Pt e
            refine⟨c,Pt,e,q,?_,rfl⟩;nofun;obtain⟨oc,od,kV,doc,pm,an,cdv,ct,osl,e1,lk,hcd⟩:=F.ex;ac_rfl;exact PySem.W.law_code kb nb e M (kb _ _ lk) rfl
          · cases q
        bk:=by
          show (if (zam t.st).kind.isAnnotationScope then ScopeKind.function else (zam t.st).kind)=.function;rw[o.sc.kind];rfl }
      exact⟨_,zke (zg3 deep) C e,ztd h⟩
theorem zo1 {K:PySem.W.Frag}{F H:Hp}{a:Addr}{ns:List Int}{Φ:Fn}{ws' : List W}(hs:Same F H)(tb:zpe K F (fun _ _=>False) H)(h:SqL K F a (ns.map V.int))(e:Φ [.frl (ns.map W.int)]=some (ws',(.bl true,false)))(hl:ws'.length=1){E:XK}:spF K [false] Φ [.ref a] H (fun v _=>v=.bl true) E:=by
 refine⟨F,fun _ _=>False,_,ws',_,rfl,hl,⟨rfl,hs,fun i w q=>?_,fun i w q=>?_,fun i j a w w' q=>?_,fun b o q=>q.elim,tb⟩,e,fun F' H' v _ _ z=>?_⟩
 ·cases i with
  | zero=>cases q;exact⟨_,rfl,.frl h (Reps.ofInts ns)⟩
  | succ i=>cases i<;>exact noSome q
 ·cases i with
  | zero=>cases q
  | succ i=>cases i<;>exact noSome q
 ·cases i with
  | zero=>cases q
  | succ i=>cases i<;>exact noSome q
 ·exact z.isBl
noncomputable def tabsOf (K:PySem.W.Frag):List Addr:=lams.filterMap fun x=>(PySem.W.tabIn K x).map (·.2)
theorem zhl {K:PySem.W.Frag}{b:Addr}:b∈tabsOf K↔∃x∈lams,∃c,PySem.W.tabIn K x=some (c,b):=by
 unfold tabsOf;rw[List.mem_filterMap];constructor
 ·rintro ⟨x, hx, e⟩;cases q:PySem.W.tabIn K x with
  | none=>rw[q] at e;exact noSome e
  | some p=>rw[q] at e;obtain rfl:=sI e;exact⟨x,hx,p.1,q⟩
 ·rintro ⟨x, hx, c, e⟩;exact⟨x,hx,by rw[e];rfl⟩
noncomputable def z5t (K:PySem.W.Frag) (h:Heap):Prop:=∀x∈lams,∀c P,PySem.W.tabIn K x=some (c,P)->PySem.W.CodeHd h c P/\h.get? P=some (PySem.W.tabObj #[])
structure Start (K:PySem.W.Frag) (F H:Hp):Prop where
 sub:Same F H
 tb:zpe K F (fun _ _=>False) H
theorem ztp {P:Program}{w:World}{K:PySem.W.Frag}{mg mb:Str->Option Value}{CX:CXT}{k:Nat}{fa a:Addr}{fd:FuncData}{x:Str}{sp:Sp}{s₁:Shared}{vs:List Value}{ns:List Int}
    (KX:K.In s₁.heap) (nt:PySem.W.noTabs K=true) (nd:zzc K) (hT:z5t K s₁.heap) (hns:s₁.heap.Ns mainGlobals mg) (hb:s₁.heap.Ns builtinsNs mb) (hbb:∀x:Str,x≠"__name__" -> mb x=bootBuiltins x) (hlim:s₁.heap.NoLimit) (hbm:∃(b:Addr) (ob:Obj),mg "__builtins__" = some (.ref b)/\b≠builtinsNs/\s₁.heap.get? b=some ob/\ob.cls=.type "module"/\ob.dict=some builtinsNs/\ob.data=.plain) (hg:s₁.gens=#[])
    (ha:s₁.heap.get? a=some { cls:=.type "list",data:=.seq vs.toArray }) (hi:IntsAre vs ns) (hl:ns.length<=sizeLine) (hr:Room k callerA)
    (Fk:∀base:Heap,K.In base->base.Ns mainGlobals mg->FnOk P w K mg base CX k fa fd [x] sp) (hbind:∀(s:Shared) (u:Value),BindsTo s fd ⟨[u],[]⟩ [(x,u)])
    (hsp:∀F H:Hp,Start K F H->SqL K F a (ns.map V.int)->sp [.ref a] H (fun v _=>v=.bl true) fun _ _ _=>False)
    (hCX:∀H e s',CX [] H s₁ (fun _ _ _=>False) e s'->False) :
    codeAny (model P w) callerA (.call (.ref fa) ⟨[.ref a],[]⟩) (fun r s'=>r=.ok (.ret (.bool true))/\OldK s₁.heap s'.heap/\s'.os=s₁.os/\AllBare s'.gens) s₁:=by
  have rv:=zkd hi;have lenV:=hi.length;have tabAt:∀b∈tabsOf K,s₁.heap.get? b=some (PySem.W.tabObj #[]):=fun b h=>by
    nofun;obtain⟨x,hx,c,e⟩:=zhl.mp h;ac_rfl;exact (hT x hx c b e).2
  have na:a ∉ tabsOf K:=fun h=>by
    have:=tabAt a h;rw[ha] at this;cases this
  have core:∀F H:Hp,(∀b,H b=none\/(b∈tabsOf K/\H b=some (.tbl #[])/\F b=none)\/(b=a/\K.lookup a=none/\F b=H b/\∃o xs,H b=some (.frz o (.lst xs))))->(∀b,H b=none->F b=none)->(∀b∈tabsOf K,H b=some (.tbl #[]))->SqL K F a (ns.map V.int)->HOk P w H s₁.heap ->
      codeAny (model P w) callerA (.call (.ref fa) ⟨[.ref a],[]⟩) (fun r s'=>r=.ok (.ret (.bool true))/\OldK s₁.heap s'.heap/\s'.os=s₁.os/\AllBare s'.gens) s₁:=by
    intro F H hO hF hB hS hok;have base_of:∀{b:Addr}{o:Obj},s₁.heap.get? b=some o->H b=none->(hidT s₁.heap H).get? b=some o:=fun e n=>zxe e n;have noA:∀{b:Addr}{o:Obj}{es:Array DictEntry}{ep:Nat},s₁.heap.get? b=some o->o.data=.dict es ep->H b=none:=fun {b o es ep} e d=>by
      rcases hO b with z | ⟨z,_⟩ | ⟨z,_⟩
      · exact z
      · rw[tabAt b z] at e;obtain rfl:=sI e;cases d
      · subst z
        rw[ha] at e;obtain rfl:=sI e;have d' : Data.seq vs.toArray _=Data.dict es ep:=d;cases d'
    have nsK:∀{b:Addr}{m:Str->Option Value},s₁.heap.Ns b m->(hidT s₁.heap H).Ns b m:=fun {b m} ⟨o,es,ep,e,d,r⟩=>⟨o,es,ep,base_of e (noA e d),d,r⟩;have hKb:K.In (hidT s₁.heap H):=fun b o e=>base_of (KX b o e) (by
      rcases hO b with z | ⟨z,_⟩ | ⟨z,n,_⟩
      · exact z
      · have e2 := KX b o e
        rw[tabAt b z] at e2;obtain rfl:=sI e2;have:=List.all_eq_true.mp nt (b,_) (PySem.W.mem_of_lookupK e);exact absurd (show false=true from this) Bool.false_ne_true
      · subst z
        rw[n] at e;cases e)
    have hM:Mod K mg (hidT s₁.heap H):=⟨hKb,nsK hns,⟨mb,nsK hb,hbb⟩,let ⟨mc,h1,h2⟩:=hlim;⟨mc,nsK h1,h2⟩,by
      nofun;obtain⟨b,ob,b1,b2,b3,b4,b5,b6⟩:=hbm;ac_rfl;refine⟨b,ob,b1,b2,base_of b3 ?_,b4,b5,b6⟩;rcases hO b with z | ⟨z,_⟩ | ⟨z,_⟩
      · exact z
      · rw[tabAt b z] at b3;obtain rfl:=sI b3;cases b4
      · subst z;rw[ha] at b3;obtain rfl:=sI b3;exact absurd b4 (by simp)⟩
    have e0:Env0 P w K mg (hidT s₁.heap H) callerA [] s₁ H:=⟨rfl,hM,fun b o e=>z1q e,Nat.le_of_eq (zs8 _ _),trivial,fun b hb=>absurd (show b∈([]:List Addr) from hb) (by simp),hok,.of_eq hg⟩;have st:Start K F H:=⟨fun b o e=>by
      rcases hO b with z | ⟨_,_,z⟩ | ⟨_,_,z,_⟩
      · rw[hF b z] at e;cases e
      · rw[z] at e;cases e
      · rw[<-z];exact e,⟨⟨nd,fun _ _ z=>z⟩,fun x hx c Pt e=>by
      have hm:Pt∈tabsOf K:=zhl.mpr ⟨x,hx,c,e⟩;refine⟨#[],hB Pt hm,?_,fun _ z=>z,trivial,fun pos cv q=>by cases q⟩;rcases hO Pt with z | ⟨_,_,z⟩ | ⟨z,_⟩
      · exact hF Pt z
      · exact z
      · subst z;exact absurd hm na⟩⟩
    refine codeAny_mono ((Fk _ hKb (nsK hns)).run callerA [] s₁ H ⟨[.ref a],[]⟩ [.ref a] [.ref a] _ _ hr e0 (hbind s₁ (.ref a)) (.cons rfl .nil) (hsp F H st hS)) fun r s' h=>?_;cases r with
    | error e=>exact (hCX H e s' h).elim
    | ok fl =>
      cases fl with
      | next=>exact False.elim h
      | brk=>exact False.elim h
      | cont=>exact False.elim h
      | ret u =>
        nofun;obtain⟨v,H',os,bare,un,hok',r',q⟩:=h;ac_rfl;have q' : v=.bl true:=q;subst q';obtain rfl:u=Value.bool true:=r';refine⟨rfl,⟨fun b o e=>?_,fun b o e=>un.there b o e (by simp)⟩,os,bare⟩;rcases hO b with z | ⟨z,z1,_⟩ | ⟨_,_,_,ob,xs,z⟩
        · exact .inl (un.keep b o e z (by intro y;exact absurd (show b∈([]:List Addr) from y) (by simp)) (by simp))
        · refine aG fun Gg qG => ?_
          obtain⟨x,hx,c,ex⟩:=zhl.mp z;obtain⟨t1,t2⟩:=hT x hx c b ex;ac_rfl;rw[e] at t2;obtain rfl:=sI t2;obtain⟨more,e2⟩:=un.tbls b #[] z1;exact .inr (.inl ⟨(t1.tab e).isCodeTable,rfl,#[],more,rfl,hok' b _ e2⟩)
        · have z2 := un.frzs b ob _ z
          obtain⟨e1,_⟩:=hok b _ z;obtain⟨e2,_⟩:=hok' b _ z2;rw[e] at e1;obtain rfl:=sI e1;exact .inl e2
  have tOk:∀b,b∈tabsOf K->∀H,ObjOk P w H s₁.heap b (.tbl #[]):=fun b h H=>tabAt b h;cases hk:K.lookup a with
  | some o =>
    have e:=KX a o hk;rw[ha] at e;obtain rfl:=sI e;refine core (fun _=>none) (fun b=>if b∈tabsOf K then some (.tbl #[]) else none) (fun b=>?_) (fun _ _=>rfl) (fun b h=>if_pos h) (.inr ⟨_,vs.toArray,_,hk,rfl,rfl,rfl,by rw[List.size_toArray,lenV];exact hl,by simpa using rv⟩) (fun b u z=>?_)
    · by_cases h : b ∈ tabsOf K
      · exact .inr (.inl ⟨h,if_pos h,rfl⟩)
      · exact .inl (if_neg h)
    · by_cases h : b ∈ tabsOf K
      · have z' := (if_pos h).symm.trans z
        obtain rfl:=sI z';exact tOk b h _
      · have z' := (if_neg h).symm.trans z
        cases z'
  | none =>
    refine core (fun b=>if b=a then some (.frz { cls:=.type "list",data:=.seq vs.toArray } (.lst (ns.map V.int))) else none) (fun b=>if b=a then some (.frz { cls:=.type "list",data:=.seq vs.toArray } (.lst (ns.map V.int))) else if b∈tabsOf K then some (.tbl #[]) else none) (fun b=>?_) (fun b z=>?_) (fun b h=>?_) (.inl (.inr ⟨{ cls:=.type "list",data:=.seq vs.toArray },if_pos rfl⟩)) (fun b u z=>?_)
    · by_cases h0 : b = a
      · exact .inr (.inr ⟨h0,hk,by simp only [if_pos h0],_,_,if_pos h0⟩)
      · by_cases h : b ∈ tabsOf K
        · exact .inr (.inl ⟨h,by simp only [if_neg h0,if_pos h],if_neg h0⟩)
        · exact .inl (by simp only [if_neg h0,if_neg h])
    · by_cases h0 : b = a
      · simp only [if_pos h0] at z;cases z
      · exact if_neg h0
    · have h0 : b ≠ a := fun z => by subst z; exact na h
      simp only [if_neg h0,if_pos h]
    · by_cases h0 : b = a
      · have z' : some (HO.frz { cls := .type "list", data := .seq vs.toArray } (.lst (ns.map V.int))) = some u := by simpa only [if_pos h0] using z
        obtain rfl:=sI z';subst h0;exact⟨ha,by rw[List.length_map];exact hl,vs,_,rv,ha⟩
      · by_cases h : b ∈ tabsOf K
        · have z' : some (HO.tbl #[]) = some u := by simpa only [if_neg h0, if_pos h] using z
          obtain rfl:=sI z';exact tOk b h _
        · have z' : (none : Option HO) = some u := by simpa only [if_neg h0, if_neg h] using z
          cases z'
noncomputable def zsz (K:PySem.W.Frag):Bool:=lams.all fun x=>lams.all fun x'=>match PySem.W.tabIn K x,PySem.W.tabIn K x' with
 | some p,some p'=>x == x' || !(p.2 == p'.2)
 | _,_=>true
theorem zw7 {K:PySem.W.Frag}(h:zsz K=true):zzc K:=fun x hx x' hx' c c' P e e'=>by
 have:=List.all_eq_true.mp (List.all_eq_true.mp h x hx) x' hx';rw[e,e'] at this;simpa using this
theorem walk_ofT {l:PySem.W.OpenLaw}{n k:Nat}{q:Program}{loose:List Str}{XP:(Str->Option Value)->Heap->Prop}{YP:World->Heap->Prop}{d:DefRec}{K:Params->PySem.W.Frag}{CX:World->CXT}{sp:World->Sp}{x:Str}
  (hn:l.most=some n) (hn2:n<=sizeLine) (hdf:d.params.defaults=[]) (hr:Room k callerA)
  (hY:∀(w:World) (h:Heap),YP w h->(K w.params).In h)
  (nt:∀w:World,PySem.W.noTabs (K w.params)=true) (nd:∀w:World,zsz (K w.params)=true) (hrec:∀(w:World),∀x∈lams,∀c P,PySem.W.tabIn (K w.params) x=some (c,P)->∃d,(recsOf q).find? (fun e=>e.name == x)=some d)
  (F:∀(w:World) (mg:Str->Option Value) (fa:Addr) (h:Heap),(K w.params).In h->h.Ns mainGlobals mg->mg d.name=some (.ref fa) ->
   ∃fd:FuncData,(∀(s:Shared) (u:Value),BindsTo s fd ⟨[u],[]⟩ [(x,u)]) /\
    ∀base:Heap,(K w.params).In base->base.Ns mainGlobals mg->FnOk l.prog w (K w.params) mg base (CX w) k fa fd [x] (sp w))
  (hsp:∀(w:World) (F H:Hp) (a:Addr) (ns:List Int),ns.length<=n->Start (K w.params) F H->SqL (K w.params) F a (ns.map V.int)->sp w [.ref a] H (fun v _=>v=.bl true) fun _ _ _=>False)
  (hCX:∀(w:World) (H:Hp) (s:Shared) (e:Value) (s' : Shared),CX w [] H s (fun _ _ _=>False) e s'->False) :
  PySem.W.WalkO q loose XP YP l.row.toRowW d [] (fun f vs=>PySem.call f vs):=by
 refine Att.attach_call hn hdf fun w s₀ s₁ mg mb fa o pm cd doc a vs ns G Y ho hd hcd hmg hobj hints hlen hg=>?_;have KX:=hY w _ Y;obtain⟨fd,hb,hF⟩:=F w mg fa _ KX G.T.g hmg;refine ztp KX (nt w) (zw7 (nd w)) (fun x hx c Pt e=>?_) G.T.g G.T.b G.T.builtins G.T.nolimit G.T.bmain hg hobj hints (Nat.le_trans hlen hn2) hr hF hb (fun F H hO hS=>hsp w F H a ns hlen hO hS) fun H e s'=>hCX w H s₁ e s';obtain⟨d,hd⟩:=hrec w x hx c Pt e;exact PySem.W.tab_of G.T KX hd e
theorem zs6 (i j:Int):oAdd (.int i) (.int j)=#v[(i+j),0]:=rfl
theorem zrn {i j:Int}(h:cMul i j=true):oMult (.int i) (.int j)=#v[(i * j),0]:=by
 show (match (if cMul i j then #v[W.int (i * j),6] else none) with | some p=>some p | none=>_)=_;rw[if_pos h]
theorem oMult_l {i j:Int}(h1:-(2 ^ 64) < i)(h2:i < 2 ^ 64):oMult (.int i) (.int j)=#v[(i * j),0]:=zrn (by
 unfold cMul;rw[Bool.or_eq_true,Bool.and_eq_true];exact .inl ⟨decide_eq_true h1,decide_eq_true h2⟩)
theorem zlq {i j:Int}(h1:-(2 ^ 64) < j)(h2:j < 2 ^ 64):oMult (.int i) (.int j)=#v[(i * j),0]:=zrn (by
 unfold cMul;rw[Bool.or_eq_true,Bool.and_eq_true,Bool.and_eq_true];exact .inr ⟨decide_eq_true h1,decide_eq_true h2⟩)
theorem zs3 {i j:Int}(h1:Builtin.Int.intBits i<=2 ^ 20)(h2:Builtin.Int.intBits j<=2 ^ 20):oMult (.int i) (.int j)=#v[(i * j),0]:=by
 have h:zpb i j=true:=by
  unfold zpb;rw[Bool.and_eq_true];exact⟨decide_eq_true h1,decide_eq_true h2⟩
 show (match (if cMul i j then #v[W.int (i * j),6] else none) with | some p=>some p | none=>(match (if zpb i j then #v[W.int (i * j),6] else none) with | some p=>some p | none=>_))=_;rw[if_pos h];split<;>simp_all
theorem ztv {xs:List W}{k:Int}(h:-(2 ^ 63)<=k/\k < 2 ^ 63/\xs.length * k.toNat<=sizeLine):oMult (.lst xs) (.int k)=#v[(List.replicate k.toNat xs).flatten,2]:=by
 show (if -(2 ^ 63)<=k/\k < 2 ^ 63/\xs.length * k.toNat<=sizeLine then some (W.lst (List.replicate k.toNat xs).flatten,true) else none)=_;rw[if_pos h]
theorem zzp {xs ys:List W}(h:xs.length+ys.length<=sizeLine):oAdd (.lst xs) (.lst ys)=#v[(xs++ys),2]:=by
 show (match (if xs.length+ys.length<=sizeLine then #v[W.lst (xs++ys),5] else none) with | some p=>some p | none=>_)=_;rw[if_pos h]
theorem z5a {i j:Int}(h0:0 < j)(h:j < 2 ^ 200):cDiv i j=true:=by
 unfold cDiv;rw[Bool.and_eq_true];refine⟨decide_eq_true h0,decide_eq_true ?_⟩;have hn:j.natAbs≠0:=by omega
 have h1:j.natAbs < 2 ^ 200:=by
  have:((j.natAbs:Nat):Int) < ((2 ^ 200:Nat):Int):=by
   rw[Int.natCast_pow];have e:((j.natAbs:Nat):Int)=j:=by omega
   rw[e];exact h
  exact Int.ofNat_lt.mp this
 exact Nat.lt_of_lt_of_le ((Nat.log2_lt hn).mpr h1) #v[0,9]
theorem zr2 {i j:Int}(h0:0 < j)(h:j < 18446744073709551617):cDiv i j=true:=z5a h0 (Int.lt_of_lt_of_le h #v[0,9])
theorem znh {mp:List Nat}{T:Tg}{body:GS} (P:Nat->En->Prop):∀(ws:List W) (k:Nat) (en:En),P k en->(∀i w e,ws[i]?=some w->P (k+i) e->∃e1 e2,tgSet mp T w e=some e1/\(body e1=some (e2,.nx)\/body e1=some (e2,.cnt))/\P (k+i+1) e2) ->
    ∃en',zjo mp T body ws en=some (en',.nx)/\P (k+ws.length) en'
  | [],k,en,h0,_=>⟨en,rfl,h0⟩
  | w::ws,k,en,h0,hs=>by
    refine aG fun _ qG=>?_;obtain ⟨e1,e2,h1,h2,h3⟩:=hs 0 w en rfl h0;refine qG ?_;clear qG;obtain ⟨en',h4,h5⟩:=znh P ws (k+1) e2 h3 fun i u e hu hp=>by
      have:=hs (i+1) u e (by simpa using hu) (by rw[show k+(i+1)=k+1+i by omega];exact hp);rw[show k+(i+1)+1=k+1+i+1 by omega] at this;exact this
    refine⟨en',?_,by rw[show k+(w::ws).length=k+1+ws.length by rw[List.length_cons];omega];exact h5⟩;show (tgSet mp T w en).bind _=_;rw[h1];show (match body e1 with | some (e2,.nx)=>zjo mp T body ws e2 | some (e2,.cnt)=>zjo mp T body ws e2 | some (e2,.brk)=>some (e2,.nx) | some (e2,.ret r)=>some (e2,.ret r) | none=>none)=_;rcases h2 with h2 | h2<;>(rw[h2];exact h4)
theorem zbd {mp:List Nat}{T:Tg}{it:GL}{body:GS} (P:Nat->En->Prop) {en e0:En}{ws:List W} (hi:it en=some (e0,ws)) (h0:P 0 e0) (hs:∀i w e,ws[i]?=some w->P i e->∃e1 e2,tgSet mp T w e=some e1/\(body e1=some (e2,.nx)\/body e1=some (e2,.cnt))/\P (i+1) e2) :
  ∃en',gFor mp T it body en=some (en',.nx)/\P ws.length en':=by
 obtain⟨en',h1,h2⟩:=znh P ws 0 e0 h0 fun i w e hw hp=>by
  rw[Nat.zero_add] at hp ⊢;exact hs i w e hw hp
 refine⟨en',?_,by rw[Nat.zero_add] at h2;exact h2⟩;unfold gFor;rw[hi];exact h1
theorem zi9 {mp:List Nat}{T:Tg}{tc:GT}{te:GE} (P:Nat->En->List W->Prop):∀(ws:List W) (k:Nat) (ce:En) (dn:List W),P k ce dn ->
    (∀i w c dn,ws[i]?=some w->P (k+i) c dn->∃c1,tgSet mp T w c=some c1/\((∃c2 c3 r,tc c1=#v[c2,5]/\te c2=some (c3,r)/\P (k+i+1) c3 (dn++[r.1]))\/∃c2,tc c1=#v[c2,6]/\P (k+i+1) c2 dn)) ->
    ∃ce' rest,zfo mp T tc te ws ce=some (ce',rest)/\P (k+ws.length) ce' (dn++rest)
  | [],k,ce,dn,h0,_=>⟨ce,[],rfl,by rw[List.append_nil];exact h0⟩
  | w::ws,k,ce,dn,h0,hs=>by
    obtain ⟨c1,h1,h2⟩:=hs 0 w ce dn rfl h0;have next:∀c3 dn',P (k+1) c3 dn'->∃ce' rest,zfo mp T tc te ws c3=some (ce',rest)/\P (k+1+ws.length) ce' (dn'++rest):=fun c3 dn' h=>zi9 P ws (k+1) c3 dn' h fun i u c d hu hp=>by
      have:=hs (i+1) u c d (by simpa using hu) (by rw[show k+(i+1)=k+1+i by omega];exact hp);rw[show k+(i+1)+1=k+1+i+1 by omega] at this;exact this
    have el:k+(w::ws).length=k+1+ws.length:=by rw[List.length_cons];omega
    rcases h2 with ⟨c2,c3,r,h3,h4,h5⟩ | ⟨c2,h3,h5⟩
    · obtain ⟨ce', rest, h6, h7⟩ := next c3 _ h5
      refine⟨ce',r.1::rest,?_,by rw[el];rw[List.append_assoc] at h7;exact h7⟩;show (tgSet mp T w ce).bind _=_;rw[h1];show (match tc c1 with | #v[c2,5]=>(te c2).bind fun p=>(zfo mp T tc te ws p.1).bind fun q=>some (q.1,p.2.1::q.2) | #v[c2,6]=>zfo mp T tc te ws c2 | none=>none)=_;rw[h3];show (te c2).bind _=_;rw[h4];show (zfo mp T tc te ws c3).bind _=_;rw[h6]
      rfl
    · obtain ⟨ce', rest, h6, h7⟩ := next c2 _ h5
      refine⟨ce',rest,?_,by rw[el];exact h7⟩;show (tgSet mp T w ce).bind _=_;rw[h1];show (match tc c1 with | #v[c2,5]=>(te c2).bind fun p=>(zfo mp T tc te ws p.1).bind fun q=>some (q.1,p.2.1::q.2) | #v[c2,6]=>zfo mp T tc te ws c2 | none=>none)=_;rw[h3];exact h6
theorem zco {cap:Cap}{T:Tg}{it:GL}{tc:GT}{te:GE} (P:Nat->En->List W->Prop) {en e0:En}{ws:List W} (hi:it en=some (e0,ws)) (hn:zbl cap=true) (hz:ws.length<=sizeLine) (h0:P 0 (zee cap e0) [])
  (hs:∀i w c dn,ws[i]?=some w->P i c dn->∃c1,tgSet (capKeep cap) T w c=some c1/\((∃c2 c3 r,tc c1=#v[c2,5]/\te c2=some (c3,r)/\P (i+1) c3 (dn++[r.1]))\/∃c2,tc c1=#v[c2,6]/\P (i+1) c2 dn)) :
  ∃ce' out,zaz cap T it tc te en=some (zan cap e0 ce',(.lst out,true))/\P ws.length ce' out:=by
 obtain⟨ce',rest,h1,h2⟩:=zi9 P ws 0 (zee cap e0) [] h0 fun i w c dn hw hp=>by
  rw[Nat.zero_add] at hp ⊢;exact hs i w c dn hw hp
 refine⟨ce',rest,?_,by rw[Nat.zero_add] at h2;exact h2⟩;unfold zaz;rw[hi];show (if zbl cap && decide (ws.length<=sizeLine) then _ else none)=_;rw[if_pos (by rw[hn,decide_eq_true hz];rfl),h1]
 rfl
theorem za2 {lo:Int}{n i:Nat}{w:W} (h:(rngW lo n)[i]?=some w):i < n/\w=.int (lo+i):=by
  unfold rngW at h;rw[List.getElem?_map] at h;cases q:(List.range n)[i]? with
  | none=>rw[q] at h;exact noSome h
  | some k =>
    rw[q] at h;obtain⟨hl,e⟩:=List.getElem?_eq_some_iff.mp q;rw[List.length_range] at hl;rw[List.getElem_range] at e;subst e;exact⟨hl,(sI h).symm⟩
theorem zav (lo:Int)(n:Nat):(rngW lo n).length=n:=by unfold rngW;rw[List.length_map,List.length_range]
theorem zau {xs:List W}{i:Nat}{x:W}(h:xs[i]?=some x):atI xs (i:Int)=some x:=z1d h
theorem zt0 {en:En}:zb6 [] [] en=some []:=rfl
theorem zrp {m:List Bool}{ws:List W}{en:En}{x w:W}:zb6 (true::m) (x::ws) (#v[w,5]::en)=(zb6 m ws en).bind fun r=>some (w::r):=rfl
theorem zrg {m:List Bool}{ws:List W}{en:En}{w:W}{o:Option (W × Bool)}:zb6 (false::m) (w::ws) (o::en)=(zb6 m ws en).bind fun r=>some (w::r):=rfl
noncomputable def HS (k:Nat) (w:W):Prop:=∃a b c:Int,w=.lst [.int a,.int b,.int c]/\0<=a/\0<=b/\b < MM/\0<=c/\c<=k
theorem HS.mono {k k' : Nat}{w:W}(h:HS k w)(hk:k<=k'):HS k' w:=by
 obtain⟨a,b,c,e,h1,h2,h3,h4,h5⟩:=h;exact⟨a,b,c,e,h1,h2,h3,h4,by omega⟩
noncomputable def zd8 (Φ:Fn):Prop:=∀(k:Nat) (st:W) (n:Int),HS k st->k < big->0 < n->n < 1073741824->∃st' r,Φ [st,.int n]=some ([st',.int n],(.int r,false))/\HS (k+1) st'/\0<=r/\r < n
noncomputable def zr9 (Ψ:Str->Fn):GS:=(gSeq (gIfS (zak (gOp2 (oI yes2 fun i j=>.bl (decide (j < i))) (gArg (gOp2 oIx (zaa 0) #v[0])) #v[0])) (gSeq (gSet [0] 2 (gOp2 #v[0,0,2] (gArg (gOp2 oIx (zaa 0) #v[0])) (zaa 1))) (gSeq (zap 0 (gC (.int 0)) (gOp2 #v[0,0,3] (gArg (gOp2 oIx (zaa 0) #v[0])) (zaa 1))) (zcr [0] 2))) zcy) (gSeq (zap 0 (gC (.int 2)) (gOp2 oAdd (gArg (gOp2 oIx (zaa 0) #v[2])) #v[1])) (gSeq (gSet [0] 3 (gOp2 #v[0,0,2] (gArg (gOp2 oMult (gArg (gOp2 oAdd (gArg (gOp2 oAdd (gArg (gOp2 oIx (zaa 0) #v[1])) (gArg (gOp2 oMult (gArg (gOp2 oMult #v[65537] (gArg (gOp2 oIx (zaa 0) #v[2])))) (gArg (gOp2 oIx (zaa 0) #v[2])))))) #v[11])) #v[48271])) #v[2305843009213693921])) (gSeq (gSet [0] 3 (gOp2 #v[0,0,2] (gArg (gOp2 oMult (zaa 3) (gArg (gOp2 oAdd (gArg (gOp2 #v[0,0,2] (zaa 3) #v[1000003])) (gArg (gOp2 oMult #v[99991] (gArg (gOp2 oIx (zaa 0) #v[2])))))))) #v[2305843009213693907])) (gRet (gOp2 #v[0,0,2] (gArg (gOp2 oAdd (gArg (gOp2 #v[0,0,3] (zaa 3) #v[97])) (gArg (gOp2 #v[0,0,3] (zaa 3) #v[1000033])))) (zaa 1)))))))
theorem zyy (Ψ:Str->Fn):zd8 (zah [true,false] 4 (zr9 Ψ)):=by
 rintro k st n ⟨a,b,c,rfl,h0,h1,h2,h3,h4⟩ hk n0 n1;have hb:(k:Int) < 1099511627776:=by have:k < 1099511627776:=hk;omega
 by_cases c1:0 < a
 ·refine⟨.lst [.int (a / n), .int b, .int c], a % n, ?_, ⟨_, _, _, rfl, Int.ediv_nonneg h0 #v[], h1, h2, h3, by omega⟩, Int.emod_nonneg _ #v[], Int.emod_lt_of_pos _ n0⟩;have hd:cDiv a n=true:=zr2 n0 #v[];simp [zah,zr9,zay,gSeq,gIfS,zak,gOp2,gArg,zaa,gC,resA,oI,yes2,oIx,seqW,atI,ixN,gSet,zap,zcr,zt0,zrp,zrg,c1,n0,hd]
 ·have e1 : oMult (.int 65537) (.int (c + 1)) = some (.int (65537 * (c + 1)), false) := oMult_l #v[0,9] #v[0,9];have e2:oMult (.int (65537 * (c+1))) (.int (c+1))=#v[(65537 * (c+1) * (c+1)),0]:=zlq #v[] #v[];have e3:oMult (.int (b+65537 * (c+1) * (c+1)+11)) (.int 48271)=#v[((b+65537 * (c+1) * (c+1)+11) * 48271),0]:=zlq #v[0,9] #v[0,9];generalize hx:(b+65537 * (c+1) * (c+1)+11) * 48271=x0 at e3;have e4:oMult (.int 99991) (.int (c+1))=#v[(99991 * (c+1)),0]:=oMult_l #v[0,9] #v[0,9];have x1:0<=x0 % 2305843009213693921:=Int.emod_nonneg _ #v[0,9];have x2:x0 % 2305843009213693921 < 2305843009213693921:=Int.emod_lt_of_pos _ #v[0,9];have e5:oMult (.int (x0 % 2305843009213693921)) (.int (x0 % 2305843009213693921 % 1000003+99991 * (c+1)))=#v[(x0 % 2305843009213693921 * (x0 % 2305843009213693921 % 1000003+99991 * (c+1))),0]:=oMult_l #v[] #v[];have d1:∀i,cDiv i 97=true:=fun i=>zr2 #v[0,9] #v[0,9];have d2:∀i,cDiv i 1000033=true:=fun i=>zr2 #v[0,9] #v[0,9];refine⟨.lst [.int a,.int b,.int (c+1)],(x0 % 2305843009213693921 * (x0 % 2305843009213693921 % 1000003+99991 * (c+1)) % 2305843009213693907 / 97+x0 % 2305843009213693921 * (x0 % 2305843009213693921 % 1000003+99991 * (c+1)) % 2305843009213693907 / 1000033) % n,?_,⟨_,_,_,rfl,h0,h1,h2,by omega,by omega⟩,Int.emod_nonneg _ #v[],Int.emod_lt_of_pos _ n0⟩
  ·simp [zah,zr9,zay,gSeq,gIfS,zak,gOp2,gArg,zaa,gC,resA,oI,yes2,oIx,seqW,atI,ixN,gSet,zap,gRet,zcy,zt0,zrp,zrg,c1,n0,zs6,e1,e2,e3,e4,e5,d1,d2]
theorem seq_nx {a b:GS}{en e1:En}(h:a en=some (e1,.nx)):gSeq a b en=b e1:=by unfold gSeq;rw[h]
theorem z25 {a b:GS}{en e1:En}{r:W × Bool}(h:a en=some (e1,.ret r)):gSeq a b en=some (e1,.ret r):=by unfold gSeq;rw[h]
theorem zf3 {mp:List Nat}{i:Nat}{g:GE}{en e1:En}{r:W × Bool}(h:g en=some (e1,r))(hi:(mp.contains i || !decide (i < e1.length))=false):gSet mp i g en=some (e1.set i (some r),.nx):=by
 unfold gSet;rw[h];show (if (mp.contains i || !decide (i < e1.length))=true then _ else _)=_;rw[hi]
 rfl
theorem z3g {c:GT}{a b:GS}{en e1:En}(h:c en=#v[e1,5]):gIfS c a b en=a e1:=by unfold gIfS;rw[h]
theorem z32 {c:GT}{a b:GS}{en e1:En}(h:c en=#v[e1,6]):gIfS c a b en=b e1:=by unfold gIfS;rw[h]
theorem z1y {g:GE}{en e1:En}{b f:Bool}(h:g en=some (e1,(.bl b,f))):zak g en=some (e1,b):=by unfold zak;rw[h]
theorem zxz {g:GE}{en e1:En}{r:W × Bool}(h:g en=some (e1,r)):gRet g en=some (e1,.ret r):=by unfold gRet;rw[h];rfl
theorem z08 {g:GE}{en e1:En}{r:W × Bool}(h:g en=some (e1,r)):zc4 g en=some (e1,.nx):=by unfold zc4;rw[h];rfl
theorem zbo {g:GE}{en e1:En}{r:W × Bool}(h:g en=some (e1,r)):gArg g en=some (e1,.inl r.1):=by unfold gArg;rw[h];rfl
theorem z3s {a:GA}{as:GAs}{en e1 e2:En}{x:W ⊕ Nat}{xs:List (W ⊕ Nat)}(h:a en=some (e1,x))(h2:as e1=some (e2,xs)):gCns a as en=some (e2,x::xs):=by
 unfold gCns;rw[h];show (as e1).bind _=_;rw[h2]
 rfl
theorem za9 {o:O2}{a b:GA}{en e1 e2:En}{x y:W ⊕ Nat}{w u:W}{r:W × Bool}(h1:a en=some (e1,x))(h2:b e1=some (e2,y))(h3:resA e2 x=some w)(h4:resA e2 y=some u)(h5:o w u=some r):gOp2 o a b en=some (e2,r):=by
 unfold gOp2;rw[h1];show (b e1).bind _=_;rw[h2];show (resA e2 x).bind _=_;rw[h3];show (resA e2 y).bind _=_;rw[h4];show (o w u).bind _=_;rw[h5]
 rfl
theorem z5v {o:ON}{as:GAs}{en e1:En}{xs:List (W ⊕ Nat)}{ws:List W}{r:W × Bool}(h1:as en=some (e1,xs))(h2:zar e1 xs=some ws)(h3:o ws=some r):gOpN o as en=some (e1,r):=by
 unfold gOpN;rw[h1];show (zar e1 xs).bind _=_;rw[h2];show (o ws).bind _=_;rw[h3]
 rfl
theorem zcw {m:List Bool}{n:Nat}{g:GS}{ws ws' : List W}{en:En}{r:W × Bool}(hl:ws.length=m.length)(h:g (zay m ws++List.replicate (n - m.length) none)=some (en,.ret r))(ho:zb6 m ws en=some ws'):zah m n g ws=some (ws',r):=by
 unfold zah;rw[if_pos hl,h];show (zb6 m ws en).bind _=_;rw[ho]
 rfl
theorem zb9:∀(ws:List W) (i:Nat),zal (zax (ws.map Sum.inl)) i=none
  | [],i=>rfl
  | w::ws,i=>by
    have:=zb9 ws i;unfold zal zax at this ⊢;rw[List.map_cons,List.map_cons,List.findIdx?_cons,this]
    rfl
theorem zfv (ws:List W):zbl (zax (ws.map Sum.inl))=true:=by
  unfold zbl;refine List.all_eq_true.mpr fun j _=>?_;have:∀i,(zax (ws.map Sum.inl))[j]?≠some (some i):=fun i=>zcd (zb9 ws i) j;cases q:(zax (ws.map Sum.inl))[j]? with
  | none=>rfl
  | some o =>
    cases o with
    | none=>rfl
    | some i=>exact absurd q (this i)
theorem zfk {cap:Cap}{en ce:En}(h:∀i,zal cap i=none):zan cap en ce=en:=by
 unfold zan;apply List.ext_getElem?;intro i;rw[List.getElem?_mapIdx];cases en[i]? with
 | none=>rfl
 | some x=>simp only [Option.map_some,h i]
theorem zbn (en:En):∀ws:List W,zar en (ws.map Sum.inl)=some ws
 | []=>rfl
 | w::ws=>by show (some w).bind _=_;show (zar en (ws.map Sum.inl)).bind _=_;rw[zbn en ws];rfl
theorem zd5 (en:En)(ws:List W):zao en (ws.map Sum.inl)=true:=by
 unfold zao;refine List.all_eq_true.mpr fun x hx=>?_;obtain⟨w,_,rfl⟩:=List.mem_map.mp hx
 rfl
theorem zsg {m:List Bool}{Φ:Fn}{as:GAs}{en e1:En}{ws ws' : List W}{r:W × Bool}(h:as en=some (e1,ws.map Sum.inl))(hm:(ws.map fun _=>false)=m)(hΦ:Φ ws=some (ws',r))(hl:ws'.length=ws.length):gCall m Φ as en=some (e1,r):=by
 unfold gCall;rw[h];show (if (decide ((ws.map Sum.inl).map isR=m) && zao e1 (ws.map Sum.inl) && zbl (zax (ws.map Sum.inl)))=true then _ else _)=_;have e:(ws.map Sum.inl).map isR=m:=by rw[<-hm,List.map_map];rfl
 rw[decide_eq_true e,zd5,zfv];show (zar e1 (ws.map Sum.inl)).bind _=_;rw[zbn];show (Φ ws).bind _=_;rw[hΦ];show (if ws'.length=m.length then _ else _)=_;rw[if_pos (by rw[hl,<-hm,List.length_map]),zfk (zb9 ws)]
theorem zn8 {m:List Bool}{Φ:Fn}{as:GAs}{en e1:En}{i:Nat}{ws wz:List W}{st st' : W}{r:W × Bool} (h:as en=some (e1,.inr i::ws.map Sum.inl)) (hm:(true::ws.map fun _=>false)=m) (hi:e1[i]?=some (some (st,true))) (hΦ:Φ (st::ws)=some (st' :: wz,r)) (hl:wz.length=ws.length):gCall m Φ as en=some (e1.set i (some (st',true)),r):=by
  have cp:∀j,zal (zax (.inr i::ws.map Sum.inl)) j=if j=i then some 0 else none:=fun j=>by
    have:=zb9 ws j;unfold zal zax at this ⊢;rw[List.map_cons,List.findIdx?_cons];by_cases e:j=i
    · subst e;simp
    · have : (some i == some j) = false := by simp; exact fun z => e z.symm
      simp only [this];rw[if_neg e]
      simp_all
  have nd:zbl (zax (.inr i::ws.map Sum.inl))=true:=by
    unfold zbl;refine List.all_eq_true.mpr fun j _=>?_;cases j with
    | zero =>
      show (match (zax (.inr i::ws.map Sum.inl))[0]? with | some (some k)=>zal (zax (.inr i::ws.map Sum.inl)) k == some 0 | _=>true)=true;show (zal (zax (.inr i::ws.map Sum.inl)) i == some 0)=true;rw[cp i,if_pos rfl]
      rfl
    | succ j =>
      have:∀k,(zax (ws.map Sum.inl))[j]?≠some (some k):=fun k=>zcd (zb9 ws k) j;have e:(zax (.inr i::ws.map Sum.inl))[j+1]?=(zax (ws.map Sum.inl))[j]?:=rfl;rw[e];cases q:(zax (ws.map Sum.inl))[j]? with
      | none=>rfl
      | some o =>
        cases o with
        | none=>rfl
        | some k=>exact absurd q (this k)
  unfold gCall;rw[h];show (if (decide ((.inr i::ws.map Sum.inl).map isR=m) && zao e1 (.inr i::ws.map Sum.inl) && zbl (zax (.inr i::ws.map Sum.inl)))=true then _ else _)=_;have e:(Sum.inr i::ws.map Sum.inl).map isR=m:=by rw[<-hm,List.map_cons,List.map_map];rfl
  have ow:zao e1 (.inr i::ws.map Sum.inl)=true:=by
    have:=zd5 e1 ws;unfold zao at this ⊢;rw[List.all_cons,this];simp only [hi,Bool.and_true]
  rw [decide_eq_true e,ow,nd];have rs:zar e1 (.inr i::ws.map Sum.inl)=some (st::ws):=by
    show (resA e1 (.inr i)).bind _=_;have:resA e1 (.inr i)=some st:=by unfold resA;simp only [hi]
    rw[this];show (zar e1 (ws.map Sum.inl)).bind _=_;rw[zbn]
    rfl
  show (zar e1 (.inr i::ws.map Sum.inl)).bind _=_;rw[rs];show (Φ (st::ws)).bind _=_;rw[hΦ];show (if (st' :: wz).length=m.length then _ else _)=_;rw[if_pos (by rw[<-hm,List.length_cons,List.length_cons,List.length_map,hl])];refine congrArg some (congrArg (·,r) ?_);unfold zan;apply List.ext_getElem?;intro j;rw[List.getElem?_mapIdx];have hi' : i < e1.length:=(List.getElem?_eq_some_iff.mp hi).1;by_cases ej:j=i
  · subst ej
    rw[List.getElem?_set_self hi',hi];simp only [Option.map_some,cp j,if_pos];rw[<-hm]
    rfl
  · rw [List.getElem?_set_ne (Ne.symm ej)]
    cases e1[j]? with
    | none=>rfl
    | some x=>simp only [Option.map_some,cp j,if_neg ej]
theorem zd4 {m:List Bool}{Φ:Fn}{as:GAs}{en:En}{i:Nat}{ws wz:List W}{st st' : W}{r:W × Bool}(h:as en=some (en,.inr i::ws.map Sum.inl))(hm:(true::ws.map fun _=>false)=m)(hi:en[i]?=some (#v[st,5]))(hΦ:Φ (st::ws)=some (st' :: wz,r))(hl:wz.length=ws.length):gCall m Φ as en=some (en.set i (#v[st',5]),r):=zn8 h hm hi hΦ hl
theorem zni {a w:W}{ws:List W}{i:Int}(h:seqW a=some ws)(h2:atI ws i=some w):oIx a (.int i)=#v[w,6]:=by
 unfold oIx;cases a<;>simp_all
theorem oI_t {c:Int->Int->Bool}{g:Int->Int->W}{i j:Int}(h:c i j=true):oI c g (.int i) (.int j)=#v[g i j,6]:=by
 show (if c i j then #v[g i j,6] else none)=_;rw[if_pos h]
theorem set_0 {mp:List Nat}{i:Nat}{g:GE}{en:En}{r:W × Bool}(h:g en=some (en,r))(hi:(mp.contains i || !decide (i < en.length))=false):gSet mp i g en=some (en.set i (some r),.nx):=zf3 h hi
theorem arg_0 {g:GE}{en:En}{r:W × Bool}(h:g en=some (en,r)):gArg g en=some (en,.inl r.1):=zbo h
theorem op2_0 {o:O2}{a b:GA}{en:En}{x y:W ⊕ Nat}{w u:W}{r:W × Bool}(h1:a en=some (en,x))(h2:b en=some (en,y))(h3:resA en x=some w)(h4:resA en y=some u)(h5:o w u=some r):gOp2 o a b en=some (en,r):=za9 h1 h2 h3 h4 h5
theorem zrw {i:Nat}{k g:GE}{en:En}{w:W}{ws:List W}{n:Int}{j:Nat}{f f2:Bool}(h:g en=some (en,(w,f)))(hk:k en=some (en,(.int n,f2)))(hi:en[i]?=some (#v[ws,2]))(hj:ixN ws.length n=some j):zap i k g en=some (en.set i (#v[(ws.set j w),2]),.nx):=by
 unfold zap;simp only [h,Option.bind_some,hi,hk,hj]
theorem z2q {i:Nat}{g:GE}{en e1:En}{us ws:List W}{r:W × Bool}(h0:en[i]?=some (#v[us,2]))(h:g en=some (e1,r))(h1:e1[i]?=some (#v[ws,2]))(hz:ws.length < sizeLine):gApp i g en=some (e1.set i (#v[(ws++[r.1]),2]),(.non,false)):=by
 unfold gApp;simp only [h0,h,Option.bind_some,h1];rw[if_pos hz]
noncomputable def zyf (Ψ:Str->Fn):GS:=(gRet (gOp2 oIx (gArg (zas (gCns #v[1] (gCns #v[2] (gCns #v[3] (gCns #v[4] (gCns #v[5] (gCns #v[6] (gCns #v[3] (gCns #v[4] gA0)))))))))) (gArg (gCall [true,false] (Ψ "_law_take") (gCns (zaa 0) (gCns #v[8] gA0))))))
noncomputable def zyk (Φ:Fn):Prop:=∀(k:Nat) (st:W),HS k st->k < big->∃st' m,Φ [st]=some ([st'],(.int m,false))/\HS (k+1) st'/\1<=m/\m<=6
theorem z7g {r:Int}(h0:0<=r)(h:r < 8):r=0\/r=1\/r=2\/r=3\/r=4\/r=5\/r=6\/r=7:=by omega
theorem z02 {Ψ:Str->Fn}(hT:zd8 (Ψ "_law_take")):zyk (zah [true] 1 (zyf Ψ)):=by
 intro k st hs hk;nofun;obtain⟨st',r,e,h1,h2,h3⟩:=hT k st 8 hs hk #v[0,9] #v[0,9];ac_rfl;have c:gCall [true,false] (Ψ "_law_take") (gCns (zaa 0) (gCns #v[8] gA0)) [#v[st,5]]=some ([#v[st',5]],(.int r,false)):=zd4 (i:=0) (ws:=[.int 8]) (wz:=[.int 8]) rfl rfl rfl e rfl;have go:∀m,atI ([.int 1,.int 2,.int 3,.int 4,.int 5,.int 6,.int 3,.int 4]:List W) r=some (.int m)->1<=m->m<=6->∃st' m,zah [true] 1 (zyf Ψ) [st]=some ([st'],(.int m,false))/\HS (k+1) st'/\1<=m/\m<=6:=fun m hm m1 m6=>by
  refine⟨st',m,zcw (en:=[#v[st',5]]) rfl (zxz (za9 (x:=.inl (.lst [.int 1,.int 2,.int 3,.int 4,.int 5,.int 6,.int 3,.int 4])) (y:=.inl (.int r)) rfl (zbo c) rfl rfl ?_)) rfl,h1,m1,m6⟩;exact zni rfl hm
 rcases z7g h2 h3 with rfl | rfl | rfl | rfl | rfl | rfl | rfl | rfl
 ·exact go 1 rfl #v[0,9] #v[0,9]
 ·exact go 2 rfl #v[0,9] #v[0,9]
 ·exact go 3 rfl #v[0,9] #v[0,9]
 ·exact go 4 rfl #v[0,9] #v[0,9]
 ·exact go 5 rfl #v[0,9] #v[0,9]
 ·exact go 6 rfl #v[0,9] #v[0,9]
 ·exact go 3 rfl #v[0,9] #v[0,9]
 ·exact go 4 rfl #v[0,9] #v[0,9]
noncomputable def z2m (Ψ:Str->Fn):GS:=(gSeq (gSet [0] 2 (gCall [true,false] (Ψ "_law_take") (gCns (zaa 0) (gCns #v[4] gA0)))) (gSeq (gIfS (zak (gOp2 oEq (zaa 2) #v[3])) (gRet (gOp2 oMult (gArg (zas (gCns (gArg (gCall [true,false] (Ψ "_law_take") (gCns (zaa 0) (gCns #v[2] gA0)))) gA0))) (zaa 1))) zcy) (gSeq (gSet [0] 3 (zas gA0)) (gSeq (gFor [0] (.nm 4) (zbb (gCns (zaa 1) gA0)) (gSeq (gSet [0] 5 (gCall [true,false] (Ψ "_law_take") (gCns (zaa 0) (gCns (gArg (gOp2 oIx (gArg (zas (gCns #v[2] (gCns #v[5] (gCns #v[5] gA0))))) (zaa 2))) gA0)))) (zc4 (gApp 3 (gOp2 oIx (gArg (zas (gCns #v[5,4] (gCns (gArg (gOpN oInt (gCns (gArg (gOp2 oEq (zaa 5) #v[0])) gA0))) (gCns (gArg (gOpN oInt (gCns (gArg (gOp2 (oI yes2 fun i j=>.bl (decide (j < i))) (zaa 5) #v[0])) gA0))) gA0))))) (zaa 2)))))) (zcr [0] 3)))))
noncomputable def zk9 (Φ:Fn):Prop:=∀(k:Nat) (st:W) (n:Int),HS k st->k+100 < big->0<=n->n<=64->∃st' xs,Φ [st,.int n]=some ([st',.int n],(.lst (xs.map W.int),true))/\HS (k+66) st'/\(xs.length:Int)=n/\Bits xs
theorem three {r:Int}(h0:0<=r)(h:r < 4)(h3:r≠3):r=0\/r=1\/r=2:=by omega
theorem zoo {α:Type}(x:α):∀n:Nat,(List.replicate n [x]).flatten=List.replicate n x
 | 0=>rfl
 | n+1=>by rw[List.replicate_succ,List.flatten_cons,zoo x n];rfl
theorem z1e {Ψ:Str->Fn}(hT:zd8 (Ψ "_law_take")):zk9 (zah [true,false] 6 (z2m Ψ)):=by
 intro k st n hs hk n0 n1;have hz:(64:Nat)<=sizeLine:=by decide
 nofun;obtain⟨st1,way,e1,h1,h2,h3⟩:=hT k st 4 hs #v[] #v[0,9] #v[0,9];ac_rfl;have c1:gCall [true,false] (Ψ "_law_take") (gCns (zaa 0) (gCns #v[4] gA0)) [#v[st,5],#v[n,0],none,none,none,none]=some ([#v[st1,5],#v[n,0],none,none,none,none],(.int way,false)):=zd4 (i:=0) (ws:=[.int 4]) (wz:=[.int 4]) rfl rfl rfl e1 rfl;have s1:=zf3 (mp:=[0]) (i:=2) c1 rfl;by_cases c3:way=3
 ·subst c3;refine aG fun _ qG=>?_;obtain ⟨st2,b,e2,g1,g2,g3⟩:=hT (k+1) st1 2 h1 (by omega) (by decide) (by decide);refine qG ?_;clear qG;have c2:gCall [true,false] (Ψ "_law_take") (gCns (zaa 0) (gCns (gArg (gC (.int 2))) gA0)) [some (st1,true),some (.int n,false),some (.int 3,false),none,none,none]=some ([some (st2,true),some (.int n,false),some (.int 3,false),none,none,none],(.int b,false)):=zd4 (i:=0) (ws:=[.int 2]) (wz:=[.int 2]) rfl rfl rfl e2 rfl;have l2:zas (gCns (gArg (gCall [true,false] (Ψ "_law_take") (gCns (zaa 0) (gCns (gArg (gC (.int 2))) gA0)))) gA0) [some (st1,true),some (.int n,false),some (.int 3,false),none,none,none]=some ([some (st2,true),some (.int n,false),some (.int 3,false),none,none,none],(.lst [.int b],true)):=by
   unfold zas;rw[z3s (zbo c2) (show gA0 _=_ from rfl)]
   rfl
  have om:oMult (.lst [.int b]) (.int n)=#v[(List.replicate n.toNat (.int b)),2]:=by
   rw[ztv (by refine⟨by omega,by omega,?_⟩;show 1 * n.toNat<=sizeLine;omega),zoo]
  refine⟨st2,List.replicate n.toNat b,?_,g1.mono #v[],by rw[List.length_replicate];omega,fun x hx=>by rw[List.eq_of_mem_replicate hx];omega⟩;refine zcw (en:=[#v[st2,5],#v[n,0],#v[3,0],none,none,none]) rfl ?_ rfl;refine (seq_nx s1).trans (z25 ?_);refine (z3g (e1:=[#v[st1,5],#v[n,0],#v[3,0],none,none,none]) rfl).trans (zxz (za9 (zbo l2) rfl rfl rfl ?_));rw[List.map_replicate];exact om
 ·have hw := three h2 h3 c3;have turn:∀(i:Nat) (st:W) (xs:List Int) (v5:Option (W × Bool)),HS (k+1+i) st->i < 64->xs.length=i->∃st' x one,HS (k+1+i+1) st'/\(x=0\/x=1) /\
    (gSeq (gSet [0] 5 (gCall [true,false] (Ψ "_law_take") (gCns (zaa 0) (gCns (gArg (gOp2 oIx (gArg (zas (gCns #v[2] (gCns #v[5] (gCns #v[5] gA0))))) (zaa 2))) gA0)))) (zc4 (gApp 3 (gOp2 oIx (gArg (zas (gCns #v[5,4] (gCns (gArg (gOpN oInt (gCns (gArg (gOp2 oEq (zaa 5) #v[0])) gA0))) (gCns (gArg (gOpN oInt (gCns (gArg (gOp2 (oI yes2 fun i j=>.bl (decide (j < i))) (zaa 5) #v[0])) gA0))) gA0))))) (zaa 2))))) [#v[st,5],#v[n,0],#v[way,0],#v[(xs.map W.int),2],#v[(0+(i:Nat)),0],v5] =
     some ([#v[st',5],#v[n,0],#v[way,0],#v[((xs++[x]).map W.int),2],#v[(0+(i:Nat)),0],#v[one,0]],.nx):=by
   intro i st xs v5 hst hi hl;have zz:(xs.map W.int).length < sizeLine:=by rw[List.length_map,hl];omega
   have fin:∀(q:Int) (x:Int->Int),(∀one,0<=one->one < q->x one=0\/x one=1)->0 < q->q < 1073741824 ->
     (gCns (zaa 0) (gCns (gArg (gOp2 oIx (gArg (zas (gCns #v[2] (gCns #v[5] (gCns #v[5] gA0))))) (zaa 2))) gA0)) [#v[st,5],#v[n,0],#v[way,0],#v[(xs.map W.int),2],#v[(0+(i:Nat)),0],v5]=some ([#v[st,5],#v[n,0],#v[way,0],#v[(xs.map W.int),2],#v[(0+(i:Nat)),0],v5],[.inr 0,.inl (.int q)]) ->
     (∀(st' : W) (one:Int),(gOp2 oIx (gArg (zas (gCns #v[5,4] (gCns (gArg (gOpN oInt (gCns (gArg (gOp2 oEq (zaa 5) #v[0])) gA0))) (gCns (gArg (gOpN oInt (gCns (gArg (gOp2 (oI yes2 fun i j=>.bl (decide (j < i))) (zaa 5) #v[0])) gA0))) gA0))))) (zaa 2)) [#v[st',5],#v[n,0],#v[way,0],#v[(xs.map W.int),2],#v[(0+(i:Nat)),0],#v[one,0]]=some ([#v[st',5],#v[n,0],#v[way,0],#v[(xs.map W.int),2],#v[(0+(i:Nat)),0],#v[one,0]],(.int (x one),false))) ->
     ∃st' x one,HS (k+1+i+1) st'/\(x=0\/x=1)/\(gSeq (gSet [0] 5 (gCall [true,false] (Ψ "_law_take") (gCns (zaa 0) (gCns (gArg (gOp2 oIx (gArg (zas (gCns #v[2] (gCns #v[5] (gCns #v[5] gA0))))) (zaa 2))) gA0)))) (zc4 (gApp 3 (gOp2 oIx (gArg (zas (gCns #v[5,4] (gCns (gArg (gOpN oInt (gCns (gArg (gOp2 oEq (zaa 5) #v[0])) gA0))) (gCns (gArg (gOpN oInt (gCns (gArg (gOp2 (oI yes2 fun i j=>.bl (decide (j < i))) (zaa 5) #v[0])) gA0))) gA0))))) (zaa 2))))) [#v[st,5],#v[n,0],#v[way,0],#v[(xs.map W.int),2],#v[(0+(i:Nat)),0],v5] =
      some ([#v[st',5],#v[n,0],#v[way,0],#v[((xs++[x]).map W.int),2],#v[(0+(i:Nat)),0],#v[one,0]],.nx):=by
    intro q x hx q0 q1 ha hv;nofun;obtain⟨st',one,e2,g1,g2,g3⟩:=hT (k+1+i) st q hst #v[] q0 q1;ac_rfl;have cc:=zd4 (m:=[true,false]) (ws:=[.int q]) (wz:=[.int q]) ha rfl rfl e2 rfl;refine⟨st',x one,one,g1,hx one g2 g3,?_⟩;refine (seq_nx (zf3 (mp:=[0]) (i:=5) cc rfl)).trans (z08 (r:=(.non,false)) ?_);rw[List.map_append];exact z2q (i:=3) rfl (hv st' one) rfl zz
   rcases hw with rfl | rfl | rfl
   ·exact fin 2 (fun one=>one) (fun one a b=>by omega) #v[0,9] #v[0,9] rfl fun st' one=>rfl
   ·refine fin 5 (fun one => if decide (one = 0) then 1 else 0) (fun one a b => ?_) #v[0,9] #v[0,9] rfl fun st' one => rfl;by_cases z:one=0<;>simp [z]
   ·refine fin 5 (fun one => if decide (0 < one) then 1 else 0) (fun one a b => ?_) #v[0,9] #v[0,9] rfl fun st' one => rfl;by_cases z:0 < one<;>simp [z]
  obtain⟨en',hf,hp⟩:=zbd (mp:=[0]) (T:=.nm 4) (it:=zbb (gCns (zaa 1) gA0)) (body:=(gSeq (gSet [0] 5 (gCall [true,false] (Ψ "_law_take") (gCns (zaa 0) (gCns (gArg (gOp2 oIx (gArg (zas (gCns #v[2] (gCns #v[5] (gCns #v[5] gA0))))) (zaa 2))) gA0)))) (zc4 (gApp 3 (gOp2 oIx (gArg (zas (gCns #v[5,4] (gCns (gArg (gOpN oInt (gCns (gArg (gOp2 oEq (zaa 5) #v[0])) gA0))) (gCns (gArg (gOpN oInt (gCns (gArg (gOp2 (oI yes2 fun i j=>.bl (decide (j < i))) (zaa 5) #v[0])) gA0))) gA0))))) (zaa 2))))))
   (fun i e=>∃st xs v4 v5,e=[#v[st,5],#v[n,0],#v[way,0],#v[(xs.map W.int),2],v4,v5]/\HS (k+1+i) st/\xs.length=i/\Bits xs)
   (en:=[#v[st1,5],#v[n,0],#v[way,0],#v[[],2],none,none]) (e0:=[#v[st1,5],#v[n,0],#v[way,0],#v[[],2],none,none]) (ws:=rngW 0 n.toNat)
   (by
    have hr:zdu n=true:=by unfold zdu;rw[decide_eq_true #v[],decide_eq_true #v[]];rfl
    show (if zdu n then some (_,rngW 0 n.toNat) else none)=_;rw[hr];rfl)
   ⟨st1,[],none,none,rfl,h1,rfl,fun x hx=>by cases hx⟩
   (by
    rintro i w e hw' ⟨st,xs,v4,v5,rfl,hst,hl,hb⟩;nofun;obtain⟨hi,rfl⟩:=za2 hw';obtain⟨st',x,one,g1,g2,g3⟩:=turn i st xs v5 hst #v[] hl;ac_rfl;refine⟨_,_,rfl,.inl g3,st',xs++[x],_,_,rfl,g1,by rw[List.length_append,hl];rfl,fun y hy=>?_⟩;rcases List.mem_append.mp hy with hy | hy
    ·exact hb y hy
    ·rw[List.mem_singleton] at hy;subst hy;exact g2)
  nofun;obtain⟨st2,xs,v4,v5,rfl,g1,g2,g3⟩:=hp;ac_rfl;rw[zav] at g1 g2;refine⟨st2,xs,?_,g1.mono #v[],by omega,g3⟩;refine zcw (en:=[#v[st2,5],#v[n,0],#v[way,0],none,v4,v5]) rfl ?_ rfl;refine (seq_nx s1).trans ((seq_nx (e1:=[#v[st1,5],#v[n,0],#v[way,0],none,none,none]) ?_).trans ((seq_nx (e1:=[#v[st1,5],#v[n,0],#v[way,0],#v[[],2],none,none]) rfl).trans ((seq_nx hf).trans rfl)));rcases hw with rfl | rfl | rfl<;>rfl
noncomputable def z2v (Ψ:Str->Fn):GS:=(gSeq (gSet [] 1 (gC (.int 0))) (gSeq (gFor [] (.nm 2) (gRev (gVar 0)) (gSet [] 1 (gOp2 oAdd (gArg (gOp2 oMult #v[2] (zaa 1))) (zaa 2)))) (zcr [] 1)))
noncomputable def znc (Φ:Fn):Prop:=∀xs:List Int,Φ [.lst (xs.map W.int)]=some ([.lst (xs.map W.int)],(.int (wordOf xs),false))
theorem zzy (Ψ:Str->Fn):znc (zah [false] 3 (z2v Ψ)):=by
 intro xs;obtain⟨en',hf,hp⟩:=zbd (mp:=[]) (T:=.nm 2) (it:=gRev (gVar 0)) (body:=gSet [] 1 (gOp2 oAdd (gArg (gOp2 oMult #v[2] (zaa 1))) (zaa 2)))
  (fun i e=>∃v2,e=[#v[(xs.map W.int),1],#v[(wordOf (xs.drop (xs.length - i))),0],v2])
  (en:=[#v[(xs.map W.int),1],#v[0,0],none]) (e0:=[#v[(xs.map W.int),1],#v[0,0],none]) (ws:=(xs.map W.int).reverse) rfl
  ⟨none,by rw[Nat.sub_zero,List.drop_length];rfl⟩
  (by
   rintro i w e hw ⟨v2,rfl⟩;have hi:i < xs.length:=by have:=(List.getElem?_eq_some_iff.mp hw).1;rw[List.length_reverse,List.length_map] at this;exact this
   have hj:xs.length - 1 - i < xs.length:=by omega
   have ew:w=.int xs[xs.length - 1 - i]:=by
    rw[List.getElem?_reverse (by rw[List.length_map];exact hi),List.length_map,List.getElem?_map,List.getElem?_eq_getElem hj] at hw;exact (sI hw).symm
   subst ew;have om:oMult (.int 2) (.int (wordOf (xs.drop (xs.length - i))))=#v[(2 * wordOf (xs.drop (xs.length - i))),0]:=oMult_l #v[0,9] #v[0,9];have ed:xs.drop (xs.length - (i+1))=xs[xs.length - 1 - i]::xs.drop (xs.length - i):=by
    have e1:xs.length - (i+1)=xs.length - 1 - i:=by omega
    have e2:xs.length - i=xs.length - 1 - i+1:=by omega
    rw[e1,e2];exact List.drop_eq_getElem_cons hj
   refine⟨_,_,rfl,.inl (zf3 (r:=(.int (wordOf (xs.drop (xs.length - (i+1)))),false)) (za9 (zbo (za9 (x:=.inl (.int 2)) rfl rfl rfl rfl om)) rfl rfl rfl ?_) rfl),_,rfl⟩;rw[ed]
   rfl)
 obtain⟨v2,rfl⟩:=hp;rw[List.length_reverse,List.length_map,Nat.sub_self,List.drop_zero] at hf;exact zcw (en:=[#v[(xs.map W.int),1],#v[(wordOf xs),0],v2]) rfl ((seq_nx (e1:=[#v[(xs.map W.int),1],#v[0,0],none]) rfl).trans ((seq_nx hf).trans rfl)) rfl
noncomputable def z5h (Ψ:Str->Fn):GS:=(gSeq (gSet [] 1 (zas (gCns #v[0] (gCns #v[0] (gCns #v[0] gA0))))) (gSeq (gIfS (zgt (zak (gOp2 (oI yes2 fun i j=>.bl (decide (j < i))) (gArg (gOpN oLen (gCns (zaa 0) gA0))) #v[0])) (zak (gOp2 (oI yes2 fun i j=>.bl (decide (j<=i))) (gArg (gOp2 oIx (zaa 0) #v[0])) (gArg (gOp2 (oI cPow fun i j=>.int (i ^ j.toNat)) #v[10] #v[18]))))) (gSeq (gSet [] 2 (gC (.int 1))) (gFor [] (.nm 3) (zb5 (gSl (zaa 0) zb4 (zfi (gC (.int 63))))) (gSeq (zap 1 (gC (.int 0)) (gOp2 oAdd (gArg (gOp2 oIx (zaa 1) #v[0])) (gArg (gOp2 oMult (gArg (gOp2 #v[0,0,2] (gArg (gOpN oAbs (gCns (zaa 3) gA0))) (gArg (gOp2 (oI cPow fun i j=>.int (i ^ j.toNat)) #v[10] #v[60])))) (zaa 2))))) (gSet [] 2 (gOp2 oMult (zaa 2) (gArg (gOp2 (oI cPow fun i j=>.int (i ^ j.toNat)) #v[10] #v[60]))))))) zcy) (gSeq (gFor [] (.tp [4,3]) (zm7 (gSl (zaa 0) zb4 (zfi (gC (.int 63))))) (gSeq (gSet [] 5 (gOp2 oAdd (gArg (gOp2 oAdd (gArg (gOp2 #v[0,0,2] (zaa 3) #v[2305843009213693951])) (gArg (gOp2 oMult #v[7919] (zaa 4))))) #v[3])) (zap 1 (gC (.int 1)) (gOp2 #v[0,0,2] (gArg (gOp2 oAdd (gArg (gOp2 oMult (gArg (gOp2 oIx (zaa 1) #v[1])) #v[48271])) (zaa 5))) #v[2305843009213693951])))) (zcr [] 1))))
noncomputable def zyd (Φ:Fn):Prop:=∀ns:List Int,ns.length<=63->∃st,Φ [.frl (ns.map W.int)]=some ([.frl (ns.map W.int)],(st,true))/\HS 0 st
theorem z4d {ns:List Int}(h:ns.length<=63):cutW (ns.map W.int) none (some 63)=ns.map W.int:=by
 unfold cutW;have e1:HT.sIx (ns.map W.int).length 0 none=0:=rfl;have e2:HT.sIx (ns.map W.int).length (ns.map W.int).length (some 63)=(ns.map W.int).length:=by
  have:=HT.sIx_nat (ns.map W.int).length (ns.map W.int).length 63;rw[show ((63:Nat):Int)=63 from rfl] at this;rw[this,List.length_map];omega
 rw[e1,e2,List.drop_zero,Nat.sub_zero,List.take_length]
theorem zu4 {ns:List Int}{i:Nat}{w:W}(h:(zgc (ns.map W.int) 0)[i]?=some w):∃hi:i < ns.length,w=.tup [.int i,.int ns[i]]:=by
 have hi:i < ns.length:=by have:=(List.getElem?_eq_some_iff.mp h).1;rw[zb8,List.length_map] at this;exact this
 have:=zd2 (ws:=ns.map W.int) (k:=0) (i:=i) (w:=.int ns[i]) (by rw[List.getElem?_map,List.getElem?_eq_getElem hi];rfl);rw[h,Nat.zero_add] at this;exact⟨hi,sI this⟩
theorem z1o (Ψ:Str->Fn):zyd (zah [false] 6 (z5h Ψ)):=by
  intro ns hl;have p18:cPow 10 18=true:=by decide
  have p60:cPow 10 60=true:=by decide
  have first:∃a0 v2 v3,0<=a0/\gIfS (zgt (zak (gOp2 (oI yes2 fun i j=>.bl (decide (j < i))) (gArg (gOpN oLen (gCns (zaa 0) gA0))) (gArg (gC (.int 0))))) (zak (gOp2 (oI yes2 fun i j=>.bl (decide (j<=i))) (gArg (gOp2 oIx (zaa 0) (gArg (gC (.int 0))))) (gArg (gOp2 (oI cPow fun i j=>.int (i ^ j.toNat)) (gArg (gC (.int 10))) (gArg (gC (.int 18)))))))) (gSeq (gSet [] 2 (gC (.int 1))) (gFor [] (.nm 3) (zb5 (gSl (zaa 0) zb4 (zfi (gC (.int 63))))) (gSeq (zap 1 (gC (.int 0)) (gOp2 oAdd (gArg (gOp2 oIx (zaa 1) (gArg (gC (.int 0))))) (gArg (gOp2 oMult (gArg (gOp2 (oI (fun _ j=>decide (0 < j)) fun i j=>.int (i % j)) (gArg (gOpN oAbs (gCns (zaa 3) gA0))) (gArg (gOp2 (oI cPow fun i j=>.int (i ^ j.toNat)) (gArg (gC (.int 10))) (gArg (gC (.int 60))))))) (zaa 2))))) (gSet [] 2 (gOp2 oMult (zaa 2) (gArg (gOp2 (oI cPow fun i j=>.int (i ^ j.toNat)) (gArg (gC (.int 10))) (gArg (gC (.int 60)))))))))) zcy
      [some (.frl (ns.map W.int),false),#v[[.int 0,.int 0,.int 0],2],none,none,none,none]=some ([some (.frl (ns.map W.int),false),#v[[.int a0,.int 0,.int 0],2],v2,v3,none,none],.nx):=by
    have ln:(zak (gOp2 (oI yes2 fun i j=>.bl (decide (j < i))) (gArg (gOpN oLen (gCns (zaa 0) gA0))) #v[0])) [some (.frl (ns.map W.int),false),#v[[.int 0,.int 0,.int 0],2],none,none,none,none]=some ([some (.frl (ns.map W.int),false),#v[[.int 0,.int 0,.int 0],2],none,none,none,none],decide ((0:Int) < ((ns.map W.int).length:Nat))):=rfl;cases ns with
    | nil=>exact⟨0,none,none,by decide,(z32 (by unfold zgt;rw[ln];rfl)).trans rfl⟩
    | cons n0 nr =>
      have t2:(zak (gOp2 (oI yes2 fun i j=>.bl (decide (j<=i))) (gArg (gOp2 oIx (zaa 0) (gArg (gC (.int 0))))) (gArg (gOp2 (oI cPow fun i j=>.int (i ^ j.toNat)) (gArg (gC (.int 10))) (gArg (gC (.int 18))))))) [some (.frl ((n0::nr).map W.int),false),some (.lst [.int 0,.int 0,.int 0],true),none,none,none,none]=some ([some (.frl ((n0::nr).map W.int),false),some (.lst [.int 0,.int 0,.int 0],true),none,none,none,none],decide (10 ^ 18<=n0)) :=
        z1y (za9 (zbo (za9 rfl rfl rfl rfl (zni rfl (zau (i:=0) rfl)))) (zbo (za9 (x:=.inl (.int 10)) rfl rfl rfl rfl (oI_t p18))) rfl rfl rfl)
      have ln' : decide ((0:Int) < (((n0::nr).map W.int).length:Nat))=true:=decide_eq_true (by simp);rw[ln'] at ln;by_cases c:(10:Int) ^ 18<=n0
      · rw [decide_eq_true c] at t2
        obtain ⟨en',hf,hp⟩:=zbd (mp:=[]) (T:=.nm 3) (it:=zb5 (gSl (zaa 0) zb4 (zfi (gC (.int 63))))) (body:=(gSeq (zap 1 (gC (.int 0)) (gOp2 oAdd (gArg (gOp2 oIx (zaa 1) (gArg (gC (.int 0))))) (gArg (gOp2 oMult (gArg (gOp2 (oI (fun _ j=>decide (0 < j)) fun i j=>.int (i % j)) (gArg (gOpN oAbs (gCns (zaa 3) gA0))) (gArg (gOp2 (oI cPow fun i j=>.int (i ^ j.toNat)) (gArg (gC (.int 10))) (gArg (gC (.int 60))))))) (zaa 2))))) (gSet [] 2 (gOp2 oMult (zaa 2) (gArg (gOp2 (oI cPow fun i j=>.int (i ^ j.toNat)) (gArg (gC (.int 10))) (gArg (gC (.int 60)))))))))
          (fun i e=>∃a0 wt v3,e=[some (.frl ((n0::nr).map W.int),false),#v[[.int a0,.int 0,.int 0],2],#v[wt,0],v3,none,none]/\0<=a0/\0 < wt/\wt<=2 ^ (200 * i))
          (en:=[some (.frl ((n0::nr).map W.int),false),#v[[.int 0,.int 0,.int 0],2],#v[1,0],none,none,none]) (e0:=[some (.frl ((n0::nr).map W.int),false),#v[[.int 0,.int 0,.int 0],2],#v[1,0],none,none,none]) (ws:=(n0::nr).map W.int)
          (by
            show some (_,cutW ((n0::nr).map W.int) none (some 63))=_;rw[z4d hl])
          ⟨0,1,none,rfl,by decide,by decide,by decide⟩
          (by
            rintro i w e hw ⟨a0,wt,v3,rfl,q0,q1,q2⟩;rw [List.getElem?_map] at hw;have hi:i < (n0::nr).length:=by
              rcases Nat.lt_or_ge i (n0::nr).length with z | z
              · exact z
              · rw[List.getElem?_eq_none z] at hw;exact noSome hw
            rw[List.getElem?_eq_getElem hi] at hw;have ew:w=.int (n0::nr)[i]:=(sI hw).symm;subst ew;generalize (n0::nr)[i]=n;have y0:0<=(if n < 0 then -n else n) % (10:Int) ^ 60:=Int.emod_nonneg _ #v[0,9];have y1:(if n < 0 then -n else n) % (10:Int) ^ 60 < 10 ^ 60:=Int.emod_lt_of_pos _ #v[0,9];have hb:i<=63:=by omega
            have b1:Builtin.Int.intBits ((if n < 0 then -n else n) % (10:Int) ^ 60)<=2 ^ 20:=zie (i:=1) y0 (Int.le_trans (Int.le_of_lt y1) #v[0,9]) #v[0,9];have b2:Builtin.Int.intBits wt<=2 ^ 20:=zie #v[] q2 hb;have m1:=zs3 b1 b2;have m2:=zs3 b2 (zie (w:=10 ^ 60) (i:=1) #v[0,9] #v[0,9] #v[0,9]);obtain⟨r1,r2⟩:=zwh q1 q2;refine⟨_,[some (.frl ((n0::nr).map W.int),false),#v[[.int (a0+(if n < 0 then -n else n) % (10:Int) ^ 60 * wt),.int 0,.int 0],2],#v[(wt * 10 ^ 60),0],#v[n,0],none,none],rfl,.inl ?_,_,_,_,rfl,?_,r1,r2⟩
            · refine (seq_nx (e1 := [some (.frl ((n0 :: nr).map W.int), false), some (.lst [.int (a0 + (if n < 0 then -n else n) % (10 : Int) ^ 60 * wt), .int 0, .int 0], true), some (.int wt, false), some (.int n, false), none, none]) ?_).trans (set_0 (op2_0 rfl (arg_0 (op2_0 (x := .inl (.int 10)) rfl rfl rfl rfl (oI_t p60))) rfl rfl m2) rfl)
              have ge:gOp2 oAdd (gArg (gOp2 oIx (zaa 1) (gArg (gC (.int 0))))) (gArg (gOp2 oMult (gArg (gOp2 (oI (fun _ j=>decide (0 < j)) fun i j=>.int (i % j)) (gArg (gOpN oAbs (gCns (zaa 3) gA0))) (gArg (gOp2 (oI cPow fun i j=>.int (i ^ j.toNat)) (gArg (gC (.int 10))) (gArg (gC (.int 60))))))) (zaa 2))) [some (.frl ((n0::nr).map W.int),false),some (.lst [.int a0,.int 0,.int 0],true),some (.int wt,false),some (.int n,false),none,none]=some ([some (.frl ((n0::nr).map W.int),false),some (.lst [.int a0,.int 0,.int 0],true),some (.int wt,false),some (.int n,false),none,none],(.int (a0+(if n < 0 then -n else n) % (10:Int) ^ 60 * wt),false)) :=
                za9 (zbo (za9 rfl rfl rfl rfl (zni rfl (zau (i:=0) rfl)))) (zbo (za9 (zbo (za9 (zbo (z5v rfl rfl rfl)) (zbo (za9 (x:=.inl (.int 10)) rfl rfl rfl rfl (oI_t p60))) rfl rfl (oI_t #v[0,9]))) rfl rfl rfl m1)) rfl rfl rfl
              exact zrw (n:=0) (j:=0) (ws:=[.int a0,.int 0,.int 0]) ge rfl rfl rfl
            · have := Int.mul_nonneg y0 (Int.le_of_lt q1)
              omega)
        nofun;obtain⟨a0,wt,v3,rfl,q0,_⟩:=hp;ac_rfl;exact⟨a0,_,_,q0,(z3g (by unfold zgt;rw[ln];exact t2)).trans ((seq_nx (e1:=[some (.frl ((n0::nr).map W.int),false),#v[[.int 0,.int 0,.int 0],2],#v[1,0],none,none,none]) rfl).trans hf)⟩
      · rw [decide_eq_false c] at t2
        exact⟨0,none,none,by decide,(z32 (by unfold zgt;rw[ln];exact t2)).trans rfl⟩
  nofun;obtain⟨a0,v2,v3,q0,hfirst⟩:=first
  refine qG ?_;clear qG;obtain ⟨en',hf,hp⟩:=zbd (mp:=[]) (T:=.tp [4,3]) (it:=zm7 (gSl (zaa 0) zb4 (zfi (gC (.int 63))))) (body:=(gSeq (gSet [] 5 (gOp2 oAdd (gArg (gOp2 oAdd (gArg (gOp2 (oI (fun _ j=>decide (0 < j)) fun i j=>.int (i % j)) (zaa 3) (gArg (gC (.int 2305843009213693951))))) (gArg (gOp2 oMult (gArg (gC (.int 7919))) (zaa 4))))) (gArg (gC (.int 3))))) (zap 1 (gC (.int 1)) (gOp2 (oI (fun _ j=>decide (0 < j)) fun i j=>.int (i % j)) (gArg (gOp2 oAdd (gArg (gOp2 oMult (gArg (gOp2 oIx (zaa 1) (gArg (gC (.int 1))))) (gArg (gC (.int 48271))))) (zaa 5))) (gArg (gC (.int 2305843009213693951)))))))
    (fun i e=>∃b v3 v4 v5,e=[some (.frl (ns.map W.int),false),#v[[.int a0,.int b,.int 0],2],v2,v3,v4,v5]/\0<=b/\b < MM)
    (en:=[some (.frl (ns.map W.int),false),#v[[.int a0,.int 0,.int 0],2],v2,v3,none,none]) (e0:=[some (.frl (ns.map W.int),false),#v[[.int a0,.int 0,.int 0],2],v2,v3,none,none]) (ws:=zgc (ns.map W.int) 0)
    (by
      show some (_,zgc (cutW (ns.map W.int) none (some 63)) 0)=_;rw[z4d hl])
    ⟨0,v3,none,none,rfl,by decide,by decide⟩
    (by
      rintro i w e hw ⟨b,v3,v4,v5,rfl,q1,q2⟩;obtain ⟨hi,rfl⟩:=zu4 hw;generalize ns[i]=n;have hm:MM=2305843009213693951:=rfl;have m1:oMult (.int 7919) (.int (i:Nat))=some (.int (7919 * (i:Nat)),false):=oMult_l (by decide) (by decide);have m2:oMult (.int b) (.int 48271)=some (.int (b * 48271),false):=zlq (by decide) (by decide);refine ⟨_,[some (.frl (ns.map W.int),false),some (.lst [.int a0,.int ((b * 48271+(n % 2305843009213693951+7919 * (i:Nat)+3)) % 2305843009213693951),.int 0],true),v2,some (.int n,false),some (.int (i:Nat),false),some (.int (n % 2305843009213693951+7919 * (i:Nat)+3),false)],rfl,.inl ?_,_,_,_,_,rfl,Int.emod_nonneg _ (by decide),Int.emod_lt_of_pos _ (by decide)⟩;refine (seq_nx (e1:=[some (.frl (ns.map W.int),false),some (.lst [.int a0,.int b,.int 0],true),v2,some (.int n,false),some (.int (i:Nat),false),some (.int (n % 2305843009213693951+7919 * (i:Nat)+3),false)]) (set_0 (op2_0 (arg_0 (op2_0 (arg_0 (op2_0 rfl rfl rfl rfl (oI_t (by decide)))) (arg_0 (op2_0 (x:=.inl (.int 7919)) rfl rfl rfl rfl m1)) rfl rfl rfl)) rfl rfl rfl rfl) rfl)).trans ?_;have ge:gOp2 (oI (fun _ j=>decide (0 < j)) fun i j=>.int (i % j)) (gArg (gOp2 oAdd (gArg (gOp2 oMult (gArg (gOp2 oIx (zaa 1) (gArg (gC (.int 1))))) (gArg (gC (.int 48271))))) (zaa 5))) (gArg (gC (.int 2305843009213693951))) [some (.frl (ns.map W.int),false),some (.lst [.int a0,.int b,.int 0],true),v2,some (.int n,false),some (.int (i:Nat),false),some (.int (n % 2305843009213693951+7919 * (i:Nat)+3),false)]=some ([some (.frl (ns.map W.int),false),some (.lst [.int a0,.int b,.int 0],true),v2,some (.int n,false),some (.int (i:Nat),false),some (.int (n % 2305843009213693951+7919 * (i:Nat)+3),false)],(.int ((b * 48271+(n % 2305843009213693951+7919 * (i:Nat)+3)) % 2305843009213693951),false)) :=
        za9 (zbo (za9 (zbo (za9 (zbo (za9 rfl rfl rfl rfl (zni rfl (zau (i:=1) rfl)))) rfl rfl rfl m2)) rfl rfl rfl rfl)) rfl rfl rfl (oI_t #v[0,9])
      exact zrw (n:=1) (j:=1) (ws:=[.int a0,.int b,.int 0]) ge rfl rfl rfl)
  nofun;obtain⟨b,w3,w4,w5,rfl,q1,q2⟩:=hp;ac_rfl;refine⟨.lst [.int a0,.int b,.int 0],zcw (en:=[some (.frl (ns.map W.int),false),none,v2,w3,w4,w5]) rfl ?_ rfl,⟨_,_,_,rfl,q0,q1,q2,by decide,by decide⟩⟩;exact (seq_nx (e1:=[some (.frl (ns.map W.int),false),#v[[.int 0,.int 0,.int 0],2],none,none,none,none]) rfl).trans ((seq_nx hfirst).trans ((seq_nx hf).trans rfl))
theorem zqk (a b x y:Nat)(hx:x < 2)(hy:y < 2):(2 * a+x) &&& (2 * b+y)=2 * (a &&& b)+x * y:=by
 have h1:((2 * a+x) &&& (2 * b+y)) / 2=a &&& b:=by
  have:=Nat.and_div_two_pow (n:=1) (a:=2 * a+x) (b:=2 * b+y);rw[Nat.pow_one] at this;rw[this];have e1:(2 * a+x) / 2=a:=by omega
  have e2:(2 * b+y) / 2=b:=by omega
  rw[e1,e2]
 have h2:((2 * a+x) &&& (2 * b+y)) % 2=x * y:=by
  have:=Nat.and_mod_two_pow (n:=1) (a:=2 * a+x) (b:=2 * b+y);rw[Nat.pow_one] at this;rw[this];have e1:(2 * a+x) % 2=x:=by omega
  have e2:(2 * b+y) % 2=y:=by omega
  rw[e1,e2];have:x=0\/x=1:=by omega
  have:y=0\/y=1:=by omega
  rcases ‹x=0\/x=1› with rfl | rfl<;>rcases ‹y=0\/y=1› with rfl | rfl<;>rfl
 omega
noncomputable def Bit (x:Int):Prop:=x=0\/x=1
theorem zn4 {a b x y:Int}(ha:0<=a)(hb:0<=b)(hx:Bit x)(hy:Bit y):Builtin.bitAnd (2 * a+x) (2 * b+y)=2 * Builtin.bitAnd a b+x * y:=by
 have x0:0<=x/\x < 2:=by rcases hx with rfl | rfl<;>decide
 have y0:0<=y/\y < 2:=by rcases hy with rfl | rfl<;>decide
 rw[bitAnd_pp #v[] #v[],bitAnd_pp ha hb];have e1:(2 * a+x).toNat=2 * a.toNat+x.toNat:=by omega
 have e2:(2 * b+y).toNat=2 * b.toNat+y.toNat:=by omega
 rw[e1,e2,zqk _ _ _ _ #v[] #v[]];rcases hx with rfl | rfl<;>rcases hy with rfl | rfl<;>simp
theorem zux (x:Int):Builtin.bitAnd 0 x=0:=by rw[bitAnd_comm,bitAnd_zero]
theorem Bits.head {x:Int}{xs:List Int}(h:Bits (x::xs)):Bit x:=h x List.mem_cons_self
theorem Bits.tail {x:Int}{xs:List Int}(h:Bits (x::xs)):Bits xs:=fun y hy=>h y (List.mem_cons_of_mem _ hy)
theorem zlb {xs:List Int}(h:Bits xs):0<=wordOf xs:=(zfx h).1
theorem zk2 (x:Int)(xs:List Int):wordOf (x::xs)=2 * wordOf xs+x:=rfl
theorem zop:∀{xs ys:List Int}{i:Nat}{w:W},(zipW (xs.map W.int) (ys.map W.int))[i]?=some w->∃a b,w=.tup [.int a,.int b]/\xs[i]?=some a/\ys[i]?=some b
  | [],_,_,_,e=>by simp [zipW] at e
  | _::_,[],_,_,e=>by simp [zipW] at e
  | a::xs,b::ys,0,w,e=>⟨a,b,(sI e).symm,rfl,rfl⟩
  | a::xs,b::ys,i+1,w,e=>by
    obtain⟨a',b',h1,h2,h3⟩:=zop (xs:=xs) (ys:=ys) (i:=i) e;exact⟨a',b',h1,h2,h3⟩
theorem cap3 (i:Nat):zal [none,none,none] i=none:=rfl
theorem cap2 (i:Nat):zal [none,none] i=none:=rfl
theorem zvi {it:GL}{te:GE}{en e0:En}{xs ys:List Int}{f:Int->Int->Int} (hi:it en=some (e0,zipW (xs.map W.int) (ys.map W.int))) (hz:xs.length<=1000)
  (ht:∀v0 a b,a∈xs->b∈ys->te [v0,#v[a,0],#v[b,0]]=some ([v0,#v[a,0],#v[b,0]],(.int (f a b),false))) :
  zaz [none,none,none] (.tp [1,2]) it gYes te en=some (e0,(.lst ((List.zipWith f xs ys).map W.int),true)):=by
 have s9:(1000:Nat)<=sizeLine:=by decide
 have lz:(zipW (xs.map W.int) (ys.map W.int)).length=(List.zipWith f xs ys).length:=by rw[zdk,List.length_map,List.length_map,List.length_zipWith]
 obtain⟨ce',out,hc,hp⟩:=zco (cap:=[none,none,none]) (T:=.tp [1,2]) (tc:=gYes) (te:=te) (fun i c dn=>(∃v0 v1 v2,c=[v0,v1,v2])/\dn=((List.zipWith f xs ys).take i).map W.int) hi rfl (by rw[lz,List.length_zipWith];omega) ⟨⟨_,_,_,rfl⟩,rfl⟩
  (by
   rintro i w c dn hw ⟨⟨v0,v1,v2,rfl⟩,rfl⟩;obtain⟨a,b,rfl,h1,h2⟩:=zop hw;refine⟨[v0,#v[a,0],#v[b,0]],rfl,.inl ⟨_,_,(.int (f a b),false),rfl,ht v0 a b (List.mem_of_getElem? h1) (List.mem_of_getElem? h2),⟨_,_,_,rfl⟩,?_⟩⟩;rw[List.take_succ,List.getElem?_zipWith,h1,h2,List.map_append]
   rfl)
 obtain⟨_,rfl⟩:=hp;rw[zfk cap3,lz,List.take_length] at hc;exact hc
theorem zuk {it:GL}{te:GE}{en e0:En}{xs:List Int}{f:Int->Int} (hi:it en=some (e0,xs.map W.int)) (hz:xs.length<=1000)
    (ht:∀v0 a,a∈xs->te [v0,#v[a,0]]=some ([v0,#v[a,0]],(.int (f a),false))) :
    zaz [none,none] (.nm 1) it gYes te en=some (e0,(.lst ((xs.map f).map W.int),true)):=by
  have s9:(1000:Nat)<=sizeLine:=by decide
  obtain ⟨ce',out,hc,hp⟩:=zco (cap:=[none,none]) (T:=.nm 1) (tc:=gYes) (te:=te) (fun i c dn=>(∃v0 v1,c=[v0,v1])/\dn=((xs.map f).take i).map W.int) hi rfl (by rw [List.length_map];omega) ⟨⟨_,_,rfl⟩,rfl⟩
    (by
      rintro i w c dn hw ⟨⟨v0,v1,rfl⟩,rfl⟩;rw[List.getElem?_map] at hw;cases e:xs[i]? with
      | none=>rw[e] at hw;exact noSome hw
      | some a =>
        rw[e] at hw;have ew:w=.int a:=(sI hw).symm;subst ew;refine⟨[v0,#v[a,0]],rfl,.inl ⟨_,_,(.int (f a),false),rfl,ht v0 a (List.mem_of_getElem? e),⟨_,_,rfl⟩,?_⟩⟩;rw[List.take_succ,List.getElem?_map,e,List.map_append]
        rfl)
  obtain⟨_,rfl⟩:=hp;rw[zfk cap2] at hc;have:((xs.map W.int).length)=(xs.map f).length:=by rw[List.length_map,List.length_map]
  rw[this,List.take_length] at hc;exact hc
theorem zzb {as:GAs}{en e1:En}{xs:List (W ⊕ Nat)}{j:Int}(h:as en=some (e1,xs))(h2:zar e1 xs=some [.int j])(h3:zdu j=true):zbb as en=some (e1,rngW 0 j.toNat):=by
 unfold zbb;rw[h];show (match zar e1 xs with | some [.int j]=>if zdu j then some (e1,rngW 0 j.toNat) else none | _=>none)=_;rw[h2];show (if zdu j then some (e1,rngW 0 j.toNat) else none)=_;rw[if_pos h3]
theorem zma (zs:List Int):oSum [.lst (zs.map W.int)]=#v[zs.sum,0]:=by
 show (zcz (zs.map W.int)).bind _=_;rw[zg5]
 rfl
noncomputable def tab (n:Nat) (f:Nat->Int):List Int:=(List.range n).map f
theorem tab_len (n:Nat)(f:Nat->Int):(tab n f).length=n:=by unfold tab;rw[List.length_map,List.length_range]
theorem tab_get {n:Nat}{f:Nat->Int}{i:Nat}(h:i < n):(tab n f)[i]?=some (f i):=by unfold tab;rw[List.getElem?_map,List.getElem?_range h];rfl
theorem z0j {n:Nat}{f g:Nat->Int}(h:∀i,i < n->f i=g i):tab n f=tab n g:=by
 unfold tab;refine List.map_congr_left fun i hi=>h i (List.mem_range.mp hi)
theorem tab_of (xs:List Int):tab xs.length (fun i=>xs.getD i 0)=xs:=by
 apply List.ext_getElem?;intro i;by_cases h:i < xs.length
 ·rw[tab_get h,List.getD_eq_getElem?_getD,List.getElem?_eq_getElem h];rfl
 ·rw[List.getElem?_eq_none (by rw[tab_len];omega),List.getElem?_eq_none #v[]]
theorem zvg {n:Nat}{f:Nat->Int}(h:∀i,i < n->Bit (f i)):Bits (tab n f):=fun x hx=>by
 obtain⟨i,hi,rfl⟩:=List.mem_map.mp hx;exact h i (List.mem_range.mp hi)
theorem zig (n:Nat)(f:Nat->Int):tab (n+1) f=tab n f++[f n]:=by unfold tab;rw[List.range_succ,List.map_append];rfl
theorem znr {n:Nat}{f:Nat->Int}{i:Nat}(h:i < n):((tab n f).map W.int)[i]?=some (.int (f i)):=by rw[List.getElem?_map,tab_get h];rfl
theorem zkm:∀(p:Nat) (xs:List Int),Bits xs->Builtin.bitAnd (wordOf xs / 2 ^ p) 1=xs.getD p 0
  | p,[],_=>by
    show Builtin.bitAnd ((0:Int) / 2 ^ p) 1=0;rw[Int.zero_ediv,zux]
  | 0,x::xs,h=>by
    have a:=zn4 (zlb h.tail) (Int.le_refl 0) h.head (show Bit 1 from .inr rfl);rw[bitAnd_zero] at a;show Builtin.bitAnd (wordOf (x::xs) / 1) 1=x;rw[Int.ediv_one,zk2];have e:(2 * 0+1:Int)=1:=rfl;rw[e] at a;rw[a];omega
  | p+1,x::xs,h=>by
    have ih:=zkm p xs h.tail;have e:wordOf (x::xs) / 2 ^ (p+1)=wordOf xs / 2 ^ p:=by
      rw[zk2,Int.pow_succ,Int.mul_comm ((2:Int) ^ p) 2,<-Int.ediv_ediv_of_nonneg #v[0,9]];congr 1;rcases h.head with q | q<;>rw[q]<;>omega
    rw[e,ih]
    rfl
noncomputable def zbe (M:List Nat):List W:=M.map fun p:Nat=>W.int p
theorem zs2 (M:List Nat):(zbe M).length=M.length:=List.length_map ..
noncomputable def zyl (Ψ:Str->Fn):GS:=(gRet (gOp2 (oI yes2 fun i j=>.int (Builtin.bitAnd i j)) (gArg (gOp2 (oI (fun _ j=>decide (0<=j)) fun i j=>.int (i / 2 ^ j.toNat)) (zaa 0) (zaa 1))) #v[1]))
theorem zeu:∀ws:List W,zba (ws.map Sum.inl)=some ws
 | []=>rfl
 | w::ws=>by show (zba (ws.map Sum.inl)).bind _=_;rw[zeu ws];rfl
theorem zgb:∀{xs:List (W ⊕ Nat)}{ws:List W},zba xs=some ws->xs=ws.map Sum.inl
  | [],_,e=>by obtain rfl:=sI e;rfl
  | .inl w::xs,_,e=>by
    obtain⟨ws,h,e⟩:=bS (show (zba xs).bind _=_ from e);obtain rfl:=sI e;rw[zgb h];rfl
  | .inr _::_,_,e=>by exact noSome e
theorem zi4 {xs:List (W ⊕ Nat)} (m:List Bool) (hm:(m.all fun b=>!b)=true) (h:xs.map isR=m):∃ws:List W,xs=ws.map Sum.inl:=by
  induction xs generalizing m with
  | nil=>exact⟨[],rfl⟩
  | cons x xs ih =>
    cases m with
    | nil=>cases h
    | cons b m =>
      rw[List.map_cons] at h;injection h with h1 h2;rw[List.all_cons,Bool.and_eq_true] at hm;obtain⟨ws,e⟩:=ih m hm.2 h2;cases x with
      | inl w=>exact⟨w::ws,by rw[e];rfl⟩
      | inr i=>rw[<-h1] at hm;cases hm.1
theorem zge:∀{m:List Bool} (hm:(m.all fun b=>!b)=true) (ws:List W),ws.length=m.length->(ws.map fun _=>false)=m
  | [],_,[],_=>rfl
  | [],_,_::_,h=>by cases h
  | _::_,_,[],h=>by cases h
  | b::m,hm,w::ws,h=>by
    rw[List.all_cons,Bool.and_eq_true] at hm;rw[List.map_cons,zge hm.2 ws (by simpa using h)];cases b with
    | false=>rfl
    | true=>cases hm.1
theorem zcf (m:List Bool) (Φ:Fn) (as:GAs) (en:En) (hm:(m.all fun b=>!b)=true):gCall m Φ as en=(as en).bind fun p=>(zba p.2).bind fun ws=>if ws.length=m.length then (Φ ws).bind fun q=>if q.1.length=m.length then some (p.1,q.2) else none else none:=by
  cases ha:as en with
  | none=>unfold gCall;rw[ha];rfl
  | some p =>
    obtain⟨e1,xs⟩:=p;show _=(zba xs).bind _;cases hf:zba xs with
    | none =>
      unfold gCall;rw[ha];show (if (decide (xs.map isR=m) && _ && _)=true then _ else none)=none;rw[decide_eq_false (fun z=>by obtain⟨ws,e⟩:=zi4 m hm z;rw[e,zeu] at hf;cases hf)]
      rfl
    | some ws =>
      have ex:=zgb hf;subst ex;show _=if ws.length=m.length then _ else none;by_cases hl:ws.length=m.length
      · rw [if_pos hl]
        have h1:=zge hm ws hl;cases hq:Φ ws with
        | none =>
          unfold gCall;rw[ha];show (if (decide ((ws.map Sum.inl).map isR=m) && zao e1 (ws.map Sum.inl) && zbl (zax (ws.map Sum.inl)))=true then _ else _)=_;have e:(ws.map Sum.inl).map isR=m:=by rw[<-h1,List.map_map];rfl
          rw[decide_eq_true e,zd5,zfv];show (zar e1 (ws.map Sum.inl)).bind _=_;rw[zbn];show (Φ ws).bind _=_;rw[hq]
          rfl
        | some q =>
          obtain⟨ws',r⟩:=q;show _=if ws'.length=m.length then some (e1,r) else none;by_cases hl2:ws'.length=m.length
          · rw [if_pos hl2]
            exact zsg ha h1 hq #v[]
          · rw [if_neg hl2]
            unfold gCall;rw[ha];show (if (decide ((ws.map Sum.inl).map isR=m) && zao e1 (ws.map Sum.inl) && zbl (zax (ws.map Sum.inl)))=true then _ else _)=_;have e:(ws.map Sum.inl).map isR=m:=by rw[<-h1,List.map_map];rfl
            rw[decide_eq_true e,zd5,zfv];show (zar e1 (ws.map Sum.inl)).bind _=_;rw[zbn];show (Φ ws).bind _=_;rw[hq];show (if ws'.length=m.length then _ else none)=none;rw[if_neg hl2]
      · rw [if_neg hl]
        unfold gCall;rw[ha];show (if (decide ((ws.map Sum.inl).map isR=m) && _ && _)=true then _ else none)=none;rw[decide_eq_false (fun z=>hl (by rw[<-z,List.length_map,List.length_map]))]
        rfl
theorem zdi (m:List Bool) (Φ:Fn) (as:GAs) (en:En) (hm:(m.all fun b=>!b)=true):gCall (true::m) Φ as en=(as en).bind fun p=>match p.2 with
    | .inr i::xs=>(zba xs).bind fun ws=>(match p.1[i]? with
      | some (some (st,true))=>if ws.length=m.length then (Φ (st::ws)).bind fun q=>(match q.1 with
        | st' :: wz=>if wz.length=m.length then some (p.1.set i (#v[st',5]),q.2) else none
        | []=>none) else none
      | _=>none)
    | _=>none:=by
  cases ha:as en with
  | none=>unfold gCall;rw[ha];rfl
  | some p =>
    obtain ⟨e1,xs⟩:=p;have base:gCall (true::m) Φ as en=if decide (xs.map isR=true::m) && zao e1 xs && zbl (zax xs) then (zar e1 xs).bind fun ws=>(Φ ws).bind fun q=>if q.1.length=(true::m).length then some (zan (zax xs) e1 (zay (true::m) q.1),q.2) else none else none:=by
      unfold gCall;rw[ha];rfl
    have bad:xs.map isR≠true::m->gCall (true::m) Φ as en=none:=fun z=>by rw[base,decide_eq_false z];rfl
    have bad2:zao e1 xs=false->gCall (true::m) Φ as en=none:=fun z=>by rw[base,z,Bool.and_false];rfl
    simp only [Option.bind_some]
    match xs,ha,base,bad,bad2 with
    | [],ha,_,bad,_=>rw[bad (by simp)]
    | .inl w::xs,ha,_,bad,_=>rw[bad (by simp [isR])]
    | .inr i::xs,ha,base,bad,bad2 =>
      simp only;cases hf:zba xs with
      | none=>rw [bad (fun z=>by
          rw[List.map_cons] at z;injection z with _ z;obtain⟨ws,e⟩:=zi4 m hm z;rw[e,zeu] at hf;cases hf)];rfl
      | some ws =>
        have ex:=zgb hf;subst ex;simp only [Option.bind_some];have no:(∀st,e1[i]?≠some (some (st,true)))->zao e1 (.inr i::ws.map Sum.inl)=false:=fun z=>by
          unfold zao;rw [List.all_cons];have:(match e1[i]? with | some (some (_,true))=>true | _=>false)=false:=by
            split
            · rename_i q;exact absurd q (z _)
            · rfl
          simp only [this,Bool.false_and]
        split
        · rename_i st hst
          by_cases hl:ws.length=m.length
          · rw [if_pos hl]
            have h1:=zge hm ws hl;cases hq:Φ (st::ws) with
            | none =>
              rw[base];split
              · have rs:zar e1 (.inr i::ws.map Sum.inl)=some (st::ws):=by
                  show (resA e1 (.inr i)).bind _=_;have:resA e1 (.inr i)=some st:=by unfold resA;simp only [hst]
                  rw[this];show (zar e1 (ws.map Sum.inl)).bind _=_;rw[zbn]
                  rfl
                rw[rs];show (Φ (st::ws)).bind _=_;rw[hq]
                rfl
              · rfl
            | some q =>
              obtain ⟨ws',r⟩:=q;simp only [Option.bind_some];have nn:ws'.length≠(true::m).length->gCall (true::m) Φ as en=none:=fun z=>by
                rw[base];split
                · have rs:zar e1 (.inr i::ws.map Sum.inl)=some (st::ws):=by
                    show (resA e1 (.inr i)).bind _=_;have:resA e1 (.inr i)=some st:=by unfold resA;simp only [hst]
                    rw[this];show (zar e1 (ws.map Sum.inl)).bind _=_;rw[zbn]
                    rfl
                  rw[rs];show (Φ (st::ws)).bind _=_;rw[hq];show (if ws'.length=(true::m).length then _ else none)=none;rw[if_neg z]
                · rfl
              match ws',hq,nn with
              | [],hq,nn=>rw[nn (by simp)]
              | st' :: wz,hq,nn =>
                simp only;by_cases hl2:wz.length=m.length
                · rw [if_pos hl2]
                  exact zn8 ha (by rw[h1]) hst hq #v[]
                · rw[if_neg hl2,nn (by simpa using hl2)]
          · rw [if_neg hl,bad (fun z=>hl (by
              have:=congrArg List.length z;simpa using this))]
        · rename_i hst
          exact bad2 (no fun st z=>hst st z)
theorem oI_e {c:Int->Int->Bool}{g:Int->Int->W}{i j:Int}:oI c g (.int i) (.int j)=if c i j then #v[g i j,6] else none:=rfl
theorem z3c {i j:Int}:yes2 i j=true:=rfl
theorem zvr {ws:List W}:seqW (.tup ws)=some ws:=rfl
theorem zwe {ws:List W}:seqW (.lst ws)=some ws:=rfl
theorem zv5 {ws:List W}:seqL (.lst ws)=some ws:=rfl
theorem z57 {a:W}{i:Int}:oIx a (.int i)=(seqW a).bind fun ws=>(atI ws i).bind fun w=>#v[w,6]:=by cases a<;>rfl
theorem z28 {en:En}{w:W}:resA en (.inl w)=some w:=rfl
theorem z4g {en:En}{i:Nat}:resA en (.inr i)=match en[i]? with | some (some (w,_))=>some w | _=>none:=by
 unfold resA;rfl
theorem z7f {i j:Int}:oEq (.int i) (.int j)=some (.bl (decide (i=j)),false):=rfl
theorem z7e {i j:Int}:oNe (.int i) (.int j)=some (.bl (!decide (i=j)),false):=rfl
theorem zwa {w:W}{xs:List (W ⊕ Nat)}:zba (.inl w::xs)=(zba xs).bind fun ws=>some (w::ws):=rfl
theorem zuv:zba []=some []:=rfl
theorem z04 {en:En}{x:W ⊕ Nat}{xs:List (W ⊕ Nat)}:zar en (x::xs)=(resA en x).bind fun w=>(zar en xs).bind fun ws=>some (w::ws):=rfl
theorem zz2 {en:En}:zar en []=some []:=rfl
theorem z1g {b:Bool}{m:List Bool}{w:W}{ws:List W}:zay (b::m) (w::ws)=some (w,b)::zay m ws:=rfl
theorem z1i {ws:List W}:zay [] ws=[]:=by unfold zay;simp
theorem z20 {en:En}:zb6 [] [] en=some []:=rfl
theorem z34 {m:List Bool}{w u:W}{ws:List W}{en:En}:zb6 (true::m) (u::ws) (#v[w,5]::en)=(zb6 m ws en).bind fun r=>some (w::r):=rfl
theorem z49 {m:List Bool}{w:W}{ws:List W}{x:Option (W × Bool)}{en:En}:zb6 (false::m) (w::ws) (x::en)=(zb6 m ws en).bind fun r=>some (w::r):=rfl
theorem z64 {x:W}{xs:List W}:atI (x::xs) 0=some x:=by
 have:=zau (xs:=x::xs) (i:=0) rfl;exact this
theorem z66 {x y:W}{xs:List W}:atI (x::y::xs) 1=some y:=by
 have:=zau (xs:=x::y::xs) (i:=1) rfl;exact this
theorem z7p {x y z:W}{xs:List W}:atI (x::y::z::xs) 2=some z:=by
 have:=zau (xs:=x::y::z::xs) (i:=2) rfl;exact this
theorem zuz {n:Nat}:((no_index (OfNat.ofNat n):Nat):Int)=(OfNat.ofNat n:Int):=rfl
theorem zv8 {xs ys:List W}:oAdd (.lst xs) (.lst ys)=if xs.length+ys.length<=sizeLine then #v[(xs++ys),2] else none:=by
 by_cases h:xs.length+ys.length<=sizeLine
 ·rw[if_pos h];exact zzp h
 ·rw [if_neg h];show oOr oCat (oOr zu3 (oOr z1x zu9)) (.lst xs) (.lst ys)=none;have e:oCat (.lst xs) (.lst ys)=none:=by
   show (if xs.length+ys.length<=sizeLine then _ else none)=none;rw[if_neg h]
  unfold oOr;rw[e]
  rfl
theorem zl3:oIsi .int .non=some (.bl false,false):=rfl
theorem zpt {b:Bool}:oIsi .int (.bl b)=some (.bl true,false):=rfl
theorem zlv {n:Int}:oIsi .int (.int n)=some (.bl true,false):=rfl
theorem zl0 {x:Str}:oIsi .int (.str x)=some (.bl false,false):=rfl
theorem zl1 {xs:List W}:oIsi .int (.tup xs)=some (.bl false,false):=rfl
theorem zmn {xs:List W}:oIsi .int (.lst xs)=some (.bl false,false):=rfl
theorem zmj:oIsi .int .dic=some (.bl false,false):=rfl
theorem zkc:oIsi .bool .non=some (.bl false,false):=rfl
theorem zlw {b:Bool}:oIsi .bool (.bl b)=some (.bl true,false):=rfl
theorem zjq {n:Int}:oIsi .bool (.int n)=some (.bl false,false):=rfl
theorem zkh {x:Str}:oIsi .bool (.str x)=some (.bl false,false):=rfl
theorem zi1 {xs:List W}:oIsi .bool (.tup xs)=some (.bl false,false):=rfl
theorem zjr {xs:List W}:oIsi .bool (.lst xs)=some (.bl false,false):=rfl
theorem zkq:oIsi .bool .dic=some (.bl false,false):=rfl
theorem zl4:oIsi .str .non=some (.bl false,false):=rfl
theorem zpf {b:Bool}:oIsi .str (.bl b)=some (.bl false,false):=rfl
theorem zlo {n:Int}:oIsi .str (.int n)=some (.bl false,false):=rfl
theorem zmx {x:Str}:oIsi .str (.str x)=some (.bl true,false):=rfl
theorem zlc {xs:List W}:oIsi .str (.tup xs)=some (.bl false,false):=rfl
theorem zmu {xs:List W}:oIsi .str (.lst xs)=some (.bl false,false):=rfl
theorem zlp:oIsi .str .dic=some (.bl false,false):=rfl
theorem zh0:oIsi .tuple .non=some (.bl false,false):=rfl
theorem zjw {b:Bool}:oIsi .tuple (.bl b)=some (.bl false,false):=rfl
theorem zin {n:Int}:oIsi .tuple (.int n)=some (.bl false,false):=rfl
theorem zhf {x:Str}:oIsi .tuple (.str x)=some (.bl false,false):=rfl
theorem zim {xs:List W}:oIsi .tuple (.tup xs)=some (.bl true,false):=rfl
theorem zhi {xs:List W}:oIsi .tuple (.lst xs)=some (.bl false,false):=rfl
theorem zik:oIsi .tuple .dic=some (.bl false,false):=rfl
theorem zi7:oIsi .list .non=some (.bl false,false):=rfl
theorem zlh {b:Bool}:oIsi .list (.bl b)=some (.bl false,false):=rfl
theorem zkv {n:Int}:oIsi .list (.int n)=some (.bl false,false):=rfl
theorem ziw {x:Str}:oIsi .list (.str x)=some (.bl false,false):=rfl
theorem zjf {xs:List W}:oIsi .list (.tup xs)=some (.bl false,false):=rfl
theorem zje {xs:List W}:oIsi .list (.lst xs)=some (.bl true,false):=rfl
theorem zj0:oIsi .list .dic=some (.bl false,false):=rfl
theorem z6g {i j:Bool}:oEq (.bl i) (.bl j)=some (.bl (decide (i=j)),false):=rfl
theorem z7j {i j:Bool}:oNe (.bl i) (.bl j)=some (.bl (!decide (i=j)),false):=rfl
theorem z6i {i j:Str}:oEq (.str i) (.str j)=some (.bl (decide (i=j)),false):=rfl
theorem z58 {i j:Str}:oNe (.str i) (.str j)=some (.bl (!decide (i=j)),false):=rfl
theorem z6h {i j:Bool}:oIs (.bl i) (.bl j)=some (.bl (decide (i=j)),false):=rfl
theorem z2x {f:List Bool->Bool}{bs:List Bool}:oBl f [.lst (bs.map W.bl)]=some (.bl (f bs),false):=by
 show (zl7 (bs.map W.bl)).bind _=_;rw[zki];rfl
theorem znl {cap:Cap}{it:GL}{te:GE}{en e0:En}{ws rs:List W}{xs:En} (hi:it en=some (e0,ws)) (hz:ws.length<=1000) (hl:rs.length=ws.length) (hn:zbl cap=true) (hk:(capKeep cap).contains 1=false) (hx:zee cap e0=none::none::xs) (hb:∀v0 v1,zan cap e0 (v0::v1::xs)=e0)
  (ht:∀(i:Nat) v0 w r,ws[i]?=some w->rs[i]?=some r->∃u f,te (v0::#v[w,6]::xs)=some (v0::u::xs,(r,f))) :
  zaz cap (.nm 1) it gYes te en=some (e0,(.lst rs,true)):=by
 have s9:(1000:Nat)<=sizeLine:=by decide
 obtain⟨ce',out,hc,hp⟩:=zco (cap:=cap) (T:=.nm 1) (tc:=gYes) (te:=te) (fun i c dn=>(∃v0 v1,c=v0::v1::xs)/\dn=rs.take i) hi hn #v[] ⟨⟨_,_,hx⟩,rfl⟩
  (fun i w c dn hw hp=>by
   obtain⟨⟨v0,v1,rfl⟩,rfl⟩:=hp;have lt:i < ws.length:=(List.getElem?_eq_some_iff.mp hw).1;have hr:rs[i]?=some rs[i]:=List.getElem?_eq_getElem #v[];obtain⟨u,f,h⟩:=ht i v0 w _ hw hr;refine⟨v0::#v[w,6]::xs,?_,.inl ⟨_,_,_,rfl,h,⟨_,_,rfl⟩,?_⟩⟩
   ·show (if (capKeep cap).contains 1 || !decide (1 < (v0 :: v1 :: xs).length) then none else _) = _;rw[hk,decide_eq_true (by rw[List.length_cons,List.length_cons];omega)]
    rfl
   ·show rs.take i ++ [rs[i]] = rs.take (i + 1);rw[List.take_succ,hr];rfl)
 obtain⟨⟨v0,v1,rfl⟩,rfl⟩:=hp;rw[hb,<-hl,List.take_length] at hc;exact hc
theorem zcq {T:List Fd}{bn:List Str}{d:Nat}{x:Str}{t:Fd}{g:GS}(h:T.find? (·.nm == x)=some t)(hb:zat T bn (sem T bn (d+2)) (d+2) t=some g):sem T bn (d+3) x=zah t.m t.N.length g:=by
 show (match T.find? (·.nm == x) with | some t=>fnAt T bn (sem T bn (d+2)) (d+2) t | none=>fun _=>none)=_;rw[h];show fnAt T bn (sem T bn (d+2)) (d+2) t=_;unfold fnAt;rw[hb]
noncomputable def evA:=And.intro @oI_e ( And.intro @z3c ( And.intro @zs6 ( And.intro @zv8 ( And.intro @zvr ( And.intro @zwe ( And.intro @zv5 ( And.intro @z57 ( And.intro @z28 ( And.intro @z4g ( And.intro @z7f ( And.intro @z7e ( And.intro @z6g ( And.intro @z7j ( And.intro @z6i ( And.intro @z58 ( And.intro @z6h ( And.intro @z2x ( And.intro @zwa ( And.intro @zuv ( And.intro @z04 ( And.intro @zz2 ( And.intro @z1g ( And.intro @z1i ( And.intro @z20 ( And.intro @z34 ( And.intro @z49 ( And.intro (fun Φ as en=>zcf [false] Φ as en rfl) ( And.intro (fun Φ as en=>zcf [false,false] Φ as en rfl) ( And.intro (fun Φ as en=>zcf [false,false,false] Φ as en rfl) ( And.intro (fun Φ as en=>zcf [false,false,false,false] Φ as en rfl) ( And.intro (fun Φ as en=>zdi [] Φ as en rfl) ( And.intro (fun Φ as en=>zdi [false] Φ as en rfl) ( And.intro (fun Φ as en=>zdi [false,false] Φ as en rfl) ( And.intro (fun Φ as en=>zdi [false,false,false] Φ as en rfl) ( And.intro @z64 ( And.intro @z66 ( And.intro @z7p ( And.intro @sizeLine_eq ( And.intro @zl3 ( And.intro @zpt ( And.intro @zlv ( And.intro @zl0 ( And.intro @zl1 ( And.intro @zmn ( And.intro @zmj ( And.intro @zkc ( And.intro @zlw ( And.intro @zjq ( And.intro @zkh ( And.intro @zi1 ( And.intro @zjr ( And.intro @zkq ( And.intro @zl4 ( And.intro @zpf ( And.intro @zlo ( And.intro @zmx ( And.intro @zlc ( And.intro @zmu ( And.intro @zlp ( And.intro @zh0 ( And.intro @zjw ( And.intro @zin ( And.intro @zhf ( And.intro @zim ( And.intro @zhi ( And.intro @zik ( And.intro @zi7 ( And.intro @zlh ( And.intro @zkv ( And.intro @ziw ( And.intro @zjf ( And.intro @zje ( And.intro @zj0 ( And.intro @zuz ( And.intro @Option.bind_some.{0,0} ( And.intro @Option.bind_none.{0,0} ( And.intro @List.length_cons.{0} ( And.intro @List.length_nil.{0} ( And.intro @List.getElem?_cons_zero.{0} ( And.intro @List.getElem?_cons_succ.{0} ( And.intro @List.set_cons_zero.{0} ( And.intro @List.set_cons_succ.{0} ( And.intro @List.nil_append.{0} ( And.intro @List.cons_append.{0} ( And.intro @List.contains_nil.{0} ( And.intro @Bool.false_or ( And.intro @Bool.or_false ( And.intro @Bool.not_true ( And.intro @Bool.not_false ( And.intro @Nat.zero_add ( And.intro @Nat.lt_add_one ( And.intro @Nat.zero_lt_succ ( And.intro @decide_true ( And.intro @decide_false ( And.intro @decide_eq_true_eq ( And.intro @List.elem_nil.{0} ( And.intro @List.elem_cons.{0} ( And.intro @Bool.false_eq_true ( And.intro @Bool.true_eq_false ( And.intro @Bool.or_self ( And.intro @Bool.and_self ( And.intro @Bool.true_and ( And.intro @Bool.false_and ( And.intro @Bool.and_true ( And.intro @Bool.and_false ( And.intro @Bool.true_or ( And.intro @Bool.or_true ( And.intro @Int.toNat_natCast ( And.intro @gVar.eq_1 ( And.intro @zaa.eq_1 ( And.intro @gC.eq_1 ( And.intro @gArg.eq_1 ( And.intro @gA0.eq_1 ( And.intro @gCns.eq_1 ( And.intro @gOp1.eq_1 ( And.intro @gOp2.eq_1 ( And.intro @gOpN.eq_1 ( And.intro @zak.eq_1 ( And.intro @gAnd.eq_1 ( And.intro @gOr.eq_1 ( And.intro @gNot.eq_1 ( And.intro @zgt.eq_1 ( And.intro @gOrT.eq_1 ( And.intro @zml.eq_1 ( And.intro @gIf.eq_1 ( And.intro @zgg.eq_1 ( And.intro @zas.eq_1 ( And.intro @z37.eq_1 ( And.intro @zb4.eq_1 ( And.intro @zfi.eq_1 ( And.intro @gSl.eq_1 ( And.intro @zb5.eq_1 ( And.intro @zbb.eq_1 ( And.intro @z65.eq_1 ( And.intro @gRev.eq_1 ( And.intro @zcy.eq_1 ( And.intro @gBrk.eq_1 ( And.intro @gCnt.eq_1 ( And.intro @gSeq.eq_1 ( And.intro @gRet.eq_1 ( And.intro @z6w.eq_1 ( And.intro @gIfS.eq_1 ( And.intro @zc4.eq_1 ( And.intro @gSet.eq_1 ( And.intro @gAsg.eq_1 ( And.intro @gPar.eq_1 ( And.intro @zap.eq_1 ( And.intro @gApp.eq_1 ( And.intro @gExt.eq_1 ( And.intro @gAug.eq_1 ( And.intro @gYes.eq_1 ( And.intro @zcr.eq_1 ( And.intro @gZip.eq_1 ( And.intro @zm7.eq_1 ( And.intro @zah.eq_1 ( And.intro @z7a.eq_1 (@z6p.eq_1)))))))))))))))))))))))))))))))))))))))))))))))))))))))))))))))))))))))))))))))))))))))))))))))))))))))))))))))))))))))))))))))))))))))))))))))))))))))))))))
end L2
local macro_rules | `(tactic| simp! [$xs,*])=>`(tactic| simp only [L2.evA,L2.tgSet,L2.keyW,L2.oNeg,L2.oLen,L2.setAll,List.replicate,List.contains,eq_self,Nat.reduceAdd,Nat.reduceSub,Nat.reduceLT,Nat.reduceLeDiff,reduceIte,reduceCtorEq,Nat.reduceEqDiff,Nat.reduceBEq,↓reduceIte,Int.reduceEq,Int.reduceLE,Int.reduceLT,Int.reduceAdd,Int.reduceSub,Int.reduceMul,Int.reduceNeg,$xs,*])
namespace L2
open PySem PySem.Spec PyProof.Rows
noncomputable def zqh (Ψ:Str->Fn):GE:=zaz [none,none,some 3] (.nm 1) (zb5 (gVar 2)) gYes (gOp2 oAdd (zaa 1) (gArg (zgg (gCns #v[2,4] gA0))))
noncomputable def zp1 (Ψ:Str->Fn):GS:=(gSet [] 2 (gOp2 oAdd (zaa 2) (gArg (zqh Ψ))))
noncomputable def zq5 (Ψ:Str->Fn):GS:=gFor [] (.nm 3) (zbb (gCns (zaa 0) gA0)) (zp1 Ψ)
noncomputable def zrc (Ψ:Str->Fn):GE:=zaz [none,none,some 1] (.nm 1) (zb5 (gVar 2)) (zak (gOp2 (oI yes2 fun i j=>.bl (decide (i<=j))) (gArg (gOpN oLen (gCns (zaa 1) gA0))) (zaa 2))) (gVar 1)
noncomputable def znd (Ψ:Str->Fn):GS:=(gSeq (gSet [] 2 (zas (gCns (gArg (zgg gA0)) gA0))) (gSeq (zq5 Ψ) (gRet (zoe (zgg (gCns (gArg (gOpN oLen (gCns (zaa 0) gA0))) (gCns #v[0,4] gA0))) (gArg (zrc Ψ))))))
noncomputable def zeq (Ψ:Str->Fn):GE:=zaz [none,none,some 2] (.nm 1) (zb5 (gVar 1)) gYes (gOp2 oEq (gArg (gOp2 #v[0,0,2] (gArg (gOp2 #v[0,0,3] (zaa 2) (gArg (gOp2 #v[0,0,1] #v[1] (zaa 1))))) #v[2])) #v[1])
noncomputable def zep (Ψ:Str->Fn):GE:=zaz [none,none,some 3] (.nm 1) (zb5 (gVar 1)) (zak (gOpN (oBl fun bs=>bs.all id) (gCns (gArg (zeq Ψ)) gA0))) (gVar 1)
noncomputable def zdq (Ψ:Str->Fn):GS:=(gSeq (gSet [] 4 (zep Ψ)) (zc4 (gApp 2 (gOp2 #v[0,0,2] (gArg (gOpN oLen (gCns (zaa 4) gA0))) #v[2]))))
noncomputable def zev (Ψ:Str->Fn):GS:=gFor [] (.nm 3) (zbb (gCns (gArg (gOp2 #v[0,0,1] #v[1] (zaa 0))) gA0)) (zdq Ψ)
noncomputable def zkl (Ψ:Str->Fn):GS:=(gSeq (gSet [] 2 (zas gA0)) (gSeq (zev Ψ) (zcr [] 2)))
noncomputable def zhb (Ψ:Str->Fn):GE:=zaz [none,none,none] (.tp [1,2]) (gZip (gVar 3) (gCall [true,false] (Ψ "_law_bits") (gCns (zaa 0) (gCns (gArg (gOpN oLen (gCns (zaa 3) gA0))) gA0)))) (zak (gOp2 oEq (zaa 2) #v[1])) (gVar 1)
noncomputable def zt7 (Ψ:Str->Fn):GS:=(gSeq (gSet [0] 3 (gCall [false,false] (Ψ "_law_terms") (gCns #v[1,4] (gCns #v[2,4] gA0)))) (gRet (gOpN zbw (gCns (gArg (zhb Ψ)) gA0))))
noncomputable def zef (Ψ:Str->Fn):GS:=(gSeq (gSet [0] 4 (gCall [true,false] (Ψ "_law_take") (gCns (zaa 0) (gCns (gArg (gOp2 #v[0,0,1] #v[1] (zaa 1))) gA0)))) (zap 2 (gVar 4) (gOp2 #v[0,0,0] #v[1] (gArg (gOp2 oIx (zaa 2) (zaa 4))))))
noncomputable def zfs (Ψ:Str->Fn):GS:=gFor [0] (.nm 3) (zbb (gCns (gArg (gCall [true,false] (Ψ "_law_take") (gCns (zaa 0) (gCns #v[4] gA0)))) gA0)) (zef Ψ)
noncomputable def zid (Ψ:Str->Fn):GS:=(gSeq (gIfS (zak (gOp2 oEq (gArg (gCall [true,false] (Ψ "_law_take") (gCns (zaa 0) (gCns #v[2] gA0)))) #v[0])) (gRet (gCall [true,false] (Ψ "_law_bits") (gCns (zaa 0) (gCns (gArg (gOp2 #v[0,0,1] #v[1] (zaa 1))) gA0)))) zcy) (gSeq (gSet [0] 2 (gCall [false,false] (Ψ "_law_values") (gCns #v[1,4] (gCns (gArg (gCall [true,false,false] (Ψ "_law_poly") (gCns (zaa 0) (gCns #v[1,4] (gCns (gArg (gCall [true,false] (Ψ "_law_take") (gCns (zaa 0) (gCns (gArg (gOp2 oAdd (zaa 1) #v[1])) gA0)))) gA0))))) gA0)))) (gSeq (zfs Ψ) (zcr [0] 2))))
noncomputable def tmW (t:List Nat):W:=.tup (t.map fun l=>.int (l:Nat))
noncomputable def zre:Nat->Nat->Nat->Nat->List (List Nat)
 | _,_,_,0=>[[]]
 | 0,_,_,_+1=>[]
 | fu+1,lo,m,k+1=>(if lo < m then (zre fu (lo+1) m k).map (lo :: ·)++zre fu (lo+1) m (k+1) else [])
noncomputable def za1 (m most:Nat):List (List Nat):=(List.range (most+1)).flatMap fun k=>zre (m+1) 0 m k
noncomputable def zt3 (Φ:Fn):Prop:=∀m most:Nat,m<=6->most<=6->Φ [.int m,.int most]=some ([.int m,.int most],(.lst ((za1 m most).map tmW),true))
noncomputable def tmP (Ψ:Str->Fn) (m k:Nat):Prop:=zah [false,false] 4 (znd Ψ) [.int (m:Int),.int (k:Int)]=some ([.int (m:Int),.int (k:Int)],(.lst ((za1 m k).map tmW),true))
theorem tm0 (Ψ:Str->Fn):tmP Ψ 0 0/\tmP Ψ 0 1/\tmP Ψ 0 2/\tmP Ψ 0 3/\tmP Ψ 0 4/\tmP Ψ 0 5/\tmP Ψ 0 6:=by
 unfold tmP;refine⟨?_,?_,?_,?_,?_,?_,?_⟩<;>kernel_rfl
theorem tm1 (Ψ:Str->Fn):tmP Ψ 1 0/\tmP Ψ 1 1/\tmP Ψ 1 2/\tmP Ψ 1 3/\tmP Ψ 1 4/\tmP Ψ 1 5/\tmP Ψ 1 6:=by
 unfold tmP;refine⟨?_,?_,?_,?_,?_,?_,?_⟩<;>kernel_rfl
theorem tm2 (Ψ:Str->Fn):tmP Ψ 2 0/\tmP Ψ 2 1/\tmP Ψ 2 2/\tmP Ψ 2 3/\tmP Ψ 2 4/\tmP Ψ 2 5/\tmP Ψ 2 6:=by
 unfold tmP;refine⟨?_,?_,?_,?_,?_,?_,?_⟩<;>kernel_rfl
theorem tm3 (Ψ:Str->Fn):tmP Ψ 3 0/\tmP Ψ 3 1/\tmP Ψ 3 2/\tmP Ψ 3 3/\tmP Ψ 3 4/\tmP Ψ 3 5/\tmP Ψ 3 6:=by
 unfold tmP;refine⟨?_,?_,?_,?_,?_,?_,?_⟩<;>kernel_rfl
theorem tm4 (Ψ:Str->Fn):tmP Ψ 4 0/\tmP Ψ 4 1/\tmP Ψ 4 2/\tmP Ψ 4 3/\tmP Ψ 4 4/\tmP Ψ 4 5/\tmP Ψ 4 6:=by
 unfold tmP;refine⟨?_,?_,?_,?_,?_,?_,?_⟩<;>kernel_rfl
theorem tm5 (Ψ:Str->Fn):tmP Ψ 5 0/\tmP Ψ 5 1/\tmP Ψ 5 2/\tmP Ψ 5 3/\tmP Ψ 5 4/\tmP Ψ 5 5/\tmP Ψ 5 6:=by
 unfold tmP;refine⟨?_,?_,?_,?_,?_,?_,?_⟩<;>kernel_rfl
theorem tm6 (Ψ:Str->Fn):tmP Ψ 6 0/\tmP Ψ 6 1/\tmP Ψ 6 2/\tmP Ψ 6 3/\tmP Ψ 6 4/\tmP Ψ 6 5/\tmP Ψ 6 6:=by
 unfold tmP;refine⟨?_,?_,?_,?_,?_,?_,?_⟩<;>kernel_rfl
theorem zu6 (Ψ:Str->Fn):zt3 (zah [false,false] 4 (znd Ψ)):=fun m k hm hk=>by
 match m,k,hm,hk with
 | 0,0,_,_=>exact (tm0 Ψ).1
 | 0,1,_,_=>exact (tm0 Ψ).2.1
 | 0,2,_,_=>exact (tm0 Ψ).2.2.1
 | 0,3,_,_=>exact (tm0 Ψ).2.2.2.1
 | 0,4,_,_=>exact (tm0 Ψ).2.2.2.2.1
 | 0,5,_,_=>exact (tm0 Ψ).2.2.2.2.2.1
 | 0,6,_,_=>exact (tm0 Ψ).2.2.2.2.2.2
 | 1,0,_,_=>exact (tm1 Ψ).1
 | 1,1,_,_=>exact (tm1 Ψ).2.1
 | 1,2,_,_=>exact (tm1 Ψ).2.2.1
 | 1,3,_,_=>exact (tm1 Ψ).2.2.2.1
 | 1,4,_,_=>exact (tm1 Ψ).2.2.2.2.1
 | 1,5,_,_=>exact (tm1 Ψ).2.2.2.2.2.1
 | 1,6,_,_=>exact (tm1 Ψ).2.2.2.2.2.2
 | 2,0,_,_=>exact (tm2 Ψ).1
 | 2,1,_,_=>exact (tm2 Ψ).2.1
 | 2,2,_,_=>exact (tm2 Ψ).2.2.1
 | 2,3,_,_=>exact (tm2 Ψ).2.2.2.1
 | 2,4,_,_=>exact (tm2 Ψ).2.2.2.2.1
 | 2,5,_,_=>exact (tm2 Ψ).2.2.2.2.2.1
 | 2,6,_,_=>exact (tm2 Ψ).2.2.2.2.2.2
 | 3,0,_,_=>exact (tm3 Ψ).1
 | 3,1,_,_=>exact (tm3 Ψ).2.1
 | 3,2,_,_=>exact (tm3 Ψ).2.2.1
 | 3,3,_,_=>exact (tm3 Ψ).2.2.2.1
 | 3,4,_,_=>exact (tm3 Ψ).2.2.2.2.1
 | 3,5,_,_=>exact (tm3 Ψ).2.2.2.2.2.1
 | 3,6,_,_=>exact (tm3 Ψ).2.2.2.2.2.2
 | 4,0,_,_=>exact (tm4 Ψ).1
 | 4,1,_,_=>exact (tm4 Ψ).2.1
 | 4,2,_,_=>exact (tm4 Ψ).2.2.1
 | 4,3,_,_=>exact (tm4 Ψ).2.2.2.1
 | 4,4,_,_=>exact (tm4 Ψ).2.2.2.2.1
 | 4,5,_,_=>exact (tm4 Ψ).2.2.2.2.2.1
 | 4,6,_,_=>exact (tm4 Ψ).2.2.2.2.2.2
 | 5,0,_,_=>exact (tm5 Ψ).1
 | 5,1,_,_=>exact (tm5 Ψ).2.1
 | 5,2,_,_=>exact (tm5 Ψ).2.2.1
 | 5,3,_,_=>exact (tm5 Ψ).2.2.2.1
 | 5,4,_,_=>exact (tm5 Ψ).2.2.2.2.1
 | 5,5,_,_=>exact (tm5 Ψ).2.2.2.2.2.1
 | 5,6,_,_=>exact (tm5 Ψ).2.2.2.2.2.2
 | 6,0,_,_=>exact (tm6 Ψ).1
 | 6,1,_,_=>exact (tm6 Ψ).2.1
 | 6,2,_,_=>exact (tm6 Ψ).2.2.1
 | 6,3,_,_=>exact (tm6 Ψ).2.2.2.1
 | 6,4,_,_=>exact (tm6 Ψ).2.2.2.2.1
 | 6,5,_,_=>exact (tm6 Ψ).2.2.2.2.2.1
 | 6,6,_,_=>exact (tm6 Ψ).2.2.2.2.2.2
 | m+7,_,h,_=>omega
 | _,k+7,_,h=>omega
theorem zyu {α:Type}{cap:Cap}{it:GL}{tc:GT}{te:GE}{en e0:En}{ts:List α}{xs:En} (f:α->W) (p:α->Bool) (g:α->W) (hi:it en=some (e0,ts.map f)) (hz:ts.length<=1000) (hn:zbl cap=true) (hk:(capKeep cap).contains 1=false) (hx:zee cap e0=none::none::xs) (hb:∀v0 v1,zan cap e0 (v0::v1::xs)=e0)
    (ht:∀v0 a,a∈ts->∃u,tc (v0::#v[f a,6]::xs)=some (v0::u::xs,p a)/\(p a=true->∃u' b,te (v0::u::xs)=some (v0::u' :: xs,(g a,b)))) :
    zaz cap (.nm 1) it tc te en=some (e0,(.lst ((ts.filter p).map g),true)):=by
  have s9:(1000:Nat)<=sizeLine:=by decide
  obtain ⟨ce',out,hc,hp⟩:=zco (cap:=cap) (T:=.nm 1) (tc:=tc) (te:=te) (fun i c dn=>(∃v0 v1,c=v0::v1::xs)/\dn=((ts.take i).filter p).map g) hi hn (by rw [List.length_map];omega) ⟨⟨_,_,hx⟩,rfl⟩
    (fun i w c dn hw hp=>by
      obtain⟨⟨v0,v1,rfl⟩,rfl⟩:=hp;rw[List.getElem?_map] at hw;cases ha:ts[i]? with
      | none=>rw[ha] at hw;exact noSome hw
      | some a =>
        rw[ha] at hw;obtain rfl:=sI hw;obtain⟨u,h1,h2⟩:=ht v0 a (List.mem_of_getElem? ha);have tk:ts.take (i+1)=ts.take i++[a]:=by rw[List.take_succ,ha];rfl
        refine⟨v0::#v[f a,6]::xs,?_,?_⟩
        · show (if (capKeep cap).contains 1 || !decide (1 < (v0 :: v1 :: xs).length) then none else _) = _
          rw[hk,decide_eq_true (by rw[List.length_cons,List.length_cons];omega)]
          rfl
        · cases q : p a with
          | true =>
            obtain⟨u',b,h3⟩:=h2 q;rw[q] at h1;refine .inl ⟨_,_,_,h1,h3,⟨_,_,rfl⟩,?_⟩;rw[tk,List.filter_append,List.map_append,List.filter_cons_of_pos q];rfl
          | false =>
            rw[q] at h1;refine .inr ⟨_,h1,⟨_,_,rfl⟩,?_⟩;rw[tk,List.filter_append,List.filter_cons_of_neg (by rw[q];decide),List.filter_nil,List.append_nil])
  obtain⟨⟨v0,v1,rfl⟩,rfl⟩:=hp;rw[hb,List.length_map,List.take_length] at hc;exact hc
theorem zdf {a:GA}{en e1:En}{n:Nat}(h:a en=some (e1,.inl (.int (n:Nat))))(hn:n<=1000000):zbb (gCns a gA0) en=some (e1,rngW 0 n):=by
 have r:zdu (n:Int)=true:=by
  unfold zdu;rw[decide_eq_true #v[],decide_eq_true #v[]];rfl
 have h2:gCns a gA0 en=some (e1,[.inl (.int (n:Nat))]):=by unfold gCns;rw[h];rfl
 have:=zzb h2 rfl r;rw[Int.toNat_natCast] at this;exact this
theorem pow1 {l:Nat}(h:l<=100):cPow 1 (l:Int)=true:=by
 unfold cPow;rw[decide_eq_true #v[],decide_eq_true #v[]];rfl
theorem zaf (l:Nat):(1:Int) * 2 ^ l=((2 ^ l:Nat):Int):=by rw[Int.one_mul];norm_cast
theorem zwb (l:Nat):(((2 ^ l:Nat):Int)).natAbs.log2=l:=by
 rw[Int.natAbs_natCast];exact Nat.log2_two_pow
theorem divP {p:Int}{l:Nat}(h:l<=100):cDiv p ((2 ^ l:Nat):Int)=true:=by
 unfold cDiv;have:0 < 2 ^ l:=Nat.pow_pos #v[0,9];rw[decide_eq_true #v[],decide_eq_true (by rw[zwb];omega)];rfl
theorem rngN {n:Nat}(h:n<=1000000):zdu (n:Int)=true:=by
 unfold zdu;rw[decide_eq_true #v[],decide_eq_true #v[]];rfl
noncomputable def hasT (t:List Nat) (p:Nat):Bool:=t.all fun l=>decide (p / 2 ^ l % 2=1)
noncomputable def valF (ts:List (List Nat)) (p:Nat):Int:=(((ts.filter fun t=>hasT t p).length % 2:Nat):Int)
theorem c1v {Ψ:Str->Fn}{v0:Option (W × Bool)}{t:List Nat}{p:Nat} (h6:∀l∈t,l < 64) (hl:t.length<=64):zeq Ψ [v0,some (tmW t,false),some (.int (p:Nat),false)]=some ([v0,some (tmW t,false),some (.int (p:Nat),false)],(.lst ((t.map fun l=>decide (p / 2 ^ l % 2=1)).map W.bl),true)):=by
  unfold zeq;refine znl (xs:=[#v[(p:Nat),0]]) (e0:=[v0,#v[tmW t,6],#v[(p:Nat),0]]) (ws:=t.map fun l=>.int (l:Nat)) (by unfold tmW;simp! []) (by rw[List.length_map];omega) (by rw[List.length_map,List.length_map,List.length_map]) rfl rfl rfl (fun _ _=>rfl) fun i v0 w r hw hr=>?_;rw[List.getElem?_map] at hw;rw[List.getElem?_map,List.getElem?_map] at hr;cases ha:t[i]? with
  | none=>rw[ha] at hw;exact noSome hw
  | some l =>
    rw [ha] at hw hr;obtain rfl:=sI hw;obtain rfl:=sI hr;have ll:=h6 l (List.mem_of_getElem? ha);have e1:=pow1 (l:=l) (by omega);have e2:=divP (p:=(p:Int)) (l:=l) (by omega);have e3:((p:Int) / ((2 ^ l:Nat):Int) % 2=1)=(p / 2 ^ l % 2=1):=by
      rw[<-Int.natCast_ediv];apply propext;constructor<;>intro h<;>omega
    refine⟨#v[(l:Nat),0],false,?_⟩;simp! [e1,zaf,e2,e3]
theorem c2v {Ψ:Str->Fn}{a c e:Option (W × Bool)}{ts:List (List Nat)}{p:Nat}(h6:∀t∈ts,∀l∈t,l < 64)(hl:∀t∈ts,t.length<=64)(hz:ts.length<=64):zep Ψ [a,#v[(ts.map tmW),3],c,#v[(p:Nat),0],e]=some ([a,#v[(ts.map tmW),3],c,#v[(p:Nat),0],e],(.lst ((ts.filter fun t=>hasT t p).map tmW),true)):=by
 unfold zep;refine zyu (xs:=[#v[(p:Nat),0]]) tmW (fun t=>hasT t p) tmW (e0:=[a,#v[(ts.map tmW),3],c,#v[(p:Nat),0],e]) (by simp! []) #v[] rfl rfl rfl (fun _ _=>rfl) fun v0 t ht=>?_;have c1:=c1v (Ψ:=Ψ) (v0:=v0) (t:=t) (p:=p) (h6 t ht) (hl t ht);have al:(t.map fun l=>decide (p / 2 ^ l % 2=1)).all id=hasT t p:=by unfold hasT;rw[List.all_map];rfl
 refine⟨#v[tmW t,6],?_,fun _=>⟨#v[tmW t,6],false,?_⟩⟩
 ·simp! [c1,al]
 ·simp! []
noncomputable def zoy (Φ:Fn):Prop:=∀(m:Nat) (ts:List (List Nat)),m<=6->ts.length<=64->(∀t∈ts,∀l∈t,l < 64)->(∀t∈ts,t.length<=64)->Φ [.int (m:Nat),.tup (ts.map tmW)]=some ([.int (m:Nat),.tup (ts.map tmW)],(.lst ((tab (2 ^ m) (valF ts)).map W.int),true))
theorem ze2 {m:Nat}(h:m<=6):2 ^ m<=64:=Nat.pow_le_pow_right #v[0,9] h
theorem b3v {Ψ:Str->Fn}{m i:Nat}{ts:List (List Nat)}{v4:Option (W × Bool)}(hi:i<=64)(hz:ts.length<=64)(h6:∀t∈ts,∀l∈t,l < 64)(hl:∀t∈ts,t.length<=64):zdq Ψ [#v[(m:Nat),0],#v[(ts.map tmW),3],#v[((tab i (valF ts)).map W.int),2],#v[(i:Nat),0],v4]=some ([#v[(m:Nat),0],#v[(ts.map tmW),3],#v[((tab (i+1) (valF ts)).map W.int),2],#v[(i:Nat),0],#v[((ts.filter fun t=>hasT t i).map tmW),2]],.nx):=by
 have c2:=c2v (Ψ:=Ψ) (a:=#v[(m:Nat),0]) (c:=#v[((tab i (valF ts)).map W.int),2]) (e:=v4) (ts:=ts) (p:=i) h6 hl hz;have lt:(tab i (valF ts)).length < 16777216:=by rw[tab_len];omega
 have em:(((ts.filter fun t=>hasT t i).length:Nat):Int) % 2=valF ts i:=by unfold valF;omega
 rw[zig i,List.map_append];unfold zdq;simp! [c2,List.length_map,em,lt,List.map_cons,List.map_nil]
theorem i3v {m:Nat}{b c d e:Option (W × Bool)}(hm:m<=6):zbb (gCns (gArg (gOp2 #v[0,0,1] #v[1] (zaa 0))) gA0) [#v[(m:Nat),0],b,c,d,e]=some ([#v[(m:Nat),0],b,c,d,e],rngW 0 (2 ^ m)):=by
 have p6:=ze2 hm;have e1:=pow1 (l:=m) #v[];refine zdf ?_ #v[];simp! [e1,zaf]
theorem l3v {Ψ:Str->Fn}{m:Nat}{ts:List (List Nat)}(hm:m<=6)(hz:ts.length<=64)(h6:∀t∈ts,∀l∈t,l < 64)(hl:∀t∈ts,t.length<=64):∃v3 v4,zev Ψ [#v[(m:Nat),0],#v[(ts.map tmW),3],#v[[],2],none,none]=some ([#v[(m:Nat),0],#v[(ts.map tmW),3],#v[((tab (2 ^ m) (valF ts)).map W.int),2],v3,v4],.nx):=by
 have p6:=ze2 hm;unfold zev;obtain⟨en',h,v3,v4,rfl⟩:=zbd (mp:=[]) (T:=.nm 3) (body:=zdq Ψ) (fun i e=>∃v3 v4,e=[#v[(m:Nat),0],#v[(ts.map tmW),3],#v[((tab i (valF ts)).map W.int),2],v3,v4]) (i3v (m:=m) (b:=#v[(ts.map tmW),3]) (c:=#v[[],2]) (d:=none) (e:=none) hm) ⟨_,_,rfl⟩ fun i w e hw hp=>by
  obtain⟨v3,v4,rfl⟩:=hp;obtain⟨li,rfl⟩:=za2 hw;rw[Int.zero_add];exact⟨_,_,rfl,.inl (b3v #v[] hz h6 hl),_,_,rfl⟩
 rw[zav] at h;exact⟨v3,v4,h⟩
theorem zro (Ψ:Str->Fn):zoy (zah [false,false] 5 (zkl Ψ)):=fun m ts hm hz h6 hl=>by
 obtain⟨v3,v4,lp⟩:=l3v (Ψ:=Ψ) hm hz h6 hl;unfold zkl;simp! [lp]
theorem z5n {xs ys:List W}{i:Nat}{w:W}(h:(zipW xs ys)[i]?=some w):∃x y,xs[i]?=some x/\ys[i]?=some y/\w=.tup [x,y]:=by
 have l:=(List.getElem?_eq_some_iff.mp h).1;rw[zdk] at l;have hx:xs[i]?=some xs[i]:=List.getElem?_eq_getElem #v[];have hy:ys[i]?=some ys[i]:=List.getElem?_eq_getElem #v[];rw[zii hx hy] at h;obtain rfl:=sI h;exact⟨_,_,hx,hy,rfl⟩
noncomputable def zx0 (Φ:Fn):Prop:=∀(k:Nat) (st:W) (m most:Nat),HS k st->k+100 < big->m<=6->most<=6->∃(st' : W) (ts:List (List Nat)),Φ [st,.int (m:Nat),.int (most:Nat)]=some ([st',.int (m:Nat),.int (most:Nat)],(.tup (ts.map tmW),false))/\HS (k+66) st'/\ts.Sublist (za1 m most)
theorem zp5:∀m most:Fin 7,(za1 m.val most.val).length<=64/\∀t∈za1 m.val most.val,t.length<=6/\∀l∈t,l < m.val:=by decide +kernel
theorem zi2 {m most:Nat}(hm:m<=6)(hk:most<=6):(za1 m most).length<=64/\∀t∈za1 m most,t.length<=6/\∀l∈t,l < m:=zp5 ⟨m,by omega⟩ ⟨most,by omega⟩
theorem z1b {Ψ:Str->Fn} (hT:zt3 (Ψ "_law_terms")) (hB:zk9 (Ψ "_law_bits")):zx0 (zah [true,false,false] 4 (zt7 Ψ)):=fun k st m most hs hk hm ho=>by
  have s9:(1000:Nat)<=sizeLine:=by decide
  obtain⟨tl,_⟩:=zi2 hm ho;have t1:=hT m most hm ho;nofun;obtain⟨st',xs,b1,g1,xl,xb⟩:=hB k st ((za1 m most).length:Nat) hs hk #v[] #v[];ac_rfl;have lx:xs.length=(za1 m most).length:=by omega
  have cc:∃ts:List (List Nat),zhb Ψ [some (st,true),some (.int (m:Nat),false),some (.int (most:Nat),false),some (.lst ((za1 m most).map tmW),true)]=some ([some (st',true),some (.int (m:Nat),false),some (.int (most:Nat),false),some (.lst ((za1 m most).map tmW),false)],(.lst (ts.map tmW),true))/\ts.Sublist (za1 m most):=by
    unfold zhb;obtain ⟨ce',out,hc,hp⟩:=zco (cap:=[none,none,none]) (T:=.tp [1,2]) (tc:=zak (gOp2 oEq (zaa 2) (gArg (gC (.int 1))))) (te:=gVar 1) (it:=gZip (gVar 3) (gCall [true,false] (Ψ "_law_bits") (gCns (zaa 0) (gCns (gArg (gOpN oLen (gCns (zaa 3) gA0))) gA0)))) (en:=[some (st,true),some (.int (m:Nat),false),some (.int (most:Nat),false),some (.lst ((za1 m most).map tmW),true)]) (e0:=[some (st',true),some (.int (m:Nat),false),some (.int (most:Nat),false),some (.lst ((za1 m most).map tmW),false)]) (ws:=zipW ((za1 m most).map tmW) (xs.map W.int)) (fun i c dn=>(∃v0 v1 v2,c=[v0,v1,v2])/\∃ts:List (List Nat),dn=ts.map tmW/\ts.Sublist ((za1 m most).take i))
      (by simp! [List.length_map,b1]) rfl (by rw [zdk,List.length_map,List.length_map];omega) ⟨⟨_,_,_,rfl⟩,[],rfl,List.nil_sublist _⟩ fun i w c dn hw hp=>by
        nofun;obtain⟨⟨v0,v1,v2,rfl⟩,ts,rfl,hsub⟩:=hp;obtain⟨x,y,hx,hy,rfl⟩:=z5n hw;ac_rfl;rw[List.getElem?_map] at hx hy;cases ha:(za1 m most)[i]? with
        | none=>rw[ha] at hx;exact noSome hx
        | some t =>
          cases hb:xs[i]? with
          | none=>rw[hb] at hy;exact noSome hy
          | some n =>
            rw[ha] at hx;rw[hb] at hy;obtain rfl:=sI hx;obtain rfl:=sI hy;have tk:(za1 m most).take (i+1)=(za1 m most).take i++[t]:=by rw[List.take_succ,ha];rfl
            refine⟨[v0,#v[tmW t,6],#v[n,0]],rfl,?_⟩;have tt:zak (gOp2 oEq (zaa 2) #v[1]) [v0,#v[tmW t,6],#v[n,0]]=some ([v0,#v[tmW t,6],#v[n,0]],decide (n=1)):=by simp! []
            by_cases hn:n=1
            · refine .inl ⟨[v0, some (tmW t, false), some (.int n, false)], [v0, some (tmW t, false), some (.int n, false)], (tmW t, false), ?_, rfl, ⟨_, _, _, rfl⟩, ts ++ [t], ?_, ?_⟩
              · rw[tt,decide_eq_true hn]
              · rw[List.map_append];rfl
              · rw[tk];exact hsub.append (.refl _)
            · refine .inr ⟨[v0, some (tmW t, false), some (.int n, false)], ?_, ⟨_, _, _, rfl⟩, ts, rfl, ?_⟩
              · rw[tt,decide_eq_false hn]
              · rw[tk];exact hsub.trans (List.sublist_append_left _ _)
    nofun;obtain⟨⟨v0,v1,v2,rfl⟩,ts,rfl,hsub⟩:=hp;ac_rfl;exact⟨ts,hc,hsub.trans (List.take_sublist _ _)⟩
  obtain⟨ts,c1,sub⟩:=cc;refine⟨st',ts,?_,g1,sub⟩;have ot:zbw [.lst (ts.map tmW)]=#v[(ts.map tmW),3]:=rfl;unfold zt7;simp! [t1,c1,ot]
noncomputable def zq6 (Φ:Fn):Prop:=∀(k:Nat) (st:W) (m:Nat),HS k st->k+300 < big->m<=6->∃st' xs,Φ [st,.int (m:Nat)]=some ([st',.int (m:Nat)],(.lst (xs.map W.int),true))/\HS (k+80) st'/\xs.length=2 ^ m/\Bits xs
theorem zhu {n q:Nat}(h:q < n):ixN n (q:Int)=some q:=by
 unfold ixN;rw[if_pos #v[],if_pos #v[],Int.toNat_natCast]
theorem z5f {Ψ:Str->Fn}{m q:Nat}{st st1:W}{xs:List Int}{v3 v4:Option (W × Bool)}{n:Int}(hm:m<=6)(lx:xs.length=2 ^ m)(e1:Ψ "_law_take" [st,.int ((2 ^ m:Nat):Int)]=some ([st1,.int ((2 ^ m:Nat):Int)],(.int (q:Nat),false)))(hq:xs[q]?=some n):zef Ψ [#v[st,5],#v[(m:Nat),0],#v[(xs.map W.int),2],v3,v4]=some ([#v[st1,5],#v[(m:Nat),0],#v[((xs.set q (1 - n)).map W.int),2],v3,#v[(q:Nat),0]],.nx):=by
 have p1:=pow1 (l:=m) #v[];have lq:q < xs.length:=(List.getElem?_eq_some_iff.mp hq).1;have a1:atI (xs.map W.int) (q:Int)=some (.int n):=zau (by rw[List.getElem?_map,hq];rfl);have ix:ixN xs.length (q:Int)=some q:=zhu lq;unfold zef;simp! [p1,zaf,e1,a1,List.length_map,ix,List.map_set,List.mem_cons,List.not_mem_nil]
theorem zvt {Ψ:Str->Fn}(hT:zd8 (Ψ "_law_take"))(hB:zk9 (Ψ "_law_bits"))(hP:zx0 (Ψ "_law_poly"))(hV:zoy (Ψ "_law_values")):zq6 (zah [true,false] 5 (zid Ψ)):=fun k st m hs hk hm=>by
 have p6:=ze2 hm;have p1:=pow1 (l:=m) #v[];have pp:0 < 2 ^ m:=Nat.pow_pos #v[0,9];nofun;obtain⟨st1,r,e1,g1,r0,r2⟩:=hT k st 2 hs #v[] #v[0,9] #v[0,9];ac_rfl;by_cases hr:r=0
 ·subst hr;nofun;obtain⟨st',xs,b1,g2,xl,xb⟩:=hB (k+1) st1 ((2 ^ m:Nat):Int) g1 #v[] #v[] #v[];ac_rfl;refine⟨st',xs,?_,g2.mono #v[],by omega,xb⟩;unfold zid;simp! [e1,p1,zaf,b1]
 ·refine aG fun Gg qG => ?_;obtain ⟨st2,r2,e2,g2,q0,q1⟩:=hT (k+1) st1 ((m:Int)+1) g1 (by omega) (by omega) (by omega);obtain ⟨most,rfl⟩:=Int.eq_ofNat_of_zero_le q0;obtain ⟨st3,ts,e3,g3,sub⟩:=hP (k+2) st2 m most g2 (by omega) hm (by omega);obtain ⟨tl,ta⟩:=zi2 (m:=m) (most:=most) hm (by omega);refine qG ?_;clear qG;have e4:=hV m ts hm (by have:=sub.length_le;omega) (fun t ht l hl=>by have:=(ta t (sub.mem ht)).2 l hl;omega) (fun t ht=>by have:=(ta t (sub.mem ht)).1;omega);refine aG fun _ qG=>?_;obtain ⟨st4,n,e5,g4,n0,n4⟩:=hT (k+68) st3 4 g3 (by omega) (by decide) (by decide);obtain ⟨j,rfl⟩:=Int.eq_ofNat_of_zero_le n0;refine qG ?_;clear qG;have lp:∃st5 xs v3 v4,zfs Ψ [some (st3,true),some (.int (m:Nat),false),some (.lst ((tab (2 ^ m) (valF ts)).map W.int),true),none,none]=some ([some (st5,true),some (.int (m:Nat),false),some (.lst (xs.map W.int),true),v3,v4],.nx)/\HS (k+80) st5/\xs.length=2 ^ m/\Bits xs:=by
   unfold zfs;have it:zbb (gCns (gArg (gCall [true,false] (Ψ "_law_take") (gCns (zaa 0) (gCns #v[4] gA0)))) gA0) [#v[st3,5],#v[(m:Nat),0],#v[((tab (2 ^ m) (valF ts)).map W.int),2],none,none]=some ([#v[st4,5],#v[(m:Nat),0],#v[((tab (2 ^ m) (valF ts)).map W.int),2],none,none],rngW 0 j):=by
    refine zdf ?_ #v[];simp! [e5]
   obtain⟨en',h,st5,xs,v3,v4,rfl,g5,lx,bx⟩:=zbd (mp:=[0]) (T:=.nm 3) (body:=zef Ψ) (fun i e=>∃st5 xs v3 v4,e=[#v[st5,5],#v[(m:Nat),0],#v[(xs.map W.int),2],v3,v4]/\HS (k+69+i) st5/\xs.length=2 ^ m/\Bits xs) it ⟨_,_,_,_,rfl,g4.mono #v[],tab_len _ _,zvg fun i _=>by unfold valF Bit;omega⟩ fun i w e hw hp=>by
    nofun;obtain⟨st5,xs,v3,v4,rfl,g5,lx,bx⟩:=hp;obtain⟨li,rfl⟩:=za2 hw;obtain⟨st6,q,e6,g6,q0,q4⟩:=hT (k+69+i) st5 ((2 ^ m:Nat):Int) g5 #v[] #v[] #v[];obtain⟨q,rfl⟩:=Int.eq_ofNat_of_zero_le q0;ac_rfl;have lq:q < xs.length:=by omega
    have hq:xs[q]?=some xs[q]:=List.getElem?_eq_getElem lq;refine⟨_,_,rfl,.inl (z5f hm lx e6 hq),st6,_,_,_,rfl,g6,by rw[List.length_set];exact lx,fun x hx=>?_⟩;rcases List.mem_or_eq_of_mem_set hx with hx | rfl
    ·exact bx x hx
    ·have := bx xs[q] (List.getElem_mem _);rcases this with z | z<;>rw[z]
     ·exact .inr rfl
     ·exact .inl rfl
   rw[zav] at g5;exact⟨st5,xs,v3,v4,h,g5.mono #v[],lx,bx⟩
  nofun;obtain⟨st5,xs,v3,v4,lp,g5,lx,bx⟩:=lp;ac_rfl;refine⟨st5,xs,?_,g5,lx,bx⟩;have d1:decide (r=0)=false:=decide_eq_false hr;unfold zid;simp! [e1,d1,e2,e3,e4,lp]
theorem and1 {a:Int}(h:0<=a):Builtin.bitAnd a 1=a % 2:=by
 have b:Bit (a % 2):=by unfold Bit;omega
 have s:=zn4 (a:=a / 2) (b:=0) #v[] (Int.le_refl 0) b (show Bit 1 from .inr rfl);rw[bitAnd_zero] at s;have e:(2 * 0+1:Int)=1:=rfl;have e2:2 * (a / 2)+a % 2=a:=by omega
 rw[e,e2] at s;rw[s];omega
theorem zp4 {xs:List Int}(h:Bits xs)(p:Nat):wordOf xs / 2 ^ p % 2=xs.getD p 0:=by
 rw[<-zkm p xs h,and1 (Int.ediv_nonneg (zlb h) (Int.pow_nonneg #v[0,9]))]
noncomputable def ztt (Φ:Fn):Prop:=∀(a:Int) (p:Nat),0<=a->Φ [.int a,.int (p:Nat)]=some ([.int a,.int (p:Nat)],(.int (a / 2 ^ p % 2),false))
theorem zn6 (Ψ:Str->Fn):ztt (zah [false,false] 2 (zyl Ψ)):=fun a p h=>by
 have e:=and1 (a:=a / 2 ^ p) (Int.ediv_nonneg h (Int.pow_nonneg #v[0,9]));have z:(0<=(p:Int))=True:=eq_true #v[];unfold zyl;simp! [z,e]
theorem mul2 {b:Int}:oMult (.int 2) (.int b)=#v[(2 * b),0]:=by
 have c:cMul 2 b=true:=by unfold cMul;rw[Bool.or_eq_true];exact .inl #v[0,9]
 show oOr (oI cMul fun i j=>.int (i * j)) _ (.int 2) (.int b)=_;have e:oI cMul (fun i j=>.int (i * j)) (.int 2) (.int b)=#v[(2 * b),0]:=by rw[oI_e,if_pos c]
 unfold oOr;rw[e]
noncomputable def zbk (j:Nat) (f:Nat->Int) (p:Nat):Int:=if p / 2 ^ j % 2=0 then f p+f (p+2 ^ j) else f (p - 2 ^ j) - f p
noncomputable def nrF (f:Nat->Int):Nat->Nat->Int
 | 0=>f
 | j+1=>zbk j (nrF f j)
theorem z3k : ∀m:Fin 7,∀j:Fin 6,∀i:Fin 64,j.val < m.val->i.val < 2 ^ m.val->i.val / 2 ^ j.val % 2=0->i.val+2 ^ j.val < 2 ^ m.val:=by decide +kernel
theorem up_lt {m j i:Nat}(hm:m<=6)(hj:j < m)(hi:i < 2 ^ m)(h:i / 2 ^ j % 2=0):i+2 ^ j < 2 ^ m:=z3k ⟨m,by omega⟩ ⟨j,by omega⟩ ⟨i,by have:=ze2 hm;omega⟩ hj hi h
theorem dn_le {j i:Nat}(h:i / 2 ^ j % 2=1):2 ^ j<=i:=by
 apply Nat.le_of_not_lt;intro z;rw[Nat.div_eq_of_lt z] at h;omega
noncomputable def rowW (m:Nat) (f:Nat->Int):List W:=(tab (2 ^ m) f).map W.int
theorem rowW_at {m p:Nat}{f:Nat->Int}(h:p < 2 ^ m):atI (rowW m f) (p:Int)=some (.int (f p)):=zau (by unfold rowW;rw[List.getElem?_map,tab_get h];rfl)
theorem zfe (m:Nat)(f:Nat->Int):(rowW m f).length=2 ^ m:=by unfold rowW;rw[List.length_map,tab_len]
theorem zzn {n a:Nat}{f:Nat->Int}{v:Int}:(tab n f).set a v=tab n fun q=>if q=a then v else f q:=by
 apply List.ext_getElem?;intro q;by_cases hq:q < n
 ·rw[tab_get hq, List.getElem?_set, tab_len];by_cases e:a=q
  ·subst e;rw[if_pos rfl,if_pos hq,if_pos rfl]
  ·rw[if_neg e,if_neg (fun z=>e z.symm),tab_get hq]
 ·rw[List.getElem?_eq_none (by rw[List.length_set,tab_len];omega),List.getElem?_eq_none (by rw[tab_len];omega)]
noncomputable def mixF (j:Nat) (g:Nat->Int) (p q:Nat):Int:=if (if q / 2 ^ j % 2=0 then q else q - 2 ^ j) < p then zbk j g q else g q
theorem z6a (j:Nat)(g:Nat->Int)(q:Nat):mixF j g 0 q=g q:=by unfold mixF;rw[if_neg #v[]]
theorem z55 {j n q:Nat}(g:Nat->Int)(h:q < n):mixF j g n q=zbk j g q:=by
 unfold mixF;rw[if_pos];split
 ·exact h
 ·exact Nat.lt_of_le_of_lt (Nat.sub_le _ _) h
theorem zhq {j p:Nat}:(p+2 ^ j) / 2 ^ j=p / 2 ^ j+1:=Nat.add_div_right p (Nat.pow_pos #v[0,9])
theorem zyz {j q:Nat}(h:2 ^ j<=q):(q - 2 ^ j) / 2 ^ j=q / 2 ^ j - 1:=by
 have:=zhq (j:=j) (p:=q - 2 ^ j);rw[Nat.sub_add_cancel h] at this;rw[this,Nat.add_sub_cancel]
theorem zuw {j p q:Nat}(g:Nat->Int)(h:p / 2 ^ j % 2=1):mixF j g (p+1) q=mixF j g p q:=by
 unfold mixF;by_cases c:q / 2 ^ j % 2=0
 ·rw[if_pos c];have:q≠p:=fun e=>by rw[e] at c;omega
  by_cases d:q < p
  ·rw[if_pos d,if_pos #v[]]
  ·rw[if_neg d,if_neg #v[]]
 ·rw[if_neg c];have l:=dn_le (j:=j) (i:=q) #v[];have b:=zyz l;have:q - 2 ^ j≠p:=fun e=>by rw[e] at b;omega
  by_cases d:q - 2 ^ j < p
  ·rw[if_pos d,if_pos #v[]]
  ·rw[if_neg d,if_neg #v[]]
theorem z5u {j p q:Nat}(g:Nat->Int)(h:p / 2 ^ j % 2=0):(if q=p+2 ^ j then g p - g (p+2 ^ j) else if q=p then g p+g (p+2 ^ j) else mixF j g p q)=mixF j g (p+1) q:=by
 have pp:0 < 2 ^ j:=Nat.pow_pos #v[0,9];have ba:=zhq (j:=j) (p:=p);by_cases e1:q=p+2 ^ j
 ·rw[if_pos e1];subst e1;have c:¬ (p+2 ^ j) / 2 ^ j % 2=0:=by omega
  unfold mixF zbk;rw[if_neg c,Nat.add_sub_cancel,if_pos #v[],if_neg c]
 ·rw[if_neg e1];by_cases e2:q=p
  ·subst e2;rw[if_pos rfl];unfold mixF zbk;rw[if_pos h,if_pos #v[],if_pos h]
  ·rw[if_neg e2];unfold mixF;by_cases c:q / 2 ^ j % 2=0
   ·rw[if_pos c];by_cases d:q < p
    ·rw[if_pos d,if_pos #v[]]
    ·rw[if_neg d,if_neg #v[]]
   ·rw[if_neg c];have l:=dn_le (j:=j) (i:=q) #v[];by_cases d:q - 2 ^ j < p
    ·rw[if_pos d,if_pos #v[]]
    ·rw[if_neg d,if_neg #v[]]
noncomputable def sgF (xs:List Int) (p:Nat):Int:=1 - 2 * xs.getD p 0
noncomputable def zac (g:Nat->Int):Nat->Int
 | 0=>0
 | n+1=>zac g n+g n
theorem zai {g h:Nat->Int}:∀{n:Nat},(∀i,i < n->g i=h i)->zac g n=zac h n
 | 0,_=>rfl
 | n+1,e=>by rw[zac,zac,zai fun i hi=>e i #v[],e n #v[]]
theorem sumTo_plus (g h:Nat->Int):∀n,zac (fun i=>g i+h i) n=zac g n+zac h n
 | 0=>rfl
 | n+1=>by rw[zac,zac,zac,sumTo_plus g h n];omega
theorem sumTo_minus (g h:Nat->Int):∀n,zac (fun i=>g i - h i) n=zac g n - zac h n
 | 0=>rfl
 | n+1=>by rw[zac,zac,zac,sumTo_minus g h n];omega
theorem ziz (g:Nat->Int):∀n,zac (fun i=>2 * g i) n=2 * zac g n
 | 0=>rfl
 | n+1=>by rw[zac,zac,ziz g n];omega
theorem zdj:∀n,zac (fun _=>0) n=0
 | 0=>rfl
 | n+1=>by rw[zac,zdj n];rfl
theorem zde (g:Nat->Int)(a:Nat):∀b,zac g (a+b)=zac g a+zac (fun i=>g (a+i)) b
 | 0=>by rw[zac];show zac g a=_;omega
 | b+1=>by rw[<-Nat.add_assoc,zac,zac,zde g a b];omega
theorem zdm (f:Nat->Int) (p:Nat):∀n,zac (fun q=>f q * (if p=q then 1 else 0)) n=if p < n then f p else 0
  | 0=>rfl
  | n+1=>by
    rw[zac,zdm f p n];by_cases h:p=n
    · subst h;rw[if_pos rfl,if_neg #v[],if_pos #v[]];omega
    · rw [if_neg h]
      by_cases l:p < n
      · rw[if_pos l,if_pos #v[]];omega
      · rw[if_neg l,if_neg #v[]];omega
theorem zls (f:Nat->Int):∀n,(tab n f).sum=zac f n
 | 0=>rfl
 | n+1=>by rw[zig,List.sum_append,zls f n,zac];simp
theorem zry {m:Nat} (hm:m<=6) (f:Nat->Int):∀j,j<=m->∀p,p < 2 ^ m->nrF f j p=zac (fun q=>f q * nrF (fun x=>if x=q then 1 else 0) j p) (2 ^ m)
  | 0,_,p,hp=>by
    show f p=zac (fun q=>f q * (if p=q then 1 else 0)) (2 ^ m);rw[zdm,if_pos hp]
  | j+1,hj,p,hp=>by
    have ih:=zry hm f j #v[];show zbk j (nrF f j) p=zac (fun q=>f q * zbk j (nrF (fun x=>if x=q then 1 else 0) j) p) (2 ^ m);unfold zbk;by_cases c:p / 2 ^ j % 2=0
    · rw [if_pos c, ih p hp, ih _ (up_lt hm (by omega) hp c), <- sumTo_plus]
      exact zai fun i _=>by rw[if_pos c,Int.mul_add]
    · rw [if_neg c, ih p hp, ih _ (Nat.lt_of_le_of_lt (Nat.sub_le _ _) hp), <- sumTo_minus]
      exact zai fun i _=>by rw[if_neg c,Int.mul_sub]
noncomputable def linL (m p q:Nat):List Nat:=(List.range m).filter fun l=>decide (p / 2 ^ l % 2=1) && decide (q / 2 ^ l % 2=1)
noncomputable def lin (m p q:Nat):Int:=(((linL m p q).length % 2:Nat):Int)
noncomputable def wsh (m:Nat):Bool:=(List.range (2 ^ m)).all fun p=>(List.range (2 ^ m)).all fun q=>decide (nrF (fun x=>if x=q then 1 else 0) m p=1 - 2 * lin m p q)
theorem zyx:(List.range 7).all wsh=true:=by decide +kernel
theorem z2n {m p q:Nat}(hm:m<=6)(hp:p < 2 ^ m)(hq:q < 2 ^ m):nrF (fun x=>if x=q then 1 else 0) m p=1 - 2 * lin m p q:=by
 have a:=List.all_eq_true.mp zyx m (List.mem_range.mpr #v[]);have b:=List.all_eq_true.mp a p (List.mem_range.mpr hp);have c:=List.all_eq_true.mp b q (List.mem_range.mpr hq);exact of_decide_eq_true c
theorem z0z {m p:Nat}(hm:m<=6)(hp:p < 2 ^ m)(f:Nat->Int):nrF f m p=zac (fun q=>f q * (1 - 2 * lin m p q)) (2 ^ m):=by
 rw[zry hm f m (Nat.le_refl _) p hp];exact zai fun q hq=>by rw[z2n hm hp hq]
theorem zz7 (m p q:Nat):Bit (lin m p q):=by unfold lin Bit;omega
theorem getD_bit {xs:List Int}(h:Bits xs)(q:Nat):Bit (xs.getD q 0):=by
 rw[List.getD_eq_getElem?_getD];cases e:xs[q]? with
 | none=>exact .inl rfl
 | some x=>exact h x (List.mem_of_getElem? e)
theorem zeo {s:Nat} (hs:0 < s) (g:Nat->Int):∀c,zac g (c * (s+s))=zac (fun p=>if p / s % 2=0 then g p+g (p+s) else 0) (c * (s+s))
  | 0=>by rw[Nat.zero_mul];rfl
  | c+1=>by
    rw[Nat.succ_mul,zde,zde (fun p=>if p / s % 2=0 then g p+g (p+s) else 0),zeo hs g c];congr 1;rw[zde,zde (fun i=>if (c * (s+s)+i) / s % 2=0 then g (c * (s+s)+i)+g (c * (s+s)+i+s) else 0)];have e0:c * (s+s)=s * (2 * c):=by rw[<-Nat.two_mul,Nat.mul_comm,Nat.mul_assoc,Nat.mul_left_comm]
    have d1:∀i,i < s->(c * (s+s)+i) / s=2 * c:=fun i hi=>by rw[e0,Nat.mul_add_div hs,Nat.div_eq_of_lt hi,Nat.add_zero]
    have d2:∀i,i < s->(c * (s+s)+(s+i)) / s=2 * c+1:=fun i hi=>by rw[e0,Nat.mul_add_div hs,Nat.add_div_left i hs,Nat.div_eq_of_lt hi]
    have z:zac (fun i=>if (c * (s+s)+(s+i)) / s % 2=0 then g (c * (s+s)+(s+i))+g (c * (s+s)+(s+i)+s) else 0) s=0:=by
      refine Eq.trans (zai (h:=fun _=>0) fun i hi=>?_) (zdj s);show (if (c * (s+s)+(s+i)) / s % 2=0 then _ else _)=_;rw[d2 i hi,if_neg #v[]]
    rw[z,Int.add_zero,<-sumTo_plus];exact zai fun i hi=>by rw[d1 i hi,if_pos #v[],Nat.add_comm s i,Nat.add_assoc]
theorem zy0 {m j:Nat}(hj:j < m)(f:Nat->Int):zac (fun p=>zbk j f p * zbk j f p) (2 ^ m)=2 * zac (fun p=>f p * f p) (2 ^ m):=by
 have hs:0 < 2 ^ j:=Nat.pow_pos #v[0,9];have e:2 ^ m=2 ^ (m - j - 1) * (2 ^ j+2 ^ j):=by
  rw[<-Nat.two_mul,<-Nat.mul_assoc,<-Nat.pow_succ,<-Nat.pow_add];congr 1;omega
 rw[e,zeo hs,zeo hs (fun p=>f p * f p),<-ziz];refine zai fun p _=>?_;by_cases c:p / 2 ^ j % 2=0
 ·rw[if_pos c, if_pos c];have b:=zhq (j:=j) (p:=p);have c2:¬ (p+2 ^ j) / 2 ^ j % 2=0:=by omega
  unfold zbk;rw[if_pos c,if_neg c2,Nat.add_sub_cancel];generalize f p=a;generalize f (p+2 ^ j)=d;simp only [Int.add_mul,Int.mul_add,Int.sub_mul,Int.mul_sub,Int.mul_comm d a];omega
 ·rw[if_neg c,if_neg c];rfl
theorem zyh {m:Nat} (f:Nat->Int):∀j,j<=m->zac (fun p=>nrF f j p * nrF f j p) (2 ^ m)=2 ^ j * zac (fun p=>f p * f p) (2 ^ m)
  | 0,_=>by rw[Int.pow_zero,Int.one_mul];rfl
  | j+1,h=>by
    show zac (fun p=>zbk j (nrF f j) p * zbk j (nrF f j) p) (2 ^ m)=_;rw[zy0 h,zyh f j #v[],Int.pow_succ,Int.mul_comm ((2:Int) ^ j) 2,Int.mul_assoc]
theorem z4h {xs:List Int} (h:Bits xs):∀n,zac (fun p=>sgF xs p * sgF xs p) n=n
  | 0=>rfl
  | n+1=>by
    rw[zac,z4h h n];have b:=getD_bit h n;unfold sgF;rcases b with z | z<;>rw[z]<;>omega
theorem seq_e {a b:GS}{en e1:En}{r:Option (En × Fl)}(h1:a en=some (e1,.nx))(h2:b e1=r):gSeq a b en=r:=(seq_nx h1).trans h2
theorem zwt (f:Nat->Int){l l' : List Nat}(p:l.Perm l'):(l.map f).sum=(l'.map f).sum:=by
 induction p with
 | nil=>rfl
 | cons a _ ih=>rw[List.map_cons,List.map_cons,List.sum_cons,List.sum_cons,ih]
 | swap a b l=>rw[List.map_cons,List.map_cons,List.map_cons,List.map_cons,List.sum_cons,List.sum_cons,List.sum_cons,List.sum_cons];omega
 | trans _ _ i1 i2=>exact i1.trans i2
theorem zoj (f g:Nat->Int):∀L:List Nat,(L.map fun p=>f p+g p).sum=(L.map f).sum+(L.map g).sum
 | []=>rfl
 | a::L=>by rw[List.map_cons,List.map_cons,List.map_cons,List.sum_cons,List.sum_cons,List.sum_cons,zoj f g L];omega
theorem zsu (f:Nat->Int)(h:∀p,f p=0):∀L:List Nat,(L.map f).sum=0
 | []=>rfl
 | a::L=>by rw[List.map_cons,List.sum_cons,zsu f h L,h];rfl
theorem sum_swap (f:Nat->Int) (B:Nat->Nat->Int) (L:List Nat):∀A:List Nat,(L.map fun p=>f p * (A.map fun s=>B s p).sum).sum=(A.map fun s=>(L.map fun p=>f p * B s p).sum).sum
  | []=>zsu _ (fun p=>by show f p * 0=0;omega) L
  | a::A=>by
    rw[List.map_cons,List.sum_cons,<-sum_swap f B L A,<-zoj];congr 1;refine List.map_congr_left fun p _=>?_;rw[List.map_cons,List.sum_cons,Int.mul_add]
section
variable {en:En}{P Q:W->Prop}
end
set_option maxHeartbeats 2000000
noncomputable def dkI (i:Int):DKey:=.inl (.inl i)
theorem zhj (a b:Int)(h:dkI a=dkI b):a=b:=Sum.inl.inj (Sum.inl.inj h)
section
variable {κ:Type} [DecidableEq κ] {f:κ->DKey}
theorem zze (hf:∀a b,f a=f b->a=b) (g:κ->W) (p:κ):∀L:List κ,valW ((L.map f).zip (L.map g)) (f p)=if p∈L then some (g p) else none
  | []=>rfl
  | q::L=>by
    rw[List.map_cons,List.map_cons,List.zip_cons_cons,zq0,zze hf g p L];by_cases h:q=p
    · subst h;rw[if_pos rfl,if_pos List.mem_cons_self]
    · rw [if_neg fun e => h (hf _ _ e)]
      by_cases m:p∈L
      · rw[if_pos m,if_pos (List.mem_cons_of_mem _ m)]
      · rw[if_neg m,if_neg fun z=>by rcases List.mem_cons.mp z with z | z;exact h z.symm;exact m z]
theorem zp8 (hf:∀a b,f a=f b->a=b) (g:κ->W) (p:κ) (w:W):∀L:List κ,List.zipWith (fun k' v'=>if k'=f p then w else v') (L.map f) (L.map g)=L.map fun q=>if q=p then w else g q
  | []=>rfl
  | q::L=>by
    rw[List.map_cons,List.map_cons,List.zipWith_cons_cons,zp8 hf g p w L,List.map_cons];by_cases h:q=p
    · subst h;rw[if_pos rfl,if_pos rfl]
    · rw[if_neg fun e=>h (hf _ _ e),if_neg h]
theorem ze9 (hf:∀a b,f a=f b->a=b){L:List κ}{p:κ}:f p∈L.map f↔p∈L:=by
 rw[List.mem_map];exact⟨fun ⟨a,h,e⟩=>hf _ _ e ▸ h,fun h=>⟨p,h,rfl⟩⟩
theorem zz3 (hf:∀a b,f a=f b->a=b)(g:κ->W){p:κ}(w:W){L:List κ}(h:p∈L):zdy (L.map f) (L.map g) (f p) w=L.map fun q=>if q=p then w else g q:=by
 unfold zdy;rw[if_pos ((ze9 hf).mpr h),zp8 hf]
theorem zxg (hf:∀a b,f a=f b->a=b)(ws:List W){p:κ}(w:W){L:List κ}(h:p ∉ L):zdy (L.map f) ws (f p) w=ws++[w]:=by
 unfold zdy;rw[if_neg (mt (ze9 hf).mp h)]
theorem z0r (hf:∀a b,f a=f b->a=b){p:κ}{L:List κ}(h:p∈L):zd0 (L.map f) (f p)=L.map f:=by
 unfold zd0;rw[if_pos ((ze9 hf).mpr h)]
theorem zw4 (hf:∀a b,f a=f b->a=b){p:κ}{L:List κ}(h:p ∉ L):zd0 (L.map f) (f p)=L.map f++[f p]:=by
 unfold zd0;rw[if_neg (mt (ze9 hf).mp h)]
end
noncomputable def tp (w:Nat):Nat:=w.log2
end L2
namespace My
open PySem PySem.Spec PyProof.Rows L2
noncomputable def top (i:Nat):Stmt:=PySem.Challenge.pw_yesnowords_k69_bent_or_not.main.body.getD i (.Pass ⟨0,0,0,0⟩)
noncomputable def zoh:Fd:=⟨"says",["word","place"],["word","place"],[false,false],top 1⟩
noncomputable def za6:Fd:=⟨"near_stepped",["row","letter"],["row","letter","aside"],[false,false],top 3⟩
noncomputable def zby:Fd:=⟨"near_steps",["many","word"],["many","word","rows","letter"],[false,false],top 4⟩
noncomputable def zbt:Fd:=⟨"agreements",["many","word"],["many","word"],[false,false],top 5⟩
noncomputable def zd9:Fd:=⟨"is_bent",["many","word"],["many","word","row"],[false,false],top 6⟩
noncomputable def zcp:Fd:=⟨"_law_hand",["_law_script"],["_law_script","_law_state","_law_weighs","_law_cell","_law_k","_law_one"],[false],top 8⟩
noncomputable def zcj:Fd:=⟨"_law_take",["_law_state","_law_count"],["_law_state","_law_count","_law_digit","_law_mixed"],[true,false],top 9⟩
noncomputable def zcu:Fd:=⟨"_law_bits",["_law_state","_law_count"],["_law_state","_law_count","_law_way","_law_found","_law_k","_law_one"],[true,false],top 10⟩
noncomputable def zcn:Fd:=⟨"_law_word",["_law_bits_here"],["_law_bits_here","_law_found","_law_bit"],[false],top 11⟩
noncomputable def zbu:Fd:=⟨"_law_terms",["_law_many_here","_law_most"],["_law_many_here","_law_most","_law_found","_law_letter"],[false,false],top 12⟩
noncomputable def zbi:Fd:=⟨"_law_values",["_law_many_here","_law_poly_here"],["_law_many_here","_law_poly_here","_law_found","_law_place","_law_says_yes"],[false,false],top 13⟩
noncomputable def zcm:Fd:=⟨"_law_poly",["_law_state","_law_many_here","_law_most"],["_law_state","_law_many_here","_law_most","_law_some"],[true,false,false],top 14⟩
noncomputable def zct:Fd:=⟨"_law_many",["_law_state"],["_law_state"],[true],top 15⟩
noncomputable def zbx:Fd:=⟨"_law_drawn",["_law_state","_law_many_here"],["_law_state","_law_many_here","_law_bits_here","_law_k","_law_at"],[true,false],top 16⟩
noncomputable def zcs:Fd:=⟨"_law_rows",["_law_many_here","_law_bits_here"],["_law_many_here","_law_bits_here","_law_rows_here","_law_letter","_law_row","_law_place","_law_one","_law_other"],[false,false],top 17⟩
noncomputable def zbv:Fd:=⟨"_law_pairs",["_law_state","_law_many_here"],["_law_state","_law_many_here","_law_left","_law_found","_law_k","_law_one"],[true,false],top 18⟩
noncomputable def zcc:Fd:=⟨"_law_bent",["_law_state","_law_many_here"],["_law_state","_law_many_here","_law_pairs_here","_law_along","_law_letters","_law_found","_law_place","_law_digits","_law_first","_law_products","_law_plain"],[true,false],top 19⟩
noncomputable def zbq:Fd:=⟨"_law_right",["_law_many_here","_law_bits_here"],["_law_many_here","_law_bits_here","_law_row","_law_due","_law_found"],[false,false],top 20⟩
noncomputable def zmb:Fd:=⟨"law",["_law_script"],["_law_script","_law_state","_law_turn","_law_many_here","_law_bits_here","_law_at"],[false],top 21⟩
noncomputable def T:List Fd:=[zoh,za6,zby,zbt,zd9,zcp,zcj,zcu,zcn,zbu,zbi,zcm,zct,zbx,zcs,zbv,zcc,zbq,zmb]
noncomputable def bn:List Str:=["abs","all","b _law_bits_here","bool","dict","enumerate","int","isinstance","len","list","range","reversed","sorted","sum","tuple","zip"]
noncomputable def zx9 (Ψ:Str->Fn):GS:=(gRet (gOp2 (oI yes2 fun i j=>.int (Builtin.bitAnd i j)) (gArg (gOp2 (oI (fun _ j=>decide (0<=j)) fun i j=>.int (i / 2 ^ j.toNat)) (zaa 0) (zaa 1))) #v[1]))
theorem z4x (Ψ:Str->Fn)(d:Nat):zat T bn Ψ (d+2) zoh=some (zx9 Ψ):=by kernel_rfl
theorem z48:T.find? (·.nm == ("says" : Str))=some zoh:=by kernel_rfl
theorem zxu (d:Nat):sem T bn (d+3) "says" = zah [false,false] 2 (zx9 (sem T bn (d+2))):=zcq z48 (z4x _ d)
noncomputable def zbm (Ψ:Str->Fn):GE:=zaz [none,none,some 2,some 1,some 0] (.nm 1) (zbb (gCns (gArg (gOpN oLen (gCns (zaa 0) gA0))) gA0)) gYes (gIf (zak (gOp2 oEq (gArg (gCall [false,false] (Ψ "says") (gCns #v[1,4] (gCns #v[3,4] gA0)))) #v[0])) (gOp2 oAdd (gArg (gOp2 oIx (zaa 4) (zaa 1))) (gArg (gOp2 oIx (zaa 4) (gArg (gOp2 oAdd (zaa 1) (zaa 2)))))) (gOp2 #v[0,0,0] (gArg (gOp2 oIx (zaa 4) (gArg (gOp2 #v[0,0,0] (zaa 1) (zaa 2))))) (gArg (gOp2 oIx (zaa 4) (zaa 1)))))
noncomputable def za7 (Ψ:Str->Fn):GS:=(gSeq (gSet [] 2 (gOp2 #v[0,0,1] #v[1] (zaa 1))) (gRet (gOpN zbw (gCns (gArg (zbm Ψ)) gA0))))
theorem zgk (Ψ:Str->Fn)(d:Nat):zat T bn Ψ (d+2) za6=some (za7 Ψ):=by kernel_rfl
theorem zgo:T.find? (·.nm == ("near_stepped" : Str))=some za6:=by kernel_rfl
theorem zgi (d:Nat):sem T bn (d+3) "near_stepped" = zah [false,false] 3 (za7 (sem T bn (d+2))):=zcq zgo (zgk _ d)
noncomputable def zcl (Ψ:Str->Fn):GE:=zaz [none,none,some 1] (.nm 1) (zbb (gCns (gArg (gOp2 #v[0,0,1] #v[1] (zaa 0))) gA0)) gYes (gOp2 #v[0,0,0] #v[1] (gArg (gOp2 oMult #v[2] (gArg (gCall [false,false] (Ψ "says") (gCns #v[2,4] (gCns #v[1,4] gA0)))))))
noncomputable def zbf (Ψ:Str->Fn):GS:=(zc4 (gApp 2 (gCall [false,false] (Ψ "near_stepped") (gCns (gArg (gOp2 oIx (zaa 2) (zaa 3))) (gCns #v[3,4] gA0)))))
noncomputable def zce (Ψ:Str->Fn):GS:=gFor [] (.nm 3) (zbb (gCns (zaa 0) gA0)) (zbf Ψ)
noncomputable def zb3 (Ψ:Str->Fn):GS:=(gSeq (gSet [] 2 (zas (gCns (gArg (gOpN zbw (gCns (gArg (zcl Ψ)) gA0))) gA0))) (gSeq (zce Ψ) (gRet (gOpN zbw (gCns (zaa 2) gA0)))))
theorem zk6 (Ψ:Str->Fn)(d:Nat):zat T bn Ψ (d+2) zby=some (zb3 Ψ):=by kernel_rfl
theorem zkn:T.find? (·.nm == ("near_steps" : Str))=some zby:=by kernel_rfl
theorem zjl (d:Nat):sem T bn (d+3) "near_steps" = zah [false,false] 4 (zb3 (sem T bn (d+2))):=zcq zkn (zk6 _ d)
noncomputable def zb2 (Ψ:Str->Fn):GS:=(gRet (gOp2 oIx (gArg (gCall [false,false] (Ψ "near_steps") (gCns #v[0,4] (gCns #v[1,4] gA0)))) (zaa 0)))
theorem zkz (Ψ:Str->Fn)(d:Nat):zat T bn Ψ (d+2) zbt=some (zb2 Ψ):=by kernel_rfl
theorem zj8:T.find? (·.nm == ("agreements" : Str))=some zbt:=by kernel_rfl
theorem zjv (d:Nat):sem T bn (d+3) "agreements" = zah [false,false] 2 (zb2 (sem T bn (d+2))):=zcq zj8 (zkz _ d)
noncomputable def zet (Ψ:Str->Fn):GE:=zaz [none,none,some 2] (.nm 1) (zb5 (gVar 2)) gYes (gOp2 oEq (gArg (gOpN oAbs (gCns (zaa 1) gA0))) (gArg (gOpN oAbs (gCns (gArg (gOp2 oIx (zaa 2) #v[0])) gA0))))
noncomputable def zei (Ψ:Str->Fn):GS:=(gSeq (gSet [] 2 (gCall [false,false] (Ψ "agreements") (gCns #v[0,4] (gCns #v[1,4] gA0)))) (gRet (gOpN (oBl fun bs=>bs.all id) (gCns (gArg (zet Ψ)) gA0))))
theorem ztj (Ψ:Str->Fn)(d:Nat):zat T bn Ψ (d+2) zd9=some (zei Ψ):=by kernel_rfl
theorem zqg:T.find? (·.nm == ("is_bent" : Str))=some zd9:=by kernel_rfl
theorem ztn (d:Nat):sem T bn (d+3) "is_bent" = zah [false,false] 3 (zei (sem T bn (d+2))):=zcq zqg (ztj _ d)
noncomputable def zkr (Ψ:Str->Fn):GS:=(gSeq (zap 1 (gC (.int 0)) (gOp2 oAdd (gArg (gOp2 oIx (zaa 1) #v[0])) (gArg (gOp2 oMult (gArg (gOp2 #v[0,0,2] (gArg (gOpN oAbs (gCns (zaa 3) gA0))) (gArg (gOp2 (oI cPow fun i j=>.int (i ^ j.toNat)) #v[10] #v[60])))) (zaa 2))))) (gSet [] 2 (gOp2 oMult (zaa 2) (gArg (gOp2 (oI cPow fun i j=>.int (i ^ j.toNat)) #v[10] #v[60])))))
noncomputable def zkx (Ψ:Str->Fn):GS:=gFor [] (.nm 3) (zb5 (gSl (zaa 0) zb4 (zfi (gC (.int 63))))) (zkr Ψ)
noncomputable def zk4 (Ψ:Str->Fn):GS:=(gSeq (gSet [] 5 (gOp2 oAdd (gArg (gOp2 oAdd (gArg (gOp2 #v[0,0,2] (zaa 3) #v[2305843009213693951])) (gArg (gOp2 oMult #v[7919] (zaa 4))))) #v[3])) (zap 1 (gC (.int 1)) (gOp2 #v[0,0,2] (gArg (gOp2 oAdd (gArg (gOp2 oMult (gArg (gOp2 oIx (zaa 1) #v[1])) #v[48271])) (zaa 5))) #v[2305843009213693951])))
noncomputable def zix (Ψ:Str->Fn):GS:=gFor [] (.tp [4,3]) (zm7 (gSl (zaa 0) zb4 (zfi (gC (.int 63))))) (zk4 Ψ)
noncomputable def zfw (Ψ:Str->Fn):GS:=(gSeq (gSet [] 1 (zas (gCns #v[0] (gCns #v[0] (gCns #v[0] gA0))))) (gSeq (gIfS (zgt (zak (gOp2 (oI yes2 fun i j=>.bl (decide (j < i))) (gArg (gOpN oLen (gCns (zaa 0) gA0))) #v[0])) (zak (gOp2 (oI yes2 fun i j=>.bl (decide (j<=i))) (gArg (gOp2 oIx (zaa 0) #v[0])) (gArg (gOp2 (oI cPow fun i j=>.int (i ^ j.toNat)) #v[10] #v[18]))))) (gSeq (gSet [] 2 (gC (.int 1))) (zkx Ψ)) zcy) (gSeq (zix Ψ) (zcr [] 1))))
theorem zm0 (Ψ:Str->Fn)(d:Nat):zat T bn Ψ (d+2) zcp=some (zfw Ψ):=by kernel_rfl
theorem zmi:T.find? (·.nm == ("_law_hand" : Str))=some zcp:=by kernel_rfl
theorem zmo (d:Nat):sem T bn (d+3) "_law_hand" = zah [false] 6 (zfw (sem T bn (d+2))):=zcq zmi (zm0 _ d)
noncomputable def zfh (Ψ:Str->Fn):GS:=(gSeq (gIfS (zak (gOp2 (oI yes2 fun i j=>.bl (decide (j < i))) (gArg (gOp2 oIx (zaa 0) #v[0])) #v[0])) (gSeq (gSet [0] 2 (gOp2 #v[0,0,2] (gArg (gOp2 oIx (zaa 0) #v[0])) (zaa 1))) (gSeq (zap 0 (gC (.int 0)) (gOp2 #v[0,0,3] (gArg (gOp2 oIx (zaa 0) #v[0])) (zaa 1))) (zcr [0] 2))) zcy) (gSeq (zap 0 (gC (.int 2)) (gOp2 oAdd (gArg (gOp2 oIx (zaa 0) #v[2])) #v[1])) (gSeq (gSet [0] 3 (gOp2 #v[0,0,2] (gArg (gOp2 oMult (gArg (gOp2 oAdd (gArg (gOp2 oAdd (gArg (gOp2 oIx (zaa 0) #v[1])) (gArg (gOp2 oMult (gArg (gOp2 oMult #v[65537] (gArg (gOp2 oIx (zaa 0) #v[2])))) (gArg (gOp2 oIx (zaa 0) #v[2])))))) #v[11])) #v[48271])) #v[2305843009213693921])) (gSeq (gSet [0] 3 (gOp2 #v[0,0,2] (gArg (gOp2 oMult (zaa 3) (gArg (gOp2 oAdd (gArg (gOp2 #v[0,0,2] (zaa 3) #v[1000003])) (gArg (gOp2 oMult #v[99991] (gArg (gOp2 oIx (zaa 0) #v[2])))))))) #v[2305843009213693907])) (gRet (gOp2 #v[0,0,2] (gArg (gOp2 oAdd (gArg (gOp2 #v[0,0,3] (zaa 3) #v[97])) (gArg (gOp2 #v[0,0,3] (zaa 3) #v[1000033])))) (zaa 1)))))))
theorem zl8 (Ψ:Str->Fn)(d:Nat):zat T bn Ψ (d+2) zcj=some (zfh Ψ):=by kernel_rfl
theorem zlk:T.find? (·.nm == ("_law_take" : Str))=some zcj:=by kernel_rfl
theorem zl9 (d:Nat):sem T bn (d+3) "_law_take" = zah [true,false] 4 (zfh (sem T bn (d+2))):=zcq zlk (zl8 _ d)
noncomputable def zk3 (Ψ:Str->Fn):GS:=(gSeq (gSet [0] 5 (gCall [true,false] (Ψ "_law_take") (gCns (zaa 0) (gCns (gArg (gOp2 oIx (gArg (zas (gCns #v[2] (gCns #v[5] (gCns #v[5] gA0))))) (zaa 2))) gA0)))) (zc4 (gApp 3 (gOp2 oIx (gArg (zas (gCns #v[5,4] (gCns (gArg (gOpN oInt (gCns (gArg (gOp2 oEq (zaa 5) #v[0])) gA0))) (gCns (gArg (gOpN oInt (gCns (gArg (gOp2 (oI yes2 fun i j=>.bl (decide (j < i))) (zaa 5) #v[0])) gA0))) gA0))))) (zaa 2)))))
noncomputable def zk8 (Ψ:Str->Fn):GS:=gFor [0] (.nm 4) (zbb (gCns (zaa 1) gA0)) (zk3 Ψ)
noncomputable def zfj (Ψ:Str->Fn):GS:=(gSeq (gSet [0] 2 (gCall [true,false] (Ψ "_law_take") (gCns (zaa 0) (gCns #v[4] gA0)))) (gSeq (gIfS (zak (gOp2 oEq (zaa 2) #v[3])) (gRet (gOp2 oMult (gArg (zas (gCns (gArg (gCall [true,false] (Ψ "_law_take") (gCns (zaa 0) (gCns #v[2] gA0)))) gA0))) (zaa 1))) zcy) (gSeq (gSet [0] 3 (zas gA0)) (gSeq (zk8 Ψ) (zcr [0] 3)))))
theorem zlj (Ψ:Str->Fn)(d:Nat):zat T bn Ψ (d+2) zcu=some (zfj Ψ):=by kernel_rfl
theorem zle:T.find? (·.nm == ("_law_bits" : Str))=some zcu:=by kernel_rfl
theorem zlf (d:Nat):sem T bn (d+3) "_law_bits" = zah [true,false] 6 (zfj (sem T bn (d+2))):=zcq zle (zlj _ d)
noncomputable def zka (Ψ:Str->Fn):GS:=(gSet [] 1 (gOp2 oAdd (gArg (gOp2 oMult #v[2] (zaa 1))) (zaa 2)))
noncomputable def zi5 (Ψ:Str->Fn):GS:=gFor [] (.nm 2) (gRev (gVar 0)) (zka Ψ)
noncomputable def zf5 (Ψ:Str->Fn):GS:=(gSeq (gSet [] 1 (gC (.int 0))) (gSeq (zi5 Ψ) (zcr [] 1)))
theorem zmh (Ψ:Str->Fn)(d:Nat):zat T bn Ψ (d+2) zcn=some (zf5 Ψ):=by kernel_rfl
theorem zm5:T.find? (·.nm == ("_law_word" : Str))=some zcn:=by kernel_rfl
theorem zmg (d:Nat):sem T bn (d+3) "_law_word" = zah [false] 3 (zf5 (sem T bn (d+2))):=zcq zm5 (zmh _ d)
noncomputable def zho (Ψ:Str->Fn):GE:=zaz [none,none,some 3] (.nm 1) (zb5 (gVar 2)) gYes (gOp2 oAdd (zaa 1) (gArg (zgg (gCns #v[2,4] gA0))))
noncomputable def zio (Ψ:Str->Fn):GS:=(gSet [] 2 (gOp2 oAdd (zaa 2) (gArg (zho Ψ))))
noncomputable def zib (Ψ:Str->Fn):GS:=gFor [] (.nm 3) (zbb (gCns (zaa 0) gA0)) (zio Ψ)
noncomputable def ziq (Ψ:Str->Fn):GE:=zaz [none,none,some 1] (.nm 1) (zb5 (gVar 2)) (zak (gOp2 (oI yes2 fun i j=>.bl (decide (i<=j))) (gArg (gOpN oLen (gCns (zaa 1) gA0))) (zaa 2))) (gVar 1)
noncomputable def zew (Ψ:Str->Fn):GS:=(gSeq (gSet [] 2 (zas (gCns (gArg (zgg gA0)) gA0))) (gSeq (zib Ψ) (gRet (zoe (zgg (gCns (gArg (gOpN oLen (gCns (zaa 0) gA0))) (gCns #v[0,4] gA0))) (gArg (ziq Ψ))))))
theorem zjd (Ψ:Str->Fn)(d:Nat):zat T bn Ψ (d+2) zbu=some (zew Ψ):=by kernel_rfl
theorem zjy:T.find? (·.nm == ("_law_terms" : Str))=some zbu:=by kernel_rfl
theorem zjz (d:Nat):sem T bn (d+3) "_law_terms" = zah [false,false] 4 (zew (sem T bn (d+2))):=zcq zjy (zjd _ d)
noncomputable def zgp (Ψ:Str->Fn):GE:=zaz [none,none,some 2] (.nm 1) (zb5 (gVar 1)) gYes (gOp2 oEq (gArg (gOp2 #v[0,0,2] (gArg (gOp2 #v[0,0,3] (zaa 2) (gArg (gOp2 #v[0,0,1] #v[1] (zaa 1))))) #v[2])) #v[1])
noncomputable def zgn (Ψ:Str->Fn):GE:=zaz [none,none,some 3] (.nm 1) (zb5 (gVar 1)) (zak (gOpN (oBl fun bs=>bs.all id) (gCns (gArg (zgp Ψ)) gA0))) (gVar 1)
noncomputable def zgs (Ψ:Str->Fn):GS:=(gSeq (gSet [] 4 (zgn Ψ)) (zc4 (gApp 2 (gOp2 #v[0,0,2] (gArg (gOpN oLen (gCns (zaa 4) gA0))) #v[2]))))
noncomputable def zgm (Ψ:Str->Fn):GS:=gFor [] (.nm 3) (zbb (gCns (gArg (gOp2 #v[0,0,1] #v[1] (zaa 0))) gA0)) (zgs Ψ)
noncomputable def zed (Ψ:Str->Fn):GS:=(gSeq (gSet [] 2 (zas gA0)) (gSeq (zgm Ψ) (zcr [] 2)))
theorem zhy (Ψ:Str->Fn)(d:Nat):zat T bn Ψ (d+2) zbi=some (zed Ψ):=by kernel_rfl
theorem zhh:T.find? (·.nm == ("_law_values" : Str))=some zbi:=by kernel_rfl
theorem zhc (d:Nat):sem T bn (d+3) "_law_values" = zah [false,false] 5 (zed (sem T bn (d+2))):=zcq zhh (zhy _ d)
noncomputable def zjb (Ψ:Str->Fn):GE:=zaz [none,none,none] (.tp [1,2]) (gZip (gVar 3) (gCall [true,false] (Ψ "_law_bits") (gCns (zaa 0) (gCns (gArg (gOpN oLen (gCns (zaa 3) gA0))) gA0)))) (zak (gOp2 oEq (zaa 2) #v[1])) (gVar 1)
noncomputable def zf2 (Ψ:Str->Fn):GS:=(gSeq (gSet [0] 3 (gCall [false,false] (Ψ "_law_terms") (gCns #v[1,4] (gCns #v[2,4] gA0)))) (gRet (gOpN zbw (gCns (gArg (zjb Ψ)) gA0))))
theorem zmp (Ψ:Str->Fn)(d:Nat):zat T bn Ψ (d+2) zcm=some (zf2 Ψ):=by kernel_rfl
theorem zms:T.find? (·.nm == ("_law_poly" : Str))=some zcm:=by kernel_rfl
theorem zmf (d:Nat):sem T bn (d+3) "_law_poly" = zah [true,false,false] 4 (zf2 (sem T bn (d+2))):=zcq zms (zmp _ d)
noncomputable def zfz (Ψ:Str->Fn):GS:=(gRet (gOp2 oIx (gArg (zas (gCns #v[1] (gCns #v[2] (gCns #v[3] (gCns #v[4] (gCns #v[5] (gCns #v[6] (gCns #v[3] (gCns #v[4] gA0)))))))))) (gArg (gCall [true,false] (Ψ "_law_take") (gCns (zaa 0) (gCns #v[8] gA0))))))
theorem zmw (Ψ:Str->Fn)(d:Nat):zat T bn Ψ (d+2) zct=some (zfz Ψ):=by kernel_rfl
theorem zld:T.find? (·.nm == ("_law_many" : Str))=some zct:=by kernel_rfl
theorem zlr (d:Nat):sem T bn (d+3) "_law_many" = zah [true] 1 (zfz (sem T bn (d+2))):=zcq zld (zmw _ d)
noncomputable def zh3 (Ψ:Str->Fn):GS:=(gSeq (gSet [0] 4 (gCall [true,false] (Ψ "_law_take") (gCns (zaa 0) (gCns (gArg (gOp2 #v[0,0,1] #v[1] (zaa 1))) gA0)))) (zap 2 (gVar 4) (gOp2 #v[0,0,0] #v[1] (gArg (gOp2 oIx (zaa 2) (zaa 4))))))
noncomputable def zh7 (Ψ:Str->Fn):GS:=gFor [0] (.nm 3) (zbb (gCns (gArg (gCall [true,false] (Ψ "_law_take") (gCns (zaa 0) (gCns #v[4] gA0)))) gA0)) (zh3 Ψ)
noncomputable def zex (Ψ:Str->Fn):GS:=(gSeq (gIfS (zak (gOp2 oEq (gArg (gCall [true,false] (Ψ "_law_take") (gCns (zaa 0) (gCns #v[2] gA0)))) #v[0])) (gRet (gCall [true,false] (Ψ "_law_bits") (gCns (zaa 0) (gCns (gArg (gOp2 #v[0,0,1] #v[1] (zaa 1))) gA0)))) zcy) (gSeq (gSet [0] 2 (gCall [false,false] (Ψ "_law_values") (gCns #v[1,4] (gCns (gArg (gCall [true,false,false] (Ψ "_law_poly") (gCns (zaa 0) (gCns #v[1,4] (gCns (gArg (gCall [true,false] (Ψ "_law_take") (gCns (zaa 0) (gCns (gArg (gOp2 oAdd (zaa 1) #v[1])) gA0)))) gA0))))) gA0)))) (gSeq (zh7 Ψ) (zcr [0] 2))))
theorem zkg (Ψ:Str->Fn)(d:Nat):zat T bn Ψ (d+2) zbx=some (zex Ψ):=by kernel_rfl
theorem zky:T.find? (·.nm == ("_law_drawn" : Str))=some zbx:=by kernel_rfl
theorem e__law_drawn (d:Nat):sem T bn (d+3) "_law_drawn" = zah [true,false] 5 (zex (sem T bn (d+2))):=zcq zky (zkg _ d)
noncomputable def zc3 (Ψ:Str->Fn):GE:=zaz [none,none] (.nm 1) (zb5 (gVar 1)) gYes (gOp2 #v[0,0,0] #v[1] (gArg (gOp2 oMult #v[2] (zaa 1))))
noncomputable def zbc (Ψ:Str->Fn):GS:=(gIfS (zak (gOp2 oEq (gArg (gOp2 #v[0,0,2] (gArg (gOp2 #v[0,0,3] (zaa 5) (gArg (gOp2 #v[0,0,1] #v[1] (zaa 3))))) #v[2])) #v[0])) (gSeq (gPar [] 6 7 (gOp2 oIx (zaa 4) (zaa 5)) (gOp2 oIx (zaa 4) (gArg (gOp2 oAdd (zaa 5) (gArg (gOp2 #v[0,0,1] #v[1] (zaa 3))))))) (gSeq (zap 4 (gVar 5) (gOp2 oAdd (zaa 6) (zaa 7))) (zap 4 (gOp2 oAdd (zaa 5) (gArg (gOp2 #v[0,0,1] #v[1] (zaa 3)))) (gOp2 #v[0,0,0] (zaa 6) (zaa 7))))) zcy)
noncomputable def zc0 (Ψ:Str->Fn):GS:=gFor [] (.nm 5) (zbb (gCns (gArg (gOp2 #v[0,0,1] #v[1] (zaa 0))) gA0)) (zbc Ψ)
noncomputable def zb0 (Ψ:Str->Fn):GS:=(gSeq (gSet [] 4 (gOpN zsh (gCns (gArg (gOp2 oIx (zaa 2) (gArg (gOp1 oNeg #v[1])))) gA0))) (gSeq (zc0 Ψ) (zc4 (gApp 2 (gVar 4)))))
noncomputable def zda (Ψ:Str->Fn):GS:=gFor [] (.nm 3) (zbb (gCns (zaa 0) gA0)) (zb0 Ψ)
noncomputable def zc1 (Ψ:Str->Fn):GE:=zaz [none,none] (.nm 1) (zb5 (gVar 2)) gYes (gOpN zbw (gCns (zaa 1) gA0))
noncomputable def zcg (Ψ:Str->Fn):GS:=(gSeq (gSet [] 2 (zas (gCns (gArg (zc3 Ψ)) gA0))) (gSeq (zda Ψ) (gRet (gOpN zbw (gCns (gArg (zc1 Ψ)) gA0)))))
theorem zm1 (Ψ:Str->Fn)(d:Nat):zat T bn Ψ (d+2) zcs=some (zcg Ψ):=by kernel_rfl
theorem zmc:T.find? (·.nm == ("_law_rows" : Str))=some zcs:=by kernel_rfl
theorem zmm (d:Nat):sem T bn (d+3) "_law_rows" = zah [false,false] 8 (zcg (sem T bn (d+2))):=zcq zmc (zm1 _ d)
noncomputable def B1__law_pairs (Ψ:Str->Fn):GS:=(gSeq (gSet [0] 5 (zht 2 (gCall [true,false] (Ψ "_law_take") (gCns (zaa 0) (gCns (gArg (gOpN oLen (gCns (zaa 2) gA0))) gA0))))) (zc4 (gApp 3 (zgg (gCns #v[5,4] (gCns (gArg (zht 2 (gCall [true,false] (Ψ "_law_take") (gCns (zaa 0) (gCns (gArg (gOpN oLen (gCns (zaa 2) gA0))) gA0))))) gA0))))))
noncomputable def zcb (Ψ:Str->Fn):GS:=gFor [0] (.nm 4) (zbb (gCns (gArg (gOp2 #v[0,0,3] (zaa 1) #v[2])) gA0)) (B1__law_pairs Ψ)
noncomputable def zbr (Ψ:Str->Fn):GS:=(gSeq (gSet [0] 2 (zgh (gCns (zaa 1) gA0))) (gSeq (gSet [0] 3 (zas gA0)) (gSeq (zcb Ψ) (zcr [0] 3))))
theorem zks (Ψ:Str->Fn)(d:Nat):zat T bn Ψ (d+2) zbv=some (zbr Ψ):=by kernel_rfl
theorem zjj:T.find? (·.nm == ("_law_pairs" : Str))=some zbv:=by kernel_rfl
theorem zjm (d:Nat):sem T bn (d+3) "_law_pairs" = zah [true,false] 6 (zbr (sem T bn (d+2))):=zcq zjj (zks _ d)
noncomputable def zc8 (Ψ:Str->Fn):GE:=zaz [none,none,some 6] (.nm 1) (zbb (gCns (zaa 1) gA0)) gYes (gOp2 #v[0,0,2] (gArg (gOp2 #v[0,0,3] (zaa 2) (gArg (gOp2 #v[0,0,1] #v[1] (zaa 1))))) #v[2])
noncomputable def zc7 (Ψ:Str->Fn):GE:=zaz [none,none,none,none,some 7] (.nt 1 [2,3]) (zm7 (gVar 2)) gYes (gOp2 oMult (gArg (gOp2 oIx (zaa 4) (zaa 2))) (gArg (gOp2 #v[0,0,1] #v[1] (zaa 1))))
noncomputable def zdc (Ψ:Str->Fn):GE:=zaz [none,none,none,some 7] (.tp [1,2]) (zb5 (gVar 2)) gYes (gOp2 oMult (gArg (gOp2 oIx (zaa 3) (zaa 1))) (gArg (gOp2 oIx (zaa 3) (zaa 2))))
noncomputable def zdh (Ψ:Str->Fn):GE:=zaz [none,none,none] (.tp [1,2]) (gZip (gVar 7) (gVar 4)) gYes (gOp2 oMult (zaa 1) (zaa 2))
noncomputable def zb1 (Ψ:Str->Fn):GS:=(gSeq (gSet [0] 7 (zc8 Ψ)) (gSeq (gSet [0] 8 (gOpN oSum (gCns (gArg (zc7 Ψ)) gA0))) (gSeq (gSet [0] 9 (gOpN oSum (gCns (gArg (zdc Ψ)) gA0))) (gSeq (gSet [0] 10 (gOpN oSum (gCns (gArg (zdh Ψ)) gA0))) (zc4 (gApp 5 (gOp2 #v[0,0,2] (gArg (gOp2 oAdd (gArg (gOp2 oAdd (zaa 9) (zaa 10))) (gArg (gOp2 oIx (zaa 3) (zaa 8))))) #v[2])))))))
noncomputable def zc6 (Ψ:Str->Fn):GS:=gFor [0] (.nm 6) (zbb (gCns (gArg (gOp2 #v[0,0,1] #v[1] (zaa 1))) gA0)) (zb1 Ψ)
noncomputable def zci (Ψ:Str->Fn):GS:=(gSeq (gSet [0] 2 (gCall [true,false] (Ψ "_law_pairs") (gCns (zaa 0) (gCns #v[1,4] gA0)))) (gSeq (gSet [0] 3 (gCall [true,false] (Ψ "_law_bits") (gCns (zaa 0) (gCns (gArg (gOp2 #v[0,0,1] #v[1] (gArg (gOp2 #v[0,0,3] (zaa 1) #v[2])))) gA0)))) (gSeq (gSet [0] 4 (gCall [true,false] (Ψ "_law_bits") (gCns (zaa 0) (gCns #v[1,4] gA0)))) (gSeq (gSet [0] 5 (zas gA0)) (gSeq (zc6 Ψ) (zcr [0] 5))))))
theorem zmt (Ψ:Str->Fn)(d:Nat):zat T bn Ψ (d+2) zcc=some (zci Ψ):=by kernel_rfl
theorem zli:T.find? (·.nm == ("_law_bent" : Str))=some zcc:=by kernel_rfl
theorem zl2 (d:Nat):sem T bn (d+3) "_law_bent" = zah [true,false] 11 (zci (sem T bn (d+2))):=zcq zli (zmt _ d)
noncomputable def zbh (Ψ:Str->Fn):GE:=zaz [none,none] (.nm 1) (zb5 (gVar 2)) gYes (zgg (gCns (gArg (gOpN oAbs (gCns (zaa 1) gA0))) (gCns (gArg (gC (.bl true))) gA0)))
noncomputable def zbs (Ψ:Str->Fn):GS:=(gSeq (gSet [] 2 (gOp2 oIx (gArg (gBor 1 (gCall [false,false] (Ψ "_law_rows") (gCns #v[0,4] (gCns #v[1,4] gA0))))) (gArg (gOp1 oNeg #v[1])))) (gSeq (gSet [] 3 (gOp2 oEq (gArg (gOpN zs0 (gCns (gArg (zgw (zbh Ψ))) gA0))) #v[1])) (gSeq (gSet [] 4 (gCall [false,false] (Ψ "is_bent") (gCns #v[0,4] (gCns (gArg (gBor 1 (gCall [false] (Ψ "_law_word") (gCns #v[1,4] gA0)))) gA0)))) (gRet (gAnd (gOp1 (oIsi .bool) (zaa 4)) (gOp2 oEq (zaa 4) (zaa 3)))))))
theorem zi3 (Ψ:Str->Fn)(d:Nat):zat T bn Ψ (d+2) zbq=some (zbs Ψ):=by kernel_rfl
theorem zjc:T.find? (·.nm == ("_law_right" : Str))=some zbq:=by kernel_rfl
theorem zj5 (d:Nat):sem T bn (d+3) "_law_right" = zah [false,false] 5 (zbs (sem T bn (d+2))):=zcq zjc (zi3 _ d)
noncomputable def zon (Ψ:Str->Fn):GS:=(gSeq (gSet [] 3 (gCall [true] (Ψ "_law_many") (gCns (zaa 1) gA0))) (gSeq (gIfS (zml (zak (gCall [false,false] (Ψ "_law_right") (gCns #v[3,4] (gCns (gArg (gCall [true,false] (Ψ "_law_drawn") (gCns (zaa 1) (gCns #v[3,4] gA0)))) gA0))))) (gRet (gC (.bl false))) zcy) (gSeq (gSet [] 3 (gOp2 oIx (gArg (zas (gCns #v[2] (gCns #v[4] (gCns #v[6] (gCns #v[4] gA0)))))) (gArg (gCall [true,false] (Ψ "_law_take") (gCns (zaa 1) (gCns #v[4] gA0)))))) (gSeq (gSet [] 4 (gCall [true,false] (Ψ "_law_bent") (gCns (zaa 1) (gCns #v[3,4] gA0)))) (gSeq (gIfS (gOrT (zml (zak (gBor 4 (gCall [false,false] (Ψ "_law_right") (gCns #v[3,4] (gCns #v[4,4] gA0)))))) (zak (gOp2 zng (gArg (gCall [false,false] (Ψ "is_bent") (gCns #v[3,4] (gCns (gArg (gBor 4 (gCall [false] (Ψ "_law_word") (gCns #v[4,4] gA0)))) gA0)))) (gArg (gC (.bl true)))))) (gRet (gC (.bl false))) zcy) (gSeq (gSet [] 5 (gCall [true,false] (Ψ "_law_take") (gCns (zaa 1) (gCns (gArg (gOpN oLen (gCns (zaa 4) gA0))) gA0)))) (gSeq (zap 4 (gVar 5) (gOp2 #v[0,0,0] #v[1] (gArg (gOp2 oIx (zaa 4) (zaa 5))))) (gIfS (gOrT (zml (zak (gBor 4 (gCall [false,false] (Ψ "_law_right") (gCns #v[3,4] (gCns #v[4,4] gA0)))))) (zak (gOp2 zng (gArg (gCall [false,false] (Ψ "is_bent") (gCns #v[3,4] (gCns (gArg (gBor 4 (gCall [false] (Ψ "_law_word") (gCns #v[4,4] gA0)))) gA0)))) (gArg (gC (.bl false)))))) (gRet (gC (.bl false))) zcy))))))))
noncomputable def zr7 (Ψ:Str->Fn):GS:=gFor [] (.nm 2) (zbb (gCns #v[4] gA0)) (zon Ψ)
noncomputable def z1s (Ψ:Str->Fn):GS:=(gSeq (gSet [] 1 (gCall [false] (Ψ "_law_hand") (gCns #v[0,4] gA0))) (gSeq (zr7 Ψ) (gRet (gC (.bl true)))))
theorem z6s (Ψ:Str->Fn)(d:Nat):zat T bn Ψ (d+2) zmb=some (z1s Ψ):=by kernel_rfl
theorem z6l:T.find? (·.nm == ("law" : Str))=some zmb:=by kernel_rfl
theorem z6r (d:Nat):sem T bn (d+3) "law" = zah [false] 6 (z1s (sem T bn (d+2))):=zcq z6l (z6s _ d)
theorem seq_e {a b:GS}{en e1:En}{r:Option (En × Fl)}(h1:a en=some (e1,.nx))(h2:b e1=r):gSeq a b en=r:=(seq_nx h1).trans h2
noncomputable def zfd (Φ:Fn):Prop:=∀(m j:Nat) (f:Nat->Int),m<=6->j < m->Φ [.tup (rowW m f),.int (j:Nat)]=some ([.tup (rowW m f),.int (j:Nat)],(.tup (rowW m (zbk j f)),false))
theorem z0d {Ψ:Str->Fn}(hS:ztt (Ψ "says")){m j:Nat}{f:Nat->Int}(hm:m<=6)(hj:j < m):zbm Ψ [#v[(rowW m f),3],#v[(j:Nat),0],#v[((2 ^ j:Nat):Int),0]]=some ([#v[(rowW m f),3],#v[(j:Nat),0],#v[((2 ^ j:Nat):Int),0]],(.lst (rowW m (zbk j f)),true)):=by
 have p6:=ze2 hm;unfold zbm;refine znl (xs:=[#v[((2 ^ j:Nat):Int),0],#v[(j:Nat),0],#v[(rowW m f),3]]) (e0:=[#v[(rowW m f),3],#v[(j:Nat),0],#v[((2 ^ j:Nat):Int),0]]) (ws:=rngW 0 (2 ^ m)) (zdf (by simp! [zfe]) #v[]) (by rw[zav];omega) (by rw[zav,zfe]) rfl rfl rfl (fun _ _=>rfl) fun i v0 w r hw hr=>?_;obtain⟨li,rfl⟩:=za2 hw;rw[Int.zero_add];have er:r=.int (zbk j f i):=by
  unfold rowW at hr;rw[znr li] at hr;cases hr;rfl
 subst er;refine⟨#v[(i:Nat),0],false,?_⟩;have s1:=hS (i:Int) j #v[];have a1:=rowW_at (f:=f) li;have eb:(i:Int) / 2 ^ j % 2=((i / 2 ^ j % 2:Nat):Int):=by norm_cast
 rw[eb] at s1;by_cases c:i / 2 ^ j % 2=0
 ·have a2 := rowW_at (f := f) (up_lt hm hj li c);have ea:(i:Int)+((2 ^ j:Nat):Int)=((i+2 ^ j:Nat):Int):=by omega
  have en:zbk j f i=f i+f (i+2 ^ j):=by unfold zbk;rw[if_pos c]
  rw[c] at s1;rw[en];simp! [s1,a1,ea,a2]
 ·have l := dn_le (j := j) (i := i) #v[];have a2:=rowW_at (m:=m) (f:=f) (p:=i - 2 ^ j) (Nat.lt_of_le_of_lt (Nat.sub_le _ _) li);have ea:(i:Int) - ((2 ^ j:Nat):Int)=((i - 2 ^ j:Nat):Int):=by omega
  have en:zbk j f i=f (i - 2 ^ j) - f i:=by unfold zbk;rw[if_neg c]
  have c1:i / 2 ^ j % 2=1:=by omega
  rw[c1] at s1;rw[en];simp! [s1,a1,ea,a2]
theorem zlg {Ψ:Str->Fn}(hS:ztt (Ψ "says")):zfd (zah [false,false] 3 (za7 Ψ)):=fun m j f hm hj=>by
 have c:=z0d (Ψ:=Ψ) (f:=f) hS hm hj;have p1:=pow1 (l:=j) #v[];have ot:zbw [.lst (rowW m (zbk j f))]=#v[(rowW m (zbk j f)),3]:=rfl;unfold za7;simp! [p1,zaf,c,ot]
noncomputable def rwW (m:Nat) (f:Nat->Int) (k:Nat):List W:=(List.range k).map fun j=>.tup (rowW m (nrF f j))
theorem zyj {m k j:Nat}{f:Nat->Int}(h:j < k):atI (rwW m f k) (j:Int)=some (.tup (rowW m (nrF f j))):=zau (by unfold rwW;rw[List.getElem?_map,List.getElem?_range h];rfl)
theorem zqm (m:Nat)(f:Nat->Int)(k:Nat):(rwW m f k).length=k:=by unfold rwW;rw[List.length_map,List.length_range]
theorem znp (m:Nat)(f:Nat->Int)(k:Nat):rwW m f (k+1)=rwW m f k++[.tup (rowW m (nrF f k))]:=by unfold rwW;rw[List.range_succ,List.map_append];rfl
noncomputable def zx8 (Φ:Fn):Prop:=∀(m:Nat) (xs:List Int),m<=6->Bits xs->Φ [.int (m:Nat),.int (wordOf xs)]=some ([.int (m:Nat),.int (wordOf xs)],(.tup (rwW m (sgF xs) (m+1)),false))
theorem ztz {Ψ:Str->Fn}(hS:ztt (Ψ "says")){m:Nat}{xs:List Int}{v2 v3:Option (W × Bool)}(hm:m<=6)(hx:Bits xs):zcl Ψ [#v[(m:Nat),0],#v[(wordOf xs),0],v2,v3]=some ([#v[(m:Nat),0],#v[(wordOf xs),0],v2,v3],(.lst (rowW m (sgF xs)),true)):=by
 have p6:=ze2 hm;have e1:=pow1 (l:=m) #v[];unfold zcl;refine znl (xs:=[#v[(wordOf xs),0]]) (e0:=[#v[(m:Nat),0],#v[(wordOf xs),0],v2,v3]) (ws:=rngW 0 (2 ^ m)) (zdf (by simp! [e1,zaf]) #v[]) (by rw[zav];omega) (by rw[zav,zfe]) rfl rfl rfl (fun _ _=>rfl) fun i v0 w r hw hr=>?_;obtain⟨li,rfl⟩:=za2 hw;rw[Int.zero_add];have er:r=.int (sgF xs i):=by
  unfold rowW at hr;rw[znr li] at hr;cases hr;rfl
 subst er;refine⟨#v[(i:Nat),0],false,?_⟩;have s1:=hS (wordOf xs) i (zlb hx);rw[zp4 hx] at s1;unfold sgF;simp! [s1,mul2]
theorem zs9 {Ψ:Str->Fn}(hN:zfd (Ψ "near_stepped")){m i:Nat}{f:Nat->Int}{a:Option (W × Bool)}(hm:m<=6)(hi:i < m):zbf Ψ [#v[(m:Nat),0],a,#v[(rwW m f (i+1)),2],#v[(i:Nat),0]]=some ([#v[(m:Nat),0],a,#v[(rwW m f (i+1+1)),2],#v[(i:Nat),0]],.nx):=by
 have n1:=hN m i (nrF f i) hm hi;have a1:=zyj (m:=m) (f:=f) (show i < i+1 by omega);have lt:(i+1 < 16777216)=True:=eq_true #v[];rw[znp m f (i+1)];unfold zbf;simp! [a1,n1,zqm,lt]
 rfl
theorem zrj {Ψ:Str->Fn}(hN:zfd (Ψ "near_stepped")){m:Nat}{f:Nat->Int}{a:Option (W × Bool)}(hm:m<=6):∃v3,zce Ψ [#v[(m:Nat),0],a,#v[(rwW m f 1),2],none]=some ([#v[(m:Nat),0],a,#v[(rwW m f (m+1)),2],v3],.nx):=by
 unfold zce;obtain⟨en',h,v3,rfl⟩:=zbd (mp:=[]) (T:=.nm 3) (body:=zbf Ψ) (fun i e=>∃v3,e=[#v[(m:Nat),0],a,#v[(rwW m f (i+1)),2],v3]) (zdf (a:=zaa 0) (en:=[#v[(m:Nat),0],a,#v[(rwW m f 1),2],none]) (e1:=[#v[(m:Nat),0],a,#v[(rwW m f 1),2],none]) (n:=m) (by simp! []) #v[]) ⟨_,rfl⟩ fun i w e hw hp=>by
  obtain⟨v3,rfl⟩:=hp;obtain⟨li,rfl⟩:=za2 hw;rw[Int.zero_add];exact⟨_,_,rfl,.inl (zs9 hN hm li),_,rfl⟩
 rw[zav] at h;exact⟨v3,h⟩
theorem zrb {Ψ:Str->Fn}(hS:ztt (Ψ "says"))(hN:zfd (Ψ "near_stepped")):zx8 (zah [false,false] 4 (zb3 Ψ)):=fun m xs hm hx=>by
 have c:=ztz (Ψ:=Ψ) (v2:=none) (v3:=none) hS hm hx;obtain⟨v3,l⟩:=zrj (Ψ:=Ψ) (f:=sgF xs) (a:=#v[(wordOf xs),0]) hN hm;have ot:zbw [.lst (rowW m (sgF xs))]=#v[(rowW m (sgF xs)),3]:=rfl;have ot2:zbw [.lst (rwW m (sgF xs) (m+1))]=#v[(rwW m (sgF xs) (m+1)),3]:=rfl;unfold zb3;refine zcw (en:=[#v[(m:Nat),0],#v[(wordOf xs),0],#v[(rwW m (sgF xs) (m+1)),2],v3]) rfl (seq_e (e1:=[#v[(m:Nat),0],#v[(wordOf xs),0],#v[(rwW m (sgF xs) 1),2],none]) ?_ (seq_e l ?_)) rfl
 ·show _ = some ([_, _, some (W.lst [.tup (rowW m (sgF xs))], true), _], Fl.nx);simp! [c,ot]
 ·simp! [ot2]
noncomputable def zs4 (Φ:Fn):Prop:=∀(m:Nat) (xs:List Int),m<=6->Bits xs->Φ [.int (m:Nat),.int (wordOf xs)]=some ([.int (m:Nat),.int (wordOf xs)],(.tup (rowW m (nrF (sgF xs) m)),false))
theorem zs1 {Ψ:Str->Fn}(hN:zx8 (Ψ "near_steps")):zs4 (zah [false,false] 2 (zb2 Ψ)):=fun m xs hm hx=>by
 have n1:=hN m xs hm hx;have a1:=zyj (m:=m) (f:=sgF xs) (show m < m+1 by omega);unfold zb2;simp! [n1,a1]
theorem ztc {xs:List W}{x:W}:atI (xs++[x]) (-1)=some x:=by
 have l:(xs++[x]).length=xs.length+1:=by rw[List.length_append];rfl
 have i:ixN (xs++[x]).length (-1)=some xs.length:=by
  rw[l];unfold ixN;rw[if_neg #v[0,9],if_pos #v[]];congr 1;omega
 unfold atI;rw[i];show (xs++[x])[xs.length]?=_;rw[List.getElem?_append_right (Nat.le_refl _),Nat.sub_self];rfl
noncomputable def rlW (m:Nat) (f:Nat->Int) (k:Nat):List W:=(List.range k).map fun j=>.lst (rowW m (nrF f j))
theorem zif (m:Nat)(f:Nat->Int)(k:Nat):(rlW m f k).length=k:=by unfold rlW;rw[List.length_map,List.length_range]
theorem zog (m:Nat)(f:Nat->Int)(k:Nat):rlW m f (k+1)=rlW m f k++[.lst (rowW m (nrF f k))]:=by unfold rlW;rw[List.range_succ,List.map_append];rfl
noncomputable def z3r (Φ:Fn):Prop:=∀(m:Nat) (xs:List Int),m<=6->xs.length=2 ^ m->Φ [.int (m:Nat),.lst (xs.map W.int)]=some ([.int (m:Nat),.lst (xs.map W.int)],(.tup (rwW m (sgF xs) (m+1)),false))
theorem zug {m a:Nat}{f:Nat->Int}{v:Int}:(rowW m f).set a (.int v)=rowW m fun q=>if q=a then v else f q:=by
 unfold rowW;rw[<-zzn,List.map_set]
theorem ze6 {m:Nat}{f g:Nat->Int}(h:∀q,q < 2 ^ m->f q=g q):rowW m f=rowW m g:=by unfold rowW;rw[z0j h]
theorem zz1 {Ψ:Str->Fn}{m j p:Nat}{g:Nat->Int}{b c v6 v7:Option (W × Bool)}(hm:m<=6)(hj:j < m)(hp:p < 2 ^ m):∃v6' v7',zbc Ψ [#v[(m:Nat),0],b,c,#v[(j:Nat),0],#v[(rowW m (mixF j g p)),2],#v[(p:Nat),0],v6,v7]=some ([#v[(m:Nat),0],b,c,#v[(j:Nat),0],#v[(rowW m (mixF j g (p+1))),2],#v[(p:Nat),0],v6',v7'],.nx):=by
 have e1:=pow1 (l:=j) #v[];have e2:=divP (p:=(p:Int)) (l:=j) #v[];have eb:(p:Int) / ((2 ^ j:Nat):Int) % 2=((p / 2 ^ j % 2:Nat):Int):=by norm_cast
 by_cases h:p / 2 ^ j % 2=0
 ·have lu := up_lt hm hj hp h;rw[h] at eb;have a1:=rowW_at (f:=mixF j g p) hp;have a2:=rowW_at (f:=mixF j g p) lu;have ea:(p:Int)+((2 ^ j:Nat):Int)=((p+2 ^ j:Nat):Int):=by omega
  have pp:0 < 2 ^ j:=Nat.pow_pos #v[0,9];have m1:mixF j g p p=g p:=by unfold mixF;rw[if_pos h,if_neg #v[]]
  have ba:=zhq (j:=j) (p:=p);have m2:mixF j g p (p+2 ^ j)=g (p+2 ^ j):=by
   unfold mixF;rw[if_neg (show ¬ (p+2 ^ j) / 2 ^ j % 2=0 by omega),Nat.add_sub_cancel,if_neg #v[]]
  rw[m1] at a1;rw[m2] at a2;have i1:ixN (2 ^ m) (p:Int)=some p:=zhu hp;have i2:ixN (2 ^ m) ((p+2 ^ j:Nat):Int)=some (p+2 ^ j):=zhu lu;have ex:(rowW m fun q=>if q=p+2 ^ j then g p - g (p+2 ^ j) else if q=p then g p+g (p+2 ^ j) else mixF j g p q)=rowW m (mixF j g (p+1)):=ze6 fun q _=>z5u g h;refine⟨#v[(g p),0],#v[(g (p+2 ^ j)),0],?_⟩;unfold zbc;simp! [e1,zaf,e2,eb,a1,ea,a2,zfe,i1,i2,zug,ex]
 ·have h1 : p / 2 ^ j % 2 = 1 := by omega
  rw[h1] at eb;refine⟨v6,v7,?_⟩;have ex:rowW m (mixF j g (p+1))=rowW m (mixF j g p):=ze6 fun q _=>zuw g h1;rw[ex];unfold zbc;simp! [e1,zaf,e2,eb]
theorem zzh {Ψ:Str->Fn}{m j:Nat}{g:Nat->Int}{b c v5 v6 v7:Option (W × Bool)}(hm:m<=6)(hj:j < m):∃w5 w6 w7,zc0 Ψ [#v[(m:Nat),0],b,c,#v[(j:Nat),0],#v[(rowW m g),2],v5,v6,v7]=some ([#v[(m:Nat),0],b,c,#v[(j:Nat),0],#v[(rowW m (zbk j g)),2],w5,w6,w7],.nx):=by
 have p6:=ze2 hm;have e1:=pow1 (l:=m) #v[];have z:rowW m g=rowW m (mixF j g 0):=ze6 fun q _=>(z6a j g q).symm;rw[z];unfold zc0;obtain⟨en',h,v5,v6,v7,rfl⟩:=zbd (mp:=[]) (T:=.nm 5) (body:=zbc Ψ) (fun i e=>∃v5 v6 v7,e=[#v[(m:Nat),0],b,c,#v[(j:Nat),0],#v[(rowW m (mixF j g i)),2],v5,v6,v7]) (zdf (en:=[#v[(m:Nat),0],b,c,#v[(j:Nat),0],#v[(rowW m (mixF j g 0)),2],v5,v6,v7]) (e1:=[#v[(m:Nat),0],b,c,#v[(j:Nat),0],#v[(rowW m (mixF j g 0)),2],v5,v6,v7]) (a:=gArg (gOp2 #v[0,0,1] #v[1] (zaa 0))) (n:=2 ^ m) (by simp! [e1,zaf]) #v[]) ⟨_,_,_,rfl⟩ fun i w e hw hp=>by
  obtain⟨v5,v6,v7,rfl⟩:=hp;obtain⟨li,rfl⟩:=za2 hw;rw[Int.zero_add];obtain⟨v6',v7',hb⟩:=zz1 (Ψ:=Ψ) (g:=g) (b:=b) (c:=c) (v6:=v6) (v7:=v7) hm hj li;exact⟨_,_,rfl,.inl hb,_,_,_,rfl⟩
 rw[zav,ze6 fun q hq=>z55 g hq] at h;exact⟨v5,v6,v7,h⟩
theorem z0t {Ψ:Str->Fn}{m j:Nat}{f:Nat->Int}{b v4 v5 v6 v7:Option (W × Bool)}(hm:m<=6)(hj:j < m):∃w4 w5 w6 w7,zb0 Ψ [#v[(m:Nat),0],b,#v[(rlW m f (j+1)),2],#v[(j:Nat),0],v4,v5,v6,v7]=some ([#v[(m:Nat),0],b,#v[(rlW m f (j+1+1)),2],#v[(j:Nat),0],w4,w5,w6,w7],.nx):=by
 obtain⟨w5,w6,w7,l⟩:=zzh (Ψ:=Ψ) (g:=nrF f j) (b:=b) (c:=#v[(rlW m f j++[.lst (rowW m (nrF f j))]),2]) (v5:=v5) (v6:=v6) (v7:=v7) hm hj;have ol:zsh [.lst (rowW m (nrF f j))]=#v[(rowW m (nrF f j)),2]:=rfl;have lt:(j+1 < 16777216)=True:=eq_true #v[];have en:zbk j (nrF f j)=nrF f (j+1):=rfl;rw[en] at l;refine⟨#v[(rowW m (nrF f (j+1))),1],w5,w6,w7,?_⟩;rw[zog m f (j+1),zog m f j];unfold zb0;simp! [ztc,ol,l,List.length_append,zif,lt]
theorem zy5 {Ψ:Str->Fn}{m:Nat}{f:Nat->Int}{b:Option (W × Bool)}(hm:m<=6):∃v3 v4 v5 v6 v7,zda Ψ [#v[(m:Nat),0],b,#v[(rlW m f 1),2],none,none,none,none,none]=some ([#v[(m:Nat),0],b,#v[(rlW m f (m+1)),2],v3,v4,v5,v6,v7],.nx):=by
 unfold zda;obtain⟨en',h,v3,v4,v5,v6,v7,rfl⟩:=zbd (mp:=[]) (T:=.nm 3) (body:=zb0 Ψ) (fun i e=>∃v3 v4 v5 v6 v7,e=[#v[(m:Nat),0],b,#v[(rlW m f (i+1)),2],v3,v4,v5,v6,v7]) (zdf (a:=zaa 0) (en:=[#v[(m:Nat),0],b,#v[(rlW m f 1),2],none,none,none,none,none]) (e1:=[#v[(m:Nat),0],b,#v[(rlW m f 1),2],none,none,none,none,none]) (n:=m) (by simp! []) #v[]) ⟨_,_,_,_,_,rfl⟩ fun i w e hw hp=>by
  obtain⟨v3,v4,v5,v6,v7,rfl⟩:=hp;obtain⟨li,rfl⟩:=za2 hw;rw[Int.zero_add];obtain⟨w4,w5,w6,w7,hb⟩:=z0t (Ψ:=Ψ) (f:=f) (b:=b) (v4:=v4) (v5:=v5) (v6:=v6) (v7:=v7) hm li;exact⟨_,_,rfl,.inl hb,_,_,_,_,_,rfl⟩
 rw[zav] at h;exact⟨v3,v4,v5,v6,v7,h⟩
theorem zzr {Ψ:Str->Fn}{m k:Nat}{f:Nat->Int}{a b d e g h i:Option (W × Bool)}(hk:k<=7):zc1 Ψ [a,b,#v[(rlW m f k),2],d,e,g,h,i]=some ([a,b,#v[(rlW m f k),1],d,e,g,h,i],(.lst (rwW m f k),true)):=by
 unfold zc1;refine znl (xs:=[]) (e0:=[a,b,#v[(rlW m f k),1],d,e,g,h,i]) (ws:=rlW m f k) (by simp! []) (by rw[zif];omega) (by rw[zif,zqm]) rfl rfl rfl (fun _ _=>rfl) fun q v0 w r hw hr=>?_;have lq:q < k:=by have:=(List.getElem?_eq_some_iff.mp hw).1;rw[zif] at this;exact this
 unfold rlW at hw;unfold rwW at hr;rw[List.getElem?_map,List.getElem?_range lq] at hw hr;cases hw;cases hr;exact⟨_,_,rfl⟩
theorem z0g (Ψ:Str->Fn):z3r (zah [false,false] 8 (zcg Ψ)):=fun m xs hm hl=>by
 have p6:=ze2 hm;have c1:zc3 Ψ [#v[(m:Nat),0],#v[(xs.map W.int),1],none,none,none,none,none,none]=some ([#v[(m:Nat),0],#v[(xs.map W.int),1],none,none,none,none,none,none],(.lst (rowW m (sgF xs)),true)):=by
  have e:rowW m (sgF xs)=(xs.map fun x=>1 - 2 * x).map W.int:=by
   unfold rowW;rw[<-hl];congr 1;have t:=tab_of xs
   conv=>rhs;rw[<-t]
   unfold tab sgF;rw[List.map_map];rfl
  rw[e];unfold zc3;exact zuk (by simp! []) #v[] fun v0 a _=>by simp! [mul2]
 obtain⟨v3,v4,v5,v6,v7,l3⟩:=zy5 (Ψ:=Ψ) (f:=sgF xs) (b:=#v[(xs.map W.int),1]) hm;have c4:=zzr (Ψ:=Ψ) (m:=m) (k:=m+1) (f:=sgF xs) (a:=#v[(m:Nat),0]) (b:=#v[(xs.map W.int),1]) (d:=v3) (e:=v4) (g:=v5) (h:=v6) (i:=v7) #v[];have ot2:zbw [.lst (rwW m (sgF xs) (m+1))]=#v[(rwW m (sgF xs) (m+1)),3]:=rfl;unfold zcg;refine zcw (en:=[#v[(m:Nat),0],#v[(xs.map W.int),1],#v[(rlW m (sgF xs) (m+1)),1],v3,v4,v5,v6,v7]) rfl (seq_e (e1:=[#v[(m:Nat),0],#v[(xs.map W.int),1],#v[(rlW m (sgF xs) 1),2],none,none,none,none,none]) ?_ (seq_e l3 ?_)) rfl
 ·show _ = some ([_, _, some (W.lst [.lst (rowW m (sgF xs))], true), _, _, _, _, _], Fl.nx);simp! [c1]
 ·simp! [c4,ot2]
theorem zln {α:Type}{cap:Cap}{it:GL}{te:GE}{en e0:En}{ts:List α}{xs:En} (f:α->W) (g:α->W) (hi:it en=some (e0,ts.map f)) (hz:ts.length<=100000) (hn:zbl cap=true) (hk:(capKeep cap).contains 1=false) (hx:zee cap e0=none::none::xs) (hb:∀v0 v1,zan cap e0 (v0::v1::xs)=e0)
    (ht:∀v0 a,a∈ts->∃u b,te (v0::#v[f a,6]::xs)=some (v0::u::xs,(g a,b))) :
    zaz cap (.nm 1) it gYes te en=some (e0,(.lst (ts.map g),true)):=by
  have s9:(100000:Nat)<=sizeLine:=by decide
  obtain ⟨ce',out,hc,hp⟩:=zco (cap:=cap) (T:=.nm 1) (tc:=gYes) (te:=te) (fun i c dn=>(∃v0 v1,c=v0::v1::xs)/\dn=(ts.take i).map g) hi hn (by rw [List.length_map];omega) ⟨⟨_,_,hx⟩,rfl⟩
    (fun i w c dn hw hp=>by
      obtain⟨⟨v0,v1,rfl⟩,rfl⟩:=hp;rw[List.getElem?_map] at hw;cases ha:ts[i]? with
      | none=>rw[ha] at hw;exact noSome hw
      | some a =>
        rw[ha] at hw;obtain rfl:=sI hw;obtain⟨u,b,h1⟩:=ht v0 a (List.mem_of_getElem? ha);have tk:ts.take (i+1)=ts.take i++[a]:=by rw[List.take_succ,ha];rfl
        refine⟨v0::#v[f a,6]::xs,?_,.inl ⟨_,_,_,rfl,h1,⟨_,_,rfl⟩,?_⟩⟩
        · show (if (capKeep cap).contains 1 || !decide (1 < (v0 :: v1 :: xs).length) then none else _) = _
          rw[hk,decide_eq_true (by rw[List.length_cons,List.length_cons];omega)]
          rfl
        · rw[tk,List.map_append];rfl)
  obtain⟨⟨v0,v1,rfl⟩,rfl⟩:=hp;rw[hb,List.length_map,List.take_length] at hc;exact hc
theorem zqy:∀{L:List Nat}{a x:Nat},L[a]?=some x->L.Perm (x::L.eraseIdx a)
 | [],_,_,h=>by cases h
 | y::L,0,x,h=>by obtain rfl:=sI h;exact List.Perm.refl _
 | y::L,a+1,x,h=>((zqy (L:=L) (a:=a) h).cons y).trans (List.Perm.swap x y _)
theorem lr_n {n:Nat}(hn:n<=1000000):lrOk (n:Int)=true:=by
 unfold lrOk;rw[rngN hn,decide_eq_true #v[]];rfl
theorem z1p {as:GAs}{en e1:En}{n:Nat}(h:as en=some (e1,[.inl (.int (n:Nat))]))(hn:n<=1000000):zgh as en=some (e1,(.lst (rngW 0 n),true)):=by
 have:=zvj h rfl (lr_n hn);rw[Int.toNat_natCast] at this;exact this
theorem znx:∀(R:List Nat) (q:Nat),(zbe R).eraseIdx q=zbe (R.eraseIdx q)
 | [],_=>rfl
 | _::_,0=>rfl
 | a::R,q+1=>congrArg (W.int (a:Nat) :: ·) (znx R q)
theorem zra:∀ns:List Int,zfq (ns.map fun n=>W.tup [.int n,.bl true])=some (ns.map fun n=>((Sum.inl n:Key),W.bl true))
  | []=>rfl
  | n::ns=>by
    show (zfq (ns.map fun n=>W.tup [.int n,.bl true])).bind (fun ps=>some (((Sum.inl n:Key),W.bl true)::ps))=_;rw[zra ns];rfl
theorem zxx:∀ns L:List Int,updW (ns.map fun n=>((Sum.inl n:Key),W.bl true)) (L.map dkI) (L.map fun _=>.bl true)=((ns.foldl step_dedup L).map dkI,(ns.foldl step_dedup L).map fun _=>.bl true)
  | [],L=>rfl
  | n::ns,L=>by
    show updW (ns.map fun n=>((Sum.inl n:Key),W.bl true)) (zd0 (L.map dkI) (dkI n)) (zdy (L.map dkI) (L.map fun _=>.bl true) (dkI n) (.bl true))=_;rw[List.foldl_cons,<-zxx ns (step_dedup L n)];by_cases h:n∈L
    · have e:step_dedup L n=L:=by
        unfold step_dedup;rw[if_pos (show (L.any fun y=>y == n)=true from List.any_eq_true.mpr ⟨n,h,beq_self_eq_true n⟩)]
      rw[e,z0r zhj h,zz3 zhj (fun _=>W.bl true) _ h];refine congrArg (updW _ _) (List.map_congr_left fun q _=>?_);split<;>rfl
    · have e:step_dedup L n=L++[n]:=by
        unfold step_dedup;rw[if_neg fun z=>h (by obtain⟨y,hy,q⟩:=List.any_eq_true.mp z;exact (beq_iff_eq.mp q) ▸ hy)]
      rw[e,zw4 zhj h,zxg zhj _ _ h,List.map_append,List.map_append];rfl
theorem zz0 {g:GE}{en e1:En}{us:List W}{fl:Bool}{ps:List (Key × W)}(h:g en=some (e1,(.lst us,fl)))(h2:zfq us=some ps)(hz:ps.length<=sizeLine):zgw g en=some (e1,(.dct (updW ps [] []).1 (updW ps [] []).2,true)):=by
 unfold zgw;rw[h];show (zfq us).bind _=_;rw[h2];show (if ps.length<=sizeLine then _ else none)=_;rw[if_pos hz]
noncomputable def dg (q l:Nat):Int:=((q / 2 ^ l % 2:Nat):Int)
theorem zm2 (q l:Nat):dg q l=if q.testBit l then 1 else 0:=by
 unfold dg;rw[<-Nat.toNat_testBit];cases q.testBit l<;>rfl
theorem dg_x (q r l:Nat):dg (q ^^^ r) l % 2=(dg q l+dg r l) % 2:=by
 rw[zm2,zm2,zm2,Nat.testBit_xor];cases q.testBit l<;>cases r.testBit l<;>rfl
theorem zx5 {q r l:Nat}(h:r.testBit l=false):dg (q ^^^ r) l=dg q l:=by
 rw[zm2,zm2,Nat.testBit_xor,h];cases q.testBit l<;>rfl
theorem dg_ne {q j l:Nat}(h:l≠j):dg (q ^^^ 2 ^ j) l=dg q l:=zx5 (by rw[Nat.testBit_two_pow];exact decide_eq_false fun e=>h e.symm)
theorem zzk {q r l:Nat}(h:r.testBit l=true):dg (q ^^^ r) l=1 - dg q l:=by
 rw[zm2,zm2,Nat.testBit_xor,h];cases q.testBit l<;>rfl
theorem dg_eq (q j:Nat):dg (q ^^^ 2 ^ j) j=1 - dg q j:=zzk (by rw[Nat.testBit_two_pow];exact decide_eq_true rfl)
theorem dg_b (q l:Nat):dg q l=0\/dg q l=1:=by unfold dg;omega
noncomputable def pI (P:List (Nat × Nat)) (q:Nat):Int:=(P.map fun x=>dg q x.1 * dg q x.2).sum
noncomputable def ltP (P:List (Nat × Nat)):List Nat:=P.flatMap fun x=>[x.1,x.2]
theorem zf7 (x:Nat × Nat)(P:List (Nat × Nat))(q:Nat):pI (x::P) q=dg q x.1 * dg q x.2+pI P q:=by unfold pI;rw[List.map_cons,List.sum_cons]
theorem zec (x:Nat × Nat)(P:List (Nat × Nat)):ltP (x::P)=x.1::x.2::ltP P:=rfl
theorem pI_out (q j:Nat):∀P:List (Nat × Nat),j ∉ ltP P->pI P (q ^^^ 2 ^ j)=pI P q
  | [],_=>rfl
  | x::P,h=>by
    rw[zec,List.mem_cons,List.mem_cons,not_or,not_or] at h;rw[zf7,zf7,pI_out q j P h.2.2,dg_ne fun e=>h.1 e.symm,dg_ne fun e=>h.2.1 e.symm]
theorem mem_ltP {P:List (Nat × Nat)}{x:Nat × Nat}(h:x∈P):x.1∈ltP P/\x.2∈ltP P:=⟨List.mem_flatMap.mpr ⟨x,h,List.mem_cons_self⟩,List.mem_flatMap.mpr ⟨x,h,List.mem_cons_of_mem _ List.mem_cons_self⟩⟩
theorem zty {a b:Int}(ha:a=0\/a=1)(hb:b=0\/b=1):(a * (1 - b)) % 2=(a * b+a) % 2:=by
 rcases ha with rfl | rfl<;>rcases hb with rfl | rfl<;>rfl
theorem zj1 (q:Nat):∀(P:List (Nat × Nat)) (x:Nat × Nat),(ltP P).Nodup->x∈P->pI P (q ^^^ 2 ^ x.2) % 2=(pI P q+dg q x.1) % 2/\pI P (q ^^^ 2 ^ x.1) % 2=(pI P q+dg q x.2) % 2
  | [],_,_,h=>nomatch h
  | y::P,x,nd,h=>by
    rw[zec,List.nodup_cons,List.nodup_cons,List.mem_cons,not_or] at nd;obtain⟨⟨n1,n2⟩,n3,n4⟩:=nd;rw[zf7,zf7,zf7];rcases List.mem_cons.mp h with rfl | h
    · rw [pI_out q x.2 P n3, pI_out q x.1 P n2, dg_eq, dg_eq, dg_ne n1, dg_ne fun e => n1 e.symm]
      have a:=zty (dg_b q x.1) (dg_b q x.2);have b:=zty (dg_b q x.2) (dg_b q x.1);rw[Int.mul_comm (dg q x.2),Int.mul_comm (dg q x.2)] at b;omega
    · obtain ⟨m1, m2⟩ := mem_ltP h
      obtain⟨i1,i2⟩:=zj1 q P x n4 h;have e1:y.1≠x.1:=fun e=>n2 (e ▸ m1);have e2:y.1≠x.2:=fun e=>n2 (e ▸ m2);have e3:y.2≠x.1:=fun e=>n3 (e ▸ m1);have e4:y.2≠x.2:=fun e=>n3 (e ▸ m2);rw[dg_ne e1,dg_ne e2,dg_ne e3,dg_ne e4];omega
noncomputable def fs:List (Nat × Nat)->Nat->Nat->Int
 | [],_,_=>0
 | x::P,k,q=>dg q x.1 * (2 ^ k:Nat)+fs P (k+1) q
theorem zkk {q r:Nat}:∀(P:List (Nat × Nat)) (k:Nat),(∀x∈P,r.testBit x.1=false)->fs P k (q ^^^ r)=fs P k q
  | [],_,_=>rfl
  | x::P,k,h=>by
    show dg (q ^^^ r) x.1 * _+fs P (k+1) (q ^^^ r)=dg q x.1 * _+fs P (k+1) q;rw[zx5 (h x List.mem_cons_self),zkk P (k+1) fun y hy=>h y (List.mem_cons_of_mem _ hy)]
noncomputable def dt (c:Nat->Int) (L:List Nat) (q:Nat):Int:=(L.map fun l=>dg q l * c l).sum
theorem dt_x (c:Nat->Int) (q r:Nat):∀L:List Nat,dt c L (q ^^^ r) % 2=(dt c L q+dt c L r) % 2
  | []=>rfl
  | l::L=>by
    unfold dt;rw [List.map_cons,List.map_cons,List.map_cons,List.sum_cons,List.sum_cons,List.sum_cons];have i:=dt_x c q r L;unfold dt at i;have e:(dg (q ^^^ r) l * c l) % 2=(dg q l * c l+dg r l * c l) % 2:=by
      rw[<-Int.add_mul,Int.mul_emod,dg_x,<-Int.mul_emod]
    omega
theorem z5b (m u q:Nat):lin m u q=dt (dg u) (List.range m) q % 2:=by
  have g:∀L:List Nat,((L.filter fun l=>decide (u / 2 ^ l % 2=1) && decide (q / 2 ^ l % 2=1)).length:Int)=dt (dg u) L q:=fun L=>by
    induction L with
    | nil=>rfl
    | cons l L ih =>
      unfold dt at ih ⊢;rw[List.map_cons,List.sum_cons,<-ih,List.filter_cons];unfold dg;rcases Nat.mod_two_eq_zero_or_one (u / 2 ^ l) with h | h<;>rcases Nat.mod_two_eq_zero_or_one (q / 2 ^ l) with h' | h'<;>rw[h,h']
      · show (_:Int)=0 * 0+_;rw[if_neg #v[0,9]];omega
      · show (_:Int)=1 * 0+_;rw[if_neg #v[0,9]];omega
      · show (_:Int)=0 * 1+_;rw[if_neg #v[0,9]];omega
      · show (_:Int)=1 * 1+_;rw[if_pos #v[0,9],List.length_cons];omega
  unfold lin linL;rw[<-g];omega
noncomputable def sg2 (z:Int):Int:=1 - 2 * (z % 2)
theorem zem (a b:Int):sg2 a * sg2 b=sg2 (a+b):=by
 unfold sg2;rcases Int.emod_two_eq a with h | h<;>rcases Int.emod_two_eq b with h' | h'<;>rw[h,h',show (a+b) % 2=_ from (by omega:(a+b) % 2=(a % 2+b % 2) % 2),h,h']<;>rfl
theorem zp9 {a b:Int}(h:a % 2=(b+1) % 2):sg2 a=-sg2 b:=by
 unfold sg2;omega
theorem sum_swap (h:Nat->Nat->Int) (n:Nat):∀m,zac (fun q=>zac (fun s=>h q s) n) m=zac (fun s=>zac (fun q=>h q s) m) n
  | 0=>(zdj n).symm
  | m+1=>by
    show zac (fun q=>zac (fun s=>h q s) n) m+zac (fun s=>h m s) n=_;rw[sum_swap h n m,<-sumTo_plus]
    rfl
theorem zij (c:Int) (f:Nat->Int):∀n,zac (fun i=>c * f i) n=c * zac f n
  | 0=>(Int.mul_zero c).symm
  | n+1=>by
    show zac (fun i=>c * f i) n+c * f n=c * (zac f n+f n);rw[zij c f n,Int.mul_add]
theorem x_lt {m q s:Nat}(hq:q < 2 ^ m)(hs:s < 2 ^ m):q ^^^ s < 2 ^ m:=Nat.xor_lt_two_pow hq hs
theorem z4j {m q:Nat}(hq:q < 2 ^ m):((List.range (2 ^ m)).map (q ^^^ ·)).Perm (List.range (2 ^ m)):=by
 have inj:∀a b:Nat,q ^^^ a=q ^^^ b->a=b:=fun a b e=>by
  have:=congrArg (q ^^^ ·) e;simpa [<-Nat.xor_assoc] using this
 refine (List.perm_ext_iff_of_nodup ?_ List.nodup_range).mpr fun a=>?_
 ·exact List.Pairwise.map _ (fun a b ne e=>ne (inj a b e)) List.nodup_range
 ·rw[List.mem_map, List.mem_range];constructor
  ·rintro ⟨b, hb, rfl⟩;exact x_lt hq (List.mem_range.mp hb)
  ·intro ha;exact⟨q ^^^ a,List.mem_range.mpr (x_lt hq ha),by rw[<-Nat.xor_assoc,Nat.xor_self,Nat.zero_xor]⟩
theorem z2s {m q:Nat}(hq:q < 2 ^ m)(f:Nat->Int):zac (fun s=>f (q ^^^ s)) (2 ^ m)=zac f (2 ^ m):=by
 have p:=zwt f (z4j hq);rw[List.map_map] at p;rw[<-zls,<-zls];exact p
theorem z51 {m:Nat}(k:Nat->Int):zac k (2 ^ m) * zac k (2 ^ m)=zac (fun s=>zac (fun q=>k q * k (q ^^^ s)) (2 ^ m)) (2 ^ m):=by
 rw[<-sum_swap (fun q s=>k q * k (q ^^^ s)),<-zij];refine zai fun q hq=>?_;rw[zij,<-z2s hq k,Int.mul_comm,Int.mul_comm (k q)]
theorem zth:∀(P:List (Nat × Nat)) (x y:Nat × Nat),(ltP P).Nodup->x∈P->y∈P->y.1≠x.2
  | [],_,_,_,h,_=>nomatch h
  | z::P,x,y,nd,hx,hy=>by
    rw[zec,List.nodup_cons,List.nodup_cons,List.mem_cons,not_or] at nd;obtain⟨⟨n1,n2⟩,n3,n4⟩:=nd;rcases List.mem_cons.mp hx with rfl | kx<;>rcases List.mem_cons.mp hy with rfl | ky
    · exact n1
    · exact fun e=>n3 (by rw[<-e];exact (mem_ltP ky).1)
    · exact fun e=>n2 (by rw[e];exact (mem_ltP kx).2)
    · exact zth P x y n4 kx ky
structure Prs (m:Nat) (P:List (Nat × Nat)):Prop where
 nd:(ltP P).Nodup
 all:∀l,l < m->l∈ltP P
 lt:∀l∈ltP P,l < m
noncomputable def hB (P:List (Nat × Nat)) (ℓ:Nat->Int) (al:Int->Int) (q:Nat):Int:=pI P q+ℓ q+al (fs P 0 q)
theorem zsj {s:Nat}(h:s≠0):∃l,s.testBit l=true:=by
 refine Classical.byContradiction fun z=>h (Nat.eq_of_testBit_eq fun i=>?_);rw[Nat.zero_testBit];cases e:s.testBit i with
 | false=>rfl
 | true=>exact absurd ⟨i,e⟩ z
theorem zx7 {j l:Nat}(h:l≠j):(2 ^ j).testBit l=false:=by
 rw[Nat.testBit_two_pow];exact decide_eq_false fun e=>h e.symm
theorem anti {m s:Nat}{P:List (Nat × Nat)}{ℓ:Nat->Int}{al:Int->Int}(hP:Prs m P)(hl:∀q r,ℓ (q ^^^ r) % 2=(ℓ q+ℓ r) % 2)(h0:s≠0)(hs:s < 2 ^ m):∃j,j < m/\∀q,sg2 (hB P ℓ al (q ^^^ 2 ^ j)) * sg2 (hB P ℓ al (q ^^^ 2 ^ j ^^^ s))=-(sg2 (hB P ℓ al q) * sg2 (hB P ℓ al (q ^^^ s))):=by
 have cm:∀q j,q ^^^ 2 ^ j ^^^ s=q ^^^ s ^^^ 2 ^ j:=fun q j=>by rw[Nat.xor_assoc,Nat.xor_comm (2 ^ j),<-Nat.xor_assoc]
 by_cases h1:∃x∈P,s.testBit x.1=true
 ·obtain⟨x, hx, hb⟩ := h1;refine⟨x.2,hP.lt _ (mem_ltP hx).2,fun q=>?_⟩;have p1:=(zj1 q P x hP.nd hx).1;have p2:=(zj1 (q ^^^ s) P x hP.nd hx).1;rw[zzk hb] at p2;have f1:=zkk (q:=q) (r:=2 ^ x.2) P 0 fun y hy=>zx7 (zth P x y hP.nd hx hy);have f2:=zkk (q:=q ^^^ s) (r:=2 ^ x.2) P 0 fun y hy=>zx7 (zth P x y hP.nd hx hy);have l1:=hl q (2 ^ x.2);have l2:=hl (q ^^^ s) (2 ^ x.2);rw[zem,zem,cm];refine zp9 ?_;unfold hB;rw[f1,f2];omega
 ·have h1:∀x∈P,s.testBit x.1=false:=fun x hx=>by
   cases e:s.testBit x.1 with
   | false=>rfl
   | true=>exact absurd ⟨x,hx,e⟩ h1
  obtain⟨l,hb⟩:=zsj h0;have ll:l < m:=by
   refine Classical.byContradiction fun z=>?_;rw[Nat.testBit_lt_two_pow (Nat.lt_of_lt_of_le hs (Nat.pow_le_pow_right #v[0,9] #v[]))] at hb;cases hb
  obtain⟨x,hx,hm⟩:=List.mem_flatMap.mp (hP.all l ll);rw[List.mem_cons,List.mem_singleton] at hm;rcases hm with rfl | rfl
  ·rw[h1 x hx] at hb;cases hb
  refine⟨x.1,hP.lt _ (mem_ltP hx).1,fun q=>?_⟩;have p1:=(zj1 q P x hP.nd hx).2;have p2:=(zj1 (q ^^^ s) P x hP.nd hx).2;rw[zzk hb] at p2;have f1:=zkk (q:=q) P 0 h1;have f2:=zkk (q:=q ^^^ 2 ^ x.1) P 0 h1;rw[cm] at f2;have l1:=hl q (2 ^ x.1);have l2:=hl (q ^^^ s) (2 ^ x.1);rw[zem,zem,cm];refine zp9 ?_;unfold hB;rw[f1,f2];omega
theorem z54 (z:Int):sg2 z * sg2 z=1:=by
 rw[zem];unfold sg2;omega
theorem z0n {m:Nat}{P:List (Nat × Nat)}{ℓ:Nat->Int}{al:Int->Int}(hP:Prs m P)(hl:∀q r,ℓ (q ^^^ r) % 2=(ℓ q+ℓ r) % 2):zac (fun q=>sg2 (hB P ℓ al q)) (2 ^ m) * zac (fun q=>sg2 (hB P ℓ al q)) (2 ^ m)=((2 ^ m:Nat):Int):=by
 have pos:0 < 2 ^ m:=Nat.pow_pos #v[0,9];rw[z51,zai (h:=fun s=>((2 ^ m:Nat):Int) * (if 0=s then 1 else 0)) fun s hs=>?_,zdm,if_pos pos];by_cases e:0=s
 ·subst e;rw [if_pos rfl,zai (h:=fun _=>1 * 1) fun q _=>by rw [Nat.xor_zero];exact z54 _];generalize 2 ^ m=n;have:∀n,zac (fun _=>1 * 1) n=(n:Int) * 1:=fun n=>by
   induction n with
   | zero=>rfl
   | succ n ih=>show zac (fun _=>1 * 1) n+1 * 1=_;rw[ih];omega
  exact this n
 ·rw[if_neg e];obtain⟨j,hj,h⟩:=anti (al:=al) hP hl (fun z=>e z.symm) hs;have x:=z2s (m:=m) (q:=2 ^ j) (Nat.pow_lt_pow_right #v[0,9] hj) fun q=>sg2 (hB P ℓ al q) * sg2 (hB P ℓ al (q ^^^ s));rw[zai (h:=fun q=>0 - sg2 (hB P ℓ al q) * sg2 (hB P ℓ al (q ^^^ s))) fun q _=>by rw[Nat.xor_comm,h q];omega,sumTo_minus,zdj] at x;omega
theorem zv1 {m u:Nat}{P:List (Nat × Nat)}{c:Nat->Int}{al:Int->Int}{F:Nat->Int}(hm:m<=6)(hu:u < 2 ^ m)(hP:Prs m P)(hF:∀q,q < 2 ^ m->F q=sg2 (pI P q+dt c (List.range m) q+al (fs P 0 q))):nrF F m u * nrF F m u=((2 ^ m:Nat):Int):=by
 have e:nrF F m u=zac (fun q=>sg2 (hB P (fun q=>dt c (List.range m) q+dt (dg u) (List.range m) q) al q)) (2 ^ m):=by
  rw[z0z hm hu];refine zai fun q hq=>?_;rw[hF q hq,z5b];show sg2 _ * sg2 _=sg2 _;rw[zem];unfold hB;congr 1;dsimp only;omega
 rw[e];exact z0n hP fun q r=>by
  have a:=dt_x c q r (List.range m);have b:=dt_x (dg u) q r (List.range m);show (dt c (List.range m) (q ^^^ r)+dt (dg u) (List.range m) (q ^^^ r)) % 2=(dt c (List.range m) q+dt (dg u) (List.range m) q+(dt c (List.range m) r+dt (dg u) (List.range m) r)) % 2;omega
theorem znz (n:Nat):rngW 0 n=(List.range n).map fun j=>W.int (j:Nat):=by
 unfold rngW;refine List.map_congr_left fun j _=>?_;rw[Int.zero_add]
theorem zok {α:Type}{cap:Cap}{T:Tg}{it:GL}{te:GE}{en e0:En}{ts:List α} (P:En->Prop) (f g:α->W) (hi:it en=some (e0,ts.map f)) (hz:ts.length<=100000) (hn:zbl cap=true) (h0:P (zee cap e0)) (hb:∀c,P c->zan cap e0 c=e0) (ht:∀c a,P c->a∈ts->∃c1 c2 b,tgSet (capKeep cap) T (f a) c=some c1/\te c1=some (c2,(g a,b))/\P c2):zaz cap T it gYes te en=some (e0,(.lst (ts.map g),true)):=by
  have s9:(100000:Nat)<=sizeLine:=by decide
  obtain ⟨ce',out,hc,hp⟩:=zco (cap:=cap) (T:=T) (tc:=gYes) (te:=te) (fun i c dn=>P c/\dn=(ts.take i).map g) hi hn (by rw [List.length_map];omega) ⟨h0,rfl⟩
    (fun i w c dn hw hp=>by
      obtain⟨hp,rfl⟩:=hp;rw[List.getElem?_map] at hw;cases ha:ts[i]? with
      | none=>rw[ha] at hw;exact noSome hw
      | some a =>
        rw[ha] at hw;obtain rfl:=sI hw;obtain⟨c1,c2,b,h1,h2,h3⟩:=ht c a hp (List.mem_of_getElem? ha);have tk:ts.take (i+1)=ts.take i++[a]:=by rw[List.take_succ,ha];rfl
        exact⟨c1,h1,.inl ⟨_,_,_,rfl,h2,h3,by rw[tk,List.map_append];rfl⟩⟩)
  obtain⟨hp,rfl⟩:=hp;rw[hb _ hp,List.length_map,List.take_length] at hc;exact hc
theorem z19 {a b:Int}(ha:a.natAbs<=64)(hb:b.natAbs<=64):oMult (.int a) (.int b)=#v[(a * b),0]:=by
 have c:cMul a b=true:=by
  unfold cMul;rw[Bool.or_eq_true];exact .inl (by rw[decide_eq_true #v[],decide_eq_true #v[]];rfl)
 have e:oI cMul (fun i j=>.int (i * j)) (.int a) (.int b)=#v[(a * b),0]:=by rw[oI_e,if_pos c]
 show oOr (oI cMul fun i j=>.int (i * j)) _ (.int a) (.int b)=_;unfold oOr;rw[e]
noncomputable def pW2 (x:Nat × Nat):W:=.tup [.int (x.1:Nat),.int (x.2:Nat)]
noncomputable def zqu (Φ:Fn):Prop:=∀(k:Nat) (st:W) (m:Nat),HS k st->k+100 < big->m<=6->∃(st' : W) (P:List (Nat × Nat)) (R:List Nat),Φ [st,.int (m:Nat)]=some ([st',.int (m:Nat)],(.lst (P.map pW2),true))/\HS (k+10) st'/\(ltP P++R).Perm (List.range m)/\P.length=m / 2
theorem zqi {Ψ:Str->Fn}(hT:zd8 (Ψ "_law_take")){k:Nat}{st:W}{R:List Nat}{v1 v3 v4 v5:Option (W × Bool)}(hs:HS k st)(hk:k < big)(h0:0 < R.length)(h9:R.length<=64):∃st' x R',zht 2 (gCall [true,false] (Ψ "_law_take") (gCns (zaa 0) (gCns (gArg (gOpN oLen (gCns (zaa 2) gA0))) gA0))) [#v[st,5],v1,#v[(zbe R),2],v3,v4,v5]=some ([#v[st',5],v1,#v[(zbe R'),2],v3,v4,v5],(.int (x:Nat),false))/\HS (k+1) st'/\R.Perm (x::R'):=by
 have s9:(1000:Nat) < sizeLine:=by decide
 obtain⟨st2,q,e2,g2,q0,q1⟩:=hT k st ((R.length:Nat):Int) hs hk #v[] #v[];obtain⟨q,rfl⟩:=Int.eq_ofNat_of_zero_le q0;have ql:q < R.length:=Int.ofNat_lt.mp q1;have hq:R[q]?=some R[q]:=List.getElem?_eq_getElem ql;have hc:(zbe R)[q]?=some (.int (R[q]:Nat)):=by unfold zbe;rw[List.getElem?_map,hq];rfl
 have lc:(zbe R).length=R.length:=zs2 R;have gc:gCall [true,false] (Ψ "_law_take") (gCns (zaa 0) (gCns (gArg (gOpN oLen (gCns (zaa 2) gA0))) gA0)) [#v[st,5],v1,#v[(zbe R),2],v3,v4,v5]=some ([#v[st2,5],v1,#v[(zbe R),2],v3,v4,v5],(.int (q:Nat),false)):=by
  simp! [lc,e2]
 have pp:=z7h (i:=2) (en:=[#v[st,5],v1,#v[(zbe R),2],v3,v4,v5]) rfl gc rfl hc (by rw[lc];omega);rw[znx] at pp;exact⟨st2,R[q],R.eraseIdx q,pp,g2,zqy hq⟩
theorem ltP_app (P Q:List (Nat × Nat)):ltP (P++Q)=ltP P++ltP Q:=List.flatMap_append
theorem zw5 {Ψ:Str->Fn}(hT:zd8 (Ψ "_law_take")){k m:Nat}{st:W}{P:List (Nat × Nat)}{R:List Nat}{v1 v4 v5:Option (W × Bool)}(hs:HS k st)(hk:k+2 < big)(hP:P.length<=3)(h0:2<=R.length)(pm:(ltP P++R).Perm (List.range m))(hm:m<=6):∃st' P' R' w5,B1__law_pairs Ψ [#v[st,5],v1,#v[(zbe R),2],#v[(P.map pW2),2],v4,v5]=some ([#v[st',5],v1,#v[(zbe R'),2],#v[(P'.map pW2),2],v4,w5],.nx)/\HS (k+2) st'/\(ltP P'++R').Perm (List.range m)/\P'.length=P.length+1:=by
 have pl:=pm.length_eq;rw[List.length_append,List.length_range] at pl;obtain⟨st1,x,R1,p1,g1,m1⟩:=zqi hT (v1:=v1) (v3:=#v[(P.map pW2),2]) (v4:=v4) (v5:=v5) (R:=R) hs #v[] #v[] #v[];have l1:=m1.length_eq;rw[List.length_cons] at l1;obtain⟨st2,y,R2,p2,g2,m2⟩:=zqi hT (v1:=v1) (v3:=#v[(P.map pW2),2]) (v4:=v4) (v5:=#v[(x:Nat),0]) (R:=R1) g1 #v[] #v[] #v[];have lt:(P.length < 16777216)=True:=eq_true #v[];refine⟨st2,P++[(x,y)],R2,#v[(x:Nat),0],?_,g2,?_,by rw[List.length_append];rfl⟩
 ·unfold B1__law_pairs;refine seq_e (e1:=[#v[st1,5],v1,#v[(zbe R1),2],#v[(P.map pW2),2],v4,#v[(x:Nat),0]]) (zf3 p1 rfl) ?_;rw[List.map_append];generalize zht 2 (gCall [true,false] (Ψ "_law_take") (gCns (zaa 0) (gCns (gArg (gOpN oLen (gCns (zaa 2) gA0))) gA0)))=G at p2 ⊢;simp! [p2,List.length_map,lt]
  rfl
 ·rw[ltP_app, List.append_assoc];exact (((m1.trans (m2.cons x)).symm).append_left (ltP P)).trans pm
theorem zut {Ψ:Str->Fn}(hT:zd8 (Ψ "_law_take")):zqu (zah [true,false] 6 (zbr Ψ)):=fun k st m hs hk hm=>by
 have lr:zgh (gCns (zaa 1) gA0) [#v[st,5],#v[(m:Nat),0],none,none,none,none]=some ([#v[st,5],#v[(m:Nat),0],none,none,none,none],(.lst (zbe (List.range m)),true)):=by
  rw[show zbe (List.range m)=rngW 0 m from (znz m).symm];exact z1p (n:=m) (by simp! []) #v[]
 have e2:(m:Int) / 2=((m / 2:Nat):Int):=by omega
 have cd:cDiv (m:Int) 2=true:=by
  unfold cDiv;rfl
 have lp:∃st' P R v4 v5,zcb Ψ [#v[st,5],#v[(m:Nat),0],#v[(zbe (List.range m)),2],#v[[],2],none,none]=some ([#v[st',5],#v[(m:Nat),0],#v[(zbe R),2],#v[(P.map pW2),2],v4,v5],.nx)/\HS (k+2 * (m / 2)) st'/\(ltP P++R).Perm (List.range m)/\P.length=m / 2:=by
  unfold zcb;obtain⟨en',h,st',P,R,v4,v5,rfl,g,pm,pl⟩:=zbd (mp:=[0]) (T:=.nm 4) (body:=B1__law_pairs Ψ) (fun i e=>∃st' P R v4 v5,e=[#v[st',5],#v[(m:Nat),0],#v[(zbe R),2],#v[(P.map pW2),2],v4,v5]/\HS (k+2 * i) st'/\(ltP P++R).Perm (List.range m)/\P.length=i) (zdf (a:=gArg (gOp2 #v[0,0,3] (zaa 1) #v[2])) (en:=[#v[st,5],#v[(m:Nat),0],#v[(zbe (List.range m)),2],#v[[],2],none,none]) (e1:=[#v[st,5],#v[(m:Nat),0],#v[(zbe (List.range m)),2],#v[[],2],none,none]) (n:=m / 2) (by simp! [cd,e2]) #v[]) ⟨_,[],List.range m,_,_,rfl,hs,.refl _,rfl⟩ fun i w e hw hp=>by
   obtain⟨st',P,R,v4,v5,rfl,g,pm,pl⟩:=hp;obtain⟨li,rfl⟩:=za2 hw;have l2:=pm.length_eq;have lP:∀P:List (Nat × Nat),(ltP P).length=2 * P.length:=fun P=>by
    induction P with
    | nil=>rfl
    | cons x P ih=>rw[zec,List.length_cons,List.length_cons,ih,List.length_cons];omega
   rw[List.length_append,List.length_range,lP] at l2;obtain⟨st2,P2,R2,w5,hb,g2,pm2,pl2⟩:=zw5 (Ψ:=Ψ) hT (v1:=#v[(m:Nat),0]) (v4:=#v[(0+(i:Int)),0]) (v5:=v5) g #v[] #v[] #v[] pm hm;exact⟨_,_,rfl,.inl hb,_,_,_,_,_,rfl,g2.mono #v[],pm2,by omega⟩
  rw[zav] at g pl;exact⟨_,_,_,_,_,h,g,pm,pl⟩
 obtain⟨st',P,R,v4,v5,lp,g,pm,pl⟩:=lp;refine⟨st',P,R,?_,g.mono #v[],pm,pl⟩;unfold zbr;refine zcw (en:=[#v[st',5],#v[(m:Nat),0],#v[(zbe R),2],none,v4,v5]) rfl (seq_e (e1:=[#v[st,5],#v[(m:Nat),0],#v[(zbe (List.range m)),2],none,none,none]) (zf3 lr rfl) (seq_e (e1:=[#v[st,5],#v[(m:Nat),0],#v[(zbe (List.range m)),2],#v[[],2],none,none]) ?_ (seq_e lp ?_))) rfl
 ·simp! []
 ·simp! []
theorem dgI (p l:Nat):(p:Int) / ((2 ^ l:Nat):Int) % 2=dg p l:=by
 unfold dg;norm_cast
noncomputable def dgW (m p:Nat):W:=.lst (((List.range m).map (dg p)).map W.int)
theorem zqd {m p l:Nat}(h:l < m):atI (((List.range m).map (dg p)).map W.int) (l:Int)=some (.int (dg p l)):=zau (by rw[List.getElem?_map,List.getElem?_map,List.getElem?_range h];rfl)
theorem z1h {Ψ:Str->Fn}{m p:Nat}{v0 v2 v3 v4 v5 v7 v8 v9 v10:Option (W × Bool)}(hm:m<=6):zc8 Ψ [v0,#v[(m:Nat),0],v2,v3,v4,v5,#v[(p:Nat),0],v7,v8,v9,v10]=some ([v0,#v[(m:Nat),0],v2,v3,v4,v5,#v[(p:Nat),0],v7,v8,v9,v10],(dgW m p,true)):=by
 unfold zc8 dgW;rw[List.map_map];refine zln (xs:=[#v[(p:Nat),0]]) (e0:=[v0,#v[(m:Nat),0],v2,v3,v4,v5,#v[(p:Nat),0],v7,v8,v9,v10]) (ts:=List.range m) (fun j=>W.int (j:Nat)) (W.int ∘ dg p) (by rw[<-znz];exact zdf (a:=zaa 1) (by simp! []) #v[]) (by rw[List.length_range];omega) rfl rfl rfl (fun _ _=>rfl) fun u0 l hl=>?_;have ll:=List.mem_range.mp hl;have e1:=pow1 (l:=l) #v[];have e2:=divP (p:=(p:Int)) (l:=l) #v[];refine⟨#v[(l:Nat),0],false,?_⟩;show _=some ([u0,#v[(l:Nat),0],#v[(p:Nat),0]],(W.int (dg p l),false));simp! [e1,zaf,e2,dgI]
noncomputable def enP:List (Nat × Nat)->Nat->List (Nat × Nat × Nat)
 | [],_=>[]
 | x::P,k=>(k,x)::enP P (k+1)
theorem z5s:∀(P:List (Nat × Nat)) (k:Nat),zgc (P.map pW2) k=(enP P k).map fun y=>W.tup [.int (y.1:Nat),pW2 y.2]
 | [],_=>rfl
 | x::P,k=>congrArg (W.tup [.int (k:Nat),pW2 x] :: ·) (z5s P (k+1))
theorem zx4 (q:Nat):∀(P:List (Nat × Nat)) (k:Nat),((enP P k).map fun y=>dg q y.2.1 * ((2 ^ y.1:Nat):Int)).sum=fs P k q
  | [],_=>rfl
  | x::P,k=>by
    show (_::List.map _ (enP P (k+1))).sum=dg q x.1 * _+fs P (k+1) q;rw[List.sum_cons,zx4 q P (k+1)]
theorem enP_in:∀(P:List (Nat × Nat)) (k:Nat) (y:Nat × Nat × Nat),y∈enP P k->y.2∈P/\y.1 < k+P.length
  | [],_,_,h=>nomatch h
  | x::P,k,y,h=>by
    rcases List.mem_cons.mp h with rfl | h
    · exact⟨List.mem_cons_self,by show k < k+(P.length+1);omega⟩
    · obtain ⟨a, b⟩ := enP_in P (k + 1) y h
      exact⟨List.mem_cons_of_mem _ a,by show y.1 < k+(P.length+1);omega⟩
theorem zrm:∀(P:List (Nat × Nat)) (k:Nat),(enP P k).length=P.length
 | [],_=>rfl
 | x::P,k=>congrArg (· + 1) (zrm P (k+1))
theorem z53 (q:Nat):∀(P:List (Nat × Nat)) (k:Nat),0<=fs P k q/\fs P k q+((2 ^ k:Nat):Int)<=((2 ^ (k+P.length):Nat):Int)
  | [],k=>⟨Int.le_refl _,by show 0+_<=_;rw[Int.zero_add];exact Int.le_refl _⟩
  | x::P,k=>by
    obtain⟨a,b⟩:=z53 q P (k+1);have e:k+1+P.length=k+(x::P).length:=by rw[List.length_cons];omega
    rw[e,Nat.pow_succ] at b;show 0<=dg q x.1 * _+fs P (k+1) q/\dg q x.1 * _+fs P (k+1) q+_<=_;rcases dg_b q x.1 with h | h<;>rw[h]
    · omega
    · omega
theorem ze7 (q l:Nat):(dg q l).natAbs<=64:=by rcases dg_b q l with h | h<;>rw[h]<;>decide
theorem zzd {Ψ:Str->Fn}{m p:Nat}{P:List (Nat × Nat)}{b b7:Bool}{v0 v1 v3 v4 v5 v6 v8 v9 v10:Option (W × Bool)}(hP:P.length<=3)(hl:∀l∈ltP P,l < m):zc7 Ψ [v0,v1,some (.lst (P.map pW2),b),v3,v4,v5,v6,some (dgW m p,b7),v8,v9,v10]=some ([v0,v1,#v[(P.map pW2),1],v3,v4,v5,v6,some (dgW m p,b7),v8,v9,v10],(.lst (((enP P 0).map fun y=>dg p y.2.1 * ((2 ^ y.1:Nat):Int)).map W.int),true)):=by
 unfold zc7;rw[List.map_map];refine zok (fun c=>∃u0 u1 u2 u3,c=[u0,u1,u2,u3,some (dgW m p,b7)]) (e0:=[v0,v1,#v[(P.map pW2),1],v3,v4,v5,v6,some (dgW m p,b7),v8,v9,v10]) (ts:=enP P 0) (fun y=>W.tup [.int (y.1:Nat),pW2 y.2]) (W.int ∘ fun y=>dg p y.2.1 * ((2 ^ y.1:Nat):Int)) ?_ (by rw[zrm];omega) rfl ⟨_,_,_,_,rfl⟩ (fun c ⟨_,_,_,_,e⟩=>by rw[e];rfl) fun c y hc hy=>?_
 ·rw[<-z5s];cases b<;>rfl
 ·obtain⟨u0, u1, u2, u3, rfl⟩ := hc;obtain⟨y1,y2⟩:=enP_in P 0 y hy;have i1:=zqd (p:=p) (hl _ (mem_ltP y1).1);have e1:=pow1 (l:=y.1) #v[];have mm:=z19 (a:=dg p y.2.1) (b:=((2 ^ y.1:Nat):Int)) (ze7 _ _) (by rw[Int.natAbs_natCast];have:2 ^ y.1<=2 ^ 3:=Nat.pow_le_pow_right #v[0,9] #v[];omega);refine⟨[u0,#v[(y.1:Nat),0],#v[(y.2.1:Nat),0],#v[(y.2.2:Nat),0],some (dgW m p,b7)],[u0,#v[(y.1:Nat),0],#v[(y.2.1:Nat),0],#v[(y.2.2:Nat),0],some (dgW m p,b7)],false,rfl,?_,_,_,_,_,rfl⟩;show _=some ([u0,#v[(y.1:Nat),0],#v[(y.2.1:Nat),0],#v[(y.2.2:Nat),0],some (dgW m p,b7)],(W.int (dg p y.2.1 * ((2 ^ y.1:Nat):Int)),false));unfold dgW;cases b7<;>simp! [i1,e1,zaf,mm]
theorem z15 {Ψ:Str->Fn}{m p:Nat}{P:List (Nat × Nat)}{b b7:Bool}{v0 v1 v3 v4 v5 v6 v8 v9 v10:Option (W × Bool)}(hP:P.length<=3)(hl:∀l∈ltP P,l < m):zdc Ψ [v0,v1,some (.lst (P.map pW2),b),v3,v4,v5,v6,some (dgW m p,b7),v8,v9,v10]=some ([v0,v1,#v[(P.map pW2),1],v3,v4,v5,v6,some (dgW m p,b7),v8,v9,v10],(.lst ((P.map fun x=>dg p x.1 * dg p x.2).map W.int),true)):=by
 unfold zdc;rw[List.map_map];refine zok (fun c=>∃u0 u1 u2,c=[u0,u1,u2,some (dgW m p,b7)]) (e0:=[v0,v1,#v[(P.map pW2),1],v3,v4,v5,v6,some (dgW m p,b7),v8,v9,v10]) (ts:=P) pW2 (W.int ∘ fun x=>dg p x.1 * dg p x.2) ?_ #v[] rfl ⟨_,_,_,rfl⟩ (fun c ⟨_,_,_,e⟩=>by rw[e];rfl) fun c y hc hy=>?_
 ·cases b<;>rfl
 ·obtain⟨u0, u1, u2, rfl⟩ := hc;have i1:=zqd (p:=p) (hl _ (mem_ltP hy).1);have i2:=zqd (p:=p) (hl _ (mem_ltP hy).2);have mm:=z19 (ze7 p y.1) (ze7 p y.2);refine⟨[u0,#v[(y.1:Nat),0],#v[(y.2:Nat),0],some (dgW m p,b7)],[u0,#v[(y.1:Nat),0],#v[(y.2:Nat),0],some (dgW m p,b7)],false,rfl,?_,_,_,_,rfl⟩;show _=some ([u0,#v[(y.1:Nat),0],#v[(y.2:Nat),0],some (dgW m p,b7)],(W.int (dg p y.1 * dg p y.2),false));unfold dgW;cases b7<;>simp! [i1,i2,mm]
noncomputable def ltC (ts:List Int) (l:Nat):Int:=ts.getD l 0
theorem z2l {m p:Nat}{ts:List Int}(hl:ts.length=m):(List.zipWith (fun x y=>x * y) ((List.range m).map (dg p)) ts)=(List.range m).map fun l=>dg p l * ltC ts l:=by
 refine List.ext_getElem (by simp [hl]) fun i h1 h2=>?_;rw[List.getElem_zipWith,List.getElem_map,List.getElem_map,List.getElem_range];unfold ltC;rw[List.getD_eq_getElem?_getD,List.getElem?_eq_getElem (by simp at h2;omega)]
 rfl
theorem zyv {Ψ:Str->Fn}{m p:Nat}{ts:List Int}{b b7:Bool}{v0 v1 v2 v3 v5 v6 v8 v9 v10:Option (W × Bool)}(hm:m<=6)(hl:ts.length=m)(ht:Bits ts):zdh Ψ [v0,v1,v2,v3,some (.lst (ts.map W.int),b),v5,v6,some (dgW m p,b7),v8,v9,v10]=some ([v0,v1,v2,v3,#v[(ts.map W.int),1],v5,v6,#v[dgW m p,6],v8,v9,v10],(.lst (((List.range m).map fun l=>dg p l * ltC ts l).map W.int),true)):=by
 unfold zdh;have q:=zvi (it:=gZip (gVar 7) (gVar 4)) (te:=gOp2 oMult (zaa 1) (zaa 2)) (en:=[v0,v1,v2,v3,some (.lst (ts.map W.int),b),v5,v6,some (dgW m p,b7),v8,v9,v10]) (e0:=[v0,v1,v2,v3,#v[(ts.map W.int),1],v5,v6,#v[dgW m p,6],v8,v9,v10]) (xs:=(List.range m).map (dg p)) (ys:=ts) (f:=fun x y=>x * y) (by unfold dgW;cases b<;>cases b7<;>rfl) (by rw[List.length_map,List.length_range];omega) fun u0 x y hx hy=>by
  obtain⟨l,_,rfl⟩:=List.mem_map.mp hx;have mm:=z19 (ze7 p l) (b:=y) (by rcases ht y hy with h | h<;>rw[h]<;>decide);simp! [mm]
 rw[q,z2l hl]
noncomputable def bnF (m:Nat) (P:List (Nat × Nat)) (ts ys:List Int) (p:Nat):Int:=(pI P p+dt (ltC ts) (List.range m) p+ltC ys (fs P 0 p).toNat) % 2
theorem z1v {Ψ:Str->Fn}{m p:Nat}{P:List (Nat × Nat)}{ts ys:List Int}{g:List Int}{b b3 b4:Bool}{v0 v7 v8 v9 v10:Option (W × Bool)}(hm:m<=6)(hP:P.length<=3)(hl:∀l∈ltP P,l < m)(lt:ts.length=m)(ht:Bits ts)(ly:ys.length=2 ^ P.length)(hg:g.length < 64):∃w7 w8 w9 w10,zb1 Ψ [v0,#v[(m:Nat),0],some (.lst (P.map pW2),b),some (.lst (ys.map W.int),b3),some (.lst (ts.map W.int),b4),#v[(g.map W.int),2],#v[(p:Nat),0],v7,v8,v9,v10]=some ([v0,#v[(m:Nat),0],#v[(P.map pW2),1],some (.lst (ys.map W.int),b3),#v[(ts.map W.int),1],#v[((g++[bnF m P ts ys p]).map W.int),2],#v[(p:Nat),0],w7,w8,w9,w10],.nx):=by
 have c1:=z1h (Ψ:=Ψ) (m:=m) (p:=p) (v0:=v0) (v2:=some (.lst (P.map pW2),b)) (v3:=some (.lst (ys.map W.int),b3)) (v4:=some (.lst (ts.map W.int),b4)) (v5:=#v[(g.map W.int),2]) (v7:=v7) (v8:=v8) (v9:=v9) (v10:=v10) hm;have c2:=zzd (Ψ:=Ψ) (m:=m) (p:=p) (P:=P) (b:=b) (b7:=true) (v0:=v0) (v1:=#v[(m:Nat),0]) (v3:=some (.lst (ys.map W.int),b3)) (v4:=some (.lst (ts.map W.int),b4)) (v5:=#v[(g.map W.int),2]) (v6:=#v[(p:Nat),0]) (v8:=v8) (v9:=v9) (v10:=v10) hP hl;have s2:=zma ((enP P 0).map fun y=>dg p y.2.1 * ((2 ^ y.1:Nat):Int));rw[zx4] at s2;have c3:=z15 (Ψ:=Ψ) (m:=m) (p:=p) (P:=P) (b:=false) (b7:=true) (v0:=v0) (v1:=#v[(m:Nat),0]) (v3:=some (.lst (ys.map W.int),b3)) (v4:=some (.lst (ts.map W.int),b4)) (v5:=#v[(g.map W.int),2]) (v6:=#v[(p:Nat),0]) (v8:=#v[(fs P 0 p),0]) (v9:=v9) (v10:=v10) hP hl;have s3:oSum [.lst ((P.map fun x=>dg p x.1 * dg p x.2).map W.int)]=#v[(pI P p),0]:=zma _;have c4:=zyv (Ψ:=Ψ) (m:=m) (p:=p) (ts:=ts) (b:=b4) (b7:=true) (v0:=v0) (v1:=#v[(m:Nat),0]) (v2:=#v[(P.map pW2),1]) (v3:=some (.lst (ys.map W.int),b3)) (v5:=#v[(g.map W.int),2]) (v6:=#v[(p:Nat),0]) (v8:=#v[(fs P 0 p),0]) (v9:=#v[(pI P p),0]) (v10:=v10) hm lt ht;have s4:oSum [.lst (((List.range m).map fun l=>dg p l * ltC ts l).map W.int)]=#v[(dt (ltC ts) (List.range m) p),0]:=zma _;obtain⟨f0,f1⟩:=z53 p P 0;rw[Nat.zero_add] at f1;have fl:(fs P 0 p).toNat < ys.length:=by rw[ly];omega
 have i3:atI (ys.map W.int) (fs P 0 p)=some (.int (ltC ys (fs P 0 p).toNat)):=by
  conv=>lhs;arg 2;rw[<-Int.toNat_of_nonneg f0]
  refine zau ?_;unfold ltC;rw[List.getElem?_map,List.getD_eq_getElem?_getD,List.getElem?_eq_getElem fl]
  rfl
 have l16:(g.length < 16777216)=True:=eq_true #v[];refine⟨#v[dgW m p,6],#v[(fs P 0 p),0],#v[(pI P p),0],#v[(dt (ltC ts) (List.range m) p),0],?_⟩;unfold zb1;rw[List.map_append];unfold bnF;refine seq_e (e1:=[v0,#v[(m:Nat),0],some (.lst (P.map pW2),b),some (.lst (ys.map W.int),b3),some (.lst (ts.map W.int),b4),#v[(g.map W.int),2],#v[(p:Nat),0],#v[dgW m p,5],v8,v9,v10]) (zf3 c1 rfl) (seq_e (e1:=[v0,#v[(m:Nat),0],#v[(P.map pW2),1],some (.lst (ys.map W.int),b3),some (.lst (ts.map W.int),b4),#v[(g.map W.int),2],#v[(p:Nat),0],#v[dgW m p,5],#v[(fs P 0 p),0],v9,v10]) ?_ (seq_e (e1:=[v0,#v[(m:Nat),0],#v[(P.map pW2),1],some (.lst (ys.map W.int),b3),some (.lst (ts.map W.int),b4),#v[(g.map W.int),2],#v[(p:Nat),0],#v[dgW m p,5],#v[(fs P 0 p),0],#v[(pI P p),0],v10]) ?_ (seq_e (e1:=[v0,#v[(m:Nat),0],#v[(P.map pW2),1],some (.lst (ys.map W.int),b3),#v[(ts.map W.int),1],#v[(g.map W.int),2],#v[(p:Nat),0],#v[dgW m p,6],#v[(fs P 0 p),0],#v[(pI P p),0],#v[(dt (ltC ts) (List.range m) p),0]]) ?_ ?_)))
 ·simp! [c2,s2]
 ·simp! [c3,s3]
 ·simp! [c4,s4]
 ·cases b3<;>simp! [i3,List.length_map,l16,List.map_cons,List.map_nil]
theorem z5k {m:Nat}{P:List (Nat × Nat)}(h:(ltP P).Perm (List.range m)):Prs m P:=⟨h.nodup_iff.mpr List.nodup_range,fun _ hl=>h.mem_iff.mpr (List.mem_range.mpr hl),fun _ hl=>List.mem_range.mp (h.mem_iff.mp hl)⟩
theorem zta:∀P:List (Nat × Nat),(ltP P).length=2 * P.length
 | []=>rfl
 | x::P=>by rw[zec,List.length_cons,List.length_cons,zta P,List.length_cons];omega
noncomputable def z3d (Φ:Fn):Prop:=∀(k:Nat) (st:W) (m:Nat),HS k st->k+300 < big->m=2\/m=4\/m=6->∃(st' : W) (P:List (Nat × Nat)) (ts ys:List Int),Φ [st,.int (m:Nat)]=some ([st',.int (m:Nat)],(.lst ((tab (2 ^ m) (bnF m P ts ys)).map W.int),true))/\HS (k+150) st'/\Prs m P
theorem zvc {Ψ:Str->Fn}(hP:zqu (Ψ "_law_pairs"))(hB:zk9 (Ψ "_law_bits")):z3d (zah [true,false] 11 (zci Ψ)):=fun k st m hs hk hm=>by
 have h6:m<=6:=by omega
 have p6:=ze2 h6;obtain⟨st1,P,R,e1,g1,pm,pl⟩:=hP k st m hs #v[] h6;have l2:=pm.length_eq;rw[List.length_append,List.length_range,zta] at l2;have r0:R=[]:=List.length_eq_zero_iff.mp #v[];subst r0;rw[List.append_nil] at pm;have pr:=z5k pm;have ph:2 ^ (m / 2)<=64:=Nat.le_trans (Nat.pow_le_pow_right #v[0,9] #v[]) p6;obtain⟨st2,ys,e2,g2,ly,_⟩:=hB (k+10) st1 ((2 ^ (m / 2):Nat):Int) g1 #v[] (Int.natCast_nonneg _) (Int.ofNat_le.mpr ph);obtain⟨st3,ts,e3,g3,lt,bt⟩:=hB (k+10+66) st2 (m:Nat) g2 #v[] #v[] #v[];have q1:=pow1 (l:=m / 2) #v[];have q2:=pow1 (l:=m) #v[];have cd:cDiv (m:Int) 2=true:=by unfold cDiv;rfl
 have em:(m:Int) / 2=((m / 2:Nat):Int):=by omega
 have lp:∃b2 b4 v6 v7 v8 v9 v10,zc6 Ψ [#v[st3,5],#v[(m:Nat),0],#v[(P.map pW2),2],#v[(ys.map W.int),2],#v[(ts.map W.int),2],#v[[],2],none,none,none,none,none]=some ([#v[st3,5],#v[(m:Nat),0],some (.lst (P.map pW2),b2),#v[(ys.map W.int),2],some (.lst (ts.map W.int),b4),#v[((tab (2 ^ m) (bnF m P ts ys)).map W.int),2],v6,v7,v8,v9,v10],.nx):=by
  unfold zc6;obtain⟨en',h,b2,b4,v6,v7,v8,v9,v10,rfl⟩:=zbd (mp:=[0]) (T:=.nm 6) (body:=zb1 Ψ) (fun i e=>∃b2 b4 v6 v7 v8 v9 v10,e=[#v[st3,5],#v[(m:Nat),0],some (.lst (P.map pW2),b2),#v[(ys.map W.int),2],some (.lst (ts.map W.int),b4),#v[((tab i (bnF m P ts ys)).map W.int),2],v6,v7,v8,v9,v10]) (zdf (a:=gArg (gOp2 #v[0,0,1] #v[1] (zaa 1))) (en:=[#v[st3,5],#v[(m:Nat),0],#v[(P.map pW2),2],#v[(ys.map W.int),2],#v[(ts.map W.int),2],#v[[],2],none,none,none,none,none]) (e1:=[#v[st3,5],#v[(m:Nat),0],#v[(P.map pW2),2],#v[(ys.map W.int),2],#v[(ts.map W.int),2],#v[[],2],none,none,none,none,none]) (n:=2 ^ m) (by simp! [q2,zaf]) #v[]) ⟨_,_,_,_,_,_,_,rfl⟩ fun i w e hw hp=>by
   obtain⟨b2,b4,v6,v7,v8,v9,v10,rfl⟩:=hp;obtain⟨li,rfl⟩:=za2 hw;rw[Int.zero_add];obtain⟨w7,w8,w9,w10,hb⟩:=z1v (Ψ:=Ψ) (m:=m) (p:=i) (P:=P) (ts:=ts) (ys:=ys) (g:=tab i (bnF m P ts ys)) (b:=b2) (b3:=true) (b4:=b4) (v0:=#v[st3,5]) (v7:=v7) (v8:=v8) (v9:=v9) (v10:=v10) h6 #v[] pr.lt #v[] bt (by rw[pl];omega) (by rw[tab_len];omega);rw[<-zig] at hb;exact⟨_,_,rfl,.inl hb,_,_,_,_,_,_,_,rfl⟩
  rw[zav] at h;exact⟨_,_,_,_,_,_,_,h⟩
 obtain⟨b2,b4,v6,v7,v8,v9,v10,lp⟩:=lp;refine⟨st3,P,ts,ys,?_,g3.mono #v[],pr⟩;unfold zci;refine zcw (en:=[#v[st3,5],#v[(m:Nat),0],some (.lst (P.map pW2),b2),#v[(ys.map W.int),2],some (.lst (ts.map W.int),b4),none,v6,v7,v8,v9,v10]) rfl (seq_e (e1:=[#v[st1,5],#v[(m:Nat),0],#v[(P.map pW2),2],none,none,none,none,none,none,none,none]) ?_ (seq_e (e1:=[#v[st2,5],#v[(m:Nat),0],#v[(P.map pW2),2],#v[(ys.map W.int),2],none,none,none,none,none,none,none]) ?_ (seq_e (e1:=[#v[st3,5],#v[(m:Nat),0],#v[(P.map pW2),2],#v[(ys.map W.int),2],#v[(ts.map W.int),2],none,none,none,none,none,none]) ?_ (seq_e (e1:=[#v[st3,5],#v[(m:Nat),0],#v[(P.map pW2),2],#v[(ys.map W.int),2],#v[(ts.map W.int),2],#v[[],2],none,none,none,none,none]) ?_ (seq_e lp ?_))))) rfl
 ·simp! [e1]
 ·simp! [cd,em,q1,zaf,e2]
 ·simp! [e3]
 ·simp! []
 ·simp! []
noncomputable def abI (i:Int):Int:=if i < 0 then -i else i
theorem ab_e (i:Int):oAbs [.int i]=#v[(abI i),0]:=rfl
theorem zw2 (i:Int):abI i * abI i=i * i:=by
 unfold abI;split
 ·rw[Int.neg_mul_neg]
 ·rfl
theorem z6u {i j:Int}(h:i * i=j * j):abI i=abI j:=by
 have a:0<=abI i:=by unfold abI;split<;>omega
 have b:0<=abI j:=by unfold abI;split<;>omega
 rw[<-zw2 i,<-zw2 j] at h;generalize abI i=x at *
 generalize abI j=y at *
 rcases Int.lt_trichotomy x y with c | c | c
 ·have:=Int.mul_lt_mul' (Int.le_of_lt c) c a #v[];omega
 ·exact c
 ·have:=Int.mul_lt_mul' (Int.le_of_lt c) c b #v[];omega
noncomputable def bentB (n:Nat) (f:Nat->Int):Bool:=((tab n f).map fun w=>decide (abI w=abI (f 0))).all id
noncomputable def znm (Φ:Fn):Prop:=∀(m:Nat) (xs:List Int),m<=6->Bits xs->Φ [.int (m:Nat),.int (wordOf xs)]=some ([.int (m:Nat),.int (wordOf xs)],(.bl (bentB (2 ^ m) (nrF (sgF xs) m)),false))
theorem zqn {Ψ:Str->Fn}(hA:zs4 (Ψ "agreements")):znm (zah [false,false] 3 (zei Ψ)):=fun m xs hm hx=>by
 have e:=hA m xs hm hx;have p6:=ze2 hm;have pos:0 < 2 ^ m:=Nat.pow_pos #v[0,9];have i0:atI (rowW m (nrF (sgF xs) m)) 0=some (.int (nrF (sgF xs) m 0)):=rowW_at (p:=0) pos;have c:zet Ψ [#v[(m:Nat),0],#v[(wordOf xs),0],#v[(rowW m (nrF (sgF xs) m)),3]]=some ([#v[(m:Nat),0],#v[(wordOf xs),0],#v[(rowW m (nrF (sgF xs) m)),3]],(.lst (((tab (2 ^ m) (nrF (sgF xs) m)).map fun w=>decide (abI w=abI (nrF (sgF xs) m 0))).map W.bl),true)):=by
  unfold zet;rw[List.map_map];exact zln (xs:=[#v[(rowW m (nrF (sgF xs) m)),3]]) (e0:=[#v[(m:Nat),0],#v[(wordOf xs),0],#v[(rowW m (nrF (sgF xs) m)),3]]) (ts:=tab (2 ^ m) (nrF (sgF xs) m)) W.int (W.bl ∘ fun w=>decide (abI w=abI (nrF (sgF xs) m 0))) rfl (by rw[tab_len];omega) rfl rfl rfl (fun _ _=>rfl) fun u0 a _=>⟨#v[a,0],false,by
   show _=some ([u0,#v[a,0],#v[(rowW m (nrF (sgF xs) m)),3]],(W.bl (decide (abI a=abI (nrF (sgF xs) m 0))),false));simp! [i0,ab_e]⟩
 unfold zei bentB;refine zcw (en:=[#v[(m:Nat),0],#v[(wordOf xs),0],#v[(rowW m (nrF (sgF xs) m)),3]]) rfl (seq_e (e1:=[#v[(m:Nat),0],#v[(wordOf xs),0],#v[(rowW m (nrF (sgF xs) m)),3]]) ?_ ?_) rfl
 ·simp! [e]
 ·simp! [c]
theorem zyn {i:Nat}{g:GE}{en:En}{w:W}(h:en[i]?=some (#v[w,6])):gBor i g en=g en:=by unfold gBor;rw[h];cases w<;>rfl
theorem bor_e {i:Nat}{g:GE}{en e1:En}{ws:List W}{u:W}(h:en[i]?=some (#v[ws,2]))(h1:g (en.set i (#v[ws,1]))=some (e1,(u,false)))(hl:e1.length=en.length)(hu:zh4 u=true):gBor i g en=some ((List.zipWith borX en e1).set i (#v[ws,2]),(u,false)):=by
 unfold gBor;rw[h];show (g _).bind _=_;rw[h1];exact if_pos ⟨hl,hu,rfl⟩
theorem zkb (a:Int):∀ns:List Int,(∀n∈ns,n=a)->ns.foldl step_dedup [a]=[a]
  | [],_=>rfl
  | n::ns,h=>by
    obtain rfl:=h n List.mem_cons_self;rw [List.foldl_cons];have e:step_dedup [n] n=[n]:=by
      unfold step_dedup;rw[if_pos (show ([n].any fun y=>y == n)=true from List.any_eq_true.mpr ⟨n,List.mem_cons_self,beq_self_eq_true n⟩)]
    rw[e];exact zkb n ns fun x hx=>h x (List.mem_cons_of_mem _ hx)
theorem zkf (x:Int):∀(ns L:List Int),x∈ns\/x∈L->x∈ns.foldl step_dedup L
  | [],L,h=>h.elim (fun z=>nomatch z) id
  | n::ns,L,h=>by
    rw [List.foldl_cons];refine zkf x ns _ ?_;have sub:∀y∈L,y∈step_dedup L n:=fun y hy=>by
      unfold step_dedup;split
      · exact hy
      · exact List.mem_append_left _ hy
    rcases h with h | h
    · rcases List.mem_cons.mp h with rfl | h
      · refine .inr ?_
        unfold step_dedup;split
        · rename_i z
          obtain⟨y,hy,q⟩:=List.any_eq_true.mp z;exact (beq_iff_eq.mp q) ▸ hy
        · exact List.mem_append_right _ List.mem_cons_self
      · exact .inl h
    · exact .inr (sub x h)
theorem zsy {ns:List Int}{a:Int} (h0:ns.head?=some a):decide (((ns.foldl step_dedup []).length:Int)=1)=(ns.map fun w=>decide (w=a)).all id:=by
  obtain ⟨r,rfl⟩ : ∃r,ns=a::r:=by
    cases ns with
    | nil=>cases h0
    | cons x r=>obtain rfl:=sI h0;exact⟨r,rfl⟩
  have e:(a::r).foldl step_dedup []=r.foldl step_dedup [a]:=rfl;cases c:((a::r).map fun w=>decide (w=a)).all id with
  | true =>
    have h:∀n∈r,n=a:=fun n hn=>of_decide_eq_true (List.all_eq_true.mp c (decide (n=a)) (List.mem_map.mpr ⟨n,List.mem_cons_of_mem _ hn,rfl⟩));rw[e,zkb a r h];rfl
  | false =>
    refine decide_eq_false fun z=>?_;have z:(r.foldl step_dedup [a]).length=1:=by rw[e] at z;omega
    obtain ⟨y,hy⟩:=List.length_eq_one_iff.mp z;have all:∀x,x∈a::r->x=y:=fun x hx=>by
      have:=zkf x (a::r) [] (.inl hx);rw[e,hy] at this;exact List.mem_singleton.mp this
    have ay:=all a List.mem_cons_self;rw [List.all_eq_true.mpr fun b hb=>by
      obtain⟨x,hx,rfl⟩:=List.mem_map.mp hb;exact decide_eq_true ((all x hx).trans ay.symm)] at c
    cases c
theorem zvz {n:Nat}(h:0 < n)(f:Nat->Int):(tab n f).head?=some (f 0):=by
 unfold tab;cases n with
 | zero=>omega
 | succ n=>rw[List.range_succ_eq_map];rfl
noncomputable def zqp (Φ:Fn):Prop:=∀(m:Nat) (xs:List Int),m<=6->xs.length=2 ^ m->Bits xs->Φ [.int (m:Nat),.lst (xs.map W.int)]=some ([.int (m:Nat),.lst (xs.map W.int)],(.bl true,false))
theorem zwv {Ψ:Str->Fn}(hR:z3r (Ψ "_law_rows"))(hI:znm (Ψ "is_bent"))(hW:znc (Ψ "_law_word")):zqp (zah [false,false] 5 (zbs Ψ)):=fun m xs hm hl hx=>by
 have p6:=ze2 hm;have pos:0 < 2 ^ m:=Nat.pow_pos #v[0,9];have e1:=hR m xs hm hl;have e2:=hI m xs hm hx;have e3:=hW xs;have al:atI (rwW m (sgF xs) (m+1)) (-1)=some (.tup (rowW m (nrF (sgF xs) m))):=by rw[znp];exact ztc
 have b1:gBor 1 (gCall [false,false] (Ψ "_law_rows") (gCns #v[0,4] (gCns #v[1,4] gA0))) [#v[(m:Nat),0],#v[(xs.map W.int),1],none,none,none]=some ([#v[(m:Nat),0],#v[(xs.map W.int),1],none,none,none],(.tup (rwW m (sgF xs) (m+1)),false)):=by
  rw[zyn (w:=.lst (xs.map W.int)) rfl];simp! [e1]
 generalize hr:rowW m (nrF (sgF xs) m)=row at al;have c1:zbh Ψ [#v[(m:Nat),0],#v[(xs.map W.int),1],#v[row,3],none,none]=some ([#v[(m:Nat),0],#v[(xs.map W.int),1],#v[row,3],none,none],(.lst (((tab (2 ^ m) (nrF (sgF xs) m)).map abI).map fun n=>W.tup [.int n,.bl true]),true)):=by
  subst hr;unfold zbh;rw[List.map_map];exact zln (xs:=[]) (e0:=[#v[(m:Nat),0],#v[(xs.map W.int),1],#v[(rowW m (nrF (sgF xs) m)),3],none,none]) (ts:=tab (2 ^ m) (nrF (sgF xs) m)) W.int ((fun n=>W.tup [.int n,.bl true]) ∘ abI) rfl (by rw[tab_len];omega) rfl rfl rfl (fun _ _=>rfl) fun u0 a _=>⟨#v[a,0],false,by
   show _=some ([u0,#v[a,0]],(W.tup [.int (abI a),.bl true],false));simp! [ab_e]⟩
 have un:=zxx ((tab (2 ^ m) (nrF (sgF xs) m)).map abI) [];have s9:(1000:Nat) < sizeLine:=by decide
 have lz:((((tab (2 ^ m) (nrF (sgF xs) m)).map abI).map fun n=>((Sum.inl n:Key),W.bl true)).length)<=sizeLine:=by
  rw[List.length_map,List.length_map,tab_len];omega
 have dl:=zz0 c1 (zra _) lz;rw[show updW (((tab (2 ^ m) (nrF (sgF xs) m)).map abI).map fun n=>((Sum.inl n:Key),W.bl true)) [] []=_ from un] at dl;have le:zs0 [.dct ((((tab (2 ^ m) (nrF (sgF xs) m)).map abI).foldl step_dedup []).map dkI) ((((tab (2 ^ m) (nrF (sgF xs) m)).map abI).foldl step_dedup []).map fun _=>.bl true)]=#v[((((tab (2 ^ m) (nrF (sgF xs) m)).map abI).foldl step_dedup []).length:Nat),0]:=by
  show (if _=_ then _ else none)=_;rw[List.length_map,List.length_map,if_pos rfl]
 have dd:decide (((((tab (2 ^ m) (nrF (sgF xs) m)).map abI).foldl step_dedup []).length:Int)=1)=bentB (2 ^ m) (nrF (sgF xs) m):=by
  rw[zsy (a:=abI (nrF (sgF xs) m 0)) (by rw[List.head?_map,zvz pos];rfl),List.map_map]
  rfl
 have b2:gBor 1 (gCall [false] (Ψ "_law_word") (gCns #v[1,4] gA0)) [#v[(m:Nat),0],#v[(xs.map W.int),1],#v[row,3],some (.bl (bentB (2 ^ m) (nrF (sgF xs) m)),false),none]=some ([#v[(m:Nat),0],#v[(xs.map W.int),1],#v[row,3],some (.bl (bentB (2 ^ m) (nrF (sgF xs) m)),false),none],(.int (wordOf xs),false)):=by
  rw[zyn (w:=.lst (xs.map W.int)) rfl];simp! [e3]
 unfold zbs;generalize gBor 1 (gCall [false,false] (Ψ "_law_rows") (gCns #v[0,4] (gCns #v[1,4] gA0)))=G1 at b1 ⊢;generalize gBor 1 (gCall [false] (Ψ "_law_word") (gCns #v[1,4] gA0))=G2 at b2 ⊢;generalize zgw (zbh Ψ)=G3 at dl ⊢;refine zcw (en:=[#v[(m:Nat),0],#v[(xs.map W.int),1],#v[row,3],some (.bl (bentB (2 ^ m) (nrF (sgF xs) m)),false),some (.bl (bentB (2 ^ m) (nrF (sgF xs) m)),false)]) rfl (seq_e (e1:=[#v[(m:Nat),0],#v[(xs.map W.int),1],#v[row,3],none,none]) ?_ (seq_e (e1:=[#v[(m:Nat),0],#v[(xs.map W.int),1],#v[row,3],some (.bl (bentB (2 ^ m) (nrF (sgF xs) m)),false),none]) ?_ (seq_e (e1:=[#v[(m:Nat),0],#v[(xs.map W.int),1],#v[row,3],some (.bl (bentB (2 ^ m) (nrF (sgF xs) m)),false),some (.bl (bentB (2 ^ m) (nrF (sgF xs) m)),false)]) ?_ ?_))) rfl
 ·simp! [b1,al]
 ·simp! [dl,le,dd]
 ·simp! [b2,e2]
 ·generalize bentB (2 ^ m) (nrF (sgF xs) m) = z;cases z<;>rfl
theorem zqo:∀n,zac (fun _=>1) n=(n:Int)
  | 0=>rfl
  | n+1=>by
    show zac (fun _=>1) n+1=_;rw[zqo n];omega
theorem z7c {m q:Nat}{P:List (Nat × Nat)}{ts ys:List Int}(hq:q < 2 ^ m):sgF (tab (2 ^ m) (bnF m P ts ys)) q=sg2 (pI P q+dt (ltC ts) (List.range m) q+ltC ys (fs P 0 q).toNat):=by
 unfold sgF sg2;rw[List.getD_eq_getElem?_getD,tab_get hq]
 rfl
theorem z6f {m u:Nat}{P:List (Nat × Nat)}{ts ys:List Int}(hm:m<=6)(hu:u < 2 ^ m)(hP:Prs m P):nrF (sgF (tab (2 ^ m) (bnF m P ts ys))) m u * nrF (sgF (tab (2 ^ m) (bnF m P ts ys))) m u=((2 ^ m:Nat):Int) :=
 zv1 (c:=ltC ts) (al:=fun z=>ltC ys z.toNat) hm hu hP fun q hq=>z7c hq
theorem zzf (m:Nat)(P:List (Nat × Nat))(ts ys:List Int):Bits (tab (2 ^ m) (bnF m P ts ys)):=fun x hx=>by
 unfold tab at hx;obtain⟨p,_,rfl⟩:=List.mem_map.mp hx;unfold bnF;omega
theorem z5w {m:Nat}{f:Nat->Int}(h:∀u,u < 2 ^ m->f u * f u=((2 ^ m:Nat):Int)):bentB (2 ^ m) f=true:=by
 have pos:0 < 2 ^ m:=Nat.pow_pos #v[0,9];unfold bentB;refine List.all_eq_true.mpr fun b hb=>?_;obtain⟨w,hw,rfl⟩:=List.mem_map.mp hb;unfold tab at hw;obtain⟨u,hu,rfl⟩:=List.mem_map.mp hw;exact decide_eq_true (z6u ((h u (List.mem_range.mp hu)).trans (h 0 pos).symm))
theorem zzz {xs:List Int}{a q:Nat}(ha:a < xs.length):sgF (xs.set a (1 - xs.getD a 0)) q=sgF xs q - 2 * sgF xs q * (if a=q then 1 else 0):=by
 unfold sgF;rw[List.getD_eq_getElem?_getD,List.getD_eq_getElem?_getD,List.getD_eq_getElem?_getD];by_cases e:a=q
 ·subst e;rw[List.getElem?_set_self ha,if_pos rfl];show 1 - 2 * (1 - (xs[a]?).getD 0)=_;omega
 ·rw[List.getElem?_set_ne e, if_neg e];omega
theorem z4f {m a:Nat}{xs:List Int} (hm:m<=6) (h2:2<=m) (hx:Bits xs) (hx' : Bits (xs.set a (1 - xs.getD a 0))) (hl:xs.length=2 ^ m) (ha:a < 2 ^ m) (h:∀u,u < 2 ^ m->nrF (sgF xs) m u * nrF (sgF xs) m u=((2 ^ m:Nat):Int)):bentB (2 ^ m) (nrF (sgF (xs.set a (1 - xs.getD a 0))) m)=false:=by
  have pos:0 < 2 ^ m:=Nat.pow_pos #v[0,9];have p4:2 ^ 2<=2 ^ m:=Nat.pow_le_pow_right #v[0,9] h2;generalize hF:sgF (xs.set a (1 - xs.getD a 0))=F at *
  have w0:nrF F m 0=nrF (sgF xs) m 0 - 2 * (sgF xs a * (1 - 2 * lin m 0 a)):=by
    rw [z0z hm pos,z0z hm pos,zai (h:=fun q=>sgF xs q * (1 - 2 * lin m 0 q) - (2 * (sgF xs q * (1 - 2 * lin m 0 q))) * (if a=q then 1 else 0)) fun q _=>by
      rw[<-hF,zzz #v[]];by_cases e:a=q
      · rw[if_pos e,Int.mul_one,Int.mul_one,Int.sub_mul,Int.mul_assoc]
      · rw[if_neg e,Int.mul_zero,Int.mul_zero,Int.sub_zero,Int.sub_zero]]
    rw[sumTo_minus,zdm,if_pos ha]
  have e0:=h 0 pos;have sq1:(sgF xs a * (1 - 2 * lin m 0 a)=1)\/(sgF xs a * (1 - 2 * lin m 0 a)=-1):=by
    have a1:sgF xs a=1\/sgF xs a=-1:=by
      unfold sgF;rcases getD_bit hx a with z | z<;>rw[z]
      · exact .inl rfl
      · exact .inr rfl
    have a2:(1 - 2 * lin m 0 a)=1\/(1 - 2 * lin m 0 a)=-1:=by
      rcases zz7 m 0 a with z | z<;>rw[z]
      · exact .inl rfl
      · exact .inr rfl
    rcases a1 with z | z<;>rcases a2 with y | y<;>rw[z,y]
    · exact .inl rfl
    · exact .inr rfl
    · exact .inr rfl
    · exact .inl rfl
  cases c:bentB (2 ^ m) (nrF F m) with
  | false=>rfl
  | true =>
    have all:∀u,u < 2 ^ m->nrF F m u * nrF F m u=nrF F m 0 * nrF F m 0:=fun u hu=>by
      have:=List.all_eq_true.mp c (decide (abI (nrF F m u)=abI (nrF F m 0))) (List.mem_map.mpr ⟨nrF F m u,by unfold tab;exact List.mem_map.mpr ⟨u,List.mem_range.mpr hu,rfl⟩,rfl⟩);rw[<-zw2,<-zw2 (nrF F m 0),of_decide_eq_true this]
    have s:=zyh (m:=m) F m (Nat.le_refl _);rw[zai (h:=fun _=>nrF F m 0 * nrF F m 0 * 1) fun u hu=>by rw[all u hu,Int.mul_one],zij,zqo] at s;rw[<-hF,z4h hx'] at s;rw[hF] at s;have nz:((2 ^ m:Nat):Int)≠0:=by omega
    have s2:nrF F m 0 * nrF F m 0=((2 ^ m:Nat):Int):=by
      have e:(2:Int) ^ m=((2 ^ m:Nat):Int):=by norm_cast
      rw[e] at s;exact Int.eq_of_mul_eq_mul_right nz s
    rw[w0] at s2;exfalso;generalize nrF (sgF xs) m 0=w at *
    rcases sq1 with z | z<;>rw[z] at s2
    · rw [show (w - 2 * 1) * (w - 2 * 1) = w * w - 4 * w + 4 by simp only [Int.sub_mul, Int.mul_sub]; omega] at s2
      have:w=1:=by omega
      subst this;omega
    · rw [show (w - 2 * -1) * (w - 2 * -1) = w * w + 4 * w + 4 by simp only [Int.sub_mul, Int.mul_sub]; omega] at s2
      have:w=-1:=by omega
      subst this;omega
structure Fns (Ψ:Str->Fn):Prop where
 hM:zyk (Ψ "_law_many")
 hD:zq6 (Ψ "_law_drawn")
 hW:znc (Ψ "_law_word")
 hR:zqp (Ψ "_law_right")
 hI:znm (Ψ "is_bent")
 hB:z3d (Ψ "_law_bent")
 hT:zd8 (Ψ "_law_take")
theorem z7d {r:Int}(h0:0<=r)(h1:r < 4):∃m:Nat,(m=2\/m=4\/m=6)/\atI [W.int 2,W.int 4,W.int 6,W.int 4] r=some (.int (m:Nat)):=by
 obtain⟨n,rfl⟩:=Int.eq_ofNat_of_zero_le h0
 match n,h1 with
 | 0,_=>exact⟨2,.inl rfl,rfl⟩
 | 1,_=>exact⟨4,.inr (.inl rfl),rfl⟩
 | 2,_=>exact⟨6,.inr (.inr rfl),rfl⟩
 | 3,_=>exact⟨4,.inr (.inl rfl),rfl⟩
 | n+4,h=>omega
theorem look {Ψ:Str->Fn} (F:Fns Ψ) {m:Nat}{xs:List Int}{ns st:W}{v2 v5:Option (W × Bool)} (hv2:∃i:Int,v2=some (.int i,false)) (hv5:v5=none\/∃i:Int,v5=some (.int i,false)) (hst:∃a b c:Int,st=.lst [.int a,.int b,.int c]) (hm:m<=6) (hl:xs.length=2 ^ m) (hx:Bits xs):gBor 4 (gCall [false,false] (Ψ "_law_right") (gCns (gArg (gVar 3)) (gCns (gArg (gVar 4)) gA0))) [some (ns,false),some (st,true),v2,some (.int (m:Nat),false),some (.lst (xs.map W.int),true),v5]=some ([some (ns,false),some (st,true),v2,some (.int (m:Nat),false),some (.lst (xs.map W.int),true),v5],(.bl true,false)) /\
  gBor 4 (gCall [false] (Ψ "_law_word") (gCns #v[4,4] gA0)) [#v[ns,6],#v[st,5],v2,#v[(m:Nat),0],#v[(xs.map W.int),2],v5]=some ([#v[ns,6],#v[st,5],v2,#v[(m:Nat),0],#v[(xs.map W.int),2],v5],(.int (wordOf xs),false)):=by
 have r:=F.hR m xs hm hl hx;have w:=F.hW xs;obtain⟨i2,rfl⟩:=hv2;obtain⟨a,b,c,rfl⟩:=hst;constructor
 ·refine (bor_e (i := 4) (g := gCall [false, false] (Ψ "_law_right") (gCns #v[3,4] (gCns #v[4,4] gA0))) (en := [some (ns, false), some (.lst [.int a, .int b, .int c], true), some (.int i2, false), some (.int (m : Nat), false), some (.lst (xs.map W.int), true), v5]) (ws := xs.map W.int) (e1 := [some (ns, false), some (.lst [.int a, .int b, .int c], true), some (.int i2, false), some (.int (m : Nat), false), some (.lst (xs.map W.int), false), v5]) (u := .bl true) rfl ?_ rfl rfl).trans ?_
  ·show gCall _ _ _ [some (ns, false), some (.lst [.int a, .int b, .int c], true), some (.int i2, false), some (.int (m : Nat), false), some (.lst (xs.map W.int), false), v5] = _;simp! [r]
  ·rcases hv5 with rfl | ⟨i,rfl⟩<;>rfl
 ·refine (bor_e (i := 4) (g := gCall [false] (Ψ "_law_word") (gCns #v[4,4] gA0)) (en := [some (ns, false), some (.lst [.int a, .int b, .int c], true), some (.int i2, false), some (.int (m : Nat), false), some (.lst (xs.map W.int), true), v5]) (ws := xs.map W.int) (e1 := [some (ns, false), some (.lst [.int a, .int b, .int c], true), some (.int i2, false), some (.int (m : Nat), false), some (.lst (xs.map W.int), false), v5]) (u := .int (wordOf xs)) rfl ?_ rfl rfl).trans ?_
  ·show gCall _ _ _ [some (ns, false), some (.lst [.int a, .int b, .int c], true), some (.int i2, false), some (.int (m : Nat), false), some (.lst (xs.map W.int), false), v5] = _;simp! [w]
  ·rcases hv5 with rfl | ⟨i,rfl⟩<;>rfl
theorem z3f {Ψ:Str->Fn}(F:Fns Ψ){k:Nat}{st ns:W}{i2:Int}{v3 v4 v5:Option (W × Bool)}(hv5:v5=none\/∃i:Int,v5=#v[i,0])(hs:HS k st)(hk:k+1000 < big):∃st' w3 w4 i5,zon Ψ [#v[ns,6],#v[st,5],#v[i2,0],v3,v4,v5]=some ([#v[ns,6],#v[st',5],#v[i2,0],w3,w4,#v[i5,0]],.nx)/\HS (k+300) st':=by
 obtain⟨st1,m0,e1,g1,m1,m6⟩:=F.hM k st hs #v[];obtain⟨m0,rfl⟩:=Int.eq_ofNat_of_zero_le (show 0<=m0 by omega);obtain⟨st2,xs,e2,g2,lx,bx⟩:=F.hD (k+1) st1 m0 g1 #v[] #v[];have r1:=F.hR m0 xs #v[] lx bx;obtain⟨st3,r,e3,g3,r0,r4⟩:=F.hT (k+1+80) st2 4 g2 #v[] #v[0,9] #v[0,9];obtain⟨m,hm,am⟩:=z7d r0 r4;have h6:m<=6:=by omega
 have p6:=ze2 h6;obtain⟨st4,P,ts,ys,e4,g4,pr⟩:=F.hB (k+1+80+1) st3 m g3 #v[] hm;have bb:=zzf m P ts ys;have sq:=fun u hu=>z6f (m:=m) (u:=u) (P:=P) (ts:=ts) (ys:=ys) h6 hu pr;generalize hz:tab (2 ^ m) (bnF m P ts ys)=zs at *
 have lz:zs.length=2 ^ m:=by rw[<-hz,tab_len]
 obtain⟨st5,a,e5,g5,a0,a1⟩:=F.hT (k+1+80+1+150) st4 ((zs.length:Nat):Int) g4 #v[] (by rw[lz];have:0 < 2 ^ m:=Nat.pow_pos #v[0,9];omega) #v[];obtain⟨a,rfl⟩:=Int.eq_ofNat_of_zero_le a0;have la:a < zs.length:=Int.ofNat_lt.mp a1;have bt:=F.hI m zs h6 bb;rw[z5w sq] at bt;have bb' : Bits (zs.set a (1 - zs.getD a 0)):=fun x hx=>by
  rcases List.mem_or_eq_of_mem_set hx with h | rfl
  ·exact bb x h
  ·rcases getD_bit bb a with z | z <;> rw[z]
   ·exact .inr rfl
   ·exact .inl rfl
 have bf:=F.hI m (zs.set a (1 - zs.getD a 0)) h6 bb';rw[z4f h6 #v[] bb bb' lz #v[] sq] at bf;obtain⟨h4a,h4b,h4c,z4⟩ : ∃x y z:Int,st4=.lst [.int x,.int y,.int z]:=by obtain⟨x,y,z,h,_⟩:=g4;exact⟨x,y,z,h⟩
 obtain⟨h5a,h5b,h5c,z5⟩ : ∃x y z:Int,st5=.lst [.int x,.int y,.int z]:=by obtain⟨x,y,z,h,_⟩:=g5;exact⟨x,y,z,h⟩
 have L1:=look F (m:=m) (xs:=zs) (ns:=ns) (st:=st4) (v2:=#v[i2,0]) (v5:=v5) ⟨_,rfl⟩ hv5 ⟨_,_,_,z4⟩ h6 lz bb;have L2:=look F (m:=m) (xs:=zs.set a (1 - zs.getD a 0)) (ns:=ns) (st:=st5) (v2:=#v[i2,0]) (v5:=#v[(a:Nat),0]) ⟨_,rfl⟩ (.inr ⟨_,rfl⟩) ⟨_,_,_,z5⟩ h6 (by rw[List.length_set];exact lz) bb';clear z4 z5;have ia:atI (zs.map W.int) (a:Int)=some (.int (zs.getD a 0)):=zau (by rw[List.getElem?_map,List.getD_eq_getElem?_getD,List.getElem?_eq_getElem la];rfl);have ix:ixN (zs.length) (a:Int)=some a:=zhu la;have ms:(zs.map W.int).set a (.int (1 - zs.getD a 0))=(zs.set a (1 - zs.getD a 0)).map W.int:=(List.map_set ..).symm;refine⟨st5,#v[(m:Nat),0],#v[((zs.set a (1 - zs.getD a 0)).map W.int),2],(a:Nat),?_,g5.mono #v[]⟩;unfold zon;generalize gBor 4 (gCall [false,false] (Ψ "_law_right") (gCns #v[3,4] (gCns #v[4,4] gA0)))=G1 at L1 L2 ⊢;generalize gBor 4 (gCall [false] (Ψ "_law_word") (gCns #v[4,4] gA0))=G2 at L1 L2 ⊢;obtain⟨b1,b2⟩:=L1;obtain⟨b3,b4⟩:=L2;refine seq_e (e1:=[#v[ns,6],#v[st1,5],#v[i2,0],#v[(m0:Nat),0],v4,v5]) ?_ (seq_e (e1:=[#v[ns,6],#v[st2,5],#v[i2,0],#v[(m0:Nat),0],v4,v5]) ?_ (seq_e (e1:=[#v[ns,6],#v[st3,5],#v[i2,0],#v[(m:Nat),0],v4,v5]) ?_ (seq_e (e1:=[#v[ns,6],#v[st4,5],#v[i2,0],#v[(m:Nat),0],#v[(zs.map W.int),2],v5]) ?_ (seq_e (e1:=[#v[ns,6],#v[st4,5],#v[i2,0],#v[(m:Nat),0],#v[(zs.map W.int),2],v5]) ?_ (seq_e (e1:=[#v[ns,6],#v[st5,5],#v[i2,0],#v[(m:Nat),0],#v[(zs.map W.int),2],#v[(a:Nat),0]]) ?_ (seq_e (e1:=[#v[ns,6],#v[st5,5],#v[i2,0],#v[(m:Nat),0],#v[((zs.set a (1 - zs.getD a 0)).map W.int),2],#v[(a:Nat),0]]) ?_ ?_))))))
 ·simp! [e1]
 ·simp! [e2,r1]
 ·simp! [e3,am]
 ·simp! [e4]
 ·simp! [b1, b2, bt]
  rfl
 ·simp! [List.length_map,e5]
 ·simp! [ia,List.length_map,ix,ms]
 ·simp! [b3, b4, bf]
  rfl
theorem z2k {Ψ:Str->Fn}(F:Fns Ψ){st ns:W}(hs:HS 0 st):∃st' w2 w3 w4 w5,zr7 Ψ [#v[ns,6],#v[st,5],none,none,none,none]=some ([#v[ns,6],#v[st',5],w2,w3,w4,w5],.nx):=by
 have bb:(20000:Nat) < big:=by decide
 unfold zr7;obtain⟨en',h,st',w2,w3,w4,w5,rfl,_⟩:=zbd (mp:=[]) (T:=.nm 2) (body:=zon Ψ) (fun i e=>∃st' w2 w3 w4 w5,e=[#v[ns,6],#v[st',5],w2,w3,w4,w5]/\HS (300 * i) st'/\(w5=none\/∃i:Int,w5=#v[i,0])) (zdf (a:=gArg (gC (.int 4))) (en:=[#v[ns,6],#v[st,5],none,none,none,none]) (e1:=[#v[ns,6],#v[st,5],none,none,none,none]) (n:=4) rfl #v[]) ⟨_,_,_,_,_,rfl,hs,.inl rfl⟩ fun i w e hw hp=>by
  obtain⟨st',w2,w3,w4,w5,rfl,g,h5⟩:=hp;obtain⟨li,rfl⟩:=za2 hw;obtain⟨st2,x3,x4,i5,hb,g2⟩:=z3f F (ns:=ns) (i2:=0+(i:Int)) (v3:=w3) (v4:=w4) (v5:=w5) h5 g #v[];exact⟨_,_,rfl,.inl hb,_,_,_,_,_,rfl,g2.mono #v[],.inr ⟨_,rfl⟩⟩
 exact⟨_,_,_,_,_,h⟩
theorem zvp (ns:List Int)(hl:ns.length<=63):sem T bn 40 "law" [.frl (ns.map W.int)]=some ([.frl (ns.map W.int)],(.bl true,false)):=by
 rw[z6r];generalize hΨ:sem T bn 39=Ψ;have hH:zyd (Ψ "_law_hand"):=by rw[<-hΨ,zmo];exact z1o (sem T bn 0)
 have hT:∀d,zd8 (sem T bn (d+3) "_law_take"):=fun d=>by rw[zl9];exact zyy (sem T bn 0)
 have hB:∀d,zk9 (sem T bn (d+6) "_law_bits"):=fun d=>by rw[zlf];exact z1e (hT (d+2))
 have hA:∀d,zs4 (sem T bn (d+12) "agreements"):=fun d=>by rw[zjv];exact zs1 (by rw[zjl];exact zrb (by rw[zxu];exact zn6 (sem T bn 0)) (by rw[zgi];exact zlg (by rw[zxu];exact zn6 (sem T bn 0))))
 have hW:∀d,znc (sem T bn (d+3) "_law_word"):=fun d=>by rw[zmg];exact zzy (sem T bn 0)
 have hI:∀d,znm (sem T bn (d+15) "is_bent"):=fun d=>by rw[ztn];exact zqn (hA (d+2))
 have F:Fns Ψ:=by
  refine⟨?_,?_,?_,?_,?_,?_,?_⟩
  ·rw[<-hΨ,zlr];exact z02 (hT 35)
  ·rw[<- hΨ, e__law_drawn];exact zvt (hT 35) (hB 32) (by rw[zmf];exact z1b (by rw[zjz];exact zu6 (sem T bn 0)) (hB 31)) (by rw[zhc];exact zro (sem T bn 0))
  ·rw[<-hΨ];exact hW 36
  ·rw[<-hΨ,zj5];exact zwv (by rw[zmm];exact z0g _) (hI 23) (hW 35)
  ·rw[<-hΨ];exact hI 24
  ·rw[<-hΨ,zl2];exact zvc (by rw[zjm];exact zut (hT 34)) (hB 32)
  ·rw[<-hΨ];exact hT 36
 clear hT hB hA hW hI;obtain⟨st0,h0,g0⟩:=hH ns hl;obtain⟨st',w2,w3,w4,w5,l1⟩:=z2k F (ns:=.frl (ns.map W.int)) g0;unfold z1s;refine zcw (en:=[some (.frl (ns.map W.int),false),#v[st',5],w2,w3,w4,w5]) rfl (seq_e (e1:=[some (.frl (ns.map W.int),false),#v[st0,5],none,none,none,none]) ?_ (seq_e l1 ?_)) rfl
 ·simp! [h0]
 ·simp! []
noncomputable abbrev nA (K:PySem.W.Frag) (n:Str) (f:Addr):Prop:=PySem.W.nsIn K mainGlobals n=some (some (.ref f))
noncomputable abbrev nL (K:PySem.W.Frag) (f:Addr) (oc:Value) (od:Option Addr) (n:Str) (st:Stmt) (kV dc pm:Value) (an:Option Addr) (cd ct:Value) (sl:Array (Option Value)):Prop:=K.lookup f=some ⟨oc,od,.func (PySem.W.fnOf n n (zen st) (zdg st) (zam st) .none kV dc pm an cd ct),sl⟩
noncomputable abbrev nC (K:PySem.W.Frag) (cd:Value) (n:Str):Prop:=PySem.W.codeIn K cd n=true
noncomputable abbrev nK (K:PySem.W.Frag) (f:Addr):Prop:=PySem.W.keepIn K (.ref f)=true
noncomputable def nD (K:PySem.W.Frag) (t:Fd):Prop:=∃(f:Addr) (oc:Value) (od:Option Addr) (kV dc pm:Value) (an:Option Addr) (cd ct:Value) (sl:Array (Option Value)),nA K t.nm f/\nL K f oc od t.nm t.st kV dc pm an cd ct sl/\nC K cd t.nm/\nK K f
theorem nD_i {K:PySem.W.Frag}{n:Str}{t:Fd}{f:Addr}{oc:Value}{od:Option Addr}{kV dc pm:Value}{an:Option Addr}{cd ct:Value}{sl:Array (Option Value)}(e:t.nm=n)(a:nA K n f)(l:nL K f oc od n t.st kV dc pm an cd ct sl)(c:nC K cd n)(k:nK K f):nD K t:=by
 subst e;exact⟨_,_,_,_,_,_,_,_,_,_,a,l,c,k⟩
noncomputable def bO (t:Fd):Prop:=FnScope t.N t.ps (zam t.st)/\t.m.length=t.ps.length/\∀(kV doc pm:Value) (an:Option Addr) (cdv ct:Value) (us:List Value),us.length=t.ps.length->bindArgs (PySem.W.fnOf t.nm t.nm (zen t.st) (zdg t.st) (zam t.st) .none kV doc pm an cdv ct) ⟨us,[]⟩=pure (t.ps.zip us)
theorem z7s {K:PySem.W.Frag}{h:Heap}{mg:Str->Option Value}(X:K.In h)(G:h.Ns mainGlobals mg){t:Fd}(b:bO t)(lm:t.nm∈lams->zwc K t.nm=true)(d:nD K t):FdOk K mg t:=by
 obtain⟨f,oc,od,kV,dc,pm,an,cd,ct,sl,a,l,c,k⟩:=d;have F:=zx3 (st:=t.st) l c k;exact⟨b.1,b.2.1,⟨_,_,F,F.binds b.2.2,PySem.W.mg_of X G a⟩,lm⟩
theorem nd_T:(T.map (·.nm)).Nodup:=by decide +kernel
theorem all_c {α:Type}{P:α->Prop}{a:α}{l:List α}(h:P a)(r:∀x∈l,P x):∀x∈a::l,P x:=List.forall_mem_cons.mpr ⟨h,r⟩
theorem all_n {α:Type}{P:α->Prop}:∀x∈([]:List α),P x:=fun _ h=>nomatch h
@[elab_as_elim] theorem lenS {α:Type}{P:List α->Prop}{n:Nat} (us:List α) (hl:us.length=n+1) (h:∀a l,l.length=n->P (a::l)):P us:=by
 cases us with
 | nil=>cases hl
 | cons a l=>exact h a l (Nat.succ.inj hl)
@[elab_as_elim] theorem len0 {α:Type}{P:List α->Prop} (us:List α) (hl:us.length=0) (h:P []):P us:=by
 cases us with
 | nil=>exact h
 | cons a l=>cases hl
@[elab_as_elim] theorem len1 {α:Type}{P:List α->Prop} (us:List α) (hl:us.length=1) (h:∀a,P [a]):P us:=lenS us hl fun a l e=>len0 l e (h a)
@[elab_as_elim] theorem len2 {α:Type}{P:List α->Prop} (us:List α) (hl:us.length=2) (h:∀a b,P [a,b]):P us:=lenS us hl fun a l e=>lenS l e fun b l e=>len0 l e (h a b)
@[elab_as_elim] theorem len3 {α:Type}{P:List α->Prop} (us:List α) (hl:us.length=3) (h:∀a b c,P [a,b,c]):P us:=lenS us hl fun a l e=>len2 l e (h a)
theorem z0f:bO zoh:=⟨#v[0,0,5],rfl,fun _ _ _ _ _ _ us hl=>len2 us hl fun _ _=>rfl⟩
theorem zfy:bO za6:=⟨#v[0,0,5],rfl,fun _ _ _ _ _ _ us hl=>len2 us hl fun _ _=>rfl⟩
theorem zhp:bO zby:=⟨#v[0,0,5],rfl,fun _ _ _ _ _ _ us hl=>len2 us hl fun _ _=>rfl⟩
theorem zhn:bO zbt:=⟨#v[0,0,5],rfl,fun _ _ _ _ _ _ us hl=>len2 us hl fun _ _=>rfl⟩
theorem zpv:bO zd9:=⟨#v[0,0,5],rfl,fun _ _ _ _ _ _ us hl=>len2 us hl fun _ _=>rfl⟩
theorem zj9:bO zcp:=⟨#v[0,0,5],rfl,fun _ _ _ _ _ _ us hl=>len1 us hl fun _=>rfl⟩
theorem zku:bO zcj:=⟨#v[0,0,5],rfl,fun _ _ _ _ _ _ us hl=>len2 us hl fun _ _=>rfl⟩
theorem ziv:bO zcu:=⟨#v[0,0,5],rfl,fun _ _ _ _ _ _ us hl=>len2 us hl fun _ _=>rfl⟩
theorem zjp:bO zcn:=⟨#v[0,0,5],rfl,fun _ _ _ _ _ _ us hl=>len1 us hl fun _=>rfl⟩
theorem zh1:bO zbu:=⟨#v[0,0,5],rfl,fun _ _ _ _ _ _ us hl=>len2 us hl fun _ _=>rfl⟩
theorem zgj:bO zbi:=⟨#v[0,0,5],rfl,fun _ _ _ _ _ _ us hl=>len2 us hl fun _ _=>rfl⟩
theorem zis:bO zcm:=⟨#v[0,0,5],rfl,fun _ _ _ _ _ _ us hl=>len3 us hl fun _ _ _=>rfl⟩
theorem ziy:bO zct:=⟨#v[0,0,5],rfl,fun _ _ _ _ _ _ us hl=>len1 us hl fun _=>rfl⟩
theorem zhw:bO zbx:=⟨#v[0,0,5],rfl,fun _ _ _ _ _ _ us hl=>len2 us hl fun _ _=>rfl⟩
theorem zk7:bO zcs:=⟨#v[0,0,5],rfl,fun _ _ _ _ _ _ us hl=>len2 us hl fun _ _=>rfl⟩
theorem zhm:bO zbv:=⟨#v[0,0,5],rfl,fun _ _ _ _ _ _ us hl=>len2 us hl fun _ _=>rfl⟩
theorem zi0:bO zcc:=⟨#v[0,0,5],rfl,fun _ _ _ _ _ _ us hl=>len2 us hl fun _ _=>rfl⟩
theorem zil:bO zbq:=⟨#v[0,0,5],rfl,fun _ _ _ _ _ _ us hl=>len2 us hl fun _ _=>rfl⟩
theorem z4q:bO zmb:=⟨#v[0,0,5],rfl,fun _ _ _ _ _ _ us hl=>len1 us hl fun _=>rfl⟩
theorem all_mk {l:PySem.W.OpenLaw}{w:World}{K:PySem.W.Frag}{h:Heap}{mg:Str->Option Value}{fa:Addr} (X:K.In h) (G:h.Ns mainGlobals mg) (hfa:mg "law" = some (.ref fa)) (D:∀t∈T,nD K t) (M:∀x∈(["_law_terms","law"]:List Str),zwc K x=true) (Z:∀x∈bn,PySem.W.nsIn K mainGlobals x=some none) :
  ∃fd:FuncData,(∀(s:Shared) (v:Value),BindsTo s fd ⟨[v],[]⟩ [("_law_script",v)])/\∀base:Heap,K.In base->base.Ns mainGlobals mg->FnOk l.prog w K mg base CX0 40 fa fd ["_law_script"] (spF K [false] (sem T bn 40 "law")):=by
 have B:∀t∈T,bO t:=all_c z0f (all_c zfy (all_c zhp (all_c zhn (all_c zpv (all_c zj9 (all_c zku (all_c ziv (all_c zjp (all_c zh1 (all_c zgj (all_c zis (all_c ziy (all_c zhw (all_c zk7 (all_c zhm (all_c zi0 (all_c zil (all_c z4q (all_n)))))))))))))))))));have q:∀t∈T,t.nm∈lams->t.nm∈(["_law_terms","law"]:List Str):=by decide +kernel
 obtain⟨f,oc,od,kV,dc,pm,an,cd,ct,sl,a,lk,c,k⟩:=D zmb (by simp [T]);have F:=zx3 (st:=zmb.st) lk c k;have e:=hfa.symm.trans (PySem.W.mg_of X G a);cases e;exact⟨_,fun s v=>.of_eq rfl,fun base kb nb=>zsk nd_T (fun t ht=>z7s X G (B t ht) (fun hl=>M _ (q t ht hl)) (D t ht)) (fun x hx=>PySem.W.mg_none_of X G (Z x hx)) kb nb 40 zmb (by simp [T]) _ _ F (PySem.W.mg_of X G a)⟩
theorem walk {l:PySem.W.OpenLaw}{q:Program}{loose:List Str}{XP:(Str->Option Value)->Heap->Prop}{YP:World->Heap->Prop}{d:DefRec}{K:Params->PySem.W.Frag} (hn:l.most=some 63) (hdf:d.params.defaults=[])
  (hY:∀(w:World) (h:Heap),YP w h->(K w.params).In h)
  (nt:∀w:World,PySem.W.noTabs (K w.params)=true) (nd:∀w:World,zsz (K w.params)=true) (hrec:∀(w:World),∀x∈lams,∀c P,PySem.W.tabIn (K w.params) x=some (c,P)->∃d,(recsOf q).find? (fun e=>e.name == x)=some d)
  (F:∀(w:World) (mg:Str->Option Value) (fa:Addr) (h:Heap),(K w.params).In h->h.Ns mainGlobals mg->mg d.name=some (.ref fa) ->
   ∃fd:FuncData,(∀(s:Shared) (u:Value),BindsTo s fd ⟨[u],[]⟩ [("_law_script",u)])/\∀base:Heap,(K w.params).In base->base.Ns mainGlobals mg->FnOk l.prog w (K w.params) mg base CX0 40 fa fd ["_law_script"] (spF (K w.params) [false] (sem T bn 40 "law"))) :
  PySem.W.WalkO q loose XP YP l.row.toRowW d [] (fun f vs=>PySem.call f vs) :=
 L2.walk_ofT (n:=63) (k:=40) (x := "_law_script") (CX:=fun _=>CX0) (sp:=fun w=>spF (K w.params) [false] (sem T bn 40 "law")) hn #v[0,9] hdf ⟨rfl,by decide,by decide,rfl⟩ hY nt nd hrec F (fun _ _ _ a ns hl st hS=>zo1 st.sub st.tb hS (ws':=[.frl (ns.map W.int)]) (zvp ns hl) rfl) fun _ _ _ _ _ z=>z
end My
open PySem PySem.W PyProof.Rows
set_option maxRecDepth 100000 in
set_option maxHeartbeats 0 in
theorem PySem.Challenge.cw_yesnowords_k69_bent_or_not_holds : PySem.Challenge.rw_yesnowords_k69_bent_or_not.Holds := by
 w_on;o_law;k_head;(case hw=>w_witness2)
 k_fill
 refine My.walk (l:=PySem.Challenge.rw_yesnowords_k69_bent_or_not) rfl rfl (fun w h Y=>by first | exact PySem.W.kIn_of Y | exact PySem.W.km_in_of Y) ?nt ?nd ?hrec ?F
 case nt=>exact fun w=>by kernel_rfl
 case nd=>exact fun w=>by kernel_rfl
 case hrec =>
  intro w x hx c P e;simp only [L2.lams,List.mem_cons,List.not_mem_nil,or_false] at hx;rcases hx with rfl | rfl | rfl | rfl | rfl
  ·exact Option.isSome_iff_exists.mp (by kernel_rfl)
  ·exact nomatch (Eq.trans (by kernel_rfl) e:(none:Option (Addr × Addr))=some (c,P))
  ·exact nomatch (Eq.trans (by kernel_rfl) e:(none:Option (Addr × Addr))=some (c,P))
  ·exact nomatch (Eq.trans (by kernel_rfl) e:(none:Option (Addr × Addr))=some (c,P))
  ·exact Option.isSome_iff_exists.mp (by kernel_rfl)
 case F =>
  intro w mg fa h KX G hmg;refine My.all_mk KX G hmg ?xD ?xM ?xZ
  case xM=>exact My.all_c (by kernel_rfl) (My.all_c (by kernel_rfl) (My.all_n))
  case xZ =>
   refine' My.all_c ?_ (My.all_c ?_ (My.all_c ?_ (My.all_c ?_ (My.all_c ?_ (My.all_c ?_ (My.all_c ?_ (My.all_c ?_ (My.all_c ?_ (My.all_c ?_ (My.all_c ?_ (My.all_c ?_ (My.all_c ?_ (My.all_c ?_ (My.all_c ?_ (My.all_c ?_ (My.all_n))))))))))))))))
   any_goals k_is
  case xD =>
   refine' My.all_c (My.nD_i (n := "says") rfl ?_ ?_ ?_ ?_) (My.all_c (My.nD_i (n := "near_stepped") rfl ?_ ?_ ?_ ?_) (My.all_c (My.nD_i (n := "near_steps") rfl ?_ ?_ ?_ ?_) (My.all_c (My.nD_i (n := "agreements") rfl ?_ ?_ ?_ ?_) (My.all_c (My.nD_i (n := "is_bent") rfl ?_ ?_ ?_ ?_) (My.all_c (My.nD_i (n := "_law_hand") rfl ?_ ?_ ?_ ?_) (My.all_c (My.nD_i (n := "_law_take") rfl ?_ ?_ ?_ ?_) (My.all_c (My.nD_i (n := "_law_bits") rfl ?_ ?_ ?_ ?_) (My.all_c (My.nD_i (n := "_law_word") rfl ?_ ?_ ?_ ?_) (My.all_c (My.nD_i (n := "_law_terms") rfl ?_ ?_ ?_ ?_) (My.all_c (My.nD_i (n := "_law_values") rfl ?_ ?_ ?_ ?_) (My.all_c (My.nD_i (n := "_law_poly") rfl ?_ ?_ ?_ ?_) (My.all_c (My.nD_i (n := "_law_many") rfl ?_ ?_ ?_ ?_) (My.all_c (My.nD_i (n := "_law_drawn") rfl ?_ ?_ ?_ ?_) (My.all_c (My.nD_i (n := "_law_rows") rfl ?_ ?_ ?_ ?_) (My.all_c (My.nD_i (n := "_law_pairs") rfl ?_ ?_ ?_ ?_) (My.all_c (My.nD_i (n := "_law_bent") rfl ?_ ?_ ?_ ?_) (My.all_c (My.nD_i (n := "_law_right") rfl ?_ ?_ ?_ ?_) (My.all_c (My.nD_i (n := "law") rfl ?_ ?_ ?_ ?_) (My.all_n)))))))))))))))))))
   any_goals (first | (delta My.nA;k_is) | (delta My.nL;k_is) | (delta My.nC;k_is) | (delta My.nK;k_is) | k_is)