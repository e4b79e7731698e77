import PyProof.Rows.All
import Wide.All
import OpenK.AllK
import Wide.FinOn
import Lean
import PyProof.EqAt
import PyProof.EqKinds
import PyProof.TupleCall
import PySem.Challenge.RW_yesnowords_k73_heard_words_written_and_r
set_option Elab.async false
set_option linter.all false
set_option maxRecDepth 100000
namespace PySem.W.Fast
def tw9333524300358402629:=0
def tw15707139225864914651:=0
def tw2055109112297058622:=0
def tw5572304518532006326:=0
def tw3929875228404371641:=0
def tw8366197289253687434:=0
def tw10133586476026255692:=0
def tw15344179337395023834:=0
def tw5973641976173071702:=0
def tw9362502780120428190:=0
def tw17282919331554687899:=0
def tw6922534516905476749:=0
def tw14191659444229900779:=0
def tw18429410413924133906:=0
def tw7840725227427980949:=0
def tw8336922265081858009:=0
def tw10152322103488788144:=0
def tw9547261578992462105:=0
def tw13520926447875834587:=0
def tw10003989276146440940:=0
def tw15292272360168681764:=0
def tw16306809863403794429:=0
def tw2507750757545195839:=0
def tw5554924787532238729:=0
def tw16168185450834832629:=0
def tw17582599326861644160:=0
def tw9246172090297889253:=0
def tw16441255277222121873:=0
def tw785218543729040033:=0
def tw8416832420692672531:=0
def tw18443436668043323348:=0
def tw684097504340645284:=0
def tw2366607847365810344:=0
def tw2707428993461395114:=0
def tw17433347681537383196:=0
def tw13196314916326993442:=0
def tw12891932438811780871:=0
def tw16461520155201267967:=0
def tw14357730214709574719:=0
def tw8269400120959933565:=0
def tw8576086524430731324:=0
def tw7469673869284573241:=0
def tw8554346022754831554:=0
def tw4389120507152345167:=0
def tw10854370045847934648:=0
def tw14465433431012264272:=0
def tw5545397329577399155:=0
def tw12608295180573301825:=0
def tw8291348378777358730:=0
def tw16638217880355884364:=0
def tw4490899745259999164:=0
def tw14802417618897007988:=0
def tw17050990910364044151:=0
def tw16126865631691412493:=0
def tw3630549009939777326:=0
def tw15056702923197654966:=0
def tw17779998106149765772:=0
def tw8456779953004799487:=0
def tw15081629599456863591:=0
def tw7987157743245299248:=0
def tw16171430380616626017:=0
def tw12308290574643768918:=0
def tw9066495778736626047:=0
def tw10558416491310476316:=0
def tw14559768453640709576:=0
def tw3539784229289830993:=0
def tw15432686629026588196:=0
def tw6768798749094388264:=0
def tw12397635036833670929:=0
def tw1550667872806865433:=0
def tw5306132601698121601:=0
def tw18358038123632990648:=0
def tw14284131772166576993:=0
def tw13102893099321741220:=0
def tw15011344166756356665:=0
def tw18259573299177487290:=0
def tw421096204236167573:=0
def tw18363458638019094154:=0
def tw8101402308531681488:=0
def tw7288705173562912488:=0
def tw18112153480689590143:=0
def tw6628617315719182616:=0
def tw10960905701404065233:=0
def tw9089186387105010336:=0
def tw6027350670500044418:=0
def tw16967631030721904026:=0
def tw18338874622003427898:=0
def tw5892335210989352888:=0
def tw2074209113520378545:=0
def tw17812760195336714512:=0
def tw12354069271903169606:=0
def tw5736785505169429492:=0
def tw13546025079897374193:=0
def tw1430488928522147795:=0
def tw11488300199182188409:=0
def tw11721585789535975012:=0
def tw3682813654801023679:=0
def tw2481842566012146539:=0
def tw1959986929333865890:=0
def tw15665129781264904623:=0
def tw7958708131949664801:=0
def tw13448045802732582192:=0
def tw2450403576969771618:=0
def tw418362613997716852:=0
def tw3127347388198944188:=0
def tw15713783428072835578:=0
def tw4271484227326017009:=0
def tw18184524577129362009:=0
def tw9514102094273670143:=0
def tw4739450208680580236:=0
end PySem.W.Fast
theorem bS {α β}{o:Option α}{f:α->Option β}{b} (h:o.bind f=some b):∃a,o=some a/\f a=some b:=Option.bind_eq_some_iff.mp h
theorem sI {α}{a b:α} (h:some a=some b):a=b:=Option.some.inj h
namespace L2
open PySem PySem.Spec PyProof.Rows
theorem aG {P:Prop} (h:∀G:Prop,(P->G)->G):P:=h P id
noncomputable abbrev Key:=Sum Int Str
noncomputable def z18:Key->Value->Bool
 | .inl k,v=>Value.isInt k v
 | .inr x,v=>Value.isStrOf x v
noncomputable def keyH (w:World):Key->Int
 | .inl k=>hashInt k
 | .inr x=>hashStr w x
theorem keyIs_shape:∀{k:Key}{v:Value},z18 k v=true->(∃i t,k=Sum.inl i/\v=Value.int i t)\/(∃x t,k=Sum.inr x/\v=Value.str x t)
  | .inl i,v,h=>by
    obtain ⟨t,e⟩:=Value.isInt_shape (k:=i) (v:=v) h;exact .inl ⟨i,t,rfl,e⟩
  | .inr x,v,h=>by
    obtain ⟨t,e⟩:=Value.isStrOf_shape (x:=x) (v:=v) h;exact .inr ⟨x,t,rfl,e⟩
theorem z0u (a b:Int):decide ((Sum.inl a:Key)=Sum.inl b)=(a == b):=by
 by_cases e:a=b
 ·subst e;simp
 ·have h : ¬ (Sum.inl a : Key) = Sum.inl b := fun q => e (Sum.inl.inj q);rw [decide_eq_false h];exact (beq_eq_false_iff_ne.mpr e).symm
theorem zzr (a b:Str):decide ((Sum.inr a:Key)=Sum.inr b)=decide (a=b):=by
 by_cases e:a=b
 ·subst e;simp
 ·have h : ¬ (Sum.inr a : Key) = Sum.inr b := fun q => e (Sum.inr.inj q);rw [decide_eq_false h,decide_eq_false e]
theorem z22 (a:Int) (b:Str):decide ((Sum.inl a:Key)=Sum.inr b)=false:=decide_eq_false (fun q=>nomatch q)
theorem z2k (a:Str) (b:Int):decide ((Sum.inr a:Key)=Sum.inl b)=false:=decide_eq_false (fun q=>nomatch q)
noncomputable def zox (prog:Program) (w:World):PySem.KeyKind prog w Key where
 is:=z18
 hash:=keyH w
 inj:=fun v a b ha hb=>by
  rcases keyIs_shape ha with ⟨i,t,rfl,rfl⟩ | ⟨x,t,rfl,rfl⟩
  ·rcases keyIs_shape hb with ⟨j, u, rfl, e⟩ | ⟨y, u, rfl, e⟩
   ·injection e with e1 _;rw [e1]
   ·exact nomatch e
  ·rcases keyIs_shape hb with ⟨j, u, rfl, e⟩ | ⟨y, u, rfl, e⟩
   ·exact nomatch e
   ·injection e with e1 _;rw [e1]
 byValue:=fun k v h=>by
  rcases keyIs_shape h with ⟨i,t,rfl,rfl⟩ | ⟨x,t,rfl,rfl⟩<;>rfl
 pyHash:=fun hv h=>by
  rcases keyIs_shape hv with ⟨i,t,rfl,rfl⟩ | ⟨x,t,rfl,rfl⟩
  ·exact wpAny_pyHash_int h
  ·exact wpAny_pyHash_str h
 eqBool:=fun hu hv h=>by
  rcases keyIs_shape hu with ⟨i,t,rfl,rfl⟩ | ⟨x,t,rfl,rfl⟩
  ·rcases keyIs_shape hv with ⟨j, u, rfl, rfl⟩ | ⟨y, u, rfl, rfl⟩
   ·rw [z0u] at h;exact wpAny_eqBool_int h
   ·rw [z22] at h;exact SeqAt.EqAt.int_str i t y u _ _ _ _ h
  ·rcases keyIs_shape hv with ⟨j, u, rfl, rfl⟩ | ⟨y, u, rfl, rfl⟩
   ·rw [z2k] at h;exact SeqAt.EqAt.str_int x t j u _ _ _ _ h
   ·rw [zzr] at h;exact wpAny_eqBool_str h
 «strs»:=fun k x t v h=>by
  rcases keyIs_shape h with ⟨i,u,rfl,e⟩ | ⟨y,u,rfl,e⟩
  ·exact nomatch e
  ·injection e with e1 _;subst e1;cases v<;>rfl
end L2
namespace L2
open PySem PySem.Spec PyProof.Rows
inductive V where
 | non | bl (b:Bool) | int (i:Int) | str (x:Str) | byt (b:Array UInt8) | flt (b:UInt64) | ref (a:Addr) | ty (n:String)
 deriving DecidableEq
noncomputable def RelV:V->Value->Prop
 | .non,u=>u=Value.none
 | .bl b,u=>u=Value.bool b
 | .int i,u=>∃t,u=Value.int i t
 | .str x,u=>∃t,u=Value.str x t
 | .byt b,u=>∃t,u=Value.bytes b t
 | .flt b,u=>∃t,u=Value.float b t
 | .ref a,u=>u=Value.ref a
 | .ty n,u=>u=Value.type n
noncomputable abbrev Vals:List V->List Value->Prop:=Paired RelV
theorem Vals.length {xs:List V}{us:List Value} (r:Vals xs us):xs.length=us.length:=Paired.length r
theorem Vals.get:∀{xs:List V}{us:List Value}{i:Nat}{x:V},Vals xs us->xs[i]?=some x->∃u,us[i]?=some u/\RelV x u
  | _,_,_,_,.nil,e=>by simp at e
  | _,_,0,_,.cons r _,e=>by simp at e;subst e;exact ⟨_,rfl,r⟩
  | _,_,i+1,x,.cons _ t,e=>by
    obtain ⟨u,h1,h2⟩:=Vals.get (i:=i) (x:=x) t (by simpa using e);exact ⟨u,by simpa using h1,h2⟩
theorem Vals.set {x:V}{u:Value} (r:RelV x u):∀{xs:List V}{us:List Value} (i:Nat),Vals xs us->Vals (xs.set i x) (us.set i u)
 | _,_,_,.nil=>.nil
 | _,_,0,.cons _ t=>.cons r t
 | _,_,i+1,.cons q t=>.cons q (Vals.set r i t)
theorem Vals.append:∀{xs ys:List V}{us ws:List Value},Vals xs us->Vals ys ws->Vals (xs++ys) (us++ws)
 | _,_,_,_,.nil,s=>s
 | _,_,_,_,.cons r t,s=>.cons r (Vals.append t s)
theorem Vals.take:∀{xs:List V}{us:List Value} (n:Nat),Vals xs us->Vals (xs.take n) (us.take n)
 | _,_,0,_=>.nil
 | _,_,_+1,.nil=>.nil
 | _,_,n+1,.cons r t=>.cons r (Vals.take n t)
theorem Vals.drop:∀{xs:List V}{us:List Value} (n:Nat),Vals xs us->Vals (xs.drop n) (us.drop n)
 | _,_,0,r=>r
 | _,_,_+1,.nil=>.nil
 | _,_,n+1,.cons _ t=>Vals.drop n t
noncomputable def RelO:Option V->Option Value->Prop
 | some v,some u=>RelV v u
 | none,none=>True
 | _,_=>False
noncomputable def KV {κ:Type}:List (κ × V)->List (κ × Value)->Prop:=Paired fun (p:κ × V) (q:κ × Value)=>p.1=q.1/\RelV p.2 q.2
noncomputable def kV:Key->V
 | .inl i=>.int i
 | .inr x=>.str x
inductive HO where
 /-- a list -/
 | lst (xs:List V)
 /-- a tuple (never changes) -/
 | tup (xs:List V)
 /-- a dict whose keys are ints and texts;one whose keys are tuples of ints and texts (the empty one is both) -/
 | dK (kvs:List (Key × V)) | dT (kvs:List (List Key × V))
 /-- a set of ints: its members,its size -/
 | set (S:Int->Bool) (n:Nat)
 /-- an instance of the class at C,its dict at dx,its attributes -/
 | ins (C dx:Addr) (fs:List (Str × V))
 /-- the dict of the instance at x -/
 | own (x:Addr)
 /-- the dict of an exception -/
 | xd (fs:List (Str × V))
 /-- a bound method,f of x -/
 | met (f x:Addr)
 /-- a range object lo,lo+1,.. below hi -/
 | rng (lo hi:Int)
 /-- a thing that is known to the object (the script;a dict while a loop walks it): read,never written while it is so -/
 | frz (o:Obj) (u:HO)
 /-- a code object's table -/
 | tbl (ps:Array Value)
 /-- any other thing,by what is true of its one object (a def of one's own: SetO a S n:=HO.ext fun h=>..) -/
 | ext (φ:Heap->Prop)
noncomputable abbrev Hp:=Addr->Option HO
noncomputable def upd (H:Hp) (a:Addr) (o:HO):Hp:=fun b=>if b=a then some o else H b
theorem upd_same {H:Hp}{a:Addr}{o:HO}:upd H a o a=some o:=by unfold upd;rw [if_pos rfl]
theorem upd_ne {H:Hp}{a b:Addr}{o:HO} (h:b≠a):upd H a o b=H b:=by unfold upd;rw [if_neg h]
theorem zac {H:Hp}{a b:Addr}{o:HO} (h:H a=some o) (h' : H b=none):a≠b:=by
 intro e;subst e;rw [h] at h';cases h'
section
variable (P:Program) (w:World)
noncomputable def zbt (H:Hp) (h:Heap) (a:Addr):HO->Prop
 | .lst xs=>xs.length<=sizeLine/\∃(its:List Value) (n:Nat),Vals xs its/\h.get? a=some { cls:=.type "list",data:=.seq its.toArray n }
 | .tup xs=>xs.length<=sizeLine/\∃its:List Value,Vals xs its/\IsTup h a its.toArray
 | .dK kvs=>kvs.length<=sizeLine/\(a == sysModules)=false/\∃vs,KV kvs vs/\h.DictOf (zox P w) a vs
 | .dT kvs=>kvs.length<=sizeLine/\(a == sysModules)=false/\∃xs:List (List Key × Addr × Value),
   Paired (fun (p:List Key × V) (q:List Key × Addr × Value)=>p.1=q.1/\H q.2.1=some (.tup (p.1.map kV))/\RelV p.2 q.2.2) kvs xs /\
   ∃o es ep,h.get? a=some o/\o.ExactDict/\o.data=.dict es ep/\es.toList=xs.map (entryOfKey (tupleKind (zox P w)))/\(xs.map (·.1)).Nodup
 | .set S n=>h.SetOf (intKind P w) a S n
 | .ins C dx fs=>H dx=some (.own a)/\fs.length<=1000/\dx≠a/\h.get? a=some (PySem.W.instObj C dx) /\
   ∃mA,h.Ns1 dx mA/\(∀f,RelO (fs.lookup f) (mA f))/\PySem.Within mA (fs.map (·.1))
 | .own _=>∃o,h.get? a=some o
 | .xd fs=>∃mA,h.Ns1 a mA/\∀f,RelO (fs.lookup f) (mA f)
 | .rng lo hi=>∃t u v,h.get? a=some { cls:=.type "range",data:=.fields #[.int lo t,.int hi u,.int 1 v] }
 | .frz o u=>h.get? a=some o/\zbt H h a u
 | .tbl ps=>h.get? a=some { cls:=.none,data:=.fields ps }
 | .met f x=>h.get? a=some (PySem.W.methodObj (.ref f) (.ref x))
 | .ext φ=>φ h/\(∃o,h.get? a=some o)/\∀h1 h2:Heap,φ h1->(∀o,h1.get? a=some o->h2.get? a=some o)->φ h2
noncomputable def HOk (H:Hp) (h:Heap):Prop:=∀a o,H a=some o->zbt P w H h a o
end
section
variable {P:Program}{w:World}{H H' : Hp}{h h' : Heap}{a:Addr}{o:HO}
theorem zbt.lt (x:zbt P w H h a o):a < h.objs.size:=by
 cases o with
 | lst xs=>obtain ⟨_,_,_,_,e⟩:=x;exact Heap.lt_size e
 | tup xs=>obtain ⟨_,_,_,p⟩:=x;exact p.lt
 | dK kvs=>obtain ⟨_,_,_,_,o,_,_,e,_⟩:=x;exact Heap.lt_size e
 | dT kvs=>obtain ⟨_,_,_,_,o,_,_,e,_⟩:=x;exact Heap.lt_size e
 | set S n=>obtain ⟨o,_,_,_,e,_⟩:=x;exact Heap.lt_size e
 | ins C dx fs=>obtain ⟨_,_,_,e,_⟩:=x;exact Heap.lt_size e
 | own y=>obtain ⟨_,e⟩:=x;exact Heap.lt_size e
 | xd fs=>obtain ⟨_,⟨_,_,_,e,_⟩,_⟩:=x;exact Heap.lt_size e
 | rng lo hi=>obtain ⟨_,_,_,e⟩:=x;exact Heap.lt_size e
 | frz ob u=>obtain ⟨e,_⟩:=x;exact Heap.lt_size e
 | tbl ps=>exact Heap.lt_size (show h.get? a=some _ from x)
 | met f y=>exact Heap.lt_size (show h.get? a=some _ from x)
 | ext φ=>obtain ⟨_,⟨_,e⟩,_⟩:=x;exact Heap.lt_size e
theorem Paired.mapP {α β:Type}{F G:α->β->Prop}:∀{l₁:List α}{l₂:List β},Paired F l₁ l₂->(∀a b,F a b->G a b)->Paired G l₁ l₂
 | _,_,.nil,_=>.nil
 | _,_,.cons r t,f=>.cons (f _ _ r) (Paired.mapP t f)
theorem zbt.stay (x:zbt P w H h a o) (k:∀b u,(b=a\/H b=some (.own a))->h.get? b=some u->h'.get? b=some u)
    (ho:∀b,H b=some (.own a)->H' b=some (.own a)) (ht:∀b xs,H b=some (.tup xs)->H' b=some (.tup xs)):zbt P w H' h' a o:=by
  induction o with
  | lst xs=>obtain ⟨z,its,n,r,e⟩:=x;exact ⟨z,its,n,r,k _ _ (.inl rfl) e⟩
  | tup xs=>obtain ⟨z,its,r,ob,e,c⟩:=x;exact ⟨z,its,r,ob,k _ _ (.inl rfl) e,c⟩
  | dK kvs=>obtain ⟨z,y,vs,r,ob,es,ep,e,c⟩:=x;exact ⟨z,y,vs,r,ob,es,ep,k _ _ (.inl rfl) e,c⟩
  | dT kvs =>
    obtain ⟨z,y,xs,r,ob,es,ep,e,c⟩:=x;exact ⟨z,y,xs,Paired.mapP r fun p q z=>⟨z.1,ht _ _ z.2.1,z.2.2⟩,ob,es,ep,k _ _ (.inl rfl) e,c⟩
  | set S n=>obtain ⟨ob,es,ep,t,e,c⟩:=x;exact ⟨ob,es,ep,t,k _ _ (.inl rfl) e,c⟩
  | ins C dx fs =>
    obtain ⟨d,z,ne,e,mA,⟨od,es,ep,e2,c⟩,r⟩:=x;exact ⟨ho _ d,z,ne,k _ _ (.inl rfl) e,mA,⟨od,es,ep,k _ _ (.inr d) e2,c⟩,r⟩
  | own y=>obtain ⟨ob,e⟩:=x;exact ⟨ob,k _ _ (.inl rfl) e⟩
  | xd fs=>obtain ⟨mA,⟨od,es,ep,e,c⟩,r⟩:=x;exact ⟨mA,⟨od,es,ep,k _ _ (.inl rfl) e,c⟩,r⟩
  | rng lo hi=>obtain ⟨t,u,v,e⟩:=x;exact ⟨t,u,v,k _ _ (.inl rfl) e⟩
  | frz ob u ih=>obtain ⟨e,q⟩:=x;exact ⟨k _ _ (.inl rfl) e,ih q⟩
  | tbl ps =>
    have e:h.get? a=some { cls:=.none,data:=.fields ps }:=x;show h'.get? a=some { cls:=.none,data:=.fields ps };exact k a _ (.inl rfl) e
  | met f y =>
    have e:h.get? a=some (PySem.W.methodObj (.ref f) (.ref y)):=x;show h'.get? a=some (PySem.W.methodObj (.ref f) (.ref y));exact k a _ (.inl rfl) e
  | ext φ=>obtain ⟨p,⟨o,e⟩,st⟩:=x;exact ⟨st _ _ p fun o q=>k _ _ (.inl rfl) q,⟨o,k _ _ (.inl rfl) e⟩,st⟩
theorem HOk.lt (x:HOk P w H h) (e:H a=some o):a < h.objs.size:=(x a o e).lt
theorem HOk.fresh (x:HOk P w H h) (e:h.objs.size<=a):H a=none:=by
 cases q:H a with
 | none=>rfl
 | some u=>exact absurd (Nat.lt_of_lt_of_le (x.lt q) e) (Nat.lt_irrefl _)
theorem HOk.kept (x:HOk P w H h) (k:∀b u,h.get? b=some u->h'.get? b=some u):HOk P w H h':=fun a o e =>
 (x a o e).stay (fun b u _ q=>k b u q) (fun _ q=>q) fun _ _ q=>q
theorem HOk.laid (x:HOk P w H h) (k:∀b u,h.get? b=some u->h'.get? b=some u) (hp:h.objs.size<=a) (new:zbt P w (upd H a o) h' a o):HOk P w (upd H a o) h':=fun b u e=>by
 have hn:=x.fresh hp;by_cases hb:b=a
 ·subst hb;rw [upd_same] at e;cases e;exact new
 ·rw [upd_ne hb] at e;exact (x b u e).stay (fun c v _ q=>k c v q) (fun c q=>by rw [upd_ne (zac q hn)];exact q) fun c xs q=>by rw [upd_ne (zac q hn)];exact q
end
noncomputable def Rd (H:Hp) (a:Addr) (u:HO):Prop:=H a=some u\/∃o,H a=some (.frz o u)
theorem Rd.ok {P:Program}{w:World}{H:Hp}{h:Heap}{a:Addr}{u:HO} (r:Rd H a u) (x:HOk P w H h):zbt P w H h a u:=by
 rcases r with r | ⟨o,r⟩
 ·exact x a u r
 ·obtain ⟨_, q⟩ := x a _ r;exact q
noncomputable def Mut:Option HO->Prop
 | some (.lst _)=>True
 | some (.dK _)=>True
 | some (.dT _)=>True
 | some (.set _ _)=>True
 | some (.ins _ _ _)=>True
 | some (.ext _)=>True
 | _=>False
section
variable {P:Program}{w:World}{H:Hp}{h h' : Heap}{x e:Addr}{o' : HO}
theorem HOk.write (ok:HOk P w H h) (mu:Mut (H x)) (he:e=x\/H e=some (.own x)) (k:∀b u,b≠e->h.get? b=some u->h'.get? b=some u) (heo:∃u,h'.get? e=some u)
  (new:zbt P w (upd H x o') h' x o'):HOk P w (upd H x o') h':=fun b u q=>by
 have nown:∀c y,H c=some (.own y)->c≠x:=fun c y r z=>by subst z;rw [r] at mu;exact mu
 have ntup:∀c xs,H c=some (.tup xs)->c≠x:=fun c xs r z=>by subst z;rw [r] at mu;exact mu
 by_cases hb:b=x
 ·subst hb;rw [upd_same] at q;cases q;exact new
 ·rw [upd_ne hb] at q;by_cases hbe:b=e
  ·have q' : H b=some (.own x):=by
    rcases he with z | z
    ·exact absurd (hbe.trans z) hb
    ·rw [hbe];exact z
   rw [q] at q';cases q';obtain ⟨v,hv⟩:=heo;exact ⟨v,by rw [hbe];exact hv⟩
  ·refine (ok b u q).stay (fun c v hc r => k c v ?_ r) (fun c r => by rw [upd_ne (nown c b r)]; exact r) fun c xs r => by rw [upd_ne (ntup c xs r)]; exact r
   rcases hc with rfl | hc
   ·exact hbe
   ·rintro rfl;rcases he with z | z
    ·exact nown c b hc z
    ·rw [hc] at z;cases z;exact hb rfl
end
structure Un (fs ex:List Addr) (H H' : Hp) (h h' : Heap):Prop where
 keep:∀b o,h.get? b=some o->H b=none->b ∉ fs->b ∉ ex->h'.get? b=some o
 slot:∀b o,h.get? b=some o->H b=none->b∈fs->b ∉ ex->∃sl,h'.get? b=some { o with slots:=sl }
 free:∀b o,h.get? b=some o->H b=none->b ∉ ex->H' b=none
 there:∀b o,h.get? b=some o->b ∉ ex->∃o',h'.get? b=some o'
 tups:∀b xs,H b=some (.tup xs)->H' b=some (.tup xs)
 frzs:∀b o u,H b=some (.frz o u)->H' b=some (.frz o u)
 tbls:∀b ps,H b=some (.tbl ps)->∃more,H' b=some (.tbl (ps++more))
section
variable {fs fs' ex ex' : List Addr}{H H1 H2:Hp}{h h1 h2 h' : Heap}{a x e:Addr}{o:HO}
theorem Un.any (u:Un fs ex H H1 h h1) {b:Addr}{ob:Obj} (q:h.get? b=some ob) (n:H b=none) (hx:b ∉ ex):∃sl,h1.get? b=some { ob with slots:=sl }:=by
 by_cases hb:b∈fs
 ·exact u.slot b ob q n hb hx
 ·exact ⟨ob.slots,u.keep b ob q n hb hx⟩
theorem Un.kept (k:∀b u,h.get? b=some u->h'.get? b=some u):Un fs ex H H h h' :=
 ⟨fun b ob q _ _ _=>k b ob q,fun b ob q _ _ _=>⟨ob.slots,k b ob q⟩,fun _ _ _ n _=>n,fun b ob q _=>⟨ob,k b ob q⟩,fun _ _ q=>q,fun _ _ _ q=>q,fun _ ps q=>⟨#[],by rw [q];simp⟩⟩
theorem Un.refl:Un fs ex H H h h:=Un.kept fun _ _ q=>q
theorem Un.laid (k:∀b u,h.get? b=some u->h'.get? b=some u) (hp:h.objs.size<=a) (hn:H a=none):Un fs ex H (upd H a o) h h' where
 keep:=fun b u q _ _ _=>k b u q
 slot:=fun b u q _ _ _=>⟨u.slots,k b u q⟩
 free:=fun b u q n _=>by rw [upd_ne (Nat.ne_of_lt (Nat.lt_of_lt_of_le (Heap.lt_size q) hp))];exact n
 there:=fun b u q _=>⟨u,k b u q⟩
 tups:=fun b xs q=>by rw [upd_ne (zac q hn)];exact q
 frzs:=fun b u xs q=>by rw [upd_ne (zac q hn)];exact q
 tbls:=fun b ps q=>⟨#[],by rw [upd_ne (zac q hn),q];simp⟩
theorem Un.write (mu:Mut (H x)) (he:e=x\/H e=some (.own x)) (k:∀b u,b≠e->h.get? b=some u->h'.get? b=some u) (heo:∃u,h'.get? e=some u):Un fs ex H (upd H x o) h h':=by
 have hx:∀b,H b=none->b≠x:=fun b n z=>by subst z;rw [n] at mu;exact mu
 have hb:∀b,H b=none->b≠e:=fun b n z=>by
  subst z;rcases he with r | r
  ·exact hx b n r
  ·rw [n] at r;cases r
 have hm:∀b u,H b=some u->¬ Mut (some u)->b≠x:=fun b u q nm z=>by subst z;rw [q] at mu;exact nm mu
 refine ⟨fun b u q n _ _=>k b u (hb b n) q,fun b u q n _ _=>⟨u.slots,k b u (hb b n) q⟩,fun b u q n _=>by rw [upd_ne (hx b n)];exact n,fun b u q _=>?_,
  fun b xs q=>by rw [upd_ne (hm b _ q fun z=>z)];exact q,fun b u xs q=>by rw [upd_ne (hm b _ q fun z=>z)];exact q,fun b ps q=>⟨#[],by rw [upd_ne (hm b _ q fun z=>z),q];simp⟩⟩
 by_cases hbe:b=e
 ·subst hbe;exact heo
 ·exact ⟨u,k b u hbe q⟩
end
noncomputable def trk (h:Heap) (H:Hp):List Addr:=(List.range h.objs.size).filter fun a=>(H a).isSome
noncomputable def hidT (h:Heap) (H:Hp):Heap:=PySem.W.hideAll h (trk h H)
theorem zql (h:Heap) (H:Hp):(hidT h H).objs.size=h.objs.size:=PySem.W.hideAll_size _ _
theorem zsp {h:Heap}{H:Hp}{b:Addr}{o:Obj} (e:h.get? b=some o) (n:H b=none):(hidT h H).get? b=some o :=
 PySem.W.hideAll_get _ e fun hm=>by
  have q:(H b).isSome=true:=(List.mem_filter.mp hm).2;rw [n] at q;simp at q
theorem zx5 {h:Heap}{H:Hp}{b:Addr}{o:Obj} (e:(hidT h H).get? b=some o):h.get? b=some o/\H b=none:=by
  have e' : h.get? b=some o:=PySem.W.of_hideAll (trk h H) e;refine ⟨e',?_⟩;cases q:H b with
  | none=>rfl
  | some x =>
    have hm:b∈trk h H:=List.mem_filter.mpr ⟨List.mem_range.mpr (Heap.lt_size e'),by simp [q]⟩;have z:(hidT h H).get? b=none:=PySem.W.hideAll_none (trk h H) hm;rw [z] at e;cases e
noncomputable def zx7 (g h:Heap) (L:Addr):List (Addr × Obj):=(List.range h.objs.size).filterMap fun a=>if a=L\/(g.get? a).isSome=true then none else (h.get? a).map fun o=>(a,o)
noncomputable def rest (g h:Heap) (L d:Addr):List (Addr × Obj):=(zx7 g h L).filter fun p=>decide (p.1≠d)
end L2
namespace L2
open PySem PySem.Spec PyProof.Rows
structure Mod (K:PySem.W.Frag) (mg:Str->Option Value) (base:Heap):Prop where
 kin:K.In base
 glob:base.Ns mainGlobals mg
 blt:∃mb,base.Ns builtinsNs mb/\∀x:Str,x≠"__name__" -> mb x=bootBuiltins x
 nolimit:base.NoLimit
 bmn:∃(b:Addr) (ob:Obj),mg "__builtins__" = some (.ref b)/\b≠builtinsNs/\base.get? b=some ob/\ob.cls=.type "module"/\ob.dict=some builtinsNs/\ob.data=.plain
structure Cx where
 prog:Program
 w:World
 K:PySem.W.Frag
 mg:Str->Option Value
 base:Heap
 A:Around
 N:List Str
 s₀:Shared
 H₀:Hp
 env:Env
 outer:List Env
 stack:List Env
 ex:List Addr
 fn:Str->Bool
 calm:Bool
 pn:List (Addr × Obj)
 xe:Value->Shared->Prop
noncomputable def frs (l:List Env):List Addr:=l.filterMap (·.frame)
noncomputable abbrev Cx.fs (X:Cx):List Addr:=frs X.outer
noncomputable def Vis (sc:Scope) (x:Str):Prop:=sc.names.lookup x=some .local\/sc.names.lookup x=some .cell\/sc.names.lookup x=some .free
noncomputable def Loc (sc:Scope) (x:Str):Prop:=sc.names.lookup x=some .local\/sc.names.lookup x=some .cell
noncomputable def Look (env:Env) (h:Heap) (m:Str->Option Value) (x:Str) (u:Value):Prop :=
 (env.kindOf x=some .local/\m x=some u)\/((env.kindOf x=some .cell\/env.kindOf x=some .free)/\∃c,env.cells.lookup x=some c/\h.IsCell c (some u))
structure Cx.Ok (X:Cx):Prop where
 mod:Mod X.K X.mg X.base
 kind:X.env.scope.kind=.function
 glob:X.env.globals=mainGlobals
 blt:X.env.builtins=builtinsNs
 above:X.s₀.heap.objs.size<=X.env.locals
 inj:∀x y c,X.env.cells.lookup x=some c->X.env.cells.lookup y=some c->x=y
 has:∀x,(X.env.kindOf x=some .cell\/X.env.kindOf x=some .free)->∃c,X.env.cells.lookup x=some c
 cab:∀x c,X.fn x=true->X.env.cells.lookup x=some c->X.s₀.heap.objs.size<=c
 hd:X.calm=true->X.A.handled=none
 frames:X.A.frames=some X.stack
 stk:X.stack=X.outer\/(X.stack=X.env::X.outer/\X.env.frame=some X.env.locals)
 exf:∀b∈X.ex,b≠X.env.locals/\∀x c,X.env.cells.lookup x=some c->c≠b
 bs:∀b o,X.base.get? b=some o->X.s₀.heap.get? b=some o/\X.H₀ b=none
 bsz:X.base.objs.size<=X.s₀.heap.objs.size
 noex:∀b o,X.base.get? b=some o->b ∉ X.ex
 exfs:∀b∈X.ex,b ∉ X.fs
 funs:X.s₀.heap.FunFrames X.base X.outer
 frf:∀b∈X.fs,X.H₀ b=none
structure Inv (X:Cx) (pins:List (Addr × Obj)) (σ:List (Option V)) (H:Hp) (s:Shared):Prop where
 ok:X.Ok
 os:s.os=X.s₀.os
 bare:AllBare s.gens
 base:Un X.fs X.ex X.H₀ H X.s₀.heap s.heap
 loc:∃m,s.heap.Ns X.env.locals m/\∀(i:Nat) (x:Str) (v:V),X.N[i]?=some x->σ[i]?=some (some v)->Vis X.env.scope x->∃u,RelV v u/\Look X.env s.heap m x u
 cell:∀x c,X.env.cells.lookup x=some c->∃v,s.heap.IsCell c v
 free:H X.env.locals=none
 freeC:∀x c,X.env.cells.lookup x=some c->H c=none
 pin:∀p∈X.pn++pins,s.heap.get? p.1=some p.2/\H p.1=none/\p.1≠X.env.locals/\p.1 ∉ X.fs/\∀v,p.2.data≠.cell v
 hok:HOk X.prog X.w H s.heap
 len:σ.length=X.N.length
section
variable {X:Cx}{pins:List (Addr × Obj)}{σ:List (Option V)}{H H' : Hp}{s:Shared}{h' : Heap}
theorem Cx.Ok.nofr (ok:X.Ok) {b:Addr}{o:Obj} (e:X.base.get? b=some o):b ∉ X.fs:=fun hb=>by
 have:=(ok.funs.mem hb).1;rw [e] at this;cases this
theorem Inv.bs (I:Inv X pins σ H s):∀b o,X.base.get? b=some o->s.heap.get? b=some o/\H b=none:=fun b o e =>
 ⟨I.base.keep b o (I.ok.bs b o e).1 (I.ok.bs b o e).2 (I.ok.nofr e) (I.ok.noex b o e),I.base.free b o (I.ok.bs b o e).1 (I.ok.bs b o e).2 (I.ok.noex b o e)⟩
theorem Inv.bk (I:Inv X pins σ H s):∀b o,X.base.get? b=some o->s.heap.get? b=some o:=fun b o e=>(I.bs b o e).1
theorem Inv.mod (I:Inv X pins σ H s):Mod X.K X.mg X.base:=I.ok.mod
theorem Inv.kIn (I:Inv X pins σ H s):X.K.In s.heap:=I.ok.mod.kin.keeps I.bk
theorem Inv.lt (I:Inv X pins σ H s):X.env.locals < s.heap.objs.size:=let ⟨_,hn,_⟩:=I.loc;hn.lt
theorem Inv.sz (I:Inv X pins σ H s):X.s₀.heap.objs.size<=s.heap.objs.size:=Nat.le_trans I.ok.above (Nat.le_of_lt I.lt)
theorem Inv.nofs (I:Inv X pins σ H s) {a:Addr} (h:s.heap.objs.size<=a):a ∉ X.fs:=fun hb=>by
 obtain ⟨_,o,ho,_⟩:=I.ok.funs.mem hb;exact absurd (Nat.lt_of_lt_of_le (Heap.lt_size ho) (Nat.le_trans I.sz h)) (Nat.lt_irrefl _)
theorem Inv.cne (I:Inv X pins σ H s):∀x c,X.env.cells.lookup x=some c->c≠X.env.locals:=fun x c e z=>by
 obtain ⟨v,o,ho,hd⟩:=I.cell x c e;obtain ⟨m,⟨o',es,ep,ho',hd',_⟩,_⟩:=I.loc;rw [z,ho'] at ho;cases ho;rw [hd'] at hd;cases hd
theorem Inv.funs (I:Inv X pins σ H s):s.heap.FunFrames X.base X.outer:=by
  have all:∀(l:List Env),(∀b∈frs l,b∈X.fs)->X.s₀.heap.FunFrames X.base l->s.heap.FunFrames X.base l:=by
    intro l
    induction l with
    | nil=>intro _ _;trivial
    | cons env r ih =>
      intro hs hl;obtain ⟨hk,⟨L,o,hf,hn,ho,hd⟩,hr⟩:=hl;have hL:L∈X.fs:=hs L (by unfold frs;rw [List.filterMap_cons,hf];exact List.mem_cons_self);obtain ⟨sl,e⟩:=I.base.slot L o ho (I.ok.frf L hL) hL fun z=>I.ok.exfs L z hL;exact ⟨hk,⟨L,_,hf,hn,e,hd⟩,ih (fun b hb=>hs b (by unfold frs;rw [List.filterMap_cons,hf];exact List.mem_cons_of_mem _ hb)) hr⟩
  exact all X.outer (fun _ hb=>hb) I.ok.funs
theorem Inv.stack (I:Inv X pins σ H s):s.heap.FunFrames X.base X.stack:=by
 rcases I.ok.stk with e | ⟨e,hf⟩
 ·rw [e];exact I.funs
 ·rw [e];obtain ⟨m,hn,_⟩:=I.loc;refine .cons (by rw [I.ok.kind];decide) hf hn ?_ I.funs;exact Heap.get?_none_of_le (Nat.le_trans I.ok.bsz I.ok.above)
theorem Inv.stkSub (I:Inv X pins σ H s):∀b∈frs X.stack,b∈X.env.locals::X.fs:=fun b hb=>by
 rcases I.ok.stk with e | ⟨e,hf⟩
 ·rw [e] at hb;exact List.mem_cons_of_mem _ hb
 ·rw [e] at hb;unfold frs at hb;rw [List.filterMap_cons,hf] at hb;exact hb
theorem Inv.stkFree (I:Inv X pins σ H s):∀b∈frs X.stack,H b=none:=fun b hb=>by
 rcases List.mem_cons.mp (I.stkSub b hb) with e | hb
 ·rw [e];exact I.free
 ·obtain ⟨_, o, ho, _⟩ := I.ok.funs.mem hb;exact I.base.free b o ho (I.ok.frf b hb) fun z=>I.ok.exfs b z hb
theorem Inv.step {g' : Array GenState}{t' : Nat}{d' : Drawn}{ch:List Addr} (I:Inv X pins σ H s)
  (hch:∀b∈ch,(b∈X.ex\/X.s₀.heap.objs.size<=b)/\b≠X.env.locals/\(∀x c,X.env.cells.lookup x=some c->c≠b)/\∀p∈X.pn++pins,p.1≠b)
  (keep:∀b o,b≠X.env.locals->b ∉ X.fs->b ∉ ch->s.heap.get? b=some o->H b=none->h'.get? b=some o)
  (slot:∀b o,b≠X.env.locals->b∈X.fs->b ∉ ch->s.heap.get? b=some o->H b=none->∃sl,h'.get? b=some { o with slots:=sl }) (free:∀b o,b ∉ ch->s.heap.get? b=some o->H b=none->H' b=none)
  (there:∀b o,b ∉ ch->s.heap.get? b=some o->∃o',h'.get? b=some o')
  (tups:∀b xs,H b=some (.tup xs)->H' b=some (.tup xs)) (frzs:∀b o u,H b=some (.frz o u)->H' b=some (.frz o u)) (tbls:∀b ps,H b=some (.tbl ps)->∃more,H' b=some (.tbl (ps++more)))
  (ns:∀m,s.heap.Ns X.env.locals m->h'.Ns X.env.locals m) (hok:HOk X.prog X.w H' h') (hg:AllBare g') :
  Inv X pins σ H' { s with heap:=h',gens:=g',drawn:=d',toks:=t' }:=by
 have neL:∀b o,X.s₀.heap.get? b=some o->b≠X.env.locals:=fun b o e=>Nat.ne_of_lt (Nat.lt_of_lt_of_le (Heap.lt_size e) I.ok.above);have neC:∀b o,X.s₀.heap.get? b=some o->b ∉ X.ex->b ∉ ch:=fun b o e hx hb=>by
  rcases (hch b hb).1 with z | z
  ·exact hx z
  ·exact absurd (Nat.lt_of_lt_of_le (Heap.lt_size e) z) (Nat.lt_irrefl _)
 have cellK:∀x c,X.env.cells.lookup x=some c->∀v,s.heap.IsCell c v->h'.IsCell c v:=fun x c e v ⟨o,ho,hd⟩=>by
  have nch:c ∉ ch:=fun z=>(hch c z).2.2.1 x c e rfl;by_cases hc:c∈X.fs
  ·obtain ⟨sl, q⟩ := slot c o (I.cne x c e) hc nch ho (I.freeC x c e);exact ⟨_,q,hd⟩
  ·exact ⟨o,keep c o (I.cne x c e) hc nch ho (I.freeC x c e),hd⟩
 refine ⟨I.ok,I.os,hg,⟨fun b o e n hb hx=>?_,fun b o e n hb hx=>?_,fun b o e n hx=>?_,fun b o e hx=>?_,fun b xs e=>tups b xs (I.base.tups b xs e),fun b o xs e=>frzs b o xs (I.base.frzs b o xs e),fun b ps e=>?_⟩,?_,fun x c e=>?_,?_,fun x c e=>?_,fun p hp=>?_,hok,I.len⟩
 ·exact keep b o (neL b o e) hb (neC b o e hx) (I.base.keep b o e n hb hx) (I.base.free b o e n hx)
 ·obtain ⟨sl, e1⟩ := I.base.slot b o e n hb hx;obtain ⟨sl',e2⟩:=slot b _ (neL b o e) hb (neC b o e hx) e1 (I.base.free b o e n hx);exact ⟨sl',e2⟩
 ·obtain ⟨o', e1⟩ := I.base.there b o e hx;exact free b o' (neC b o e hx) e1 (I.base.free b o e n hx)
 ·obtain ⟨o', e1⟩ := I.base.there b o e hx;exact there b o' (neC b o e hx) e1
 ·obtain ⟨m1, e1⟩ := I.base.tbls b ps e;obtain ⟨m2,e2⟩:=tbls b _ e1;exact ⟨m1++m2,by rw [e2,Array.append_assoc]⟩
 ·obtain ⟨m, hn, hl⟩ := I.loc;refine ⟨m,ns m hn,fun i x v e1 e2 e3=>?_⟩;obtain ⟨u,r,l⟩:=hl i x v e1 e2 e3;refine ⟨u,r,?_⟩;rcases l with l | ⟨k,c,e,z⟩
  ·exact .inl l
  ·exact .inr ⟨k,c,e,cellK x c e _ z⟩
 ·obtain ⟨v, z⟩ := I.cell x c e;exact ⟨v,cellK x c e v z⟩
 ·obtain ⟨m, ⟨o, _, _, ho, _⟩, _⟩ := I.loc;exact free _ o (fun z=>(hch _ z).2.1 rfl) ho I.free
 ·obtain ⟨v, o, ho, hd⟩ := I.cell x c e;exact free c o (fun z=>(hch c z).2.2.1 x c e rfl) ho (I.freeC x c e)
 ·obtain ⟨e, n, ne, nf, d⟩ := I.pin p hp;have nch:p.1 ∉ ch:=fun z=>(hch p.1 z).2.2.2 p hp rfl;exact ⟨keep p.1 p.2 ne nf nch e n,free p.1 p.2 nch e n,ne,nf,d⟩
theorem Inv.un {t' : Nat} (I:Inv X pins σ H s) (u:Un X.fs [] H H' s.heap h') (hok:HOk X.prog X.w H' h'):Inv X pins σ H' { s with heap:=h',toks:=t' }:=by
 obtain ⟨m,⟨o,es,ep,ho,r⟩,_⟩:=id I.loc;obtain ⟨sl,hL⟩:=u.any ho I.free (by simp);exact I.step (g':=s.gens) (d':=s.drawn) (ch:=[]) (fun _ z=>nomatch z) (fun b o _ hb _ e n=>u.keep b o e n hb (by simp)) (fun b o _ hb _ e n=>u.slot b o e n hb (by simp)) (fun b o _ e n=>u.free b o e n (by simp)) (fun b o _ e=>u.there b o e (by simp)) u.tups u.frzs u.tbls (fun m' hm=>by
  obtain ⟨o',es',ep',ho',r'⟩:=hm;rw [ho] at ho';cases ho';exact ⟨_,es',ep',hL,r'⟩) hok I.bare
theorem Inv.call {g' : Array GenState}{t' : Nat}{d' : Drawn}{ch:List Addr} (I:Inv X pins σ H s) (u:Un (frs X.stack) ch H H' s.heap h') (hok:HOk X.prog X.w H' h') (hg:AllBare g')
  (hch:∀b∈ch,(b∈X.ex\/X.s₀.heap.objs.size<=b)/\b≠X.env.locals/\(∀x c,X.env.cells.lookup x=some c->c≠b)/\∀p∈X.pn++pins,p.1≠b) :
  Inv X pins σ H' { s with heap:=h',gens:=g',drawn:=d',toks:=t' }:=by
 obtain ⟨m,⟨o,es,ep,ho,r⟩,_⟩:=id I.loc;obtain ⟨sl,hL⟩:=u.any ho I.free fun z=>(hch _ z).2.1 rfl;exact I.step (ch:=ch) hch (fun b o hL hb hc e n=>u.keep b o e n (fun z=>(List.mem_cons.mp (I.stkSub b z)).elim hL hb) hc) (fun b o _ _ hc e n=>u.any e n hc) (fun b o hc e n=>u.free b o e n hc) (fun b o hc e=>u.there b o e hc) u.tups u.frzs u.tbls (fun m' hm=>by
  obtain ⟨o',es',ep',ho',r'⟩:=hm;rw [ho] at ho';cases ho';exact ⟨_,es',ep',hL,r'⟩) hok hg
theorem Inv.turned {t' : Nat}{it:Addr} (I:Inv X pins σ H s) (k:∀b o,b≠it->s.heap.get? b=some o->h'.get? b=some o) (hn:H it=none) (hL:it≠X.env.locals)
  (h1:it∈X.ex\/X.s₀.heap.objs.size<=it) (h2:∀x c,X.env.cells.lookup x=some c->c≠it) (h3:∀p∈X.pn++pins,p.1≠it):Inv X pins σ H { s with heap:=h',toks:=t' }:=by
 have nit:∀b u,H b=some u->b≠it:=fun b u e z=>by rw [z,hn] at e;cases e
 refine I.step (g':=s.gens) (d':=s.drawn) (ch:=[it]) (fun b hb=>?_) (fun b o _ _ hc e _=>k b o (fun z=>hc (by simp [z])) e) (fun b o _ _ hc e _=>⟨o.slots,k b o (fun z=>hc (by simp [z])) e⟩) (fun _ _ _ _ n=>n)
  (fun b o hc e=>⟨o,k b o (fun z=>hc (by simp [z])) e⟩) (fun _ _ e=>e) (fun _ _ _ e=>e) (fun b ps e=>⟨#[],by rw [e];simp⟩) (fun m hm=>?_) (fun b u e=>?_) I.bare
 ·have e : b = it := by simpa using hb
  subst e;exact ⟨h1,hL,h2,h3⟩
 ·obtain ⟨o, es, ep, ho, r⟩ := hm;exact ⟨o,es,ep,k _ o (Ne.symm hL) ho,r⟩
 ·refine (I.hok b u e).stay (fun c v hc q => k c v ?_ q) (fun _ q => q) fun _ _ q => q;rcases hc with z | z
  ·rw [z];exact nit b u e
  ·exact nit c _ z
theorem Inv.tok (I:Inv X pins σ H s) (t:Nat):Inv X pins σ H { s with toks:=t }:=I.un (h':=s.heap) (t':=t) Un.refl I.hok
theorem Inv.kept {t' : Nat} (I:Inv X pins σ H s) (k:∀b u,s.heap.get? b=some u->h'.get? b=some u):Inv X pins σ H { s with heap:=h',toks:=t' }:=I.un (Un.kept k) (I.hok.kept k)
theorem Inv.laid {a:Addr}{o:HO}{t' : Nat} (I:Inv X pins σ H s) (k:∀b u,s.heap.get? b=some u->h'.get? b=some u) (hp:s.heap.objs.size<=a) (new:zbt X.prog X.w (upd H a o) h' a o) :
  Inv X pins σ (upd H a o) { s with heap:=h',toks:=t' }:=I.un (Un.laid k hp (I.hok.fresh hp)) (I.hok.laid k hp new)
theorem Inv.write {x e:Addr}{o:HO}{t' : Nat} (I:Inv X pins σ H s) (mu:Mut (H x)) (he:e=x\/H e=some (.own x)) (k:∀b u,b≠e->s.heap.get? b=some u->h'.get? b=some u) (heo:∃u,h'.get? e=some u)
  (new:zbt X.prog X.w (upd H x o) h' x o):Inv X pins σ (upd H x o) { s with heap:=h',toks:=t' }:=I.un (Un.write mu he k heo) (I.hok.write mu he k heo new)
theorem Inv.pins_of {pins' : List (Addr × Obj)} (I:Inv X pins σ H s) (h:∀p∈pins',s.heap.get? p.1=some p.2/\H p.1=none/\p.1≠X.env.locals/\p.1 ∉ X.fs/\∀v,p.2.data≠.cell v):Inv X pins' σ H s :=
 ⟨I.ok,I.os,I.bare,I.base,I.loc,I.cell,I.free,I.freeC,fun p hp=>(List.mem_append.mp hp).elim (fun z=>I.pin p (List.mem_append_left _ z)) (h p),I.hok,I.len⟩
theorem zl9 {N:List Str} (hN:N.Nodup) {i j:Nat}{x:Str} (a:N[i]?=some x) (b:N[j]?=some x):i=j:=by
 obtain ⟨h1,e1⟩:=List.getElem?_eq_some_iff.mp a;obtain ⟨h2,e2⟩:=List.getElem?_eq_some_iff.mp b;exact (List.getElem_inj hN).mp (e1.trans e2.symm)
theorem zid {M:Model}{A:Around}{E:Value->Shared->Prop}{i:Nat}{x:Str}{v:V}{u:Value}{Q:Unit->Shared->Prop} (I:Inv X pins σ H s) (hN:X.N.Nodup) (hi:X.N[i]?=some x) (hx:Loc X.env.scope x) (r:RelV v u)
  (h:∀s',Inv X pins (σ.set i (some v)) H s'->(∃a,Heap.SameBut a s.heap s'.heap/\(a=X.env.locals\/X.env.cells.lookup x=some a))->Q () s') (hf:X.fn x=true\/X.env.scope.names.lookup x=some .local:=by first | exact .inl rfl | exact .inr rfl | assumption):wpAny M A (storeName X.env x u) Q E s:=by
 obtain ⟨m,hn,hl⟩:=id I.loc;have hcls:(X.env.scope.kind == .class || (X.env.scope.kind == .module && X.env.locals != X.env.globals))=false:=by rw [I.ok.kind];rfl
 have hiσ:i < σ.length:=by rw [I.len];exact (List.getElem?_eq_some_iff.mp hi).1
 have cne:=I.cne;have tracked:∀{a:Addr}{h' : Heap},(∃o,s.heap.get? a=some o/\H a=none)->Heap.SameBut a s.heap h'->HOk X.prog X.w H h':=fun {a h'} ha hs b ob e=>by
  obtain ⟨_,_,hfree⟩:=ha;refine (I.hok b ob e).stay (fun c w' hc q=>(hs.2 c ?_).trans q) (fun _ q=>q) fun _ _ q=>q;rintro rfl;rcases hc with rfl | hc
  ·rw [hfree] at e;cases e
  ·rw [hfree] at hc;cases hc
 rcases hx with hk | hk
 ·refine wpAny_storeName_local hk hn (fun h' hn' hs => ?_) hcls;obtain ⟨oL,_,_,hoL,_⟩:=id hn;refine h _ ⟨I.ok,I.os,I.bare,⟨fun b o e n hb hx=>?_,fun b o e n hb hx=>?_,I.base.free,fun b o e hx=>?_,I.base.tups,I.base.frzs,I.base.tbls⟩,⟨_,hn',fun j y v' e1 e2 e3=>?_⟩,fun y c e=>?_,I.free,I.freeC,fun p hp=>?_,tracked ⟨oL,hoL,I.free⟩ hs,by simpa using I.len⟩ ⟨_,hs,.inl rfl⟩
  ·exact (hs.2 b (Nat.ne_of_lt (Nat.lt_of_lt_of_le (Heap.lt_size e) I.ok.above))).trans (I.base.keep b o e n hb hx)
  ·obtain ⟨sl, e1⟩ := I.base.slot b o e n hb hx;exact ⟨sl,(hs.2 b (Nat.ne_of_lt (Nat.lt_of_lt_of_le (Heap.lt_size e) I.ok.above))).trans e1⟩
  ·obtain ⟨o', e1⟩ := I.base.there b o e hx;exact ⟨o',(hs.2 b (Nat.ne_of_lt (Nat.lt_of_lt_of_le (Heap.lt_size e) I.ok.above))).trans e1⟩
  ·by_cases hj : j = i
   ·subst hj;rw [hi] at e1;cases e1;rw [List.getElem?_set_self hiσ] at e2;cases e2;exact ⟨u,r,.inl ⟨hk,by simp⟩⟩
   ·rw [List.getElem?_set_ne (Ne.symm hj)] at e2;obtain ⟨u',r',q⟩:=hl j y v' e1 e2 e3;refine ⟨u',r',?_⟩;rcases q with ⟨k,e⟩ | ⟨k,c,e,z⟩
    ·refine .inl ⟨k, ?_⟩;have:y≠x:=fun e=>hj (zl9 hN e1 (e ▸ hi));simp [this,e]
    ·exact .inr ⟨k,c,e,z.sameBut hs (cne y c e)⟩
  ·obtain ⟨w', z⟩ := I.cell y c e;exact ⟨w',z.sameBut hs (cne y c e)⟩
  ·obtain ⟨e, n, ne, nf, d⟩ := I.pin p hp;exact ⟨(hs.2 p.1 ne).trans e,n,ne,nf,d⟩
 ·have hfn:X.fn x=true:=by
   rcases hf with z | z
   ·exact z
   ·rw [z] at hk;cases hk
  obtain ⟨c,hc⟩:=I.ok.has x (.inl hk);obtain ⟨w',z⟩:=I.cell x c hc;refine wpAny_storeName_cell I.ok.kind hk hc z (fun h' hc' hs=>?_);obtain ⟨oc,hoc,hocd⟩:=id z;refine h { s with heap:=h' } ⟨I.ok,I.os,I.bare,⟨fun b o e n hb hx=>?_,fun b o e n hb hx=>?_,I.base.free,fun b o e hx=>?_,I.base.tups,I.base.frzs,I.base.tbls⟩,⟨m,hn.sameBut hs (Ne.symm (cne x c hc)),fun j y v' e1 e2 e3=>?_⟩,fun y c' e=>?_,I.free,I.freeC,fun p hp=>?_,tracked ⟨oc,hoc,I.freeC x c hc⟩ hs,by simpa using I.len⟩ ⟨c,hs,.inr hc⟩
  ·exact (hs.2 b (Nat.ne_of_lt (Nat.lt_of_lt_of_le (Heap.lt_size e) (I.ok.cab x c hfn hc)))).trans (I.base.keep b o e n hb hx)
  ·obtain ⟨sl, e1⟩ := I.base.slot b o e n hb hx;exact ⟨sl,(hs.2 b (Nat.ne_of_lt (Nat.lt_of_lt_of_le (Heap.lt_size e) (I.ok.cab x c hfn hc)))).trans e1⟩
  ·obtain ⟨o', e1⟩ := I.base.there b o e hx;exact ⟨o',(hs.2 b (Nat.ne_of_lt (Nat.lt_of_lt_of_le (Heap.lt_size e) (I.ok.cab x c hfn hc)))).trans e1⟩
  ·by_cases hj : j = i
   ·subst hj;rw [hi] at e1;cases e1;rw [List.getElem?_set_self hiσ] at e2;cases e2;exact ⟨u,r,.inr ⟨.inl hk,c,hc,hc'⟩⟩
   ·rw [List.getElem?_set_ne (Ne.symm hj)] at e2;obtain ⟨u',r',q⟩:=hl j y v' e1 e2 e3;refine ⟨u',r',?_⟩;rcases q with q | ⟨k,c',e,z'⟩
    ·exact .inl q
    ·refine .inr ⟨k, c', e, z'.sameBut hs ?_⟩;rintro rfl;exact hj (zl9 hN e1 (I.ok.inj _ _ _ e hc ▸ hi))
  ·by_cases hcc : c' = c
   ·subst hcc;exact ⟨_,hc'⟩
   ·obtain ⟨w2, z2⟩ := I.cell y c' e;exact ⟨w2,z2.sameBut hs hcc⟩
  ·obtain ⟨e, n, ne, nf, d⟩ := I.pin p hp;refine ⟨(hs.2 p.1 ?_).trans e,n,ne,nf,d⟩;intro q;rw [q,hoc] at e;have q' : oc=p.2:=sI e;exact d w' (by rw [<-q'];exact hocd)
theorem zdk {M:Model}{A:Around}{E:Value->Shared->Prop}{i:Nat}{x:Str}{v:V}{u:Value}{Q:Unit->Shared->Prop} (I:Inv X pins σ H s) (hN:X.N.Nodup) (hi:X.N[i]?=some x) (hx:Loc X.env.scope x) (r:RelV v u)
  (h:∀s',Inv X pins (σ.set i (some v)) H s'->Q () s') (hf:X.fn x=true\/X.env.scope.names.lookup x=some .local:=by first | exact .inl rfl | exact .inr rfl | assumption):wpAny M A (storeName X.env x u) Q E s :=
 zid I hN hi hx r (fun s' I' _=>h s' I') hf
theorem Inv.call' {s' : Shared}{ch:List Addr} (I:Inv X pins σ H s) (ho:s'.os=s.os) (u:Un (frs X.stack) ch H H' s.heap s'.heap) (hok:HOk X.prog X.w H' s'.heap) (hg:AllBare s'.gens)
  (hch:∀b∈ch,(b∈X.ex\/X.s₀.heap.objs.size<=b)/\b≠X.env.locals/\(∀x c,X.env.cells.lookup x=some c->c≠b)/\∀p∈X.pn++pins,p.1≠b):Inv X pins σ H' s':=by
 obtain ⟨h',g',d',t',o'⟩:=s';have e:o'=s.os:=ho;subst e;exact I.call (g':=g') (t':=t') (d':=d') u hok hg hch
end
noncomputable abbrev XK:=Value->Option Addr->Hp->Prop
noncomputable abbrev St:=List (Option V)
noncomputable abbrev VK:=V->Hp->Prop
noncomputable abbrev TE:=St->Hp->VK->Prop
noncomputable abbrev TT:=St->Hp->(Bool->Hp->Prop)->Prop
noncomputable abbrev TA:=St->Hp->(List V->Hp->Prop)->Prop
structure Ends where
 nx:St->Hp->Prop
 rt:VK
 bk:St->Hp->Prop:=fun _ _=>False
 ct:St->Hp->Prop:=fun _ _=>False
noncomputable abbrev TS:=Ends->St->Hp->Prop
noncomputable def EP (X:Cx) (pins:List (Addr × Obj)) (σ:St) (Q:VK) (u:Value) (s' : Shared):Prop:=∃v H',Inv X pins σ H' s'/\RelV v u/\Q v H'
noncomputable def TP (X:Cx) (pins:List (Addr × Obj)) (σ:St) (Q:Bool->Hp->Prop) (b:Bool) (s' : Shared):Prop:=∃H',Inv X pins σ H' s'/\Q b H'
noncomputable def AP (X:Cx) (pins:List (Addr × Obj)) (σ:St) (Q:List V->Hp->Prop) (us:List Value) (s' : Shared):Prop:=∃vs H',Inv X pins σ H' s'/\Vals vs us/\Q vs H'
noncomputable def SP (X:Cx) (pins:List (Addr × Obj)) (D:Ends) (f:Flow) (s' : Shared):Prop :=
 match f with
 | .next=>∃σ' H',Inv X pins σ' H' s'/\D.nx σ' H'
 | .brk=>∃σ' H',Inv X pins σ' H' s'/\D.bk σ' H'
 | .cont=>∃σ' H',Inv X pins σ' H' s'/\D.ct σ' H'
 | .ret u=>∃v σ' H',Inv X pins σ' H' s'/\RelV v u/\D.rt v H'
noncomputable def PE (X:Cx) (e:Expr) (t:TE):Prop :=
 ∀(pins:List (Addr × Obj)) (s:Shared) (σ:St) (H:Hp) (Q:VK),Inv X pins σ H s->t σ H Q->wpAny (model X.prog X.w) X.A (eval e X.env) (EP X pins σ Q) X.xe s
noncomputable def PT (X:Cx) (e:Expr) (t:TT):Prop :=
 ∀(pins:List (Addr × Obj)) (s:Shared) (σ:St) (H:Hp) (Q:Bool->Hp->Prop),Inv X pins σ H s->t σ H Q->wpAny (model X.prog X.w) X.A (isTrue e X.env (eval e X.env)) (TP X pins σ Q) X.xe s
noncomputable def PW (X:Cx) (e:Expr) (t:TT):Prop :=
 ∀(whole:Sem Value) (pins:List (Addr × Obj)) (s:Shared) (σ:St) (H:Hp) (Q:Bool->Hp->Prop),Inv X pins σ H s->t σ H Q->wpAny (model X.prog X.w) X.A (isTrue e X.env whole) (TP X pins σ Q) X.xe s
theorem PW.pt {X:Cx}{e:Expr}{t:TT} (h:PW X e t):PT X e t:=h _
noncomputable def PA (X:Cx) (es:List Expr) (t:TA):Prop :=
 ∀(pos:Pos) (pins:List (Addr × Obj)) (s:Shared) (σ:St) (H:Hp) (Q:List V->Hp->Prop),Inv X pins σ H s->t σ H Q->wpAny (model X.prog X.w) X.A (spliced (backTo pos (starEach es X.env))) (AP X pins σ Q) X.xe s
noncomputable def PS (X:Cx) (st:Stmt) (t:TS):Prop :=
 ∀(pins:List (Addr × Obj)) (s:Shared) (σ:St) (H:Hp) (D:Ends),Inv X pins σ H s->t D σ H->wpAny (model X.prog X.w) X.A (exec st X.env) (SP X pins D) X.xe s
noncomputable def PSs (X:Cx) (st:List Stmt) (t:TS):Prop :=
 ∀(pins:List (Addr × Obj)) (s:Shared) (σ:St) (H:Hp) (D:Ends),Inv X pins σ H s->t D σ H->wpAny (model X.prog X.w) X.A (execs st X.env) (SP X pins D) X.xe s
theorem thn {α:Type}{t:Sem α}{Q Q' : α->Shared->Prop}{M:Model}{A:Around}{E:Value->Shared->Prop}{s:Shared} (h:wpAny M A t Q E s) (hQ:∀a s,Q a s->Q' a s):wpAny M A t Q' E s:=wpAny_mono h hQ fun _ _ x=>x
end L2
namespace L2
open PySem PySem.Spec PyProof.Rows
section
variable {X:Cx}
theorem bin {a b:Expr}{ta tb:TE} (ha:PE X a ta) (hb:PE X b tb) {pins:List (Addr × Obj)}{s:Shared}{σ:St}{H:Hp}{R:V->V->Hp->Prop} (I:Inv X pins σ H s) (h:ta σ H fun x H1=>tb σ H1 fun y H2=>R x y H2)
  {α:Type}{Q:α->Shared->Prop}{f:Value->Value->Sem α}
  (hf:∀v u s2 x y H2,Inv X pins σ H2 s2->RelV x v->RelV y u->R x y H2->wpAny (model X.prog X.w) X.A (f v u) Q X.xe s2) :
  wpAny (model X.prog X.w) X.A (eval a X.env) (fun v s₁=>wpAny (model X.prog X.w) X.A (eval b X.env) (fun u s₂=>wpAny (model X.prog X.w) X.A (f v u) Q X.xe s₂) X.xe s₁) X.xe s:=by
 refine thn (ha pins s σ H _ I h) fun v s1 ⟨x,H1,I1,r1,q1⟩=>?_;refine thn (hb pins s1 σ H1 _ I1 q1) fun u s2 ⟨y,H2,I2,r2,q2⟩=>?_;exact hf v u s2 x y H2 I2 r1 r2 q2
noncomputable def tVar (i:Nat):TE:=fun σ H Q=>∃v,σ[i]?=some (some v)/\Q v H
noncomputable def tC (v:V):TE:=fun _ H Q=>Q v H
theorem zq9 {i:Nat}{x:Str}{pos:Pos} (hN:X.N[i]?=some x) (hv:Vis X.env.scope x) (hd:(x == ("__debug__" : Str))=false:=by decide) (hcd:(x == ("__classdict__" : Str))=false:=by decide):PE X (.Name x pos) (tVar i):=by
 intro pins s σ H Q I h;obtain ⟨v,e,h⟩:=h;obtain ⟨m,hn,hl⟩:=I.loc;obtain ⟨u,r,l⟩:=hl i x v hN e hv;have fin:EP X pins σ Q u s:=⟨v,H,I,r,h⟩;rcases l with ⟨hk,hm⟩ | ⟨hk,c,hc,hcell⟩
 ·exact wpAny_Name (wpAny_loadName_local I.ok.kind hk hn hm fin) hd
 ·rcases hk with hk | hk
  ·exact wpAny_Name (wpAny_loadName_cell I.ok.kind hk hc hcell fin) hd
  ·exact wpAny_Name (wpAny_loadName_free I.ok.kind hk hc hcell fin hcd) hd
theorem z1a {i j pos}:PE X (.Constant (.int i) j pos) (tC (.int i)):=fun _ _ _ H _ I h=>wpAny_Constant_int ⟨.int i,H,I.tok _,⟨_,rfl⟩,h⟩
theorem z4q {b j pos}:PE X (.Constant (.bool b) j pos) (tC (.bl b)):=fun _ _ _ H _ I h=>Constant_bool ⟨.bl b,H,I,rfl,h⟩
theorem zzl {j pos}:PE X (.Constant .none j pos) (tC .non):=fun _ _ _ H _ I h=>Constant_none ⟨.non,H,I,rfl,h⟩
theorem zu0 {x j pos}:PE X (.Constant (.str x) j pos) (tC (.str x)):=fun _ _ _ H _ I h=>Calls.Constant_str ⟨.str x,H,I.tok _,⟨_,rfl⟩,h⟩
noncomputable def Gl (X:Cx) (x:Str):Prop:=X.env.kindOf x=some .globalImplicit
theorem zys {E:Value->Shared->Prop}{pins:List (Addr × Obj)}{s:Shared}{σ:St}{H:Hp}{x:Str}{u:Value}{pos:Pos}{Q:Value->Shared->Prop} (I:Inv X pins σ H s) (hg:Gl X x) (hm:X.mg x=some u) (h:Q u s)
  (hd:(x == ("__debug__" : Str))=false:=by decide):wpAny (model X.prog X.w) X.A (eval (.Name x pos) X.env) Q E s :=
 Calls.Name_function_global I.ok.kind hg (Calls.loadGlobal_global (by rw [I.ok.glob];exact I.mod.glob.keeps I.bk) hm h) hd
theorem zcv {E:Value->Shared->Prop}{pins:List (Addr × Obj)}{s:Shared}{σ:St}{H:Hp}{x:Str}{u:Value}{pos:Pos}{Q:Value->Shared->Prop} (I:Inv X pins σ H s) (hg:Gl X x) (hm:X.mg x=none) (hv:bootBuiltins x=some u) (h:Q u s)
  (hn:x≠"__name__" := by decide) (hd:(x == ("__debug__" : Str))=false:=by decide):wpAny (model X.prog X.w) X.A (eval (.Name x pos) X.env) Q E s:=by
 obtain ⟨mb,h1,h2⟩:=I.mod.blt;exact Calls.Name_function_global I.ok.kind hg (Calls.loadGlobal_builtin (by rw [I.ok.glob];exact I.mod.glob.keeps I.bk) hm (by rw [I.ok.blt];exact h1.keeps I.bk) ((h2 x hn).trans hv) h) hd
theorem zyu {x:Str}{v:V}{u:Value}{pos:Pos} (hg:Gl X x) (hm:X.mg x=none) (hv:bootBuiltins x=some u) (r:RelV v u) (hn:x≠"__name__" := by decide) (hd:(x == ("__debug__" : Str))=false:=by decide):PE X (.Name x pos) (tC v) :=
 fun _ _ _ H _ I h=>zcv I hg hm hv ⟨v,H,I,r,h⟩ hn hd
variable {a b:Expr}{ta tb:TE}{pos:Pos}
noncomputable def PC (X:Cx) (op:CmpOp) (a b:Expr) (t:TE):Prop :=
  ∀(pins:List (Addr × Obj)) (s:Shared) (σ:St) (H:Hp) (Q:VK),Inv X pins σ H s->t σ H Q ->
    wpAny (model X.prog X.w) X.A (eval a X.env) (fun v s₁=>wpAny (model X.prog X.w) X.A (eval b X.env) (fun u s₂=>wpAny (model X.prog X.w) X.A (compareOp op v u) (EP X pins σ Q) X.xe s₂) X.xe s₁) X.xe s
theorem zs3 (b:Expr) {op:CmpOp} (h:op≠.In) (h2:op≠.NotIn):behindInMarks op b=false:=by
 have e1:(op == CmpOp.In)=false:=by cases op<;>first | rfl | exact absurd rfl h
 have e2:(op == CmpOp.NotIn)=false:=by cases op<;>first | rfl | exact absurd rfl h2
 cases b<;>simp [behindInMarks,e1,e2]
noncomputable def tB (t:TE):TT:=fun σ H Q=>t σ H fun x H1=>∃c,x=.bl c/\Q c H1
theorem z4u {op:CmpOp}{t:TE} (h:PC X op a b t) (h1:behindInMarks op b=false:=by first | exact zs3 _ (by decide) (by decide) | rfl):PT X (.Compare a [op] [b] pos) (tB t):=by
 intro pins s σ H Q I hw;refine wpAny_isTrue_Compare1 (thn (h pins s σ H _ I hw) fun v s1 h1=>thn h1 fun u s2 h2=>thn h2 fun c s3 ⟨x,H1,I1,r1,q1⟩=>?_) h1;obtain ⟨d,rfl,q⟩:=q1;cases r1;exact wpAny_truthy_bool ⟨H1,I1,q⟩
theorem z0i {e:Expr}{t:TE} (h:PE X e t) (he:∀whole,isTrue e X.env whole=(do let v <- whole;standAt e.pos;holding [v] (truthy v)):=by intro _;rfl):PT X e (tB t):=by
 intro pins s σ H Q I hw;refine isTrue_plain (thn (h pins s σ H _ I hw) fun v s1 ⟨x,H1,I1,r1,q1⟩=>?_) (he _);obtain ⟨d,rfl,q⟩:=q1;cases r1;exact wpAny_truthy_bool ⟨H1,I1,q⟩
variable {tA tB' : TT}{rest:List Expr}
noncomputable def tAnd (t u:TT):TT:=fun σ H Q=>t σ H fun c H1=>if c=true then u σ H1 Q else Q false H1
noncomputable def tOr (t u:TT):TT:=fun σ H Q=>t σ H fun c H1=>if c=true then Q true H1 else u σ H1 Q
noncomputable def tNot (t:TT):TT:=fun σ H Q=>t σ H fun c H1=>Q (!c) H1
theorem zwt (ha:PT X a tA):PW X (.BoolOp .And [a] pos) tA:=by
 intro wh pins s σ H Q I h;refine isTrue_and (thn (ha pins s σ H Q I h) fun c s1 e=>?_);cases c with
 | true=>exact isTrue_and_nil e
 | false=>exact e
theorem z2d (ha:PT X a tA):PW X (.BoolOp .Or [a] pos) tA:=by
 intro wh pins s σ H Q I h;refine isTrue_or (thn (ha pins s σ H Q I h) fun c s1 e=>?_);cases c with
 | false=>exact isTrue_or_nil e
 | true=>exact e
theorem z2n (ha:PT X a tA) (hb:PW X (.BoolOp .And (b::rest) pos) tB'):PW X (.BoolOp .And (a::b::rest) pos) (tAnd tA tB'):=by
 intro wh pins s σ H Q I h;refine isTrue_and (thn (ha pins s σ H _ I h) fun c s1 ⟨H1,I1,q1⟩=>?_);cases c with
 | true=>exact hb wh pins s1 σ H1 Q I1 q1
 | false=>exact ⟨H1,I1,q1⟩
theorem z4h (ha:PT X a tA) (hb:PW X (.BoolOp .Or (b::rest) pos) tB'):PW X (.BoolOp .Or (a::b::rest) pos) (tOr tA tB'):=by
 intro wh pins s σ H Q I h;refine isTrue_or (thn (ha pins s σ H _ I h) fun c s1 ⟨H1,I1,q1⟩=>?_);cases c with
 | true=>exact ⟨H1,I1,q1⟩
 | false=>exact hb wh pins s1 σ H1 Q I1 q1
theorem z2m (ha:PT X a tA):PT X (.UnaryOp .Not a pos) (tNot tA):=by
 intro pins s σ H Q I h;exact isTrue_not (ha pins s σ H (fun c H1=>Q (!c) H1) I h)
noncomputable def z0j (ta tb:TE):TE:=fun σ H Q=>ta σ H fun x H1=>∃c,x=.bl c/\if c=true then tb σ H1 Q else Q (.bl false) H1
theorem zz6 {op}{t:TE} (h:PE X a t):PE X (.BoolOp op [a] pos) t:=fun pins s σ H Q I hw=>BoolOp_one (h pins s σ H Q I hw)
theorem z0a (ha:PE X a ta) (hb:PE X (.BoolOp .And (b::rest) pos) tb):PE X (.BoolOp .And (a::b::rest) pos) (z0j ta tb):=by
 intro pins s σ H Q I h;refine BoolOp_and (thn (ha pins s σ H _ I h) fun v s1 ⟨x,H1,I1,r1,q1⟩=>?_);obtain ⟨c,rfl,q1⟩:=q1;cases r1;refine wpAny_truthy_bool ?_;cases c with
 | true=>exact hb pins s1 σ H1 Q I1 q1
 | false=>exact ⟨.bl false,H1,I1,rfl,q1⟩
noncomputable def tIf (t:TT) (ta tb:TE):TE:=fun σ H Q=>t σ H fun c H1=>if c=true then ta σ H1 Q else tb σ H1 Q
theorem ztb {c:Expr} (hc:PT X c tA) (ha:PE X a ta) (hb:PE X b tb):PE X (.IfExp c a b pos) (tIf tA ta tb):=by
 intro pins s σ H Q I h;refine wpAny_IfExp (thn (hc pins s σ H _ I h) fun d s1 ⟨H1,I1,q1⟩=>?_);cases d with
 | true=>exact ha pins s1 σ H1 Q I1 q1
 | false=>exact hb pins s1 σ H1 Q I1 q1
end
end L2
namespace L2
open PySem PySem.Spec PyProof.Rows
noncomputable def SqL (K:PySem.W.Frag) (H:Hp) (a:Addr) (xs:List V):Prop :=
 Rd H a (.lst xs) \/
  ∃(o:Obj) (its:Array Value) (n:Nat),K.lookup a=some o/\o.cls=.type "list"/\o.dict=none/\o.data=.seq its n/\its.size<=sizeLine/\Vals xs its.toList
noncomputable def SqT (K:PySem.W.Frag) (H:Hp) (a:Addr) (xs:List V):Prop :=
 Rd H a (.tup xs) \/
  ∃(o:Obj) (its:Array Value) (n:Nat),K.lookup a=some o/\o.cls=.type "tuple"/\o.data=.seq its n/\its.size<=sizeLine/\Vals xs its.toList
noncomputable def absV:Value->Option V
 | .none=>some .non
 | .bool b=>some (.bl b)
 | .int i _=>some (.int i)
 | .str x _=>some (.str x)
 | .bytes b _=>some (.byt b)
 | .float b _=>some (.flt b)
 | .ref a=>some (.ref a)
 | .type n=>some (.ty n)
 | _=>none
theorem RelV.abs {x:V}{u:Value} (r:RelV x u):absV u=some x:=by
 cases x with
 | non=>cases r;rfl
 | bl _=>cases r;rfl
 | int _=>obtain ⟨t,rfl⟩:=r;rfl
 | str _=>obtain ⟨t,rfl⟩:=r;rfl
 | byt _=>obtain ⟨t,rfl⟩:=r;rfl
 | flt _=>obtain ⟨t,rfl⟩:=r;rfl
 | ref _=>cases r;rfl
 | ty _=>cases r;rfl
theorem RelV.inj {x y:V}{u:Value} (r:RelV x u) (q:RelV y u):x=y:=sI (r.abs.symm.trans q.abs)
theorem Vals.inj:∀{xs ys:List V}{us:List Value},Vals xs us->Vals ys us->xs=ys
 | _,_,_,.nil,.nil=>rfl
 | _,_,_,.cons r t,.cons r' t'=>by rw [r.inj r',Vals.inj t t']
section
variable {X:Cx}{pins:List (Addr × Obj)}{σ:St}{H:Hp}{s:Shared}{a:Addr}{xs ys:List V}
theorem Inv.list (I:Inv X pins σ H s) (h:SqL X.K H a xs):∃its:List Value,Vals xs its/\PlainL s.heap a its.toArray/\xs.length<=sizeLine:=by
 rcases h with h | ⟨o,its,n,hk,hc,hd,hs,hz,r⟩
 ·obtain ⟨z, its, n, r, e⟩ := h.ok I.hok;exact ⟨its,r,⟨_,n,e,rfl,rfl,rfl⟩,z⟩
 ·refine ⟨its.toList, r, ⟨o, n, I.kIn a o hk, hc, hd, by simpa using hs⟩, ?_⟩;have e:=r.length;simp only [Array.length_toList] at e;omega
theorem Inv.tuple (I:Inv X pins σ H s) (h:SqT X.K H a xs):∃its:List Value,Vals xs its/\IsTup s.heap a its.toArray/\xs.length<=sizeLine:=by
 rcases h with h | ⟨o,its,n,hk,hc,hs,hz,r⟩
 ·obtain ⟨z, its, r, p⟩ := h.ok I.hok;exact ⟨its,r,p,z⟩
 ·refine ⟨its.toList, r, ⟨o, I.kIn a o hk, hc, n, by simpa using hs⟩, ?_⟩;have e:=r.length;simp only [Array.length_toList] at e;omega
theorem Inv.list_inj (I:Inv X pins σ H s) (h:SqL X.K H a xs) (h' : SqL X.K H a ys):xs=ys:=by
 obtain ⟨its,r,⟨o,n,e,_,_,d⟩,_⟩:=I.list h;obtain ⟨its',r',⟨o',n',e',_,_,d'⟩,_⟩:=I.list h';rw [e] at e';cases e';rw [d] at d';injection d' with d1 _;have:its=its':=by simpa using congrArg Array.toList d1
 subst this;exact r.inj r'
theorem Inv.tuple_inj (I:Inv X pins σ H s) (h:SqT X.K H a xs) (h' : SqT X.K H a ys):xs=ys:=by
 obtain ⟨its,r,⟨o,e,_,n,d⟩,_⟩:=I.tuple h;obtain ⟨its',r',⟨o',e',_,n',d'⟩,_⟩:=I.tuple h';rw [e] at e';cases e';rw [d] at d';injection d' with d1 _;have:its=its':=by simpa using congrArg Array.toList d1
 subst this;exact r.inj r'
end
noncomputable abbrev Cx.wish (X:Cx) (E:Value->Shared->Prop):Cx:={ X with xe:=E }
noncomputable abbrev Cx.nox (X:Cx):Cx:=X.wish fun _ _=>False
theorem Cx.Ok.wish {X:Cx} (ok:X.Ok) (E:Value->Shared->Prop):(X.wish E).Ok :=
 ⟨ok.mod,ok.kind,ok.glob,ok.blt,ok.above,ok.inj,ok.has,ok.cab,ok.hd,ok.frames,ok.stk,ok.exf,ok.bs,ok.bsz,ok.noex,ok.exfs,ok.funs,ok.frf⟩
theorem Cx.Ok.unwish {X:Cx}{E:Value->Shared->Prop} (ok:(X.wish E).Ok):X.Ok :=
 ⟨ok.mod,ok.kind,ok.glob,ok.blt,ok.above,ok.inj,ok.has,ok.cab,ok.hd,ok.frames,ok.stk,ok.exf,ok.bs,ok.bsz,ok.noex,ok.exfs,ok.funs,ok.frf⟩
section
variable {X:Cx}{pins:List (Addr × Obj)}{σ:St}{H:Hp}{s:Shared}{E:Value->Shared->Prop}
theorem Inv.wish (I:Inv X pins σ H s) (E:Value->Shared->Prop):Inv (X.wish E) pins σ H s:=⟨I.ok.wish E,I.os,I.bare,I.base,I.loc,I.cell,I.free,I.freeC,I.pin,I.hok,I.len⟩
theorem Inv.unwish (I:Inv (X.wish E) pins σ H s):Inv X pins σ H s:=⟨I.ok.unwish,I.os,I.bare,I.base,I.loc,I.cell,I.free,I.freeC,I.pin,I.hok,I.len⟩
theorem SP.unwish {D:Ends}{f:Flow}{s' : Shared} (h:SP (X.wish E) pins D f s'):SP X pins D f s':=by
 cases f with
 | next=>obtain ⟨σ',H',I,q⟩:=h;exact ⟨σ',H',I.unwish,q⟩
 | brk=>obtain ⟨σ',H',I,q⟩:=h;exact ⟨σ',H',I.unwish,q⟩
 | cont=>obtain ⟨σ',H',I,q⟩:=h;exact ⟨σ',H',I.unwish,q⟩
 | ret u=>obtain ⟨v,σ',H',I,r,q⟩:=h;exact ⟨v,σ',H',I.unwish,r,q⟩
theorem PSs.nox {st:List Stmt}{t:TS} (h:PSs X.nox st t):PSs X st t:=fun pins s σ H D I hw =>
 wpAny_mono (h pins s σ H D (I.wish _) hw) (fun _ _ q=>q.unwish) fun _ _ z=>False.elim z
end
section
variable {X:Cx}{st:Stmt}{rest:List Stmt}{t u:TS}{e:Expr}{te:TE}{pos:Pos}
noncomputable def zxa:TS:=fun D σ H=>D.nx σ H
noncomputable def tSeq (t u:TS):TS:=fun D σ H=>t { D with nx:=u D } σ H
theorem zw6:PSs X [] zxa:=fun _ _ σ H _ I h=>wpAny_execs_nil ⟨σ,H,I,h⟩
theorem zuo (h1:PS X st t) (h2:PSs X rest u):PSs X (st::rest) (tSeq t u):=by
  intro pins s σ H D I h;refine wpAny_execs_cons (thn (h1 pins s σ H { D with nx:=u D } I h) fun f s1 q=>?_);cases f with
  | next =>
    obtain ⟨σ',H',I',q⟩:=q;exact h2 pins s1 σ' H' D I' q
  | ret v=>exact q
  | brk=>exact q
  | cont=>exact q
theorem zx6 (h1:PS X st t):PSs X [st] t:=by
 intro pins s σ H D I h;refine wpAny_execs_cons (thn (h1 pins s σ H D I h) fun f s1 q=>?_);cases f with
 | next=>exact wpAny_execs_nil q
 | ret v=>exact q
 | brk=>exact q
 | cont=>exact q
theorem zwn:PS X (.Pass pos) zxa:=fun _ _ σ H _ I h=>wpAny_Pass ⟨σ,H,I,h⟩
theorem Inv.quiet {pins:List (Addr × Obj)}{σ:St}{H:Hp}{s:Shared} (I:Inv X pins σ H s):interactive X.env=false:=by simp [interactive,I.ok.kind]
noncomputable def z0w (te:TE):TS:=fun D σ H=>te σ H fun _ H1=>D.nx σ H1
theorem zza (he:PE X e te) (hs:swapsWith e none pos.line X.env=pure false:=by rfl):PS X (.Expr e pos) (z0w te):=by
 intro pins s σ H D I h;exact wpAny_Expr_any (thn (he pins s σ H _ I h) fun v s1 ⟨x,H1,I1,r1,q1⟩=>⟨σ,H1,I1,q1⟩) I.quiet hs
noncomputable def tRet (te:TE):TS:=fun D σ H=>te σ H D.rt
theorem zvn (he:PE X e te):PS X (.Return (some e) pos) (tRet te):=by
 intro pins s σ H D I h;exact wpAny_Return_some (thn (he pins s σ H _ I h) fun v s1 ⟨x,H1,I1,r1,q1⟩=>⟨x,σ,H1,I1,r1,q1⟩)
noncomputable def tIfS (c:TT) (t u:TS):TS:=fun D σ H=>c σ H fun b H1=>if b=true then t D σ H1 else u D σ H1
theorem z3l {c:Expr}{a b:List Stmt}{tc:TT} (hc:PT X c tc) (ha:PSs X a t) (hb:PSs X b u):PS X (.If c a b pos) (tIfS tc t u):=by
 intro pins s σ H D I h;refine wpAny_If (thn (hc pins s σ H _ I h) fun d s1 ⟨H1,I1,q1⟩=>?_);cases d with
 | true=>exact ha pins s1 σ H1 D I1 q1
 | false=>exact hb pins s1 σ H1 D I1 q1
end
noncomputable abbrev TG:=V->St->Hp->(St->Hp->Prop)->Prop
noncomputable abbrev TGs:=List V->St->Hp->(St->Hp->Prop)->Prop
noncomputable def PG (X:Cx) (target:Expr) (t:TG):Prop :=
  ∀(pins:List (Addr × Obj)) (s:Shared) (σ:St) (H:Hp) (v:V) (u:Value) (Q:St->Hp->Prop),Inv X pins σ H s->RelV v u->t v σ H Q ->
    wpAny (model X.prog X.w) X.A (assign target X.env u) (fun _ s'=>∃σ' H',Inv X pins σ' H' s'/\Q σ' H') X.xe s
noncomputable def PGs (X:Cx) (ts:List Expr) (t:TGs):Prop :=
  ∀(pins:List (Addr × Obj)) (s:Shared) (σ:St) (H:Hp) (vs:List V) (us:List Value) (Q:St->Hp->Prop),Inv X pins σ H s->Vals vs us->t vs σ H Q ->
    wpAny (model X.prog X.w) X.A (assignInOrder ((assignEach ts X.env).map (·.2)) us) (fun _ s'=>∃σ' H',Inv X pins σ' H' s'/\Q σ' H') X.xe s
noncomputable abbrev TSet:=V->V->V->Hp->(Hp->Prop)->Prop
noncomputable def PSet (X:Cx) (t:TSet):Prop :=
  ∀(pins:List (Addr × Obj)) (s:Shared) (σ:St) (H:Hp) (o i v:V) (ov iv u:Value) (Q:Hp->Prop),Inv X pins σ H s->RelV o ov->RelV i iv->RelV v u->t o i v H Q ->
    wpAny (model X.prog X.w) X.A (setItem ov iv u) (fun _ s'=>∃H',Inv X pins σ H' s'/\Q H') X.xe s
noncomputable abbrev TIp:=V->V->Hp->VK->Prop
noncomputable def PIp (X:Cx) (op:Operator) (t:TIp):Prop :=
  ∀(pins:List (Addr × Obj)) (s:Shared) (σ:St) (H:Hp) (x y:V) (v u:Value) (Q:VK),Inv X pins σ H s->RelV x v->RelV y u->t x y H Q ->
    wpAny (model X.prog X.w) X.A (inplaceOp op v u) (EP X pins σ Q) X.xe s
section
variable {X:Cx}{pos:Pos}
noncomputable def znz (i:Nat):TG:=fun v σ H Q=>Q (σ.set i (some v)) H
theorem zoc {i:Nat}{x:Str} (hN:X.N.Nodup) (hi:X.N[i]?=some x) (hx:Loc X.env.scope x) (hf:X.fn x=true\/X.env.scope.names.lookup x=some .local:=by first | exact .inl rfl | exact .inr rfl | assumption):PG X (.Name x pos) (znz i):=by
 intro pins s σ H v u Q I r h;exact wpAny_assign_Name (zdk I hN hi hx r (fun s' I'=>⟨_,H,I',h⟩) hf)
noncomputable def gNil:TGs:=fun vs σ H Q=>vs=[]/\Q σ H
noncomputable def zz2 (t:TG) (u:TGs):TGs:=fun vs σ H Q=>∃v r,vs=v::r/\t v σ H fun σ' H'=>u r σ' H' Q
theorem zzg:PGs X [] gNil:=by
 intro pins s σ H vs us Q I r h;obtain ⟨e,h⟩:=h;subst e;cases r;exact assignInOrder_nil ⟨σ,H,I,h⟩
theorem zs5 {e:Expr}{es:List Expr}{t:TG}{u:TGs} (h1:PG X e t) (h2:PGs X es u)
    (hs:(assignEach (e::es) X.env).map (·.2)=assign e X.env::(assignEach es X.env).map (·.2):=by rfl):PGs X (e::es) (zz2 t u):=by
  intro pins s σ H vs us Q I r h;obtain ⟨v,vr,e1,h⟩:=h;subst e1;cases r with
  | cons r rr =>
    rw [hs];refine assignInOrder_cons (thn (h1 pins s σ H _ _ _ I r h) fun _ s1 ⟨σ1,H1,I1,q1⟩=>?_);exact h2 pins s1 σ1 H1 _ _ Q I1 rr q1
noncomputable def gTup (K:PySem.W.Frag) (n:Nat) (t:TGs):TG:=fun v σ H Q=>∃a xs,v=.ref a/\SqT K H a xs/\xs.length=n/\t xs σ H Q
theorem z0q {es:List Expr}{k:Nat}{t:TGs}{n:Nat} (hc:X.calm=true) (h:PGs X es t)
  (hn:(assignEach es X.env).length=n:=by rfl) (hst:(assignEach es X.env).findIdx? (·.1)=none:=by rfl):PG X (.Tuple es k pos) (gTup X.K n t):=by
 intro pins s σ H v u Q I r hw;obtain ⟨a,xs,e1,hq,hl,hw⟩:=hw;subst e1;cases r;obtain ⟨its,rv,ht,hz⟩:=I.tuple hq;refine assign_Tuple_tuple (I.ok.hd hc) ht (by simp [hn,<-hl,rv.length]) hst fun h' hx=>?_;have I1:Inv X pins σ H { s with heap:=h' }:=I.kept (t':=s.toks) fun b o e=>hx b o (Nat.ne_of_lt (Heap.lt_size e)) e;exact h pins _ σ H xs _ Q I1 (by simpa using rv) hw
noncomputable def gSub (to ti:TE) (t:TSet):TG:=fun v σ H Q=>to σ H fun o H1=>ti σ H1 fun i H2=>t o i v H2 fun H3=>Q σ H3
theorem z0d {o i:Expr}{to ti:TE}{t:TSet} (ho:PE X o to) (hi:PE X i ti) (hs:PSet X t)
  (ha:∀v,assign (.Subscript o i pos) X.env v=(do
   let ov <- holding [v] (eval o X.env)
   let iv <- holding [v,ov] (eval i X.env)
   standAt pos
   holding [v,ov,iv] (setItem ov iv v)
   release [v,ov,iv] []):=by intro _;rfl):PG X (.Subscript o i pos) (gSub to ti t):=by
 intro pins s σ H v u Q I r h;rw [ha];refine wpAny_bind (wpAny_holding (thn (ho pins s σ H _ I h) fun ov s1 ⟨x,H1,I1,r1,q1⟩=>?_));refine wpAny_bind (wpAny_holding (thn (hi pins s1 σ H1 _ I1 q1) fun iv s2 ⟨y,H2,I2,r2,q2⟩=>?_));refine wpAny_bind (wpAny_standAt (wpAny_bind (wpAny_holding (thn (hs pins s2 σ H2 x y v ov iv u _ I2 r1 r2 r q2) fun _ s3 ⟨H3,I3,q3⟩=>?_))));exact wpAny_release ⟨σ,H3,I3,q3⟩
noncomputable def tAsg (te:TE) (g:TG):TS:=fun D σ H=>te σ H fun x H1=>g x σ H1 D.nx
theorem z07 {tg e:Expr}{te:TE}{g:TG} (he:PE X e te) (hg:PG X tg g) (hs:swapsWithSole [tg] e pos.line X.env=pure false:=by rfl) (hw:swappedStores [tg] e X.env=pure none:=by rfl)
  (h1:(assignEach [tg] X.env).map (·.2)=[assign tg X.env]:=by rfl):PS X (.Assign [tg] e pos) (tAsg te g):=by
 intro pins s σ H D I h;refine wpAny_Assign_stores (thn (he pins s σ H _ I h) fun v s1 ⟨x,H1,I1,r1,q1⟩=>?_) hs hw;rw [h1];exact thn (hg pins s1 σ H1 x v _ I1 r1 q1) fun _ s2 q=>q
theorem zvb {i:Nat}{x:Str}{e:Expr}{te:TE}{pos' : Pos} (hN:X.N.Nodup) (hi:X.N[i]?=some x) (hx:Loc X.env.scope x) (he:PE X e te) (hs:swapsWith e (some (.Name x pos')) pos.line X.env=pure false:=by rfl) (hf:X.fn x=true\/X.env.scope.names.lookup x=some .local:=by first | exact .inl rfl | exact .inr rfl | assumption) :
  PS X (.Assign [.Name x pos'] e pos) (tAsg te (znz i)):=by
 intro pins s σ H D I h;refine wpAny_Assign_Name (thn (he pins s σ H _ I h) fun v s1 ⟨y,H1,I1,r1,q1⟩=>?_) hs;exact zdk I1 hN hi hx r1 (fun s2 I2=>⟨_,H1,I2,q1⟩) hf
noncomputable def tPar (i j:Nat) (ta:TA):TS:=fun D σ H=>ta σ H fun vs H1=>∃v w,vs=[v,w]/\D.nx ((σ.set i (some v)).set j (some w)) H1
theorem zzt {i j:Nat}{x y:Str}{a b:Expr}{ta:TA}{px py pt:Pos}{kt k2 pt2} (hc:X.calm=true) (hN:X.N.Nodup) (hi:X.N[i]?=some x) (hj:X.N[j]?=some y) (hij:i≠j)
    (hx:X.env.scope.names.lookup x=some .local) (hy:X.env.scope.names.lookup y=some .local) (ha:PA X [a,b] ta)
    (hw:swappedStores [.Tuple [.Name x px,.Name y py] kt pt] (.Tuple [a,b] k2 pt2) X.env=pure (some [x,y]))
    (hs:swapsWithSole [.Tuple [.Name x px,.Name y py] kt pt] (.Tuple [a,b] k2 pt2) pos.line X.env=pure false:=by rfl) :
    PS X (.Assign [.Tuple [.Name x px,.Name y py] kt pt] (.Tuple [a,b] k2 pt2) pos) (tPar i j ta):=by
  intro pins s σ H D I h;rw [exec_Assign_arm];refine wpAny_bind (wpAny_standAt ?_);rw [hs];refine wpAny_bind (wpAny_pure ?_);rw [if_neg (by decide)];refine wpAny_bind (Tuple_ (thn (ha _ pins s σ H _ I h) fun us s1 ⟨vs,H1,I1,r1,q1⟩=>?_));obtain ⟨v,w,e1,q1⟩:=q1;subst e1;obtain ⟨u1,u2,rfl,rv,rw'⟩ : ∃u1 u2,us=[u1,u2]/\RelV v u1/\RelV w u2:=by
    cases r1 with
    | cons p q =>
      cases q with
      | cons p' q' =>
        cases q';exact ⟨_,_,rfl,p,p'⟩
  refine wpAny_newObj_type ?_ (by show 2<=sizeLine;decide);have I2:Inv X pins σ H1 { s1 with heap:=s1.heap.push { cls:=.type "tuple",data:=.seq [u1,u2].toArray } }:=I1.kept (t':=s1.toks) fun b o e=>Heap.get?_push_of_some _ e;rw [hw];refine wpAny_bind (wpAny_pure ?_);show wpAny (model X.prog X.w) X.A (do rule "assign.swapped-stores";let items <- unpackItems (.ref s1.heap.objs.size) 2 none;assignInOrder [fun v=>bindName X.env y v,fun v=>bindName X.env x v] items.reverse;pure Flow.next) _ _ _;refine wpAny_bind (wpAny_rule (wpAny_bind (unpackItems_tuple (items:=#[u1,u2]) (I.ok.hd hc) (IsTup.new s1.heap _) fun h' hx'=>?_)));have I3:=I2.kept (h':=h') (t':=s1.toks) fun b o e=>hx' b o (Nat.ne_of_lt (Heap.lt_size e)) e;show wpAny _ _ (assignInOrder [fun v=>bindName X.env y v,fun v=>bindName X.env x v] [u2,u1] >>= fun _=>pure Flow.next) _ _ _;refine wpAny_bind (assignInOrder_cons (wpAny_bindName (zdk I3 hN hj (.inl hy) rw' (fun s2 I4=>?_) (.inr hy))));refine assignInOrder_cons (wpAny_bindName (zdk I4 hN hi (.inl hx) rv (fun s3 I5=>assignInOrder_nil (wpAny_pure ?_)) (.inr hx)));rw [List.set_comm _ _ (Ne.symm hij)] at I5;exact ⟨_,H1,I5,q1⟩
noncomputable def tAug (i:Nat) (te:TE) (ti:TIp):TS:=fun D σ H=>∃x,σ[i]?=some (some x)/\te σ H fun y H1=>ti x y H1 fun z H2=>D.nx (σ.set i (some z)) H2
theorem z28 {i:Nat}{x:Str}{e:Expr}{te:TE}{op:Operator}{ti:TIp}{pos' : Pos} (hN:X.N.Nodup) (hi:X.N[i]?=some x) (hx:Loc X.env.scope x) (he:PE X e te) (ho:PIp X op ti) (hf:X.fn x=true\/X.env.scope.names.lookup x=some .local:=by first | exact .inl rfl | exact .inr rfl | assumption) :
  PS X (.AugAssign (.Name x pos') op e pos) (tAug i te ti):=by
 intro pins s σ H D I h;obtain ⟨v,e1,h⟩:=h;obtain ⟨m,hn,hl⟩:=I.loc;have vis:Vis X.env.scope x:=by rcases hx with k | k;exact .inl k;exact .inr (.inl k)
 obtain ⟨u,r,l⟩:=hl i x v hi e1 vis;refine wpAny_AugAssign_Name ?_;have go:wpAny (model X.prog X.w) X.A (eval e X.env) (fun w s₂=>wpAny (model X.prog X.w) X.A (inplaceOp op u w) (fun r s₃=>wpAny (model X.prog X.w) X.A (storeName X.env x r) (fun _=>SP X pins D .next) X.xe s₃) X.xe s₂) X.xe s:=by
  refine thn (he pins s σ H _ I h) fun w s1 ⟨y,H1,I1,r1,q1⟩=>?_;refine thn (ho pins s1 σ H1 v y u w _ I1 r r1 q1) fun z s2 ⟨zv,H2,I2,r2,q2⟩=>?_;exact zdk I2 hN hi hx r2 (fun s3 I3=>⟨_,H2,I3,q2⟩) hf
 rcases l with ⟨hk,hm⟩ | ⟨hk,c,hc,hcell⟩
 ·exact wpAny_loadName_local I.ok.kind hk hn hm go
 ·rcases hk with hk | hk
  ·exact wpAny_loadName_cell I.ok.kind hk hc hcell go
  ·rcases hx with k | k
   ·have : X.env.scope.names.lookup x = some .free := hk;rw [k] at this;cases this
   ·have : X.env.scope.names.lookup x = some .free := hk;rw [k] at this;cases this
end
section
variable {X:Cx}{pos:Pos}
end
structure It where
 go:Nat->Hp->Prop
 yld:Nat->Hp->V->Hp->Prop
 stop:Nat->Hp->Prop
noncomputable def FpOk (X:Cx) (pins:List (Addr × Obj)) (H:Hp) (b:Addr):Prop :=
 H b=none/\b≠X.env.locals/\b ∉ X.fs/\(b∈X.ex\/X.s₀.heap.objs.size<=b)/\(∀x c,X.env.cells.lookup x=some c->c≠b)/\∀p∈X.pn++pins,p.1≠b
theorem Inv.fpOk {X:Cx}{pins:List (Addr × Obj)}{σ:St}{H H' : Hp}{s:Shared}{b:Addr} (I:Inv X pins σ H s) (hb:s.heap.objs.size<=b) (hn:H' b=none):FpOk X pins H' b:=by
 refine ⟨hn,Nat.ne_of_gt (Nat.lt_of_lt_of_le I.lt hb),I.nofs hb,.inr (Nat.le_trans I.sz hb),fun x c e z=>?_,fun p hp z=>?_⟩
 ·obtain ⟨v, q⟩ := I.cell x c e;exact absurd (Nat.lt_of_lt_of_le q.lt (by rw [z];exact hb)) (Nat.lt_irrefl _)
 ·exact absurd (Nat.lt_of_lt_of_le (Heap.lt_size (I.pin p hp).1) (by rw [z];exact hb)) (Nat.lt_irrefl _)
structure Turn (P:Program) (w:World) (K:PySem.W.Frag) (tg:Expr) (J:It) (fp:List Addr) (it:Addr) (tn:Nat->Heap->Prop):Prop where
 mem:it∈fp
 obj:∀i h,tn i h->∀b∈fp,∃o,h.get? b=some o/\∀v,o.data≠.cell v
 keep:∀i h h',tn i h->(∀b∈fp,∀o,h.get? b=some o->h'.get? b=some o)->tn i h'
 item:∀(X:Cx),X.prog=P->X.w=w->X.K=K->X.calm=true->∀(i:Nat) (pins:List (Addr × Obj)) (s:Shared) (σ:St) (H:Hp) (E:Value->Shared->Prop),Inv X pins σ H s->(∀b∈fp,FpOk X pins H b)->tn i s.heap->J.go i H ->
  wpAny (model P w) X.A (pyNext (.ref it)) (fun r s1=>∃u,r=some u /\
   wpAny (model P w) X.A (letOwnedTupleGo tg (.ref it) u) (fun _ s2=>∃x H',Inv X pins σ H' s2/\RelV x u/\J.yld i H x H'/\tn (i+1) s2.heap/\∀b∈fp,H' b=none) E s1) E s
 done:∀(X:Cx),X.prog=P->X.w=w->X.K=K->X.calm=true->∀(i:Nat) (pins:List (Addr × Obj)) (s:Shared) (σ:St) (H:Hp) (E:Value->Shared->Prop),Inv X pins σ H s->(∀b∈fp,FpOk X pins H b)->tn i s.heap->J.stop i H ->
  wpAny (model P w) X.A (pyNext (.ref it)) (fun r s1=>r=none/\Inv X pins σ H s1) E s
 self:∀(A:Around) (i:Nat) (s:Shared) (Q:Value->Shared->Prop) (E:Value->Shared->Prop),tn i s.heap->Q (.ref it) s->wpAny (model P w) A (pyIter (.ref it)) Q E s
noncomputable abbrev TI:=St->Hp->(It->Hp->Prop)->Prop
noncomputable def PIE (X:Cx) (pins:List (Addr × Obj)) (σ:St) (tg:Expr) (R:It->Hp->Prop) (itv:Value) (s2:Shared):Prop :=
 ∃(it:Addr) (fp:List Addr) (tn:Nat->Heap->Prop) (J:It) (H' : Hp),itv=.ref it/\Inv X pins σ H' s2/\Turn X.prog X.w X.K tg J fp it tn/\tn 0 s2.heap/\(∀b∈fp,FpOk X pins H' b)/\R J H'
noncomputable def PI (X:Cx) (tg iter:Expr) (wi:TI):Prop :=
  ∀(pins:List (Addr × Obj)) (s:Shared) (σ:St) (H:Hp) (R:It->Hp->Prop),Inv X pins σ H s->wi σ H R ->
    wpAny (model X.prog X.w) X.A (eval iter X.env) (fun v s1=>wpAny (model X.prog X.w) X.A (pyIter v) (PIE X pins σ tg R) X.xe s1) X.xe s
theorem zpe {M:Model}{A:Around}{E:Value->Shared->Prop}{s:Shared}{tg:Expr}{it:Addr}{u:Value}{o:Obj}{n:String}{vs:Array Value}{Q:Unit->Shared->Prop} (ho:s.heap.get? it=some o) (hc:o.cls=.type n) (hd:o.data=.fields vs)
    (hn:["enumerate","zip","dict_itemiterator","dict_reverseitemiterator","odict_iterator","itertools.zip_longest","itertools.pairwise"].contains n=false) (hQ:Q () s):wpAny M A (letOwnedTupleGo tg (.ref it) u) Q E s:=by
  unfold letOwnedTupleGo;cases tg<;>first
    | exact wpAny_pure hQ
    | (cases u<;>first
        | exact wpAny_pure hQ
        | (refine wpAny_bind (wpAny_load ho ?_)
           rw [hc,hd];show wpAny M A (if (["enumerate","zip","dict_itemiterator","dict_reverseitemiterator","odict_iterator","itertools.zip_longest","itertools.pairwise"].contains n && vs[0]? == some (rawInt _))=true then _ else _) Q E s;rw [if_neg (by intro h;rw [hn,Bool.false_and] at h;cases h)];exact wpAny_pure hQ))
noncomputable def Itl (K:PySem.W.Frag) (a:Addr):It :=
 ⟨fun i H=>∃xs x,SqL K H a xs/\xs[i]?=some x,fun i H x H'=>H'=H/\∀xs,SqL K H a xs->xs[i]?=some x,fun i H=>∃xs,SqL K H a xs/\xs.length<=i⟩
noncomputable def Itt (K:PySem.W.Frag) (a:Addr):It :=
 ⟨fun i H=>∃xs x,SqT K H a xs/\xs[i]?=some x,fun i H x H'=>H'=H/\∀xs,SqT K H a xs->xs[i]?=some x,fun i H=>∃xs,SqT K H a xs/\xs.length<=i⟩
noncomputable def Itr (lo:Int) (n:Nat):It:=⟨fun i _=>i < n,fun i H x H'=>H'=H/\x=.int (lo+i),fun i _=>n<=i⟩
theorem zhx {P:Program}{w:World}{K:PySem.W.Frag}{tg:Expr} (a it:Addr):Turn P w K tg (Itl K a) [it] it (fun i h=>h.IsListIter it a i) where
 mem:=by simp
 obj:=fun i h st b hb=>by
  have e:b=it:=by simpa using hb
  subst e;obtain ⟨o,e,c,d⟩:=st;exact ⟨o,e,fun v z=>by rw [d] at z;cases z⟩
 keep:=fun i h h' st k=>st.at fun o e=>k it (by simp) o e
 item:=by
  intro X hP hw hK hc i pins s σ H E I hf st hg;subst hP hw hK;obtain ⟨xs,x,hq,hx⟩:=hg;obtain ⟨its,rv,p,hz⟩:=I.list hq;obtain ⟨u,hu,ru⟩:=rv.get hx;obtain ⟨f0,f1,f2,f3,f4,f5⟩:=hf it (by simp);refine wpAny_pyNext_list_item st p.isList (x:=u) (by simpa using hu) fun h' st' sb=>?_;have I1:Inv X pins σ H { s with heap:=h' }:=I.turned (t':=s.toks) (fun b o hb e=>(sb.2 b hb).trans e) f0 f1 f3 f4 f5;obtain ⟨o,e,c,d⟩:=id st';exact ⟨u,rfl,zpe (s:={ s with heap:=h' }) e c d (by decide) ⟨x,H,I1,ru,⟨rfl,fun ys hy=>by rw [I.list_inj hy hq];exact hx⟩,st',fun b hb=>(hf b hb).1⟩⟩
 done:=by
  intro X hP hw hK hc i pins s σ H E I hf st hg;subst hP hw hK;obtain ⟨xs,hq,hx⟩:=hg;obtain ⟨its,rv,p,hz⟩:=I.list hq;obtain ⟨f0,f1,f2,f3,f4,f5⟩:=hf it (by simp);have hl:=rv.length;exact wpAny_pyNext_list_end (I.ok.hd hc) st p.isList (by simp;omega) fun h' eb=>⟨rfl,I.turned (t':=s.toks) (fun b o hb e=>eb b o hb e) f0 f1 f3 f4 f5⟩
 self:=fun _ _ _ _ _ st h=>wpAny_pyIter_listiter st h
theorem zfx {P:Program}{w:World}{K:PySem.W.Frag}{tg:Expr} (a it:Addr):Turn P w K tg (Itt K a) [it] it (fun i h=>h.IsTupleIter it a i) where
 mem:=by simp
 obj:=fun i h st b hb=>by
  have e:b=it:=by simpa using hb
  subst e;obtain ⟨o,e,c,d⟩:=st;exact ⟨o,e,fun v z=>by rw [d] at z;cases z⟩
 keep:=fun i h h' st k=>st.at fun o e=>k it (by simp) o e
 item:=by
  intro X hP hw hK hc i pins s σ H E I hf st hg;subst hP hw hK;obtain ⟨xs,x,hq,hx⟩:=hg;obtain ⟨its,rv,p,hz⟩:=I.tuple hq;obtain ⟨u,hu,ru⟩:=rv.get hx;obtain ⟨f0,f1,f2,f3,f4,f5⟩:=hf it (by simp);refine wpAny_pyNext_tuple_item st (show s.heap.IsTuple a its.toArray from p) (x:=u) (by simpa using hu) fun h' st' sb=>?_;have I1:Inv X pins σ H { s with heap:=h' }:=I.turned (t':=s.toks) (fun b o hb e=>(sb.2 b hb).trans e) f0 f1 f3 f4 f5;obtain ⟨o,e,c,d⟩:=id st';exact ⟨u,rfl,zpe (s:={ s with heap:=h' }) e c d (by decide) ⟨x,H,I1,ru,⟨rfl,fun ys hy=>by rw [I.tuple_inj hy hq];exact hx⟩,st',fun b hb=>(hf b hb).1⟩⟩
 done:=by
  intro X hP hw hK hc i pins s σ H E I hf st hg;subst hP hw hK;obtain ⟨xs,hq,hx⟩:=hg;obtain ⟨its,rv,p,hz⟩:=I.tuple hq;obtain ⟨f0,f1,f2,f3,f4,f5⟩:=hf it (by simp);have hl:=rv.length;exact wpAny_pyNext_tuple_end (I.ok.hd hc) st (show s.heap.IsTuple a its.toArray from p) (by simp;omega) fun h' eb=>⟨rfl,I.turned (t':=s.toks) (fun b o hb e=>eb b o hb e) f0 f1 f3 f4 f5⟩
 self:=fun _ _ _ _ _ st h=>wpAny_pyIter_tupleiter st h
theorem zns {P:Program}{w:World}{K:PySem.W.Frag}{tg:Expr} (it:Addr) (lo:Int) (n:Nat):Turn P w K tg (Itr lo n) [it] it (fun i h=>IsRangeIter h it (lo+(i:Nat) * 1) ((n:Int) - (i:Nat)) 1) where
 mem:=by simp
 obj:=fun i h st b hb=>by
  have e:b=it:=by simpa using hb
  subst e;exact ⟨_,st,fun v z=>by
   have z' : Data.fields _=Data.cell v:=z;cases z'⟩
 keep:=fun i h h' st k=>k it (by simp) _ st
 item:=by
  intro X hP hw hK hc i pins s σ H E I hf st hg;subst hP hw hK;obtain ⟨f0,f1,f2,f3,f4,f5⟩:=hf it (by simp);have W:=Walks.range (prog:=X.prog) (w:=X.w) (I.ok.hd hc) it lo 1 n;refine W.item i s _ _ hg st fun v h' tk hv st' kk=>?_;obtain ⟨t,rfl⟩:=hv;have I1:Inv X pins σ H { s with heap:=h',toks:=tk }:=I.turned (fun b o hb e=>kk b o (by simpa using hb) e) f0 f1 f3 f4 f5;refine ⟨_,rfl,zpe (s:={ s with heap:=h',toks:=tk }) (n := "range_iterator") st' rfl rfl (by decide) ⟨.int (lo+i),H,I1,⟨t,?_⟩,⟨rfl,rfl⟩,st',fun b hb=>(hf b hb).1⟩⟩;rw [Int.mul_one]
 done:=by
  intro X hP hw hK hc i pins s σ H E I hf st hg;subst hP hw hK;obtain ⟨f0,f1,f2,f3,f4,f5⟩:=hf it (by simp);exact wpAny_pyNext_range_end (I.ok.hd hc) st (by have:n<=i:=hg;omega) fun h' eb=>⟨rfl,I.turned (t':=s.toks) (fun b o hb e=>eb b o hb e) f0 f1 f3 f4 f5⟩
 self:=fun _ _ _ _ _ st h=>wpAny_pyIter_rangeiter st h
end L2
namespace L2
open PySem PySem.Spec PyProof.Rows
section
variable {X:Cx}{tg:Expr}
theorem zt2 {pins:List (Addr × Obj)}{σ:St}{H:Hp}{s:Shared}{R:It->Hp->Prop}{E:Value->Shared->Prop}{lo hi:Int}{t u v:Tok}{tk:Nat} (I:Inv X pins σ H s) (h1:-(2 ^ 62)<=lo) (h2:lo < 2 ^ 62) (h3:-(2 ^ 62)<=hi) (h4:hi < 2 ^ 62)
  (q:R (Itr lo (hi - lo).toNat) H):wpAny (model X.prog X.w) X.A (pyIter (.ref s.heap.objs.size)) (PIE X pins σ tg R) E { s with heap:=s.heap.push { cls:=.type "range",data:=.fields #[.int lo t,.int hi u,.int 1 v] },toks:=tk }:=by
 refine wpAny_pyIter_range (IsRange.new ..) (small_one h1 h2 h3 h4) ?_;have I1:Inv X pins σ H { s with heap:=s.heap.push { cls:=.type "range",data:=.fields #[.int lo t,.int hi u,.int 1 v] },toks:=tk }:=I.kept fun b o e=>Heap.get?_push_of_some _ e;refine ⟨(s.heap.push { cls:=.type "range",data:=.fields #[.int lo t,.int hi u,.int 1 v] }).objs.size,[(s.heap.push { cls:=.type "range",data:=.fields #[.int lo t,.int hi u,.int 1 v] }).objs.size],_,_,H,rfl,
  I1.kept (t':=tk) fun b o e=>Heap.get?_push_of_some _ e,zns _ lo (hi - lo).toNat,?_,fun b hb=>?_,q⟩
 ·have e1 : lo + ((0 : Nat) : Int) * 1 = lo := by simp
  have e2:(((hi - lo).toNat:Nat):Int) - ((0:Nat):Int)=Builtin.Range.rangeSize lo hi 1:=by rw [rangeSize_one];split<;>omega
  show IsRangeIter _ _ (lo+((0:Nat):Int) * 1) ((((hi - lo).toNat:Nat):Int) - ((0:Nat):Int)) 1;rw [e1,e2];exact Heap.get?_push_size _ rfl
 ·have e : b = (s.heap.push { cls := .type "range", data := .fields #[.int lo t, .int hi u, .int 1 v] }).objs.size := by simpa using hb
  subst e;exact I1.fpOk (Nat.le_refl _) (I1.hok.fresh (Nat.le_refl _))
noncomputable def z2e (ta:TA):TI:=fun σ H R=>ta σ H fun vs H1=>∃j:Int,vs=[.int j]/\-(2 ^ 62)<=j/\j < 2 ^ 62/\R (Itr 0 j.toNat) H1
theorem zo3 {a:Expr}{ta:TA}{p pos:Pos} (hg:Gl X "range") (hm:X.mg "range" = none) (ha:PA X [a] ta) (hs:starEach [a] X.env=[(false,eval a X.env)]:=by rfl):PI X tg (.Call (.Name "range" p) [a] [] pos) (z2e ta):=by
  intro pins s σ H R I h;refine Call_ (zcv I hg hm boot_range (PyProof.Rows.callWith_type1 (thn (ha pos pins s σ H _ I h) fun us s1 ⟨vs,H1,I1,r1,q1⟩=>?_) hs rfl));obtain ⟨j,e,q1,q2,q⟩:=q1;subst e;cases r1 with
  | cons r rr =>
    cases rr;obtain ⟨t,rfl⟩:=r;exact call_range_1 (zt2 I1 (by omega) (by omega) q1 q2 (by simpa using q))
noncomputable def tFor (wi:TI) (g:TG) (tb:TS):TS:=fun D σ H=>wi σ H fun J H1=>∃W:Nat->Nat->St->Hp->Prop,(∃m,W 0 m σ H1)/\∀i m σ H,W i m σ H ->
 (J.stop i H/\D.nx σ H)\/(J.go i H/\∃N:St->Hp->Prop,(∀σ' H',N σ' H'->∃m',m' < m/\W (i+1) m' σ' H')/\∀x H',J.yld i H x H'->g x σ H' fun σ2 H2=>tb { D with nx:=N,ct:=N,bk:=D.nx } σ2 H2)
noncomputable def ziy (fp:List Addr) (h:Heap):List (Addr × Obj):=fp.filterMap fun b=>(h.get? b).map fun o=>(b,o)
theorem zcw {fp:List Addr}{h:Heap}{b:Addr}{o:Obj} (hb:b∈fp) (e:h.get? b=some o):(b,o)∈ziy fp h:=List.mem_filterMap.mpr ⟨b,hb,by rw [e];rfl⟩
theorem zp2 {fp:List Addr}{h:Heap}{p:Addr × Obj} (hp:p∈ziy fp h):p.1∈fp/\h.get? p.1=some p.2:=by
  obtain ⟨b,hb,e⟩:=List.mem_filterMap.mp hp;cases q:h.get? b with
  | none=>rw [q] at e;cases e
  | some o =>
    rw [q] at e;have e' : (b,o)=p:=sI e;subst e';exact ⟨hb,q⟩
theorem Inv.pinned {pins:List (Addr × Obj)}{σ:St}{H:Hp}{s:Shared}{fp:List Addr} (I:Inv X pins σ H s) (hf:∀b∈fp,FpOk X pins H b) (ho:∀b∈fp,∃o,s.heap.get? b=some o/\∀v,o.data≠.cell v):Inv X (pins++ziy fp s.heap) σ H s :=
 I.pins_of fun p hp=>(List.mem_append.mp hp).elim (fun z=>I.pin p (List.mem_append_right _ z)) fun z=>by
  obtain ⟨hb,e⟩:=zp2 z;obtain ⟨f0,f1,f2,_⟩:=hf p.1 hb;obtain ⟨o,e',d⟩:=ho p.1 hb;rw [e] at e';cases e';exact ⟨e,f0,f1,f2,d⟩
theorem Inv.unpinned {pins pl:List (Addr × Obj)}{σ:St}{H:Hp}{s:Shared} (I:Inv X (pins++pl) σ H s):Inv X pins σ H s:=I.pins_of fun p hp=>I.pin p (List.mem_append_right _ (List.mem_append_left _ hp))
theorem z00 {iter:Expr}{body:List Stmt}{wi:TI}{g:TG}{tb:TS}{pos:Pos} (hp:PassesOwn (model X.prog X.w) X.A X.env X.xe) (hc:X.calm=true) (hi:PI X tg iter wi) (hg:PG X tg g) (hb:PSs X body tb)
  (hs:∀x,foldedSetIterable iter X.env x=pure x:=by intro _;rfl):PS X (.For tg iter body [] pos) (tFor wi g tb):=by
 intro pins s σ H D I h;refine wpAny_For (thn (hi pins s σ H _ I h) fun v s1 h1=>thn h1 fun itv s2 h2=>?_) hs;obtain ⟨it,fp,tn,J,H2,e,I2,T,st2,f2,W,⟨m0,w0⟩,turn⟩:=h2;subst e;have stat:∀{H' : Hp},(∀b∈fp,H' b=none)->∀b∈fp,FpOk X pins H' b:=fun hn b hb=>⟨hn b hb,(f2 b hb).2⟩;refine codeAny_forLoop_any (fun n s'=>∃i σ' H',Inv X pins σ' H' s'/\tn i s'.heap/\(∀b∈fp,H' b=none)/\W i n σ' H') ?_ m0 ⟨0,σ,H2,I2,st2,fun b hb=>(f2 b hb).1,w0⟩;rintro n s3 ⟨i,σ3,H3,I3,st3,fr3,w3⟩;rcases turn i n σ3 H3 w3 with ⟨stop,qn⟩ | ⟨go,N,hN,step⟩
 ·refine wpAny_passesOwn hp (thn (T.done X rfl rfl rfl hc i pins s3 σ3 H3 X.xe I3 (stat fr3) st3 stop) fun r s4 ⟨hr, I4⟩ => ?_);subst hr;exact wpAny_execs_nil ⟨σ3,H3,I4,qn⟩
 ·refine wpAny_passesOwn hp (thn (T.item X rfl rfl rfl hc i pins s3 σ3 H3 X.xe I3 (stat fr3) st3 go) fun r s4 ⟨u, hr, h4⟩ => ?_);subst hr;refine wpAny_passesOwn hp (thn h4 fun _ s5 ⟨x,H5,I5,r5,y5,st5,fr5⟩=>?_);have I5':=I5.pinned (stat fr5) (T.obj _ _ st5);refine wpAny_passesOwn hp (thn (hg _ s5 σ3 H5 x u _ I5' r5 (step x H5 y5)) fun _ s6 ⟨σ6,H6,I6,q6⟩=>?_);refine wpAny_passesOwn hp (thn (hb _ s6 σ6 H6 _ I6 q6) fun f s7 q7=>?_);have again:∀{σ7:St}{H7:Hp},Inv X (pins++ziy fp s5.heap) σ7 H7 s7->N σ7 H7->∃m,m < n/\∃i σ' H',Inv X pins σ' H' s7/\tn i s7.heap/\(∀b∈fp,H' b=none)/\W i m σ' H':=fun {σ7 H7} I7 n7=>by
   obtain ⟨m',hm,w7⟩:=hN σ7 H7 n7;refine ⟨m',hm,i+1,σ7,H7,I7.unpinned,T.keep _ _ _ st5 fun b hb o e=>(I7.pin (b,o) (List.mem_append_right _ (List.mem_append_right _ (zcw hb e)))).1,fun b hb=>?_,w7⟩;obtain ⟨o,e,d⟩:=T.obj _ _ st5 b hb;exact (I7.pin (b,o) (List.mem_append_right _ (List.mem_append_right _ (zcw hb e)))).2.1
  cases f with
  | next=>obtain ⟨σ7,H7,I7,n7⟩:=q7;exact again I7 n7
  | cont=>obtain ⟨σ7,H7,I7,n7⟩:=q7;exact again I7 n7
  | brk=>obtain ⟨σ7,H7,I7,q7⟩:=q7;exact ⟨σ7,H7,I7.unpinned,q7⟩
  | ret v=>obtain ⟨x7,σ7,H7,I7,r7,q7⟩:=q7;exact ⟨x7,σ7,H7,I7.unpinned,r7,q7⟩
end
end L2
namespace L2
open PySem PySem.Spec PyProof.Rows
noncomputable abbrev R2:=V->V->Hp->VK->Prop
noncomputable def OpR (X:Cx) (f:Value->Value->Sem Value) (r:R2):Prop :=
  ∀(pins:List (Addr × Obj)) (s:Shared) (σ:St) (H:Hp) (x y:V) (v u:Value) (Q:VK),Inv X pins σ H s->RelV x v->RelV y u->r x y H Q ->
    wpAny (model X.prog X.w) X.A (f v u) (EP X pins σ Q) X.xe s
noncomputable def UnR (X:Cx) (f:Value->Sem Value) (r:V->Hp->VK->Prop):Prop :=
  ∀(pins:List (Addr × Obj)) (s:Shared) (σ:St) (H:Hp) (x:V) (v:Value) (Q:VK),Inv X pins σ H s->RelV x v->r x H Q ->
    wpAny (model X.prog X.w) X.A (f v) (EP X pins σ Q) X.xe s
noncomputable def zbj (X:Cx) (f:Value) (r:List V->Hp->VK->Prop):Prop :=
  ∀(pins:List (Addr × Obj)) (s:Shared) (σ:St) (H:Hp) (xs:List V) (us:List Value) (Q:VK),Inv X pins σ H s->Vals xs us->r xs H Q ->
    wpAny (model X.prog X.w) X.A (call f us) (EP X pins σ Q) X.xe s
noncomputable def tOp (r:R2) (ta tb:TE):TE:=fun σ H Q=>ta σ H fun x H1=>tb σ H1 fun y H2=>r x y H2 Q
noncomputable def tUn (r:V->Hp->VK->Prop) (ta:TE):TE:=fun σ H Q=>ta σ H fun x H1=>r x H1 Q
noncomputable def rI (C:Int->Int->Prop) (g:Int->Int->V):R2:=fun x y H Q=>∃i j,x=.int i/\y=.int j/\C i j/\Q (g i j) H
noncomputable def rI0 (g:Int->Int->V):R2:=fun x y H Q=>∃i j,x=.int i/\y=.int j/\Q (g i j) H
noncomputable def rU (g:Int->V):V->Hp->VK->Prop:=fun x H Q=>∃i,x=.int i/\Q (g i) H
section
variable {X:Cx}{a b c:Expr}{ta tb tc:TE}{pos:Pos}
theorem binT (ha:PE X a ta) (hb:PE X b tb) {pins:List (Addr × Obj)}{s:Shared}{σ:St}{H:Hp}{R:V->V->Hp->Prop} (I:Inv X pins σ H s)
  (h:ta σ H fun x H1=>tb σ H1 fun y H2=>R x y H2) {Q:Value->Shared->Prop}{f:Value->Value->Sem Value}
  (hf:∀v u s2 x y H2,Inv X pins σ H2 s2->RelV x v->RelV y u->R x y H2->wpAny (model X.prog X.w) X.A (f v u) Q X.xe s2) :
  wpAny (model X.prog X.w) X.A (eval a X.env) (fun v s₁=>wpAny (model X.prog X.w) X.A (eval b X.env) (fun u s₂=>wpAny (model X.prog X.w) X.A (f v u) Q X.xe s₂) X.xe s₁) X.xe s:=by
 refine thn (ha pins s σ H _ I h) fun v s1 ⟨x,H1,I1,r1,q1⟩=>?_;refine thn (hb pins s1 σ H1 _ I1 q1) fun u s2 ⟨y,H2,I2,r2,q2⟩=>?_;exact hf v u s2 x y H2 I2 r1 r2 q2
theorem z4c {op:Operator}{r:R2} (ho:OpR X (binaryOp op) r) (ha:PE X a ta) (hb:PE X b tb):PE X (.BinOp a op b pos) (tOp r ta tb):=by
 intro pins s σ H Q I h;exact wpAny_BinOp (binT ha hb I h fun v u s2 x y H2 I2 rx ry q=>ho pins s2 σ H2 x y v u Q I2 rx ry q)
theorem z3i {op:UnaryOp}{r:V->Hp->VK->Prop} (ho:UnR X (unaryOp op) r) (ha:PE X a ta):PE X (.UnaryOp op a pos) (tUn r ta):=by
 intro pins s σ H Q I h;exact UnaryOp_ (thn (ha pins s σ H _ I h) fun v s1 ⟨x,H1,I1,r1,q1⟩=>ho pins s1 σ H1 x v Q I1 r1 q1)
theorem opI {f:Value->Value->Sem Value}{C:Int->Int->Prop}{g:Int->Int->Int}
  (rule:∀(i j:Int) (t u:Tok) (s:Shared) (Q:Value->Shared->Prop) (E:Value->Shared->Prop),C i j->Q (.int (g i j) s.toks) { s with toks:=s.toks+1 }->wpAny (model X.prog X.w) X.A (f (.int i t) (.int j u)) Q E s) :
  OpR X f (rI C fun i j=>.int (g i j)):=by
 intro pins s σ H x y v u Q I rx ry h;obtain ⟨i,j,rfl,rfl,hc,q⟩:=h;obtain ⟨t,rfl⟩:=rx;obtain ⟨t',rfl⟩:=ry;exact rule i j t t' s _ _ hc ⟨.int (g i j),H,I.tok _,⟨_,rfl⟩,q⟩
theorem opI0 {f:Value->Value->Sem Value}{g:Int->Int->Int}
  (rule:∀(i j:Int) (t u:Tok) (s:Shared) (Q:Value->Shared->Prop) (E:Value->Shared->Prop),Q (.int (g i j) s.toks) { s with toks:=s.toks+1 }->wpAny (model X.prog X.w) X.A (f (.int i t) (.int j u)) Q E s) :
  OpR X f (rI0 fun i j=>.int (g i j)):=by
 intro pins s σ H x y v u Q I rx ry h;obtain ⟨i,j,rfl,rfl,q⟩:=h;obtain ⟨t,rfl⟩:=rx;obtain ⟨t',rfl⟩:=ry;exact rule i j t t' s _ _ ⟨.int (g i j),H,I.tok _,⟨_,rfl⟩,q⟩
theorem opB0 {f:Value->Value->Sem Value}{g:Int->Int->Bool}
  (rule:∀(i j:Int) (t u:Tok) (s:Shared) (Q:Value->Shared->Prop) (E:Value->Shared->Prop),Q (.bool (g i j)) s->wpAny (model X.prog X.w) X.A (f (.int i t) (.int j u)) Q E s) :
  OpR X f (rI0 fun i j=>.bl (g i j)):=by
 intro pins s σ H x y v u Q I rx ry h;obtain ⟨i,j,rfl,rfl,q⟩:=h;obtain ⟨t,rfl⟩:=rx;obtain ⟨t',rfl⟩:=ry;exact rule i j t t' s _ _ ⟨.bl (g i j),H,I,rfl,q⟩
noncomputable def CPow (i j:Int):Prop:=0<=j/\j<=1000000/\i.natAbs < 2 ^ 64
noncomputable def CMul (i j:Int):Prop:=(-(2 ^ 64) < i/\i < 2 ^ 64)\/(-(2 ^ 64) < j/\j < 2 ^ 64)
theorem CMul.ok {i j:Int} (h:CMul i j):IntMulOk i j:=by
 rcases h with ⟨h1,h2⟩ | ⟨h1,h2⟩
 ·exact .of_left (intBits_le_64 h1 h2)
 ·exact .of_right (intBits_le_64 h1 h2)
theorem znr (k:Nat):(0:Int)<=2 ^ k:=by
 rw [two_pow_cast];exact Int.natCast_nonneg _
theorem z1o:OpR X (binaryOp .Add) (rI0 fun i j=>.int (i+j)):=opI0 fun _ _ _ _ _ _ _ q=>add_int q
theorem zzq:OpR X (binaryOp .Sub) (rI0 fun i j=>.int (i - j)):=opI0 fun _ _ _ _ _ _ _ q=>sub_int q
theorem z1b:OpR X (binaryOp .Mult) (rI CMul fun i j=>.int (i * j)):=opI fun _ _ _ _ _ _ _ hc q=>mul_int q hc.ok
theorem zzw:OpR X (binaryOp .Mod) (rI (fun _ j=>0 < j) fun i j=>.int (i % j)):=opI fun i j _ _ _ _ _ hc q=>by
 have h1:(0:Int) < j:=hc;exact mod_int' (by omega) (by rw [Int.fmod_eq_emod_of_nonneg i (by omega)];exact q)
theorem z14:OpR X (binaryOp .Pow) (rI CPow fun i j=>.int (i ^ j.toNat)):=opI fun _ _ _ _ _ _ _ hc q=>pow_int_small hc.1 hc.2.1 hc.2.2 q
theorem z2y:OpR X (binaryOp .LShift) (rI CPow fun i j=>.int (i * 2 ^ j.toNat)):=opI fun _ _ _ _ _ _ _ hc q=>lshift_int_small hc.1 hc.2.1 hc.2.2 q
theorem z2l:OpR X (binaryOp .RShift) (rI (fun _ j=>0<=j) fun i j=>.int (i / 2 ^ j.toNat)):=opI fun i j _ _ _ _ _ hc q =>
 rshift_int hc (by rw [Int.fdiv_eq_ediv_of_nonneg i (znr _)];exact q)
theorem z01:OpR X (binaryOp .BitAnd) (rI0 fun i j=>.int (Builtin.bitAnd i j)):=opI0 fun _ _ _ _ _ _ _ q=>and_int q
theorem z4k:OpR X (binaryOp .BitOr) (rI0 fun i j=>.int (Builtin.bitOr i j)):=opI0 fun _ _ _ _ _ _ _ q=>or_int q
theorem z0o:OpR X (binaryOp .BitXor) (rI0 fun i j=>.int (Builtin.bitXor i j)):=opI0 fun _ _ _ _ _ _ _ q=>xor_int q
theorem zvz:OpR X (inplaceOp .Add) (rI0 fun i j=>.int (i+j)):=opI0 fun _ _ _ _ _ _ _ q=>iadd_int q
theorem zya:OpR X (inplaceOp .Sub) (rI0 fun i j=>.int (i - j)):=opI0 fun _ _ _ _ _ _ _ q=>isub_int q
theorem zxd:OpR X (inplaceOp .Mult) (rI CMul fun i j=>.int (i * j)):=opI fun _ _ _ _ _ _ _ hc q=>imul_int q hc.ok
theorem zwp:OpR X (inplaceOp .BitAnd) (rI0 fun i j=>.int (Builtin.bitAnd i j)):=opI0 fun _ _ _ _ _ _ _ q=>iand_int q
theorem z1i:OpR X (inplaceOp .BitOr) (rI0 fun i j=>.int (Builtin.bitOr i j)):=opI0 fun _ _ _ _ _ _ _ q=>ior_int q
theorem zw7:OpR X (inplaceOp .BitXor) (rI0 fun i j=>.int (Builtin.bitXor i j)):=opI0 fun _ _ _ _ _ _ _ q=>ixor_int q
theorem unI {f:Value->Sem Value}{g:Int->Int}
  (rule:∀(i:Int) (t:Tok) (s:Shared) (Q:Value->Shared->Prop) (E:Value->Shared->Prop),Q (.int (g i) s.toks) { s with toks:=s.toks+1 }->wpAny (model X.prog X.w) X.A (f (.int i t)) Q E s) :
  UnR X f (rU fun i=>.int (g i)):=by
 intro pins s σ H x v Q I rx h;obtain ⟨i,rfl,q⟩:=h;obtain ⟨t,rfl⟩:=rx;exact rule i t s _ _ ⟨.int (g i),H,I.tok _,⟨_,rfl⟩,q⟩
theorem z0t:UnR X (unaryOp .USub) (rU fun i=>.int (-i)):=unI fun _ _ _ _ _ q=>neg_int q
end
noncomputable def scal:V->V->Bool
 | .non,.non=>true | .non,.int _=>true | .int _,.non=>true | .non,.bl _=>true | .bl _,.non=>true | .non,.str _=>true | .str _,.non=>true
 | .int _,.int _=>true | .bl _,.bl _=>true | .str _,.str _=>true | .byt _,.byt _=>true
 | .int _,.str _=>true | .str _,.int _=>true | .bl _,.str _=>true | .str _,.bl _=>true
 | _,_=>false
noncomputable def rEq:R2:=fun x y H Q=>scal x y=true/\Q (.bl (decide (x=y))) H
noncomputable def rNe:R2:=fun x y H Q=>scal x y=true/\Q (.bl (!decide (x=y))) H
theorem zps {i j:Int}:decide (V.int i=V.int j)=(i == j):=by
 rw [Bool.eq_iff_iff];simp
theorem zuy {i j:Bool}:decide (V.bl i=V.bl j)=(i == j):=by
 rw [Bool.eq_iff_iff];simp
theorem zrg {i j:Str}:decide (V.str i=V.str j)=(i == j):=by
 rw [Bool.eq_iff_iff];simp
theorem zrd {i j:Array UInt8}:decide (V.byt i=V.byt j)=(i.toList == j.toList):=by
 rw [Bool.eq_iff_iff];cases i;cases j;simp
section
variable {X:Cx}{a b c:Expr}{ta tb tc:TE}{pos:Pos}
theorem zah {pins:List (Addr × Obj)}{σ:St}{H:Hp}{s:Shared}{Q:VK}{k k' : Bool} (I:Inv X pins σ H s) (q:Q (.bl k) H) (e:k=k'):EP X pins σ Q (.bool k') s:=by
 subst e;exact ⟨.bl k,H,I,rfl,q⟩
theorem z3j:OpR X (compareOp .Eq) rEq:=by
  intro pins s σ H x y v u Q I rx ry h;obtain ⟨hs,q⟩:=h;cases x with
  | non =>
    cases rx;cases y with
    | non=>cases ry;exact PySem.EqNone.eq_none_none (zah I q (by simp))
    | bl j=>cases ry;exact PySem.EqNone.eq_none_bool (zah I q (by simp))
    | int j=>obtain ⟨t',rfl⟩:=ry;exact PySem.EqNone.eq_none_int (zah I q (by simp))
    | str j=>obtain ⟨t',rfl⟩:=ry;exact PySem.EqNone.eq_none_str (zah I q (by simp))
    | _=>exact absurd (show false=true from hs) Bool.false_ne_true
  | bl i =>
    cases rx;cases y with
    | non=>cases ry;exact PySem.EqNone.eq_bool_none (zah I q (by simp))
    | bl j=>cases ry;exact eq_bool (zah I q zuy)
    | str j=>obtain ⟨t',rfl⟩:=ry;exact PySem.EqMixed.eq_bool_str (zah I q (by simp))
    | _=>exact absurd (show false=true from hs) Bool.false_ne_true
  | int i =>
    obtain ⟨t,rfl⟩:=rx;cases y with
    | non=>cases ry;exact PySem.EqNone.eq_int_none (zah I q (by simp))
    | int j=>obtain ⟨t',rfl⟩:=ry;exact eq_int (zah I q zps)
    | str j=>obtain ⟨t',rfl⟩:=ry;exact PySem.EqMixed.eq_int_str (zah I q (by simp))
    | _=>exact absurd (show false=true from hs) Bool.false_ne_true
  | str i =>
    obtain ⟨t,rfl⟩:=rx;cases y with
    | non=>cases ry;exact PySem.EqNone.eq_str_none (zah I q (by simp))
    | bl j=>cases ry;exact PySem.EqMixed.eq_str_bool (zah I q (by simp))
    | int j=>obtain ⟨t',rfl⟩:=ry;exact PySem.EqMixed.eq_str_int (zah I q (by simp))
    | str j=>obtain ⟨t',rfl⟩:=ry;exact eq_str (zah I q zrg)
    | _=>exact absurd (show false=true from hs) Bool.false_ne_true
  | byt i =>
    obtain ⟨t,rfl⟩:=rx;cases y with
    | byt j=>obtain ⟨t',rfl⟩:=ry;exact PySem.W.eq_bytes (zah I q zrd)
    | _=>exact absurd (show false=true from hs) Bool.false_ne_true
  | _=>cases y<;>exact absurd (show false=true from hs) Bool.false_ne_true
theorem z36:OpR X (compareOp .NotEq) rNe:=by
  intro pins s σ H x y v u Q I rx ry h;obtain ⟨hs,q⟩:=h;cases x with
  | non =>
    cases rx;cases y with
    | non=>cases ry;exact PySem.EqNone.ne_none_none (zah I q (by simp))
    | bl j=>cases ry;exact PySem.EqNone.ne_none_bool (zah I q (by simp))
    | int j=>obtain ⟨t',rfl⟩:=ry;exact PySem.EqNone.ne_none_int (zah I q (by simp))
    | str j=>obtain ⟨t',rfl⟩:=ry;exact PySem.EqNone.ne_none_str (zah I q (by simp))
    | _=>exact absurd (show false=true from hs) Bool.false_ne_true
  | bl i =>
    cases rx;cases y with
    | non=>cases ry;exact PySem.EqNone.ne_bool_none (zah I q (by simp))
    | bl j=>cases ry;exact ne_bool (zah I q (congrArg not zuy))
    | str j=>obtain ⟨t',rfl⟩:=ry;exact PySem.EqMixed.ne_bool_str (zah I q (by simp))
    | _=>exact absurd (show false=true from hs) Bool.false_ne_true
  | int i =>
    obtain ⟨t,rfl⟩:=rx;cases y with
    | non=>cases ry;exact PySem.EqNone.ne_int_none (zah I q (by simp))
    | int j=>obtain ⟨t',rfl⟩:=ry;exact ne_int (zah I q (congrArg not zps))
    | str j=>obtain ⟨t',rfl⟩:=ry;exact PySem.EqMixed.ne_int_str (zah I q (by simp))
    | _=>exact absurd (show false=true from hs) Bool.false_ne_true
  | str i =>
    obtain ⟨t,rfl⟩:=rx;cases y with
    | non=>cases ry;exact PySem.EqNone.ne_str_none (zah I q (by simp))
    | bl j=>cases ry;exact PySem.EqMixed.ne_str_bool (zah I q (by simp))
    | int j=>obtain ⟨t',rfl⟩:=ry;exact PySem.EqMixed.ne_str_int (zah I q (by simp))
    | str j=>obtain ⟨t',rfl⟩:=ry;exact ne_str (zah I q (congrArg not zrg))
    | _=>exact absurd (show false=true from hs) Bool.false_ne_true
  | byt i =>
    obtain ⟨t,rfl⟩:=rx;cases y with
    | byt j=>obtain ⟨t',rfl⟩:=ry;exact PySem.W.ne_bytes (zah I q (congrArg not zrd))
    | _=>exact absurd (show false=true from hs) Bool.false_ne_true
  | _=>cases y<;>exact absurd (show false=true from hs) Bool.false_ne_true
theorem z3y:OpR X (compareOp .Lt) (rI0 fun i j=>.bl (decide (i < j))):=opB0 fun _ _ _ _ _ _ _ q=>lt_int q
theorem z30:OpR X (compareOp .LtE) (rI0 fun i j=>.bl (decide (i<=j))):=opB0 fun _ _ _ _ _ _ _ q=>le_int q
theorem z4d:OpR X (compareOp .Gt) (rI0 fun i j=>.bl (decide (j < i))):=opB0 fun _ _ _ _ _ _ _ q=>gt_int q
theorem z3w:OpR X (compareOp .GtE) (rI0 fun i j=>.bl (decide (j<=i))):=opB0 fun _ _ _ _ _ _ _ q=>ge_int q
theorem zqv:OpR X (compareOp .In) (fun x y H Q=>∃i j,x=.str i/\y=.str j/\Q (.bl (!(Builtin.Str.occurrences j i 0 j.length 1).isEmpty)) H):=by
 intro pins s σ H x y v u Q I rx ry h;obtain ⟨i,j,rfl,rfl,q⟩:=h;obtain ⟨t,rfl⟩:=rx;obtain ⟨t',rfl⟩:=ry;exact in_str (zah I q rfl)
theorem zi2:OpR X (compareOp .NotIn) (fun x y H Q=>∃i j,x=.str i/\y=.str j/\Q (.bl (!(!(Builtin.Str.occurrences j i 0 j.length 1).isEmpty))) H):=by
 intro pins s σ H x y v u Q I rx ry h;obtain ⟨i,j,rfl,rfl,q⟩:=h;obtain ⟨t,rfl⟩:=rx;obtain ⟨t',rfl⟩:=ry;exact notIn_str (zah I q rfl)
theorem OpR.or {f:Value->Value->Sem Value}{r r' : R2} (h:OpR X f r) (h' : OpR X f r'):OpR X f (fun x y H Q=>r x y H Q\/r' x y H Q):=by
 intro pins s σ H x y v u Q I rx ry q;rcases q with q | q
 ·exact h pins s σ H x y v u Q I rx ry q
 ·exact h' pins s σ H x y v u Q I rx ry q
theorem zq3 {op:CmpOp}{r:R2} (ho:OpR X (compareOp op) r) (ha:PE X a ta) (hb:PE X b tb) (hm:behindInMarks op b=false):PE X (.Compare a [op] [b] pos) (tOp r ta tb):=by
 intro pins s σ H Q I h;exact wpAny_Compare1 (binT ha hb I h fun v u s2 x y H2 I2 rx ry q=>ho pins s2 σ H2 x y v u Q I2 rx ry q) hm
noncomputable def z08 (t:TE):TT:=fun σ H Q=>t σ H fun x H'=>∃k,x=.bl k/\Q k H'
theorem zpz {op:CmpOp}{r:R2} (ho:OpR X (compareOp op) r) (ha:PE X a ta) (hb:PE X b tb) (hm:behindInMarks op b=false):PT X (.Compare a [op] [b] pos) (z08 (tOp r ta tb)):=by
 intro pins s σ H Q I h;refine wpAny_isTrue_Compare1 (thn (ha pins s σ H _ I h) fun v s1 ⟨x,H1,I1,r1,q1⟩=>thn (hb pins s1 σ H1 _ I1 q1) fun u s2 ⟨y,H2,I2,r2,q2⟩ =>
  thn (ho pins s2 σ H2 x y v u _ I2 r1 r2 q2) fun c s3 ⟨z,H3,I3,r3,k,e,q3⟩=>?_) hm
 subst e;cases r3;exact wpAny_truthy_bool ⟨H3,I3,q3⟩
theorem zgc:(sizeLine:Nat) < 2 ^ 63:=by rw [sizeLine_eq];decide
theorem zmw:OpR X (binaryOp .Add) (fun x y H Q=>∃i j,x=.str i/\y=.str j/\i.length+j.length<=sizeLine/\Q (.str (i++j)) H):=by
 intro pins s σ H x y v u Q I rx ry h;obtain ⟨i,j,rfl,rfl,hz,q⟩:=h;obtain ⟨t,rfl⟩:=rx;obtain ⟨t',rfl⟩:=ry;exact add_str (fun t' tk=>⟨.str (i++j),H,I.tok _,⟨_,rfl⟩,q⟩) hz
theorem vals1 {x:V}{us:List Value} (r:Vals [x] us):∃u,us=[u]/\RelV x u:=by
 cases r with
 | cons r1 r2=>cases r2;exact ⟨_,rfl,r1⟩
theorem z17 {x y:V}{us:List Value} (r:Vals [x,y] us):∃u w',us=[u,w']/\RelV x u/\RelV y w':=by
  cases r with
  | cons r1 r2 =>
    cases r2 with
    | cons r3 r4=>cases r4;exact ⟨_,_,rfl,r1,r3⟩
theorem zur:zbj X (.builtin "abs") (fun xs H Q=>∃i,xs=[.int i]/\Q (.int (if i < 0 then -i else i)) H):=by
 intro pins s σ H xs us Q I r h;obtain ⟨i,rfl,q⟩:=h;obtain ⟨u,rfl,t,rfl⟩:=vals1 r;exact call_abs_int fun u tk=>⟨.int (if i < 0 then -i else i),H,I.tok _,⟨_,rfl⟩,q⟩
theorem zpy (hc:X.calm=true):zbj X (.builtin "max") (fun xs H Q=>∃i j,xs=[.int i,.int j]/\Q (.int (if j > i then j else i)) H):=by
 intro pins s σ H xs us Q I r h;obtain ⟨i,j,rfl,q⟩:=h;obtain ⟨u,w',rfl,⟨t,rfl⟩,⟨t',rfl⟩⟩:=z17 r;refine max_two_ints (I.ok.hd hc) fun h' tk k=>⟨_,H,I.kept k,?_,q⟩;by_cases hj:j > i
 ·rw [if_pos hj,if_pos hj];exact ⟨_,rfl⟩
 ·rw [if_neg hj,if_neg hj];exact ⟨_,rfl⟩
theorem zoy (hc:X.calm=true):zbj X (.builtin "min") (fun xs H Q=>∃i j,xs=[.int i,.int j]/\Q (.int (if j < i then j else i)) H):=by
 intro pins s σ H xs us Q I r h;obtain ⟨i,j,rfl,q⟩:=h;obtain ⟨u,w',rfl,⟨t,rfl⟩,⟨t',rfl⟩⟩:=z17 r;refine min_two_ints (I.ok.hd hc) fun h' tk k=>⟨_,H,I.kept k,?_,q⟩;by_cases hj:j < i
 ·rw [if_pos hj,if_pos hj];exact ⟨_,rfl⟩
 ·rw [if_neg hj,if_neg hj];exact ⟨_,rfl⟩
theorem zpa:zbj X (.type "int") (fun xs H Q=>(∃i,xs=[.int i]/\Q (.int i) H)\/∃k,xs=[.bl k]/\Q (.int (if k then 1 else 0)) H):=by
 intro pins s σ H xs us Q I r h;rcases h with ⟨i,rfl,q⟩ | ⟨k,rfl,q⟩
 ·obtain ⟨u, rfl, t, rfl⟩ := vals1 r;exact call_int_int ⟨.int i,H,I,⟨_,rfl⟩,q⟩
 ·obtain ⟨u, rfl, r1⟩ := vals1 r;cases r1;exact call_int_bool ⟨.int (if k then 1 else 0),H,I.tok _,⟨_,rfl⟩,q⟩
theorem zix:zbj X (.type "str") (fun xs H Q=>∃i,xs=[.int i]/\i.natAbs.log2 < 1920/\Q (.str (toString i)) H):=by
 intro pins s σ H xs us Q I r h;obtain ⟨i,rfl,hz,q⟩:=h;obtain ⟨u,rfl,t,rfl⟩:=vals1 r;exact PySem.P.str_of_int hz ⟨.str _,H,I.tok _,⟨_,rfl⟩,q⟩
end
end L2
namespace L2
open PySem PySem.Spec PyProof.Rows
structure ObjM (h:Heap) (x dx C:Addr) (mA:Str->Option Value):Prop where
 obj:h.get? x=some (PySem.W.instObj C dx)
 ns:h.Ns1 dx mA
 ne:dx≠x
theorem zos {h:Heap}{dx:Addr}{mA:Str->Option Value} (n:h.Ns1 dx mA):∃od,h.get? dx=some od/\∀name,PySem.W.lookIn name od=some (mA name):=by
 obtain ⟨o,es,ep,ho,hd,hk,_,hm⟩:=n;refine ⟨o,ho,fun name=>?_⟩;have e:=hm name;unfold nsFind findBy at e;rw [<-Array.find?_toList] at e;unfold PySem.W.lookIn;rw [hd];dsimp only;split
 ·rename_i y q;rw [q] at e;exact congrArg some e
 ·rename_i q;rw [q] at e;have a:es.toList.any (·.refKey)=false:=by
   rw [List.any_eq_false];intro y hy;obtain ⟨z,t,hkey⟩:=hk y (Array.mem_toList_iff.mp hy);simp [DictEntry.refKey,hkey]
  have a' : ¬ es.toList.any (·.refKey)=true:=by rw [a];exact Bool.false_ne_true
  rw [if_neg a'];exact congrArg some e
theorem ObjM.look {h:Heap}{x dx C:Addr}{mA:Str->Option Value} (I:ObjM h x dx C mA):∃od,PySem.W.InstAt h x (PySem.W.instObj C dx) C (some od)/\∀name,PySem.W.lookIn name od=some (mA name) :=
 let ⟨od,ho,hl⟩:=zos I.ns
 ⟨od,⟨I.obj,rfl,rfl,ho⟩,hl⟩
section
variable {prog:Program}{w:World}{A:Around}{E:Value->Shared->Prop}{s:Shared}{K:PySem.W.Frag}{x dx C f:Addr}{mA:Str->Option Value}{name:Str}{v:Value}
end
section
variable {P:Program}{w:World}{H H' : Hp}{h h' : Heap}{a C dx:Addr}{fs fs' : List (Str × V)}
theorem zzf (hok:HOk P w H h) (e:H a=some (.ins C dx fs)):∃mA,ObjM h a dx C mA/\(∀f,RelO (fs.lookup f) (mA f))/\PySem.Within mA (fs.map (·.1))/\fs.length<=1000/\H dx=some (.own a):=by
 obtain ⟨d,z,ne,ob,mA,n,r,q⟩:=(show zbt P w H h a (.ins C dx fs) from hok a _ e);exact ⟨mA,⟨ob,n,ne⟩,r,q,z,d⟩
end
structure Cls (K:PySem.W.Frag) (C:Addr):Prop where
 pg:PySem.W.plainGet K C Str.empty=true
 hd:PySem.W.hasDictIn K C=true
 po:PySem.W.plainOver K C=true
 sa:PySem.W.findIn K (.ref C) "__setattr__" = some (some (.builtin "object.__setattr__"))
theorem Cls.get {K:PySem.W.Frag}{C:Addr} (c:Cls K C) (f:Str):PySem.W.plainGet K C f=true:=c.pg
section
variable {X:Cx}{pins:List (Addr × Obj)}{σ:St}{H:Hp}{s:Shared}{a C dx:Addr}{fs:List (Str × V)}{f:Str}{v:V}{A:Around}{E:Value->Shared->Prop}
end
section
variable {X:Cx}{o e value:Expr}{f:Str}{pos pos' tpos:Pos}{ta tv:TE}
end
section
variable {X:Cx}{pins:List (Addr × Obj)}{σ:St}{H:Hp}{s:Shared}{A:Around}{E:Value->Shared->Prop}{Q:Value->Shared->Prop}{c:Value}{b:Bool}
inductive TyOf (K:PySem.W.Frag) (H:Hp):V->Value->Prop where
 | non:TyOf K H .non (.type "NoneType")
 | bl (x:Bool):TyOf K H (.bl x) (.type "bool")
 | int (i:Int):TyOf K H (.int i) (.type "int")
 | str (x:Str):TyOf K H (.str x) (.type "str")
 | flt (x:UInt64):TyOf K H (.flt x) (.type "float")
 | lst {a:Addr}{xs:List V} (e:H a=some (.lst xs)):TyOf K H (.ref a) (.type "list")
 | frz {a:Addr}{o:Obj}{xs:List V} (e:H a=some (.frz o (.lst xs))):TyOf K H (.ref a) (.type "list")
 | tup {a:Addr}{xs:List V} (e:H a=some (.tup xs)):TyOf K H (.ref a) (.type "tuple")
 | dK {a:Addr}{kvs:List (Key × V)} (e:H a=some (.dK kvs)):TyOf K H (.ref a) (.type "dict")
 | dT {a:Addr}{kvs:List (List Key × V)} (e:H a=some (.dT kvs)):TyOf K H (.ref a) (.type "dict")
 | ins {a C dx:Addr}{fs:List (Str × V)} (e:H a=some (.ins C dx fs)) (cl:Cls K C) (ha:PySem.W.findIn K (.ref C) "__class__" = some (some (.builtin "object.__class__")))
   (hn:PySem.W.specialIn K (.builtin "object.__class__") "__get__" = some (some (.builtin "getset_descriptor.__get__"))) (htk:PySem.W.takesIn K (.builtin "object.__class__")=some true)
   (hm:PySem.W.mroIn K C (.type "object")=some true):TyOf K H (.ref a) (.ref C)
theorem zoa {x:V}{u t:Value} (I:Inv X pins σ H s) (rx:RelV x u) (ty:TyOf X.K H x t) (e:PySem.W.kitOne X.K t c=some b) (h:∀tk,Q (.bool b) { s with toks:=tk }) :
    wpAny (model X.prog X.w) A (call (.builtin "isinstance") [u,c]) Q E s:=by
  cases ty with
  | non=>cases (show u=Value.none from rx);exact PySem.W.kia_one PySem.W.kitx_none I.kIn True.intro e (fun z=>nomatch z) h
  | bl y=>cases (show u=Value.bool y from rx);exact PySem.W.kia_one PySem.W.kitx_bool I.kIn True.intro e (fun z=>nomatch z) h
  | int i=>obtain ⟨t,q⟩:=(show ∃t,u=Value.int i t from rx);cases q;exact PySem.W.kia_one PySem.W.kitx_int I.kIn True.intro e (fun z=>nomatch z) h
  | str y=>obtain ⟨t,q⟩:=(show ∃t,u=Value.str y t from rx);cases q;exact PySem.W.kia_one PySem.W.kitx_str I.kIn True.intro e (fun z=>nomatch z) h
  | flt y=>obtain ⟨t,q⟩:=(show ∃t,u=Value.float y t from rx);cases q;exact PySem.W.kia_one PySem.W.kitx_float I.kIn True.intro e (fun z=>nomatch z) h
  | @lst a xs ea =>
    cases (show u=Value.ref a from rx);obtain ⟨_,_,n,_,h1⟩:=(show zbt X.prog X.w H s.heap a (.lst xs) from I.hok a _ ea);exact PySem.W.kia_one PySem.W.kitx_list I.kIn ⟨_,h1,rfl⟩ e (fun z=>nomatch z) h
  | @frz a ob xs ea =>
    cases (show u=Value.ref a from rx);obtain ⟨_,_,_,n,_,h1⟩:=(show zbt X.prog X.w H s.heap a (.frz ob (.lst xs)) from I.hok a _ ea);exact PySem.W.kia_one PySem.W.kitx_list I.kIn ⟨_,h1,rfl⟩ e (fun z=>nomatch z) h
  | @tup a xs ea =>
    cases (show u=Value.ref a from rx);obtain ⟨_,_,_,p⟩:=(show zbt X.prog X.w H s.heap a (.tup xs) from I.hok a _ ea);obtain ⟨o,h1,h2,_⟩:=p;exact PySem.W.kia_one PySem.W.kitx_tuple I.kIn ⟨o,h1,h2⟩ e (fun z=>nomatch z) h
  | @dK a kvs ea =>
    cases (show u=Value.ref a from rx);obtain ⟨_,_,vs,_,p⟩:=(show zbt X.prog X.w H s.heap a (.dK kvs) from I.hok a _ ea);obtain ⟨o,es,ep,h1,h2,_⟩:=p;exact PySem.W.kia_one PySem.W.kitx_dict I.kIn ⟨o,h1,h2.1⟩ e (fun z=>nomatch z) h
  | @dT a kvs ea =>
    cases (show u=Value.ref a from rx);obtain ⟨_,_,xs,_,o,es,ep,h1,h2,_⟩:=(show zbt X.prog X.w H s.heap a (.dT kvs) from I.hok a _ ea);exact PySem.W.kia_one PySem.W.kitx_dict I.kIn ⟨o,h1,h2.1⟩ e (fun z=>nomatch z) h
  | @ins a C dx fs ea cl ha hn htk hm =>
    cases (show u=Value.ref a from rx);obtain ⟨mA,O,_⟩:=zzf I.hok ea;obtain ⟨od,J,_⟩:=O.look;exact PySem.W.kia_one (PySem.W.kitx_own (cl.get _) cl.hd ha hn htk hm) I.kIn J e (fun z=>nomatch z) h
end
end L2
namespace L2
open PySem PySem.Spec PyProof.Rows
structure Room (k:Nat) (A:Around):Prop where
 hd:A.handled=none
 dp:A.depth+3 * k+5 < recursionLimit
 un:A.units+16 * k+200 < cLine
 gd:A.guards=some []
theorem Room.mono {j k:Nat}{A:Around} (r:Room k A) (h:j<=k):Room j A:=⟨r.hd,by have:=r.dp;omega,by have:=r.un;omega,r.gd⟩
theorem Room.deeper {k:Nat}{A:Around} (r:Room (k+1) A) (env:Env):Room k (A.deeper env) :=
 ⟨r.hd,by have:=r.dp;show A.depth+1+3 * k+5 < _;omega,by have:=r.un;show A.units+3+16 * k+200 < _;omega,r.gd⟩
theorem Room.depth {k:Nat}{A:Around} (r:Room k A):A.depth < recursionLimit:=by have:=r.dp;omega
noncomputable def tNil:TA:=fun _ H Q=>Q [] H
noncomputable def zdd (ta:TE) (tr:TA):TA:=fun σ H Q=>ta σ H fun x H1=>tr σ H1 fun xs H2=>Q (x::xs) H2
section
variable {X:Cx}{e:Expr}{es:List Expr}{te:TE}{t:TA}{pos:Pos}
theorem zdi:PA X [] tNil:=fun _ _ _ _ H Q I h=>Calls.spliced_nil ⟨[],H,I,.nil,h⟩
theorem zwr (ha:PE X e te) (hr:PA X es t) (hs:starEach (e::es) X.env=(false,eval e X.env)::starEach es X.env:=by rfl):PA X (e::es) (zdd te t):=by
 intro pos pins s σ H Q I h;rw [hs];show wpAny _ _ (spliced ((false,eval e X.env)::backTo pos (starEach es X.env))) _ _ s;refine Calls.spliced_cons (thn (ha pins s σ H _ I h) fun u s1 ⟨x,H1,I1,r1,q1⟩=>?_);exact thn (hr pos pins s1 σ H1 _ I1 q1) fun us s2 ⟨xs,H2,I2,r2,q2⟩=>⟨x::xs,H2,I2,.cons r1 r2,q2⟩
noncomputable def tTup (t:TA):TE:=fun σ H Q=>t σ H fun xs H1=>xs.length<=sizeLine/\∀p,H1 p=none->Q (.ref p) (upd H1 p (.tup xs))
noncomputable def tLst (t:TA):TE:=fun σ H Q=>t σ H fun xs H1=>xs.length<=sizeLine/\∀p,H1 p=none->Q (.ref p) (upd H1 p (.lst xs))
theorem zz1 {x1} (h:PA X es t):PE X (.Tuple es x1 pos) (tTup t):=by
 intro pins s σ H Q I hq;refine wpAny_Tuple_spliced (thn (h pos pins s σ H _ I hq) fun us s1 ⟨xs,H1,I1,r,z,q⟩=>⟨by rw [<-r.length];exact z,?_⟩);have hf:H1 s1.heap.objs.size=none:=I1.hok.fresh (Nat.le_refl _);refine ⟨.ref s1.heap.objs.size,upd H1 s1.heap.objs.size (.tup xs),I1.laid (t':=s1.toks) (fun b u e=>Heap.get?_push_of_some _ e) (Nat.le_refl _) ?_,rfl,q _ hf⟩;exact ⟨z,us,r,⟨_,Heap.get?_push_size _ rfl,rfl,_,rfl⟩⟩
theorem z2h (h:PA X es t):PE X (.List es pos) (tLst t):=by
 intro pins s σ H Q I hq;refine wpAny_List_spliced (thn (h pos pins s σ H _ I hq) fun us s1 ⟨xs,H1,I1,r,z,q⟩=>⟨by rw [<-r.length];exact z,?_⟩);have hf:H1 s1.heap.objs.size=none:=I1.hok.fresh (Nat.le_refl _);refine ⟨.ref s1.heap.objs.size,upd H1 s1.heap.objs.size (.lst xs),I1.laid (t':=s1.toks) (fun b u e=>Heap.get?_push_of_some _ e) (Nat.le_refl _) ?_,rfl,q _ hf⟩;exact ⟨z,us,0,r,Heap.get?_push_size _ rfl⟩
end
noncomputable abbrev Sp:=List V->Hp->VK->XK->Prop
noncomputable abbrev CXT:=List Env->Hp->Shared->XK->Value->Shared->Prop
structure Env0 (P:Program) (w:World) (K:PySem.W.Frag) (mg:Str->Option Value) (base:Heap) (A:Around) (outer:List Env) (s:Shared) (H:Hp):Prop where
 frames:A.frames=some outer
 mod:Mod K mg base
 bs:∀b o,base.get? b=some o->s.heap.get? b=some o/\H b=none
 bsz:base.objs.size<=s.heap.objs.size
 funs:s.heap.FunFrames base outer
 frf:∀b∈frs outer,H b=none
 hok:HOk P w H s.heap
 bare:AllBare s.gens
noncomputable def CE (outer:List Env) (P:Program) (w:World) (H:Hp) (s:Shared) (Q:VK) (u:Value) (s' : Shared):Prop :=
 ∃v H',s'.os=s.os/\AllBare s'.gens/\Un (frs outer) [] H H' s.heap s'.heap/\HOk P w H' s'.heap/\RelV v u/\Q v H'
noncomputable def CR (CX:CXT) (outer:List Env) (P:Program) (w:World) (H:Hp) (s:Shared) (Q:VK) (E:XK) (r:Result) (s' : Shared):Prop :=
 match r with
 | .ok (.ret u)=>CE outer P w H s Q u s'
 | .ok _=>False
 | .error e=>CX outer H s E e s'
structure FnOk (P:Program) (w:World) (K:PySem.W.Frag) (mg:Str->Option Value) (base:Heap) (CX:CXT) (k:Nat) (f:Addr) (fd:FuncData) (ps:List Str) (sp:Sp):Prop where
 len:∀vs H Q E,sp vs H Q E->vs.length=ps.length
 run:∀(A:Around) (outer:List Env) (s:Shared) (H:Hp) (args:Args) (us:List Value) (vs:List V) (Q:VK) (E:XK),Room k A->Env0 P w K mg base A outer s H->BindsTo s fd args (ps.zip us)->Vals vs us->sp vs H Q E ->
  codeAny (model P w) A (.call (.ref f) args) (CR CX outer P w H s Q E) s
section
variable {X:Cx}{pins:List (Addr × Obj)}{σ:St}{H:Hp}{s s' : Shared}
theorem Inv.env0 (I:Inv X pins σ H s):Env0 X.prog X.w X.K X.mg X.base X.A X.stack s H :=
 ⟨I.ok.frames,I.ok.mod,I.bs,Nat.le_trans I.ok.bsz I.sz,I.stack,I.stkFree,I.hok,I.bare⟩
theorem Inv.after {Q:VK}{u:Value} (I:Inv X pins σ H s) (h:CE X.stack X.prog X.w H s Q u s'):EP X pins σ Q u s':=by
 obtain ⟨v,H',os,bare,un,hok,r,q⟩:=h;obtain ⟨hh,g,d,t,os'⟩:=s';obtain rfl:os'=s.os:=os;exact ⟨v,H',I.call (h':=hh) (g':=g) (d':=d) (t':=t) (ch:=[]) un hok bare (fun b z=>absurd z (by simp)),r,q⟩
end
noncomputable def zy2 (sp:Sp) (dvs:List V) (E:XK) (t:TA):TE:=fun σ H Q=>t σ H fun vs H1=>sp (vs++dvs) H1 Q E
noncomputable def zjy (K:PySem.W.Frag) (fd:FuncData) (ps:List Str) (ds:List Value):Prop :=
 ∀(s:Shared) (us:List Value),K.In s.heap->(us++ds).length=ps.length->BindsTo s fd ⟨us,[]⟩ (ps.zip (us++ds))
theorem zjy.all {K:PySem.W.Frag}{fd:FuncData}{ps:List Str} (h:∀us:List Value,us.length=ps.length->bindArgs fd ⟨us,[]⟩=pure (ps.zip us)):zjy K fd ps []:=fun s us _ hl=>by
 rw [List.append_nil] at hl ⊢;exact .of_eq (h us hl)
noncomputable def zrl (CX:CXT) (X:Cx) (E:XK):Prop:=∀(pins:List (Addr × Obj)) (σ:St) (H:Hp) (s:Shared) (e:Value) (s' : Shared),Inv X pins σ H s->CX X.stack H s E e s'->X.xe e s'
section
variable {X:Cx}{CX:CXT}{k:Nat}{f C:Addr}{fd:FuncData}{ps:List Str}{sp:Sp}{dvs:List V}{ds:List Value}{E:XK}{x m:Str}{p pos apos:Pos}{e o:Expr}{es:List Expr}{ta:TE}{t:TA}
theorem z29 {pins:List (Addr × Obj)}{σ:St}{H:Hp}{s:Shared}{Q:VK}{us:List Value}{vs:List V} (F:FnOk X.prog X.w X.K X.mg X.base CX k f fd ps sp) (hr:Room k X.A) (hb:zjy X.K fd ps ds) (hd:Vals dvs ds) (hx:zrl CX X E)
    (I:Inv X pins σ H s) (r:Vals vs us) (h:sp (vs++dvs) H Q E):wpAny (model X.prog X.w) X.A (call (.ref f) us) (EP X pins σ Q) X.xe s:=by
  have r2:Vals (vs++dvs) (us++ds):=r.append hd;have hl:(us++ds).length=ps.length:=by rw [<-r2.length];exact F.len _ _ _ _ h
  refine wpAny_call (codeAny_mono (F.run X.A X.stack s H ⟨us,[]⟩ (us++ds) (vs++dvs) Q E hr I.env0 (hb s us I.kIn hl) r2 h) fun r s' hq=>?_);cases r with
  | error e=>exact hx pins σ H s e s' I hq
  | ok fl =>
    cases fl with
    | ret u=>exact I.after hq
    | next=>exact False.elim hq
    | brk=>exact False.elim hq
    | cont=>exact False.elim hq
theorem zy9 (F:FnOk X.prog X.w X.K X.mg X.base CX k f fd ps sp) (hr:Room k X.A) (hg:Gl X x) (hm:X.mg x=some (.ref f)) (hk:PySem.W.keepIn X.K (.ref f)=true) (hb:zjy X.K fd ps ds) (hd:Vals dvs ds) (hx:zrl CX X E)
  (ha:PA X (e::es) t) (hdb:(x == ("__debug__" : Str))=false:=by decide) (he:starEach (e::es) X.env=(false,eval e X.env)::starEach es X.env:=by rfl) (hpl:(backTo pos (starEach es X.env)).any (·.1)=false:=by rfl) :
  PE X (.Call (.Name x p) (e::es) [] pos) (zy2 sp dvs E t):=by
 intro pins s σ H Q I h;refine wpAny_Call_Name_kw (zys I hg hm ?_ hdb);refine PySem.W.callWith_K (h₀:=X.base) I.ok.mod.kin hk (thn (ha pos pins s σ H _ I h) fun us s1 ⟨vs,H1,I1,r,q⟩=>⟨I1.kIn,?_⟩) he hpl;exact z29 F hr hb hd hx I1 r q
end
section
variable {X:Cx}{CX:CXT}{k:Nat}{f C:Addr}{fd:FuncData}{ps ks:List Str}{sp:Sp}{E:XK}{x m:Str}{p pos apos kpos:Pos}{e o:Expr}{es:List Expr}{kws:List Keyword}{te ta:TE}{t tk:TA}{nm:Option Str}
variable {g:List Value->List Value->List Value}{gV:List V->List V->List V}
end
structure FnScope (N P:List Str) (sc:Scope):Prop where
 kind:sc.kind=.function
 co:sc.isCoroutine=false
 gen:sc.isGenerator=false
 nd:N.Nodup
 pre:N.take P.length=P
 par:∀x∈P,sc.names.lookup x=some .local\/sc.names.lookup x=some .cell
 nofree:∀y∈sc.names,y.2≠.free
theorem zim {kindOf:Str->Option NameKind}{x:Str}:∀{binds:List (Str × Value)}{m:Str->Option Value},(∀v,(x,v) ∉ binds)->bindL kindOf binds m x=m x
  | [],_,_=>rfl
  | (n,v)::r,m,h=>by
    unfold bindL;rw [zim fun w hw=>h w (List.mem_cons_of_mem _ hw)];split
    · have : x ≠ n := by rintro rfl; exact h v List.mem_cons_self
      simp [this]
    · rfl
theorem zjf {kindOf:Str->Option NameKind}{x:Str}:∀{binds:List (Str × Value)}{m:Str->Option Value},(∀v,(x,v) ∉ binds)->bindC kindOf binds m x=m x
  | [],_,_=>rfl
  | (n,v)::r,m,h=>by
    unfold bindC;rw [zjf fun w hw=>h w (List.mem_cons_of_mem _ hw)];split
    · rfl
    · have : x ≠ n := by rintro rfl; exact h v List.mem_cons_self
      simp [this]
theorem zjk {kindOf:Str->Option NameKind}{x:Str}{v:Value}:∀{P:List Str}{vs:List Value}{i:Nat}{m:Str->Option Value},P.Nodup->P[i]?=some x->vs[i]?=some v->kindOf x=some .local ->
    bindL kindOf (P.zip vs) m x=some v
  | [],_,_,_,_,h,_,_=>by simp at h
  | _::_,[],_,_,_,_,h,_=>by simp at h
  | p::P,w::vs,0,m,nd,h1,h2,hk=>by
    simp at h1 h2;subst h1;subst h2;show bindL kindOf ((p,w)::P.zip vs) m p=_;unfold bindL;rw [zim fun v hv=>(List.nodup_cons.mp nd).1 (List.of_mem_zip hv).1,if_pos hk];simp
  | p::P,w::vs,i+1,m,nd,h1,h2,hk=>by
    show bindL kindOf ((p,w)::P.zip vs) m x=_;unfold bindL;exact zjk (i:=i) (List.nodup_cons.mp nd).2 (by simpa using h1) (by simpa using h2) hk
theorem zhv {kindOf:Str->Option NameKind}{x:Str}{v:Value}:∀{P:List Str}{vs:List Value}{i:Nat}{m:Str->Option Value},P.Nodup->P[i]?=some x->vs[i]?=some v->kindOf x≠some .local ->
    bindC kindOf (P.zip vs) m x=some v
  | [],_,_,_,_,h,_,_=>by simp at h
  | _::_,[],_,_,_,_,h,_=>by simp at h
  | p::P,w::vs,0,m,nd,h1,h2,hk=>by
    simp at h1 h2;subst h1;subst h2;show bindC kindOf ((p,w)::P.zip vs) m p=_;unfold bindC;rw [zjf fun v hv=>(List.nodup_cons.mp nd).1 (List.of_mem_zip hv).1,if_neg hk];simp
  | p::P,w::vs,i+1,m,nd,h1,h2,hk=>by
    show bindC kindOf ((p,w)::P.zip vs) m x=_;unfold bindC;exact zhv (i:=i) (List.nodup_cons.mp nd).2 (by simpa using h1) (by simpa using h2) hk
noncomputable def start (N:List Str) (vs:List V):St:=vs.map some++List.replicate (N.length - vs.length) none
noncomputable def cxOf (CX:CXT) (P:Program) (w:World) (K:PySem.W.Frag) (mg:Str->Option Value) (base:Heap) (N:List Str) (qual:Str) (scope:Scope) (f:Addr) (cd:Value) (A:Around) (outer:List Env) (s:Shared) (H:Hp) (E:XK):Cx where
 prog:=P
 w:=w
 K:=K
 mg:=mg
 base:=base
 A:=A.deeper (envOfC qual scope s.heap.objs.size f cd)
 N:=N
 s₀:=s
 H₀:=H
 env:=envOfC qual scope s.heap.objs.size f cd
 outer:=outer
 stack:=envOfC qual scope s.heap.objs.size f cd::outer
 ex:=[]
 calm:=true
 fn:=fun _=>true
 pn:=[]
 xe:=fun e s'=>wpAny (model P w) (A.deeper (envOfC qual scope s.heap.objs.size f cd)) (leaving (envOfC qual scope s.heap.objs.size f cd) e) (fun _ s''=>CX outer H s E e s'') (fun e' s''=>CX outer H s E e' s'') s'
theorem cell_has {sc:Scope}{n:Nat}{x:Str} (h:sc.names.lookup x=some .cell):∃c,(cellsFrom n sc.names []).lookup x=some c:=by
 have q:=PySem.W.cellsFrom_some sc.names n [] (.inl h);exact Option.isSome_iff_exists.mp q
theorem zok {CX:CXT}{P:Program}{w:World}{K:PySem.W.Frag}{mg:Str->Option Value}{base:Heap}{N ps:List Str}{qual:Str}{scope:Scope}{f:Addr}{cd:Value}{A:Around}{outer:List Env}{s s1:Shared}{H:Hp}{E:XK}{us:List Value}{vs:List V}
  (S:FnScope N ps scope) (hd:A.handled=none) (e0:Env0 P w K mg base A outer s H) (hl:vs.length=ps.length) (r:Vals vs us)
  (x:InCallC s s.heap.objs.size (bindL (envOfC qual scope s.heap.objs.size f cd).kindOf (ps.zip us) fun _=>none) (cellsFrom (s.heap.objs.size+1) scope.names []) (bindC (envOfC qual scope s.heap.objs.size f cd).kindOf (ps.zip us) fun _=>none) s1) :
  Inv (cxOf CX P w K mg base N qual scope f cd A outer s H E) [] (start N vs) H s1:=by
 have hpl:ps.length<=N.length:=by have:=congrArg List.length S.pre;rw [List.length_take] at this;omega
 obtain ⟨h1,tk,rfl,hk⟩:=x.done;have noA:∀b:Addr,b ∉ (cxOf CX P w K mg base N qual scope f cd A outer s H E).ex:=fun b z=>absurd (show b∈([]:List Addr) from z) (by simp);refine ⟨⟨e0.mod,S.kind,rfl,rfl,Nat.le_refl _,fun y z c h1 h2=>?_,fun y hy=>?_,fun y c _ h=>?_,fun _=>hd,Around.frames_deeper e0.frames,.inr ⟨rfl,rfl⟩,fun b z=>absurd z (noA b),e0.bs,e0.bsz,fun b _ _=>noA b,fun b z=>absurd z (noA b),e0.funs,e0.frf⟩,
  rfl,e0.bare,Un.kept hk,⟨_,x.toInCall.ns,fun i y v h1 h2 h3=>?_⟩,fun y c h=>⟨_,x.cell y c h⟩,e0.hok.fresh (Nat.le_refl _),fun y c h=>?_,fun p hp=>absurd (show p∈([]:List (Addr × Obj)) from hp) (by simp),e0.hok.kept hk,?_⟩
 ·exact name_of_addr x.apart (PySem.mem_of_lookup h1) (PySem.mem_of_lookup h2)
 ·have hy : scope.names.lookup y = some .cell \/ scope.names.lookup y = some .free := hy;rcases hy with hy | hy
  ·exact cell_has hy
  ·exact absurd rfl (S.nofree _ (PySem.mem_of_lookup hy))
 ·exact Nat.le_of_lt (x.above y c (PySem.mem_of_lookup h))
 ·have hi:i < vs.length:=by
   unfold start at h2;by_cases hi:i < vs.length
   ·exact hi
   ·rw [List.getElem?_append_right (by simpa using hi)] at h2;rw [List.getElem?_replicate] at h2;split at h2<;>cases h2
  have ha:vs[i]?=some v:=by
   unfold start at h2;rw [List.getElem?_append_left (by simpa using hi),List.getElem?_map] at h2;cases e:vs[i]? with
   | none=>rw [e] at h2;cases h2
   | some a=>rw [e] at h2;cases h2;rfl
  obtain ⟨u,hu,rv⟩:=r.get ha;have hp:ps[i]?=some y:=by
   rw [<-S.pre,List.getElem?_take_of_lt (by omega)];exact h1
  have ndP:ps.Nodup:=by rw [<-S.pre];exact S.nd.sublist (List.take_sublist _ _)
  refine ⟨u,rv,?_⟩;rcases S.par y (List.mem_of_getElem? hp) with k | k
  ·exact .inl ⟨k,zjk ndP hp hu k⟩
  ·obtain ⟨c, e⟩ := cell_has (n := s.heap.objs.size + 1) k;refine .inr ⟨.inl k,c,e,?_⟩;have q:=x.cell y c e;rw [zhv ndP hp hu (by show scope.names.lookup y≠_;rw [k];decide)] at q;exact q
 ·exact e0.hok.fresh (Nat.le_of_lt (x.above y c (PySem.mem_of_lookup h)))
 ·unfold start;show _=N.length;rw [List.length_append,List.length_map,List.length_replicate];omega
theorem z39 {CX:CXT}{P:Program}{w:World}{K:PySem.W.Frag}{mg:Str->Option Value}{base:Heap}{k:Nat}{f:Addr}{name qual:Str}{params:Arguments}{body:List Stmt}{scope:Scope}{dV kV doc pm cdv ct oc:Value}{an od:Option Addr}
    {osl:Array (Option Value)}{N ps:List Str}{sp:Sp} (lk:K.lookup f=some ⟨oc,od,.func (PySem.W.fnOf name qual params body scope dV kV doc pm an cdv ct),osl⟩) (hcd:PySem.W.codeIn K cdv qual=true) (S:FnScope N ps scope)
    (len:∀vs H Q E,sp vs H Q E->vs.length=ps.length)
    (hbody:∀(A:Around) (outer:List Env) (s:Shared) (H:Hp) (vs:List V) (Q:VK) (E:XK),(Room k (A.deeper (envOfC qual scope s.heap.objs.size f cdv))/\Room (k+1) A)->sp vs H Q E ->
      ∃t,PSs (cxOf CX P w K mg base N qual scope f cdv A outer s H E) body t/\t { nx:=fun _ H'=>Q .non H',rt:=Q } (start N vs) H) :
    FnOk P w K mg base CX (k+1) f (PySem.W.fnOf name qual params body scope dV kV doc pm an cdv ct) ps sp:=by
  refine ⟨len,fun A outer s H args us vs Q E hr e0 hb r hsp=>?_⟩;have hl:=len _ _ _ _ hsp;have KX:K.In s.heap:=e0.mod.kin.keeps fun b o e=>(e0.bs b o e).1;have lim:s.heap.NoLimit:=e0.mod.nolimit.keeps fun b o e=>(e0.bs b o e).1;have hkind:∀y∈ps.zip us,scope.names.lookup y.1=some .local\/(scope.names.lookup y.1=some .cell/\((cellsFrom (s.heap.objs.size+1) scope.names []).lookup y.1).isSome=true):=fun ⟨n,v⟩ hy=>by
    rcases S.par n (List.of_mem_zip hy).1 with q | q
    · exact .inl q
    · exact .inr ⟨q,PySem.W.cellsFrom_some _ _ _ (.inl q)⟩
  refine codeAny_call_function hr.depth (KX _ _ lk) rfl S.co S.gen rfl (PySem.W.codeRec_of KX hcd) (hb _ _ _ _ ?_);refine wpAny_newFunctionEnv_cells S.kind hkind fun env he s1 x=>?_;subst he;refine ⟨lim.keeps x.toInCall.keep,codeAny_func ?_⟩;obtain ⟨t,ht,hq⟩:=hbody A outer s H vs Q E ⟨hr.deeper _,hr⟩ hsp;have I:Inv (cxOf CX P w K mg base N qual scope f cdv A outer s H E) [] (start N vs) H s1:=zok S hr.hd e0 hl r x;refine wpAny_mono (ht [] s1 (start N vs) H _ I hq) (fun fl s' hs=>?_) fun e s' hs=>hs;have fin:∀{σ' : St}{H' : Hp}{v:V}{u:Value},Inv (cxOf CX P w K mg base N qual scope f cdv A outer s H E) [] σ' H' s'->RelV v u->Q v H'->CE outer P w H s Q u s' :=
    fun {σ' H' v u} J rv q=>⟨v,H',J.os,J.bare,J.base,J.hok,rv,q⟩
  cases fl with
  | ret u =>
    obtain ⟨v,σ',H',J,rv,q⟩:=hs;exact fin J rv q
  | next =>
    obtain ⟨σ',H',J,q⟩:=hs;exact fin (v:=V.non) (u:=Value.none) J rfl q
  | brk =>
    obtain ⟨_,_,_,q⟩:=hs;exact False.elim q
  | cont =>
    obtain ⟨_,_,_,q⟩:=hs;exact False.elim q
end L2
namespace L2
open PySem PySem.Spec PyProof.Rows
section
variable {X:Cx}{x:Str}{p pos:Pos}{e:Expr}{es:List Expr}{t:TA}{id T:String}{r:List V->Hp->VK->Prop}
noncomputable def tCB (r:List V->Hp->VK->Prop) (t:TA):TE:=fun σ H Q=>t σ H fun vs H1=>r vs H1 Q
theorem zaz (hc:zbj X (.builtin id) r) (hg:Gl X x) (hm:X.mg x=none) (hv:bootBuiltins x=some (.builtin id)) (ha:PA X (e::es) t) (hn:x≠"__name__" := by decide) (hdb:(x == ("__debug__" : Str))=false:=by decide)
  (he:starEach (e::es) X.env=(false,eval e X.env)::starEach es X.env:=by rfl) (hpl:(backTo pos (starEach es X.env)).any (·.1)=false:=by rfl):PE X (.Call (.Name x p) (e::es) [] pos) (tCB r t):=by
 intro pins s σ H Q I h;refine wpAny_Call_Name_kw (zcv I hg hm hv ?_ hn hdb);exact PyProof.Rows.callWith_builtin1 (thn (ha pos pins s σ H _ I h) fun us s1 ⟨vs,H1,I1,r1,q1⟩=>hc pins s1 σ H1 vs us Q I1 r1 q1) he hpl
theorem ze0 (hc:zbj X (.type T) r) (hg:Gl X x) (hm:X.mg x=none) (hv:bootBuiltins x=some (.type T)) (ha:PA X (e::es) t) (hn:x≠"__name__" := by decide) (hdb:(x == ("__debug__" : Str))=false:=by decide)
  (he:starEach (e::es) X.env=(false,eval e X.env)::starEach es X.env:=by rfl) (hpl:(backTo pos (starEach es X.env)).any (·.1)=false:=by rfl):PE X (.Call (.Name x p) (e::es) [] pos) (tCB r t):=by
 intro pins s σ H Q I h;refine wpAny_Call_Name_kw (zcv I hg hm hv ?_ hn hdb);exact PyProof.Rows.callWith_type1 (thn (ha pos pins s σ H _ I h) fun us s1 ⟨vs,H1,I1,r1,q1⟩=>hc pins s1 σ H1 vs us Q I1 r1 q1) he hpl
end
end L2
namespace HT
open PySem PyProof.Rows
section
open PySem.SeqAt
open PySem.AutoSeq1 (wpAny_loadPart')
open PySem.MeetsSeq PySem.MeetsSeq2 PySem.MeetsSeq3
end
section
variable {prog:Program}{w:World}{A:Around}{E:Value->Shared->Prop}{s:Shared}
theorem cat_tup {t b:Addr}{vs ws:List Value}{Q:Value->Shared->Prop} (ht:IsTup s.heap t vs.toArray) (hb:IsTup s.heap b ws.toArray) (hv:vs≠[])
  (h1:ws=[]->Q (.ref t) s) (h2:ws≠[]->Q (.ref s.heap.objs.size) { s with heap:=s.heap.push { cls:=.type "tuple",data:=.seq (vs++ws).toArray } })
  (hsz:vs.length+ws.length<=sizeLine):wpAny (model prog w) A (binaryOp .Add (.ref t) (.ref b)) Q E s:=by
 obtain ⟨⟨cls,dd,data,sl⟩,ho,hc,n,hd⟩:=id ht;obtain ⟨⟨cls2,dd2,data2,sl2⟩,ho2,hc2,n2,hd2⟩:=id hb;simp only at hc hd hc2 hd2;subst hc hd hc2 hd2;have e:vs.toArray++ws.toArray=(vs++ws).toArray:=by simp
 by_cases hw:ws=[]
 ·exact concat_meets ⟨_,ho,rfl⟩ ⟨_,ho2,rfl⟩ noFill_tuple_add seq_tuple_add PySem.F.slot_tuple_add PySem.F.entry_tuple_add (PySem.F.args_tuple_add_2 _ _)
   (tuple_addW1 t b vs.toArray ws.toArray n n2 dd dd2 sl sl2 (by simpa using hv) (by simp [hw])) ⟨ho,ho2,h1 hw⟩
 ·refine concat_meets ⟨_,ho,rfl⟩ ⟨_,ho2,rfl⟩ noFill_tuple_add seq_tuple_add PySem.F.slot_tuple_add PySem.F.entry_tuple_add (PySem.F.args_tuple_add_2 _ _)
   (tuple_addW2 t b vs.toArray ws.toArray n n2 dd dd2 sl sl2 (by simpa using hv) (by simpa using hw) (by rw [List.size_toArray,List.size_toArray];exact hsz)) ⟨ho,ho2,?_⟩
  rw [e];exact h2 hw
noncomputable def sIx (n d:Nat):Option Int->Nat
 | none=>d
 | some v=>if v < 0 then (v+(n:Int)).toNat else min v.toNat n
theorem sIx_nat (n d k:Nat):sIx n d (some (k:Int))=min k n:=by
 show (if (k:Int) < 0 then ((k:Int)+(n:Int)).toNat else min (k:Int).toNat n)=min k n;rw [if_neg (by omega),Int.toNat_natCast]
theorem zz5 (n d:Nat) (hd:d<=n) (o:Option Int):sIx n d o<=n:=by
  cases o with
  | none=>exact hd
  | some v =>
    show (if v < 0 then (v+(n:Int)).toNat else min v.toNat n)<=n;by_cases hv:v < 0
    · rw [if_pos hv];omega
    · rw [if_neg hv];exact Nat.min_le_right _ _
theorem zqf (v:Int) (n d:Nat):(if v < 0 then max (v+(n:Int)) 0 else min v (n:Int))=((sIx n d (some v):Nat):Int):=by
 show (if v < 0 then max (v+(n:Int)) 0 else min v (n:Int))=(((if v < 0 then (v+(n:Int)).toNat else min v.toNat n):Nat):Int);by_cases hv:v < 0
 ·simp only [if_pos hv];omega
 ·simp only [if_neg hv];omega
theorem zmt (lo hi:Option Int) (n:Nat):Builtin.Slice.sliceAdjust lo hi 1 (n:Int)=(((sIx n 0 lo:Nat):Int),((sIx n n hi:Nat):Int)):=by
 have h1:¬ ((1:Int) < 0):=by omega
 unfold Builtin.Slice.sliceAdjust;simp only [h1,if_false];refine Prod.ext ?_ ?_
 ·cases lo with
  | none=>rfl
  | some v=>exact zqf v n 0
 ·cases hi with
  | none=>rfl
  | some v=>exact zqf v n n
theorem zmy (i j:Nat):Builtin.Slice.slicePlaces (i:Int) (j:Int) 1=j - i:=by
 unfold Builtin.Slice.slicePlaces;have h1:(1:Int) > 0:=by omega
 simp only [h1,if_true,Int.ediv_one];split<;>omega
theorem zfz {v:Value}{o:Option Int}{Q:Option Int->Shared->Prop} (p:IsPart v o) (h:Q o s):wpAny (model prog w) A (Builtin.Slice.slicePartIndex v) Q E s:=by
 cases p with
 | none=>exact slicePart_none h
 | int i t=>exact slicePart_int h
theorem zci {sl:Addr}{vl vu:Value}{lo hi:Option Int}{n:Nat}{Q:Int × Int × Nat->Shared->Prop} (hs:s.heap.IsSliceOf sl vl vu .none) (pl:IsPart vl lo) (pu:IsPart vu hi)
  (h:Q (((sIx n 0 lo:Nat):Int),1,sIx n n hi - sIx n 0 lo) s):wpAny (model prog w) A (Builtin.Slice.sliceApplied (.ref sl) (pure (n:Int))) Q E s:=by
 obtain ⟨os,hos,hcs,hds⟩:=id hs;unfold Builtin.Slice.sliceApplied Builtin.Slice.sliceFields;refine wpAny_bind (wpAny_bind (wpAny_field hos hds (x:=vl) rfl (wpAny_bind (wpAny_field hos hds (x:=vu) rfl (wpAny_bind (wpAny_field hos hds (x:=.none) rfl (wpAny_pure ?_)))))));refine wpAny_bind (slicePart_none ?_);show wpAny _ _ (if ((1:Int) == 0)=true then _ else _) _ _ s;rw [if_neg (by decide)];refine wpAny_bind (zfz pl (wpAny_bind (zfz pu (wpAny_bind (wpAny_pure ?_)))));show wpAny _ _ (match Builtin.Slice.sliceAdjust lo hi 1 (n:Int) with | (lo,hi)=>pure (lo,(1:Int),Builtin.Slice.slicePlaces lo hi 1)) _ _ s;rw [zmt lo hi n];show wpAny _ _ (pure (((sIx n 0 lo:Nat):Int),(1:Int),Builtin.Slice.slicePlaces ((sIx n 0 lo:Nat):Int) ((sIx n n hi:Nat):Int) 1)) _ _ s;rw [zmy];exact wpAny_pure h
theorem zr1 (xs:Array Value) (i k:Nat):((List.range k).filterMap fun (m:Nat)=>xs[((i:Int)+(m:Int) * 1).toNat]?).toArray=((xs.toList.drop i).take k).toArray:=by
 have e:(fun (m:Nat)=>xs[((i:Int)+(m:Int) * 1).toNat]?)=fun m=>xs[i+m]?:=by
  funext m
  have:((i:Int)+(m:Int) * 1).toNat=i+m:=by omega
  rw [this]
 rw [e];have:=pick_run xs i k;rw [List.filterMap_map] at this;have e2:((fun x=>xs[x]?) ∘ fun x=>i+x)=fun m=>xs[i+m]?:=rfl;rw [e2] at this;rw [this]
theorem getItem_tuple_cut {t sl:Addr}{items:Array Value}{vl vu:Value}{lo hi:Option Int}{Q:Value->Shared->Prop} (ht:IsTup s.heap t items) (hs:s.heap.IsSliceOf sl vl vu .none) (pl:IsPart vl lo) (pu:IsPart vu hi)
  (hw:¬ (sIx items.size 0 lo=0/\sIx items.size items.size hi=items.size))
  (h:Q (.ref s.heap.objs.size) { s with heap:=s.heap.push { cls:=.type "tuple",data:=.seq ((items.toList.drop (sIx items.size 0 lo)).take (sIx items.size items.size hi - sIx items.size 0 lo)).toArray } })
  (hsz:items.size<=sizeLine):wpAny (model prog w) A (getItem (.ref t) (.ref sl)) Q E s:=by
 have htake:sizeOk (.seq ((items.toList.drop (sIx items.size 0 lo)).take (sIx items.size items.size hi - sIx items.size 0 lo)).toArray):=by
  show ((items.toList.drop (sIx items.size 0 lo)).take (sIx items.size items.size hi - sIx items.size 0 lo)).toArray.size<=sizeLine;rw [List.size_toArray,List.length_take,List.length_drop,Array.length_toList];omega
 have hj:sIx items.size items.size hi<=items.size:=zz5 _ _ (Nat.le_refl _) hi;obtain ⟨os,hos,hcs,hds⟩:=id hs;have hTs:s.TypeIs (.ref sl) "slice" := ⟨os,hos,hcs⟩;unfold getItem
 try with_reducible refine wpAny_holding ?_
 first | refine wpAny_bind (wpAny_pure ?_) | skip
 refine wpAny_bind (wpAny_sequenceKey ht.typeIs (by decide) ?_);refine wpAny_bind (wpAny_callSpecial?_slot (name:=Str.ofString "__getitem__") ht.typeIs PyProof.Rows.slot_tuple_getitem
  (wpAny_call_entry PyProof.Rows.slot_tuple_getitem ht.typeIs entry_tuple_getitem ?_ (args_tuple_getitem _ _)))
 show wpAny _ _ (Builtin.Tuple.tupleItemsOf (.ref t) >>= _) _ _ s;refine wpAny_bind (tupleItemsOf_ ht ?_);refine wpAny_bind (wpAny_typeOf hTs ?_);rw [if_pos (by decide)];refine wpAny_bind (zci hs pl pu ?_);have hno:¬ ((((sIx items.size 0 lo:Nat):Int) == 0 && (1:Int) == 1 && (sIx items.size items.size hi - sIx items.size 0 lo) == items.size)=true):=by
  intro q;rw [Bool.and_eq_true,Bool.and_eq_true] at q;have q1:((sIx items.size 0 lo:Nat):Int)=0:=eq_of_beq q.1.1;have q2:sIx items.size items.size hi - sIx items.size 0 lo=items.size:=eq_of_beq q.2;exact hw ⟨by omega,by omega⟩
 show wpAny _ _ (if (((sIx items.size 0 lo:Nat):Int) == 0 && (1:Int) == 1 && (sIx items.size items.size hi - sIx items.size 0 lo) == items.size)=true then _ else _) _ _ s;rw [if_neg hno,zr1]
 first
  | exact wpAny_bind (m:=Builtin.Tuple.tupleExact _) (wpAny_newObj_type (wpAny_pure ⟨_,rfl,wpAny_pure h⟩) htake)
  | exact wpAny_bind (m:=Builtin.Tuple.tupleExact _) (wpAny_newObj_type (wpAny_bind (wpAny_pure (wpAny_pure ⟨_,rfl,wpAny_pure h⟩))) htake)
  | exact wpAny_bind (wpAny_bind (m:=Builtin.Tuple.tupleExact _) (wpAny_newObj_type (wpAny_pure (wpAny_pure ⟨_,rfl,wpAny_pure h⟩)) htake))
  | exact wpAny_bind (wpAny_bind (m:=Builtin.Tuple.tupleExact _) (wpAny_newObj_type (wpAny_pure ⟨_,rfl,wpAny_pure h⟩) htake))
end
end HT
namespace L2
open PySem PySem.Spec PyProof.Rows
noncomputable abbrev TO:=St->Hp->(Option Int->Hp->Prop)->Prop
noncomputable def PO (X:Cx) (e:Option Expr) (t:TO):Prop :=
  ∀(pins:List (Addr × Obj)) (s:Shared) (σ:St) (H:Hp) (Q:Option Int->Hp->Prop),Inv X pins σ H s->t σ H Q ->
    wpAny (model X.prog X.w) X.A (evalPart e X.env) (fun u s'=>∃o H',Inv X pins σ H' s'/\IsPart u o/\Q o H') X.xe s
noncomputable def zqu:TO:=fun _ H Q=>Q none H
noncomputable def z2x (t:TE):TO:=fun σ H Q=>t σ H fun x H1=>∃i,x=.int i/\Q (some i) H1
theorem zmz {ns:List Int}:∀{us:List Value},Vals (ns.map V.int) us->IntsAre us ns:=by
  induction ns with
  | nil=>intro us r;rw [List.map_nil] at r;cases r;exact .nil
  | cons n ns ih =>
    intro us r;rw [List.map_cons] at r;cases r with
    | cons r1 r2 =>
      obtain ⟨t,e⟩:=r1;subst e;exact .cons n t (ih r2)
section
variable {X:Cx}{e:Expr}{te:TE}{lo hi:Option Expr}{tl th:TO}{pos p2:Pos}
theorem zy7:PO X none zqu:=by
 intro pins s σ H Q I h;rw [evalPart_none];exact wpAny_pure ⟨none,H,I,.none,h⟩
theorem zzb (h:PE X e te):PO X (some e) (z2x te):=by
 intro pins s σ H Q I hw;rw [evalPart_some];refine thn (h pins s σ H _ I hw) fun u s1 ⟨x,H1,I1,r1,q1⟩=>?_;obtain ⟨i,rfl,q⟩:=q1;obtain ⟨t,rfl⟩:=r1;exact ⟨some i,H1,I1,.int i t,q⟩
noncomputable def SlR (X:Cx) (r:V->Option Int->Option Int->Hp->VK->Prop):Prop :=
  ∀(pins:List (Addr × Obj)) (s:Shared) (σ:St) (H:Hp) (x:V) (v vl vu:Value) (lo hi:Option Int) (sl:Addr) (Q:VK),Inv X pins σ H s->RelV x v->s.heap.IsSliceOf sl vl vu .none->IsPart vl lo->IsPart vu hi->r x lo hi H Q ->
    ∃T id,typeLookup (.type T) "__getitem__" = pure (some (.builtin id))/\s.TypeIs v T/\wpAny (model X.prog X.w) X.A (getItem v (.ref sl)) (EP X pins σ Q) X.xe s
theorem SlR.or {r r' : V->Option Int->Option Int->Hp->VK->Prop} (h:SlR X r) (h' : SlR X r'):SlR X (fun x lo hi H Q=>r x lo hi H Q\/r' x lo hi H Q):=by
 intro pins s σ H x v vl vu lo hi sl Q I rx hs pl pu q;rcases q with q | q
 ·exact h pins s σ H x v vl vu lo hi sl Q I rx hs pl pu q
 ·exact h' pins s σ H x v vl vu lo hi sl Q I rx hs pl pu q
noncomputable def tSl (r:V->Option Int->Option Int->Hp->VK->Prop) (te:TE) (tl th:TO):TE:=fun σ H Q=>te σ H fun x H1=>tl σ H1 fun l H2=>th σ H2 fun u H3=>r x l u H3 Q
theorem zuj {r:V->Option Int->Option Int->Hp->VK->Prop} (hr:SlR X r) (he:PE X e te) (hl:PO X lo tl) (hu:PO X hi th):PE X (.Subscript e (.Slice lo hi none p2) pos) (tSl r te tl th):=by
 intro pins s σ H Q I h;refine Subscript_ (thn (he pins s σ H _ I h) fun v s1 ⟨x,H1,I1,r1,q1⟩=>?_);refine wpAny_Slice (thn (hl pins s1 σ H1 _ I1 q1) fun vl s2 ⟨l,H2,I2,pl,q2⟩=>thn (hu pins s2 σ H2 _ I2 q2) fun vu s3 ⟨u,H3,I3,pu,q3⟩=>?_);rw [evalPart_none];refine wpAny_pure ?_;have I4:Inv X pins σ H3 { s3 with heap:=s3.heap.push { cls:=.type "slice",data:=.fields #[vl,vu,.none] } }:=I3.kept (t':=s3.toks) fun b ob q=>Heap.get?_push_of_some _ q;obtain ⟨T,id,hT,ht,hg⟩:=hr pins { s3 with heap:=s3.heap.push { cls:=.type "slice",data:=.fields #[vl,vu,.none] } } σ H3 x v vl vu l u s3.heap.objs.size Q I4 r1 (Heap.IsSliceOf.new ..) pl pu q3;show wpAny (model X.prog X.w) X.A (subscriptTail e (.Slice lo hi none p2) v (.ref s3.heap.objs.size)) (EP X pins σ Q) X.xe { s3 with heap:=s3.heap.push { cls:=.type "slice",data:=.fields #[vl,vu,.none] } };exact tail_any (ops:=[.ref s3.heap.objs.size,v]) ht hT hg (by with_unfolding_all rfl)
noncomputable def cutV (xs:List V) (lo hi:Option Int):List V:=(xs.drop (HT.sIx xs.length 0 lo)).take (HT.sIx xs.length xs.length hi - HT.sIx xs.length 0 lo)
theorem zfd (xs:List V) (lo hi:Option Int):(cutV xs lo hi).length<=xs.length:=by
 unfold cutV;rw [List.length_take,List.length_drop];omega
noncomputable def rSlT (K:PySem.W.Frag):V->Option Int->Option Int->Hp->VK->Prop:=fun x lo hi H Q=>∃a xs,x=.ref a/\SqT K H a xs /\
 ¬ (HT.sIx xs.length 0 lo=0/\HT.sIx xs.length xs.length hi=xs.length)/\∀p,H p=none->Q (.ref p) (upd H p (.tup (cutV xs lo hi)))
theorem z1j:SlR X (rSlT X.K):=by
 intro pins s σ H x v vl vu lo hi sl Q I rx hs pl pu h;obtain ⟨a,xs,rfl,hx,hw,q⟩:=h;cases rx;obtain ⟨its,r,ht,hz⟩:=I.tuple hx;have hlen:its.toArray.size=xs.length:=by rw [List.size_toArray];exact r.length.symm
 refine ⟨"tuple",_,PyProof.Rows.slot_tuple_getitem.lookup,ht.typeIs,?_⟩;refine HT.getItem_tuple_cut ht hs pl pu (by rw [hlen];exact hw) ?_ (by rw [hlen];exact hz);rw [hlen];refine ⟨.ref s.heap.objs.size,_,I.laid (t':=s.toks) (o:=.tup (cutV xs lo hi)) (fun b ob q=>Heap.get?_push_of_some _ q) (Nat.le_refl _) ?_,rfl,q _ (I.hok.fresh (Nat.le_refl _))⟩;exact ⟨Nat.le_trans (zfd xs lo hi) hz,_,(r.drop (HT.sIx xs.length 0 lo)).take (HT.sIx xs.length xs.length hi - HT.sIx xs.length 0 lo),IsTup.new _ _⟩
noncomputable def z1s (K:PySem.W.Frag):R2:=fun x y H Q=>∃a b xs ys,x=.ref a/\y=.ref b/\SqT K H a xs/\SqT K H b ys/\xs≠[]/\xs.length+ys.length<=sizeLine /\
 (ys=[]->Q (.ref a) H)/\(ys≠[]->∀p,H p=none->Q (.ref p) (upd H p (.tup (xs++ys))))
theorem Vals.nil_iff {xs:List V}{us:List Value} (r:Vals xs us):us=[]↔xs=[]:=by
 cases r with
 | nil=>simp
 | cons _ _=>simp
theorem zvv:OpR X (binaryOp .Add) (z1s X.K):=by
 intro pins s σ H x y v u Q I rx ry h;obtain ⟨a,b,xs,ys,rfl,rfl,ha,hb,hx,hz,q1,q2⟩:=h;cases rx;cases ry;obtain ⟨its,r1,p1,_⟩:=I.tuple ha;obtain ⟨its2,r2,p2,_⟩:=I.tuple hb;refine HT.cat_tup p1 p2 (fun z=>hx (r1.nil_iff.mp z)) (fun z=>⟨.ref a,H,I,rfl,q1 (r2.nil_iff.mp z)⟩) (fun z=>?_) (by rw [<-r1.length,<-r2.length];exact hz);refine ⟨.ref s.heap.objs.size,_,I.laid (t':=s.toks) (o:=.tup (xs++ys)) (fun b ob q=>Heap.get?_push_of_some _ q) (Nat.le_refl _) ?_,rfl,q2 (fun w=>z (r2.nil_iff.mpr w)) _ (I.hok.fresh (Nat.le_refl _))⟩;exact ⟨by rw [List.length_append];exact hz,_,r1.append r2,IsTup.new _ _⟩
end
end L2
namespace L2
open PySem PySem.Spec PyProof.Rows
noncomputable def ixN (n:Nat) (i:Int):Option Nat:=if 0<=i then (if i < n then some i.toNat else none) else if -(n:Int)<=i then some (i+n).toNat else none
noncomputable def atI {α:Type} (xs:List α) (i:Int):Option α:=(ixN xs.length i).bind fun j=>xs[j]?
theorem zp1 {n:Nat}{i:Int}{j:Nat} (h:ixN n i=some j):seqIndex? i n=some j/\j < n/\-(n:Int)<=i/\i < n:=by
 unfold ixN at h;by_cases h0:0<=i
 ·rw [if_pos h0] at h;by_cases h1:i < n
  ·rw [if_pos h1] at h;have e:i.toNat=j:=sI h;exact ⟨by rw [seqIndex_of h0 h1,e],by omega,by omega,h1⟩
  ·rw [if_neg h1] at h;cases h
 ·rw [if_neg h0] at h;by_cases h1:-(n:Int)<=i
  ·rw [if_pos h1] at h;have e:(i+n).toNat=j:=sI h;exact ⟨by rw [seqIndex_neg (by omega) h1,e],by omega,h1,by omega⟩
  ·rw [if_neg h1] at h;cases h
theorem zlb {α:Type}{xs:List α}{i:Int}{v:α} (h:atI xs i=some v):∃j,seqIndex? i xs.length=some j/\xs[j]?=some v/\j < xs.length/\-(xs.length:Int)<=i/\i < xs.length:=by
  unfold atI at h;cases e:ixN xs.length i with
  | none=>rw [e] at h;cases h
  | some j =>
    rw [e] at h;obtain ⟨h1,h2,h3,h4⟩:=zp1 e;exact ⟨j,h1,h,h2,h3,h4⟩
theorem zyk {α:Type}{xs:List α}{j:Nat}{v:α} (h:xs[j]?=some v):atI xs (j:Int)=some v:=by
 have hj:j < xs.length:=(List.getElem?_eq_some_iff.mp h).1;have e:ixN xs.length (j:Int)=some j:=by
  unfold ixN;rw [if_pos (by omega),if_pos (by omega)];simp
 unfold atI;rw [e];exact h
noncomputable def zq4 (b:Expr):Prop:=∀o i,subscripted b false o i=operate [o,i] (getItem o i)
noncomputable def IxR (X:Cx) (r:R2):Prop :=
  ∀(value slice:Expr) (pins:List (Addr × Obj)) (s:Shared) (σ:St) (H:Hp) (x y:V) (v u:Value) (Q:VK),Inv X pins σ H s->RelV x v->RelV y u->r x y H Q ->
    subscripted slice false v u=operate [v,u] (getItem v u)->wpAny (model X.prog X.w) X.A (subscriptTail value slice v u) (EP X pins σ Q) X.xe s
noncomputable def MtR (X:Cx) (id:String) (r:V->List V->Hp->VK->Prop):Prop :=
  ∀(pins:List (Addr × Obj)) (s:Shared) (σ:St) (H:Hp) (x:V) (xs:List V) (v:Value) (us:List Value) (Q:VK),Inv X pins σ H s->RelV x v->Vals xs us->r x xs H Q ->
    wpAny (model X.prog X.w) X.A (call (.builtin id) (v::us)) (EP X pins σ Q) X.xe s
section
variable {X:Cx}{a b:Expr}{ta tb:TE}{pos:Pos}
theorem IxR.or {r r' : R2} (h:IxR X r) (h' : IxR X r'):IxR X (fun x y H Q=>r x y H Q\/r' x y H Q):=by
 intro value slice pins s σ H x y v u Q I rx ry q hs;rcases q with q | q
 ·exact h value slice pins s σ H x y v u Q I rx ry q hs
 ·exact h' value slice pins s σ H x y v u Q I rx ry q hs
theorem z1g {r:R2} (hr:IxR X r) (ha:PE X a ta) (hb:PE X b tb) (hs:zq4 b):PE X (.Subscript a b pos) (tOp r ta tb):=by
 intro pins s σ H Q I h;exact Subscript_ (binT ha hb I h fun v u s2 x y H2 I2 rx ry q=>hr a b pins s2 σ H2 x y v u Q I2 rx ry q (hs _ _))
noncomputable def rIxL (K:PySem.W.Frag):R2:=fun x y H Q=>∃p xs i v,x=.ref p/\y=.int i/\SqL K H p xs/\atI xs i=some v/\Q v H
noncomputable def rIxT (K:PySem.W.Frag):R2:=fun x y H Q=>∃p xs i v,x=.ref p/\y=.int i/\SqT K H p xs/\atI xs i=some v/\Q v H
noncomputable def rIxS:R2:=fun x y H Q=>∃z i c,x=.str z/\y=.int i/\z.length<=sizeLine/\atI z.cps.toList i=some c/\Q (.str ⟨#[c]⟩) H
theorem zxl:IxR X (rIxL X.K):=by
 intro value slice pins s σ H x y v u Q I rx ry h hs;obtain ⟨p,xs,i,z,rfl,rfl,hq,he,q⟩:=h;cases rx;obtain ⟨t,rfl⟩:=ry;obtain ⟨its,r,pl,hz⟩:=I.list hq;obtain ⟨j,h1,h2,h3,h4,h5⟩:=zlb he;obtain ⟨w,ew,rw'⟩:=r.get h2;have hl:=r.length;have hn:=zgc;have fin:EP X pins σ Q w s:=⟨z,H,I,rw',q⟩;by_cases h0:0<=i
 ·have hj:i.toNat=j:=by
   rw [seqIndex_of h0 h5] at h1;exact sI h1
  exact item_listR pl.isList h0 (by omega) (by rw [hj];simpa using ew) fin hs
 ·have hj:(i+(its.toArray.size:Int)).toNat=j:=by
   rw [seqIndex_neg (by omega) h4] at h1;rw [List.size_toArray,<-hl];exact sI h1
  exact subscriptTail_builtinR (x:=w) pl.isList.typeIs slot_list_getitem.lookup
   (wpAny_getItem_list_neg (Q:=fun r s'=>r=w/\EP X pins σ Q r s') pl.isList (by omega) (by rw [List.size_toArray]<;>omega) (by omega) (by rw [hj];simpa using ew) ⟨rfl,fin⟩) hs
theorem z1f:IxR X (rIxT X.K):=by
 intro value slice pins s σ H x y v u Q I rx ry h hs;obtain ⟨p,xs,i,z,rfl,rfl,hq,he,q⟩:=h;cases rx;obtain ⟨t,rfl⟩:=ry;obtain ⟨its,r,pl,hz⟩:=I.tuple hq;obtain ⟨j,h1,h2,h3,h4,h5⟩:=zlb he;obtain ⟨w,ew,rw'⟩:=r.get h2;have hl:=r.length;have hn:=zgc;have fin:EP X pins σ Q w s:=⟨z,H,I,rw',q⟩;exact subscriptTail_builtinR (x:=w) pl.typeIs slot_tuple_getitem.lookup
  (getItem_tuple (j:=j) (Q:=fun r s'=>r=w/\EP X pins σ Q r s') pl (by omega) (by omega) (by rw [List.size_toArray,<-hl];exact h1) (by simpa using ew) ⟨rfl,fin⟩) hs
theorem z2s:IxR X rIxS:=by
 intro value slice pins s σ H x y v u Q I rx ry h hs;obtain ⟨z,i,c,rfl,rfl,hz,he,q⟩:=h;obtain ⟨t,rfl⟩:=rx;obtain ⟨t',rfl⟩:=ry;obtain ⟨j,h1,h2,h3,h4,h5⟩:=zlb he;have hl:z.cps.toList.length=z.length:=by simp [Str.length]
 rw [hl] at h1 h4 h5;have hn:=zgc;exact tail_any (typeIs_str s z t) slot_str_getitem.lookup (getItem_str (c:=c) (by
  have e1:decide (i < -(2 ^ 63:Int))=false:=decide_eq_false (by omega);have e2:decide (i ≥ 2 ^ 63)=false:=decide_eq_false (by omega);rw [e1,e2,Bool.or_false]) (by rw [h1];simpa using h2) ⟨.str ⟨#[c]⟩,H,I.tok _,⟨_,rfl⟩,q⟩) hs
theorem znw (its:List Value) (n j:Nat) (u:Value):Obj.mapSeq (·.setIfInBounds j u) { cls:=.type "list",data:=.seq its.toArray n }={ cls:=.type "list",data:=.seq (its.set j u).toArray n }:=by
 simp [Obj.mapSeq]
theorem Inv.lst {pins:List (Addr × Obj)}{σ:St}{H:Hp}{s:Shared}{p:Addr}{xs:List V} (I:Inv X pins σ H s) (h:H p=some (.lst xs)) :
  ∃(its:List Value) (n:Nat),Vals xs its/\s.heap.get? p=some { cls:=.type "list",data:=.seq its.toArray n }/\xs.length<=sizeLine:=by
 obtain ⟨z,its,n,r,e⟩:=I.hok p _ h;exact ⟨its,n,r,e,z⟩
theorem Inv.lstUpd {pins:List (Addr × Obj)}{σ:St}{H:Hp}{s:Shared}{p:Addr}{xs ys:List V}{its its' : List Value}{n n' : Nat}{f:Obj->Obj} (I:Inv X pins σ H s) (h:H p=some (.lst xs))
  (ho:s.heap.get? p=some { cls:=.type "list",data:=.seq its.toArray n }) (hf:f { cls:=.type "list",data:=.seq its.toArray n }={ cls:=.type "list",data:=.seq its'.toArray n' }) (r:Vals ys its') (hz:ys.length<=sizeLine) (t:Nat) :
  Inv X pins σ (upd H p (.lst ys)) { s with heap:=s.heap.update p f,toks:=t }:=by
 have e:(s.heap.update p f).get? p=some { cls:=.type "list",data:=.seq its'.toArray n' }:=by
  rw [Heap.get?_update_self f ho (by rw [hf]<;>rfl),hf]
 refine I.write (x:=p) (e:=p) (by rw [h];trivial) (.inl rfl) (fun b u hb q=>(Heap.get?_update_other _ _ (Ne.symm hb)).trans q) ⟨_,e⟩ ?_;exact ⟨hz,its',n',r,e⟩
noncomputable def z1c:V->V->V->Hp->(Hp->Prop)->Prop:=fun o i v H Q=>∃p xs k j,o=.ref p/\i=.int k/\H p=some (.lst xs)/\ixN xs.length k=some j/\Q (upd H p (.lst (xs.set j v)))
theorem zte:PSet X z1c:=by
 intro pins s σ H o i v ov iv u Q I ro ri rv h;obtain ⟨p,xs,k,j,rfl,rfl,hp,hj,q⟩:=h;cases ro;obtain ⟨t,rfl⟩:=ri;obtain ⟨its,n,r,ho,hz⟩:=I.lst hp;obtain ⟨h1,h2,h3,h4⟩:=zp1 hj;have hl:=r.length;have hn:=zgc;have I' : Inv X pins σ (upd H p (.lst (xs.set j v))) { s with heap:=s.heap.update p (Obj.mapSeq (·.setIfInBounds j u)) } :=
  I.lstUpd hp ho (znw its n j u) (r.set rv j) (by rw [List.length_set];exact hz) s.toks
 by_cases h0:0<=k
 ·have hk:k.toNat=j:=by
   rw [seqIndex_of h0 h4] at h1;exact sI h1
  exact PySem.W.ki_setAt ho h0 (by omega) (by rw [List.size_toArray,<-hl];exact h4) (by rw [hk];exact ⟨_,I',q⟩)
 ·have hk:(k+(its.toArray.size:Int)).toNat=j:=by
   rw [seqIndex_neg (by omega) h3] at h1;rw [List.size_toArray,<-hl];exact sI h1
  exact PySem.W.ki_setBack ho (by omega) (by rw [List.size_toArray,<-hl];exact h3) (by omega) (by rw [hk];exact ⟨_,I',q⟩)
theorem zh9 (lo hi:Option Int) (n:Nat):(sliceBounds lo hi none n).1=((HT.sIx n 0 lo:Nat):Int)/\(sliceBounds lo hi none n).2.1=((HT.sIx n n hi:Nat):Int)/\(sliceBounds lo hi none n).2.2=1:=by
  refine ⟨?_,?_,rfl⟩
  · cases lo with
    | none=>simp [sliceBounds,HT.sIx]
    | some i =>
      simp only [sliceBounds,HT.sIx,Option.getD_none,show (1:Int) > 0 by decide,if_true];by_cases h:i < 0
      · simp only [h,if_true]<;>omega
      · simp only [h,if_false]<;>omega
  · cases hi with
    | none=>simp [sliceBounds,HT.sIx]
    | some i =>
      simp only [sliceBounds,HT.sIx,Option.getD_none,show (1:Int) > 0 by decide,if_true];by_cases h:i < 0
      · simp only [h,if_true]<;>omega
      · simp only [h,if_false]<;>omega
theorem zha (its:List Value) (lo hi:Option Int):slicePick its.toArray lo hi none=((its.drop (HT.sIx its.length 0 lo)).take (HT.sIx its.length its.length hi - HT.sIx its.length 0 lo)).toArray:=by
 obtain ⟨h1,h2,h3⟩:=zh9 lo hi its.toArray.size;unfold slicePick;rw [h1,h2,h3];simp only [sliceRange_one,pick_run,List.size_toArray]<;>rfl
noncomputable def rSlL (K:PySem.W.Frag):V->Option Int->Option Int->Hp->VK->Prop:=fun x lo hi H Q=>∃a xs,x=.ref a/\SqL K H a xs/\∀p,H p=none->Q (.ref p) (upd H p (.lst (cutV xs lo hi)))
theorem zyj:SlR X (rSlL X.K):=by
 intro pins s σ H x v vl vu lo hi sl Q I rx hs pl pu h;obtain ⟨a,xs,rfl,hx,q⟩:=h;cases rx;obtain ⟨its,r,ht,hz⟩:=I.list hx;have hlen:=r.length;refine ⟨"list",_,slot_list_getitem.lookup,ht.isList.typeIs,?_⟩;refine wpAny_getItem_list_slice ht.isList hs pl pu .none (by simp) ?_ (by rw [List.size_toArray]<;>omega);rw [zha,<-hlen];refine ⟨.ref s.heap.objs.size,_,I.laid (t':=s.toks) (o:=.lst (cutV xs lo hi)) (fun b ob q=>Heap.get?_push_of_some _ q) (Nat.le_refl _) ?_,rfl,q _ (I.hok.fresh (Nat.le_refl _))⟩;exact ⟨Nat.le_trans (zfd xs lo hi) hz,_,0,(r.drop (HT.sIx xs.length 0 lo)).take (HT.sIx xs.length xs.length hi - HT.sIx xs.length 0 lo),Heap.get?_push_size _ rfl⟩
noncomputable def zfv:V->Bool
 | .non=>true
 | .bl _=>true
 | .int _=>true
 | .str _=>true
 | _=>false
noncomputable def eqV:V->V->Bool
 | .non,.non=>true
 | .bl a,.bl b=>a == b
 | .bl a,.int b=>(if a then 1 else 0) == b
 | .int a,.bl b=>a == (if b then 1 else 0)
 | .int a,.int b=>a == b
 | .str a,.str b=>a == b
 | _,_=>false
theorem z0x {A:Around}{s:Shared}{y x:V}{u v:Value} (ry:RelV y u) (rx:RelV x v) (fy:zfv y=true) (fx:zfv x=true):SeqAt.EqAt A s u v (eqV y x):=by
  cases y with
  | non =>
    cases ry;cases x with
    | non=>cases rx;exact SeqAt.EqAt.same _
    | bl b=>cases rx;exact SeqAt.EqAt.none_bool b
    | int b=>obtain ⟨t,rfl⟩:=rx;exact SeqAt.EqAt.none_int b t
    | str b=>obtain ⟨t,rfl⟩:=rx;exact SeqAt.EqAt.none_str b t
    | _=>exact absurd (show false=true from fx) Bool.false_ne_true
  | bl a =>
    cases ry;cases x with
    | non=>cases rx;exact SeqAt.EqAt.bool_none a
    | bl b=>cases rx;exact SeqAt.EqAt.bool_bool a b
    | int b=>obtain ⟨t,rfl⟩:=rx;exact SeqAt.EqAt.bool_int a b t
    | str b=>obtain ⟨t,rfl⟩:=rx;exact SeqAt.EqAt.bool_str a b t
    | _=>exact absurd (show false=true from fx) Bool.false_ne_true
  | int a =>
    obtain ⟨t',rfl⟩:=ry;cases x with
    | non=>cases rx;exact SeqAt.EqAt.int_none a t'
    | bl b=>cases rx;exact SeqAt.EqAt.int_bool a t' b
    | int b=>obtain ⟨t,rfl⟩:=rx;exact SeqAt.EqAt.int_int a t' b t
    | str b=>obtain ⟨t,rfl⟩:=rx;exact SeqAt.EqAt.int_str a t' b t
    | _=>exact absurd (show false=true from fx) Bool.false_ne_true
  | str a =>
    obtain ⟨t',rfl⟩:=ry;cases x with
    | non=>cases rx;exact SeqAt.EqAt.str_none a t'
    | bl b=>cases rx;exact SeqAt.EqAt.str_bool a t' b
    | int b=>obtain ⟨t,rfl⟩:=rx;exact SeqAt.EqAt.str_int a t' b t
    | str b=>obtain ⟨t,rfl⟩:=rx;exact SeqAt.EqAt.str_str a t' b t
    | _=>exact absurd (show false=true from fx) Bool.false_ne_true
  | _=>exact absurd (show false=true from fy) Bool.false_ne_true
noncomputable def eqU (x:V) (u:Value):Bool:=match u with
 | .none=>eqV .non x
 | .bool b=>eqV (.bl b) x
 | .int i _=>eqV (.int i) x
 | .str z _=>eqV (.str z) x
 | _=>false
theorem zuz {x y:V}{u:Value} (r:RelV y u) (f:zfv y=true):eqU x u=eqV y x:=by
 cases y with
 | non=>cases r;rfl
 | bl b=>cases r;rfl
 | int i=>obtain ⟨t,rfl⟩:=r;rfl
 | str z=>obtain ⟨t,rfl⟩:=r;rfl
 | _=>exact absurd (show false=true from f) Bool.false_ne_true
theorem zfc {x:V}:∀{xs:List V}{us:List Value},Vals xs us->xs.all zfv=true->us.any (eqU x)=xs.any fun y=>eqV y x
  | _,_,.nil,_=>rfl
  | y::xs,u::us,.cons r t,f=>by
    rw [List.all_cons,Bool.and_eq_true] at f;rw [List.any_cons,List.any_cons,zuz r f.1,zfc t f.2]
theorem zdo {A:Around}{s:Shared}{x:V}{v:Value} (rx:RelV x v) (fx:zfv x=true):∀{xs:List V}{us:List Value},Vals xs us->xs.all zfv=true->∀u∈us,SeqAt.EqAt A s u v (eqU x u)
  | _,_,.nil,_=>fun u hu=>by cases hu
  | y::xs,u::us,.cons r t,f=>fun u' hu=>by
    rw [List.all_cons,Bool.and_eq_true] at f;rcases List.mem_cons.mp hu with rfl | hu
    · rw [zuz r f.1];exact z0x r rx f.1 fx
    · exact zdo rx fx t f.2 u' hu
noncomputable def inV (x:V) (xs:List V):Bool:=xs.any fun y=>eqV y x
noncomputable def rIn (K:PySem.W.Frag) (neg:Bool):R2:=fun x y H Q=>∃p xs,y=.ref p/\(SqL K H p xs\/SqT K H p xs)/\zfv x=true/\xs.all zfv=true/\Q (.bl (if neg then !inV x xs else inV x xs)) H
theorem zhq:OpR X (compareOp .In) (rIn X.K false):=by
 intro pins s σ H x y v u Q I rx ry h;obtain ⟨p,xs,rfl,hq,fx,fs,q⟩:=h;cases ry;rcases hq with hq | hq
 ·obtain ⟨its, r, pl, hz⟩ := I.list hq;refine SeqAt.in_listAt (eqU x) pl.isList (fun w hw=>zdo rx fx r fs w (by simpa using hw)) ⟨.bl _,H,I,rfl,?_⟩;rw [show its.toArray.any (eqU x)=its.any (eqU x) by simp,zfc r fs];exact q
 ·obtain ⟨its, r, pl, hz⟩ := I.tuple hq;refine SeqAt.in_tupleAt (eqU x) pl (fun w hw=>zdo rx fx r fs w (by simpa using hw)) ⟨.bl _,H,I,rfl,?_⟩;rw [show its.toArray.any (eqU x)=its.any (eqU x) by simp,zfc r fs];exact q
theorem zej:OpR X (compareOp .NotIn) (rIn X.K true):=by
 intro pins s σ H x y v u Q I rx ry h;obtain ⟨p,xs,rfl,hq,fx,fs,q⟩:=h;cases ry;rcases hq with hq | hq
 ·obtain ⟨its, r, pl, hz⟩ := I.list hq;refine SeqAt.notIn_listAt (eqU x) pl.isList (fun w hw=>zdo rx fx r fs w (by simpa using hw)) ⟨.bl _,H,I,rfl,?_⟩;rw [show its.toArray.any (eqU x)=its.any (eqU x) by simp,zfc r fs];exact q
 ·obtain ⟨its, r, pl, hz⟩ := I.tuple hq;refine SeqAt.notIn_tupleAt (eqU x) pl (fun w hw=>zdo rx fx r fs w (by simpa using hw)) ⟨.bl _,H,I,rfl,?_⟩;rw [show its.toArray.any (eqU x)=its.any (eqU x) by simp,zfc r fs];exact q
theorem zeb:zbj X (.builtin "len") (fun xs H Q=>∃p ys,xs=[.ref p]/\(SqL X.K H p ys\/SqT X.K H p ys)/\Q (.int ys.length) H):=by
 intro pins s σ H xs us Q I r h;obtain ⟨p,ys,rfl,hq,q⟩:=h;obtain ⟨u,rfl,rx⟩:=vals1 r;cases rx;have hn:=zgc;rcases hq with hq | hq
 ·obtain ⟨its, r', pl, hz⟩ := I.list hq;have hlen:=r'.length;exact Calls.call_len_list pl.isList (by simp only [List.size_toArray]<;>omega) ⟨.int ys.length,H,I.tok _,⟨s.toks+1,by rw [List.size_toArray,hlen]⟩,q⟩
 ·obtain ⟨its, r', pl, hz⟩ := I.tuple hq;have hlen:=r'.length;exact len_tuple pl (by simp only [List.size_toArray]<;>omega) ⟨.int ys.length,H,I.tok _,⟨s.toks+1,by rw [List.size_toArray,hlen]⟩,q⟩
theorem ziq:zbj X (.builtin "len") (fun xs H Q=>∃z,xs=[.str z]/\z.length<=sizeLine/\Q (.int z.length) H):=by
 intro pins s σ H xs us Q I r h;obtain ⟨z,rfl,hz,q⟩:=h;obtain ⟨u,rfl,t,rfl⟩:=vals1 r;have hn:=zgc;exact len_str (by omega) ⟨.int z.length,H,I.tok _,⟨_,rfl⟩,q⟩
theorem zbj.or {f:Value}{r r' : List V->Hp->VK->Prop} (h:zbj X f r) (h' : zbj X f r'):zbj X f (fun xs H Q=>r xs H Q\/r' xs H Q):=by
 intro pins s σ H xs us Q I rs q;rcases q with q | q
 ·exact h pins s σ H xs us Q I rs q
 ·exact h' pins s σ H xs us Q I rs q
theorem zgl:zbj X (.type "tuple") (fun xs H Q=>∃p ys,xs=[.ref p]/\((SqL X.K H p ys/\∀l,H l=none->Q (.ref l) (upd H l (.tup ys)))\/(SqT X.K H p ys/\Q (.ref p) H))):=by
 intro pins s σ H xs us Q I r h;obtain ⟨p,ys,rfl,h⟩:=h;obtain ⟨u,rfl,rx⟩:=vals1 r;cases rx;rcases h with ⟨hq,q⟩ | ⟨hq,q⟩
 ·obtain ⟨its, r', pl, hz⟩ := I.list hq;have hlen:=r'.length;refine call_tuple_list pl.isList (fun h' kp=>?_) (by simp only [List.size_toArray]<;>omega);have I1:Inv X pins σ H { s with heap:=h' }:=I.kept (t':=s.toks) kp;have I2:Inv X pins σ (upd H h'.objs.size (.tup ys)) { s with heap:=h'.push { cls:=.type "tuple",data:=.seq its.toArray } } :=
   I1.laid (t':=s.toks) (fun b o e=>Heap.get?_push_of_some _ e) (Nat.le_refl _) (show zbt X.prog X.w _ _ _ (.tup ys) from ⟨hz,its,r',IsTup.new _ _⟩)
  exact ⟨.ref h'.objs.size,_,I2,rfl,q _ (I1.hok.fresh (Nat.le_refl _))⟩
 ·obtain ⟨its, r', pl, hz⟩ := I.tuple hq;exact call_tuple_same pl ⟨.ref p,H,I,rfl,q⟩
noncomputable def tyV (K:PySem.W.Frag) (T:String) (x:V) (H:Hp):Prop:=match x with
 | .str _=>T = "str"
 | .int _=>T = "int"
 | .ref p=>(T = "list"/\∃xs,SqL K H p xs)\/(T = "tuple"/\∃o,K.lookup p=some o/\o.cls=.type "tuple"/\o.dict=none) \/
   (T = "dict"/\((∃kvs,H p=some (.dK kvs))\/∃kvs,H p=some (.dT kvs)))\/(T = "set"/\∃S n,H p=some (.set S n))
 | _=>False
theorem z0k {pins:List (Addr × Obj)}{σ:St}{H:Hp}{s:Shared}{T:String}{x:V}{v:Value} (I:Inv X pins σ H s) (r:RelV x v) (ty:tyV X.K T x H) :
    s.TypeIs v T/\∀a,v=.ref a->∃ob,s.heap.get? a=some ob/\ob.dict=none:=by
  cases x with
  | str z =>
    obtain ⟨t,rfl⟩:=r;cases (show T = "str" from ty);exact ⟨typeIs_str s z t,fun _ e=>nomatch e⟩
  | int i =>
    obtain ⟨t,rfl⟩:=r;cases (show T = "int" from ty);exact ⟨typeIs_int s i t,fun _ e=>nomatch e⟩
  | ref p =>
    cases r;rcases ty with ⟨rfl,xs,hq⟩ | ⟨rfl,o,hk,hc,hd⟩ | ⟨rfl,hk⟩ | ⟨rfl,S,n,hk⟩
    · obtain ⟨its, _, pl, _⟩ := I.list hq
      refine ⟨pl.isList.typeIs,fun a e=>?_⟩;cases e;obtain ⟨o,n,e,c,hd,_⟩:=pl;exact ⟨o,e,hd⟩
    · refine ⟨⟨o, I.kIn p o hk, hc⟩, fun a e => ?_⟩
      cases e;exact ⟨o,I.kIn _ o hk,hd⟩
    · have z:∃o,s.heap.get? p=some o/\o.ExactDict:=by
        rcases hk with ⟨kvs,hk⟩ | ⟨kvs,hk⟩
        · obtain ⟨_, _, _, _, o, _, _, e, ex, _⟩ := I.hok p _ hk
          exact ⟨o,e,ex⟩
        · obtain ⟨_, _, _, _, o, _, _, e, ex, _⟩ := I.hok p _ hk
          exact ⟨o,e,ex⟩
      obtain ⟨o,e,ex⟩:=z;refine ⟨⟨o,e,ex.1⟩,fun a e2=>?_⟩;cases e2;exact ⟨o,e,ex.2.1⟩
    · obtain ⟨o, _, _, _, e, ex, _⟩ := I.hok p _ hk
      refine ⟨⟨o,e,ex.1⟩,fun a e2=>?_⟩;cases e2;exact ⟨o,e,ex.2.1⟩
  | _=>exact False.elim ty
noncomputable def tBM (K:PySem.W.Frag) (T:String) (r:V->List V->Hp->VK->Prop) (to:TE) (t:TA):TE:=fun σ H Q=>to σ H fun x H1=>tyV K T x H1/\t σ H1 fun xs H2=>r x xs H2 Q
variable {o e:Expr}{es:List Expr}{to:TE}{t:TA}{name:Str}{apos cpos:Pos}{T id:String}{r:V->List V->Hp->VK->Prop}
theorem z27 (pa:PlainAttrs T) (slot:Slot T name id) (hty:typeOf (.builtin id)=pure (.type "method_descriptor")) (hm:MtR X id r) (ho:PE X o to) (ha:PA X (e::es) t)
  (hbase:attributeBase o name X.env (eval o X.env)=eval o X.env:=by rfl)
  (hfew:((backTo cpos (starEach (e::es) X.env)).all (fun x=>!x.1) && (backToKw cpos (keywordEach [] X.env)).all (fun x=>x.1.isSome)
   && decide ((e::es).length+([]:List Keyword).length+(if ([]:List Keyword).isEmpty then 0 else 1) < 30))=true:=by rfl)
  (hline:(apos.endLine == cpos.line)=true:=by rfl) (hs:starEach (e::es) X.env=(false,eval e X.env)::starEach es X.env:=by rfl) (hplain:(backTo cpos (starEach es X.env)).any (·.1)=false:=by rfl) :
  PE X (.Call (.Attribute o name apos) (e::es) [] cpos) (tBM X.K T r to t):=by
 intro pins s σ H Q I h;refine wpAny_Call_method_late hbase hfew hline rfl (thn (ho pins s σ H _ I h) fun v s1 ⟨x,H1,I1,r1,ty,q1⟩=>?_);obtain ⟨h1,h2⟩:=z0k I1 r1 ty;refine ⟨T,id,pa,slot,hty,h1,h2,?_⟩;have hA:=ha cpos pins s1 σ H1 _ I1 q1;rw [hs] at hA ⊢;refine Calls.callWith_builtin (by show (false || (backTo cpos (starEach es X.env)).any (·.1))=false;rw [hplain]<;>rfl) (Calls.evalArgs_plain ?_);exact thn hA fun us s2 ⟨vs,H2,I2,r2,q2⟩=>hm pins s2 σ H2 x vs v us Q I2 r1 r2 q2
end
end L2
namespace L2
open PySem PySem.Spec PyProof.Rows
noncomputable def MtM (X:Cx) (id:String) (r:V->List V->Hp->VK->Prop):Prop :=
  ∀(pins:List (Addr × Obj)) (s:Shared) (σ:St) (H:Hp) (x:V) (xs:List V) (v:Value) (us:List Value) (Q:VK),Inv X pins σ H s->RelV x v->Vals xs us->r x xs H Q ->
    wpAny (model X.prog X.w) X.A (call (.builtin id) (v::us)) (EP X pins σ Q) X.xe s
theorem Vals.one:∀{x:V}{us:List Value},Vals [x] us->∃u,us=[u]/\RelV x u
 | _,_,.cons r .nil=>⟨_,rfl,r⟩
theorem Vals.rep {xs:List V}{us:List Value} (h:Vals xs us):∀k:Nat,Vals (List.replicate k xs).flatten (List.replicate k us).flatten
  | 0=>.nil
  | k+1=>by
    rw [List.replicate_succ,List.replicate_succ,List.flatten_cons,List.flatten_cons];exact Vals.append h (Vals.rep h k)
theorem zjj (its:List Value):∀(k:Nat) (acc:List Value),
    List.foldl (fun x1 x2=>x1++x2) acc.toArray (List.replicate k its.toArray)=(acc++(List.replicate k its).flatten).toArray
  | 0,acc=>by simp
  | k+1,acc=>by
    have e:acc.toArray++its.toArray=(acc++its).toArray:=by simp
    have e2:(acc++its)++(List.replicate k its).flatten=acc++(List.replicate (k+1) its).flatten:=by
      rw [List.replicate_succ,List.flatten_cons,List.append_assoc]
    rw [<-e2,<-zjj its k (acc++its),<-e,List.replicate_succ,List.foldl_cons]
section
variable {X:Cx}{pins:List (Addr × Obj)}{σ:St}{H:Hp}{s:Shared}{l b:Addr}{xs ys zs:List V}
theorem Inv.lset {its its' : List Value}{n:Nat}{f:Array Value->Array Value}{t' : Nat} (I:Inv X pins σ H s) (hH:H l=some (.lst xs))
  (e:s.heap.get? l=some { cls:=.type "list",data:=.seq its.toArray n }) (hf:f its.toArray=its'.toArray) (hv:Vals ys its') (hz:ys.length<=sizeLine) :
  Inv X pins σ (upd H l (.lst ys)) { s with heap:=s.heap.update l (Obj.mapSeq f),toks:=t' }:=by
 have q:=PySem.IsL.update e f;rw [hf] at q;refine I.write (x:=l) (e:=l) (by rw [hH];exact trivial) (.inl rfl) (fun b' u hb hu=>(Heap.get?_update_other s.heap (Obj.mapSeq f) (Ne.symm hb)).trans hu) ⟨_,q⟩ ?_;exact ⟨hz,its',_,hv,q⟩
theorem Inv.lnew {its:List Value}{t' : Nat} (I:Inv X pins σ H s) (hv:Vals ys its) (hz:ys.length<=sizeLine) :
  Inv X pins σ (upd H s.heap.objs.size (.lst ys)) { s with heap:=s.heap.push { cls:=.type "list",data:=.seq its.toArray },toks:=t' } :=
 I.laid (fun _ _ q=>Heap.get?_push_of_some _ q) (Nat.le_refl _) ⟨hz,its,0,hv,Heap.get?_push_size _ rfl⟩
theorem Inv.fresh (I:Inv X pins σ H s):H s.heap.objs.size=none:=I.hok.fresh (Nat.le_refl _)
theorem Inv.lstM (I:Inv X pins σ H s) (hH:H l=some (.lst xs)):xs.length<=sizeLine/\∃(its:List Value) (n:Nat),Vals xs its/\xs.length=its.length/\s.heap.get? l=some { cls:=.type "list",data:=.seq its.toArray n }:=by
 obtain ⟨z,its,n,r,e⟩:=I.hok l _ hH;exact ⟨z,its,n,r,r.length,e⟩
theorem zlv {n:Nat} (h:n<=sizeLine):Builtin.List.listTooLong n=false:=by
 unfold Builtin.List.listTooLong;exact decide_eq_false (by omega)
end
section
variable {X:Cx}
noncomputable def zoi:V->List V->Hp->VK->Prop:=fun x vs H Q=>∃l xs y,x=.ref l/\vs=[y]/\H l=some (.lst xs)/\xs.length < sizeLine/\Q .non (upd H l (.lst (xs++[y])))
theorem zh5:MtM X "list.append" zoi:=by
 intro pins s σ H x vs v us Q I rx rv h;obtain ⟨l,xs,y,rfl,rfl,hH,hz,q⟩:=h;cases rx;obtain ⟨u,rfl,ru⟩:=rv.one;obtain ⟨z,its,n,r,hl,e⟩:=I.lstM hH;refine call_meets F.slot_list_append ⟨_,e,rfl⟩ F.entry_list_append (F.args_list_append_2 _ _) (PySem.list_append l its.toArray n u (by rw [List.size_toArray];omega)) ⟨e,?_⟩;refine ⟨.non,_,I.lset (its':=its++[u]) hH e (by simp) (r.append (.cons ru .nil)) ?_,rfl,q⟩;rw [List.length_append,List.length_singleton];omega
noncomputable def zxc:V->List V->Hp->VK->Prop:=fun x vs H Q=>∃l b xs zs,x=.ref l/\vs=[.ref b]/\H l=some (.lst xs)/\H b=some (.lst zs)/\xs.length+zs.length<=sizeLine/\Q .non (upd H l (.lst (xs++zs)))
theorem z0e:MtM X "list.extend" zxc:=by
 intro pins s σ H x vs v us Q I rx rv h;obtain ⟨l,b,xs,zs,rfl,rfl,hH,hB,hz,q⟩:=h;cases rx;obtain ⟨u,rfl,ru⟩:=rv.one;cases ru;obtain ⟨z,its,n,r,hl,e⟩:=I.lstM hH;obtain ⟨z2,its2,n2,r2,hl2,e2⟩:=I.lstM hB;have hsz:its.toArray.size+its2.toArray.size<=sizeLine:=by rw [List.size_toArray,List.size_toArray];omega
 have hlong:¬ (!its.toArray.isEmpty && Builtin.List.listTooLong (its.toArray.size+its2.toArray.size))=true:=by
  rw [zlv hsz,Bool.and_false];exact Bool.false_ne_true
 refine call_meets F.slot_list_extend ⟨_,e,rfl⟩ F.entry_list_extend (F.args_list_extend_2 _ _)
  (AutoSeq1.list_extend_list_list_0 l its.toArray n b its2.toArray n2 hlong (by rw [List.size_toArray];omega) (by omega)) ⟨e,e2,?_⟩
 refine ⟨.non,_,I.lset (its':=its++its2) hH e (by simp) (r.append r2) ?_,rfl,q⟩;rw [List.length_append];omega
noncomputable def rCat:R2:=fun x y H Q=>∃l b xs zs,x=.ref l/\y=.ref b/\H l=some (.lst xs)/\H b=some (.lst zs)/\xs.length+zs.length<=sizeLine/\∀p,H p=none->Q (.ref p) (upd H p (.lst (xs++zs)))
theorem z2o:OpR X (binaryOp .Add) rCat:=by
 intro pins s σ H x y v u Q I rx ry h;obtain ⟨l,b,xs,zs,rfl,rfl,hH,hB,hz,q⟩:=h;cases rx;cases ry;obtain ⟨z,its,n,r,hl,e⟩:=I.lstM hH;obtain ⟨z2,its2,n2,r2,hl2,e2⟩:=I.lstM hB;refine PySem.P.add_list e e2 ?_ (by rw [List.size_toArray,List.size_toArray];omega);have ea:its.toArray++its2.toArray=(its++its2).toArray:=by simp
 rw [ea];exact ⟨.ref _,_,I.lnew (t':=s.toks) (r.append r2) (by rw [List.length_append];omega),rfl,q _ I.fresh⟩
noncomputable def rRep:R2:=fun x y H Q=>∃l k xs,x=.ref l/\y=.int k/\H l=some (.lst xs)/\-(2 ^ 63)<=k/\k < 2 ^ 63/\xs.length * k.toNat<=sizeLine /\
 ∀p,H p=none->Q (.ref p) (upd H p (.lst (List.replicate k.toNat xs).flatten))
theorem zy4 {α:Type} (xs:List α) (k:Nat):(List.replicate k xs).flatten.length=k * xs.length:=by
 induction k with
 | zero=>simp
 | succ k ih=>rw [List.replicate_succ,List.flatten_cons,List.length_append,ih,Nat.succ_mul,Nat.add_comm]
theorem z2z:OpR X (binaryOp .Mult) rRep:=by
 intro pins s σ H x y v u Q I rx ry h;obtain ⟨l,k,xs,rfl,rfl,hH,h1,h2,hz,q⟩:=h;cases rx;obtain ⟨t,rfl⟩:=ry;obtain ⟨z,its,n,r,hl,e⟩:=I.lstM hH;have hlen:its.toArray.size * k.toNat<=sizeLine:=by rw [List.size_toArray,<-hl];exact hz
 have hcap:¬ its.toArray.size * k.toNat > (2 ^ 63 - 1) / 8:=by
  have:(sizeLine:Nat)<=(2 ^ 63 - 1) / 8:=by decide
  omega
 have hfit:¬ (!Builtin.List.listFitsIndex k)=true:=by
  rw [fitsIndex_both h1 h2];exact Bool.false_ne_true
 have hlong:¬ Builtin.List.listTooLong (its.toArray.size * k.toNat)=true:=by
  rw [zlv hlen];exact Bool.false_ne_true
 have hnew:List.foldl (fun x1 x2=>x1++x2) #[] (List.replicate (if its.toArray.isEmpty=true then 0 else k.toNat) its.toArray)=(List.replicate k.toNat its).flatten.toArray:=by
  have f0:∀m:Nat,List.foldl (fun x1 x2=>x1++x2) #[] (List.replicate m its.toArray)=(List.replicate m its).flatten.toArray:=fun m=>by
   have:=zjj its m [];rw [List.nil_append] at this;exact this
  rw [f0];cases its with
  | nil=>simp
  | cons a r'=>rw [if_neg (by simp)]
 refine wpAny_binaryOp_repeat_ref (T := "list") (U := "int") (by decide) ⟨_,e,rfl⟩ (fun s'=>typeIs_int s' k t) noFill_list_mul F.fills_int_mul F.slot_int_rmul repeat_list F.slot_int_index.lookup
  (call_meets F.slot_int_rmul (typeIs_int s k t) F.entry_int_rmul (F.args_int_rmul_2 _ _) (int___rmul___int_list k t l its.toArray n)
   ⟨e,rfl,⟨_,e,rfl⟩,call_meets F.slot_list_mul ⟨_,e,rfl⟩ F.entry_list_mul (F.args_list_mul_2 _ _) (AutoListH.list___mul___list_int_3 l its.toArray n k t hfit hcap hlong) ⟨e,?_⟩⟩)
 rw [hnew];exact ⟨.ref _,_,I.lnew (t':=s.toks) (r.rep k.toNat) (by rw [zy4,Nat.mul_comm];exact hz),rfl,q _ I.fresh⟩
end
section
variable {prog:Program}{w:World}{A:Around}{E:Value->Shared->Prop}{s:Shared}
end
section
variable {X:Cx}
end
end L2
namespace Att
open PySem PySem.W PySem.Calls PyProof.Rows
theorem zev {P:Params}{h:Heap}:∀(ns:List Int) (vs:List Value),WellAll P h vs (ns.map WData.int)->IntsAre vs ns:=by
  intro ns
  induction ns with
  | nil =>
    intro vs w;rw [List.map_nil] at w;cases w;exact .nil
  | cons n ns ih =>
    intro vs w;rw [List.map_cons] at w;cases w with
    | cons a b =>
      cases a;exact .cons _ _ (ih _ b)
theorem zn1 {l:OpenLaw}{n:Nat} (hn:l.most=some n) {P:Params}{h:Heap}{args:List WData}{vals:List Value}
    (hpre:l.row.toRowW.claim.pre args=true) (hwl:WellAll P h vals args) :
    ∃a vs ns,vals=[Value.ref a]/\args=[WData.list (ns.map WData.int)]/\h.get? a=some { cls:=.type "list",data:=.seq vs.toArray }/\IntsAre vs ns/\ns.length<=n:=by
  have hsh:WShape.hasAll [] args [.list .int]=true:=(pre_splitW hpre).1;have hc:l.pre.holds [] { args:=args }=true:=(pre_splitW hpre).2;obtain ⟨d,r,rfl,h1,h2⟩:=hasAllW_cons hsh;obtain rfl:=hasAllW_nil h2;obtain ⟨xs,rfl,h3⟩:=hasW_list h1;obtain ⟨ns,rfl⟩:=items_int h3;have hlen:ns.length<=n:=by
    unfold OpenLaw.pre at hc;have h4:(WTm.not (.lt (.lit (.int (n:Int))) (.len (.arg 0)))).holds [] { args:=[.list (ns.map .int)] }=true:=by
      have h4:=(holds_andW hc).1;rw [hn] at h4;exact h4
    have h5:=condW_of h4 (w_not (w_lt w_lit (w_len_list (w_arg rfl))));rw [List.length_map] at h5;refine Nat.le_of_not_lt fun q=>?_;have q' : (n:Int) < ((ns.length:Nat):Int):=by omega
    first
      | (rw [decide_eq_true q'] at h5;exact absurd h5 (by decide))
      | (simp at h5;omega)
  cases hwl with
  | cons w1 w2 =>
    cases w2;cases w1 with
    | list ho hall=>exact ⟨_,_,ns,rfl,rfl,ho,zev ns _ hall,hlen⟩
theorem zoe (l:OpenLaw) (args:List WData):l.row.toRowW.claim.post args (.bool true) args=true :=
 postW_of (r:=l.row.toRowW) (X:=(true == true))
  (show WShape.has [] (.bool true) .bool=true by first | rfl | decide | simp [WShape.has,WShape.arms,WShape.armsAll])
  (show (WTm.eq .res (.lit (.bool true))).value [] { args:=args,res:=some (.bool true),after:=args }=some (.bool (true == true)) from w_eq_bool (w_res rfl) w_lit) rfl
theorem attach_call {l:OpenLaw}{n:Nat}{q:Program}{loose:List Str}{XP:(Str->Option Value)->Heap->Prop}{YP:World->Heap->Prop}{d:DefRec}
  (hn:l.most=some n) (hdf:d.params.defaults=[])
  (call:∀(w:World) (s₀ s₁:Shared) (mg mb:Str->Option Value) (fa:Addr) (o:Obj) (pm cd doc:Value) (a:Addr) (vs:List Value) (ns:List Int),
   Ground q loose [] XP w s₀ mg mb s₁.heap->YP w s₁.heap ->
   s₁.heap.get? fa=some o->o.data=.func (docDef d.name d.params d.body d.scope pm cd doc)->s₁.heap.CodeRec cd d.name->mg d.name=some (.ref fa) ->
   s₁.heap.get? a=some { cls:=.type "list",data:=.seq vs.toArray }->IntsAre vs ns->ns.length<=n->s₁.gens=#[] ->
   codeAny (model l.prog w) callerA (.call (.ref fa) ⟨[.ref a],[]⟩) (fun r s'=>r=.ok (.ret (.bool true))/\OldK s₁.heap s'.heap/\s'.os=s₁.os/\AllBare s'.gens) s₁) :
  WalkO q loose XP YP l.row.toRowW d [] (fun f vs=>PySem.call f vs):=by
 intro w s₀ s₁ mg mb G Y fa o pm cd doc dV kV ho hd hcd hD hmg hg args vals as hpre hlay hrd hwl hlo;obtain rfl:dV=.none:=Dflts.none hD hdf;obtain rfl:kV=.none:=Dflts.noKw hD;obtain ⟨a,vs,ns,rfl,rfl,hobj,hints,hlen⟩:=zn1 hn hpre hwl;refine enter_call (codeAny_mono (call w s₀ s₁ mg mb fa o pm cd doc a vs ns G Y ho (fd_plain hd) hcd hmg hobj hints hlen hg) fun r s' hq=>?_);obtain ⟨rfl,h2,h3,h4⟩:=hq;exact ⟨.inl ⟨.bool true,.bool true,[],rfl,fun _=>rfl,.bool true,zoe l _,fun _=>⟨List.Pairwise.nil,fun _ hm=>(nomatch hm)⟩⟩,h2,h3,h4⟩
section
variable {prog:Program}{w:World}{A:Around}{E:Value->Shared->Prop}{s:Shared}{K:Frag}
end
end Att
namespace L2
open PySem PySem.Spec PyProof.Rows
theorem zhy:∀{vs:List Value}{ns:List Int},IntsAre vs ns->Vals (ns.map V.int) vs
 | _,_,.nil=>.nil
 | _,_,.cons n t h=>.cons ⟨t,rfl⟩ (zhy h)
end L2
namespace L2
open PySem PySem.Spec PyProof.Rows
end L2
namespace L2
open PySem PySem.Spec PyProof.Rows
noncomputable def zd1 (s:Stmt):Arguments:=match s with
 | .FunctionDef _ a _ _ _ _ _ _ _ _=>a
 | _=>{ posonlyargs:=[],args:=[],vararg:=none,kwonlyargs:=[],kw_defaults:=[],kwarg:=none,defaults:=[] }
noncomputable def zct (s:Stmt):List Stmt:=match s with
 | .FunctionDef _ _ b _ _ _ _ _ _ _=>b
 | _=>[]
noncomputable def zaj (s:Stmt):Scope:=match s with
 | .FunctionDef _ _ _ _ _ _ sc _ _ _=>sc
 | _=>{ kind:=.function,names:=[],isGenerator:=false,isCoroutine:=false }
noncomputable abbrev CX0:CXT:=fun _ _ _ _ _ _=>False
noncomputable abbrev E0:XK:=fun _ _ _=>False
theorem z3r {X:Cx}:zrl CX0 X E0:=fun _ _ _ _ _ _ _ h=>h.elim
structure Fun (K:PySem.W.Frag) (x qual:Str) (st:Stmt) (f:Addr) (fd:FuncData):Prop where
 ex:∃(oc:Value) (od:Option Addr) (kV doc pm:Value) (an:Option Addr) (cdv ct:Value) (osl:Array (Option Value)),
  fd=PySem.W.fnOf x qual (zd1 st) (zct st) (zaj st) .none kV doc pm an cdv ct/\K.lookup f=some ⟨oc,od,.func fd,osl⟩/\PySem.W.codeIn K cdv qual=true
 kp:PySem.W.keepIn K (.ref f)=true
section
variable {P:Program}{w:World}{K:PySem.W.Frag}{mg:Str->Option Value}{base:Heap}
theorem Fun.binds {x qual:Str}{st:Stmt}{f:Addr}{fd:FuncData}{ps:List Str} (F:Fun K x qual st f fd)
  (h:∀(kV doc pm:Value) (an:Option Addr) (cdv ct:Value) (us:List Value),us.length=ps.length->bindArgs (PySem.W.fnOf x qual (zd1 st) (zct st) (zaj st) .none kV doc pm an cdv ct) ⟨us,[]⟩=pure (ps.zip us)):zjy K fd ps []:=by
 obtain ⟨oc,od,kV,doc,pm,an,cdv,ct,osl,rfl,lk,hcd⟩:=F.ex;exact .all (h kV doc pm an cdv ct)
theorem zuv {x qual:Str}{st:Stmt}{f:Addr}{oc:Value}{od an:Option Addr}{osl:Array (Option Value)}{kV doc pm cdv ct:Value} (l:K.lookup f=some ⟨oc,od,.func (PySem.W.fnOf x qual (zd1 st) (zct st) (zaj st) .none kV doc pm an cdv ct),osl⟩)
  (c:PySem.W.codeIn K cdv qual=true) (k:PySem.W.keepIn K (.ref f)=true):Fun K x qual st f (PySem.W.fnOf x qual (zd1 st) (zct st) (zaj st) .none kV doc pm an cdv ct):=⟨⟨oc,od,kV,doc,pm,an,cdv,ct,osl,rfl,l,c⟩,k⟩
end
section
variable {X:Cx}
end
theorem iteF {A B:Prop} (h:B):if false=true then A else B:=by
 rw [if_neg Bool.false_ne_true];exact h
theorem iteT {A B:Prop} (h:A):if true=true then A else B:=by
 rw [if_pos rfl];exact h
noncomputable def Same (H H' : Hp):Prop:=∀b o,H b=some o->H' b=some o
theorem Same.refl (H:Hp):Same H H:=fun _ _ h=>h
theorem Same.trans {H H1 H2:Hp} (a:Same H H1) (b:Same H1 H2):Same H H2:=fun c o h=>b c o (a c o h)
theorem Same.free {H H' : Hp} (e:Same H H') {l:Addr} (h:H' l=Option.none):H l=Option.none:=by
  cases q:H l with
  | none=>rfl
  | some o =>
    rw [e l o q] at h;cases h
theorem Same.seq {K:PySem.W.Frag}{H H' : Hp}{a:Addr}{xs:List V} (e:Same H H') (h:SqL K H a xs):SqL K H' a xs:=by
 rcases h with (h | ⟨o,h⟩) | h
 ·exact .inl (.inl (e _ _ h))
 ·exact .inl (.inr ⟨o,e _ _ h⟩)
 ·exact .inr h
end L2
namespace L2
open PySem PySem.Spec PyProof.Rows
noncomputable def capSt (cap:List (Option Nat)) (σ:St):St:=cap.map fun o=>match o with
 | some i=>(σ[i]?).getD none
 | none=>none
noncomputable def zft (cap:List (Option Nat)) (Nc N:List Str) (scope:Scope):Bool :=
 decide (cap.length=Nc.length) && (cap.zip Nc).all fun p=>match p.1 with
  | some i=>decide (N[i]?=some p.2) && decide (scope.names.lookup p.2=some NameKind.free)
  | none=>true
theorem zqg {cap Nc N scope} (h:zft cap Nc N scope=true):cap.length=Nc.length:=by
 unfold zft at h;rw [Bool.and_eq_true] at h;exact of_decide_eq_true h.1
theorem zpj {cap:List (Option Nat)}{Nc N:List Str}{scope:Scope} (h:zft cap Nc N scope=true) {j i:Nat}{x:Str} (h1:cap[j]?=some (some i)) (h2:Nc[j]?=some x):N[i]?=some x/\scope.names.lookup x=some .free:=by
 unfold zft at h;rw [Bool.and_eq_true] at h;have hm:(some i,x)∈cap.zip Nc:=by
  refine List.mem_of_getElem? (i:=j) ?_;rw [List.getElem?_zip_eq_some];exact ⟨h1,h2⟩
 have q:=List.all_eq_true.mp h.2 _ hm;simp only [Bool.and_eq_true,decide_eq_true_eq] at q;exact q
noncomputable def zew (scope:Scope) (out:Scope):Bool:=scope.names.all fun p=>!(p.2 == NameKind.free) || decide (out.names.lookup p.1=some .cell) || decide (out.names.lookup p.1=some .free)
theorem zea {env:Env}:∀(names:List (Str × NameKind)) (acc:List (Str × Addr)),(∀x,(x,NameKind.free)∈names->∃c,env.cells.lookup x=some c)->(∀x c,acc.lookup x=some c->env.cells.lookup x=some c) ->
    ∃cl,(forIn names acc fun (p:Str × NameKind) cs=>if p.2 == NameKind.free then do let c <- cellOf env p.1;pure (ForInStep.yield ((p.1,c)::cs)) else pure (ForInStep.yield cs):Sem (List (Str × Addr)))=pure cl /\
      (∀x c,cl.lookup x=some c->env.cells.lookup x=some c)/\(∀x,(x,NameKind.free)∈names\/(∃c,acc.lookup x=some c)->∃c,cl.lookup x=some c)
  | [],acc,_,h2=>⟨acc,by rw [List.forIn_nil],h2,fun x hx=>by
      rcases hx with hx | hx
      · cases hx
      · exact hx⟩
  | (n,k)::r,acc,h1,h2=>by
    rw [List.forIn_cons];by_cases hk:(k == NameKind.free)=true
    · have ek : k = .free := by simpa using hk
      subst ek;obtain ⟨c,hc⟩:=h1 n List.mem_cons_self;have h2' : ∀x d,((n,c)::acc).lookup x=some d->env.cells.lookup x=some d:=fun x d hx=>by
        rw [List.lookup_cons] at hx;cases e:x == n with
        | true => rw [e] at hx; obtain rfl := sI hx; have : x = n := by simpa using e
                  rw [this];exact hc
        | false=>rw [e] at hx;exact h2 x d hx
      obtain ⟨cl,e,a,b⟩:=zea r ((n,c)::acc) (fun x hx=>h1 x (List.mem_cons_of_mem _ hx)) h2';refine ⟨cl,?_,a,fun x hx=>b x ?_⟩
      · rw [<- e]
        have hcell:cellOf env n=pure c:=by unfold cellOf;rw [hc]
        simp only [beq_self_eq_true,if_true,hcell]
        rfl
      · have gen:∀y d,acc.lookup y=some d->∃d',((n,c)::acc).lookup y=some d':=fun y d hy=>by
          rw [List.lookup_cons];cases e:y == n with
          | true=>exact ⟨_,rfl⟩
          | false=>exact ⟨d,hy⟩
        rcases hx with hx | ⟨d,hx⟩
        · rcases List.mem_cons.mp hx with hx | hx
          · injection hx with hx _
            subst hx;exact .inr ⟨c,by rw [List.lookup_cons];simp⟩
          · exact .inl hx
        · exact .inr (gen x d hx)
    · have hk' : (k == NameKind.free) = false := by simpa using hk
      obtain ⟨cl,e,a,b⟩:=zea r acc (fun x hx=>h1 x (List.mem_cons_of_mem _ hx)) h2;refine ⟨cl,?_,a,fun x hx=>b x ?_⟩
      · rw [<- e]
        simp only [hk',Bool.false_eq_true,if_false]
        rfl
      · rcases hx with hx | hx
        · rcases List.mem_cons.mp hx with hx | hx
          · injection hx with _ hx
            subst hx;simp at hk'
          · exact .inl hx
        · exact .inr hx
theorem zcr {env:Env}{scope:Scope} (h:∀x,(x,NameKind.free)∈scope.names->∃c,env.cells.lookup x=some c) :
  ∃cl,closureFor scope env=pure cl/\(∀x c,cl.lookup x=some c->env.cells.lookup x=some c)/\(∀x,(x,NameKind.free)∈scope.names->∃c,cl.lookup x=some c):=by
 refine aG fun _ qG=>?_;obtain ⟨cl,e,a,b⟩:=zea (env:=env) scope.names [] h (fun x c hx=>by simp at hx);refine qG ?_;clear qG;refine ⟨cl,?_,a,fun x hx=>b x (.inl hx)⟩;rw [closureFor];have e':=e;simp only [bind_assoc,pure_bind] at e' ⊢;exact congrArg (fun m=>m >>= fun r=>pure r) e |>.trans (by rw [pure_bind])
end L2
namespace L2
open PySem PySem.Spec PyProof.Rows
noncomputable def zax (X:Cx) (Nc:List Str) (scope:Scope) (cl:List (Str × Addr)) (C:Addr) (s3:Shared) (H3:Hp) (fp:List Addr):Cx where
 prog:=X.prog
 w:=X.w
 K:=X.K
 mg:=X.mg
 base:=X.base
 A:=X.A
 N:=Nc
 s₀:=s3
 H₀:=H3
 env:=compEnvC scope cl C X.env
 outer:=X.stack
 stack:=X.stack
 ex:=fp
 fn:=fun x=>decide (scope.names.lookup x=some NameKind.cell)
 calm:=X.calm
 pn:=[]
 xe:=fun _ _=>False
noncomputable def zvk:TT:=fun σ H Q=>Q true H
noncomputable def PTs (X:Cx) (ifs:List Expr) (t:TT):Prop :=
  ∀(pins:List (Addr × Obj)) (s:Shared) (σ:St) (H:Hp) (Q:Bool->Hp->Prop),Inv X pins σ H s->t σ H Q ->
    wpAny (model X.prog X.w) X.A (forIn ifs true fun c r=>if r=true then do let ok <- isTrue c X.env (eval c X.env);pure (ForInStep.yield ok) else pure (ForInStep.yield r)) (TP X pins σ Q) X.xe s
theorem zxy {X:Cx}:PTs X [] zvk:=fun pins s σ H Q I h=>by
 rw [List.forIn_nil];exact wpAny_pure ⟨H,I,h⟩
theorem zyz {X:Cx}{c:Expr}{t:TT} (h:PT X c t):PTs X [c] t:=fun pins s σ H Q I q=>by
 rw [List.forIn_cons];simp only [if_true];refine wpAny_bind (wpAny_bind (thn (h pins s σ H Q I q) fun b s1 q1=>?_));refine wpAny_pure ?_;dsimp only;rw [List.forIn_nil];exact wpAny_pure q1
section
variable {X:Cx}
theorem zau {env:Env}:∀{names:List (Str × NameKind)}{x:Str},names.lookup x=some .free ->
    (names.map fun (n,k)=>if (k == NameKind.free && env.scope.kind == .function && env.kindOf n == some .cell) then (n,NameKind.cell) else (n,k)).lookup x=some .cell \/
    (names.map fun (n,k)=>if (k == NameKind.free && env.scope.kind == .function && env.kindOf n == some .cell) then (n,NameKind.cell) else (n,k)).lookup x=some .free
  | [],_,h=>by simp at h
  | (n,k)::r,x,h=>by
    have ih:=@zau env r x;rw [List.map_cons];rw [List.lookup_cons] at h;cases hx:x == n with
    | true =>
      rw [hx] at h;obtain rfl:=sI h;dsimp only;split
      · rw [List.lookup_cons,hx];exact .inl rfl
      · rw [List.lookup_cons,hx];exact .inr rfl
    | false =>
      rw [hx] at h;dsimp only;split
      · rw [List.lookup_cons,hx];exact ih h
      · rw [List.lookup_cons,hx];exact ih h
theorem za9 {env:Env}:∀{names:List (Str × NameKind)}{x:Str}{k:NameKind},(k=.cell\/k=.free) ->
    (names.map fun (n,k)=>if (k == NameKind.free && env.scope.kind == .function && env.kindOf n == some .cell) then (n,NameKind.cell) else (n,k)).lookup x=some k->names.lookup x=some .free\/names.lookup x=some .cell
  | [],_,_,_,h=>by simp at h
  | (n,k0)::r,x,k,hk,h=>by
    rw [List.map_cons] at h;rw [List.lookup_cons];cases hx:x == n with
    | true =>
      dsimp only at h;split at h
      · rename_i hc
        rw [List.lookup_cons,hx] at h;simp only [Bool.and_eq_true,beq_iff_eq] at hc;rw [hc.1.1];exact .inl rfl
      · rw [List.lookup_cons, hx] at h
        obtain rfl:=sI h;rcases hk with rfl | rfl
        · exact .inr rfl
        · exact .inl rfl
    | false =>
      dsimp only at h;split at h
      · rw [List.lookup_cons,hx] at h;exact za9 hk h
      · rw [List.lookup_cons,hx] at h;exact za9 hk h
theorem zc2 {scope out:Scope} (h:zew scope out=true) {x:Str} (hx:(x,NameKind.free)∈scope.names):out.names.lookup x=some .cell\/out.names.lookup x=some .free:=by
 have q:=List.all_eq_true.mp h _ hx;simpa using q
theorem capSt_get {cap:List (Option Nat)}{σ:St}{j:Nat}{v:V} (h:(capSt cap σ)[j]?=some (some v)):∃i,cap[j]?=some (some i)/\σ[i]?=some (some v):=by
  unfold capSt at h;rw [List.getElem?_map] at h;cases e:cap[j]? with
  | none=>rw [e] at h;cases h
  | some o =>
    rw [e] at h;cases o with
    | none=>cases h
    | some i =>
      refine ⟨i,rfl,?_⟩;have h' : (σ[i]?).getD none=some v:=sI h;cases e2:σ[i]? with
      | none=>rw [e2] at h';cases h'
      | some z=>rw [e2] at h';exact congrArg some h'
theorem za1 {env:Env}:∀{names:List (Str × NameKind)}{x:Str}{k:NameKind},k≠.free->names.lookup x=some k ->
    (names.map fun (n,k)=>if (k == NameKind.free && env.scope.kind == .function && env.kindOf n == some .cell) then (n,NameKind.cell) else (n,k)).lookup x=some k
  | [],_,_,_,h=>by simp at h
  | (n,k0)::r,x,k,hk,h=>by
    have ih:=@za1 env r x k hk;rw [List.map_cons];rw [List.lookup_cons] at h;cases hx:x == n with
    | true =>
      rw [hx] at h;obtain rfl:=sI h;have:(k0 == NameKind.free)=false:=by cases k0<;>first | rfl | exact absurd rfl hk
      dsimp only;rw [this,Bool.false_and,Bool.false_and,if_neg Bool.false_ne_true,List.lookup_cons,hx]
    | false =>
      rw [hx] at h;dsimp only;split
      · rw [List.lookup_cons,hx];exact ih h
      · rw [List.lookup_cons,hx];exact ih h
noncomputable def zeg (scope:Scope):Bool:=scope.names.all fun p=>!(p.2 == NameKind.cell) || decide (scope.names.lookup p.1=some .cell)
theorem zm5 {scope:Scope} (h:zeg scope=true) {x:Str} (hx:(x,NameKind.cell)∈scope.names):scope.names.lookup x=some .cell:=by
 have q:=List.all_eq_true.mp h _ hx;simpa using q
theorem zby:∀(names:List (Str × NameKind)) (n:Nat) (acc:List (Str × Addr)),cellsFrom n names acc=cellsFrom n names []++acc
  | [],_,_=>rfl
  | (x,k)::r,n,acc=>by
    unfold cellsFrom;split
    · rw [zby r (n+1) ((x,n)::acc),zby r (n+1) [(x,n)],List.append_assoc];rfl
    · exact zby r n acc
theorem ze1:∀(names:List (Str × NameKind)) (n:Nat) {x:Str}{c:Addr},(x,c)∈cellsFrom n names []->(x,NameKind.cell)∈names
  | [],_,_,_,h=>by cases h
  | (y,k)::r,n,x,c,h=>by
    unfold cellsFrom at h;split at h
    · rename_i hk
      rw [zby] at h;rcases List.mem_append.mp h with h | h
      · exact List.mem_cons_of_mem _ (ze1 r _ h)
      · have e := List.mem_singleton.mp h
        cases e;have:k=NameKind.cell:=by simpa using hk
        rw [this];exact List.mem_cons_self
    · exact List.mem_cons_of_mem _ (ze1 r _ h)
theorem cells_of {names:List (Str × NameKind)}{n:Nat}{cl:List (Str × Addr)}{x:Str}{c:Addr} (h:(cellsFrom n names cl).lookup x=some c):(cellsFrom n names []).lookup x=some c\/((cellsFrom n names []).lookup x=none/\cl.lookup x=some c):=by
 rw [zby,List.lookup_append] at h;cases e:(cellsFrom n names []).lookup x with
 | some d=>rw [e] at h;exact .inl h
 | none=>rw [e] at h;exact .inr ⟨rfl,h⟩
theorem zf3 {scope:Scope} (h:zeg scope=true) {n:Nat}{cl:List (Str × Addr)}{x:Str}{c:Addr} (hx:scope.names.lookup x=some .free) (hc:cl.lookup x=some c):(cellsFrom n scope.names cl).lookup x=some c:=by
  rw [zby,List.lookup_append];cases e:(cellsFrom n scope.names []).lookup x with
  | none=>exact hc
  | some d =>
    have:=zm5 h (ze1 _ _ (PySem.mem_of_lookup e));rw [hx] at this;cases this
theorem ztm {pins:List (Addr × Obj)}{σ:St}{H3:Hp}{s3:Shared}{Nc:List Str}{scope:Scope}{cl:List (Str × Addr)}{cap:List (Option Nat)}{fp:List Addr}{h4:Heap}{tk:Nat}
  (I:Inv X pins σ H3 s3) (hk:scope.kind=.function) (hcap:zft cap Nc X.N scope=true) (hfr:zew scope X.env.scope=true) (hnc:zeg scope=true)
  (c1:∀x c,cl.lookup x=some c->X.env.cells.lookup x=some c) (c2:∀x,(x,NameKind.free)∈scope.names->∃c,cl.lookup x=some c)
  (hf:∀b∈fp,FpOk X pins H3 b) (ho:∀b∈fp,b < s3.heap.objs.size)
  (hns:h4.Ns s3.heap.objs.size (fun _=>none)) (hkeep:∀b o,s3.heap.get? b=some o->h4.get? b=some o) (hcs:CellsOk h4 (s3.heap.objs.size+1) (cellsFrom (s3.heap.objs.size+1) scope.names [])) :
  Inv (zax X Nc scope (cellsFrom (s3.heap.objs.size+1) scope.names cl) s3.heap.objs.size s3 H3 fp) [] (capSt cap σ) H3 { s3 with heap:=h4,toks:=tk }:=by
 have stkne:∀b∈fp,b ∉ frs X.stack:=fun b hb z=>by
  obtain ⟨_,g1,g2,_⟩:=hf b hb;rcases List.mem_cons.mp (I.stkSub b z) with e | e
  ·exact g1 e
  ·exact g2 e
 have own:∀x c,(cellsFrom (s3.heap.objs.size+1) scope.names []).lookup x=some c->h4.IsCell c none/\s3.heap.objs.size+1<=c:=fun x c h=>hcs.empty x c (PySem.mem_of_lookup h);have old:∀x c,cl.lookup x=some c->c < s3.heap.objs.size:=fun x c h=>by
  obtain ⟨v,q⟩:=I.cell x c (c1 x c h);exact q.lt
 refine ⟨⟨I.mod,hk,I.ok.glob,I.ok.blt,Nat.le_refl _,fun x y c h1 h2=>?_,fun x hx=>?_,fun x c h h'=>?_,I.ok.hd,I.ok.frames,.inl rfl,fun b hb=>⟨Nat.ne_of_lt (ho b hb),fun x c h=>?_⟩,
  fun b o e=>I.bs b o e,Nat.le_trans I.ok.bsz I.sz,fun b o e hb=>?_,stkne,I.stack,I.stkFree⟩,rfl,I.bare,Un.kept hkeep,⟨_,hns,fun j x v h1 h2 h3=>?_⟩,fun x c h=>?_,I.hok.fresh (Nat.le_refl _),fun x c h=>?_,fun p hp=>absurd (show p∈([]:List (Addr × Obj)) from hp) (by simp),I.hok.kept hkeep,?_⟩
 ·rcases cells_of h1 with z1 | ⟨_, z1⟩
  ·rcases cells_of h2 with z2 | ⟨_, z2⟩
   ·exact name_of_addr hcs.apart (PySem.mem_of_lookup z1) (PySem.mem_of_lookup z2)
   ·have a := (own x c z1).2;have b:=old y c z2;exact absurd (Nat.lt_of_lt_of_le b (Nat.le_of_succ_le a)) (Nat.lt_irrefl _)
  ·rcases cells_of h2 with z2 | ⟨_, z2⟩
   ·have a := (own y c z2).2;have b:=old x c z1;exact absurd (Nat.lt_of_lt_of_le b (Nat.le_of_succ_le a)) (Nat.lt_irrefl _)
   ·exact I.ok.inj x y c (c1 x c z1) (c1 y c z2)
 ·have hx' : scope.names.lookup x=some .free\/scope.names.lookup x=some .cell:=by
   rcases hx with hx | hx
   ·exact za9 (env:=X.env) (.inl rfl) hx
   ·exact za9 (env:=X.env) (.inr rfl) hx
  rcases hx' with hx' | hx'
  ·obtain ⟨c, e⟩ := c2 x (PySem.mem_of_lookup hx');exact ⟨c,zf3 hnc hx' e⟩
  ·exact Option.isSome_iff_exists.mp (PySem.W.cellsFrom_some scope.names _ cl (.inl hx'))
 ·have hx : scope.names.lookup x = some .cell := of_decide_eq_true h;rcases cells_of h' with z | ⟨z,_⟩
  ·exact Nat.le_of_succ_le (own x c z).2
  ·obtain ⟨d, e⟩ := cell_has (n := s3.heap.objs.size + 1) hx;rw [z] at e;cases e
 ·rcases cells_of h with z | ⟨_, z⟩
  ·have a := (own x c z).2;have:=ho b hb;exact Ne.symm (Nat.ne_of_lt (Nat.lt_of_lt_of_le this (Nat.le_of_succ_le a)))
  ·exact (hf b hb).2.2.2.2.1 x c (c1 x c z)
 ·rcases (hf b hb).2.2.2.1 with z | z
  ·exact I.ok.noex b o e z
  ·have h1 : b < X.base.objs.size := Heap.lt_size e;exact absurd (Nat.lt_of_lt_of_le h1 (Nat.le_trans I.ok.bsz z)) (Nat.lt_irrefl _)
 ·obtain ⟨i, e1, e2⟩ := capSt_get h2;have hNx:Nc[j]?=some x:=h1;obtain ⟨n1,n2⟩:=zpj hcap e1 hNx;have vis:Vis X.env.scope x:=by
   rcases zc2 hfr (PySem.mem_of_lookup n2) with z | z
   ·exact .inr (.inl z)
   ·exact .inr (.inr z)
  obtain ⟨m,hn,hl⟩:=I.loc;obtain ⟨u,r,l⟩:=hl i x v n1 e2 vis;refine ⟨u,r,?_⟩;rcases l with ⟨hk',_⟩ | ⟨_,c,e,z⟩
  ·have hk2 : X.env.scope.names.lookup x = some .local := hk';rcases zc2 hfr (PySem.mem_of_lookup n2) with z | z
   ·rw [z] at hk2;cases hk2
   ·rw [z] at hk2;cases hk2
  ·obtain ⟨c', e'⟩ := c2 x (PySem.mem_of_lookup n2);have:=c1 x c' e';rw [e] at this;obtain rfl:=sI this;refine .inr ⟨zau (env:=X.env) n2,c,zf3 hnc n2 e',?_⟩;obtain ⟨o,ho',hd⟩:=z;exact ⟨o,hkeep _ _ ho',hd⟩
 ·rcases cells_of h with z | ⟨_, z⟩
  ·exact ⟨none,(own x c z).1⟩
  ·obtain ⟨v, o, ho', hd⟩ := I.cell x c (c1 x c z);exact ⟨v,o,hkeep _ _ ho',hd⟩
 ·rcases cells_of h with z | ⟨_, z⟩
  ·exact I.hok.fresh (Nat.le_of_succ_le (own x c z).2)
  ·exact I.freeC x c (c1 x c z)
 ·show (capSt cap σ).length = Nc.length;rw [<-zqg hcap];unfold capSt;rw [List.length_map]
theorem zgt {M:Model}{A:Around}{E:Value->Shared->Prop}{s:Shared}{scope:Scope}{globals:Addr}{cl:List (Str × Addr)}{qual:Str}{outer:Env}{Q:Env->Shared->Prop}
  (hQ:∀h',h'.Ns s.heap.objs.size (fun _=>none)->(∀b o,s.heap.get? b=some o->h'.get? b=some o)->CellsOk h' (s.heap.objs.size+1) (cellsFrom (s.heap.objs.size+1) scope.names []) ->
   Q (newEnv scope s.heap.objs.size globals (cellsFrom (s.heap.objs.size+1) scope.names cl) qual none .none (some outer) builtinsNs) { s with heap:=h' }) :
  wpAny M A (newFunctionEnv scope globals cl [] qual none .none (some outer)) Q E s:=by
 simp only [newFunctionEnv,Option.isSome_some,if_true];refine wpAny_bind (wpAny_alloc ?_);refine wpAny_bind (wpAny_layCells _ (fun name kind cells=>by cases hkc:kind == NameKind.cell<;>simp [hkc]) _ _ _ _ ?_);have ok:=cellsFrom_ok scope.names (s.heap.push { cls:=.type "dict",data:=.dict #[] }) (s.heap.objs.size+1) [] ⟨fun _ _ hm=>(nomatch hm),List.Pairwise.nil⟩ (by rw [Heap.size_push];exact Nat.le_refl _);rw [Heap.size_push] at ok;rw [show ({ s with heap:=s.heap.push { cls:=.type "dict",data:=.dict #[] } }:Shared).heap.objs.size=s.heap.objs.size+1 from Heap.size_push ..];refine wpAny_bind ?_;rw [List.forIn_nil];exact wpAny_pure (wpAny_pure (hQ _ ((Heap.Ns.new s.heap (.type "dict")).keeps (pushCells_keeps _ _)) (fun b o e=>pushCells_keeps _ _ b o (Heap.get?_push_of_some _ e)) ok))
end
end L2
namespace L2
open PySem PySem.Spec PyProof.Rows
noncomputable abbrev TM:=St->Hp->(St->Hp->Prop)->Prop
noncomputable def PM (X:Cx) (em:Sem Unit) (t:TM):Prop :=
  ∀(pins:List (Addr × Obj)) (s:Shared) (σ:St) (H:Hp) (N:St->Hp->Prop),Inv X pins σ H s->t σ H N ->
    wpAny (model X.prog X.w) X.A em (fun _ s'=>∃σ' H',Inv X pins σ' H' s'/\N σ' H') X.xe s
noncomputable def znv (e:Expr) (d:Nat) (tg iter:Expr) (ifs:List Expr) (em:Sem Unit) (it acc:Value) (env:Env):Sem Fin:=do
  standAt iter.pos
  match <- pyNext it with
  | none=>pure (.done .next)
  | some v =>
    letOwnedTupleGo tg it v
    assign tg env v
    let mut ok:=true
    for c in ifs do
      if ok then ok <- isTrue c env (eval c env)
    if ok then em
    again (.compLoop e d it acc env)
noncomputable def zlt (J:It) (g:TG) (tc:TT) (tm:TM) (σ:St) (H:Hp) (Q:St->Hp->Prop):Prop:=∃W:Nat->Nat->St->Hp->Prop,(∃m,W 0 m σ H) /\
 ∀i m σc Hc,W i m σc Hc->(J.stop i Hc/\Q σc Hc)\/(J.go i Hc/\∃N:St->Hp->Prop,(∀σ' H',N σ' H'->∃m',m' < m/\W (i+1) m' σ' H')/\∀x H',J.yld i Hc x H'->g x σc H' fun σ2 H2 =>
  tc σ2 H2 fun b H3=>if b=true then tm σ2 H3 N else N σ2 H3)
noncomputable def zqj (wi:TI) (cap:List (Option Nat)) (g:TG) (tc:TT) (tm:Addr->TM):TE:=fun σ H Q=>wi σ H fun J H1=>∀acc,H1 acc=none->zlt J g tc (tm acc) (capSt cap σ) (upd H1 acc (.lst [])) fun _ Hc=>Q (.ref acc) Hc
section
variable {X:Cx}
theorem zp6 {elt:Expr}{gens:List Comprehension}{scope:Scope}{pos:Pos}{d:Nat}{tg iter:Expr}{ifs:List Expr}{em:Sem Unit}{acc:Value}{g:TG}{tc:TT}{tm:TM}{pins:List (Addr × Obj)}{σ:St}{H:Hp}{s:Shared}{it:Addr}{fp:List Addr}{tn:Nat->Heap->Prop}{J:It}{N0:St->Hp->Prop}{R:Result->Shared->Prop}
  (hx:∀v s,¬ X.xe v s) (hc:X.calm=true) (ht:compTurn (.ListComp elt gens scope pos) d (.ref it) acc X.env=znv (.ListComp elt gens scope pos) d tg iter ifs em (.ref it) acc X.env)
  (hg:PG X tg g) (hs:PTs X ifs tc) (hm:PM X em tm) (I:Inv X pins σ H s) (T:Turn X.prog X.w X.K tg J fp it tn) (st:tn 0 s.heap) (f:∀b∈fp,FpOk X pins H b)
  (hW:zlt J g tc tm σ H N0)
  (hR:∀σ' H' s',Inv X pins σ' H' s'->N0 σ' H'->R (.ok .next) s'):codeAny (model X.prog X.w) X.A (.compLoop (.ListComp elt gens scope pos) d (.ref it) acc X.env) R s:=by
 have stat:∀{H' : Hp},(∀b∈fp,H' b=none)->∀b∈fp,FpOk X pins H' b:=fun hn b hb=>⟨hn b hb,(f b hb).2⟩;refine aG fun _ qG=>?_;obtain ⟨W,⟨m0,w0⟩,turn⟩:=hW;refine qG ?_;clear qG;refine codeAny_loop rfl (fun n s'=>∃i σ' H',Inv X pins σ' H' s'/\tn i s'.heap/\(∀b∈fp,H' b=none)/\W i n σ' H') ?_ m0 ⟨0,σ,H,I,st,fun b hb=>(f b hb).1,w0⟩;rintro n s3 ⟨i,σ3,H3,I3,st3,fr3,w3⟩;show wpAny _ X.A ((compTurn (.ListComp elt gens scope pos) d (.ref it) acc X.env).onRaise (fun x=>do noteFrame x X.env;theTreesLotGoes x)) _ _ s3;refine wpAny_noted ?_;rw [ht];unfold znv;refine wpAny_bind (wpAny_standAt (wpAny_bind ?_));rcases turn i n σ3 H3 w3 with ⟨stop,qn⟩ | ⟨go,N,hN,step⟩
 ·refine wpAny_mono (T.done X rfl rfl rfl hc i pins s3 σ3 H3 (fun _ _ => False) I3 (stat fr3) st3 stop) (fun r s4 ⟨hr, I4⟩ => ?_) fun _ _ z => z.elim;subst hr;exact wpAny_pure (hR σ3 H3 s4 I4 qn)
 ·refine wpAny_mono (T.item X rfl rfl rfl hc i pins s3 σ3 H3 (fun _ _ => False) I3 (stat fr3) st3 go) (fun r s4 ⟨u, hr, h4⟩ => ?_) fun _ _ z => z.elim;subst hr;refine wpAny_bind (wpAny_mono h4 (fun _ s5 ⟨x,H5,I5,r5,y5,st5,fr5⟩=>?_) fun _ _ z=>z.elim);have I5':=I5.pinned (stat fr5) (T.obj _ _ st5);refine wpAny_bind (wpAny_mono (hg _ s5 σ3 H5 x u _ I5' r5 (step x H5 y5)) (fun _ s6 ⟨σ6,H6,I6,q6⟩=>?_) fun v s z=>(hx v s z).elim);refine wpAny_bind (wpAny_mono (hs _ s6 σ6 H6 _ I6 q6) (fun ok s7 ⟨H7,I7,q7⟩=>?_) fun v s z=>(hx v s z).elim);have again:∀{sx:Shared}{σx:St}{Hx:Hp},Inv X (pins++ziy fp s5.heap) σx Hx sx->N σx Hx->∃m,m < n/\∃i σ' H',Inv X pins σ' H' sx/\tn i sx.heap/\(∀b∈fp,H' b=none)/\W i m σ' H':=fun {sx σx Hx} Ix nx=>by
   obtain ⟨m',hm,wx⟩:=hN σx Hx nx;refine ⟨m',hm,i+1,σx,Hx,Ix.unpinned,T.keep _ _ _ st5 fun b hb o e=>(Ix.pin (b,o) (List.mem_append_right _ (List.mem_append_right _ (zcw hb e)))).1,fun b hb=>?_,wx⟩;obtain ⟨o,e,d⟩:=T.obj _ _ st5 b hb;exact (Ix.pin (b,o) (List.mem_append_right _ (List.mem_append_right _ (zcw hb e)))).2.1
  cases ok with
  | false=>exact wpAny_pure ⟨rfl,again I7 q7⟩
  | true=>exact wpAny_bind (wpAny_mono (hm _ s7 σ6 H7 N I7 q7) (fun _ s8 ⟨σ8,H8,I8,n8⟩=>wpAny_pure ⟨rfl,again I8 n8⟩) fun v s z=>(hx v s z).elim)
noncomputable def ztx (acc:Addr) (te:TE):TM:=fun σ H N=>te σ H fun y H4=>∃ys,H4 acc=some (.lst ys)/\ys.length < sizeLine/\N σ (upd H4 acc (.lst (ys++[y])))
noncomputable def zyo (elt:Expr) (acc:Value) (env:Env):Sem Unit:=do let _ <- call (.builtin "list.append") [acc,<-eval elt env]
theorem zzn {elt:Expr}{te:TE}{acc:Addr} (he:PE X elt te):PM X (zyo elt (.ref acc) X.env) (ztx acc te):=by
 intro pins s σ H N I h;unfold zyo;refine wpAny_bind (thn (he pins s σ H _ I h) fun yv s10 ⟨y,H10,I10,r10,ys,ha,hz,q10⟩=>?_);refine wpAny_bind (thn (zh5 _ s10 σ H10 (.ref acc) [y] _ [yv] (fun _ H'=>N σ H') I10 rfl (.cons r10 .nil) ⟨_,ys,y,rfl,rfl,ha,hz,q10⟩) fun _ s11 ⟨_,H11,I11,_,q11⟩=>?_);exact wpAny_pure ⟨σ,H11,I11,q11⟩
end
theorem HOk.but {P:Program}{w:World}{H:Hp}{h h' : Heap}{a:Addr} (x:HOk P w H h) (hn:H a=none) (hs:Heap.SameBut a h h'):HOk P w H h':=fun b ob e=>by
 refine (x b ob e).stay (fun c w' hc q=>(hs.2 c ?_).trans q) (fun _ q=>q) fun _ _ q=>q;rintro rfl;rcases hc with rfl | hc
 ·rw [hn] at e;cases e
 ·rw [hn] at hc;cases hc
section
variable {X:Cx}
theorem zf7 {elt tg iter:Expr}{ifs:List Expr}{gs:List Comprehension}{scope:Scope}{pos:Pos}{cl:List (Str × Addr)}{Nc:List Str}{cap:List (Option Nat)}{g:TG}{tc:TT}{em:Value->Env->Sem Unit}{tm:Addr->TM}{pins:List (Addr × Obj)}{σ:St}{H2:Hp}{s2:Shared}{it:Addr}{fp:List Addr}{tn:Nat->Heap->Prop}{J:It}{Q:VK}{RR:Value->Addr->Result->Shared->Prop}{E:Value->Shared->Prop}
  (hc:X.calm=true) (hk:scope.kind=.function) (hcap:zft cap Nc X.N scope=true) (hfr:zew scope X.env.scope=true) (hnc:zeg scope=true)
  (hturn:∀it acc env,compTurn (.ListComp elt (⟨tg,iter,ifs,0⟩ :: gs) scope pos) 0 it acc env=znv (.ListComp elt (⟨tg,iter,ifs,0⟩ :: gs) scope pos) 0 tg iter ifs (em acc env) it acc env)
  (hg:∀cl C s3 H3 fp,PG (zax X Nc scope cl C s3 H3 fp) tg g) (ht:∀cl C s3 H3 fp,PTs (zax X Nc scope cl C s3 H3 fp) ifs tc) (hm:∀cl C s3 H3 fp acc,PM (zax X Nc scope cl C s3 H3 fp) (em (.ref acc) (zax X Nc scope cl C s3 H3 fp).env) (tm acc))
  (c1:∀x c,cl.lookup x=some c->X.env.cells.lookup x=some c) (c2:∀x,(x,NameKind.free)∈scope.names->∃c,cl.lookup x=some c)
  (I2:Inv X pins σ H2 s2) (T:Turn X.prog X.w X.K tg J fp it tn) (st2:tn 0 s2.heap) (f2:∀b∈fp,FpOk X pins H2 b)
  (hW:∀acc,H2 acc=none->zlt J g tc (tm acc) (capSt cap σ) (upd H2 acc (.lst [])) fun _ Hc=>Q (.ref acc) Hc)
  (hR:∀acc C s' H',(∃m,s'.heap.Ns C m)->(∀h',Heap.SameBut C s'.heap h'->Inv X pins σ H' { s' with heap:=h' })->FpOk X pins H' C->Q (.ref acc) H'->RR (.ref acc) C (.ok .next) s') :
  wpAny (model X.prog X.w) X.A (newList []) (fun acc s₃=>wpAny (model X.prog X.w) X.A (newFunctionEnv scope X.env.globals cl [] X.env.qual none .none (some X.env)) (fun cenv s₄ =>
   codeAny (model X.prog X.w) X.A (.compStart (.ListComp elt (⟨tg,iter,ifs,0⟩ :: gs) scope pos) 0 (.ref it) acc { cenv with scope:=relabel scope X.env }) (RR acc cenv.locals) s₄) E s₃) E s2:=by
 refine wpAny_newObj_type (zgt fun h₁ hns₁ keep4 hcs=>?_);dsimp only at hns₁ keep4 hcs ⊢;have hacc:H2 s2.heap.objs.size=none:=I2.hok.fresh (Nat.le_refl _);have I3:Inv X pins σ (upd H2 s2.heap.objs.size (.lst [])) { s2 with heap:=s2.heap.push { cls:=.type "list",dict:=none,data:=.seq ([]:List Value).toArray },toks:=s2.toks } :=
  I2.laid (t':=s2.toks) (fun b u e=>Heap.get?_push_of_some _ e) (Nat.le_refl _) ⟨by simp,[],0,.nil,Heap.get?_push_size _ rfl⟩
 have hW':=hW s2.heap.objs.size hacc;generalize hH:s2.heap.push { cls:=.type "list",dict:=none,data:=.seq ([]:List Value).toArray }=hp at hns₁ keep4 hcs I3 ⊢;have f3:∀b∈fp,FpOk X pins (upd H2 s2.heap.objs.size (.lst [])) b:=fun b hb=>by
  obtain ⟨o,ho,_⟩:=T.obj _ _ st2 b hb;exact ⟨by rw [upd_ne (Nat.ne_of_lt (Heap.lt_size ho))];exact (f2 b hb).1,(f2 b hb).2⟩
 have up:∀b o,s2.heap.get? b=some o->hp.get? b=some o:=fun b o e=>hH ▸ Heap.get?_push_of_some _ e;have I4:=ztm (Nc:=Nc) (cap:=cap) (fp:=fp) (h4:=h₁) (tk:=s2.toks) I3 hk hcap hfr hnc c1 c2 f3 (fun b hb=>by
  obtain ⟨o,ho,_⟩:=T.obj _ _ st2 b hb;exact Heap.lt_size (up b o ho)) hns₁ keep4 hcs
 have st4:tn 0 h₁:=T.keep _ _ _ st2 fun b _ o e=>keep4 b o (up b o e);have loop:codeAny (model X.prog X.w) X.A (.compLoop (.ListComp elt (⟨tg,iter,ifs,0⟩ :: gs) scope pos) 0 (.ref it) (.ref s2.heap.objs.size) (compEnvC scope (cellsFrom (hp.objs.size+1) scope.names cl) hp.objs.size X.env)) (RR (.ref s2.heap.objs.size) hp.objs.size) { s2 with heap:=h₁,toks:=s2.toks }:=by
  refine zp6 (X:=zax X Nc scope (cellsFrom (hp.objs.size+1) scope.names cl) hp.objs.size { s2 with heap:=hp,toks:=s2.toks } (upd H2 s2.heap.objs.size (.lst [])) fp) (fun _ _ z=>z) hc (hturn _ _ _) (hg _ _ _ _ _) (ht _ _ _ _ _) (hm _ _ _ _ _ _) I4 T st4
   (fun b hb=>⟨(f3 b hb).1,(I4.ok.exf b hb).1,I4.ok.exfs b hb,.inl hb,(I4.ok.exf b hb).2,fun p hp'=>absurd (show p∈([]:List (Addr × Obj)) from hp') (by simp)⟩) hW' fun σ5 H5 s6 I6 qn=>?_
  obtain ⟨m6,hm6,_⟩:=I6.loc;have fC:H5 hp.objs.size=none:=I6.free;refine hR _ _ _ H5 ⟨m6,hm6⟩ (fun h' hsb=>?_) (I3.fpOk (Nat.le_refl _) fC) qn;refine I3.call' (s':={ s6 with heap:=h' }) (ch:=fp) I6.os ?_ (I6.hok.but fC hsb) I6.bare fun b hb=>⟨(f3 b hb).2.2.2.1,(f3 b hb).2.1,(f3 b hb).2.2.2.2.1,(f3 b hb).2.2.2.2.2⟩;have U:Un (frs X.stack) fp (upd H2 s2.heap.objs.size (.lst [])) H5 hp s6.heap:=I6.base;have nb:∀b o,hp.get? b=some o->b≠hp.objs.size:=fun b o e=>Nat.ne_of_lt (Heap.lt_size e);exact ⟨fun b o e n hb hx=>(hsb.2 b (nb b o e)).trans (U.keep b o e n hb hx),fun b o e n hb hx=>let ⟨sl,z⟩:=U.slot b o e n hb hx;⟨sl,(hsb.2 b (nb b o e)).trans z⟩,U.free,fun b o e hx=>let ⟨o',z⟩:=U.there b o e hx;⟨o',(hsb.2 b (nb b o e)).trans z⟩,U.tups,U.frzs,U.tbls⟩
 exact codeAny_compStart_list loop (T.self _ 0 _ _ _ st4 loop)
theorem zxf {elt tg iter:Expr}{ifs:List Expr}{gs:List Comprehension}{scope:Scope}{pos:Pos}{Nc:List Str}{cap:List (Option Nat)}{wi:TI}{g:TG}{tc:TT}{em:Value->Env->Sem Unit}{tm:Addr->TM} (hi:PI X tg iter wi)
  (hg:∀cl C s3 H3 fp,PG (zax X Nc scope cl C s3 H3 fp) tg g) (ht:∀cl C s3 H3 fp,PTs (zax X Nc scope cl C s3 H3 fp) ifs tc) (hm:∀cl C s3 H3 fp acc,PM (zax X Nc scope cl C s3 H3 fp) (em (.ref acc) (zax X Nc scope cl C s3 H3 fp).env) (tm acc))
  (hturn:∀it acc env,compTurn (.ListComp elt (⟨tg,iter,ifs,0⟩ :: gs) scope pos) 0 it acc env=znv (.ListComp elt (⟨tg,iter,ifs,0⟩ :: gs) scope pos) 0 tg iter ifs (em acc env) it acc env)
  (hc:X.calm=true:=by rfl) (hk:scope.kind=.function:=by rfl) (hcap:zft cap Nc X.N scope=true:=by rfl) (hfr:zew scope X.env.scope=true:=by rfl) (hnc:zeg scope=true:=by rfl)
  (hnm:(scope.names.all fun p=>!(p.2 == NameKind.local) || decide (scope.names.lookup p.1=some .local))=true:=by rfl)
  (hs:∀x,foldedSetIterable iter X.env x=pure x:=by intro _;rfl):PE X (.ListComp elt (⟨tg,iter,ifs,0⟩ :: gs) scope pos) (zqj wi cap g tc tm):=by
 intro pins s σ H Q I h;rw [eval_ListComp];refine aG fun _ qG=>?_;obtain ⟨cl,hclos,c1,c2⟩:=zcr (env:=X.env) (scope:=scope) fun x hx=>I.ok.has x (zc2 hfr hx);refine qG ?_;clear qG;have hnames:∀x∈scope.names,x.2=.local->scope.names.lookup x.1=some .local:=fun x hx e=>by
  have q:=List.all_eq_true.mp hnm _ hx;simpa [e] using q
 refine wpAny_comprehension_free (use:=none) rfl hs hclos hk hnames (thn (hi pins s σ H _ I h) fun v s1 h1=>thn h1 fun itv s2 h2=>?_);refine aG fun _ qG=>?_;obtain ⟨it,fp,tn,J,H2,e,I2,T,st2,f2,hW⟩:=h2;refine qG ?_;clear qG;subst e;refine zf7 (RR:=fun acc C=>compPost (model X.prog X.w) X.A X.xe none (EP X pins σ Q) acc C) hc hk hcap hfr hnc hturn hg ht hm c1 c2 I2 T st2 f2 hW ?_;intro acc C s' H' ⟨m,hm⟩ hI hC q;exact ⟨m,hm,fun h' hsb=>⟨.ref acc,H',hI h' hsb,rfl,q⟩⟩
theorem zws {y:Str}{py:Pos}{spos:Pos}{i:Nat}{elt tg iter:Expr}{ifs:List Expr}{gs:List Comprehension}{scope:Scope}{pos:Pos}{Nc:List Str}{cap:List (Option Nat)}{wi:TI}{g:TG}{tc:TT}{em:Value->Env->Sem Unit}{tm:Addr->TM} (hN:X.N.Nodup) (hiy:X.N[i]?=some y) (hy:Loc X.env.scope y) (hi:PI X tg iter wi)
  (hg:∀cl C s3 H3 fp,PG (zax X Nc scope cl C s3 H3 fp) tg g) (ht:∀cl C s3 H3 fp,PTs (zax X Nc scope cl C s3 H3 fp) ifs tc) (hm:∀cl C s3 H3 fp acc,PM (zax X Nc scope cl C s3 H3 fp) (em (.ref acc) (zax X Nc scope cl C s3 H3 fp).env) (tm acc))
  (hturn:∀it acc env,compTurn (.ListComp elt (⟨tg,iter,ifs,0⟩ :: gs) scope pos) 0 it acc env=znv (.ListComp elt (⟨tg,iter,ifs,0⟩ :: gs) scope pos) 0 tg iter ifs (em acc env) it acc env)
  (hsw:swapsWith (.ListComp elt (⟨tg,iter,ifs,0⟩ :: gs) scope pos) (some (.Name y py)) spos.line X.env=pure true:=by rfl)
  (hc:X.calm=true:=by rfl) (hk:scope.kind=.function:=by rfl) (hcap:zft cap Nc X.N scope=true:=by rfl) (hfr:zew scope X.env.scope=true:=by rfl) (hnc:zeg scope=true:=by rfl)
  (hnm:(scope.names.all fun p=>!(p.2 == NameKind.local) || decide (scope.names.lookup p.1=some .local))=true:=by rfl)
  (hs:∀x,foldedSetIterable iter X.env x=pure x:=by intro _;rfl) (hf:X.fn y=true\/X.env.scope.names.lookup y=some .local:=by first | exact .inl rfl | exact .inr rfl | assumption) :
  PS X (.Assign [.Name y py] (.ListComp elt (⟨tg,iter,ifs,0⟩ :: gs) scope pos) spos) (tAsg (zqj wi cap g tc tm) (znz i)):=by
 intro pins s σ H D I h;refine aG fun _ qG=>?_;obtain ⟨cl,hclos,c1,c2⟩:=zcr (env:=X.env) (scope:=scope) fun x hx=>I.ok.has x (zc2 hfr hx);refine qG ?_;clear qG;have hnames:∀x∈scope.names,x.2=.local->scope.names.lookup x.1=some .local:=fun x hx e=>by
  have q:=List.all_eq_true.mp hnm _ hx;simpa [e] using q
 rw [exec_Assign_Name_used _ _ _ _ hsw];refine wpAny_bind (wpAny_standAt (wpAny_bind ?_));show wpAny _ X.A (do let _ <- comprehension (.ListComp elt (⟨tg,iter,ifs,0⟩ :: gs) scope pos) scope X.env _ (newList []) false (eval iter X.env) (some (assign (.Name y py) X.env))) _ _ s;refine wpAny_bind (wpAny_mono (wpAny_comprehension_free (use:=some (assign (.Name y py) X.env)) (Q:=fun _ s'=>SP X pins D .next s') rfl hs hclos hk hnames
  (thn (hi pins s σ H _ I h) fun v s1 h1=>thn h1 fun itv s2 h2=>?_)) (fun _ s' hq=>wpAny_pure (wpAny_pure hq)) fun _ _ e=>e)
 refine aG fun _ qG=>?_;obtain ⟨it,fp,tn,J,H2,e,I2,T,st2,f2,hW⟩:=h2;refine qG ?_;clear qG;subst e;refine zf7 (Q:=fun x H1=>D.nx (σ.set i (some x)) H1) (RR:=fun acc C=>compPost (model X.prog X.w) X.A X.xe (some (assign (.Name y py) X.env)) (fun _ s'=>SP X pins D .next s') acc C) hc hk hcap hfr hnc hturn hg ht hm c1 c2 I2 T st2 f2 hW ?_;intro acc C s' H' ⟨m,hm⟩ hI hC q;show wpAny _ X.A (assign (.Name y py) X.env (.ref acc)) _ _ _;have I' : Inv X pins σ H' s':=hI s'.heap (.refl ..);refine wpAny_assign_Name (zid I' hN hiy hy (v:=.ref acc) rfl (fun s'' I'' ⟨a,hsb,ha⟩=>?_) hf);have ne:C≠a:=by
  rcases ha with rfl | ha
  ·exact hC.2.1
  ·exact fun z=>hC.2.2.2.2.1 y a ha z.symm
 refine ⟨m,hm.sameBut hsb ne,fun h' hsb'=>⟨_,H',?_,q⟩⟩;exact I''.turned (t':=s''.toks) (fun b o hb e=>(hsb'.2 b hb).trans e) hC.1 hC.2.1 hC.2.2.2.1 hC.2.2.2.2.1 hC.2.2.2.2.2
end
end L2
namespace L2
open PySem PySem.Spec PyProof.Rows
section
variable {X:Cx}{pins:List (Addr × Obj)}{σ:St}{H:Hp}{s:Shared}
theorem Inv.turnLay {h' : Heap}{t' : Nat}{ch:List Addr}{T:Addr}{o:HO} (I:Inv X pins σ H s) (k:∀b o,b ∉ ch->s.heap.get? b=some o->h'.get? b=some o) (th:∀b∈ch,∃o',h'.get? b=some o') (hch:∀b∈ch,FpOk X pins H b) (hT:s.heap.objs.size<=T)
  (new:zbt X.prog X.w (upd H T o) h' T o):Inv X pins σ (upd H T o) { s with heap:=h',toks:=t' }:=by
 have hn:H T=none:=I.hok.fresh hT;have ne:∀b u,s.heap.get? b=some u->b≠T:=fun b u e=>Nat.ne_of_lt (Nat.lt_of_lt_of_le (Heap.lt_size e) hT);have nch:∀b u,H b=some u->b ∉ ch:=fun b u e hb=>by rw [(hch b hb).1] at e;cases e
 refine I.step (g':=s.gens) (d':=s.drawn) (ch:=ch) (fun b hb=>⟨(hch b hb).2.2.2.1,(hch b hb).2.1,(hch b hb).2.2.2.2.1,(hch b hb).2.2.2.2.2⟩) (fun b o _ _ hc e _=>k b o hc e) (fun b o _ _ hc e _=>⟨o.slots,k b o hc e⟩) (fun b u _ e n=>by rw [upd_ne (ne b u e)];exact n)
  (fun b u hc e=>⟨u,k b u hc e⟩) (fun b xs e=>by rw [upd_ne (zac e hn)];exact e) (fun b u xs e=>by rw [upd_ne (zac e hn)];exact e) (fun b ps e=>⟨#[],by rw [upd_ne (zac e hn),e];simp⟩) (fun m hm=>?_) (fun b u e=>?_) I.bare
 ·obtain ⟨o, es, ep, ho, r⟩ := hm;exact ⟨o,es,ep,k _ o (fun z=>(hch _ z).2.1 rfl) ho,r⟩
 ·by_cases hb : b = T
  ·subst hb;rw [upd_same] at e;obtain rfl:=sI e;exact new
  ·rw [upd_ne hb] at e;refine (I.hok b u e).stay (fun c v hc q=>k c v ?_ q) (fun c q=>by rw [upd_ne (zac q hn)];exact q) fun c xs q=>by rw [upd_ne (zac q hn)];exact q
   rcases hc with z | z
   ·rw [z];exact nch b u e
   ·exact nch c _ z
end
noncomputable def Ite (K:PySem.W.Frag) (a:Addr):It :=
 ⟨fun i H=>∃xs x,SqL K H a xs/\xs[i]?=some x,fun i H x H'=>∃p v,x=.ref p/\H p=none/\H'=upd H p (.tup [.int i,v])/\∀xs,SqL K H a xs->xs[i]?=some v,fun i H=>∃xs,SqL K H a xs/\xs.length<=i⟩
theorem zpi {P:Program}{w:World}{K:PySem.W.Frag}{es:List Expr}{x1}{px:Pos} (a e it:Addr) (hei:e≠it):Turn P w K (.Tuple es x1 px) (Ite K a) [e,it] e (fun i h=>(∃old,IsEnum h e it i old)/\h.IsListIter it a i) where
 mem:=by simp
 obj:=fun i h st b hb=>by
  refine aG fun _ qG=>?_;obtain ⟨⟨old,he⟩,o,hi,c,d⟩:=st;refine qG ?_;clear qG;rcases List.mem_cons.mp hb with rfl | hb
  ·exact ⟨_,he,fun v z=>by cases z⟩
  ·have : b = it := by simpa using hb
   subst this;exact ⟨o,hi,fun v z=>by rw [d] at z;cases z⟩
 keep:=fun i h h' st k=>⟨let ⟨old,he⟩:=st.1;⟨old,k e (by simp) _ he⟩,st.2.at fun o z=>k it (by simp) o z⟩
 item:=by
  intro X hP hw hK hc i pins s σ H E I hf st hg;subst hP hw hK;refine aG fun _ qG=>?_;obtain ⟨xs,x,hq,hx⟩:=hg;obtain ⟨its,rv,p,hz⟩:=I.list hq;obtain ⟨u,hu,ru⟩:=rv.get hx;obtain ⟨⟨old,he⟩,hit⟩:=st;refine qG ?_;clear qG;refine wpAny_pyNext_enum_item he hit p.isList (x:=u) (by simpa using hu) hei fun h' ho hit' hT hsz hk=>⟨_,rfl,?_⟩;refine wpAny_letOwnedTupleGo_enum ho fun h'' he'' hs''=>?_;have kk:∀b o,b ∉ [e,it]->s.heap.get? b=some o->h''.get? b=some o:=fun b o hb q=>by
   have h1:b≠e:=fun z=>hb (by simp [z]);have h2:b≠it:=fun z=>hb (by simp [z]);exact (hs''.2 b h1).trans (hk b o h1 h2 q)
  have hTe:s.heap.objs.size≠e:=fun z=>absurd (Heap.lt_size he) (by rw [z];exact Nat.lt_irrefl _);have hit'' : h''.IsListIter it a (i+1):=hit'.at fun o y=>(hs''.2 it hei.symm).trans y;refine ⟨.ref s.heap.objs.size,upd H s.heap.objs.size (.tup [.int i,x]),I.turnLay kk (fun b hb=>?_) hf (Nat.le_refl _) ⟨by show 2<=sizeLine;decide,[.int i s.toks,u],.cons ⟨_,rfl⟩ (.cons ru .nil),?_⟩,rfl,⟨_,x,rfl,I.hok.fresh (Nat.le_refl _),rfl,fun ys hy=>by rw [I.list_inj hy hq];exact hx⟩,⟨⟨_,by simpa using he''⟩,hit''⟩,fun b hb=>?_⟩
  ·rcases List.mem_cons.mp hb with rfl | hb
   ·exact ⟨_,he''⟩
   ·have : b = it := by simpa using hb
    subst this;obtain ⟨o,z,_⟩:=hit'';exact ⟨o,z⟩
  ·exact ⟨_,(hs''.2 _ hTe).trans hT,rfl,_,rfl⟩
  ·have:b≠s.heap.objs.size:=by
    rcases List.mem_cons.mp hb with rfl | hb
    ·exact hTe.symm
    ·have e2 : b = it := by simpa using hb
     subst e2;obtain ⟨o,z,_⟩:=hit;exact Nat.ne_of_lt (Heap.lt_size z)
   rw [upd_ne this];exact (hf b hb).1
 done:=by
  intro X hP hw hK hc i pins s σ H E I hf st hg;subst hP hw hK;refine aG fun _ qG=>?_;obtain ⟨xs,hq,hx⟩:=hg;obtain ⟨its,rv,p,hz⟩:=I.list hq;obtain ⟨⟨old,he⟩,hit⟩:=st;obtain ⟨f0,f1,f2,f3,f4,f5⟩:=hf it (by simp);refine qG ?_;clear qG;have hl:=rv.length;exact wpAny_pyNext_enum_end (I.ok.hd hc) he hit p.isList (Array.getElem?_eq_none (by simp;omega)) fun h' eb=>⟨rfl,I.turned (t':=s.toks) (fun b o hb e=>eb b o hb e) f0 f1 f3 f4 f5⟩
 self:=fun _ _ _ _ _ st h=>let ⟨_,he⟩:=st.1;wpAny_pyIter_enum he h
section
variable {X:Cx}
end
noncomputable def Itv (K:PySem.W.Frag) (a:Addr) (n:Nat):It :=
 ⟨fun i H=>i < n/\∃xs,SqL K H a xs/\xs.length=n,fun i H x H'=>H'=H/\∀xs,SqL K H a xs->xs[n - 1 - i]?=some x,fun i H=>i=n⟩
theorem zsf {P:Program}{w:World}{K:PySem.W.Frag}{tg:Expr} (a it:Addr) (n:Nat):Turn P w K tg (Itv K a n) [it] it (fun i h=>h.IsRevIter it a ((n:Int) - 1 - (i:Int))) where
 mem:=by simp
 obj:=fun i h st b hb=>by
  have e:b=it:=by simpa using hb
  subst e;refine aG fun _ qG=>?_;obtain ⟨o,e,c,d⟩:=st;refine qG ?_;clear qG;exact ⟨o,e,fun v z=>by rw [d] at z;cases z⟩
 keep:=fun i h h' st k=>st.at fun o e=>k it (by simp) o e
 item:=by
  intro X hP hw hK hc i pins s σ H E I hf st hg;subst hP hw hK;refine aG fun _ qG=>?_;obtain ⟨hi,xs,hq,hn⟩:=hg;refine qG ?_;clear qG;have hlt:n - 1 - i < xs.length:=by omega
  refine aG fun _ qG=>?_;obtain ⟨its,rv,p,hz⟩:=I.list hq;obtain ⟨u,hu,ru⟩:=rv.get (List.getElem?_eq_getElem hlt);obtain ⟨f0,f1,f2,f3,f4,f5⟩:=hf it (by simp);refine qG ?_;clear qG;have e:(n:Int) - 1 - (i:Int)=((n - 1 - i:Nat):Int):=by omega
  have st':=st;rw [e] at st';refine wpAny_pyNext_rev_item st' p.isList (x:=u) (by simpa using hu) fun h' st' sb=>?_;have I1:Inv X pins σ H { s with heap:=h' }:=I.turned (t':=s.toks) (fun b o hb e=>(sb.2 b hb).trans e) f0 f1 f3 f4 f5;refine aG fun _ qG=>?_;obtain ⟨o,e2,c,d⟩:=id st';refine qG ?_;clear qG;have e3:((n - 1 - i:Nat):Int) - 1=(n:Int) - 1 - ((i+1:Nat):Int):=by omega
  rw [e3] at st';exact ⟨u,rfl,zpe (s:={ s with heap:=h' }) e2 c d (by decide) ⟨_,H,I1,ru,⟨rfl,fun ys hy=>by rw [I.list_inj hy hq];exact List.getElem?_eq_getElem hlt⟩,st',fun b hb=>(hf b hb).1⟩⟩
 done:=by
  intro X hP hw hK hc i pins s σ H E I hf st hg;subst hP hw hK;have hg' : i=n:=hg;subst hg';refine aG fun _ qG=>?_;obtain ⟨f0,f1,f2,f3,f4,f5⟩:=hf it (by simp);refine qG ?_;clear qG;have e:(i:Int) - 1 - (i:Int)=-1:=by omega
  rw [e] at st;exact wpAny_pyNext_rev_end (I.ok.hd hc) st fun h' eb=>⟨rfl,I.turned (t':=s.toks) (fun b o hb e=>eb b o hb e) f0 f1 f3 f4 f5⟩
 self:=fun _ _ _ _ _ st h=>wpAny_pyIter_revIter st h
section
variable {X:Cx}{tg:Expr}
noncomputable def iRev (K:PySem.W.Frag) (ta:TA):TI:=fun σ H R=>ta σ H fun vs H1=>∃a xs,vs=[.ref a]/\SqL K H1 a xs/\R (Itv K a xs.length) H1
theorem z1r {l:Expr}{tl:TA}{p pos:Pos} (hg:Gl X "reversed") (hm:X.mg "reversed" = none) (hl:PA X [l] tl) (hs:starEach [l] X.env=[(false,eval l X.env)]:=by rfl) :
    PI X tg (.Call (.Name "reversed" p) [l] [] pos) (iRev X.K tl):=by
  intro pins s σ H R I h;refine Call_ (zcv I hg hm boot_reversed (PyProof.Rows.callWith_type1 (thn (hl pos pins s σ H _ I h) fun us s1 ⟨vs,H1,I1,r1,q1⟩=>?_) hs rfl));refine aG fun _ qG=>?_;obtain ⟨a,xs,e,hq,q⟩:=q1;refine qG ?_;clear qG;subst e;cases r1 with
  | cons r rr =>
    cases rr;cases r;refine aG fun _ qG=>?_;obtain ⟨its,rv,p',hz⟩:=I1.list hq;refine qG ?_;clear qG;refine call_reversed_list p'.isList ?_;have hit:(s1.heap.push (revObj a ((its.toArray.size:Int) - 1))).IsRevIter s1.heap.objs.size a ((its.toArray.size:Int) - 1):=⟨_,Heap.get?_push_size _ rfl,rfl,rfl⟩;refine wpAny_pyIter_revIter hit ?_;refine ⟨s1.heap.objs.size,[s1.heap.objs.size],_,_,H1,rfl,I1.kept (t':=s1.toks) fun b o e=>Heap.get?_push_of_some _ e,zsf a _ xs.length,?_,fun b hb=>?_,q⟩
    · have e : ((its.toArray.size : Int) - 1) = (xs.length : Int) - 1 - ((0 : Nat) : Int) := by have := rv.length; simp; omega
      rw [e] at hit;have ge:((its.toArray.size:Int) - 1)=(xs.length:Int) - 1 - ((0:Nat):Int):=e;dsimp only;rw [<-ge];exact ⟨_,Heap.get?_push_size _ rfl,rfl,rfl⟩
    · have e : b = s1.heap.objs.size := by simpa using hb
      subst e;exact I1.fpOk (Nat.le_refl _) (I1.hok.fresh (Nat.le_refl _))
end
end L2
namespace L2
open PySem PySem.Spec PyProof.Rows
section
variable {κ:Type} [DecidableEq κ]
end
section
variable {P:Program}{w:World}{H:Hp}{h:Heap}{a:Addr}
end
section
variable {X:Cx}{pins:List (Addr × Obj)}{σ:St}{H:Hp}{s:Shared}{a:Addr}{y v:V}{u r:Value}{o:Option V}{A:Around}{E:Value->Shared->Prop}
end
section
variable {X:Cx}{pins:List (Addr × Obj)}{σ:St}{H:Hp}{s:Shared}{a:Addr}{kvs:List (Key × V)}{k:Key}{u:Value}{A:Around}{E:Value->Shared->Prop}
end
section
variable {X:Cx}{o i e value:Expr}{pos pos' tpos:Pos}{td ty tv:TE}
end
section
variable {X:Cx}{pos:Pos}
end
section
variable {X:Cx}{pins:List (Addr × Obj)}{σ:St}{H:Hp}{s:Shared}{a:Addr}{y d:V}{u r:Value}{o:Option V}{A:Around}{E:Value->Shared->Prop}
end
section
variable {X:Cx}{o e f:Expr}{apos cpos:Pos}{td ty tx:TE}
end
section
variable {X:Cx}{pins:List (Addr × Obj)}{σ:St}{H:Hp}{s:Shared}{a:Addr}{kvs:List (Key × V)}{A:Around}{E:Value->Shared->Prop}
end
section
variable {X:Cx}{pins:List (Addr × Obj)}{σ:St}{H:Hp}{s:Shared}{a:Addr}{y:V}{u:Value}{A:Around}{E:Value->Shared->Prop}
end
end L2
namespace L2
open PySem PySem.Spec PyProof.Rows
section
variable {X:Cx}
theorem z2b {bs:List Bool}{its:List Value}{i:Nat}{v:Value} (r:Vals (bs.map V.bl) its) (h:its[i]?=some v):∃b,bs[i]?=some b/\v=.bool b:=by
 have hl:=r.length;rw [List.length_map] at hl;have hi:i < bs.length:=by rw [hl];exact (List.getElem?_eq_some_iff.mp h).1
 obtain ⟨u,hu,ru⟩:=r.get (i:=i) (x:=.bl bs[i]) (by rw [List.getElem?_map,List.getElem?_eq_getElem hi];rfl);rw [h] at hu;obtain rfl:=sI hu;exact ⟨bs[i],List.getElem?_eq_getElem hi,ru⟩
theorem zgs {bs:List Bool}{i:Nat} (hi:i < bs.length):bs.getD i false=bs[i]:=by rw [List.getD_eq_getElem?_getD,List.getElem?_eq_getElem hi];rfl
theorem zq2 (bs:List Bool):((List.range bs.length).any fun i=>bs.getD i false)=bs.any id:=by
 rw [Bool.eq_iff_iff,List.any_eq_true,List.any_eq_true];constructor
 ·rintro ⟨i, hi, h⟩;rw [List.mem_range] at hi;refine ⟨bs[i],List.getElem_mem hi,?_⟩;rw [zgs hi] at h;exact h
 ·rintro ⟨b, hb, h⟩;obtain ⟨i,hi,e⟩:=List.mem_iff_getElem.mp hb;refine ⟨i,List.mem_range.mpr hi,?_⟩;rw [zgs hi,e];exact h
theorem zpo (bs:List Bool):((List.range bs.length).all fun i=>bs.getD i false)=bs.all id:=by
 rw [Bool.eq_iff_iff,List.all_eq_true,List.all_eq_true];constructor
 ·intro h b hb;obtain ⟨i,hi,e⟩:=List.mem_iff_getElem.mp hb;have:=h i (List.mem_range.mpr hi);rw [zgs hi,e] at this;exact this
 ·intro h i hi;rw [List.mem_range] at hi;rw [zgs hi];exact h _ (List.getElem_mem hi)
theorem zma {P:Program}{w:World}{A:Around}{bs:List Bool}{its:List Value} (r:Vals (bs.map V.bl) its):TruthOf P w A (fun i v=>its.toArray[i]?=some v) (fun i=>bs.getD i false):=fun i v s Q E hP hQ=>by
 obtain ⟨b,hb,e⟩:=z2b r (by simpa using hP);subst e;have:bs.getD i false=b:=by rw [List.getD_eq_getElem?_getD,hb];rfl
 have hQ' : Q (bs.getD i false) s:=hQ;rw [this] at hQ';exact wpAny_truthy_bool hQ'
theorem zsv (hc:X.calm=true):zbj X (.builtin "any") (fun xs H Q=>∃(a:Addr) (bs:List Bool),xs=[.ref a]/\SqL X.K H a (bs.map V.bl)/\Q (.bl (bs.any id)) H):=by
 intro pins s σ H xs us Q I r h;obtain ⟨a,bs,rfl,hq,q⟩:=h;obtain ⟨u,rfl,rx⟩:=vals1 r;cases rx;obtain ⟨its,rv,p,hz⟩:=I.list hq;have hl:=rv.length;rw [List.length_map] at hl;have ha:a < s.heap.objs.size:=by obtain ⟨o,e,_⟩:=p.isList;exact Heap.lt_size e
 refine call_any_walk (wpAny_pyIter_list p.isList ?_);refine ⟨s.heap.objs.size,_,[s.heap.objs.size],its.toArray.size,_,_,_,rfl,Walks.list (A:=X.A.in1) (show X.A.in1.handled=none from I.ok.hd hc) _ a (Nat.ne_of_lt ha) its.toArray,⟨⟨_,Heap.get?_push_size _ rfl,rfl,rfl⟩,p.isList.push _⟩,zma rv,fun h' tk hk=>?_⟩;have e:its.toArray.size=bs.length:=by simp;omega
 rw [e,zq2];refine ⟨.bl _,H,I.kept fun b o hb=>?_,rfl,q⟩;exact hk b o (by intro z;rw [List.mem_singleton] at z;subst z;exact absurd (Heap.lt_size hb) (Nat.lt_irrefl _)) (Heap.get?_push_of_some _ hb)
theorem zsc (hc:X.calm=true):zbj X (.builtin "all") (fun xs H Q=>∃(a:Addr) (bs:List Bool),xs=[.ref a]/\SqL X.K H a (bs.map V.bl)/\Q (.bl (bs.all id)) H):=by
 intro pins s σ H xs us Q I r h;obtain ⟨a,bs,rfl,hq,q⟩:=h;obtain ⟨u,rfl,rx⟩:=vals1 r;cases rx;obtain ⟨its,rv,p,hz⟩:=I.list hq;have hl:=rv.length;rw [List.length_map] at hl;have ha:a < s.heap.objs.size:=by obtain ⟨o,e,_⟩:=p.isList;exact Heap.lt_size e
 refine call_all_walk (wpAny_pyIter_list p.isList ?_);refine ⟨s.heap.objs.size,_,[s.heap.objs.size],its.toArray.size,_,_,_,rfl,Walks.list (A:=X.A.in1) (show X.A.in1.handled=none from I.ok.hd hc) _ a (Nat.ne_of_lt ha) its.toArray,⟨⟨_,Heap.get?_push_size _ rfl,rfl,rfl⟩,p.isList.push _⟩,zma rv,fun h' tk hk=>?_⟩;have e:its.toArray.size=bs.length:=by simp;omega
 rw [e,zpo];refine ⟨.bl _,H,I.kept fun b o hb=>?_,rfl,q⟩;exact hk b o (by intro z;rw [List.mem_singleton] at z;subst z;exact absurd (Heap.lt_size hb) (Nat.lt_irrefl _)) (Heap.get?_push_of_some _ hb)
theorem zrv:zbj X (.builtin "isinstance") (fun xs H Q=>∃x t c b,xs=[x,.ty c]/\TyOf X.K H x t/\PySem.W.kitOne X.K t (.type c)=some b/\Q (.bl b) H):=by
  intro pins s σ H xs us Q I r h;refine aG fun _ qG=>?_;obtain ⟨x,t,c,b,rfl,ty,e,q⟩:=h;refine qG ?_;clear qG;cases r with
  | cons rx rr =>
    obtain ⟨u,rfl,rc⟩:=vals1 rr;cases (show u=Value.type c from rc);exact zoa I rx ty e fun tk=>⟨.bl b,H,I.tok _,rfl,q⟩
end
end L2
namespace L2
open PySem PySem.Spec PyProof.Rows
noncomputable def z2v (i j:Int):Prop:=Builtin.Int.intBits i<=2 ^ 20/\Builtin.Int.intBits j<=2 ^ 20
theorem zyp {X:Cx}:OpR X (binaryOp .Mult) (rI z2v fun i j=>.int (i * j)):=opI fun _ _ _ _ _ _ _ hc q=>mul_int q (IntMulOk.of_bits hc.1 hc.2)
structure Cal (P:Program) (w:World) (K:PySem.W.Frag) (mg:Str->Option Value) (base:Heap) (n:Nat) (x:Str) (ps:List Str) (sp:Sp):Prop where
 ex:∃f fd,FnOk P w K mg base CX0 n f fd ps sp/\zjy K fd ps []/\PySem.W.keepIn K (.ref f)=true/\mg x=some (.ref f)
theorem zz4 {X:Cx}{n k:Nat}{x:Str}{ps:List Str}{sp:Sp}{e:Expr}{es:List Expr}{t:TA}{p pos:Pos} (C:Cal X.prog X.w X.K X.mg X.base n x ps sp) (hr:Room k X.A) (hg:Gl X x) (ha:PA X (e::es) t) (hk:n<=k:=by decide)
  (hdb:(x == ("__debug__" : Str))=false:=by decide) (hs:starEach (e::es) X.env=(false,eval e X.env)::starEach es X.env:=by rfl) (hpl:(backTo pos (starEach es X.env)).any (·.1)=false:=by rfl) :
  PE X (.Call (.Name x p) (e::es) [] pos) (zy2 sp [] E0 t):=by
 refine aG fun _ qG=>?_;obtain ⟨f,fd,F,b,kp,m⟩:=C.ex;refine qG ?_;clear qG;exact zy9 F (hr.mono hk) hg m kp b .nil z3r ha hdb hs hpl
theorem Same.new {p:Addr}{H:Hp} (h:H p=none) (o:HO):Same H (L2.upd H p o):=fun b u e=>by rw [upd_ne (zac e h)];exact e
theorem SqL.of' {K:PySem.W.Frag}{H:Hp}{a:Addr}{xs:List V} (h:H a=some (.lst xs)):SqL K H a xs:=.inl (.inl h)
noncomputable def MM:Int:=2305843009213693951
noncomputable def big:Nat:=1099511627776
noncomputable def Bits (xs:List Int):Prop:=∀x∈xs,x=0\/x=1
noncomputable def zaa (xs:List Int):Int:=xs.foldr (fun b a=>2 * a+b) 0
theorem zvd:bootBuiltins "len" = some (.builtin "len"):=by decide +kernel
theorem z11:bootBuiltins "abs" = some (.builtin "abs"):=by decide +kernel
theorem zz7:bootBuiltins "any" = some (.builtin "any"):=by decide +kernel
theorem z3b:bootBuiltins "all" = some (.builtin "all"):=by decide +kernel
theorem z10:bootBuiltins "sum" = some (.builtin "sum"):=by decide +kernel
theorem zhd:bootBuiltins "isinstance" = some (.builtin "isinstance"):=by decide +kernel
theorem zu2:bootBuiltins "int" = some (.type "int"):=by decide +kernel
theorem zyn:bootBuiltins "bool" = some (.type "bool"):=by decide +kernel
theorem zvq:bootBuiltins "str" = some (.type "str"):=by decide +kernel
theorem zge:bootBuiltins "tuple" = some (.type "tuple"):=by decide +kernel
theorem zy6:bootBuiltins "list" = some (.type "list"):=by decide +kernel
end L2
namespace L2
open PySem PySem.Spec PyProof.Rows
theorem zs6 {w:Int}{i:Nat} (h0:0 < w) (h:w<=2 ^ (200 * i)):0 < w * 10 ^ 60/\w * 10 ^ 60<=2 ^ (200 * (i+1)):=by
 have e:(2:Int) ^ (200 * (i+1))=2 ^ (200 * i) * 2 ^ 200:=by rw [Nat.mul_add,Int.pow_add]
 rw [e];refine ⟨Int.mul_pos h0 (by decide),?_⟩;have h1:w * 10 ^ 60<=2 ^ (200 * i) * 10 ^ 60:=Int.mul_le_mul_of_nonneg_right h (by decide);have h2:(2:Int) ^ (200 * i) * 10 ^ 60<=2 ^ (200 * i) * 2 ^ 200:=Int.mul_le_mul_of_nonneg_left (by decide) (by omega);omega
theorem zg2 {w:Int}{i:Nat} (h0:0<=w) (h:w<=2 ^ (200 * i)) (hi:i<=63):Builtin.Int.intBits w<=2 ^ 20:=by
 have h1:(2:Int) ^ (200 * i) < 2 ^ (200 * i+1):=by rw [Int.pow_succ];have:(0:Int) < 2 ^ (200 * i):=Int.pow_pos (by decide);omega
 have h2:w.natAbs < 2 ^ (200 * i+1):=by
  have:((w.natAbs:Nat):Int) < ((2 ^ (200 * i+1):Nat):Int):=by
   rw [Int.natCast_pow];have e:((w.natAbs:Nat):Int)=w:=by omega
   rw [e];exact Int.lt_of_le_of_lt h h1
  exact Int.ofNat_lt.mp this
 have:=PyProof.Rows.intBits_le h2;omega
theorem zce:∀{xs:List Int},Bits xs->0<=zaa xs/\zaa xs < 2 ^ xs.length
  | [],_=>by decide
  | x::r,h=>by
    have hx:=h x List.mem_cons_self;have ih:=zce (xs:=r) fun y hy=>h y (List.mem_cons_of_mem _ hy);show 0<=2 * zaa r+x/\2 * zaa r+x < 2 ^ (r.length+1);rw [Int.pow_succ];omega
end L2
namespace L2
open PySem PySem.Spec PyProof.Rows
noncomputable def zag:Expr->Bool
 | .Starred ..=>false
 | _=>true
theorem zaf {e:Expr}{es:List Expr}{env:Env} (h:zag e=true):starEach (e::es) env=(false,eval e env)::starEach es env:=by
 cases e<;>first | rfl | (cases h)
theorem pac {X:Cx}{e:Expr}{es:List Expr}{te:TE}{t:TA} (ha:PE X e te) (hr:PA X es t) (h:zag e=true:=by rfl):PA X (e::es) (zdd te t):=zwr ha hr (zaf h)
end L2
namespace L2
theorem noSome {α:Type}{a:α}{P:Prop} (h:none=some a):P:=by cases h
open PySem PySem.Spec PyProof.Rows
noncomputable abbrev DKey:=Key ⊕ List Key
inductive W where
 | non | bl (b:Bool) | int (i:Int) | str (x:Str) | tup (xs:List W) | lst (xs:List W) | frl (xs:List W) | dic | dct (ks:List DKey) (vs:List W) | dcz (ks:List DKey) (vs:List W)
 deriving BEq,Inhabited
mutual
inductive Rep (K:PySem.W.Frag) (F:Hp):W->V->Prop where
 | non:Rep K F .non .non
 | bl (b:Bool):Rep K F (.bl b) (.bl b)
 | int (i:Int):Rep K F (.int i) (.int i)
 | str (x:Str):Rep K F (.str x) (.str x)
 | tup {ws:List W}{a:Addr}{vs:List V} (h:F a=some (.tup vs)) (r:Reps K F ws vs):Rep K F (.tup ws) (.ref a)
 | lst {ws:List W}{a:Addr}{vs:List V} (h:F a=some (.lst vs)) (r:Reps K F ws vs):Rep K F (.lst ws) (.ref a)
 | frl {ws:List W}{a:Addr}{vs:List V} (h:SqL K F a vs) (r:Reps K F ws vs):Rep K F (.frl ws) (.ref a)
 | dic {a:Addr}{kvs:List (Key × V)} (h:F a=some (.dK kvs)):Rep K F .dic (.ref a)
 | dct {a:Addr}{ks:List Key}{ws:List W}{vs:List V} (h:F a=some (.dK (ks.zip vs))) (hl:ks.length=vs.length) (r:Reps K F ws vs):Rep K F (.dct (ks.map .inl) ws) (.ref a)
 | dctT {a:Addr}{ks:List (List Key)}{ws:List W}{vs:List V} (h:F a=some (.dT (ks.zip vs))) (hl:ks.length=vs.length) (r:Reps K F ws vs):Rep K F (.dct (ks.map .inr) ws) (.ref a)
 | dcz {a:Addr}{o:Obj}{ks:List Key}{ws:List W}{vs:List V} (h:F a=some (.frz o (.dK (ks.zip vs)))) (hl:ks.length=vs.length) (r:Reps K F ws vs):Rep K F (.dcz (ks.map .inl) ws) (.ref a)
 | dczT {a:Addr}{o:Obj}{ks:List (List Key)}{ws:List W}{vs:List V} (h:F a=some (.frz o (.dT (ks.zip vs)))) (hl:ks.length=vs.length) (r:Reps K F ws vs):Rep K F (.dcz (ks.map .inr) ws) (.ref a)
inductive Reps (K:PySem.W.Frag) (F:Hp):List W->List V->Prop where
 | nil:Reps K F [] []
 | cons {w:W}{v:V}{ws:List W}{vs:List V} (h:Rep K F w v) (r:Reps K F ws vs):Reps K F (w::ws) (v::vs)
end
theorem zcn {α:Type}{l:List α}{i j:Nat}{x y:α} (hi:i < l.length) (h:(l.set i x)[j]?=some y):(j=i/\y=x)\/(j≠i/\l[j]?=some y):=by
 by_cases e:j=i
 ·subst e;rw [List.getElem?_set_self hi] at h;exact .inl ⟨rfl,(sI h).symm⟩
 ·rw [List.getElem?_set_ne (Ne.symm e)] at h;exact .inr ⟨e,h⟩
theorem ztp {α:Type}{l:List α}{i:Nat}{x:α} (h:l[i]?=some x):l.set i x=l:=by
 apply List.ext_getElem?;intro j;by_cases e:j=i
 ·subst e;rw [List.getElem?_set_self (List.getElem?_eq_some_iff.mp h).1,h]
 ·rw [List.getElem?_set_ne (Ne.symm e)]
section
variable {K:PySem.W.Frag}{F F' H H' : Hp}
mutual
theorem Rep.mono (s:Same F F'):∀{w:W}{v:V},Rep K F w v->Rep K F' w v
 | _,_,.non=>.non
 | _,_,.bl b=>.bl b
 | _,_,.int i=>.int i
 | _,_,.str x=>.str x
 | _,_,.tup h r=>.tup (s _ _ h) (Reps.mono s r)
 | _,_,.lst h r=>.lst (s _ _ h) (Reps.mono s r)
 | _,_,.frl h r=>.frl (s.seq h) (Reps.mono s r)
 | _,_,.dic h=>.dic (s _ _ h)
 | _,_,.dct h hl r=>.dct (s _ _ h) hl (Reps.mono s r)
 | _,_,.dctT h hl r=>.dctT (s _ _ h) hl (Reps.mono s r)
 | _,_,.dcz h hl r=>.dcz (s _ _ h) hl (Reps.mono s r)
 | _,_,.dczT h hl r=>.dczT (s _ _ h) hl (Reps.mono s r)
theorem Reps.mono (s:Same F F'):∀{ws:List W}{vs:List V},Reps K F ws vs->Reps K F' ws vs
 | _,_,.nil=>.nil
 | _,_,.cons h r=>.cons (Rep.mono s h) (Reps.mono s r)
end
theorem Reps.length:∀{ws:List W}{vs:List V},Reps K F ws vs->ws.length=vs.length
 | _,_,.nil=>rfl
 | _,_,.cons _ r=>congrArg (· + 1) (Reps.length r)
theorem Reps.get:∀{ws:List W}{vs:List V}{i:Nat}{w:W},Reps K F ws vs->ws[i]?=some w->∃v,vs[i]?=some v/\Rep K F w v
  | _,_,_,_,.nil,e=>by simp at e
  | _,_,0,_,.cons h _,e=>by simp at e;subst e;exact ⟨_,rfl,h⟩
  | _,_,i+1,w,.cons _ r,e=>by
    obtain ⟨v,h1,h2⟩:=Reps.get (i:=i) (w:=w) r (by simpa using e);exact ⟨v,by simpa using h1,h2⟩
theorem Reps.getV:∀{ws:List W}{vs:List V}{i:Nat}{v:V},Reps K F ws vs->vs[i]?=some v->∃w,ws[i]?=some w/\Rep K F w v
  | _,_,_,_,.nil,e=>by simp at e
  | _,_,0,_,.cons h _,e=>by simp at e;subst e;exact ⟨_,rfl,h⟩
  | _,_,i+1,v,.cons _ r,e=>by
    obtain ⟨w,h1,h2⟩:=Reps.getV (i:=i) (v:=v) r (by simpa using e);exact ⟨w,by simpa using h1,h2⟩
theorem Reps.append:∀{xs ys:List W}{us ws:List V},Reps K F xs us->Reps K F ys ws->Reps K F (xs++ys) (us++ws)
 | _,_,_,_,.nil,s=>s
 | _,_,_,_,.cons h r,s=>.cons h (Reps.append r s)
theorem Reps.take:∀{xs:List W}{us:List V} (n:Nat),Reps K F xs us->Reps K F (xs.take n) (us.take n)
 | _,_,0,_=>.nil
 | _,_,_+1,.nil=>.nil
 | _,_,n+1,.cons h r=>.cons h (Reps.take n r)
theorem Reps.drop:∀{xs:List W}{us:List V} (n:Nat),Reps K F xs us->Reps K F (xs.drop n) (us.drop n)
 | _,_,0,r=>r
 | _,_,_+1,.nil=>.nil
 | _,_,n+1,.cons _ r=>Reps.drop n r
theorem Reps.set {w:W}{v:V} (h:Rep K F w v):∀{xs:List W}{us:List V} (i:Nat),Reps K F xs us->Reps K F (xs.set i w) (us.set i v)
 | _,_,_,.nil=>.nil
 | _,_,0,.cons _ r=>.cons h r
 | _,_,i+1,.cons q r=>.cons q (Reps.set h i r)
theorem Reps.rep {xs:List W}{us:List V} (r:Reps K F xs us):∀k:Nat,Reps K F (List.replicate k xs).flatten (List.replicate k us).flatten
 | 0=>.nil
 | k+1=>by rw [List.replicate_succ,List.replicate_succ,List.flatten_cons,List.flatten_cons];exact r.append (r.rep k)
noncomputable def isIt:W->V->Prop
 | .int i,v=>v=.int i
 | .bl b,v=>v=.bl b
 | _,_=>True
theorem Rep.isIt {w:W}{v:V} (h:Rep K F w v):isIt w v:=by cases h<;>first | rfl | trivial
theorem Reps.uncons {w:W}{ws:List W}{vs:List V} (h:Reps K F (w::ws) vs):∃v us,vs=v::us/\Rep K F w v/\Reps K F ws us:=by
 cases h with
 | cons h r=>exact ⟨_,_,rfl,h,r⟩
theorem Reps.ints:∀{ns:List Int}{vs:List V},Reps K F (ns.map W.int) vs->vs=ns.map V.int:=by
  intro ns
  induction ns with
  | nil=>intro vs h;cases h;rfl
  | cons n ns ih =>
    intro vs h;obtain ⟨v,us,e,h1,h2⟩:=Reps.uncons h;rw [e,ih h2,show v=.int n from h1.isIt];rfl
theorem Reps.ofInts:∀(ns:List Int),Reps K F (ns.map W.int) (ns.map V.int)
 | []=>.nil
 | n::ns=>.cons (.int n) (Reps.ofInts ns)
theorem Reps.bls:∀{bs:List Bool}{vs:List V},Reps K F (bs.map W.bl) vs->vs=bs.map V.bl:=by
  intro ns
  induction ns with
  | nil=>intro vs h;cases h;rfl
  | cons n ns ih =>
    intro vs h;obtain ⟨v,us,e,h1,h2⟩:=Reps.uncons h;rw [e,ih h2,show v=.bl n from h1.isIt];rfl
noncomputable abbrev En:=List (Option (W × Bool))
noncomputable abbrev Prt:=Addr->HO->Prop
inductive OwnR (K:PySem.W.Frag) (F:Hp):W->HO->Prop where
 | lst {ws:List W}{vs:List V} (r:Reps K F ws vs):OwnR K F (.lst ws) (.lst vs)
 | dct {ks:List Key}{ws:List W}{vs:List V} (hl:ks.length=vs.length) (r:Reps K F ws vs):OwnR K F (.dct (ks.map .inl) ws) (.dK (ks.zip vs))
 | dctT {ks:List (List Key)}{ws:List W}{vs:List V} (hl:ks.length=vs.length) (r:Reps K F ws vs):OwnR K F (.dct (ks.map .inr) ws) (.dT (ks.zip vs))
theorem OwnR.mono {w:W}{o:HO} (s:Same F F') (h:OwnR K F w o):OwnR K F' w o:=by
 cases h with
 | lst r=>exact .lst (r.mono s)
 | dct hl r=>exact .dct hl (r.mono s)
 | dctT hl r=>exact .dctT hl (r.mono s)
theorem OwnR.rep {w:W}{o:HO}{a:Addr} (h:OwnR K F w o) (e:F a=some o):Rep K F w (.ref a):=by
 cases h with
 | lst r=>exact .lst e r
 | dct hl r=>exact .dct e hl r
 | dctT hl r=>exact .dctT e hl r
theorem OwnR.list {ws:List W}{o:HO} (h:OwnR K F (.lst ws) o):∃vs,o=.lst vs/\Reps K F ws vs:=by
 cases h with
 | lst r=>exact ⟨_,rfl,r⟩
noncomputable def lams:List Str:=["_law_terms","_law_in_order","_law_poly_of","voted_terms","law"]
noncomputable def lamQ (x:Str):Str:=x++".<locals>."++"<lambda>"
noncomputable def zyl (c:Addr) (q:Str) (h:Heap):Prop:=∃oc vs t,h.get? c=some oc/\oc.data=.fields vs/\vs[1]?=some (.str q t)
noncomputable def zww (K:PySem.W.Frag):Prop:=∀x∈lams,∀x'∈lams,∀c c' P,PySem.W.tabIn K x=some (c,P)->PySem.W.tabIn K x'=some (c',P)->x=x'
noncomputable def NoT (pr:Prt):Prop:=∀b xs,¬ pr b (.tup xs)
noncomputable def zmv (K:PySem.W.Frag) (F:Hp) (pr:Prt) (H:Hp):Prop:=(zww K/\NoT pr)/\∀x∈lams,∀c P,PySem.W.tabIn K x=some (c,P)->∃ps:Array Value,H P=some (.tbl ps)/\F P=none/\(∀o,¬ pr P o)/\TriplesOk ps.toList /\
 ∀pos cv,codeAmong pos ps.toList=some cv->∃c',cv=.ref c'/\F c'=some (.ext (zyl c' (lamQ x)))
theorem zmv.go {F F' H H' : Hp}{pr pr' : Prt} (T:zmv K F pr H) (h4:∀b xs,pr' b (.tup xs)->pr b (.tup xs)) (h1:∀b ps,H b=some (.tbl ps)->F b=none->H' b=some (.tbl ps)/\F' b=none) (h2:Same F F') (h3:∀b ps,H b=some (.tbl ps)->(∀o,¬ pr b o)->∀o,¬ pr' b o):zmv K F' pr' H':=⟨⟨T.1.1,fun b xs z=>T.1.2 b xs (h4 b xs z)⟩,fun x hx c P e=>by
 refine aG fun _ qG=>?_;obtain ⟨ps,a1,a2,a3,a4,a5⟩:=T.2 x hx c P e;refine qG ?_;clear qG;refine ⟨ps,(h1 P ps a1 a2).1,(h1 P ps a1 a2).2,h3 P ps a1 a3,a4,fun pos cv q=>?_⟩;obtain ⟨c',b1,b2⟩:=a5 pos cv q;exact ⟨c',b1,h2 _ _ b2⟩⟩
structure Rel (K:PySem.W.Frag) (F:Hp) (pr:Prt) (en:En) (σ:St) (H:Hp):Prop where
 len:en.length=σ.length
 sub:Same F H
 val:∀(i:Nat) (w:W),en[i]?=some (some (w,false))->∃v,σ[i]?=some (some v)/\Rep K F w v
 own:∀(i:Nat) (w:W),en[i]?=some (some (w,true))->∃(a:Addr) (o:HO) (w' : W),w=w'/\σ[i]?=some (some (V.ref a))/\H a=some o/\F a=none/\OwnR K F w' o
 inj:∀(i j:Nat) (a:Addr) (w w' : W),en[i]?=some (some (w,true))->en[j]?=some (some (w',true))->σ[i]?=some (some (V.ref a))->σ[j]?=some (some (V.ref a))->i=j
 prt:∀b o,pr b o->H b=some o/\F b=none/\∀(i:Nat) (w:W),en[i]?=some (some (w,true))->σ[i]?≠some (some (V.ref b))
 tb:zmv K F pr H
noncomputable def Res (K:PySem.W.Frag) (F H:Hp) (pr:Prt) (en:En) (σ:St):W × Bool->V->Prop
 | (w,false),v=>Rep K F w v
 | (w,true),v=>∃(a:Addr) (o:HO) (w' : W),w=w'/\v=V.ref a/\H a=some o/\F a=none/\OwnR K F w' o/\(∀(i:Nat) (w' : W),en[i]?=some (some (w',true))->σ[i]?≠some (some (V.ref a)))/\∀b o,pr b o->b≠a
noncomputable def RepB (K:PySem.W.Frag) (F H:Hp) (w:W) (v:V):Prop:=Rep K F w v\/∃(a:Addr) (o:HO) (w' : W),w=w'/\v=V.ref a/\H a=some o/\OwnR K F w' o
inductive Out (K:PySem.W.Frag) (F H:Hp):W × Bool->V->Hp->Prop where
 | val {w:W}{v:V} (r:Rep K F w v):Out K F H (w,false) v H
 | lst {p:Addr}{ws:List W}{vs:List V} (n:H p=none) (r:Reps K F ws vs):Out K F H (.lst ws,true) (.ref p) (upd H p (.lst vs))
 | tup {p:Addr}{ws:List W}{vs:List V} (n:H p=none) (r:Reps K F ws vs):Out K F H (.tup ws,false) (.ref p) (upd H p (.tup vs))
theorem Same.upd_both {F H:Hp} (s:Same F H) (p:Addr) (o:HO):Same (upd F p o) (upd H p o):=fun b u e=>by
 by_cases hb:b=p
 ·subst hb;rw [upd_same] at e ⊢;exact e
 ·rw [upd_ne hb] at e ⊢;exact s _ _ e
variable {pr:Prt}{en:En}{σ:St}
theorem Rel.lay (R:Rel K F pr en σ H) {p:Addr} (hp:H p=none) (o:HO):Rel K F pr en σ (upd H p o):=by
 have ne:∀a u,H a=some u->a≠p:=fun a u e=>zac e hp;refine ⟨R.len,R.sub.trans (Same.new hp o),R.val,fun i w e=>?_,R.inj,fun q o2 hq=>?_,R.tb.go (fun _ _ z=>z) (fun b ps e f=>⟨by rw [upd_ne (ne b _ e)];exact e,f⟩) (.refl F) fun b ps e h=>h⟩
 ·refine aG fun Gg qG => ?_;obtain ⟨a,vs,ws,h1,h2,h3,h4,h5⟩:=R.own i w e;refine qG ?_;clear qG;exact ⟨a,vs,ws,h1,h2,by rw [upd_ne (ne a _ h3)];exact h3,h4,h5⟩
 ·obtain ⟨h1, h2, h3⟩ := R.prt q o2 hq;exact ⟨by rw [upd_ne (ne _ _ h1)];exact h1,h2,h3⟩
theorem Rel.layF (R:Rel K F pr en σ H) {p:Addr} (hp:H p=none) (o:HO):Rel K (upd F p o) pr en σ (upd H p o):=by
 have ne:∀a u,H a=some u->a≠p:=fun a u e=>zac e hp;have fp:F p=none:=R.sub.free hp;have s:Same F (upd F p o):=Same.new fp o;refine ⟨R.len,R.sub.upd_both p o,fun i w e=>?_,fun i w e=>?_,R.inj,fun q o2 hq=>?_,R.tb.go (fun _ _ z=>z) (fun b ps e f=>⟨by rw [upd_ne (ne b _ e)];exact e,by rw [upd_ne (ne b _ e)];exact f⟩) s fun b ps e h=>h⟩
 ·obtain ⟨v, h1, h2⟩ := R.val i w e;exact ⟨v,h1,h2.mono s⟩
 ·refine aG fun Gg qG => ?_;obtain ⟨a,vs,ws,h1,h2,h3,h4,h5⟩:=R.own i w e;refine qG ?_;clear qG;exact ⟨a,vs,ws,h1,h2,by rw [upd_ne (ne a _ h3)];exact h3,by rw [upd_ne (ne a _ h3)];exact h4,h5.mono s⟩
 ·obtain ⟨h1, h2, h3⟩ := R.prt q o2 hq;exact ⟨by rw [upd_ne (ne _ _ h1)];exact h1,by rw [upd_ne (ne _ _ h1)];exact h2,h3⟩
theorem Out.close {r:W × Bool}{v:V} (R:Rel K F pr en σ H) (o:Out K F H r v H'):∃F',Same F F'/\Rel K F' pr en σ H'/\Res K F' H' pr en σ r v:=by
  cases o with
  | val r=>exact ⟨F,.refl F,R,r⟩
  | @lst p ws vs n r =>
    refine ⟨F,.refl F,R.lay n _,p,_,_,rfl,rfl,upd_same,R.sub.free n,.lst r,fun i w' e z=>?_,fun q o2 hq z=>?_⟩
    · obtain ⟨a, vs, ws, h1, h2, h3, h4, h5⟩ := R.own i w' e
      rw [h2] at z;cases z;rw [n] at h3;exact noSome h3
    · have := (R.prt q o2 hq).1
      rw [z,n] at this;exact noSome this
  | @tup p ws vs n r=>exact ⟨upd F p (.tup vs),Same.new (R.sub.free n) _,R.layF n _,.tup upd_same (r.mono (Same.new (R.sub.free n) _))⟩
theorem Out.mono {r:W × Bool}{v:V} (s:Same F F') (o:Out K F H r v H'):Out K F' H r v H':=by
 cases o with
 | val r=>exact .val (r.mono s)
 | lst n r=>exact .lst n (r.mono s)
 | tup n r=>exact .tup n (r.mono s)
theorem Res.freeze {r:W × Bool}{v:V} (R:Rel K F pr en σ H) (h:Res K F H pr en σ r v):∃F',Same F F'/\Rel K F' pr en σ H/\Rep K F' r.1 v:=by
  obtain ⟨w,b⟩:=r;cases b with
  | false=>exact ⟨F,.refl F,R,h⟩
  | true =>
    refine aG fun _ qG=>?_;obtain ⟨a,vs,ws,rfl,rfl,h1,h2,h3,h4,h5⟩:=h;refine qG ?_;clear qG;have s:Same F (upd F a vs):=Same.new h2 _;have nt:∀ps,vs≠.tbl ps:=fun ps z=>by cases h3<;>cases z
    refine ⟨upd F a vs,s,⟨R.len,fun b u e=>?_,fun i w e=>?_,fun i w e=>?_,R.inj,fun q o2 hq=>?_,R.tb.go (fun _ _ z=>z) (fun b ps e f=>⟨e,by rw [upd_ne (fun z=>by subst z;rw [h1] at e;exact nt ps (sI e))];exact f⟩) s fun b ps e h=>h⟩,(h3.mono s).rep upd_same⟩
    · by_cases hb : b = a
      · subst hb;rw [upd_same] at e;obtain rfl:=sI e;exact h1
      · rw [upd_ne hb] at e;exact R.sub _ _ e
    · obtain ⟨v, q1, q2⟩ := R.val i w e
      exact ⟨v,q1,q2.mono s⟩
    · refine aG fun Gg qG => ?_
      obtain ⟨a',vs',ws',q1,q2,q3,q4,q5⟩:=R.own i w e;refine qG ?_;clear qG;have ne:a'≠a:=fun z=>by subst z;exact h4 i w e q2
      exact ⟨a',vs',ws',q1,q2,q3,by rw [upd_ne ne];exact q4,q5.mono s⟩
    · obtain ⟨q1, q2, q3⟩ := R.prt q o2 hq
      exact ⟨q1,by rw [upd_ne (h5 q o2 hq)];exact q2,q3⟩
theorem Rel.freeze (R:Rel K F pr en σ H) {i:Nat}{w:W}{v:V}{fl:Bool} (e:en[i]?=some (some (w,fl))) (hv:σ[i]?=some (some v)):∃F',Same F F'/\Rel K F' pr (en.set i (some (w,false))) σ H/\Rep K F' w v:=by
  have hi:i < en.length:=(List.getElem?_eq_some_iff.mp e).1;cases fl with
  | false =>
    obtain ⟨v',h1,h2⟩:=R.val i w e;rw [hv] at h1;cases h1;refine ⟨F,.refl F,?_,h2⟩;rw [ztp e];exact R
  | true =>
    refine aG fun _ qG=>?_;obtain ⟨a,vs,ws,e0,h2,h3,h4,h5⟩:=R.own i w e;refine qG ?_;clear qG;subst e0;rw [hv] at h2;cases h2;have s:Same F (upd F a vs):=Same.new h4 _;have nt:∀ps,vs≠.tbl ps:=fun ps z=>by cases h5<;>cases z
    have g:∀j w' b,(en.set i (some (w,false)))[j]?=some (some (w',b))->(j=i/\w'=w/\b=false)\/(j≠i/\en[j]?=some (some (w',b))):=fun j w' b h=>by
      rcases zcn hi h with ⟨z,q⟩ | z
      · cases q;exact .inl ⟨z,rfl,rfl⟩
      · exact .inr z
    refine ⟨upd F a vs,s,⟨by rw [List.length_set];exact R.len,fun b u e'=>?_,fun j w' e'=>?_,fun j w' e'=>?_,fun j k b w1 w2 e1 e2=>?_,fun q o2 hq=>?_,R.tb.go (fun _ _ z=>z) (fun b ps e f=>⟨e,by rw [upd_ne (fun z=>by subst z;rw [h3] at e;exact nt ps (sI e))];exact f⟩) s fun b ps e h=>h⟩,(h5.mono s).rep upd_same⟩
    · by_cases hb : b = a
      · subst hb;rw [upd_same] at e';obtain rfl:=sI e';exact h3
      · rw [upd_ne hb] at e';exact R.sub _ _ e'
    · rcases g j w' false e' with ⟨rfl, rfl, _⟩ | ⟨_, z⟩
      · exact ⟨_,hv,(h5.mono s).rep upd_same⟩
      · obtain ⟨v', q1, q2⟩ := R.val j w' z
        exact ⟨v',q1,q2.mono s⟩
    · rcases g j w' true e' with ⟨_, _, z⟩ | ⟨ne, z⟩
      · cases z
      · refine aG fun Gg qG => ?_
        obtain ⟨a',vs',ws',q1,q2,q3,q4,q5⟩:=R.own j w' z;refine qG ?_;clear qG;have ne2:a'≠a:=fun q=>by subst q;exact ne (R.inj j i a' _ _ z e q2 hv)
        exact ⟨a',vs',ws',q1,q2,q3,by rw [upd_ne ne2];exact q4,q5.mono s⟩
    · rcases g j w1 true e1 with ⟨_, _, z⟩ | ⟨_, z1⟩
      · cases z
      · rcases g k w2 true e2 with ⟨_, _, z⟩ | ⟨_, z2⟩
        · cases z
        · exact R.inj j k b _ _ z1 z2
    · obtain ⟨q1, q2, q3⟩ := R.prt q o2 hq
      have ne:q≠a:=fun z=>by
        have:=q3 i _ e;rw [hv,z] at this;exact this rfl
      refine ⟨q1,by rw [upd_ne ne];exact q2,fun j w' e'=>?_⟩;rcases g j w' true e' with ⟨_,_,z⟩ | ⟨_,z⟩
      · cases z
      · exact q3 j w' z
theorem Rel.repB (R:Rel K F pr en σ H) {i:Nat}{w:W}{fl:Bool}{v:V} (e:en[i]?=some (some (w,fl))) (hv:σ[i]?=some (some v)):RepB K F H w v:=by
  cases fl with
  | false =>
    obtain ⟨v',h1,h2⟩:=R.val i w e;rw [hv] at h1;cases h1;exact .inl h2
  | true =>
    refine aG fun _ qG=>?_;obtain ⟨a,o,ws,h1,h2,h3,h4,h5⟩:=R.own i w e;refine qG ?_;clear qG;rw [hv] at h2;cases h2;exact .inr ⟨a,o,ws,h1,rfl,h3,h5⟩
theorem Rel.has (R:Rel K F pr en σ H) {i:Nat}{w:W}{fl:Bool} (e:en[i]?=some (some (w,fl))):∃v,σ[i]?=some (some v):=by
 cases fl with
 | false=>obtain ⟨v,h,_⟩:=R.val i w e;exact ⟨v,h⟩
 | true=>obtain ⟨a,_,_,_,h,_⟩:=R.own i w e;exact ⟨_,h⟩
theorem Rel.store (R:Rel K F pr en σ H) {i:Nat}{r:W × Bool}{v:V} (h:Res K F H pr en σ r v) (hi:i < en.length):Rel K F pr (en.set i (some r)) (σ.set i (some v)) H:=by
 have hi' : i < σ.length:=by rw [<-R.len];exact hi
 have g:∀j x,(en.set i (some r))[j]?=some (some x)->(j=i/\x=r)\/(j≠i/\en[j]?=some (some x)):=fun j x h=>by
  rcases zcn hi h with ⟨z,q⟩ | z
  ·obtain rfl:=sI q;exact .inl ⟨z,rfl⟩
  ·exact .inr z
 have s1:(σ.set i (some v))[i]?=some (some v):=List.getElem?_set_self hi';have s2:∀j,j≠i->(σ.set i (some v))[j]?=σ[j]?:=fun j hj=>List.getElem?_set_ne (Ne.symm hj);refine ⟨by rw [List.length_set,List.length_set];exact R.len,R.sub,fun j w e=>?_,fun j w e=>?_,fun j k a w1 w2 e1 e2=>?_,fun q o2 hq=>?_,R.tb⟩
 ·rcases g j _ e with ⟨rfl, z⟩ | ⟨hj, z⟩
  ·subst z;exact ⟨v,s1,h⟩
  ·rw [s2 j hj];exact R.val j w z
 ·rcases g j _ e with ⟨rfl, z⟩ | ⟨hj, z⟩
  ·subst z;obtain ⟨a,vs,ws,h1,h2,h3,h4,h5,_⟩:=h;exact ⟨a,vs,ws,h1,by rw [s1,h2],h3,h4,h5⟩
  ·rw [s2 j hj];exact R.own j w z
 ·intro q1 q2;rcases g j _ e1 with ⟨rfl,z1⟩ | ⟨hj,z1⟩
  ·rcases g k _ e2 with ⟨rfl, z2⟩ | ⟨hk, z2⟩
   ·rfl
   ·subst z1;obtain ⟨a',vs,ws,h1,h2,h3,h4,h5,h6,_⟩:=h;rw [s1,h2] at q1;cases q1;rw [s2 k hk] at q2;exact absurd q2 (h6 k _ z2)
  ·rcases g k _ e2 with ⟨rfl, z2⟩ | ⟨hk, z2⟩
   ·subst z2;obtain ⟨a',vs,ws,h1,h2,h3,h4,h5,h6,_⟩:=h;rw [s1,h2] at q2;cases q2;rw [s2 j hj] at q1;exact absurd q1 (h6 j _ z1)
   ·rw [s2 j hj] at q1; rw [s2 k hk] at q2;exact R.inj j k a _ _ z1 z2 q1 q2
 ·obtain ⟨q1, q2, q3⟩ := R.prt q o2 hq;refine ⟨q1,q2,fun j w e=>?_⟩;rcases g j _ e with ⟨rfl,z⟩ | ⟨hj,z⟩
  ·subst z;obtain ⟨a',vs,ws,h1,h2,h3,h4,h5,h6,h7⟩:=h;rw [s1,h2];intro q';cases q';exact h7 q o2 hq rfl
  ·rw [s2 j hj];exact q3 j w z
theorem Rel.changeO (R:Rel K F pr en σ H) {i:Nat}{w w0:W}{a:Addr}{o0:HO} (e:en[i]?=some (some (w,true))) (hv:σ[i]?=some (some (.ref a))) (r:OwnR K F w0 o0):Rel K F pr (en.set i (some (w0,true))) σ (upd H a o0):=by
 have hi:i < en.length:=(List.getElem?_eq_some_iff.mp e).1;refine aG fun _ qG=>?_;obtain ⟨a0,vs,ws,h1,h2,h3,h4,h5⟩:=R.own i w e;refine qG ?_;clear qG;rw [hv] at h2;cases h2;have nt:∀ps,vs≠.tbl ps:=fun ps z=>by cases h5<;>cases z
 have nx:∀φ,vs≠.ext φ:=fun ps z=>by cases h5<;>cases z
 have g:∀j x,(en.set i (some (w0,true)))[j]?=some (some x)->(j=i/\x=(w0,true))\/(j≠i/\en[j]?=some (some x)):=fun j x h=>by
  rcases zcn hi h with ⟨z,q⟩ | z
  ·obtain rfl:=sI q;exact .inl ⟨z,rfl⟩
  ·exact .inr z
 refine ⟨by rw [List.length_set];exact R.len,fun b u hb=>?_,fun j w' e'=>?_,fun j w' e'=>?_,fun j k b w1 w2 e1 e2 q1 q2=>?_,fun q o2 hq=>?_,R.tb.go (fun _ _ z=>z) (fun b ps e f=>⟨by rw [upd_ne (fun z=>by subst z;rw [h3] at e;exact nt ps (sI e))];exact e,f⟩) (.refl F) fun b ps e h=>h⟩
 ·have : b ≠ a := fun z => by subst z; rw [h4] at hb; cases hb
  rw [upd_ne this];exact R.sub _ _ hb
 ·rcases g j _ e' with ⟨_, z⟩ | ⟨_, z⟩
  ·cases z
  ·exact R.val j w' z
 ·rcases g j _ e' with ⟨rfl, z⟩ | ⟨hj, z⟩
  ·cases z;exact ⟨a,o0,w0,rfl,hv,upd_same,h4,r⟩
  ·refine aG fun Gg qG => ?_;obtain ⟨a',vs2,ws2,q1,q2,q3,q4,q5⟩:=R.own j w' z;refine qG ?_;clear qG;have ne:a'≠a:=fun z'=>by subst z';exact hj (R.inj j i a' _ _ z e q2 hv)
   exact ⟨a',vs2,ws2,q1,q2,by rw [upd_ne ne];exact q3,q4,q5⟩
 ·have z1:∃w0,en[j]?=some (some (w0,true)):=by
   rcases g j _ e1 with ⟨rfl,_⟩ | ⟨_,z⟩
   ·exact ⟨_,e⟩
   ·exact ⟨_,z⟩
  have z2:∃w0,en[k]?=some (some (w0,true)):=by
   rcases g k _ e2 with ⟨rfl,_⟩ | ⟨_,z⟩
   ·exact ⟨_,e⟩
   ·exact ⟨_,z⟩
  obtain ⟨_,z1⟩:=z1;obtain ⟨_,z2⟩:=z2;exact R.inj j k b _ _ z1 z2 q1 q2
 ·obtain ⟨q1, q2, q3⟩ := R.prt q o2 hq;have ne:q≠a:=fun z=>by
   have:=q3 i _ e;rw [hv,z] at this;exact this rfl
  refine ⟨by rw [upd_ne ne];exact q1,q2,fun j w' e'=>?_⟩;rcases g j _ e' with ⟨rfl,_⟩ | ⟨_,z⟩
  ·exact q3 j _ e
  ·exact q3 j w' z
theorem Rel.change (R:Rel K F pr en σ H) {i:Nat}{w:W}{a:Addr}{ws' : List W}{vs' : List V} (e:en[i]?=some (some (w,true))) (hv:σ[i]?=some (some (.ref a))) (r:Reps K F ws' vs'):Rel K F pr (en.set i (some (.lst ws',true))) σ (upd H a (.lst vs')):=R.changeO e hv (.lst r)
theorem Rel.ownL (R:Rel K F pr en σ H) {i:Nat}{ws:List W} (e:en[i]?=some (some (.lst ws,true))):∃(a:Addr) (vs:List V) (ws' : List W),W.lst ws=.lst ws'/\σ[i]?=some (some (V.ref a))/\H a=some (.lst vs)/\F a=none/\Reps K F ws' vs:=by
 refine aG fun _ qG=>?_;obtain ⟨a,o,w',e1,h2,h3,h4,h5⟩:=R.own i _ e;refine qG ?_;clear qG;subst e1;obtain ⟨vs,rfl,r⟩:=h5.list;exact ⟨a,vs,ws,rfl,h2,h3,h4,r⟩
end
end L2
namespace L2
open PySem PySem.Spec PyProof.Rows
noncomputable abbrev GE:=En->Option (En × (W × Bool))
noncomputable abbrev GA:=En->Option (En × (W ⊕ Nat))
noncomputable abbrev GT:=En->Option (En × Bool)
noncomputable abbrev GAs:=En->Option (En × List (W ⊕ Nat))
noncomputable abbrev GL:=En->Option (En × List W)
noncomputable def ArgR (K:PySem.W.Frag) (F:Hp) (σ:St):W ⊕ Nat->V->Prop
 | .inl w,v=>Rep K F w v
 | .inr i,v=>σ[i]?=some (some v)
inductive ArgRs (K:PySem.W.Frag) (F:Hp) (σ:St):List (W ⊕ Nat)->List V->Prop where
 | nil:ArgRs K F σ [] []
 | cons {x:W ⊕ Nat}{v:V}{xs:List (W ⊕ Nat)}{vs:List V} (h:ArgR K F σ x v) (r:ArgRs K F σ xs vs):ArgRs K F σ (x::xs) (v::vs)
noncomputable def resA (en:En):W ⊕ Nat->Option W
  | .inl w=>some w
  | .inr i=>match en[i]? with
    | some (some (w,_))=>some w
    | _=>none
section
variable {K:PySem.W.Frag}{F F' H:Hp}{pr:Prt}{en:En}{σ:St}
theorem ArgR.mono (s:Same F F') {x:W ⊕ Nat}{v:V} (h:ArgR K F σ x v):ArgR K F' σ x v:=by
 cases x with
 | inl w=>exact Rep.mono s h
 | inr i=>exact h
theorem ArgR.repB (R:Rel K F pr en σ H) {x:W ⊕ Nat}{v:V}{w:W} (h:ArgR K F σ x v) (e:resA en x=some w):RepB K F H w v:=by
  cases x with
  | inl u=>obtain rfl:=sI e;exact .inl h
  | inr i =>
    unfold resA at e;cases q:en[i]? with
    | none=>simp only [q] at e;exact noSome e
    | some o =>
      cases o with
      | none=>simp only [q] at e;exact noSome e
      | some p =>
        obtain ⟨u,fl⟩:=p;simp only [q] at e;obtain rfl:=sI e;exact R.repB q h
end
noncomputable def tE (K:PySem.W.Frag) (g:GE):TE:=fun σ H Q=>∃F pr en en' r,Rel K F pr en σ H/\g en=some (en',r)/\∀F' H' v,Same F F'->Rel K F' pr en' σ H'->Res K F' H' pr en' σ r v->Q v H'
noncomputable def tA (K:PySem.W.Frag) (g:GA):TE:=fun σ H Q=>∃F pr en en' x,Rel K F pr en σ H/\g en=some (en',x)/\∀F' H' v,Same F F'->Rel K F' pr en' σ H'->ArgR K F' σ x v->Q v H'
noncomputable def tT (K:PySem.W.Frag) (g:GT):TT:=fun σ H Q=>∃F pr en en' b,Rel K F pr en σ H/\g en=some (en',b)/\∀F' H',Same F F'->Rel K F' pr en' σ H'->Q b H'
noncomputable def tAs (K:PySem.W.Frag) (g:GAs):TA:=fun σ H Q=>∃F pr en en' xs,Rel K F pr en σ H/\g en=some (en',xs)/\∀F' H' vs,Same F F'->Rel K F' pr en' σ H'->ArgRs K F' σ xs vs->Q vs H'
theorem PE.wk {X:Cx}{e:Expr}{t t' : TE} (h:PE X e t) (i:∀σ H Q,t' σ H Q->t σ H Q):PE X e t':=fun pins s σ H Q I q=>h pins s σ H Q I (i σ H Q q)
theorem PT.wk {X:Cx}{e:Expr}{t t' : TT} (h:PT X e t) (i:∀σ H Q,t' σ H Q->t σ H Q):PT X e t':=fun pins s σ H Q I q=>h pins s σ H Q I (i σ H Q q)
theorem PW.wk {X:Cx}{e:Expr}{t t' : TT} (h:PW X e t) (i:∀σ H Q,t' σ H Q->t σ H Q):PW X e t':=fun wh pins s σ H Q I q=>h wh pins s σ H Q I (i σ H Q q)
theorem PA.wk {X:Cx}{es:List Expr}{t t' : TA} (h:PA X es t) (i:∀σ H Q,t' σ H Q->t σ H Q):PA X es t':=fun pos pins s σ H Q I q=>h pos pins s σ H Q I (i σ H Q q)
theorem PS.wk {X:Cx}{st:Stmt}{t t' : TS} (h:PS X st t) (i:∀D σ H,t' D σ H->t D σ H):PS X st t':=fun pins s σ H D I q=>h pins s σ H D I (i D σ H q)
theorem PSs.wk {X:Cx}{st:List Stmt}{t t' : TS} (h:PSs X st t) (i:∀D σ H,t' D σ H->t D σ H):PSs X st t':=fun pins s σ H D I q=>h pins s σ H D I (i D σ H q)
theorem PI.wk {X:Cx}{tg e:Expr}{t t' : TI} (h:PI X tg e t) (i:∀σ H R,t' σ H R->t σ H R):PI X tg e t':=fun pins s σ H R I q=>h pins s σ H R I (i σ H R q)
noncomputable def gVar (i:Nat):GE:=fun en=>match en[i]? with
 | some (some (w,_))=>some (en.set i (some (w,false)),(w,false))
 | _=>none
noncomputable def zab (i:Nat):GA:=fun en=>match en[i]? with
 | some (some (w,true))=>some (en,.inr i)
 | some (some (w,false))=>some (en,.inl w)
 | _=>none
noncomputable def gC (w:W):GE:=fun en=>some (en,(w,false))
noncomputable def gArg (g:GE):GA:=fun en=>(g en).bind fun p=>some (p.1,.inl p.2.1)
noncomputable def gA0:GAs:=fun en=>some (en,[])
noncomputable def gCns (a:GA) (as:GAs):GAs:=fun en=>(a en).bind fun p=>(as p.1).bind fun q=>some (q.1,p.2::q.2)
noncomputable def gOp1 (o:W->Option (W × Bool)) (a:GA):GE:=fun en=>(a en).bind fun p=>(resA p.1 p.2).bind fun w=>(o w).bind fun r=>some (p.1,r)
noncomputable def gOp2 (o:W->W->Option (W × Bool)) (a b:GA):GE:=fun en=>(a en).bind fun p=>(b p.1).bind fun q=>(resA q.1 p.2).bind fun w=>(resA q.1 q.2).bind fun u=>(o w u).bind fun r=>some (q.1,r)
noncomputable def zak (en:En):List (W ⊕ Nat)->Option (List W)
 | []=>some []
 | x::xs=>(resA en x).bind fun w=>(zak en xs).bind fun ws=>some (w::ws)
noncomputable def gOpN (o:List W->Option (W × Bool)) (as:GAs):GE:=fun en=>(as en).bind fun p=>(zak p.1 p.2).bind fun ws=>(o ws).bind fun r=>some (p.1,r)
noncomputable def zai (g:GE):GT:=fun en=>match g en with
 | some (en',(.bl b,_))=>some (en',b)
 | _=>none
noncomputable def gAnd (a b:GE):GE:=fun en=>match a en with
 | some (en',(.bl true,_))=>b en'
 | some (en',(.bl false,_))=>some (en',(.bl false,false))
 | _=>none
noncomputable def gOr (a b:GE):GE:=fun en=>match a en with
 | some (en',(.bl true,_))=>some (en',(.bl true,false))
 | some (en',(.bl false,_))=>b en'
 | _=>none
noncomputable def gNot (a:GE):GE:=fun en=>match a en with
 | some (en',(.bl b,_))=>some (en',(.bl (!b),false))
 | _=>none
noncomputable def zfu (a b:GT):GT:=fun en=>match a en with
 | some (en',true)=>b en'
 | some (en',false)=>some (en',false)
 | none=>none
noncomputable def gOrT (a b:GT):GT:=fun en=>match a en with
 | some (en',true)=>some (en',true)
 | some (en',false)=>b en'
 | none=>none
noncomputable def zo0 (a:GT):GT:=fun en=>match a en with
 | some (en',b)=>some (en',!b)
 | none=>none
noncomputable def gIf (c:GT) (a b:GE):GE:=fun en=>match c en with
 | some (en',true)=>a en'
 | some (en',false)=>b en'
 | none=>none
section
variable {K:PySem.W.Frag}{σ:St}{H:Hp}
theorem zr8 {i:Nat}{Q:VK} (h:tE K (gVar i) σ H Q):tVar i σ H Q:=by
  obtain ⟨F,pr,en,en',r,R,h,q⟩:=h;unfold gVar at h;cases e:en[i]? with
  | none=>simp only [e] at h;exact noSome h
  | some o =>
    cases o with
    | none=>simp only [e] at h;exact noSome h
    | some p =>
      obtain ⟨w,fl⟩:=p;simp only [e] at h;cases h;obtain ⟨v,hv⟩:=R.has e;obtain ⟨F',s,R',z⟩:=R.freeze e hv;exact ⟨v,hv,q F' H v s R' z⟩
theorem zp5 {i:Nat}{Q:VK} (h:tA K (zab i) σ H Q):tVar i σ H Q:=by
  obtain ⟨F,pr,en,en',r,R,h,q⟩:=h;unfold zab at h;cases e:en[i]? with
  | none=>simp only [e] at h;exact noSome h
  | some o =>
    cases o with
    | none=>simp only [e] at h;exact noSome h
    | some p =>
      obtain ⟨w,fl⟩:=p;cases fl with
      | true =>
        simp only [e] at h;cases h;obtain ⟨v,hv⟩:=R.has e;exact ⟨v,hv,q F H v (.refl F) R hv⟩
      | false =>
        simp only [e] at h;cases h;obtain ⟨v,hv,z⟩:=R.val i w e;exact ⟨v,hv,q F H v (.refl F) R z⟩
theorem zc4 {w:W}{v:V}{Q:VK} (hr:∀F,Rep K F w v) (h:tE K (gC w) σ H Q):tC v σ H Q:=by
 obtain ⟨F,pr,en,en',r,R,h,q⟩:=h;cases h;exact q F H v (.refl F) R (hr F)
theorem zgp {g:GE}{Q:VK} (h:tA K (gArg g) σ H Q):tE K g σ H Q:=by
 obtain ⟨F,pr,en,en',x,R,h,q⟩:=h;obtain ⟨⟨e1,r⟩,h1,h⟩:=bS h;cases h;refine ⟨F,pr,en,e1,r,R,h1,fun F1 H1 v s1 R1 z=>?_⟩;obtain ⟨F2,s2,R2,y⟩:=z.freeze R1;exact q F2 H1 v (s1.trans s2) R2 y
theorem zlu {Q:List V->Hp->Prop} (h:tAs K gA0 σ H Q):tNil σ H Q:=by
 obtain ⟨F,pr,en,en',x,R,h,q⟩:=h;cases h;exact q F H [] (.refl F) R .nil
theorem zlx {a:GA}{as:GAs}{Q:List V->Hp->Prop} (h:tAs K (gCns a as) σ H Q):tA K a σ H fun x H1=>tAs K as σ H1 fun xs H2=>Q (x::xs) H2:=by
 refine aG fun _ qG=>?_;obtain ⟨F,pr,en,en',x,R,h,q⟩:=h;obtain ⟨⟨e1,y⟩,h1,h⟩:=bS h;obtain ⟨⟨e2,ys⟩,h2,h⟩:=bS h;refine qG ?_;clear qG;cases h;exact ⟨F,pr,en,e1,y,R,h1,fun F1 H1 v s1 R1 a1=>⟨F1,pr,e1,e2,ys,R1,h2,fun F2 H2 vs s2 R2 a2=>q F2 H2 (v::vs) (s1.trans s2) R2 (.cons (a1.mono s2) a2)⟩⟩
noncomputable def OpS (K:PySem.W.Frag) (r:R2) (o:W->W->Option (W × Bool)):Prop:=∀F H w1 w2 v1 v2 rv Q,Same F H->RepB K F H w1 v1->RepB K F H w2 v2->o w1 w2=some rv->(∀v H',Out K F H rv v H'->Q v H')->r v1 v2 H Q
theorem zb8 {r:R2}{o:W->W->Option (W × Bool)}{a b:GA}{Q:VK} (ho:OpS K r o) (h:tE K (gOp2 o a b) σ H Q):tOp r (tA K a) (tA K b) σ H Q:=by
 refine aG fun _ qG=>?_;obtain ⟨F,pr,en,en',rv,R,h,q⟩:=h;obtain ⟨⟨e1,x1⟩,h1,h⟩:=bS h;obtain ⟨⟨e2,x2⟩,h2,h⟩:=bS h;obtain ⟨w1,hw1,h⟩:=bS h;obtain ⟨w2,hw2,h⟩:=bS h;obtain ⟨r',hr,h⟩:=bS h;refine qG ?_;clear qG;cases h;refine ⟨F,pr,en,e1,x1,R,h1,fun F1 H1 v1 s1 R1 a1=>⟨F1,pr,e1,e2,x2,R1,h2,fun F2 H2 v2 s2 R2 a2=>?_⟩⟩;refine ho F2 H2 w1 w2 v1 v2 rv Q R2.sub ((a1.mono s2).repB R2 hw1) (a2.repB R2 hw2) hr fun v H' z=>?_;refine aG fun _ qG=>?_;obtain ⟨F3,s3,R3,y⟩:=z.close R2;refine qG ?_;clear qG;exact q F3 H' v (s1.trans (s2.trans s3)) R3 y
noncomputable def OpS1 (K:PySem.W.Frag) (r:V->Hp->VK->Prop) (o:W->Option (W × Bool)):Prop:=∀F H w v rv Q,Same F H->RepB K F H w v->o w=some rv->(∀u H',Out K F H rv u H'->Q u H')->r v H Q
theorem zrz {r:V->Hp->VK->Prop}{o:W->Option (W × Bool)}{a:GA}{Q:VK} (ho:OpS1 K r o) (h:tE K (gOp1 o a) σ H Q):tUn r (tA K a) σ H Q:=by
 refine aG fun _ qG=>?_;obtain ⟨F,pr,en,en',rv,R,h,q⟩:=h;obtain ⟨⟨e1,x1⟩,h1,h⟩:=bS h;obtain ⟨w1,hw1,h⟩:=bS h;obtain ⟨r',hr,h⟩:=bS h;refine qG ?_;clear qG;cases h;refine ⟨F,pr,en,e1,x1,R,h1,fun F1 H1 v1 s1 R1 a1=>?_⟩;refine ho F1 H1 w1 v1 rv Q R1.sub (a1.repB R1 hw1) hr fun v H' z=>?_;refine aG fun _ qG=>?_;obtain ⟨F3,s3,R3,y⟩:=z.close R1;refine qG ?_;clear qG;exact q F3 H' v (s1.trans s3) R3 y
inductive RepBs (K:PySem.W.Frag) (F H:Hp):List W->List V->Prop where
 | nil:RepBs K F H [] []
 | cons {w:W}{v:V}{ws:List W}{vs:List V} (h:RepB K F H w v) (r:RepBs K F H ws vs):RepBs K F H (w::ws) (v::vs)
theorem ArgRs.repBs {F:Hp}{pr:Prt}{en:En} (R:Rel K F pr en σ H):∀{xs:List (W ⊕ Nat)}{vs:List V}{ws:List W},ArgRs K F σ xs vs->zak en xs=some ws->RepBs K F H ws vs
  | _,_,_,.nil,e=>by obtain rfl:=sI e;exact .nil
  | _,_,_,.cons h r,e=>by
    obtain ⟨w,hw,e⟩:=bS e;obtain ⟨ws,hws,e⟩:=bS e;obtain rfl:=sI e;exact .cons (h.repB R hw) (ArgRs.repBs R r hws)
noncomputable def OpSN (K:PySem.W.Frag) (r:List V->Hp->VK->Prop) (o:List W->Option (W × Bool)):Prop:=∀F H ws vs rv Q,Same F H->RepBs K F H ws vs->o ws=some rv->(∀u H',Out K F H rv u H'->Q u H')->r vs H Q
theorem zhg {r:List V->Hp->VK->Prop}{o:List W->Option (W × Bool)}{as:GAs}{Q:VK} (ho:OpSN K r o) (h:tE K (gOpN o as) σ H Q):tCB r (tAs K as) σ H Q:=by
 refine aG fun _ qG=>?_;obtain ⟨F,pr,en,en',rv,R,h,q⟩:=h;obtain ⟨⟨e1,x1⟩,h1,h⟩:=bS h;obtain ⟨w1,hw1,h⟩:=bS h;obtain ⟨r',hr,h⟩:=bS h;refine qG ?_;clear qG;cases h;refine ⟨F,pr,en,e1,x1,R,h1,fun F1 H1 v1 s1 R1 a1=>?_⟩;refine ho F1 H1 w1 v1 rv Q R1.sub (a1.repBs R1 hw1) hr fun v H' z=>?_;refine aG fun _ qG=>?_;obtain ⟨F3,s3,R3,y⟩:=z.close R1;refine qG ?_;clear qG;exact q F3 H' v (s1.trans s3) R3 y
theorem Res.isBl {F H:Hp}{pr:Prt}{en:En}{σ:St}{b fl:Bool}{v:V} (h:Res K F H pr en σ (.bl b,fl) v):v=.bl b:=by
 cases fl with
 | false=>cases (show Rep K F (.bl b) v from h);rfl
 | true=>obtain ⟨_,_,_,e,_,_,_,q,_⟩:=h;subst e;cases q
theorem zfm {g:GE}{t:TE}{Q:Bool->Hp->Prop} (ht:∀σ H Q,tE K g σ H Q->t σ H Q) (h:tT K (zai g) σ H Q):z08 t σ H Q:=by
  obtain ⟨F,pr,en,en',b,R,h,q⟩:=h;unfold zai at h;refine ht σ H _ ?_;cases e:g en with
  | none=>simp only [e] at h;exact noSome h
  | some p =>
    obtain ⟨e1,w,fl⟩:=p;cases w with
    | bl c=>simp only [e] at h;cases h;exact ⟨F,pr,en,_,_,R,e,fun F' H' v s' R' z=>⟨b,z.isBl,q F' H' s' R'⟩⟩
    | _=>simp only [e] at h;exact noSome h
theorem zth {a b:GE}{Q:VK} (h:tE K (gAnd a b) σ H Q):z0j (tE K a) (tE K b) σ H Q:=by
  refine aG fun _ qG=>?_;obtain ⟨F,pr,en,en',r,R,h,q⟩:=h;refine qG ?_;clear qG;unfold gAnd at h;cases e:a en with
  | none=>simp only [e] at h;exact noSome h
  | some p =>
    obtain ⟨e1,w,fl⟩:=p;cases w with
    | bl c =>
      refine ⟨F,pr,en,_,_,R,e,fun F1 H1 v s1 R1 z=>⟨c,z.isBl,?_⟩⟩;cases c with
      | true =>
        simp only [e] at h;exact iteT ⟨F1,pr,e1,en',r,R1,h,fun F2 H2 v s2 R2 z2=>q F2 H2 v (s1.trans s2) R2 z2⟩
      | false =>
        simp only [e] at h;cases h;exact iteF (q F1 H1 _ s1 R1 (.bl false))
    | _=>simp only [e] at h;exact noSome h
theorem zrj {a b:GT}{Q:Bool->Hp->Prop} (h:tT K (zfu a b) σ H Q):tAnd (tT K a) (tT K b) σ H Q:=by
  refine aG fun _ qG=>?_;obtain ⟨F,pr,en,en',r,R,h,q⟩:=h;refine qG ?_;clear qG;unfold zfu at h;cases e:a en with
  | none=>simp only [e] at h;exact noSome h
  | some p =>
    obtain ⟨e1,c⟩:=p;refine ⟨F,pr,en,_,_,R,e,fun F1 H1 s1 R1=>?_⟩;cases c with
    | true=>simp only [e] at h;exact iteT ⟨F1,pr,e1,en',r,R1,h,fun F2 H2 s2 R2=>q F2 H2 (s1.trans s2) R2⟩
    | false=>simp only [e] at h;cases h;exact iteF (q F1 H1 s1 R1)
theorem zr3 {a b:GT}{Q:Bool->Hp->Prop} (h:tT K (gOrT a b) σ H Q):tOr (tT K a) (tT K b) σ H Q:=by
  refine aG fun _ qG=>?_;obtain ⟨F,pr,en,en',r,R,h,q⟩:=h;refine qG ?_;clear qG;unfold gOrT at h;cases e:a en with
  | none=>simp only [e] at h;exact noSome h
  | some p =>
    obtain ⟨e1,c⟩:=p;refine ⟨F,pr,en,_,_,R,e,fun F1 H1 s1 R1=>?_⟩;cases c with
    | false=>simp only [e] at h;exact iteF ⟨F1,pr,e1,en',r,R1,h,fun F2 H2 s2 R2=>q F2 H2 (s1.trans s2) R2⟩
    | true=>simp only [e] at h;cases h;exact iteT (q F1 H1 s1 R1)
theorem zrp {a:GT}{Q:Bool->Hp->Prop} (h:tT K (zo0 a) σ H Q):tNot (tT K a) σ H Q:=by
  obtain ⟨F,pr,en,en',r,R,h,q⟩:=h;unfold zo0 at h;cases e:a en with
  | none=>simp only [e] at h;exact noSome h
  | some p =>
    obtain ⟨e1,c⟩:=p;simp only [e] at h;cases h;exact ⟨F,pr,en,_,_,R,e,fun F1 H1 s1 R1=>q F1 H1 s1 R1⟩
theorem zxe {c:GT}{a b:GE}{Q:VK} (h:tE K (gIf c a b) σ H Q):tIf (tT K c) (tE K a) (tE K b) σ H Q:=by
  refine aG fun _ qG=>?_;obtain ⟨F,pr,en,en',r,R,h,q⟩:=h;refine qG ?_;clear qG;unfold gIf at h;cases e:c en with
  | none=>simp only [e] at h;exact noSome h
  | some p =>
    obtain ⟨e1,d⟩:=p;refine ⟨F,pr,en,_,_,R,e,fun F1 H1 s1 R1=>?_⟩;cases d with
    | true=>simp only [e] at h;exact iteT ⟨F1,pr,e1,en',r,R1,h,fun F2 H2 v s2 R2 z=>q F2 H2 v (s1.trans s2) R2 z⟩
    | false=>simp only [e] at h;exact iteF ⟨F1,pr,e1,en',r,R1,h,fun F2 H2 v s2 R2 z=>q F2 H2 v (s1.trans s2) R2 z⟩
end
noncomputable def zba:List (W ⊕ Nat)->Option (List W)
 | []=>some []
 | .inl w::xs=>(zba xs).bind fun ws=>some (w::ws)
 | .inr _::_=>none
theorem ArgRs.reps {K:PySem.W.Frag}{F:Hp}{σ:St}:∀{xs:List (W ⊕ Nat)}{vs:List V}{ws:List W},ArgRs K F σ xs vs->zba xs=some ws->Reps K F ws vs
  | _,_,_,.nil,e=>by obtain rfl:=sI e;exact .nil
  | .inl w::xs,_,_,.cons h r,e=>by
    obtain ⟨ws,hws,e⟩:=bS (show (zba xs).bind _=_ from e);obtain rfl:=sI e;exact .cons h (ArgRs.reps r hws)
  | .inr i::xs,_,_,.cons h r,e=>by exact noSome e
noncomputable def zi5 (as:GAs):GE:=fun en=>(as en).bind fun p=>(zba p.2).bind fun ws=>if ws.length<=sizeLine then some (p.1,(.tup ws,false)) else none
noncomputable def za8 (as:GAs):GE:=fun en=>(as en).bind fun p=>(zba p.2).bind fun ws=>if ws.length<=sizeLine then some (p.1,(.lst ws,true)) else none
section
variable {K:PySem.W.Frag}{σ:St}{H:Hp}
theorem zst {as:GAs}{Q:VK} (h:tE K (zi5 as) σ H Q):tTup (tAs K as) σ H Q:=by
 obtain ⟨F,pr,en,en',r,R,h,q⟩:=h;obtain ⟨⟨e1,xs⟩,h1,h⟩:=bS h;obtain ⟨ws,h2,h⟩:=bS h;split at h
 ·rename_i hz;cases h;refine ⟨F,pr,en,e1,xs,R,h1,fun F1 H1 vs s1 R1 a1=>?_⟩;have rr:=a1.reps h2;refine ⟨by rw [<-rr.length];exact hz,fun p hp=>?_⟩;obtain ⟨F2,s2,R2,z⟩:=(Out.tup (K:=K) hp rr).close R1;exact q F2 _ _ (s1.trans s2) R2 z
 ·exact noSome h
theorem ztr {as:GAs}{Q:VK} (h:tE K (za8 as) σ H Q):tLst (tAs K as) σ H Q:=by
 refine aG fun _ qG=>?_;obtain ⟨F,pr,en,en',r,R,h,q⟩:=h;obtain ⟨⟨e1,xs⟩,h1,h⟩:=bS h;obtain ⟨ws,h2,h⟩:=bS h;refine qG ?_;clear qG;split at h
 ·rename_i hz;cases h;refine ⟨F,pr,en,e1,xs,R,h1,fun F1 H1 vs s1 R1 a1=>?_⟩;have rr:=a1.reps h2;refine ⟨by rw [<-rr.length];exact hz,fun p hp=>?_⟩;refine aG fun _ qG=>?_;obtain ⟨F2,s2,R2,z⟩:=(Out.lst (K:=K) hp rr).close R1;refine qG ?_;clear qG;exact q F2 _ _ (s1.trans s2) R2 z
 ·exact noSome h
noncomputable def z0s (o o' : W->W->Option (W × Bool)) (a b c:GA):GE:=fun en=>(a en).bind fun p=>(b p.1).bind fun q=>(resA q.1 p.2).bind fun w=>(resA q.1 q.2).bind fun u=>match o w u with
 | some (.bl true,false)=>(c q.1).bind fun t=>(resA t.1 q.2).bind fun u'=>(resA t.1 t.2).bind fun z=>(o' u' z).bind fun r=>some (t.1,r)
 | some (.bl false,false)=>some (q.1,(.bl false,false))
 | _=>none
end
end L2
namespace L2
open PySem PySem.Spec PyProof.Rows
section
variable {K:PySem.W.Frag}{F H:Hp}{v:V}
theorem RepB.int {i:Int} (h:RepB K F H (.int i) v):v=.int i:=by
 rcases h with h | ⟨_,_,_,e,_,_,q⟩
 ·cases h;rfl
 ·subst e;cases q
theorem RepB.bl {b:Bool} (h:RepB K F H (.bl b) v):v=.bl b:=by
 rcases h with h | ⟨_,_,_,e,_,_,q⟩
 ·cases h;rfl
 ·subst e;cases q
theorem RepB.str {x:Str} (h:RepB K F H (.str x) v):v=.str x:=by
 rcases h with h | ⟨_,_,_,e,_,_,q⟩
 ·cases h;rfl
 ·subst e;cases q
theorem RepB.non (h:RepB K F H .non v):v=.non:=by
 rcases h with h | ⟨_,_,_,e,_,_,q⟩
 ·cases h;rfl
 ·subst e;cases q
theorem RepB.lst {ws:List W} (s:Same F H) (h:RepB K F H (.lst ws) v):∃a vs,v=.ref a/\H a=some (.lst vs)/\Reps K F ws vs:=by
 rcases h with h | ⟨a,o,ws',e,e2,h,r⟩
 ·cases h with
  | lst h r=>exact ⟨_,_,rfl,s _ _ h,r⟩
 ·subst e;obtain ⟨vs,rfl,r'⟩:=r.list;exact ⟨a,vs,e2,h,r'⟩
theorem RepB.tup {ws:List W} (s:Same F H) (h:RepB K F H (.tup ws) v):∃a vs,v=.ref a/\H a=some (.tup vs)/\F a=some (.tup vs)/\Reps K F ws vs:=by
 rcases h with h | ⟨_,_,_,e,_,_,q⟩
 ·cases h with
  | tup h r=>exact ⟨_,_,rfl,s _ _ h,h,r⟩
 ·subst e;cases q
theorem RepB.frl {ws:List W} (s:Same F H) (h:RepB K F H (.frl ws) v):∃a vs,v=.ref a/\SqL K H a vs/\Reps K F ws vs:=by
 rcases h with h | ⟨_,_,_,e,_,_,q⟩
 ·cases h with
  | frl h r=>exact ⟨_,_,rfl,s.seq h,r⟩
 ·subst e;cases q
noncomputable def seqL:W->Option (List W)
 | .lst ws=>some ws
 | .frl ws=>some ws
 | _=>none
noncomputable def seqW:W->Option (List W)
 | .lst ws=>some ws
 | .frl ws=>some ws
 | .tup ws=>some ws
 | _=>none
theorem RepB.seqL {w:W}{ws:List W} (s:Same F H) (h:RepB K F H w v) (e:L2.seqL w=some ws):∃a vs,v=.ref a/\SqL K H a vs/\Reps K F ws vs:=by
 cases w with
 | lst xs=>obtain rfl:=sI e;obtain ⟨a,vs,e,h,r⟩:=h.lst s;exact ⟨a,vs,e,SqL.of' h,r⟩
 | frl xs=>obtain rfl:=sI e;exact h.frl s
 | _=>exact noSome e
theorem RepB.seqW {w:W}{ws:List W} (s:Same F H) (h:RepB K F H w v) (e:L2.seqW w=some ws):∃a vs,v=.ref a/\(SqL K H a vs\/SqT K H a vs)/\Reps K F ws vs:=by
 cases w with
 | lst xs=>obtain rfl:=sI e;obtain ⟨a,vs,e,h,r⟩:=h.lst s;exact ⟨a,vs,e,.inl (SqL.of' h),r⟩
 | frl xs=>obtain rfl:=sI e;obtain ⟨a,vs,e,h,r⟩:=h.frl s;exact ⟨a,vs,e,.inl h,r⟩
 | tup xs=>obtain rfl:=sI e;obtain ⟨a,vs,e,h,_,r⟩:=h.tup s;exact ⟨a,vs,e,.inr (.inl (.inl h)),r⟩
 | _=>exact noSome e
end
noncomputable abbrev O2:=W->W->Option (W × Bool)
noncomputable def oI (c:Int->Int->Bool) (g:Int->Int->W):O2
 | .int i,.int j=>if c i j then some (g i j,false) else none
 | _,_=>none
section
variable {K:PySem.W.Frag}
theorem zht {c:Int->Int->Bool}{C:Int->Int->Prop}{g:Int->Int->W}{g' : Int->Int->V} (hc:∀i j,c i j=true->C i j) (hg:∀F i j,Rep K F (g i j) (g' i j)):OpS K (rI C g') (oI c g):=fun F H w1 w2 v1 v2 rv Q s r1 r2 e q=>by
  cases w1 with
  | int i =>
    cases w2 with
    | int j =>
      unfold oI at e;simp only at e;split at e
      · rename_i z
        obtain rfl:=sI e;exact ⟨i,j,r1.int,r2.int,hc i j z,q _ _ (.val (hg F i j))⟩
      · exact noSome e
    | _=>exact noSome e
  | _=>exact noSome e
theorem zbo {g:Int->Int->W}{g' : Int->Int->V} (hg:∀F i j,Rep K F (g i j) (g' i j)):OpS K (rI0 g') (oI (fun _ _=>true) g):=fun F H w1 w2 v1 v2 rv Q s r1 r2 e q=>by
  cases w1 with
  | int i =>
    cases w2 with
    | int j=>obtain rfl:=sI e;exact ⟨i,j,r1.int,r2.int,q _ _ (.val (hg F i j))⟩
    | _=>exact noSome e
  | _=>exact noSome e
theorem OpS.or {r r' : R2}{o o' : O2} (h:OpS K r o) (h' : OpS K r' o'):OpS K (fun x y H Q=>r x y H Q\/r' x y H Q) (fun a b=>match o a b with | some p=>some p | none=>o' a b):=fun F H w1 w2 v1 v2 rv Q s r1 r2 e q=>by
 cases z:o w1 w2 with
 | some p=>simp only [z] at e;obtain rfl:=sI e;exact .inl (h F H w1 w2 v1 v2 _ Q s r1 r2 z q)
 | none=>simp only [z] at e;exact .inr (h' F H w1 w2 v1 v2 _ Q s r1 r2 e q)
end
noncomputable def oOr (o o' : O2):O2:=fun a b=>match o a b with | some p=>some p | none=>o' a b
noncomputable def oCat:O2
 | .lst xs,.lst ys=>if xs.length+ys.length<=sizeLine then some (.lst (xs++ys),true) else none
 | _,_=>none
noncomputable def zsx:O2
 | .tup (x::xs),.tup ys=>if (x::xs).length+ys.length<=sizeLine then some (.tup (x::xs++ys),false) else none
 | _,_=>none
noncomputable def zwy:O2
 | .tup [],.tup ys=>some (.tup ys,false)
 | _,_=>none
noncomputable def zul:O2
 | .str x,.str y=>if x.length+y.length<=sizeLine then some (.str (x++y),false) else none
 | _,_=>none
noncomputable def oRep:O2
 | .lst xs,.int k=>if -(2 ^ 63)<=k/\k < 2 ^ 63/\xs.length * k.toNat<=sizeLine then some (.lst (List.replicate k.toNat xs).flatten,true) else none
 | _,_=>none
section
variable {K:PySem.W.Frag}
theorem zwl:OpS K rCat oCat:=fun F H w1 w2 v1 v2 rv Q s r1 r2 e q=>by
  cases w1 with
  | lst xs =>
    cases w2 with
    | lst ys =>
      unfold oCat at e;simp only at e;split at e
      · rename_i z
        obtain rfl:=sI e;refine aG fun _ qG=>?_;obtain ⟨a,vs,e1,h1,p1⟩:=r1.lst s;obtain ⟨b,us,e2,h2,p2⟩:=r2.lst s;refine qG ?_;clear qG;exact ⟨a,b,vs,us,e1,e2,h1,h2,by rw [<-p1.length,<-p2.length];exact z,fun p hp=>q _ _ (.lst hp (p1.append p2))⟩
      · exact noSome e
    | _=>exact noSome e
  | _=>exact noSome e
theorem zwe:OpS K rRep oRep:=fun F H w1 w2 v1 v2 rv Q s r1 r2 e q=>by
  cases w1 with
  | lst xs =>
    cases w2 with
    | int k =>
      unfold oRep at e;simp only at e;split at e
      · rename_i z
        obtain rfl:=sI e;obtain ⟨a,vs,e1,h1,p1⟩:=r1.lst s;exact ⟨a,k,vs,e1,r2.int,h1,z.1,z.2.1,by rw [<-p1.length];exact z.2.2,fun p hp=>q _ _ (.lst hp (p1.rep _))⟩
      · exact noSome e
    | _=>exact noSome e
  | _=>exact noSome e
theorem zs8:OpS K (z1s K) zsx:=fun F H w1 w2 v1 v2 rv Q s r1 r2 e q=>by
  cases w1 with
  | tup xs =>
    cases xs with
    | nil=>cases w2<;>exact noSome e
    | cons x xs =>
      cases w2 with
      | tup ys =>
        unfold zsx at e;simp only at e;split at e
        · rename_i z
          obtain rfl:=sI e;refine aG fun _ qG=>?_;obtain ⟨a,vs,e1,h1,f1,p1⟩:=r1.tup s;obtain ⟨b,us,e2,h2,f2,p2⟩:=r2.tup s;refine qG ?_;clear qG;refine ⟨a,b,vs,us,e1,e2,.inl (.inl h1),.inl (.inl h2),?_,by rw [<-p1.length,<-p2.length];exact z,fun hu=>?_,fun _ p hp=>q _ _ (.tup hp (p1.append p2))⟩
          · intro e;subst e;cases p1
          · subst hu
            cases p2;rw [List.append_nil] at q;exact q _ _ (.val (.tup f1 p1))
        · exact noSome e
      | _=>exact noSome e
  | _=>exact noSome e
mutual
inductive DV (H:Hp):V->PyData->Prop where
 | non:DV H .non .none
 | bl (b:Bool):DV H (.bl b) (.bool b)
 | int (i:Int):DV H (.int i) (.int i)
 | str (x:Str):DV H (.str x) (.str x)
 | tup {a:Addr}{vs:List V}{ds:List PyData} (h:H a=some (.tup vs)) (r:DVs H vs ds):DV H (.ref a) (.tuple ds)
 | lst {a:Addr}{vs:List V}{ds:List PyData} (h:H a=some (.lst vs)) (r:DVs H vs ds):DV H (.ref a) (.list ds)
inductive DVs (H:Hp):List V->List PyData->Prop where
 | nil:DVs H [] []
 | cons {v:V}{d:PyData}{vs:List V}{ds:List PyData} (h:DV H v d) (r:DVs H vs ds):DVs H (v::vs) (d::ds)
end
section
variable {X:Cx}{pins:List (Addr × Obj)}{σ:St}{H:Hp}{s:Shared}
mutual
theorem DV.reads (I:Inv X pins σ H s):∀{v:V}{d:PyData}{u:Value},DV H v d->RelV v u->∃as,Reads s.heap u d as
  | _,_,_,.non,r=>by cases (show _=Value.none from r);exact ⟨_,.none⟩
  | _,_,_,.bl b,r=>by cases (show _=Value.bool b from r);exact ⟨_,.bool b⟩
  | _,_,_,.int i,r=>by obtain ⟨t,e⟩:=(show ∃t,_=Value.int i t from r);subst e;exact ⟨_,.int i t⟩
  | _,_,_,.str x,r=>by obtain ⟨t,e⟩:=(show ∃t,_=Value.str x t from r);subst e;exact ⟨_,.str x t⟩
  | _,_,_,.tup h q,r=>by
    cases r;obtain ⟨its,rv,⟨o,e,c,n,dt⟩,_⟩:=I.tuple (.inl (.inl h));obtain ⟨as,ra⟩:=DVs.reads I q rv;exact ⟨as,.tuple e c dt (by simpa using ra)⟩
  | _,_,_,.lst h q,r=>by
    cases r;obtain ⟨its,rv,⟨o,n,e,c,_,dt⟩,_⟩:=I.list (SqL.of' h);obtain ⟨as,ra⟩:=DVs.reads I q rv;exact ⟨_,.list e c dt (by simpa using ra)⟩
theorem DVs.reads (I:Inv X pins σ H s):∀{vs:List V}{ds:List PyData}{us:List Value},DVs H vs ds->Vals vs us->∃as,ReadsAll s.heap us ds as
  | _,_,_,.nil,r=>by cases r;exact ⟨_,.nil⟩
  | _,_,_,.cons h q,r=>by
    cases r with
    | cons r1 r2 =>
      obtain ⟨as,a⟩:=DV.reads I h r1;obtain ⟨bs,b⟩:=DVs.reads I q r2;exact ⟨_,.cons a b⟩
end
end
mutual
noncomputable def dW:W->Option PyData
 | .non=>some .none
 | .bl b=>some (.bool b)
 | .int i=>some (.int i)
 | .str x=>some (.str x)
 | .tup ws=>(dWs ws).bind fun ds=>some (.tuple ds)
 | .lst ws=>(dWs ws).bind fun ds=>some (.list ds)
 | _=>none
noncomputable def dWs:List W->Option (List PyData)
 | []=>some []
 | w::ws=>(dW w).bind fun d=>(dWs ws).bind fun ds=>some (d::ds)
end
section
variable {K:PySem.W.Frag}{F H:Hp}
mutual
theorem rep_dv (s:Same F H):∀{w:W}{v:V}{d:PyData},Rep K F w v->dW w=some d->DV H v d
  | _,_,_,.non,e=>by obtain rfl:=sI e;exact .non
  | _,_,_,.bl b,e=>by obtain rfl:=sI e;exact .bl b
  | _,_,_,.int i,e=>by obtain rfl:=sI e;exact .int i
  | _,_,_,.str x,e=>by obtain rfl:=sI e;exact .str x
  | _,_,_,.tup h r,e=>by
    rw [dW] at e;obtain ⟨ds,e1,e2⟩:=bS e;obtain rfl:=sI e2;exact .tup (s _ _ h) (zeu s r e1)
  | _,_,_,.lst h r,e=>by
    rw [dW] at e;obtain ⟨ds,e1,e2⟩:=bS e;obtain rfl:=sI e2;exact .lst (s _ _ h) (zeu s r e1)
  | _,_,_,.frl _ _,e=>by exact noSome e
  | _,_,_,.dic _,e=>by exact noSome e
  | _,_,_,.dct _ _ _,e=>by exact noSome e
  | _,_,_,.dctT _ _ _,e=>by exact noSome e
  | _,_,_,.dcz _ _ _,e=>by exact noSome e
  | _,_,_,.dczT _ _ _,e=>by exact noSome e
theorem zeu (s:Same F H):∀{ws:List W}{vs:List V}{ds:List PyData},Reps K F ws vs->dWs ws=some ds->DVs H vs ds
  | _,_,_,.nil,e=>by cases e;exact .nil
  | _,_,_,.cons h r,e=>by
    rw [dWs] at e;obtain ⟨d,e1,e⟩:=bS e;obtain ⟨ds,e2,e3⟩:=bS e;cases e3;exact .cons (rep_dv s h e1) (zeu s r e2)
end
theorem zp3 {w:W}{v:V}{d:PyData} (s:Same F H) (r:RepB K F H w v) (hd:dW w=some d):DV H v d:=by
  rcases r with r | ⟨a,o,us,z,rfl,h,q⟩
  · exact rep_dv s r hd
  · subst z
    cases q with
    | dct hl q=>exact noSome hd
    | dctT hl q=>exact noSome hd
    | lst q =>
      rw [dW] at hd;obtain ⟨ds,e1,e2⟩:=bS hd;obtain rfl:=sI e2;exact .lst h (zeu s q e1)
end
noncomputable def rEqD (g:Bool->Bool):R2:=fun x y H Q=>∃d d',DV H x d/\DV H y d'/\d.canLay0=true/\d'.canLay0=true/\d.depth<=100/\Q (.bl (g (PyData.eqv d d'))) H
theorem z0p {X:Cx}{k:Nat} (hr:Room k X.A):OpR X (compareOp .Eq) (rEqD id):=by
 intro pins s σ H x y v u Q I rx ry h;refine aG fun _ qG=>?_;obtain ⟨d,d',d1,d2,h1,h2,h3,q⟩:=h;obtain ⟨as,ra⟩:=d1.reads I rx;obtain ⟨bs,rb⟩:=d2.reads I ry;refine qG ?_;clear qG;exact SeqAt.compareEq_reads ra rb h1 h2 (by have:=hr.un;omega) ⟨.bl _,H,I,rfl,q⟩
theorem z21 {X:Cx}{k:Nat} (hr:Room k X.A):OpR X (compareOp .NotEq) (rEqD not):=by
 intro pins s σ H x y v u Q I rx ry h;refine aG fun _ qG=>?_;obtain ⟨d,d',d1,d2,h1,h2,h3,q⟩:=h;obtain ⟨as,ra⟩:=d1.reads I rx;obtain ⟨bs,rb⟩:=d2.reads I ry;refine qG ?_;clear qG;exact SeqAt.neOverData X.prog X.w X.A X.xe s v u d d' as bs _ ra rb h1 h2 (by have:=hr.un;omega) ⟨.bl _,H,I,rfl,q⟩
noncomputable def eqD (a b:W):Option Bool:=(dW a).bind fun d=>(dW b).bind fun d'=>if d.canLay0 && d'.canLay0 && decide (d.depth<=100) then some (PyData.eqv d d') else none
theorem zux {K:PySem.W.Frag}{F H:Hp}{w1 w2:W}{v1 v2:V}{k:Bool} (s:Same F H) (r1:RepB K F H w1 v1) (r2:RepB K F H w2 v2) (e:eqD w1 w2=some k):∃d d',DV H v1 d/\DV H v2 d'/\d.canLay0=true/\d'.canLay0=true/\d.depth<=100/\k=PyData.eqv d d':=by
 refine aG fun _ qG=>?_;obtain ⟨d,h1,e⟩:=bS e;obtain ⟨d',h2,e⟩:=bS e;refine qG ?_;clear qG;split at e
 ·rename_i z;rw [Bool.and_eq_true,Bool.and_eq_true] at z;obtain rfl:=sI e;exact ⟨d,d',zp3 s r1 h1,zp3 s r2 h2,z.1.1,z.1.2,of_decide_eq_true z.2,rfl⟩
 ·exact noSome e
noncomputable def zwv:W->W->Option Bool
 | .non,.non=>some true | .non,.int _=>some false | .int _,.non=>some false | .non,.bl _=>some false | .bl _,.non=>some false | .non,.str _=>some false | .str _,.non=>some false
 | .int i,.int j=>some (decide (i=j)) | .bl i,.bl j=>some (decide (i=j)) | .str i,.str j=>some (decide (i=j))
 | .int _,.str _=>some false | .str _,.int _=>some false | .bl _,.str _=>some false | .str _,.bl _=>some false
 | _,_=>none
noncomputable def oEq:O2:=fun a b=>match zwv a b with
 | some k=>some (.bl k,false)
 | none=>(eqD a b).bind fun k=>some (.bl k,false)
noncomputable def oNe:O2:=fun a b=>match zwv a b with
 | some k=>some (.bl (!k),false)
 | none=>(eqD a b).bind fun k=>some (.bl (!k),false)
theorem zml {F H:Hp}{w1 w2:W}{v1 v2:V}{k:Bool} (r1:RepB K F H w1 v1) (r2:RepB K F H w2 v2) (e:zwv w1 w2=some k):scal v1 v2=true/\decide (v1=v2)=k:=by
  cases w1 with
  | non =>
    have:=r1.non;subst this;cases w2 with
    | non=>have:=r2.non;subst this;obtain rfl:=sI e;exact ⟨rfl,by decide⟩
    | int j=>have:=r2.int;subst this;obtain rfl:=sI e;exact ⟨rfl,by simp⟩
    | bl j=>have:=r2.bl;subst this;obtain rfl:=sI e;exact ⟨rfl,by simp⟩
    | str j=>have:=r2.str;subst this;obtain rfl:=sI e;exact ⟨rfl,by simp⟩
    | _=>exact noSome e
  | int i =>
    have:=r1.int;subst this;cases w2 with
    | non=>have:=r2.non;subst this;obtain rfl:=sI e;exact ⟨rfl,by simp⟩
    | int j=>have:=r2.int;subst this;obtain rfl:=sI e;exact ⟨rfl,by simp⟩
    | str j=>have:=r2.str;subst this;obtain rfl:=sI e;exact ⟨rfl,by simp⟩
    | _=>exact noSome e
  | bl i =>
    have:=r1.bl;subst this;cases w2 with
    | non=>have:=r2.non;subst this;obtain rfl:=sI e;exact ⟨rfl,by simp⟩
    | bl j=>have:=r2.bl;subst this;obtain rfl:=sI e;exact ⟨rfl,by simp⟩
    | str j=>have:=r2.str;subst this;obtain rfl:=sI e;exact ⟨rfl,by simp⟩
    | _=>exact noSome e
  | str i =>
    have:=r1.str;subst this;cases w2 with
    | non=>have:=r2.non;subst this;obtain rfl:=sI e;exact ⟨rfl,by simp⟩
    | int j=>have:=r2.int;subst this;obtain rfl:=sI e;exact ⟨rfl,by simp⟩
    | bl j=>have:=r2.bl;subst this;obtain rfl:=sI e;exact ⟨rfl,by simp⟩
    | str j=>have:=r2.str;subst this;obtain rfl:=sI e;exact ⟨rfl,by simp⟩
    | _=>exact noSome e
  | _=>cases w2<;>exact noSome e
theorem z09:OpS K (fun x y H Q=>rEq x y H Q\/rEqD id x y H Q) oEq:=fun F H w1 w2 v1 v2 rv Q s r1 r2 e q=>by
 unfold oEq at e;split at e
 ·rename_i k hk;obtain rfl:=sI e;obtain ⟨h1,h2⟩:=zml r1 r2 hk;refine .inl ⟨h1,?_⟩;rw [h2];exact q _ _ (.val (.bl k))
 ·obtain ⟨k, hk, e⟩ := bS e;obtain rfl:=sI e;refine aG fun _ qG=>?_;obtain ⟨d,d',d1,d2,h1,h2,h3,rfl⟩:=zux s r1 r2 hk;refine qG ?_;clear qG;exact .inr ⟨d,d',d1,d2,h1,h2,h3,q _ _ (.val (.bl _))⟩
theorem zzy:OpS K (fun x y H Q=>rNe x y H Q\/rEqD not x y H Q) oNe:=fun F H w1 w2 v1 v2 rv Q s r1 r2 e q=>by
 unfold oNe at e;split at e
 ·rename_i k hk;obtain rfl:=sI e;obtain ⟨h1,h2⟩:=zml r1 r2 hk;refine .inl ⟨h1,?_⟩;rw [h2];exact q _ _ (.val (.bl _))
 ·obtain ⟨k, hk, e⟩ := bS e;obtain rfl:=sI e;refine aG fun _ qG=>?_;obtain ⟨d,d',d1,d2,h1,h2,h3,rfl⟩:=zux s r1 r2 hk;refine qG ?_;clear qG;exact .inr ⟨d,d',d1,d2,h1,h2,h3,q _ _ (.val (.bl _))⟩
noncomputable def isW:W->W->Option Bool
 | .non,.non=>some true
 | _,.non=>some false
 | .bl a,.bl b=>some (decide (a=b))
 | _,.bl _=>some false
 | _,_=>none
noncomputable def oIs:O2:=fun a b=>(isW a b).bind fun k=>some (.bl k,false)
noncomputable def zfj:W->Bool
 | .non=>true
 | .bl _=>true
 | .int _=>true
 | .str _=>true
 | _=>false
noncomputable def eqF:W->W->Bool
 | .non,.non=>true
 | .bl a,.bl b=>a == b
 | .bl a,.int b=>(if a then 1 else 0) == b
 | .int a,.bl b=>a == (if b then 1 else 0)
 | .int a,.int b=>a == b
 | .str a,.str b=>a == b
 | _,_=>false
theorem Rep.flat {F:Hp}{w:W}{v:V} (h:Rep K F w v) (f:zfj w=true):zfv v=true:=by
 cases h<;>first | rfl | (cases f)
theorem Reps.flat {F:Hp}:∀{ws:List W}{vs:List V},Reps K F ws vs->ws.all zfj=true->vs.all zfv=true
  | _,_,.nil,_=>rfl
  | _,_,.cons h r,f=>by
    rw [List.all_cons,Bool.and_eq_true] at f ⊢;exact ⟨h.flat f.1,r.flat f.2⟩
theorem z2q {F F' : Hp}{w u:W}{v z:V} (h1:Rep K F w v) (h2:Rep K F' u z) (f1:zfj w=true) (f2:zfj u=true):eqV v z=eqF w u:=by
 cases h1<;>first | (cases f1;done) | (cases h2<;>first | rfl | (cases f2))
theorem zvg {F F' : Hp}{u:W}{z:V} (h2:Rep K F' u z) (f2:zfj u=true):∀{ws:List W}{vs:List V},Reps K F ws vs->ws.all zfj=true->inV z vs=ws.any fun y=>eqF y u
  | _,_,.nil,_=>rfl
  | _,_,.cons h r,f=>by
    rw [List.all_cons,Bool.and_eq_true] at f;have ih:=zvg h2 f2 r f.2;unfold inV at ih ⊢;rw [List.any_cons,List.any_cons,ih,z2q h h2 f.1 f2]
noncomputable def oIn (neg:Bool):O2:=fun a b=>(seqW b).bind fun ws=>if zfj a && ws.all zfj then some (.bl (if neg then !(ws.any fun y=>eqF y a) else ws.any fun y=>eqF y a),false) else none
theorem zo9 (neg:Bool):OpS K (rIn K neg) (oIn neg):=fun F H w1 w2 v1 v2 rv Q s r1 r2 e q=>by
 obtain ⟨ws,hs,e⟩:=bS e;split at e
 ·rename_i z;rw [Bool.and_eq_true] at z;obtain rfl:=sI e;obtain ⟨a,vs,e2,hq,p⟩:=r2.seqW s hs;have r1' : Rep K F w1 v1:=by
   rcases r1 with r | ⟨_,_,_,e,_,_,y⟩
   ·exact r
   ·subst e;cases y<;>cases z.1
  refine ⟨a,vs,e2,hq,r1'.flat z.1,p.flat z.2,?_⟩;rw [zvg r1' z.1 p z.2];exact q _ _ (.val (.bl _))
 ·exact noSome e
noncomputable def oIx:O2
 | a,.int i=>(seqW a).bind fun ws=>(atI ws i).bind fun w=>some (w,false)
 | _,_=>none
theorem zuk {F:Hp}{ws:List W}{vs:List V}{i:Int}{w:W} (r:Reps K F ws vs) (h:atI ws i=some w):∃v,atI vs i=some v/\Rep K F w v:=by
 unfold atI at h ⊢;rw [<-r.length];obtain ⟨j,h1,h2⟩:=bS h;obtain ⟨v,h3,h4⟩:=r.get h2;exact ⟨v,by rw [h1];exact h3,h4⟩
noncomputable def rIxB (K:PySem.W.Frag):R2:=fun x y H Q=>rIxL K x y H Q\/rIxT K x y H Q
theorem z0v:OpS K (rIxB K) oIx:=fun F H w1 w2 v1 v2 rv Q s r1 r2 e q=>by
  cases w2 with
  | int i =>
    obtain ⟨ws,hs,e⟩:=bS (show (seqW w1).bind _=_ from e);obtain ⟨w,hw,e⟩:=bS e;obtain rfl:=sI e;obtain ⟨a,vs,e1,hq,p⟩:=r1.seqW s hs;obtain ⟨v,hv,rv⟩:=zuk p hw;rcases hq with hq | hq
    · exact .inl ⟨a,vs,i,v,e1,r2.int,hq,hv,q _ _ (.val rv)⟩
    · exact .inr ⟨a,vs,i,v,e1,r2.int,hq,hv,q _ _ (.val rv)⟩
  | _=>cases w1<;>exact noSome e
noncomputable def oNeg:W->Option (W × Bool)
 | .int i=>some (.int (-i),false)
 | _=>none
theorem zxx:OpS1 K (rU fun i=>.int (-i)) oNeg:=fun F H w v rv Q s r e q=>by
 cases w with
 | int i=>obtain rfl:=sI e;exact ⟨i,r.int,q _ _ (.val (.int _))⟩
 | _=>exact noSome e
end
end L2
namespace L2
open PySem PySem.Spec PyProof.Rows
theorem zf9:∀(ns:List Int) (k:Nat),k<=ns.length->preSum (fun i=>ns.getD i 0) k=(ns.take k).sum
  | ns,0,_=>rfl
  | ns,k+1,h=>by
    have ih:=zf9 ns k (by omega);show preSum (fun i=>ns.getD i 0) k+ns.getD k 0=_;rw [ih,List.take_succ,List.sum_append];have hk:k < ns.length:=by omega
    rw [List.getElem?_eq_getElem hk,List.getD_eq_getElem?_getD,List.getElem?_eq_getElem hk];simp
section
variable {X:Cx}
theorem zkm {ns:List Int}{its:List Value}{i:Nat}{v:Value} (r:Vals (ns.map V.int) its) (h:its[i]?=some v):∃t,v=.int (ns.getD i 0) t:=by
 have hl:=r.length;rw [List.length_map] at hl;have hi:i < ns.length:=by rw [hl];exact (List.getElem?_eq_some_iff.mp h).1
 obtain ⟨u,hu,ru⟩:=r.get (i:=i) (x:=.int ns[i]) (by rw [List.getElem?_map,List.getElem?_eq_getElem hi];rfl);rw [h] at hu;obtain rfl:=sI hu;obtain ⟨t,e⟩:=ru;exact ⟨t,by rw [e,List.getD_eq_getElem?_getD,List.getElem?_eq_getElem hi];rfl⟩
theorem zpb (hc:X.calm=true):zbj X (.builtin "sum") (fun xs H Q=>∃(a:Addr) (ns:List Int),xs=[.ref a]/\SqL X.K H a (ns.map V.int)/\Q (.int ns.sum) H):=by
 intro pins s σ H xs us Q I r h;refine aG fun _ qG=>?_;obtain ⟨a,ns,rfl,hq,q⟩:=h;obtain ⟨u,rfl,rx⟩:=vals1 r;refine qG ?_;clear qG;cases rx;refine aG fun _ qG=>?_;obtain ⟨its,rv,p,hz⟩:=I.list hq;refine qG ?_;clear qG;have hl:=rv.length;rw [List.length_map] at hl;have ha:a < s.heap.objs.size:=by obtain ⟨o,e,_⟩:=p.isList;exact Heap.lt_size e
 refine call_sum_walkG (wpAny_pyIter_list p.isList ?_);refine ⟨s.heap.objs.size,_,[s.heap.objs.size],its.toArray.size,_,_,fun i=>ns.getD i 0,rfl,Walks.list (A:=X.A.in1) (show X.A.in1.handled=none from I.ok.hd hc) _ a (Nat.ne_of_lt ha) its.toArray,⟨⟨_,Heap.get?_push_size _ rfl,rfl,rfl⟩,p.isList.push _⟩,?_,fun i v hv=>zkm rv (by simpa using hv),fun h' tk t' hk=>?_⟩
 ·intro b hb;have e0:∀o:Obj,(s.heap.push o).objs.size=s.heap.objs.size+1:=fun o=>Heap.size_push ..;have hb' : b=s.heap.objs.size\/b=a:=by simpa using hb
  show b < (s.heap.push _).objs.size;rw [e0];rcases hb' with rfl | rfl
  ·exact Nat.lt_succ_self _
  ·exact Nat.lt_succ_of_lt ha
 ·have e : its.toArray.size = ns.length := by simp; omega
  rw [e,zf9 ns ns.length (Nat.le_refl _),List.take_length];refine ⟨.int _,H,I.kept fun b o hb=>?_,⟨_,rfl⟩,q⟩;exact hk b o (by intro z;rw [List.mem_singleton] at z;subst z;exact absurd (Heap.lt_size hb) (Nat.lt_irrefl _)) (Heap.get?_push_of_some _ hb)
noncomputable def mx1 (n:Int) (r:List Int):Int:=r.foldl (fun b x=>if x > b then x else b) n
theorem zn7 (n:Int) (r:List Int):∀k,k<=r.length->(n::r).getD (argBest (fun i j=>decide ((n::r).getD i 0 > (n::r).getD j 0)) k) 0=mx1 n (r.take k)
  | 0,_=>rfl
  | k+1,h=>by
    have ih:=zn7 n r k (by omega);have hk:k < r.length:=by omega
    have g:(n::r).getD (k+1) 0=r[k]:=by rw [List.getD_cons_succ,List.getD_eq_getElem?_getD,List.getElem?_eq_getElem hk];rfl
    have t:mx1 n (r.take (k+1))=if r[k] > mx1 n (r.take k) then r[k] else mx1 n (r.take k):=by
      unfold mx1;rw [List.take_succ,List.getElem?_eq_getElem hk,List.foldl_append];rfl
    rw [t];show (n::r).getD (if decide ((n::r).getD (k+1) 0 > (n::r).getD (argBest (fun i j=>decide ((n::r).getD i 0 > (n::r).getD j 0)) k) 0)=true then k+1 else argBest _ k) 0=_;rw [ih,g];by_cases c:r[k] > mx1 n (r.take k)
    · rw [decide_eq_true c,if_pos rfl,if_pos c,g]
    · rw [decide_eq_false c,if_neg Bool.false_ne_true,if_neg c,ih]
theorem zoz (hc:X.calm=true):zbj X (.builtin "max") (fun xs H Q=>(∃i j,xs=[.int i,.int j]/\Q (.int (if j > i then j else i)) H)\/∃(a:Addr) (n:Int) (r:List Int),xs=[.ref a]/\SqL X.K H a ((n::r).map V.int)/\Q (.int (mx1 n r)) H):=by
 intro pins s σ H xs us Q I r h;rcases h with h | h
 ·exact zpy hc pins s σ H xs us Q I r h
 obtain ⟨a,n,ns,rfl,hq,q⟩:=h;obtain ⟨u,rfl,rx⟩:=vals1 r;cases rx;obtain ⟨its,rv,p,hz⟩:=I.list hq;have hl:=rv.length;rw [List.length_map] at hl;have ha:a < s.heap.objs.size:=by obtain ⟨o,e,_⟩:=p.isList;exact Heap.lt_size e
 have iv:∀(i:Nat) (v:Value),its.toArray[i]?=some v->∃t,v=Value.int ((n::ns).getD i 0) t:=fun i v e=>zkm rv (by simpa using e);refine call_max_walk (wpAny_pyIter_list p.isList ?_);refine ⟨s.heap.objs.size,_,[s.heap.objs.size],its.toArray.size,_,_,_,rfl,Walks.list (A:=X.A.in1) (show X.A.in1.handled=none from I.ok.hd hc) _ a (Nat.ne_of_lt ha) its.toArray,⟨⟨_,Heap.get?_push_size _ rfl,rfl,rfl⟩,p.isList.push _⟩,fun b hb=>?_,by rw [List.size_toArray,<-hl];exact Nat.succ_pos _,CmpOf.ints_gt _ iv,fun v h' tk hv hk=>?_⟩
 ·rw [Heap.size_push];simp only [List.mem_cons,List.not_mem_nil,or_false] at hb;rcases hb with rfl | rfl
  ·exact Nat.lt_succ_self _
  ·exact Nat.lt_succ_of_lt ha
 ·obtain ⟨t, rfl⟩ := iv _ _ hv;have e:its.toArray.size - 1=ns.length:=by rw [List.size_toArray,<-hl];rfl
  refine ⟨.int _,H,I.kept fun b o hb=>hk b o (fun z=>by rw [List.mem_singleton] at z;subst z;exact absurd (Heap.lt_size hb) (Nat.lt_irrefl _)) (Heap.get?_push_of_some _ hb),⟨_,rfl⟩,?_⟩;rw [e,zn7 n ns ns.length (Nat.le_refl _),List.take_length];exact q
noncomputable def mn1 (n:Int) (r:List Int):Int:=r.foldl (fun b x=>if x < b then x else b) n
theorem zqt (n:Int) (r:List Int):∀k,k<=r.length->(n::r).getD (argBest (fun i j=>decide ((n::r).getD i 0 < (n::r).getD j 0)) k) 0=mn1 n (r.take k)
  | 0,_=>rfl
  | k+1,h=>by
    have ih:=zqt n r k (by omega);have hk:k < r.length:=by omega
    have g:(n::r).getD (k+1) 0=r[k]:=by rw [List.getD_cons_succ,List.getD_eq_getElem?_getD,List.getElem?_eq_getElem hk];rfl
    have t:mn1 n (r.take (k+1))=if r[k] < mn1 n (r.take k) then r[k] else mn1 n (r.take k):=by
      unfold mn1;rw [List.take_succ,List.getElem?_eq_getElem hk,List.foldl_append];rfl
    rw [t];show (n::r).getD (if decide ((n::r).getD (k+1) 0 < (n::r).getD (argBest (fun i j=>decide ((n::r).getD i 0 < (n::r).getD j 0)) k) 0)=true then k+1 else argBest _ k) 0=_;rw [ih,g];by_cases c:r[k] < mn1 n (r.take k)
    · rw [decide_eq_true c,if_pos rfl,if_pos c,g]
    · rw [decide_eq_false c,if_neg Bool.false_ne_true,if_neg c,ih]
theorem zn2 (hc:X.calm=true):zbj X (.builtin "min") (fun xs H Q=>(∃i j,xs=[.int i,.int j]/\Q (.int (if j < i then j else i)) H)\/∃(a:Addr) (n:Int) (r:List Int),xs=[.ref a]/\SqL X.K H a ((n::r).map V.int)/\Q (.int (mn1 n r)) H):=by
 intro pins s σ H xs us Q I r h;rcases h with h | h
 ·exact zoy hc pins s σ H xs us Q I r h
 obtain ⟨a,n,ns,rfl,hq,q⟩:=h;obtain ⟨u,rfl,rx⟩:=vals1 r;cases rx;obtain ⟨its,rv,p,hz⟩:=I.list hq;have hl:=rv.length;rw [List.length_map] at hl;have ha:a < s.heap.objs.size:=by obtain ⟨o,e,_⟩:=p.isList;exact Heap.lt_size e
 have iv:∀(i:Nat) (v:Value),its.toArray[i]?=some v->∃t,v=Value.int ((n::ns).getD i 0) t:=fun i v e=>zkm rv (by simpa using e);refine call_min_walk (wpAny_pyIter_list p.isList ?_);refine ⟨s.heap.objs.size,_,[s.heap.objs.size],its.toArray.size,_,_,_,rfl,Walks.list (A:=X.A.in1) (show X.A.in1.handled=none from I.ok.hd hc) _ a (Nat.ne_of_lt ha) its.toArray,⟨⟨_,Heap.get?_push_size _ rfl,rfl,rfl⟩,p.isList.push _⟩,fun b hb=>?_,by rw [List.size_toArray,<-hl];exact Nat.succ_pos _,CmpOf.ints_lt _ iv,fun v h' tk hv hk=>?_⟩
 ·rw [Heap.size_push];simp only [List.mem_cons,List.not_mem_nil,or_false] at hb;rcases hb with rfl | rfl
  ·exact Nat.lt_succ_self _
  ·exact Nat.lt_succ_of_lt ha
 ·obtain ⟨t, rfl⟩ := iv _ _ hv;have e:its.toArray.size - 1=ns.length:=by rw [List.size_toArray,<-hl];rfl
  refine ⟨.int _,H,I.kept fun b o hb=>hk b o (fun z=>by rw [List.mem_singleton] at z;subst z;exact absurd (Heap.lt_size hb) (Nat.lt_irrefl _)) (Heap.get?_push_of_some _ hb),⟨_,rfl⟩,?_⟩;rw [e,zqt n ns ns.length (Nat.le_refl _),List.take_length];exact q
theorem zx8:OpR X (binaryOp .Add) (fun x y H Q=>∃a b ys,x=.ref a/\y=.ref b/\SqT X.K H a []/\SqT X.K H b ys/\Q (.ref b) H):=by
 intro pins s σ H x y v u Q I rx ry h;refine aG fun _ qG=>?_;obtain ⟨a,b,ys,rfl,rfl,ha,hb,q⟩:=h;refine qG ?_;clear qG;cases rx;cases ry;refine aG fun _ qG=>?_;obtain ⟨its,r1,p1,_⟩:=I.tuple ha;obtain ⟨its2,r2,p2,_⟩:=I.tuple hb;obtain ⟨⟨c1,d1,t1,l1⟩,g1,k1,n1,q1⟩:=id p1;obtain ⟨⟨c2,d2,t2,l2⟩,g2,k2,n2,q2⟩:=id p2;refine qG ?_;clear qG;simp only at k1 q1 k2 q2;subst k1 q1 k2 q2;have e0:its=[]:=by cases r1;rfl
 subst e0;exact concat_meets (T := "tuple") ⟨_,g1,rfl⟩ ⟨_,g2,rfl⟩ noFill_tuple_add seq_tuple_add PySem.F.slot_tuple_add PySem.F.entry_tuple_add (PySem.F.args_tuple_add_2 _ _)
  (tuple_addW0 a b _ _ n1 n2 d1 d2 l1 l2 rfl) ⟨g1,g2,⟨.ref b,H,I.tok _,rfl,q⟩⟩
theorem ztl:OpR X (binaryOp .FloorDiv) (rI (fun _ j=>0 < j/\j.natAbs.log2 < 9000) fun i j=>.int (i / j)):=opI fun i j _ _ _ _ _ hc q=>by
 have h1:(0:Int) < j:=hc.1;exact floordiv_int (by omega) (by rw [Int.fdiv_eq_ediv_of_nonneg i (by omega)];exact q) (.inl (PyProof.noPylong_of_log2 hc.2))
end
section
variable {K:PySem.W.Frag}
noncomputable def z4f (K:PySem.W.Frag):R2:=fun x y H Q=>∃a b ys,x=.ref a/\y=.ref b/\SqT K H a []/\SqT K H b ys/\Q (.ref b) H
theorem zuc:OpS K (z4f K) zwy:=fun F H w1 w2 v1 v2 rv Q s r1 r2 e q=>by
  cases w1 with
  | tup xs =>
    cases xs with
    | cons _ _=>cases w2<;>exact noSome e
    | nil =>
      cases w2 with
      | tup ys =>
        obtain rfl:=sI e;refine aG fun _ qG=>?_;obtain ⟨a,vs,e1,h1,f1,p1⟩:=r1.tup s;obtain ⟨b,us,e2,h2,f2,p2⟩:=r2.tup s;refine qG ?_;clear qG;cases p1;subst e2;exact ⟨a,b,us,e1,rfl,.inl (.inl h1),.inl (.inl h2),q _ _ (.val (.tup f2 p2))⟩
      | _=>exact noSome e
  | _=>exact noSome e
noncomputable def z3f:R2:=fun x y H Q=>∃i j,x=.str i/\y=.str j/\i.length+j.length<=sizeLine/\Q (.str (i++j)) H
theorem zr4:OpS K z3f zul:=fun F H w1 w2 v1 v2 rv Q s r1 r2 e q=>by
  cases w1 with
  | str x =>
    cases w2 with
    | str y =>
      unfold zul at e;simp only at e;split at e
      · rename_i z;obtain rfl:=sI e;exact ⟨x,y,r1.str,r2.str,z,q _ _ (.val (.str _))⟩
      · exact noSome e
    | _=>exact noSome e
  | _=>exact noSome e
noncomputable abbrev ON:=List W->Option (W × Bool)
noncomputable def oLen:ON
 | [w]=>(seqW w).bind fun ws=>some (.int ws.length,false)
 | _=>none
theorem oLen_ok:OpSN K (fun xs H Q=>∃p ys,xs=[.ref p]/\(SqL K H p ys\/SqT K H p ys)/\Q (.int ys.length) H) oLen:=fun F H ws vs rv Q s r e q=>by
  cases r with
  | nil=>exact noSome e
  | cons h r =>
    cases r with
    | cons _ _=>exact noSome e
    | nil =>
      obtain ⟨ws,hs,e⟩:=bS (show (seqW _).bind _=_ from e);obtain rfl:=sI e;obtain ⟨a,vs,e1,hq,p⟩:=h.seqW s hs;subst e1;exact ⟨a,vs,rfl,hq,by rw [<-p.length];exact q _ _ (.val (.int _))⟩
noncomputable def oAbs:ON
 | [.int i]=>some (.int (if i < 0 then -i else i),false)
 | _=>none
theorem RepBs.one {F H:Hp}{w:W}{vs:List V} (r:RepBs K F H [w] vs):∃v,vs=[v]/\RepB K F H w v:=by
 cases r with
 | cons h r=>cases r;exact ⟨_,rfl,h⟩
theorem RepBs.two {F H:Hp}{w u:W}{vs:List V} (r:RepBs K F H [w,u] vs):∃v z,vs=[v,z]/\RepB K F H w v/\RepB K F H u z:=by
 cases r with
 | cons h r=>obtain ⟨z,e,h2⟩:=r.one;subst e;exact ⟨_,z,rfl,h,h2⟩
theorem zyx:OpSN K (fun xs H Q=>∃i,xs=[.int i]/\Q (.int (if i < 0 then -i else i)) H) oAbs:=fun F H ws vs rv Q s r e q=>by
  match ws,e with
  | [.int i],e =>
    obtain rfl:=sI e;obtain ⟨v,e1,h⟩:=r.one;subst e1;exact ⟨i,by rw [h.int],q _ _ (.val (.int _))⟩
noncomputable def oInt:ON
 | [.int i]=>some (.int i,false)
 | [.bl k]=>some (.int (if k then 1 else 0),false)
 | _=>none
theorem zw2:OpSN K (fun xs H Q=>(∃i,xs=[.int i]/\Q (.int i) H)\/∃k,xs=[.bl k]/\Q (.int (if k then 1 else 0)) H) oInt:=fun F H ws vs rv Q s r e q=>by
  match ws,e with
  | [.int i],e =>
    obtain rfl:=sI e;obtain ⟨v,e1,h⟩:=r.one;subst e1;exact .inl ⟨i,by rw [h.int],q _ _ (.val (.int _))⟩
  | [.bl k],e =>
    obtain rfl:=sI e;obtain ⟨v,e1,h⟩:=r.one;subst e1;exact .inr ⟨k,by rw [h.bl],q _ _ (.val (.int _))⟩
noncomputable def zec:ON
 | [.tup ws]=>some (.tup ws,false)
 | [w]=>(seqL w).bind fun ws=>some (.tup ws,false)
 | _=>none
theorem zpp:OpSN K (fun xs H Q=>∃p ys,xs=[.ref p]/\((SqL K H p ys/\∀l,H l=none->Q (.ref l) (upd H l (.tup ys)))\/(SqT K H p ys/\Q (.ref p) H))) zec:=fun F H ws vs rv Q s r e q=>by
  match ws,e with
  | [.tup ws],e =>
    obtain rfl:=sI e;refine aG fun _ qG=>?_;obtain ⟨v,e1,h⟩:=r.one;obtain ⟨a,us,e2,hq,f,p⟩:=h.tup s;refine qG ?_;clear qG;subst e1 e2;exact ⟨a,us,rfl,.inr ⟨.inl (.inl hq),q _ _ (.val (.tup f p))⟩⟩
  | [.lst ws],e =>
    obtain rfl:=sI e;refine aG fun _ qG=>?_;obtain ⟨v,e1,h⟩:=r.one;obtain ⟨a,us,e2,hq,p⟩:=h.lst s;refine qG ?_;clear qG;subst e1 e2;exact ⟨a,us,rfl,.inl ⟨SqL.of' hq,fun l hl=>q _ _ (.tup hl p)⟩⟩
  | [.frl ws],e =>
    obtain rfl:=sI e;refine aG fun _ qG=>?_;obtain ⟨v,e1,h⟩:=r.one;obtain ⟨a,us,e2,hq,p⟩:=h.frl s;refine qG ?_;clear qG;subst e1 e2;exact ⟨a,us,rfl,.inl ⟨hq,fun l hl=>q _ _ (.tup hl p)⟩⟩
  | [.non],e=>exact noSome e
  | [.bl _],e=>exact noSome e
  | [.int _],e=>exact noSome e
  | [.str _],e=>exact noSome e
  | [.dic],e=>exact noSome e
  | [.dct _ _],e=>exact noSome e
  | [.dcz _ _],e=>exact noSome e
noncomputable def zjz:List W->Option (List Bool)
 | []=>some []
 | .bl b::ws=>(zjz ws).bind fun bs=>some (b::bs)
 | _=>none
noncomputable def zcj:List W->Option (List Int)
 | []=>some []
 | .int b::ws=>(zcj ws).bind fun bs=>some (b::bs)
 | _=>none
theorem zlo:∀{ws:List W}{bs:List Bool},zjz ws=some bs->ws=bs.map W.bl
  | [],_,e=>by obtain rfl:=sI e;rfl
  | .bl b::ws,_,e=>by
    obtain ⟨bs,h,e⟩:=bS (show (zjz ws).bind _=_ from e);obtain rfl:=sI e;rw [zlo h];rfl
  | .non::_,_,e=>by exact noSome e
  | .int _::_,_,e=>by exact noSome e
  | .str _::_,_,e=>by exact noSome e
  | .tup _::_,_,e=>by exact noSome e
  | .lst _::_,_,e=>by exact noSome e
  | .frl _::_,_,e=>by exact noSome e
theorem zco:∀{ws:List W}{bs:List Int},zcj ws=some bs->ws=bs.map W.int
  | [],_,e=>by obtain rfl:=sI e;rfl
  | .int b::ws,_,e=>by
    obtain ⟨bs,h,e⟩:=bS (show (zcj ws).bind _=_ from e);obtain rfl:=sI e;rw [zco h];rfl
  | .non::_,_,e=>by exact noSome e
  | .bl _::_,_,e=>by exact noSome e
  | .str _::_,_,e=>by exact noSome e
  | .tup _::_,_,e=>by exact noSome e
  | .lst _::_,_,e=>by exact noSome e
  | .frl _::_,_,e=>by exact noSome e
theorem zd3:∀(ns:List Int),zcj (ns.map W.int)=some ns
 | []=>rfl
 | n::ns=>by show (zcj (ns.map W.int)).bind _=_;rw [zd3 ns];rfl
theorem zji:∀(ns:List Bool),zjz (ns.map W.bl)=some ns
 | []=>rfl
 | n::ns=>by show (zjz (ns.map W.bl)).bind _=_;rw [zji ns];rfl
noncomputable def oBl (f:List Bool->Bool):ON
 | [w]=>(seqL w).bind fun ws=>(zjz ws).bind fun bs=>some (.bl (f bs),false)
 | _=>none
theorem zvi {f:List Bool->Bool}:OpSN K (fun xs H Q=>∃(a:Addr) (bs:List Bool),xs=[.ref a]/\SqL K H a (bs.map V.bl)/\Q (.bl (f bs)) H) (oBl f):=fun F H ws vs rv Q s r e q=>by
  match ws,e with
  | [w],e =>
    refine aG fun _ qG=>?_;obtain ⟨ws,hs,e⟩:=bS (show (seqL _).bind _=_ from e);obtain ⟨bs,hb,e⟩:=bS e;refine qG ?_;clear qG;obtain rfl:=sI e;refine aG fun _ qG=>?_;obtain ⟨v,e1,h⟩:=r.one;obtain ⟨a,us,e2,hq,p⟩:=h.seqL s hs;refine qG ?_;clear qG;subst e1 e2;rw [zlo hb] at p;rw [p.bls] at hq;exact ⟨a,bs,rfl,hq,q _ _ (.val (.bl _))⟩
noncomputable def oSum:ON
 | [w]=>(seqL w).bind fun ws=>(zcj ws).bind fun ns=>some (.int ns.sum,false)
 | _=>none
theorem zv6:OpSN K (fun xs H Q=>∃(a:Addr) (ns:List Int),xs=[.ref a]/\SqL K H a (ns.map V.int)/\Q (.int ns.sum) H) oSum:=fun F H ws vs rv Q s r e q=>by
  match ws,e with
  | [w],e =>
    refine aG fun _ qG=>?_;obtain ⟨ws,hs,e⟩:=bS (show (seqL _).bind _=_ from e);obtain ⟨bs,hb,e⟩:=bS e;refine qG ?_;clear qG;obtain rfl:=sI e;refine aG fun _ qG=>?_;obtain ⟨v,e1,h⟩:=r.one;obtain ⟨a,us,e2,hq,p⟩:=h.seqL s hs;refine qG ?_;clear qG;subst e1 e2;rw [zco hb] at p;rw [p.ints] at hq;exact ⟨a,bs,rfl,hq,q _ _ (.val (.int _))⟩
noncomputable def mnW (w:W):Option (W × Bool):=(seqL w).bind fun ws=>(zcj ws).bind fun ns=>match ns with
 | n::r=>some (.int (mn1 n r),false)
 | []=>none
noncomputable def oMin:ON
 | [.int i,.int j]=>some (.int (if j < i then j else i),false)
 | [w]=>mnW w
 | _=>none
noncomputable def mxW (w:W):Option (W × Bool):=(seqL w).bind fun ws=>(zcj ws).bind fun ns=>match ns with
 | n::r=>some (.int (mx1 n r),false)
 | []=>none
noncomputable def mx2:W->W->Option (W × Bool)
 | .int i,.int j=>some (.int (if j > i then j else i),false)
 | _,_=>none
noncomputable def oMax:ON
 | [w]=>mxW w
 | [a,b]=>mx2 a b
 | _=>none
theorem zv1:OpSN K (fun xs H Q=>(∃i j,xs=[.int i,.int j]/\Q (.int (if j < i then j else i)) H)\/∃(a:Addr) (n:Int) (r:List Int),xs=[.ref a]/\SqL K H a ((n::r).map V.int)/\Q (.int (mn1 n r)) H) oMin:=fun F H ws vs rv Q s r e q=>by
  unfold oMin at e;split at e
  · obtain rfl := sI e
    obtain ⟨v,z,e1,h1,h2⟩:=r.two;subst e1;exact .inl ⟨_,_,by rw [h1.int,h2.int],q _ _ (.val (.int _))⟩
  · rename_i w
    refine aG fun _ qG=>?_;obtain ⟨ws,hs,e⟩:=bS (show (seqL w).bind _=some rv from e);obtain ⟨ns,hb,e⟩:=bS e;obtain ⟨v,e1,h⟩:=r.one;obtain ⟨a,us,e2,hq,p⟩:=h.seqL s hs;refine qG ?_;clear qG;subst e1 e2;rw [zco hb] at p;rw [p.ints] at hq;cases ns with
    | nil=>exact noSome e
    | cons n ns =>
      obtain rfl:=sI e;exact .inr ⟨a,n,ns,rfl,hq,q _ _ (.val (.int _))⟩
  · exact noSome e
theorem zv8:OpSN K (fun xs H Q=>(∃i j,xs=[.int i,.int j]/\Q (.int (if j > i then j else i)) H)\/∃(a:Addr) (n:Int) (r:List Int),xs=[.ref a]/\SqL K H a ((n::r).map V.int)/\Q (.int (mx1 n r)) H) oMax:=fun F H ws vs rv Q s r e q=>by
  match ws,e with
  | [x,y],e =>
    have e:mx2 x y=some rv:=e;unfold mx2 at e;split at e
    · obtain rfl := sI e
      refine aG fun _ qG=>?_;obtain ⟨v,z,e1,h1,h2⟩:=r.two;refine qG ?_;clear qG;subst e1;exact .inl ⟨_,_,by rw [h1.int,h2.int],q _ _ (.val (.int _))⟩
    · exact noSome e
  | [w],e =>
    refine aG fun _ qG=>?_;obtain ⟨ws,hs,e⟩:=bS (show (seqL w).bind _=some rv from e);obtain ⟨ns,hb,e⟩:=bS e;obtain ⟨v,e1,h⟩:=r.one;obtain ⟨a,us,e2,hq,p⟩:=h.seqL s hs;refine qG ?_;clear qG;subst e1 e2;rw [zco hb] at p;rw [p.ints] at hq;cases ns with
    | nil=>exact noSome e
    | cons n ns =>
      obtain rfl:=sI e;exact .inr ⟨a,n,ns,rfl,hq,q _ _ (.val (.int _))⟩
noncomputable def tyW:W->Option String
 | .non=>some "NoneType"
 | .bl _=>some "bool"
 | .int _=>some "int"
 | .str _=>some "str"
 | .tup _=>some "tuple"
 | .lst _=>some "list"
 | .frl _=>none
 | .dic=>none
 | .dct _ _=>none
 | .dcz _ _=>none
inductive Kd where
 | int | bool | str | tuple | list
 deriving DecidableEq
noncomputable def Kd.nm:Kd->String
 | .int => "int" | .bool => "bool" | .str => "str" | .tuple => "tuple" | .list => "list"
noncomputable def isiW (k:Kd):W->Option Bool
 | .non=>some false
 | .bl _=>some (k == .bool || k == .int)
 | .int _=>some (k == .int)
 | .str _=>some (k == .str)
 | .tup _=>some (k == .tuple)
 | .lst _=>some (k == .list)
 | .frl _=>none
 | .dic=>some false
 | .dct _ _=>some false
 | .dcz _ _=>none
noncomputable def oIsi (k:Kd) (w:W):Option (W × Bool):=(isiW k w).bind fun b=>some (.bl b,false)
theorem zyt {F H:Hp}{w:W}{v:V}{k:Kd}{b:Bool} (s:Same F H) (r:RepB K F H w v) (e:isiW k w=some b):∃t,TyOf K H v t/\PySem.W.kitOne K t (.type k.nm)=some b:=by
  cases w with
  | non=>rw [r.non];obtain rfl:=sI e;exact ⟨_,.non,by cases k<;>(with_unfolding_all rfl)⟩
  | bl x=>rw [r.bl];obtain rfl:=sI e;exact ⟨_,.bl x,by cases k<;>(with_unfolding_all rfl)⟩
  | int x=>rw [r.int];obtain rfl:=sI e;exact ⟨_,.int x,by cases k<;>(with_unfolding_all rfl)⟩
  | str x=>rw [r.str];obtain rfl:=sI e;exact ⟨_,.str x,by cases k<;>(with_unfolding_all rfl)⟩
  | tup x=>obtain ⟨a,vs,e1,h,_⟩:=r.tup s;subst e1;obtain rfl:=sI e;exact ⟨_,.tup h,by cases k<;>(with_unfolding_all rfl)⟩
  | lst x=>obtain ⟨a,vs,e1,h,_⟩:=r.lst s;subst e1;obtain rfl:=sI e;exact ⟨_,.lst h,by cases k<;>(with_unfolding_all rfl)⟩
  | frl x=>exact noSome e
  | dic =>
    rcases r with r | ⟨_,_,_,z,_,_,q⟩
    · cases r with
      | dic h=>obtain rfl:=sI e;exact ⟨_,.dK (s _ _ h),by cases k<;>(with_unfolding_all rfl)⟩
    · subst z;cases q
  | dct ks ws =>
    obtain rfl:=sI e;rcases r with r | ⟨_,_,_,z,e1,h,q⟩
    · cases r with
      | dct h _ _=>exact ⟨_,.dK (s _ _ h),by cases k<;>(with_unfolding_all rfl)⟩
      | dctT h _ _=>exact ⟨_,.dT (s _ _ h),by cases k<;>(with_unfolding_all rfl)⟩
    · subst z e1
      cases q with
      | dct _ _=>exact ⟨_,.dK h,by cases k<;>(with_unfolding_all rfl)⟩
      | dctT _ _=>exact ⟨_,.dT h,by cases k<;>(with_unfolding_all rfl)⟩
  | dcz ks ws=>exact noSome e
noncomputable def rIsi (K:PySem.W.Frag):List V->Hp->VK->Prop:=fun xs H Q=>∃x t c b,xs=[x,.ty c]/\TyOf K H x t/\PySem.W.kitOne K t (.type c)=some b/\Q (.bl b) H
theorem zsh {k:Kd}{a:GA}{σ:St}{H:Hp}{Q:VK} (h:tE K (gOp1 (oIsi k) a) σ H Q):tCB (rIsi K) (zdd (tA K a) (zdd (tC (.ty k.nm)) tNil)) σ H Q:=by
 refine aG fun _ qG=>?_;obtain ⟨F,pr,en,en',rv,R,h,q⟩:=h;obtain ⟨⟨e1,x1⟩,h1,h⟩:=bS h;obtain ⟨w1,hw1,h⟩:=bS h;obtain ⟨r',hr,h⟩:=bS h;obtain ⟨b,hb,hr⟩:=bS hr;refine qG ?_;clear qG;obtain rfl:=sI hr;cases h;refine ⟨F,pr,en,e1,x1,R,h1,fun F1 H1 v1 s1 R1 a1=>?_⟩;obtain ⟨t,ty,ek⟩:=zyt R1.sub (a1.repB R1 hw1) hb;exact ⟨v1,t,_,b,rfl,ty,ek,q F1 H1 _ s1 R1 (.bl b)⟩
noncomputable abbrev GO:=En->Option (En × Option Int)
noncomputable def zbv:GO:=fun en=>some (en,none)
noncomputable def zfl (g:GE):GO:=fun en=>match g en with
 | some (en',(.int i,_))=>some (en',some i)
 | _=>none
noncomputable def tO (K:PySem.W.Frag) (g:GO):TO:=fun σ H Q=>∃F pr en en' o,Rel K F pr en σ H/\g en=some (en',o)/\∀F' H',Same F F'->Rel K F' pr en' σ H'->Q o H'
theorem Res.isInt {F H:Hp}{pr:Prt}{en:En}{σ:St}{i:Int}{fl:Bool}{v:V} (h:Res K F H pr en σ (.int i,fl) v):v=.int i:=by
 cases fl with
 | false=>cases (show Rep K F (.int i) v from h);rfl
 | true=>obtain ⟨_,_,_,e,_,_,_,q,_⟩:=h;subst e;cases q
theorem zkx {σ:St}{H:Hp}{Q:Option Int->Hp->Prop} (h:tO K zbv σ H Q):zqu σ H Q:=by
 obtain ⟨F,pr,en,en',o,R,h,q⟩:=h;cases h;exact q F H (.refl F) R
theorem zq8 {g:GE}{σ:St}{H:Hp}{Q:Option Int->Hp->Prop} (h:tO K (zfl g) σ H Q):z2x (tE K g) σ H Q:=by
  refine aG fun _ qG=>?_;obtain ⟨F,pr,en,en',o,R,h,q⟩:=h;refine qG ?_;clear qG;unfold zfl at h;cases e:g en with
  | none=>simp only [e] at h;exact noSome h
  | some p =>
    obtain ⟨e1,w,fl⟩:=p;cases w with
    | int c=>simp only [e] at h;cases h;exact ⟨F,pr,en,_,_,R,e,fun F' H' v s' R' z=>⟨c,z.isInt,q F' H' s' R'⟩⟩
    | _=>simp only [e] at h;exact noSome h
open HT in
theorem zmx {prog:Program}{w:World}{A:Around}{E:Value->Shared->Prop}{s:Shared}{t sl:Addr}{items:Array Value}{vl vu:Value}{lo hi:Option Int}{Q:Value->Shared->Prop} (ht:IsTup s.heap t items) (hs:s.heap.IsSliceOf sl vl vu .none) (pl:IsPart vl lo) (pu:IsPart vu hi)
  (h0:sIx items.size 0 lo=0) (h1:sIx items.size items.size hi=items.size) (h:Q (.ref t) s):wpAny (model prog w) A (getItem (.ref t) (.ref sl)) Q E s:=by
 obtain ⟨os,g1,g2,_⟩:=id hs;have ty:s.TypeIs (.ref sl) "slice" := ⟨os,g1,g2⟩;unfold getItem
 try with_reducible refine wpAny_holding ?_
 first | refine wpAny_bind (wpAny_pure ?_) | skip
 refine wpAny_bind (wpAny_sequenceKey ht.typeIs (by decide) ?_);refine wpAny_bind (wpAny_callSpecial?_slot (name:=Str.ofString "__getitem__") ht.typeIs PyProof.Rows.slot_tuple_getitem (wpAny_call_entry PyProof.Rows.slot_tuple_getitem ht.typeIs entry_tuple_getitem ?_ (args_tuple_getitem _ _)));show wpAny _ _ (Builtin.Tuple.tupleItemsOf (.ref t) >>= _) _ _ s;refine wpAny_bind (tupleItemsOf_ ht ?_);refine wpAny_bind (wpAny_typeOf ty ?_);rw [if_pos (by decide)];refine wpAny_bind (zci hs pl pu ?_);rw [h0,h1];show wpAny _ _ (if ((((0:Nat):Int) == 0 && (1:Int) == 1 && (items.size - 0) == items.size)=true) then _ else _) _ _ s;rw [if_pos (by simp)];unfold Builtin.Tuple.tupleIsExact;refine wpAny_bind (wpAny_bind (wpAny_typeOf ht.typeIs (wpAny_pure ?_)));rw [if_pos (by decide)];refine wpAny_bind (wpAny_rule (wpAny_pure ⟨_,rfl,?_⟩));exact wpAny_pure h
noncomputable def rSlW (K:PySem.W.Frag):V->Option Int->Option Int->Hp->VK->Prop:=fun x lo hi H Q=>∃a xs,x=.ref a/\SqT K H a xs/\HT.sIx xs.length 0 lo=0/\HT.sIx xs.length xs.length hi=xs.length/\Q x H
theorem zzj {X:Cx}:SlR X (rSlW X.K):=by
 intro pins s σ H x v vl vu lo hi sl Q I rx hs pl pu h;refine aG fun _ qG=>?_;obtain ⟨a,xs,rfl,hx,h0,h1,q⟩:=h;refine qG ?_;clear qG;cases rx;refine aG fun _ qG=>?_;obtain ⟨its,r,ht,hz⟩:=I.tuple hx;refine qG ?_;clear qG;have hlen:its.toArray.size=xs.length:=by rw [List.size_toArray];exact r.length.symm
 exact ⟨"tuple",_,PyProof.Rows.slot_tuple_getitem.lookup,ht.typeIs,zmx ht hs pl pu (by rw [hlen];exact h0) (by rw [hlen];exact h1) ⟨.ref a,H,I,rfl,q⟩⟩
noncomputable def cutW (xs:List W) (lo hi:Option Int):List W:=(xs.drop (HT.sIx xs.length 0 lo)).take (HT.sIx xs.length xs.length hi - HT.sIx xs.length 0 lo)
noncomputable def oSl (w:W) (lo hi:Option Int):Option (W × Bool):=match w with
 | .lst ws=>some (.lst (cutW ws lo hi),true)
 | .frl ws=>some (.lst (cutW ws lo hi),true)
 | .tup ws=>some (.tup (cutW ws lo hi),false)
 | _=>none
noncomputable def rSlB (K:PySem.W.Frag):V->Option Int->Option Int->Hp->VK->Prop:=fun x lo hi H Q=>(rSlL K x lo hi H Q\/rSlT K x lo hi H Q)\/rSlW K x lo hi H Q
theorem z2w {F H:Hp}{w:W}{v:V}{lo hi:Option Int}{rv:W × Bool}{Q:VK} (s:Same F H) (r:RepB K F H w v) (e:oSl w lo hi=some rv) (q:∀u H',Out K F H rv u H'->Q u H'):rSlB K v lo hi H Q:=by
  have cut:∀{ws:List W}{vs:List V},Reps K F ws vs->Reps K F (cutW ws lo hi) (cutV vs lo hi):=fun {ws vs} p=>by
    unfold cutW cutV;rw [<-p.length];exact (p.drop _).take _
  cases w with
  | lst ws=>obtain rfl:=sI e;obtain ⟨a,vs,e1,h,p⟩:=r.lst s;exact .inl (.inl ⟨a,vs,e1,SqL.of' h,fun l hl=>q _ _ (.lst hl (cut p))⟩)
  | frl ws=>obtain rfl:=sI e;obtain ⟨a,vs,e1,h,p⟩:=r.frl s;exact .inl (.inl ⟨a,vs,e1,h,fun l hl=>q _ _ (.lst hl (cut p))⟩)
  | tup ws =>
    obtain rfl:=sI e;obtain ⟨a,vs,e1,h,hf,p⟩:=r.tup s;by_cases y:HT.sIx vs.length 0 lo=0/\HT.sIx vs.length vs.length hi=vs.length
    · refine .inr ⟨a, vs, e1, .inl (.inl h), y.1, y.2, ?_⟩
      have ew:cutW ws lo hi=ws:=by
        unfold cutW;rw [p.length,y.1,y.2,List.drop_zero,Nat.sub_zero,<-p.length,List.take_length]
      rw [ew] at q;subst e1;exact q _ _ (.val (.tup hf p))
    · exact .inl (.inr ⟨a,vs,e1,.inl (.inl h),y,fun l hl=>q _ _ (.tup hl (cut p))⟩)
  | _=>exact noSome e
noncomputable def gSl (a:GA) (lo hi:GO):GE:=fun en=>(a en).bind fun p=>(lo p.1).bind fun l=>(hi l.1).bind fun h=>(resA h.1 p.2).bind fun w=>(oSl w l.2 h.2).bind fun r=>some (h.1,r)
theorem zyg {a:GA}{lo hi:GO}{σ:St}{H:Hp}{Q:VK} (h:tE K (gSl a lo hi) σ H Q):tSl (rSlB K) (tA K a) (tO K lo) (tO K hi) σ H Q:=by
 refine aG fun _ qG=>?_;obtain ⟨F,pr,en,en',rv,R,h,q⟩:=h;obtain ⟨⟨e1,x1⟩,h1,h⟩:=bS h;obtain ⟨⟨e2,l⟩,h2,h⟩:=bS h;obtain ⟨⟨e3,u⟩,h3,h⟩:=bS h;obtain ⟨w1,hw1,h⟩:=bS h;obtain ⟨r',hr,h⟩:=bS h;refine qG ?_;clear qG;cases h;refine ⟨F,pr,en,e1,x1,R,h1,fun F1 H1 v1 s1 R1 a1=>⟨F1,pr,e1,e2,l,R1,h2,fun F2 H2 s2 R2=>⟨F2,pr,e2,e3,u,R2,h3,fun F3 H3 s3 R3=>?_⟩⟩⟩;refine z2w R3.sub ((a1.mono (s2.trans s3)).repB R3 hw1) hr fun v H' z=>?_;refine aG fun _ qG=>?_;obtain ⟨F4,s4,R4,y⟩:=z.close R3;refine qG ?_;clear qG;exact q F4 H' v (s1.trans (s2.trans (s3.trans s4))) R4 y
end
end L2
namespace L2
open PySem PySem.Spec PyProof.Rows
structure ItOk (K:PySem.W.Frag) (F:Hp) (J:It) (ws:List W):Prop where
 go:∀i H,Same F H->i < ws.length->J.go i H
 stop:∀H,Same F H->J.stop ws.length H
 yld:∀i H x H',Same F H->i < ws.length->J.yld i H x H'->∃w,ws[i]?=some w/\Out K F H (w,false) x H'
noncomputable def tI (K:PySem.W.Frag) (g:GL):TI:=fun σ H R=>∃F pr en en' ws,Rel K F pr en σ H/\g en=some (en',ws)/\∀F' H' J,Same F F'->Rel K F' pr en' σ H'->ItOk K F' J ws->R J H'
section
variable {K:PySem.W.Frag}{F H:Hp}
theorem zbl {F F' : Hp}{a:Addr}{vs:List V} (s:Same F F') (h:SqT K F a vs):SqT K F' a vs:=by
 rcases h with (h | ⟨o,h⟩) | h
 ·exact .inl (.inl (s _ _ h))
 ·exact .inl (.inr ⟨o,s _ _ h⟩)
 ·exact .inr h
theorem zg4 {a:Addr}{vs:List V}{ws:List W} (h:SqL K F a vs) (r:Reps K F ws vs):ItOk K F (Itl K a) ws where
 go:=fun i H s hi=>⟨vs,vs[i]'(by rw [<-r.length];exact hi),s.seq h,by rw [List.getElem?_eq_getElem]⟩
 stop:=fun H s=>⟨vs,s.seq h,by rw [r.length];exact Nat.le_refl _⟩
 yld:=fun i H x H' s hi y=>by
  obtain ⟨e,y⟩:=y;subst e;obtain ⟨w,e,q⟩:=r.getV (y vs (s.seq h));exact ⟨w,e,.val q⟩
theorem zve {a:Addr}{vs:List V}{ws:List W} (h:SqT K F a vs) (r:Reps K F ws vs):ItOk K F (Itt K a) ws where
 go:=fun i H s hi=>⟨vs,vs[i]'(by rw [<-r.length];exact hi),zbl s h,by rw [List.getElem?_eq_getElem]⟩
 stop:=fun H s=>⟨vs,zbl s h,by rw [r.length];exact Nat.le_refl _⟩
 yld:=fun i H x H' s hi y=>by
  obtain ⟨e,y⟩:=y;subst e;obtain ⟨w,e,q⟩:=r.getV (y vs (zbl s h));exact ⟨w,e,.val q⟩
noncomputable def rngW (lo:Int) (n:Nat):List W:=(List.range n).map fun k=>W.int (lo+(k:Nat))
theorem zsw (lo:Int) (n:Nat):ItOk K F (Itr lo n) (rngW lo n) where
 go:=fun i H s hi=>by unfold rngW at hi;rw [List.length_map,List.length_range] at hi;exact hi
 stop:=fun H s=>by unfold rngW;rw [List.length_map,List.length_range];exact Nat.le_refl n
 yld:=fun i H x H' s hi y=>by
  obtain ⟨e,y⟩:=y;subst e y;unfold rngW at hi ⊢;rw [List.length_map,List.length_range] at hi;exact ⟨_,by rw [List.getElem?_map,List.getElem?_range hi];rfl,.val (.int _)⟩
noncomputable def zc9 (ws:List W) (k:Nat):List W:=match ws with
 | []=>[]
 | w::ws=>.tup [.int k,w]::zc9 ws (k+1)
theorem za5:∀(ws:List W) (k:Nat),(zc9 ws k).length=ws.length
 | [],_=>rfl
 | _::ws,k=>congrArg (· + 1) (za5 ws (k+1))
theorem zcu:∀{ws:List W}{k i:Nat}{w:W},ws[i]?=some w->(zc9 ws k)[i]?=some (.tup [.int (k+i:Nat),w])
  | [],_,_,_,e=>by simp at e
  | w::ws,k,0,_,e=>by simp at e;subst e;rfl
  | w::ws,k,i+1,u,e=>by
    have:=zcu (ws:=ws) (k:=k+1) (i:=i) (w:=u) (by simpa using e);show (zc9 ws (k+1))[i]?=_;rw [this];have:k+1+i=k+(i+1):=by omega
    rw [this]
theorem zy3 {a:Addr}{vs:List V}{ws:List W} (h:SqL K F a vs) (r:Reps K F ws vs):ItOk K F (Ite K a) (zc9 ws 0) where
 go:=fun i H s hi=>by rw [za5] at hi;exact ⟨vs,vs[i]'(by rw [<-r.length];exact hi),s.seq h,by rw [List.getElem?_eq_getElem]⟩
 stop:=fun H s=>⟨vs,s.seq h,by rw [za5,r.length];exact Nat.le_refl _⟩
 yld:=fun i H x H' s hi y=>by
  refine aG fun _ qG=>?_;obtain ⟨p,v,e,hp,e2,y⟩:=y;refine qG ?_;clear qG;subst e e2;obtain ⟨w,e,q⟩:=r.getV (y vs (s.seq h));refine ⟨_,zcu e,?_⟩;rw [Nat.zero_add];exact .tup hp (.cons (.int _) (.cons q .nil))
theorem z2p {a:Addr}{vs:List V}{ws:List W} (h:SqL K F a vs) (r:Reps K F ws vs):ItOk K F (Itv K a vs.length) ws.reverse where
 go:=fun i H s hi=>by rw [List.length_reverse,r.length] at hi;exact ⟨hi,vs,s.seq h,rfl⟩
 stop:=fun H s=>by rw [List.length_reverse,r.length];rfl
 yld:=fun i H x H' s hi y=>by
  obtain ⟨e,y⟩:=y;subst e;obtain ⟨w,e,q⟩:=r.getV (y vs (s.seq h));refine ⟨w,?_,.val q⟩;rw [List.length_reverse] at hi;rw [List.getElem?_reverse hi,r.length];exact e
end
section
variable {X:Cx}{tg:Expr}
noncomputable def iSeq (K:PySem.W.Frag) (tl:TE):TI:=fun σ H R=>tl σ H fun x H1=>∃a,x=.ref a/\((∃xs,SqL K H1 a xs)/\R (Itl K a) H1\/(∃xs,SqT K H1 a xs)/\R (Itt K a) H1)
theorem zvh {l:Expr}{tl:TE} (hl:PE X l tl):PI X tg l (iSeq X.K tl):=fun pins s σ H R I h =>
 thn (hl pins s σ H _ I h) fun v s1 ⟨x,H1,I1,r1,a,e,q1⟩=>by
  subst e;cases r1;have fp:∀b∈[s1.heap.objs.size],FpOk X pins H1 b:=fun b hb=>by
   rw [List.mem_singleton] at hb;subst hb;exact I1.fpOk (Nat.le_refl _) (I1.hok.fresh (Nat.le_refl _))
  rcases q1 with ⟨⟨xs,hq⟩,q⟩ | ⟨⟨xs,hq⟩,q⟩
  ·obtain ⟨its, _, p, _⟩ := I1.list hq;exact wpAny_pyIter_list p.isList ⟨_,_,_,_,H1,rfl,I1.kept (t':=s1.toks) fun b o e=>Heap.get?_push_of_some _ e,zhx a _,⟨_,Heap.get?_push_size _ rfl,rfl,rfl⟩,fp,q⟩
  ·obtain ⟨its, _, p, _⟩ := I1.tuple hq;exact wpAny_pyIter_tuple (show s1.heap.IsTuple a its.toArray from p) ⟨_,_,_,_,H1,rfl,I1.kept (t':=s1.toks) fun b o e=>Heap.get?_push_of_some _ e,zfx a _,⟨_,Heap.get?_push_size _ rfl,rfl,rfl⟩,fp,q⟩
end
noncomputable def zem (g:GE):GL:=fun en=>(g en).bind fun p=>(seqW p.2.1).bind fun ws=>some (p.1,ws)
noncomputable def zc8 (i:Int):Bool:=decide (-(2 ^ 62)<=i) && decide (i < 2 ^ 62)
noncomputable def zdm (as:GAs):GL:=fun en=>(as en).bind fun p=>match zak p.1 p.2 with
 | some [.int j]=>if zc8 j then some (p.1,rngW 0 j.toNat) else none
 | _=>none
noncomputable def z4m (as:GAs):GL:=fun en=>(as en).bind fun p=>match zak p.1 p.2 with
 | some [.int i,.int j]=>if zc8 i && zc8 j then some (p.1,rngW i (j - i).toNat) else none
 | _=>none
noncomputable def gRev (g:GE):GL:=fun en=>(g en).bind fun p=>(seqL p.2.1).bind fun ws=>some (p.1,ws.reverse)
theorem zgo {i:Int} (h:zc8 i=true):-(2 ^ 62)<=i/\i < 2 ^ 62:=by
 unfold zc8 at h;rw [Bool.and_eq_true] at h;exact ⟨of_decide_eq_true h.1,of_decide_eq_true h.2⟩
section
variable {K:PySem.W.Frag}{σ:St}{H:Hp}
theorem zhr {g:GE}{R:It->Hp->Prop} (h:tI K (zem g) σ H R):iSeq K (tE K g) σ H R:=by
  refine aG fun _ qG=>?_;obtain ⟨F,pr,en,en',ws,Re,h,q⟩:=h;obtain ⟨⟨e1,rv⟩,h1,h⟩:=bS h;obtain ⟨us,hs,h⟩:=bS h;refine qG ?_;clear qG;cases h;refine ⟨F,pr,en,e1,rv,Re,h1,fun F1 H1 v s1 R1 z=>?_⟩;refine aG fun _ qG=>?_;obtain ⟨F2,s2,R2,y⟩:=z.freeze R1;obtain ⟨w,fl⟩:=rv;refine qG ?_;clear qG;cases w with
  | lst xs=>obtain rfl:=sI hs;cases y with
    | lst y r=>exact ⟨_,rfl,.inl ⟨⟨_,SqL.of' (R2.sub _ _ y)⟩,q F2 H1 _ (s1.trans s2) R2 (zg4 (SqL.of' y) r)⟩⟩
  | frl xs=>obtain rfl:=sI hs;cases y with
    | frl y r=>exact ⟨_,rfl,.inl ⟨⟨_,R2.sub.seq y⟩,q F2 H1 _ (s1.trans s2) R2 (zg4 y r)⟩⟩
  | tup xs=>obtain rfl:=sI hs;cases y with
    | tup y r=>exact ⟨_,rfl,.inr ⟨⟨_,.inl (.inl (R2.sub _ _ y))⟩,q F2 H1 _ (s1.trans s2) R2 (zve (.inl (.inl y)) r)⟩⟩
  | _=>cases hs
theorem zop {as:GAs}{R:It->Hp->Prop} (h:tI K (zdm as) σ H R):z2e (tAs K as) σ H R:=by
  refine aG fun _ qG=>?_;obtain ⟨F,pr,en,en',ws,Re,h,q⟩:=h;obtain ⟨⟨e1,xs⟩,h1,h⟩:=bS h;refine qG ?_;clear qG;refine ⟨F,pr,en,e1,xs,Re,h1,fun F1 H1 vs s1 R1 a1=>?_⟩;cases e:zak e1 xs with
  | none=>simp only [e] at h;exact noSome h
  | some us =>
    have rr:=a1.repBs R1 e
    match us,e,rr with
    | [.int j],e,rr =>
      simp only [e] at h;split at h
      · rename_i z
        cases h;obtain ⟨v,e1,hv⟩:=rr.one;subst e1;exact ⟨j,by rw [hv.int],(zgo z).1,(zgo z).2,q F1 H1 _ s1 R1 (zsw 0 j.toNat)⟩
      · exact noSome h
    | [],e,_=>simp only [e] at h;exact noSome h
    | .non::_,e,_=>simp only [e] at h;exact noSome h
    | .bl _::_,e,_=>simp only [e] at h;exact noSome h
    | .str _::_,e,_=>simp only [e] at h;exact noSome h
    | .tup _::_,e,_=>simp only [e] at h;exact noSome h
    | .lst _::_,e,_=>simp only [e] at h;exact noSome h
    | .frl _::_,e,_=>simp only [e] at h;exact noSome h
    | .dic::_,e,_=>simp only [e] at h;exact noSome h
    | .dct _ _::_,e,_=>simp only [e] at h;exact noSome h
    | .dcz _ _::_,e,_=>simp only [e] at h;exact noSome h
    | .int _::_::_,e,_=>simp only [e] at h;exact noSome h
theorem zjx {F:Hp}{w:W}{ws:List W}{v:V} (y:Rep K F w v) (hs:seqL w=some ws):∃a vs,v=.ref a/\SqL K F a vs/\Reps K F ws vs:=by
  cases w with
  | lst xs=>obtain rfl:=sI hs;cases y with
    | lst y r=>exact ⟨_,_,rfl,SqL.of' y,r⟩
  | frl xs=>obtain rfl:=sI hs;cases y with
    | frl y r=>exact ⟨_,_,rfl,y,r⟩
  | _=>cases hs
theorem zry {g:GE}{R:It->Hp->Prop} (h:tI K (gRev g) σ H R):iRev K (zdd (tE K g) tNil) σ H R:=by
 refine aG fun _ qG=>?_;obtain ⟨F,pr,en,en',ws,Re,h,q⟩:=h;obtain ⟨⟨e1,rv⟩,h1,h⟩:=bS h;obtain ⟨us,hs,h⟩:=bS h;refine qG ?_;clear qG;cases h;refine ⟨F,pr,en,e1,rv,Re,h1,fun F1 H1 v s1 R1 z=>?_⟩;refine aG fun _ qG=>?_;obtain ⟨F2,s2,R2,y⟩:=z.freeze R1;obtain ⟨a,vs,e,hq,r⟩:=zjx y hs;refine qG ?_;clear qG;subst e;exact ⟨a,vs,rfl,R2.sub.seq hq,q F2 H1 _ (s1.trans s2) R2 (z2p hq r)⟩
end
inductive Tg where
 | nm (i:Nat)
 | tp (is:List Nat)
noncomputable def setAll (mp:List Nat):List Nat->List W->En->Option En
 | [],[],en=>some en
 | i::is,w::ws,en=>if mp.contains i || !decide (i < en.length) then none else setAll mp is ws (en.set i (some (w,false)))
 | _,_,_=>none
noncomputable def tgSet (mp:List Nat):Tg->W->En->Option En
 | .nm i,w,en=>if mp.contains i || !decide (i < en.length) then none else some (en.set i (some (w,false)))
 | .tp is,.tup ws,en=>setAll mp is ws en
 | .tp is,.lst ws,en=>setAll mp is ws en
 | _,_,_=>none
noncomputable def zlz:List Nat->TGs
 | []=>gNil
 | i::is=>zz2 (znz i) (zlz is)
noncomputable def zz0 (K:PySem.W.Frag) (n:Nat) (t:TGs):TG:=fun v σ H Q=>∃a xs,v=.ref a/\(SqT K H a xs\/SqL K H a xs)/\xs.length=n/\t xs σ H Q
theorem zx1 {X:Cx}{es:List Expr}{k:Nat}{t:TGs}{n:Nat}{pos:Pos} (hc:X.calm=true) (h:PGs X es t) (hn:(assignEach es X.env).length=n) (hst:(assignEach es X.env).findIdx? (·.1)=none):PG X (.Tuple es k pos) (zz0 X.K n t):=by
 intro pins s σ H v u Q I r hw;refine aG fun _ qG=>?_;obtain ⟨a,xs,e1,hq,hl,hw⟩:=hw;refine qG ?_;clear qG;rcases hq with hq | hq
 ·exact z0q hc h hn hst pins s σ H v u Q I r ⟨a,xs,e1,hq,hl,hw⟩
 ·subst e1;cases r;refine aG fun _ qG=>?_;obtain ⟨its,rv,⟨o,m,q1,q2,_,q3⟩,hz⟩:=I.list hq;refine qG ?_;clear qG;rw [assign_Tuple];refine wpAny_bind (wpAny_standAt ?_);unfold unpack;have hs:(assignEach es X.env).length=its.toArray.size:=by rw [List.size_toArray,hn,<-hl,rv.length]
  rw [hs,hst];refine wpAny_bind (wpAny_holding (PySem.W.kun_itemsOf (I.ok.hd hc) ⟨o,q1,q2,m,q3⟩ fun h' hx=>?_));have I1:Inv X pins σ H { s with heap:=h' }:=I.kept (t':=s.toks) fun b o e=>hx b o (Nat.ne_of_lt (Heap.lt_size e)) e;exact h pins _ σ H xs _ Q I1 (by simpa using rv) hw
noncomputable def TGof (K:PySem.W.Frag):Tg->TG
 | .nm i=>znz i
 | .tp is=>zz0 K is.length (zlz is)
noncomputable def Keep (mp:List Nat) (σ σ' : St):Prop:=∀i∈mp,σ'[i]?=σ[i]?
theorem Keep.refl (mp:List Nat) (σ:St):Keep mp σ σ:=fun _ _=>rfl
theorem Keep.trans {mp:List Nat}{σ σ1 σ2:St} (a:Keep mp σ σ1) (b:Keep mp σ1 σ2):Keep mp σ σ2:=fun i h=>(b i h).trans (a i h)
theorem Keep.set {mp:List Nat}{σ:St}{i:Nat} (h:mp.contains i=false) (v:Option V):Keep mp σ (σ.set i v):=fun j hj=>by
 have:i≠j:=fun e=>by subst e;rw [List.contains_iff_mem.mpr hj] at h;cases h
 exact List.getElem?_set_ne this
section
variable {K:PySem.W.Frag}{F H:Hp}{pr:Prt}
theorem zda {mp:List Nat}{Q:St->Hp->Prop}:∀{is:List Nat}{ws:List W}{vs:List V}{en en' : En}{σ:St},Rel K F pr en σ H->Reps K F ws vs->setAll mp is ws en=some en'->(∀σ',Rel K F pr en' σ' H->Keep mp σ σ'->Q σ' H)->zlz is vs σ H Q
  | [],[],_,en,en',σ,R,.nil,h,q=>by obtain rfl:=sI h;exact ⟨rfl,q σ R (.refl _ _)⟩
  | i::is,w::ws,_,en,en',σ,R,.cons (v:=v) (vs:=vs) h0 r,h,q=>by
    unfold setAll at h;split at h
    · exact noSome h
    · rename_i z
      rw [Bool.or_eq_true,not_or,Bool.not_eq_true,Bool.not_eq_true,Bool.not_eq_false'] at z;refine ⟨v,vs,rfl,?_⟩;exact zda (R.store (r:=(w,false)) (i:=i) h0 (of_decide_eq_true z.2)) r h fun σ' R' k=>q σ' R' ((Keep.set z.1 _).trans k)
  | [],_::_,_,_,_,_,_,_,h,_=>by exact noSome h
  | _::_,[],_,_,_,_,_,_,h,_=>by exact noSome h
theorem zp7 {mp:List Nat}{T:Tg}{w:W}{v:V}{en en' : En}{σ:St}{Q:St->Hp->Prop} (R:Rel K F pr en σ H) (h0:Rep K F w v) (h:tgSet mp T w en=some en') (q:∀σ',Rel K F pr en' σ' H->Keep mp σ σ'->Q σ' H):TGof K T v σ H Q:=by
  cases T with
  | nm i =>
    unfold tgSet at h;simp only at h;split at h
    · exact noSome h
    · rename_i z
      rw [Bool.or_eq_true,not_or,Bool.not_eq_true,Bool.not_eq_true,Bool.not_eq_false'] at z;obtain rfl:=sI h;exact q _ (R.store (r:=(w,false)) h0 (of_decide_eq_true z.2)) (Keep.set z.1 _)
  | tp is =>
    have go:∀(is:List Nat) (ws:List W) (en en' : En),setAll mp is ws en=some en'->is.length=ws.length:=by
      intro is
      induction is with
      | nil=>intro ws en en' h;cases ws with
        | nil=>rfl
        | cons _ _=>exact noSome h
      | cons i is ih=>intro ws en en' h;cases ws with
        | nil=>exact noSome h
        | cons w ws =>
          unfold setAll at h;split at h
          · exact noSome h
          · exact congrArg (· + 1) (ih _ _ _ h)
    cases w with
    | tup ws =>
      cases h0 with
      | tup hf r =>
        exact ⟨_,_,rfl,.inl (.inl (.inl (R.sub _ _ hf))),by rw [go is ws en en' h,r.length],zda R r h q⟩
    | lst ws =>
      cases h0 with
      | lst hf r =>
        exact ⟨_,_,rfl,.inr (SqL.of' (R.sub _ _ hf)),by rw [go is ws en en' h,r.length],zda R r h q⟩
    | _=>exact noSome h
end
inductive Fl where
 | nx | ret (r:W × Bool) | brk | cnt
noncomputable abbrev GS:=En->Option (En × Fl)
noncomputable def zr9 (K:PySem.W.Frag) (mp:List Nat) (F:Hp) (pr:Prt) (σ:St) (D:Ends) (en' : En):Fl->Prop
 | .nx=>∀F' σ' H',Same F F'->Rel K F' pr en' σ' H'->Keep mp σ σ'->D.nx σ' H'
 | .brk=>∀F' σ' H',Same F F'->Rel K F' pr en' σ' H'->Keep mp σ σ'->D.bk σ' H'
 | .cnt=>∀F' σ' H',Same F F'->Rel K F' pr en' σ' H'->Keep mp σ σ'->D.ct σ' H'
 | .ret r=>∀F' σ' H' v,Same F F'->Rel K F' pr en' σ' H'->Keep mp σ σ'->Res K F' H' pr en' σ' r v->D.rt v H'
noncomputable def tS (K:PySem.W.Frag) (mp:List Nat) (g:GS):TS:=fun D σ H=>∃F pr en en' fl,Rel K F pr en σ H/\g en=some (en',fl)/\zr9 K mp F pr σ D en' fl
theorem zr9.step {K:PySem.W.Frag}{mp:List Nat}{F F1:Hp}{pr:Prt}{σ σ1:St}{D:Ends}{en' : En}{fl:Fl} (s:Same F F1) (k:Keep mp σ σ1) (h:zr9 K mp F pr σ D en' fl):zr9 K mp F1 pr σ1 D en' fl:=by
 cases fl with
 | nx=>exact fun F' σ' H' s' R' k'=>h F' σ' H' (s.trans s') R' (k.trans k')
 | brk=>exact fun F' σ' H' s' R' k'=>h F' σ' H' (s.trans s') R' (k.trans k')
 | cnt=>exact fun F' σ' H' s' R' k'=>h F' σ' H' (s.trans s') R' (k.trans k')
 | ret r=>exact fun F' σ' H' v s' R' k' z=>h F' σ' H' v (s.trans s') R' (k.trans k') z
noncomputable def zck:GS:=fun en=>some (en,.nx)
noncomputable def gBrk:GS:=fun en=>some (en,.brk)
noncomputable def gCnt:GS:=fun en=>some (en,.cnt)
noncomputable def gSeq (a b:GS):GS:=fun en=>match a en with
 | some (en',.nx)=>b en'
 | some (en',f)=>some (en',f)
 | none=>none
noncomputable def gRet (g:GE):GS:=fun en=>(g en).bind fun p=>some (p.1,.ret p.2)
noncomputable def z4p:GS:=fun en=>some (en,.ret (.non,false))
noncomputable def gIfS (c:GT) (a b:GS):GS:=fun en=>match c en with
 | some (en',true)=>a en'
 | some (en',false)=>b en'
 | none=>none
noncomputable def zff (g:GE):GS:=fun en=>(g en).bind fun p=>some (p.1,.nx)
noncomputable def gSet (mp:List Nat) (i:Nat) (g:GE):GS:=fun en=>(g en).bind fun p=>if mp.contains i || !decide (i < p.1.length) then none else some (p.1.set i (some p.2),.nx)
noncomputable def gAsg (mp:List Nat) (T:Tg) (g:GE):GS:=fun en=>(g en).bind fun p=>(tgSet mp T p.2.1 p.1).bind fun e=>some (e,.nx)
section
variable {K:PySem.W.Frag}{mp:List Nat}{D:Ends}{σ:St}{H:Hp}
theorem zjn (h:tS K mp zck D σ H):zxa D σ H:=by
 obtain ⟨F,pr,en,en',fl,R,h,q⟩:=h;cases h;exact q F σ H (.refl F) R (.refl _ _)
theorem zuf {a b:GS} (h:tS K mp (gSeq a b) D σ H):tSeq (tS K mp a) (tS K mp b) D σ H:=by
  refine aG fun _ qG=>?_;obtain ⟨F,pr,en,en',fl,R,h,q⟩:=h;refine qG ?_;clear qG;unfold gSeq at h;cases e:a en with
  | none=>simp only [e] at h;exact noSome h
  | some p =>
    obtain ⟨e1,f1⟩:=p;refine ⟨F,pr,en,e1,f1,R,e,?_⟩;cases f1 with
    | nx =>
      simp only [e] at h;exact fun F1 σ1 H1 s1 R1 k1=>⟨F1,pr,e1,en',fl,R1,h,q.step s1 k1⟩
    | brk=>simp only [e] at h;cases h;exact q
    | cnt=>simp only [e] at h;cases h;exact q
    | ret r=>simp only [e] at h;cases h;exact q
theorem ztk {g:GE} (h:tS K mp (gRet g) D σ H):tRet (tE K g) D σ H:=by
 refine aG fun _ qG=>?_;obtain ⟨F,pr,en,en',fl,R,h,q⟩:=h;obtain ⟨⟨e1,r⟩,h1,h⟩:=bS h;refine qG ?_;clear qG;cases h;exact ⟨F,pr,en,e1,r,R,h1,fun F' H' v s' R' z=>q F' σ H' v s' R' (.refl _ _) z⟩
theorem zun {c:GT}{a b:GS} (h:tS K mp (gIfS c a b) D σ H):tIfS (tT K c) (tS K mp a) (tS K mp b) D σ H:=by
  refine aG fun _ qG=>?_;obtain ⟨F,pr,en,en',fl,R,h,q⟩:=h;refine qG ?_;clear qG;unfold gIfS at h;cases e:c en with
  | none=>simp only [e] at h;exact noSome h
  | some p =>
    obtain ⟨e1,d⟩:=p;refine ⟨F,pr,en,e1,d,R,e,fun F1 H1 s1 R1=>?_⟩;cases d with
    | true=>simp only [e] at h;exact iteT ⟨F1,pr,e1,en',fl,R1,h,q.step s1 (.refl _ _)⟩
    | false=>simp only [e] at h;exact iteF ⟨F1,pr,e1,en',fl,R1,h,q.step s1 (.refl _ _)⟩
theorem zpt {g:GE} (h:tS K mp (zff g) D σ H):z0w (tE K g) D σ H:=by
 refine aG fun _ qG=>?_;obtain ⟨F,pr,en,en',fl,R,h,q⟩:=h;obtain ⟨⟨e1,r⟩,h1,h⟩:=bS h;refine qG ?_;clear qG;cases h;exact ⟨F,pr,en,e1,r,R,h1,fun F' H' v s' R' z=>q F' σ H' s' R' (.refl _ _)⟩
theorem zgy {i:Nat}{g:GE} (h:tS K mp (gSet mp i g) D σ H):tAsg (tE K g) (znz i) D σ H:=by
 refine aG fun _ qG=>?_;obtain ⟨F,pr,en,en',fl,R,h,q⟩:=h;obtain ⟨⟨e1,r⟩,h1,h⟩:=bS h;refine qG ?_;clear qG;split at h
 ·exact noSome h
 ·rename_i z;rw [Bool.or_eq_true,not_or,Bool.not_eq_true,Bool.not_eq_true,Bool.not_eq_false'] at z;cases h;exact ⟨F,pr,en,e1,r,R,h1,fun F' H' v s' R' y=>q F' _ H' s' (R'.store y (of_decide_eq_true z.2)) (Keep.set z.1 _)⟩
noncomputable def gPar (mp:List Nat) (i j:Nat) (a b:GE):GS:=fun en=>(a en).bind fun p=>(b p.1).bind fun q=>if mp.contains i || mp.contains j || !decide (i < q.1.length) || !decide (j < q.1.length) then none else some ((q.1.set i (some (p.2.1,false))).set j (some q.2),.nx)
theorem ztu {i j:Nat}{a b:GE} (h:tS K mp (gPar mp i j a b) D σ H):tPar i j (zdd (tE K a) (zdd (tE K b) tNil)) D σ H:=by
  refine aG fun _ qG=>?_;obtain ⟨F,pr,en,en',fl,R,h,q⟩:=h;obtain ⟨⟨e1,r1⟩,h1,h⟩:=bS h;obtain ⟨⟨e2,r2⟩,h2,h⟩:=bS h;refine qG ?_;clear qG;split at h
  · exact noSome h
  · rename_i z
    simp only [Bool.or_eq_true,not_or,Bool.not_eq_true,Bool.not_eq_false',decide_eq_true_eq] at z;refine aG fun _ qG=>?_;obtain ⟨⟨⟨z1,z2⟩,z3⟩,z4⟩:=z;refine qG ?_;clear qG;cases h;refine ⟨F,pr,en,e1,r1,R,h1,fun F1 H1 v1 s1 R1 y1=>?_⟩;refine aG fun _ qG=>?_;obtain ⟨F2,s2,R2,x1⟩:=y1.freeze R1;refine qG ?_;clear qG;refine ⟨F2,pr,e1,e2,r2,R2,h2,fun F3 H3 v2 s3 R3 y2=>⟨v1,v2,rfl,?_⟩⟩;have Ra:Rel K F3 pr (e2.set i (some (r1.1,false))) (σ.set i (some v1)) H3:=R3.store (r:=(r1.1,false)) (x1.mono s3) z3;have y2' : Res K F3 H3 pr (e2.set i (some (r1.1,false))) (σ.set i (some v1)) r2 v2:=by
      obtain ⟨w2,fl2⟩:=r2;cases fl2 with
      | false=>exact y2
      | true =>
        refine aG fun _ qG=>?_;obtain ⟨a,vs,ws,q1,q2,q3,q4,q5,q6,q7⟩:=y2;refine qG ?_;clear qG;refine ⟨a,vs,ws,q1,q2,q3,q4,q5,fun k w' hk=>?_,q7⟩;rcases zcn z3 hk with ⟨_,e⟩ | ⟨hne,e⟩
        · cases e
        · rw [List.getElem?_set_ne (Ne.symm hne)];exact q6 k w' e
    exact q F3 _ H3 (s1.trans (s2.trans s3)) (Ra.store y2' (by rw [List.length_set];exact z4)) ((Keep.set z1 _).trans (Keep.set z2 _))
noncomputable def za0 (i:Nat) (k:GE) (g:GE):GS:=fun en=>(g en).bind fun p=>match p.1[i]? with
  | some (some _)=>(k p.1).bind fun q=>match q.2,q.1[i]? with
    | (.int n,_),some (some (.lst ws,true))=>(ixN ws.length n).bind fun j=>some (q.1.set i (some (.lst (ws.set j p.2.1),true)),.nx)
    | _,_=>none
  | _=>none
theorem znb {i:Nat}{k g:GE} (h:tS K mp (za0 i k g) D σ H):tAsg (tE K g) (gSub (tVar i) (tE K k) z1c) D σ H:=by
 obtain ⟨F,pr,en,en',fl,R,h,q⟩:=h;obtain ⟨⟨e1,r1⟩,h1,h⟩:=bS h;refine ⟨F,pr,en,e1,r1,R,h1,fun F1 H1 v1 s1 R1 y1=>?_⟩;obtain ⟨F2,s2,R2,x1⟩:=y1.freeze R1;split at h
 ·rename_i x0 hx0;obtain ⟨⟨e2,r2⟩,h2,h⟩:=bS h;obtain ⟨w0,f0⟩:=x0;obtain ⟨v0,hv0⟩:=R2.has hx0;refine ⟨v0,hv0,F2,pr,e1,e2,r2,R2,h2,fun F3 H3 v2 s3 R3 y2=>?_⟩;split at h
  ·rename_i n fl2 ws eq1 eq2;simp only at eq1;subst eq1;obtain ⟨j,hj,h⟩:=bS h;cases h;obtain ⟨a,vs,ws',q1,q2,q3,q4,q5⟩:=R3.ownL eq2;cases q1;rw [hv0] at q2;cases q2;refine ⟨a,vs,n,j,rfl,y2.isInt,q3,by rw [<-q5.length];exact hj,?_⟩;exact q F3 σ _ (s1.trans (s2.trans s3)) (R3.change eq2 hv0 (q5.set (x1.mono s3) j)) (.refl _ _)
  ·exact noSome h
 ·exact noSome h
noncomputable def gApp (i:Nat) (g:GE):GE:=fun en=>match en[i]? with
  | some (some (.lst _,true))=>(g en).bind fun p=>match p.1[i]? with
    | some (some (.lst ws,true))=>if ws.length < sizeLine then some (p.1.set i (some (.lst (ws++[p.2.1]),true)),(.non,false)) else none
    | _=>none
  | _=>none
theorem zsl {i:Nat}{g:GE}{Q:VK} (h:tE K (gApp i g) σ H Q):tBM K "list" zoi (tVar i) (zdd (tE K g) tNil) σ H Q:=by
 refine aG fun _ qG=>?_;obtain ⟨F,pr,en,en',r,R,h,q⟩:=h;refine qG ?_;clear qG;unfold gApp at h;split at h
 ·rename_i w0 hx0;refine aG fun _ qG=>?_;obtain ⟨a,vs,ws0,q1,q2,q3,q4,q5⟩:=R.ownL hx0;obtain ⟨⟨e1,r1⟩,h1,h⟩:=bS h;refine qG ?_;clear qG;refine ⟨.ref a,q2,.inl ⟨rfl,vs,SqL.of' q3⟩,F,pr,en,e1,r1,R,h1,fun F1 H1 v1 s1 R1 y1=>?_⟩;refine aG fun _ qG=>?_;obtain ⟨F2,s2,R2,x1⟩:=y1.freeze R1;refine qG ?_;clear qG;split at h
  ·rename_i ws hx1;split at h
   ·rename_i hz;cases h;refine aG fun _ qG=>?_;obtain ⟨a',vs',ws',p1,p2,p3,p4,p5⟩:=R2.ownL hx1;refine qG ?_;clear qG;cases p1;rw [q2] at p2;cases p2;refine ⟨a,vs',v1,rfl,rfl,p3,by rw [<-p5.length];exact hz,?_⟩;exact q F2 _ _ (s1.trans s2) (R2.change hx1 q2 (p5.append (.cons x1 .nil))) .non
   ·exact noSome h
  ·exact noSome h
 ·exact noSome h
noncomputable def gExt (i:Nat) (g:GE):GE:=fun en=>match en[i]? with
  | some (some (.lst _,true))=>(g en).bind fun p=>match p.2.1,p.1[i]? with
    | .lst us,some (some (.lst ws,true))=>if ws.length+us.length<=sizeLine then some (p.1.set i (some (.lst (ws++us),true)),(.non,false)) else none
    | _,_=>none
  | _=>none
noncomputable def gAug (mp:List Nat) (o:O2) (i:Nat) (g:GA):GS:=fun en=>match en[i]? with
 | some (some (w,false))=>(g en).bind fun p=>(resA p.1 p.2).bind fun u=>(o w u).bind fun r=>if mp.contains i || !decide (i < p.1.length) then none else some (p.1.set i (some r),.nx)
 | _=>none
theorem zss {i:Nat}{o:O2}{r:R2}{g:GA} (ho:OpS K r o) (h:tS K mp (gAug mp o i g) D σ H):tAug i (tA K g) r D σ H:=by
 refine aG fun _ qG=>?_;obtain ⟨F,pr,en,en',fl,R,h,q⟩:=h;refine qG ?_;clear qG;unfold gAug at h;split at h
 ·rename_i w hx;refine aG fun _ qG=>?_;obtain ⟨v,hv,rw'⟩:=R.val i w hx;obtain ⟨⟨e1,x1⟩,h1,h⟩:=bS h;obtain ⟨u,hu,h⟩:=bS h;obtain ⟨rv,hr,h⟩:=bS h;refine qG ?_;clear qG;split at h
  ·exact noSome h
  ·rename_i z;rw [Bool.or_eq_true,not_or,Bool.not_eq_true,Bool.not_eq_true,Bool.not_eq_false'] at z;cases h;refine ⟨v,hv,F,pr,en,e1,x1,R,h1,fun F1 H1 v1 s1 R1 a1=>?_⟩;refine ho F1 H1 w u v v1 rv _ R1.sub (.inl (rw'.mono s1)) (a1.repB R1 hu) hr fun v2 H2 o2=>?_;refine aG fun _ qG=>?_;obtain ⟨F3,s3,R3,y⟩:=o2.close R1;refine qG ?_;clear qG;exact q F3 _ H2 (s1.trans s3) (R3.store y (of_decide_eq_true z.2)) (Keep.set z.1 _)
 ·exact noSome h
noncomputable def zit (mp:List Nat) (T:Tg) (body:GS):List W->En->Option (En × Fl)
  | [],en=>some (en,.nx)
  | w::ws,en=>(tgSet mp T w en).bind fun e1=>match body e1 with
    | some (e2,.nx)=>zit mp T body ws e2
    | some (e2,.cnt)=>zit mp T body ws e2
    | some (e2,.brk)=>some (e2,.nx)
    | some (e2,.ret r)=>some (e2,.ret r)
    | none=>none
noncomputable def gFor (mp:List Nat) (T:Tg) (it:GL) (body:GS):GS:=fun en=>(it en).bind fun p=>zit mp T body p.2 p.1
theorem zsz {T:Tg}{it:GL}{body:GS} (h:tS K mp (gFor mp T it body) D σ H):tFor (tI K it) (TGof K T) (tS K mp body) D σ H:=by
  refine aG fun _ qG=>?_;obtain ⟨F,pr,en,en',fl,R,h,q⟩:=h;obtain ⟨⟨e1,ws⟩,h1,h⟩:=bS h;refine qG ?_;clear qG;refine ⟨F,pr,en,e1,ws,R,h1,fun F1 H1 J s1 R1 ok=>?_⟩;refine ⟨fun i m σ' H'=>m=ws.length - i/\i<=ws.length/\∃F' e',Same F1 F'/\Rel K F' pr e' σ' H'/\Keep mp σ σ'/\zit mp T body (ws.drop i) e'=some (en',fl),⟨_,rfl,Nat.zero_le _,F1,e1,.refl _,R1,.refl _ _,by simpa using h⟩,?_⟩;rintro i m σ' H' ⟨rfl,hi,F',e',s',R',k',hl⟩;by_cases hlt:i < ws.length
  · refine .inr ⟨ok.go i H' (s'.trans R'.sub) hlt, ?_⟩
    have hd:ws.drop i=ws[i]::ws.drop (i+1):=(List.drop_eq_getElem_cons hlt);rw [hd] at hl;obtain ⟨e2,h2,hl⟩:=bS (show (tgSet mp T ws[i] e').bind _=_ from hl);refine ⟨fun σ2 H2=>∃F2 e3,Same F1 F2/\Rel K F2 pr e3 σ2 H2/\Keep mp σ σ2/\zit mp T body (ws.drop (i+1)) e3=some (en',fl),?_,?_⟩
    · rintro σ2 H2 ⟨F2, e3, s2, R2, k2, hl2⟩
      exact ⟨ws.length - (i+1),by omega,rfl,hlt,F2,e3,s2,R2,k2,hl2⟩
    · intro x H2 y
      obtain ⟨w,ew,out⟩:=ok.yld i H' x H2 (s'.trans R'.sub) hlt y;rw [List.getElem?_eq_getElem hlt] at ew;obtain rfl:=sI ew;refine aG fun _ qG=>?_;obtain ⟨F3,s3,R3,z⟩:=(out.mono s').close R';refine qG ?_;clear qG;refine zp7 (w:=ws[i]) R3 z h2 fun σ3 R4 k4=>?_;cases eb:body e2 with
      | none=>simp only [eb] at hl;exact noSome hl
      | some p =>
        obtain ⟨e5,f5⟩:=p;refine ⟨F3,pr,e2,e5,f5,R4,eb,?_⟩;have sF:Same F1 F3:=s'.trans s3;cases f5 with
        | nx =>
          simp only [eb] at hl;exact fun F6 σ6 H6 s6 R6 k6=>⟨F6,e5,sF.trans s6,R6,(k'.trans k4).trans k6,hl⟩
        | cnt =>
          simp only [eb] at hl;exact fun F6 σ6 H6 s6 R6 k6=>⟨F6,e5,sF.trans s6,R6,(k'.trans k4).trans k6,hl⟩
        | brk =>
          simp only [eb] at hl;cases hl;exact fun F6 σ6 H6 s6 R6 k6=>q F6 σ6 H6 (s1.trans (sF.trans s6)) R6 ((k'.trans k4).trans k6)
        | ret r =>
          simp only [eb] at hl;cases hl;exact fun F6 σ6 H6 v s6 R6 k6 z=>q F6 σ6 H6 v (s1.trans (sF.trans s6)) R6 ((k'.trans k4).trans k6) z
  · have e : i = ws.length := by omega
    subst e;rw [List.drop_length] at hl;cases hl;exact .inl ⟨ok.stop H' (s'.trans R'.sub),q F' σ' H' (s1.trans s') R' k'⟩
end
section
variable {X:Cx}
end
section
variable {K:PySem.W.Frag}{σ:St}{H:Hp}
end
end L2
namespace L2
open PySem PySem.Spec PyProof.Rows
section
variable {prog:Program}{w:World}{A:Around}{E:Value->Shared->Prop}{s:Shared}{it d:Addr}{o:Obj}{es:Array DictEntry}{i ep:Nat}
end
section
variable {X:Cx}{tg:Expr}
end
section
variable {K:PySem.W.Frag}{F F' H:Hp}{pr:Prt}{en:En}{σ:St}
end
theorem Rel.drop {K:PySem.W.Frag}{F H:Hp}{pr:Prt}{en:En}{σ:St} (R:Rel K F pr en σ H) {i:Nat}{w:W} (e:en[i]?=some (some (w,true))):∃v,σ[i]?=some (some v)/\Rel K F pr (en.set i none) σ H/\Res K F H pr (en.set i none) σ (w,true) v:=by
 have hi:i < en.length:=(List.getElem?_eq_some_iff.mp e).1;refine aG fun _ qG=>?_;obtain ⟨a,vs,ws,h1,h2,h3,h4,h5⟩:=R.own i w e;refine qG ?_;clear qG;have g:∀(j:Nat) (x:W × Bool),(en.set i none)[j]?=some (some x)->j≠i/\en[j]?=some (some x):=fun j x h=>by
  rcases zcn hi h with ⟨_,q⟩ | z
  ·cases q
  ·exact z
 refine ⟨_,h2,⟨by rw [List.length_set];exact R.len,R.sub,fun j u q=>R.val j u (g j _ q).2,fun j u q=>R.own j u (g j _ q).2,fun j k b u u' q q'=>R.inj j k b u u' (g j _ q).2 (g k _ q').2,fun b o q=>⟨(R.prt b o q).1,(R.prt b o q).2.1,fun j u z=>(R.prt b o q).2.2 j u (g j _ z).2⟩,R.tb⟩,a,vs,ws,h1,rfl,h3,h4,h5,fun j u q z=>?_,fun b o q z=>?_⟩
 ·exact (g j _ q).1 (R.inj j i a _ _ (g j _ q).2 e z h2)
 ·subst z;exact (R.prt b o q).2.2 i w e h2
section
variable {prog:Program}{w:World}{A:Around}{E:Value->Shared->Prop}{s:Shared}{d:Addr}{o:Obj}{es:Array DictEntry}{ep:Nat}
end
end L2
namespace L2
open PySem PySem.Spec PyProof.Rows
noncomputable abbrev Cap:=List (Option Nat)
noncomputable def zen (cap:Cap) (en:En):En:=cap.map fun o=>match o with
 | some i=>(en[i]?).getD none
 | none=>none
noncomputable def zal (cap:Cap) (i:Nat):Option Nat:=cap.findIdx? (· == some i)
noncomputable def zbu (cap:Cap):Bool:=(List.range cap.length).all fun j=>match cap[j]? with
 | some (some i)=>zal cap i == some j
 | _=>true
noncomputable def capKeep (cap:Cap):List Nat:=(List.range cap.length).filter fun j=>match cap[j]? with
 | some (some _)=>true
 | _=>false
noncomputable def za2 (cap:Cap) (en ce:En):En:=en.mapIdx fun i x=>match zal cap i with
 | some j=>(ce[j]?).getD none
 | none=>x
theorem za7 {cap:Cap}{i j:Nat} (h:zal cap i=some j):cap[j]?=some (some i):=by
 unfold zal at h;obtain ⟨hl,h1,_⟩:=List.findIdx?_eq_some_iff_getElem.mp h;rw [List.getElem?_eq_getElem hl];have:cap[j]=some i:=by simpa using h1
 rw [this]
theorem zb4 {cap:Cap}{i:Nat} (h:zal cap i=none) (j:Nat):cap[j]?≠some (some i):=fun e=>by
 unfold zal at h;have:=List.findIdx?_eq_none_iff.mp h (some i) (List.mem_of_getElem? e);simp at this
theorem zeo {cap:Cap} (h:zbu cap=true) {i j:Nat} (e:cap[j]?=some (some i)):zal cap i=some j:=by
 unfold zbu at h;have hj:j < cap.length:=(List.getElem?_eq_some_iff.mp e).1;have:=List.all_eq_true.mp h j (List.mem_range.mpr hj);simp only [e] at this;simpa using this
theorem zkp {cap:Cap}{i j:Nat} (e:cap[j]?=some (some i)):j∈capKeep cap:=by
 unfold capKeep;exact List.mem_filter.mpr ⟨List.mem_range.mpr (List.getElem?_eq_some_iff.mp e).1,by simp only [e]⟩
theorem zcm {cap:Cap}{en:En}{j:Nat}{x:W × Bool} (h:(zen cap en)[j]?=some (some x)):∃i,cap[j]?=some (some i)/\en[i]?=some (some x):=by
  unfold zen at h;rw [List.getElem?_map] at h;cases e:cap[j]? with
  | none=>rw [e] at h;exact noSome h
  | some o =>
    rw [e] at h;cases o with
    | none=>cases h
    | some i =>
      refine ⟨i,rfl,?_⟩;have h' : (en[i]?).getD none=some x:=sI h;cases e2:en[i]? with
      | none=>rw [e2] at h';exact noSome h'
      | some z=>rw [e2] at h';exact congrArg some h'
theorem zli {cap:Cap}{σ:St}{i j:Nat} (h:cap[j]?=some (some i)):(capSt cap σ)[j]?=some ((σ[i]?).getD none):=by
 unfold capSt;rw [List.getElem?_map,h]
 rfl
theorem zd8 {cap:Cap}{σ:St}{i j:Nat}{v:V} (h:cap[j]?=some (some i)) (hv:σ[i]?=some (some v)):(capSt cap σ)[j]?=some (some v):=by
 rw [zli h,hv];rfl
theorem backEn_get {cap:Cap}{en ce:En}{i:Nat}{x:W × Bool} (h:(za2 cap en ce)[i]?=some (some x)):(∃j,zal cap i=some j/\ce[j]?=some (some x))\/(zal cap i=none/\en[i]?=some (some x)):=by
  unfold za2 at h;rw [List.getElem?_mapIdx] at h;cases e:en[i]? with
  | none=>rw [e] at h;exact noSome h
  | some o =>
    rw [e] at h;cases c:zal cap i with
    | none=>simp only [c,Option.map_some] at h;exact .inr ⟨rfl,h⟩
    | some j =>
      simp only [c,Option.map_some] at h;have h' : (ce[j]?).getD none=some x:=sI h;refine .inl ⟨j,rfl,?_⟩;cases e2:ce[j]? with
      | none=>rw [e2] at h';exact noSome h'
      | some z=>rw [e2] at h';exact congrArg some h'
noncomputable def zbf (pr:Prt) (cap:Cap) (en:En) (σ:St) (H:Hp):Prt:=fun b o=>pr b o\/∃(j:Nat) (w:W),en[j]?=some (some (w,true))/\zal cap j=none/\σ[j]?=some (some (V.ref b))/\H b=some o
noncomputable def zfs (pb:Prt) (acc:Addr) (vs:List V):Prt:=fun b o=>pb b o\/(b=acc/\o=.lst vs)
section
variable {K:PySem.W.Frag}{F H:Hp}{pr pb:Prt}{en:En}{σ:St}
theorem Rel.ownT (R:Rel K F pr en σ H) {j:Nat}{w:W}{b:Addr}{ps:Array Value} (e:en[j]?=some (some (w,true))) (s:σ[j]?=some (some (V.ref b))):H b≠some (.tbl ps):=fun z=>by
 obtain ⟨a,o,w',_,h2,h3,_,h5⟩:=R.own j w e;rw [s] at h2;cases h2;rw [z] at h3;obtain rfl:=sI h3;cases h5
theorem zga {cap:Cap}{b:Addr}{ps:Array Value} (R:Rel K F pr en σ H) (e:H b=some (.tbl ps)) (hh:∀o,¬ pr b o):∀o,¬ zbf pr cap en σ H b o:=fun o z=>by
 rcases z with z | ⟨j,w,q1,_,q2,_⟩
 ·exact hh o z
 ·exact R.ownT q1 q2 e
theorem zgb {cap:Cap}{b:Addr}{xs:List V} (R:Rel K F pr en σ H) (z:zbf pr cap en σ H b (.tup xs)):pr b (.tup xs):=by
 rcases z with z | ⟨j,w,q1,_,q2,q3⟩
 ·exact z
 ·obtain ⟨a, o, w', _, h2, h3, _, h5⟩ := R.own j w q1;rw [q2] at h2;cases h2;rw [q3] at h3;obtain rfl:=sI h3;cases h5
theorem Rel.accUpd {acc:Addr}{vs us:List V} (R:Rel K F (zfs pb acc vs) en σ H) (hb:∀b o,pb b o->b≠acc):Rel K F (zfs pb acc us) en σ (upd H acc (.lst us)):=by
 obtain ⟨a1,a2,a3⟩:=R.prt acc (.lst vs) (.inr ⟨rfl,rfl⟩);have nt:∀b ps,H b=some (.tbl ps)->b≠acc:=fun b ps e z=>by subst z;rw [a1] at e;cases e
 have nx:∀b φ,H b=some (.ext φ)->b≠acc:=fun b φ e z=>by subst z;rw [a1] at e;cases e
 refine ⟨R.len,fun b o e=>?_,R.val,fun i w e=>?_,R.inj,fun b o q=>?_,R.tb.go (fun b xs z=>z.elim .inl fun z=>nomatch z.2) (fun b ps e f=>⟨by rw [upd_ne (nt b ps e)];exact e,f⟩) (.refl F) fun b ps e hh o z=>z.elim (fun z=>hh o (.inl z)) fun z=>nt b ps e z.1⟩
 ·have : b ≠ acc := fun z => by subst z; rw [a2] at e; exact noSome e
  rw [upd_ne this];exact R.sub _ _ e
 ·refine aG fun Gg qG => ?_;obtain ⟨a,vs',ws,h1,h2,h3,h4,h5⟩:=R.own i w e;refine qG ?_;clear qG;have:a≠acc:=fun z=>by subst z;exact a3 i w e h2
  exact ⟨a,vs',ws,h1,h2,by rw [upd_ne this];exact h3,h4,h5⟩
 ·rcases q with q | ⟨rfl, rfl⟩
  ·obtain ⟨b1, b2, b3⟩ := R.prt b o (.inl q);exact ⟨by rw [upd_ne (hb b o q)];exact b1,b2,b3⟩
  ·exact ⟨upd_same,a2,a3⟩
theorem zqw {cap:Cap}{acc:Addr} (R:Rel K F pr en σ H) (hn:H acc=none):∀b o,zbf pr cap en σ H b o->b≠acc:=fun b o q=>by
 rcases q with q | ⟨j,w,_,_,_,q⟩
 ·exact zac (R.prt b o q).1 hn
 ·exact zac q hn
theorem Rel.block {cap:Cap}{acc:Addr} (R:Rel K F pr en σ H) (hn:H acc=none) (nd:zbu cap=true):Rel K F (zfs (zbf pr cap en σ H) acc []) (zen cap en) (capSt cap σ) (upd H acc (.lst [])):=by
 have fa:F acc=none:=R.sub.free hn;have R2:=R.lay hn (.lst []);refine ⟨by unfold zen capSt;rw [List.length_map,List.length_map],R2.sub,fun j w e=>?_,fun j w e=>?_,fun j l a w w' e1 e2 q1 q2=>?_,fun b o q=>?_,R.tb.go (fun b xs z=>z.elim (zgb R) fun z=>nomatch z.2) (fun b ps e f=>⟨by rw [upd_ne (zac e hn)];exact e,f⟩) (.refl F) fun b ps e hh o z=>z.elim (zga R e hh o) fun z=>zac e hn z.1⟩
 ·refine aG fun Gg qG => ?_;obtain ⟨i,c,e⟩:=zcm e;obtain ⟨v,h1,h2⟩:=R.val i w e;refine qG ?_;clear qG;exact ⟨v,zd8 c h1,h2⟩
 ·refine aG fun Gg qG => ?_;obtain ⟨i,c,e⟩:=zcm e;obtain ⟨a,vs,ws,h1,h2,h3,h4,h5⟩:=R2.own i w e;refine qG ?_;clear qG;exact ⟨a,vs,ws,h1,zd8 c h2,h3,h4,h5⟩
 ·refine aG fun Gg qG => ?_;obtain ⟨i,c1,e1⟩:=zcm e1;obtain ⟨k,c2,e2⟩:=zcm e2;obtain ⟨i',c1',q1⟩:=capSt_get q1;obtain ⟨k',c2',q2⟩:=capSt_get q2;refine qG ?_;clear qG;rw [c1] at c1';cases c1';rw [c2] at c2';cases c2';have:=R.inj i k a _ _ e1 e2 q1 q2;subst this;have x:=zeo nd c1;rw [zeo nd c2] at x;exact (sI x).symm
 ·have own2:∀(j:Nat) (w:W),(zen cap en)[j]?=some (some (w,true))->∃(i:Nat) (a:Addr),cap[j]?=some (some i)/\en[i]?=some (some (w,true))/\σ[i]?=some (some (V.ref a))/\(capSt cap σ)[j]?=some (some (V.ref a))/\∃o,H a=some o:=fun j w e=>by
   refine aG fun _ qG=>?_;obtain ⟨i,c,e⟩:=zcm e;obtain ⟨a,vs,ws,h1,h2,h3,h4,h5⟩:=R.own i w e;refine qG ?_;clear qG;exact ⟨i,a,c,e,h2,zd8 c h2,_,h3⟩
  rcases q with (q | ⟨j0,w0,e0,c0,s0,h0⟩) | ⟨rfl,rfl⟩
  ·obtain ⟨b1, b2, b3⟩ := R2.prt b o q;refine ⟨b1,b2,fun j w e=>?_⟩;refine aG fun _ qG=>?_;obtain ⟨i,a,_,e,h2,h3,_⟩:=own2 j w e;refine qG ?_;clear qG;rw [h3];intro z;cases z;exact b3 i w e h2
  ·refine aG fun Gg qG => ?_;obtain ⟨a,vs,ws,h1,h2,h3,h4,h5⟩:=R.own j0 w0 e0;refine qG ?_;clear qG;rw [s0] at h2;cases h2;refine ⟨by rw [upd_ne (zac h0 hn)];exact h0,h4,fun j w e=>?_⟩;refine aG fun _ qG=>?_;obtain ⟨i,a,c,e,h2,h3,_⟩:=own2 j w e;refine qG ?_;clear qG;rw [h3];intro z;cases z;have:=R.inj i j0 _ _ _ e e0 h2 s0;subst this;exact zb4 c0 j c
  ·refine ⟨upd_same, fa, fun j w e => ?_⟩;refine aG fun _ qG=>?_;obtain ⟨i,a,c,e,h2,h3,o,h4⟩:=own2 j w e;refine qG ?_;clear qG;rw [h3];intro z;cases z;rw [hn] at h4;exact noSome h4
theorem Rel.unblock {cap:Cap}{acc:Addr}{F' H' : Hp}{ce:En}{σc:St}{vs:List V}{ws:List W} (R:Rel K F pr en σ H) (hn:H acc=none) (s:Same F F') (Rc:Rel K F' (zfs (zbf pr cap en σ H) acc vs) ce σc H') (kp:Keep (capKeep cap) (capSt cap σ) σc) (rs:Reps K F' ws vs) :
  Rel K F' pr (za2 cap en ce) σ H'/\Res K F' H' pr (za2 cap en ce) σ (.lst ws,true) (.ref acc):=by
 have slot:∀(i j:Nat) (v:V),zal cap i=some j->σc[j]?=some (some v)->σ[i]?=some (some v):=fun i j v c e=>by
  have c':=za7 c;rw [kp j (zkp c'),zli c'] at e;have e' : (σ[i]?).getD none=some v:=sI e;cases q:σ[i]? with
  | none=>rw [q] at e';exact noSome e'
  | some z=>rw [q] at e';exact congrArg some e'
 obtain ⟨a1,a2,a3⟩:=Rc.prt acc (.lst vs) (.inr ⟨rfl,rfl⟩);have un:∀(i:Nat) (w:W),zal cap i=none->en[i]?=some (some (w,true))->∃(a:Addr) (vs:HO) (ws:W),w=ws/\σ[i]?=some (some (V.ref a))/\H a=some vs/\H' a=some vs/\F' a=none/\OwnR K F ws vs/\∀(j:Nat) (w' : W),ce[j]?=some (some (w',true))->σc[j]?≠some (some (V.ref a)):=fun i w c e=>by
  refine aG fun _ qG=>?_;obtain ⟨a,vs,ws,h1,h2,h3,h4,h5⟩:=R.own i w e;obtain ⟨b1,b2,b3⟩:=Rc.prt a vs (.inl (.inr ⟨i,w,e,c,h2,h3⟩));refine qG ?_;clear qG;exact ⟨a,vs,ws,h1,h2,h3,b1,b2,h5,b3⟩
 have capt:∀(i j:Nat) (w:W),zal cap i=some j->ce[j]?=some (some (w,true))->∃(a:Addr) (vs:HO) (ws:W),w=ws/\σ[i]?=some (some (V.ref a))/\σc[j]?=some (some (V.ref a))/\H' a=some vs/\F' a=none/\OwnR K F' ws vs:=fun i j w c e=>by
  refine aG fun _ qG=>?_;obtain ⟨a,vs,ws,h1,h2,h3,h4,h5⟩:=Rc.own j w e;refine qG ?_;clear qG;exact ⟨a,vs,ws,h1,slot i j _ c h2,h2,h3,h4,h5⟩
 refine ⟨⟨by unfold za2;rw [List.length_mapIdx];exact R.len,Rc.sub,fun i w e=>?_,fun i w e=>?_,fun i k a w w' e1 e2 q1 q2=>?_,fun b o q=>?_,Rc.tb.go (fun b xs z=>.inl (.inl z)) (fun b ps e f=>⟨e,f⟩) (.refl F') fun b ps e hh o z=>hh o (.inl (.inl z))⟩,acc,_,_,rfl,rfl,a1,a2,.lst rs,fun i w e=>?_,fun b o q=>zac (R.prt b o q).1 hn⟩
 ·rcases backEn_get e with ⟨j, c, e⟩ | ⟨c, e⟩
  ·obtain ⟨v, h1, h2⟩ := Rc.val j w e;exact ⟨v,slot i j v c h1,h2⟩
  ·obtain ⟨v, h1, h2⟩ := R.val i w e;exact ⟨v,h1,h2.mono s⟩
 ·rcases backEn_get e with ⟨j, c, e⟩ | ⟨c, e⟩
  ·refine aG fun Gg qG => ?_;obtain ⟨a,vs,ws,h1,h2,_,h3,h4,h5⟩:=capt i j w c e;refine qG ?_;clear qG;exact ⟨a,vs,ws,h1,h2,h3,h4,h5⟩
  ·refine aG fun Gg qG => ?_;obtain ⟨a,vs,ws,h1,h2,_,h3,h4,h5,_⟩:=un i w c e;refine qG ?_;clear qG;exact ⟨a,vs,ws,h1,h2,h3,h4,h5.mono s⟩
 ·rcases backEn_get e1 with ⟨j, c, e1⟩ | ⟨c, e1⟩
  ·refine aG fun Gg qG => ?_;obtain ⟨a',_,_,_,h2,h3,_⟩:=capt i j w c e1;refine qG ?_;clear qG;rw [q1] at h2;cases h2;rcases backEn_get e2 with ⟨l,c2,e2⟩ | ⟨c2,e2⟩
   ·refine aG fun Gg qG => ?_;obtain ⟨a',_,_,_,g2,g3,_⟩:=capt k l w' c2 e2;refine qG ?_;clear qG;rw [q2] at g2;cases g2;have:=Rc.inj j l a _ _ e1 e2 h3 g3;subst this;have x:=za7 c;rw [za7 c2] at x;cases x;rfl
   ·refine aG fun Gg qG => ?_;obtain ⟨a',_,_,_,g2,_,_,_,_,g3⟩:=un k w' c2 e2;refine qG ?_;clear qG;rw [q2] at g2;cases g2;exact absurd h3 (g3 j w e1)
  ·refine aG fun Gg qG => ?_;obtain ⟨a',_,_,_,h2,_,_,_,_,h3⟩:=un i w c e1;refine qG ?_;clear qG;rw [q1] at h2;cases h2;rcases backEn_get e2 with ⟨l,c2,e2⟩ | ⟨c2,e2⟩
   ·refine aG fun Gg qG => ?_;obtain ⟨a',_,_,_,g2,g3,_⟩:=capt k l w' c2 e2;refine qG ?_;clear qG;rw [q2] at g2;cases g2;exact absurd g3 (h3 l w' e2)
   ·exact R.inj i k a _ _ e1 e2 q1 q2
 ·obtain ⟨b1, b2, b3⟩ := Rc.prt b o (.inl (.inl q));refine ⟨b1,b2,fun i w e=>?_⟩;rcases backEn_get e with ⟨j,c,e⟩ | ⟨c,e⟩
  ·refine aG fun Gg qG => ?_;obtain ⟨a,_,_,_,h2,h3,_⟩:=capt i j w c e;refine qG ?_;clear qG;rw [h2];intro z;cases z;exact b3 j w e h3
  ·exact (R.prt b o q).2.2 i w e
 ·rcases backEn_get e with ⟨j, c, e⟩ | ⟨c, e⟩
  ·refine aG fun Gg qG => ?_;obtain ⟨a,_,_,_,h2,h3,_⟩:=capt i j w c e;refine qG ?_;clear qG;rw [h2];intro z;cases z;exact a3 j w e h3
  ·refine aG fun Gg qG => ?_;obtain ⟨a,_,_,_,h2,h3,_⟩:=un i w c e;refine qG ?_;clear qG;rw [h2];intro z;cases z;rw [hn] at h3;exact noSome h3
end
noncomputable def ze5 (mp:List Nat) (T:Tg) (tc:GT) (te:GE):List W->En->Option (En × List W)
  | [],ce=>some (ce,[])
  | w::ws,ce=>(tgSet mp T w ce).bind fun c1=>match tc c1 with
    | some (c2,true)=>(te c2).bind fun p=>(ze5 mp T tc te ws p.1).bind fun q=>some (q.1,p.2.1::q.2)
    | some (c2,false)=>ze5 mp T tc te ws c2
    | none=>none
noncomputable def zd9 (cap:Cap) (T:Tg) (it:GL) (tc:GT) (te:GE):GE:=fun en=>(it en).bind fun p=>if zbu cap && decide (p.2.length<=sizeLine) then (ze5 (capKeep cap) T tc te p.2 (zen cap p.1)).bind fun q=>some (za2 cap p.1 q.1,(.lst q.2,true)) else none
noncomputable def gYes:GT:=fun en=>some (en,true)
noncomputable def zdw (mp:List Nat) (T:Tg) (tc:GT) (em:GL):List W->En->Option (En × List W)
  | [],ce=>some (ce,[])
  | w::ws,ce=>(tgSet mp T w ce).bind fun c1=>match tc c1 with
    | some (c2,true)=>(em c2).bind fun p=>(zdw mp T tc em ws p.1).bind fun q=>some (q.1,p.2++q.2)
    | some (c2,false)=>zdw mp T tc em ws c2
    | none=>none
noncomputable def gOne (te:GE):GL:=fun en=>(te en).bind fun p=>some (p.1,[p.2.1])
noncomputable def zu9 (cap:Cap) (T:Tg) (it:GL) (tc:GT) (em:GL):GE:=fun en=>(it en).bind fun p=>if zbu cap then (zdw (capKeep cap) T tc em p.2 (zen cap p.1)).bind fun q=>if q.2.length<=sizeLine then some (za2 cap p.1 q.1,(.lst q.2,true)) else none else none
theorem ze8 {mp:List Nat}{T:Tg}{tc:GT}{te:GE}:∀{ws:List W}{ce ce' : En}{out:List W},ze5 mp T tc te ws ce=some (ce',out)->zdw mp T tc (gOne te) ws ce=some (ce',out)/\out.length<=ws.length
  | [],_,_,_,h=>by cases h;exact ⟨rfl,Nat.le_refl _⟩
  | w::ws,ce,ce',out,h=>by
    obtain ⟨c1,h1,h⟩:=bS (show (tgSet mp T w ce).bind _=_ from h);have e:zdw mp T tc (gOne te) (w::ws) ce=match tc c1 with
      | some (c2,true)=>(gOne te c2).bind fun p=>(zdw mp T tc (gOne te) ws p.1).bind fun q=>some (q.1,p.2++q.2)
      | some (c2,false)=>zdw mp T tc (gOne te) ws c2
      | none=>none:=by rw [zdw,h1];rfl
    rw [e];cases et:tc c1 with
    | none=>simp only [et] at h;exact noSome h
    | some p =>
      obtain ⟨c2,b⟩:=p;cases b with
      | false=>simp only [et] at h;exact ⟨(ze8 h).1,Nat.le_succ_of_le (ze8 h).2⟩
      | true =>
        simp only [et] at h;obtain ⟨⟨c3,rv⟩,h5,h⟩:=bS h;obtain ⟨⟨c4,rest⟩,h6,h⟩:=bS h;cases h;refine ⟨?_,Nat.succ_le_succ (ze8 h6).2⟩;show (gOne te c2).bind _=_;rw [gOne,h5];show (zdw mp T tc (gOne te) ws c3).bind _=_;rw [(ze8 h6).1]
        rfl
noncomputable def MOk (K:PySem.W.Frag) (mp:List Nat) (pb:Prt) (acc:Addr) (em:GL) (tm:TM):Prop:=∀(F:Hp) (ce:En) (σ:St) (H:Hp) (vs:List V) (ce' : En) (out:List W) (N:St->Hp->Prop),Rel K F (zfs pb acc vs) ce σ H->em ce=some (ce',out)->vs.length+out.length<=sizeLine ->
 (∀F' σ' H' us,Same F F'->Rel K F' (zfs pb acc (vs++us)) ce' σ' H'->Keep mp σ σ'->Reps K F' out us->N σ' H')->tm σ H N
section
variable {K:PySem.W.Frag}{mp:List Nat}{pb:Prt}{acc:Addr}
theorem z37 {te:GE} (hb:∀b o,pb b o->b≠acc):MOk K mp pb acc (gOne te) (ztx acc (tE K te)):=by
 intro F ce σ H vs ce' out N R h hz q;refine aG fun _ qG=>?_;obtain ⟨⟨c3,rv⟩,h5,h⟩:=bS h;refine qG ?_;clear qG;cases h;refine ⟨F,_,ce,c3,rv,R,h5,fun F6 H6 v s6 R6 y6=>?_⟩;refine aG fun _ qG=>?_;obtain ⟨F7,s7,R7,y7⟩:=y6.freeze R6;obtain ⟨a1,_,_⟩:=R7.prt acc (.lst vs) (.inr ⟨rfl,rfl⟩);refine qG ?_;clear qG;exact ⟨vs,a1,hz,q F7 σ _ [v] (s6.trans s7) (R7.accUpd hb) (.refl _ _) (.cons y7 .nil)⟩
theorem zxk {em:GL}{tm:TM}{T:Tg}{tc:GT}{F1:Hp}{vs0:List V}{ce0 ce' : En}{σ0:St}{H0:Hp}{J:It}{ws out:List W}{N0:St->Hp->Prop} (M:MOk K mp pb acc em tm) (R:Rel K F1 (zfs pb acc vs0) ce0 σ0 H0) (ok:ItOk K F1 J ws) (h:zdw mp T tc em ws ce0=some (ce',out)) (hz:vs0.length+out.length<=sizeLine)
    (q:∀F' σ' H' us,Same F1 F'->Rel K F' (zfs pb acc (vs0++us)) ce' σ' H'->Keep mp σ0 σ'->Reps K F' out us->N0 σ' H'):zlt J (TGof K T) (tT K tc) tm σ0 H0 N0:=by
  refine ⟨fun i m σc Hc=>m=ws.length - i/\i<=ws.length/\∃F' ce dn us rest,Same F1 F'/\Rel K F' (zfs pb acc (vs0++us)) ce σc Hc/\Keep mp σ0 σc/\Reps K F' dn us/\zdw mp T tc em (ws.drop i) ce=some (ce',rest)/\dn++rest=out,
    ⟨_,rfl,Nat.zero_le _,F1,ce0,[],[],out,.refl _,by rw [List.append_nil];exact R,.refl _ _,.nil,h,rfl⟩,?_⟩
  rintro i m σc Hc ⟨rfl,hi,F',ce,dn,us,rest,s',R',k',rd,hl,ho⟩;by_cases hlt:i < ws.length
  · refine .inr ⟨ok.go i Hc (s'.trans R'.sub) hlt, ?_⟩
    have hd:ws.drop i=ws[i]::ws.drop (i+1):=(List.drop_eq_getElem_cons hlt);rw [hd] at hl;obtain ⟨c1,h3,hl⟩:=bS (show (tgSet mp T ws[i] ce).bind _=_ from hl);refine ⟨fun σ2 H2=>∃F' ce dn us rest,Same F1 F'/\Rel K F' (zfs pb acc (vs0++us)) ce σ2 H2/\Keep mp σ0 σ2/\Reps K F' dn us/\zdw mp T tc em (ws.drop (i+1)) ce=some (ce',rest)/\dn++rest=out,fun σ2 H2 z=>⟨ws.length - (i+1),by omega,rfl,hlt,z⟩,?_⟩;intro x H2 y;obtain ⟨w,ew,o⟩:=ok.yld i Hc x H2 (s'.trans R'.sub) hlt y;rw [List.getElem?_eq_getElem hlt] at ew;obtain rfl:=sI ew;refine aG fun _ qG=>?_;obtain ⟨F3,s3,R3,z3⟩:=(o.mono s').close R';refine qG ?_;clear qG;refine zp7 (w:=ws[i]) R3 z3 h3 fun σ3 R4 k4=>?_;cases et:tc c1 with
    | none=>simp only [et] at hl;exact noSome hl
    | some p =>
      obtain ⟨c2,b⟩:=p;refine ⟨F3,_,c1,c2,b,R4,et,fun F5 H5 s5 R5=>?_⟩;cases b with
      | false =>
        simp only [et] at hl;exact iteF ⟨F5,c2,dn,us,rest,s'.trans (s3.trans s5),R5,k'.trans k4,rd.mono (s3.trans s5),hl,ho⟩
      | true =>
        simp only [et] at hl;refine aG fun _ qG=>?_;obtain ⟨⟨c3,o1⟩,h5,hl⟩:=bS hl;obtain ⟨⟨c4,rest'⟩,h6,hl⟩:=bS hl;refine qG ?_;clear qG;cases hl;refine iteT (M F5 c2 σ3 H5 (vs0++us) c3 o1 _ R5 h5 ?_ fun F6 σ6 H6 us2 s6 R6 k6 r6=>?_)
        · dsimp only at ho
          rw [<-ho,List.length_append,List.length_append,rd.length] at hz;rw [List.length_append];omega
        · have sAll : Same F' F6 := s3.trans (s5.trans s6)
          exact ⟨F6,c3,dn++o1,us++us2,rest',s'.trans sAll,by rw [<-List.append_assoc];exact R6,k'.trans (k4.trans k6),(rd.mono sAll).append r6,h6,by rw [List.append_assoc];exact ho⟩
  · have e : i = ws.length := by omega
    subst e;rw [List.drop_length] at hl;cases hl;rw [List.append_nil] at ho;subst ho;exact .inl ⟨ok.stop Hc (s'.trans R'.sub),q F' σc Hc us s' R' k' rd⟩
end
theorem znp {K:PySem.W.Frag}{cap:Cap}{T:Tg}{it:GL}{tc:GT}{em:GL}{tm:Addr->TM}{σ:St}{H:Hp}{Q:VK} (M:∀(pb:Prt) (acc:Addr),(∀b o,pb b o->b≠acc)->MOk K (capKeep cap) pb acc em (tm acc)) (h:tE K (zu9 cap T it tc em) σ H Q):zqj (tI K it) cap (TGof K T) (tT K tc) tm σ H Q:=by
 refine aG fun _ qG=>?_;obtain ⟨F,pr,en,en',r,R,h,q⟩:=h;obtain ⟨⟨e1,ws⟩,h1,h⟩:=bS h;refine qG ?_;clear qG;refine ⟨F,pr,en,e1,ws,R,h1,fun F1 H1 J s1 R1 ok acc hacc=>?_⟩;split at h
 ·rename_i nd;refine aG fun _ qG=>?_;obtain ⟨⟨ce',out⟩,h2,h⟩:=bS h;refine qG ?_;clear qG;split at h
  ·rename_i hz;cases h;refine zxk (M _ acc (zqw (cap:=cap) R1 hacc)) (R1.block hacc nd) ok h2 (by rw [List.length_nil,Nat.zero_add];exact hz) fun F' σ' H' us s' R' k' rd=>?_;obtain ⟨Ro,rz⟩:=R1.unblock hacc s' R' k' rd;exact q F' H' _ (s1.trans s') Ro rz
  ·exact noSome h
 ·exact noSome h
theorem zol {K:PySem.W.Frag}{cap:Cap}{T:Tg}{it:GL}{tc:GT}{te:GE}{σ:St}{H:Hp}{Q:VK} (h:tE K (zd9 cap T it tc te) σ H Q):zqj (tI K it) cap (TGof K T) (tT K tc) (fun acc=>ztx acc (tE K te)) σ H Q:=by
 refine znp (fun pb acc hb=>z37 hb) ?_;obtain ⟨F,pr,en,en',r,R,h,q⟩:=h;refine ⟨F,pr,en,en',r,R,?_,q⟩;refine aG fun _ qG=>?_;obtain ⟨⟨e1,ws⟩,h1,h⟩:=bS h;refine qG ?_;clear qG;split at h
 ·rename_i z;rw [Bool.and_eq_true] at z;refine aG fun _ qG=>?_;obtain ⟨⟨ce',out⟩,h2,h⟩:=bS h;refine qG ?_;clear qG;obtain ⟨h3,h4⟩:=ze8 h2;rw [zu9,h1];show (if zbu cap=true then (zdw (capKeep cap) T tc (gOne te) ws (zen cap e1)).bind _ else none)=_;rw [if_pos z.1,h3];show (if out.length<=sizeLine then _ else none)=_;rw [if_pos (Nat.le_trans h4 (of_decide_eq_true z.2))];exact h
 ·exact noSome h
noncomputable def z4i:GE:=fun en=>some (en,(.dic,false))
noncomputable def keyW:W->Bool
 | .int _=>true
 | .str _=>true
 | _=>false
noncomputable def z38 (k v:GE):GE:=fun en=>(k en).bind fun p=>if keyW p.2.1 then (v p.1).bind fun q=>some (q.1,(.dic,false)) else none
end L2
namespace L2
open PySem PySem.Spec PyProof.Rows
noncomputable def Src (h:Heap) (it l:Addr) (k:Nat) (xs:Array Value):Prop:=(h.IsListIter it l k/\h.IsList l xs)\/(h.IsTupleIter it l k/\h.IsTuple l xs)
section
variable {prog:Program}{w:World}{A:Around}{E:Value->Shared->Prop}{s:Shared}
theorem zt1 {it l:Addr}{k:Nat}{xs:Array Value}{x:Value}{Q:Value->Shared->Prop} (c:Src s.heap it l k xs) (hx:xs[k]?=some x) (ne:l≠it)
  (q:∀h',Src h' it l (k+1) xs->Heap.SameBut it s.heap h'->Q x { s with heap:=h' }):wpAny (model prog w) A (Builtin.SmallTypes.nextOf (.ref it)) Q E s:=by
 rcases c with ⟨c1,c2⟩ | ⟨c1,c2⟩
 ·exact wpAny_nextOf_list_item c1 c2 hx fun h' a b=>q h' (.inl ⟨a,c2.at fun o e=>(b.2 l ne).trans e⟩) b
 ·refine aG fun Gg qG => ?_;obtain ⟨oi,ei,ci,di⟩:=id c1;obtain ⟨os,es,cs,ns,ds⟩:=id c2;refine qG ?_;clear qG;unfold Builtin.SmallTypes.nextOf;refine wpAny_bind (wpAny_callSpecial?_slot (name:=Str.ofString "__next__") c1.typeIs F.slot_tuple_iterator_next (wpAny_call_entry F.slot_tuple_iterator_next c1.typeIs F.entry_tuple_iterator_next ?_ (F.args_tuple_iterator_next_1 _)));refine (show wpAny _ _ (field (.ref it) 0 >>= _) _ _ s from wpAny_bind (wpAny_field ei di (x:=.ref l) rfl ?_));refine (show wpAny _ _ (if (Value.ref l == Value.none)=true then _ else _) _ _ s from ?_);rw [if_neg (by intro z;cases z)];refine (show wpAny _ _ (field (.ref it) 1 >>= _) _ _ s from wpAny_bind (wpAny_field ei di (x:=.int k 0) rfl ?_));refine (show wpAny _ _ (seqItems? (.ref l) >>= _) _ _ s from wpAny_bind (wpAny_seqItems es ds ?_));simp only [Int.toNat_natCast,hx];refine wpAny_bind (wpAny_setField ei di (by simp) (wpAny_pure ⟨x,rfl,wpAny_pure ?_⟩));refine q _ (.inr ⟨⟨_,Heap.get?_update_self _ ei (Obj.isFreed_of_fields (Obj.data_mapFields di _)),(Obj.cls_mapFields ..).trans ci,by rw [Obj.data_mapFields di];simp [rawInt]⟩,os,?_,cs,ns,ds⟩) (Heap.SameBut.update ..);exact ((Heap.SameBut.update ..).2 l ne).trans es
theorem zqi {it l:Addr}{k:Nat}{xs:Array Value}{Q:Value->Shared->Prop} (hn:A.handled=none) (c:Src s.heap it l k xs) (hx:xs[k]?=none)
  (q:∀h' e,Heap.ExtBut it s.heap h'->(∃o,h'.get? e=some o/\o.cls=.type "StopIteration")->E (.ref e) { s with heap:=h' }):wpAny (model prog w) A (Builtin.SmallTypes.nextOf (.ref it)) Q E s:=by
 rcases c with ⟨c1,c2⟩ | ⟨c1,c2⟩
 ·exact wpAny_nextOf_list_end hn c1 c2 hx q
 ·obtain ⟨oi, ei, ci, di⟩ := id c1;obtain ⟨os,es,cs,ns,ds⟩:=id c2;unfold Builtin.SmallTypes.nextOf;refine wpAny_bind (wpAny_callSpecial?_slot (name:=Str.ofString "__next__") c1.typeIs F.slot_tuple_iterator_next (wpAny_call_entry F.slot_tuple_iterator_next c1.typeIs F.entry_tuple_iterator_next ?_ (F.args_tuple_iterator_next_1 _)));refine (show wpAny _ _ (field (.ref it) 0 >>= _) _ _ s from wpAny_bind (wpAny_field ei di (x:=.ref l) rfl ?_));refine (show wpAny _ _ (if (Value.ref l == Value.none)=true then _ else _) _ _ s from ?_);rw [if_neg (by intro z;cases z)];refine (show wpAny _ _ (field (.ref it) 1 >>= _) _ _ s from wpAny_bind (wpAny_field ei di (x:=.int k 0) rfl ?_));refine (show wpAny _ _ (seqItems? (.ref l) >>= _) _ _ s from wpAny_bind (wpAny_seqItems es ds ?_));simp only [Int.toNat_natCast,hx];refine wpAny_bind (wpAny_rule (wpAny_bind (wpAny_setField ei di (by simp) (show wpAny _ _ (newExc (.type "StopIteration") [] >>= _) _ _ _ from wpAny_bind ?_))));simp only [newExc,newTuple];refine wpAny_bind (wpAny_newObj_type (wpAny_bind (m:=firstArgMember _ _) (wpAny_of_eq (a:=Value.none) (by first | rfl | (simp only [firstArgMember];rfl)) (wpAny_newObj_type ?_ (by size_fits)))) (by size_fits));simp only [raiseNew];refine wpAny_bind (wpAny_handled ?_);rw [show A.in1.handled=none from hn];exact wpAny_bind (wpAny_pure (wpAny_throw (q _ _ (((Heap.SameBut.update ..).extBut.push _).push _) ⟨_,Heap.get?_push_size _ rfl,rfl⟩)))
end
end L2
namespace L2
open PySem PySem.Spec PyProof.Rows
noncomputable def SrcO (h:Heap) (b:Bool) (l:Addr) (xs:Array Value):Prop:=match b with
 | true=>h.IsList l xs
 | false=>h.IsTuple l xs
section
variable {prog:Program}{w:World}{A:Around}{E:Value->Shared->Prop}{s:Shared}
end
section
variable {prog:Program}{w:World}{A:Around}{E:Value->Shared->Prop}{s:Shared}
end
noncomputable def SqK (K:PySem.W.Frag) (k:Bool) (H:Hp) (a:Addr) (xs:List V):Prop:=match k with
 | true=>SqL K H a xs
 | false=>SqT K H a xs
section
variable {X:Cx}
end
noncomputable def zipW:List W->List W->List W
 | x::xs,y::ys=>.tup [x,y]::zipW xs ys
 | _,_=>[]
noncomputable def gZip (g g' : GE):GL:=fun en=>(g en).bind fun p=>(g' p.1).bind fun q=>(seqW p.2.1).bind fun ws=>(seqW q.2.1).bind fun us=>some (q.1,zipW ws us)
section
variable {K:PySem.W.Frag}{F H:Hp}{σ:St}
theorem zet {w:W}{ws:List W}{v:V} (y:Rep K F w v) (hs:seqW w=some ws):∃a k vs,v=.ref a/\SqK K k F a vs/\Reps K F ws vs:=by
  cases w with
  | lst xs=>obtain rfl:=sI hs;cases y with
    | lst y r=>exact ⟨_,true,_,rfl,SqL.of' y,r⟩
  | frl xs=>obtain rfl:=sI hs;cases y with
    | frl y r=>exact ⟨_,true,_,rfl,y,r⟩
  | tup xs=>obtain rfl:=sI hs;cases y with
    | tup y r=>exact ⟨_,false,_,rfl,.inl (.inl y),r⟩
  | _=>exact noSome hs
end
end L2
namespace L2
open PySem PySem.Spec PyProof.Rows
open AutoSeq1 (wpAny_loadPart')
section
variable {prog:Program}{w:World}{A:Around}{E:Value->Shared->Prop}{s:Shared}
theorem zqc {it l:Addr}{xs:Array Value} (ne:l≠it) (hn:A.handled=none):Draws prog w A.in1 it [it,l] xs.size (fun i x=>xs[i]?=some x) (fun k h=>h.IsTupleIter it l k/\h.IsTuple l xs) where
 live:=fun i h st=>let ⟨⟨o,e,_⟩,_⟩:=st;⟨o,e⟩
 frame:=fun i h h' st k=>⟨st.1.at fun o e=>k it (by simp) o e,let ⟨o,e,r⟩:=st.2;⟨o,k l (by simp) o e,r⟩⟩
 item:=fun i s Q E hi st q=>zt1 (k:=i) (xs:=xs) (x:=xs[i]) (.inr st) (Array.getElem?_eq_getElem hi) ne fun h' c sb=>by
  rcases c with ⟨⟨o,e,c1,_⟩,c2⟩ | c
  ·obtain ⟨o', e', c1', _⟩ := st.1;have:=st.2;exact absurd c2 (fun c2=>by
    obtain ⟨o2,e2,c3,_⟩:=c2;obtain ⟨o3,e3,c4,_⟩:=st.2;rw [(sb.2 l ne).trans e3] at e2;obtain rfl:=sI e2;rw [c4] at c3;exact absurd (Value.type.inj c3) (by decide))
  ·exact q xs[i] h' s.toks (Array.getElem?_eq_getElem hi) c sb
 done:=fun s Q E st q=>zqi (k:=xs.size) (xs:=xs) (show A.in1.handled=none from hn) (.inr st) (Array.getElem?_eq_none (Nat.le_refl _)) q
theorem zks (l:Addr) (items:Array Value) (n:Nat) (dct:Option Addr) (sl:Array (Option Value)) :
  Meets (Builtin.«enumerate.__new__» ⟨[.type "enumerate",.ref l],[]⟩) (fun _ R s=>s.heap.get? l=some { cls:=.type "tuple",dict:=dct,data:=.seq items n,slots:=sl } /\
   R (.ok (.ret (.ref (s.heap.push { cls:=.type "tuple_iterator",data:=.fields #[.ref l,.int 0 0] }).objs.size)))
    { s with heap:=(s.heap.push { cls:=.type "tuple_iterator",data:=.fields #[.ref l,.int 0 0] }).push { cls:=.type "enumerate",data:=.fields #[.none,.bool false,.ref s.heap.objs.size,rawInt 0,.none,.none] } }) :=
 .of_wp fun prog w A R s h=>by
  obtain ⟨hp,g,d,tk,os⟩:=s;obtain ⟨hl,h⟩:=h;have hsub:=sub_enumerate;have hL:Heap.IsTuple (Shared.heap ⟨hp,g,d,tk,os⟩) l items:=⟨_,hl,rfl,n,rfl⟩
  wp_walk using wpAny_loadPart' hl
  refine wpAny_stack_any fun st=>wpAny_pure ?_;split
  ·rename_i c _ _ _ _ _;cases (c == Value.type "enumerate")<;>(wp_walk using wpAny_loadPart' hl,wpAny_pyIter_tuple hL)<;>exact ⟨_,rfl,h⟩
  ·wp_walk using wpAny_loadPart' hl, wpAny_pyIter_tuple hL
   exact ⟨_,rfl,h⟩
theorem znh {l:Addr}{items:Array Value}{Q:Value->Shared->Prop} (hL:s.heap.IsTuple l items)
  (h:∀h',IsEnum h' (s.heap.objs.size+1) s.heap.objs.size 0 .none->h'.IsTupleIter s.heap.objs.size l 0->(∀b o,s.heap.get? b=some o->h'.get? b=some o)->Q (.ref (s.heap.objs.size+1)) { s with heap:=h' }) :
  wpAny (model prog w) A (call (.type "enumerate") [.ref l]) Q E s:=by
 refine aG fun _ qG=>?_;obtain ⟨⟨c,dct,dt,sl⟩,hl,hc,n,hd⟩:=hL;refine qG ?_;clear qG;cases (show c=.type "tuple" from hc);cases (show dt=.seq items n from hd);refine callType_new F.called_enumerate (by decide) (F.typeCall_enumerate_1 _) (F.newCall_enumerate_1 _) (fun obj=>F.args_object_init_2 obj _) F.entry_enumerate_new (zks l items n dct sl) ⟨hl,?_⟩;have hz:(s.heap.push { cls:=.type "tuple_iterator",data:=.fields #[.ref l,.int 0 0] }).objs.size=s.heap.objs.size+1:=Heap.size_push ..;show _/\_;rw [hz];have he:=Heap.get?_push_size (s.heap.push { cls:=.type "tuple_iterator",data:=.fields #[.ref l,.int 0 0] }) (o:={ cls:=.type "enumerate",data:=.fields #[.none,.bool false,.ref s.heap.objs.size,rawInt 0,.none,.none] }) rfl;rw [hz] at he;exact ⟨⟨_,he,rfl⟩,h _ he ⟨_,Heap.get?_push_of_some _ (Heap.get?_push_size _ rfl),rfl,rfl⟩ fun b o x=>Heap.get?_push_of_some _ (Heap.get?_push_of_some _ x)⟩
end
noncomputable def IteT (K:PySem.W.Frag) (a:Addr):It :=
 ⟨fun i H=>∃xs x,SqT K H a xs/\xs[i]?=some x,fun i H x H'=>∃p v,x=.ref p/\H p=none/\H'=upd H p (.tup [.int i,v])/\∀xs,SqT K H a xs->xs[i]?=some v,fun i H=>∃xs,SqT K H a xs/\xs.length<=i⟩
theorem zno {P:Program}{w:World}{K:PySem.W.Frag}{es:List Expr}{x1}{px:Pos} (a e it:Addr) (hei:e≠it) (hea:e≠a) (hai:a≠it):Turn P w K (.Tuple es x1 px) (IteT K a) [e,it] e (fun i h=>(∃old,IsEnum h e it i old)/\h.IsTupleIter it a i) where
 mem:=by simp
 obj:=fun i h st b hb=>by
  refine aG fun _ qG=>?_;obtain ⟨⟨old,he⟩,o,hi,c,d⟩:=st;refine qG ?_;clear qG;rcases List.mem_cons.mp hb with rfl | hb
  ·exact ⟨_,he,fun v z=>by cases z⟩
  ·have : b = it := by simpa using hb
   subst this;exact ⟨o,hi,fun v z=>by rw [d] at z;cases z⟩
 keep:=fun i h h' st k=>⟨let ⟨old,he⟩:=st.1;⟨old,k e (by simp) _ he⟩,st.2.at fun o z=>k it (by simp) o z⟩
 item:=by
  intro X hP hw hK hc i pins s σ H E I hf st hg;subst hP hw hK;refine aG fun _ qG=>?_;obtain ⟨xs,x,hq,hx⟩:=hg;obtain ⟨its,rv,p,hz⟩:=I.tuple hq;obtain ⟨u,hu,ru⟩:=rv.get hx;obtain ⟨⟨old,he⟩,hit⟩:=st;refine qG ?_;clear qG;have hT:s.heap.IsTuple a its.toArray:=p;have lt:i < its.toArray.size:=by
   rw [List.size_toArray];exact (List.getElem?_eq_some_iff.mp hu).1
  refine wpAny_pyNext_enum_itemD (zqc hai (I.ok.hd hc)) he ⟨hit,hT⟩ lt hei (by simp [hei,hea]) fun y h' tk hy ho hst hT' hsz hk=>⟨_,rfl,?_⟩;have eu:y=u:=by
   have:its[i]?=some y:=by simpa using hy
   rw [hu] at this;exact (sI this).symm
  subst eu;refine wpAny_letOwnedTupleGo_enum ho fun h'' he'' hs''=>?_;have kk:∀b o,b ∉ [e,it]->s.heap.get? b=some o->h''.get? b=some o:=fun b o hb q=>by
   have h1:b≠e:=fun z=>hb (by simp [z]);have h2:b≠it:=fun z=>hb (by simp [z]);exact (hs''.2 b h1).trans (hk b o h1 h2 q)
  have hTe:s.heap.objs.size≠e:=fun z=>absurd (Heap.lt_size he) (by rw [z];exact Nat.lt_irrefl _);have hit'' : h''.IsTupleIter it a (i+1):=hst.1.at fun o y=>(hs''.2 it hei.symm).trans y;refine ⟨.ref s.heap.objs.size,upd H s.heap.objs.size (.tup [.int i,x]),I.turnLay kk (fun b hb=>?_) hf (Nat.le_refl _) ⟨by show 2<=sizeLine;decide,[.int i tk,y],.cons ⟨_,rfl⟩ (.cons ru .nil),?_⟩,rfl,⟨_,x,rfl,I.hok.fresh (Nat.le_refl _),rfl,fun ys hy=>by rw [I.tuple_inj hy hq];exact hx⟩,⟨⟨_,by simpa using he''⟩,hit''⟩,fun b hb=>?_⟩
  ·rcases List.mem_cons.mp hb with rfl | hb
   ·exact ⟨_,he''⟩
   ·have : b = it := by simpa using hb
    subst this;obtain ⟨o,z,_⟩:=hit'';exact ⟨o,z⟩
  ·exact ⟨_,(hs''.2 _ hTe).trans hT',rfl,_,rfl⟩
  ·have:b≠s.heap.objs.size:=by
    rcases List.mem_cons.mp hb with rfl | hb
    ·exact hTe.symm
    ·have e2 : b = it := by simpa using hb
     subst e2;obtain ⟨o,z,_⟩:=hit;exact Nat.ne_of_lt (Heap.lt_size z)
   rw [upd_ne this];exact (hf b hb).1
 done:=by
  intro X hP hw hK hc i pins s σ H E I hf st hg;subst hP hw hK;refine aG fun _ qG=>?_;obtain ⟨xs,hq,hx⟩:=hg;obtain ⟨its,rv,p,hz⟩:=I.tuple hq;obtain ⟨⟨old,he⟩,hit⟩:=st;obtain ⟨f0,f1,f2,f3,f4,f5⟩:=hf it (by simp);refine qG ?_;clear qG;have hl:=rv.length;have hT:s.heap.IsTuple a its.toArray:=p;have hTy:s.TypeIs (.ref e) "enumerate" := ⟨_,he,rfl⟩;unfold pyNext;refine wpAny_bind (wpAny_attempt (wpAny_callSpecial?_slot (name:=Str.ofString "__next__") hTy F.slot_enumerate_next (wpAny_call_entry F.slot_enumerate_next hTy F.entry_enumerate_next ?_ (F.args_enumerate_next_1 _))));show wpAny _ _ (field (.ref e) 2 >>= _) _ _ _;refine wpAny_bind (wpAny_field he rfl (x:=.ref it) rfl ?_);refine wpAny_bind (zqi (show _=none from I.ok.hd hc) (.inr ⟨hit,hT⟩) (Array.getElem?_eq_none (by simp;omega)) fun h' x eb hx'=>?_);obtain ⟨o,ho,hc'⟩:=hx';refine wpAny_bind (wpAny_isInstance (T := "StopIteration") (b:=true) ⟨o,ho,hc'⟩ isSubtype_stop ?_);exact wpAny_pure ⟨rfl,I.turned (t':=s.toks) (fun b o hb e=>eb b o hb e) f0 f1 f3 f4 f5⟩
 self:=fun _ _ _ _ _ st h=>let ⟨_,he⟩:=st.1;wpAny_pyIter_enum he h
section
variable {X:Cx}
noncomputable def zvp (K:PySem.W.Frag) (ta:TA):TI:=fun σ H R=>ta σ H fun vs H1=>∃a xs,vs=[.ref a]/\(SqL K H1 a xs/\R (Ite K a) H1\/SqT K H1 a xs/\R (IteT K a) H1)
theorem ztj {es:List Expr}{x1}{px:Pos}{l:Expr}{tl:TA}{p pos:Pos} (hg:Gl X "enumerate") (hm:X.mg "enumerate" = none) (hl:PA X [l] tl) (hs:starEach [l] X.env=[(false,eval l X.env)]:=by rfl) :
    PI X (.Tuple es x1 px) (.Call (.Name "enumerate" p) [l] [] pos) (zvp X.K tl):=by
  intro pins s σ H R I h;refine Call_ (zcv I hg hm boot_enumerate (PyProof.Rows.callWith_type1 (thn (hl pos pins s σ H _ I h) fun us s1 ⟨vs,H1,I1,r1,q1⟩=>?_) hs rfl));obtain ⟨a,xs,e,q⟩:=q1;subst e;cases r1 with
  | cons r rr =>
    cases rr;cases r;have fp:∀b∈[s1.heap.objs.size+1,s1.heap.objs.size],FpOk X pins H1 b:=fun b hb=>by
      have e:s1.heap.objs.size<=b:=by
        rcases List.mem_cons.mp hb with rfl | hb
        · exact Nat.le_succ _
        · have e2 : b = s1.heap.objs.size := by simpa using hb
          rw [e2];exact Nat.le_refl _
      exact I1.fpOk e (I1.hok.fresh e)
    rcases q with ⟨hq,q⟩ | ⟨hq,q⟩
    · obtain ⟨its, rv, p', hz⟩ := I1.list hq
      refine call_enumerate_list p'.isList fun h' he hit hsz hk=>wpAny_pyIter_enum he ?_;exact ⟨s1.heap.objs.size+1,[s1.heap.objs.size+1,s1.heap.objs.size],_,_,H1,rfl,I1.kept (t':=s1.toks) hk,zpi a _ _ (Nat.succ_ne_self _),⟨⟨_,by simpa using he⟩,hit⟩,fp,q⟩
    · obtain ⟨its, rv, p', hz⟩ := I1.tuple hq
      have hT:s1.heap.IsTuple a its.toArray:=p';have al:a < s1.heap.objs.size:=let ⟨o,e,_⟩:=hT;Heap.lt_size e;refine znh hT fun h' he hit hk=>wpAny_pyIter_enum he ?_;exact ⟨s1.heap.objs.size+1,[s1.heap.objs.size+1,s1.heap.objs.size],_,_,H1,rfl,I1.kept (t':=s1.toks) hk,zno a _ _ (Nat.succ_ne_self _) (Nat.ne_of_gt (Nat.lt_succ_of_lt al)) (Nat.ne_of_lt al),⟨⟨_,by simpa using he⟩,hit⟩,fp,q⟩
end
section
variable {K:PySem.W.Frag}{F H:Hp}{σ:St}
theorem zt0 {a:Addr}{vs:List V}{ws:List W} (h:SqT K F a vs) (r:Reps K F ws vs):ItOk K F (IteT K a) (zc9 ws 0) where
 go:=fun i H s hi=>by rw [za5] at hi;exact ⟨vs,vs[i]'(by rw [<-r.length];exact hi),zbl s h,by rw [List.getElem?_eq_getElem]⟩
 stop:=fun H s=>⟨vs,zbl s h,by rw [za5,r.length];exact Nat.le_refl _⟩
 yld:=fun i H x H' s hi y=>by
  refine aG fun _ qG=>?_;obtain ⟨p,v,e,hp,e2,y⟩:=y;refine qG ?_;clear qG;subst e e2;obtain ⟨w,e,q⟩:=r.getV (y vs (zbl s h));refine ⟨_,zcu e,?_⟩;rw [Nat.zero_add];exact .tup hp (.cons (.int _) (.cons q .nil))
noncomputable def zjp (g:GE):GL:=fun en=>(g en).bind fun p=>(seqW p.2.1).bind fun ws=>some (p.1,zc9 ws 0)
theorem zqh {g:GE}{R:It->Hp->Prop} (h:tI K (zjp g) σ H R):zvp K (zdd (tE K g) tNil) σ H R:=by
 refine aG fun _ qG=>?_;obtain ⟨F,pr,en,en',ws,Re,h,q⟩:=h;obtain ⟨⟨e1,rv⟩,h1,h⟩:=bS h;obtain ⟨us,hs,h⟩:=bS h;refine qG ?_;clear qG;cases h;refine ⟨F,pr,en,e1,rv,Re,h1,fun F1 H1 v s1 R1 z=>?_⟩;refine aG fun _ qG=>?_;obtain ⟨F2,s2,R2,y⟩:=z.freeze R1;obtain ⟨a,k,vs,e,hq,r⟩:=zet y hs;refine qG ?_;clear qG;subst e;cases k with
 | true=>exact ⟨a,vs,rfl,.inl ⟨R2.sub.seq hq,q F2 H1 _ (s1.trans s2) R2 (zy3 hq r)⟩⟩
 | false=>exact ⟨a,vs,rfl,.inr ⟨zbl R2.sub hq,q F2 H1 _ (s1.trans s2) R2 (zt0 hq r)⟩⟩
end
end L2
namespace L2
open PySem PySem.Spec PyProof.Rows
section
variable {X:Cx}{pins:List (Addr × Obj)}{σ:St}{H:Hp}{s:Shared}
noncomputable def okD (d:PyData):Bool:=d.showable && !d.hasDict && decide (d.depth<=100) && decide (d.shown.length<=sizeLine)
noncomputable def zx2:List V->Hp->VK->Prop:=fun xs H Q=>∃a d,xs=[.ref a]/\DV H (.ref a) d/\okD d=true/\Q (.str d.shown) H
theorem zrm {d:PyData} (h:okD d=true):d.showable=true/\d.hasDict=false/\d.depth<=100/\d.shown.length<=sizeLine:=by
 unfold okD at h;rw [Bool.and_eq_true,Bool.and_eq_true,Bool.and_eq_true] at h;exact ⟨h.1.1.1,by simpa using h.1.1.2,of_decide_eq_true h.1.2,of_decide_eq_true h.2⟩
noncomputable def zog:List V->Hp->VK->Prop:=fun xs H Q=>(∃i,xs=[.int i]/\i.natAbs.log2 < 1920/\Q (.str (toString i)) H)\/(xs=[.non]/\Q (.str "None") H)\/(∃b:Bool,xs=[.bl b]/\Q (.str (if b then "True" else "False")) H)\/zx2 xs H Q
theorem zi6 {k:Nat} (hr:Room k X.A):zbj X (.builtin "repr") zog:=by
 intro pins s σ H xs us Q I r h;rcases h with h | h | h | h
 ·refine aG fun Gg qG => ?_;obtain ⟨i,rfl,hi,q⟩:=h;obtain ⟨u,rfl,ru⟩:=r.one;obtain ⟨t,rfl⟩:=(show ∃t,u=Value.int i t from ru);refine qG ?_;clear qG;exact PySem.P.repr_of_int hi ⟨.str _,H,I.tok _,⟨_,rfl⟩,q⟩
 ·obtain ⟨rfl, q⟩ := h;obtain ⟨u,rfl,ru⟩:=r.one;obtain rfl:=(show u=Value.none from ru);exact PySem.P.repr_of_none ⟨.str _,H,I.tok _,⟨_,rfl⟩,q⟩
 ·obtain ⟨b, rfl, q⟩ := h;obtain ⟨u,rfl,ru⟩:=r.one;obtain rfl:=(show u=Value.bool b from ru);exact PySem.P.repr_of_bool ⟨.str _,H,I.tok _,⟨_,rfl⟩,q⟩
 ·refine aG fun Gg qG => ?_;obtain ⟨a,d,rfl,dv,ok,q⟩:=h;obtain ⟨u,rfl,ru⟩:=r.one;refine qG ?_;clear qG;cases ru;refine aG fun _ qG=>?_;obtain ⟨as,rd⟩:=dv.reads I rfl;obtain ⟨o1,o2,o3,o4⟩:=zrm ok;refine qG ?_;clear qG;exact repr_of_reads' rd o1 (fun z=>by rw [o2] at z;cases z) hr.gd (by have:=hr.un;omega) (fun _ _ e=>e) (fun h' u tk hk=>⟨.str _,H,I.kept (t':=tk) hk,⟨_,rfl⟩,q⟩) o4
theorem zrq {k:Nat} (hr:Room k X.A):zbj X (.type "str") (fun xs H Q=>(∃i,xs=[.int i]/\i.natAbs.log2 < 1920/\Q (.str (toString i)) H)\/zx2 xs H Q):=by
 intro pins s σ H xs us Q I r h;rcases h with h | h
 ·exact zix pins s σ H xs us Q I r h
 ·refine aG fun Gg qG => ?_;obtain ⟨a,d,rfl,dv,ok,q⟩:=h;obtain ⟨u,rfl,ru⟩:=r.one;refine qG ?_;clear qG;cases ru;refine aG fun _ qG=>?_;obtain ⟨as,rd⟩:=dv.reads I rfl;obtain ⟨o1,o2,o3,o4⟩:=zrm ok;refine qG ?_;clear qG;exact str_of_reads rd o1 (fun z=>by rw [o2] at z;cases z) hr.gd (by have:=hr.un;omega) (fun _ _ e=>e) (fun h' u tk hk=>⟨.str _,H,I.kept (t':=tk) hk,⟨_,rfl⟩,q⟩) o4
end
section
variable {K:PySem.W.Frag}{F H:Hp}
noncomputable def zuh (w:W):Option (W × Bool):=(seqW w).bind fun _=>(dW w).bind fun d=>if okD d then some (.str d.shown,false) else none
noncomputable def zkg:ON
 | [.int i]=>if i.natAbs.log2 < 1920 then some (.str (toString i),false) else none
 | [.non]=>some (.str "None",false)
 | [.bl b]=>some (.str (if b then "True" else "False"),false)
 | [w]=>zuh w
 | _=>none
noncomputable def zs4:ON
 | [.int i]=>if i.natAbs.log2 < 1920 then some (.str (toString i),false) else none
 | [w]=>zuh w
 | _=>none
theorem zpf {w:W}{v:V}{rv:W × Bool} (s:Same F H) (r:RepB K F H w v) (e:zuh w=some rv):∃a d,v=.ref a/\DV H (.ref a) d/\okD d=true/\rv=(.str d.shown,false):=by
  unfold zuh at e;refine aG fun _ qG=>?_;obtain ⟨ws,hs,e⟩:=bS e;obtain ⟨d,hd,e⟩:=bS e;refine qG ?_;clear qG;split at e
  · rename_i ok
    obtain rfl:=sI e;rcases r with r | ⟨a,o,us,z,rfl,h,q⟩
    · have dv := rep_dv s r hd
      cases r with
      | tup h _=>exact ⟨_,d,rfl,dv,ok,rfl⟩
      | lst h _=>exact ⟨_,d,rfl,dv,ok,rfl⟩
      | frl h _=>exact ⟨_,d,rfl,dv,ok,rfl⟩
      | _=>exact noSome hs
    · subst z
      cases q with
      | dct hl q=>exact noSome hs
      | dctT hl q=>exact noSome hs
      | lst q =>
        rw [dW] at hd;obtain ⟨ds,e1,e2⟩:=bS hd;obtain rfl:=sI e2;exact ⟨a,_,rfl,.lst h (zeu s q e1),ok,rfl⟩
  · exact noSome e
theorem oRepr_ok:OpSN K zog zkg:=fun F H ws vs rv Q s r e q=>by
  match ws,e with
  | [w],e =>
    obtain ⟨v,e1,hv⟩:=r.one;subst e1;cases w with
    | int i =>
      have e' : (if i.natAbs.log2 < 1920 then some (W.str (toString i),false) else none)=some rv:=e;by_cases z:i.natAbs.log2 < 1920
      · rw [if_pos z] at e'
        obtain rfl:=sI e';exact .inl ⟨i,by rw [hv.int],z,q _ _ (.val (.str _))⟩
      · rw [if_neg z] at e'
        exact noSome e'
    | non =>
      obtain rfl:=sI e;exact .inr (.inl ⟨by rw [hv.non],q _ _ (.val (.str _))⟩)
    | bl b =>
      obtain rfl:=sI e;exact .inr (.inr (.inl ⟨b,by rw [hv.bl],q _ _ (.val (.str _))⟩))
    | _ =>
      obtain ⟨a,d,rfl,dv,ok,rfl⟩:=zpf s hv e;exact .inr (.inr (.inr ⟨a,d,rfl,dv,ok,q _ _ (.val (.str _))⟩))
  | [],e=>exact noSome e
  | a::b::l,e=>cases a<;>exact noSome e
theorem zus:OpSN K (fun xs H Q=>(∃i,xs=[.int i]/\i.natAbs.log2 < 1920/\Q (.str (toString i)) H)\/zx2 xs H Q) zs4:=fun F H ws vs rv Q s r e q=>by
  match ws,e with
  | [w],e =>
    obtain ⟨v,e1,hv⟩:=r.one;subst e1;cases w with
    | int i =>
      have e' : (if i.natAbs.log2 < 1920 then some (W.str (toString i),false) else none)=some rv:=e;by_cases z:i.natAbs.log2 < 1920
      · rw [if_pos z] at e'
        obtain rfl:=sI e';exact .inl ⟨i,by rw [hv.int],z,q _ _ (.val (.str _))⟩
      · rw [if_neg z] at e'
        exact noSome e'
    | _ =>
      obtain ⟨a,d,rfl,dv,ok,rfl⟩:=zpf s hv e;exact .inr ⟨a,d,rfl,dv,ok,q _ _ (.val (.str _))⟩
  | [],e=>exact noSome e
  | a::b::l,e=>cases a<;>exact noSome e
end
end L2
namespace L2
open PySem PySem.Spec PyProof.Rows
noncomputable abbrev Fn:=List W->Option (List W × (W × Bool))
noncomputable def za4 (m:List Bool) (ws:List W):En:=List.zipWith (fun w b=>some (w,b)) ws m
noncomputable def spF (K:PySem.W.Frag) (m:List Bool) (Φ:Fn):Sp:=fun vs H Q _=>∃F pr ws ws' r,ws.length=m.length/\ws'.length=m.length/\Rel K F pr (za4 m ws) (vs.map some) H/\Φ ws=some (ws',r) /\
 ∀F' H' v,Same F F'->Rel K F' pr (za4 m ws') (vs.map some) H'->Res K F' H' pr (za4 m ws') (vs.map some) r v->Q v H'
theorem zdl {m:List Bool}{ws:List W}{k:Nat}{w:W}{b:Bool}:(za4 m ws)[k]?=some (some (w,b))↔ws[k]?=some w/\m[k]?=some b:=by
 unfold za4;rw [List.getElem?_zipWith];cases ws[k]?<;>cases m[k]?<;>simp
theorem zdj {m:List Bool}{ws:List W} (h:ws.length=m.length):(za4 m ws).length=m.length:=by
 unfold za4;rw [List.length_zipWith,h,Nat.min_self]
theorem zo1 {K:PySem.W.Frag}{m:List Bool}{Φ:Fn}{vs:List V}{H:Hp}{Q:VK}{E:XK} (h:spF K m Φ vs H Q E):vs.length=m.length:=by
 obtain ⟨F,pr,ws,ws',r,h1,_,R,_⟩:=h;have:=R.len;rw [zdj h1,List.length_map] at this;exact this.symm
noncomputable def isR:W ⊕ Nat->Bool
 | .inr _=>true
 | .inl _=>false
noncomputable def za3 (xs:List (W ⊕ Nat)):Cap:=xs.map fun x=>match x with
 | .inr i=>some i
 | .inl _=>none
noncomputable def zam (en:En) (xs:List (W ⊕ Nat)):Bool:=xs.all fun x=>match x with
  | .inr i=>match en[i]? with
    | some (some (_,true))=>true
    | _=>false
  | .inl _=>true
noncomputable def zae (m:List Bool) (Φ:Fn) (as:GAs):GE:=fun en=>(as en).bind fun p=>if decide (p.2.map isR=m) && zam p.1 p.2 && zbu (za3 p.2) then (zak p.1 p.2).bind fun ws=>(Φ ws).bind fun q=>if q.1.length=m.length then some (za2 (za3 p.2) p.1 (za4 m q.1),q.2) else none else none
theorem ArgRs.get {K:PySem.W.Frag}{F:Hp}{σ:St}:∀{xs:List (W ⊕ Nat)}{vs:List V}{k:Nat}{x:W ⊕ Nat},ArgRs K F σ xs vs->xs[k]?=some x->∃v,vs[k]?=some v/\ArgR K F σ x v
  | _,_,_,_,.nil,e=>by simp at e
  | _,_,0,_,.cons h _,e=>by simp at e;subst e;exact ⟨_,rfl,h⟩
  | _,_,k+1,x,.cons _ r,e=>by
    obtain ⟨v,h1,h2⟩:=ArgRs.get (k:=k) (x:=x) r (by simpa using e);exact ⟨v,by simpa using h1,h2⟩
theorem ArgRs.length {K:PySem.W.Frag}{F:Hp}{σ:St}:∀{xs:List (W ⊕ Nat)}{vs:List V},ArgRs K F σ xs vs->xs.length=vs.length
 | _,_,.nil=>rfl
 | _,_,.cons _ r=>congrArg (· + 1) (ArgRs.length r)
theorem ziz {en:En}:∀{xs:List (W ⊕ Nat)}{ws:List W},zak en xs=some ws->ws.length=xs.length
  | [],_,e=>by obtain rfl:=sI e;rfl
  | x::xs,_,e=>by
    obtain ⟨w,_,e⟩:=bS e;obtain ⟨ws,h,e⟩:=bS e;obtain rfl:=sI e;exact congrArg (· + 1) (ziz h)
theorem zic {en:En}:∀{xs:List (W ⊕ Nat)}{ws:List W}{k:Nat}{w:W},zak en xs=some ws->ws[k]?=some w->∃x,xs[k]?=some x/\resA en x=some w
  | [],_,_,_,e,h=>by obtain rfl:=sI e;simp at h
  | x::xs,_,k,w,e,h=>by
    obtain ⟨u,hu,e⟩:=bS e;obtain ⟨us,h2,e⟩:=bS e;obtain rfl:=sI e;cases k with
    | zero=>simp at h;subst h;exact ⟨x,rfl,hu⟩
    | succ k=>obtain ⟨y,h3,h4⟩:=zic (k:=k) h2 (by simpa using h);exact ⟨y,by simpa using h3,h4⟩
theorem zdn {xs:List (W ⊕ Nat)}{k i:Nat}:(za3 xs)[k]?=some (some i)↔xs[k]?=some (.inr i):=by
 unfold za3;rw [List.getElem?_map];cases e:xs[k]? with
 | none=>simp
 | some x=>cases x<;>simp
section
variable {K:PySem.W.Frag}{F H:Hp}{pr:Prt}{en:En}{σ:St}
theorem Rel.back {cap:Cap}{F' H' : Hp}{ce:En}{σc:St} (R:Rel K F pr en σ H) (s:Same F F') (Rc:Rel K F' (zbf pr cap en σ H) ce σc H') (slot:∀(i j:Nat) (v:V),zal cap i=some j->σc[j]?=some (some v)->σ[i]?=some (some v)) :
    Rel K F' pr (za2 cap en ce) σ H'/\∀r v,Res K F' H' (zbf pr cap en σ H) ce σc r v->Res K F' H' pr (za2 cap en ce) σ r v:=by
  have un:∀(i:Nat) (w:W),zal cap i=none->en[i]?=some (some (w,true))->∃(a:Addr) (vs:HO) (ws:W),w=ws/\σ[i]?=some (some (V.ref a))/\H a=some vs/\H' a=some vs/\F' a=none/\OwnR K F ws vs/\∀(j:Nat) (w' : W),ce[j]?=some (some (w',true))->σc[j]?≠some (some (V.ref a)):=fun i w c e=>by
    obtain ⟨a,vs,ws,h1,h2,h3,h4,h5⟩:=R.own i w e;obtain ⟨b1,b2,b3⟩:=Rc.prt a vs (.inr ⟨i,w,e,c,h2,h3⟩);exact ⟨a,vs,ws,h1,h2,h3,b1,b2,h5,b3⟩
  have capt:∀(i j:Nat) (w:W),zal cap i=some j->ce[j]?=some (some (w,true))->∃(a:Addr) (vs:HO) (ws:W),w=ws/\σ[i]?=some (some (V.ref a))/\σc[j]?=some (some (V.ref a))/\H' a=some vs/\F' a=none/\OwnR K F' ws vs:=fun i j w c e=>by
    obtain ⟨a,vs,ws,h1,h2,h3,h4,h5⟩:=Rc.own j w e;exact ⟨a,vs,ws,h1,slot i j _ c h2,h2,h3,h4,h5⟩
  refine ⟨⟨by unfold za2;rw [List.length_mapIdx];exact R.len,Rc.sub,fun i w e=>?_,fun i w e=>?_,fun i k a w w' e1 e2 q1 q2=>?_,fun b o q=>?_,Rc.tb.go (fun b xs z=>.inl z) (fun b ps e f=>⟨e,f⟩) (.refl F') fun b ps e hh o z=>hh o (.inl z)⟩,fun r v z=>?_⟩
  · rcases backEn_get e with ⟨j, c, e⟩ | ⟨c, e⟩
    · obtain ⟨v, h1, h2⟩ := Rc.val j w e
      exact ⟨v,slot i j v c h1,h2⟩
    · obtain ⟨v, h1, h2⟩ := R.val i w e
      exact ⟨v,h1,h2.mono s⟩
  · rcases backEn_get e with ⟨j, c, e⟩ | ⟨c, e⟩
    · obtain ⟨a, vs, ws, h1, h2, _, h3, h4, h5⟩ := capt i j w c e
      exact ⟨a,vs,ws,h1,h2,h3,h4,h5⟩
    · obtain ⟨a, vs, ws, h1, h2, _, h3, h4, h5, _⟩ := un i w c e
      exact ⟨a,vs,ws,h1,h2,h3,h4,h5.mono s⟩
  · rcases backEn_get e1 with ⟨j, c, e1⟩ | ⟨c, e1⟩
    · obtain ⟨a', _, _, _, h2, h3, _⟩ := capt i j w c e1
      rw [q1] at h2;cases h2;rcases backEn_get e2 with ⟨l,c2,e2⟩ | ⟨c2,e2⟩
      · obtain ⟨a', _, _, _, g2, g3, _⟩ := capt k l w' c2 e2
        rw [q2] at g2;cases g2;have:=Rc.inj j l a _ _ e1 e2 h3 g3;subst this;have x:=za7 c;rw [za7 c2] at x;cases x;rfl
      · obtain ⟨a', _, _, _, g2, _, _, _, _, g3⟩ := un k w' c2 e2
        rw [q2] at g2;cases g2;exact absurd h3 (g3 j w e1)
    · obtain ⟨a', _, _, _, h2, _, _, _, _, h3⟩ := un i w c e1
      rw [q1] at h2;cases h2;rcases backEn_get e2 with ⟨l,c2,e2⟩ | ⟨c2,e2⟩
      · obtain ⟨a', _, _, _, g2, g3, _⟩ := capt k l w' c2 e2
        rw [q2] at g2;cases g2;exact absurd g3 (h3 l w' e2)
      · exact R.inj i k a _ _ e1 e2 q1 q2
  · obtain ⟨b1, b2, b3⟩ := Rc.prt b o (.inl q)
    refine ⟨b1,b2,fun i w e=>?_⟩;rcases backEn_get e with ⟨j,c,e⟩ | ⟨c,e⟩
    · obtain ⟨a, _, _, _, h2, h3, _⟩ := capt i j w c e
      rw [h2];intro z;cases z;exact b3 j w e h3
    · exact (R.prt b o q).2.2 i w e
  · obtain ⟨w, fl⟩ := r
    cases fl with
    | false=>exact z
    | true =>
      obtain ⟨a,vs,ws,q1,q2,q3,q4,q5,q6,q7⟩:=z;refine ⟨a,vs,ws,q1,q2,q3,q4,q5,fun i w' e=>?_,fun b o p=>q7 b o (.inl p)⟩;rcases backEn_get e with ⟨j,c,e⟩ | ⟨c,e⟩
      · obtain ⟨a', _, _, _, h2, h3, _⟩ := capt i j w' c e
        rw [h2];intro z;cases z;exact q6 j w' e h3
      · obtain ⟨a', vs', ws', h1, h2, h3, h4, h5⟩ := R.own i w' e
        rw [h2];intro z;cases z;exact q7 a vs' (.inr ⟨i,w',e,c,h2,h3⟩) rfl
theorem zyq {m:List Bool}{Φ:Fn}{xs:List (W ⊕ Nat)}{e1 en' : En}{F1 H1:Hp}{vs:List V}{r:W × Bool}{Q:VK}{E:XK} (R1:Rel K F1 pr e1 σ H1) (a1:ArgRs K F1 σ xs vs)
    (h:(if decide (xs.map isR=m) && zam e1 xs && zbu (za3 xs) then (zak e1 xs).bind fun ws=>(Φ ws).bind fun q=>if q.1.length=m.length then some (za2 (za3 xs) e1 (za4 m q.1),q.2) else none else none)=some (en',r))
    (q:∀F' H' v,Same F1 F'->Rel K F' pr en' σ H'->Res K F' H' pr en' σ r v->Q v H'):spF K m Φ vs H1 Q E:=by
  split at h
  · rename_i z
    rw [Bool.and_eq_true,Bool.and_eq_true] at z;obtain ⟨⟨z1,z2⟩,nd⟩:=z;have hm:xs.map isR=m:=of_decide_eq_true z1;refine aG fun _ qG=>?_;obtain ⟨ws,h2,h⟩:=bS h;obtain ⟨⟨ws',r'⟩,h3,h⟩:=bS h;refine qG ?_;clear qG;split at h
    · rename_i hl
      cases h;have lx:ws.length=xs.length:=ziz h2;have lm:xs.length=m.length:=by rw [<-hm,List.length_map]
      have lv:=a1.length;have at' : ∀(k:Nat) (w:W) (b:Bool),(za4 m ws)[k]?=some (some (w,b))->∃x v,xs[k]?=some x/\isR x=b/\resA e1 x=some w/\vs[k]?=some v/\ArgR K F1 σ x v:=fun k w b e=>by
        refine aG fun _ qG=>?_;obtain ⟨g1,g2⟩:=zdl.mp e;obtain ⟨x,g3,g4⟩:=zic h2 g1;obtain ⟨v,g5,g6⟩:=a1.get g3;refine qG ?_;clear qG;rw [<-hm,List.getElem?_map,g3] at g2;exact ⟨x,v,g3,sI g2,g4,g5,g6⟩
      have ow:∀(k:Nat) (w:W),(za4 m ws)[k]?=some (some (w,true))->∃i v,xs[k]?=some (.inr i)/\e1[i]?=some (some (w,true))/\vs[k]?=some v/\σ[i]?=some (some v):=fun k w e=>by
        refine aG fun _ qG=>?_;obtain ⟨x,v,g1,g2,g3,g4,g5⟩:=at' k w true e;refine qG ?_;clear qG;cases x with
        | inl _=>cases g2
        | inr i =>
          refine ⟨i,v,g1,?_,g4,g5⟩;have o:=List.all_eq_true.mp z2 _ (List.mem_of_getElem? g1);simp only at o;split at o
          · rename_i w0 e0
            unfold resA at g3;simp only [e0] at g3;obtain rfl:=sI g3;exact e0
          · cases o
      have RC:Rel K F1 (zbf pr (za3 xs) e1 σ H1) (za4 m ws) (vs.map some) H1:=by
        refine ⟨by rw [zdj (by omega),List.length_map];omega,R1.sub,fun k w e=>?_,fun k w e=>?_,fun k l a w w' g1 g2 g3 g4=>?_,fun b o p=>?_,R1.tb.go (fun b xs z=>zgb R1 z) (fun b ps e f=>⟨e,f⟩) (.refl F1) fun b ps e hh o z=>zga R1 e hh o z⟩
        · refine aG fun Gg qG => ?_
          obtain ⟨x,v,g1,g2,g3,g4,g5⟩:=at' k w false e;refine qG ?_;clear qG;cases x with
          | inr _=>cases g2
          | inl u=>obtain rfl:=sI g3;exact ⟨v,by rw [List.getElem?_map,g4];rfl,g5⟩
        · refine aG fun Gg qG => ?_
          obtain ⟨i,v,g1,g2,g3,g4⟩:=ow k w e;obtain ⟨a,us,wz,p1,p2,p3,p4,p5⟩:=R1.own i w g2;refine qG ?_;clear qG;rw [g4] at p2;cases p2;exact ⟨a,us,wz,p1,by rw [List.getElem?_map,g3];rfl,p3,p4,p5⟩
        · refine aG fun Gg qG => ?_
          obtain ⟨i,v,k1,k2,k3,k4⟩:=ow k w g1;obtain ⟨i',v',l1,l2,l3,l4⟩:=ow l w' g2;refine qG ?_;clear qG;rw [List.getElem?_map,k3] at g3;cases g3;rw [List.getElem?_map,l3] at g4;cases g4;have:=R1.inj i i' a _ _ k2 l2 k4 l4;subst this;have y:=zeo nd (zdn.mpr k1);rw [zeo nd (zdn.mpr l1)] at y;exact (sI y).symm
        · rcases p with p | ⟨j, w, p1, p2, p3, p4⟩
          · obtain ⟨b1, b2, b3⟩ := R1.prt b o p
            refine ⟨b1,b2,fun k w e=>?_⟩;refine aG fun _ qG=>?_;obtain ⟨i,v,g1,g2,g3,g4⟩:=ow k w e;refine qG ?_;clear qG;rw [List.getElem?_map,g3];intro y;cases y;exact b3 i w g2 g4
          · refine aG fun Gg qG => ?_
            obtain ⟨a,us,wz,p1',p2',p3',p4',p5'⟩:=R1.own j w p1;refine qG ?_;clear qG;rw [p3] at p2';cases p2';refine ⟨p4,p4',fun k w' e=>?_⟩;refine aG fun _ qG=>?_;obtain ⟨i,v,g1,g2,g3,g4⟩:=ow k w' e;refine qG ?_;clear qG;rw [List.getElem?_map,g3];intro y;cases y;have:=R1.inj i j _ _ _ g2 p1 g4 p3;subst this;exact zb4 p2 k (zdn.mpr g1)
      refine ⟨F1,zbf pr (za3 xs) e1 σ H1,ws,ws',_,by omega,hl,RC,h3,fun F2 H2 v s2 R2 y2=>?_⟩;obtain ⟨Ro,rz⟩:=R1.back s2 R2 fun i j v c e=>by
        have c':=zdn.mp (za7 c);obtain ⟨v',g1,g2⟩:=a1.get c';rw [List.getElem?_map,g1] at e;cases e;exact g2
      exact q F2 H2 v s2 Ro (rz _ _ y2)
    · cases h
  · cases h
theorem zqq {m:List Bool}{Φ:Fn}{as:GAs}{Q:VK} (h:tE K (zae m Φ as) σ H Q):zy2 (spF K m Φ) [] E0 (tAs K as) σ H Q:=by
 refine aG fun _ qG=>?_;obtain ⟨F,pr,en,en',r,R,h,q⟩:=h;obtain ⟨⟨e1,xs⟩,h1,h⟩:=bS h;refine qG ?_;clear qG;refine ⟨F,pr,en,e1,xs,R,h1,fun F1 H1 vs s1 R1 a1=>?_⟩;show spF K m Φ (vs++[]) H1 Q E0;rw [List.append_nil];exact zyq R1 a1 h fun F' H' v s'=>q F' H' v (s1.trans s')
end
noncomputable def zbz:List Bool->List W->En->Option (List W)
 | [],[],_=>some []
 | true::m,_::ws,some (w,true)::en=>(zbz m ws en).bind fun r=>some (w::r)
 | false::m,w::ws,_::en=>(zbz m ws en).bind fun r=>some (w::r)
 | _,_,_=>none
noncomputable def mpOf (m:List Bool):List Nat:=(List.range m.length).filter fun k=>m[k]? == some true
noncomputable def zao (m:List Bool) (n:Nat) (g:GS):Fn:=fun ws=>if ws.length=m.length then match g (za4 m ws++List.replicate (n - m.length) none) with
 | some (en,.ret r)=>(zbz m ws en).bind fun ws'=>some (ws',r)
 | some (en,.nx)=>(zbz m ws en).bind fun ws'=>some (ws',(.non,false))
 | _=>none else none
theorem zg3:∀{m:List Bool}{ws:List W}{en:En}{ws' : List W},zbz m ws en=some ws'->ws'.length=m.length/\∀(k:Nat) (w:W),ws'[k]?=some w->(m[k]?=some true->en[k]?=some (some (w,true)))/\(m[k]?=some false->ws[k]?=some w)
  | [],[],_,_,e=>by obtain rfl:=sI e;exact ⟨rfl,fun k w h=>by simp at h⟩
  | true::m,_::ws,some (u,true)::en,_,e=>by
    obtain ⟨r,h,e⟩:=bS (show (zbz m ws en).bind _=_ from e);obtain rfl:=sI e;obtain ⟨h1,h2⟩:=zg3 h;refine ⟨congrArg (· + 1) h1,fun k w hk=>?_⟩;cases k with
    | zero=>simp at hk;subst hk;exact ⟨fun _=>rfl,fun z=>by simp at z⟩
    | succ k =>
      have:=h2 k w (by simpa using hk);exact ⟨fun z=>by simpa using this.1 (by simpa using z),fun z=>by simpa using this.2 (by simpa using z)⟩
  | false::m,u::ws,_::en,_,e=>by
    obtain ⟨r,h,e⟩:=bS (show (zbz m ws en).bind _=_ from e);obtain rfl:=sI e;obtain ⟨h1,h2⟩:=zg3 h;refine ⟨congrArg (· + 1) h1,fun k w hk=>?_⟩;cases k with
    | zero=>simp at hk;subst hk;exact ⟨fun z=>by simp at z,fun _=>rfl⟩
    | succ k =>
      have:=h2 k w (by simpa using hk);exact ⟨fun z=>by simpa using this.1 (by simpa using z),fun z=>by simpa using this.2 (by simpa using z)⟩
  | [],_::_,_,_,e=>by exact noSome e
  | true::_,[],_,_,e=>by exact noSome e
  | false::_,[],_,_,e=>by exact noSome e
  | true::_,_::_,[],_,e=>by exact noSome e
  | false::_,_::_,[],_,e=>by exact noSome e
  | true::_,_::_,none::_,_,e=>by exact noSome e
  | true::_,_::_,some (_,false)::_,_,e=>by exact noSome e
theorem zxg {K:PySem.W.Frag}{m:List Bool}{N:List Str}{g:GS}{vs:List V}{H:Hp}{Q:VK}{E:XK} (h:spF K m (zao m N.length g) vs H Q E):tS K (mpOf m) g { nx:=fun _ H'=>Q .non H',rt:=Q } (start N vs) H:=by
  have hv:=zo1 h;refine aG fun _ qG=>?_;obtain ⟨F,pr,ws,ws',r,h1,h2,R,h3,q⟩:=h;refine qG ?_;clear qG;unfold zao at h3;rw [if_pos h1] at h3;have la:=zdj h1;have pad:∀(i:Nat) (x:W × Bool),(za4 m ws++List.replicate (N.length - m.length) none)[i]?=some (some x)->(za4 m ws)[i]?=some (some x):=fun i x e=>by
    by_cases hi:i < (za4 m ws).length
    · rw [List.getElem?_append_left hi] at e;exact e
    · rw [List.getElem?_append_right (by omega), List.getElem?_replicate] at e
      split at e<;>cases e
  have st:∀(i:Nat) (v:V),(vs.map some)[i]?=some (some v)->(start N vs)[i]?=some (some v):=fun i v e=>by
    unfold start;rw [List.getElem?_append_left (by have:=(List.getElem?_eq_some_iff.mp e).1;exact this)];exact e
  have st' : ∀(i:Nat) (v:V),i < m.length->(start N vs)[i]?=some (some v)->(vs.map some)[i]?=some (some v):=fun i v hi e=>by
    unfold start at e;rw [List.getElem?_append_left (by rw [List.length_map];omega)] at e;exact e
  have R0:Rel K F pr (za4 m ws++List.replicate (N.length - m.length) none) (start N vs) H:=by
    refine ⟨?_,R.sub,fun i w e=>?_,fun i w e=>?_,fun i j a w w' e1 e2 q1 q2=>?_,fun b o p=>?_,R.tb⟩
    · unfold start
      rw [List.length_append,List.length_append,List.length_replicate,List.length_replicate,List.length_map,la,hv]
    · obtain ⟨v, g1, g2⟩ := R.val i w (pad i _ e)
      exact ⟨v,st i v g1,g2⟩
    · refine aG fun Gg qG => ?_
      obtain ⟨a,us,wz,g1,g2,g3⟩:=R.own i w (pad i _ e);refine qG ?_;clear qG;exact ⟨a,us,wz,g1,st i _ g2,g3⟩
    · have l1 : i < m.length := by have := (List.getElem?_eq_some_iff.mp (pad i _ e1)).1; omega
      have l2:j < m.length:=by have:=(List.getElem?_eq_some_iff.mp (pad j _ e2)).1;omega
      exact R.inj i j a w w' (pad i _ e1) (pad j _ e2) (st' i _ l1 q1) (st' j _ l2 q2)
    · obtain ⟨b1, b2, b3⟩ := R.prt b o p
      refine ⟨b1,b2,fun i w e z=>?_⟩;have l1:i < m.length:=by have:=(List.getElem?_eq_some_iff.mp (pad i _ e)).1;omega
      exact b3 i w (pad i _ e) (st' i _ l1 z)
  have back:∀(en:En) (wz:List W) (F' : Hp) (σ' : St) (H' : Hp),zbz m ws en=some wz->Same F F'->Rel K F' pr en σ' H'->Keep (mpOf m) (start N vs) σ' ->
      Rel K F' pr (za4 m wz) (vs.map some) H'/\∀r v,Res K F' H' pr en σ' r v->Res K F' H' pr (za4 m wz) (vs.map some) r v:=fun en wz F' σ' H' ho s' R' k'=>by
    obtain ⟨o1,o2⟩:=zg3 ho;have own:∀(k:Nat) (w:W),(za4 m wz)[k]?=some (some (w,true))->en[k]?=some (some (w,true))/\∀v,σ'[k]?=some (some v)↔(vs.map some)[k]?=some (some v):=fun k w e=>by
      obtain ⟨g1,g2⟩:=zdl.mp e;have lk:k < m.length:=(List.getElem?_eq_some_iff.mp g2).1;have hk:k∈mpOf m:=List.mem_filter.mpr ⟨List.mem_range.mpr lk,by rw [g2];simp⟩;refine ⟨(o2 k w g1).1 g2,fun v=>?_⟩;rw [k' k hk];exact ⟨st' k v lk,st k v⟩
    refine ⟨⟨by rw [zdj o1,List.length_map,hv],R'.sub,fun k w e=>?_,fun k w e=>?_,fun k l a w w' e1 e2 q1 q2=>?_,fun b o p=>?_,R'.tb⟩,fun r v z=>?_⟩
    · refine aG fun Gg qG => ?_
      obtain ⟨g1,g2⟩:=zdl.mp e;obtain ⟨v,g3,g4⟩:=R.val k w (zdl.mpr ⟨(o2 k w g1).2 g2,g2⟩);refine qG ?_;clear qG;exact ⟨v,g3,g4.mono s'⟩
    · refine aG fun Gg qG => ?_
      obtain ⟨g1,g2⟩:=own k w e;obtain ⟨a,us,wz,p1,p2,p3⟩:=R'.own k w g1;refine qG ?_;clear qG;exact ⟨a,us,wz,p1,(g2 _).mp p2,p3⟩
    · obtain ⟨g1, g2⟩ := own k w e1
      obtain ⟨g3,g4⟩:=own l w' e2;exact R'.inj k l a _ _ g1 g3 ((g2 _).mpr q1) ((g4 _).mpr q2)
    · obtain ⟨b1, b2, b3⟩ := R'.prt b o p
      refine ⟨b1,b2,fun k w e z=>?_⟩;obtain ⟨g1,g2⟩:=own k w e;exact b3 k w g1 ((g2 _).mpr z)
    · obtain ⟨w0, fl⟩ := r
      cases fl with
      | false=>exact z
      | true =>
        refine aG fun _ qG=>?_;obtain ⟨a,us,wz',q1,q2,q3,q4,q5,q6,q7⟩:=z;refine qG ?_;clear qG;refine ⟨a,us,wz',q1,q2,q3,q4,q5,fun k w e y=>?_,q7⟩;obtain ⟨g1,g2⟩:=own k w e;exact q6 k w g1 ((g2 _).mpr y)
  cases eg:g (za4 m ws++List.replicate (N.length - m.length) none) with
  | none=>simp only [eg] at h3;exact noSome h3
  | some p =>
    obtain ⟨en,fl⟩:=p;refine ⟨F,pr,_,en,fl,R0,eg,?_⟩;cases fl with
    | brk=>simp only [eg] at h3;exact noSome h3
    | cnt=>simp only [eg] at h3;exact noSome h3
    | nx =>
      simp only [eg] at h3;obtain ⟨wz,ho,h3⟩:=bS h3;cases h3;intro F' σ' H' s' R' k';obtain ⟨Rb,_⟩:=back en ws' F' σ' H' ho s' R' k';exact q F' H' .non s' Rb .non
    | ret r' =>
      simp only [eg] at h3;obtain ⟨wz,ho,h3⟩:=bS h3;cases h3;intro F' σ' H' v s' R' k' z;obtain ⟨Rb,rb⟩:=back en ws' F' σ' H' ho s' R' k';exact q F' H' v s' Rb (rb _ _ z)
end L2
set_option maxHeartbeats 4000000
namespace L2
open PySem PyProof.Rows
namespace Tim
noncomputable def gal:Bool->Keyed->Array Keyed->Nat->Nat->Nat->StateT SortSt Sem (Option Nat):=sortPriv% PySem.Builtin.gallop
noncomputable def mLo:Array Keyed->Array Keyed->StateT SortSt Sem (Array Keyed):=sortPriv% PySem.Builtin.mergeLo
noncomputable def mHi:Array Keyed->Array Keyed->StateT SortSt Sem (Array Keyed):=sortPriv% PySem.Builtin.mergeHi
theorem aG {P:Prop} (h:∀G:Prop,(P->G)->G):P:=h P id
structure Ord (lt:Keyed->Keyed->Bool) (bf le:Keyed->Keyed->Prop):Prop where
 tr:∀{x y z},le x y->le y z->le x z
 tot:∀x y,le x y\/le y x
 f1:∀{x y},bf x y->(lt y x=false↔le x y)
 f2:∀{x y},lt x y=true->le x y
 irr:∀x,lt x x=false
 ltr:∀{x y z},lt x y=true->lt y z=true->lt x z=true
 nt:∀{x z} (y),lt x z=true->lt x y=true\/lt y z=true
section
variable {lt:Keyed->Keyed->Bool}{bf le:Keyed->Keyed->Prop} (O:Ord lt bf le)
include O
theorem Ord.rf (x:Keyed):le x x:=(O.tot x x).elim id id
theorem Ord.f3 {x y:Keyed} (h:bf x y) (q:lt y x=true):¬ le x y:=fun z=>by rw [(O.f1 h).mpr z] at q;cases q
end
noncomputable abbrev d0:Keyed:=(Value.none,Value.none)
noncomputable def G (xs:Array Keyed) (i:Nat):Keyed:=(xs[i]?).getD d0
theorem zva {xs:Array Keyed}{i:Nat} (h:i < xs.size):xs[i]?=some (G xs i):=by unfold G;rw [getElem?_pos xs i h];rfl
theorem zw3 {xs a₀:Array Keyed} (p:xs.Perm a₀) {i:Nat} (h:i < xs.size):G xs i∈a₀.toList:=by
 refine (Array.perm_iff_toList_perm.mp p).mem_iff.mp ?_;unfold G;rw [getElem?_pos xs i h];simp
theorem ze2 {xs ys:Array Keyed}{i j:Nat} (h:xs[i]?=ys[j]?):G xs i=G ys j:=by unfold G;rw [h]
noncomputable def Asks (prog:Program) (w:World) (A:Around) (E:Value->Shared->Prop) (s:Shared) (κ:SortKind) (a₀:Array Keyed) (lt:Keyed->Keyed->Bool):Prop :=
 ∀(x y:Keyed) (st:SortSt) (Q:Option Bool->SortSt->Prop),x∈a₀.toList->y∈a₀.toList->kindOf st=κ->Q (some (lt x y)) st->wpS (model prog w) A E s (lt' x y) Q st
section
variable {prog:Program}{w:World}{A:Around}{E:Value->Shared->Prop}{s:Shared}{κ:SortKind}{a₀:Array Keyed}{lt:Keyed->Keyed->Bool}{st:SortSt}
theorem zap {arr:Array Keyed}{i:Nat}{Q:Keyed->SortSt->Prop} (hi:i < arr.size) (h:Q (G arr i) st):wpS (model prog w) A E s (elem' arr i) Q st:=by
 rw [elem'_eq,zva hi];exact wpS_pure h
theorem zf0 {i j:Nat}{Q:Option Bool->SortSt->Prop} (C:Asks prog w A E s κ a₀ lt) (hk:kindOf st=κ) (p:(arrOf st).Perm a₀) (hi:i < a₀.size) (hj:j < a₀.size) (h:Q (some (lt (G (arrOf st) i) (G (arrOf st) j))) st) :
  wpS (model prog w) A E s (ltAt' i j) Q st:=by
 have e:=p.size_eq;rw [ltAt'_eq];refine wpS_bind (wpS_get ?_);exact wpS_bind (zap (by omega) (wpS_bind (zap (by omega) (C _ _ _ _ (zw3 p (by omega)) (zw3 p (by omega)) hk h))))
theorem zmu {left:Bool}{key:Keyed}{arr:Array Keyed}{base n hint:Nat}{B:Nat->Bool}{Q:Option Nat->SortSt->Prop} (C:Asks prog w A E s κ a₀ lt) (hk:kindOf st=κ) (hkey:key∈a₀.toList)
    (hs:base+n<=arr.size) (hm:∀i,i < n->G arr (base+i)∈a₀.toList) (hB:∀i,i < n->B i=if left then lt (G arr (base+i)) key else !lt key (G arr (base+i)))
    (mono:∀i j,i<=j->j < n->B j=true->B i=true) (hh:hint < n)
    (h:∀k,k<=n->(∀i,i < k->B i=true)->(∀i,k<=i->i < n->B i=false)->Q (some k) st):wpS (model prog w) A E s (gal left key arr base n hint) Q st:=by
  have mono' : ∀i j,i<=j->j < n->B i=false->B j=false:=fun i j h1 h2 h3=>by
    cases q:B j with
    | false=>rfl
    | true=>rw [mono i j h1 h2 q] at h3;cases h3
  let beyond:Nat->StateT SortSt Sem (Option Bool):=fun i=>do
    let x <- elem' arr (base+i)
    if left=true then lt' x key else do
      let r <- lt' key x
      pure (r.map (!·))
  have hb:∀(i:Nat) (R:Option Bool->SortSt->Prop),i < n->R (some (B i)) st->wpS (model prog w) A E s (beyond i) R st:=fun i R hi hR=>by
    refine wpS_bind (zap (by omega) ?_);have e:=hB i hi;cases left with
    | true =>
      rw [if_pos rfl] at e;rw [if_pos rfl];exact C _ _ _ _ (hm i hi) hkey hk (by rw [<-e];exact hR)
    | false =>
      rw [if_neg (by decide)] at e;rw [if_neg (by decide)];exact wpS_bind (C _ _ _ _ hkey (hm i hi) hk (wpS_pure (by show R (some (!lt key (G arr (base+i)))) st;rw [<-e];exact hR)))
  show wpS (model prog w) A E s (do let o <- beyond hint;_) Q st;refine wpS_bind (hb _ _ hh ?_);cases q:B hint with
  | true =>
    refine wpS_bind (wpS_mono (wpS_forRange (I:=fun x c st'=>st'=st/\∃l o,c=(none,l,o)/\l < o/\x < o/\hint+l < n/\B (hint+l)=true)
      (Q:=fun c st'=>st'=st/\∃l o,c=(none,l,o)/\l < o/\hint+l < n/\B (hint+l)=true/\(n - hint<=o\/hint+o < n/\B (hint+o)=false)) ?step ?fin ⟨rfl,0,1,rfl,by omega,by omega,by omega,q⟩) ?post)
    case fin =>
      rintro c st' ⟨rfl,l,o,rfl,a1,a2,a3,a4⟩;exact ⟨rfl,l,o,rfl,a1,a3,a4,.inl (by omega)⟩
    case step =>
      rintro x c st' _ hx ⟨rfl,l,o,rfl,a1,a2,a3,a4⟩;dsimp only;by_cases g:o ≥ n - hint
      · rw [if_pos g]
        exact wpS_pure ⟨rfl,l,o,rfl,a1,a3,a4,.inl g⟩
      · rw [if_neg g]
        refine wpS_bind (hb _ _ (by omega) ?_);cases q2:B (hint+o) with
        | true =>
          dsimp only;rw [if_neg (by decide)];exact wpS_pure ⟨rfl,o,2 * o+1,rfl,by omega,by omega,by omega,q2⟩
        | false =>
          dsimp only;rw [if_pos (by decide)];exact wpS_pure ⟨rfl,l,o,rfl,a1,a3,a4,.inr ⟨by omega,q2⟩⟩
    case post =>
      rintro c st' ⟨rfl,l,o,rfl,a1,a3,a4,a5⟩;dsimp only;refine wpS_bind (wpS_mono (wpS_forRange (I:=fun x c st''=>st''=st'/\∃lo hi,c=(none,lo,hi)/\lo<=hi/\hi<=n/\hi - lo<=n - x/\(∀i,i < lo->B i=true)/\∀i,hi<=i->i < n->B i=false)
        (Q:=fun c st''=>st''=st'/\∃lo hi,c=(none,lo,hi)/\lo=hi/\hi<=n/\(∀i,i < lo->B i=true)/\∀i,hi<=i->i < n->B i=false) ?s3 ?f3 ⟨rfl,hint+l+1,hint+min o (n - hint),rfl,by omega,by omega,by omega,fun i hi=>mono i _ (by omega) a3 a4,fun i h1 h2=>a5.elim (fun a5=>by omega) fun a5=>mono' _ i (by omega) h2 a5.2⟩) ?p3)
      case f3 =>
        rintro c st'' ⟨rfl,lo,hi,rfl,a1,a2,a3,a4,a5⟩;exact ⟨rfl,lo,hi,rfl,by omega,a2,a4,a5⟩
      case s3 =>
        rintro x c st'' _ hx ⟨rfl,lo,hi,rfl,a1,a2,a3,a4,a5⟩;dsimp only;by_cases g:lo ≥ hi
        · rw [if_pos g]
          exact wpS_pure ⟨rfl,lo,hi,rfl,by omega,a2,a4,a5⟩
        · rw [if_neg g]
          refine wpS_bind (hb _ _ (by omega) ?_);cases q:B (lo+(hi - lo) / 2) with
          | true =>
            dsimp only;rw [if_pos rfl];refine wpS_pure ⟨rfl,lo+(hi - lo) / 2+1,hi,rfl,by omega,a2,by omega,fun i hi'=>?_,a5⟩;exact mono i _ (by omega) (by omega) q
          | false =>
            dsimp only;rw [if_neg (by decide)];refine wpS_pure ⟨rfl,lo,lo+(hi - lo) / 2,rfl,by omega,by omega,by omega,a4,fun i h1 h2=>?_⟩;exact mono' _ i h1 h2 q
      case p3 =>
        rintro c st'' ⟨rfl,lo,hi,rfl,rfl,a2,a4,a5⟩;exact wpS_pure (h lo a2 a4 a5)
  | false =>
    refine wpS_bind (wpS_mono (wpS_forRange (I:=fun x c st'=>st'=st/\∃l o,c=(none,l,o)/\l < o/\x < o/\l<=hint/\B (hint - l)=false)
      (Q:=fun c st'=>st'=st/\∃l o,c=(none,l,o)/\l < o/\l<=hint/\B (hint - l)=false/\(hint+1<=o\/o<=hint/\B (hint - o)=true)) ?step ?fin ⟨rfl,0,1,rfl,by omega,by omega,by omega,q⟩) ?post)
    case fin =>
      rintro c st' ⟨rfl,l,o,rfl,a1,a2,a3,a4⟩;exact ⟨rfl,l,o,rfl,a1,a3,a4,.inl (by omega)⟩
    case step =>
      rintro x c st' _ hx ⟨rfl,l,o,rfl,a1,a2,a3,a4⟩;dsimp only;by_cases g:o ≥ hint+1
      · rw [if_pos g]
        exact wpS_pure ⟨rfl,l,o,rfl,a1,a3,a4,.inl g⟩
      · rw [if_neg g]
        refine wpS_bind (hb _ _ (by omega) ?_);cases q2:B (hint - o) with
        | true =>
          dsimp only;rw [if_pos rfl];exact wpS_pure ⟨rfl,l,o,rfl,a1,a3,a4,.inr ⟨by omega,q2⟩⟩
        | false =>
          dsimp only;rw [if_neg (by decide)];exact wpS_pure ⟨rfl,o,2 * o+1,rfl,by omega,by omega,by omega,q2⟩
    case post =>
      rintro c st' ⟨rfl,l,o,rfl,a1,a3,a4,a5⟩;dsimp only;refine wpS_bind (wpS_mono (wpS_forRange (I:=fun x c st''=>st''=st'/\∃lo hi,c=(none,lo,hi)/\lo<=hi/\hi<=n/\hi - lo<=n - x/\(∀i,i < lo->B i=true)/\∀i,hi<=i->i < n->B i=false)
        (Q:=fun c st''=>st''=st'/\∃lo hi,c=(none,lo,hi)/\lo=hi/\hi<=n/\(∀i,i < lo->B i=true)/\∀i,hi<=i->i < n->B i=false) ?s4 ?f4 ⟨rfl,hint+1 - min o (hint+1),hint - l,rfl,by omega,by omega,by omega,fun i hi=>a5.elim (fun a5=>by omega) fun a5=>mono i _ (by omega) (by omega) a5.2,fun i h1 h2=>mono' _ i h1 h2 a4⟩) ?p4)
      case f4 =>
        rintro c st'' ⟨rfl,lo,hi,rfl,a1,a2,a3,a4,a5⟩;exact ⟨rfl,lo,hi,rfl,by omega,a2,a4,a5⟩
      case s4 =>
        rintro x c st'' _ hx ⟨rfl,lo,hi,rfl,a1,a2,a3,a4,a5⟩;dsimp only;by_cases g:lo ≥ hi
        · rw [if_pos g]
          exact wpS_pure ⟨rfl,lo,hi,rfl,by omega,a2,a4,a5⟩
        · rw [if_neg g]
          refine wpS_bind (hb _ _ (by omega) ?_);cases q:B (lo+(hi - lo) / 2) with
          | true =>
            dsimp only;rw [if_pos rfl];refine wpS_pure ⟨rfl,lo+(hi - lo) / 2+1,hi,rfl,by omega,a2,by omega,fun i hi'=>?_,a5⟩;exact mono i _ (by omega) (by omega) q
          | false =>
            dsimp only;rw [if_neg (by decide)];refine wpS_pure ⟨rfl,lo,lo+(hi - lo) / 2,rfl,by omega,by omega,by omega,a4,fun i h1 h2=>?_⟩;exact mono' _ i h1 h2 q
      case p4 =>
        rintro c st'' ⟨rfl,lo,hi,rfl,rfl,a2,a4,a5⟩;exact wpS_pure (h lo a2 a4 a5)
end
end Tim
end L2
namespace L2
open PySem PyProof.Rows
namespace Tim
noncomputable def Srt (le:Keyed->Keyed->Prop) (xs:Array Keyed) (lo hi:Nat):Prop:=∀i j,lo<=i->i < j->j < hi->le (G xs i) (G xs j)
noncomputable def Cut (bf:Keyed->Keyed->Prop) (xs:Array Keyed) (c:Nat):Prop:=∀i j,i < c->c<=j->j < xs.size->bf (G xs i) (G xs j)
structure Re (xs ys:Array Keyed) (lo hi:Nat):Prop where
 perm:ys.Perm xs
 out:∀i,i < lo\/hi<=i->G ys i=G xs i
 inn:∀i,lo<=i->i < hi->∃j,lo<=j/\j < hi/\G ys i=G xs j
theorem Re.refl (xs:Array Keyed) (lo hi:Nat):Re xs xs lo hi:=⟨.refl _,fun _ _=>rfl,fun i h1 h2=>⟨i,h1,h2,rfl⟩⟩
theorem Re.trans {xs ys zs:Array Keyed}{lo hi:Nat} (a:Re xs ys lo hi) (b:Re ys zs lo hi):Re xs zs lo hi :=
 ⟨b.perm.trans a.perm,fun i h=>(b.out i h).trans (a.out i h),fun i h1 h2=>by
  obtain ⟨j,g1,g2,e⟩:=b.inn i h1 h2;obtain ⟨k,k1,k2,e'⟩:=a.inn j g1 g2;exact ⟨k,k1,k2,e.trans e'⟩⟩
theorem Re.mono {xs ys:Array Keyed}{lo hi lo' hi' : Nat} (a:Re xs ys lo hi) (h1:lo'<=lo) (h2:hi<=hi'):Re xs ys lo' hi' :=
 ⟨a.perm,fun i h=>a.out i (by omega),fun i g1 g2=>by
  by_cases c:lo<=i/\i < hi
  ·obtain ⟨j, k1, k2, e⟩ := a.inn i c.1 c.2;exact ⟨j,by omega,by omega,e⟩
  ·exact ⟨i,g1,g2,a.out i (by omega)⟩⟩
theorem Re.size {xs ys:Array Keyed}{lo hi:Nat} (a:Re xs ys lo hi):ys.size=xs.size:=a.perm.size_eq
theorem Cut.re {bf:Keyed->Keyed->Prop}{xs ys:Array Keyed}{lo hi c:Nat} (h:Cut bf xs c) (a:Re xs ys lo hi) (hs:hi<=xs.size) (hc:c<=lo\/hi<=c):Cut bf ys c:=fun i j h1 h2 h3=>by
 have e:=a.size;have wi:∃i',i' < c/\G ys i=G xs i':=by
  by_cases k:lo<=i/\i < hi
  ·obtain ⟨i', g1, g2, e⟩ := a.inn i k.1 k.2;exact ⟨i',by omega,e⟩
  ·exact ⟨i,h1,a.out i (by omega)⟩
 have wj:∃j',c<=j'/\j' < xs.size/\G ys j=G xs j':=by
  by_cases k:lo<=j/\j < hi
  ·obtain ⟨j', g1, g2, e⟩ := a.inn j k.1 k.2;exact ⟨j',by omega,by omega,e⟩
  ·exact ⟨j,h2,by omega,a.out j (by omega)⟩
 obtain ⟨i',e1,e2⟩:=wi;obtain ⟨j',e3,e4,e5⟩:=wj;rw [e2,e5];exact h i' j' e1 e3 e4
theorem Srt.re {le:Keyed->Keyed->Prop}{xs ys:Array Keyed}{lo hi a b:Nat} (h:Srt le xs a b) (r:Re xs ys lo hi) (hc:b<=lo\/hi<=a):Srt le ys a b:=fun i j h1 h2 h3=>by
 rw [r.out i (by omega),r.out j (by omega)];exact h i j h1 h2 h3
noncomputable def mir (xs:Array Keyed) (i j:Nat):Array Keyed:=mirror xs i j ((j - i) / 2)
theorem zfw {xs:Array Keyed}{i j:Nat} (hj:j<=xs.size) (k:Nat):G (mir xs i j) k=if i<=k/\k < j then G xs (i+j - 1 - k) else G xs k:=by
 have e:=getElem?_mirror_all (i:=i) hj k;unfold mir;by_cases h1:i<=k/\k < j
 ·rw [if_pos h1] at e ⊢;exact ze2 e
 ·rw [if_neg h1] at e ⊢;exact ze2 e
theorem Re.mir {xs:Array Keyed}{i j:Nat} (hj:j<=xs.size):Re xs (mir xs i j) i j :=
 ⟨mirror_perm _ _ _ _,fun k h=>by rw [zfw hj,if_neg (by omega)],fun k h1 h2=>⟨i+j - 1 - k,by omega,by omega,by rw [zfw hj,if_pos ⟨h1,h2⟩]⟩⟩
theorem ztc {xs:Array Keyed}{src d:Nat} (hs:src < xs.size) (hd:d<=src) (k:Nat):G (bubble xs src d) k=if k=src - d then G xs src else if src - d < k/\k<=src then G xs (k - 1) else G xs k:=by
 have e:=getElem?_bubble hs d hd k;by_cases h1:k=src - d
 ·rw [if_pos h1] at e ⊢;exact ze2 e
 ·rw [if_neg h1] at e ⊢;by_cases h2:src - d < k/\k<=src
  ·rw [if_pos h2] at e ⊢;exact ze2 e
  ·rw [if_neg h2] at e ⊢;exact ze2 e
theorem Re.bub {xs:Array Keyed}{src d:Nat} (hs:src < xs.size) (hd:d<=src):Re xs (bubble xs src d) (src - d) (src+1) :=
 ⟨bubble_perm _ _ _,fun k h=>by rw [ztc hs hd,if_neg (by omega),if_neg (by omega)],fun k h1 h2=>by
  rw [ztc hs hd];by_cases c:k=src - d
  ·exact ⟨src,by omega,by omega,by rw [if_pos c]⟩
  ·exact ⟨k - 1,by omega,by omega,by rw [if_neg c,if_pos ⟨by omega,by omega⟩]⟩⟩
structure SI (κ:SortKind) (a₀:Array Keyed) (pd:Array (Nat × Nat × Nat)) (st:SortSt):Prop where
 kind:kindOf st=κ
 failed:failedOf st=none
 perm:(arrOf st).Perm a₀
 pend:pendingOf st=pd
theorem SI.size {κ a₀ pd st} (h:SI κ a₀ pd st):(arrOf st).size=a₀.size:=h.perm.size_eq
theorem SI.set {κ a₀ pd st} (h:SI κ a₀ pd st) {ys:Array Keyed} (p:ys.Perm (arrOf st)):SI κ a₀ pd (setArr st ys):=⟨h.kind,h.failed,p.trans h.perm,h.pend⟩
section
variable {prog:Program}{w:World}{A:Around}{E:Value->Shared->Prop}{s:Shared}{κ:SortKind}{a₀:Array Keyed}{lt:Keyed->Keyed->Bool}{bf le:Keyed->Keyed->Prop}{st:SortSt}{pd:Array (Nat × Nat × Nat)}
theorem zue {i j:Nat}{Q:Unit->SortSt->Prop} (h:Q () (setArr st (mir (arrOf st) i j))):wpS (model prog w) A E s (reverseSlice' i j) Q st:=by
 rw [reverseSlice'_eq];exact wpS_modify h
theorem z3a {i j:Nat}{Q:Unit->SortSt->Prop} (h:Q () (setArr st (bubble (arrOf st) i (i - j)))):wpS (model prog w) A E s (moveDown' i j) Q st:=by
 rw [moveDown'_eq];exact wpS_modify h
theorem grp (O:Ord lt bf le) {xs ys:Array Keyed}{lo n c:Nat} (c1:lo<=c) (c2:c < lo+n) (hy:∀k,G ys k=if c<=k/\k < lo+n then G xs (c+(lo+n) - 1 - k) else G xs k)
  (d1:∀i j,lo<=i->i < j->j < c->le (G xs j) (G xs i)) (d2:∀i j,lo<=i->i < c->c<=j->j < lo+n->lt (G xs j) (G xs i)=true)
  (d3:∀i j,c<=i->i < j->j < lo+n->le (G xs i) (G xs j)) (d4:∀i j,c<=i->i < lo+n->c<=j->j < lo+n->lt (G xs i) (G xs j)=false) :
  (∀i j,lo<=i->i < j->j < lo+n->le (G ys j) (G ys i))/\∀y,lt y (G xs (lo+n - 1))=true->∀i,lo<=i->i < lo+n->lt y (G ys i)=true:=by
 constructor
 ·intro i j h1 h2 h3;rw [hy i,hy j];by_cases a:j < c
  ·rw [if_neg (by omega), if_neg (by omega)];exact d1 i j h1 h2 a
  ·rw [if_pos ⟨by omega, h3⟩];by_cases b:i < c
   ·rw [if_neg (by omega)];exact O.f2 (d2 i _ h1 b (by omega) (by omega))
   ·rw [if_pos ⟨by omega, by omega⟩];exact d3 _ _ (by omega) (by omega) (by omega)
 ·intro y h i h1 h2;rw [hy i];by_cases b:c<=i/\i < lo+n
  ·rw [if_pos b];exact (O.nt _ h).resolve_right (fun q=>by rw [d4 _ _ (by omega) (by omega) (by omega) (by omega)] at q;cases q)
  ·rw [if_neg b];exact O.ltr h (d2 i _ h1 (by omega) (by omega) (by omega))
structure DI (lt:Keyed->Keyed->Bool) (le:Keyed->Keyed->Prop) (lo n neq:Nat) (xs:Array Keyed):Prop where
 nq:neq+1<=n
 d1:∀i j,lo<=i->i < j->j < lo+n - (neq+1)->le (G xs j) (G xs i)
 d2:∀i j,lo<=i->i < lo+n - (neq+1)->lo+n - (neq+1)<=j->j < lo+n->lt (G xs j) (G xs i)=true
 d3:∀i j,lo+n - (neq+1)<=i->i < j->j < lo+n->le (G xs i) (G xs j)
 d4:∀i j,lo+n - (neq+1)<=i->i < lo+n->lo+n - (neq+1)<=j->j < lo+n->lt (G xs i) (G xs j)=false
theorem DI.turn (O:Ord lt bf le) {lo n neq:Nat}{xs:Array Keyed} (d:DI lt le lo n neq xs) (hz:lo+n<=xs.size) :
  (∀i j,lo<=i->i < j->j < lo+n->le (G (mir xs (lo+n - (neq+1)) (lo+n)) j) (G (mir xs (lo+n - (neq+1)) (lo+n)) i))/\∀y,lt y (G xs (lo+n - 1))=true->∀i,lo<=i->i < lo+n->lt y (G (mir xs (lo+n - (neq+1)) (lo+n)) i)=true :=
 grp O (by have:=d.nq;omega) (by have:=d.nq;omega) (fun k=>zfw hz k) d.d1 d.d2 d.d3 d.d4
theorem DI.turn0 (O:Ord lt bf le) {lo n:Nat}{xs:Array Keyed} (d:DI lt le lo n 0 xs) :
  (∀i j,lo<=i->i < j->j < lo+n->le (G xs j) (G xs i))/\∀y,lt y (G xs (lo+n - 1))=true->∀i,lo<=i->i < lo+n->lt y (G xs i)=true :=
 grp (c:=lo+n - 1) O (by have:=d.nq;omega) (by have:=d.nq;omega) (fun k=>by
  split
  ·congr 1;omega
  ·rfl) d.d1 d.d2 d.d3 d.d4
theorem DI.next (O:Ord lt bf le) {lo n:Nat}{xs:Array Keyed} (h:∀i j,lo<=i->i < j->j < lo+n->le (G xs j) (G xs i)) (h2:∀i,lo<=i->i < lo+n->lt (G xs (lo+n)) (G xs i)=true):DI lt le lo (n+1) 0 xs :=
 ⟨by omega,fun i j a b c=>h i j a b (by omega),fun i j a b c d=>by
  have e:j=lo+n:=by omega
  rw [e];exact h2 i a (by omega),fun i j a b c=>by omega,fun i j a b c d=>by
  have e:j=i:=by omega
  rw [e];exact O.irr _⟩
theorem DI.like (O:Ord lt bf le) {lo n neq:Nat}{xs:Array Keyed} (d:DI lt le lo n neq xs) (hb:∀i,lo<=i->i < lo+n->bf (G xs i) (G xs (lo+n))) (q1:lt (G xs (lo+n)) (G xs (lo+n - 1))=false) (q2:lt (G xs (lo+n - 1)) (G xs (lo+n))=false):DI lt le lo (n+1) (neq+1) xs:=by
  have nq:=d.nq;have ec:lo+(n+1) - (neq+1+1)=lo+n - (neq+1):=by omega
  have t1:∀i,lo+n - (neq+1)<=i->i < lo+n->lt (G xs (lo+n)) (G xs i)=false:=fun i a b=>by
    cases q:lt (G xs (lo+n)) (G xs i) with
    | false=>rfl
    | true =>
      rcases O.nt (G xs (lo+n - 1)) q with z | z
      · rw [q1] at z;cases z
      · rw [d.d4 _ _ (by omega) (by omega) a b] at z;cases z
  have t2:∀i,lo+n - (neq+1)<=i->i < lo+n->lt (G xs i) (G xs (lo+n))=false:=fun i a b=>by
    cases q:lt (G xs i) (G xs (lo+n)) with
    | false=>rfl
    | true =>
      rcases O.nt (G xs (lo+n - 1)) q with z | z
      · rw [d.d4 _ _ a b (by omega) (by omega)] at z;cases z
      · rw [q2] at z;cases z
  refine ⟨by omega,?_,?_,?_,?_⟩<;>rw [ec]
  · exact d.d1
  · intro i j a b c e
    by_cases k:j < lo+n
    · exact d.d2 i j a b c k
    · have ej : j = lo + n := by omega
      rw [ej];exact (O.nt (G xs (lo+n)) (d.d2 i (lo+n - 1) a b (by omega) (by omega))).resolve_left (fun z=>by rw [q2] at z;cases z)
  · intro i j a b c
    by_cases k:j < lo+n
    · exact d.d3 i j a b k
    · have ej : j = lo + n := by omega
      rw [ej];exact (O.f1 (hb i (by omega) (by omega))).mp (t1 i a (by omega))
  · intro i j a b c e
    by_cases k:j < lo+n
    · by_cases k2 : i < lo + n
      · exact d.d4 i j a k2 c k
      · have ei : i = lo + n := by omega
        rw [ei];exact t1 j c k
    · have ej : j = lo + n := by omega
      rw [ej];by_cases k2:i < lo+n
      · exact t2 i a k2
      · have ei : i = lo + n := by omega
        rw [ei];exact O.irr _
theorem zzx {α:Type}{c:Prop} [Decidable c] {x y:StateT SortSt Sem α}{Q:α->SortSt->Prop}{T:SortSt->Prop} (h:∀s3,T s3->wpS (model prog w) A E s y Q s3) (h0:¬ c->T st) (h1:c->(∀s3,T s3->wpS (model prog w) A E s y Q s3)->wpS (model prog w) A E s x Q st):wpS (model prog w) A E s (if c then x else y) Q st:=by
 by_cases k:c
 ·rw [if_pos k];exact h1 k h
 ·rw [if_neg k];exact h st (h0 k)
theorem zwg (C:Asks prog w A E s κ a₀ lt) (O:Ord lt bf le) {lo nrem:Nat}{Q:Option Nat->SortSt->Prop} (I:SI κ a₀ pd st) (hsz:lo+nrem<=a₀.size) (h1:1<=nrem) (hc:∀c,lo<=c->Cut bf (arrOf st) c)
    (h:∀m st',SI κ a₀ pd st'->1<=m->m<=nrem->Re (arrOf st) (arrOf st') lo (lo+m)->Srt le (arrOf st') lo (lo+m)->Q (some m) st'):wpS (model prog w) A E s (countRun' lo nrem) Q st:=by
  have sz:=I.size;rw [countRun'_eq];refine wpS_bind (wpS_mono (wpS_forRange (I:=fun x c s2=>s2=st/\c=(none,x)/\1<=x/\x<=nrem/\Srt le (arrOf st) lo (lo+x))
    (Q:=fun c s2=>s2=st/\∃k,c=(none,k)/\1<=k/\k<=nrem/\Srt le (arrOf st) lo (lo+k)/\(k=nrem\/lt (G (arrOf st) (lo+k)) (G (arrOf st) (lo+k - 1))=true)) ?as1 ?af1 ⟨rfl,rfl,Nat.le_refl _,h1,(fun i j g1 g2 g3=>by omega)⟩) ?ap1)
  case af1 =>
    rintro c s2 ⟨e2,rfl,a0,a1,a2⟩;rw [show max 1 nrem=nrem by omega] at *
    exact ⟨e2,nrem,rfl,by omega,Nat.le_refl _,a2,.inl rfl⟩
  case as1 =>
    rintro x c s2 b1 b2 ⟨e2,rfl,a0,a1,a2⟩;subst e2;dsimp only;refine wpS_bind (zf0 C I.kind I.perm (by omega) (by omega) ?_);cases q:lt (G (arrOf s2) (lo+x)) (G (arrOf s2) (lo+x - 1)) with
    | true =>
      dsimp only;rw [if_pos rfl];exact wpS_pure ⟨rfl,x,rfl,a0,a1,a2,.inr q⟩
    | false =>
      dsimp only;rw [if_neg (by decide)];refine wpS_pure ⟨rfl,rfl,by omega,by omega,fun i j h1 h2 h3=>?_⟩;by_cases hj:j < lo+x
      · exact a2 i j h1 h2 hj
      · have ej : j = lo + x := by omega
        subst ej;have b:le (G (arrOf s2) (lo+x - 1)) (G (arrOf s2) (lo+x)):=(O.f1 (hc (lo+x) (by omega) (lo+x - 1) (lo+x) (by omega) (Nat.le_refl _) (by rw [I.size];omega))).mp q;by_cases hi:i=lo+x - 1
        · rw [hi];exact b
        · exact O.tr (a2 i (lo+x - 1) h1 (by omega) (by omega)) b
  case ap1 =>
    rintro c s2 ⟨e2,n,rfl,a0,a1,a2,a3⟩;subst e2;dsimp only;by_cases en:n=nrem
    · rw [if_pos (by simpa using en)]
      exact wpS_pure (h n s2 I a0 a1 (.refl _ _ _) a2)
    · rw [if_neg (by simpa using en)]
      have q3:=a3.resolve_left en;refine zzx (T:=fun s3=>SI κ a₀ pd s3/\Re (arrOf s2) (arrOf s3) lo (lo+(n+1))/\DI lt le lo (n+1) 0 (arrOf s3)) (fun s3 ⟨I3,R3,D3⟩=>?main) (fun n1=>?no) (fun n1 H=>?yes)
      case yes =>
        refine wpS_bind (zf0 C I.kind I.perm (by omega) (by omega) ?_);cases q:lt (G (arrOf s2) lo) (G (arrOf s2) (lo+n - 1)) with
        | true =>
          dsimp only;rw [if_pos rfl];exact wpS_pure (h n s2 I a0 a1 (.refl _ _ _) a2)
        | false =>
          dsimp only;rw [if_neg (by decide)];refine wpS_bind (zue ?_);have lk:∀i,lo<=i->i < lo+n->lt (G (arrOf s2) (lo+n)) (G (arrOf s2) i)=true:=fun i g1 g2=>by
            have z1:lt (G (arrOf s2) i) (G (arrOf s2) (lo+n - 1))=false:=by
              cases z:lt (G (arrOf s2) i) (G (arrOf s2) (lo+n - 1)) with
              | false=>rfl
              | true =>
                rcases O.nt (G (arrOf s2) lo) z with y | y
                · by_cases ei : i = lo
                  · rw [ei,O.irr] at y;cases y
                  · have := O.f3 (hc i g1 lo i (by omega) (Nat.le_refl _) (by omega)) y
                    exact absurd (a2 lo i (Nat.le_refl _) (by omega) g2) this
                · rw [q] at y;cases y
            exact (O.nt _ q3).resolve_right (fun y=>by rw [z1] at y;cases y)
          obtain ⟨s3,e3,I3,R3,D3⟩ : ∃s3,s3=(setArr s2 (mir (arrOf s2) lo (lo+n)))/\SI κ a₀ pd s3/\Re (arrOf s2) (arrOf s3) lo (lo+(n+1))/\DI lt le lo (n+1) 0 (arrOf s3):=⟨_,rfl,I.set (Re.mir (by omega)).perm,(Re.mir (by omega)).mono (Nat.le_refl _) (by omega),DI.next O (fun i j g1 g2 g3=>by
                      show le (G (mir (arrOf s2) lo (lo+n)) j) (G (mir (arrOf s2) lo (lo+n)) i);rw [zfw (by omega),zfw (by omega),if_pos ⟨by omega,by omega⟩,if_pos ⟨by omega,by omega⟩];exact a2 _ _ (by omega) (by omega) (by omega)) (fun i g1 g2=>by
                      show lt (G (mir (arrOf s2) lo (lo+n)) (lo+n)) (G (mir (arrOf s2) lo (lo+n)) i)=true;rw [zfw (by omega),zfw (by omega),if_neg (by omega),if_pos ⟨by omega,by omega⟩];exact lk _ (by omega) (by omega))⟩
          rw [<-e3];exact H s3 ⟨I3,R3,D3⟩
      case no =>
        have en1:n=1:=by omega
        subst en1;exact ⟨I,.refl _ _ _,DI.next O (fun i j g1 g2 g3=>by omega) (fun i g1 g2=>by
          have ei:i=lo:=by omega
          rw [ei];exact q3)⟩
      case main =>
        refine wpS_bind (wpS_lift (wpAny_rule ⟨rfl,?_⟩));refine wpS_bind (wpS_mono (wpS_forRange (I:=fun x c s4=>∃neq,c=(none,x,neq)/\n+1<=x/\x<=nrem/\SI κ a₀ pd s4/\Re (arrOf s2) (arrOf s4) lo (lo+x)/\DI lt le lo x neq (arrOf s4))
          (Q:=fun c s4=>∃m neq,c=(none,m,neq)/\n+1<=m/\m<=nrem/\SI κ a₀ pd s4/\Re (arrOf s2) (arrOf s4) lo (lo+m)/\DI lt le lo m neq (arrOf s4)) ?dsd1 ?dfd1 ⟨0,rfl,Nat.le_refl _,by omega,I3,R3,D3⟩) ?dpd1)
        case dfd1 =>
          rintro c s4 ⟨neq,rfl,b0,b1,b2,b3,b4⟩;have e:max (n+1) nrem=nrem:=by omega
          rw [e] at b0 b1 b3 b4 ⊢;exact ⟨nrem,neq,rfl,b0,b1,b2,b3,b4⟩
        case dsd1 =>
          rintro x c s4 g1 g2 ⟨neq,rfl,b0,b1,I4,R4,D4⟩;dsimp only;have z4:=I4.size;have cut4:∀c,lo+x<=c->Cut bf (arrOf s4) c:=fun c hc'=>(hc c (by omega)).re R4 (by omega) (.inr hc');refine wpS_bind (zf0 C I4.kind I4.perm (by omega) (by omega) ?_);cases q5:lt (G (arrOf s4) (lo+x)) (G (arrOf s4) (lo+x - 1)) with
          | true =>
            dsimp only;rw [if_pos rfl];by_cases nq:neq > 0
            · rw [if_pos nq]
              refine wpS_bind (zue (wpS_pure ⟨0,rfl,by omega,by omega,I4.set (Re.mir (by omega)).perm,(R4.trans ((Re.mir (by omega)).mono (by have:=D4.nq;omega) (Nat.le_refl _))).mono (Nat.le_refl _) (by omega),?_⟩));obtain ⟨t1,t2⟩:=D4.turn O (by omega);refine DI.next O t1 fun i k1 k2=>?_;have:=t2 _ q5 i k1 k2;show lt (G (mir (arrOf s4) (lo+x - (neq+1)) (lo+x)) (lo+x)) _=true;rw [zfw (by omega),if_neg (by omega)];exact this
            · rw [if_neg nq]
              have e0:neq=0:=by omega
              subst e0;obtain ⟨t1,t2⟩:=D4.turn0 O;exact wpS_pure ⟨0,rfl,by omega,by omega,I4,R4.mono (Nat.le_refl _) (by omega),DI.next O t1 fun i k1 k2=>t2 _ q5 i k1 k2⟩
          | false =>
            dsimp only;rw [if_neg (by decide)];refine wpS_bind (zf0 C I4.kind I4.perm (by omega) (by omega) ?_);cases q6:lt (G (arrOf s4) (lo+x - 1)) (G (arrOf s4) (lo+x)) with
            | true =>
              dsimp only;rw [if_pos rfl];exact wpS_pure ⟨x,neq,rfl,b0,b1,I4,R4,D4⟩
            | false =>
              dsimp only;rw [if_neg (by decide)];exact wpS_pure ⟨neq+1,rfl,by omega,by omega,I4,R4.mono (Nat.le_refl _) (by omega),D4.like O (fun i k1 k2=>cut4 (lo+x) (Nat.le_refl _) i (lo+x) k2 (Nat.le_refl _) (by omega)) q5 q6⟩
        case dpd1 =>
          rintro c s4 ⟨n,neq,rfl,b0,n2,I4,R4,D4⟩;dsimp only;have z4:=I4.size;refine zzx (T:=fun s6=>SI κ a₀ pd s6/\Re (arrOf s2) (arrOf s6) lo (lo+n)/\∀i j,lo<=i->i < j->j < lo+n->le (G (arrOf s6) j) (G (arrOf s6) i)) (fun s6 ⟨I6,R6,t1⟩=>?tl) (fun nq=>?tn) (fun nq H=>?ty)
          case ty =>
            refine wpS_bind (zue ?_);have I6:SI κ a₀ pd (setArr s4 (mir (arrOf s4) (lo+n - (neq+1)) (lo+n))):=I4.set (Re.mir (by omega)).perm;have R6:Re (arrOf s2) (mir (arrOf s4) (lo+n - (neq+1)) (lo+n)) lo (lo+n):=R4.trans ((Re.mir (by omega)).mono (by have:=D4.nq;omega) (Nat.le_refl _));have t1:=(D4.turn O (by omega)).1;exact H _ ⟨I6,R6,t1⟩
          case tn =>
            have e0:neq=0:=by omega
            subst e0;exact ⟨I4,R4,(D4.turn0 O).1⟩
          case tl =>
            have z6:=I6.size;refine wpS_bind (zue ?_);have I5:SI κ a₀ pd (setArr s6 (mir (arrOf s6) lo (lo+n))):=I6.set (Re.mir (by omega)).perm;have R5:Re (arrOf s2) (mir (arrOf s6) lo (lo+n)) lo (lo+n):=R6.trans (Re.mir (by omega));have z5:Srt le (mir (arrOf s6) lo (lo+n)) lo (lo+n):=fun i j h1 h2 h3=>by
              rw [zfw (by omega),zfw (by omega),if_pos ⟨by omega,by omega⟩,if_pos ⟨by omega,by omega⟩];exact t1 _ _ (by omega) (by omega) (by omega)
            have ea:mir (arrOf s6) lo (lo+n)=arrOf (setArr s6 (mir (arrOf s6) lo (lo+n))):=rfl
            revert I5 R5 z5
            rw [ea];generalize (setArr s6 (mir (arrOf s6) lo (lo+n)))=s5;intro I5 R5 z5;have hz5:=I5.size;have hc5:∀c,lo+n<=c->Cut bf (arrOf s5) c:=fun c hc'=>(hc c (by omega)).re R5 (by omega) (.inr hc');refine wpS_bind (wpS_mono (wpS_forRange (I:=fun x c s2=>s2=s5/\c=(none,x)/\n<=x/\x<=nrem/\Srt le (arrOf s5) lo (lo+x))
              (Q:=fun c s2=>s2=s5/\∃k,c=(none,k)/\n<=k/\k<=nrem/\Srt le (arrOf s5) lo (lo+k)/\(k=nrem\/lt (G (arrOf s5) (lo+k)) (G (arrOf s5) (lo+k - 1))=true)) ?asd11 ?afd11 ⟨rfl,rfl,Nat.le_refl _,n2,z5⟩) ?apd11)
            case afd11 =>
              rintro c s2 ⟨e2,rfl,y0,y1,a2⟩;rw [show max n nrem=nrem by omega] at *
              exact ⟨e2,nrem,rfl,by omega,Nat.le_refl _,a2,.inl rfl⟩
            case asd11 =>
              rintro x c s2 b1 b2 ⟨e2,rfl,y0,y1,a2⟩;subst e2;dsimp only;refine wpS_bind (zf0 C I5.kind I5.perm (by omega) (by omega) ?_);cases q:lt (G (arrOf s2) (lo+x)) (G (arrOf s2) (lo+x - 1)) with
              | true =>
                dsimp only;rw [if_pos rfl];exact wpS_pure ⟨rfl,x,rfl,y0,y1,a2,.inr q⟩
              | false =>
                dsimp only;rw [if_neg (by decide)];refine wpS_pure ⟨rfl,rfl,by omega,by omega,fun i j h1 h2 h3=>?_⟩;by_cases hj:j < lo+x
                · exact a2 i j h1 h2 hj
                · have ej : j = lo + x := by omega
                  subst ej;have b:le (G (arrOf s2) (lo+x - 1)) (G (arrOf s2) (lo+x)):=(O.f1 (hc5 (lo+x) (by omega) (lo+x - 1) (lo+x) (by omega) (Nat.le_refl _) (by rw [I5.size];omega))).mp q;by_cases hi:i=lo+x - 1
                  · rw [hi];exact b
                  · exact O.tr (a2 i (lo+x - 1) h1 (by omega) (by omega)) b
            case apd11 =>
              rintro c s7 ⟨e7,m,rfl,y0,y1,y2,y3⟩;subst e7;exact wpS_pure (h m s7 I5 (by omega) y1 (R5.mono (Nat.le_refl _) (by omega)) y2)
end
end Tim
end L2
namespace L2
open PySem PyProof.Rows
namespace Tim
section
variable {prog:Program}{w:World}{A:Around}{E:Value->Shared->Prop}{s:Shared}{κ:SortKind}{a₀:Array Keyed}{lt:Keyed->Keyed->Bool}{bf le:Keyed->Keyed->Prop}{st:SortSt}{pd:Array (Nat × Nat × Nat)}
theorem z4j (C:Asks prog w A E s κ a₀ lt) (O:Ord lt bf le) {lo n ok:Nat}{Q:Bool->SortSt->Prop} (I:SI κ a₀ pd st) (hsz:lo+n<=a₀.size) (hok:ok<=n) (h1:1<=ok) (hs:Srt le (arrOf st) lo (lo+ok)) (hc:∀c,lo+ok<=c->Cut bf (arrOf st) c)
    (h:∀st',SI κ a₀ pd st'->Re (arrOf st) (arrOf st') lo (lo+n)->Srt le (arrOf st') lo (lo+n)->Q true st'):wpS (model prog w) A E s (binarySort' lo n ok) Q st:=by
  have sz:=I.size;rw [binarySort'_eq];have em:max ok 1=ok:=by omega
  rw [em];refine wpS_bind (wpS_mono (wpS_forRange (I:=fun k c s2=>c=(none,())/\ok<=k/\k<=n/\SI κ a₀ pd s2/\Re (arrOf st) (arrOf s2) lo (lo+k)/\Srt le (arrOf s2) lo (lo+k))
    (Q:=fun c s2=>c=(none,())/\SI κ a₀ pd s2/\Re (arrOf st) (arrOf s2) lo (lo+n)/\Srt le (arrOf s2) lo (lo+n)) ?step ?fin ⟨rfl,Nat.le_refl _,hok,I,.refl _ _ _,hs⟩) ?post)
  case post =>
    rintro c s2 ⟨rfl,I2,R2,S2⟩;exact wpS_pure (h s2 I2 R2 S2)
  case fin =>
    rintro c s2 ⟨hc,b0,b1,I2,R2,S2⟩;have e:max ok n=n:=by omega
    rw [e] at R2 S2;exact ⟨hc,I2,R2,S2⟩
  case step =>
    rintro k c s2 g1 g2 ⟨rfl,b0,b1,I2,R2,S2⟩;have z2:=I2.size;have ct:Cut bf (arrOf s2) (lo+k):=(hc (lo+k) (by omega)).re R2 (by omega) (.inr (Nat.le_refl _));refine wpS_bind (wpS_mono (wpS_forRange (I:=fun x c s3=>s3=s2/\∃l r,c=(none,l,r)/\l<=r/\r<=k/\r - l<=k - x/\(∀i,i < l->le (G (arrOf s2) (lo+i)) (G (arrOf s2) (lo+k)))/\∀i,r<=i->i < k->le (G (arrOf s2) (lo+k)) (G (arrOf s2) (lo+i)))
      (Q:=fun c s3=>s3=s2/\∃l,c=(none,l,l)/\l<=k/\(∀i,i < l->le (G (arrOf s2) (lo+i)) (G (arrOf s2) (lo+k)))/\∀i,l<=i->i < k->le (G (arrOf s2) (lo+k)) (G (arrOf s2) (lo+i))) ?istep ?ifin ⟨rfl,0,k,rfl,by omega,by omega,by omega,fun i hi=>by omega,fun i k1 k2=>by omega⟩) ?ipost)
    case ifin =>
      rintro c s3 ⟨e3,l,r,rfl,c1,c2,c3,c4,c5⟩;have e:r=l:=by omega
      subst e;exact ⟨e3,r,rfl,c2,c4,c5⟩
    case istep =>
      rintro x c s3 _ hx ⟨e3,l,r,rfl,c1,c2,c3,c4,c5⟩;subst e3;dsimp only;by_cases g:l ≥ r
      · rw [if_pos g]
        have e:r=l:=by omega
        subst e;exact wpS_pure ⟨rfl,r,rfl,c2,c4,c5⟩
      · rw [if_neg g]
        refine wpS_bind (zf0 C I2.kind I2.perm (by omega) (by omega) ?_);have b:=ct (lo+(l+r) / 2) (lo+k) (by omega) (Nat.le_refl _) (by omega);cases q:lt (G (arrOf s3) (lo+k)) (G (arrOf s3) (lo+(l+r) / 2)) with
        | true =>
          dsimp only;rw [if_pos rfl];refine wpS_pure ⟨rfl,l,(l+r) / 2,rfl,by omega,by omega,by omega,c4,fun i k1 k2=>?_⟩;by_cases e:i=(l+r) / 2
          · rw [e];exact O.f2 q
          · exact O.tr (O.f2 q) (S2 _ _ (by omega) (by omega) (by omega))
        | false =>
          dsimp only;rw [if_neg (by decide)];refine wpS_pure ⟨rfl,(l+r) / 2+1,r,rfl,by omega,by omega,by omega,fun i k1=>?_,c5⟩;by_cases e:i=(l+r) / 2
          · rw [e];exact (O.f1 b).mp q
          · exact O.tr (S2 _ _ (by omega) (by omega) (by omega)) ((O.f1 b).mp q)
    case ipost =>
      rintro c s3 ⟨e3,l,rfl,c2,c4,c5⟩;subst e3;refine wpS_bind (z3a (wpS_pure ⟨rfl,by omega,by omega,I2.set (bubble_perm _ _ _),?_,?_⟩))
      · refine (R2.mono (Nat.le_refl _) (by omega)).trans ((Re.bub (by omega) (by omega)).mono (by omega) (by omega))
      · intro i j h1 h2 h3
        show le (G (bubble (arrOf s3) (lo+k) (lo+k - (lo+l))) i) (G (bubble (arrOf s3) (lo+k) (lo+k - (lo+l))) j);have el:lo+k - (lo+k - (lo+l))=lo+l:=by omega
        rw [ztc (by omega) (by omega),ztc (by omega) (by omega),el];have p4:∀i,lo<=i->i < lo+l->le (G (arrOf s3) i) (G (arrOf s3) (lo+k)):=fun i k1 k2=>by
          have:=c4 (i - lo) (by omega);rw [show lo+(i - lo)=i by omega] at this;exact this
        have p5:∀i,lo+l<=i->i < lo+k->le (G (arrOf s3) (lo+k)) (G (arrOf s3) i):=fun i k1 k2=>by
          have:=c5 (i - lo) (by omega) (by omega);rw [show lo+(i - lo)=i by omega] at this;exact this
        by_cases a1:i=lo+l
        · rw [if_pos a1, if_neg (by omega), if_pos ⟨by omega, by omega⟩]
          exact p5 _ (by omega) (by omega)
        · rw [if_neg a1]
          by_cases a2:j=lo+l
          · rw [if_neg (by omega), if_pos a2]
            exact p4 _ h1 (by omega)
          · rw [if_neg a2]
            by_cases a3:lo+l < i/\i<=lo+k
            · rw [if_pos a3, if_pos ⟨by omega, by omega⟩]
              exact S2 _ _ (by omega) (by omega) (by omega)
            · rw [if_neg a3]
              by_cases a4:lo+l < j/\j<=lo+k
              · rw [if_pos a4]
                by_cases a5:i=j - 1
                · rw [a5];exact O.rf _
                · exact S2 _ _ (by omega) (by omega) (by omega)
              · rw [if_neg a4]
                exact S2 _ _ (by omega) (by omega) (by omega)
end
end Tim
end L2
namespace L2
open PySem PyProof.Rows
namespace Tim
theorem G_list {a:Array Keyed}{i:Nat} (h:i < a.size):a.toList[i]?=some (G a i):=by rw [Array.getElem?_toList];exact zva h
theorem take_G {a:Array Keyed}{i:Nat} (h:i < a.size):a.toList.take (i+1)=a.toList.take i++[G a i]:=by rw [List.take_add_one,G_list h];rfl
theorem zre {a:Array Keyed}{i:Nat} (h:i < a.size):a.toList.drop i=G a i::a.toList.drop (i+1):=by
 have h' : i < a.toList.length:=by simpa using h
 rw [List.drop_eq_getElem_cons h'];have e:=G_list h;rw [List.getElem?_eq_getElem h'] at e;rw [sI e]
theorem mem_drop {a:Array Keyed}{n:Nat}{x:Keyed} (h:x∈a.toList.drop n):∃i,n<=i/\i < a.size/\x=G a i:=by
 obtain ⟨i,hi,e⟩:=List.mem_iff_getElem.mp h;have h1:n+i < a.toList.length:=by rw [List.length_drop] at hi;omega
 have h2:n+i < a.size:=by simpa using h1
 refine ⟨n+i,by omega,h2,?_⟩;rw [List.getElem_drop] at e;have g:=G_list h2;rw [List.getElem?_eq_getElem h1] at g;rw [<-e];exact sI g
theorem mem_take {a:Array Keyed}{n:Nat}{x:Keyed} (h:x∈a.toList.take n):∃i,i < n/\i < a.size/\x=G a i:=by
 obtain ⟨i,hi,e⟩:=List.mem_iff_getElem.mp h;rw [List.length_take] at hi;have h1:i < a.toList.length:=by omega
 have h2:i < a.size:=by simpa using h1
 refine ⟨i,by omega,h2,?_⟩;rw [List.getElem_take] at e;have g:=G_list h2;rw [List.getElem?_eq_getElem h1] at g;rw [<-e];exact sI g
theorem srt_list {le:Keyed->Keyed->Prop}{a:Array Keyed} (h:Srt le a 0 a.size):a.toList.Pairwise le:=by
 rw [List.pairwise_iff_getElem];intro i j hi hj hij;have hi' : i < a.size:=by simpa using hi
 have hj' : j < a.size:=by simpa using hj
 have e1:=G_list hi';have e2:=G_list hj';rw [List.getElem?_eq_getElem hi] at e1;rw [List.getElem?_eq_getElem hj] at e2;rw [sI e1,sI e2];exact h i j (Nat.zero_le _) hij hj'
theorem zb1 (a:Array Keyed) (i j:Nat):(a.extract i j).toList=(a.toList.drop i).take (j - i):=by rw [Array.toList_extract]
theorem zhc (a:Array Keyed) (i:Nat):(a.extract i a.size).toList=a.toList.drop i:=by
 rw [zb1,List.take_of_length_le];rw [List.length_drop];simp
structure Fin (le:Keyed->Keyed->Prop) (a b:Array Keyed) (r:List Keyed):Prop where
 p:r.Perm (a.toList++b.toList)
 s:r.Pairwise le
structure MI (le:Keyed->Keyed->Prop) (a b:Array Keyed) (o:List Keyed) (ia ib:Nat):Prop where
 p:o.Perm (a.toList.take ia++b.toList.take ib)
 s:o.Pairwise le
 oa:∀x∈o,∀i,ia<=i->i < a.size->le x (G a i)
 ob:∀x∈o,∀j,ib<=j->j < b.size->le x (G b j)
structure MH (le:Keyed->Keyed->Prop) (a b:Array Keyed) (o:List Keyed) (na nb:Nat):Prop where
 p:o.Perm (a.toList.drop na++b.toList.drop nb)
 s:o.Pairwise le
 oa:∀x∈o,∀i,i < na->le (G a i) x
 ob:∀x∈o,∀j,j < nb->le (G b j) x
section
variable {lt:Keyed->Keyed->Bool}{bf le:Keyed->Keyed->Prop} (O:Ord lt bf le) {a b:Array Keyed}{o:List Keyed}{ia ib na nb:Nat} (Sa:Srt le a 0 a.size) (Sb:Srt le b 0 b.size)
theorem ztq {x:Keyed}{o p q:List Keyed} (h:o.Perm (p++q)):(o++[x]).Perm ((p++[x])++q):=by
 refine (h.append_right [x]).trans ?_;rw [List.append_assoc,List.append_assoc];exact List.perm_append_comm.append_left p
theorem MI.pushA (Sa:Srt le a 0 a.size) (m:MI le a b o ia ib) (hi:ia < a.size) (hb:∀j,ib<=j->j < b.size->le (G a ia) (G b j)):MI le a b (o++[G a ia]) (ia+1) ib:=by
 refine ⟨by rw [take_G hi];exact ztq m.p,?_,fun x hx i h1 h2=>?_,fun x hx j h1 h2=>?_⟩
 ·rw [List.pairwise_append];refine ⟨m.s,List.pairwise_singleton _ _,fun x hx y hy=>?_⟩;rw [List.mem_singleton.mp hy];exact m.oa x hx ia (Nat.le_refl _) hi
 ·rcases List.mem_append.mp hx with z | z
  ·exact m.oa x z i (by omega) h2
  ·rw [List.mem_singleton.mp z];exact Sa _ _ (Nat.zero_le _) (by omega) h2
 ·rcases List.mem_append.mp hx with z | z
  ·exact m.ob x z j h1 h2
  ·rw [List.mem_singleton.mp z];exact hb j h1 h2
theorem MI.pushB (Sb:Srt le b 0 b.size) (m:MI le a b o ia ib) (hj:ib < b.size) (ha:∀i,ia<=i->i < a.size->le (G b ib) (G a i)):MI le a b (o++[G b ib]) ia (ib+1):=by
 refine ⟨?_,?_,fun x hx i h1 h2=>?_,fun x hx j h1 h2=>?_⟩
 ·rw [take_G hj];have:=m.p.append_right [G b ib];rw [List.append_assoc] at this;exact this
 ·rw [List.pairwise_append];refine ⟨m.s,List.pairwise_singleton _ _,fun x hx y hy=>?_⟩;rw [List.mem_singleton.mp hy];exact m.ob x hx ib (Nat.le_refl _) hj
 ·rcases List.mem_append.mp hx with z | z
  ·exact m.oa x z i h1 h2
  ·rw [List.mem_singleton.mp z];exact ha i h1 h2
 ·rcases List.mem_append.mp hx with z | z
  ·exact m.ob x z j (by omega) h2
  ·rw [List.mem_singleton.mp z];exact Sb _ _ (Nat.zero_le _) (by omega) h2
theorem zmh {a:Array Keyed}{i k:Nat} (h:i+k < a.size):(a.toList.drop i).take (k+1)=(a.toList.drop i).take k++[G a (i+k)]:=by
 rw [List.take_add_one,List.getElem?_drop,G_list h];rfl
theorem MI.appA (Sa:Srt le a 0 a.size) (m:MI le a b o ia ib):∀k,ia+k<=a.size->(∀i,ia<=i->i < ia+k->∀j,ib<=j->j < b.size->le (G a i) (G b j))->MI le a b (o++(a.toList.drop ia).take k) (ia+k) ib
  | 0,_,_=>by rw [List.take_zero,List.append_nil];exact m
  | k+1,h1,h2=>by
    have:=(m.appA Sa k (by omega) fun i g1 g2=>h2 i g1 (by omega)).pushA Sa (by omega) (h2 (ia+k) (by omega) (by omega));rw [zmh (by omega),<-List.append_assoc];exact this
theorem MI.appB (Sb:Srt le b 0 b.size) (m:MI le a b o ia ib):∀k,ib+k<=b.size->(∀j,ib<=j->j < ib+k->∀i,ia<=i->i < a.size->le (G b j) (G a i))->MI le a b (o++(b.toList.drop ib).take k) ia (ib+k)
  | 0,_,_=>by rw [List.take_zero,List.append_nil];exact m
  | k+1,h1,h2=>by
    have:=(m.appB Sb k (by omega) fun i g1 g2=>h2 i g1 (by omega)).pushB Sb (by omega) (h2 (ib+k) (by omega) (by omega));rw [zmh (by omega),<-List.append_assoc];exact this
theorem zlg (b:Array Keyed):b.toList.take b.size=b.toList:=List.take_of_length_le (by simp)
theorem MI.finB (Sa:Srt le a 0 a.size) (m:MI le a b o ia b.size):Fin le a b (o++a.toList.drop ia):=by
 refine ⟨?_,?_⟩
 ·have h := m.p;rw [zlg] at h;refine (h.append_right _).trans ?_;rw [List.append_assoc];refine (List.perm_append_comm.append_left _).trans ?_;rw [<-List.append_assoc,List.take_append_drop]
 ·rw [List.pairwise_append];refine ⟨m.s,(srt_list Sa).sublist (List.drop_sublist _ _),fun x hx y hy=>?_⟩;obtain ⟨i,h1,h2,rfl⟩:=mem_drop hy;exact m.oa x hx i h1 h2
theorem MI.finA (Sb:Srt le b 0 b.size) (m:MI le a b o a.size ib):Fin le a b (o++b.toList.drop ib):=by
 refine ⟨?_,?_⟩
 ·have h := m.p;rw [zlg] at h;refine (h.append_right _).trans ?_;rw [List.append_assoc,List.take_append_drop]
 ·rw [List.pairwise_append];refine ⟨m.s,(srt_list Sb).sublist (List.drop_sublist _ _),fun x hx y hy=>?_⟩;obtain ⟨i,h1,h2,rfl⟩:=mem_drop hy;exact m.ob x hx i h1 h2
theorem MI.finL (Sa:Srt le a 0 a.size) (Sb:Srt le b 0 b.size) (m:MI le a b o ia ib) (e:ia+1=a.size) (HA:∀j,j < b.size->le (G b j) (G a (a.size - 1))):Fin le a b (o++b.toList.drop ib++a.toList.drop ia):=by
 refine ⟨?_,?_⟩
 ·refine ((m.p.append_right _).append_right _).trans ?_;rw [List.append_assoc,List.append_assoc,<-List.append_assoc (b.toList.take ib),List.take_append_drop];refine (List.perm_append_comm.append_left _).trans ?_;rw [<-List.append_assoc,List.take_append_drop]
 ·rw [List.pairwise_append, List.pairwise_append];refine ⟨⟨m.s,(srt_list Sb).sublist (List.drop_sublist _ _),fun x hx y hy=>?_⟩,(srt_list Sa).sublist (List.drop_sublist _ _),fun x hx y hy=>?_⟩
  ·obtain ⟨i, h1, h2, rfl⟩ := mem_drop hy;exact m.ob x hx i h1 h2
  ·obtain ⟨i, h1, h2, rfl⟩ := mem_drop hy;rcases List.mem_append.mp hx with z | z
   ·exact m.oa x z i h1 h2
   ·obtain ⟨j, g1, g2, rfl⟩ := mem_drop z;have:i=a.size - 1:=by omega
    rw [this];exact HA j g2
theorem MH.pushA (Sa:Srt le a 0 a.size) (m:MH le a b o (na+1) nb) (h:na < a.size) (hb:∀j,j < nb->le (G b j) (G a na)):MH le a b (G a na::o) na nb:=by
 refine ⟨?_,List.pairwise_cons.mpr ⟨fun x hx=>m.oa x hx na (by omega),m.s⟩,fun x hx i h1=>?_,fun x hx j h1=>?_⟩
 ·rw [zre h];exact m.p.cons _
 ·rcases List.mem_cons.mp hx with z | z
  ·rw [z];exact Sa _ _ (Nat.zero_le _) h1 h
  ·exact m.oa x z i (by omega)
 ·rcases List.mem_cons.mp hx with z | z
  ·rw [z];exact hb j h1
  ·exact m.ob x z j h1
theorem MH.pushB (Sb:Srt le b 0 b.size) (m:MH le a b o na (nb+1)) (h:nb < b.size) (ha:∀i,i < na->le (G a i) (G b nb)):MH le a b (G b nb::o) na nb:=by
 refine ⟨?_,List.pairwise_cons.mpr ⟨fun x hx=>m.ob x hx nb (by omega),m.s⟩,fun x hx i h1=>?_,fun x hx j h1=>?_⟩
 ·rw [zre h];exact (m.p.cons _).trans List.perm_middle.symm
 ·rcases List.mem_cons.mp hx with z | z
  ·rw [z];exact ha i h1
  ·exact m.oa x z i h1
 ·rcases List.mem_cons.mp hx with z | z
  ·rw [z];exact Sb _ _ (Nat.zero_le _) h1 h
  ·exact m.ob x z j (by omega)
theorem zmb {a:Array Keyed}{i k:Nat} (h:i < a.size):(a.toList.drop i).take (k+1)=G a i::(a.toList.drop (i+1)).take k:=by
 rw [zre h,List.take_succ_cons]
theorem MH.appA (Sa:Srt le a 0 a.size):∀(k at_:Nat),MH le a b o (at_+k) nb->at_+k<=a.size->(∀i,at_<=i->i < at_+k->∀j,j < nb->le (G b j) (G a i))->MH le a b ((a.toList.drop at_).take k++o) at_ nb
  | 0,at_,m,_,_=>by rw [List.take_zero];exact m
  | k+1,at_,m,h1,h2=>by
    have:=(MH.appA Sa k (at_+1) (by rw [show at_+1+k=at_+(k+1) by omega];exact m) (by omega) fun i g1 g2=>h2 i (by omega) (by omega)).pushA Sa (by omega) (h2 at_ (Nat.le_refl _) (by omega));rw [zmb (by omega)];exact this
theorem MH.appB (Sb:Srt le b 0 b.size):∀(k at_:Nat),MH le a b o na (at_+k)->at_+k<=b.size->(∀j,at_<=j->j < at_+k->∀i,i < na->le (G a i) (G b j))->MH le a b ((b.toList.drop at_).take k++o) na at_
  | 0,at_,m,_,_=>by rw [List.take_zero];exact m
  | k+1,at_,m,h1,h2=>by
    have:=(MH.appB Sb k (at_+1) (by rw [show at_+1+k=at_+(k+1) by omega];exact m) (by omega) fun i g1 g2=>h2 i (by omega) (by omega)).pushB Sb (by omega) (h2 at_ (Nat.le_refl _) (by omega));rw [zmb (by omega)];exact this
theorem MH.finA (Sb:Srt le b 0 b.size) (m:MH le a b o 0 nb):Fin le a b (b.toList.take nb++o):=by
 refine ⟨?_,?_⟩
 ·refine (m.p.append_left _).trans ?_;rw [List.drop_zero];refine List.perm_append_comm_assoc _ _ _ |>.trans ?_;rw [List.take_append_drop]
 ·rw [List.pairwise_append];refine ⟨(srt_list Sb).sublist (List.take_sublist _ _),m.s,fun x hx y hy=>?_⟩;obtain ⟨i,h1,h2,rfl⟩:=mem_take hx;exact m.ob y hy i h1
theorem MH.finB (Sa:Srt le a 0 a.size) (m:MH le a b o na 0):Fin le a b (a.toList.take na++o):=by
 refine ⟨?_,?_⟩
 ·refine (m.p.append_left _).trans ?_;rw [List.drop_zero,<-List.append_assoc,List.take_append_drop]
 ·rw [List.pairwise_append];refine ⟨(srt_list Sa).sublist (List.take_sublist _ _),m.s,fun x hx y hy=>?_⟩;obtain ⟨i,h1,h2,rfl⟩:=mem_take hx;exact m.oa y hy i h1
theorem MH.finF (Sa:Srt le a 0 a.size) (Sb:Srt le b 0 b.size) (m:MH le a b o na 1) (H0:∀i,i < a.size->le (G b 0) (G a i)):Fin le a b (b.toList.take 1++a.toList.take na++o):=by
 refine ⟨?_,?_⟩
 ·refine (m.p.append_left _).trans ?_;rw [List.append_assoc,<-List.append_assoc (a.toList.take na),List.take_append_drop];refine List.perm_append_comm_assoc _ _ _ |>.trans ?_;rw [List.take_append_drop]
 ·rw [List.pairwise_append, List.pairwise_append];refine ⟨⟨(srt_list Sb).sublist (List.take_sublist _ _),(srt_list Sa).sublist (List.take_sublist _ _),fun x hx y hy=>?_⟩,m.s,fun x hx y hy=>?_⟩
  ·obtain ⟨i, h1, h2, rfl⟩ := mem_take hx;obtain ⟨j,g1,g2,rfl⟩:=mem_take hy;have:i=0:=by omega
   rw [this];exact H0 j g2
  ·rcases List.mem_append.mp hx with z | z
   ·obtain ⟨i, h1, h2, rfl⟩ := mem_take z;exact m.ob y hy i h1
   ·obtain ⟨i, h1, h2, rfl⟩ := mem_take z;exact m.oa y hy i h1
end
end Tim
end L2
namespace L2
open PySem PyProof.Rows
namespace Tim
noncomputable def setG:Nat->StateT SortSt Sem Unit:=sortPriv% PySem.Builtin.setMinGallop
section
variable {prog:Program}{w:World}{A:Around}{E:Value->Shared->Prop}{s:Shared}{κ:SortKind}{a₀:Array Keyed}{lt:Keyed->Keyed->Bool}{bf le:Keyed->Keyed->Prop}{st:SortSt}{pd:Array (Nat × Nat × Nat)}
structure SG (κ:SortKind) (a₀:Array Keyed) (pd:Array (Nat × Nat × Nat)) (xs:Array Keyed) (st:SortSt):Prop where
 i:SI κ a₀ pd st
 e:arrOf st=xs
theorem zlj {xs:Array Keyed}{g:Nat}{Q:Unit->SortSt->Prop} (S:SG κ a₀ pd xs st) (h:∀st',SG κ a₀ pd xs st'->Q () st'):wpS (model prog w) A E s (setG g) Q st :=
 wpS_modify (h _ ⟨⟨S.i.kind,S.i.failed,S.i.perm,S.i.pend⟩,S.e⟩)
theorem q_lt {x y:Keyed}{Q:Option Bool->SortSt->Prop} (C:Asks prog w A E s κ a₀ lt) {xs:Array Keyed} (S:SG κ a₀ pd xs st) (hx:x∈a₀.toList) (hy:y∈a₀.toList) (h:Q (some (lt x y)) st):wpS (model prog w) A E s (lt' x y) Q st:=C _ _ _ _ hx hy S.i.kind h
theorem zjc {out a b:Array Keyed}{ia ib:Nat}:(out++a.extract ia a.size++b.extract ib b.size).toList=out.toList++a.toList.drop ia++b.toList.drop ib:=by
 rw [Array.toList_append,Array.toList_append,zhc,zhc]
theorem zl2 {le:Keyed->Keyed->Prop}{out a b:Array Keyed}{ia ib:Nat} (e:ib=b.size) (h:Fin le a b (out.toList++a.toList.drop ia)):Fin le a b (out++a.extract ia a.size++b.extract ib b.size).toList:=by
 subst e;rw [zjc,List.drop_of_length_le (l:=b.toList) (by simp),List.append_nil];exact h
theorem z1w {le:Keyed->Keyed->Prop}{out a b:Array Keyed}{ia ib:Nat} (e:ia=a.size) (h:Fin le a b (out.toList++b.toList.drop ib)):Fin le a b (out++a.extract ia a.size++b.extract ib b.size).toList:=by
 subst e;rw [zjc,List.drop_of_length_le (l:=a.toList) (by simp),List.append_nil];exact h
theorem zls {le:Keyed->Keyed->Prop}{out a b:Array Keyed}{ia ib:Nat} (h:Fin le a b (out.toList++b.toList.drop ib++a.toList.drop ia)):Fin le a b (out++b.extract ib b.size++a.extract ia a.size).toList:=by
 rw [Array.toList_append,Array.toList_append,zhc,zhc];exact h
theorem q_if {α:Type}{c:Prop} [Decidable c] {x y:StateT SortSt Sem α}{Q:α->SortSt->Prop} (h1:c->wpS (model prog w) A E s x Q st) (h2:¬ c->wpS (model prog w) A E s y Q st):wpS (model prog w) A E s (if c then x else y) Q st:=by
 by_cases h:c
 ·rw [if_pos h];exact h1 h
 ·rw [if_neg h];exact h2 h
theorem zq0 {α:Type}{x:StateT SortSt Sem α}{Q:α->SortSt->Prop} (h:∀Q',(∀r t,Q r t->Q' r t)->wpS (model prog w) A E s x Q' st):wpS (model prog w) A E s x Q st:=h Q fun _ _ z=>z
theorem q_eq {α β:Type}{c:β->Prop} [∀m,Decidable (c m)] {x:β->StateT SortSt Sem α}{Q:α->SortSt->Prop}{g:β->β}{f:β->StateT SortSt Sem α} (e:∀m,x m=f (g m)) (h:∀u,wpS (model prog w) A E s (f u) Q st):∀m,wpS (model prog w) A E s (if c m then x m else f m) Q st:=fun m=>by
 rw [e];exact q_if (fun _=>h _) fun _=>h _
theorem zt4 {α β γ:Type}{c:Prop} [Decidable c] {x:β->γ->StateT SortSt Sem α}{Q:α->SortSt->Prop}{v:β}{u:γ}{f:β->γ->StateT SortSt Sem α} (P:β->γ->Prop) (h0:¬ c->P v u) (h1:c->(∀v u,P v u->wpS (model prog w) A E s (f v u) Q st)->wpS (model prog w) A E s (x v u) Q st)
  (h:∀v u,P v u->wpS (model prog w) A E s (f v u) Q st):∀v',v=v'->∀u',u=u'->wpS (model prog w) A E s (if c then x v' u' else f v' u') Q st:=by
 rintro _ rfl _ rfl;exact q_if (fun k=>h1 k h) fun k=>h _ _ (h0 k)
theorem MI.finA' {le:Keyed->Keyed->Prop}{a b:Array Keyed}{o:List Keyed}{ia ib:Nat} (Sb:Srt le b 0 b.size) (m:MI le a b o ia ib) (e:ia=a.size):Fin le a b (o++b.toList.drop ib):=by subst e;exact m.finA Sb
theorem MI.finB' {le:Keyed->Keyed->Prop}{a b:Array Keyed}{o:List Keyed}{ia ib:Nat} (Sa:Srt le a 0 a.size) (m:MI le a b o ia ib) (e:ib=b.size):Fin le a b (o++a.toList.drop ia):=by subst e;exact m.finB Sa
structure MP (lt:Keyed->Keyed->Bool) (bf le:Keyed->Keyed->Prop) (a₀ a b:Array Keyed):Prop where
 sa:Srt le a 0 a.size
 sb:Srt le b 0 b.size
 ma:∀i,i < a.size->G a i∈a₀.toList
 mb:∀i,i < b.size->G b i∈a₀.toList
 bf:∀i j,i < a.size->j < b.size->bf (G a i) (G b j)
 a1:1<=a.size
 b1:1<=b.size
 h0:∀i,i < a.size->le (G b 0) (G a i)
 ha:∀j,j < b.size->le (G b j) (G a (a.size - 1))
theorem z3o (C:Asks prog w A E s κ a₀ lt) (O:Ord lt bf le) {a b xs:Array Keyed}{Q:Array Keyed->SortSt->Prop} (S:SG κ a₀ pd xs st) (P:MP lt bf le a₀ a b)
    (h:∀r st',SG κ a₀ pd xs st'->Fin le a b r.toList->Q r st'):wpS (model prog w) A E s (mLo a b) Q st:=by
  have leA:∀i j,i<=j->j < a.size->le (G a i) (G a j):=fun i j h1 h2=>by
    by_cases e:i=j
    · rw [e];exact O.rf _
    · exact P.sa i j (Nat.zero_le _) (by omega) h2
  have leB:∀i j,i<=j->j < b.size->le (G b i) (G b j):=fun i j h1 h2=>by
    by_cases e:i=j
    · rw [e];exact O.rf _
    · exact P.sb i j (Nat.zero_le _) (by omega) h2
  have pa:=P.a1;have pb:=P.b1;show wpS (model prog w) A E s (liftM (rule _) >>= _) Q st;refine wpS_bind (wpS_lift (wpAny_rule ⟨rfl,?_⟩));refine wpS_bind (zap pb ?_);have m0:MI le a b (#[G b 0]:Array Keyed).toList 0 1:=by
    have:=MI.pushB (o:=[]) (ia:=0) (ib:=0) P.sb ⟨by simp,.nil,fun x hx=>by simp at hx,fun x hx=>by simp at hx⟩ (by omega) (fun i _ h2=>P.h0 i h2);simpa using this
  dsimp only;by_cases e1:1=b.size
  · rw [if_pos (by simpa using e1)]
    refine wpS_pure (h _ _ S (zl2 e1 (m0.finB' P.sa e1)))
  rw [if_neg (by simpa using e1)];by_cases e2:0+1=a.size
  · rw [if_pos (by simpa using e2)]
    exact wpS_pure (h _ _ S (zls (m0.finL P.sa P.sb e2 P.ha)))
  rw [if_neg (by simpa using e2)];refine wpS_bind (wpS_get ?_);refine wpS_bind (wpS_mono (wpS_forRange (I:=fun x c s2=>∃(out:Array Keyed) (ia ib mg:Nat),c=(none,out,ia,ib,mg)/\SG κ a₀ pd xs s2/\MI le a b out.toList ia ib/\ia+1 < a.size/\ib < b.size/\x<=ia+ib)
    (Q:=fun c s2=>∃(r out:Array Keyed) (ia ib mg:Nat),c=(some r,out,ia,ib,mg)/\SG κ a₀ pd xs s2/\Fin le a b r.toList) ?os ?of ⟨_,0,1,_,rfl,S,m0,by omega,by omega,by omega⟩) ?op)
  case of =>
    rintro c s2 hC;refine aG fun G hG=>?_;obtain ⟨out,ia,ib,mg,eC,b1,b2,b3,b4,b5⟩:=hC;refine hG ?_;clear hG;clear G;subst eC;exfalso;omega
  case op =>
    rintro c s2 hC;refine aG fun G hG=>?_;obtain ⟨r,out,ia,ib,mg,eC,b1,b2⟩:=hC;refine hG ?_;clear hG;clear G;subst eC;exact wpS_pure (h _ _ b1 b2)
  case os =>
    rintro x c s2 _ hx hC;refine aG fun G hG=>?_;obtain ⟨out,ia,ib,mg,eC,S2,m2,b3,b4,b5⟩:=hC;refine hG ?_;clear hG;clear G;subst eC;dsimp only;refine wpS_bind (wpS_mono (wpS_forRange (I:=fun y c s3=>s3=s2/\∃(out:Array Keyed) (ia ib ac bc:Nat),c=(none,out,ia,ib,ac,bc)/\MI le a b out.toList ia ib/\ia+1 < a.size/\ib < b.size/\x<=ia+ib)
      (Q:=fun c s3=>s3=s2/\((∃(r out:Array Keyed) (ia ib ac bc:Nat),c=(some r,out,ia,ib,ac,bc)/\Fin le a b r.toList)\/∃(out:Array Keyed) (ia ib ac bc:Nat),c=(none,out,ia,ib,ac,bc)/\MI le a b out.toList ia ib/\ia+1 < a.size/\ib < b.size/\x<=ia+ib)) ?is1 ?if1 ⟨rfl,out,ia,ib,0,0,rfl,m2,b3,b4,b5⟩) ?ip1)
    case if1 =>
      rintro c s3 ⟨e3,z⟩;exact ⟨e3,.inr z⟩
    case is1 =>
      rintro y c s3 _ hy hC;refine aG fun G hG=>?_;obtain ⟨e3,out,ia,ib,ac,bc,eC,m3,c3,c4,c5⟩:=hC;refine hG ?_;clear hG;clear G;subst eC;subst e3;dsimp only;refine wpS_bind (zap c4 (wpS_bind (zap (by omega) (wpS_bind (q_lt C S2 (P.mb _ c4) (P.ma _ (by omega)) ?_)))));have bb:=P.bf ia ib (by omega) c4;cases q:lt (G b ib) (G a ia) with
      | true =>
        dsimp only;rw [if_pos rfl];refine wpS_bind (zap c4 ?_);have m4:MI le a b (out.push (G b ib)).toList ia (ib+1):=by
          rw [Array.toList_push];exact m3.pushB P.sb c4 fun i g1 g2=>O.tr (O.f2 q) (leA _ _ g1 g2)
        by_cases e:ib+1=b.size
        · rw [if_pos (by simpa using e)]
          refine wpS_pure ⟨rfl,.inl ⟨_,_,_,_,_,_,rfl,zl2 e ?_⟩⟩;rw [e] at m4;exact m4.finB P.sa
        · rw [if_neg (by simpa using e)]
          split
          · exact wpS_pure ⟨rfl,.inr ⟨_,_,_,_,_,rfl,m4,c3,by omega,by omega⟩⟩
          · exact wpS_pure ⟨rfl,_,_,_,_,_,rfl,m4,c3,by omega,by omega⟩
      | false =>
        dsimp only;rw [if_neg (by decide)];refine wpS_bind (zap (by omega) ?_);have m4:MI le a b (out.push (G a ia)).toList (ia+1) ib:=by
          rw [Array.toList_push];exact m3.pushA P.sa (by omega) fun j g1 g2=>O.tr ((O.f1 bb).mp q) (leB _ _ g1 g2)
        by_cases e:ia+1+1=a.size
        · rw [if_pos (by simpa using e)]
          exact wpS_pure ⟨rfl,.inl ⟨_,_,_,_,_,_,rfl,zls (m4.finL P.sa P.sb e P.ha)⟩⟩
        · rw [if_neg (by simpa using e)]
          split
          · exact wpS_pure ⟨rfl,.inr ⟨_,_,_,_,_,rfl,m4,by omega,c4,by omega⟩⟩
          · exact wpS_pure ⟨rfl,_,_,_,_,_,rfl,m4,by omega,c4,by omega⟩
    case ip1 =>
      rintro c s3 ⟨e3,z⟩;subst e3;refine aG fun G hG=>?_;rcases z with ⟨r,out,ia,ib,ac,bc,eC,f⟩ | ⟨out,ia,ib,ac,bc,eC,m3,c3,c4,c5⟩
      · refine hG ?_
        clear hG;clear G;subst eC;exact wpS_pure ⟨_,_,_,_,_,rfl,S2,f⟩
      · refine hG ?_
        clear hG;clear G;subst eC;dsimp only;refine wpS_bind (wpS_lift (wpAny_rule ⟨rfl,?_⟩));refine wpS_bind (wpS_mono (wpS_forRange (I:=fun y c s4=>∃(out:Array Keyed) (ia ib mg ac bc:Nat),c=(none,out,ia,ib,mg,ac,bc)/\SG κ a₀ pd xs s4/\MI le a b out.toList ia ib/\ia+1 < a.size/\ib < b.size/\x+y<=ia+ib)
          (Q:=fun c s4=>SG κ a₀ pd xs s4/\((∃(r out:Array Keyed) (ia ib mg ac bc:Nat),c=(some r,out,ia,ib,mg,ac,bc)/\Fin le a b r.toList)\/∃(out:Array Keyed) (ia ib mg ac bc:Nat),c=(none,out,ia,ib,mg,ac,bc)/\MI le a b out.toList ia ib/\ia+1 < a.size/\ib < b.size/\x+1<=ia+ib)) ?gs ?gf ⟨out,ia,ib,_,ac,bc,rfl,S2,m3,c3,c4,by omega⟩) ?gp)
        case gf =>
          rintro c s4 hC;refine aG fun G hG=>?_;obtain ⟨out,ia,ib,mg,ac,bc,eC,S4,m4,d3,d4,d5⟩:=hC;refine hG ?_;clear hG;clear G;subst eC;exact ⟨S4,.inr ⟨_,_,_,_,_,_,rfl,m4,d3,d4,by omega⟩⟩
        case gp =>
          rintro c s4 ⟨S4,z⟩;refine aG fun G hG=>?_;rcases z with ⟨r,out,ia,ib,mg,ac,bc,eC,f⟩ | ⟨out,ia,ib,mg,ac,bc,eC,m4,d3,d4,d5⟩
          · refine hG ?_
            clear hG;clear G;subst eC;exact wpS_pure ⟨_,_,_,_,_,rfl,S4,f⟩
          · refine hG ?_
            clear hG;clear G;subst eC;dsimp only;exact wpS_bind (zlj S4 fun s5 S5=>wpS_pure ⟨_,_,_,_,rfl,S5,m4,d3,d4,d5⟩)
        case gs =>
          rintro y c s4 _ hy hC;refine aG fun G hG=>?_;obtain ⟨out,ia,ib,mg,ac,bc,eC,S4,m4,d3,d4,d5⟩:=hC;refine hG ?_;clear hG;clear G;subst eC;simp (config:={ maxSteps:=10000000,failIfUnchanged:=false }) only [];refine zq0 fun Q' hQ=>?_;generalize mg=mg
          revert mg
          refine q_eq (g:=fun mg=>mg - 1) (fun _=>rfl) fun mg=>?_;dsimp (config:={ failIfUnchanged:=false }) only;refine wpS_bind (zlj S4 fun s5 S5=>wpS_bind (zap d4 (wpS_bind (zmu (left:=false) (key:=G b ib) (arr:=a) (base:=ia) (n:=a.size - ia) (hint:=0) (B:=fun i=>!lt (G b ib) (G a (ia+i))) C S5.i.kind (P.mb _ d4) (by omega) (fun i hi=>P.ma _ (by omega)) (fun i hi=>rfl) (fun i j h1 h2 h3=>?mono1) (by omega) fun k k1 k2 k3=>?_))))
          case mono1 =>
            have h3' : lt (G b ib) (G a (ia+j))=false:=by simpa using h3
            have l1:=(O.f1 (P.bf (ia+j) ib (by omega) d4)).mp h3';have l2:=(O.f1 (P.bf (ia+i) ib (by omega) d4)).mpr (O.tr (leA _ _ (by omega) (by omega)) l1);show (!lt (G b ib) (G a (ia+i)))=true;rw [l2];rfl
          have w1:∀i,ia<=i->i < ia+k->le (G a i) (G b ib):=fun i g1 g2=>by
            have:=k2 (i - ia) (by omega);rw [Nat.add_sub_cancel' g1] at this;exact (O.f1 (P.bf i ib (by omega) d4)).mp (by simpa using this)
          have w2:∀i,ia+k<=i->i < a.size->le (G b ib) (G a i):=fun i g1 g2=>by
            have:=k3 (i - ia) (by omega) (by omega);rw [Nat.add_sub_cancel' (Nat.le_trans (Nat.le_add_right _ _) g1)] at this;exact O.f2 (by simpa using this)
          have m5:MI le a b (out++a.extract ia (ia+k)).toList (ia+k) ib:=by
            rw [Array.toList_append,zb1,Nat.add_sub_cancel_left];exact m4.appA P.sa k (by omega) fun i g1 g2 j g3 g4=>O.tr (w1 i g1 g2) (leB _ _ g3 g4)
          dsimp (config:={ failIfUnchanged:=false }) only;generalize eou:out=out'
          revert out'
          generalize ena:ia=na'
          revert na'
          refine zt4 (fun ia1 out1=>MI le a b out1.toList ia1 ib/\(∀i,ia1<=i->i < a.size->le (G b ib) (G a i))/\ia1+1 < a.size/\x+y<=ia1+ib) (fun hk0=>?_) (fun hc H=>?_) fun ia1 out1 ⟨n5,u1,b6,p6⟩=>?_
          · have k0 : k = 0 := by omega
            subst k0;exact ⟨m4,w2,d3,d5⟩
          · refine q_if (fun e1 => ?_) fun e1 => ?_
            · have e1 : ia + k + 1 = a.size := by simpa using e1
              exact wpS_pure (hQ _ _ ⟨S5,.inl ⟨_,_,_,_,_,_,_,rfl,zls (m5.finL P.sa P.sb e1 P.ha)⟩⟩)
            have e1:¬ ia+k+1=a.size:=by simpa using e1
            refine q_if (fun e2=>?_) fun e2=>?_
            · have e2 : ia + k = a.size := by simpa using e2
              exact wpS_pure (hQ _ _ ⟨S5,.inl ⟨_,_,_,_,_,_,_,rfl,z1w e2 (m5.finA' P.sb e2)⟩⟩)
            have e2:¬ ia+k=a.size:=by simpa using e2
            exact H _ _ ⟨m5,w2,by omega,by omega⟩
          clear m5 m4 w2 w1 k3 k2 k1;dsimp (config:={ failIfUnchanged:=false }) only;refine wpS_bind (zap d4 ?_);have m6:MI le a b (out1.push (G b ib)).toList ia1 (ib+1):=by
            rw [Array.toList_push];exact n5.pushB P.sb d4 u1
          refine q_if (fun e3=>?_) fun e3=>?_
          · have e3 : ib + 1 = b.size := by simpa using e3
            exact wpS_pure (hQ _ _ ⟨S5,.inl ⟨_,_,_,_,_,_,_,rfl,zl2 e3 (m6.finB' P.sa e3)⟩⟩)
          have e3:¬ ib+1=b.size:=by simpa using e3
          refine wpS_bind (zap (by omega) (wpS_bind (zmu (left:=true) (key:=G a ia1) (arr:=b) (base:=ib+1) (n:=b.size - (ib+1)) (hint:=0) (B:=fun j=>lt (G b (ib+1+j)) (G a ia1)) C S5.i.kind (P.ma _ (by omega)) (by omega) (fun j hj=>P.mb _ (by omega)) (fun j hj=>rfl) (fun i j h1 h2 h3=>?mono2) (by omega) fun l l1 l2 l3=>?_)))
          case mono2 =>
            have n1:=O.f3 (P.bf ia1 (ib+1+j) (by omega) (by omega)) h3;cases q:lt (G b (ib+1+i)) (G a ia1) with
            | true=>rfl
            | false=>exact absurd (O.tr ((O.f1 (P.bf ia1 (ib+1+i) (by omega) (by omega))).mp q) (leB _ _ (by omega) (by omega))) n1
          have v1:∀j,ib+1<=j->j < ib+1+l->le (G b j) (G a ia1):=fun j g1 g2=>by
            have:=l2 (j - (ib+1)) (by omega);rw [Nat.add_sub_cancel' g1] at this;exact O.f2 this
          have v2:∀j,ib+1+l<=j->j < b.size->le (G a ia1) (G b j):=fun j g1 g2=>by
            have:=l3 (j - (ib+1)) (by omega) (by omega);rw [Nat.add_sub_cancel' (Nat.le_trans (Nat.le_add_right _ _) g1)] at this;exact (O.f1 (P.bf ia1 j (by omega) g2)).mp this
          have m7:MI le a b (out1.push (G b ib)++b.extract (ib+1) (ib+1+l)).toList ia1 (ib+1+l):=by
            rw [Array.toList_append,zb1,Nat.add_sub_cancel_left];exact m6.appB P.sb l (by omega) fun j g1 g2 i g3 g4=>O.tr (v1 j g1 g2) (leA _ _ g3 g4)
          dsimp (config:={ failIfUnchanged:=false }) only;generalize hnb:ib+1=ib1 at m7 m6 v2 e3 ⊢;generalize hout:out1.push (G b ib)=out2 at m7 m6 ⊢;generalize eou:out2=out'
          revert out'
          generalize ena:ib1=na'
          revert na'
          refine zt4 (fun ib2 out2=>MI le a b out2.toList ia1 ib2/\(∀j,ib2<=j->j < b.size->le (G a ia1) (G b j))/\ib2 < b.size/\x+y+1<=ia1+ib2) (fun hl0=>?_) (fun hc H=>?_) fun ib2 out3 ⟨n7,u2,b7,p7⟩=>?_
          · have k0 : l = 0 := by omega
            subst k0;exact ⟨m6,v2,by omega,by omega⟩
          · refine q_if (fun e4 => ?_) fun e4 => ?_
            · have e4 : ib1 + l = b.size := by simpa using e4
              exact wpS_pure (hQ _ _ ⟨S5,.inl ⟨_,_,_,_,_,_,_,rfl,zl2 e4 (m7.finB' P.sa e4)⟩⟩)
            have e4:¬ ib1+l=b.size:=by simpa using e4
            exact H _ _ ⟨m7,v2,by omega,by omega⟩
          dsimp (config:={ failIfUnchanged:=false }) only;refine wpS_bind (zap (by omega) ?_);have m8:MI le a b (out3.push (G a ia1)).toList (ia1+1) ib2:=by
            rw [Array.toList_push];exact n7.pushA P.sa (by omega) u2
          refine q_if (fun e5=>?_) fun e5=>?_
          · have e5 : ia1 + 1 + 1 = a.size := by simpa using e5
            exact wpS_pure (hQ _ _ ⟨S5,.inl ⟨_,_,_,_,_,_,_,rfl,zls (m8.finL P.sa P.sb e5 P.ha)⟩⟩)
          have e5:¬ ia1+1+1=a.size:=by simpa using e5
          refine q_if (fun _=>?_) fun _=>?_
          · exact wpS_pure (hQ _ _ ⟨S5,.inr ⟨_,_,_,_,_,_,rfl,m8,by omega,b7,by omega⟩⟩)
          · exact wpS_pure (hQ _ _ ⟨_,_,_,_,_,_,rfl,S5,m8,by omega,b7,by omega⟩)
end
end Tim
end L2
namespace L2
open PySem PyProof.Rows
namespace Tim
section
variable {prog:Program}{w:World}{A:Around}{E:Value->Shared->Prop}{s:Shared}{κ:SortKind}{a₀:Array Keyed}{lt:Keyed->Keyed->Bool}{bf le:Keyed->Keyed->Prop}{st:SortSt}{pd:Array (Nat × Nat × Nat)}
variable {a b out:Array Keyed}{o:List Keyed}{na nb at_:Nat}
theorem MH.pushA' (Sa:Srt le a 0 a.size) (m:MH le a b out.toList.reverse na nb) (h1:1<=na) (h:na<=a.size) (hb:∀j,j < nb->le (G b j) (G a (na - 1))):MH le a b (out.push (G a (na - 1))).toList.reverse (na - 1) nb:=by
 obtain ⟨n,rfl⟩ : ∃n,na=n+1:=⟨na - 1,by omega⟩;rw [Array.toList_push,List.reverse_append];exact m.pushA Sa (by omega) hb
theorem MH.pushB' (Sb:Srt le b 0 b.size) (m:MH le a b out.toList.reverse na nb) (h1:1<=nb) (h:nb<=b.size) (ha:∀i,i < na->le (G a i) (G b (nb - 1))):MH le a b (out.push (G b (nb - 1))).toList.reverse na (nb - 1):=by
 obtain ⟨n,rfl⟩ : ∃n,nb=n+1:=⟨nb - 1,by omega⟩;rw [Array.toList_push,List.reverse_append];exact m.pushB Sb (by omega) ha
theorem zo5 (x:Array Keyed) (i j:Nat):(out++(x.extract i j).reverse).toList.reverse=(x.toList.drop i).take (j - i)++out.toList.reverse:=by
 rw [Array.toList_append,List.reverse_append,Array.toList_reverse,List.reverse_reverse,zb1]
theorem MH.appA' (Sa:Srt le a 0 a.size) (m:MH le a b out.toList.reverse na nb) (h1:at_<=na) (h:na<=a.size) (hb:∀i,at_<=i->i < na->∀j,j < nb->le (G b j) (G a i)):MH le a b (out++(a.extract at_ na).reverse).toList.reverse at_ nb:=by
 rw [zo5];obtain ⟨k,rfl⟩ : ∃k,na=at_+k:=⟨na - at_,by omega⟩;rw [show at_+k - at_=k by omega];exact MH.appA Sa k at_ m h hb
theorem MH.appB' (Sb:Srt le b 0 b.size) (m:MH le a b out.toList.reverse na nb) (h1:at_<=nb) (h:nb<=b.size) (ha:∀j,at_<=j->j < nb->∀i,i < na->le (G a i) (G b j)):MH le a b (out++(b.extract at_ nb).reverse).toList.reverse na at_:=by
 rw [zo5];obtain ⟨k,rfl⟩ : ∃k,nb=at_+k:=⟨nb - at_,by omega⟩;rw [show at_+k - at_=k by omega];exact MH.appB Sb k at_ m h ha
theorem zc0 (x:Array Keyed) (n:Nat):(x.extract 0 n).toList=x.toList.take n:=by rw [zb1,List.drop_zero,Nat.sub_zero]
theorem MH.done0 (Sb:Srt le b 0 b.size) (m:MH le a b out.toList.reverse na nb) (e:na=0):Fin le a b (a.extract 0 na++b.extract 0 nb++out.reverse).toList:=by
 subst e;rw [Array.toList_append,Array.toList_append,zc0,zc0,List.take_zero,List.nil_append,Array.toList_reverse];exact m.finA Sb
theorem MH.done1 (Sa:Srt le a 0 a.size) (m:MH le a b out.toList.reverse na nb) (e:nb=0):Fin le a b (a.extract 0 na++b.extract 0 nb++out.reverse).toList:=by
 subst e;rw [Array.toList_append,Array.toList_append,zc0,zc0,List.take_zero,List.append_nil,Array.toList_reverse];exact m.finB Sa
theorem MH.first (Sa:Srt le a 0 a.size) (Sb:Srt le b 0 b.size) (m:MH le a b out.toList.reverse na nb) (e:nb=1) (H0:∀i,i < a.size->le (G b 0) (G a i)):Fin le a b (b.extract 0 nb++a.extract 0 na++out.reverse).toList:=by
 subst e;rw [Array.toList_append,Array.toList_append,zc0,zc0,Array.toList_reverse];exact m.finF Sa Sb H0
theorem z4t (C:Asks prog w A E s κ a₀ lt) (O:Ord lt bf le) {a b xs:Array Keyed}{Q:Array Keyed->SortSt->Prop} (S:SG κ a₀ pd xs st) (P:MP lt bf le a₀ a b)
    (h:∀r st',SG κ a₀ pd xs st'->Fin le a b r.toList->Q r st'):wpS (model prog w) A E s (mHi a b) Q st:=by
  have leA:∀i j,i<=j->j < a.size->le (G a i) (G a j):=fun i j h1 h2=>by
    by_cases e:i=j
    · rw [e];exact O.rf _
    · exact P.sa i j (Nat.zero_le _) (by omega) h2
  have leB:∀i j,i<=j->j < b.size->le (G b i) (G b j):=fun i j h1 h2=>by
    by_cases e:i=j
    · rw [e];exact O.rf _
    · exact P.sb i j (Nat.zero_le _) (by omega) h2
  have pa:=P.a1;have pb:=P.b1;show wpS (model prog w) A E s (liftM (rule _) >>= _) Q st;refine wpS_bind (wpS_lift (wpAny_rule ⟨rfl,?_⟩));refine wpS_bind (zap (show a.size - 1 < a.size by omega) ?_);have m0:MH le a b (#[G a (a.size - 1)]:Array Keyed).toList.reverse (a.size - 1) b.size:=by
    have:=MH.pushA' (out:=#[]) (na:=a.size) (nb:=b.size) (a:=a) (b:=b) P.sa ⟨by simp,.nil,fun x hx=>by simp at hx,fun x hx=>by simp at hx⟩ pa (Nat.le_refl _) P.ha;simpa using this
  dsimp only;by_cases e1:a.size - 1=0
  · rw [if_pos (by simpa using e1)]
    exact wpS_pure (h _ _ S (m0.done0 P.sb e1))
  rw [if_neg (by simpa using e1)];by_cases e2:b.size=1
  · rw [if_pos (by simpa using e2)]
    exact wpS_pure (h _ _ S (m0.first P.sa P.sb e2 P.h0))
  rw [if_neg (by simpa using e2)];refine wpS_bind (wpS_get ?_);refine wpS_bind (wpS_mono (wpS_forRange (I:=fun x c s2=>∃(out:Array Keyed) (na nb mg:Nat),c=(none,na,nb,out,mg)/\SG κ a₀ pd xs s2/\MH le a b out.toList.reverse na nb/\1<=na/\2<=nb/\na<=a.size/\nb<=b.size/\x+na+nb<=a.size+b.size)
    (Q:=fun c s2=>∃(r out:Array Keyed) (na nb mg:Nat),c=(some r,na,nb,out,mg)/\SG κ a₀ pd xs s2/\Fin le a b r.toList) ?os ?of ⟨_,a.size - 1,b.size,_,rfl,S,m0,by omega,by omega,by omega,by omega,by omega⟩) ?op)
  case of =>
    rintro c s2 hC;refine aG fun G hG=>?_;obtain ⟨out,na,nb,mg,eC,b1,b2,b3,b4,b5,b6,b7⟩:=hC;refine hG ?_;clear hG;clear G;subst eC;exfalso;omega
  case op =>
    rintro c s2 hC;refine aG fun G hG=>?_;obtain ⟨r,out,na,nb,mg,eC,b1,b2⟩:=hC;refine hG ?_;clear hG;clear G;subst eC;exact wpS_pure (h _ _ b1 b2)
  case os =>
    rintro x c s2 _ hx hC;refine aG fun G hG=>?_;obtain ⟨out,na,nb,mg,eC,S2,m2,b3,b4,b5,b6,b7⟩:=hC;refine hG ?_;clear hG;clear G;subst eC;dsimp only;refine wpS_bind (wpS_mono (wpS_forRange (I:=fun y c s3=>s3=s2/\∃(out:Array Keyed) (na nb ac bc:Nat),c=(none,na,nb,out,ac,bc)/\MH le a b out.toList.reverse na nb/\1<=na/\2<=nb/\na<=a.size/\nb<=b.size/\x+na+nb<=a.size+b.size)
      (Q:=fun c s3=>s3=s2/\((∃(r out:Array Keyed) (na nb ac bc:Nat),c=(some r,na,nb,out,ac,bc)/\Fin le a b r.toList)\/∃(out:Array Keyed) (na nb ac bc:Nat),c=(none,na,nb,out,ac,bc)/\MH le a b out.toList.reverse na nb/\1<=na/\2<=nb/\na<=a.size/\nb<=b.size/\x+na+nb<=a.size+b.size)) ?is1 ?if1 ⟨rfl,out,na,nb,0,0,rfl,m2,b3,b4,b5,b6,b7⟩) ?ip1)
    case if1 =>
      rintro c s3 ⟨e3,z⟩;exact ⟨e3,.inr z⟩
    case is1 =>
      rintro y c s3 _ hy hC;refine aG fun G hG=>?_;obtain ⟨e3,out,na,nb,ac,bc,eC,m3,c3,c4,c5,c6,c7⟩:=hC;refine hG ?_;clear hG;clear G;subst eC;subst e3;dsimp only;refine wpS_bind (zap (by omega) (wpS_bind (zap (by omega) (wpS_bind (q_lt C S2 (P.mb _ (by omega)) (P.ma _ (by omega)) ?_)))));have bb:=P.bf (na - 1) (nb - 1) (by omega) (by omega);cases q:lt (G b (nb - 1)) (G a (na - 1)) with
      | true =>
        dsimp only;rw [if_pos rfl];refine wpS_bind (zap (by omega) ?_);have m4:=m3.pushA' P.sa c3 c5 fun j g=>O.tr (leB j (nb - 1) (by omega) (by omega)) (O.f2 q);by_cases e:na - 1=0
        · rw [if_pos (by simpa using e)]
          exact wpS_pure ⟨rfl,.inl ⟨_,_,_,_,_,_,rfl,m4.done0 P.sb e⟩⟩
        · rw [if_neg (by simpa using e)]
          split
          · exact wpS_pure ⟨rfl,.inr ⟨_,_,_,_,_,rfl,m4,by omega,by omega,by omega,by omega,by omega⟩⟩
          · exact wpS_pure ⟨rfl,_,_,_,_,_,rfl,m4,by omega,by omega,by omega,by omega,by omega⟩
      | false =>
        dsimp only;rw [if_neg (by decide)];refine wpS_bind (zap (by omega) ?_);have m4:=m3.pushB' P.sb (by omega) c6 fun i g=>O.tr (leA i (na - 1) (by omega) (by omega)) ((O.f1 bb).mp q);by_cases e:nb - 1=1
        · rw [if_pos (by simpa using e)]
          exact wpS_pure ⟨rfl,.inl ⟨_,_,_,_,_,_,rfl,m4.first P.sa P.sb e P.h0⟩⟩
        · rw [if_neg (by simpa using e)]
          split
          · exact wpS_pure ⟨rfl,.inr ⟨_,_,_,_,_,rfl,m4,by omega,by omega,by omega,by omega,by omega⟩⟩
          · exact wpS_pure ⟨rfl,_,_,_,_,_,rfl,m4,by omega,by omega,by omega,by omega,by omega⟩
    case ip1 =>
      rintro c s3 ⟨e3,z⟩;subst e3;refine aG fun G hG=>?_;rcases z with ⟨r,out,na,nb,ac,bc,eC,f⟩ | ⟨out,na,nb,ac,bc,eC,m3,c3,c4,c5,c6,c7⟩
      · refine hG ?_
        clear hG;clear G;subst eC;exact wpS_pure ⟨_,_,_,_,_,rfl,S2,f⟩
      · refine hG ?_
        clear hG;clear G;subst eC;dsimp only;refine wpS_bind (wpS_lift (wpAny_rule ⟨rfl,?_⟩));refine wpS_bind (wpS_mono (wpS_forRange (I:=fun y c s4=>∃(out:Array Keyed) (na nb mg ac bc:Nat),c=(none,na,nb,out,mg,ac,bc)/\SG κ a₀ pd xs s4/\MH le a b out.toList.reverse na nb/\1<=na/\2<=nb/\na<=a.size/\nb<=b.size/\x+y+na+nb<=a.size+b.size)
          (Q:=fun c s4=>SG κ a₀ pd xs s4/\((∃(r out:Array Keyed) (na nb mg ac bc:Nat),c=(some r,na,nb,out,mg,ac,bc)/\Fin le a b r.toList)\/∃(out:Array Keyed) (na nb mg ac bc:Nat),c=(none,na,nb,out,mg,ac,bc)/\MH le a b out.toList.reverse na nb/\1<=na/\2<=nb/\na<=a.size/\nb<=b.size/\x+1+na+nb<=a.size+b.size)) ?gs ?gf ⟨out,na,nb,_,ac,bc,rfl,S2,m3,c3,c4,c5,c6,by omega⟩) ?gp)
        case gf =>
          rintro c s4 hC;refine aG fun G hG=>?_;obtain ⟨out,na,nb,mg,ac,bc,eC,S4,m4,d3,d4,d5,d6,d7⟩:=hC;refine hG ?_;clear hG;clear G;subst eC;exact ⟨S4,.inr ⟨_,_,_,_,_,_,rfl,m4,d3,d4,d5,d6,by omega⟩⟩
        case gp =>
          rintro c s4 ⟨S4,z⟩;refine aG fun G hG=>?_;rcases z with ⟨r,out,na,nb,mg,ac,bc,eC,f⟩ | ⟨out,na,nb,mg,ac,bc,eC,m4,d3,d4,d5,d6,d7⟩
          · refine hG ?_
            clear hG;clear G;subst eC;exact wpS_pure ⟨_,_,_,_,_,rfl,S4,f⟩
          · refine hG ?_
            clear hG;clear G;subst eC;dsimp only;exact wpS_bind (zlj S4 fun s5 S5=>wpS_pure ⟨_,_,_,_,rfl,S5,m4,d3,d4,d5,d6,d7⟩)
        case gs =>
          rintro y c s4 _ hy hC;refine aG fun G hG=>?_;obtain ⟨out,na,nb,mg,ac,bc,eC,S4,m4,d3,d4,d5,d6,d7⟩:=hC;refine hG ?_;clear hG;clear G;subst eC;simp (config:={ maxSteps:=10000000,failIfUnchanged:=false }) only [];refine zq0 fun Q' hQ=>?_;generalize mg=mg
          revert mg
          refine q_eq (g:=fun mg=>mg - 1) (fun _=>rfl) fun mg=>?_;dsimp (config:={ failIfUnchanged:=false }) only;refine wpS_bind (zlj S4 fun s5 S5=>wpS_bind (zap (show nb - 1 < b.size by omega) (wpS_bind (zmu (left:=false) (key:=G b (nb - 1)) (arr:=a) (base:=0) (n:=na) (hint:=na - 1) (B:=fun i=>!lt (G b (nb - 1)) (G a (0+i))) C S5.i.kind (P.mb _ (by omega)) (by omega) (fun i hi=>P.ma _ (by omega)) (fun i hi=>rfl) (fun i j h1 h2 h3=>?mono1) (by omega) fun k k1 k2 k3=>?_))))
          case mono1 =>
            have h3' : lt (G b (nb - 1)) (G a (0+j))=false:=by simpa using h3
            have l1:=(O.f1 (P.bf (0+j) (nb - 1) (by omega) (by omega))).mp h3';have l2:=(O.f1 (P.bf (0+i) (nb - 1) (by omega) (by omega))).mpr (O.tr (leA _ _ (by omega) (by omega)) l1);show (!lt (G b (nb - 1)) (G a (0+i)))=true;rw [l2];rfl
          have w1:∀i,i < k->le (G a i) (G b (nb - 1)):=fun i g1=>by
            have:=k2 i g1;rw [Nat.zero_add] at this;exact (O.f1 (P.bf i (nb - 1) (by omega) (by omega))).mp (by simpa using this)
          have w2:∀i,k<=i->i < na->le (G b (nb - 1)) (G a i):=fun i g1 g2=>by
            have:=k3 i (by omega) (by omega);rw [Nat.zero_add] at this;exact O.f2 (by simpa using this)
          have m5:=m4.appA' P.sa k1 d5 fun i g1 g2 j g3=>O.tr (leB j (nb - 1) (by omega) (by omega)) (w2 i g1 g2);dsimp (config:={ failIfUnchanged:=false }) only;generalize hac:na - k=ac1 at m5 ⊢;generalize eou:out=out'
          revert out'
          generalize ena:na=na'
          revert na'
          refine zt4 (fun na1 out1=>MH le a b out1.toList.reverse na1 nb/\(∀i,i < na1->le (G a i) (G b (nb - 1)))/\(1<=na1/\na1<=a.size)/\x+y+na1+nb<=a.size+b.size) (fun hk0=>?_) (fun hc H=>?_) fun na1 out1 ⟨n5,u1,b8,p6⟩=>?_
          · have k0 : k = na := by omega
            exact ⟨m4,k0 ▸ w1,by omega,by omega⟩
          · refine q_if (fun e1 => ?_) fun e1 => ?_
            · have e1 : k = 0 := by simpa using e1
              exact wpS_pure (hQ _ _ ⟨S5,.inl ⟨_,_,_,_,_,_,_,rfl,m5.done0 P.sb e1⟩⟩)
            have e1:¬ k=0:=by simpa using e1
            exact H _ _ ⟨m5,w1,by omega,by omega⟩
          clear m5 m4 w2 w1 k3 k2 k1 hac;dsimp (config:={ failIfUnchanged:=false }) only;refine wpS_bind (zap (by omega) ?_);have m6:=n5.pushB' P.sb (by omega) d6 u1;refine q_if (fun e3=>?_) fun e3=>?_
          · have e3 : nb - 1 = 1 := by simpa using e3
            exact wpS_pure (hQ _ _ ⟨S5,.inl ⟨_,_,_,_,_,_,_,rfl,m6.first P.sa P.sb e3 P.h0⟩⟩)
          have e3:¬ nb - 1=1:=by simpa using e3
          refine wpS_bind (zap (show na1 - 1 < a.size by omega) (wpS_bind (zmu (left:=true) (key:=G a (na1 - 1)) (arr:=b) (base:=0) (n:=nb - 1) (hint:=nb - 1 - 1) (B:=fun j=>lt (G b (0+j)) (G a (na1 - 1))) C S5.i.kind (P.ma _ (by omega)) (by omega) (fun j hj=>P.mb _ (by omega)) (fun j hj=>rfl) (fun i j h1 h2 h3=>?mono2) (by omega) fun l l1 l2 l3=>?_)))
          case mono2 =>
            have n1:=O.f3 (P.bf (na1 - 1) (0+j) (by omega) (by omega)) h3;cases q:lt (G b (0+i)) (G a (na1 - 1)) with
            | true=>rfl
            | false=>exact absurd (O.tr ((O.f1 (P.bf (na1 - 1) (0+i) (by omega) (by omega))).mp q) (leB _ _ (by omega) (by omega))) n1
          have v1:∀j,j < l->le (G b j) (G a (na1 - 1)):=fun j g1=>by
            have:=l2 j g1;rw [Nat.zero_add] at this;exact O.f2 this
          have v2:∀j,l<=j->j < nb - 1->le (G a (na1 - 1)) (G b j):=fun j g1 g2=>by
            have:=l3 j (by omega) (by omega);rw [Nat.zero_add] at this;exact (O.f1 (P.bf (na1 - 1) j (by omega) (by omega))).mp this
          have m7:=m6.appB' P.sb l1 (by omega) fun j g1 g2 i g3=>O.tr (leA i (na1 - 1) (by omega) (by omega)) (v2 j g1 g2);dsimp (config:={ failIfUnchanged:=false }) only;generalize hbc:nb - 1 - l=bc1 at m7 ⊢;generalize hnb:nb - 1=nb1 at hbc m7 m6 ⊢;generalize hout:out1.push (G b nb1)=out2 at m7 m6 ⊢;generalize eou:out2=out'
          revert out'
          generalize ena:nb1=na'
          revert na'
          refine zt4 (fun nb2 out2=>MH le a b out2.toList.reverse na1 nb2/\(∀j,j < nb2->le (G b j) (G a (na1 - 1)))/\(2<=nb2/\nb2<=b.size)/\x+y+1+na1+nb2<=a.size+b.size) (fun hl0=>?_) (fun hc H=>?_) fun nb2 out3 ⟨n7,u2,b7,p7⟩=>?_
          · have k0 : l = nb1 := by omega
            exact ⟨m6,k0 ▸ v1,by omega,by omega⟩
          · refine q_if (fun e4 => ?_) fun e4 => ?_
            · have e4 : l = 1 := by simpa using e4
              exact wpS_pure (hQ _ _ ⟨S5,.inl ⟨_,_,_,_,_,_,_,rfl,m7.first P.sa P.sb e4 P.h0⟩⟩)
            have e4:¬ l=1:=by simpa using e4
            refine q_if (fun e6=>?_) fun e6=>?_
            · have e6 : l = 0 := by simpa using e6
              exact wpS_pure (hQ _ _ ⟨S5,.inl ⟨_,_,_,_,_,_,_,rfl,m7.done1 P.sa e6⟩⟩)
            have e6:¬ l=0:=by simpa using e6
            exact H _ _ ⟨m7,v1,by omega,by omega⟩
          dsimp (config:={ failIfUnchanged:=false }) only;refine wpS_bind (zap (by omega) ?_);have m8:=n7.pushA' P.sa b8.1 b8.2 u2;refine q_if (fun e5=>?_) fun e5=>?_
          · have e5 : na1 - 1 = 0 := by simpa using e5
            exact wpS_pure (hQ _ _ ⟨S5,.inl ⟨_,_,_,_,_,_,_,rfl,m8.done0 P.sb e5⟩⟩)
          have e5:¬ na1 - 1=0:=by simpa using e5
          refine q_if (fun _=>?_) fun _=>?_
          · exact wpS_pure (hQ _ _ ⟨S5,.inr ⟨_,_,_,_,_,_,rfl,m8,by omega,by omega,by omega,by omega,by omega⟩⟩)
          · exact wpS_pure (hQ _ _ ⟨_,_,_,_,_,_,rfl,S5,m8,by omega,by omega,by omega,by omega,by omega⟩)
end
end Tim
end L2
namespace L2
open PySem PyProof.Rows
namespace Tim
noncomputable def wr (xs:Array Keyed) (s0:Nat) (l:List Keyed) (m:Nat):Array Keyed:=(l.zipIdx m).foldl (fun a (x:Keyed × Nat)=>match x with | (p,j)=>a.setIfInBounds (s0+j) p) xs
theorem zra (xs:Array Keyed) (s0:Nat) (p:Keyed) (l:List Keyed) (m:Nat):wr xs s0 (p::l) m=wr (xs.setIfInBounds (s0+m) p) s0 l (m+1):=by unfold wr;rw [List.zipIdx_cons,List.foldl_cons]
theorem zqb (s0:Nat):∀(l:List Keyed) (m:Nat) (xs:Array Keyed),(wr xs s0 l m).size=xs.size
 | [],m,xs=>rfl
 | p::l,m,xs=>by rw [zra,zqb s0 l,Array.size_setIfInBounds]
theorem z4s {xs:Array Keyed}{i k:Nat}{p:Keyed} (h:i < xs.size):G (xs.setIfInBounds i p) k=if i=k then p else G xs k:=by
 unfold G;rw [Array.getElem?_setIfInBounds];split
 ·rename_i e;subst e
  first | rfl | (rw [if_pos h];rfl)
 ·rfl
theorem G_wr (s0:Nat):∀(l:List Keyed) (m:Nat) (xs:Array Keyed),s0+m+l.length<=xs.size->∀i,G (wr xs s0 l m) i=if s0+m<=i/\i < s0+m+l.length then (l[i - (s0+m)]?).getD d0 else G xs i
  | [],m,xs,h,i=>by rw [if_neg (by simp)];rfl
  | p::l,m,xs,h,i=>by
    rw [List.length_cons] at h;rw [zra,G_wr s0 l (m+1) _ (by rw [Array.size_setIfInBounds];omega),z4s (by omega)];rw [List.length_cons];by_cases c:i=s0+m
    · subst c
      rw [if_neg (by omega),if_pos rfl,if_pos ⟨by omega,by omega⟩,Nat.sub_self]
      rfl
    · by_cases c2 : s0 + m ≤ i /\ i < s0 + m + (l.length + 1)
      · rw [if_pos ⟨by omega,by omega⟩,if_pos c2,show i - (s0+m)=i - (s0+(m+1))+1 by omega,List.getElem?_cons_succ]
      · rw [if_neg (by omega),if_neg (by omega),if_neg c2]
theorem zl1 {xs:Array Keyed}{i:Nat} (h:i < xs.size):G xs i=xs[i]:=by unfold G;rw [getElem?_pos xs i h];rfl
theorem zlr {xs:Array Keyed}{i j k:Nat} (hj:j<=xs.size) (hk:i+k < j):G (xs.extract i j) k=G xs (i+k):=by
 have h:k < (xs.extract i j).size:=by rw [Array.size_extract];omega
 rw [zl1 h,Array.getElem_extract,zl1 (by omega)]
theorem zc1 {xs:Array Keyed}{i j:Nat} (hj:j<=xs.size):(xs.extract i j).size=j - i:=by rw [Array.size_extract];omega
theorem z4o {xs:Array Keyed}{s0 m e:Nat}{r:List Keyed} (h1:s0<=m) (h2:m<=e) (h3:e<=xs.size) (p:r.Perm ((xs.extract s0 m).toList++(xs.extract m e).toList)):Re xs (wr xs s0 r 0) s0 e/\r.length=e - s0:=by
 have hl:r.length=e - s0:=by
  rw [p.length_eq,List.length_append,Array.length_toList,Array.length_toList,zc1 (by omega),zc1 h3];omega
 have hg:=G_wr s0 r 0 xs (by omega);refine ⟨⟨?_,fun i hi=>?_,fun i g1 g2=>?_⟩,hl⟩
 ·have e1:(wr xs s0 r 0).toList=xs.toList.take s0++r++xs.toList.drop e:=by
   apply List.ext_getElem?;intro i;have sz:(wr xs s0 r 0).size=xs.size:=zqb _ _ _ _;by_cases hi:i < xs.size
   ·have a1 : (wr xs s0 r 0).toList[i]? = some (G (wr xs s0 r 0) i) := G_list (by omega);rw [a1,hg i];by_cases c1:i < s0
    ·rw [if_neg (by omega),List.append_assoc,List.getElem?_append_left (by simp;omega),List.getElem?_take_of_lt c1,G_list hi]
    ·by_cases c2 : i < e
     ·rw [if_pos ⟨by omega, by omega⟩, List.append_assoc, List.getElem?_append_right (by simp; omega), List.getElem?_append_left (by simp; omega)];have:(List.take s0 xs.toList).length=s0:=by simp;omega
      rw [this,Nat.add_zero,List.getElem?_eq_getElem (by omega)]
      rfl
     ·rw [if_neg (by omega), List.getElem?_append_right (by simp; omega), List.getElem?_drop];have:(List.take s0 xs.toList++r).length=e:=by simp;omega
      rw [this,show e+(i - e)=i by omega,G_list hi]
   ·rw [List.getElem?_eq_none (by simp;omega),List.getElem?_eq_none (by simp;omega)]
  have e2:xs.toList=xs.toList.take s0++((xs.extract s0 m).toList++(xs.extract m e).toList)++xs.toList.drop e:=by
   rw [zb1,zb1];have t1:(xs.toList.drop s0).take (m - s0)++(xs.toList.drop m).take (e - m)=(xs.toList.drop s0).take (e - s0):=by
    rw [show e - s0=(m - s0)+(e - m) by omega,List.take_add,List.drop_drop,show s0+(m - s0)=m by omega]
   rw [t1,List.append_assoc];have t2:(xs.toList.drop s0).take (e - s0)++xs.toList.drop e=xs.toList.drop s0:=by
    have:=List.take_append_drop (e - s0) (xs.toList.drop s0);rw [List.drop_drop,show s0+(e - s0)=e by omega] at this;exact this
   rw [t2,List.take_append_drop]
  refine Array.perm_iff_toList_perm.mpr ?_;rw [e1];have q:=(p.append_left (xs.toList.take s0)).append_right (xs.toList.drop e);rw [<-e2] at q;exact q
 ·rw [hg i,if_neg (by omega)]
 ·rw [hg i, if_pos ⟨by omega, by omega⟩, List.getElem?_eq_getElem (by omega)];have hm:=p.mem_iff.mp (List.getElem_mem (l:=r) (n:=i - (s0+0)) (by omega));show ∃j,s0<=j/\j < e/\r[i - (s0+0)]=G xs j;rcases List.mem_append.mp hm with z | z
  ·obtain ⟨k, k1, k2, k3⟩ := mem_drop (n := 0) (by rw [List.drop_zero]; exact z);rw [zc1 (by omega)] at k2;exact ⟨s0+k,by omega,by omega,by rw [k3,zlr (by omega) (by omega)]⟩
  ·obtain ⟨k, k1, k2, k3⟩ := mem_drop (n := 0) (by rw [List.drop_zero]; exact z);rw [zc1 h3] at k2;exact ⟨m+k,by omega,by omega,by rw [k3,zlr h3 (by omega)]⟩
section
variable (bf le:Keyed->Keyed->Prop)
noncomputable def Chain (xs:Array Keyed):Nat->List (Nat × Nat × Nat)->Nat->Prop
 | c,[],hi=>c=hi
 | c,(s0,n,_)::r,hi=>s0=c/\1<=n/\Srt le xs c (c+n)/\Cut bf xs c/\Chain xs (c+n) r hi
end
section
variable {bf le:Keyed->Keyed->Prop}{xs ys:Array Keyed}
theorem Chain.len:∀{l:List (Nat × Nat × Nat)}{c hi:Nat},Chain bf le xs c l hi->c+l.length<=hi
  | [],c,hi,h=>by cases h;simp
  | (s0,n,_)::r,c,hi,h=>by
    have:=Chain.len h.2.2.2.2;have:=h.2.1;rw [List.length_cons];omega
theorem Chain.app:∀{l l' : List (Nat × Nat × Nat)}{c hi:Nat},Chain bf le xs c (l++l') hi↔∃m,Chain bf le xs c l m/\Chain bf le xs m l' hi
 | [],l',c,hi=>⟨fun h=>⟨c,rfl,h⟩,fun ⟨m,e,h⟩=>by cases e;exact h⟩
 | (s0,n,_)::r,l',c,hi=>⟨fun ⟨a1,a2,a3,a4,a5⟩=>by
   obtain ⟨m,b1,b2⟩:=Chain.app.mp a5;exact ⟨m,⟨a1,a2,a3,a4,b1⟩,b2⟩,fun ⟨m,⟨a1,a2,a3,a4,b1⟩,b2⟩=>⟨a1,a2,a3,a4,Chain.app.mpr ⟨m,b1,b2⟩⟩⟩
theorem Chain.re:∀{l:List (Nat × Nat × Nat)}{c hi lo' hi' : Nat},Chain bf le xs c l hi->Re xs ys lo' hi'->hi'<=xs.size->(hi<=lo'\/hi'<=c)->Chain bf le ys c l hi
  | [],c,hi,lo',hi',h,_,_,_=>h
  | (s0,n,q)::r,c,hi,lo',hi',⟨a1,a2,a3,a4,a5⟩,R,hz,hc=>by
    have:=Chain.len a5;exact ⟨a1,a2,a3.re R (by omega),a4.re R hz (by omega),Chain.re a5 R hz (by omega)⟩
end
section
variable {prog:Program}{w:World}{A:Around}{E:Value->Shared->Prop}{s:Shared}{κ:SortKind}{a₀:Array Keyed}{lt:Keyed->Keyed->Bool}{bf le:Keyed->Keyed->Prop}{st:SortSt}{pd:Array (Nat × Nat × Nat)}
theorem z32 {st' : SortSt}{Q:PUnit->SortSt->Prop} (h:Q ⟨⟩ st'):wpS (model prog w) A E s (set st' : StateT SortSt Sem PUnit) Q st:=by
 unfold wpS;rw [StateT.run_set];exact wpAny_pure ⟨rfl,h⟩
theorem z16 {st' : SortSt}{P:SortSt->Prop}{Q:PUnit->SortSt->Prop} (hp:P st') (h:∀st1,P st1->Q ⟨⟩ st1):wpS (model prog w) A E s (set st' : StateT SortSt Sem PUnit) Q st:=z32 (h _ hp)
theorem z1x {l:List (Nat × Nat × Nat)}{i:Nat} (h:i+1 < l.length):l=l.take i++l[i]::l[i+1]::l.drop (i+2):=by
 have e1:=List.drop_eq_getElem_cons (l:=l) (i:=i) (by omega);have e2:=List.drop_eq_getElem_cons (l:=l) (i:=i+1) (by omega);have:=List.take_append_drop i l;rw [e1,e2] at this;exact this.symm
theorem zjl (C:Asks prog w A E s κ a₀ lt) (O:Ord lt bf le) {i lo:Nat}{Q:Bool->SortSt->Prop} (I:SI κ a₀ pd st) (hi:i+1 < pd.size) (ch:Chain bf le (arrOf st) 0 pd.toList lo) (hlo:lo<=a₀.size)
  (h:∀st' pd',SI κ a₀ pd' st'->pd'.size+1=pd.size->Chain bf le (arrOf st') 0 pd'.toList lo->Re (arrOf st) (arrOf st') 0 lo->Q true st'):wpS (model prog w) A E s (mergeAt' i) Q st:=by
 have sz:=I.size;have hil:i+1 < pd.toList.length:=by simpa using hi
 have es:=z1x hil;obtain ⟨⟨sa,na,pw⟩,ea⟩ : ∃t,pd.toList[i]=t:=⟨_,rfl⟩;obtain ⟨⟨sb,nb,pw'⟩,eb⟩ : ∃t,pd.toList[i+1]=t:=⟨_,rfl⟩;rw [ea,eb] at es;have ch0:=ch;rw [es] at ch;obtain ⟨m,c1,⟨e1,a2,a3,a4,⟨e2,b2,b3,b4,c2⟩⟩⟩:=Chain.app.mp ch;subst e1;subst e2;have l2:=Chain.len c2;have l1:=Chain.len c1;have np:∃pd' : Array (Nat × Nat × Nat),pd'=(pd.setIfInBounds i (sa,na+nb,pw)).eraseIdxIfInBounds (i+1)/\pd'.size+1=pd.size/\pd'.toList=pd.toList.take i++(sa,na+nb,pw)::pd.toList.drop (i+2):=by
  refine (fun (q:((pd.setIfInBounds i (sa,na+nb,pw)).eraseIdxIfInBounds (i+1)).toList=_)=>⟨_,rfl,by
   have q2:=congrArg List.length q;rw [Array.length_toList,List.length_append,List.length_cons,List.length_take,List.length_drop,Array.length_toList] at q2;omega,q⟩) ?_
  ·rw [Array.toList_eraseIdxIfInBounds, Array.toList_setIfInBounds];have:(pd.toList.set i (sa,na+nb,pw))=pd.toList.take i++(sa,na+nb,pw)::(sa+na,nb,pw')::pd.toList.drop (i+2):=by
    rw [List.set_eq_take_append_cons_drop,if_pos (by omega),List.drop_eq_getElem_cons hil,eb]
   rw [this];have l3:(pd.toList.take i).length=i:=by rw [List.length_take];omega
   rw [List.eraseIdx_append_of_length_le (by omega),l3,show i+1 - i=1 by omega]
   rfl
 obtain ⟨pd',epd,zpd,lpd⟩:=np;have fin:∀st',kindOf st'=κ->failedOf st'=none->pendingOf st'=pd'->Re (arrOf st) (arrOf st') sa (sa+na+nb)->Srt le (arrOf st') sa (sa+na+nb)->Q true st':=fun st' k1 k2 k3 R S=>by
  refine h st' pd' ⟨k1,k2,R.perm.trans I.perm,k3⟩ zpd ?_ (R.mono (by omega) (by omega));rw [lpd];refine Chain.app.mpr ⟨sa,c1.re R (by omega) (.inl (Nat.le_refl _)),rfl,by omega,?_,a4.re R (by omega) (.inl (Nat.le_refl _)),?_⟩
  ·rw [<-Nat.add_assoc];exact S
  ·rw [<-Nat.add_assoc];exact c2.re R (by omega) (.inr (Nat.le_refl _))
 have leX:∀i j,sa<=i->i<=j->j < sa+na->le (G (arrOf st) i) (G (arrOf st) j):=fun i j h1 h2 h3=>by
  by_cases e:i=j
  ·rw [e];exact O.rf _
  ·exact a3 i j h1 (by omega) h3
 have leY:∀i j,sa+na<=i->i<=j->j < sa+na+nb->le (G (arrOf st) i) (G (arrOf st) j):=fun i j h1 h2 h3=>by
  by_cases e:i=j
  ·rw [e];exact O.rf _
  ·exact b3 i j h1 (by omega) h3
 have bfs:∀i j,i < sa+na->sa+na<=j->j < sa+na+nb->bf (G (arrOf st) i) (G (arrOf st) j):=fun i j h1 h2 h3=>b4 i j h1 h2 (by omega);have mem:∀i,i < a₀.size->G (arrOf st) i∈a₀.toList:=fun i hi=>zw3 I.perm (by omega);show wpS (model prog w) A E s (get >>= _) Q st;refine wpS_bind (wpS_get ?_);have g1:(pendingOf st)[i]?=some (sa,na,pw):=by
  rw [I.pend,<-Array.getElem?_toList,List.getElem?_eq_getElem (by omega),ea]
 have g2:(pendingOf st)[i+1]?=some (sa+na,nb,pw'):=by
  rw [I.pend,<-Array.getElem?_toList,List.getElem?_eq_getElem hil,eb]
 dsimp only;rw [g1,g2];refine wpS_bind (z16 (P:=SG κ a₀ pd' (arrOf st)) ⟨⟨I.kind,I.failed,I.perm,by have q:=I.pend;subst epd;subst q;rfl⟩,rfl⟩ fun st1 S1=>?_);refine wpS_bind (zap (show sa+na < (arrOf st).size by omega) (wpS_bind (zmu (left:=false) (key:=G (arrOf st) (sa+na)) (arr:=arrOf st) (base:=sa) (n:=na) (hint:=0) (B:=fun i=>!lt (G (arrOf st) (sa+na)) (G (arrOf st) (sa+i))) C S1.i.kind (mem _ (by omega)) (by omega) (fun i hi=>mem _ (by omega)) (fun i hi=>rfl) (fun i j h1 h2 h3=>?mono1) (by omega) fun k k1 k2 k3=>?_)))
 case mono1 =>
  have h3' : lt (G (arrOf st) (sa+na)) (G (arrOf st) (sa+j))=false:=by simpa using h3
  have z1:=(O.f1 (bfs (sa+j) (sa+na) (by omega) (by omega) (by omega))).mp h3';have z2:=(O.f1 (bfs (sa+i) (sa+na) (by omega) (by omega) (by omega))).mpr (O.tr (leX _ _ (by omega) (by omega) (by omega)) z1);show (!lt (G (arrOf st) (sa+na)) (G (arrOf st) (sa+i)))=true;rw [z2];rfl
 have w1:∀i,sa<=i->i < sa+k->le (G (arrOf st) i) (G (arrOf st) (sa+na)):=fun i g1 g2=>by
  have:=k2 (i - sa) (by omega);rw [show sa+(i - sa)=i by omega] at this;exact (O.f1 (bfs i (sa+na) (by omega) (by omega) (by omega))).mp (by simpa using this)
 have w2:∀i,sa+k<=i->i < sa+na->le (G (arrOf st) (sa+na)) (G (arrOf st) i):=fun i g1 g2=>by
  have:=k3 (i - sa) (by omega) (by omega);rw [show sa+(i - sa)=i by omega] at this;exact O.f2 (by simpa using this)
 refine q_if (fun q1=>?_) fun q1=>?_
 ·have q1 : na - k = 0 := by simpa using q1
  refine wpS_pure (fin _ S1.i.kind S1.i.failed S1.i.pend (by rw [S1.e];exact .refl _ _ _) ?_);rw [S1.e];intro i j h1 h2 h3;by_cases c1:j < sa+na
  ·exact a3 i j h1 h2 c1
  ·by_cases c2 : i < sa + na
   ·exact O.tr (w1 i h1 (by omega)) (leY _ _ (Nat.le_refl _) (by omega) h3)
   ·exact b3 i j (by omega) h2 h3
 have q1:¬ na - k=0:=by simpa using q1
 have e3:sa+k+(na - k) - 1=sa+na - 1:=by omega
 refine wpS_bind (zap (show sa+k+(na - k) - 1 < (arrOf st).size by omega) (wpS_bind (zmu (left:=true) (key:=G (arrOf st) (sa+k+(na - k) - 1)) (arr:=arrOf st) (base:=sa+na) (n:=nb) (hint:=nb - 1) (B:=fun i=>lt (G (arrOf st) (sa+na+i)) (G (arrOf st) (sa+k+(na - k) - 1))) C S1.i.kind (mem _ (by omega)) (by omega) (fun i hi=>mem _ (by omega)) (fun i hi=>rfl) (fun i j h1 h2 h3=>?mono2) (by omega) fun l l1 l2 l3=>?_)))
 case mono2 =>
  have n1:=O.f3 (bfs (sa+k+(na - k) - 1) (sa+na+j) (by omega) (by omega) (by omega)) h3;cases q:lt (G (arrOf st) (sa+na+i)) (G (arrOf st) (sa+k+(na - k) - 1)) with
  | true=>rfl
  | false=>exact absurd (O.tr ((O.f1 (bfs _ (sa+na+i) (by omega) (by omega) (by omega))).mp q) (leY _ _ (by omega) (by omega) (by omega))) n1
 rw [e3] at l2 l3;have v1:∀j,sa+na<=j->j < sa+na+l->le (G (arrOf st) j) (G (arrOf st) (sa+na - 1)):=fun j g1 g2=>by
  have:=l2 (j - (sa+na)) (by omega);rw [show sa+na+(j - (sa+na))=j by omega] at this;exact O.f2 this
 have v2:∀j,sa+na+l<=j->j < sa+na+nb->le (G (arrOf st) (sa+na - 1)) (G (arrOf st) j):=fun j g1 g2=>by
  have:=l3 (j - (sa+na)) (by omega) (by omega);rw [show sa+na+(j - (sa+na))=j by omega] at this;exact (O.f1 (bfs _ j (by omega) (by omega) g2)).mp this
 refine q_if (fun q2=>?_) fun q2=>?_
 ·have q2 : l = 0 := by simpa using q2
  refine wpS_pure (fin _ S1.i.kind S1.i.failed S1.i.pend (by rw [S1.e];exact .refl _ _ _) ?_);rw [S1.e];intro i j h1 h2 h3;by_cases c1:j < sa+na
  ·exact a3 i j h1 h2 c1
  ·by_cases c2 : i < sa + na
   ·exact O.tr (leX i (sa+na - 1) h1 (by omega) (by omega)) (v2 j (by omega) h3)
   ·exact b3 i j (by omega) h2 h3
 have q2:¬ l=0:=by simpa using q2
 have sx:((arrOf st).extract (sa+k) (sa+na)).size=na - k:=by rw [zc1 (by omega)];omega
 have sy:((arrOf st).extract (sa+na) (sa+na+l)).size=l:=by rw [zc1 (by omega)];omega
 have gx:∀i,i < na - k->G ((arrOf st).extract (sa+k) (sa+na)) i=G (arrOf st) (sa+k+i):=fun i hi=>zlr (by omega) (by omega);have gy:∀i,i < l->G ((arrOf st).extract (sa+na) (sa+na+l)) i=G (arrOf st) (sa+na+i):=fun i hi=>zlr (by omega) (by omega);have P:MP lt bf le a₀ ((arrOf st).extract (sa+k) (sa+na)) ((arrOf st).extract (sa+na) (sa+na+l)):=by
  refine ⟨?_,?_,?_,?_,?_,?_,?_,?_,?_⟩
  ·intro i j h1 h2 h3;rw [sx] at h3;rw [gx i (by omega),gx j h3];exact a3 _ _ (by omega) (by omega) (by omega)
  ·intro i j h1 h2 h3;rw [sy] at h3;rw [gy i (by omega),gy j h3];exact b3 _ _ (by omega) (by omega) (by omega)
  ·intro i hi;rw [sx] at hi;rw [gx i hi];exact mem _ (by omega)
  ·intro i hi;rw [sy] at hi;rw [gy i hi];exact mem _ (by omega)
  ·intro i j hi hj;rw [sx] at hi;rw [sy] at hj;rw [gx i hi,gy j hj];exact bfs _ _ (by omega) (by omega) (by omega)
  ·rw [sx];omega
  ·rw [sy];omega
  ·intro i hi;rw [sx] at hi;rw [gx i hi,gy 0 (by omega)];exact w2 _ (by omega) (by omega)
  ·intro j hj;rw [sy] at hj;rw [gy j hj,sx,gx _ (by omega),show sa+k+(na - k - 1)=sa+na - 1 by omega];exact v1 _ (by omega) (by omega)
 have close:∀(r:Array Keyed) (st2:SortSt),SG κ a₀ pd' (arrOf st) st2->Fin le ((arrOf st).extract (sa+k) (sa+na)) ((arrOf st).extract (sa+na) (sa+na+l)) r.toList ->
   Q true (setArr st2 (wr (arrOf st2) (sa+k) r.toList 0)):=fun r st2 S2 F=>by
  obtain ⟨R,hl⟩:=z4o (xs:=arrOf st) (s0:=sa+k) (m:=sa+na) (e:=sa+na+l) (by omega) (by omega) (by omega) F.p;have hg:=G_wr (sa+k) r.toList 0 (arrOf st) (by omega);refine fin _ S2.i.kind S2.i.failed S2.i.pend ?_ ?_
  ·show Re (arrOf st) (wr (arrOf st2) (sa + k) r.toList 0) sa (sa + na + nb);rw [S2.e];exact R.mono (by omega) (by omega)
  ·show Srt le (wr (arrOf st2) (sa + k) r.toList 0) sa (sa + na + nb);rw [S2.e];have inm:∀i,sa+k<=i->i < sa+na+l->(∃j,sa+k<=j/\j < sa+na+l/\G (wr (arrOf st) (sa+k) r.toList 0) i=G (arrOf st) j):=fun i h1 h2=>R.inn i h1 h2;intro i j h1 h2 h3;by_cases ci:i < sa+k
   ·rw [R.out i (.inl ci)];by_cases cj:j < sa+k
    ·rw [R.out j (.inl cj)];exact a3 i j h1 h2 (by omega)
    ·have below:∀z,sa+k<=z->z < sa+na+nb->le (G (arrOf st) i) (G (arrOf st) z):=fun z z1 z2=>by
      by_cases c:z < sa+na
      ·exact leX i z h1 (by omega) c
      ·exact O.tr (w1 i h1 ci) (leY _ _ (Nat.le_refl _) (by omega) z2)
     by_cases cj2:j < sa+na+l
     ·obtain ⟨z, z1, z2, z3⟩ := inm j (by omega) cj2;rw [z3];exact below z z1 (by omega)
     ·rw [R.out j (.inr (by omega))];exact below j (by omega) h3
   ·by_cases ci2 : i < sa + na + l
    ·by_cases cj2 : j < sa + na + l
     ·rw [hg i, hg j, if_pos ⟨by omega, by omega⟩, if_pos ⟨by omega, by omega⟩, List.getElem?_eq_getElem (by omega), List.getElem?_eq_getElem (by omega)];exact (List.pairwise_iff_getElem.mp F.s) _ _ _ _ (by omega)
     ·rw [R.out j (.inr (by omega))];obtain ⟨z,z1,z2,z3⟩:=inm i (by omega) ci2;rw [z3];by_cases c:z < sa+na
      ·exact O.tr (leX z (sa+na - 1) (by omega) (by omega) (by omega)) (v2 j (by omega) h3)
      ·exact leY z j (by omega) (by omega) h3
    ·rw [R.out i (.inr (by omega)), R.out j (.inr (by omega))];exact b3 i j (by omega) h2 h3
 have en:∀(r:Array Keyed) (st2:SortSt),SG κ a₀ pd' (arrOf st) st2->Fin le ((arrOf st).extract (sa+k) (sa+na)) ((arrOf st).extract (sa+na) (sa+na+l)) r.toList ->
   Q ((failedOf (setArr st2 (wr (arrOf st2) (sa+k) r.toList 0))).isNone) (setArr st2 (wr (arrOf st2) (sa+k) r.toList 0)):=fun r st2 S2 F=>by
  have e:failedOf (setArr st2 (wr (arrOf st2) (sa+k) r.toList 0))=none:=S2.i.failed;rw [e];exact close r st2 S2 F
 refine q_if (fun _=>?_) fun _=>?_
 ·exact wpS_bind (z3o C O S1 P fun r st2 S2 F=>wpS_bind (wpS_modify (wpS_bind (wpS_get (wpS_pure (en r st2 S2 F))))))
 ·exact wpS_bind (z4t C O S1 P fun r st2 S2 F=>wpS_bind (wpS_modify (wpS_bind (wpS_get (wpS_pure (en r st2 S2 F))))))
end
end Tim
end L2
namespace L2
open PySem PyProof.Rows
namespace Tim
section
variable {prog:Program}{w:World}{A:Around}{E:Value->Shared->Prop}{s:Shared}{κ:SortKind}{a₀:Array Keyed}{lt:Keyed->Keyed->Bool}{bf le:Keyed->Keyed->Prop}{st:SortSt}{pd:Array (Nat × Nat × Nat)}
structure SP (κ:SortKind) (bf le:Keyed->Keyed->Prop) (a₀:Array Keyed) (lo:Nat) (st:SortSt):Prop where
 kind:kindOf st=κ
 failed:failedOf st=none
 perm:(arrOf st).Perm a₀
 ch:Chain bf le (arrOf st) 0 (pendingOf st).toList lo
 cut:∀c,lo<=c->Cut bf (arrOf st) c
theorem SP.si {lo:Nat} (h:SP κ bf le a₀ lo st):SI κ a₀ (pendingOf st) st:=⟨h.kind,h.failed,h.perm,rfl⟩
theorem zi3:∀{l:List (Nat × Nat × Nat)}{i c hi pw:Nat}{xs:Array Keyed},Chain bf le xs c l hi->Chain bf le xs c (l.modify i fun x=>match x with | (a,b,_)=>(a,b,pw)) hi
 | [],i,c,hi,pw,xs,h=>by cases i<;>exact h
 | (s0,n,q)::r,0,c,hi,pw,xs,h=>h
 | (s0,n,q)::r,i+1,c,hi,pw,xs,⟨a1,a2,a3,a4,a5⟩=>⟨a1,a2,a3,a4,zi3 a5⟩
theorem zpn {f:SortSt->SortSt}{P:SortSt->Prop}{Q:PUnit->SortSt->Prop} (hp:P (f st)) (h:∀st1,P st1->Q ⟨⟩ st1):wpS (model prog w) A E s (modify f:StateT SortSt Sem PUnit) Q st:=wpS_modify (h _ hp)
theorem q_sort (C:Asks prog w A E s κ a₀ lt) (O:Ord lt bf le) {Q:Unit->SortSt->Prop} (I:SI κ a₀ #[] st) (ea:arrOf st=a₀) (hb:∀c,Cut bf a₀ c)
    (h:∀st',failedOf st'=none->(arrOf st').Perm a₀->Srt le (arrOf st') 0 a₀.size->Q () st'):wpS (model prog w) A E s sortRuns' Q st:=by
  rw [sortRuns'_eq];refine wpS_bind (wpS_get ?_);have sz:=I.size;rw [sz];dsimp only;have P0:SP κ bf le a₀ 0 st:=⟨I.kind,I.failed,I.perm,by rw [I.pend];rfl,fun c _=>by rw [ea];exact hb c⟩;refine wpS_bind (wpS_mono (wpS_forRange (I:=fun x c s2=>∃lo,c=(none,lo)/\x<=lo/\lo<=a₀.size/\SP κ bf le a₀ lo s2)
    (Q:=fun c s2=>c=(none,a₀.size)/\SP κ bf le a₀ a₀.size s2) ?os ?of ⟨0,rfl,by omega,by omega,P0⟩) ?op)
  case of =>
    rintro c s2 ⟨lo,rfl,h1,h2,P⟩;have e:lo=a₀.size:=by omega
    subst e;exact ⟨rfl,P⟩
  case os =>
    rintro x c s2 _ hx ⟨lo,rfl,h1,h2,P⟩;refine q_if (fun g=>?_) fun g=>?_
    · have e : lo = a₀.size := by omega
      subst e;exact wpS_pure ⟨rfl,P⟩
    have g:lo < a₀.size:=by omega
    refine wpS_bind (zwg C O P.si (show lo+(a₀.size - lo)<=a₀.size by omega) (by omega) P.cut fun n s3 I3 n1 n2 R3 S3=>?_);have z3:=I3.size;have z2:=P.si.size;have c3:∀c,lo+n<=c->Cut bf (arrOf s3) c:=fun c hc=>(P.cut c (by omega)).re R3 (by omega) (.inr hc);dsimp only;refine q_if (fun g2=>?_) fun g2=>?_;refine wpS_bind (wpS_lift (wpAny_rule ⟨rfl,?_⟩));refine wpS_bind (z4j C O I3 (show lo+min (a₀.size - lo) (minRun' a₀.size a₀.size 0)<=a₀.size by omega) (by omega) n1 S3 c3 fun s4 I4 R4 S4=>?_);refine q_if (fun z=>by simp at z) fun _=>?_;have hm:1<=min (a₀.size - lo) (minRun' a₀.size a₀.size 0):=by omega
    have hM:lo+min (a₀.size - lo) (minRun' a₀.size a₀.size 0)<=a₀.size:=by omega
    have R5:Re (arrOf s2) (arrOf s4) lo (lo+min (a₀.size - lo) (minRun' a₀.size a₀.size 0)):=(R3.mono (Nat.le_refl _) (by omega)).trans R4;generalize min (a₀.size - lo) (minRun' a₀.size a₀.size 0)=m at I4 R4 S4 hm hM R5 ⊢;clear I3 R3 S3 z3 c3 R4 g2
    rotate_left
    have hm:=n1;have hM:lo+n<=a₀.size:=by omega
    have R5:=R3;have I4:=I3;have S4:=S3;clear I3 R3 S3 z3 c3 g2;generalize n=m at I4 S4 hm hM R5 ⊢;generalize s3=s4 at I4 S4 R5 ⊢
    rotate_left
    all_goals
      have z4:=I4.size;have c4:∀c,lo+m<=c->Cut bf (arrOf s4) c:=fun c hc=>(P.cut c (by omega)).re R5 (by omega) (.inr hc);have k4:Cut bf (arrOf s4) lo:=(P.cut lo (Nat.le_refl _)).re R5 (by omega) (.inl (Nat.le_refl _));have ch4:Chain bf le (arrOf s4) 0 (pendingOf s4).toList lo:=by
        rw [I4.pend];exact P.ch.re R5 (by omega) (.inl (Nat.le_refl _))
      have K4:kindOf s4=κ/\failedOf s4=none/\(arrOf s4).Perm a₀:=⟨I4.kind,I4.failed,I4.perm⟩;clear I4 R5;refine wpS_bind (wpS_get ?_);have push:∀s5,kindOf s5=κ->failedOf s5=none->(arrOf s5).Perm a₀->Chain bf le (arrOf s5) 0 (pendingOf s5).toList lo->Srt le (arrOf s5) lo (lo+m)->Cut bf (arrOf s5) lo->(∀c,lo+m<=c->Cut bf (arrOf s5) c) ->
          SP κ bf le a₀ (lo+m) (setPending s5 ((pendingOf s5).push (lo,m,0))):=fun s5 a1 a2 a3 a4 a5 a6 a7=>by
        refine ⟨a1,a2,a3,?_,a7⟩;show Chain bf le (arrOf s5) 0 ((pendingOf s5).push (lo,m,0)).toList (lo+m);rw [Array.toList_push];exact Chain.app.mpr ⟨lo,a4,rfl,hm,a5,a6,rfl⟩
      cases q:(pendingOf s4).back? with
      | none =>
        exact wpS_bind (zpn (P:=SP κ bf le a₀ (lo+m)) (push s4 K4.1 K4.2.1 K4.2.2 ch4 S4 k4 c4) fun s6 P6=>wpS_pure ⟨lo+m,rfl,by omega,hM,P6⟩)
      | some t =>
        obtain ⟨s1,n1',p1⟩:=t;dsimp only;refine wpS_bind (wpS_mono (wpS_forRange (I:=fun y c s5=>c=(none,())/\(kindOf s5=κ/\failedOf s5=none/\(arrOf s5).Perm a₀)/\Chain bf le (arrOf s5) 0 (pendingOf s5).toList lo/\Srt le (arrOf s5) lo (lo+m)/\Cut bf (arrOf s5) lo/\∀c,lo+m<=c->Cut bf (arrOf s5) c)
          (Q:=fun c s5=>c=(none,())/\(kindOf s5=κ/\failedOf s5=none/\(arrOf s5).Perm a₀)/\Chain bf le (arrOf s5) 0 (pendingOf s5).toList lo/\Srt le (arrOf s5) lo (lo+m)/\Cut bf (arrOf s5) lo/\∀c,lo+m<=c->Cut bf (arrOf s5) c) ?ms ?mf ⟨rfl,K4,ch4,S4,k4,c4⟩) ?mp)
        case mf =>
          intro c s5 z;exact z
        case mp =>
          rintro c s5 ⟨rfl,K5,ch5,S5,k5,c5⟩;dsimp only;refine wpS_bind (zpn (P:=fun s6=>(kindOf s6=κ/\failedOf s6=none/\(arrOf s6).Perm a₀)/\Chain bf le (arrOf s6) 0 (pendingOf s6).toList lo/\Srt le (arrOf s6) lo (lo+m)/\Cut bf (arrOf s6) lo/\∀c,lo+m<=c->Cut bf (arrOf s6) c) ⟨K5,?_,S5,k5,c5⟩ fun s6 z6=>?_)
          · show Chain bf le (arrOf s5) 0 ((pendingOf s5).modify _ _).toList lo
            rw [Array.toList_modify];exact zi3 ch5
          · refine aG fun Gg qG => ?_
            obtain ⟨K6,ch6,S6,k6,c6⟩:=z6;refine qG ?_;clear qG;exact wpS_bind (zpn (P:=SP κ bf le a₀ (lo+m)) (push s6 K6.1 K6.2.1 K6.2.2 ch6 S6 k6 c6) fun s7 P7=>wpS_pure ⟨lo+m,rfl,by omega,hM,P7⟩)
        case ms =>
          rintro y c s5 _ hy ⟨rfl,K5,ch5,S5,k5,c5⟩;refine wpS_bind (wpS_get ?_)
          try dsimp only
          by_cases g4:(pendingOf s5).size > 1
          · rw [if_pos g4]
            obtain ⟨⟨t1,t2,t3⟩,et⟩ : ∃t,(pendingOf s5)[(pendingOf s5).size - 2]?=some t:=⟨_,getElem?_pos _ _ (by omega)⟩;rw [et];dsimp only;refine q_if (fun _=>wpS_pure ⟨rfl,K5,ch5,S5,k5,c5⟩) fun _=>?_;refine wpS_bind (zjl C O (i:=(pendingOf s5).size - 2) (lo:=lo) ⟨K5.1,K5.2.1,K5.2.2,rfl⟩ (by omega) ch5 h2 fun s6 pd6 I6 z6 ch6 R6=>?_);have zz:=K5.2.2.size_eq;refine q_if (fun z=>by simp at z) fun _=>?_;refine wpS_pure ⟨rfl,⟨I6.kind,I6.failed,I6.perm⟩,by rw [I6.pend];exact ch6,S5.re R6 (.inr (Nat.le_refl _)),k5.re R6 (by omega) (.inr (Nat.le_refl _)),fun c hc=>(c5 c hc).re R6 (by omega) (.inr (by omega))⟩
          · rw [if_neg g4]
            exact wpS_pure ⟨rfl,K5,ch5,S5,k5,c5⟩
  case op =>
    rintro c s2 ⟨rfl,P⟩;have l0:=Chain.len P.ch;rw [Array.length_toList] at l0;have one:∀s3,SP κ bf le a₀ a₀.size s3->(pendingOf s3).size<=1->Srt le (arrOf s3) 0 a₀.size:=fun s3 P3 h1=>by
      have hc:=P3.ch;have e1:(pendingOf s3).toList.length<=1:=by simpa using h1
      revert hc e1
      generalize (pendingOf s3).toList=l;intro hc e1
      match l,hc,e1 with
      | [],hc,_ =>
        have:0=a₀.size:=hc;intro i j g1 g2 g3;omega
      | [(s0,n,q)],⟨b1,b2,b3,b4,b5⟩,_ =>
        have:0+n=a₀.size:=b5;rw [<-this];exact b3
      | _::_::_,_,e1=>simp at e1
    refine wpS_bind (wpS_mono (wpS_forRange (I:=fun y c s3=>c=(none,())/\SP κ bf le a₀ a₀.size s3/\((pendingOf s3).size<=1\/(pendingOf s3).size+y<=a₀.size)) (Q:=fun c s3=>c=(none,())/\SP κ bf le a₀ a₀.size s3/\(pendingOf s3).size<=1) ?fs ?ff ⟨rfl,P,.inr (by omega)⟩) ?fp)
    case ff =>
      rintro c s3 ⟨hc,P3,z⟩;exact ⟨hc,P3,by omega⟩
    case fp =>
      rintro c s3 ⟨rfl,P3,z⟩;exact wpS_pure (h s3 P3.failed P3.perm (one s3 P3 z))
    case fs =>
      rintro y c s3 _ hy ⟨rfl,P3,z⟩;refine wpS_bind (wpS_get ?_);refine q_if (fun g=>wpS_pure ⟨rfl,P3,g⟩) fun g=>?_;have zz:=P3.perm.size_eq;have go:∀i,i+1 < (pendingOf s3).size->wpS (model prog w) A E s (mergeAt' i) (fun b s4=>b=true/\SP κ bf le a₀ a₀.size s4/\((pendingOf s4).size<=1\/(pendingOf s4).size+(y+1)<=a₀.size)) s3:=fun i hi =>
        zjl C O (lo:=a₀.size) P3.si hi P3.ch (Nat.le_refl _) fun s4 pd4 I4 z4 ch4 R4=>⟨rfl,⟨I4.kind,I4.failed,I4.perm,by rw [I4.pend];exact ch4,fun c hc=>(P3.cut c hc).re R4 (by omega) (.inr hc)⟩,by rw [I4.pend];omega⟩
      refine wpS_bind (wpS_mono (go _ (by
        have g' : ¬ (pendingOf s3).size<=1:=g;generalize (if (pendingOf s3).size - 2 > 0 then Option.map (fun x=>x.snd.fst) (pendingOf s3)[(pendingOf s3).size - 2 - 1]? else none)=bf9
        try dsimp only
        split<;>omega)) fun b s4 z4=>?_)
      obtain ⟨rfl,P4,z5⟩:=z4;refine q_if (fun z=>by simp at z) fun _=>?_;exact wpS_pure ⟨rfl,P4,z5⟩
end
end Tim
end L2
namespace L2
open PySem PySem.Spec PyProof.Rows
open PySem.AutoSeq1 (wpAny_loadPart')
open PySem.SeqAt
noncomputable def lexI:List Int->List Int->Bool
 | [],[]=>false
 | [],_::_=>true
 | _::_,[]=>false
 | a::as,b::bs=>if a=b then lexI as bs else decide (a < b)
theorem zdu:∀xs,lexI xs xs=false
 | []=>rfl
 | a::as=>by unfold lexI;rw [if_pos rfl];exact zdu as
theorem zd6:∀{xs ys zs:List Int},lexI xs ys=true->lexI ys zs=true->lexI xs zs=true
  | [],[],_,h,_=>by cases h
  | [],_::_,[],_,h=>by cases h
  | [],_::_,_::_,_,_=>rfl
  | _::_,[],_,h,_=>by cases h
  | _::_,_::_,[],_,h=>by cases h
  | a::as,b::bs,c::cs,h1,h2=>by
    unfold lexI at h1 h2 ⊢;by_cases e1:a=b
    · subst e1
      rw [if_pos rfl] at h1;by_cases e2:a=c
      · rw [if_pos e2] at h2 ⊢;exact zd6 h1 h2
      · rw [if_neg e2] at h2 ⊢;exact h2
    · rw [if_neg e1] at h1
      have l1:=of_decide_eq_true h1;by_cases e2:b=c
      · subst e2;rw [if_neg e1];exact h1
      · rw [if_neg e2] at h2
        have l2:=of_decide_eq_true h2;rw [if_neg (by omega)];exact decide_eq_true (by omega)
theorem zgv:∀{xs ys:List Int},lexI xs ys=false->lexI ys xs=false->xs=ys
  | [],[],_,_=>rfl
  | [],_::_,h,_=>by cases h
  | _::_,[],_,h=>by cases h
  | a::as,b::bs,h1,h2=>by
    unfold lexI at h1 h2;by_cases e:a=b
    · subst e
      rw [if_pos rfl] at h1 h2;rw [zgv h1 h2]
    · rw [if_neg e] at h1
      rw [if_neg (fun z=>e z.symm)] at h2;have:=of_decide_eq_false h1;have:=of_decide_eq_false h2;omega
theorem zkh {xs ys zs:List Int} (h:lexI xs zs=true):lexI xs ys=true\/lexI ys zs=true:=by
  cases q:lexI xs ys with
  | true=>exact .inl rfl
  | false =>
    cases q2:lexI ys xs with
    | true=>exact .inr (zd6 q2 h)
    | false=>rw [zgv q q2] at h;exact .inr h
theorem zyy (kf:Value->List Int):Tim.Ord (fun x y:Keyed=>lexI (kf x.1) (kf y.1)) (fun _ _=>True) (fun x y=>lexI (kf y.1) (kf x.1)=false) where
  tr:=fun {x y z} h1 h2=>by
    cases q:lexI (kf z.1) (kf x.1) with
    | false=>rfl
    | true =>
      rcases zkh (ys:=kf y.1) q with a | a
      · rw [h2] at a;cases a
      · rw [h1] at a;cases a
  tot:=fun x y=>by
    cases q:lexI (kf y.1) (kf x.1) with
    | false=>exact .inl rfl
    | true =>
      right
      cases q2:lexI (kf x.1) (kf y.1) with
      | false=>rfl
      | true =>
        have:=zd6 q q2;rw [zdu] at this;cases this
  f1:=fun _=>Iff.rfl
  f2:=fun {x y} h=>by
    cases q2:lexI (kf y.1) (kf x.1) with
    | false=>rfl
    | true =>
      have:=zd6 h q2;rw [zdu] at this;cases this
  irr:=fun x=>zdu _
  ltr:=fun h1 h2=>zd6 h1 h2
  nt:=fun y h=>zkh h
section
variable {prog:Program}{w:World}{A:Around}{E:Value->Shared->Prop}{s:Shared}{a₀:Array Keyed}
theorem zyb {κ:SortKind}{lt:Keyed->Keyed->Bool} (h:∀(x y:Keyed) (E:Value->Shared->Prop) (Q:Bool->Shared->Prop),x∈a₀.toList->y∈a₀.toList->Q (lt x y) s->wpAny (model prog w) A (keyLt' κ x.1 y.1) Q E s):Tim.Asks prog w A E s κ a₀ lt:=fun x y st Q hx hy hk hq=>by
 rw [lt'_eq];refine wpS_bind (wpS_get ?_);rw [hk];refine wpS_bind (wpS_lift (wpAny_attempt (h x y _ _ hx hy ⟨rfl,?_⟩)));exact wpS_pure hq
theorem zt8 {kf:Value->List Int} (h:∀x∈a₀.toList,∃n t,x.1=.int n t/\kf x.1=[n]):Tim.Asks prog w A E s oneType' a₀ (fun x y=>lexI (kf x.1) (kf y.1)):=zyb fun x y E Q hx hy hq=>by
 refine aG fun _ qG=>?_;obtain ⟨n,t,e1,e2⟩:=h x hx;obtain ⟨m,u,e3,e4⟩:=h y hy;refine qG ?_;clear qG;rw [keyLt'_oneType,e1,e3];refine oneLt_int ?_;have e:lexI (kf x.1) (kf y.1)=decide (n < m):=by
  rw [e2,e4];unfold lexI;by_cases q:n=m
  ·rw [if_pos q];subst q;simp [lexI]
  ·rw [if_neg q]
 rw [<-e];exact hq
end
end L2
namespace L2
open PySem PySem.Spec PyProof.Rows
section
variable {prog:Program}{w:World}{A:Around}{E:Value->Shared->Prop}{s:Shared}{a kS:Addr}{e e1:Nat}{keys:Array Value}{vs:List Value}{P:PySem.Fin->Shared->Prop}
end
end L2
namespace L2
open PySem PySem.Spec PyProof.Rows
noncomputable abbrev KP:=List Int × W
noncomputable def insK (x:KP):List KP->List KP
 | []=>[x]
 | y::ys=>if lexI x.1 y.1 then x::y::ys else y::insK x ys
noncomputable def znf:List KP->List KP
 | []=>[]
 | x::xs=>insK x (znf xs)
theorem zez (x:KP):∀l,(insK x l).Perm (x::l)
  | []=>.refl _
  | y::ys=>by
    unfold insK;split
    · exact .refl _
    · exact ((zez x ys).cons y).trans (.swap x y ys)
theorem zf2:∀l:List KP,(znf l).Perm l
 | []=>.refl _
 | x::xs=>(zez x _).trans ((zf2 xs).cons x)
noncomputable abbrev leK (x y:KP):Prop:=lexI y.1 x.1=false
theorem zzu {x y z:KP} (h1:leK x y) (h2:leK y z):leK x z:=by
  unfold leK at *
  cases q:lexI z.1 x.1 with
  | false=>rfl
  | true =>
    rcases zkh (ys:=y.1) q with a | a
    · rw [h2] at a;cases a
    · rw [h1] at a;cases a
theorem zje {x y:KP} (h:lexI x.1 y.1=true):leK x y:=by
  unfold leK;cases q:lexI y.1 x.1 with
  | false=>rfl
  | true =>
    have:=zd6 h q;rw [zdu] at this;cases this
theorem zes {x:KP}:∀{l:List KP},l.Pairwise leK->(insK x l).Pairwise leK
  | [],_=>List.pairwise_singleton _ _
  | y::ys,h=>by
    have hy:=List.pairwise_cons.mp h;unfold insK;split
    · rename_i q
      refine List.pairwise_cons.mpr ⟨fun z hz=>?_,h⟩;rcases List.mem_cons.mp hz with rfl | hz
      · exact zje q
      · exact zzu (zje q) (hy.1 z hz)
    · rename_i q
      refine List.pairwise_cons.mpr ⟨fun z hz=>?_,zes hy.2⟩;rcases List.mem_cons.mp ((zez x ys).mem_iff.mp hz) with rfl | hz
      · unfold leK;simpa using q
      · exact hy.1 z hz
theorem zei:∀l:List KP,(znf l).Pairwise leK
 | []=>.nil
 | x::xs=>zes (zei xs)
theorem zf1:∀{l l' : List KP},l.Perm l'->l.Pairwise leK->l'.Pairwise leK->(∀x∈l,∀y∈l,x.1=y.1->x=y)->l=l'
  | [],l',p,_,_,_=>p.nil_eq
  | x::xs,[],p,_,_,_=>by simpa using p.length_eq
  | x::xs,y::ys,p,h1,h2,hu=>by
    have a1:=List.pairwise_cons.mp h1;have a2:=List.pairwise_cons.mp h2;have hy:y∈x::xs:=p.mem_iff.mpr List.mem_cons_self;have hx:x∈y::ys:=p.mem_iff.mp List.mem_cons_self;have exy:x=y:=by
      rcases List.mem_cons.mp hy with e | hy'
      · exact e.symm
      · rcases List.mem_cons.mp hx with e | hx'
        · exact e
        · exact hu x List.mem_cons_self y hy (zgv (show lexI x.1 y.1=false from a2.1 x hx') (show lexI y.1 x.1=false from a1.1 y hy'))
    subst exy;have p':=(List.perm_cons x).mp p;rw [zf1 p' a1.2 a2.2 fun u hu' v hv=>hu u (List.mem_cons_of_mem _ hu') v (List.mem_cons_of_mem _ hv)]
end L2
namespace L2
open PySem PySem.Spec PyProof.Rows
section
variable {X:Cx}{pins:List (Addr × Obj)}{σ:St}{H:Hp}{s:Shared}
end
end L2
namespace L2
open PySem PySem.Spec PyProof.Rows
theorem zo4 {is:List Int}{its:List Value} (h:Vals (is.map V.int) its):IntsAre its is:=by
  induction is generalizing its with
  | nil=>cases h;exact .nil
  | cons i is ih =>
    cases h with
    | cons h1 t =>
      obtain ⟨t1,rfl⟩:=h1;exact .cons i t1 (ih t)
section
variable {X:Cx}{pins:List (Addr × Obj)}{σ:St}{H F:Hp}{s:Shared}
end
end L2
namespace L2
open PySem PySem.Spec PyProof.Rows
section
variable {X:Cx}{pins:List (Addr × Obj)}{σ:St}{H F:Hp}{s:Shared}{pr:Prt}{en:En}
end
end L2
namespace L2
open PySem PySem.Spec PyProof.Rows
section
variable {prog:Program}{w:World}{A:Around}{E:Value->Shared->Prop}{s:Shared}{a:Addr}{vs:List Value}{P:PySem.Fin->Shared->Prop}
noncomputable def kN:Value->List Int
 | .int n _=>[n]
 | _=>[]
theorem zpu {ns:List Int}{n:Nat} (ho:s.heap.get? a=some (seqObj "list" vs.toArray n)) (ia:IntsAre vs ns) (hz:vs.length<=sizeLine)
  (h:∀(r:List Keyed) h' c,r.Perm (vs.zip vs)->r.Pairwise (fun x y=>lexI (kN y.1) (kN x.1)=false)->h'.get? a=some (seqObj "list" (r.map (·.2)).toArray c)->(∀b o,b≠a->s.heap.get? b=some o->h'.get? b=some o)->P (.done (.ret .none)) { s with heap:=h' }) :
  wpAny (model prog w) A (Builtin.«list.sort» ⟨[.ref a],[]⟩) P E s:=by
 have lt:a < s.heap.objs.size:=Heap.lt_size ho;have s1:=Heap.SameBut.update s.heap a (Obj.mapSeq fun _=>(#[]:Array Value));rw [list_sort_plain];refine wpAny_bind (listItems_at ho rfl ?_);refine wpAny_bind (listUpdate_at ho rfl ?_ (by rw [List.size_toArray];exact hz) (Nat.zero_le _));obtain ⟨e1,g1⟩ : ∃e1,(s.heap.update a (Obj.mapSeq fun _=>(#[]:Array Value))).get? a=some (seqObj "list" #[] e1):=⟨_,get?_update_seq ho fun _=>#[]⟩;refine wpAny_bind (seqEpoch_at g1 rfl ?_);refine wpAny_bind (wpAny_newTuple ?_ hz);refine wpAny_bind (wpAny_newList ?_ (Nat.zero_le _));refine wpAny_holding ?_;have g6:(((s.heap.update a (Obj.mapSeq fun _=>(#[]:Array Value))).push (seqObj "tuple" vs.toArray 0)).push (seqObj "list" #[] 0)).get? a=some (seqObj "list" #[] e1):=Heap.get?_push_of_some _ (Heap.get?_push_of_some _ g1);have k6:∀b o,b≠a->s.heap.get? b=some o->(((s.heap.update a (Obj.mapSeq fun _=>(#[]:Array Value))).push (seqObj "tuple" vs.toArray 0)).push (seqObj "list" #[] 0)).get? b=some o:=fun b o nb eb=>Heap.get?_push_of_some _ (Heap.get?_push_of_some _ ((s1.2 b nb).trans eb));show wpAny _ _ _ _ _ { s with heap:=((s.heap.update a (Obj.mapSeq fun _=>(#[]:Array Value))).push (seqObj "tuple" vs.toArray 0)).push (seqObj "list" #[] 0) };generalize ((s.heap.update a (Obj.mapSeq fun _=>(#[]:Array Value))).push (seqObj "tuple" vs.toArray 0)).push (seqObj "list" #[] 0)=h6 at g6 k6 ⊢;have zs:(vs.toArray.zip vs.toArray).size=vs.length:=by rw [Array.size_zip,List.size_toArray,Nat.min_self]
 have fin:∀st:SortSt,(arrOf st).Perm (vs.toArray.zip vs.toArray)->Tim.Srt (fun x y=>lexI (kN y.1) (kN x.1)=false) (arrOf st) 0 (vs.toArray.zip vs.toArray).size->P (.done (.ret .none)) { s with heap:=h6.update a (Obj.mapSeq fun _=>(arrOf st).map (·.2)) }:=fun st hp hs=>by
  have s2:=Heap.SameBut.update h6 a (Obj.mapSeq fun _=>(arrOf st).map (·.2));refine h (arrOf st).toList _ _ ?_ (Tim.srt_list (by rw [hp.size_eq];exact hs)) (by rw [<-Array.toList_map,Array.toArray_toList];exact get?_update_seq g6 fun _=>(arrOf st).map (·.2)) fun b o nb eb=>(s2.2 b nb).trans (k6 b o nb eb);have:=Array.perm_iff_toList_perm.mp hp;rw [ksk_zip] at this;exact this
 have fz:∀st:SortSt,(arrOf st).Perm (vs.toArray.zip vs.toArray)->((arrOf st).map (·.2)).size<=sizeLine+1:=fun st hp=>by rw [Array.size_map,hp.size_eq,zs];omega
 dsimp only;by_cases h2:vs.toArray.size < 2
 ·rw [if_pos h2, if_pos h2];refine wpAny_bind (wpAny_pure ?_);rw [StateT.run_pure];refine wpAny_bind (wpAny_pure ?_);dsimp only;have hp:(arrOf (SortSt.mk' general' (vs.toArray.zip vs.toArray) #[] 7 none)).Perm (vs.toArray.zip vs.toArray):=Array.Perm.refl _;refine wpAny_bind (seqEpoch_at g6 rfl ?_);refine wpAny_bind (listUpdate_at g6 rfl ?_ (Nat.zero_le _) (fz _ hp));simp only [bne_self_eq_false,Bool.false_eq_true,if_false];refine wpAny_pure (fin (SortSt.mk' general' (vs.toArray.zip vs.toArray) #[] 7 none) hp fun i j _ h3 h4=>?_);rw [List.size_toArray] at h2;omega
 ·rw [if_neg h2, if_neg h2];rw [List.size_toArray] at h2;have iv:∀v∈vs,∃m t,v=.int m t/\kN v=[m]:=fun v hv=>by
   obtain ⟨i,hi,e⟩:=List.mem_iff_getElem.mp hv;have hl:=ia.length;obtain ⟨t,ht⟩:=ia.get i ns[i] (List.getElem?_eq_getElem (by omega));rw [List.getElem?_eq_getElem hi,e] at ht;obtain rfl:=sI ht;exact ⟨_,t,rfl,rfl⟩
  have as:∀s,Tim.Asks prog w A E s oneType' (vs.toArray.zip vs.toArray) (fun x y=>lexI (kN x.1) (kN y.1)):=fun s=>zt8 fun x hx=>by
   rw [ksk_zip] at hx;exact iv x.1 (List.of_mem_zip (a:=x.1) (b:=x.2) hx).1
  rw [ksk_kind (keys:=vs.toArray) (by rw [List.toList_toArray];exact ia) (by rw [List.size_toArray];omega)];refine wpAny_bind (wpAny_pure ?_);refine wpAny_bind (wpAny_mono (Tim.q_sort (bf:=fun _ _=>True) (st:=SortSt.mk' oneType' (vs.toArray.zip vs.toArray) #[] 7 none) (Q:=fun _ st'=>(arrOf st').Perm (vs.toArray.zip vs.toArray)/\failedOf st'=none/\Tim.Srt (fun x y=>lexI (kN y.1) (kN x.1)=false) (arrOf st') 0 (vs.toArray.zip vs.toArray).size)
   (as _) (zyy kN) ⟨rfl,rfl,Array.Perm.refl _,rfl⟩ rfl (fun _ _ _ _ _ _=>trivial) fun st' a1 a2 a3=>⟨a2,a1,a3⟩) ?_ fun _ _ e=>e)
  rintro ⟨⟨⟩,st'⟩ s' ⟨rfl,hp,hf,hs⟩;dsimp only;refine wpAny_bind (seqEpoch_at g6 rfl ?_);refine wpAny_bind (listUpdate_at g6 rfl ?_ (Nat.zero_le _) (fz _ hp));rw [hf];simp only [bne_self_eq_false,Bool.false_eq_true,if_false];exact wpAny_pure (fin st' hp hs)
end
noncomputable def zex (ns:List Int):List Int:=(znf (ns.map fun n=>([n],W.int n))).map fun z=>z.1.headD 0
noncomputable def pz (n:Int):KP:=([n],W.int n)
theorem zmd (a b:Int):lexI [a] [b]=decide (a < b):=by
 unfold lexI;by_cases c:a < b
 ·have : ¬ a = b := by omega
  simp [c,this]
 ·simp [c,lexI]
theorem zld {ns ms:List Int} (p:ms.Perm ns) (s:ms.Pairwise (·<=·)):zex ns=ms:=by
 have e:ms.map pz=znf (ns.map pz):=zf1 ((p.map pz).trans (zf2 _).symm) (by
  rw [List.pairwise_map];exact s.imp fun {a b} h=>by show lexI [b] [a]=false;rw [zmd];exact decide_eq_false (by omega)) (zei _) fun x hx y hy h=>by
   obtain ⟨a,_,rfl⟩:=List.mem_map.mp hx;obtain ⟨b,_,rfl⟩:=List.mem_map.mp hy;have:a=b:=by injection h
   rw [this]
 show (znf (ns.map pz)).map _=ms;rw [<-e,List.map_map];exact (List.map_congr_left fun a _=>rfl).trans (List.map_id ms)
section
variable {X:Cx}
theorem zhh:∀{l:List Keyed},(∀x∈l,x.2=x.1/\∃n t,x.1=.int n t)->Vals ((l.map fun x=>(kN x.1).headD 0).map V.int) (l.map (·.2))
  | [],_=>.nil
  | x::l,h=>by
    obtain ⟨e,n,t,q⟩:=h x (.head _);refine .cons ?_ (zhh fun y hy=>h y (.tail _ hy));show RelV (V.int ((kN x.1).headD 0)) x.2;rw [e,q];exact ⟨t,rfl⟩
theorem zug {vs:List Value}{x:Keyed} (h:x∈vs.zip vs):x.2=x.1/\x.1∈vs:=by
  induction vs with
  | nil=>exact absurd h List.not_mem_nil
  | cons v vs ih =>
    rw [List.zip_cons_cons] at h;rcases List.mem_cons.mp h with rfl | h
    · exact ⟨rfl,.head _⟩
    · exact ⟨(ih h).1,.tail _ (ih h).2⟩
end
theorem zjq {K:PySem.W.Frag}{F:Hp}:∀ns:List Int,Reps K F (ns.map W.int) (ns.map V.int)
 | []=>.nil
 | n::ns=>.cons (.int n) (zjq ns)
end L2
namespace L2
open PySem PySem.Spec PyProof.Rows
structure Sx where
 N:List Str
 kd:List (Str × NameKind)
 bn:List Str
 fs:List (Str × (List Bool × Fn))
 mp:List Nat
 top:Bool
 nm:Str := ""
 dp:Nat:=0
noncomputable def Sx.rd (S:Sx) (x:Str):Option Nat:=if x == ("__debug__" : Str) || x == ("__classdict__" : Str) then none else match S.kd.lookup x with
 | some .local=>S.N.findIdx? (· == x)
 | some .cell=>S.N.findIdx? (· == x)
 | some .free=>S.N.findIdx? (· == x)
 | _=>none
noncomputable def Sx.wr (S:Sx) (x:Str):Option Nat:=match S.kd.lookup x with
 | some .local=>S.N.findIdx? (· == x)
 | some .cell=>S.N.findIdx? (· == x)
 | _=>none
noncomputable def Sx.bl (S:Sx) (x:Str):Bool:=S.kd.lookup x == some .globalImplicit && S.bn.contains x
structure CxOk (X:Cx) (S:Sx) (d:Nat):Prop where
 N:X.N=S.N
 nd:S.N.Nodup
 loc:∀x,S.kd.lookup x=some .local->X.env.scope.names.lookup x=some .local
 cel:∀x,S.kd.lookup x=some .cell->X.env.scope.names.lookup x=some .cell/\X.fn x=true
 vis:∀x,S.kd.lookup x=some .cell\/S.kd.lookup x=some .free->X.env.scope.names.lookup x=some .cell\/X.env.scope.names.lookup x=some .free
 gl:∀x,S.kd.lookup x=some .globalImplicit->Gl X x
 calm:X.calm=true
 xe:X.xe=fun _ _=>False
 bn:∀x∈S.bn,X.mg x=none
 fs:∀x m Φ,S.fs.lookup x=some (m,Φ)->∃ps,ps.length=m.length/\Cal X.prog X.w X.K X.mg X.base d x ps (spF X.K m Φ)
 room:Room d X.A
 sl:X.A.units+16 * d+205 < cLine
 bk:X.env.blockKind=.function
 lam:S.nm∈lams->∃c P,PySem.W.tabIn X.K S.nm=some (c,P)/\PySem.W.codeHdIn X.K c P=true/\X.env.code=.ref c/\X.env.qual=S.nm++".<locals>."
 dpo:S.dp<=d
theorem ze9 {N:List Str}{x:Str}{i:Nat} (h:N.findIdx? (· == x)=some i):N[i]?=some x:=by
 obtain ⟨hl,h1,_⟩:=List.findIdx?_eq_some_iff_getElem.mp h;rw [List.getElem?_eq_getElem hl];have:N[i]=x:=by simpa using h1
 rw [this]
section
variable {X:Cx}{S:Sx}{d:Nat}
theorem zoq (C:CxOk X S d) {x:Str}{i:Nat}{pos:Pos} (h:S.rd x=some i):PE X (.Name x pos) (tVar i):=by
 unfold Sx.rd at h;split at h
 ·exact noSome h
 ·rename_i z;rw [Bool.or_eq_true,not_or,Bool.not_eq_true,Bool.not_eq_true] at z;split at h
  ·rename_i e;exact zq9 (by rw [C.N];exact ze9 h) (.inl (C.loc x e)) z.1 z.2
  ·rename_i e;exact zq9 (by rw [C.N];exact ze9 h) (.inr (C.vis x (.inl e))) z.1 z.2
  ·rename_i e;exact zq9 (by rw [C.N];exact ze9 h) (.inr (C.vis x (.inr e))) z.1 z.2
  ·exact noSome h
theorem znk (C:CxOk X S d) {x:Str}{i:Nat} (h:S.wr x=some i):X.N[i]?=some x/\Loc X.env.scope x/\(X.fn x=true\/X.env.scope.names.lookup x=some .local):=by
 unfold Sx.wr at h;split at h
 ·rename_i e;exact ⟨by rw [C.N];exact ze9 h,.inl (C.loc x e),.inr (C.loc x e)⟩
 ·rename_i e;exact ⟨by rw [C.N];exact ze9 h,.inr (C.cel x e).1,.inl (C.cel x e).2⟩
 ·exact noSome h
theorem zdr (C:CxOk X S d) {x:Str} (h:S.bl x=true):Gl X x/\X.mg x=none:=by
 unfold Sx.bl at h;rw [Bool.and_eq_true] at h;exact ⟨C.gl x (by simpa using h.1),C.bn x (by simpa using h.2)⟩
theorem ndN (C:CxOk X S d):X.N.Nodup:=by rw [C.N];exact C.nd
end
noncomputable def zl3:Expr->Bool
 | .Set ..=>false
 | _=>true
noncomputable def zcb:Expr->Bool
 | .Slice ..=>false
 | _=>true
noncomputable def zfb:Expr->Bool
 | .ListComp ..=>false
 | .SetComp ..=>false
 | .DictComp ..=>false
 | _=>true
noncomputable def zln:Expr->Bool
 | .UnaryOp .Not _ _=>false
 | .BoolOp ..=>false
 | .IfExp ..=>false
 | .Compare ..=>false
 | _=>true
theorem zfa {e:Expr}{env:Env} (h:zl3 e=true):∀x,foldedSetIterable e env x=pure x:=by
 intro x;cases e<;>first | rfl | (cases h)
theorem zlf {op:CmpOp}{e:Expr} (h:zl3 e=true):behindInMarks op e=false:=by
 cases e<;>first | rfl | (cases h)
theorem zf6 {e:Expr} (h:zcb e=true):zq4 e:=fun o i=>by
 cases e<;>first | rfl | (cases h)
theorem zmj {e:Expr}{t:Option Expr}{l:Nat}{env:Env} (h:zfb e=true):swapsWith e t l env=pure false:=by
 cases e<;>first | rfl | (cases h)
theorem znm {e:Expr}{env:Env} (h:zln e=true):∀whole,isTrue e env whole=(do let v <- whole;standAt e.pos;holding [v] (truthy v)):=by
 intro whole;cases e with
 | UnaryOp op _ _=>cases op<;>first | rfl | (cases h)
 | _=>first | rfl | (cases h)
theorem zgu {es:List Expr}{env:Env}{pos:Pos} (h:es.all zag=true):(backTo pos (starEach es env)).any (·.1)=false:=by
  induction es with
  | nil=>rfl
  | cons e es ih =>
    rw [List.all_cons,Bool.and_eq_true] at h;rw [zaf h.1];show (false || (backTo pos (starEach es env)).any (·.1))=false;rw [ih h.2]
    rfl
noncomputable def cPow (i j:Int):Bool:=decide (0<=j) && decide (j<=1000000) && decide (i.natAbs < 2 ^ 64)
noncomputable def cMul (i j:Int):Bool:=(decide (-(2 ^ 64) < i) && decide (i < 2 ^ 64)) || (decide (-(2 ^ 64) < j) && decide (j < 2 ^ 64))
noncomputable def zni (i j:Int):Bool:=decide (Builtin.Int.intBits i<=2 ^ 20) && decide (Builtin.Int.intBits j<=2 ^ 20)
noncomputable def cDiv (i j:Int):Bool:=decide (0 < j) && decide (j.natAbs.log2 < 9000)
noncomputable def yes2 (_ _:Int):Bool:=true
noncomputable def oAdd:O2:=oOr (oI yes2 fun i j=>.int (i+j)) (oOr oCat (oOr zsx (oOr zwy zul)))
noncomputable def oMult:O2:=oOr (oI cMul fun i j=>.int (i * j)) (oOr (oI zni fun i j=>.int (i * j)) oRep)
noncomputable def binO:Operator->Option O2
 | .Add=>some oAdd
 | .Sub=>some (oI yes2 fun i j=>.int (i - j))
 | .Mult=>some oMult
 | .FloorDiv=>some (oI cDiv fun i j=>.int (i / j))
 | .Mod=>some (oI (fun _ j=>decide (0 < j)) fun i j=>.int (i % j))
 | .Pow=>some (oI cPow fun i j=>.int (i ^ j.toNat))
 | .LShift=>some (oI cPow fun i j=>.int (i * 2 ^ j.toNat))
 | .RShift=>some (oI (fun _ j=>decide (0<=j)) fun i j=>.int (i / 2 ^ j.toNat))
 | .BitAnd=>some (oI yes2 fun i j=>.int (Builtin.bitAnd i j))
 | .BitOr=>some (oI yes2 fun i j=>.int (Builtin.bitOr i j))
 | .BitXor=>some (oI yes2 fun i j=>.int (Builtin.bitXor i j))
 | _=>none
theorem zrb {i j:Int} (h:cPow i j=true):CPow i j:=by
 unfold cPow at h;rw [Bool.and_eq_true,Bool.and_eq_true] at h;exact ⟨of_decide_eq_true h.1.1,of_decide_eq_true h.1.2,of_decide_eq_true h.2⟩
theorem zqp {i j:Int} (h:cMul i j=true):CMul i j:=by
 unfold cMul at h;rw [Bool.or_eq_true,Bool.and_eq_true,Bool.and_eq_true] at h;rcases h with h | h
 ·exact .inl ⟨of_decide_eq_true h.1,of_decide_eq_true h.2⟩
 ·exact .inr ⟨of_decide_eq_true h.1,of_decide_eq_true h.2⟩
theorem zsk {i j:Int} (h:zni i j=true):z2v i j:=by
 unfold zni at h;rw [Bool.and_eq_true] at h;exact ⟨of_decide_eq_true h.1,of_decide_eq_true h.2⟩
theorem zx4 {i j:Int} (h:cDiv i j=true):0 < j/\j.natAbs.log2 < 9000:=by
 unfold cDiv at h;rw [Bool.and_eq_true] at h;exact ⟨of_decide_eq_true h.1,of_decide_eq_true h.2⟩
section
variable {X:Cx}
theorem zvr {op:Operator}{o:O2} (h:binO op=some o):∃r,OpR X (binaryOp op) r/\OpS X.K r o:=by
 cases op with
 | Add=>obtain rfl:=sI h;exact ⟨_,z1o.or (z2o.or (zvv.or (zx8.or zmw))),(zbo fun _ _ _=>.int _).or (zwl.or (zs8.or (zuc.or zr4)))⟩
 | Sub=>obtain rfl:=sI h;exact ⟨_,zzq,zbo fun _ _ _=>.int _⟩
 | Mult=>obtain rfl:=sI h;exact ⟨_,z1b.or (zyp.or z2z),(zht (fun _ _=>zqp) fun _ _ _=>.int _).or ((zht (fun _ _=>zsk) fun _ _ _=>.int _).or zwe)⟩
 | FloorDiv=>obtain rfl:=sI h;exact ⟨_,ztl,zht (fun _ _=>zx4) fun _ _ _=>.int _⟩
 | Mod=>obtain rfl:=sI h;exact ⟨_,zzw,zht (fun _ _=>of_decide_eq_true) fun _ _ _=>.int _⟩
 | Pow=>obtain rfl:=sI h;exact ⟨_,z14,zht (fun _ _=>zrb) fun _ _ _=>.int _⟩
 | LShift=>obtain rfl:=sI h;exact ⟨_,z2y,zht (fun _ _=>zrb) fun _ _ _=>.int _⟩
 | RShift=>obtain rfl:=sI h;exact ⟨_,z2l,zht (fun _ _=>of_decide_eq_true) fun _ _ _=>.int _⟩
 | BitAnd=>obtain rfl:=sI h;exact ⟨_,z01,zbo fun _ _ _=>.int _⟩
 | BitOr=>obtain rfl:=sI h;exact ⟨_,z4k,zbo fun _ _ _=>.int _⟩
 | BitXor=>obtain rfl:=sI h;exact ⟨_,z0o,zbo fun _ _ _=>.int _⟩
 | _=>exact noSome h
noncomputable def augO:Operator->Option O2
 | .Add=>some (oI yes2 fun i j=>.int (i+j))
 | .Sub=>some (oI yes2 fun i j=>.int (i - j))
 | .Mult=>some (oI cMul fun i j=>.int (i * j))
 | .BitAnd=>some (oI yes2 fun i j=>.int (Builtin.bitAnd i j))
 | .BitOr=>some (oI yes2 fun i j=>.int (Builtin.bitOr i j))
 | .BitXor=>some (oI yes2 fun i j=>.int (Builtin.bitXor i j))
 | _=>none
theorem zwh {op:Operator}{o:O2} (h:augO op=some o):∃r,PIp X op r/\OpS X.K r o:=by
 cases op with
 | Add=>obtain rfl:=sI h;exact ⟨_,zvz,zbo fun _ _ _=>.int _⟩
 | Sub=>obtain rfl:=sI h;exact ⟨_,zya,zbo fun _ _ _=>.int _⟩
 | Mult=>obtain rfl:=sI h;exact ⟨_,zxd,zht (fun _ _=>zqp) fun _ _ _=>.int _⟩
 | BitAnd=>obtain rfl:=sI h;exact ⟨_,zwp,zbo fun _ _ _=>.int _⟩
 | BitOr=>obtain rfl:=sI h;exact ⟨_,z1i,zbo fun _ _ _=>.int _⟩
 | BitXor=>obtain rfl:=sI h;exact ⟨_,zw7,zbo fun _ _ _=>.int _⟩
 | _=>exact noSome h
noncomputable def cmpO:CmpOp->Option O2
 | .Eq=>some oEq
 | .NotEq=>some oNe
 | .Lt=>some (oI yes2 fun i j=>.bl (decide (i < j)))
 | .LtE=>some (oI yes2 fun i j=>.bl (decide (i<=j)))
 | .Gt=>some (oI yes2 fun i j=>.bl (decide (j < i)))
 | .GtE=>some (oI yes2 fun i j=>.bl (decide (j<=i)))
 | .In=>some (oIn false)
 | .NotIn=>some (oIn true)
 | _=>none
theorem zvu {kr:Nat} (hr:Room kr X.A) {op:CmpOp}{o:O2} (h:cmpO op=some o):∃r,OpR X (compareOp op) r/\OpS X.K r o:=by
 cases op with
 | Eq=>obtain rfl:=sI h;exact ⟨_,.or z3j (z0p hr),z09⟩
 | NotEq=>obtain rfl:=sI h;exact ⟨_,.or z36 (z21 hr),zzy⟩
 | Lt=>obtain rfl:=sI h;exact ⟨_,z3y,zbo fun _ _ _=>.bl _⟩
 | LtE=>obtain rfl:=sI h;exact ⟨_,z30,zbo fun _ _ _=>.bl _⟩
 | Gt=>obtain rfl:=sI h;exact ⟨_,z4d,zbo fun _ _ _=>.bl _⟩
 | GtE=>obtain rfl:=sI h;exact ⟨_,z3w,zbo fun _ _ _=>.bl _⟩
 | In=>obtain rfl:=sI h;exact ⟨_,zhq,zo9 false⟩
 | NotIn=>obtain rfl:=sI h;exact ⟨_,zej,zo9 true⟩
 | _=>exact noSome h
end
noncomputable def za6 (f:Sx->Expr->Option GE) (S:Sx) (e:Expr):Option GA:=match e with
 | .Name x _=>(S.rd x).bind fun i=>some (zab i)
 | _=>(f S e).bind fun g=>some (gArg g)
noncomputable def asL (f:Expr->Option GA):List Expr->Option GAs
 | []=>some gA0
 | e::es=>if zag e then (f e).bind fun a=>(asL f es).bind fun as=>some (gCns a as) else none
noncomputable def asM (f:Sx->Expr->Option GE) (S:Sx):List Expr->List Bool->Option GAs
 | [],[]=>some gA0
 | e::es,b::m=>if zag e then (if b then za6 f S e else (f S e).bind fun g=>some (gArg g)).bind fun a=>(asM f S es m).bind fun as=>some (gCns a as) else none
 | _,_=>none
noncomputable def zbh (f:Sx->Expr->Option GE):Prop:=∀X S d,CxOk X S d->∀e g,f S e=some g->PE X e (tE X.K g)
noncomputable def zib (f:Sx->Expr->Option GT):Prop:=∀X S d,CxOk X S d->∀e g,f S e=some g->PT X e (tT X.K g)
section
variable {X:Cx}{S:Sx}{d:Nat}{f:Sx->Expr->Option GE}
theorem zad (Hf:zbh f) (C:CxOk X S d) {e:Expr}{a:GA} (h:za6 f S e=some a):PE X e (tA X.K a):=by
 unfold za6 at h;split at h
 ·obtain ⟨i, hi, h⟩ := bS h;obtain rfl:=sI h;exact (zoq C hi).wk fun _ _ _=>zp5
 ·obtain ⟨g, hg, h⟩ := bS h;obtain rfl:=sI h;exact (Hf X S d C _ _ hg).wk fun _ _ _=>zgp
theorem zde {fa:Expr->Option GA} (Hf:∀e a,fa e=some a->PE X e (tA X.K a)):∀{es:List Expr}{as:GAs},asL fa es=some as->PA X es (tAs X.K as)/\es.all zag=true
  | [],_,h=>by obtain rfl:=sI h;exact ⟨zdi.wk fun _ _ _=>zlu,rfl⟩
  | e::es,_,h=>by
    unfold asL at h;split at h
    · rename_i z
      obtain ⟨a,ha,h⟩:=bS h;obtain ⟨as,has,h⟩:=bS h;obtain rfl:=sI h;obtain ⟨p,q⟩:=zde Hf has;exact ⟨(pac (Hf e a ha) p z).wk fun _ _ _=>zlx,by rw [List.all_cons,z,q];rfl⟩
    · exact noSome h
theorem zu3 (Hf:zbh f) (C:CxOk X S d):∀{es:List Expr}{m:List Bool}{as:GAs},asM f S es m=some as->PA X es (tAs X.K as)/\es.all zag=true
  | [],[],_,h=>by obtain rfl:=sI h;exact ⟨zdi.wk fun _ _ _=>zlu,rfl⟩
  | e::es,b::m,_,h=>by
    unfold asM at h;split at h
    · rename_i z
      obtain ⟨a,ha,h⟩:=bS h;obtain ⟨as,has,h⟩:=bS h;obtain rfl:=sI h;obtain ⟨p,q⟩:=zu3 Hf C has;have pe:PE X e (tA X.K a):=by
        cases b with
        | true=>exact zad Hf C (by simpa using ha)
        | false =>
          obtain ⟨g,hg,ha⟩:=bS (show (f S e).bind _=some a from by simpa using ha);obtain rfl:=sI ha;exact (Hf X S d C _ _ hg).wk fun _ _ _=>zgp
      exact ⟨(pac pe p z).wk fun _ _ _=>zlx,by rw [List.all_cons,z,q];rfl⟩
    · exact noSome h
  | [],_::_,_,h=>by exact noSome h
  | _::_,[],_,h=>by exact noSome h
end
noncomputable def cmpE (f:Sx->Expr->Option GE) (S:Sx) (a:Expr) (ops:List CmpOp) (cs:List Expr):Option GE:=match ops,cs with
 | [op],[b]=>if zl3 b then (za6 f S a).bind fun x=>(za6 f S b).bind fun y=>(cmpO op).bind fun o=>some (gOp2 o x y) else none
 | _,_=>none
noncomputable def zw1 (f:Expr->Option GE) (op:BoolOp):Expr->List Expr->Option GE
 | v,[]=>f v
 | v,u::us=>match op with | .And=>(f v).bind fun a=>(zw1 f op u us).bind fun b=>some (gAnd a b) | .Or=>none
noncomputable def zxh (f:Expr->Option GT) (op:BoolOp):Expr->List Expr->Option GT
 | v,[]=>f v
 | v,u::us=>(f v).bind fun a=>(zxh f op u us).bind fun b=>some (match op with | .And=>zfu a b | .Or=>gOrT a b)
section
variable {X:Cx}{S:Sx}{d:Nat}{f:Sx->Expr->Option GE}
theorem zwq (Hf:zbh f) (C:CxOk X S d) {a:Expr}{ops:List CmpOp}{cs:List Expr}{g:GE}{pos:Pos} (h:cmpE f S a ops cs=some g):PE X (.Compare a ops cs pos) (tE X.K g)/\PT X (.Compare a ops cs pos) (tT X.K (zai g)):=by
 unfold cmpE at h;split at h
 ·rename_i op b;split at h
  ·rename_i z;refine aG fun _ qG=>?_;obtain ⟨x,hx,h⟩:=bS h;obtain ⟨y,hy,h⟩:=bS h;obtain ⟨o,ho,h⟩:=bS h;refine qG ?_;clear qG;obtain rfl:=sI h;obtain ⟨r,h1,h2⟩:=zvu (X:=X) C.room ho;exact ⟨(zq3 h1 (zad Hf C hx) (zad Hf C hy) (zlf z)).wk fun _ _ _=>zb8 h2,(zpz h1 (zad Hf C hx) (zad Hf C hy) (zlf z)).wk fun _ _ _=>zfm fun _ _ _=>zb8 h2⟩
  ·exact noSome h
 ·exact noSome h
theorem zlm {fe:Expr->Option GE} (Hf:∀e g,fe e=some g->PE X e (tE X.K g)) {op:BoolOp}{pos:Pos}:∀{v:Expr}{vs:List Expr}{g:GE},zw1 fe op v vs=some g->PE X (.BoolOp op (v::vs) pos) (tE X.K g)
  | v,[],g,h=>zz6 (Hf v g h)
  | v,u::us,g,h=>by
    cases op with
    | And =>
      obtain ⟨a,ha,h⟩:=bS h;obtain ⟨b,hb,h⟩:=bS h;obtain rfl:=sI h;exact (z0a (Hf v a ha) (zlm Hf hb)).wk fun _ _ _=>zth
    | Or=>exact noSome h
theorem zgd {fe:Expr->Option GT} (Hf:∀e g,fe e=some g->PT X e (tT X.K g)) {op:BoolOp}{pos:Pos}:∀{v:Expr}{vs:List Expr}{g:GT},zxh fe op v vs=some g->PW X (.BoolOp op (v::vs) pos) (tT X.K g)
  | v,[],g,h=>by
    cases op with
    | And=>exact zwt (Hf v g h)
    | Or=>exact z2d (Hf v g h)
  | v,u::us,g,h=>by
    obtain ⟨a,ha,h⟩:=bS h;obtain ⟨b,hb,h⟩:=bS h;obtain rfl:=sI h;cases op with
    | And=>exact (z2n (Hf v a ha) (zgd Hf hb)).wk fun _ _ _=>zrj
    | Or=>exact (z4h (Hf v a ha) (zgd Hf hb)).wk fun _ _ _=>zr3
end
end L2
namespace L2
open PySem PySem.Spec PyProof.Rows
theorem z0m:bootBuiltins "min" = some (.builtin "min"):=by decide +kernel
theorem zn8:bootBuiltins "repr" = some (.builtin "repr"):=by decide +kernel
theorem z1e:bootBuiltins "max" = some (.builtin "max"):=by decide +kernel
noncomputable def bltO (x:Str):Option ON :=
 if x == ("len" : Str) then some oLen else if x == ("abs" : Str) then some oAbs else if x == ("int" : Str) then some oInt else if x == ("str" : Str) then some zs4
 else if x == ("tuple" : Str) then some zec else if x == ("all" : Str) then some (oBl fun bs=>bs.all id) else if x == ("any" : Str) then some (oBl fun bs=>bs.any id)
 else if x == ("sum" : Str) then some oSum else if x == ("min" : Str) then some oMin else if x == ("max" : Str) then some oMax else none
section
variable {X:Cx}{S:Sx}{d:Nat}
set_option maxHeartbeats 4000000 in
theorem zy5 (C:CxOk X S d) {x:Str}{o:ON}{e:Expr}{es:List Expr}{t:TA}{p pos:Pos} (hb:S.bl x=true) (h:bltO x=some o) (ha:PA X (e::es) t) (hst:(e::es).all zag=true):∃r,PE X (.Call (.Name x p) (e::es) [] pos) (tCB r t)/\OpSN X.K r o:=by
 obtain ⟨g,m⟩:=zdr C hb;rw [List.all_cons,Bool.and_eq_true] at hst;have s1:=zaf (env:=X.env) (es:=es) hst.1;have s2:=zgu (env:=X.env) (pos:=pos) hst.2;unfold bltO at h;split at h
 ·rename_i z;obtain rfl:=sI h;have e:=eq_of_beq z;subst e;exact ⟨_,zaz zeb g m zvd ha (by decide) (by decide) s1 s2,oLen_ok⟩
 split at h
 ·rename_i z;obtain rfl:=sI h;have e:=eq_of_beq z;subst e;exact ⟨_,zaz zur g m z11 ha (by decide) (by decide) s1 s2,zyx⟩
 split at h
 ·rename_i z;obtain rfl:=sI h;have e:=eq_of_beq z;subst e;exact ⟨_,ze0 zpa g m zu2 ha (by decide) (by decide) s1 s2,zw2⟩
 split at h
 ·rename_i z;obtain rfl:=sI h;have e:=eq_of_beq z;subst e;exact ⟨_,ze0 (zrq C.room) g m zvq ha (by decide) (by decide) s1 s2,zus⟩
 split at h
 ·rename_i z;obtain rfl:=sI h;have e:=eq_of_beq z;subst e;exact ⟨_,ze0 zgl g m zge ha (by decide) (by decide) s1 s2,zpp⟩
 split at h
 ·rename_i z;obtain rfl:=sI h;have e:=eq_of_beq z;subst e;exact ⟨_,zaz (zsc C.calm) g m z3b ha (by decide) (by decide) s1 s2,zvi⟩
 split at h
 ·rename_i z;obtain rfl:=sI h;have e:=eq_of_beq z;subst e;exact ⟨_,zaz (zsv C.calm) g m zz7 ha (by decide) (by decide) s1 s2,zvi⟩
 split at h
 ·rename_i z;obtain rfl:=sI h;have e:=eq_of_beq z;subst e;exact ⟨_,zaz (zpb C.calm) g m z10 ha (by decide) (by decide) s1 s2,zv6⟩
 split at h
 ·rename_i z;obtain rfl:=sI h;have e:=eq_of_beq z;subst e;exact ⟨_,zaz (zn2 C.calm) g m z0m ha (by decide) (by decide) s1 s2,zv1⟩
 split at h
 ·rename_i z;obtain rfl:=sI h;have e:=eq_of_beq z;subst e;exact ⟨_,zaz (zoz C.calm) g m z1e ha (by decide) (by decide) s1 s2,zv8⟩
 exact noSome h
noncomputable def zxr (x:Str):Option ON:=if x == ("repr" : Str) then some zkg else bltO x
theorem zs0 (C:CxOk X S d) {x:Str}{o:ON}{e:Expr}{es:List Expr}{t:TA}{p pos:Pos} (hb:S.bl x=true) (h:zxr x=some o) (ha:PA X (e::es) t) (hst:(e::es).all zag=true):∃r,PE X (.Call (.Name x p) (e::es) [] pos) (tCB r t)/\OpSN X.K r o:=by
 unfold zxr at h;split at h
 ·rename_i z;obtain rfl:=sI h;have e:=eq_of_beq z;subst e;obtain ⟨g,m⟩:=zdr C hb;rw [List.all_cons,Bool.and_eq_true] at hst;exact ⟨_,zaz (zi6 C.room) g m zn8 ha (by decide) (by decide) (zaf hst.1) (zgu hst.2),oRepr_ok⟩
 ·exact zy5 C hb h ha hst
end
noncomputable def kdOf (x:Str):Option Kd:=if x == ("int" : Str) then some .int else if x == ("bool" : Str) then some .bool else if x == ("str" : Str) then some .str else if x == ("tuple" : Str) then some .tuple else if x == ("list" : Str) then some .list else none
theorem zvx {x:Str}{k:Kd} (h:kdOf x=some k):bootBuiltins x=some (.type k.nm)/\x≠("__name__" : Str)/\(x == ("__debug__" : Str))=false:=by
 unfold kdOf at h;split at h
 ·rename_i z;obtain rfl:=sI h;have e:=eq_of_beq z;subst e;exact ⟨zu2,by decide,by decide⟩
 split at h
 ·rename_i z;obtain rfl:=sI h;have e:=eq_of_beq z;subst e;exact ⟨zyn,by decide,by decide⟩
 split at h
 ·rename_i z;obtain rfl:=sI h;have e:=eq_of_beq z;subst e;exact ⟨zvq,by decide,by decide⟩
 split at h
 ·rename_i z;obtain rfl:=sI h;have e:=eq_of_beq z;subst e;exact ⟨zge,by decide,by decide⟩
 split at h
 ·rename_i z;obtain rfl:=sI h;have e:=eq_of_beq z;subst e;exact ⟨zy6,by decide,by decide⟩
 exact noSome h
noncomputable def zof:Expr->Bool
 | .Call _ _ _ _=>true
 | _=>false
theorem zo6 {o:Expr}{a:Str}{env:Env}{w:Sem Value} (h:zof o=false):attributeBase o a env w=w:=by
 cases o<;>first | rfl | (cases h)
noncomputable def zx3 (f:Sx->Expr->Option GE) (S:Sx) (o:Expr) (name:Str) (apos:Pos) (args:List Expr) (cpos:Pos):Option GE :=
  if !(apos.endLine == cpos.line) || zof o then none else match args with
  | [e]=>if !zag e then none else match o with
    | .Name x _=>(S.rd x).bind fun i=>(f S e).bind fun g=>if name == ("append" : Str) then some (gApp i g) else none
    | _=>none
  | _=>none
theorem zov {e:Expr}{env:Env}{cpos:Pos} (h:zag e=true):((backTo cpos (starEach [e] env)).all (fun x=>!x.1) && (backToKw cpos (keywordEach [] env)).all (fun x=>x.1.isSome) && decide (([e]:List Expr).length+([]:List Keyword).length+(if ([]:List Keyword).isEmpty then 0 else 1) < 30))=true:=by
 rw [zaf h];rfl
section
variable {X:Cx}{S:Sx}{d:Nat}{f:Sx->Expr->Option GE}
theorem zup (Hf:zbh f) (C:CxOk X S d) {o:Expr}{name:Str}{apos cpos:Pos}{args:List Expr}{g:GE} (h:zx3 f S o name apos args cpos=some g):PE X (.Call (.Attribute o name apos) args [] cpos) (tE X.K g):=by
 unfold zx3 at h;split at h
 ·exact noSome h
 ·rename_i z;rw [Bool.or_eq_true,not_or,Bool.not_eq_true,Bool.not_eq_true,Bool.not_eq_false'] at z;have hb:=zo6 (a:=name) (env:=X.env) (w:=eval o X.env) z.2;split at h
  ·rename_i e;split at h
   ·exact noSome h
   ·rename_i y;rw [Bool.not_eq_true,Bool.not_eq_false'] at y;split at h
    ·rename_i x px;obtain ⟨i,hi,h⟩:=bS h;obtain ⟨ge,hg,h⟩:=bS h;have pa:PA X [e] (zdd (tE X.K ge) tNil):=pac (Hf X S d C _ _ hg) zdi y;split at h
     ·rename_i q;obtain rfl:=sI h;have e':=eq_of_beq q;subst e';exact (z27 PySem.F.plainAttrs_list PySem.F.slot_list_append PySem.F.type_list_append zh5 (zoq C hi) pa hb (zov y) z.1 (zaf y) rfl).wk fun _ _ _=>zsl
     ·exact noSome h
    ·exact noSome h
  ·exact noSome h
end
noncomputable def zxn (f:Sx->Expr->Option GE) (S:Sx) (x:Str) (args:List Expr):Option GE:=if x == ("__debug__" : Str) then none else match args with
  | []=>none
  | e::es=>match S.fs.lookup x with
    | some (m,Φ)=>if S.kd.lookup x == some .globalImplicit then (asM f S (e::es) m).bind fun as=>some (zae m Φ as) else none
    | none=>if x == ("isinstance" : Str) && S.bl x then (match e,es with
        | e,[.Name t _]=>if zag e && S.bl t then (kdOf t).bind fun k=>(za6 f S e).bind fun a=>some (gOp1 (oIsi k) a) else none
        | _,_=>none)
      else if S.bl x then (zxr x).bind fun o=>(asL (za6 f S) (e::es)).bind fun as=>some (gOpN o as) else none
theorem zsm {X:Cx}{S:Sx}{d:Nat}{f:Sx->Expr->Option GE} (Hf:zbh f) (C:CxOk X S d) {x:Str}{args:List Expr}{g:GE}{p pos:Pos} (h:zxn f S x args=some g):PE X (.Call (.Name x p) args [] pos) (tE X.K g):=by
 unfold zxn at h;split at h
 ·exact noSome h
 ·rename_i hdb;rw [Bool.not_eq_true] at hdb;split at h
  ·exact noSome h
  ·rename_i e es;split at h
   ·rename_i m Φ hfs;split at h
    ·rename_i hgl;obtain ⟨as,has,h⟩:=bS h;obtain rfl:=sI h;obtain ⟨ps,hl,cal⟩:=C.fs x m Φ hfs;obtain ⟨pa,st⟩:=zu3 Hf C has;rw [List.all_cons,Bool.and_eq_true] at st;exact (zz4 cal C.room (C.gl x (by simpa using hgl)) pa (Nat.le_refl _) hdb (zaf st.1) (zgu st.2)).wk fun _ _ _=>zqq
    ·exact noSome h
   ·split at h
    ·rename_i hi;rw [Bool.and_eq_true] at hi;have e':=eq_of_beq hi.1;subst e';obtain ⟨gI,mI⟩:=zdr C hi.2;split at h
     ·rename_i t pt;split at h
      ·rename_i z;rw [Bool.and_eq_true] at z;obtain ⟨k,hk,h⟩:=bS h;obtain ⟨a,ha,h⟩:=bS h;obtain rfl:=sI h;obtain ⟨k1,k2,k3⟩:=zvx hk;obtain ⟨gT,mT⟩:=zdr C z.2;have pt' : PE X (.Name t pt) (tC (.ty k.nm)):=zyu gT mT k1 rfl k2 k3;have pa:PA X [e,.Name t pt] (zdd (tA X.K a) (zdd (tC (.ty k.nm)) tNil)):=pac (zad Hf C ha) (pac pt' zdi rfl) z.1;exact (zaz zrv gI mI zhd pa (by decide) hdb (zaf z.1) rfl).wk fun _ _ _=>zsh
      ·exact noSome h
     ·exact noSome h
    ·split at h
     ·rename_i hb;obtain ⟨o,ho,h⟩:=bS h;obtain ⟨as,has,h⟩:=bS h;obtain rfl:=sI h;obtain ⟨pa,st⟩:=zde (fun e a ha=>zad Hf C ha) has;obtain ⟨r,h1,h2⟩:=zs0 (pos:=pos) (p:=p) C hb ho pa st;exact h1.wk fun _ _ _=>zhg h2
     ·exact noSome h
noncomputable def zxv (f:Sx->Expr->Option GE) (S:Sx) (tg e:Expr):Option GL:=if !zl3 e then none else match e with
  | .Call (.Name x _) args [] _ =>
    if x == ("range" : Str) && S.bl x then (match args with
      | [a]=>if zag a then (asL (za6 f S) [a]).bind fun as=>some (zdm as) else none
      | _=>none)
    else if x == ("enumerate" : Str) && S.bl x then (match args,tg with
      | [a],.Tuple _ _ _=>if zag a then (f S a).bind fun g=>some (zjp g) else none
      | _,_=>none)
    else if x == ("reversed" : Str) && S.bl x then (match args with
      | [a]=>if zag a then (f S a).bind fun g=>some (gRev g) else none
      | _=>none)
    else if x == ("zip" : Str) && S.bl x then (match args,tg with
      | [a,b],.Tuple _ _ _=>if zag a && zag b then none else none
      | _,_=>none)
    else (f S e).bind fun g=>some (zem g)
  | _=>(f S e).bind fun g=>some (zem g)
theorem zsu {X:Cx}{S:Sx}{d:Nat}{f:Sx->Expr->Option GE} (Hf:zbh f) (C:CxOk X S d) {tg e:Expr}{g:GL} (h:zxv f S tg e=some g):PI X tg e (tI X.K g)/\∀x,foldedSetIterable e X.env x=pure x:=by
 unfold zxv at h;split at h
 ·exact noSome h
 ·rename_i hs;rw [Bool.not_eq_true,Bool.not_eq_false'] at hs;refine ⟨?_,zfa hs⟩;split at h
  ·rename_i x px args pc;split at h
   ·rename_i z;rw [Bool.and_eq_true] at z;have e':=eq_of_beq z.1;subst e';obtain ⟨gl,mg⟩:=zdr C z.2;split at h
    ·rename_i a;split at h
     ·rename_i y;obtain ⟨as,has,h⟩:=bS h;obtain rfl:=sI h;obtain ⟨pa,_⟩:=zde (fun e a ha=>zad Hf C ha) has;exact (zo3 gl mg pa (zaf y)).wk fun _ _ _=>zop
     ·exact noSome h
    ·exact noSome h
   ·split at h
    ·rename_i z;rw [Bool.and_eq_true] at z;have e':=eq_of_beq z.1;subst e';obtain ⟨gl,mg⟩:=zdr C z.2;split at h
     ·rename_i a es k1 p1;split at h
      ·rename_i y;obtain ⟨ge,hg,h⟩:=bS h;obtain rfl:=sI h;exact (ztj gl mg (pac (Hf X S d C _ _ hg) zdi y) (zaf y)).wk fun _ _ _=>zqh
      ·exact noSome h
     ·exact noSome h
    ·split at h
     ·rename_i z;rw [Bool.and_eq_true] at z;have e':=eq_of_beq z.1;subst e';obtain ⟨gl,mg⟩:=zdr C z.2;split at h
      ·rename_i a;split at h
       ·rename_i y;obtain ⟨ge,hg,h⟩:=bS h;obtain rfl:=sI h;exact (z1r gl mg (pac (Hf X S d C _ _ hg) zdi y) (zaf y)).wk fun _ _ _=>zry
       ·exact noSome h
      ·exact noSome h
     ·split at h
      ·rename_i z;rw [Bool.and_eq_true] at z;have e':=eq_of_beq z.1;subst e';obtain ⟨gl,mg⟩:=zdr C z.2;split at h
       ·rename_i a b es k1 p1;split at h
        ·rename_i y;exact noSome h
        ·exact noSome h
       ·exact noSome h
      ·obtain ⟨ge, hg, h⟩ := bS h;obtain rfl:=sI h;exact (zvh (Hf X S d C _ _ hg)).wk fun _ _ _=>zhr
  ·obtain ⟨ge, hg, h⟩ := bS h;obtain rfl:=sI h;exact (zvh (Hf X S d C _ _ hg)).wk fun _ _ _=>zhr
noncomputable def zk7 (S:Sx):List Expr->Option (List Nat)
 | []=>some []
 | .Name x _::es=>(S.wr x).bind fun i=>(zk7 S es).bind fun is=>some (i::is)
 | _=>none
noncomputable def tgE (S:Sx):Expr->Option Tg
 | .Name x _=>(S.wr x).bind fun i=>some (.nm i)
 | .Tuple es _ _=>(zk7 S es).bind fun is=>some (.tp is)
 | _=>none
section
variable {X:Cx}{S:Sx}{d:Nat}
theorem zm4 (C:CxOk X S d):∀(es:List Expr) {is:List Nat},zk7 S es=some is->PGs X es (zlz is)/\(assignEach es X.env).length=is.length/\(assignEach es X.env).findIdx? (·.1)=none:=by
  intro es
  induction es with
  | nil=>intro is h;obtain rfl:=sI h;exact ⟨zzg,rfl,rfl⟩
  | cons e es ih =>
    intro is h;obtain ⟨x,p,rfl⟩ : ∃x p,e=.Name x p:=by
      cases e with
      | Name x p=>exact ⟨x,p,rfl⟩
      | _=>exact noSome h
    refine aG fun _ qG=>?_;obtain ⟨i,hi,h⟩:=bS (show (S.wr x).bind _=_ from h);obtain ⟨is,his,h⟩:=bS h;refine qG ?_;clear qG;obtain rfl:=sI h;refine aG fun _ qG=>?_;obtain ⟨a,b,c⟩:=ih his;obtain ⟨w1,w2,w3⟩:=znk C hi;refine qG ?_;clear qG;refine ⟨zs5 (zoc (ndN C) w1 w2 w3) a rfl,congrArg (· + 1) b,?_⟩;show List.findIdx? (·.1) ((false,assign (.Name x p) X.env)::assignEach es X.env)=none;rw [List.findIdx?_cons,c]
    rfl
theorem zvj (C:CxOk X S d) {e:Expr}{T:Tg} (h:tgE S e=some T):PG X e (TGof X.K T):=by
 unfold tgE at h;split at h
 ·obtain ⟨i, hi, h⟩ := bS h;obtain rfl:=sI h;obtain ⟨w1,w2,w3⟩:=znk C hi;exact zoc (ndN C) w1 w2 w3
 ·obtain ⟨is, his, h⟩ := bS h;obtain rfl:=sI h;obtain ⟨a,b,c⟩:=zm4 C _ his;exact zx1 C.calm a b c
 ·exact noSome h
end
end L2
namespace L2
open PySem PySem.Spec PyProof.Rows
section
variable {X:Cx}{S:Sx}{d:Nat}
variable {pins:List (Addr × Obj)}{σ:St}{H F:Hp}{s:Shared}{pr:Prt}{en:En}
end
end L2
namespace L2
open PySem PySem.Spec PyProof.Rows
section
variable {prog:Program}{w:World}{A:Around}{E:Value->Shared->Prop}{s:Shared}
variable {I:Addr}{fp wr:List Addr}{n:Nat}{P:Nat->Value->Prop}{St:Nat->Heap->Prop}{R:Result->Shared->Prop}
end
section
variable {X:Cx}{S:Sx}{d:Nat}
end
end L2
namespace L2
open PySem PySem.Spec PyProof.Rows
noncomputable def rgV (n:Nat):List V:=(List.range n).map fun i=>V.int (i:Nat)
noncomputable def lrOk (j:Int):Bool:=zc8 j && decide (j<=16777216)
section
variable {X:Cx}
theorem zw5 {n:Nat}{acc:Array Value} (h:ItemsOf (fun i v=>∃t,v=Value.int (0+(i:Int) * 1) t) acc n):Vals (rgV n) acc.toList:=by
  obtain ⟨hz,hi⟩:=h;have hl:acc.toList.length=n:=by rw [Array.length_toList];exact hz
  have go:∀(l:List Value) (k:Nat),(∀(j:Nat) (v:Value),l[j]?=some v->∃t,v=Value.int ((k+j:Nat):Int) t)->Vals ((List.range' k l.length).map fun i=>V.int (i:Nat)) l:=by
    intro l
    induction l with
    | nil=>exact fun _ _=>.nil
    | cons v l ih =>
      intro k h;rw [List.length_cons,List.range'_succ,List.map_cons];refine .cons ?_ (ih (k+1) fun j u e=>?_)
      · obtain ⟨t, e⟩ := h 0 v rfl
        exact ⟨t,e⟩
      · obtain ⟨t, e⟩ := h (j + 1) u e
        exact ⟨t,by rw [e];congr 1;omega⟩
  have:=go acc.toList 0 fun j v e=>by
    obtain ⟨t,q⟩:=hi j v (by rw [<-Array.getElem?_toList];exact e);exact ⟨t,by rw [q];congr 1;omega⟩
  rw [hl] at this;unfold rgV;rw [List.range_eq_range'];exact this
theorem zt7 {K:PySem.W.Frag}{F:Hp} (n:Nat):Reps K F (rngW 0 n) (rgV n):=by
 have go:∀l:List Nat,Reps K F (l.map fun i=>W.int ((i:Nat):Int)) (l.map fun i=>V.int (i:Nat)):=by
  intro l
  induction l with
  | nil=>exact .nil
  | cons a l ih=>exact .cons (.int _) ih
 have e:rngW 0 n=(List.range n).map fun i=>W.int ((i:Nat):Int):=by
  unfold rngW;exact List.map_congr_left fun i _=>by rw [Int.zero_add]
 rw [e];exact go _
end
end L2
namespace L2
open PySem PySem.Spec PyProof.Rows
section
variable {X:Cx}{S:Sx}{d:Nat}
end
end L2
namespace L2
open PySem PySem.Spec PyProof.Rows
section
variable {K:PySem.W.Frag}{σ:St}{H:Hp}
end
noncomputable def zg0 (x:Expr->Option GE) (X:Cx):Prop:=∀e g,x e=some g->PE X e (tE X.K g)
section
variable {X:Cx}{S:Sx}{d:Nat}{fE:Sx->Expr->Option GE}
end
end L2
namespace L2
open PySem PySem.Spec PyProof.Rows
section
variable {K:PySem.W.Frag}{F H:Hp}
end
section
variable {X:Cx}{pins:List (Addr × Obj)}{σ:St}{H:Hp}{s:Shared}{a:Addr}
end
section
variable {K:PySem.W.Frag}{F H:Hp}{pr:Prt}{en:En}{σ:St}
end
theorem zjb {P:Nat->Value->Prop}{acc:Array Value}{n:Nat} (h:ItemsOf P acc n):acc.toList.length=n/\∀(j:Nat) (v:Value),acc.toList[j]?=some v->P j v :=
 ⟨by rw [Array.length_toList];exact h.1,fun j v e=>h.2 j v (by rw [<-Array.getElem?_toList];exact e)⟩
section
variable {X:Cx}
end
section
variable {X:Cx}
end
section
variable {X:Cx}{S:Sx}{d:Nat}{fE:Sx->Expr->Option GE}
end
section
variable {X:Cx}{S:Sx}{d:Nat}{fE:Sx->Expr->Option GE}
end
end L2
namespace L2
open PySem PySem.Spec PyProof.Rows
section
variable {X:Cx}{pins:List (Addr × Obj)}{σ:St}{H:Hp}{s:Shared}{a:Addr}{y:V}{u:Value}{A:Around}{E:Value->Shared->Prop}{Q:Value->Shared->Prop}
end
section
variable {K:PySem.W.Frag}{F H:Hp}{pr:Prt}{en:En}{σ:St}
end
section
variable {X:Cx}{S:Sx}{d:Nat}{f:Sx->Expr->Option GE}
end
end L2
namespace L2
open PySem PySem.Spec PyProof.Rows
section
variable {prog:Program}{w:World}{A:Around}{E:Value->Shared->Prop}{s:Shared}
variable {K:Type} [DecidableEq K]
variable {I:Addr}{fp wr:List Addr}{n:Nat}{P:Nat->Value->Prop}{St:Nat->Heap->Prop}{R:Result->Shared->Prop}
end
end L2
namespace L2
open PySem PySem.Spec PyProof.Rows
section
variable {prog:Program}{w:World}{A:Around}{E:Value->Shared->Prop}{s:Shared}
end
section
variable {X:Cx}{pins:List (Addr × Obj)}{σ:St}{H:Hp}{s:Shared}{A:Around}{E:Value->Shared->Prop}
end
section
variable {K:PySem.W.Frag}{F H:Hp}
end
section
variable {X:Cx}{S:Sx}{d:Nat}{fE:Sx->Expr->Option GE}
end
end L2
namespace L2
open PySem PySem.Spec PyProof.Rows
theorem zd5 {prog:Program}{w:World}{A:Around}{E:Value->Shared->Prop}{s:Shared}{Q:List Value->Shared->Prop}{T:String}{r d:Addr}{n:Nat}{P:Nat->Value->Prop}{OK:Heap->Prop} (C:PySem.W.KdlSrc prog w T r d n P OK) (hh:A.handled=none) (da:OK s.heap) (hz:n<=sizeLine)
    (hQ:∀(h' : Heap) (tk:Nat) (acc:Array Value),(∀b o,s.heap.get? b=some o->h'.get? b=some o)->ItemsOf P acc n->Q acc.toList { s with heap:=h',toks:=tk }) :
    wpAny (model prog w) A (collect (.ref r)) Q E s:=by
  obtain ⟨lr,lt⟩:=C.there _ da;unfold collect;refine wpAny_bind (wpAny_runValue (codeAny_builtin PySem.F.entry_proto_collect ?_));rw [Around.under_plainId PySem.F.plain_proto_collect _];show wpAny _ A.in1 (newList [] >>= fun l=>again (.builtin "list.__iadd__" ⟨[l,.ref r],[]⟩)) _ _ s;refine wpAny_bind (wpAny_newObj_type ?_);refine wpAny_pure ⟨plainId_quiet PySem.F.plain_list_iadd _,codeAny_builtin PySem.F.entry_list_iadd ?_⟩;rw [Around.under_plainId PySem.F.plain_list_iadd _];show wpAny _ A.in1 (Builtin.List.listExtendWith (.ref s.heap.objs.size) (.ref r) (.ref s.heap.objs.size)) _ _ _;have hS:(s.heap.push { cls:=.type "list",data:=.seq ([]:List Value).toArray }).get? s.heap.objs.size=some { cls:=.type "list",data:=.seq #[] 0 }:=Heap.get?_push_size _ rfl;refine wpAny_mono (PySem.W.kdl_extend (A:=A) (R:=fun res s'=>∃(h' : Heap) (tk:Nat) (acc:Array Value) (c' : Nat),res=.ok (.ret (.ref s.heap.objs.size))/\s'={ s with heap:=h',toks:=tk }/\(∀b o,s.heap.get? b=some o->h'.get? b=some o)/\h'.get? s.heap.objs.size=some { cls:=.type "list",dict:=none,data:=.seq acc c',slots:=#[] }/\ItemsOf P acc n)
    (s:={ s with heap:=s.heap.push { cls:=.type "list",data:=.seq ([]:List Value).toArray } }) C hh (C.keep _ _ da fun b _ o e=>Heap.get?_push_of_some _ e) s.heap.objs.size (Nat.ne_of_gt lr) (Nat.ne_of_gt lt) (.ref s.heap.objs.size) 0 hS (fun h' tk acc c' hk hS' hacc=>⟨h',tk,acc,c',rfl,rfl,fun b o e=>hk b o (Nat.ne_of_lt (Heap.lt_size e)) (Heap.get?_push_of_some _ e),hS',hacc⟩) hz) (fun fin s' h=>?_) (fun e s' h=>?_)
  · have fin' : ∀s',(∃(h' : Heap) (tk:Nat) (acc:Array Value) (c' : Nat),s'={ s with heap:=h',toks:=tk }/\(∀b o,s.heap.get? b=some o->h'.get? b=some o)/\h'.get? s.heap.objs.size=some { cls:=.type "list",dict:=none,data:=.seq acc c',slots:=#[] }/\ItemsOf P acc n)->wpAny (model prog w) A (match Value.ref s.heap.objs.size with
      | Value.ref a=>do
        match (<- load a).data with
          | Data.seq xs _=>pure xs.toList
          | _=>unsupported "internal:collect"
      | _=>unsupported "internal:collect") Q E s':=by
      rintro s' ⟨h',tk,acc,c',rfl,k1,k2,k3⟩;show wpAny _ A (load s.heap.objs.size >>= _) _ _ _;refine wpAny_bind (wpAny_load k2 ?_);exact wpAny_pure (hQ h' tk acc k1 k3)
    cases fin with
    | done f =>
      obtain ⟨h',tk,acc,c',e,r⟩:=h;cases e;exact fin' s' ⟨h',tk,acc,c',r⟩
    | again c'=>exact ⟨h.1,codeAny_mono h.2 fun r s'' hr=>by obtain ⟨h',tk,acc,c',rfl,q⟩:=hr;exact fin' s'' ⟨h',tk,acc,c',q⟩⟩
  · obtain ⟨h', tk, acc, c', e, r⟩ := h
    cases e
section
variable {X:Cx}{pins:List (Addr × Obj)}{σ:St}{H:Hp}
end
section
variable {X:Cx}
variable {S:Sx}{d:Nat}{fE:Sx->Expr->Option GE}
end
end L2
namespace L2
open PySem PySem.Spec PyProof.Rows
section
variable {prog:Program}{w:World}{A:Around}{E:Value->Shared->Prop}{s:Shared}
end
section
variable {X:Cx}{pins:List (Addr × Obj)}{σ:St}{H:Hp}{s:Shared}{A:Around}{E:Value->Shared->Prop}
end
section
variable {X:Cx}{S:Sx}{d:Nat}{fE:Sx->Expr->Option GE}
end
end L2
namespace L2
open PySem PySem.Spec PyProof.Rows
section
variable {X:Cx}
end
section
variable {K:PySem.W.Frag}{F H:Hp}{pr pb:Prt}{en:En}{σ:St}
end
section
variable {K:PySem.W.Frag}{mp:List Nat}{pb:Prt}{acc:Addr}
end
section
variable {X:Cx}{S:Sx}{d:Nat}{f:Sx->Expr->Option GE}
end
end L2
namespace L2
open PySem PySem.Spec PyProof.Rows
noncomputable def chW (x:Str):List W:=x.cps.toList.map fun c=>W.str ⟨#[c]⟩
noncomputable def seqS:W->Option (List W)
 | .str x=>some (chW x)
 | w=>seqW w
noncomputable def Its (x:Str):It:=⟨fun i _=>i < x.cps.size,fun i H v H'=>H'=H/\∃c,x.cps[i]?=some c/\v=.str ⟨#[c]⟩,fun i _=>x.cps.size<=i⟩
noncomputable def IteS (x:Str):It:=⟨fun i _=>i < x.cps.size,fun i H v H'=>∃p c,v=.ref p/\H p=none/\H'=upd H p (.tup [.int i,.str ⟨#[c]⟩])/\x.cps[i]?=some c,fun i _=>x.cps.size=i⟩
section
variable {prog:Program}{w:World}{A:Around}{E:Value->Shared->Prop}{s:Shared}
theorem zsb {it:Addr}{x:Str}{t:Tok}{i c:Nat}{Q:Option Value->Shared->Prop} (hit:s.heap.IsStrIter it (strIterType x) x t i) (hx:x.cps[i]?=some c)
  (hQ:∀h',h'.IsStrIter it (strIterType x) x t (i+1)->Heap.SameBut it s.heap h'->Q (some (.str ⟨#[c]⟩ s.toks)) { s with heap:=h',toks:=s.toks+1 }):wpAny (model prog w) A (pyNext (.ref it)) Q E s:=by
 revert hit hQ
 unfold strIterType;split
 ·exact fun hit hQ=>wpAny_pyNext_ascii_item hit hx hQ
 ·exact fun hit hQ=>wpAny_pyNext_wide_item hit hx hQ
theorem zwa {it:Addr}{x:Str}{t:Tok}{i:Nat}{Q:Option Value->Shared->Prop} (hh:A.handled=none) (hit:s.heap.IsStrIter it (strIterType x) x t i) (hx:x.cps[i]?=none)
  (hQ:∀h',Heap.ExtBut it s.heap h'->Q none { s with heap:=h' }):wpAny (model prog w) A (pyNext (.ref it)) Q E s:=by
 revert hit
 unfold strIterType;split
 ·exact fun hit=>wpAny_pyNext_ascii_end hh hit hx hQ
 ·exact fun hit=>wpAny_pyNext_wide_end hh hit hx hQ
theorem zsa {it:Addr}{x:Str}{t:Tok}{i:Nat}{Q:Value->Shared->Prop} (hit:s.heap.IsStrIter it (strIterType x) x t i) (h:Q (.ref it) s):wpAny (model prog w) A (pyIter (.ref it)) Q E s:=by
 revert hit
 unfold strIterType;split
 ·exact fun hit=>wpAny_pyIter_striter_ascii hit h
 ·exact fun hit=>wpAny_pyIter_striter_wide hit h
theorem zhi (hh:A.handled=none) (it:Addr) (x:Str) (t:Tok):Draws prog w A it [it] x.cps.size (fun i v=>∃c u,x.cps[i]?=some c/\v=.str ⟨#[c]⟩ u) (fun i h=>h.IsStrIter it (strIterType x) x t i):=by
 unfold strIterType;split
 ·exact Draws.strAscii hh it x t
 ·exact Draws.strWide hh it x t
theorem z0c (x:Str):["enumerate","zip","dict_itemiterator","dict_reverseitemiterator","odict_iterator","itertools.zip_longest","itertools.pairwise"].contains (strIterType x)=false:=by
 unfold strIterType;split<;>decide
end
theorem zud {P:Program}{w:World}{K:PySem.W.Frag}{tg:Expr} (x:Str) (t:Tok) (it:Addr):Turn P w K tg (Its x) [it] it (fun i h=>h.IsStrIter it (strIterType x) x t i) where
 mem:=by simp
 obj:=fun i h st b hb=>by
  have e:b=it:=by simpa using hb
  subst e;obtain ⟨o,e,c,d⟩:=st;exact ⟨o,e,fun v z=>by rw [d] at z;cases z⟩
 keep:=fun i h h' st k=>let ⟨o,e,r⟩:=st;⟨o,k it (by simp) o e,r⟩
 item:=by
  intro X hP hw hK hc i pins s σ H E I hf st hg;subst hP hw hK;have hg:i < x.cps.size:=hg;obtain ⟨f0,f1,f2,f3,f4,f5⟩:=hf it (by simp);have hx:x.cps[i]?=some x.cps[i]:=Array.getElem?_eq_getElem hg;refine zsb st hx fun h' st' sb=>?_;have I1:Inv X pins σ H { s with heap:=h',toks:=s.toks+1 }:=I.turned (t':=s.toks+1) (fun b o hb e=>(sb.2 b hb).trans e) f0 f1 f3 f4 f5;obtain ⟨o,e,c,d⟩:=id st';exact ⟨_,rfl,zpe (s:={ s with heap:=h',toks:=s.toks+1 }) e c d (z0c x) ⟨.str ⟨#[x.cps[i]]⟩,H,I1,⟨_,rfl⟩,⟨rfl,_,hx,rfl⟩,st',fun b hb=>(hf b hb).1⟩⟩
 done:=by
  intro X hP hw hK hc i pins s σ H E I hf st hg;subst hP hw hK;obtain ⟨f0,f1,f2,f3,f4,f5⟩:=hf it (by simp);exact zwa (I.ok.hd hc) st (Array.getElem?_eq_none hg) fun h' eb=>⟨rfl,I.turned (t':=s.toks) (fun b o hb e=>eb b o hb e) f0 f1 f3 f4 f5⟩
 self:=fun _ _ _ _ _ st h=>zsa st h
theorem zm1 {P:Program}{w:World}{K:PySem.W.Frag}{es:List Expr}{x1}{px:Pos} (x:Str) (t:Tok) (e it:Addr) (hei:e≠it):Turn P w K (.Tuple es x1 px) (IteS x) [e,it] e (fun i h=>(∃old,IsEnum h e it i old)/\h.IsStrIter it (strIterType x) x t i) where
 mem:=by simp
 obj:=fun i h st b hb=>by
  obtain ⟨⟨old,he⟩,o,hi,c,d⟩:=st;rcases List.mem_cons.mp hb with rfl | hb
  ·exact ⟨_,he,fun v z=>by cases z⟩
  ·have : b = it := by simpa using hb
   subst this;exact ⟨o,hi,fun v z=>by rw [d] at z;cases z⟩
 keep:=fun i h h' st k=>⟨let ⟨old,he⟩:=st.1;⟨old,k e (by simp) _ he⟩,let ⟨o,z,r⟩:=st.2;⟨o,k it (by simp) o z,r⟩⟩
 item:=by
  intro X hP hw hK hc i pins s σ H E I hf st hg;subst hP hw hK;obtain ⟨⟨old,he⟩,hit⟩:=st;refine wpAny_pyNext_enum_itemD (zhi (show X.A.in1.handled=none from I.ok.hd hc) it x t) he hit hg hei (by simp [hei]) fun y h' tk hy ho hst hT' hsz hk=>⟨_,rfl,?_⟩;refine aG fun _ qG=>?_;obtain ⟨c,u,hc,rfl⟩:=hy;refine qG ?_;clear qG;refine wpAny_letOwnedTupleGo_enum ho fun h'' he'' hs''=>?_;have kk:∀b o,b ∉ [e,it]->s.heap.get? b=some o->h''.get? b=some o:=fun b o hb q=>by
   have h1:b≠e:=fun z=>hb (by simp [z]);have h2:b≠it:=fun z=>hb (by simp [z]);exact (hs''.2 b h1).trans (hk b o h1 h2 q)
  have hTe:s.heap.objs.size≠e:=fun z=>absurd (Heap.lt_size he) (by rw [z];exact Nat.lt_irrefl _);have hit'' : h''.IsStrIter it (strIterType x) x t (i+1):=let ⟨o,z,r⟩:=hst;⟨o,(hs''.2 it hei.symm).trans z,r⟩;refine ⟨.ref s.heap.objs.size,upd H s.heap.objs.size (.tup [.int i,.str ⟨#[c]⟩]),I.turnLay kk (fun b hb=>?_) hf (Nat.le_refl _) ⟨by show 2<=sizeLine;decide,[.int i tk,.str ⟨#[c]⟩ u],.cons ⟨_,rfl⟩ (.cons ⟨_,rfl⟩ .nil),?_⟩,rfl,⟨_,c,rfl,I.hok.fresh (Nat.le_refl _),rfl,hc⟩,⟨⟨_,by simpa using he''⟩,hit''⟩,fun b hb=>?_⟩
  ·rcases List.mem_cons.mp hb with rfl | hb
   ·exact ⟨_,he''⟩
   ·have : b = it := by simpa using hb
    subst this;obtain ⟨o,z,_⟩:=hit'';exact ⟨o,z⟩
  ·exact ⟨_,(hs''.2 _ hTe).trans hT',rfl,_,rfl⟩
  ·have:b≠s.heap.objs.size:=by
    rcases List.mem_cons.mp hb with rfl | hb
    ·exact hTe.symm
    ·have e2 : b = it := by simpa using hb
     subst e2;obtain ⟨o,z,_⟩:=hit;exact Nat.ne_of_lt (Heap.lt_size z)
   rw [upd_ne this];exact (hf b hb).1
 done:=by
  intro X hP hw hK hc i pins s σ H E I hf st hg;subst hP hw hK;have hg:x.cps.size=i:=hg;subst hg;obtain ⟨⟨old,he⟩,hit⟩:=st;obtain ⟨f0,f1,f2,f3,f4,f5⟩:=hf it (by simp);exact wpAny_pyNext_enum_endD (zhi (show X.A.in1.handled=none from I.ok.hd hc) it x t) he hit fun h' eb=>⟨rfl,I.turned (t':=s.toks) (fun b o hb e=>eb b o hb e) f0 f1 f3 f4 f5⟩
 self:=fun _ _ _ _ _ st h=>let ⟨_,he⟩:=st.1;wpAny_pyIter_enum he h
theorem zgw (x:Str):(chW x).length=x.cps.size:=by unfold chW;simp
theorem zrr {x:Str}{i c:Nat} (h:x.cps[i]?=some c):(chW x)[i]?=some (W.str ⟨#[c]⟩):=by
 unfold chW;rw [List.getElem?_map,Array.getElem?_toList,h];rfl
section
variable {K:PySem.W.Frag}{F:Hp}
theorem z24 (x:Str):ItOk K F (Its x) (chW x) where
 go:=fun i H s hi=>by rw [zgw] at hi;exact hi
 stop:=fun H s=>by rw [zgw];exact Nat.le_refl _
 yld:=fun i H v H' s hi y=>by
  obtain ⟨e,c,hc,e2⟩:=y;subst e e2;exact ⟨_,zrr hc,.val (.str _)⟩
theorem zsr (x:Str):ItOk K F (IteS x) (zc9 (chW x) 0) where
 go:=fun i H s hi=>by rw [za5,zgw] at hi;exact hi
 stop:=fun H s=>by rw [za5,zgw];rfl
 yld:=fun i H v H' s hi y=>by
  obtain ⟨p,c,e,hp,e2,hc⟩:=y;subst e e2;refine ⟨_,zcu (zrr hc),?_⟩;rw [Nat.zero_add];exact .tup hp (.cons (.int _) (.cons (.str _) .nil))
end
section
variable {X:Cx}{tg:Expr}
noncomputable def z1u (K:PySem.W.Frag) (tl:TE):TI:=fun σ H R=>tl σ H fun v H1=>(∃x,v=.str x/\R (Its x) H1)\/∃a,v=.ref a/\((∃xs,SqL K H1 a xs)/\R (Itl K a) H1\/(∃xs,SqT K H1 a xs)/\R (Itt K a) H1)
theorem zwk {l:Expr}{tl:TE} (hl:PE X l tl):PI X tg l (z1u X.K tl):=fun pins s σ H R I h =>
 thn (hl pins s σ H _ I h) fun v s1 ⟨x,H1,I1,r1,q1⟩=>by
  have fp:∀b∈[s1.heap.objs.size],FpOk X pins H1 b:=fun b hb=>by
   rw [List.mem_singleton] at hb;subst hb;exact I1.fpOk (Nat.le_refl _) (I1.hok.fresh (Nat.le_refl _))
  rcases q1 with ⟨z,rfl,q⟩ | ⟨a,rfl,q1⟩
  ·obtain ⟨t, rfl⟩ := r1;exact wpAny_pyIter_strU ⟨_,_,_,_,H1,rfl,I1.kept (t':=s1.toks) fun b o e=>Heap.get?_push_of_some _ e,zud z t _,⟨_,Heap.get?_push_size _ rfl,rfl,rfl⟩,fp,q⟩
  ·cases r1;rcases q1 with ⟨⟨xs,hq⟩,q⟩ | ⟨⟨xs,hq⟩,q⟩
   ·obtain ⟨its, _, p, _⟩ := I1.list hq;exact wpAny_pyIter_list p.isList ⟨_,_,_,_,H1,rfl,I1.kept (t':=s1.toks) fun b o e=>Heap.get?_push_of_some _ e,zhx a _,⟨_,Heap.get?_push_size _ rfl,rfl,rfl⟩,fp,q⟩
   ·obtain ⟨its, _, p, _⟩ := I1.tuple hq;exact wpAny_pyIter_tuple (show s1.heap.IsTuple a its.toArray from p) ⟨_,_,_,_,H1,rfl,I1.kept (t':=s1.toks) fun b o e=>Heap.get?_push_of_some _ e,zfx a _,⟨_,Heap.get?_push_size _ rfl,rfl,rfl⟩,fp,q⟩
noncomputable def zu6 (ta:TA):TI:=fun σ H R=>ta σ H fun vs H1=>∃x,vs=[.str x]/\R (IteS x) H1
theorem zsy {es:List Expr}{x1}{px:Pos}{l:Expr}{tl:TA}{p pos:Pos} (hg:Gl X "enumerate") (hm:X.mg "enumerate" = none) (hl:PA X [l] tl) (hs:starEach [l] X.env=[(false,eval l X.env)]:=by rfl) :
  PI X (.Tuple es x1 px) (.Call (.Name "enumerate" p) [l] [] pos) (zu6 tl):=by
 intro pins s σ H R I h;refine Call_ (zcv I hg hm boot_enumerate (PyProof.Rows.callWith_type1 (thn (hl pos pins s σ H _ I h) fun us s1 ⟨vs,H1,I1,r1,q1⟩=>?_) hs rfl));obtain ⟨x,e,q⟩:=q1;subst e;obtain ⟨u,rfl,ru⟩:=r1.one;obtain ⟨t,rfl⟩:=ru;have fp:∀b∈[s1.heap.objs.size+1,s1.heap.objs.size],FpOk X pins H1 b:=fun b hb=>by
  have e:s1.heap.objs.size<=b:=by
   rcases List.mem_cons.mp hb with rfl | hb
   ·exact Nat.le_succ _
   ·have e2 : b = s1.heap.objs.size := by simpa using hb
    rw [e2];exact Nat.le_refl _
  exact I1.fpOk e (I1.hok.fresh e)
 refine call_enumerate_str fun h' he hit hsz hk=>wpAny_pyIter_enum he ?_;exact ⟨s1.heap.objs.size+1,[s1.heap.objs.size+1,s1.heap.objs.size],_,_,H1,rfl,I1.kept (t':=s1.toks) hk,zm1 x t _ _ (Nat.succ_ne_self _),⟨⟨_,by simpa using he⟩,hit⟩,fp,q⟩
end
noncomputable def zwm (g:GE):GL:=fun en=>(g en).bind fun p=>(seqS p.2.1).bind fun ws=>some (p.1,ws)
noncomputable def zpk (g:GE):GL:=fun en=>(g en).bind fun p=>match p.2.1 with
 | .str x=>some (p.1,zc9 (chW x) 0)
 | _=>none
section
variable {K:PySem.W.Frag}{σ:St}{H:Hp}
theorem Rep.isStr {F:Hp}{x:Str}{v:V} (h:Rep K F (.str x) v):v=.str x:=by cases h;rfl
theorem zn0 {g:GE}{R:It->Hp->Prop} (h:tI K (zwm g) σ H R):z1u K (tE K g) σ H R:=by
 refine aG fun _ qG=>?_;obtain ⟨F,pr,en,en',ws,Re,h,q⟩:=h;obtain ⟨⟨e1,rv⟩,h1,h⟩:=bS h;obtain ⟨us,hs,h⟩:=bS h;refine qG ?_;clear qG;cases h;refine ⟨F,pr,en,e1,rv,Re,h1,fun F1 H1 v s1 R1 z=>?_⟩;obtain ⟨F2,s2,R2,y⟩:=z.freeze R1;obtain ⟨w,fl⟩:=rv;by_cases hw:∃x,w=.str x
 ·obtain ⟨x, rfl⟩ := hw;obtain rfl:=sI hs;exact .inl ⟨x,y.isStr,q F2 H1 _ (s1.trans s2) R2 (z24 x)⟩
 ·have hs:seqW w=some ws:=by
   cases w with
   | str x=>exact absurd ⟨x,rfl⟩ hw
   | _=>exact hs
  refine aG fun _ qG=>?_;obtain ⟨a,k,vs,e,hq,r⟩:=zet y hs;refine qG ?_;clear qG;refine .inr ⟨a,e,?_⟩;cases k with
  | true=>exact .inl ⟨⟨vs,R2.sub.seq hq⟩,q F2 H1 _ (s1.trans s2) R2 (zg4 hq r)⟩
  | false=>exact .inr ⟨⟨vs,zbl R2.sub hq⟩,q F2 H1 _ (s1.trans s2) R2 (zve hq r)⟩
theorem znj {g:GE}{R:It->Hp->Prop} (h:tI K (zpk g) σ H R):zu6 (zdd (tE K g) tNil) σ H R:=by
  refine aG fun _ qG=>?_;obtain ⟨F,pr,en,en',ws,Re,h,q⟩:=h;obtain ⟨⟨e1,w,fl⟩,h1,h⟩:=bS h;refine qG ?_;clear qG;cases w with
  | str x =>
    cases h;refine ⟨F,pr,en,e1,(.str x,fl),Re,h1,fun F1 H1 v s1 R1 z=>?_⟩;obtain ⟨F2,s2,R2,y⟩:=z.freeze R1;exact ⟨x,by rw [y.isStr],q F2 H1 _ (s1.trans s2) R2 (zsr x)⟩
  | _=>exact noSome h
end
noncomputable def tN (S:Sx):Expr->Bool
 | .Name x _=>S.bn.contains ("t "++x:Str)
 | .Call (.Name x _) _ _ _=>S.bn.contains ("t "++x:Str)
 | _=>false
noncomputable def zyd (f:Sx->Expr->Option GE) (S:Sx) (tg e:Expr):Option GL:=match e with
  | .Name x p=>if tN S (.Name x p) then (f S (.Name x p)).bind fun g=>some (zwm g) else none
  | .Call (.Name x _) [.Name y q] [] _=>(match tg with
    | .Tuple _ _ _=>if x == ("enumerate" : Str) && S.bl x && tN S (.Name y q) then (f S (.Name y q)).bind fun g=>some (zpk g) else none
    | _=>none)
  | _=>none
noncomputable def zn4 (f:Sx->Expr->Option GE) (S:Sx) (tg e:Expr):Option GL:=match zyd f S tg e with
 | some g=>some g
 | none=>zxv f S tg e
section
variable {X:Cx}{S:Sx}{d:Nat}{f:Sx->Expr->Option GE}
theorem zr2 (Hf:zbh f) (C:CxOk X S d) {tg e:Expr}{g:GL} (h:zyd f S tg e=some g):PI X tg e (tI X.K g)/\∀x,foldedSetIterable e X.env x=pure x:=by
 unfold zyd at h;split at h
 ·split at h
  ·obtain ⟨ge, hg, h⟩ := bS h;obtain rfl:=sI h;exact ⟨(zwk (Hf X S d C _ _ hg)).wk fun _ _ _=>zn0,zfa rfl⟩
  ·exact noSome h
 ·split at h
  ·split at h
   ·rename_i z;rw [Bool.and_eq_true,Bool.and_eq_true] at z;have e1:=eq_of_beq z.1.1;subst e1;obtain ⟨gl,mg⟩:=zdr C z.1.2;obtain ⟨ge,hg,h⟩:=bS h;obtain rfl:=sI h;exact ⟨(zsy gl mg (pac (Hf X S d C _ _ hg) zdi rfl) (zaf rfl)).wk fun _ _ _=>znj,zfa rfl⟩
   ·exact noSome h
  ·exact noSome h
 ·exact noSome h
theorem zlw (Hf:zbh f) (C:CxOk X S d) {tg e:Expr}{g:GL} (h:zn4 f S tg e=some g):PI X tg e (tI X.K g)/\∀x,foldedSetIterable e X.env x=pure x:=by
 unfold zn4 at h;split at h
 ·rename_i q;obtain rfl:=sI h;exact zr2 Hf C q
 ·exact zsu Hf C h
end
noncomputable def zn6:ON
 | [.str x]=>if x.length<=sizeLine then some (.int x.length,false) else none
 | ws=>oLen ws
noncomputable def zek:ON
 | [.str x]=>if (reprText x).length<=sizeLine then some (.str (reprText x),false) else none
 | ws=>zkg ws
noncomputable def oIxS:O2
 | .str x,.int i=>if x.length<=sizeLine then (atI x.cps.toList i).bind fun c=>some (.str ⟨#[c]⟩,false) else none
 | _,_=>none
noncomputable def inS2 (x y:Str):Bool:=!(Builtin.Str.occurrences y x 0 y.length 1).isEmpty
noncomputable def oInS (neg:Bool):O2:=fun a b=>match a,b with
 | .str x,.str y=>some (.bl (if neg then !inS2 x y else inS2 x y),false)
 | a,b=>oIn neg a b
noncomputable def zee:List W->Option (List Str)
 | []=>some []
 | .str x::ws=>(zee ws).bind fun xs=>some (x::xs)
 | _=>none
noncomputable def zny (x:Str) (g:GE):GE:=fun en=>(g en).bind fun p=>match p.2.1 with
 | .lst ws=>(zee ws).bind fun ys=>if (ys.map (·.length)).sum+ys.length * x.length<=16777216 then some (p.1,(.str (Txt.join x ys),false)) else none
 | _=>none
section
variable {K:PySem.W.Frag}
theorem zti:OpSN K (fun xs H Q=>(∃z,xs=[.str z]/\z.length<=sizeLine/\Q (.int z.length) H)\/∃p ys,xs=[.ref p]/\(SqL K H p ys\/SqT K H p ys)/\Q (.int ys.length) H) zn6:=fun F H ws vs rv Q s r e q=>by
 by_cases hw:∃x,ws=[.str x]
 ·obtain ⟨x, rfl⟩ := hw;have e:(if x.length<=sizeLine then some (W.int x.length,false) else none)=some rv:=e;split at e
  ·rename_i z;obtain rfl:=sI e;obtain ⟨v,e1,h⟩:=r.one;subst e1;exact .inl ⟨x,by rw [h.str],z,q _ _ (.val (.int _))⟩
  ·exact noSome e
 ·refine .inr (oLen_ok F H ws vs rv Q s r ?_ q);unfold zn6 at e;split at e
  ·exact absurd ⟨_,rfl⟩ hw
  ·exact e
theorem zo7:OpSN K (fun xs H Q=>(∃z,xs=[.str z]/\(reprText z).length<=sizeLine/\Q (.str (reprText z)) H)\/zog xs H Q) zek:=fun F H ws vs rv Q s r e q=>by
 by_cases hw:∃x,ws=[.str x]
 ·obtain ⟨x, rfl⟩ := hw;have e:(if (reprText x).length<=sizeLine then some (W.str (reprText x),false) else none)=some rv:=e;split at e
  ·rename_i z;obtain rfl:=sI e;obtain ⟨v,e1,h⟩:=r.one;subst e1;exact .inl ⟨x,by rw [h.str],z,q _ _ (.val (.str _))⟩
  ·exact noSome e
 ·refine .inr (oRepr_ok F H ws vs rv Q s r ?_ q);unfold zek at e;split at e
  ·exact absurd ⟨_,rfl⟩ hw
  ·exact e
theorem zym:OpS K rIxS oIxS:=fun F H w1 w2 v1 v2 rv Q s r1 r2 e q=>by
  cases w1 with
  | str x =>
    cases w2 with
    | int i =>
      have e:(if x.length<=sizeLine then (atI x.cps.toList i).bind fun c=>some (W.str ⟨#[c]⟩,false) else none)=some rv:=e;split at e
      · rename_i z
        obtain ⟨c,hc,e⟩:=bS e;obtain rfl:=sI e;exact ⟨x,i,c,r1.str,r2.int,z,hc,q _ _ (.val (.str _))⟩
      · exact noSome e
    | _=>exact noSome e
  | _=>exact noSome e
noncomputable def rInS (neg:Bool):R2:=fun x y H Q=>∃i j,x=.str i/\y=.str j/\Q (.bl (if neg then !inS2 i j else inS2 i j)) H
theorem zqn (neg:Bool):OpS K (fun x y H Q=>rIn K neg x y H Q\/rInS neg x y H Q) (oInS neg):=fun F H w1 w2 v1 v2 rv Q s r1 r2 e q=>by
 unfold oInS at e;split at e
 ·obtain rfl := sI e;exact .inr ⟨_,_,r1.str,r2.str,q _ _ (.val (.bl _))⟩
 ·exact .inl (zo9 neg F H w1 w2 v1 v2 rv Q s r1 r2 e q)
end
theorem znu {X:Cx}:zbj X (.builtin "repr") (fun xs H Q=>∃z,xs=[.str z]/\(reprText z).length<=sizeLine/\Q (.str (reprText z)) H):=by
 intro pins s σ H xs us Q I r h;obtain ⟨z,rfl,hz,q⟩:=h;obtain ⟨u,rfl,ru⟩:=r.one;obtain ⟨t,rfl⟩:=ru;exact PySem.P.repr_of_str ⟨.str _,H,I.tok _,⟨_,rfl⟩,q⟩ hz
theorem z13 {X:Cx}:OpR X (compareOp .In) (rInS false):=fun pins s σ H x y v u Q I rx ry h=>zqv pins s σ H x y v u Q I rx ry h
theorem zpv {X:Cx}:OpR X (compareOp .NotIn) (rInS true):=fun pins s σ H x y v u Q I rx ry h=>zi2 pins s σ H x y v u Q I rx ry h
noncomputable def z2a:V->List V->Hp->VK->Prop:=fun x vs H Q=>∃(z:Str) (a:Addr) (ys:List Str),x=.str z/\vs=[.ref a]/\H a=some (.lst (ys.map V.str))/\(ys.map (·.length)).sum+ys.length * z.length<=16777216/\Q (.str (Txt.join z ys)) H
theorem zmr:∀{ys:List Str}{its:List Value},Vals (ys.map V.str) its->StrsAre its ys:=by
  intro ys
  induction ys with
  | nil=>intro its r;cases r;exact .nil
  | cons y ys ih =>
    intro its r;cases r with
    | cons h r =>
      obtain ⟨t,rfl⟩:=h;exact .cons _ _ (ih r)
theorem zyi {X:Cx}:MtR X "str.join" z2a:=by
 intro pins s σ H x vs v us Q I rx rv h;obtain ⟨z,a,ys,rfl,rfl,hH,hz,q⟩:=h;obtain ⟨t,rfl⟩:=rx;obtain ⟨u,rfl,ru⟩:=rv.one;cases ru;obtain ⟨z9,its,n,r,hl,e⟩:=I.lstM hH;exact join_list ⟨_,e,rfl,n,rfl⟩ (zmr r) hz fun t' k=>⟨.str _,H,I.tok _,⟨_,rfl⟩,q⟩
section
variable {K:PySem.W.Frag}{σ:St}{H:Hp}
theorem zkv {F:Hp}:∀{ws:List W}{ys:List Str}{vs:List V},zee ws=some ys->Reps K F ws vs->vs=ys.map V.str:=by
  intro ws
  induction ws with
  | nil=>intro ys vs e r;obtain rfl:=sI e;cases r;rfl
  | cons w ws ih =>
    intro ys vs e r;cases w with
    | str x =>
      obtain ⟨xs,h1,h2⟩:=bS (show (zee ws).bind _=_ from e);obtain rfl:=sI h2;cases r with
      | cons h r=>rw [h.isStr,ih h1 r];rfl
    | _=>exact noSome e
theorem zou {x:Str}{g:GE}{Q:VK} (h:tE K (zny x g) σ H Q):tBM K "str" z2a (tC (.str x)) (zdd (tE K g) tNil) σ H Q:=by
  refine aG fun _ qG=>?_;obtain ⟨F,pr,en,en',r,R,h,q⟩:=h;obtain ⟨⟨e1,w1,f1⟩,h1,h⟩:=bS h;refine qG ?_;clear qG;cases w1 with
  | lst ws =>
    obtain ⟨ys,hy,h⟩:=bS (show (zee ws).bind _=_ from h);split at h
    · rename_i hz
      cases h;refine ⟨rfl,F,pr,en,e1,(.lst ws,f1),R,h1,fun F1 H1 v1 s1 R1 y1=>?_⟩;obtain ⟨F2,s2,R2,y2⟩:=y1.freeze R1;obtain ⟨a,vs,ea,hl,rr⟩:=RepB.lst R2.sub (.inl y2);subst ea;refine ⟨x,a,ys,rfl,rfl,?_,hz,q F2 H1 _ (s1.trans s2) R2 (.str _)⟩;rw [<-zkv hy rr];exact hl
    · exact noSome h
  | _=>exact noSome h
end
section
open PySem.AutoSeq1 (wpAny_loadPart')
end
section
variable {X:Cx}{S:Sx}{d:Nat}{fE:Sx->Expr->Option GE}
noncomputable def zki (fE:Sx->Expr->Option GE) (S:Sx):Expr->Option GE
 | .Call (.Attribute (.Constant (.str x) _ _) name apos) [e] [] cpos=>if name == ("join" : Str) && (apos.endLine == cpos.line) && zag e then (fE S e).bind fun g=>some (zny x g) else none
 | _=>none
theorem zmq (HE:zbh fE) (C:CxOk X S d):zg0 (zki fE S) X:=fun e g h=>by
 unfold zki at h;split at h
 ·split at h
  ·rename_i z;rw [Bool.and_eq_true,Bool.and_eq_true] at z;obtain ⟨⟨z1,z2⟩,y⟩:=z;have e1:=eq_of_beq z1;subst e1;obtain ⟨g1,hg1,h⟩:=bS h;obtain rfl:=sI h;exact (z27 PySem.F.plainAttrs_str PySem.F.slot_str_join PySem.F.type_str_join zyi zu0 (pac (HE X S d C _ _ hg1) zdi y) (zo6 rfl) (zov y) z2 (zaf y) rfl).wk fun _ _ _=>zou
  ·exact noSome h
 ·exact noSome h
noncomputable def zq5 (fE:Sx->Expr->Option GE) (S:Sx):Expr->Option GE
 | .Subscript (.Constant (.str x) k p) s _=>if zcb s && zag s then (za6 fE S (.Constant (.str x) k p)).bind fun x=>(za6 fE S s).bind fun y=>some (gOp2 oIxS x y) else none
 | _=>none
theorem zoj (HE:zbh fE) (C:CxOk X S d):zg0 (zq5 fE S) X:=fun e g h=>by
 unfold zq5 at h;split at h
 ·split at h
  ·rename_i z;rw [Bool.and_eq_true] at z;obtain ⟨x,hx,h⟩:=bS h;obtain ⟨y,hy,h⟩:=bS h;obtain rfl:=sI h;exact (z1g z2s (zad HE C hx) (zad HE C hy) (zf6 z.1)).wk fun _ _ _=>zb8 zym
  ·exact noSome h
 ·exact noSome h
noncomputable def zk4 (fE:Sx->Expr->Option GE) (S:Sx):Expr->Option GE
 | .Call (.Name x _) [e] [] _=>if tN S e && S.bl x && zag e then (if x == ("len" : Str) then (asL (za6 fE S) [e]).bind fun as=>some (gOpN zn6 as) else if x == ("repr" : Str) then (asL (za6 fE S) [e]).bind fun as=>some (gOpN zek as) else none) else none
 | _=>none
theorem zne (HE:zbh fE) (C:CxOk X S d):zg0 (zk4 fE S) X:=fun e g h=>by
 unfold zk4 at h;split at h
 ·split at h
  ·rename_i z;rw [Bool.and_eq_true,Bool.and_eq_true] at z;obtain ⟨gl,m⟩:=zdr C z.1.2;split at h
   ·rename_i z1;have e1:=eq_of_beq z1;subst e1;obtain ⟨as,has,h⟩:=bS h;obtain rfl:=sI h;obtain ⟨pa,_⟩:=zde (fun e a ha=>zad HE C ha) has;exact (zaz (ziq.or zeb) gl m zvd pa (by decide) (by decide) (zaf z.2) rfl).wk fun _ _ _=>zhg zti
   ·split at h
    ·rename_i z1;have e1:=eq_of_beq z1;subst e1;obtain ⟨as,has,h⟩:=bS h;obtain rfl:=sI h;obtain ⟨pa,_⟩:=zde (fun e a ha=>zad HE C ha) has;exact (zaz (znu.or (zi6 C.room)) gl m zn8 pa (by decide) (by decide) (zaf z.2) rfl).wk fun _ _ _=>zhg zo7
    ·exact noSome h
  ·exact noSome h
 ·exact noSome h
noncomputable def cmpS (f:Sx->Expr->Option GE) (S:Sx) (a:Expr) (ops:List CmpOp) (cs:List Expr):Option GE:=match ops,cs with
 | [op],[b]=>if tN S b then (match op with | .In=>some false | .NotIn=>some true | _=>none).bind fun n=>if behindInMarks op b then none else (za6 f S a).bind fun x=>(za6 f S b).bind fun y=>some (gOp2 (oInS n) x y) else none
 | _,_=>none
theorem zwd (Hf:zbh fE) (C:CxOk X S d) {a:Expr}{ops:List CmpOp}{cs:List Expr}{g:GE}{pos:Pos} (h:cmpS fE S a ops cs=some g):PE X (.Compare a ops cs pos) (tE X.K g)/\PT X (.Compare a ops cs pos) (tT X.K (zai g)):=by
 unfold cmpS at h;split at h
 ·rename_i op b;split at h
  ·obtain ⟨n, hn, h⟩ := bS h;split at h
   ·exact noSome h
   ·rename_i z;obtain ⟨x,hx,h⟩:=bS h;obtain ⟨y,hy,h⟩:=bS h;obtain rfl:=sI h;have h1:OpR X (compareOp op) (fun x y H Q=>rIn X.K n x y H Q\/rInS n x y H Q):=by
     cases op with
     | In=>obtain rfl:=sI hn;exact .or zhq z13
     | NotIn=>obtain rfl:=sI hn;exact .or zej zpv
     | _=>exact noSome hn
    rw [Bool.not_eq_true] at z;exact ⟨(zq3 h1 (zad Hf C hx) (zad Hf C hy) z).wk fun _ _ _=>zb8 (zqn n),(zpz h1 (zad Hf C hx) (zad Hf C hy) z).wk fun _ _ _=>zfm fun _ _ _=>zb8 (zqn n)⟩
  ·exact noSome h
 ·exact noSome h
noncomputable def cmpZ (f:Sx->Expr->Option GE) (S:Sx) (a:Expr) (ops:List CmpOp) (cs:List Expr):Option GE:=match cmpS f S a ops cs with
 | some g=>some g
 | none=>cmpE f S a ops cs
theorem zqs (Hf:zbh fE) (C:CxOk X S d) {a:Expr}{ops:List CmpOp}{cs:List Expr}{g:GE}{pos:Pos} (h:cmpZ fE S a ops cs=some g):PE X (.Compare a ops cs pos) (tE X.K g)/\PT X (.Compare a ops cs pos) (tT X.K (zai g)):=by
 unfold cmpZ at h;split at h
 ·rename_i q;obtain rfl:=sI h;exact zwd Hf C q
 ·exact zwq Hf C h
end
set_option maxHeartbeats 1000000
section
variable {prog:Program}{w:World}{A:Around}{E:Value->Shared->Prop}{s:Shared}
end
end L2
namespace L2
open PySem PySem.Spec PyProof.Rows
section
variable {prog:Program}{w:World}{A:Around}{E:Value->Shared->Prop}{s:Shared}
end
section
variable {X:Cx}{S:Sx}{d:Nat}{fE:Sx->Expr->Option GE}
end
theorem zzo:bootBuiltins "set" = some (.type "set"):=by decide +kernel
section
variable {X:Cx}{S:Sx}{d:Nat}{fE:Sx->Expr->Option GE}
end
end L2
namespace L2
open PySem PySem.Spec PyProof.Rows
namespace SetT
noncomputable def Ris (xs:Array Nat):Prop:=∀i j,i < j->j < xs.size->xs.getD i 0 < xs.getD j 0
theorem zwj {xs:Array Nat}{i j:Nat} (h:i < xs.size):xs.getD i j=xs.getD i 0:=by
 unfold Array.getD;rw [dif_pos h,dif_pos h]
theorem zg1 (xs:Array Nat) (j:Nat) (R:Ris xs):∀(fuel lo hi:Nat),hi - lo<=fuel->lo<=hi->hi<=xs.size->(∀i,i < lo->xs.getD i 0 < j)->(∀i,hi<=i->i < xs.size->j<=xs.getD i 0) ->
    SetTable.below.go xs j fuel lo hi<=xs.size/\(∀i,i < SetTable.below.go xs j fuel lo hi->xs.getD i 0 < j)/\∀i,SetTable.below.go xs j fuel lo hi<=i->i < xs.size->j<=xs.getD i 0
  | 0,lo,hi,h1,h2,h3,a,b=>by
    unfold SetTable.below.go;have e:lo=hi:=by omega
    subst e;exact ⟨h3,a,b⟩
  | fuel+1,lo,hi,h1,h2,h3,a,b=>by
    unfold SetTable.below.go;by_cases c:lo < hi
    · rw [if_pos c]
      have m1:(lo+hi) / 2 < hi:=by omega
      have m2:lo<=(lo+hi) / 2:=by omega
      dsimp only;rw [zwj (j:=j) (by omega)];by_cases d:xs.getD ((lo+hi) / 2) 0 < j
      · rw [if_pos d]
        refine zg1 xs j R fuel _ _ (by omega) (by omega) h3 (fun i hi'=>?_) b;by_cases e:i=(lo+hi) / 2
        · rw [e];exact d
        · have := R i ((lo + hi) / 2) (by omega) (by omega)
          omega
      · rw [if_neg d]
        refine zg1 xs j R fuel _ _ (by omega) (by omega) (by omega) a fun i hi' hs=>?_;by_cases e:i=(lo+hi) / 2
        · rw [e];omega
        · have := R ((lo + hi) / 2) i (by omega) hs
          omega
    · rw [if_neg c]
      have e:lo=hi:=by omega
      subst e;exact ⟨h3,a,b⟩
theorem below_ok {xs:Array Nat} (R:Ris xs) (j:Nat):SetTable.below xs j<=xs.size/\(∀i,i < SetTable.below xs j->xs.getD i 0 < j)/\∀i,SetTable.below xs j<=i->i < xs.size->j<=xs.getD i 0:=zg1 xs j R xs.size 0 xs.size (by omega) (by omega) (Nat.le_refl _) (fun i h=>absurd h (Nat.not_lt_zero i)) fun i h1 h2=>by omega
structure Ok (t:SetTable):Prop where
 ris:Ris t.place
 dum:t.dummies=#[]
theorem fresh_ok (f m:Nat) (l:Bool):Ok (.fresh f m l):=⟨fun i j h1 h2=>absurd h2 (Nat.not_lt_zero j),rfl⟩
theorem zot (n:Nat):Ris (Array.range n):=fun i j h1 h2=>by
 rw [Array.size_range] at h2;have e:∀k,k < n->(Array.range n).getD k 0=k:=fun k hk=>by
  unfold Array.getD;rw [dif_pos (by rw [Array.size_range];exact hk)];simp
 rw [e i (by omega),e j h2];exact h1
theorem zdq (t:SetTable) (n:Nat):Ok (t.standIn n)/\(t.standIn n).led=t.led:=⟨⟨zot n,rfl⟩,rfl⟩
theorem zvf {t:SetTable} (h:Ok t) (j:Nat):SetTable.has t.dummies j=false:=by
 rw [h.dum];unfold SetTable.has
 rfl
theorem zms {t:SetTable} (h:Ok t) {j:Nat} (e:t.slot j=.empty):t.place[SetTable.below t.place j]?≠some j:=fun z=>by
 unfold SetTable.slot at e;dsimp only at e;rw [z] at e;simp at e
theorem zo8 {t:SetTable} (h:Ok t) (j:Nat):t.slot j≠.dummy:=fun z=>by
 unfold SetTable.slot at z;rw [zvf h] at z;dsimp only at z;split at z
 ·cases z
 ·simp at z
theorem zlk {t:SetTable} (h:Ok t) (f:Nat->Int) (x:Int):∀(fuel:Nat) (p:SetTable.Probe) (j:Nat) (d:Option Nat),p.dummy=none->SetTable.probe.go t f x fuel p=some (.empty j d)->t.slot j=.empty/\d=none
  | 0,p,j,d,_,e=>by unfold SetTable.probe.go at e;cases e
  | fuel+1,p,j,d,pd,e=>by
    unfold SetTable.probe.go at e;have ad:(t.advance p).dummy=none:=by
      unfold SetTable.advance;split
      · exact pd
      · exact pd
    cases q:t.slot p.j with
    | empty =>
      rw [q] at e;injection e with e;injection e with e1 e2;subst e1;exact ⟨q,by rw [<-e2];exact pd⟩
    | dummy=>exact absurd q (zo8 h _)
    | live i =>
      rw [q] at e;dsimp only at e;split at e
      · injection e with e;cases e
      · exact zlk h f x fuel _ j d ad e
theorem zwx {t:SetTable} (h:Ok t) {x:Int}{s:Nat}{b:Bool} (e:t.freeSlot x=some (s,b)):t.slot s=.empty:=by
  unfold SetTable.freeSlot at e;cases q:t.probe (fun _=>x+1) x (t.probeStart x) with
  | none=>rw [q] at e;cases e
  | some m =>
    rw [q] at e;cases m with
    | candidate _ _ _=>cases e
    | empty j d =>
      obtain ⟨h1,h2⟩:=zlk h _ x _ _ j d rfl q;subst h2;injection e with e;injection e with e1 e2;rw [<-e1];exact h1
theorem zpm {xs:Array Nat}:Ris xs↔xs.toList.Pairwise (· < ·):=by
 rw [List.pairwise_iff_getElem];have g:∀i (h:i < xs.size),xs.getD i 0=xs.toList[i]'(by rw [Array.length_toList];exact h):=fun i h=>by
  unfold Array.getD;rw [dif_pos h];simp
 constructor
 ·intro R i j hi hj h;rw [Array.length_toList] at hi hj;rw [<-g i hi,<-g j hj];exact R i j h hj
 ·intro R i j h hj;rw [g i (by omega),g j hj];exact R i j _ _ h
theorem z03 {xs:Array Nat}{i:Nat}{x:Nat} (h:xs.toList[i]?=some x):i < xs.size/\xs.getD i 0=x:=by
 obtain ⟨h1,h2⟩:=List.getElem?_eq_some_iff.mp h;rw [Array.length_toList] at h1;refine ⟨h1,?_⟩;unfold Array.getD;rw [dif_pos h1];simpa using h2
theorem zg9 {α:Type} (xs:Array α) (p:Nat) (x:α):(SetTable.insertAt xs p x).toList=xs.toList.take p++[x]++xs.toList.drop p:=by
 unfold SetTable.insertAt;rw [Array.toList_append,Array.toList_push,Array.toList_extract,Array.toList_extract];simp;exact List.take_of_length_le (by rw [List.length_drop,Array.length_toList];exact Nat.le_refl _)
theorem zyw {xs:Array Nat} (R:Ris xs) {j:Nat} (hn:xs[SetTable.below xs j]?≠some j):Ris (SetTable.insertAt xs (SetTable.below xs j) j):=by
 obtain ⟨b1,b2,b3⟩:=below_ok R j;have P:=zpm.mp R;rw [zpm,zg9];generalize SetTable.below xs j=p at *
 have lo:∀x∈xs.toList.take p,x < j:=fun x hx=>by
  obtain ⟨i,hi⟩:=List.getElem?_of_mem hx;have li:i < p:=by
   have:=(List.getElem?_eq_some_iff.mp hi).1;rw [List.length_take] at this;omega
  rw [List.getElem?_take,if_pos li] at hi;obtain ⟨_,e⟩:=z03 hi;rw [<-e];exact b2 i li
 have up:∀x∈xs.toList.drop p,j < x:=fun x hx=>by
  obtain ⟨i,hi⟩:=List.getElem?_of_mem hx;rw [List.getElem?_drop] at hi;obtain ⟨l,e⟩:=z03 hi;have ge:=b3 (p+i) (by omega) l;rw [e] at ge;rcases Nat.lt_or_eq_of_le ge with h | h
  ·exact h
  ·exfalso;by_cases z:i=0
   ·subst z;apply hn;rw [Array.getElem?_toList] at hi;rw [<-h] at hi;simpa using hi
   ·have r := R p (p + i) (by omega) l;have g:=b3 p (Nat.le_refl _) (by omega);rw [e] at r;omega
 rw [List.pairwise_append,List.pairwise_append];refine ⟨⟨P.sublist (List.take_sublist _ _),List.pairwise_singleton _ _,fun a ha b hb=>by rw [List.mem_singleton.mp hb];exact lo a ha⟩,P.sublist (List.drop_sublist _ _),fun a ha b hb=>?_⟩;rcases List.mem_append.mp ha with ha | ha
 ·exact Nat.lt_trans (lo a ha) (up b hb)
 ·rw [List.mem_singleton.mp ha];exact up b hb
theorem put_ok {t:SetTable} (h:Ok t) {j:Nat} (e:t.slot j=.empty):Ok (t.put j).1/\(t.put j).1.led=t.led:=by
 refine ⟨⟨zyw h.ris (zms h e),?_⟩,rfl⟩;show (if SetTable.has t.dummies j then _ else t.dummies)=#[];rw [zvf h,if_neg Bool.false_ne_true,h.dum]
theorem z4l {t t0:SetTable} (h:Ok t/\t.led=t0.led) (n:Nat):Ok (t.orStandIn n)/\(t.orStandIn n).led=t0.led:=by
 unfold SetTable.orStandIn;split
 ·exact h
 ·exact ⟨(zdq t n).1,(zdq t n).2.trans h.2⟩
theorem z1z {t:SetTable} (h:Ok t) (es:Array (Int × Value)) (x:Int) (v:Value):Ok (layNew t es x v).2.1/\(layNew t es x v).2.1.led=t.led:=by
  unfold layNew;cases q:t.freeSlot x with
  | none=>exact zdq t _
  | some p =>
    obtain ⟨s,b⟩:=p;exact z4l (put_ok h (zwx h q)) _
theorem zxt {mask f m:Nat}{l pl:Bool}{hs:Array Int}{t:SetTable}{o:Array Nat} (e:SetTable.laid mask f m l pl hs=some (t,o)):Ok t/\t.led=l:=by
 unfold SetTable.laid at e;obtain ⟨ow,_,e⟩:=bS e;have e:=sI e;obtain ⟨rfl,_⟩:=Prod.mk.inj e;refine ⟨⟨?_,rfl⟩,rfl⟩;rw [zpm];show (((List.range (mask+1)).filterMap fun j=>(ow.getD j none).map (j,·)).map (·.1)).Pairwise (· < ·);rw [List.pairwise_map,List.pairwise_filterMap];refine List.pairwise_lt_range.imp fun {a b} h x hx y hy=>?_;obtain ⟨u,_,rfl⟩:=Option.map_eq_some_iff.mp hx;obtain ⟨w,_,rfl⟩:=Option.map_eq_some_iff.mp hy;exact h
theorem relay_ok {t:SetTable} (es:Array (Int × Value)) (n:Nat):Ok (relayAll t es n).2.1/\(relayAll t es n).2.1.led=t.led:=by
  unfold relayAll;cases q:t.relaid (es.map (·.1)) n with
  | none=>exact zdq t _
  | some p =>
    obtain ⟨t',o⟩:=p;dsimp only;split
    · exact zxt q
    · exact zdq t _
noncomputable abbrev HT:=Array Int × SetTable
noncomputable def dmy (H:Array Int):Array (Int × Value):=H.map fun x=>(x,Value.none)
theorem dmy_fst (H:Array Int):(dmy H).map (·.1)=H:=by
 unfold dmy;rw [Array.map_map];exact Array.map_id'' (fun _=>rfl) H
noncomputable def addT (p:HT) (h:Int):HT :=
 let r:=layNew p.2 (dmy p.1) h .none
 if !r.2.2.1 && r.2.1.tooFull then ((relayAll r.2.1 r.1 (SetTable.grown r.1.size)).1.map (·.1),(relayAll r.2.1 r.1 (SetTable.grown r.1.size)).2.1) else (r.1.map (·.1),r.2.1)
theorem zoo {α β:Type} (f:α->β) (xs:Array α) (p:Nat) (x:α):(SetTable.insertAt xs p x).map f=SetTable.insertAt (xs.map f) p (f x):=by
 apply Array.toList_inj.mp;rw [Array.toList_map,zg9,zg9,Array.toList_map];simp
theorem size_fst {es es0:Array (Int × Value)} (h:es.map (·.1)=es0.map (·.1)):es.size=es0.size:=by
 have:=congrArg Array.size h;rw [Array.size_map,Array.size_map] at this;exact this
theorem lay_sim {t:SetTable}{es es0:Array (Int × Value)} (h:es.map (·.1)=es0.map (·.1)) (x:Int) (v v0:Value):(layNew t es x v).1.map (·.1)=(layNew t es0 x v0).1.map (·.1)/\(layNew t es x v).2=(layNew t es0 x v0).2:=by
  have sz:=size_fst h;unfold layNew;cases q:t.freeSlot x with
  | none =>
    dsimp only;refine ⟨by rw [Array.map_push,Array.map_push,h],by rw [sz]⟩
  | some p =>
    obtain ⟨s,b⟩:=p;dsimp only;have e1:(SetTable.insertAt es (t.put s).2 (x,v)).map (·.1)=(SetTable.insertAt es0 (t.put s).2 (x,v0)).map (·.1):=by rw [zoo,zoo,h]
    refine ⟨e1,?_⟩;rw [size_fst e1]
theorem zxj {es es0:Array (Int × Value)} (h:es.map (·.1)=es0.map (·.1)) (i:Nat):(es[i]?).map (·.1)=(es0[i]?).map (·.1):=by
 rw [<-Array.getElem?_map,<-Array.getElem?_map,h]
theorem relay_sim {t:SetTable}{es es0:Array (Int × Value)} (h:es.map (·.1)=es0.map (·.1)) (n:Nat):(relayAll t es n).1.map (·.1)=(relayAll t es0 n).1.map (·.1)/\(relayAll t es n).2=(relayAll t es0 n).2:=by
  have sz:=size_fst h;unfold relayAll;rw [h];cases q:t.relaid (es0.map (·.1)) n with
  | none=>dsimp only;rw [sz];exact ⟨h,rfl⟩
  | some p =>
    obtain ⟨t',o⟩:=p;dsimp only;have fm:(o.filterMap (es[·]?)).map (·.1)=(o.filterMap (es0[·]?)).map (·.1):=by
      apply Array.toList_inj.mp;rw [Array.toList_map,Array.toList_map,Array.toList_filterMap,Array.toList_filterMap,List.map_filterMap,List.map_filterMap];congr 1
      funext i
      exact zxj h i
    rw [sz,size_fst fm];split
    · exact ⟨fm,rfl⟩
    · exact ⟨h,rfl⟩
theorem add_ok {p:HT} (h:SetT.Ok p.2) (x:Int):SetT.Ok (addT p x).2/\(addT p x).2.led=p.2.led:=by
 have lo:=z1z h (dmy p.1) x .none;unfold addT;dsimp only;split
 ·have ro := relay_ok (t := (layNew p.2 (dmy p.1) x .none).2.1) (layNew p.2 (dmy p.1) x .none).1 (SetTable.grown (layNew p.2 (dmy p.1) x .none).1.size);exact ⟨ro.1,ro.2.trans lo.2⟩
 ·exact lo
end SetT
section
variable {prog:Program}{w:World}{A:Around}{E:Value->Shared->Prop}{s:Shared}
noncomputable def SetX (prog:Program) (w:World) (p:SetT.HT) (h:Heap) (a:Addr) (S:Int->Bool) (n:Nat):Prop :=
 ∃o es ep,h.get? a=some o/\o.ExactSet/\o.data=.set es ep p.2/\es.map (·.1)=p.1/\ElemsOf (intKind prog w) es.toList/\(∀k,S k=true↔∃e∈es.toList,(intKind prog w).is k e.2=true)/\es.size < scanBound/\p.2.fits es.size=true/\es.size=n
theorem zf5 {p' : SetT.HT}{h:Heap}{a:Addr}{o:Obj}{es:Array (Int × Value)}{ep:Nat}{t:SetTable} (go:h.get? a=some o) (gx:o.ExactSet) (gd:o.data=.set es ep t) {es' : Array (Int × Value)}{t' : SetTable}{S:Int->Bool} (ge:ElemsOf (intKind prog w) es'.toList) (gm:∀k,S k=true↔∃e∈es'.toList,(intKind prog w).is k e.2=true) (gb:es'.size < scanBound) (gf:t'.fits es'.size=true) (hp:(es'.map (·.1),t')=p') :
  (h.update a (Obj.putSet es' t')).get? a=some { o with data:=.set es' (ep+1) t' }/\SetX prog w p' (h.update a (Obj.putSet es' t')) a S es'.size:=by
 subst hp;have gg:=(SetOf_store (knd:=intKind prog w) go gx gd ge gm gb gf).1;exact ⟨gg,_,es',ep+1,gg,gx,rfl,rfl,ge,gm,gb,gf,rfl⟩
theorem zh3 {p' : SetT.HT}{g:Bool->Sem Unit} (gg:∀(b:Bool) (s₁:Shared) (Q' : Unit->Shared->Prop),Q' () s₁->wpAny (model prog w) A (g b) Q' E s₁)
    {a:Addr}{o:Obj}{es:Array (Int × Value)}{ep:Nat}{t:SetTable} (go:s.heap.get? a=some o) (gx:o.ExactSet) (gd:o.data=.set es ep t)
    {es1:Array (Int × Value)}{t2:SetTable}{S:Int->Bool} (ge:ElemsOf (intKind prog w) es1.toList) (gm:∀k,S k=true↔∃e∈es1.toList,(intKind prog w).is k e.2=true)
    (gb:es1.size < scanBound) (gf:t2.fits es1.size=true) {wd:Bool} (hp:(if !wd && t2.tooFull then ((relayAll t2 es1 (SetTable.grown es1.size)).1.map (·.1),(relayAll t2 es1 (SetTable.grown es1.size)).2.1) else (es1.map (·.1),t2))=p') {R:Option Bool->Shared->Prop}
    (h:∀h',Heap.SameBut a s.heap h'->SetX prog w p' h' a S es1.size->R (some true) { s with heap:=h' }) :
    wpAny (model prog w) A (do
        storeSet a es1 t2
        if (!wd && t2.tooFull) = true then do
            g (relayAll t2 es1 (SetTable.grown es1.size)).2.2
            storeSet a (relayAll t2 es1 (SetTable.grown es1.size)).1 (relayAll t2 es1 (SetTable.grown es1.size)).2.1
            pure (some true)
          else pure (some true)) R E s:=by
  refine wpAny_bind (wpAny_storeSet_of go gd ?_ (fits_of_scanBound gb));have sb:=Heap.SameBut.update s.heap a (Obj.putSet es1 t2);obtain ⟨go1,zs1⟩:=zf5 (prog:=prog) (w:=w) go gx gd ge gm gb gf rfl;by_cases c:(!wd && t2.tooFull)=true
  · rw [if_pos c] at hp ⊢
    have gpm:=relayAll_perm t2 es1 (SetTable.grown es1.size);have gfr:=relayAll_fits t2 es1 (SetTable.grown es1.size);generalize relayAll t2 es1 (SetTable.grown es1.size)=Rl at gpm gfr hp ⊢;obtain ⟨es2,t3,gave2⟩:=Rl;dsimp only at gpm gfr hp ⊢;have ge2:ElemsOf (intKind prog w) es2.toList:=ge.perm gpm;have gm2:∀k',S k'=true↔∃e∈es2.toList,(intKind prog w).is k' e.2=true:=fun k'=>(gm k').trans ⟨fun ⟨e,me,q⟩=>⟨e,gpm.mem_iff.mpr me,q⟩,fun ⟨e,me,q⟩=>⟨e,gpm.mem_iff.mp me,q⟩⟩;have sz:es2.size=es1.size:=by rw [<-Array.length_toList,gpm.length_eq,Array.length_toList]
    have gb3:es2.size < scanBound:=by rw [sz];exact gb
    refine wpAny_bind (gg _ _ _ (wpAny_bind (wpAny_storeSet_of go1 rfl ?_ (fits_of_scanBound gb3))));obtain ⟨_,zs2⟩:=zf5 (prog:=prog) (w:=w) go1 gx rfl ge2 gm2 gb3 gfr hp;rw [sz] at zs2;exact wpAny_pure (h _ (sb.trans (Heap.SameBut.update _ a _)) zs2)
  · rw [if_neg c] at hp ⊢
    rw [hp] at zs1;exact wpAny_pure (h _ sb zs1)
noncomputable def nxt (prog:Program) (w:World) (p:SetT.HT) (S:Int->Bool) (k:Int):SetT.HT:=if S k then p else SetT.addT p ((intKind prog w).hash k)
theorem zs9 {p:SetT.HT}{a:Addr}{S:Int->Bool}{n:Nat}{k:Int}{tk:Nat}{Q:Bool->Shared->Prop} (zs:SetX prog w p s.heap a S n) (rm:n+1 < scanBound)
    (h:∀h',Heap.SameBut a s.heap h'->SetX prog w (nxt prog w p S k) h' a (fun k'=>S k' || decide (k'=k)) (if S k then n else n+1)->Q (!S k) { s with heap:=h' }) :
    wpAny (model prog w) A (setAddHashed a (.int k tk) ((intKind prog w).hash k)) Q E s:=by
  have kx:(intKind prog w).is k (.int k tk)=true:=intKind_is _ _ _ _;have sx:(Value.int k tk).scannable=true:=rfl;obtain ⟨o,es,ep,go,gx,gd,gH,ge,gm,gb,gf,gn⟩:=zs;have gb1:es.size+1 < scanBound:=by rw [gn];exact rm
  unfold setAddHashed setAddHashedIn;refine wpAny_holding (wpAny_bind (wpAny_setState_of go gd gf ?_));dsimp only;rw [byScan_of sx gb ge];simp only [↓reduceIte];unfold setAddByScan;refine wpAny_bind (wpAny_bind (wpAny_rule (wpAny_bind (wpAny_setScan_of kx go gd gf ge ?_))));cases fr:List.findIdx? (fun e=>(intKind prog w).is k e.2) es.toList with
  | some j =>
    dsimp only;obtain ⟨lj,pj,_⟩:=List.findIdx?_eq_some_iff_getElem.mp fr;have sk:S k=true:=(gm k).mpr ⟨es.toList[j],List.getElem_mem lj,pj⟩;refine wpAny_pure (wpAny_pure ?_);have e:s={ s with heap:=s.heap }:=by cases s;rfl
    have nx:nxt prog w p S k=p:=by unfold nxt;rw [sk];rfl
    rw [nx] at h;have:=h s.heap (Heap.SameBut.refl a s.heap) ⟨o,es,ep,go,gx,gd,gH,ge,fun k'=>by
      rw [Bool.or_eq_true,decide_eq_true_eq,<-gm k'];exact ⟨fun ik=>ik.elim id (fun e=>e ▸ sk),.inl⟩,gb,gf,by rw [sk];exact gn⟩
    rw [sk] at this;rw [e];exact this
  | none =>
    dsimp only;have sk:S k=false:=by
      cases ik:S k with
      | false=>rfl
      | true=>obtain ⟨e,me,hp⟩:=(gm k).mp ik;have:=List.findIdx?_eq_none_iff.mp fr e me;rw [hp] at this;exact Bool.noConfusion this
    have nx:nxt prog w p S k=SetT.addT p ((intKind prog w).hash k):=by unfold nxt;rw [sk];rfl
    rw [nx] at h;have gw:∀(b:Bool) {s₁:Shared}{Q' : Unit->Shared->Prop},Q' () s₁->wpAny (model prog w) A (match b with | true=>rule "set.scan.the-table-gave-way" | false=>pure ()) Q' E s₁ :=
      fun b s₁ Q' qq=>by cases b<;>first | exact wpAny_pure qq | exact wpAny_rule qq
    have pe:=layNew_perm p.2 es ((intKind prog w).hash k) (.int k tk);have fi:=layNew_fits p.2 es ((intKind prog w).hash k) (.int k tk);have dd0:es.map (·.1)=(SetT.dmy p.1).map (·.1):=by rw [SetT.dmy_fst];exact gH
    obtain ⟨s1,s2⟩:=SetT.lay_sim (t:=p.2) dd0 ((intKind prog w).hash k) (.int k tk) .none;have ad:SetT.addT p ((intKind prog w).hash k)=(if !(layNew p.2 es ((intKind prog w).hash k) (.int k tk)).2.2.1 && (layNew p.2 es ((intKind prog w).hash k) (.int k tk)).2.1.tooFull then ((relayAll (layNew p.2 es ((intKind prog w).hash k) (.int k tk)).2.1 (layNew p.2 es ((intKind prog w).hash k) (.int k tk)).1 (SetTable.grown (layNew p.2 es ((intKind prog w).hash k) (.int k tk)).1.size)).1.map (·.1),(relayAll (layNew p.2 es ((intKind prog w).hash k) (.int k tk)).2.1 (layNew p.2 es ((intKind prog w).hash k) (.int k tk)).1 (SetTable.grown (layNew p.2 es ((intKind prog w).hash k) (.int k tk)).1.size)).2.1) else ((layNew p.2 es ((intKind prog w).hash k) (.int k tk)).1.map (·.1),(layNew p.2 es ((intKind prog w).hash k) (.int k tk)).2.1)):=by
      unfold SetT.addT;dsimp only;rw [<-s2,<-s1,SetT.size_fst s1];have rs:=SetT.relay_sim (t:=(layNew p.2 es ((intKind prog w).hash k) (.int k tk)).2.1) s1 (SetTable.grown (layNew p.2 (SetT.dmy p.1) ((intKind prog w).hash k) .none).1.size);rw [rs.1,rs.2]
    rw [ad] at h;generalize layNew p.2 es ((intKind prog w).hash k) (.int k tk)=L0 at pe fi h ⊢;obtain ⟨es1,t1,wd,gave⟩:=L0;dsimp only at pe fi h ⊢;rw [Array.toList_push] at pe;have ge1:ElemsOf (intKind prog w) es1.toList:=(ge.push kx sx).perm pe;have gm1:∀k',(S k' || decide (k'=k))=true↔∃e∈es1.toList,(intKind prog w).is k' e.2=true:=mem_push_iff kx gm pe;have gb2:es1.size < scanBound:=by rw [<-Array.length_toList,pe.length_eq,List.length_append,Array.length_toList];simpa using gb1
    refine wpAny_bind (gw _ ?_);have sz1:es1.size=n+1:=by rw [<-Array.length_toList,pe.length_eq,List.length_append,Array.length_toList,gn];rfl
    rw [sk] at h;rw [if_neg Bool.false_ne_true,<-sz1] at h;split
    · refine wpAny_bind ?_
      rw [hashByValue_scannable 8 sx];refine wpAny_pure ?_;simp only [plainKind,↓reduceIte];refine zh3 ?_ go gx gd ge1 gm1 gb2 fi rfl ?_
      · intro b s₁ Q' qq;cases b<;>first | exact wpAny_pure qq | exact wpAny_rule qq
      · intro h' bt zs';dsimp only;exact wpAny_pure (h h' bt zs')
    · refine wpAny_bind (wpAny_pure ?_)
      simp only [↓reduceIte];refine zh3 ?_ go gx gd ge1 gm1 gb2 fi rfl ?_
      · intro b s₁ Q' qq;cases b<;>first | exact wpAny_pure qq | exact wpAny_rule qq
      · intro h' bt zs';dsimp only;exact wpAny_pure (h h' bt zs')
end
noncomputable def zbb (w:World):Bool:=w.params.followText "set-order"
noncomputable def ptab (w:World) (val:Nat->Int):Nat->SetT.HT
 | 0=>(#[],.fresh 0 0 (!zbb w))
 | i+1=>if (firstMet val i).any (· == val i) then ptab w val i else SetT.addT (ptab w val i) (hashInt (val i))
theorem SetX.congr {prog:Program}{w:World}{p:SetT.HT}{h:Heap}{a:Addr}{S S' : Int->Bool}{n n' : Nat} (zs:SetX prog w p h a S n) (e:∀k,S k=S' k) (en:n=n'):SetX prog w p h a S' n':=by
 have:S=S':=funext e;subst this;subst en;exact zs
section
variable {prog:Program}{w:World}{A:Around}{R:Result->Shared->Prop}{I:Addr}{fp wr:List Addr}{G:Array GenState->Array GenState->Prop}{n:Nat}{P:Nat->Value->Prop}{St:Nat->Shared->Prop}
theorem zpx (W:WalksS prog w A.in1 I fp wr G n P St) (S:Addr) (nf:S ∉ fp) (val:Nat->Int) (vl:∀i v,P i v->∃t,v=.int (val i) t) (gb:n+1 < scanBound) :
    ∀(k i:Nat) (s:Shared),n - i=k->i<=n->St i s->SetX prog w (ptab w val i) s.heap S (fun k'=>(firstMet val i).any (· == k')) (firstMet val i).length ->
      (∀s',Moved (S::wr) G s s'->SetX prog w (ptab w val n) s'.heap S (fun k'=>(firstMet val n).any (· == k')) (firstMet val n).length->R (.ok (.ret .none)) s') ->
      codeAny (model prog w) A (.builtin "set.update.loop" ⟨[.ref S,.ref I],[]⟩) R s:=by
  have nw:S ∉ wr:=fun h=>nf (W.sub _ h);have su:∀b∈wr,b∈S::wr:=fun b gb=>List.mem_cons_of_mem _ gb;intro k
  induction k with
  | zero =>
    intro i s ik li tt zs fin;have ein:i=n:=by omega
    subst ein;refine codeAny_builtin PyProof.Rows.F.entry_set_update_loop ?_;rw [Around.under_plainId PyProof.Rows.F.plain_set_update_loop _];show wpAny _ A.in1 (pyNext (.ref I) >>= _) _ _ s;refine wpAny_bind (W.done s _ _ tt fun s' gm=>?_);show wpAny _ A.in1 (ret Value.none) _ _ s';exact wpAny_pure (fin s' (gm.mono su) (by
      obtain ⟨o,es,ep,go,rest⟩:=zs;exact ⟨o,es,ep,gm.heap S _ nw go,rest⟩))
  | succ k IH =>
    intro i s ik li tt zs fin;have il:i < n:=by omega
    refine codeAny_builtin PyProof.Rows.F.entry_set_update_loop ?_;rw [Around.under_plainId PyProof.Rows.F.plain_set_update_loop _];show wpAny _ A.in1 (pyNext (.ref I) >>= _) _ _ s;refine wpAny_bind (W.item i s _ _ il tt fun v s' hP tt' gm=>?_);obtain ⟨t,rfl⟩:=vl i v hP;have zs' : SetX prog w (ptab w val i) s'.heap S (fun k'=>(firstMet val i).any (· == k')) (firstMet val i).length:=by
      obtain ⟨o,es,ep,go,rest⟩:=zs;exact ⟨o,es,ep,gm.heap S _ nw go,rest⟩
    show wpAny _ A.in1 (holding [Value.int (val i) t] (setAdd S (.int (val i) t)) >>= _) _ _ s';refine wpAny_bind (wpAny_holding ?_);unfold setAdd;refine wpAny_holding ?_;refine wpAny_bind ((intKind prog w).pyHash (k:=val i) (intKind_is _ _ _ _) ?_);have rm:(firstMet val i).length+1 < scanBound:=by have:=firstMet_length_le val i;omega
    refine zs9 (s:={ s' with toks:=s'.toks+1 }) zs' rm fun h' bt zs2=>?_;have zsi:SetX prog w (ptab w val (i+1)) h' S (fun k'=>(firstMet val (i+1)).any (· == k')) (firstMet val (i+1)).length :=
      SetX.congr zs2 (fun k'=>by rw [firstMet_succ,step_any]) (by rw [firstMet_succ,step_length])
    refine wpAny_pure ⟨plainId_quiet PyProof.Rows.F.plain_set_update_loop _,IH (i+1) _ (by omega) il (W.frame _ s' _ _ tt' (Nat.le_succ _) fun b gb o e=>?_) zsi fun s'' gm'' zs''=>?_⟩
    · rw [bt.2 b (fun h:b=S=>nf (by rw [<-h];exact gb))];exact e
    · refine fin s'' (Moved.trans W.gtrans ((gm.mono su).then_heap (Nat.le_succ _) fun b o gb e => ?_) gm'') zs''
      rw [bt.2 b (fun h:b=S=>gb (by rw [h];exact List.mem_cons_self))];exact e
end
section
variable {prog:Program}{w:World}{A:Around}{E:Value->Shared->Prop}{s:Shared}
noncomputable abbrev new0 (w:World):Obj:={ cls:=.type "set",dict:=none,data:=.set #[] 0 (.fresh 0 0 (!zbb w)) }
theorem zgg (a:Value) {Q₁:Value->Shared->Prop} (h:Q₁ (.ref s.heap.objs.size) { s with heap:=s.heap.push { cls:=.type "set",dict:=none,data:=.set #[] 0 (.fresh 0 0 (!zbb w)) } }) :
  codeAny (model prog w) A (.call (.builtin "set.__new__") ⟨[.type "set",a],[]⟩) (wants Q₁ E) s:=by
 refine codeAny_of_tree ?_;show wpAny _ A.in1 (do checkBuiltinCall "set.__new__" ⟨[.type "set",a],[]⟩;again (.builtin "set.__new__" ⟨[.type "set",a],[]⟩)) _ _ s;refine wpAny_bind (wpAny_of_eq (PySem.F.newCall_set_1 a) (wpAny_pure ⟨plainId_quiet PySem.F.plain_set_new _,codeAny_builtin PySem.F.entry_set_new ?_⟩));rw [Around.under_plainId PySem.F.plain_set_new _];unfold Builtin.«set.__new__» Builtin.Frozenset.newClass;have su:=sub_set_self;obtain ⟨hp,g,d,tk,os⟩:=s;dsimp only
 wp_walk
 refine wpAny_askSetting (wpAny_pure ?_);dsimp only;simp only [newObj];refine wpAny_bind (wpAny_alloc (wpAny_pure ?_));exact wpAny_pure h
theorem znn {h:Heap}{a:Addr} (go:h.get? a=some { cls:=.type "set",dict:=none,data:=.set #[] 0 (.fresh 0 0 (!zbb w)) }):SetX prog w (#[],.fresh 0 0 (!zbb w)) h a (fun _=>false) 0 :=
 ⟨_,#[],0,go,⟨rfl,rfl,rfl⟩,rfl,by simp,fun e me=>by simp at me,fun k=>by simp,by decide,rfl,rfl⟩
set_option maxRecDepth 100000 in
set_option maxHeartbeats 3200000 in
theorem zn3 {l:Addr}{items:Array Value}{ns:List Int}{Q:Value->Shared->Prop}
    (nh:A.handled=none) (isl:s.heap.IsList l items) (ia:PyProof.Rows.IntsAre items.toList ns) (gb:items.size+1 < scanBound)
    (h:∀(h' : Heap) (tk:Nat),SetX prog w (ptab w (fun i=>ns.getD i 0) items.size) h' s.heap.objs.size (fun k'=>(PyProof.Rows.firstMet (fun i=>ns.getD i 0) items.size).any (· == k')) (PyProof.Rows.firstMet (fun i=>ns.getD i 0) items.size).length ->
      (∀b o,b < s.heap.objs.size->s.heap.get? b=some o->h'.get? b=some o)->Q (.ref s.heap.objs.size) { s with heap:=h',toks:=tk }) :
    wpAny (model prog w) A (call (.type "set") [.ref l]) Q E s:=by
  obtain ⟨c,tl,k0⟩:=PySem.F.called_set.mro;have k1:=PySem.F.called_set.made;have k2:=PySem.F.called_set.sub;refine wpAny_call (codeAny_of_tree ?_);show wpAny _ _ (callAny (.type "set") _) _ _ _;refine wpAny_pure ⟨Code.quiet_builtin _ (by decide +kernel),codeAny_builtin PySem.F.entry_type_call ?_⟩;rw [Around.under_plain (weight_type_call_type "set" [.ref l] []) rfl];have h1:=PySem.F.called_set.notType;have h2:=PySem.F.called_set.canCreate;have k5:=PySem.F.typeCall_set_1 (.ref l)
  repeat (any_goals (first | assumption | wp_step))
  refine codeAny_mono (zgg (.ref l) (E:=E) (Q₁:=fun obj s₁=>obj=.ref s.heap.objs.size/\s₁={ s with heap:=s.heap.push (new0 w) }) ⟨rfl,rfl⟩) fun r s₁ vv=>?_;cases r with
  | error e=>exact vv
  | ok fl =>
    cases fl with
    | ret obj =>
      obtain ⟨rfl,rfl⟩:=vv;have zs:(s.heap.push (new0 w)).get? s.heap.objs.size=some (new0 w):=Heap.get?_push_size _ rfl;have ty:Shared.TypeIs { s with heap:=s.heap.push (new0 w) } (.ref s.heap.objs.size) "set" := ⟨_,zs,rfl⟩;have f1:=PySem.F.called_set.init.lookup;have f2:=PySem.F.called_set.init.bind (.ref s.heap.objs.size)
      repeat (any_goals (first | assumption | wp_step))
      refine codeAny_mono (codeAny_call_builtin (R:=wants (fun r s₂=>r=.none/\∃h' tk,s₂={ s with heap:=h',toks:=tk } /\
          SetX prog w (ptab w (fun i=>ns.getD i 0) items.size) h' s.heap.objs.size (fun k'=>(PyProof.Rows.firstMet (fun i=>ns.getD i 0) items.size).any (· == k')) (PyProof.Rows.firstMet (fun i=>ns.getD i 0) items.size).length /\
          (∀b o,b < s.heap.objs.size->s.heap.get? b=some o->h'.get? b=some o)) E) PySem.F.called_set.init.plain PySem.F.entry_set_init (check_set_init_1 ty ?_)) fun r₂ s₂ ww=>?_
      · obtain ⟨ol, g1, g2, nn, g3⟩ := isl
        obtain ⟨c1,c2,c3,c4⟩:=ol;simp only at g2 g3;subst g2;subst g3;have g4:(s.heap.push (new0 w)).get? l=some { cls:=.type "list",dict:=c2,data:=.seq items nn,slots:=c4 }:=Heap.get?_push_of_some _ g1;have u1:=PySem.F.sub_list_set;have u2:=PySem.F.sub_list_frozenset;have u3:(Value.type "list" == Value.type "dict")=false:=by decide
        have w1:(s.heap.push (new0 w)).IsList l items:=⟨_,g4,rfl,nn,rfl⟩;unfold Builtin.«set.__init__» noKeywords Builtin.Frozenset.updateFrom;generalize pi0:pyIter=P0
        wp_walk
        subst pi0;refine wpAny_pyIter_list w1 ?_;refine wpAny_bind (wpAny_runValue ?_);have lt0:l < s.heap.objs.size:=Heap.lt_size g1;have h3:A.in1.in1.in1.handled=none:=by simp [nh]
        have ne0:l≠(s.heap.push (new0 w)).objs.size:=by
          rw [Heap.size_push];exact Nat.ne_of_lt (Nat.lt_succ_of_lt lt0)
        have nf:s.heap.objs.size ∉ [(s.heap.push (new0 w)).objs.size,l]:=by
          rw [Heap.size_push];simp only [List.mem_cons,List.mem_singleton,List.not_mem_nil,or_false,not_or];exact ⟨Nat.ne_of_lt (Nat.lt_succ_self _),Nat.ne_of_gt lt0⟩
        have vl:∀(i:Nat) (v:Value),items[i]?=some v->∃t,v=.int ((fun i=>ns.getD i 0) i) t:=fun i v hv =>
          PyProof.Rows.IntsAre.int_at ia i v (by rw [Array.getElem?_toList];exact hv)
        refine zpx ((Walks.list h3 _ l ne0 items).toS) s.heap.objs.size
          nf (fun i=>ns.getD i 0) vl gb (items.size - 0) 0 _ (by omega) (Nat.zero_le _)
          ⟨⟨_,Heap.get?_push_size _ rfl,rfl,rfl⟩,(w1.push _)⟩ ?hS0 ?fin
        case hS0 =>
          have gt:((s.heap.push (new0 w)).push { cls:=.type "list_iterator",data:=.fields #[.ref l,.int 0 0] }).get? s.heap.objs.size
              = some (new0 w):=Heap.get?_push_of_some _ zs
          exact znn gt
        case fin =>
          intro s' mv zz;obtain ⟨h',g',d',tk',os'⟩:=s';have q1:g'=s.gens:=mv.gens;have q2:d'=s.drawn:=mv.drawn;have q3:os'=s.os:=mv.os;subst q1;subst q2;subst q3;show wpAny _ _ _ _ _ _;refine wpAny_pure ?_;show wpAny _ _ (ret Value.none) _ _ _;refine wpAny_pure ⟨rfl,h',tk',rfl,zz,fun b o gb e=>?_⟩;have r1:b≠s.heap.objs.size:=Nat.ne_of_lt gb;have r2:b≠(s.heap.push (new0 w)).objs.size:=by
            rw [Heap.size_push];exact Nat.ne_of_lt (Nat.lt_succ_of_lt gb)
          exact mv.heap b o (by simp only [List.mem_cons,List.mem_singleton,List.not_mem_nil,or_false,not_or];exact ⟨r1,r2⟩) (Heap.get?_push_of_some _ (Heap.get?_push_of_some _ e))
      · cases r₂ with
        | error e=>exact ww
        | ok fl₂ =>
          cases fl₂ with
          | ret r =>
            obtain ⟨rfl,h',tk,rfl,zz,kk⟩:=ww
            repeat (any_goals (first | assumption | wp_step))
            exact h _ _ zz kk
          | _=>exact ww.elim
    | _=>exact vv.elim
end
end L2
namespace L2
open PySem PySem.Spec PyProof.Rows
theorem zaw:Slot "set_iterator" "__next__" "set_iterator.__next__" :=
 .of (owner := "set_iterator") (n := "__next__") (by rw [typeLookup_type,builtinLookup_eq_fast];kernel_rfl) (by decide +kernel) (by decide +kernel) (by decide +kernel)
  (by first | exact .inl (by decide +kernel) | exact .inr (by decide +kernel)) (by rw [isSubtype_type];kernel_rfl)
theorem zdg:entryFor table "set_iterator.__next__" = some Builtin.«set_iterator.__next__»:=entryFor_of_tree (by kernel_rfl)
theorem zeh (a:Value):argsOk "set_iterator.__next__" ⟨[a],[]⟩:=by unfold argsOk;kernel_rfl
theorem zg7:entryFor table "set.__iter__" = some Builtin.«frozenset.__iter__»:=entryFor_alias (id' := "frozenset.__iter__") (by kernel_rfl) rfl (by decide +kernel) (by kernel_rfl)
noncomputable def IsSi (h:Heap) (r d:Addr) (slot i n ep:Nat):Prop:=∃o,h.get? r=some o/\o.cls=.type "set_iterator"/\o.data=.fields #[rawInt slot,rawInt i,.ref d,rawInt n,rawInt ep]
structure Lies (w:World) (d:Addr) (es:Array (Int × Value)) (ep:Nat) (t:SetTable) (h:Heap):Prop where
 obj:∃o,h.get? d=some o/\o.cls=.type "set"/\o.data=.set es ep t
theorem Lies.at' {w:World}{d:Addr}{es:Array (Int × Value)}{ep:Nat}{t:SetTable}{h h' : Heap} (x:Lies w d es ep t h) (k:∀o,h.get? d=some o->h'.get? d=some o):Lies w d es ep t h':=let ⟨o,e,r⟩:=x.obj;⟨o,k o e,r⟩
noncomputable def wkL (w:World) (d:Addr) (es:Array (Int × Value)) (ep:Nat):Array (Int × Value):=if zbb w then pickOrder (w.params.setOrder d ep) es else es
noncomputable def zc5 (t:SetTable) (i:Nat):Nat:=if i=0 then 0 else t.place.getD (i - 1) 0+1
section
variable {prog:Program}{w:World}{A:Around}{E:Value->Shared->Prop}{s:Shared}{it d:Addr}{es:Array (Int × Value)}{ep slot i:Nat}{t:SetTable}
theorem IsSi.ty {n:Nat} (x:IsSi s.heap it d slot i n ep):s.TypeIs (.ref it) "set_iterator" := let ⟨o,ho,hc,_⟩:=x;⟨o,ho,hc⟩
theorem zs7 {t:SetTable} (h:SetT.Ok t) {i:Nat} (hi:i<=t.place.size):SetTable.below t.place (zc5 t i)=i:=by
 obtain ⟨b1,b2,b3⟩:=SetT.below_ok h.ris (zc5 t i);generalize SetTable.below t.place (zc5 t i)=b at *
 rcases Nat.lt_trichotomy b i with c | c | c
 ·exfalso;have:=b3 (i - 1) (by omega) (by omega);unfold zc5 at this;rw [if_neg (by omega)] at this;omega
 ·exact c
 ·exfalso;have:=b2 i c;unfold zc5 at this;by_cases z:i=0
  ·rw [if_pos z] at this;omega
  ·rw [if_neg z] at this;have r:=h.ris (i - 1) i (by omega) (by omega);omega
theorem zfy {Q:Option (Value × Nat)->Shared->Prop} (L:Lies w d es ep t s.heap) (hf:t.fits es.size=true) (ok:SetT.Ok t) (pl:t.plain=true) (ld:zbb w=false->t.led=true) (hi:i<=es.size) (hs:zbb w=false->slot=zc5 t i)
    (h:Q (((wkL w d es ep)[i]?).map fun e=>(e.2,if zbb w then slot else zc5 t (i+1))) s):wpAny (model prog w) A (setNext d slot i ep) Q E s:=by
  obtain ⟨o,ho,hc,hd⟩:=L.obj;unfold setNext;refine wpAny_bind (wpAny_setState_of ho hd hf ?_);dsimp only;unfold setsByText;refine wpAny_bind (wpAny_bind (wpAny_askSetting (wpAny_pure ?_)));have fs:t.place.size=es.size:=by
    unfold SetTable.fits at hf;rw [Bool.and_eq_true] at hf;exact eq_of_beq hf.1
  show wpAny _ _ (if zbb w=true then _ else _) _ _ s;cases b:zbb w with
  | true =>
    rw [if_pos rfl,if_neg (by simp)];refine wpAny_bind ?_;unfold setWalk;refine wpAny_bind (wpAny_setState_of ho hd hf ?_);dsimp only;unfold setsByText;refine wpAny_bind (wpAny_bind (wpAny_askSetting (wpAny_pure ?_)));show wpAny _ _ (if zbb w=true then _ else _) _ _ s;rw [if_pos b];refine wpAny_bind (wpAny_askSetting (wpAny_pure (wpAny_pure ?_)));have e:wkL w d es ep=pickOrder (w.params.setOrder d ep) es:=by unfold wkL;rw [b];rfl
    rw [e,b] at h;exact h
  | false =>
    rw [if_neg Bool.false_ne_true];split
    · rename_i z
      exfalso;have z:(!t.plain && decide (es.size > 1))=true:=z;rw [pl] at z;cases z
    · show wpAny _ _ ((if (!t.led && !es.isEmpty) = true then unsupported "set:maker-not-led" else pure ()) >>= _) _ _ s
      rw [if_neg (by rw [ld b];exact Bool.false_ne_true)];refine wpAny_bind (wpAny_pure (wpAny_pure ?_));rw [hs b,zs7 ok (by omega)];have e:wkL w d es ep=es:=by unfold wkL;rw [b];rfl
      rw [e,b] at h;by_cases c:i < es.size
      · have c' : i < t.place.size := by omega
        rw [Array.getElem?_eq_getElem c] at h ⊢;rw [Array.getElem?_eq_getElem c'];have e2:zc5 t (i+1)=t.place[i]+1:=by
          unfold zc5;rw [if_neg (by omega),Nat.add_sub_cancel];unfold Array.getD;rw [dif_pos c']
          rfl
        have h:Q (some (es[i].2,zc5 t (i+1))) s:=h;rw [e2] at h;exact h
      · rw [Array.getElem?_eq_none (by omega)] at h ⊢
        exact h
theorem zyc {Q:Option Value->Shared->Prop}{v:Value} (hit:IsSi s.heap it d slot i es.size ep) (L:Lies w d es ep t s.heap) (hf:t.fits es.size=true) (ok:SetT.Ok t) (pl:t.plain=true) (ld:zbb w=false->t.led=true) (hi:i < es.size) (hs:zbb w=false->slot=zc5 t i) (hx:((wkL w d es ep)[i]?).map (·.2)=some v)
  (hQ:∀h' slot',IsSi h' it d slot' (i+1) es.size ep->(zbb w=false->slot'=zc5 t (i+1))->(∀b o,b≠it->s.heap.get? b=some o->h'.get? b=some o)->Q (some v) { s with heap:=h' }):wpAny (model prog w) A (pyNext (.ref it)) Q E s:=by
 obtain ⟨oi,hoi,hci,hdi⟩:=id hit;obtain ⟨o,ho,hc,hd⟩:=L.obj;unfold pyNext;refine wpAny_bind (wpAny_attempt (wpAny_callSpecial?_slot (name:=Str.ofString "__next__") hit.ty zaw (wpAny_call_entry zaw hit.ty zdg ?_ (zeh _))));unfold Builtin.«set_iterator.__next__»;refine wpAny_bind (wpAny_of_eq (a:=(Value.ref it,[])) rfl ?_)
 try dsimp only
 refine wpAny_bind (wpAny_fieldsOf hoi hdi ?_);show wpAny _ _ (setEntries d >>= _) _ _ s;refine wpAny_bind (wpAny_setEntries_of ho hd hf ?_);rw [if_neg (by simp)];show wpAny _ _ (setNext d slot i ep >>= _) _ _ s;refine wpAny_bind (zfy (slot:=slot) (i:=i) L hf ok pl ld (by omega) hs ?_);obtain ⟨e,he,rfl⟩:=Option.map_eq_some_iff.mp hx;rw [he];show wpAny _ _ (setField (.ref it) 0 (rawInt ((if zbb w then slot else zc5 t (i+1):Nat):Int)) >>= _) _ _ s;generalize hsl:(if zbb w then slot else zc5 t (i+1))=sl;refine wpAny_bind (wpAny_setField hoi hdi (by simp) ?_);have h2:=Heap.get?_update_self (Obj.mapFields (·.setIfInBounds 0 (rawInt (sl:Int)))) hoi (Obj.isFreed_of_fields (Obj.data_mapFields hdi _));refine wpAny_bind (wpAny_setField h2 (Obj.data_mapFields hdi _) (by simp) ?_);refine wpAny_pure ⟨_,rfl,wpAny_pure (hQ _ sl ?_ (fun b=>by rw [<-hsl,b];rfl) fun b o ne eb=>?_)⟩
 ·exact ⟨_,Heap.get?_update_self _ h2 (Obj.isFreed_of_fields (Obj.data_mapFields (Obj.data_mapFields hdi _) _)),(Obj.cls_mapFields ..).trans ((Obj.cls_mapFields ..).trans hci),by
   rw [Obj.data_mapFields (Obj.data_mapFields hdi _)];simp⟩
 ·exact (Heap.SameBut.update ..).extBut b o ne ((Heap.SameBut.update ..).extBut b o ne eb)
theorem pick_go {α:Type} (f:Nat->Nat):∀(fuel k:Nat) (left:List α) (out:Array α),left.length=fuel->(pickOrder.go f fuel k left out).toList.Perm (out.toList++left)
  | 0,k,left,out,h=>by
    unfold pickOrder.go;rw [List.length_eq_zero_iff.mp h,List.append_nil]
  | fuel+1,k,left,out,h=>by
    unfold pickOrder.go;have lt:f k % left.length < left.length:=Nat.mod_lt _ (by omega);rw [List.getElem?_eq_getElem lt];dsimp only;refine (pick_go f fuel (k+1) _ _ (by rw [List.length_eraseIdx_of_lt lt];omega)).trans ?_;rw [Array.toList_push,List.append_assoc];refine List.Perm.append_left _ ?_;rw [List.singleton_append];have e1:=List.take_append_drop (f k % left.length) left;rw [List.eraseIdx_eq_take_drop_succ];refine (List.perm_middle.symm).trans ?_
    conv=>rhs;rw [<-e1,List.drop_eq_getElem_cons lt]
theorem zj5:(wkL w d es ep).toList.Perm es.toList:=by
 unfold wkL;split
 ·have := pick_go (w.params.setOrder d ep) es.size 0 es.toList #[] (Array.length_toList ..);unfold pickOrder;simpa using this
 ·exact .refl _
theorem zj6:(wkL w d es ep).size=es.size:=by rw [<-Array.length_toList,zj5.length_eq,Array.length_toList]
theorem z0z {Q:Option Value->Shared->Prop} (hh:A.handled=none) (hit:IsSi s.heap it d slot es.size es.size ep) (L:Lies w d es ep t s.heap) (hf:t.fits es.size=true) (ok:SetT.Ok t) (pl:t.plain=true) (ld:zbb w=false->t.led=true) (hs:zbb w=false->slot=zc5 t es.size)
  (hQ:∀h',(∀b o,b≠it->s.heap.get? b=some o->h'.get? b=some o)->Q none { s with heap:=h' }):wpAny (model prog w) A (pyNext (.ref it)) Q E s:=by
 obtain ⟨oi,hoi,hci,hdi⟩:=id hit;obtain ⟨o,ho,hc,hd⟩:=L.obj;unfold pyNext;refine wpAny_bind (wpAny_attempt (wpAny_callSpecial?_slot (name:=Str.ofString "__next__") hit.ty zaw (wpAny_call_entry zaw hit.ty zdg ?_ (zeh _))));unfold Builtin.«set_iterator.__next__»;refine wpAny_bind (wpAny_of_eq (a:=(Value.ref it,[])) rfl ?_)
 try dsimp only
 refine wpAny_bind (wpAny_fieldsOf hoi hdi ?_);show wpAny _ _ (setEntries d >>= _) _ _ s;refine wpAny_bind (wpAny_setEntries_of ho hd hf ?_);rw [if_neg (by simp)];show wpAny _ _ (setNext d slot es.size ep >>= _) _ _ s;refine wpAny_bind (zfy (slot:=slot) (i:=es.size) L hf ok pl ld (Nat.le_refl _) hs ?_);rw [Array.getElem?_eq_none (by rw [zj6];exact Nat.le_refl _)];show wpAny _ _ (setField (.ref it) 2 .none >>= _) _ _ s;refine wpAny_bind (wpAny_setField hoi hdi (by simp) ?_);show wpAny _ _ (newExc (.type "StopIteration") [] >>= _) _ _ _;refine wpAny_bind ?_;simp only [newExc,newTuple];refine wpAny_bind (wpAny_newObj_type ?_ (by size_fits));refine wpAny_bind (m:=firstArgMember _ _) (wpAny_of_eq (a:=Value.none) (by first | rfl | (simp only [firstArgMember];rfl)) ?_);refine wpAny_newObj_type ?_ (by size_fits);simp only [raiseNew];refine wpAny_bind (wpAny_handled ?_)
 first | rw [show A.in1.handled=none from hh] | rw [hh]
 refine wpAny_bind (wpAny_pure (wpAny_throw ?_));refine wpAny_bind (wpAny_isInstance (T := "StopIteration") (b:=true) ⟨_,Heap.get?_push_size _ rfl,rfl⟩ isSubtype_stop ?_);exact wpAny_pure (hQ _ fun b o ne eb=>Heap.get?_push_of_some _ (Heap.get?_push_of_some _ ((Heap.SameBut.update ..).extBut b o ne eb)))
theorem zed:Slot "set_iterator" "__iter__" "set_iterator.__iter__" :=
 .of (owner := "set_iterator") (n := "__iter__") (by rw [typeLookup_type,builtinLookup_eq_fast];kernel_rfl) (by decide +kernel) (by decide +kernel) (by decide +kernel)
  (by first | exact .inl (by decide +kernel) | exact .inr (by decide +kernel)) (by rw [isSubtype_type];kernel_rfl)
theorem zh6 (a:Value):argsOk "set_iterator.__iter__" ⟨[a],[]⟩:=by unfold argsOk;kernel_rfl
theorem zhe:entryFor table "set_iterator.__iter__" = some Builtin.«dict_keyiterator.__iter__» :=
 entryFor_alias (id' := "dict_keyiterator.__iter__") (by kernel_rfl) rfl (by decide +kernel) (by kernel_rfl)
theorem zxw {n:Nat}{Q:Value->Shared->Prop} (hit:IsSi s.heap it d slot i n ep) (h:Q (.ref it) s):wpAny (model prog w) A (pyIter (.ref it)) Q E s:=by
 refine wpAny_pyIter_slot hit.ty zed (wpAny_call_entry zed hit.ty zhe ?_ (zh6 _));show wpAny _ _ (ret (.ref it)) _ _ s;exact wpAny_pure ⟨_,rfl,"set_iterator",_,hit.ty,zaw.lookup,h⟩
theorem zv2 {Q:Value->Shared->Prop} (L:Lies w d es ep t s.heap) (hf:t.fits es.size=true) (pl:t.plain=true)
  (hQ:Q (.ref s.heap.objs.size) { s with heap:=s.heap.push { cls:=.type "set_iterator",data:=.fields #[rawInt (0:Nat),rawInt (0:Nat),.ref d,rawInt es.size,rawInt ep] } }):wpAny (model prog w) A (pyIter (.ref d)) Q E s:=by
 obtain ⟨o,ho,hc,hd⟩:=L.obj;have hT:s.TypeIs (.ref d) "set" := ⟨o,ho,hc⟩;refine wpAny_pyIter_slot hT PySem.F.slot_set_iter (wpAny_call_entry PySem.F.slot_set_iter hT zg7 ?_ (PySem.F.args_set_iter_1 _));unfold Builtin.«frozenset.__iter__»;refine wpAny_bind (wpAny_of_eq (a:=d) rfl ?_);unfold Builtin.Frozenset.sizeOf;refine wpAny_bind (wpAny_bind (wpAny_setEntries_of ho hd hf (wpAny_pure ?_)));unfold setDrawn;refine wpAny_bind (wpAny_bind (wpAny_setState_of ho hd hf ?_));dsimp only;unfold setsByText;refine wpAny_bind (wpAny_bind (wpAny_askSetting (wpAny_pure (wpAny_pure ?_))));split
 ·rename_i z;exfalso;have z:(!zbb w && (!t.plain && decide (es.size > 1)))=true:=z;rw [pl] at z;simp at z
 ·refine wpAny_bind (wpAny_pure (wpAny_bind (wpAny_setEpoch_of ho hd hf ?_)));refine wpAny_bind (show wpAny _ _ (newObj (.type "set_iterator") (.fields #[rawInt 0,rawInt 0,.ref d,rawInt es.size,rawInt ep])) _ _ _ from wpAny_newObj_type ?_);exact wpAny_pure ⟨_,rfl,"set_iterator",_,⟨_,Heap.get?_push_size _ rfl,rfl⟩,zaw.lookup,hQ⟩
theorem ztf {Q:Bool->Shared->Prop}{r:Addr} (hT:s.TypeIs (.ref r) "set") (h:Q false s):wpAny (model prog w) A (Builtin.List.listLengthHint (.ref r)) Q E s:=by
 unfold Builtin.List.listLengthHint;refine wpAny_bind (wpAny_specialOf hT PySem.F.slot_set_len.lookup ?_);generalize hid:("set.__len__" : String)=id0
 wp_delta
 rw [show splitId id0=some ("set","__len__") from by subst hid;decide +kernel];subst hid;refine wpAny_bind (wpAny_isInstance (T := "set") (b:=true) hT (by rw [isSubtype_type];kernel_rfl) ?_);refine wpAny_ite_split (fun hab=>absurd hab (by decide)) (fun _=>?_);refine wpAny_ite_split (fun _=>?_) (fun hab=>absurd (by decide +kernel) hab);refine wpAny_bind (wpAny_typeOf hT ?_);exact wpAny_pure h
end
theorem zze {prog:Program}{w:World}{d:Addr}{es:Array (Int × Value)}{ep:Nat}{t:SetTable} (hf:t.fits es.size=true) (ok:SetT.Ok t) (pl:t.plain=true) (ld:zbb w=false->t.led=true) :
  PySem.W.KdlSrc prog w "set" d d es.size (fun i v=>((wkL w d es ep)[i]?).map (·.2)=some v) (Lies w d es ep t) where
 type:=fun _ L=>let ⟨o,ho,hc,_⟩:=L.obj;⟨o,ho,hc⟩
 there:=fun _ L=>let ⟨_,ho,_⟩:=L.obj;⟨Heap.lt_size ho,Heap.lt_size ho⟩
 keep:=fun _ _ L k=>L.at' fun o e=>k d (.inl rfl) o e
 notList:=by decide
 notTuple:=by decide
 hint:=fun _ _ _ _ L q=>ztf (let ⟨o,ho,hc,_⟩:=L.obj;⟨o,ho,hc⟩) q
 iter:=fun A s hh L=>by
  have lt:d < s.heap.objs.size:=let ⟨_,ho,_⟩:=L.obj;Heap.lt_size ho;refine ⟨_,fun i h=>∃slot,IsSi h s.heap.objs.size d slot i es.size ep/\(zbb w=false->slot=zc5 t i)/\Lies w d es ep t h,fun _ _ q=>zv2 L hf pl q,⟨?_,?_,?_,?_,?_⟩,0,⟨_,Heap.get?_push_size _ rfl,rfl,rfl⟩,fun _=>rfl,L.at' fun o e=>Heap.get?_push_of_some _ e⟩
  ·intro b hb;rw [List.mem_singleton] at hb;rw [hb];exact List.mem_cons_self
  ·intro i h h' ⟨slot, ⟨o, e, r⟩, hs, L'⟩ k;exact ⟨slot,⟨o,k _ List.mem_cons_self o e,r⟩,hs,L'.at' fun o e=>k d (List.mem_cons_of_mem _ (List.mem_singleton.mpr rfl)) o e⟩
  ·intro i s1 Q E hi ⟨slot, hit, hs, L'⟩ hQ;have hx:∃v,((wkL w d es ep)[i]?).map (·.2)=some v:=⟨_,by rw [Array.getElem?_eq_getElem (by rw [zj6];exact hi)];rfl⟩;obtain ⟨v,hx⟩:=hx;refine zyc hit L' hf ok pl ld hi hs hx fun h' slot' hit' hs' k=>?_;exact hQ v h' s1.toks hx ⟨slot',hit',hs',L'.at' fun o e=>k d o (Nat.ne_of_lt lt) e⟩ fun b o nb e=>k b o (fun z=>nb (by rw [z];exact List.mem_singleton.mpr rfl)) e
  ·intro s1 Q E ⟨slot, hit, hs, L'⟩ hQ;exact z0z hh hit L' hf ok pl ld hs fun h' k=>hQ h' s1.toks fun b o nb e=>k b o (fun z=>nb (by rw [z];exact List.mem_singleton.mpr rfl)) e
  ·intro i s1 Q E ⟨slot, hit, _, _⟩ hQ;exact zxw hit hQ
end L2
namespace L2
open PySem PySem.Spec PyProof.Rows
section
variable {X:Cx}{pins:List (Addr × Obj)}{σ:St}{H:Hp}
theorem zr0 {s:Shared}{T:String}{r d:Addr}{n:Nat}{P:Nat->Value->Prop}{OK:Heap->Prop}{ns0:List Int}{Q:Value->Shared->Prop}{E:Value->Shared->Prop} (hc:X.calm=true) (I:Inv X pins σ H s) (C:PySem.W.KdlSrc X.prog X.w T r d n P OK) (da:OK s.heap) (zk:n<=sizeLine) (rv0:∀acc:Array Value,ItemsOf P acc n->∃ms:List Int,Vals (ms.map V.int) acc.toList/\ms.Perm ns0)
  (q:∀p s',H p=none->Inv X pins σ (upd H p (.lst ((zex ns0).map V.int))) s'->Q (.ref p) s'):wpAny (model X.prog X.w) X.A (call (.builtin "sorted") [.ref r]) Q E s:=by
 refine call_function_entry_kw kind_sorted plain_sorted entry_sorted (args_sorted1 _) ?_;unfold Builtin.«sorted»;refine wpAny_bind (m:=checkCount "sorted" 1 1 _) (wpAny_pure ?_);refine wpAny_bind (zd5 C (I.ok.hd hc) da zk fun h1 tk acc kp1 it=>?_);obtain ⟨l1,l2⟩:=zjb it;obtain ⟨ns,rv,pm0⟩:=rv0 acc it;generalize acc.toList=vs at l1 rv ⊢;have lv:ns.length=vs.length:=by have:=rv.length;rw [List.length_map] at this;exact this
 have hz' : vs.length<=sizeLine:=by rw [l1];exact zk
 have ia:IntsAre vs ns:=zo4 rv;have I1:Inv X pins σ H { s with heap:=h1,toks:=tk }:=I.kept kp1;refine wpAny_bind (wpAny_newList ?_ hz');have hoL:(h1.push (seqObj "list" vs.toArray 0)).get? h1.objs.size=some (seqObj "list" vs.toArray 0):=Heap.get?_push_size _ rfl;have keep:∀b o,h1.get? b=some o->(h1.push (seqObj "list" vs.toArray 0)).get? b=some o:=fun b o q=>Heap.get?_push_of_some _ q;show wpAny _ _ _ _ _ { s with heap:=h1.push (seqObj "list" vs.toArray 0),toks:=tk };generalize h1.push (seqObj "list" vs.toArray 0)=h3 at hoL keep ⊢;obtain ⟨a,ea⟩ : ∃a,a=h1.objs.size:=⟨_,rfl⟩;show wpAny _ _ (holding [.ref h1.objs.size] _ >>= _) _ _ _;rw [<-ea] at hoL ⊢;refine wpAny_bind (wpAny_holding (wpAny_call_entry_kw slot_list_sort ⟨_,hoL,rfl⟩ entry_list_sort ?body (args_list_sort _)))
 case body =>
  refine zpu (s:={ s with heap:=h3,toks:=tk }) hoL ia hz' fun r h' c pm pw ga kp=>⟨_,rfl,?_⟩;have al:∀x∈r,x.2=x.1/\∃n t,x.1=Value.int n t:=fun x hx=>by
   obtain ⟨e1,e2⟩:=zug (pm.mem_iff.mp hx);obtain ⟨i,hi,e⟩:=List.mem_iff_getElem.mp e2;obtain ⟨t,ht⟩:=ia.get i ns[i] (List.getElem?_eq_getElem (by omega));rw [List.getElem?_eq_getElem hi,e] at ht;exact ⟨e1,_,t,sI ht⟩
  have pi:(r.map fun x=>(kN x.1).headD 0).Perm ns:=by
   refine (pm.map _).trans ?_;have:∀{vs:List Value}{ns:List Int},IntsAre vs ns->(vs.zip vs).map (fun x=>(kN x.1).headD 0)=ns:=fun {vs ns} h=>by
    induction h with
    | nil=>rfl
    | cons n t h ih=>rw [List.zip_cons_cons,List.map_cons,ih];rfl
   rw [this ia]
  have ps:(r.map fun x=>(kN x.1).headD 0).Pairwise (·<=·):=by
   rw [List.pairwise_map];refine pw.imp_of_mem fun {x y} hx hy z=>?_;obtain ⟨_,n,t,e1⟩:=al x hx;obtain ⟨_,m,t',e2⟩:=al y hy;rw [e1,e2] at z ⊢;have z:lexI [m] [n]=false:=z;rw [zmd] at z;have:=of_decide_eq_false z;show n<=m;omega
  have eo:=zld (pi.trans pm0) ps;have rv':=zhh al;rw [<-eo] at rv';refine wpAny_pure ⟨_,rfl,q a _ (I1.hok.fresh (Nat.le_of_eq ea.symm)) (I1.laid (t':=tk) (o:=.lst ((zex ns0).map V.int)) (fun b o eb=>kp b o (fun z=>Nat.lt_irrefl _ (by have:=Heap.lt_size eb;rw [z,ea] at this;exact this)) (keep b o eb)) (Nat.le_of_eq ea.symm) ?_)⟩;exact ⟨by rw [eo,List.length_map,pi.length_eq];omega,_,c,rv',ga⟩
end
theorem ze6:∀{D M:List Int},D.Nodup->(∀k∈D,k∈M)->M.length=D.length->M.Perm D
  | [],M,_,_,l=>by rw [List.length_nil] at l;rw [List.length_eq_zero_iff.mp l]
  | x::D,M,n,h,l=>by
    have hx:=h x (.head _);have n':=List.nodup_cons.mp n;refine (List.perm_cons_erase hx).trans (.cons x (ze6 n'.2 (fun k hk=>?_) ?_))
    · exact (List.mem_erase_of_ne (fun (z:k=x)=>n'.1 (z ▸ hk))).mpr (h k (.tail _ hk))
    · rw [List.length_erase_of_mem hx,l,List.length_cons];omega
theorem zdp (val:Nat->Int):∀i,(firstMet val i).Nodup
  | 0=>by rw [firstMet_zero];exact .nil
  | i+1=>by
    rw [firstMet_succ];unfold step_dedup;split
    · exact zdp val i
    · rename_i h
      refine List.nodup_append.mpr ⟨zdp val i,by simp,fun a ha b hb=>?_⟩;rw [List.mem_singleton] at hb;subst hb;exact fun e=>h (List.any_eq_true.mpr ⟨a,ha,beq_iff_eq.mpr e⟩)
noncomputable def ptB (b:Bool) (val:Nat->Int):Nat->SetT.HT
 | 0=>(#[],.fresh 0 0 b)
 | i+1=>if (firstMet val i).any (· == val i) then ptB b val i else SetT.addT (ptB b val i) (hashInt (val i))
theorem zu1 (w:World) (val:Nat->Int):∀i,ptab w val i=ptB (!zbb w) val i
 | 0=>rfl
 | i+1=>by unfold ptab ptB;rw [zu1 w val i]
theorem zuu (b:Bool) (val:Nat->Int):∀i,SetT.Ok (ptB b val i).2/\(ptB b val i).2.led=b
  | 0=>⟨SetT.fresh_ok _ _ _,rfl⟩
  | i+1=>by
    unfold ptB;have ih:=zuu b val i;split
    · exact ih
    · have:=SetT.add_ok ih.1 (hashInt (val i));exact ⟨this.1,this.2.trans ih.2⟩
noncomputable def valI (ns:List Int):Nat->Int:=fun i=>ns.getD i 0
noncomputable def metI (ns:List Int):List Int:=firstMet (valI ns) ns.length
noncomputable def plB (ns:List Int):Bool:=(ptB true (valI ns) ns.length).2.plain && (ptB false (valI ns) ns.length).2.plain
theorem z12 {ns:List Int} (h:plB ns=true):∀b,(ptB b (valI ns) ns.length).2.plain=true:=fun b=>by
 have:=Bool.and_eq_true_iff.mp h;cases b with
 | true=>exact this.1
 | false=>exact this.2
theorem zob:∀{l:List Value},(∀x∈l,∃n t,x=.int n t)->Vals ((l.map fun x=>(kN x).headD 0).map V.int) l
  | [],_=>.nil
  | x::l,h=>by
    obtain ⟨n,t,e⟩:=h x (.head _);refine .cons ?_ (zob fun y hy=>h y (.tail _ hy));subst e;exact ⟨t,rfl⟩
section
variable {X:Cx}{pins:List (Addr × Obj)}{σ:St}{H:Hp}
theorem ztt {s:Shared}{a:Addr}{ns:List Int}{Q:Value->Shared->Prop}{E:Value->Shared->Prop} (hc:X.calm=true) (I:Inv X pins σ H s) (hp:plB ns=true) (hs:SetX X.prog X.w (ptab X.w (valI ns) ns.length) s.heap a (fun k'=>(metI ns).any (· == k')) (metI ns).length)
  (q:∀p s',H p=none->Inv X pins σ (upd H p (.lst ((zex (metI ns)).map V.int))) s'->Q (.ref p) s'):wpAny (model X.prog X.w) X.A (call (.builtin "sorted") [.ref a]) Q E s:=by
 refine aG fun _ qG=>?_;obtain ⟨o,es,ep,ho,hx,hd,_,he,hm,hb,hf,hn⟩:=hs;refine qG ?_;clear qG;rw [zu1] at hd hf;have ok:=zuu (!zbb X.w) (valI ns) ns.length;have pl:=z12 hp (!zbb X.w);generalize (ptB (!zbb X.w) (valI ns) ns.length).2=t at hd hf ok pl;refine zr0 hc I (zze (d:=a) (ep:=ep) hf ok.1 pl fun z=>by rw [ok.2,z];rfl) ⟨⟨o,ho,hx.1,hd⟩⟩ (Nat.le_trans (Nat.le_of_lt hb) (by decide)) (fun acc it=>?_) q;have el:acc.toList=(wkL X.w a es ep).toList.map (·.2):=by
  refine List.ext_getElem? fun i=>?_;obtain ⟨z,f⟩:=it;rw [List.getElem?_map,Array.getElem?_toList,Array.getElem?_toList];by_cases hi:i < acc.size
  ·rw [Array.getElem?_eq_getElem hi];exact (f i _ (Array.getElem?_eq_getElem hi)).symm
  ·rw [Array.getElem?_eq_none (by omega),Array.getElem?_eq_none (by rw [zj6];omega)];rfl
 have pm:((wkL X.w a es ep).toList.map (·.2)).Perm (es.toList.map (·.2)):=zj5.map _;have al:∀x∈acc.toList,∃n t,x=Value.int n t:=fun x hx=>by
  rw [el] at hx;obtain ⟨e,me,rfl⟩:=List.mem_map.mp (pm.mem_iff.mp hx);obtain ⟨⟨k,hk,_⟩,_⟩:=he e me;obtain ⟨t,ht⟩:=Value.isInt_shape hk;exact ⟨k,t,ht⟩
 refine ⟨_,zob al,ze6 (zdp _ _) (fun k hk=>?_) ?_⟩
 ·obtain ⟨e, me, hk⟩ := (hm k).mp (List.any_eq_true.mpr ⟨k, hk, beq_self_eq_true k⟩);obtain ⟨t,ht⟩:=Value.isInt_shape hk;refine List.mem_map.mpr ⟨e.2,?_,by rw [ht];rfl⟩;rw [el];exact pm.mem_iff.mpr (List.mem_map.mpr ⟨e,me,rfl⟩)
 ·rw [List.length_map,el,List.length_map,zj5.length_eq,Array.length_toList];exact hn
end
noncomputable def tSS (K:PySem.W.Frag) (ta:TA):TE:=fun σ H Q=>ta σ H fun vs H1=>∃a,∃ns:List Int,vs=[.ref a]/\SqL K H1 a (ns.map V.int)/\ns.length<=1000/\plB ns=true/\∀p,H1 p=none->Q (.ref p) (upd H1 p (.lst ((zex (metI ns)).map V.int)))
noncomputable def gSS (as:GAs):GE:=fun en=>(as en).bind fun p=>match zak p.1 p.2 with
 | some [.lst ws]=>(zcj ws).bind fun ns=>if ns.length<=1000/\plB ns=true then some (p.1,(.lst ((zex (metI ns)).map W.int),true)) else none
 | _=>none
theorem z4g {as:GAs}{en e1:En}{xs:List (W ⊕ Nat)}{ns:List Int} (h:as en=some (e1,xs)) (r:zak e1 xs=some [.lst (ns.map W.int)]) (q:ns.length<=1000) (pl:plB ns=true):gSS as en=some (e1,(.lst ((zex (metI ns)).map W.int),true)):=by
 unfold gSS;rw [h];show (match zak e1 xs with
  | some [.lst ws]=>(zcj ws).bind fun ns=>if ns.length<=1000/\plB ns=true then some (e1,(W.lst ((zex (metI ns)).map W.int),true)) else none
  | _=>none)=_
 rw [r];show (zcj (ns.map W.int)).bind _=_;rw [zd3];show (if ns.length<=1000/\plB ns=true then some (e1,(W.lst ((zex (metI ns)).map W.int),true)) else none)=_;rw [if_pos ⟨q,pl⟩]
section
variable {X:Cx}{S:Sx}{d:Nat}{fE:Sx->Expr->Option GE}
theorem z33 {a:Expr}{ta:TA}{p p' pos pos' : Pos} (hc:X.calm=true) (gl:Gl X "sorted") (ml:X.mg "sorted" = none) (hg:Gl X "set") (hm:X.mg "set" = none) (ha:PA X [a] ta) (hs:starEach [a] X.env=[(false,eval a X.env)]):PE X (.Call (.Name "sorted" p) [.Call (.Name "set" p') [a] [] pos'] [] pos) (tSS X.K ta):=by
  intro pins s σ H Q I h;refine wpAny_Call_Name_kw (zcv I gl ml PyProof.Rows.boot_sorted ?_ (by decide) (by decide));refine PyProof.Rows.callWith_builtin1 (Calls.spliced_cons ?_) rfl rfl;refine Call_ (zcv I hg hm zzo (PyProof.Rows.callWith_type1 (thn (ha pos' pins s σ H _ I h) fun us s1 ⟨vs,H1,I1,r1,q1⟩=>?_) hs rfl));refine aG fun _ qG=>?_;obtain ⟨a,ns,e,hq,hn,pl,q⟩:=q1;refine qG ?_;clear qG;subst e;cases r1 with
  | cons r rr =>
    cases rr;cases r;refine aG fun _ qG=>?_;obtain ⟨its,rv,p',hz⟩:=I1.list hq;refine qG ?_;clear qG;have hl:its.length=ns.length:=by rw [<-rv.length,List.length_map]
    have sz:its.toArray.size=ns.length:=by rw [List.size_toArray];exact hl
    refine zn3 (ns:=ns) (I1.ok.hd hc) p'.isList (zmz rv) (by rw [sz];show ns.length+1 < 4096;omega) fun h' tk hS kp=>?_;refine Calls.spliced_nil ?_;rw [sz] at hS;exact ztt hc (I1.kept (t':=tk) fun b o e=>kp b o (Heap.lt_size e) e) pl hS fun p s' hp I'=>⟨.ref p,_,I',rfl,q p hp⟩
theorem zvy {K:PySem.W.Frag}{as:GAs}{σ:St}{H:Hp}{Q:VK} (h:tE K (gSS as) σ H Q):tSS K (tAs K as) σ H Q:=by
  obtain ⟨F,pr,en,en',r,Re,h,q⟩:=h;obtain ⟨⟨e1,xs⟩,h1,h⟩:=bS h;refine ⟨F,pr,en,e1,xs,Re,h1,fun F1 H1 vs s1 R1 a1=>?_⟩;cases e:zak e1 xs with
  | none=>simp only [e] at h;exact noSome h
  | some us =>
    have rr:=a1.repBs R1 e
    match us,e,rr with
    | [w],e,rr =>
      cases w with
      | lst ws =>
        simp only [e] at h;obtain ⟨ns,hi,h⟩:=bS h;split at h
        · rename_i z
          obtain rfl:=(Prod.mk.inj (sI h)).1;obtain rfl:=(Prod.mk.inj (sI h)).2;obtain ⟨v,e2,hv⟩:=rr.one;subst e2;obtain ⟨a,us,e3,hh,p⟩:=hv.lst R1.sub;subst e3;have ew:=zco hi;subst ew;have eu:=p.ints;subst eu;refine ⟨a,ns,rfl,SqL.of' hh,z.1,z.2,fun p hp=>?_⟩;obtain ⟨F9,s9,R9,y9⟩:=(Out.lst (K:=K) (F:=F1) (H:=H1) (p:=p) hp (zjq (zex (metI ns)))).close R1;exact q F9 _ _ (s1.trans s9) R9 y9
        · exact noSome h
      | _=>simp only [e] at h;exact noSome h
    | [],e,_=>simp only [e] at h;exact noSome h
    | _::_::_,e,_=>simp only [e] at h;exact noSome h
noncomputable def zw9 (fE:Sx->Expr->Option GE) (S:Sx):Expr->Option GE
 | .Call (.Name x _) [.Call (.Name y _) [a] [] _] [] _=>if x == ("sorted" : Str) && y == ("set" : Str) && S.bl x && S.bl y && zag a then (asL (za6 fE S) [a]).bind fun as=>some (gSS as) else none
 | _=>none
theorem zse (HE:zbh fE) (C:CxOk X S d):zg0 (zw9 fE S) X:=fun e g h=>by
 unfold zw9 at h;split at h
 ·split at h
  ·rename_i z;simp only [Bool.and_eq_true] at z;obtain ⟨⟨⟨⟨z1,z2⟩,z3⟩,z4⟩,z5⟩:=z;have e1:=eq_of_beq z1;have e2:=eq_of_beq z2;subst e1 e2;obtain ⟨as,has,h⟩:=bS h;obtain rfl:=sI h;obtain ⟨pa,_⟩:=zde (fun e a ha=>zad HE C ha) has;obtain ⟨g1,m1⟩:=zdr C z3;obtain ⟨g2,m2⟩:=zdr C z4;exact (z33 C.calm g1 m1 g2 m2 pa (zaf z5)).wk fun _ _ _=>zvy
  ·exact noSome h
 ·exact noSome h
end
end L2
namespace L2
open PySem PySem.Spec PyProof.Rows
section
open PySem.AutoSeq1 (wpAny_loadPart')
end
noncomputable def z4w:O2
 | .tup (x::xs),.int k=>if k=1 then some (.tup (x::xs),false) else if k=0 then some (.tup [],false) else if 2<=k/\k < 4611686018427387904/\(x::xs).length * k.toNat<=sizeLine then some (.tup (List.replicate k.toNat (x::xs)).flatten,false) else none
 | _,_=>none
section
variable {X:Cx}{S:Sx}{d:Nat}{fE:Sx->Expr->Option GE}
end
section
open PySem.AutoSeq1 (wpAny_loadPart')
variable {prog:Program}{w:World}{A:Around}{E:Value->Shared->Prop}{s:Shared}
theorem zc6 {Q:List Value->Shared->Prop}{r:Addr}{a b c:Int}{t u v:Tok}{n:Nat} (hh:A.handled=none) (hr:IsRange s.heap r a b c t u v) (hsmall:Builtin.Range.small a b c=true)
    (hn:Builtin.Range.rangeSize a b c=n) (hlen:n<=2 ^ 24)
    (hQ:∀(h' : Heap) (tk:Nat) (acc:Array Value),(∀b o,s.heap.get? b=some o->h'.get? b=some o)->ItemsOf (fun i v=>∃t,v=.int (a+i * c) t) acc n->Q acc.toList { s with heap:=h',toks:=tk }) :
    wpAny (model prog w) A (collect (.ref r)) Q E s:=by
  unfold collect;refine wpAny_bind (wpAny_runValue (codeAny_builtin F.entry_proto_collect ?_));rw [Around.under_plainId F.plain_proto_collect _];show wpAny _ A.in1 (newList [] >>= fun l=>again (.builtin "list.__iadd__" ⟨[l,.ref r],[]⟩)) _ _ s;refine wpAny_bind (wpAny_newObj_type ?_);refine wpAny_pure ⟨plainId_quiet F.plain_list_iadd _,codeAny_builtin F.entry_list_iadd ?_⟩;rw [Around.under_plainId F.plain_list_iadd _];show wpAny _ A.in1 (Builtin.List.listExtendWith (.ref s.heap.objs.size) (.ref r) (.ref s.heap.objs.size)) _ _ _;have hS:(s.heap.push { cls:=.type "list",data:=.seq ([]:List Value).toArray }).get? s.heap.objs.size=some { cls:=.type "list",data:=.seq #[] 0 }:=Heap.get?_push_size _ rfl;refine wpAny_mono (wpAny_extend_range (A:=A) (R:=fun res s'=>∃(h' : Heap) (tk:Nat) (acc:Array Value) (c' : Nat),res=.ok (.ret (.ref s.heap.objs.size))/\s'={ s with heap:=h',toks:=tk }/\(∀b o,s.heap.get? b=some o->h'.get? b=some o)/\h'.get? s.heap.objs.size=some { cls:=.type "list",dict:=none,data:=.seq acc c',slots:=#[] }/\ItemsOf (fun i v=>∃t,v=.int (a+i * c) t) acc n)
    (s:={ s with heap:=s.heap.push { cls:=.type "list",data:=.seq ([]:List Value).toArray } }) hh (Heap.get?_push_of_some _ hr) hsmall hn hlen s.heap.objs.size (.ref s.heap.objs.size) 0 hS fun h' tk acc c' hk hS' hacc=>⟨h',tk,acc,c',rfl,rfl,fun b o e=>hk b o (Nat.ne_of_lt (Heap.lt_size e)) (Heap.get?_push_of_some _ e),hS',hacc⟩) (fun fin s' h=>?_) (fun e s' h=>?_)
  · have fin' : ∀s',(∃(h' : Heap) (tk:Nat) (acc:Array Value) (c' : Nat),s'={ s with heap:=h',toks:=tk }/\(∀b o,s.heap.get? b=some o->h'.get? b=some o)/\h'.get? s.heap.objs.size=some { cls:=.type "list",dict:=none,data:=.seq acc c',slots:=#[] }/\ItemsOf (fun i v=>∃t,v=.int (a+i * c) t) acc n)->wpAny (model prog w) A (match Value.ref s.heap.objs.size with
      | Value.ref a=>do
        match (<- load a).data with
          | Data.seq xs _=>pure xs.toList
          | _=>unsupported "internal:collect"
      | _=>unsupported "internal:collect") Q E s':=by
      rintro s' ⟨h',tk,acc,c',rfl,k1,k2,k3⟩;show wpAny _ A (load s.heap.objs.size >>= _) _ _ _;refine wpAny_bind (wpAny_load k2 ?_);exact wpAny_pure (hQ h' tk acc k1 k3)
    cases fin with
    | done f =>
      obtain ⟨h',tk,acc,c',e,r⟩:=h;cases e;exact fin' s' ⟨h',tk,acc,c',r⟩
    | again c'=>exact ⟨h.1,codeAny_mono h.2 fun r s'' hr=>by obtain ⟨h',tk,acc,c',rfl,q⟩:=hr;exact fin' s'' ⟨h',tk,acc,c',q⟩⟩
  · obtain ⟨h', tk, acc, c', e, r⟩ := h
    cases e
end
theorem zcq {r:Addr}{a b c:Int}{t u v:Tok}{n:Nat} (hsmall:Builtin.Range.small a b c=true) (hn:Builtin.Range.rangeSize a b c=n) (hlen:n<=2 ^ 24) :
  Meets (Builtin.«tuple.__new__» ⟨[.type "tuple",.ref r],[]⟩)
   (fun A R s=>A.handled=none/\IsRange s.heap r a b c t u v/\∀(h' : Heap) (tk:Nat) (acc:Array Value),(∀b o,s.heap.get? b=some o->h'.get? b=some o)->ItemsOf (fun i v=>∃t,v=.int (a+i * c) t) acc n ->
    R (.ok (.ret (.ref h'.objs.size))) { s with heap:=h'.push { cls:=.type "tuple",data:=.seq acc },toks:=tk }) :=
 .of_wp fun prog w A R s h=>by
  obtain ⟨hh,hr,h⟩:=h;have hsub:=sub_tuple_self;have hinit:=init_tuple_lookup;have hmh:=madeHere_tuple;have hT:s.TypeIs (.ref r) "range" := ⟨_,hr,rfl⟩;have hh1:A.in1.handled=none:=hh
  wp_walk using wpAny_typeOf hT,zc6 hh1 hr hsmall hn hlen
  intro h' tk acc hk hacc;show wpAny _ _ (Builtin.Tuple.tupleExact acc.toList.toArray >>= fun v=>ret v) _ _ _;unfold Builtin.Tuple.tupleExact;refine wpAny_bind (wpAny_newObj_type ?_ (show acc.toList.toArray.size<=sizeLine by simp only [Array.toArray_toList];rw [hacc.1,sizeLine_eq];exact hlen));refine wpAny_pure ⟨_,rfl,?_⟩;have e:acc.toList.toArray=acc:=by simp
  rw [e];exact h h' tk acc hk hacc
theorem zel {prog:Program}{w:World}{A:Around}{E:Value->Shared->Prop}{s:Shared}{Q:Value->Shared->Prop}{r:Addr}{a b c:Int}{t u v:Tok}{n:Nat} (hh:A.handled=none) (hr:IsRange s.heap r a b c t u v) (hsmall:Builtin.Range.small a b c=true) (hn:Builtin.Range.rangeSize a b c=n) (hlen:n<=2 ^ 24)
  (h:∀(h' : Heap) (tk:Nat) (acc:Array Value),(∀b o,s.heap.get? b=some o->h'.get? b=some o)->ItemsOf (fun i v=>∃t,v=.int (a+i * c) t) acc n->Q (.ref h'.objs.size) { s with heap:=h'.push { cls:=.type "tuple",data:=.seq acc },toks:=tk }) :
  wpAny (model prog w) A (call (.type "tuple") [.ref r]) Q E s :=
 callType_new F.called_tuple (by decide) (F.typeCall_tuple_1 _) (F.newCall_tuple_1 _) (fun obj=>F.args_object_init_2 obj _) F.entry_tuple_new
  (zcq hsmall hn hlen) ⟨hh,hr,fun h' tk acc hk hacc=>⟨⟨_,Heap.get?_push_size _ rfl,rfl⟩,h h' tk acc hk hacc⟩⟩
noncomputable def tTR (ta:TA):TE:=fun σ H Q=>ta σ H fun vs H1=>∃j:Int,vs=[.int j]/\-(2 ^ 62)<=j/\j<=2 ^ 24/\∀p,H1 p=none->Q (.ref p) (upd H1 p (.tup (rgV j.toNat)))
noncomputable def znc (as:GAs):GE:=fun en=>(as en).bind fun p=>match zak p.1 p.2 with
 | some [.int j]=>if lrOk j then some (p.1,(.tup (rngW 0 j.toNat),false)) else none
 | _=>none
theorem zy8 {as:GAs}{en e1:En}{xs:List (W ⊕ Nat)}{j:Int} (h:as en=some (e1,xs)) (r:zak e1 xs=some [.int j]) (q:lrOk j=true):znc as en=some (e1,(.tup (rngW 0 j.toNat),false)):=by
 unfold znc;rw [h];show (match zak e1 xs with
  | some [.int j]=>if lrOk j then some (e1,(W.tup (rngW 0 j.toNat),false)) else none
  | _=>none)=_
 rw [r];show (if lrOk j then some (e1,(W.tup (rngW 0 j.toNat),false)) else none)=_;rw [q];rfl
section
variable {X:Cx}{S:Sx}{d:Nat}{fE:Sx->Expr->Option GE}
theorem z3p {a:Expr}{ta:TA}{p p' pos pos' : Pos} (hc:X.calm=true) (gl:Gl X "tuple") (ml:X.mg "tuple" = none) (hg:Gl X "range") (hm:X.mg "range" = none) (ha:PA X [a] ta) (hs:starEach [a] X.env=[(false,eval a X.env)]):PE X (.Call (.Name "tuple" p) [.Call (.Name "range" p') [a] [] pos'] [] pos) (tTR ta):=by
  intro pins s σ H Q I h;refine Call_ (zcv I gl ml zge (PyProof.Rows.callWith_type1 (Calls.spliced_cons ?_) rfl rfl));refine Call_ (zcv I hg hm boot_range (PyProof.Rows.callWith_type1 (thn (ha pos' pins s σ H _ I h) fun us s1 ⟨vs,H1,I1,r1,q1⟩=>?_) hs rfl));refine aG fun _ qG=>?_;obtain ⟨j,e,b1,b2,q⟩:=q1;refine qG ?_;clear qG;subst e;cases r1 with
  | cons r rr =>
    cases rr;obtain ⟨t,rfl⟩:=r;refine call_range_1 ?_;refine Calls.spliced_nil ?_;have I2:Inv X pins σ H1 { s1 with heap:=s1.heap.push { cls:=.type "range",data:=.fields #[.int 0 s1.toks,.int j t,.int 1 (s1.toks+1)] },toks:=s1.toks+1+1 }:=I1.kept fun b o e=>Heap.get?_push_of_some _ e;refine zel (n:=j.toNat) (I2.ok.hd hc) (IsRange.new ..) (small_one (by omega) (by omega) b1 (by omega)) (by rw [rangeSize_one];split<;>omega) (by omega) fun h' tk acc kp it=>?_;have rv:=zw5 it;have I3:Inv X pins σ H1 { s1 with heap:=h',toks:=tk }:=I2.kept kp;exact ⟨.ref _,_,I3.laid (t':=tk) (o:=.tup (rgV j.toNat)) (fun b o e=>Heap.get?_push_of_some _ e) (Nat.le_refl _) ⟨by unfold rgV;rw [List.length_map,List.length_range,sizeLine_eq];omega,acc.toList,rv,by rw [Array.toArray_toList];exact IsTup.new _ _⟩,rfl,q _ (I3.hok.fresh (Nat.le_refl _))⟩
theorem zxu {K:PySem.W.Frag}{as:GAs}{σ:St}{H:Hp}{Q:VK} (h:tE K (znc as) σ H Q):tTR (tAs K as) σ H Q:=by
  obtain ⟨F,pr,en,en',r,Re,h,q⟩:=h;obtain ⟨⟨e1,xs⟩,h1,h⟩:=bS h;refine ⟨F,pr,en,e1,xs,Re,h1,fun F1 H1 vs s1 R1 a1=>?_⟩;cases e:zak e1 xs with
  | none=>simp only [e] at h;exact noSome h
  | some us =>
    have rr:=a1.repBs R1 e
    match us,e,rr with
    | [w],e,rr =>
      cases w with
      | int j =>
        simp only [e] at h;split at h
        · rename_i z
          unfold lrOk at z;rw [Bool.and_eq_true] at z;obtain rfl:=(Prod.mk.inj (sI h)).1;obtain rfl:=(Prod.mk.inj (sI h)).2;obtain ⟨v,e2,hv⟩:=rr.one;subst e2;refine ⟨j,by rw [hv.int],(zgo z.1).1,by have:=of_decide_eq_true z.2;omega,fun p hp=>?_⟩;obtain ⟨F9,s9,R9,y9⟩:=(Out.tup (K:=K) (F:=F1) (H:=H1) (p:=p) hp (zt7 j.toNat)).close R1;exact q F9 _ _ (s1.trans s9) R9 y9
        · exact noSome h
      | _=>simp only [e] at h;exact noSome h
    | [],e,_=>simp only [e] at h;exact noSome h
    | _::_::_,e,_=>simp only [e] at h;exact noSome h
noncomputable def zju (fE:Sx->Expr->Option GE) (S:Sx):Expr->Option GE
 | .Call (.Name x _) [.Call (.Name y _) [a] [] _] [] _=>if x == ("tuple" : Str) && y == ("range" : Str) && S.bl x && S.bl y && zag a then (asL (za6 fE S) [a]).bind fun as=>some (znc as) else none
 | _=>none
theorem zm3 (HE:zbh fE) (C:CxOk X S d):zg0 (zju fE S) X:=fun e g h=>by
 unfold zju at h;split at h
 ·split at h
  ·rename_i z;simp only [Bool.and_eq_true] at z;obtain ⟨⟨⟨⟨z1,z2⟩,z3⟩,z4⟩,z5⟩:=z;have e1:=eq_of_beq z1;have e2:=eq_of_beq z2;subst e1 e2;obtain ⟨as,has,h⟩:=bS h;obtain rfl:=sI h;obtain ⟨pa,_⟩:=zde (fun e a ha=>zad HE C ha) has;obtain ⟨g1,m1⟩:=zdr C z3;obtain ⟨g2,m2⟩:=zdr C z4;exact (z3p C.calm g1 m1 g2 m2 pa (zaf z5)).wk fun _ _ _=>zxu
  ·exact noSome h
 ·exact noSome h
end
section
variable {prog:Program}{w:World}{A:Around}{E:Value->Shared->Prop}{s:Shared}
open HT in
end
section
variable {X:Cx}{S:Sx}{d:Nat}{fE:Sx->Expr->Option GE}
noncomputable def orX (a b:Option GE):Option GE:=match a with
 | some g=>some g
 | none=>b
theorem zh4 {x y:Expr->Option GE} (hx:zg0 x X) (hy:zg0 y X):zg0 (fun e=>orX (x e) (y e)) X:=fun e g h=>by
 have h:orX (x e) (y e)=some g:=h;unfold orX at h;split at h
 ·rename_i g' q;obtain rfl:=sI h;exact hx e g' q
 ·exact hy e g h
noncomputable def extE (fE:Sx->Expr->Option GE) (S:Sx) (e:Expr):Option GE:=orX (zju fE S e) (orX (zw9 fE S e) (orX (zki fE S e) (orX (zq5 fE S e) (zk4 fE S e))))
theorem zvw (HE:zbh fE) (C:CxOk X S d):zg0 (extE fE S) X:=zh4 (zm3 HE C) (zh4 (zse HE C) (zh4 (zmq HE C) (zh4 (zoj HE C) (zne HE C))))
end
end L2
namespace L2
open PySem PySem.Spec PyProof.Rows
noncomputable def ncOf (scope:Scope):List Str:=(scope.names.filter fun p=>p.2 == .free || p.2 == .local || p.2 == .cell).map (·.1)
noncomputable def capC (S:Sx) (scope:Scope):Cap:=(ncOf scope).map fun x=>if scope.names.lookup x == some .free then S.N.findIdx? (· == x) else none
noncomputable def inS (S:Sx) (scope:Scope):Sx:={ N:=ncOf scope,kd:=scope.names,bn:=S.bn,fs:=S.fs,mp:=capKeep (capC S scope),top:=false }
noncomputable def zjv (S:Sx) (scope:Scope):Bool:=decide (scope.kind=.function) && zft (capC S scope) (ncOf scope) S.N scope && (scope.names.all fun p=>!(p.2 == .free) || S.kd.lookup p.1 == some .cell || S.kd.lookup p.1 == some .free) &&
 zeg scope && (scope.names.all fun p=>!(p.2 == NameKind.local) || decide (scope.names.lookup p.1=some .local)) && decide (ncOf scope).Nodup
noncomputable def zvm (fT:Sx->Expr->Option GT) (S:Sx):List Expr->Option GT
 | []=>some gYes
 | [c]=>fT S c
 | _=>none
noncomputable def zqk (fE:Sx->Expr->Option GE) (fT:Sx->Expr->Option GT) (S:Sx) (elt:Expr) (gens:List Comprehension) (scope:Scope):Option GE:=match gens with
 | [c]=>if zjv S scope && decide (c.is_async=0) then (zn4 fE S c.target c.iter).bind fun gi=>(tgE (inS S scope) c.target).bind fun T=>(zvm fT (inS S scope) c.ifs).bind fun tc=>(fE (inS S scope) elt).bind fun te=>some (zd9 (capC S scope) T gi tc te) else none
 | _=>none
structure ScOk (X:Cx) (S:Sx) (scope:Scope):Prop where
 kind:scope.kind=.function
 cap:zft (capC S scope) (ncOf scope) X.N scope=true
 fr:zew scope X.env.scope=true
 nc:zeg scope=true
 nm:(scope.names.all fun p=>!(p.2 == NameKind.local) || decide (scope.names.lookup p.1=some .local))=true
 nd:(ncOf scope).Nodup
section
variable {X:Cx}{S:Sx}{d:Nat}
theorem zt6 (C:CxOk X S d) {scope:Scope} (h:zjv S scope=true):ScOk X S scope:=by
 unfold zjv at h;simp only [Bool.and_eq_true] at h;obtain ⟨⟨⟨⟨⟨h1,h2⟩,h3⟩,h4⟩,h5⟩,h6⟩:=h;refine ⟨of_decide_eq_true h1,by rw [C.N];exact h2,?_,h4,h5,of_decide_eq_true h6⟩;unfold zew;refine List.all_eq_true.mpr fun p hp=>?_;have q:=List.all_eq_true.mp h3 p hp;simp only [Bool.or_eq_true,Bool.not_eq_true',beq_eq_false_iff_ne,beq_iff_eq,decide_eq_true_eq] at q ⊢;rcases q with (q | q) | q
 ·exact .inl (.inl q)
 ·rcases C.vis p.1 (.inl q) with z | z
  ·exact .inl (.inr z)
  ·exact .inr z
 ·rcases C.vis p.1 (.inr q) with z | z
  ·exact .inl (.inr z)
  ·exact .inr z
theorem zwb (C:CxOk X S d) {scope:Scope} (h:ScOk X S scope) (cl:List (Str × Addr)) (L:Addr) (s3:Shared) (H3:Hp) (fp:List Addr):CxOk (zax X (ncOf scope) scope cl L s3 H3 fp) (inS S scope) d where
 N:=rfl
 nd:=h.nd
 loc:=fun x e=>za1 (env:=X.env) (by decide) e
 cel:=fun x e=>⟨za1 (env:=X.env) (by decide) e,decide_eq_true e⟩
 vis:=fun x e=>by
  rcases e with e | e
  ·exact .inl (za1 (env:=X.env) (by decide) e)
  ·exact zau (env:=X.env) e
 gl:=fun x e=>za1 (env:=X.env) (by decide) e
 calm:=C.calm
 xe:=rfl
 bn:=C.bn
 fs:=C.fs
 room:=C.room
 sl:=C.sl
 lam:=fun h=>absurd (show ("" : Str)∈lams from h) (by decide +kernel)
 dpo:=Nat.zero_le _
 bk:=by
  show (if scope.kind.isAnnotationScope then ScopeKind.function else scope.kind)=.function;rw [h.kind];rfl
end
theorem zr6 {K:PySem.W.Frag}{σ:St}{H:Hp}{Q:Bool->Hp->Prop} (h:tT K gYes σ H Q):zvk σ H Q:=by
 obtain ⟨F,pr,en,en',b,R,h,q⟩:=h;cases h;exact q F H (.refl F) R
structure CompP (X:Cx) (S:Sx) (elt:Expr) (gens:List Comprehension) (scope:Scope) (g:GE):Prop where
 ex:∃tg iter ifs gs gi T tc,∃(em:Pos->Value->Env->Sem Unit) (tm:Addr->TM),gens=⟨tg,iter,ifs,0⟩ :: gs/\(∀pos it acc env,compTurn (.ListComp elt gens scope pos) 0 it acc env=znv (.ListComp elt gens scope pos) 0 tg iter ifs (em pos acc env) it acc env)/\ScOk X S scope/\PI X tg iter (tI X.K gi)/\(∀x,foldedSetIterable iter X.env x=pure x) /\
  (∀cl C s3 H3 fp,PG (zax X (ncOf scope) scope cl C s3 H3 fp) tg (TGof X.K T))/\(∀cl C s3 H3 fp,PTs (zax X (ncOf scope) scope cl C s3 H3 fp) ifs (tT X.K tc))/\(∀pos cl C s3 H3 fp acc,PM (zax X (ncOf scope) scope cl C s3 H3 fp) (em pos (.ref acc) (zax X (ncOf scope) scope cl C s3 H3 fp).env) (tm acc)) /\
  ∀σ H Q,tE X.K g σ H Q->zqj (tI X.K gi) (capC S scope) (TGof X.K T) (tT X.K tc) tm σ H Q
section
variable {X:Cx}{S:Sx}{d:Nat}{fE:Sx->Expr->Option GE}{fT:Sx->Expr->Option GT}
theorem PTs.wk {ifs:List Expr}{t t' : TT} (h:PTs X ifs t) (i:∀σ H Q,t' σ H Q->t σ H Q):PTs X ifs t':=fun pins s σ H Q I q=>h pins s σ H Q I (i σ H Q q)
theorem zta (HT:zib fT) (C:CxOk X S d):∀{ifs:List Expr}{tc:GT},zvm fT S ifs=some tc->PTs X ifs (tT X.K tc)
 | [],_,h=>by obtain rfl:=sI h;exact zxy.wk fun _ _ _=>zr6
 | [_],_,h=>zyz (HT _ _ d C _ _ h)
 | _::_::_,_,h=>noSome h
theorem ze7 (HE:zbh fE) (HT:zib fT) (C:CxOk X S d) {elt:Expr}{gens:List Comprehension}{scope:Scope}{g:GE} (h:zqk fE fT S elt gens scope=some g):CompP X S elt gens scope g:=by
 unfold zqk at h;split at h
 ·rename_i c;obtain ⟨tg,iter,ifs,as⟩:=c;split at h
  ·rename_i z;rw [Bool.and_eq_true] at z;have ha:as=0:=of_decide_eq_true z.2;subst ha;obtain ⟨gi,hi,h⟩:=bS h;obtain ⟨T,hT,h⟩:=bS h;obtain ⟨tc,htc,h⟩:=bS h;obtain ⟨te,hte,h⟩:=bS h;obtain rfl:=sI h;have so:=zt6 C z.1;obtain ⟨pi,pf⟩:=zlw HE C hi;exact ⟨tg,iter,ifs,[],gi,T,tc,fun _=>zyo elt,fun acc=>ztx acc (tE X.K te),rfl,fun _ _ _ _=>rfl,so,pi,pf,fun cl L s3 H3 fp=>zvj (zwb C so cl L s3 H3 fp) hT,fun cl L s3 H3 fp=>zta HT (zwb C so cl L s3 H3 fp) htc,fun _ cl L s3 H3 fp acc=>zzn (HE _ _ d (zwb C so cl L s3 H3 fp) _ _ hte),fun _ _ _=>zol⟩
  ·exact noSome h
 ·exact noSome h
theorem zqd (C:CxOk X S d) {elt:Expr}{gens:List Comprehension}{scope:Scope}{g:GE}{pos:Pos} (h:CompP X S elt gens scope g):PE X (.ListComp elt gens scope pos) (tE X.K g):=by
 refine aG fun _ qG=>?_;obtain ⟨tg,iter,ifs,gs,gi,T,tc,em,tm,e1,e2,so,pi,pf,pg,pt,pe,rd⟩:=h.ex;refine qG ?_;clear qG;subst e1;exact (zxf pi pg pt (pe pos) (e2 pos) C.calm so.kind so.cap so.fr so.nc so.nm pf).wk rd
noncomputable def zv5 (fE:Sx->Expr->Option GE) (S:Sx):Option Expr->Option GO
 | none=>some zbv
 | some e=>(fE S e).bind fun g=>some (zfl g)
noncomputable def zrw (fE:Sx->Expr->Option GE) (fT:Sx->Expr->Option GT) (S:Sx) (e:Expr):Option GE:=match e with
  | .Name x _=>(S.rd x).bind fun i=>some (gVar i)
  | .Constant c _ _=>(match c with
    | .int i=>some (gC (.int i))
    | .bool b=>some (gC (.bl b))
    | .none=>some (gC .non)
    | .str x=>some (gC (.str x))
    | _=>none)
  | .BinOp a op b _=>(za6 fE S a).bind fun x=>(za6 fE S b).bind fun y=>(binO op).bind fun o=>some (gOp2 o x y)
  | .UnaryOp op a _=>(match op with
    | .USub=>(za6 fE S a).bind fun x=>some (gOp1 oNeg x)
    | _=>none)
  | .BoolOp op vs _=>(match vs with
    | v::vs=>zw1 (fE S) op v vs
    | []=>none)
  | .Compare a ops cs _=>cmpZ fE S a ops cs
  | .IfExp c a b _=>(fT S c).bind fun t=>(fE S a).bind fun x=>(fE S b).bind fun y=>some (gIf t x y)
  | .Subscript a s _=>(match s with
    | .Slice lo hi st _=>(match st with
      | none=>(za6 fE S a).bind fun x=>(zv5 fE S lo).bind fun l=>(zv5 fE S hi).bind fun h=>some (gSl x l h)
      | some _=>none)
    | s=>if zcb s then (za6 fE S a).bind fun x=>(za6 fE S s).bind fun y=>some (gOp2 oIx x y) else none)
  | .List es _=>(asL (fun e=>(fE S e).bind fun g=>some (gArg g)) es).bind fun as=>some (za8 as)
  | .Tuple es _ _=>(asL (fun e=>(fE S e).bind fun g=>some (gArg g)) es).bind fun as=>some (zi5 as)
  | .Call fu args kws pos=>(match kws with
    | []=>(match fu with
      | .Name x _=>zxn fE S x args
      | .Attribute o m ap=>zx3 fE S o m ap args pos
      | _=>none)
    | _=>none)
  | .ListComp elt gens scope _=>zqk fE fT S elt gens scope
  | _=>none
noncomputable def zye (fE:Sx->Expr->Option GE) (fT:Sx->Expr->Option GT) (S:Sx) (e:Expr):Option GT:=match e with
  | .BoolOp op vs _=>(match vs with
    | v::vs=>zxh (fT S) op v vs
    | []=>none)
  | .Compare a ops cs _=>(cmpZ fE S a ops cs).bind fun g=>some (zai g)
  | .UnaryOp op a p=>(match op with
    | .Not=>(fT S a).bind fun g=>some (zo0 g)
    | op=>if zln (.UnaryOp op a p) then (fE S (.UnaryOp op a p)).bind fun g=>some (zai g) else none)
  | e=>if zln e then (fE S e).bind fun g=>some (zai g) else none
theorem zl4 (HE:zbh fE) (C:CxOk X S d) {o:Option Expr}{g:GO} (h:zv5 fE S o=some g):PO X o (tO X.K g):=by
  cases o with
  | none=>obtain rfl:=sI h;exact fun pins s σ H Q I q=>zy7 pins s σ H Q I (zkx q)
  | some e =>
    obtain ⟨ge,hg,h⟩:=bS h;obtain rfl:=sI h;exact fun pins s σ H Q I q=>zzb (HE X S d C _ _ hg) pins s σ H Q I (zq8 q)
theorem zub (HE:zbh fE) (HT:zib fT):zbh (zrw fE fT):=fun X S d C e g h=>by
  have HA:∀e a,((fE S e).bind fun g=>some (gArg g))=some a->PE X e (tA X.K a):=fun e a h=>by
    obtain ⟨ge,hg,h⟩:=bS h;obtain rfl:=sI h;exact (HE X S d C _ _ hg).wk fun _ _ _=>zgp
  cases e with
  | Name x p =>
    obtain ⟨i,hi,h⟩:=bS (show (S.rd x).bind _=_ from h);obtain rfl:=sI h;exact (zoq C hi).wk fun _ _ _=>zr8
  | Constant c k p =>
    cases c with
    | int i=>obtain rfl:=sI h;exact z1a.wk fun _ _ _=>zc4 fun _=>.int i
    | bool b=>obtain rfl:=sI h;exact z4q.wk fun _ _ _=>zc4 fun _=>.bl b
    | none=>obtain rfl:=sI h;exact zzl.wk fun _ _ _=>zc4 fun _=>.non
    | str x=>obtain rfl:=sI h;exact zu0.wk fun _ _ _=>zc4 fun _=>.str x
    | _=>exact noSome h
  | BinOp a op b p =>
    obtain ⟨x,hx,h⟩:=bS (show (za6 fE S a).bind _=_ from h);obtain ⟨y,hy,h⟩:=bS h;obtain ⟨o,ho,h⟩:=bS h;obtain rfl:=sI h;obtain ⟨r,h1,h2⟩:=zvr (X:=X) ho;exact (z4c h1 (zad HE C hx) (zad HE C hy)).wk fun _ _ _=>zb8 h2
  | UnaryOp op a p =>
    cases op with
    | USub =>
      obtain ⟨x,hx,h⟩:=bS (show (za6 fE S a).bind _=_ from h);obtain rfl:=sI h;exact (z3i z0t (zad HE C hx)).wk fun _ _ _=>zrz zxx
    | _=>exact noSome h
  | BoolOp op vs p =>
    cases vs with
    | nil=>exact noSome h
    | cons v vs=>exact zlm (fun e g=>HE X S d C e g) h
  | Compare a ops cs p=>exact (zqs HE C h).1
  | IfExp c a b p =>
    obtain ⟨t,ht,h⟩:=bS (show (fT S c).bind _=_ from h);obtain ⟨x,hx,h⟩:=bS h;obtain ⟨y,hy,h⟩:=bS h;obtain rfl:=sI h;exact (ztb (HT X S d C _ _ ht) (HE X S d C _ _ hx) (HE X S d C _ _ hy)).wk fun _ _ _=>zxe
  | Subscript a s p =>
    have ix:∀s,(if zcb s then (za6 fE S a).bind fun x=>(za6 fE S s).bind fun y=>some (gOp2 oIx x y) else none)=some g->PE X (.Subscript a s p) (tE X.K g):=fun s h=>by
      split at h
      · rename_i z
        obtain ⟨x,hx,h⟩:=bS h;obtain ⟨y,hy,h⟩:=bS h;obtain rfl:=sI h;exact (z1g (zxl.or z1f) (zad HE C hx) (zad HE C hy) (zf6 z)).wk fun _ _ _=>zb8 z0v
      · exact noSome h
    cases s with
    | Slice lo hi st p2 =>
      cases st with
      | some _=>exact noSome h
      | none =>
        obtain ⟨x,hx,h⟩:=bS (show (za6 fE S a).bind _=_ from h);obtain ⟨l,hl,h⟩:=bS h;obtain ⟨u,hu,h⟩:=bS h;obtain rfl:=sI h;exact (zuj ((zyj.or z1j).or zzj) (zad HE C hx) (zl4 HE C hl) (zl4 HE C hu)).wk fun _ _ _=>zyg
    | _=>exact ix _ h
  | List es p =>
    obtain ⟨as,has,h⟩:=bS (show (asL _ es).bind _=_ from h);obtain rfl:=sI h;exact (z2h (zde HA has).1).wk fun _ _ _=>ztr
  | Tuple es k p =>
    obtain ⟨as,has,h⟩:=bS (show (asL _ es).bind _=_ from h);obtain rfl:=sI h;exact (zz1 (zde HA has).1).wk fun _ _ _=>zst
  | Call fu args kws p =>
    simp only [zrw] at h;split at h
    · cases fu with
      | Name x p2=>exact zsm HE C h
      | Attribute o m ap=>exact zup HE C h
      | _=>exact noSome h
    · exact noSome h
  | ListComp elt gens scope p=>exact zqd C (ze7 HE HT C h)
  | _=>exact noSome h
theorem zr7 (HE:zbh fE) (HT:zib fT):zib (zye fE fT):=fun X S d C e g h=>by
  have plain:∀e,(if zln e then (fE S e).bind fun g=>some (zai g) else none)=some g->PT X e (tT X.K g):=fun e h=>by
    split at h
    · rename_i z
      obtain ⟨x,hx,h⟩:=bS h;obtain rfl:=sI h;exact (z0i (HE X S d C _ _ hx) (znm z)).wk fun _ _ _=>zfm fun _ _ _ q=>q
    · exact noSome h
  cases e with
  | BoolOp op vs p =>
    cases vs with
    | nil=>exact noSome h
    | cons v vs=>exact (zgd (fun e g=>HT X S d C e g) h).pt
  | Compare a ops cs p =>
    obtain ⟨x,hx,h⟩:=bS (show (cmpZ fE S a ops cs).bind _=_ from h);obtain rfl:=sI h;exact (zqs HE C hx).2
  | UnaryOp op a p =>
    cases op with
    | Not =>
      obtain ⟨x,hx,h⟩:=bS (show (fT S a).bind _=_ from h);obtain rfl:=sI h;exact (z2m (HT X S d C _ _ hx)).wk fun _ _ _=>zrp
    | _=>exact plain _ h
  | _=>exact plain _ h
end
noncomputable def zw0:GE:=fun _=>none
noncomputable def zo2:GT:=fun _=>none
mutual
noncomputable def compE:Nat->Sx->Expr->Option GE
 | 0,_,_=>some zw0
 | n+1,S,e=>some ((orX (extE (compE n) S e) (zrw (compE n) (compT n) S e)).getD zw0)
noncomputable def compT:Nat->Sx->Expr->Option GT
 | 0,_,_=>some zo2
 | n+1,S,e=>some ((zye (compE n) (compT n) S e).getD zo2)
end
theorem zp8 {X:Cx}{e:Expr}:PE X e (tE X.K zw0):=fun _ _ _ _ _ _ q=>by obtain ⟨_,_,_,_,_,_,h,_⟩:=q;exact noSome h
theorem zll {X:Cx}{e:Expr}:PT X e (tT X.K zo2):=fun _ _ _ _ _ _ q=>by obtain ⟨_,_,_,_,_,_,h,_⟩:=q;exact noSome h
theorem zfp:∀n,zbh (compE n)/\zib (compT n)
  | 0=>⟨fun _ _ _ _ _ _ h=>by rw [compE] at h;obtain rfl:=sI h;exact zp8,fun _ _ _ _ _ _ h=>by rw [compT] at h;obtain rfl:=sI h;exact zll⟩
  | n+1=>by
    obtain ⟨a,b⟩:=zfp n;refine ⟨fun X S d C e g h=>?_,fun X S d C e g h=>?_⟩
    · rw [compE] at h
      cases q:orX (extE (compE n) S e) (zrw (compE n) (compT n) S e) with
      | none=>rw [q] at h;obtain rfl:=sI h;exact zp8
      | some g'=>rw [q] at h;obtain rfl:=sI h;exact zh4 (zvw a C) (zub a b X S d C) e _ q
    · rw [compT] at h
      cases q:zye (compE n) (compT n) S e with
      | none=>rw [q] at h;obtain rfl:=sI h;exact zll
      | some g'=>rw [q] at h;obtain rfl:=sI h;exact zr7 a b X S d C e _ q
end L2
namespace L2
open PySem PySem.Spec PyProof.Rows
section
variable {X:Cx}{pos:Pos}
end
section
variable {K:PySem.W.Frag}{mp:List Nat}{D:Ends}{σ:St}{H:Hp}
end
section
variable {X:Cx}{S:Sx}{d:Nat}{fE:Sx->Expr->Option GE}
end
section
variable {X:Cx}{S:Sx}{d:Nat}{fE:Sx->Expr->Option GE}
theorem zzz {o k e:Expr}{p:Pos}{env:Env}:swappedStores [.Subscript o k p] e env=pure none:=by
 cases e<;>rfl
theorem zum {o k e:Expr}{p:Pos}{l:Nat}{env:Env}:swapsWithSole [.Subscript o k p] e l env=pure false:=by
 cases e<;>rfl
theorem znq {o k:Expr}{p:Pos}{env:Env} (h:zcb k=true):∀v,assign (.Subscript o k p) env v=(do
   let ov <- holding [v] (eval o env)
   let iv <- holding [v,ov] (eval k env)
   standAt p
   holding [v,ov,iv] (setItem ov iv v)
   release [v,ov,iv] []):=by
 intro v;cases k<;>first | rfl | (cases h)
end
end L2
namespace L2
open PySem PySem.Spec PyProof.Rows
noncomputable def zc7 (mp:List Nat) (i:Nat):GS:=fun en=>match en[i]? with
 | some (some (w,true))=>if mp.contains i then none else some (en.set i none,.ret (w,true))
 | some (some (w,false))=>some (en,.ret (w,false))
 | _=>none
theorem zqe {K:PySem.W.Frag}{mp:List Nat}{D:Ends}{σ:St}{H:Hp}{i:Nat} (h:tS K mp (zc7 mp i) D σ H):tRet (tVar i) D σ H:=by
 obtain ⟨F,pr,en,en',fl,R,h,q⟩:=h;unfold zc7 at h;split at h
 ·rename_i w e;split at h
  ·exact noSome h
  ·cases h;obtain ⟨v,hv,R',z⟩:=R.drop e;exact ⟨v,hv,q F σ H v (.refl F) R' (.refl _ _) z⟩
 ·rename_i w e;cases h;obtain ⟨v,hv,z⟩:=R.val i w e;exact ⟨v,hv,q F σ H v (.refl F) R (.refl _ _) z⟩
 ·exact noSome h
noncomputable def zt3 (f:Sx->Stmt->Option GS):Prop:=∀X S d,CxOk X S d->∀st g,f S st=some g->PS X st (tS X.K S.mp g)
noncomputable def blk (f:Sx->Stmt->Option GS) (S:Sx):List Stmt->Option GS
  | []=>some zck
  | st::sts=>match sts with
    | []=>f S st
    | _::_=>(f S st).bind fun a=>(blk f S sts).bind fun b=>some (gSeq a b)
noncomputable def zgq (S:Sx) (x:Str) (px:Pos) (scope:Scope) (pos:Pos):Bool:=S.kd.lookup x == some .local && px.line == pos.line && !(scope.names.any fun (n,k)=>n == x && (k == .local || k == .cell))
noncomputable def zk0 (S:Sx) (x:Str):Bool:=S.top && S.kd.lookup x == some .cell
noncomputable def ztw (S:Sx) (x:Str) (px:Pos) (y:Str) (py:Pos) (a b:Expr):Bool:=S.kd.lookup x == some .local && S.kd.lookup y == some .local && px.line == py.line && !(x == y) && !(foldedForSure 8 a && foldedForSure 8 b) && !(constantsAlone 8 a && constantsAlone 8 b) && zag a && zag b
noncomputable def z4v:Expr->Bool
 | .Tuple ..=>true
 | _=>false
noncomputable def asgE (fE:Sx->Expr->Option GE) (fT:Sx->Expr->Option GT) (S:Sx) (tg e:Expr):Option GS:=match tg with
  | .Name x px=>(S.wr x).bind fun i=>(match e with
    | .ListComp elt gens scope pos=>(zqk fE fT S elt gens scope).bind fun g=>if zgq S x px scope pos || zk0 S x then some (gSet S.mp i g) else none
    | e=>if zfb e then (fE S e).bind fun g=>some (gSet S.mp i g) else none)
  | .Tuple es _ _=>(match es,e with
    | [.Name x px,.Name y py],.Tuple [a,b] _ _=>if ztw S x px y py a b then (S.wr x).bind fun i=>(S.wr y).bind fun j=>(fE S a).bind fun ga=>(fE S b).bind fun gb=>some (gPar S.mp i j ga gb) else none
    | _,_=>none)
  | .Subscript o k _=>(match o with
    | .Name x _=>if zcb k then (S.rd x).bind fun i=>(fE S k).bind fun gk=>(fE S e).bind fun g=>some (za0 i gk g) else none
    | _=>none)
  | _=>none
noncomputable def zzi (fS:Sx->Stmt->Option GS) (fE:Sx->Expr->Option GE) (fT:Sx->Expr->Option GT) (S:Sx) (st:Stmt):Option GS:=match st with
  | .Return o _=>(match o with
    | none=>none
    | some e=>(match e with
      | .Name x _=>(S.rd x).bind fun i=>some (zc7 S.mp i)
      | e=>(fE S e).bind fun g=>some (gRet g)))
  | .If c a b _=>(fT S c).bind fun t=>(blk fS S a).bind fun x=>(blk fS S b).bind fun y=>some (gIfS t x y)
  | .For tg it body els _=>(match els with
    | []=>(zn4 fE S tg it).bind fun gi=>(tgE S tg).bind fun T=>(blk fS S body).bind fun g=>some (gFor S.mp T gi g)
    | _=>none)
  | .Pass _=>some zck
  | .Expr e _=>if zfb e then (fE S e).bind fun g=>some (zff g) else none
  | .Assign ts e _=>(match ts with
    | [tg]=>asgE fE fT S tg e
    | _=>none)
  | .AugAssign tg op e _=>(match tg with
    | .Name x _=>(S.wr x).bind fun i=>(augO op).bind fun o=>(za6 fE S e).bind fun a=>some (gAug S.mp o i a)
    | _=>none)
  | _=>none
section
variable {X:Cx}{S:Sx}{d:Nat}{fS:Sx->Stmt->Option GS}{fE:Sx->Expr->Option GE}{fT:Sx->Expr->Option GT}
theorem zja (HS:zt3 fS) (C:CxOk X S d):∀{sts:List Stmt}{g:GS},blk fS S sts=some g->PSs X sts (tS X.K S.mp g)
  | [],_,h=>by obtain rfl:=sI h;exact zw6.wk fun _ _ _=>zjn
  | [st],_,h=>zx6 (HS X S d C _ _ h)
  | st::st' :: sts,_,h=>by
    obtain ⟨a,ha,h⟩:=bS (show (fS S st).bind _=_ from h);obtain ⟨b,hb,h⟩:=bS h;obtain rfl:=sI h;exact (zuo (HS X S d C _ _ ha) (zja HS C hb)).wk fun _ _ _=>zuf
theorem z3u (C:CxOk X S d) {x:Str}{px pos:Pos}{elt:Expr}{gens:List Comprehension}{scope:Scope}{l:Nat} (h:zgq S x px scope pos=true):swapsWith (.ListComp elt gens scope pos) (some (.Name x px)) l X.env=pure true:=by
 unfold zgq at h;rw [Bool.and_eq_true,Bool.and_eq_true] at h;have h1:X.env.kindOf x=some .local:=C.loc x (by simpa using h.1.1);show (pure (X.env.blockKind == .function && X.env.kindOf x == some .local && px.line == pos.line && !(scope.names.any fun (n,k)=>n == x && (k == .local || k == .cell))):Sem Bool)=pure true;rw [C.bk,h1,h.1.2,h.2]
 rfl
theorem swNo (C:CxOk X S d) {x:Str}{px pos:Pos}{elt:Expr}{gens:List Comprehension}{scope:Scope}{l:Nat} (h:zk0 S x=true):swapsWith (.ListComp elt gens scope pos) (some (.Name x px)) l X.env=pure false:=by
 unfold zk0 at h;rw [Bool.and_eq_true] at h;have h1:X.env.kindOf x=some .cell:=(C.cel x (by simpa using h.2)).1;show (pure (X.env.blockKind == .function && X.env.kindOf x == some .local && px.line == pos.line && !(scope.names.any fun (n,k)=>n == x && (k == .local || k == .cell))):Sem Bool)=pure false;rw [h1];have:(some NameKind.cell == some NameKind.local)=false:=rfl;rw [this,Bool.and_false,Bool.false_and,Bool.false_and]
theorem z05 (C:CxOk X S d) {x y:Str}{px py pt pt2:Pos}{a b:Expr}{kt k2:Nat} (h:ztw S x px y py a b=true):swappedStores [.Tuple [.Name x px,.Name y py] kt pt] (.Tuple [a,b] k2 pt2) X.env=pure (some [x,y]):=by
 unfold ztw at h;simp only [Bool.and_eq_true] at h;refine aG fun _ qG=>?_;obtain ⟨⟨⟨⟨⟨⟨⟨h1,h2⟩,h3⟩,h4⟩,h5⟩,h6⟩,h7⟩,h8⟩:=h;refine qG ?_;clear qG;have k1:X.env.kindOf x=some .local:=C.loc x (by simpa using h1);have k2:X.env.kindOf y=some .local:=C.loc y (by simpa using h2);have e3:px.line=py.line:=by simpa using h3
 have ne:¬ x=y:=by simpa using h4
 have st:∀e,zag e=true->(match e with | .Starred ..=>true | _=>false)=false:=fun e h=>by cases e<;>first | rfl | (cases h)
 have st' : ([a,b].any fun e=>match e with | .Starred ..=>true | _=>false)=false:=by
  rw [List.any_cons,List.any_cons,List.any_nil,st a h7,st b h8];rfl
 unfold swappedStores;simp only [List.length_cons,List.length_nil,C.bk,pure_bind];rw [if_neg (by decide)]
 try simp only [pure_bind]
 refine (if_neg (fun z=>Bool.false_ne_true (st'.symm.trans z))).trans ?_;have nm:List.filterMap (fun e=>match e with | .Name id pos=>if (X.env.kindOf id == some .local && pos.line == (Option.map (fun e=>e.pos.line) ([Expr.Name x px,Expr.Name y py]:List Expr).head?).getD 0)=true then some id else none | _=>none) ([Expr.Name x px,Expr.Name y py]:List Expr)=[x,y]:=by
  have ex:((Expr.Name x px).pos.line)=px.line:=rfl;simp [k1,k2,ex,e3]
 try simp only [pure_bind]
 generalize hq:List.filterMap _ ([Expr.Name x px,Expr.Name y py]:List Expr)=names;have hq' : names=[x,y]:=hq.symm.trans nm;subst hq';have yx:(y == x)=false:=by
  cases q:y == x with
  | false=>rfl
  | true=>exact absurd (eq_of_beq q).symm ne
 have ed:([x,y]:List Str).eraseDups=[x,y]:=by
  rw [List.eraseDups_cons,List.filter_cons,yx];simp only [Bool.not_false,if_true,List.filter_nil];rw [List.eraseDups_cons,List.filter_nil,List.eraseDups_nil]
 rw [ed,if_neg (by simp)]
 try simp only [pure_bind]
 have n5:¬ (foldedForSure 8 a && foldedForSure 8 b)=true:=fun z=>by rw [z] at h5;cases h5
 have n6:¬ (constantsAlone 8 a && constantsAlone 8 b)=true:=fun z=>by rw [z] at h6;cases h6
 rw [if_neg (by simp only [List.all_cons,List.all_nil,Bool.and_true];exact n5),if_neg (by simp only [List.all_cons,List.all_nil,Bool.and_true];exact n6)]
theorem zty {es:List Expr}{kt:Nat}{p:Pos}{e:Expr}{l:Nat}{env:Env}:swapsWithSole [.Tuple es kt p] e l env=pure false:=by
 cases e<;>rfl
theorem zyr (HE:zbh fE) (HT:zib fT) (C:CxOk X S d) {tg e:Expr}{g:GS}{pos:Pos} (h:asgE fE fT S tg e=some g):PS X (.Assign [tg] e pos) (tS X.K S.mp g):=by
  cases tg with
  | Name x px =>
    refine aG fun _ qG=>?_;obtain ⟨i,hi,h⟩:=bS (show (S.wr x).bind _=_ from h);obtain ⟨w1,w2,w3⟩:=znk C hi;refine qG ?_;clear qG;have plain:(if zfb e then (fE S e).bind fun g=>some (gSet S.mp i g) else none)=some g->PS X (.Assign [.Name x px] e pos) (tS X.K S.mp g):=fun h=>by
      split at h
      · rename_i z
        obtain ⟨ge,hg,h⟩:=bS h;obtain rfl:=sI h;exact (zvb (ndN C) w1 w2 (HE X S d C _ _ hg) (zmj z) w3).wk fun _ _ _=>zgy
      · exact noSome h
    cases e with
    | ListComp elt gens scope pc =>
      obtain ⟨ge,hg,h⟩:=bS (show (zqk fE fT S elt gens scope).bind _=_ from h);have cp:=ze7 HE HT C hg;split at h
      · rename_i z
        obtain rfl:=sI h;rw [Bool.or_eq_true] at z;rcases z with z | z
        · refine aG fun Gg qG => ?_
          obtain ⟨tg,iter,ifs,gs,gi,T,tc,em,tm,e1,e2,so,pi,pf,pg,pt,pe,rd⟩:=cp.ex;refine qG ?_;clear qG;subst e1;exact (zws (ndN C) w1 w2 pi pg pt (pe pc) (e2 pc) (z3u C z) C.calm so.kind so.cap so.fr so.nc so.nm pf w3).wk fun D σ H q=>by
            have q':=zgy q;exact rd _ _ _ q'
        · exact (zvb (ndN C) w1 w2 (zqd C cp) (swNo C z) w3).wk fun _ _ _=>zgy
      · exact noSome h
    | _=>exact plain h
  | Tuple es kt p =>
    unfold asgE at h;simp only at h;split at h
    · rename_i x px y py a b k2 p2
      split at h
      · rename_i z
        refine aG fun _ qG=>?_;obtain ⟨i,hi,h⟩:=bS h;obtain ⟨j,hj,h⟩:=bS h;obtain ⟨ga,hga,h⟩:=bS h;obtain ⟨gb,hgb,h⟩:=bS h;refine qG ?_;clear qG;obtain rfl:=sI h;have hsw:=z05 (pt:=p) (pt2:=p2) (kt:=kt) (k2:=k2) C z;unfold ztw at z;simp only [Bool.and_eq_true] at z;refine aG fun _ qG=>?_;obtain ⟨⟨⟨⟨⟨⟨⟨h1,h2⟩,h3⟩,h4⟩,h5⟩,h6⟩,h7⟩,h8⟩:=z;obtain ⟨x1,_,_⟩:=znk C hi;obtain ⟨y1,_,_⟩:=znk C hj;refine qG ?_;clear qG;have ne:i≠j:=fun e=>by
          subst e;rw [x1] at y1;obtain rfl:=sI y1;simp at h4
        exact (zzt C.calm (ndN C) x1 y1 ne (C.loc x (by simpa using h1)) (C.loc y (by simpa using h2)) (pac (HE X S d C _ _ hga) (pac (HE X S d C _ _ hgb) zdi h8) h7) hsw zty).wk fun _ _ _=>ztu
      · exact noSome h
    · exact noSome h
  | Subscript o k p =>
    cases o with
    | Name x px =>
      have h' : (if zcb k then (S.rd x).bind fun i=>(fE S k).bind fun gk=>(fE S e).bind fun g=>some (za0 i gk g) else none)=some g:=h;split at h'
      · rename_i z
        refine aG fun _ qG=>?_;obtain ⟨i,hi,h⟩:=bS h';obtain ⟨gk,hgk,h⟩:=bS h;obtain ⟨ge,hg,h⟩:=bS h;refine qG ?_;clear qG;obtain rfl:=sI h;exact (z07 (HE X S d C _ _ hg) (z0d (zoq C hi) (HE X S d C _ _ hgk) zte (znq z)) zum zzz rfl).wk fun _ _ _=>znb
      · exact noSome h'
    | _=>exact noSome h
  | _=>exact noSome h
theorem zuq (HS:zt3 fS) (HE:zbh fE) (HT:zib fT):zt3 (zzi fS fE fT):=fun X S d C st g h=>by
  have pn:PassesOwn (model X.prog X.w) X.A X.env X.xe:=by rw [C.xe];exact PassesOwn.never
  cases st with
  | Return o p =>
    cases o with
    | none=>cases h
    | some e =>
      have gen:((fE S e).bind fun g=>some (gRet g))=some g->PS X (.Return (some e) p) (tS X.K S.mp g):=fun h=>by
        obtain ⟨ge,hg,h⟩:=bS h;obtain rfl:=sI h;exact (zvn (HE X S d C _ _ hg)).wk fun _ _ _=>ztk
      cases e with
      | Name x px =>
        obtain ⟨i,hi,h⟩:=bS (show (S.rd x).bind _=_ from h);obtain rfl:=sI h;exact (zvn (zoq C hi)).wk fun _ _ _=>zqe
      | _=>exact gen h
  | If c a b p =>
    obtain ⟨t,ht,h⟩:=bS (show (fT S c).bind _=_ from h);obtain ⟨x,hx,h⟩:=bS h;obtain ⟨y,hy,h⟩:=bS h;obtain rfl:=sI h;exact (z3l (HT X S d C _ _ ht) (zja HS C hx) (zja HS C hy)).wk fun _ _ _=>zun
  | For tg it body els p =>
    cases els with
    | cons _ _=>exact noSome h
    | nil =>
      obtain ⟨gi,hgi,h⟩:=bS (show (zn4 fE S tg it).bind _=_ from h);obtain ⟨T,hT,h⟩:=bS h;obtain ⟨gb,hb,h⟩:=bS h;obtain rfl:=sI h;obtain ⟨pi,pf⟩:=zlw HE C hgi;exact (z00 pn C.calm pi (zvj C hT) (zja HS C hb) pf).wk fun _ _ _=>zsz
  | Pass p=>obtain rfl:=sI h;exact zwn.wk fun _ _ _=>zjn
  | Expr e p =>
    have h' : (if zfb e then (fE S e).bind fun g=>some (zff g) else none)=some g:=h;split at h'
    · rename_i z
      obtain ⟨ge,hg,h⟩:=bS h';obtain rfl:=sI h;exact (zza (HE X S d C _ _ hg) (zmj z)).wk fun _ _ _=>zpt
    · exact noSome h'
  | Assign ts e p =>
    match ts,h with
    | [tg],h=>exact zyr HE HT C h
    | [],h=>exact noSome h
    | _::_::_,h=>exact noSome h
  | AugAssign tg op e p =>
    cases tg with
    | Name x px =>
      obtain ⟨i,hi,h⟩:=bS (show (S.wr x).bind _=_ from h);obtain ⟨o,ho,h⟩:=bS h;obtain ⟨a,ha,h⟩:=bS h;obtain rfl:=sI h;obtain ⟨w1,w2,w3⟩:=znk C hi;obtain ⟨r,h1,h2⟩:=zwh (X:=X) ho;exact (z28 (ndN C) w1 w2 (zad HE C ha) h1 w3).wk fun _ _ _=>zss h2
    | _=>exact noSome h
  | _=>exact noSome h
end
noncomputable def zlc:GS:=fun _=>none
noncomputable def zp4:Nat->Sx->Stmt->Option GS
 | 0,_,_=>some zlc
 | n+1,S,st=>some ((zzi (zp4 n) (compE n) (compT n) S st).getD zlc)
theorem zme {X:Cx}{st:Stmt}{mp:List Nat}:PS X st (tS X.K mp zlc):=fun _ _ _ _ _ _ q=>by obtain ⟨_,_,_,_,_,_,h,_⟩:=q;exact noSome h
theorem zf8:∀n,zt3 (zp4 n)
  | 0=>fun _ _ _ _ _ _ h=>by obtain rfl:=sI h;exact zme
  | n+1=>fun X S d C st g h=>by
    rw [zp4] at h;cases q:zzi (zp4 n) (compE n) (compT n) S st with
    | none=>rw [q] at h;obtain rfl:=sI h;exact zme
    | some g'=>rw [q] at h;obtain rfl:=sI h;exact zuq (zf8 n) (zfp n).1 (zfp n).2 X S d C st _ q
structure Fd where
 nm:Str
 ps:List Str
 N:List Str
 m:List Bool
 st:Stmt
noncomputable def deep:Nat:=60
noncomputable def sxOf (T:List Fd) (bn:List Str) (Ψ:Str->Fn) (d:Nat) (t:Fd):Sx:={ N:=t.N,kd:=(zaj t.st).names,bn:=bn,fs:=T.map fun u=>(u.nm,(u.m,Ψ u.nm)),mp:=mpOf t.m,top:=true,nm:=t.nm,dp:=d }
noncomputable def zbd (T:List Fd) (bn:List Str) (Ψ:Str->Fn) (d:Nat) (t:Fd):Option GS:=blk (zp4 deep) (sxOf T bn Ψ d t) (zct t.st)
noncomputable def fnAt (T:List Fd) (bn:List Str) (Ψ:Str->Fn) (d:Nat) (t:Fd):Fn:=match zbd T bn Ψ d t with
 | some g=>zao t.m t.N.length g
 | none=>fun _=>none
noncomputable def sem (T:List Fd) (bn:List Str):Nat->Str->Fn
  | 0,_=>fun _=>none
  | d+1,x=>match T.find? (·.nm == x) with
    | some t=>fnAt T bn (sem T bn d) d t
    | none=>fun _=>none
noncomputable def zt9 (K:PySem.W.Frag) (x:Str):Bool:=match PySem.W.tabIn K x with
 | some (c,P)=>PySem.W.codeHdIn K c P
 | none=>false
theorem Fun.okC {P:Program}{w:World}{K:PySem.W.Frag}{mg:Str->Option Value}{base:Heap}{x qual:Str}{st:Stmt}{f:Addr}{fd:FuncData}{N ps:List Str}{k:Nat}{sp:Sp} (F:Fun K x qual st f fd) (S:FnScope N ps (zaj st)) (len:∀vs H Q E,sp vs H Q E->vs.length=ps.length)
  (hbody:∀(A:Around) (outer:List Env) (s:Shared) (H:Hp) (vs:List V) (Q:VK) (E:XK),(Room k (A.deeper (envOfC qual (zaj st) s.heap.objs.size f fd.code))/\Room (k+1) A)->sp vs H Q E ->
   ∃t,PSs (cxOf CX0 P w K mg base N qual (zaj st) f fd.code A outer s H E).nox (zct st) t/\t { nx:=fun _ H'=>Q .non H',rt:=Q } (start N vs) H):FnOk P w K mg base CX0 (k+1) f fd ps sp:=by
 refine aG fun _ qG=>?_;obtain ⟨oc,od,kV,doc,pm,an,cdv,ct,osl,rfl,lk,hcd⟩:=F.ex;refine qG ?_;clear qG;refine z39 lk hcd S len fun A outer s H vs Q E hr hsp=>?_;obtain ⟨t,h,q⟩:=hbody A outer s H vs Q E hr hsp;exact ⟨t,h.nox,q⟩
structure FdOk (K:PySem.W.Frag) (mg:Str->Option Value) (t:Fd):Prop where
 sc:FnScope t.N t.ps (zaj t.st)
 m:t.m.length=t.ps.length
 ex:∃f fd,Fun K t.nm t.nm t.st f fd/\zjy K fd t.ps []/\mg t.nm=some (.ref f)
 lam:t.nm∈lams->zt9 K t.nm=true
theorem zna {T:List Fd}{Ψ:Str->Fn}{x:Str}{m:List Bool}{Φ:Fn} (h:(T.map fun u=>(u.nm,(u.m,Ψ u.nm))).lookup x=some (m,Φ)):∃t∈T,t.nm=x/\t.m=m/\Φ=Ψ x:=by
  induction T with
  | nil=>exact noSome h
  | cons t T ih =>
    rw [List.map_cons,List.lookup_cons] at h;cases q:x == t.nm with
    | true =>
      rw [q] at h;cases h;have:=eq_of_beq q;subst this;exact ⟨t,List.mem_cons_self,rfl,rfl,rfl⟩
    | false =>
      rw [q] at h;obtain ⟨u,h1,h2⟩:=ih h;exact ⟨u,List.mem_cons_of_mem _ h1,h2⟩
theorem zyv {T:List Fd} (nd:(T.map (·.nm)).Nodup) {t:Fd} (h:t∈T):T.find? (·.nm == t.nm)=some t:=by
  induction T with
  | nil=>cases h
  | cons u T ih =>
    rw [List.map_cons,List.nodup_cons] at nd;rw [List.find?_cons];rcases List.mem_cons.mp h with rfl | h
    · simp
    · have:(u.nm == t.nm)=false:=by
        cases q:u.nm == t.nm with
        | false=>rfl
        | true=>exact absurd (List.mem_map.mpr ⟨t,h,(eq_of_beq q).symm⟩) nd.1
      rw [this];exact ih nd.2 h
theorem zpw {P:Program}{w:World}{K:PySem.W.Frag}{mg:Str->Option Value}{base:Heap}{T:List Fd}{bn:List Str} (nd:(T.map (·.nm)).Nodup) (ok:∀t∈T,FdOk K mg t) (hb:∀x∈bn,mg x=none) (kb:K.In base) (nb:base.Ns mainGlobals mg) :
    ∀(d:Nat) (t:Fd),t∈T->∀f fd,Fun K t.nm t.nm t.st f fd->mg t.nm=some (.ref f)->FnOk P w K mg base CX0 d f fd t.ps (spF K t.m (sem T bn d t.nm))
  | 0,t,_,f,fd,_,_=>⟨fun vs H Q E h=>(by obtain ⟨_,_,_,_,_,_,_,_,h,_⟩:=h;cases h),fun A outer s H args us vs Q E hr he hbi hv h=>(by obtain ⟨_,_,_,_,_,_,_,_,h,_⟩:=h;cases h)⟩
  | d+1,t,ht,f,fd,F,M=>by
    have o:=ok t ht;refine F.okC (k:=d) o.sc (fun vs H Q E h=>(zo1 h).trans o.m) (fun A outer s H vs Q E hr h=>?_);have es:sem T bn (d+1) t.nm=fnAt T bn (sem T bn d) d t:=by
      show (match T.find? (·.nm == t.nm) with | some t=>fnAt T bn (sem T bn d) d t | none=>fun _=>none)=_;rw [zyv nd ht]
    rw [es] at h;unfold fnAt at h;cases e:zbd T bn (sem T bn d) d t with
    | none =>
      rw [e] at h;refine aG fun _ qG=>?_;obtain ⟨_,_,_,_,_,_,_,_,h,_⟩:=h;refine qG ?_;clear qG;exact noSome h
    | some g =>
      rw [e] at h;have C:CxOk (cxOf CX0 P w K mg base t.N t.nm (zaj t.st) f fd.code A outer s H E).nox (sxOf T bn (sem T bn d) d t) d:={
        N:=rfl
        nd:=o.sc.nd
        loc:=fun x e=>e
        cel:=fun x e=>⟨e,rfl⟩
        vis:=fun x e=>e
        gl:=fun x e=>e
        calm:=rfl
        xe:=rfl
        bn:=hb
        fs:=fun x m Φ e=>by
          refine aG fun _ qG=>?_;obtain ⟨u,hu,e1,e2,e3⟩:=zna e;refine qG ?_;clear qG;subst e1 e2 e3;refine aG fun _ qG=>?_;obtain ⟨fa,fb,F',B',M'⟩:=(ok u hu).ex;refine qG ?_;clear qG;exact ⟨u.ps,(ok u hu).m.symm,⟨fa,fb,zpw nd ok hb kb nb d u hu fa fb F' M',B',F'.kp,M'⟩⟩
        room:=hr.1
        sl:=by have:=hr.2.un;show A.units+3+16 * d+205 < cLine;omega
        dpo:=Nat.le_refl _
        lam:=fun h=>by
          have q:=o.lam h;unfold zt9 at q;split at q
          · rename_i c Pt e
            refine ⟨c,Pt,e,q,?_,rfl⟩;refine aG fun _ qG=>?_;obtain ⟨oc,od,kV,doc,pm,an,cdv,ct,osl,e1,lk,hcd⟩:=F.ex;refine qG ?_;clear qG;exact PySem.W.law_code kb nb e M (kb _ _ lk) rfl
          · cases q
        bk:=by
          show (if (zaj t.st).kind.isAnnotationScope then ScopeKind.function else (zaj t.st).kind)=.function;rw [o.sc.kind];rfl }
      exact ⟨_,zja (zf8 deep) C e,zxg h⟩
theorem znd {K:PySem.W.Frag}{F H:Hp}{a:Addr}{ns:List Int}{Φ:Fn}{ws' : List W} (hs:Same F H) (tb:zmv K F (fun _ _=>False) H) (h:SqL K F a (ns.map V.int)) (e:Φ [.frl (ns.map W.int)]=some (ws',(.bl true,false))) (hl:ws'.length=1) {E:XK}:spF K [false] Φ [.ref a] H (fun v _=>v=.bl true) E:=by
 refine ⟨F,fun _ _=>False,_,ws',_,rfl,hl,⟨rfl,hs,fun i w q=>?_,fun i w q=>?_,fun i j a w w' q=>?_,fun b o q=>q.elim,tb⟩,e,fun F' H' v _ _ z=>?_⟩
 ·cases i with
  | zero=>cases q;exact ⟨_,rfl,.frl h (Reps.ofInts ns)⟩
  | succ i=>cases i<;>exact noSome q
 ·cases i with
  | zero=>cases q
  | succ i=>cases i<;>exact noSome q
 ·cases i with
  | zero=>cases q
  | succ i=>cases i<;>exact noSome q
 ·exact z.isBl
end L2
namespace L2
open PySem PySem.Spec PyProof.Rows
noncomputable def tabsOf (K:PySem.W.Frag):List Addr:=lams.filterMap fun x=>(PySem.W.tabIn K x).map (·.2)
theorem zgm {K:PySem.W.Frag}{b:Addr}:b∈tabsOf K↔∃x∈lams,∃c,PySem.W.tabIn K x=some (c,b):=by
 unfold tabsOf;rw [List.mem_filterMap];constructor
 ·rintro ⟨x, hx, e⟩;cases q:PySem.W.tabIn K x with
  | none=>rw [q] at e;exact noSome e
  | some p=>rw [q] at e;obtain rfl:=sI e;exact ⟨x,hx,p.1,q⟩
 ·rintro ⟨x, hx, c, e⟩;exact ⟨x,hx,by rw [e];rfl⟩
noncomputable def z06 (K:PySem.W.Frag) (h:Heap):Prop:=∀x∈lams,∀c P,PySem.W.tabIn K x=some (c,P)->PySem.W.CodeHd h c P/\h.get? P=some (PySem.W.tabObj #[])
structure Start (K:PySem.W.Frag) (F H:Hp):Prop where
 sub:Same F H
 tb:zmv K F (fun _ _=>False) H
theorem zrf {P:Program}{w:World}{K:PySem.W.Frag}{mg mb:Str->Option Value}{CX:CXT}{k:Nat}{fa a:Addr}{fd:FuncData}{x:Str}{sp:Sp}{s₁:Shared}{vs:List Value}{ns:List Int}
    (KX:K.In s₁.heap) (nt:PySem.W.noTabs K=true) (nd:zww K) (hT:z06 K s₁.heap) (hns:s₁.heap.Ns mainGlobals mg) (hb:s₁.heap.Ns builtinsNs mb) (hbb:∀x:Str,x≠"__name__" -> mb x=bootBuiltins x) (hlim:s₁.heap.NoLimit) (hbm:∃(b:Addr) (ob:Obj),mg "__builtins__" = some (.ref b)/\b≠builtinsNs/\s₁.heap.get? b=some ob/\ob.cls=.type "module"/\ob.dict=some builtinsNs/\ob.data=.plain) (hg:s₁.gens=#[])
    (ha:s₁.heap.get? a=some { cls:=.type "list",data:=.seq vs.toArray }) (hi:IntsAre vs ns) (hl:ns.length<=sizeLine) (hr:Room k callerA)
    (Fk:∀base:Heap,K.In base->base.Ns mainGlobals mg->FnOk P w K mg base CX k fa fd [x] sp) (hbind:∀(s:Shared) (u:Value),BindsTo s fd ⟨[u],[]⟩ [(x,u)])
    (hsp:∀F H:Hp,Start K F H->SqL K F a (ns.map V.int)->sp [.ref a] H (fun v _=>v=.bl true) fun _ _ _=>False)
    (hCX:∀H e s',CX [] H s₁ (fun _ _ _=>False) e s'->False) :
    codeAny (model P w) callerA (.call (.ref fa) ⟨[.ref a],[]⟩) (fun r s'=>r=.ok (.ret (.bool true))/\OldK s₁.heap s'.heap/\s'.os=s₁.os/\AllBare s'.gens) s₁:=by
  have rv:=zhy hi;have lenV:=hi.length;have tabAt:∀b∈tabsOf K,s₁.heap.get? b=some (PySem.W.tabObj #[]):=fun b h=>by
    refine aG fun _ qG=>?_;obtain ⟨x,hx,c,e⟩:=zgm.mp h;refine qG ?_;clear qG;exact (hT x hx c b e).2
  have na:a ∉ tabsOf K:=fun h=>by
    have:=tabAt a h;rw [ha] at this;cases this
  have core:∀F H:Hp,(∀b,H b=none\/(b∈tabsOf K/\H b=some (.tbl #[])/\F b=none)\/(b=a/\K.lookup a=none/\F b=H b/\∃o xs,H b=some (.frz o (.lst xs))))->(∀b,H b=none->F b=none)->(∀b∈tabsOf K,H b=some (.tbl #[]))->SqL K F a (ns.map V.int)->HOk P w H s₁.heap ->
      codeAny (model P w) callerA (.call (.ref fa) ⟨[.ref a],[]⟩) (fun r s'=>r=.ok (.ret (.bool true))/\OldK s₁.heap s'.heap/\s'.os=s₁.os/\AllBare s'.gens) s₁:=by
    intro F H hO hF hB hS hok;have base_of:∀{b:Addr}{o:Obj},s₁.heap.get? b=some o->H b=none->(hidT s₁.heap H).get? b=some o:=fun e n=>zsp e n;have noA:∀{b:Addr}{o:Obj}{es:Array DictEntry}{ep:Nat},s₁.heap.get? b=some o->o.data=.dict es ep->H b=none:=fun {b o es ep} e d=>by
      rcases hO b with z | ⟨z,_⟩ | ⟨z,_⟩
      · exact z
      · rw [tabAt b z] at e;obtain rfl:=sI e;cases d
      · subst z
        rw [ha] at e;obtain rfl:=sI e;have d' : Data.seq vs.toArray _=Data.dict es ep:=d;cases d'
    have nsK:∀{b:Addr}{m:Str->Option Value},s₁.heap.Ns b m->(hidT s₁.heap H).Ns b m:=fun {b m} ⟨o,es,ep,e,d,r⟩=>⟨o,es,ep,base_of e (noA e d),d,r⟩;have hKb:K.In (hidT s₁.heap H):=fun b o e=>base_of (KX b o e) (by
      rcases hO b with z | ⟨z,_⟩ | ⟨z,n,_⟩
      · exact z
      · have e2 := KX b o e
        rw [tabAt b z] at e2;obtain rfl:=sI e2;have:=List.all_eq_true.mp nt (b,_) (PySem.W.mem_of_lookupK e);exact absurd (show false=true from this) Bool.false_ne_true
      · subst z
        rw [n] at e;cases e)
    have hM:Mod K mg (hidT s₁.heap H):=⟨hKb,nsK hns,⟨mb,nsK hb,hbb⟩,let ⟨mc,h1,h2⟩:=hlim;⟨mc,nsK h1,h2⟩,by
      refine aG fun _ qG=>?_;obtain ⟨b,ob,b1,b2,b3,b4,b5,b6⟩:=hbm;refine qG ?_;clear qG;refine ⟨b,ob,b1,b2,base_of b3 ?_,b4,b5,b6⟩;rcases hO b with z | ⟨z,_⟩ | ⟨z,_⟩
      · exact z
      · rw [tabAt b z] at b3;obtain rfl:=sI b3;cases b4
      · subst z;rw [ha] at b3;obtain rfl:=sI b3;exact absurd b4 (by simp)⟩
    have e0:Env0 P w K mg (hidT s₁.heap H) callerA [] s₁ H:=⟨rfl,hM,fun b o e=>zx5 e,Nat.le_of_eq (zql _ _),trivial,fun b hb=>absurd (show b∈([]:List Addr) from hb) (by simp),hok,.of_eq hg⟩;have st:Start K F H:=⟨fun b o e=>by
      rcases hO b with z | ⟨_,_,z⟩ | ⟨_,_,z,_⟩
      · rw [hF b z] at e;cases e
      · rw [z] at e;cases e
      · rw [<-z];exact e,⟨⟨nd,fun _ _ z=>z⟩,fun x hx c Pt e=>by
      have hm:Pt∈tabsOf K:=zgm.mpr ⟨x,hx,c,e⟩;refine ⟨#[],hB Pt hm,?_,fun _ z=>z,trivial,fun pos cv q=>by cases q⟩;rcases hO Pt with z | ⟨_,_,z⟩ | ⟨z,_⟩
      · exact hF Pt z
      · exact z
      · subst z;exact absurd hm na⟩⟩
    refine codeAny_mono ((Fk _ hKb (nsK hns)).run callerA [] s₁ H ⟨[.ref a],[]⟩ [.ref a] [.ref a] _ _ hr e0 (hbind s₁ (.ref a)) (.cons rfl .nil) (hsp F H st hS)) fun r s' h=>?_;cases r with
    | error e=>exact (hCX H e s' h).elim
    | ok fl =>
      cases fl with
      | next=>exact False.elim h
      | brk=>exact False.elim h
      | cont=>exact False.elim h
      | ret u =>
        refine aG fun _ qG=>?_;obtain ⟨v,H',os,bare,un,hok',r',q⟩:=h;refine qG ?_;clear qG;have q' : v=.bl true:=q;subst q';obtain rfl:u=Value.bool true:=r';refine ⟨rfl,⟨fun b o e=>?_,fun b o e=>un.there b o e (by simp)⟩,os,bare⟩;rcases hO b with z | ⟨z,z1,_⟩ | ⟨_,_,_,ob,xs,z⟩
        · exact .inl (un.keep b o e z (by intro y;exact absurd (show b∈([]:List Addr) from y) (by simp)) (by simp))
        · refine aG fun Gg qG => ?_
          obtain ⟨x,hx,c,ex⟩:=zgm.mp z;obtain ⟨t1,t2⟩:=hT x hx c b ex;refine qG ?_;clear qG;rw [e] at t2;obtain rfl:=sI t2;obtain ⟨more,e2⟩:=un.tbls b #[] z1;exact .inr (.inl ⟨(t1.tab e).isCodeTable,rfl,#[],more,rfl,hok' b _ e2⟩)
        · have z2 := un.frzs b ob _ z
          obtain ⟨e1,_⟩:=hok b _ z;obtain ⟨e2,_⟩:=hok' b _ z2;rw [e] at e1;obtain rfl:=sI e1;exact .inl e2
  have tOk:∀b,b∈tabsOf K->∀H,zbt P w H s₁.heap b (.tbl #[]):=fun b h H=>tabAt b h;cases hk:K.lookup a with
  | some o =>
    have e:=KX a o hk;rw [ha] at e;obtain rfl:=sI e;refine core (fun _=>none) (fun b=>if b∈tabsOf K then some (.tbl #[]) else none) (fun b=>?_) (fun _ _=>rfl) (fun b h=>if_pos h) (.inr ⟨_,vs.toArray,_,hk,rfl,rfl,rfl,by rw [List.size_toArray,lenV];exact hl,by simpa using rv⟩) (fun b u z=>?_)
    · by_cases h : b ∈ tabsOf K
      · exact .inr (.inl ⟨h,if_pos h,rfl⟩)
      · exact .inl (if_neg h)
    · by_cases h : b ∈ tabsOf K
      · have z' := (if_pos h).symm.trans z
        obtain rfl:=sI z';exact tOk b h _
      · have z' := (if_neg h).symm.trans z
        cases z'
  | none =>
    refine core (fun b=>if b=a then some (.frz { cls:=.type "list",data:=.seq vs.toArray } (.lst (ns.map V.int))) else none) (fun b=>if b=a then some (.frz { cls:=.type "list",data:=.seq vs.toArray } (.lst (ns.map V.int))) else if b∈tabsOf K then some (.tbl #[]) else none) (fun b=>?_) (fun b z=>?_) (fun b h=>?_) (.inl (.inr ⟨{ cls:=.type "list",data:=.seq vs.toArray },if_pos rfl⟩)) (fun b u z=>?_)
    · by_cases h0 : b = a
      · exact .inr (.inr ⟨h0,hk,by simp only [if_pos h0],_,_,if_pos h0⟩)
      · by_cases h : b ∈ tabsOf K
        · exact .inr (.inl ⟨h,by simp only [if_neg h0,if_pos h],if_neg h0⟩)
        · exact .inl (by simp only [if_neg h0,if_neg h])
    · by_cases h0 : b = a
      · simp only [if_pos h0] at z;cases z
      · exact if_neg h0
    · have h0 : b ≠ a := fun z => by subst z; exact na h
      simp only [if_neg h0,if_pos h]
    · by_cases h0 : b = a
      · have z' : some (HO.frz { cls := .type "list", data := .seq vs.toArray } (.lst (ns.map V.int))) = some u := by simpa only [if_pos h0] using z
        obtain rfl:=sI z';subst h0;exact ⟨ha,by rw [List.length_map];exact hl,vs,_,rv,ha⟩
      · by_cases h : b ∈ tabsOf K
        · have z' : some (HO.tbl #[]) = some u := by simpa only [if_neg h0, if_pos h] using z
          obtain rfl:=sI z';exact tOk b h _
        · have z' : (none : Option HO) = some u := by simpa only [if_neg h0, if_neg h] using z
          cases z'
noncomputable def zrh (K:PySem.W.Frag):Bool:=lams.all fun x=>lams.all fun x'=>match PySem.W.tabIn K x,PySem.W.tabIn K x' with
 | some p,some p'=>x == x' || !(p.2 == p'.2)
 | _,_=>true
theorem zua {K:PySem.W.Frag} (h:zrh K=true):zww K:=fun x hx x' hx' c c' P e e'=>by
 have:=List.all_eq_true.mp (List.all_eq_true.mp h x hx) x' hx';rw [e,e'] at this;simpa using this
theorem walk_ofT {l:PySem.W.OpenLaw}{n k:Nat}{q:Program}{loose:List Str}{XP:(Str->Option Value)->Heap->Prop}{YP:World->Heap->Prop}{d:DefRec}{K:Params->PySem.W.Frag}{CX:World->CXT}{sp:World->Sp}{x:Str}
  (hn:l.most=some n) (hn2:n<=sizeLine) (hdf:d.params.defaults=[]) (hr:Room k callerA)
  (hY:∀(w:World) (h:Heap),YP w h->(K w.params).In h)
  (nt:∀w:World,PySem.W.noTabs (K w.params)=true) (nd:∀w:World,zrh (K w.params)=true) (hrec:∀(w:World),∀x∈lams,∀c P,PySem.W.tabIn (K w.params) x=some (c,P)->∃d,(recsOf q).find? (fun e=>e.name == x)=some d)
  (F:∀(w:World) (mg:Str->Option Value) (fa:Addr) (h:Heap),(K w.params).In h->h.Ns mainGlobals mg->mg d.name=some (.ref fa) ->
   ∃fd:FuncData,(∀(s:Shared) (u:Value),BindsTo s fd ⟨[u],[]⟩ [(x,u)]) /\
    ∀base:Heap,(K w.params).In base->base.Ns mainGlobals mg->FnOk l.prog w (K w.params) mg base (CX w) k fa fd [x] (sp w))
  (hsp:∀(w:World) (F H:Hp) (a:Addr) (ns:List Int),ns.length<=n->Start (K w.params) F H->SqL (K w.params) F a (ns.map V.int)->sp w [.ref a] H (fun v _=>v=.bl true) fun _ _ _=>False)
  (hCX:∀(w:World) (H:Hp) (s:Shared) (e:Value) (s' : Shared),CX w [] H s (fun _ _ _=>False) e s'->False) :
  PySem.W.WalkO q loose XP YP l.row.toRowW d [] (fun f vs=>PySem.call f vs):=by
 refine Att.attach_call hn hdf fun w s₀ s₁ mg mb fa o pm cd doc a vs ns G Y ho hd hcd hmg hobj hints hlen hg=>?_;have KX:=hY w _ Y;obtain ⟨fd,hb,hF⟩:=F w mg fa _ KX G.T.g hmg;refine zrf KX (nt w) (zua (nd w)) (fun x hx c Pt e=>?_) G.T.g G.T.b G.T.builtins G.T.nolimit G.T.bmain hg hobj hints (Nat.le_trans hlen hn2) hr hF hb (fun F H hO hS=>hsp w F H a ns hlen hO hS) fun H e s'=>hCX w H s₁ e s';obtain ⟨d,hd⟩:=hrec w x hx c Pt e;exact PySem.W.tab_of G.T KX hd e
end L2
namespace L2
open PySem PySem.Spec PyProof.Rows
theorem zqa (i j:Int):oAdd (.int i) (.int j)=some (.int (i+j),false):=rfl
theorem zor {i j:Int} (h:cMul i j=true):oMult (.int i) (.int j)=some (.int (i * j),false):=by
 show (match (if cMul i j then some (W.int (i * j),false) else none) with | some p=>some p | none=>_)=_;rw [if_pos h]
theorem oMult_l {i j:Int} (h1:-(2 ^ 64) < i) (h2:i < 2 ^ 64):oMult (.int i) (.int j)=some (.int (i * j),false):=zor (by
 unfold cMul;rw [Bool.or_eq_true,Bool.and_eq_true];exact .inl ⟨decide_eq_true h1,decide_eq_true h2⟩)
theorem zkn {i j:Int} (h1:-(2 ^ 64) < j) (h2:j < 2 ^ 64):oMult (.int i) (.int j)=some (.int (i * j),false):=zor (by
 unfold cMul;rw [Bool.or_eq_true,Bool.and_eq_true,Bool.and_eq_true];exact .inr ⟨decide_eq_true h1,decide_eq_true h2⟩)
theorem zp9 {i j:Int} (h1:Builtin.Int.intBits i<=2 ^ 20) (h2:Builtin.Int.intBits j<=2 ^ 20):oMult (.int i) (.int j)=some (.int (i * j),false):=by
 have h:zni i j=true:=by
  unfold zni;rw [Bool.and_eq_true];exact ⟨decide_eq_true h1,decide_eq_true h2⟩
 show (match (if cMul i j then some (W.int (i * j),false) else none) with | some p=>some p | none=>(match (if zni i j then some (W.int (i * j),false) else none) with | some p=>some p | none=>_))=_;rw [if_pos h];split<;>simp_all
theorem zpl {xs:List W}{k:Int} (h:-(2 ^ 63)<=k/\k < 2 ^ 63/\xs.length * k.toNat<=sizeLine):oMult (.lst xs) (.int k)=some (.lst (List.replicate k.toNat xs).flatten,true):=by
 show (if -(2 ^ 63)<=k/\k < 2 ^ 63/\xs.length * k.toNat<=sizeLine then some (W.lst (List.replicate k.toNat xs).flatten,true) else none)=_;rw [if_pos h]
theorem zwo {xs ys:List W} (h:xs.length+ys.length<=sizeLine):oAdd (.lst xs) (.lst ys)=some (.lst (xs++ys),true):=by
 show (match (if xs.length+ys.length<=sizeLine then some (W.lst (xs++ys),true) else none) with | some p=>some p | none=>_)=_;rw [if_pos h]
theorem z1p {i j:Int} (h0:0 < j) (h:j < 2 ^ 200):cDiv i j=true:=by
 unfold cDiv;rw [Bool.and_eq_true];refine ⟨decide_eq_true h0,decide_eq_true ?_⟩;have hn:j.natAbs≠0:=by omega
 have h1:j.natAbs < 2 ^ 200:=by
  have:((j.natAbs:Nat):Int) < ((2 ^ 200:Nat):Int):=by
   rw [Int.natCast_pow];have e:((j.natAbs:Nat):Int)=j:=by omega
   rw [e];exact h
  exact Int.ofNat_lt.mp this
 exact Nat.lt_of_lt_of_le ((Nat.log2_lt hn).mpr h1) (by decide)
theorem zpr {i j:Int} (h0:0 < j) (h:j < 18446744073709551617):cDiv i j=true:=z1p h0 (Int.lt_of_lt_of_le h (by decide))
theorem zrs {i j:Int} (h0:0<=j) (h1:j<=1000000) (h2:i.natAbs < 2 ^ 64):cPow i j=true:=by
 unfold cPow;rw [Bool.and_eq_true,Bool.and_eq_true];exact ⟨⟨decide_eq_true h0,decide_eq_true h1⟩,decide_eq_true h2⟩
theorem zl5 {mp:List Nat}{T:Tg}{body:GS} (P:Nat->En->Prop):∀(ws:List W) (k:Nat) (en:En),P k en->(∀i w e,ws[i]?=some w->P (k+i) e->∃e1 e2,tgSet mp T w e=some e1/\(body e1=some (e2,.nx)\/body e1=some (e2,.cnt))/\P (k+i+1) e2) ->
    ∃en',zit mp T body ws en=some (en',.nx)/\P (k+ws.length) en'
  | [],k,en,h0,_=>⟨en,rfl,h0⟩
  | w::ws,k,en,h0,hs=>by
    refine aG fun _ qG=>?_;obtain ⟨e1,e2,h1,h2,h3⟩:=hs 0 w en rfl h0;refine qG ?_;clear qG;obtain ⟨en',h4,h5⟩:=zl5 P ws (k+1) e2 h3 fun i u e hu hp=>by
      have:=hs (i+1) u e (by simpa using hu) (by rw [show k+(i+1)=k+1+i by omega];exact hp);rw [show k+(i+1)+1=k+1+i+1 by omega] at this;exact this
    refine ⟨en',?_,by rw [show k+(w::ws).length=k+1+ws.length by rw [List.length_cons];omega];exact h5⟩;show (tgSet mp T w en).bind _=_;rw [h1];show (match body e1 with | some (e2,.nx)=>zit mp T body ws e2 | some (e2,.cnt)=>zit mp T body ws e2 | some (e2,.brk)=>some (e2,.nx) | some (e2,.ret r)=>some (e2,.ret r) | none=>none)=_;rcases h2 with h2 | h2<;>(rw [h2];exact h4)
theorem zdc {mp:List Nat}{T:Tg}{it:GL}{body:GS} (P:Nat->En->Prop) {en e0:En}{ws:List W} (hi:it en=some (e0,ws)) (h0:P 0 e0) (hs:∀i w e,ws[i]?=some w->P i e->∃e1 e2,tgSet mp T w e=some e1/\(body e1=some (e2,.nx)\/body e1=some (e2,.cnt))/\P (i+1) e2) :
  ∃en',gFor mp T it body en=some (en',.nx)/\P ws.length en':=by
 obtain ⟨en',h1,h2⟩:=zl5 P ws 0 e0 h0 fun i w e hw hp=>by
  rw [Nat.zero_add] at hp ⊢;exact hs i w e hw hp
 refine ⟨en',?_,by rw [Nat.zero_add] at h2;exact h2⟩;unfold gFor;rw [hi];exact h1
theorem zho {mp:List Nat}{T:Tg}{tc:GT}{te:GE} (P:Nat->En->List W->Prop):∀(ws:List W) (k:Nat) (ce:En) (dn:List W),P k ce dn ->
    (∀i w c dn,ws[i]?=some w->P (k+i) c dn->∃c1,tgSet mp T w c=some c1/\((∃c2 c3 r,tc c1=some (c2,true)/\te c2=some (c3,r)/\P (k+i+1) c3 (dn++[r.1]))\/∃c2,tc c1=some (c2,false)/\P (k+i+1) c2 dn)) ->
    ∃ce' rest,ze5 mp T tc te ws ce=some (ce',rest)/\P (k+ws.length) ce' (dn++rest)
  | [],k,ce,dn,h0,_=>⟨ce,[],rfl,by rw [List.append_nil];exact h0⟩
  | w::ws,k,ce,dn,h0,hs=>by
    obtain ⟨c1,h1,h2⟩:=hs 0 w ce dn rfl h0;have next:∀c3 dn',P (k+1) c3 dn'->∃ce' rest,ze5 mp T tc te ws c3=some (ce',rest)/\P (k+1+ws.length) ce' (dn'++rest):=fun c3 dn' h=>zho P ws (k+1) c3 dn' h fun i u c d hu hp=>by
      have:=hs (i+1) u c d (by simpa using hu) (by rw [show k+(i+1)=k+1+i by omega];exact hp);rw [show k+(i+1)+1=k+1+i+1 by omega] at this;exact this
    have el:k+(w::ws).length=k+1+ws.length:=by rw [List.length_cons];omega
    rcases h2 with ⟨c2,c3,r,h3,h4,h5⟩ | ⟨c2,h3,h5⟩
    · obtain ⟨ce', rest, h6, h7⟩ := next c3 _ h5
      refine ⟨ce',r.1::rest,?_,by rw [el];rw [List.append_assoc] at h7;exact h7⟩;show (tgSet mp T w ce).bind _=_;rw [h1];show (match tc c1 with | some (c2,true)=>(te c2).bind fun p=>(ze5 mp T tc te ws p.1).bind fun q=>some (q.1,p.2.1::q.2) | some (c2,false)=>ze5 mp T tc te ws c2 | none=>none)=_;rw [h3];show (te c2).bind _=_;rw [h4];show (ze5 mp T tc te ws c3).bind _=_;rw [h6]
      rfl
    · obtain ⟨ce', rest, h6, h7⟩ := next c2 _ h5
      refine ⟨ce',rest,?_,by rw [el];exact h7⟩;show (tgSet mp T w ce).bind _=_;rw [h1];show (match tc c1 with | some (c2,true)=>(te c2).bind fun p=>(ze5 mp T tc te ws p.1).bind fun q=>some (q.1,p.2.1::q.2) | some (c2,false)=>ze5 mp T tc te ws c2 | none=>none)=_;rw [h3];exact h6
theorem zeq {cap:Cap}{T:Tg}{it:GL}{tc:GT}{te:GE} (P:Nat->En->List W->Prop) {en e0:En}{ws:List W} (hi:it en=some (e0,ws)) (hn:zbu cap=true) (hz:ws.length<=sizeLine) (h0:P 0 (zen cap e0) [])
  (hs:∀i w c dn,ws[i]?=some w->P i c dn->∃c1,tgSet (capKeep cap) T w c=some c1/\((∃c2 c3 r,tc c1=some (c2,true)/\te c2=some (c3,r)/\P (i+1) c3 (dn++[r.1]))\/∃c2,tc c1=some (c2,false)/\P (i+1) c2 dn)) :
  ∃ce' out,zd9 cap T it tc te en=some (za2 cap e0 ce',(.lst out,true))/\P ws.length ce' out:=by
 obtain ⟨ce',rest,h1,h2⟩:=zho P ws 0 (zen cap e0) [] h0 fun i w c dn hw hp=>by
  rw [Nat.zero_add] at hp ⊢;exact hs i w c dn hw hp
 refine ⟨ce',rest,?_,by rw [Nat.zero_add] at h2;exact h2⟩;unfold zd9;rw [hi];show (if zbu cap && decide (ws.length<=sizeLine) then _ else none)=_;rw [if_pos (by rw [hn,decide_eq_true hz];rfl),h1]
 rfl
theorem rngW_get {lo:Int}{n i:Nat}{w:W} (h:(rngW lo n)[i]?=some w):i < n/\w=.int (lo+i):=by
  unfold rngW at h;rw [List.getElem?_map] at h;cases q:(List.range n)[i]? with
  | none=>rw [q] at h;exact noSome h
  | some k =>
    rw [q] at h;obtain ⟨hl,e⟩:=List.getElem?_eq_some_iff.mp q;rw [List.length_range] at hl;rw [List.getElem_range] at e;subst e;exact ⟨hl,(sI h).symm⟩
theorem zbg (lo:Int) (n:Nat):(rngW lo n).length=n:=by unfold rngW;rw [List.length_map,List.length_range]
theorem zcx {xs:List W}{i:Nat}{x:W} (h:xs[i]?=some x):atI xs (i:Int)=some x:=zyk h
theorem zon {en:En}:zbz [] [] en=some []:=rfl
theorem zpg {m:List Bool}{ws:List W}{en:En}{x w:W}:zbz (true::m) (x::ws) (some (w,true)::en)=(zbz m ws en).bind fun r=>some (w::r):=rfl
theorem zrn {m:List Bool}{ws:List W}{en:En}{w:W}{o:Option (W × Bool)}:zbz (false::m) (w::ws) (o::en)=(zbz m ws en).bind fun r=>some (w::r):=rfl
noncomputable def HS (k:Nat) (w:W):Prop:=∃a b c:Int,w=.lst [.int a,.int b,.int c]/\0<=a/\0<=b/\b < MM/\0<=c/\c<=k
theorem HS.mono {k k' : Nat}{w:W} (h:HS k w) (hk:k<=k'):HS k' w:=by
 obtain ⟨a,b,c,e,h1,h2,h3,h4,h5⟩:=h;exact ⟨a,b,c,e,h1,h2,h3,h4,by omega⟩
noncomputable def zef (Φ:Fn):Prop:=∀(k:Nat) (st:W) (n:Int),HS k st->k < big->0 < n->n < 1073741824->∃st' r,Φ [st,.int n]=some ([st',.int n],(.int r,false))/\HS (k+1) st'/\0<=r/\r < n
noncomputable def zoh (Ψ:Str->Fn):GS:=(gSeq (gIfS (zai (gOp2 (oI yes2 fun i j=>.bl (decide (j < i))) (gArg (gOp2 oIx (zab 0) (gArg (gC (.int 0))))) (gArg (gC (.int 0))))) (gSeq (gSet [0] 2 (gOp2 (oI (fun _ j=>decide (0 < j)) fun i j=>.int (i % j)) (gArg (gOp2 oIx (zab 0) (gArg (gC (.int 0))))) (zab 1))) (gSeq (za0 0 (gC (.int 0)) (gOp2 (oI cDiv fun i j=>.int (i / j)) (gArg (gOp2 oIx (zab 0) (gArg (gC (.int 0))))) (zab 1))) (zc7 [0] 2))) zck) (gSeq (za0 0 (gC (.int 2)) (gOp2 oAdd (gArg (gOp2 oIx (zab 0) (gArg (gC (.int 2))))) (gArg (gC (.int 1))))) (gSeq (gSet [0] 3 (gOp2 (oI (fun _ j=>decide (0 < j)) fun i j=>.int (i % j)) (gArg (gOp2 oMult (gArg (gOp2 oAdd (gArg (gOp2 oAdd (gArg (gOp2 oIx (zab 0) (gArg (gC (.int 1))))) (gArg (gOp2 oMult (gArg (gOp2 oMult (gArg (gC (.int 65537))) (gArg (gOp2 oIx (zab 0) (gArg (gC (.int 2))))))) (gArg (gOp2 oIx (zab 0) (gArg (gC (.int 2))))))))) (gArg (gC (.int 11))))) (gArg (gC (.int 48271))))) (gArg (gC (.int 2305843009213693921))))) (gSeq (gSet [0] 3 (gOp2 (oI (fun _ j=>decide (0 < j)) fun i j=>.int (i % j)) (gArg (gOp2 oMult (zab 3) (gArg (gOp2 oAdd (gArg (gOp2 (oI (fun _ j=>decide (0 < j)) fun i j=>.int (i % j)) (zab 3) (gArg (gC (.int 1000003))))) (gArg (gOp2 oMult (gArg (gC (.int 99991))) (gArg (gOp2 oIx (zab 0) (gArg (gC (.int 2))))))))))) (gArg (gC (.int 2305843009213693907))))) (gRet (gOp2 (oI (fun _ j=>decide (0 < j)) fun i j=>.int (i % j)) (gArg (gOp2 oAdd (gArg (gOp2 (oI cDiv fun i j=>.int (i / j)) (zab 3) (gArg (gC (.int 97))))) (gArg (gOp2 (oI cDiv fun i j=>.int (i / j)) (zab 3) (gArg (gC (.int 1000033))))))) (zab 1)))))))
theorem zwu (Ψ:Str->Fn):zef (zao [true,false] 4 (zoh Ψ)):=by
 rintro k st n ⟨a,b,c,rfl,h0,h1,h2,h3,h4⟩ hk n0 n1;have hb:(k:Int) < 1099511627776:=by have:k < 1099511627776:=hk;omega
 by_cases c1:0 < a
 ·refine ⟨.lst [.int (a / n), .int b, .int c], a % n, ?_, ⟨_, _, _, rfl, Int.ediv_nonneg h0 (by omega), h1, h2, h3, by omega⟩, Int.emod_nonneg _ (by omega), Int.emod_lt_of_pos _ n0⟩;have hd:cDiv a n=true:=zpr n0 (by omega);simp [zao,zoh,za4,gSeq,gIfS,zai,gOp2,gArg,zab,gC,resA,oI,yes2,oIx,seqW,atI,ixN,gSet,za0,zc7,zon,zpg,zrn,c1,n0,hd]
 ·have e1 : oMult (.int 65537) (.int (c + 1)) = some (.int (65537 * (c + 1)), false) := oMult_l (by decide) (by decide);have e2:oMult (.int (65537 * (c+1))) (.int (c+1))=some (.int (65537 * (c+1) * (c+1)),false):=zkn (by omega) (by omega);have e3:oMult (.int (b+65537 * (c+1) * (c+1)+11)) (.int 48271)=some (.int ((b+65537 * (c+1) * (c+1)+11) * 48271),false):=zkn (by decide) (by decide);generalize hx:(b+65537 * (c+1) * (c+1)+11) * 48271=x0 at e3;have e4:oMult (.int 99991) (.int (c+1))=some (.int (99991 * (c+1)),false):=oMult_l (by decide) (by decide);have x1:0<=x0 % 2305843009213693921:=Int.emod_nonneg _ (by decide);have x2:x0 % 2305843009213693921 < 2305843009213693921:=Int.emod_lt_of_pos _ (by decide);have e5:oMult (.int (x0 % 2305843009213693921)) (.int (x0 % 2305843009213693921 % 1000003+99991 * (c+1)))=some (.int (x0 % 2305843009213693921 * (x0 % 2305843009213693921 % 1000003+99991 * (c+1))),false):=oMult_l (by omega) (by omega);have d1:∀i,cDiv i 97=true:=fun i=>zpr (by decide) (by decide);have d2:∀i,cDiv i 1000033=true:=fun i=>zpr (by decide) (by decide);refine ⟨.lst [.int a,.int b,.int (c+1)],(x0 % 2305843009213693921 * (x0 % 2305843009213693921 % 1000003+99991 * (c+1)) % 2305843009213693907 / 97+x0 % 2305843009213693921 * (x0 % 2305843009213693921 % 1000003+99991 * (c+1)) % 2305843009213693907 / 1000033) % n,?_,⟨_,_,_,rfl,h0,h1,h2,by omega,by omega⟩,Int.emod_nonneg _ (by omega),Int.emod_lt_of_pos _ n0⟩
  ·simp [zao,zoh,za4,gSeq,gIfS,zai,gOp2,gArg,zab,gC,resA,oI,yes2,oIx,seqW,atI,ixN,gSet,za0,gRet,zck,zon,zpg,zrn,c1,n0,zqa,e1,e2,e3,e4,e5,d1,d2]
end L2
namespace L2
open PySem PySem.Spec PyProof.Rows
theorem seq_nx {a b:GS}{en e1:En} (h:a en=some (e1,.nx)):gSeq a b en=b e1:=by unfold gSeq;rw [h]
theorem zle {a b:GS}{en e1:En}{r:W × Bool} (h:a en=some (e1,.ret r)):gSeq a b en=some (e1,.ret r):=by unfold gSeq;rw [h]
theorem zl6 {mp:List Nat}{i:Nat}{g:GE}{en e1:En}{r:W × Bool} (h:g en=some (e1,r)) (hi:(mp.contains i || !decide (i < e1.length))=false):gSet mp i g en=some (e1.set i (some r),.nx):=by
 unfold gSet;rw [h];show (if (mp.contains i || !decide (i < e1.length))=true then _ else _)=_;rw [hi]
 rfl
theorem ztn {c:GT}{a b:GS}{en e1:En} (h:c en=some (e1,true)):gIfS c a b en=a e1:=by unfold gIfS;rw [h]
theorem z1l {c:GT}{a b:GS}{en e1:En} (h:c en=some (e1,false)):gIfS c a b en=b e1:=by unfold gIfS;rw [h]
theorem zxb {g:GE}{en e1:En}{b f:Bool} (h:g en=some (e1,(.bl b,f))):zai g en=some (e1,b):=by unfold zai;rw [h]
theorem zfr {g:GE}{en e1:En}{r:W × Bool} (h:g en=some (e1,r)):gRet g en=some (e1,.ret r):=by unfold gRet;rw [h];rfl
theorem zzd {g:GE}{en e1:En}{r:W × Bool} (h:g en=some (e1,r)):zff g en=some (e1,.nx):=by unfold zff;rw [h];rfl
theorem zbq {g:GE}{en e1:En}{r:W × Bool} (h:g en=some (e1,r)):gArg g en=some (e1,.inl r.1):=by unfold gArg;rw [h];rfl
theorem zvo {a:GA}{as:GAs}{en e1 e2:En}{x:W ⊕ Nat}{xs:List (W ⊕ Nat)} (h:a en=some (e1,x)) (h2:as e1=some (e2,xs)):gCns a as en=some (e2,x::xs):=by
 unfold gCns;rw [h];show (as e1).bind _=_;rw [h2]
 rfl
theorem zbe {o:O2}{a b:GA}{en e1 e2:En}{x y:W ⊕ Nat}{w u:W}{r:W × Bool} (h1:a en=some (e1,x)) (h2:b e1=some (e2,y)) (h3:resA e2 x=some w) (h4:resA e2 y=some u) (h5:o w u=some r):gOp2 o a b en=some (e2,r):=by
 unfold gOp2;rw [h1];show (b e1).bind _=_;rw [h2];show (resA e2 x).bind _=_;rw [h3];show (resA e2 y).bind _=_;rw [h4];show (o w u).bind _=_;rw [h5]
 rfl
theorem z0n {o:ON}{as:GAs}{en e1:En}{xs:List (W ⊕ Nat)}{ws:List W}{r:W × Bool} (h1:as en=some (e1,xs)) (h2:zak e1 xs=some ws) (h3:o ws=some r):gOpN o as en=some (e1,r):=by
 unfold gOpN;rw [h1];show (zak e1 xs).bind _=_;rw [h2];show (o ws).bind _=_;rw [h3]
 rfl
theorem zbm {m:List Bool}{n:Nat}{g:GS}{ws ws' : List W}{en:En}{r:W × Bool} (hl:ws.length=m.length) (h:g (za4 m ws++List.replicate (n - m.length) none)=some (en,.ret r)) (ho:zbz m ws en=some ws'):zao m n g ws=some (ws',r):=by
 unfold zao;rw [if_pos hl,h];show (zbz m ws en).bind _=_;rw [ho]
 rfl
theorem zbw:∀(ws:List W) (i:Nat),zal (za3 (ws.map Sum.inl)) i=none
  | [],i=>rfl
  | w::ws,i=>by
    have:=zbw ws i;unfold zal za3 at this ⊢;rw [List.map_cons,List.map_cons,List.findIdx?_cons,this]
    rfl
theorem ze4 (ws:List W):zbu (za3 (ws.map Sum.inl))=true:=by
  unfold zbu;refine List.all_eq_true.mpr fun j _=>?_;have:∀i,(za3 (ws.map Sum.inl))[j]?≠some (some i):=fun i=>zb4 (zbw ws i) j;cases q:(za3 (ws.map Sum.inl))[j]? with
  | none=>rfl
  | some o =>
    cases o with
    | none=>rfl
    | some i=>exact absurd q (this i)
theorem zq6 {cap:Cap}{en ce:En} (h:∀i,zal cap i=none):za2 cap en ce=en:=by
 unfold za2;apply List.ext_getElem?;intro i;rw [List.getElem?_mapIdx];cases en[i]? with
 | none=>rfl
 | some x=>simp only [Option.map_some,h i]
theorem zbi (en:En):∀ws:List W,zak en (ws.map Sum.inl)=some ws
 | []=>rfl
 | w::ws=>by show (some w).bind _=_;show (zak en (ws.map Sum.inl)).bind _=_;rw [zbi en ws];rfl
theorem zdf (en:En) (ws:List W):zam en (ws.map Sum.inl)=true:=by
 unfold zam;refine List.all_eq_true.mpr fun x hx=>?_;obtain ⟨w,_,rfl⟩:=List.mem_map.mp hx
 rfl
theorem zi7 {m:List Bool}{Φ:Fn}{as:GAs}{en e1:En}{ws ws' : List W}{r:W × Bool} (h:as en=some (e1,ws.map Sum.inl)) (hm:(ws.map fun _=>false)=m) (hΦ:Φ ws=some (ws',r)) (hl:ws'.length=ws.length):zae m Φ as en=some (e1,r):=by
 unfold zae;rw [h];show (if (decide ((ws.map Sum.inl).map isR=m) && zam e1 (ws.map Sum.inl) && zbu (za3 (ws.map Sum.inl)))=true then _ else _)=_;have e:(ws.map Sum.inl).map isR=m:=by rw [<-hm,List.map_map];rfl
 rw [decide_eq_true e,zdf,ze4];show (zak e1 (ws.map Sum.inl)).bind _=_;rw [zbi];show (Φ ws).bind _=_;rw [hΦ];show (if ws'.length=m.length then _ else _)=_;rw [if_pos (by rw [hl,<-hm,List.length_map]),zq6 (zbw ws)]
theorem zly {m:List Bool}{Φ:Fn}{as:GAs}{en e1:En}{i:Nat}{ws wz:List W}{st st' : W}{r:W × Bool} (h:as en=some (e1,.inr i::ws.map Sum.inl)) (hm:(true::ws.map fun _=>false)=m) (hi:e1[i]?=some (some (st,true))) (hΦ:Φ (st::ws)=some (st' :: wz,r)) (hl:wz.length=ws.length):zae m Φ as en=some (e1.set i (some (st',true)),r):=by
  have cp:∀j,zal (za3 (.inr i::ws.map Sum.inl)) j=if j=i then some 0 else none:=fun j=>by
    have:=zbw ws j;unfold zal za3 at this ⊢;rw [List.map_cons,List.findIdx?_cons];by_cases e:j=i
    · subst e;simp
    · have : (some i == some j) = false := by simp; exact fun z => e z.symm
      simp only [this];rw [if_neg e]
      simp_all
  have nd:zbu (za3 (.inr i::ws.map Sum.inl))=true:=by
    unfold zbu;refine List.all_eq_true.mpr fun j _=>?_;cases j with
    | zero =>
      show (match (za3 (.inr i::ws.map Sum.inl))[0]? with | some (some k)=>zal (za3 (.inr i::ws.map Sum.inl)) k == some 0 | _=>true)=true;show (zal (za3 (.inr i::ws.map Sum.inl)) i == some 0)=true;rw [cp i,if_pos rfl]
      rfl
    | succ j =>
      have:∀k,(za3 (ws.map Sum.inl))[j]?≠some (some k):=fun k=>zb4 (zbw ws k) j;have e:(za3 (.inr i::ws.map Sum.inl))[j+1]?=(za3 (ws.map Sum.inl))[j]?:=rfl;rw [e];cases q:(za3 (ws.map Sum.inl))[j]? with
      | none=>rfl
      | some o =>
        cases o with
        | none=>rfl
        | some k=>exact absurd q (this k)
  unfold zae;rw [h];show (if (decide ((.inr i::ws.map Sum.inl).map isR=m) && zam e1 (.inr i::ws.map Sum.inl) && zbu (za3 (.inr i::ws.map Sum.inl)))=true then _ else _)=_;have e:(Sum.inr i::ws.map Sum.inl).map isR=m:=by rw [<-hm,List.map_cons,List.map_map];rfl
  have ow:zam e1 (.inr i::ws.map Sum.inl)=true:=by
    have:=zdf e1 ws;unfold zam at this ⊢;rw [List.all_cons,this];simp only [hi,Bool.and_true]
  rw [decide_eq_true e,ow,nd];have rs:zak e1 (.inr i::ws.map Sum.inl)=some (st::ws):=by
    show (resA e1 (.inr i)).bind _=_;have:resA e1 (.inr i)=some st:=by unfold resA;simp only [hi]
    rw [this];show (zak e1 (ws.map Sum.inl)).bind _=_;rw [zbi]
    rfl
  show (zak e1 (.inr i::ws.map Sum.inl)).bind _=_;rw [rs];show (Φ (st::ws)).bind _=_;rw [hΦ];show (if (st' :: wz).length=m.length then _ else _)=_;rw [if_pos (by rw [<-hm,List.length_cons,List.length_cons,List.length_map,hl])];refine congrArg some (congrArg (·,r) ?_);unfold za2;apply List.ext_getElem?;intro j;rw [List.getElem?_mapIdx];have hi' : i < e1.length:=(List.getElem?_eq_some_iff.mp hi).1;by_cases ej:j=i
  · subst ej
    rw [List.getElem?_set_self hi',hi];simp only [Option.map_some,cp j,if_pos];rw [<-hm]
    rfl
  · rw [List.getElem?_set_ne (Ne.symm ej)]
    cases e1[j]? with
    | none=>rfl
    | some x=>simp only [Option.map_some,cp j,if_neg ej]
theorem zfk {m:List Bool}{Φ:Fn}{as:GAs}{en:En}{i:Nat}{ws wz:List W}{st st' : W}{r:W × Bool} (h:as en=some (en,.inr i::ws.map Sum.inl)) (hm:(true::ws.map fun _=>false)=m) (hi:en[i]?=some (some (st,true))) (hΦ:Φ (st::ws)=some (st' :: wz,r)) (hl:wz.length=ws.length):zae m Φ as en=some (en.set i (some (st',true)),r):=zly h hm hi hΦ hl
theorem zn5 {a w:W}{ws:List W}{i:Int} (h:seqW a=some ws) (h2:atI ws i=some w):oIx a (.int i)=some (w,false):=by
 unfold oIx;cases a<;>simp_all
theorem oI_t {c:Int->Int->Bool}{g:Int->Int->W}{i j:Int} (h:c i j=true):oI c g (.int i) (.int j)=some (g i j,false):=by
 show (if c i j then some (g i j,false) else none)=_;rw [if_pos h]
theorem set_0 {mp:List Nat}{i:Nat}{g:GE}{en:En}{r:W × Bool} (h:g en=some (en,r)) (hi:(mp.contains i || !decide (i < en.length))=false):gSet mp i g en=some (en.set i (some r),.nx):=zl6 h hi
theorem arg_0 {g:GE}{en:En}{r:W × Bool} (h:g en=some (en,r)):gArg g en=some (en,.inl r.1):=zbq h
theorem op2_0 {o:O2}{a b:GA}{en:En}{x y:W ⊕ Nat}{w u:W}{r:W × Bool} (h1:a en=some (en,x)) (h2:b en=some (en,y)) (h3:resA en x=some w) (h4:resA en y=some u) (h5:o w u=some r):gOp2 o a b en=some (en,r):=zbe h1 h2 h3 h4 h5
theorem z1y {a:GA}{as:GAs}{en:En}{x:W ⊕ Nat}{xs:List (W ⊕ Nat)} (h:a en=some (en,x)) (h2:as en=some (en,xs)):gCns a as en=some (en,x::xs):=zvo h h2
theorem z20 {g:GE}{en:En}{r:W × Bool} (h:g en=some (en,r)):gRet g en=some (en,.ret r):=zfr h
theorem zvl {m:List Bool}{Φ:Fn}{as:GAs}{en:En}{ws ws' : List W}{r:W × Bool} (h:as en=some (en,ws.map Sum.inl)) (hm:(ws.map fun _=>false)=m) (hΦ:Φ ws=some (ws',r)) (hl:ws'.length=ws.length):zae m Φ as en=some (en,r):=zi7 h hm hΦ hl
theorem zod {i:Nat}{k g:GE}{en:En}{w:W}{ws:List W}{n:Int}{j:Nat}{f f2:Bool} (h:g en=some (en,(w,f))) (hk:k en=some (en,(.int n,f2))) (hi:en[i]?=some (some (.lst ws,true))) (hj:ixN ws.length n=some j):za0 i k g en=some (en.set i (some (.lst (ws.set j w),true)),.nx):=by
 unfold za0;simp only [h,Option.bind_some,hi,hk,hj]
theorem par_ev {mp:List Nat}{i j:Nat}{a b:GE}{en e1 e2:En}{r1 r2:W × Bool} (h1:a en=some (e1,r1)) (h2:b e1=some (e2,r2)) (hc:(mp.contains i || mp.contains j || !decide (i < e2.length) || !decide (j < e2.length))=false):gPar mp i j a b en=some ((e2.set i (some (r1.1,false))).set j (some r2),.nx):=by
 unfold gPar;rw [h1];show (b e1).bind _=_;rw [h2];show (if (mp.contains i || mp.contains j || !decide (i < e2.length) || !decide (j < e2.length))=true then _ else _)=_;rw [hc]
 rfl
theorem z2u {i:Nat}{g:GE}{en e1:En}{us ws:List W}{r:W × Bool} (h0:en[i]?=some (some (.lst us,true))) (h:g en=some (e1,r)) (h1:e1[i]?=some (some (.lst ws,true))) (hz:ws.length < sizeLine):gApp i g en=some (e1.set i (some (.lst (ws++[r.1]),true)),(.non,false)):=by
 unfold gApp;simp only [h0,h,Option.bind_some,h1];rw [if_pos hz]
end L2
namespace L2
open PySem PySem.Spec PyProof.Rows
noncomputable def z0h (Ψ:Str->Fn):GS:=(gSeq (gSet [0] 2 (zae [true,false] (Ψ "_law_take") (gCns (zab 0) (gCns (gArg (gC (.int 4))) gA0)))) (gSeq (gIfS (zai (gOp2 oEq (zab 2) (gArg (gC (.int 3))))) (gRet (gOp2 oMult (gArg (za8 (gCns (gArg (zae [true,false] (Ψ "_law_take") (gCns (zab 0) (gCns (gArg (gC (.int 2))) gA0)))) gA0))) (zab 1))) zck) (gSeq (gSet [0] 3 (za8 gA0)) (gSeq (gFor [0] (.nm 4) (zdm (gCns (zab 1) gA0)) (gSeq (gSet [0] 5 (zae [true,false] (Ψ "_law_take") (gCns (zab 0) (gCns (gArg (gOp2 oIx (gArg (za8 (gCns (gArg (gC (.int 2))) (gCns (gArg (gC (.int 5))) (gCns (gArg (gC (.int 5))) gA0))))) (zab 2))) gA0)))) (zff (gApp 3 (gOp2 oIx (gArg (za8 (gCns (gArg (gVar 5)) (gCns (gArg (gOpN oInt (gCns (gArg (gOp2 oEq (zab 5) (gArg (gC (.int 0))))) gA0))) (gCns (gArg (gOpN oInt (gCns (gArg (gOp2 (oI yes2 fun i j=>.bl (decide (j < i))) (zab 5) (gArg (gC (.int 0))))) gA0))) gA0))))) (zab 2)))))) (zc7 [0] 3)))))
noncomputable def zn9 (Φ:Fn):Prop:=∀(k:Nat) (st:W) (n:Int),HS k st->k+100 < big->0<=n->n<=64->∃st' xs,Φ [st,.int n]=some ([st',.int n],(.lst (xs.map W.int),true))/\HS (k+66) st'/\(xs.length:Int)=n/\Bits xs
theorem three {r:Int} (h0:0<=r) (h:r < 4) (h3:r≠3):r=0\/r=1\/r=2:=by omega
theorem zmc {α:Type} (x:α):∀n:Nat,(List.replicate n [x]).flatten=List.replicate n x
 | 0=>rfl
 | n+1=>by rw [List.replicate_succ,List.flatten_cons,zmc x n];rfl
theorem zy1 {Ψ:Str->Fn} (hT:zef (Ψ "_law_take")):zn9 (zao [true,false] 6 (z0h Ψ)):=by
 intro k st n hs hk n0 n1;have hz:(64:Nat)<=sizeLine:=by decide
 refine aG fun _ qG=>?_;obtain ⟨st1,way,e1,h1,h2,h3⟩:=hT k st 4 hs (by omega) (by decide) (by decide);refine qG ?_;clear qG;have c1:zae [true,false] (Ψ "_law_take") (gCns (zab 0) (gCns (gArg (gC (.int 4))) gA0)) [some (st,true),some (.int n,false),none,none,none,none]=some ([some (st1,true),some (.int n,false),none,none,none,none],(.int way,false)):=zfk (i:=0) (ws:=[.int 4]) (wz:=[.int 4]) rfl rfl rfl e1 rfl;have s1:=zl6 (mp:=[0]) (i:=2) c1 rfl;by_cases c3:way=3
 ·subst c3;refine aG fun _ qG=>?_;obtain ⟨st2,b,e2,g1,g2,g3⟩:=hT (k+1) st1 2 h1 (by omega) (by decide) (by decide);refine qG ?_;clear qG;have c2:zae [true,false] (Ψ "_law_take") (gCns (zab 0) (gCns (gArg (gC (.int 2))) gA0)) [some (st1,true),some (.int n,false),some (.int 3,false),none,none,none]=some ([some (st2,true),some (.int n,false),some (.int 3,false),none,none,none],(.int b,false)):=zfk (i:=0) (ws:=[.int 2]) (wz:=[.int 2]) rfl rfl rfl e2 rfl;have l2:za8 (gCns (gArg (zae [true,false] (Ψ "_law_take") (gCns (zab 0) (gCns (gArg (gC (.int 2))) gA0)))) gA0) [some (st1,true),some (.int n,false),some (.int 3,false),none,none,none]=some ([some (st2,true),some (.int n,false),some (.int 3,false),none,none,none],(.lst [.int b],true)):=by
   unfold za8;rw [zvo (zbq c2) (show gA0 _=_ from rfl)]
   rfl
  have om:oMult (.lst [.int b]) (.int n)=some (.lst (List.replicate n.toNat (.int b)),true):=by
   rw [zpl (by refine ⟨by omega,by omega,?_⟩;show 1 * n.toNat<=sizeLine;omega),zmc]
  refine ⟨st2,List.replicate n.toNat b,?_,g1.mono (by omega),by rw [List.length_replicate];omega,fun x hx=>by rw [List.eq_of_mem_replicate hx];omega⟩;refine zbm (en:=[some (st2,true),some (.int n,false),some (.int 3,false),none,none,none]) rfl ?_ rfl;refine (seq_nx s1).trans (zle ?_);refine (ztn (e1:=[some (st1,true),some (.int n,false),some (.int 3,false),none,none,none]) rfl).trans (zfr (zbe (zbq l2) rfl rfl rfl ?_));rw [List.map_replicate];exact om
 ·have hw := three h2 h3 c3;have turn:∀(i:Nat) (st:W) (xs:List Int) (v5:Option (W × Bool)),HS (k+1+i) st->i < 64->xs.length=i->∃st' x one,HS (k+1+i+1) st'/\(x=0\/x=1) /\
    (gSeq (gSet [0] 5 (zae [true,false] (Ψ "_law_take") (gCns (zab 0) (gCns (gArg (gOp2 oIx (gArg (za8 (gCns (gArg (gC (.int 2))) (gCns (gArg (gC (.int 5))) (gCns (gArg (gC (.int 5))) gA0))))) (zab 2))) gA0)))) (zff (gApp 3 (gOp2 oIx (gArg (za8 (gCns (gArg (gVar 5)) (gCns (gArg (gOpN oInt (gCns (gArg (gOp2 oEq (zab 5) (gArg (gC (.int 0))))) gA0))) (gCns (gArg (gOpN oInt (gCns (gArg (gOp2 (oI yes2 fun i j=>.bl (decide (j < i))) (zab 5) (gArg (gC (.int 0))))) gA0))) gA0))))) (zab 2))))) [some (st,true),some (.int n,false),some (.int way,false),some (.lst (xs.map W.int),true),some (.int (0+(i:Nat)),false),v5] =
     some ([some (st',true),some (.int n,false),some (.int way,false),some (.lst ((xs++[x]).map W.int),true),some (.int (0+(i:Nat)),false),some (.int one,false)],.nx):=by
   intro i st xs v5 hst hi hl;have zz:(xs.map W.int).length < sizeLine:=by rw [List.length_map,hl];omega
   have fin:∀(q:Int) (x:Int->Int),(∀one,0<=one->one < q->x one=0\/x one=1)->0 < q->q < 1073741824 ->
     (gCns (zab 0) (gCns (gArg (gOp2 oIx (gArg (za8 (gCns (gArg (gC (.int 2))) (gCns (gArg (gC (.int 5))) (gCns (gArg (gC (.int 5))) gA0))))) (zab 2))) gA0)) [some (st,true),some (.int n,false),some (.int way,false),some (.lst (xs.map W.int),true),some (.int (0+(i:Nat)),false),v5]=some ([some (st,true),some (.int n,false),some (.int way,false),some (.lst (xs.map W.int),true),some (.int (0+(i:Nat)),false),v5],[.inr 0,.inl (.int q)]) ->
     (∀(st' : W) (one:Int),(gOp2 oIx (gArg (za8 (gCns (gArg (gVar 5)) (gCns (gArg (gOpN oInt (gCns (gArg (gOp2 oEq (zab 5) (gArg (gC (.int 0))))) gA0))) (gCns (gArg (gOpN oInt (gCns (gArg (gOp2 (oI yes2 fun i j=>.bl (decide (j < i))) (zab 5) (gArg (gC (.int 0))))) gA0))) gA0))))) (zab 2)) [some (st',true),some (.int n,false),some (.int way,false),some (.lst (xs.map W.int),true),some (.int (0+(i:Nat)),false),some (.int one,false)]=some ([some (st',true),some (.int n,false),some (.int way,false),some (.lst (xs.map W.int),true),some (.int (0+(i:Nat)),false),some (.int one,false)],(.int (x one),false))) ->
     ∃st' x one,HS (k+1+i+1) st'/\(x=0\/x=1)/\(gSeq (gSet [0] 5 (zae [true,false] (Ψ "_law_take") (gCns (zab 0) (gCns (gArg (gOp2 oIx (gArg (za8 (gCns (gArg (gC (.int 2))) (gCns (gArg (gC (.int 5))) (gCns (gArg (gC (.int 5))) gA0))))) (zab 2))) gA0)))) (zff (gApp 3 (gOp2 oIx (gArg (za8 (gCns (gArg (gVar 5)) (gCns (gArg (gOpN oInt (gCns (gArg (gOp2 oEq (zab 5) (gArg (gC (.int 0))))) gA0))) (gCns (gArg (gOpN oInt (gCns (gArg (gOp2 (oI yes2 fun i j=>.bl (decide (j < i))) (zab 5) (gArg (gC (.int 0))))) gA0))) gA0))))) (zab 2))))) [some (st,true),some (.int n,false),some (.int way,false),some (.lst (xs.map W.int),true),some (.int (0+(i:Nat)),false),v5] =
      some ([some (st',true),some (.int n,false),some (.int way,false),some (.lst ((xs++[x]).map W.int),true),some (.int (0+(i:Nat)),false),some (.int one,false)],.nx):=by
    intro q x hx q0 q1 ha hv;refine aG fun _ qG=>?_;obtain ⟨st',one,e2,g1,g2,g3⟩:=hT (k+1+i) st q hst (by omega) q0 q1;refine qG ?_;clear qG;have cc:=zfk (m:=[true,false]) (ws:=[.int q]) (wz:=[.int q]) ha rfl rfl e2 rfl;refine ⟨st',x one,one,g1,hx one g2 g3,?_⟩;refine (seq_nx (zl6 (mp:=[0]) (i:=5) cc rfl)).trans (zzd (r:=(.non,false)) ?_);rw [List.map_append];exact z2u (i:=3) rfl (hv st' one) rfl zz
   rcases hw with rfl | rfl | rfl
   ·exact fin 2 (fun one=>one) (fun one a b=>by omega) (by decide) (by decide) rfl fun st' one=>rfl
   ·refine fin 5 (fun one => if decide (one = 0) then 1 else 0) (fun one a b => ?_) (by decide) (by decide) rfl fun st' one => rfl;by_cases z:one=0<;>simp [z]
   ·refine fin 5 (fun one => if decide (0 < one) then 1 else 0) (fun one a b => ?_) (by decide) (by decide) rfl fun st' one => rfl;by_cases z:0 < one<;>simp [z]
  obtain ⟨en',hf,hp⟩:=zdc (mp:=[0]) (T:=.nm 4) (it:=zdm (gCns (zab 1) gA0)) (body:=(gSeq (gSet [0] 5 (zae [true,false] (Ψ "_law_take") (gCns (zab 0) (gCns (gArg (gOp2 oIx (gArg (za8 (gCns (gArg (gC (.int 2))) (gCns (gArg (gC (.int 5))) (gCns (gArg (gC (.int 5))) gA0))))) (zab 2))) gA0)))) (zff (gApp 3 (gOp2 oIx (gArg (za8 (gCns (gArg (gVar 5)) (gCns (gArg (gOpN oInt (gCns (gArg (gOp2 oEq (zab 5) (gArg (gC (.int 0))))) gA0))) (gCns (gArg (gOpN oInt (gCns (gArg (gOp2 (oI yes2 fun i j=>.bl (decide (j < i))) (zab 5) (gArg (gC (.int 0))))) gA0))) gA0))))) (zab 2))))))
   (fun i e=>∃st xs v4 v5,e=[some (st,true),some (.int n,false),some (.int way,false),some (.lst (xs.map W.int),true),v4,v5]/\HS (k+1+i) st/\xs.length=i/\Bits xs)
   (en:=[some (st1,true),some (.int n,false),some (.int way,false),some (.lst [],true),none,none]) (e0:=[some (st1,true),some (.int n,false),some (.int way,false),some (.lst [],true),none,none]) (ws:=rngW 0 n.toNat)
   (by
    have hr:zc8 n=true:=by unfold zc8;rw [decide_eq_true (by omega),decide_eq_true (by omega)];rfl
    show (if zc8 n then some (_,rngW 0 n.toNat) else none)=_;rw [hr];rfl)
   ⟨st1,[],none,none,rfl,h1,rfl,fun x hx=>by cases hx⟩
   (by
    rintro i w e hw' ⟨st,xs,v4,v5,rfl,hst,hl,hb⟩;refine aG fun _ qG=>?_;obtain ⟨hi,rfl⟩:=rngW_get hw';obtain ⟨st',x,one,g1,g2,g3⟩:=turn i st xs v5 hst (by omega) hl;refine qG ?_;clear qG;refine ⟨_,_,rfl,.inl g3,st',xs++[x],_,_,rfl,g1,by rw [List.length_append,hl];rfl,fun y hy=>?_⟩;rcases List.mem_append.mp hy with hy | hy
    ·exact hb y hy
    ·rw [List.mem_singleton] at hy;subst hy;exact g2)
  refine aG fun _ qG=>?_;obtain ⟨st2,xs,v4,v5,rfl,g1,g2,g3⟩:=hp;refine qG ?_;clear qG;rw [zbg] at g1 g2;refine ⟨st2,xs,?_,g1.mono (by omega),by omega,g3⟩;refine zbm (en:=[some (st2,true),some (.int n,false),some (.int way,false),none,v4,v5]) rfl ?_ rfl;refine (seq_nx s1).trans ((seq_nx (e1:=[some (st1,true),some (.int n,false),some (.int way,false),none,none,none]) ?_).trans ((seq_nx (e1:=[some (st1,true),some (.int n,false),some (.int way,false),some (.lst [],true),none,none]) rfl).trans ((seq_nx hf).trans rfl)));rcases hw with rfl | rfl | rfl<;>rfl
end L2
namespace L2
open PySem PySem.Spec PyProof.Rows
noncomputable def zz3 (Ψ:Str->Fn):GS:=(gSeq (gSet [] 1 (gC (.int 0))) (gSeq (gFor [] (.nm 2) (gRev (gVar 0)) (gSet [] 1 (gOp2 oAdd (gArg (gOp2 oMult (gArg (gC (.int 2))) (zab 1))) (zab 2)))) (zc7 [] 1)))
noncomputable def zro (Φ:Fn):Prop:=∀xs:List Int,Φ [.lst (xs.map W.int)]=some ([.lst (xs.map W.int)],(.int (zaa xs),false))
theorem zy0 (Ψ:Str->Fn):zro (zao [false] 3 (zz3 Ψ)):=by
 intro xs;obtain ⟨en',hf,hp⟩:=zdc (mp:=[]) (T:=.nm 2) (it:=gRev (gVar 0)) (body:=gSet [] 1 (gOp2 oAdd (gArg (gOp2 oMult (gArg (gC (.int 2))) (zab 1))) (zab 2)))
  (fun i e=>∃v2,e=[some (.lst (xs.map W.int),false),some (.int (zaa (xs.drop (xs.length - i))),false),v2])
  (en:=[some (.lst (xs.map W.int),false),some (.int 0,false),none]) (e0:=[some (.lst (xs.map W.int),false),some (.int 0,false),none]) (ws:=(xs.map W.int).reverse) rfl
  ⟨none,by rw [Nat.sub_zero,List.drop_length];rfl⟩
  (by
   rintro i w e hw ⟨v2,rfl⟩;have hi:i < xs.length:=by have:=(List.getElem?_eq_some_iff.mp hw).1;rw [List.length_reverse,List.length_map] at this;exact this
   have hj:xs.length - 1 - i < xs.length:=by omega
   have ew:w=.int xs[xs.length - 1 - i]:=by
    rw [List.getElem?_reverse (by rw [List.length_map];exact hi),List.length_map,List.getElem?_map,List.getElem?_eq_getElem hj] at hw;exact (sI hw).symm
   subst ew;have om:oMult (.int 2) (.int (zaa (xs.drop (xs.length - i))))=some (.int (2 * zaa (xs.drop (xs.length - i))),false):=oMult_l (by decide) (by decide);have ed:xs.drop (xs.length - (i+1))=xs[xs.length - 1 - i]::xs.drop (xs.length - i):=by
    have e1:xs.length - (i+1)=xs.length - 1 - i:=by omega
    have e2:xs.length - i=xs.length - 1 - i+1:=by omega
    rw [e1,e2];exact List.drop_eq_getElem_cons hj
   refine ⟨_,_,rfl,.inl (zl6 (r:=(.int (zaa (xs.drop (xs.length - (i+1)))),false)) (zbe (zbq (zbe (x:=.inl (.int 2)) rfl rfl rfl rfl om)) rfl rfl rfl ?_) rfl),_,rfl⟩;rw [ed]
   rfl)
 obtain ⟨v2,rfl⟩:=hp;rw [List.length_reverse,List.length_map,Nat.sub_self,List.drop_zero] at hf;exact zbm (en:=[some (.lst (xs.map W.int),false),some (.int (zaa xs),false),v2]) rfl ((seq_nx (e1:=[some (.lst (xs.map W.int),false),some (.int 0,false),none]) rfl).trans ((seq_nx hf).trans rfl)) rfl
noncomputable def z04 (Ψ:Str->Fn):GS:=(gSeq (gSet [] 1 (za8 (gCns (gArg (gC (.int 0))) (gCns (gArg (gC (.int 0))) (gCns (gArg (gC (.int 0))) gA0))))) (gSeq (gIfS (zfu (zai (gOp2 (oI yes2 fun i j=>.bl (decide (j < i))) (gArg (gOpN oLen (gCns (zab 0) gA0))) (gArg (gC (.int 0))))) (zai (gOp2 (oI yes2 fun i j=>.bl (decide (j<=i))) (gArg (gOp2 oIx (zab 0) (gArg (gC (.int 0))))) (gArg (gOp2 (oI cPow fun i j=>.int (i ^ j.toNat)) (gArg (gC (.int 10))) (gArg (gC (.int 18)))))))) (gSeq (gSet [] 2 (gC (.int 1))) (gFor [] (.nm 3) (zem (gSl (zab 0) zbv (zfl (gC (.int 63))))) (gSeq (za0 1 (gC (.int 0)) (gOp2 oAdd (gArg (gOp2 oIx (zab 1) (gArg (gC (.int 0))))) (gArg (gOp2 oMult (gArg (gOp2 (oI (fun _ j=>decide (0 < j)) fun i j=>.int (i % j)) (gArg (gOpN oAbs (gCns (zab 3) gA0))) (gArg (gOp2 (oI cPow fun i j=>.int (i ^ j.toNat)) (gArg (gC (.int 10))) (gArg (gC (.int 60))))))) (zab 2))))) (gSet [] 2 (gOp2 oMult (zab 2) (gArg (gOp2 (oI cPow fun i j=>.int (i ^ j.toNat)) (gArg (gC (.int 10))) (gArg (gC (.int 60)))))))))) zck) (gSeq (gFor [] (.tp [4,3]) (zjp (gSl (zab 0) zbv (zfl (gC (.int 63))))) (gSeq (gSet [] 5 (gOp2 oAdd (gArg (gOp2 oAdd (gArg (gOp2 (oI (fun _ j=>decide (0 < j)) fun i j=>.int (i % j)) (zab 3) (gArg (gC (.int 2305843009213693951))))) (gArg (gOp2 oMult (gArg (gC (.int 7919))) (zab 4))))) (gArg (gC (.int 3))))) (za0 1 (gC (.int 1)) (gOp2 (oI (fun _ j=>decide (0 < j)) fun i j=>.int (i % j)) (gArg (gOp2 oAdd (gArg (gOp2 oMult (gArg (gOp2 oIx (zab 1) (gArg (gC (.int 1))))) (gArg (gC (.int 48271))))) (zab 5))) (gArg (gC (.int 2305843009213693951))))))) (zc7 [] 1))))
noncomputable def zvc (Φ:Fn):Prop:=∀ns:List Int,ns.length<=63->∃st,Φ [.frl (ns.map W.int)]=some ([.frl (ns.map W.int)],(st,true))/\HS 0 st
theorem z1t {ns:List Int} (h:ns.length<=63):cutW (ns.map W.int) none (some 63)=ns.map W.int:=by
 unfold cutW;have e1:HT.sIx (ns.map W.int).length 0 none=0:=rfl;have e2:HT.sIx (ns.map W.int).length (ns.map W.int).length (some 63)=(ns.map W.int).length:=by
  have:=HT.sIx_nat (ns.map W.int).length (ns.map W.int).length 63;rw [show ((63:Nat):Int)=63 from rfl] at this;rw [this,List.length_map];omega
 rw [e1,e2,List.drop_zero,Nat.sub_zero,List.take_length]
theorem zmn {ns:List Int}{i:Nat}{w:W} (h:(zc9 (ns.map W.int) 0)[i]?=some w):∃hi:i < ns.length,w=.tup [.int i,.int ns[i]]:=by
 have hi:i < ns.length:=by have:=(List.getElem?_eq_some_iff.mp h).1;rw [za5,List.length_map] at this;exact this
 have:=zcu (ws:=ns.map W.int) (k:=0) (i:=i) (w:=.int ns[i]) (by rw [List.getElem?_map,List.getElem?_eq_getElem hi];rfl);rw [h,Nat.zero_add] at this;exact ⟨hi,sI this⟩
theorem zwz (Ψ:Str->Fn):zvc (zao [false] 6 (z04 Ψ)):=by
  intro ns hl;have p18:cPow 10 18=true:=by decide
  have p60:cPow 10 60=true:=by decide
  have first:∃a0 v2 v3,0<=a0/\gIfS (zfu (zai (gOp2 (oI yes2 fun i j=>.bl (decide (j < i))) (gArg (gOpN oLen (gCns (zab 0) gA0))) (gArg (gC (.int 0))))) (zai (gOp2 (oI yes2 fun i j=>.bl (decide (j<=i))) (gArg (gOp2 oIx (zab 0) (gArg (gC (.int 0))))) (gArg (gOp2 (oI cPow fun i j=>.int (i ^ j.toNat)) (gArg (gC (.int 10))) (gArg (gC (.int 18)))))))) (gSeq (gSet [] 2 (gC (.int 1))) (gFor [] (.nm 3) (zem (gSl (zab 0) zbv (zfl (gC (.int 63))))) (gSeq (za0 1 (gC (.int 0)) (gOp2 oAdd (gArg (gOp2 oIx (zab 1) (gArg (gC (.int 0))))) (gArg (gOp2 oMult (gArg (gOp2 (oI (fun _ j=>decide (0 < j)) fun i j=>.int (i % j)) (gArg (gOpN oAbs (gCns (zab 3) gA0))) (gArg (gOp2 (oI cPow fun i j=>.int (i ^ j.toNat)) (gArg (gC (.int 10))) (gArg (gC (.int 60))))))) (zab 2))))) (gSet [] 2 (gOp2 oMult (zab 2) (gArg (gOp2 (oI cPow fun i j=>.int (i ^ j.toNat)) (gArg (gC (.int 10))) (gArg (gC (.int 60)))))))))) zck
      [some (.frl (ns.map W.int),false),some (.lst [.int 0,.int 0,.int 0],true),none,none,none,none]=some ([some (.frl (ns.map W.int),false),some (.lst [.int a0,.int 0,.int 0],true),v2,v3,none,none],.nx):=by
    have ln:(zai (gOp2 (oI yes2 fun i j=>.bl (decide (j < i))) (gArg (gOpN oLen (gCns (zab 0) gA0))) (gArg (gC (.int 0))))) [some (.frl (ns.map W.int),false),some (.lst [.int 0,.int 0,.int 0],true),none,none,none,none]=some ([some (.frl (ns.map W.int),false),some (.lst [.int 0,.int 0,.int 0],true),none,none,none,none],decide ((0:Int) < ((ns.map W.int).length:Nat))):=rfl;cases ns with
    | nil=>exact ⟨0,none,none,by decide,(z1l (by unfold zfu;rw [ln];rfl)).trans rfl⟩
    | cons n0 nr =>
      have t2:(zai (gOp2 (oI yes2 fun i j=>.bl (decide (j<=i))) (gArg (gOp2 oIx (zab 0) (gArg (gC (.int 0))))) (gArg (gOp2 (oI cPow fun i j=>.int (i ^ j.toNat)) (gArg (gC (.int 10))) (gArg (gC (.int 18))))))) [some (.frl ((n0::nr).map W.int),false),some (.lst [.int 0,.int 0,.int 0],true),none,none,none,none]=some ([some (.frl ((n0::nr).map W.int),false),some (.lst [.int 0,.int 0,.int 0],true),none,none,none,none],decide (10 ^ 18<=n0)) :=
        zxb (zbe (zbq (zbe rfl rfl rfl rfl (zn5 rfl (zcx (i:=0) rfl)))) (zbq (zbe (x:=.inl (.int 10)) rfl rfl rfl rfl (oI_t p18))) rfl rfl rfl)
      have ln' : decide ((0:Int) < (((n0::nr).map W.int).length:Nat))=true:=decide_eq_true (by simp);rw [ln'] at ln;by_cases c:(10:Int) ^ 18<=n0
      · rw [decide_eq_true c] at t2
        obtain ⟨en',hf,hp⟩:=zdc (mp:=[]) (T:=.nm 3) (it:=zem (gSl (zab 0) zbv (zfl (gC (.int 63))))) (body:=(gSeq (za0 1 (gC (.int 0)) (gOp2 oAdd (gArg (gOp2 oIx (zab 1) (gArg (gC (.int 0))))) (gArg (gOp2 oMult (gArg (gOp2 (oI (fun _ j=>decide (0 < j)) fun i j=>.int (i % j)) (gArg (gOpN oAbs (gCns (zab 3) gA0))) (gArg (gOp2 (oI cPow fun i j=>.int (i ^ j.toNat)) (gArg (gC (.int 10))) (gArg (gC (.int 60))))))) (zab 2))))) (gSet [] 2 (gOp2 oMult (zab 2) (gArg (gOp2 (oI cPow fun i j=>.int (i ^ j.toNat)) (gArg (gC (.int 10))) (gArg (gC (.int 60)))))))))
          (fun i e=>∃a0 wt v3,e=[some (.frl ((n0::nr).map W.int),false),some (.lst [.int a0,.int 0,.int 0],true),some (.int wt,false),v3,none,none]/\0<=a0/\0 < wt/\wt<=2 ^ (200 * i))
          (en:=[some (.frl ((n0::nr).map W.int),false),some (.lst [.int 0,.int 0,.int 0],true),some (.int 1,false),none,none,none]) (e0:=[some (.frl ((n0::nr).map W.int),false),some (.lst [.int 0,.int 0,.int 0],true),some (.int 1,false),none,none,none]) (ws:=(n0::nr).map W.int)
          (by
            show some (_,cutW ((n0::nr).map W.int) none (some 63))=_;rw [z1t hl])
          ⟨0,1,none,rfl,by decide,by decide,by decide⟩
          (by
            rintro i w e hw ⟨a0,wt,v3,rfl,q0,q1,q2⟩;rw [List.getElem?_map] at hw;have hi:i < (n0::nr).length:=by
              rcases Nat.lt_or_ge i (n0::nr).length with z | z
              · exact z
              · rw [List.getElem?_eq_none z] at hw;exact noSome hw
            rw [List.getElem?_eq_getElem hi] at hw;have ew:w=.int (n0::nr)[i]:=(sI hw).symm;subst ew;generalize (n0::nr)[i]=n;have y0:0<=(if n < 0 then -n else n) % (10:Int) ^ 60:=Int.emod_nonneg _ (by decide);have y1:(if n < 0 then -n else n) % (10:Int) ^ 60 < 10 ^ 60:=Int.emod_lt_of_pos _ (by decide);have hb:i<=63:=by omega
            have b1:Builtin.Int.intBits ((if n < 0 then -n else n) % (10:Int) ^ 60)<=2 ^ 20:=zg2 (i:=1) y0 (Int.le_trans (Int.le_of_lt y1) (by decide)) (by decide);have b2:Builtin.Int.intBits wt<=2 ^ 20:=zg2 (by omega) q2 hb;have m1:=zp9 b1 b2;have m2:=zp9 b2 (zg2 (w:=10 ^ 60) (i:=1) (by decide) (by decide) (by decide));obtain ⟨r1,r2⟩:=zs6 q1 q2;refine ⟨_,[some (.frl ((n0::nr).map W.int),false),some (.lst [.int (a0+(if n < 0 then -n else n) % (10:Int) ^ 60 * wt),.int 0,.int 0],true),some (.int (wt * 10 ^ 60),false),some (.int n,false),none,none],rfl,.inl ?_,_,_,_,rfl,?_,r1,r2⟩
            · refine (seq_nx (e1 := [some (.frl ((n0 :: nr).map W.int), false), some (.lst [.int (a0 + (if n < 0 then -n else n) % (10 : Int) ^ 60 * wt), .int 0, .int 0], true), some (.int wt, false), some (.int n, false), none, none]) ?_).trans (set_0 (op2_0 rfl (arg_0 (op2_0 (x := .inl (.int 10)) rfl rfl rfl rfl (oI_t p60))) rfl rfl m2) rfl)
              have ge:gOp2 oAdd (gArg (gOp2 oIx (zab 1) (gArg (gC (.int 0))))) (gArg (gOp2 oMult (gArg (gOp2 (oI (fun _ j=>decide (0 < j)) fun i j=>.int (i % j)) (gArg (gOpN oAbs (gCns (zab 3) gA0))) (gArg (gOp2 (oI cPow fun i j=>.int (i ^ j.toNat)) (gArg (gC (.int 10))) (gArg (gC (.int 60))))))) (zab 2))) [some (.frl ((n0::nr).map W.int),false),some (.lst [.int a0,.int 0,.int 0],true),some (.int wt,false),some (.int n,false),none,none]=some ([some (.frl ((n0::nr).map W.int),false),some (.lst [.int a0,.int 0,.int 0],true),some (.int wt,false),some (.int n,false),none,none],(.int (a0+(if n < 0 then -n else n) % (10:Int) ^ 60 * wt),false)) :=
                zbe (zbq (zbe rfl rfl rfl rfl (zn5 rfl (zcx (i:=0) rfl)))) (zbq (zbe (zbq (zbe (zbq (z0n rfl rfl rfl)) (zbq (zbe (x:=.inl (.int 10)) rfl rfl rfl rfl (oI_t p60))) rfl rfl (oI_t (by decide)))) rfl rfl rfl m1)) rfl rfl rfl
              exact zod (n:=0) (j:=0) (ws:=[.int a0,.int 0,.int 0]) ge rfl rfl rfl
            · have := Int.mul_nonneg y0 (Int.le_of_lt q1)
              omega)
        refine aG fun _ qG=>?_;obtain ⟨a0,wt,v3,rfl,q0,_⟩:=hp;refine qG ?_;clear qG;exact ⟨a0,_,_,q0,(ztn (by unfold zfu;rw [ln];exact t2)).trans ((seq_nx (e1:=[some (.frl ((n0::nr).map W.int),false),some (.lst [.int 0,.int 0,.int 0],true),some (.int 1,false),none,none,none]) rfl).trans hf)⟩
      · rw [decide_eq_false c] at t2
        exact ⟨0,none,none,by decide,(z1l (by unfold zfu;rw [ln];exact t2)).trans rfl⟩
  refine aG fun _ qG=>?_;obtain ⟨a0,v2,v3,q0,hfirst⟩:=first
  refine qG ?_;clear qG;obtain ⟨en',hf,hp⟩:=zdc (mp:=[]) (T:=.tp [4,3]) (it:=zjp (gSl (zab 0) zbv (zfl (gC (.int 63))))) (body:=(gSeq (gSet [] 5 (gOp2 oAdd (gArg (gOp2 oAdd (gArg (gOp2 (oI (fun _ j=>decide (0 < j)) fun i j=>.int (i % j)) (zab 3) (gArg (gC (.int 2305843009213693951))))) (gArg (gOp2 oMult (gArg (gC (.int 7919))) (zab 4))))) (gArg (gC (.int 3))))) (za0 1 (gC (.int 1)) (gOp2 (oI (fun _ j=>decide (0 < j)) fun i j=>.int (i % j)) (gArg (gOp2 oAdd (gArg (gOp2 oMult (gArg (gOp2 oIx (zab 1) (gArg (gC (.int 1))))) (gArg (gC (.int 48271))))) (zab 5))) (gArg (gC (.int 2305843009213693951)))))))
    (fun i e=>∃b v3 v4 v5,e=[some (.frl (ns.map W.int),false),some (.lst [.int a0,.int b,.int 0],true),v2,v3,v4,v5]/\0<=b/\b < MM)
    (en:=[some (.frl (ns.map W.int),false),some (.lst [.int a0,.int 0,.int 0],true),v2,v3,none,none]) (e0:=[some (.frl (ns.map W.int),false),some (.lst [.int a0,.int 0,.int 0],true),v2,v3,none,none]) (ws:=zc9 (ns.map W.int) 0)
    (by
      show some (_,zc9 (cutW (ns.map W.int) none (some 63)) 0)=_;rw [z1t hl])
    ⟨0,v3,none,none,rfl,by decide,by decide⟩
    (by
      rintro i w e hw ⟨b,v3,v4,v5,rfl,q1,q2⟩;obtain ⟨hi,rfl⟩:=zmn hw;generalize ns[i]=n;have hm:MM=2305843009213693951:=rfl;have m1:oMult (.int 7919) (.int (i:Nat))=some (.int (7919 * (i:Nat)),false):=oMult_l (by decide) (by decide);have m2:oMult (.int b) (.int 48271)=some (.int (b * 48271),false):=zkn (by decide) (by decide);refine ⟨_,[some (.frl (ns.map W.int),false),some (.lst [.int a0,.int ((b * 48271+(n % 2305843009213693951+7919 * (i:Nat)+3)) % 2305843009213693951),.int 0],true),v2,some (.int n,false),some (.int (i:Nat),false),some (.int (n % 2305843009213693951+7919 * (i:Nat)+3),false)],rfl,.inl ?_,_,_,_,_,rfl,Int.emod_nonneg _ (by decide),Int.emod_lt_of_pos _ (by decide)⟩;refine (seq_nx (e1:=[some (.frl (ns.map W.int),false),some (.lst [.int a0,.int b,.int 0],true),v2,some (.int n,false),some (.int (i:Nat),false),some (.int (n % 2305843009213693951+7919 * (i:Nat)+3),false)]) (set_0 (op2_0 (arg_0 (op2_0 (arg_0 (op2_0 rfl rfl rfl rfl (oI_t (by decide)))) (arg_0 (op2_0 (x:=.inl (.int 7919)) rfl rfl rfl rfl m1)) rfl rfl rfl)) rfl rfl rfl rfl) rfl)).trans ?_;have ge:gOp2 (oI (fun _ j=>decide (0 < j)) fun i j=>.int (i % j)) (gArg (gOp2 oAdd (gArg (gOp2 oMult (gArg (gOp2 oIx (zab 1) (gArg (gC (.int 1))))) (gArg (gC (.int 48271))))) (zab 5))) (gArg (gC (.int 2305843009213693951))) [some (.frl (ns.map W.int),false),some (.lst [.int a0,.int b,.int 0],true),v2,some (.int n,false),some (.int (i:Nat),false),some (.int (n % 2305843009213693951+7919 * (i:Nat)+3),false)]=some ([some (.frl (ns.map W.int),false),some (.lst [.int a0,.int b,.int 0],true),v2,some (.int n,false),some (.int (i:Nat),false),some (.int (n % 2305843009213693951+7919 * (i:Nat)+3),false)],(.int ((b * 48271+(n % 2305843009213693951+7919 * (i:Nat)+3)) % 2305843009213693951),false)) :=
        zbe (zbq (zbe (zbq (zbe (zbq (zbe rfl rfl rfl rfl (zn5 rfl (zcx (i:=1) rfl)))) rfl rfl rfl m2)) rfl rfl rfl rfl)) rfl rfl rfl (oI_t (by decide))
      exact zod (n:=1) (j:=1) (ws:=[.int a0,.int b,.int 0]) ge rfl rfl rfl)
  refine aG fun _ qG=>?_;obtain ⟨b,w3,w4,w5,rfl,q1,q2⟩:=hp;refine qG ?_;clear qG;refine ⟨.lst [.int a0,.int b,.int 0],zbm (en:=[some (.frl (ns.map W.int),false),none,v2,w3,w4,w5]) rfl ?_ rfl,⟨_,_,_,rfl,q0,q1,q2,by decide,by decide⟩⟩;exact (seq_nx (e1:=[some (.frl (ns.map W.int),false),some (.lst [.int 0,.int 0,.int 0],true),none,none,none,none]) rfl).trans ((seq_nx hfirst).trans ((seq_nx hf).trans rfl))
end L2
namespace L2
open PySem PySem.Spec PyProof.Rows
end L2
namespace L2
open PySem PySem.Spec PyProof.Rows
theorem zqo (a b x y:Nat) (hx:x < 2) (hy:y < 2):(2 * a+x) &&& (2 * b+y)=2 * (a &&& b)+x * y:=by
 have h1:((2 * a+x) &&& (2 * b+y)) / 2=a &&& b:=by
  have:=Nat.and_div_two_pow (n:=1) (a:=2 * a+x) (b:=2 * b+y);rw [Nat.pow_one] at this;rw [this];have e1:(2 * a+x) / 2=a:=by omega
  have e2:(2 * b+y) / 2=b:=by omega
  rw [e1,e2]
 have h2:((2 * a+x) &&& (2 * b+y)) % 2=x * y:=by
  have:=Nat.and_mod_two_pow (n:=1) (a:=2 * a+x) (b:=2 * b+y);rw [Nat.pow_one] at this;rw [this];have e1:(2 * a+x) % 2=x:=by omega
  have e2:(2 * b+y) % 2=y:=by omega
  rw [e1,e2];have:x=0\/x=1:=by omega
  have:y=0\/y=1:=by omega
  rcases ‹x=0\/x=1› with rfl | rfl<;>rcases ‹y=0\/y=1› with rfl | rfl<;>rfl
 omega
noncomputable def Bit (x:Int):Prop:=x=0\/x=1
theorem zep {a b x y:Int} (ha:0<=a) (hb:0<=b) (hx:Bit x) (hy:Bit y):Builtin.bitAnd (2 * a+x) (2 * b+y)=2 * Builtin.bitAnd a b+x * y:=by
 have x0:0<=x/\x < 2:=by rcases hx with rfl | rfl<;>decide
 have y0:0<=y/\y < 2:=by rcases hy with rfl | rfl<;>decide
 rw [bitAnd_pp (by omega) (by omega),bitAnd_pp ha hb];have e1:(2 * a+x).toNat=2 * a.toNat+x.toNat:=by omega
 have e2:(2 * b+y).toNat=2 * b.toNat+y.toNat:=by omega
 rw [e1,e2,zqo _ _ _ _ (by omega) (by omega)];rcases hx with rfl | rfl<;>rcases hy with rfl | rfl<;>simp
theorem zfn (x y:Int):Builtin.bitXor x y=x+y - 2 * Builtin.bitAnd x y:=by
 show Builtin.bitOr x y - Builtin.bitAnd x y=_;rw [bitOr_and];omega
theorem zmk {a b x y:Int} (ha:0<=a) (hb:0<=b) (hx:Bit x) (hy:Bit y):Builtin.bitXor (2 * a+x) (2 * b+y)=2 * Builtin.bitXor a b+(x+y - 2 * (x * y)):=by
 rw [zfn,zfn,zep ha hb hx hy];omega
theorem zts (x:Int):Builtin.bitXor x 0=x:=by rw [zfn,bitAnd_zero];omega
theorem zru (x:Int):Builtin.bitXor 0 x=x:=by rw [zfn,bitAnd_comm,bitAnd_zero];omega
theorem zmm (x:Int):Builtin.bitAnd 0 x=0:=by rw [bitAnd_comm,bitAnd_zero]
theorem Bits.head {x:Int}{xs:List Int} (h:Bits (x::xs)):Bit x:=h x List.mem_cons_self
theorem Bits.tail {x:Int}{xs:List Int} (h:Bits (x::xs)):Bits xs:=fun y hy=>h y (List.mem_cons_of_mem _ hy)
theorem zca {xs:List Int} (h:Bits xs):0<=zaa xs:=(zce h).1
theorem zbc (x:Int) (xs:List Int):zaa (x::xs)=2 * zaa xs+x:=rfl
theorem zav:∀(l h:List Int),zaa (l++h)=zaa l+2 ^ l.length * zaa h
  | [],h=>by show zaa h=0+1 * zaa h;omega
  | x::l,h=>by
    show 2 * zaa (l++h)+x=2 * zaa l+x+2 ^ (l.length+1) * zaa h;rw [zav l h,Int.pow_succ,Int.mul_add,Int.mul_comm (2 ^ l.length) 2,Int.mul_assoc];omega
theorem zfo:∀{xs ys:List Int},Bits xs->Bits ys->Builtin.bitAnd (zaa xs) (zaa ys)=zaa (List.zipWith (· * ·) xs ys)
  | [],ys,_,_=>zmm _
  | x::xs,[],_,_=>bitAnd_zero _
  | x::xs,y::ys,h1,h2=>by
    rw [zbc,zbc,zep (zca h1.tail) (zca h2.tail) h1.head h2.head,zfo h1.tail h2.tail]
    rfl
theorem zir:∀{l h:List Int},Bits l->Bits h->Builtin.bitXor (zaa l) (zaa h * 2 ^ l.length)=zaa (l++h)
  | [],h,_,_=>by show Builtin.bitXor 0 (zaa h * 1)=zaa h;rw [zru,Int.mul_one]
  | x::l,h,a,b=>by
    have e:zaa h * 2 ^ (x::l).length=2 * (zaa h * 2 ^ l.length)+0:=by
      show zaa h * 2 ^ (l.length+1)=_;rw [Int.pow_succ,<-Int.mul_assoc,Int.mul_comm _ 2,Int.add_zero]
    have hn:0<=zaa h * 2 ^ l.length:=Int.mul_nonneg (zca b) (Int.le_of_lt (Int.pow_pos (by decide)));rw [e,zbc,zmk (zca a.tail) hn a.head (.inl rfl),zir a.tail b];show 2 * zaa (l++h)+(x+0 - 2 * (x * 0))=2 * zaa (l++h)+x;omega
noncomputable def z4b (Φ:Fn):Prop:=∀a b:Int,Φ [.int a,.int b]=some ([.int a,.int b],(.int (Builtin.bitXor a b),false))
end L2
namespace L2
open PySem PySem.Spec PyProof.Rows
noncomputable def dif (a b:Int):Int:=if !decide (a=b) then 1 else 0
theorem zxo {a b:Int} (ha:Bit a) (hb:Bit b):a+b - 2 * (a * b)=dif a b:=by
 rcases ha with rfl | rfl<;>rcases hb with rfl | rfl<;>decide
theorem zh1:∀{xs ys:List Int},Bits xs->Bits ys->xs.length=ys.length->Builtin.bitXor (zaa xs) (zaa ys)=zaa (List.zipWith dif xs ys)
  | [],[],_,_,_=>zts 0
  | [],_::_,_,_,h=>by cases h
  | _::_,[],_,_,h=>by cases h
  | x::xs,y::ys,h1,h2,hl=>by
    rw [zbc,zbc,zmk (zca h1.tail) (zca h2.tail) h1.head h2.head,zh1 h1.tail h2.tail (by simpa using hl),zxo h1.head h2.head]
    rfl
end L2
namespace L2
open PySem PySem.Spec PyProof.Rows
theorem zv7 {as:GAs}{en e1:En}{xs:List (W ⊕ Nat)}{j:Int} (h:as en=some (e1,xs)) (h2:zak e1 xs=some [.int j]) (h3:zc8 j=true):zdm as en=some (e1,rngW 0 j.toNat):=by
 unfold zdm;rw [h];show (match zak e1 xs with | some [.int j]=>if zc8 j then some (e1,rngW 0 j.toNat) else none | _=>none)=_;rw [h2];show (if zc8 j then some (e1,rngW 0 j.toNat) else none)=_;rw [if_pos h3]
end L2
namespace L2
open PySem PySem.Spec PyProof.Rows
noncomputable def tab (n:Nat) (f:Nat->Int):List Int:=(List.range n).map f
theorem zaq (n:Nat) (f:Nat->Int):(tab n f).length=n:=by unfold tab;rw [List.length_map,List.length_range]
theorem zdx {n:Nat}{f:Nat->Int}{i:Nat} (h:i < n):(tab n f)[i]?=some (f i):=by unfold tab;rw [List.getElem?_map,List.getElem?_range h];rfl
theorem zb2 {n:Nat}{f g:Nat->Int} (h:∀i,i < n->f i=g i):tab n f=tab n g:=by
 unfold tab;refine List.map_congr_left fun i hi=>h i (List.mem_range.mp hi)
theorem tab_of (xs:List Int):tab xs.length (fun i=>xs.getD i 0)=xs:=by
 apply List.ext_getElem?;intro i;by_cases h:i < xs.length
 ·rw [zdx h,List.getD_eq_getElem?_getD,List.getElem?_eq_getElem h];rfl
 ·rw [List.getElem?_eq_none (by rw [zaq];omega),List.getElem?_eq_none (by omega)]
theorem zzh (n:Nat) (f g:Nat->Int) (h:Int->Int->Int):List.zipWith h (tab n f) (tab n g)=tab n fun i=>h (f i) (g i):=by
 apply List.ext_getElem?;intro i;by_cases hi:i < n
 ·rw [List.getElem?_zipWith,zdx hi,zdx hi,zdx hi]
 ·rw [List.getElem?_eq_none (by rw [List.length_zipWith,zaq,zaq];omega),List.getElem?_eq_none (by rw [zaq];omega)]
theorem zat {n:Nat}{f:Nat->Int} (h:∀i,i < n->Bit (f i)):Bits (tab n f):=fun x hx=>by
 obtain ⟨i,hi,rfl⟩:=List.mem_map.mp hx;exact h i (List.mem_range.mp hi)
theorem zj7 (a b:Nat) (f:Nat->Int):tab (a+b) f=tab a f++tab b fun i=>f (a+i):=by
 unfold tab;rw [List.range_add,List.map_append,List.map_map]
 rfl
theorem zg8 (n:Nat):tab n (fun _=>0)=List.replicate n 0:=by unfold tab;rw [List.map_const',List.length_range]
theorem zdy (n:Nat):zaa (List.replicate n 0)=0:=by
 induction n with
 | zero=>rfl
 | succ n ih=>rw [List.replicate_succ,zbc,ih];rfl
noncomputable def z3e (s:Nat) (f:Nat->Int) (i:Nat):Int:=if i / s % 2=1 then (f i+f (i - s)) % 2 else f i
end L2
namespace L2
open PySem PySem.Spec PyProof.Rows
end L2
namespace L2
open PySem PySem.Spec PyProof.Rows
end L2
namespace L2
open PySem PySem.Spec PyProof.Rows
noncomputable def outF (r:Nat):Nat->(Nat->Int)->Nat->Int
 | 0,f=>f
 | k+1,f=>z3e (2 ^ (r+k)) (outF r k f)
noncomputable def zv9 (Φ:Fn):Prop:=∀(m r:Int) (f:Nat->Int),0<=r->r<=m->m<=6->(∀i,Bit (f i))->Φ [.int m,.int (zaa (tab (2 ^ m.toNat) f)),.int r]=some ([.int m,.int (zaa (tab (2 ^ m.toNat) f)),.int r],(.int (zaa (tab (2 ^ m.toNat) (outF r.toNat (m - r).toNat f))),false))
theorem zzs {e:Nat}{x:Int} (h:x=(e:Int)):(2:Int) ^ x.toNat=2 ^ e:=by rw [h];rfl
end L2
namespace L2
open PySem PySem.Spec PyProof.Rows
theorem zbx (n:Nat) (f:Nat->Int):tab (n+1) f=tab n f++[f n]:=by unfold tab;rw [List.range_succ,List.map_append];rfl
theorem zfg:∀(p:Nat) (xs:List Int),Bits xs->Builtin.bitAnd (zaa xs / 2 ^ p) 1=xs.getD p 0
  | p,[],_=>by
    show Builtin.bitAnd ((0:Int) / 2 ^ p) 1=0;rw [Int.zero_ediv,zmm]
  | 0,x::xs,h=>by
    have a:=zep (zca h.tail) (Int.le_refl 0) h.head (show Bit 1 from .inr rfl);rw [bitAnd_zero] at a;show Builtin.bitAnd (zaa (x::xs) / 1) 1=x;rw [Int.ediv_one,zbc];have e:(2 * 0+1:Int)=1:=rfl;rw [e] at a;rw [a];omega
  | p+1,x::xs,h=>by
    have ih:=zfg p xs h.tail;have e:zaa (x::xs) / 2 ^ (p+1)=zaa xs / 2 ^ p:=by
      rw [zbc,Int.pow_succ,Int.mul_comm ((2:Int) ^ p) 2,<-Int.ediv_ediv_of_nonneg (by decide)];congr 1;rcases h.head with q | q<;>rw [q]<;>omega
    rw [e,ih]
    rfl
theorem zl8 {n:Nat}{f:Nat->Int} (h:∀i,n<=i->f i=0) (p:Nat):(tab n f).getD p 0=f p:=by
 rw [List.getD_eq_getElem?_getD];by_cases c:p < n
 ·rw [zdx c];rfl
 ·rw [List.getElem?_eq_none (by rw [zaq];omega),h p (by omega)];rfl
noncomputable def dueL (f:Nat->Int) (n:Nat):List Nat:=(List.range n).filter fun p=>decide (f p=1)
noncomputable def castL (M:List Nat):List W:=M.map fun p:Nat=>W.int p
theorem zhf (M:List Nat):castL M=(M.map fun p:Nat=>(p:Int)).map W.int:=by unfold castL;rw [List.map_map];rfl
theorem zfh (M:List Nat):(castL M).length=M.length:=List.length_map ..
theorem zia {M:List Nat}{i:Nat}{w:W} (h:(castL M)[i]?=some w):∃p,M[i]?=some p/\w=.int (p:Nat):=by
 unfold castL at h;rw [List.getElem?_map] at h;obtain ⟨p,h1,h2⟩:=Option.map_eq_some_iff.mp h;exact ⟨p,h1,h2.symm⟩
theorem zx0 {f:Nat->Int} (h:∀i,Bit (f i)):∀n,((dueL f n).length:Int)=(tab n f).sum
  | 0=>rfl
  | n+1=>by
    have ih:=zx0 h n;unfold dueL at ih ⊢;rw [List.range_succ,List.filter_append,List.length_append,zbx,List.sum_append,<-ih];rcases h n with e | e
    · rw [List.filter_cons_of_neg (by rw [e];decide),e];rfl
    · rw [List.filter_cons_of_pos (by rw [e];decide),e];rfl
theorem zl7 (f g h:Nat->Int):∀n,zaa (tab n f)+zaa (tab n g) - zaa (tab n h)=zaa (tab n fun i=>f i+g i - h i)
  | 0=>rfl
  | n+1=>by
    have ih:=zl7 f g h n;rw [zbx,zbx,zbx,zbx,zav,zav,zav,zav,<-ih,zaq,zaq,zaq,zaq];show _+2 ^ n * (2 * 0+f n)+(_+2 ^ n * (2 * 0+g n)) - (_+2 ^ n * (2 * 0+h n))=_+2 ^ n * (2 * 0+(f n+g n - h n));rw [show (2 * 0+f n)=f n by omega,show (2 * 0+g n)=g n by omega,show (2 * 0+h n)=h n by omega,show (2 * 0+(f n+g n - h n))=f n+g n - h n by omega,Int.mul_sub,Int.mul_add];omega
theorem ztd {n p:Nat} (h:p < n):(1 * 2 ^ p:Int)=zaa (tab n fun i=>if i=p then 1 else 0):=by
 obtain ⟨k,rfl⟩ : ∃k,n=p+(1+k):=⟨n - p - 1,by omega⟩;have e1:(tab p fun i=>if i=p then (1:Int) else 0)=List.replicate p 0:=by
  rw [<-zg8];exact zb2 fun i hi=>if_neg (by omega)
 have e2:(tab k fun i=>if p+(1+i)=p then (1:Int) else 0)=List.replicate k 0:=by
  rw [<-zg8];exact zb2 fun i hi=>if_neg (by omega)
 have e3:(tab 1 fun i=>if p+i=p then (1:Int) else 0)=[1]:=by
  show [if p+0=p then (1:Int) else 0]=[1];rw [if_pos (by omega)]
 rw [zj7,zj7,e1,e2,e3,zav,zdy,List.length_replicate];show _=0+2 ^ p * (2 * zaa (List.replicate k 0)+1);rw [zdy];omega
theorem zut (x y:Int):Builtin.bitOr x y=x+y - Builtin.bitAnd x y:=by
 have h:=zfn x y;have e:Builtin.bitXor x y=Builtin.bitOr x y - Builtin.bitAnd x y:=rfl;omega
theorem zxm {n p:Nat}{f:Nat->Int} (h:∀i,Bit (f i)) (hp:p < n):Builtin.bitOr (zaa (tab n f)) (1 * 2 ^ p)=zaa (tab n fun i=>if i=p then 1 else f i):=by
 rw [ztd hp,zut,zfo (zat fun i _=>h i) (zat fun i _=>by split<;>first | exact .inr rfl | exact .inl rfl),zzh,zl7];refine congrArg zaa (zb2 fun i _=>?_);by_cases c:i=p
 ·rw [if_pos c,if_pos c];omega
 ·rw [if_neg c,if_neg c];omega
theorem z0g {mp:List Nat}{o:O2}{i:Nat}{g:GA}{en e1:En}{x:W ⊕ Nat}{w u:W}{r:W × Bool} (h0:en[i]?=some (some (w,false))) (h1:g en=some (e1,x)) (h2:resA e1 x=some u) (h3:o w u=some r) (hc:(mp.contains i || !decide (i < e1.length))=false):gAug mp o i g en=some (e1.set i (some r),.nx):=by
 unfold gAug;rw [h0];show (g en).bind _=_;rw [h1];show (resA e1 x).bind _=_;rw [h2];show (o w u).bind _=_;rw [h3];show (if (mp.contains i || !decide (i < e1.length))=true then none else some (e1.set i (some r),Fl.nx))=_;rw [hc]
 rfl
noncomputable def z1q (Ψ:Str->Fn):GS:=(gRet (gOp2 (oI yes2 fun i j=>.int (Builtin.bitAnd i j)) (gArg (gOp2 (oI (fun _ j=>decide (0<=j)) fun i j=>.int (i / 2 ^ j.toNat)) (zab 0) (zab 1))) (gArg (gC (.int 1)))))
noncomputable def zuw (Φ:Fn):Prop:=∀(n p:Nat) (f:Nat->Int),(∀i,Bit (f i))->(∀i,n<=i->f i=0)->Φ [.int (zaa (tab n f)),.int (p:Nat)]=some ([.int (zaa (tab n f)),.int (p:Nat)],(.int (f p),false))
theorem zv4 (Ψ:Str->Fn):zuw (zao [false,false] 2 (z1q Ψ)):=fun n p f hf h0=>by
 have s:=zfg p _ (zat (n:=n) fun i _=>hf i);rw [zl8 h0] at s;have a:gArg (gOp2 (oI (fun _ j=>decide (0<=j)) fun i j=>.int (i / 2 ^ j.toNat)) (zab 0) (zab 1)) [some (.int (zaa (tab n f)),false),some (.int (p:Nat),false)]=some ([some (.int (zaa (tab n f)),false),some (.int (p:Nat),false)],.inl (.int (zaa (tab n f) / 2 ^ p))):=arg_0 (r:=(.int (zaa (tab n f) / 2 ^ p),false)) (op2_0 (x:=.inl (.int (zaa (tab n f)))) (y:=.inl (.int (p:Nat))) rfl rfl rfl rfl (oI_t (decide_eq_true (Int.natCast_nonneg p))));refine zbm (en:=[some (.int (zaa (tab n f)),false),some (.int (p:Nat),false)]) rfl (z20 (op2_0 a (show gArg (gC (.int 1)) _=some (_,.inl (.int 1)) from rfl) rfl rfl ?_)) rfl;show some (W.int (Builtin.bitAnd (zaa (tab n f) / 2 ^ p) 1),false)=_;rw [s]
noncomputable def zqr (Ψ:Str->Fn):GS:=(gSeq (gSet [] 1 (gC (.int 0))) (gSeq (gFor [] (.nm 2) (zem (gVar 0)) (gAug [] (oI yes2 fun i j=>.int (Builtin.bitOr i j)) 1 (gArg (gOp2 (oI cPow fun i j=>.int (i * 2 ^ j.toNat)) (gArg (gC (.int 1))) (zab 2))))) (zc7 [] 1)))
noncomputable def zgr (Φ:Fn):Prop:=∀(n:Nat) (M:List Nat),n<=64->(∀p∈M,p < n)->Φ [.tup (castL M)]=some ([.tup (castL M)],(.int (zaa (tab n fun i=>if i∈M then 1 else 0)),false))
theorem zm6 (Ψ:Str->Fn):zgr (zao [false] 3 (zqr Ψ)):=fun n M hn hM=>by
 have z0:(zaa (tab n fun i=>if i∈M.take 0 then 1 else 0))=0:=by
  have:(tab n fun i=>if i∈M.take 0 then (1:Int) else 0)=List.replicate n 0:=by
   rw [<-zg8];exact zb2 fun i _=>if_neg (by rw [List.take_zero];exact List.not_mem_nil)
  rw [this,zdy]
 obtain ⟨en',hl,hp⟩:=zdc (mp:=[]) (T:=(.nm 2)) (it:=(zem (gVar 0))) (body:=(gAug [] (oI yes2 fun i j=>.int (Builtin.bitOr i j)) 1 (gArg (gOp2 (oI cPow fun i j=>.int (i * 2 ^ j.toNat)) (gArg (gC (.int 1))) (zab 2)))))
  (fun j e=>∃v2,e=[some (.tup (castL M),false),some (.int (zaa (tab n fun i=>if i∈M.take j then 1 else 0)),false),v2]) (en:=[some (.tup (castL M),false),some (.int 0,false),none]) (e0:=[some (.tup (castL M),false),some (.int 0,false),none]) (ws:=castL M) rfl ⟨none,by rw [z0]⟩
  (by
   rintro j w e hw ⟨v2,rfl⟩;obtain ⟨p,hp,rfl⟩:=zia hw;have pn:p < n:=hM p (List.mem_of_getElem? hp);have ow:=zxm (n:=n) (p:=p) (f:=fun i=>if i∈M.take j then 1 else 0) (fun i=>by show Bit (if _ then _ else _);split<;>first | exact .inr rfl | exact .inl rfl) pn;have e2:(tab n fun i=>if i=p then (1:Int) else if i∈M.take j then 1 else 0)=tab n fun i=>if i∈M.take (j+1) then 1 else 0:=zb2 fun i _=>by
    have m:i∈M.take (j+1)↔(i∈M.take j\/i=p):=by
     rw [List.take_succ,hp,List.mem_append];show _\/i∈[p]↔_;rw [List.mem_singleton]
    by_cases c:i=p
    ·rw [if_pos c,if_pos (m.mpr (.inr c))]
    ·rw [if_neg c];by_cases c2:i∈M.take j
     ·rw [if_pos c2,if_pos (m.mpr (.inl c2))]
     ·rw [if_neg c2,if_neg (fun q=>(m.mp q).elim c2 c)]
   rw [e2] at ow;have pw:(1 * 2 ^ ((p:Nat):Int).toNat:Int)=1 * 2 ^ p:=rfl;refine ⟨[some (.tup (castL M),false),some (.int (zaa (tab n fun i=>if i∈M.take j then 1 else 0)),false),some (.int (p:Nat),false)],[some (.tup (castL M),false),some (.int (zaa (tab n fun i=>if i∈M.take (j+1) then 1 else 0)),false),some (.int (p:Nat),false)],rfl,.inl (z0g (w:=.int (zaa (tab n fun i=>if i∈M.take j then 1 else 0))) (u:=.int (1 * 2 ^ p)) rfl (arg_0 (r:=(.int (1 * 2 ^ p),false)) (op2_0 (x:=.inl (.int 1)) (y:=.inl (.int (p:Nat))) rfl rfl rfl rfl (oI_t (zrs (by omega) (by omega) (by decide))))) rfl ?_ rfl),_,rfl⟩;show some (W.int (Builtin.bitOr (zaa (tab n fun i=>if i∈M.take j then 1 else 0)) (1 * 2 ^ p)),false)=_;rw [ow])
 obtain ⟨v2,rfl⟩:=hp;rw [zfh,List.take_length] at hl;exact zbm rfl ((seq_nx (e1:=[some (.tup (castL M),false),some (.int 0,false),none]) rfl).trans ((seq_nx hl).trans rfl)) rfl
end L2
namespace L2
open PySem PySem.Spec PyProof.Rows
theorem zd4:∀ws:List W,zba (ws.map Sum.inl)=some ws
 | []=>rfl
 | w::ws=>by show (zba (ws.map Sum.inl)).bind _=_;rw [zd4 ws];rfl
theorem zey:∀{xs:List (W ⊕ Nat)}{ws:List W},zba xs=some ws->xs=ws.map Sum.inl
  | [],_,e=>by obtain rfl:=sI e;rfl
  | .inl w::xs,_,e=>by
    obtain ⟨ws,h,e⟩:=bS (show (zba xs).bind _=_ from e);obtain rfl:=sI e;rw [zey h];rfl
  | .inr _::_,_,e=>by exact noSome e
theorem zjr {xs:List (W ⊕ Nat)} (m:List Bool) (hm:(m.all fun b=>!b)=true) (h:xs.map isR=m):∃ws:List W,xs=ws.map Sum.inl:=by
  induction xs generalizing m with
  | nil=>exact ⟨[],rfl⟩
  | cons x xs ih =>
    cases m with
    | nil=>cases h
    | cons b m =>
      rw [List.map_cons] at h;injection h with h1 h2;rw [List.all_cons,Bool.and_eq_true] at hm;obtain ⟨ws,e⟩:=ih m hm.2 h2;cases x with
      | inl w=>exact ⟨w::ws,by rw [e];rfl⟩
      | inr i=>rw [<-h1] at hm;cases hm.1
theorem zfi:∀{m:List Bool} (hm:(m.all fun b=>!b)=true) (ws:List W),ws.length=m.length->(ws.map fun _=>false)=m
  | [],_,[],_=>rfl
  | [],_,_::_,h=>by cases h
  | _::_,_,[],h=>by cases h
  | b::m,hm,w::ws,h=>by
    rw [List.all_cons,Bool.and_eq_true] at hm;rw [List.map_cons,zfi hm.2 ws (by simpa using h)];cases b with
    | false=>rfl
    | true=>cases hm.1
theorem zcc (m:List Bool) (Φ:Fn) (as:GAs) (en:En) (hm:(m.all fun b=>!b)=true):zae m Φ as en=(as en).bind fun p=>(zba p.2).bind fun ws=>if ws.length=m.length then (Φ ws).bind fun q=>if q.1.length=m.length then some (p.1,q.2) else none else none:=by
  cases ha:as en with
  | none=>unfold zae;rw [ha];rfl
  | some p =>
    obtain ⟨e1,xs⟩:=p;show _=(zba xs).bind _;cases hf:zba xs with
    | none =>
      unfold zae;rw [ha];show (if (decide (xs.map isR=m) && _ && _)=true then _ else none)=none;rw [decide_eq_false (fun z=>by obtain ⟨ws,e⟩:=zjr m hm z;rw [e,zd4] at hf;cases hf)]
      rfl
    | some ws =>
      have ex:=zey hf;subst ex;show _=if ws.length=m.length then _ else none;by_cases hl:ws.length=m.length
      · rw [if_pos hl]
        have h1:=zfi hm ws hl;cases hq:Φ ws with
        | none =>
          unfold zae;rw [ha];show (if (decide ((ws.map Sum.inl).map isR=m) && zam e1 (ws.map Sum.inl) && zbu (za3 (ws.map Sum.inl)))=true then _ else _)=_;have e:(ws.map Sum.inl).map isR=m:=by rw [<-h1,List.map_map];rfl
          rw [decide_eq_true e,zdf,ze4];show (zak e1 (ws.map Sum.inl)).bind _=_;rw [zbi];show (Φ ws).bind _=_;rw [hq]
          rfl
        | some q =>
          obtain ⟨ws',r⟩:=q;show _=if ws'.length=m.length then some (e1,r) else none;by_cases hl2:ws'.length=m.length
          · rw [if_pos hl2]
            exact zi7 ha h1 hq (by omega)
          · rw [if_neg hl2]
            unfold zae;rw [ha];show (if (decide ((ws.map Sum.inl).map isR=m) && zam e1 (ws.map Sum.inl) && zbu (za3 (ws.map Sum.inl)))=true then _ else _)=_;have e:(ws.map Sum.inl).map isR=m:=by rw [<-h1,List.map_map];rfl
            rw [decide_eq_true e,zdf,ze4];show (zak e1 (ws.map Sum.inl)).bind _=_;rw [zbi];show (Φ ws).bind _=_;rw [hq];show (if ws'.length=m.length then _ else none)=none;rw [if_neg hl2]
      · rw [if_neg hl]
        unfold zae;rw [ha];show (if (decide ((ws.map Sum.inl).map isR=m) && _ && _)=true then _ else none)=none;rw [decide_eq_false (fun z=>hl (by rw [<-z,List.length_map,List.length_map]))]
        rfl
theorem zcz (m:List Bool) (Φ:Fn) (as:GAs) (en:En) (hm:(m.all fun b=>!b)=true):zae (true::m) Φ as en=(as en).bind fun p=>match p.2 with
    | .inr i::xs=>(zba xs).bind fun ws=>(match p.1[i]? with
      | some (some (st,true))=>if ws.length=m.length then (Φ (st::ws)).bind fun q=>(match q.1 with
        | st' :: wz=>if wz.length=m.length then some (p.1.set i (some (st',true)),q.2) else none
        | []=>none) else none
      | _=>none)
    | _=>none:=by
  cases ha:as en with
  | none=>unfold zae;rw [ha];rfl
  | some p =>
    obtain ⟨e1,xs⟩:=p;have base:zae (true::m) Φ as en=if decide (xs.map isR=true::m) && zam e1 xs && zbu (za3 xs) then (zak e1 xs).bind fun ws=>(Φ ws).bind fun q=>if q.1.length=(true::m).length then some (za2 (za3 xs) e1 (za4 (true::m) q.1),q.2) else none else none:=by
      unfold zae;rw [ha];rfl
    have bad:xs.map isR≠true::m->zae (true::m) Φ as en=none:=fun z=>by rw [base,decide_eq_false z];rfl
    have bad2:zam e1 xs=false->zae (true::m) Φ as en=none:=fun z=>by rw [base,z,Bool.and_false];rfl
    simp only [Option.bind_some]
    match xs,ha,base,bad,bad2 with
    | [],ha,_,bad,_=>rw [bad (by simp)]
    | .inl w::xs,ha,_,bad,_=>rw [bad (by simp [isR])]
    | .inr i::xs,ha,base,bad,bad2 =>
      simp only;cases hf:zba xs with
      | none=>rw [bad (fun z=>by
          rw [List.map_cons] at z;injection z with _ z;obtain ⟨ws,e⟩:=zjr m hm z;rw [e,zd4] at hf;cases hf)];rfl
      | some ws =>
        have ex:=zey hf;subst ex;simp only [Option.bind_some];have no:(∀st,e1[i]?≠some (some (st,true)))->zam e1 (.inr i::ws.map Sum.inl)=false:=fun z=>by
          unfold zam;rw [List.all_cons];have:(match e1[i]? with | some (some (_,true))=>true | _=>false)=false:=by
            split
            · rename_i q;exact absurd q (z _)
            · rfl
          simp only [this,Bool.false_and]
        split
        · rename_i st hst
          by_cases hl:ws.length=m.length
          · rw [if_pos hl]
            have h1:=zfi hm ws hl;cases hq:Φ (st::ws) with
            | none =>
              rw [base];split
              · have rs:zak e1 (.inr i::ws.map Sum.inl)=some (st::ws):=by
                  show (resA e1 (.inr i)).bind _=_;have:resA e1 (.inr i)=some st:=by unfold resA;simp only [hst]
                  rw [this];show (zak e1 (ws.map Sum.inl)).bind _=_;rw [zbi]
                  rfl
                rw [rs];show (Φ (st::ws)).bind _=_;rw [hq]
                rfl
              · rfl
            | some q =>
              obtain ⟨ws',r⟩:=q;simp only [Option.bind_some];have nn:ws'.length≠(true::m).length->zae (true::m) Φ as en=none:=fun z=>by
                rw [base];split
                · have rs:zak e1 (.inr i::ws.map Sum.inl)=some (st::ws):=by
                    show (resA e1 (.inr i)).bind _=_;have:resA e1 (.inr i)=some st:=by unfold resA;simp only [hst]
                    rw [this];show (zak e1 (ws.map Sum.inl)).bind _=_;rw [zbi]
                    rfl
                  rw [rs];show (Φ (st::ws)).bind _=_;rw [hq];show (if ws'.length=(true::m).length then _ else none)=none;rw [if_neg z]
                · rfl
              match ws',hq,nn with
              | [],hq,nn=>rw [nn (by simp)]
              | st' :: wz,hq,nn =>
                simp only;by_cases hl2:wz.length=m.length
                · rw [if_pos hl2]
                  exact zly ha (by rw [h1]) hst hq (by omega)
                · rw [if_neg hl2,nn (by simpa using hl2)]
          · rw [if_neg hl,bad (fun z=>hl (by
              have:=congrArg List.length z;simpa using this))]
        · rename_i hst
          exact bad2 (no fun st z=>hst st z)
end L2
namespace L2
open PySem PySem.Spec PyProof.Rows
theorem oI_e {c:Int->Int->Bool}{g:Int->Int->W}{i j:Int}:oI c g (.int i) (.int j)=if c i j then some (g i j,false) else none:=rfl
theorem z15 {i j:Int}:yes2 i j=true:=rfl
theorem zr5 {ws:List W}:seqW (.tup ws)=some ws:=rfl
theorem zrx {ws:List W}:seqW (.lst ws)=some ws:=rfl
theorem zsg {ws:List W}:seqL (.lst ws)=some ws:=rfl
theorem z3n {a:W}{i:Int}:oIx a (.int i)=(seqW a).bind fun ws=>(atI ws i).bind fun w=>some (w,false):=by cases a<;>rfl
theorem z0r {en:En}{w:W}:resA en (.inl w)=some w:=rfl
theorem z3c {en:En}{i:Nat}:resA en (.inr i)=match en[i]? with | some (some (w,_))=>some w | _=>none:=by
 unfold resA;rfl
theorem z4r {i j:Int}:oEq (.int i) (.int j)=some (.bl (decide (i=j)),false):=rfl
theorem z4a {i j:Int}:oNe (.int i) (.int j)=some (.bl (!decide (i=j)),false):=rfl
theorem zui {w:W}{xs:List (W ⊕ Nat)}:zba (.inl w::xs)=(zba xs).bind fun ws=>some (w::ws):=rfl
theorem zsq:zba []=some []:=rfl
theorem zw4 {en:En}{x:W ⊕ Nat}{xs:List (W ⊕ Nat)}:zak en (x::xs)=(resA en x).bind fun w=>(zak en xs).bind fun ws=>some (w::ws):=rfl
theorem zzc {en:En}:zak en []=some []:=rfl
theorem zv3 {b:Bool}{m:List Bool}{w:W}{ws:List W}:za4 (b::m) (w::ws)=some (w,b)::za4 m ws:=rfl
theorem zyh {ws:List W}:za4 [] ws=[]:=by unfold za4;simp
theorem z23 {en:En}:zbz [] [] en=some []:=rfl
theorem z2j {m:List Bool}{w u:W}{ws:List W}{en:En}:zbz (true::m) (u::ws) (some (w,true)::en)=(zbz m ws en).bind fun r=>some (w::r):=rfl
theorem z2i {m:List Bool}{w:W}{ws:List W}{x:Option (W × Bool)}{en:En}:zbz (false::m) (w::ws) (x::en)=(zbz m ws en).bind fun r=>some (w::r):=rfl
theorem z35 {x:W}{xs:List W}:atI (x::xs) 0=some x:=by
 have:=zcx (xs:=x::xs) (i:=0) rfl;exact this
theorem z4e {x y:W}{xs:List W}:atI (x::y::xs) 1=some y:=by
 have:=zcx (xs:=x::y::xs) (i:=1) rfl;exact this
theorem z3h {x y z:W}{xs:List W}:atI (x::y::z::xs) 2=some z:=by
 have:=zcx (xs:=x::y::z::xs) (i:=2) rfl;exact this
theorem zt5 {n:Nat}:((no_index (OfNat.ofNat n):Nat):Int)=(OfNat.ofNat n:Int):=rfl
theorem zsj {xs ys:List W}:oAdd (.lst xs) (.lst ys)=if xs.length+ys.length<=sizeLine then some (.lst (xs++ys),true) else none:=by
 by_cases h:xs.length+ys.length<=sizeLine
 ·rw [if_pos h];exact zwo h
 ·rw [if_neg h];show oOr oCat (oOr zsx (oOr zwy zul)) (.lst xs) (.lst ys)=none;have e:oCat (.lst xs) (.lst ys)=none:=by
   show (if xs.length+ys.length<=sizeLine then _ else none)=none;rw [if_neg h]
  unfold oOr;rw [e]
  rfl
theorem zkw:oIsi .int .non=some (.bl false,false):=rfl
theorem zng {b:Bool}:oIsi .int (.bl b)=some (.bl true,false):=rfl
theorem zj8 {n:Int}:oIsi .int (.int n)=some (.bl true,false):=rfl
theorem zkt {x:Str}:oIsi .int (.str x)=some (.bl false,false):=rfl
theorem zk8 {xs:List W}:oIsi .int (.tup xs)=some (.bl false,false):=rfl
theorem zla {xs:List W}:oIsi .int (.lst xs)=some (.bl false,false):=rfl
theorem zk3:oIsi .int .dic=some (.bl false,false):=rfl
theorem zjm:oIsi .bool .non=some (.bl false,false):=rfl
theorem zj1 {b:Bool}:oIsi .bool (.bl b)=some (.bl true,false):=rfl
theorem zhz {n:Int}:oIsi .bool (.int n)=some (.bl false,false):=rfl
theorem zhm {x:Str}:oIsi .bool (.str x)=some (.bl false,false):=rfl
theorem zie {xs:List W}:oIsi .bool (.tup xs)=some (.bl false,false):=rfl
theorem zij {xs:List W}:oIsi .bool (.lst xs)=some (.bl false,false):=rfl
theorem zi8:oIsi .bool .dic=some (.bl false,false):=rfl
theorem zk5:oIsi .str .non=some (.bl false,false):=rfl
theorem znt {b:Bool}:oIsi .str (.bl b)=some (.bl false,false):=rfl
theorem zkl {n:Int}:oIsi .str (.int n)=some (.bl false,false):=rfl
theorem zku {x:Str}:oIsi .str (.str x)=some (.bl true,false):=rfl
theorem zky {xs:List W}:oIsi .str (.tup xs)=some (.bl false,false):=rfl
theorem zj9 {xs:List W}:oIsi .str (.lst xs)=some (.bl false,false):=rfl
theorem zjt:oIsi .str .dic=some (.bl false,false):=rfl
theorem zg6:oIsi .tuple .non=some (.bl false,false):=rfl
theorem zh2 {b:Bool}:oIsi .tuple (.bl b)=some (.bl false,false):=rfl
theorem zhb {n:Int}:oIsi .tuple (.int n)=some (.bl false,false):=rfl
theorem zgf {x:Str}:oIsi .tuple (.str x)=some (.bl false,false):=rfl
theorem zgk {xs:List W}:oIsi .tuple (.tup xs)=some (.bl true,false):=rfl
theorem zgz {xs:List W}:oIsi .tuple (.lst xs)=some (.bl false,false):=rfl
theorem zg5:oIsi .tuple .dic=some (.bl false,false):=rfl
theorem zh0:oIsi .list .non=some (.bl false,false):=rfl
theorem zj0 {b:Bool}:oIsi .list (.bl b)=some (.bl false,false):=rfl
theorem zh7 {n:Int}:oIsi .list (.int n)=some (.bl false,false):=rfl
theorem zik {x:Str}:oIsi .list (.str x)=some (.bl false,false):=rfl
theorem zig {xs:List W}:oIsi .list (.tup xs)=some (.bl false,false):=rfl
theorem ziu {xs:List W}:oIsi .list (.lst xs)=some (.bl true,false):=rfl
theorem zjh:oIsi .list .dic=some (.bl false,false):=rfl
theorem z3d {i j:Bool}:oEq (.bl i) (.bl j)=some (.bl (decide (i=j)),false):=rfl
theorem z3x {i j:Bool}:oNe (.bl i) (.bl j)=some (.bl (!decide (i=j)),false):=rfl
theorem z3z {i j:Str}:oEq (.str i) (.str j)=some (.bl (decide (i=j)),false):=rfl
theorem z3s {i j:Str}:oNe (.str i) (.str j)=some (.bl (!decide (i=j)),false):=rfl
theorem z3k {i j:Bool}:oIs (.bl i) (.bl j)=some (.bl (decide (i=j)),false):=rfl
theorem zzm {f:List Bool->Bool}{bs:List Bool}:oBl f [.lst (bs.map W.bl)]=some (.bl (f bs),false):=by
 show (zjz (bs.map W.bl)).bind _=_;rw [zji];rfl
theorem zlh {cap:Cap}{it:GL}{te:GE}{en e0:En}{ws rs:List W}{xs:En} (hi:it en=some (e0,ws)) (hz:ws.length<=1000) (hl:rs.length=ws.length) (hn:zbu cap=true) (hk:(capKeep cap).contains 1=false) (hx:zen cap e0=none::none::xs) (hb:∀v0 v1,za2 cap e0 (v0::v1::xs)=e0)
  (ht:∀(i:Nat) v0 w r,ws[i]?=some w->rs[i]?=some r->∃u f,te (v0::some (w,false)::xs)=some (v0::u::xs,(r,f))) :
  zd9 cap (.nm 1) it gYes te en=some (e0,(.lst rs,true)):=by
 have s9:(1000:Nat)<=sizeLine:=by decide
 obtain ⟨ce',out,hc,hp⟩:=zeq (cap:=cap) (T:=.nm 1) (tc:=gYes) (te:=te) (fun i c dn=>(∃v0 v1,c=v0::v1::xs)/\dn=rs.take i) hi hn (by omega) ⟨⟨_,_,hx⟩,rfl⟩
  (fun i w c dn hw hp=>by
   obtain ⟨⟨v0,v1,rfl⟩,rfl⟩:=hp;have lt:i < ws.length:=(List.getElem?_eq_some_iff.mp hw).1;have hr:rs[i]?=some rs[i]:=List.getElem?_eq_getElem (by omega);obtain ⟨u,f,h⟩:=ht i v0 w _ hw hr;refine ⟨v0::some (w,false)::xs,?_,.inl ⟨_,_,_,rfl,h,⟨_,_,rfl⟩,?_⟩⟩
   ·show (if (capKeep cap).contains 1 || !decide (1 < (v0 :: v1 :: xs).length) then none else _) = _;rw [hk,decide_eq_true (by rw [List.length_cons,List.length_cons];omega)]
    rfl
   ·show rs.take i ++ [rs[i]] = rs.take (i + 1);rw [List.take_succ,hr];rfl)
 obtain ⟨⟨v0,v1,rfl⟩,rfl⟩:=hp;rw [hb,<-hl,List.take_length] at hc;exact hc
theorem zd0 {T:List Fd}{bn:List Str}{d:Nat}{x:Str}{t:Fd}{g:GS} (h:T.find? (·.nm == x)=some t) (hb:zbd T bn (sem T bn (d+2)) (d+2) t=some g):sem T bn (d+3) x=zao t.m t.N.length g:=by
 show (match T.find? (·.nm == x) with | some t=>fnAt T bn (sem T bn (d+2)) (d+2) t | none=>fun _=>none)=_;rw [h];show fnAt T bn (sem T bn (d+2)) (d+2) t=_;unfold fnAt;rw [hb]
noncomputable def evA:=And.intro @oI_e ( And.intro @z15 ( And.intro @zqa ( And.intro @zsj ( And.intro @zr5 ( And.intro @zrx ( And.intro @zsg ( And.intro @z3n ( And.intro @z0r ( And.intro @z3c ( And.intro @z4r ( And.intro @z4a ( And.intro @z3d ( And.intro @z3x ( And.intro @z3z ( And.intro @z3s ( And.intro @z3k ( And.intro @zzm ( And.intro @zui ( And.intro @zsq ( And.intro @zw4 ( And.intro @zzc ( And.intro @zv3 ( And.intro @zyh ( And.intro @z23 ( And.intro @z2j ( And.intro @z2i ( And.intro (fun Φ as en=>zcc [false] Φ as en rfl) ( And.intro (fun Φ as en=>zcc [false,false] Φ as en rfl) ( And.intro (fun Φ as en=>zcc [false,false,false] Φ as en rfl) ( And.intro (fun Φ as en=>zcc [false,false,false,false] Φ as en rfl) ( And.intro (fun Φ as en=>zcz [] Φ as en rfl) ( And.intro (fun Φ as en=>zcz [false] Φ as en rfl) ( And.intro (fun Φ as en=>zcz [false,false] Φ as en rfl) ( And.intro (fun Φ as en=>zcz [false,false,false] Φ as en rfl) ( And.intro @z35 ( And.intro @z4e ( And.intro @z3h ( And.intro @sizeLine_eq ( And.intro @zkw ( And.intro @zng ( And.intro @zj8 ( And.intro @zkt ( And.intro @zk8 ( And.intro @zla ( And.intro @zk3 ( And.intro @zjm ( And.intro @zj1 ( And.intro @zhz ( And.intro @zhm ( And.intro @zie ( And.intro @zij ( And.intro @zi8 ( And.intro @zk5 ( And.intro @znt ( And.intro @zkl ( And.intro @zku ( And.intro @zky ( And.intro @zj9 ( And.intro @zjt ( And.intro @zg6 ( And.intro @zh2 ( And.intro @zhb ( And.intro @zgf ( And.intro @zgk ( And.intro @zgz ( And.intro @zg5 ( And.intro @zh0 ( And.intro @zj0 ( And.intro @zh7 ( And.intro @zik ( And.intro @zig ( And.intro @ziu ( And.intro @zjh ( And.intro @zt5 ( And.intro @Option.bind_some.{0,0} ( And.intro @Option.bind_none.{0,0} ( And.intro @List.length_cons.{0} ( And.intro @List.length_nil.{0} ( And.intro @List.getElem?_cons_zero.{0} ( And.intro @List.getElem?_cons_succ.{0} ( And.intro @List.set_cons_zero.{0} ( And.intro @List.set_cons_succ.{0} ( And.intro @List.nil_append.{0} ( And.intro @List.cons_append.{0} ( And.intro @List.contains_nil.{0} ( And.intro @Bool.false_or ( And.intro @Bool.or_false ( And.intro @Bool.not_true ( And.intro @Bool.not_false ( And.intro @Nat.zero_add ( And.intro @Nat.lt_add_one ( And.intro @Nat.zero_lt_succ ( And.intro @decide_true ( And.intro @decide_false ( And.intro @decide_eq_true_eq ( And.intro @List.elem_nil.{0} ( And.intro @List.elem_cons.{0} ( And.intro @Bool.false_eq_true ( And.intro @Bool.true_eq_false ( And.intro @Bool.or_self ( And.intro @Bool.and_self ( And.intro @Bool.true_and ( And.intro @Bool.false_and ( And.intro @Bool.and_true ( And.intro @Bool.and_false ( And.intro @Bool.true_or ( And.intro @Bool.or_true ( And.intro @Int.toNat_natCast ( And.intro @gVar.eq_1 ( And.intro @zab.eq_1 ( And.intro @gC.eq_1 ( And.intro @gArg.eq_1 ( And.intro @gA0.eq_1 ( And.intro @gCns.eq_1 ( And.intro @gOp1.eq_1 ( And.intro @gOp2.eq_1 ( And.intro @gOpN.eq_1 ( And.intro @zai.eq_1 ( And.intro @gAnd.eq_1 ( And.intro @gOr.eq_1 ( And.intro @gNot.eq_1 ( And.intro @zfu.eq_1 ( And.intro @gOrT.eq_1 ( And.intro @zo0.eq_1 ( And.intro @gIf.eq_1 ( And.intro @zi5.eq_1 ( And.intro @za8.eq_1 ( And.intro @z0s.eq_1 ( And.intro @zbv.eq_1 ( And.intro @zfl.eq_1 ( And.intro @gSl.eq_1 ( And.intro @zem.eq_1 ( And.intro @zdm.eq_1 ( And.intro @z4m.eq_1 ( And.intro @gRev.eq_1 ( And.intro @zck.eq_1 ( And.intro @gBrk.eq_1 ( And.intro @gCnt.eq_1 ( And.intro @gSeq.eq_1 ( And.intro @gRet.eq_1 ( And.intro @z4p.eq_1 ( And.intro @gIfS.eq_1 ( And.intro @zff.eq_1 ( And.intro @gSet.eq_1 ( And.intro @gAsg.eq_1 ( And.intro @gPar.eq_1 ( And.intro @za0.eq_1 ( And.intro @gApp.eq_1 ( And.intro @gExt.eq_1 ( And.intro @gAug.eq_1 ( And.intro @gYes.eq_1 ( And.intro @zc7.eq_1 ( And.intro @gZip.eq_1 ( And.intro @zjp.eq_1 ( And.intro @zao.eq_1 ( And.intro @z4i.eq_1 (@z38.eq_1)))))))))))))))))))))))))))))))))))))))))))))))))))))))))))))))))))))))))))))))))))))))))))))))))))))))))))))))))))))))))))))))))))))))))))))))))))))))))))))
end L2
local macro_rules | `(tactic| simp! [$xs,*])=>`(tactic| simp only [L2.evA,L2.tgSet,L2.keyW,L2.oNeg,L2.oLen,L2.setAll,List.replicate,List.contains,eq_self,Nat.reduceAdd,Nat.reduceSub,Nat.reduceLT,Nat.reduceLeDiff,reduceIte,reduceCtorEq,Nat.reduceEqDiff,Nat.reduceBEq,↓reduceIte,Int.reduceEq,Int.reduceLE,Int.reduceLT,Int.reduceAdd,Int.reduceSub,Int.reduceMul,Int.reduceNeg,$xs,*])
namespace L2
open PySem PySem.Spec PyProof.Rows
noncomputable def tmW (t:List Nat):W:=.tup (t.map fun l=>.int (l:Nat))
end L2
namespace L2
open PySem PySem.Spec PyProof.Rows
theorem zh8 {a:GA}{en e1:En}{n:Nat} (h:a en=some (e1,.inl (.int (n:Nat)))) (hn:n<=1000000):zdm (gCns a gA0) en=some (e1,rngW 0 n):=by
 have r:zc8 (n:Int)=true:=by
  unfold zc8;rw [decide_eq_true (by omega),decide_eq_true (by omega)];rfl
 have h2:gCns a gA0 en=some (e1,[.inl (.int (n:Nat))]):=by unfold gCns;rw [h];rfl
 have:=zv7 h2 rfl r;rw [Int.toNat_natCast] at this;exact this
theorem pow1 {l:Nat} (h:l<=100):cPow 1 (l:Int)=true:=by
 unfold cPow;rw [decide_eq_true (by omega),decide_eq_true (by omega)];rfl
theorem zan (l:Nat):(1:Int) * 2 ^ l=((2 ^ l:Nat):Int):=by rw [Int.one_mul];norm_cast
theorem ztv (l:Nat):(((2 ^ l:Nat):Int)).natAbs.log2=l:=by
 rw [Int.natAbs_natCast];exact Nat.log2_two_pow
theorem divP {p:Int}{l:Nat} (h:l<=100):cDiv p ((2 ^ l:Nat):Int)=true:=by
 unfold cDiv;have:0 < 2 ^ l:=Nat.pow_pos (by decide);rw [decide_eq_true (by omega),decide_eq_true (by rw [ztv];omega)];rfl
theorem zhk {m:Nat} (h:m<=6):2 ^ m<=64:=Nat.pow_le_pow_right (by decide) h
end L2
namespace L2
open PySem PySem.Spec PyProof.Rows
end L2
namespace L2
open PySem PySem.Spec PyProof.Rows
theorem zlq {c:Nat}:∀{ts:List Str},(∀t∈ts,t.length<=c)->piled ts<=(c+2) * ts.length
  | [],_=>by rw [piled_nil];omega
  | t::ts,h=>by
    have h1:=h t (List.mem_cons_self ..);have h2:=zlq (c:=c) (ts:=ts) fun x hx=>h x (List.mem_cons_of_mem _ hx);rw [piled_cons,List.length_cons,Nat.mul_succ];omega
theorem zf4 {c:Nat}{ts:List Str} (h:∀t∈ts,t.length<=c):(tupleText ts).length<=(c+2) * ts.length+3:=by
 have hp:=zlq h;have hj:(Str.join ", " ts).length<=piled ts:=by
  cases ts with
  | nil=>exact Nat.zero_le _
  | cons x xs=>have:=join_length_add (x::xs) (by simp);omega
 unfold tupleText;rw [Str.length_append,Str.length_append];have a:(Str.ofString "(").length=1:=by decide
 have b:(Str.ofString (if (ts.length == 1)=true then ",)" else ")")).length<=2:=by
  split
  ·decide
  ·decide
 omega
theorem zcp {α:Type} (f:α->PyData):∀l:List α,PyData.shownAll (l.map f)=l.map fun x=>(f x).shown
 | []=>rfl
 | x::l=>by rw [List.map_cons,PyData.shownAll,zcp f l];rfl
theorem showAll_map {α:Type} (f:α->PyData):∀l:List α,(∀x∈l,(f x).showable=true)->PyData.showableAll (l.map f)=true
 | [],_=>rfl
 | x::l,h=>by rw [List.map_cons,PyData.showableAll,h x (List.mem_cons_self ..),showAll_map f l fun y hy=>h y (List.mem_cons_of_mem _ hy)];rfl
theorem dictAll_map {α:Type} (f:α->PyData):∀l:List α,(∀x∈l,(f x).hasDict=false)->PyData.hasDictAll (l.map f)=false
 | [],_=>rfl
 | x::l,h=>by rw [List.map_cons,PyData.hasDictAll,h x (List.mem_cons_self ..),dictAll_map f l fun y hy=>h y (List.mem_cons_of_mem _ hy)];rfl
theorem depAll_map {α:Type}{c:Nat} (f:α->PyData):∀l:List α,(∀x∈l,(f x).depth<=c)->PyData.depthAll (l.map f)<=c
  | [],_=>Nat.zero_le _
  | x::l,h=>by
    rw [List.map_cons,PyData.depthAll];have:=h x (List.mem_cons_self ..);have:=depAll_map f l fun y hy=>h y (List.mem_cons_of_mem _ hy);omega
theorem layAll_map {α:Type} (f:α->PyData):∀l:List α,(∀x∈l,(f x).canLay0=true)->PyData.canLayAll0 (l.map f)=true
 | [],_=>rfl
 | x::l,h=>by rw [List.map_cons,PyData.canLayAll0,h x (List.mem_cons_self ..),layAll_map f l fun y hy=>h y (List.mem_cons_of_mem _ hy)];rfl
theorem zq7 {α:Type} (f:α->W) (g:α->PyData) (h:∀x,dW (f x)=some (g x)):∀l:List α,dWs (l.map f)=some (l.map g)
 | []=>rfl
 | x::l=>by rw [List.map_cons,dWs,h x,zq7 f g h l];rfl
noncomputable def zgh (n:Int):Prop:=n.natAbs.log2 < 1920
noncomputable def ndI (ns:List Int):PyData:=.tuple (ns.map .int)
theorem zwi (ns:List Int):dW (.tup (ns.map W.int))=some (ndI ns):=by
 rw [dW,zq7 W.int .int (fun _=>by rw [dW]) ns];rfl
theorem z1v {ns:List Int} (h:∀n∈ns,zgh n):(ndI ns).showable=true/\(ndI ns).hasDict=false/\(ndI ns).depth<=1/\(ndI ns).canLay0=true/\(ndI ns).shown.length<=1923 * ns.length+3:=by
 refine ⟨?_,?_,?_,?_,?_⟩
 ·unfold ndI;rw [PyData.showable];exact showAll_map _ _ fun n hn=>by rw [PyData.showable];exact decide_eq_true (h n hn)
 ·unfold ndI;rw [PyData.hasDict];exact dictAll_map _ _ fun n hn=>by rw [PyData.hasDict]
 ·unfold ndI; rw [PyData.depth]; have := depAll_map (c := 0) PyData.int ns fun n hn => by rw [PyData.depth]; exact Nat.le_refl _
  omega
 ·unfold ndI;rw [PyData.canLay0];exact layAll_map _ _ fun n hn=>by rw [PyData.canLay0]
 ·unfold ndI;rw [PyData.shown,zcp];have:=zf4 (c:=1921) (ts:=ns.map fun x=>(PyData.int x).shown) fun t ht=>by
   obtain ⟨n,hn,rfl⟩:=List.mem_map.mp ht;rw [PyData.shown];exact int_text_len_1921 (h n hn)
  rw [List.length_map] at this;exact this
theorem zmf {n:Int}{k:Nat} (h:n.natAbs < 2 ^ k) (hk:k<=1919):zgh n:=by
 unfold zgh;by_cases z:n.natAbs=0
 ·rw [z];decide
 ·have := (Nat.log2_lt z).mpr h;omega
end L2
namespace L2
open PySem PySem.Spec PyProof.Rows
theorem and1 {a:Int} (h:0<=a):Builtin.bitAnd a 1=a % 2:=by
 have b:Bit (a % 2):=by unfold Bit;omega
 have s:=zep (a:=a / 2) (b:=0) (by omega) (Int.le_refl 0) b (show Bit 1 from .inr rfl);rw [bitAnd_zero] at s;have e:(2 * 0+1:Int)=1:=rfl;have e2:2 * (a / 2)+a % 2=a:=by omega
 rw [e,e2] at s;rw [s];omega
end L2
namespace L2
open PySem PySem.Spec PyProof.Rows
theorem getD_bit {xs:List Int} (h:Bits xs) (q:Nat):Bit (xs.getD q 0):=by
 rw [List.getD_eq_getElem?_getD];cases e:xs[q]? with
 | none=>exact .inl rfl
 | some x=>exact h x (List.mem_of_getElem? e)
end L2
namespace L2
open PySem PySem.Spec PyProof.Rows
theorem seq_e {a b:GS}{en e1:En}{r:Option (En × Fl)} (h1:a en=some (e1,.nx)) (h2:b e1=r):gSeq a b en=r:=(seq_nx h1).trans h2
end L2
namespace L2
open PySem PySem.Spec PyProof.Rows
theorem zip_tab (f g:Nat->Int):∀L:List Nat,List.zipWith (· * ·) (L.map f) (L.map g)=L.map fun p=>f p * g p
 | []=>rfl
 | a::l=>by rw [List.map_cons,List.map_cons,List.zipWith_cons_cons,zip_tab f g l,List.map_cons]
end L2
namespace L2
open PySem PySem.Spec PyProof.Rows
end L2
namespace L2
open PySem PySem.Spec PyProof.Rows
noncomputable def zjs (Ψ:Str->Fn):GS:=(gSet [] 3 (zae [false,false] (Ψ "plus") (gCns (gArg (gVar 3)) (gCns (gArg (gOp2 (oI cPow fun i j=>.int (i * 2 ^ j.toNat)) (zab 5) (gArg (gOp2 (oI cPow fun i j=>.int (i * 2 ^ j.toNat)) (zab 4) (zab 1))))) gA0))))
noncomputable def zq1 (Ψ:Str->Fn):GS:=gFor [] (.tp [4,5]) (zjp (gVar 2)) (zjs Ψ)
noncomputable def zqm (Ψ:Str->Fn):GS:=(gSeq (gSet [] 3 (gC (.int 0))) (gSeq (zq1 Ψ) (gRet (zae [false,false,false] (Ψ "outer_steps") (gCns (gArg (gVar 0)) (gCns (gArg (gVar 3)) (gCns (gArg (gVar 1)) gA0)))))))
noncomputable def zb7 (z:Nat) (g:Nat->Nat->Int) (p:Nat):Int:=g (p / z) (p % z)
theorem z0y {z a c:Nat}{g:Nat->Nat->Int} (h:c < z):zb7 z g (a * z+c)=g a c:=by
 unfold zb7;rw [Nat.mul_comm,Nat.mul_add_div (by omega),Nat.div_eq_of_lt h,Nat.add_zero,Nat.mul_add_mod,Nat.mod_eq_of_lt h]
noncomputable def z3q (Φ:Fn):Prop:=∀(m r:Int) (g:Nat->Nat->Int),0<=r->r<=m->m<=6->(∀s c,Bit (g s c))->Φ [.int m,.int r,.tup ((tab (2 ^ (m - r).toNat) fun s=>zaa (tab (2 ^ r.toNat) (g s))).map W.int)]=some ([.int m,.int r,.tup ((tab (2 ^ (m - r).toNat) fun s=>zaa (tab (2 ^ r.toNat) (g s))).map W.int)],(.int (zaa (tab (2 ^ m.toNat) (outF r.toNat (m - r).toNat (zb7 (2 ^ r.toNat) g)))),false))
theorem put_ok {Ψ:Str->Fn} (hO:zv9 (Ψ "outer_steps")) (hX:z4b (Ψ "plus")):z3q (zao [false,false,false] 6 (zqm Ψ)):=fun m r g r0 rm m6 hg=>by
 have q6:2 ^ (m - r).toNat<=2 ^ 6:=Nat.pow_le_pow_right (by decide) (by omega);have z6:(2 ^ r.toNat)<=2 ^ 6:=Nat.pow_le_pow_right (by decide) (by omega);have NN:2 ^ (m - r).toNat * (2 ^ r.toNat)=(2 ^ m.toNat):=by rw [<-Nat.pow_add];congr 1;omega
 have n6:(2 ^ m.toNat)<=2 ^ 6:=Nat.pow_le_pow_right (by decide) (by omega);have fb:∀p,Bit (zb7 (2 ^ r.toNat) g p):=fun p=>hg _ _;have le:(zc9 ((tab (2 ^ (m - r).toNat) fun s=>zaa (tab (2 ^ r.toNat) (g s))).map W.int) 0).length=2 ^ (m - r).toNat:=by rw [za5,List.length_map,zaq]
 have z0:(zaa (tab (0 * (2 ^ r.toNat)) (zb7 (2 ^ r.toNat) g)))=0:=by rw [Nat.zero_mul];rfl
 obtain ⟨en',hl,hp⟩:=zdc (mp:=[]) (T:=(.tp [4,5])) (it:=(zjp (gVar 2))) (body:=(zjs Ψ))
  (fun j e=>∃v4 v5,e=[some (.int m,false),some (.int r,false),some (.tup ((tab (2 ^ (m - r).toNat) fun s=>zaa (tab (2 ^ r.toNat) (g s))).map W.int),false),some (.int (zaa (tab (j * (2 ^ r.toNat)) (zb7 (2 ^ r.toNat) g))),false),v4,v5]) (en:=[some (.int m,false),some (.int r,false),some (.tup ((tab (2 ^ (m - r).toNat) fun s=>zaa (tab (2 ^ r.toNat) (g s))).map W.int),false),some (.int 0,false),none,none]) (e0:=[some (.int m,false),some (.int r,false),some (.tup ((tab (2 ^ (m - r).toNat) fun s=>zaa (tab (2 ^ r.toNat) (g s))).map W.int),false),some (.int 0,false),none,none]) (ws:=zc9 ((tab (2 ^ (m - r).toNat) fun s=>zaa (tab (2 ^ r.toNat) (g s))).map W.int) 0) rfl ⟨none,none,by rw [z0]⟩
  (by
   rintro j w e hw ⟨v4,v5,rfl⟩;obtain ⟨hj,rfl⟩:=zmn hw;have lj:j < 2 ^ (m - r).toNat:=by rw [zaq] at hj;exact hj
   have ex:(tab (2 ^ (m - r).toNat) fun s=>zaa (tab (2 ^ r.toNat) (g s)))[j]=zaa (tab (2 ^ r.toNat) (g j)):=by
    have:=zdx (f:=fun s=>zaa (tab (2 ^ r.toNat) (g s))) lj;rw [List.getElem?_eq_getElem hj] at this;exact sI this
   rw [ex];have jz:j * (2 ^ r.toNat)+(2 ^ r.toNat)<=(2 ^ m.toNat):=by
    have:(j+1) * (2 ^ r.toNat)<=2 ^ (m - r).toNat * (2 ^ r.toNat):=Nat.mul_le_mul_right _ lj;rw [NN,Nat.add_mul,Nat.one_mul] at this;exact this
   have ic:(j:Int) * 2 ^ r.toNat=((j * (2 ^ r.toNat):Nat):Int):=by rw [Int.natCast_mul,Int.natCast_pow]<;>rfl
   have jl:((j * (2 ^ r.toNat):Nat):Int)<=1000000:=Int.le_trans (Int.ofNat_le.mpr (show j * (2 ^ r.toNat)<=64 from Nat.le_trans (Nat.le_trans (Nat.le_add_right _ _) jz) n6)) (by decide);have wb:=zce (zat (n:=(2 ^ r.toNat)) fun c _=>hg j c);rw [zaq] at wb;have wl:zaa (tab (2 ^ r.toNat) (g j)) < 2 ^ 64:=Int.lt_of_lt_of_le wb.2 (by
    have:=Nat.pow_le_pow_right (n:=2) (by decide) (show (2 ^ r.toNat)<=64 from z6)
    exact_mod_cast this)
   have jn:=zir (l:=tab (j * (2 ^ r.toNat)) (zb7 (2 ^ r.toNat) g)) (h:=tab (2 ^ r.toNat) (g j)) (zat fun p _=>fb p) (zat fun c _=>hg j c);rw [zaq] at jn;have et:tab (j * (2 ^ r.toNat)) (zb7 (2 ^ r.toNat) g)++tab (2 ^ r.toNat) (g j)=tab ((j+1) * (2 ^ r.toNat)) (zb7 (2 ^ r.toNat) g):=by
    rw [Nat.add_mul,Nat.one_mul,zj7];congr 1;exact zb2 fun c hc=>(z0y hc).symm
   rw [et] at jn;have x:=hX (zaa (tab (j * (2 ^ r.toNat)) (zb7 (2 ^ r.toNat) g))) (zaa (tab (2 ^ r.toNat) (g j)) * 2 ^ (j * (2 ^ r.toNat)));rw [jn] at x;have sh:gOp2 (oI cPow fun i j=>.int (i * 2 ^ j.toNat)) (zab 5) (gArg (gOp2 (oI cPow fun i j=>.int (i * 2 ^ j.toNat)) (zab 4) (zab 1))) [some (.int m,false),some (.int r,false),some (.tup ((tab (2 ^ (m - r).toNat) fun s=>zaa (tab (2 ^ r.toNat) (g s))).map W.int),false),some (.int (zaa (tab (j * (2 ^ r.toNat)) (zb7 (2 ^ r.toNat) g))),false),some (.int (j:Nat),false),some (.int (zaa (tab (2 ^ r.toNat) (g j))),false)]=some ([some (.int m,false),some (.int r,false),some (.tup ((tab (2 ^ (m - r).toNat) fun s=>zaa (tab (2 ^ r.toNat) (g s))).map W.int),false),some (.int (zaa (tab (j * (2 ^ r.toNat)) (zb7 (2 ^ r.toNat) g))),false),some (.int (j:Nat),false),some (.int (zaa (tab (2 ^ r.toNat) (g j))),false)],(.int (zaa (tab (2 ^ r.toNat) (g j)) * 2 ^ (j * (2 ^ r.toNat))),false)):=by
    have e:=op2_0 (o:=oI cPow fun i j=>.int (i * 2 ^ j.toNat)) (a:=zab 5) (en:=[some (.int m,false),some (.int r,false),some (.tup ((tab (2 ^ (m - r).toNat) fun s=>zaa (tab (2 ^ r.toNat) (g s))).map W.int),false),some (.int (zaa (tab (j * (2 ^ r.toNat)) (zb7 (2 ^ r.toNat) g))),false),some (.int (j:Nat),false),some (.int (zaa (tab (2 ^ r.toNat) (g j))),false)]) (x:=.inl (.int (zaa (tab (2 ^ r.toNat) (g j))))) rfl (arg_0 (r:=(.int ((j:Int) * 2 ^ r.toNat),false)) (op2_0 (o:=oI cPow fun i j=>.int (i * 2 ^ j.toNat)) (a:=zab 4) (b:=zab 1) (x:=.inl (.int (j:Nat))) (y:=.inl (.int r)) rfl rfl rfl rfl (oI_t (zrs r0 (by omega) (by omega))))) rfl rfl (oI_t (zrs (by rw [ic];exact Int.natCast_nonneg _) (by rw [ic];exact jl) (by omega)));rw [zzs ic] at e;exact e
   exact ⟨[some (.int m,false),some (.int r,false),some (.tup ((tab (2 ^ (m - r).toNat) fun s=>zaa (tab (2 ^ r.toNat) (g s))).map W.int),false),some (.int (zaa (tab (j * (2 ^ r.toNat)) (zb7 (2 ^ r.toNat) g))),false),some (.int (j:Nat),false),some (.int (zaa (tab (2 ^ r.toNat) (g j))),false)],[some (.int m,false),some (.int r,false),some (.tup ((tab (2 ^ (m - r).toNat) fun s=>zaa (tab (2 ^ r.toNat) (g s))).map W.int),false),some (.int (zaa (tab ((j+1) * (2 ^ r.toNat)) (zb7 (2 ^ r.toNat) g))),false),some (.int (j:Nat),false),some (.int (zaa (tab (2 ^ r.toNat) (g j))),false)],rfl,.inl (set_0 (zvl (ws:=[.int (zaa (tab (j * (2 ^ r.toNat)) (zb7 (2 ^ r.toNat) g))),.int (zaa (tab (2 ^ r.toNat) (g j)) * 2 ^ (j * (2 ^ r.toNat)))]) (z1y (x:=.inl (.int (zaa (tab (j * (2 ^ r.toNat)) (zb7 (2 ^ r.toNat) g))))) rfl (z1y (arg_0 sh) rfl)) rfl x rfl) rfl),_,_,rfl⟩)
 obtain ⟨v4,v5,rfl⟩:=hp;rw [le,NN] at hl;have c:=hO m r (zb7 (2 ^ r.toNat) g) r0 rm m6 fb;exact zbm rfl ((seq_nx (e1:=[some (.int m,false),some (.int r,false),some (.tup ((tab (2 ^ (m - r).toNat) fun s=>zaa (tab (2 ^ r.toNat) (g s))).map W.int),false),some (.int 0,false),none,none]) rfl).trans ((seq_nx hl).trans (z20 (zvl (ws:=[.int m,.int (zaa (tab (2 ^ m.toNat) (zb7 (2 ^ r.toNat) g))),.int r]) rfl rfl c rfl)))) rfl
end L2
namespace L2
open PySem PySem.Spec PyProof.Rows
end L2
namespace L2
open PySem PySem.Spec PyProof.Rows
theorem z31 (ns:List Int):oSum [.lst (ns.map W.int)]=some (.int ns.sum,false):=by
 show (zcj (ns.map W.int)).bind _=_;rw [zd3];rfl
theorem z1m (n:Nat):W.tup (rngW 0 n)=tmW (List.range n):=by
 unfold rngW tmW;exact congrArg W.tup (List.map_congr_left fun i _=>by rw [Int.zero_add])
theorem z0l {a:GA}{en e1:En}{n:Nat} (h:a en=some (e1,.inl (.int (n:Nat)))) (hn:n<=1000000):znc (gCns a gA0) en=some (e1,(tmW (List.range n),false)):=by
 have r:lrOk (n:Int)=true:=by
  unfold lrOk zc8;rw [decide_eq_true (by omega),decide_eq_true (by omega),decide_eq_true (by omega)];rfl
 have h2:gCns a gA0 en=some (e1,[.inl (.int (n:Nat))]):=by unfold gCns;rw [h];rfl
 have:=zy8 h2 rfl r;rw [Int.toNat_natCast,z1m] at this;exact this
end L2
namespace L2
open PySem PySem.Spec PyProof.Rows
end L2
namespace L2
open PySem PySem.Spec PyProof.Rows
section
variable {en:En}{P Q:W->Prop}
end
end L2
set_option maxHeartbeats 2000000
namespace L2
open PySem PySem.Spec PyProof.Rows
section
variable {κ:Type} [DecidableEq κ] {f:κ->DKey}
end
end L2
namespace L2
open PySem PySem.Spec PyProof.Rows
noncomputable def tp (w:Nat):Nat:=w.log2
end L2
namespace My
open PySem PySem.Spec PyProof.Rows L2
noncomputable def top (i:Nat):Stmt:=PySem.Challenge.pw_yesnowords_k73_heard_words_written_and_r.main.body.getD i (.Pass ⟨0,0,0,0⟩)
noncomputable def zmi:Fd:=⟨"says",["word","place"],["word","place"],[false,false],top 1⟩
noncomputable def zds:Fd:=⟨"word_at",["some"],["some","word","place"],[false],top 2⟩
noncomputable def zbp:Fd:=⟨"heard_text",["many","word","lost"],["many","word","lost"],[false,false,false],top 4⟩
noncomputable def zcd:Fd:=⟨"places_of",["sign","text"],["sign","text"],[false,false],top 9⟩
noncomputable def zc3:Fd:=⟨"is_signs",["thing","size","signs"],["thing","size","signs"],[false,false,false],top 10⟩
noncomputable def zbr:Fd:=⟨"read_heard",["many","text"],["many","text"],[false,false],top 11⟩
noncomputable def zb5:Fd:=⟨"_law_hand",["_law_script"],["_law_script","_law_state","_law_weighs","_law_cell","_law_k","_law_one"],[false],top 13⟩
noncomputable def zcg:Fd:=⟨"_law_take",["_law_state","_law_count"],["_law_state","_law_count","_law_digit","_law_mixed"],[true,false],top 14⟩
noncomputable def zb3:Fd:=⟨"_law_bits",["_law_state","_law_count"],["_law_state","_law_count","_law_way","_law_found","_law_k","_law_one"],[true,false],top 15⟩
noncomputable def zcf:Fd:=⟨"_law_word",["_law_bits_here"],["_law_bits_here","_law_found","_law_bit"],[false],top 16⟩
noncomputable def zb6:Fd:=⟨"_law_lost",["_law_state","_law_many"],["_law_state","_law_many","_law_way","_law_odds"],[true,false],top 17⟩
noncomputable def zas:Fd:=⟨"_law_heard_text",["_law_many","_law_word_here","_law_lost_here"],["_law_many","_law_word_here","_law_lost_here"],[false,false,false],top 18⟩
noncomputable def zj3:Fd:=⟨"law",["_law_script"],["_law_script","_law_state","_law_k","_law_many","_law_word_here","_law_lost_here","_law_gone","_law_text","_law_due","_law_told"],[false],top 19⟩
noncomputable def T:List Fd:=[zmi,zds,zbp,zcd,zc3,zbr,zb5,zcg,zb3,zcf,zb6,zas,zj3]
noncomputable def bn:List Str:=["abs","all","enumerate","int","isinstance","len","max","min","range","repr","reversed","set","sorted","str","sum","t _law_heard_text","t _law_text","t heard_text","t signs","t text","t thing","tuple"]
noncomputable def zu7 (Ψ:Str->Fn):GS:=(gRet (gOp2 (oI yes2 fun i j=>.int (Builtin.bitAnd i j)) (gArg (gOp2 (oI (fun _ j=>decide (0<=j)) fun i j=>.int (i / 2 ^ j.toNat)) (zab 0) (zab 1))) (gArg (gC (.int 1)))))
theorem z2g (Ψ:Str->Fn) (d:Nat):zbd T bn Ψ (d+2) zmi=some (zu7 Ψ):=by kernel_rfl
theorem z0b:T.find? (·.nm == ("says" : Str))=some zmi:=by kernel_rfl
theorem zzv (d:Nat):sem T bn (d+3) "says" = zao [false,false] 2 (zu7 (sem T bn (d+2))):=zd0 z0b (z2g _ d)
noncomputable def zmo (Ψ:Str->Fn):GS:=(gAug [] (oI yes2 fun i j=>.int (Builtin.bitOr i j)) 1 (gArg (gOp2 (oI cPow fun i j=>.int (i * 2 ^ j.toNat)) (gArg (gC (.int 1))) (zab 2))))
noncomputable def zm7 (Ψ:Str->Fn):GS:=gFor [] (.nm 2) (zem (gVar 0)) (zmo Ψ)
noncomputable def zi4 (Ψ:Str->Fn):GS:=(gSeq (gSet [] 1 (gC (.int 0))) (gSeq (zm7 Ψ) (zc7 [] 1)))
theorem zqz (Ψ:Str->Fn) (d:Nat):zbd T bn Ψ (d+2) zds=some (zi4 Ψ):=by kernel_rfl
theorem zom:T.find? (·.nm == ("word_at" : Str))=some zds:=by kernel_rfl
theorem zrc (d:Nat):sem T bn (d+3) "word_at" = zao [false] 3 (zi4 (sem T bn (d+2))):=zd0 zom (zqz _ d)
noncomputable def zb0 (Ψ:Str->Fn):GE:=zd9 [none,none,some 2,some 1] (.nm 1) (zdm (gCns (gArg (gOp2 (oI cPow fun i j=>.int (i * 2 ^ j.toNat)) (gArg (gC (.int 1))) (zab 0))) gA0)) gYes (gIf (zai (gOp2 (oIn false) (zab 1) (zab 2))) (gC (.str "?")) (gOpN zs4 (gCns (gArg (zae [false,false] (Ψ "says") (gCns (gArg (gVar 3)) (gCns (gArg (gVar 1)) gA0)))) gA0)))
noncomputable def zbn (Ψ:Str->Fn):GS:=(gRet (zny "" (zb0 Ψ)))
theorem zio (Ψ:Str->Fn) (d:Nat):zbd T bn Ψ (d+2) zbp=some (zbn Ψ):=by kernel_rfl
theorem zil:T.find? (·.nm == ("heard_text" : Str))=some zbp:=by kernel_rfl
theorem zhw (d:Nat):sem T bn (d+3) "heard_text" = zao [false,false,false] 3 (zbn (sem T bn (d+2))):=zd0 zil (zio _ d)
noncomputable def zcl (Ψ:Str->Fn):GE:=zd9 [none,none,none,some 0] (.tp [1,2]) (zpk (gVar 1)) (zai (gOp2 oEq (zab 2) (zab 3))) (gVar 1)
noncomputable def zb9 (Ψ:Str->Fn):GS:=(gRet (gOpN zec (gCns (gArg (zcl Ψ)) gA0)))
theorem zkd (Ψ:Str->Fn) (d:Nat):zbd T bn Ψ (d+2) zcd=some (zb9 Ψ):=by kernel_rfl
theorem zkj:T.find? (·.nm == ("places_of" : Str))=some zcd:=by kernel_rfl
theorem zk6 (d:Nat):sem T bn (d+3) "places_of" = zao [false,false] 2 (zb9 (sem T bn (d+2))):=zd0 zkj (zkd _ d)
noncomputable def zdb (Ψ:Str->Fn):GE:=zd9 [none,none,some 2] (.nm 1) (zwm (gVar 0)) gYes (gOp2 (oInS false) (zab 1) (zab 2))
noncomputable def zcy (Ψ:Str->Fn):GS:=(gRet (gAnd (gOp1 (oIsi .str) (zab 0)) (gAnd (gOp2 oEq (gArg (gOpN zn6 (gCns (zab 0) gA0))) (zab 1)) (gOpN (oBl fun bs=>bs.all id) (gCns (gArg (zdb Ψ)) gA0)))))
theorem zm8 (Ψ:Str->Fn) (d:Nat):zbd T bn Ψ (d+2) zc3=some (zcy Ψ):=by kernel_rfl
theorem zm2:T.find? (·.nm == ("is_signs" : Str))=some zc3:=by kernel_rfl
theorem znx (d:Nat):sem T bn (d+3) "is_signs" = zao [false,false,false] 3 (zcy (sem T bn (d+2))):=zd0 zm2 (zm8 _ d)
noncomputable def zbs (Ψ:Str->Fn):GS:=(gSeq (gIfS (zo0 (zai (zae [false,false,false] (Ψ "is_signs") (gCns (gArg (gVar 1)) (gCns (gArg (gOp2 (oI cPow fun i j=>.int (i * 2 ^ j.toNat)) (gArg (gC (.int 1))) (zab 0))) (gCns (gArg (gC (.str "01?"))) gA0)))))) zlc zck) (gRet (zi5 (gCns (gArg (zae [false] (Ψ "word_at") (gCns (gArg (zae [false,false] (Ψ "places_of") (gCns (gArg (gC (.str "1"))) (gCns (gArg (gVar 1)) gA0)))) gA0))) (gCns (gArg (zae [false,false] (Ψ "places_of") (gCns (gArg (gC (.str "?"))) (gCns (gArg (gVar 1)) gA0)))) gA0)))))
theorem zis (Ψ:Str->Fn) (d:Nat):zbd T bn Ψ (d+2) zbr=some (zbs Ψ):=by kernel_rfl
theorem zhl:T.find? (·.nm == ("read_heard" : Str))=some zbr:=by kernel_rfl
theorem zjg (d:Nat):sem T bn (d+3) "read_heard" = zao [false,false] 2 (zbs (sem T bn (d+2))):=zd0 zhl (zis _ d)
noncomputable def zi9 (Ψ:Str->Fn):GS:=(gSeq (za0 1 (gC (.int 0)) (gOp2 oAdd (gArg (gOp2 oIx (zab 1) (gArg (gC (.int 0))))) (gArg (gOp2 oMult (gArg (gOp2 (oI (fun _ j=>decide (0 < j)) fun i j=>.int (i % j)) (gArg (gOpN oAbs (gCns (zab 3) gA0))) (gArg (gOp2 (oI cPow fun i j=>.int (i ^ j.toNat)) (gArg (gC (.int 10))) (gArg (gC (.int 60))))))) (zab 2))))) (gSet [] 2 (gOp2 oMult (zab 2) (gArg (gOp2 (oI cPow fun i j=>.int (i ^ j.toNat)) (gArg (gC (.int 10))) (gArg (gC (.int 60))))))))
noncomputable def zih (Ψ:Str->Fn):GS:=gFor [] (.nm 3) (zem (gSl (zab 0) zbv (zfl (gC (.int 63))))) (zi9 Ψ)
noncomputable def ziw (Ψ:Str->Fn):GS:=(gSeq (gSet [] 5 (gOp2 oAdd (gArg (gOp2 oAdd (gArg (gOp2 (oI (fun _ j=>decide (0 < j)) fun i j=>.int (i % j)) (zab 3) (gArg (gC (.int 2305843009213693951))))) (gArg (gOp2 oMult (gArg (gC (.int 7919))) (zab 4))))) (gArg (gC (.int 3))))) (za0 1 (gC (.int 1)) (gOp2 (oI (fun _ j=>decide (0 < j)) fun i j=>.int (i % j)) (gArg (gOp2 oAdd (gArg (gOp2 oMult (gArg (gOp2 oIx (zab 1) (gArg (gC (.int 1))))) (gArg (gC (.int 48271))))) (zab 5))) (gArg (gC (.int 2305843009213693951))))))
noncomputable def zi1 (Ψ:Str->Fn):GS:=gFor [] (.tp [4,3]) (zjp (gSl (zab 0) zbv (zfl (gC (.int 63))))) (ziw Ψ)
noncomputable def zfe (Ψ:Str->Fn):GS:=(gSeq (gSet [] 1 (za8 (gCns (gArg (gC (.int 0))) (gCns (gArg (gC (.int 0))) (gCns (gArg (gC (.int 0))) gA0))))) (gSeq (gIfS (zfu (zai (gOp2 (oI yes2 fun i j=>.bl (decide (j < i))) (gArg (gOpN oLen (gCns (zab 0) gA0))) (gArg (gC (.int 0))))) (zai (gOp2 (oI yes2 fun i j=>.bl (decide (j<=i))) (gArg (gOp2 oIx (zab 0) (gArg (gC (.int 0))))) (gArg (gOp2 (oI cPow fun i j=>.int (i ^ j.toNat)) (gArg (gC (.int 10))) (gArg (gC (.int 18)))))))) (gSeq (gSet [] 2 (gC (.int 1))) (zih Ψ)) zck) (gSeq (zi1 Ψ) (zc7 [] 1))))
theorem zk2 (Ψ:Str->Fn) (d:Nat):zbd T bn Ψ (d+2) zb5=some (zfe Ψ):=by kernel_rfl
theorem zk1:T.find? (·.nm == ("_law_hand" : Str))=some zb5:=by kernel_rfl
theorem zkb (d:Nat):sem T bn (d+3) "_law_hand" = zao [false] 6 (zfe (sem T bn (d+2))):=zd0 zk1 (zk2 _ d)
noncomputable def ze3 (Ψ:Str->Fn):GS:=(gSeq (gIfS (zai (gOp2 (oI yes2 fun i j=>.bl (decide (j < i))) (gArg (gOp2 oIx (zab 0) (gArg (gC (.int 0))))) (gArg (gC (.int 0))))) (gSeq (gSet [0] 2 (gOp2 (oI (fun _ j=>decide (0 < j)) fun i j=>.int (i % j)) (gArg (gOp2 oIx (zab 0) (gArg (gC (.int 0))))) (zab 1))) (gSeq (za0 0 (gC (.int 0)) (gOp2 (oI cDiv fun i j=>.int (i / j)) (gArg (gOp2 oIx (zab 0) (gArg (gC (.int 0))))) (zab 1))) (zc7 [0] 2))) zck) (gSeq (za0 0 (gC (.int 2)) (gOp2 oAdd (gArg (gOp2 oIx (zab 0) (gArg (gC (.int 2))))) (gArg (gC (.int 1))))) (gSeq (gSet [0] 3 (gOp2 (oI (fun _ j=>decide (0 < j)) fun i j=>.int (i % j)) (gArg (gOp2 oMult (gArg (gOp2 oAdd (gArg (gOp2 oAdd (gArg (gOp2 oIx (zab 0) (gArg (gC (.int 1))))) (gArg (gOp2 oMult (gArg (gOp2 oMult (gArg (gC (.int 65537))) (gArg (gOp2 oIx (zab 0) (gArg (gC (.int 2))))))) (gArg (gOp2 oIx (zab 0) (gArg (gC (.int 2))))))))) (gArg (gC (.int 11))))) (gArg (gC (.int 48271))))) (gArg (gC (.int 2305843009213693921))))) (gSeq (gSet [0] 3 (gOp2 (oI (fun _ j=>decide (0 < j)) fun i j=>.int (i % j)) (gArg (gOp2 oMult (zab 3) (gArg (gOp2 oAdd (gArg (gOp2 (oI (fun _ j=>decide (0 < j)) fun i j=>.int (i % j)) (zab 3) (gArg (gC (.int 1000003))))) (gArg (gOp2 oMult (gArg (gC (.int 99991))) (gArg (gOp2 oIx (zab 0) (gArg (gC (.int 2))))))))))) (gArg (gC (.int 2305843009213693907))))) (gRet (gOp2 (oI (fun _ j=>decide (0 < j)) fun i j=>.int (i % j)) (gArg (gOp2 oAdd (gArg (gOp2 (oI cDiv fun i j=>.int (i / j)) (zab 3) (gArg (gC (.int 97))))) (gArg (gOp2 (oI cDiv fun i j=>.int (i / j)) (zab 3) (gArg (gC (.int 1000033))))))) (zab 1)))))))
theorem zkq (Ψ:Str->Fn) (d:Nat):zbd T bn Ψ (d+2) zcg=some (ze3 Ψ):=by kernel_rfl
theorem zkf:T.find? (·.nm == ("_law_take" : Str))=some zcg:=by kernel_rfl
theorem zj2 (d:Nat):sem T bn (d+3) "_law_take" = zao [true,false] 4 (ze3 (sem T bn (d+2))):=zd0 zkf (zkq _ d)
noncomputable def zif (Ψ:Str->Fn):GS:=(gSeq (gSet [0] 5 (zae [true,false] (Ψ "_law_take") (gCns (zab 0) (gCns (gArg (gOp2 oIx (gArg (za8 (gCns (gArg (gC (.int 2))) (gCns (gArg (gC (.int 5))) (gCns (gArg (gC (.int 5))) gA0))))) (zab 2))) gA0)))) (zff (gApp 3 (gOp2 oIx (gArg (za8 (gCns (gArg (gVar 5)) (gCns (gArg (gOpN oInt (gCns (gArg (gOp2 oEq (zab 5) (gArg (gC (.int 0))))) gA0))) (gCns (gArg (gOpN oInt (gCns (gArg (gOp2 (oI yes2 fun i j=>.bl (decide (j < i))) (zab 5) (gArg (gC (.int 0))))) gA0))) gA0))))) (zab 2)))))
noncomputable def zii (Ψ:Str->Fn):GS:=gFor [0] (.nm 4) (zdm (gCns (zab 1) gA0)) (zif Ψ)
noncomputable def zer (Ψ:Str->Fn):GS:=(gSeq (gSet [0] 2 (zae [true,false] (Ψ "_law_take") (gCns (zab 0) (gCns (gArg (gC (.int 4))) gA0)))) (gSeq (gIfS (zai (gOp2 oEq (zab 2) (gArg (gC (.int 3))))) (gRet (gOp2 oMult (gArg (za8 (gCns (gArg (zae [true,false] (Ψ "_law_take") (gCns (zab 0) (gCns (gArg (gC (.int 2))) gA0)))) gA0))) (zab 1))) zck) (gSeq (gSet [0] 3 (za8 gA0)) (gSeq (zii Ψ) (zc7 [0] 3)))))
theorem zkc (Ψ:Str->Fn) (d:Nat):zbd T bn Ψ (d+2) zb3=some (zer Ψ):=by kernel_rfl
theorem zkr:T.find? (·.nm == ("_law_bits" : Str))=some zb3:=by kernel_rfl
theorem zke (d:Nat):sem T bn (d+3) "_law_bits" = zao [true,false] 6 (zer (sem T bn (d+2))):=zd0 zkr (zkc _ d)
noncomputable def zhs (Ψ:Str->Fn):GS:=(gSet [] 1 (gOp2 oAdd (gArg (gOp2 oMult (gArg (gC (.int 2))) (zab 1))) (zab 2)))
noncomputable def zjd (Ψ:Str->Fn):GS:=gFor [] (.nm 2) (gRev (gVar 0)) (zhs Ψ)
noncomputable def zfq (Ψ:Str->Fn):GS:=(gSeq (gSet [] 1 (gC (.int 0))) (gSeq (zjd Ψ) (zc7 [] 1)))
theorem zjw (Ψ:Str->Fn) (d:Nat):zbd T bn Ψ (d+2) zcf=some (zfq Ψ):=by kernel_rfl
theorem zkk:T.find? (·.nm == ("_law_word" : Str))=some zcf:=by kernel_rfl
theorem zk9 (d:Nat):sem T bn (d+3) "_law_word" = zao [false] 3 (zfq (sem T bn (d+2))):=zd0 zkk (zjw _ d)
noncomputable def zbk (Ψ:Str->Fn):GE:=zd9 [none,none,some 1,some 0] (.nm 1) (zdm (gCns (gArg (gOp2 oAdd (gArg (gC (.int 1))) (gArg (zae [true,false] (Ψ "_law_take") (gCns (zab 0) (gCns (gArg (gC (.int 2))) gA0)))))) gA0)) gYes (zae [true,false] (Ψ "_law_take") (gCns (zab 3) (gCns (gArg (gOp2 (oI cPow fun i j=>.int (i * 2 ^ j.toNat)) (gArg (gC (.int 1))) (zab 2))) gA0)))
noncomputable def zcs (Ψ:Str->Fn):GE:=zd9 [none,none,some 3,some 0,some 2] (.nm 1) (zdm (gCns (gArg (gOp2 (oI cPow fun i j=>.int (i * 2 ^ j.toNat)) (gArg (gC (.int 1))) (zab 1))) gA0)) (zai (gOp2 oNe (gArg (gOp2 oEq (gArg (zae [true,false] (Ψ "_law_take") (gCns (zab 3) (gCns (gArg (gVar 2)) gA0)))) (gArg (gC (.int 0))))) (gArg (gOp2 oEq (zab 4) (gArg (gC (.int 7))))))) (gVar 1)
noncomputable def zch (Ψ:Str->Fn):GS:=(gSeq (gSet [0] 2 (zae [true,false] (Ψ "_law_take") (gCns (zab 0) (gCns (gArg (gC (.int 8))) gA0)))) (gSeq (gIfS (zai (gOp2 oEq (zab 2) (gArg (gC (.int 0))))) (gRet (zi5 gA0)) zck) (gSeq (gIfS (zai (gOp2 oEq (zab 2) (gArg (gC (.int 1))))) (gRet (znc (gCns (gArg (gOp2 (oI cPow fun i j=>.int (i * 2 ^ j.toNat)) (gArg (gC (.int 1))) (zab 1))) gA0))) zck) (gSeq (gIfS (zai (gOp2 (oI yes2 fun i j=>.bl (decide (i < j))) (zab 2) (gArg (gC (.int 4))))) (gRet (gOpN zec (gCns (gArg (gSS (gCns (gArg (zbk Ψ)) gA0))) gA0))) zck) (gSeq (gSet [0] 3 (gOp2 oIx (gArg (za8 (gCns (gArg (gC (.int 8))) (gCns (gArg (gC (.int 4))) (gCns (gArg (gC (.int 2))) (gCns (gArg (gC (.int 2))) gA0)))))) (gArg (gOp2 (oI yes2 fun i j=>.int (i - j)) (zab 2) (gArg (gC (.int 4))))))) (gRet (gOpN zec (gCns (gArg (zcs Ψ)) gA0))))))))
theorem zj4 (Ψ:Str->Fn) (d:Nat):zbd T bn Ψ (d+2) zb6=some (zch Ψ):=by kernel_rfl
theorem zko:T.find? (·.nm == ("_law_lost" : Str))=some zb6:=by kernel_rfl
theorem zka (d:Nat):sem T bn (d+3) "_law_lost" = zao [true,false] 4 (zch (sem T bn (d+2))):=zd0 zko (zj4 _ d)
noncomputable def zay (Ψ:Str->Fn):GE:=zd9 [none,none,some 2,some 1] (.nm 1) (zdm (gCns (gArg (gOp2 (oI cPow fun i j=>.int (i * 2 ^ j.toNat)) (gArg (gC (.int 1))) (zab 0))) gA0)) gYes (gIf (zai (gOp2 (oIn false) (zab 1) (zab 2))) (gC (.str "?")) (gOp2 oIxS (gArg (gC (.str "01"))) (gArg (gOp2 (oI (fun _ j=>decide (0 < j)) fun i j=>.int (i % j)) (gArg (gOp2 (oI cDiv fun i j=>.int (i / j)) (zab 3) (gArg (gOp2 (oI cPow fun i j=>.int (i * 2 ^ j.toNat)) (gArg (gC (.int 1))) (zab 1))))) (gArg (gC (.int 2)))))))
noncomputable def zar (Ψ:Str->Fn):GS:=(gRet (zny "" (zay Ψ)))
theorem zdv (Ψ:Str->Fn) (d:Nat):zbd T bn Ψ (d+2) zas=some (zar Ψ):=by kernel_rfl
theorem zd2:T.find? (·.nm == ("_law_heard_text" : Str))=some zas:=by kernel_rfl
theorem zdz (d:Nat):sem T bn (d+3) "_law_heard_text" = zao [false,false,false] 3 (zar (sem T bn (d+2))):=zd0 zd2 (zdv _ d)
noncomputable def zri (Ψ:Str->Fn):GE:=zd9 [none,none] (.nm 1) (zem (gVar 5)) gYes (gOp2 (oI cPow fun i j=>.int (i * 2 ^ j.toNat)) (gArg (gC (.int 1))) (zab 1))
noncomputable def zlp (Ψ:Str->Fn):GS:=(gSeq (gSet [] 3 (gOp2 oIx (gArg (za8 (gCns (gArg (gOp2 oAdd (gArg (gC (.int 1))) (gArg (zae [true,false] (Ψ "_law_take") (gCns (zab 1) (gCns (gArg (gC (.int 6))) gA0)))))) (gCns (gArg (gC (.int 6))) gA0)))) (gArg (gOpN oInt (gCns (gArg (gOp2 oEq (gArg (zae [true,false] (Ψ "_law_take") (gCns (zab 1) (gCns (gArg (gC (.int 8))) gA0)))) (gArg (gC (.int 0))))) gA0))))) (gSeq (gPar [] 4 5 (zae [false] (Ψ "_law_word") (gCns (gArg (zae [true,false] (Ψ "_law_bits") (gCns (zab 1) (gCns (gArg (gOp2 (oI cPow fun i j=>.int (i * 2 ^ j.toNat)) (gArg (gC (.int 1))) (zab 3))) gA0)))) gA0)) (zae [true,false] (Ψ "_law_lost") (gCns (zab 1) (gCns (gArg (gVar 3)) gA0)))) (gSeq (gSet [] 6 (gOpN oSum (gCns (gArg (zri Ψ)) gA0))) (gSeq (gSet [] 7 (zae [false,false,false] (Ψ "_law_heard_text") (gCns (gArg (gVar 3)) (gCns (gArg (gVar 4)) (gCns (gArg (gVar 5)) gA0))))) (gSeq (gSet [] 8 (zi5 (gCns (gArg (gOp2 (oI yes2 fun i j=>.int (Builtin.bitXor i j)) (gArg (gOp2 (oI yes2 fun i j=>.int (Builtin.bitOr i j)) (zab 4) (zab 6))) (zab 6))) (gCns (gArg (gVar 5)) gA0)))) (gSeq (gIfS (gOrT (zai (gOp2 oNe (gArg (gOpN zek (gCns (gArg (zae [false,false,false] (Ψ "heard_text") (gCns (gArg (gVar 3)) (gCns (gArg (gVar 4)) (gCns (gArg (gVar 5)) gA0))))) gA0))) (gArg (gOpN zek (gCns (zab 7) gA0))))) (zai (gOp2 oNe (gArg (gOpN zek (gCns (gArg (zae [false,false,false] (Ψ "heard_text") (gCns (gArg (gVar 3)) (gCns (gArg (gOp2 (oI yes2 fun i j=>.int (Builtin.bitOr i j)) (zab 4) (zab 6))) (gCns (gArg (gVar 5)) gA0))))) gA0))) (gArg (gOpN zek (gCns (zab 7) gA0)))))) (gRet (gC (.bl false))) zck) (gSeq (gSet [] 9 (zae [false,false] (Ψ "read_heard") (gCns (gArg (gVar 3)) (gCns (gArg (gVar 7)) gA0)))) (gIfS (gOrT (zai (gOp2 oNe (gArg (gOpN zkg (gCns (zab 9) gA0))) (gArg (gOpN zkg (gCns (zab 8) gA0))))) (zai (gOp2 oNe (gArg (zae [false,false,false] (Ψ "heard_text") (gCns (gArg (gVar 3)) (gCns (gArg (gOp2 oIx (zab 9) (gArg (gC (.int 0))))) (gCns (gArg (gOp2 oIx (zab 9) (gArg (gC (.int 1))))) gA0))))) (zab 7)))) (gRet (gC (.bl false))) zck))))))))
noncomputable def zqx (Ψ:Str->Fn):GS:=gFor [] (.nm 2) (zdm (gCns (gArg (gOpN oMax (gCns (gArg (gC (.int 4))) (gCns (gArg (gOpN oMin (gCns (gArg (gC (.int 16))) (gCns (gArg (gOpN oLen (gCns (zab 0) gA0))) gA0)))) gA0)))) gA0)) (zlp Ψ)
noncomputable def zxs (Ψ:Str->Fn):GS:=(gSeq (gSet [] 1 (zae [false] (Ψ "_law_hand") (gCns (gArg (gVar 0)) gA0))) (gSeq (zqx Ψ) (gRet (gOp2 oEq (gArg (zae [false,false] (Ψ "read_heard") (gCns (gArg (gC (.int 1))) (gCns (gArg (gC (.str "?1"))) gA0)))) (gArg (zi5 (gCns (gArg (gC (.int 2))) (gCns (gArg (zi5 (gCns (gArg (gC (.int 0))) gA0))) gA0))))))))
theorem z3v (Ψ:Str->Fn) (d:Nat):zbd T bn Ψ (d+2) zj3=some (zxs Ψ):=by kernel_rfl
theorem z4n:T.find? (·.nm == ("law" : Str))=some zj3:=by kernel_rfl
theorem z3g (d:Nat):sem T bn (d+3) "law" = zao [false] 10 (zxs (sem T bn (d+2))):=zd0 z4n (z3v _ d)
theorem seq_e {a b:GS}{en e1:En}{r:Option (En × Fl)} (h1:a en=some (e1,.nx)) (h2:b e1=r):gSeq a b en=r:=(seq_nx h1).trans h2
theorem zxi {α:Type}{cap:Cap}{it:GL}{tc:GT}{te:GE}{en e0:En}{ts:List α}{xs:En} (a b:α->W) (p:α->Bool) (g:α->W) (hi:it en=some (e0,ts.map fun x=>.tup [a x,b x])) (hz:ts.length<=1000) (hn:zbu cap=true) (hk:∀v0 v1 v2 x,tgSet (capKeep cap) (.tp [1,2]) (.tup [a x,b x]) (v0::v1::v2::xs)=some (v0::some (a x,false)::some (b x,false)::xs)) (hx:zen cap e0=none::none::none::xs) (hb:∀v0 v1 v2,za2 cap e0 (v0::v1::v2::xs)=e0)
    (ht:∀v0 x,x∈ts->tc (v0::some (a x,false)::some (b x,false)::xs)=some (v0::some (a x,false)::some (b x,false)::xs,p x)/\(p x=true->∃u1 u2 f,te (v0::some (a x,false)::some (b x,false)::xs)=some (v0::u1::u2::xs,(g x,f)))) :
    zd9 cap (.tp [1,2]) it tc te en=some (e0,(.lst ((ts.filter p).map g),true)):=by
  have s9:(1000:Nat)<=sizeLine:=by decide
  obtain ⟨ce',out,hc,⟨v0,v1,v2,rfl⟩,rfl⟩:=zeq (cap:=cap) (T:=.tp [1,2]) (tc:=tc) (te:=te) (fun i c dn=>(∃v0 v1 v2,c=v0::v1::v2::xs)/\dn=((ts.take i).filter p).map g) hi hn (by rw [List.length_map];omega) ⟨⟨_,_,_,hx⟩,rfl⟩ fun i w c dn hw hp=>by
    obtain ⟨⟨v0,v1,v2,rfl⟩,rfl⟩:=hp;rw [List.getElem?_map] at hw;cases ha:ts[i]? with
    | none=>rw [ha] at hw;exact noSome hw
    | some x =>
      rw [ha] at hw;obtain rfl:=sI hw;obtain ⟨h1,h2⟩:=ht v0 x (List.mem_of_getElem? ha);have tk:ts.take (i+1)=ts.take i++[x]:=by rw [List.take_succ,ha];rfl
      refine ⟨_,hk v0 v1 v2 x,?_⟩;cases q:p x with
      | true =>
        obtain ⟨u1,u2,f,h3⟩:=h2 q;rw [q] at h1;refine .inl ⟨_,_,_,h1,h3,⟨_,_,_,rfl⟩,?_⟩;rw [tk,List.filter_append,List.map_append,List.filter_cons_of_pos q];rfl
      | false =>
        rw [q] at h1;refine .inr ⟨_,h1,⟨_,_,_,rfl⟩,?_⟩;rw [tk,List.filter_append,List.filter_cons_of_neg (by rw [q];exact Bool.false_ne_true),List.filter_nil,List.append_nil]
  rw [hc,hb,List.length_map,List.take_length]
noncomputable def ndM (a:Int) (ns:List Int):PyData:=.tuple ([PyData.int a,ndI ns].map id)
noncomputable def mixT (a:Int) (ns:List Int):W:=.tup [.int a,.tup (ns.map W.int)]
theorem z02 (a:Int) (ns:List Int):dW (mixT a ns)=some (ndM a ns):=by
 unfold mixT;rw [dW,dWs,dWs,dWs,zwi,dW];rfl
theorem z0f {a:Int}{ns:List Int} (ha:zgh a) (h:∀n∈ns,zgh n) (hl:ns.length<=128):(ndM a ns).showable=true/\(ndM a ns).hasDict=false/\(ndM a ns).depth<=2/\(ndM a ns).canLay0=true/\(ndM a ns).shown.length<=600007:=by
 obtain ⟨h1,h2,h3,h4,h5⟩:=z1v h;have two:∀d∈[PyData.int a,ndI ns],d=.int a\/d=ndI ns:=fun d hd=>by
  rcases List.mem_cons.mp hd with h | h
  ·exact .inl h
  ·exact .inr (List.mem_singleton.mp h)
 refine ⟨?_,?_,?_,?_,?_⟩
 ·unfold ndM; rw [PyData.showable]; refine showAll_map _ _ fun n hn => ?_;rcases two n hn with rfl | rfl
  ·show (PyData.int a).showable = true;rw [PyData.showable];exact decide_eq_true ha
  ·exact h1
 ·unfold ndM; rw [PyData.hasDict]; refine dictAll_map _ _ fun n hn => ?_;rcases two n hn with rfl | rfl
  ·show (PyData.int a).hasDict = false;rw [PyData.hasDict]
  ·exact h2
 ·unfold ndM;rw [PyData.depth];have:=depAll_map (c:=1) id [PyData.int a,ndI ns] fun n hn=>by
   rcases two n hn with rfl | rfl
   ·show (PyData.int a).depth ≤ 1;rw [PyData.depth];decide
   ·exact h3
  omega
 ·unfold ndM; rw [PyData.canLay0]; refine layAll_map _ _ fun n hn => ?_;rcases two n hn with rfl | rfl
  ·show (PyData.int a).canLay0 = true;rw [PyData.canLay0]
  ·exact h4
 ·unfold ndM;rw [PyData.shown,zcp];have:=zf4 (c:=300000) (ts:=[PyData.int a,ndI ns].map fun x=>(id x).shown) fun t ht=>by
   obtain ⟨n,hn,rfl⟩:=List.mem_map.mp ht;rcases two n hn with rfl | rfl
   ·show (PyData.int a).shown.length ≤ _;rw [PyData.shown];have:=int_text_len_1921 ha;omega
   ·show (ndI ns).shown.length ≤ _;omega
  rw [List.length_map] at this;exact this
theorem ztz {a:Int}{ns:List Int} (ha:zgh a) (h:∀n∈ns,zgh n) (hl:ns.length<=128):∃s,zkg [mixT a ns]=some (.str s,false):=by
 obtain ⟨h1,h2,h3,_,h4⟩:=z0f ha h hl;refine ⟨(ndM a ns).shown,?_⟩;show (dW (mixT a ns)).bind _=_;rw [z02];show (if okD (ndM a ns) then _ else none)=_;have ok:okD (ndM a ns)=true:=by
  unfold okD;rw [h1,h2,decide_eq_true (by omega),decide_eq_true (by rw [sizeLine_eq];omega)];rfl
 rw [if_pos ok]
noncomputable def cF (f:Nat->Int) (M:List Nat) (i:Nat):Nat:=if i∈M then 63 else if f i=1 then 49 else 48
noncomputable def one (c:Nat):W:=.str ⟨#[c]⟩
noncomputable def csF (n:Nat) (f:Nat->Int) (M:List Nat):List Nat:=(List.range n).map (cF f M)
noncomputable def txF (n:Nat) (f:Nat->Int) (M:List Nat):Str:=⟨(csF n f M).toArray⟩
theorem zdh (n:Nat) (f:Nat->Int) (M:List Nat):(csF n f M).length=n:=by unfold csF;rw [List.length_map,List.length_range]
theorem zmg {n i:Nat}{f:Nat->Int}{M:List Nat} (h:i < n):(csF n f M)[i]?=some (cF f M i):=by unfold csF;rw [List.getElem?_map,List.getElem?_range h];rfl
theorem zzp (f:Nat->Int) (M:List Nat) (i:Nat):cF f M i=48\/cF f M i=49\/cF f M i=63:=by
 unfold cF;split
 ·exact .inr (.inr rfl)
 ·split
  ·exact .inr (.inl rfl)
  ·exact .inl rfl
theorem in_c (i:Nat) (M:List Nat):oIn false (.int (i:Nat)) (.tup (castL M))=some (.bl (decide (i∈M)),false):=by
  have h1:(castL M).all zfj=true:=by unfold castL;rw [List.all_map];exact List.all_eq_true.mpr fun _ _=>rfl
  have h2:((castL M).any fun y=>eqF y (.int (i:Nat)))=decide (i∈M):=by
    unfold castL;rw [List.any_map]
    induction M with
    | nil=>rfl
    | cons p M ih =>
      rw [List.any_cons,ih (by unfold castL;rw [List.all_map];exact List.all_eq_true.mpr fun _ _=>rfl)];show (((p:Int) == (i:Int)) || decide (i∈M))=_;by_cases e:p=i
      · subst e;simp
      · have : ((p : Int) == (i : Int)) = false := by rw [beq_eq_false_iff_ne]; omega
        rw [this,Bool.false_or];exact decide_eq_decide.mpr ⟨fun z=>List.mem_cons_of_mem _ z,fun z=>(List.mem_cons.mp z).resolve_left fun q=>e q.symm⟩
  show (if zfj (.int (i:Nat)) && (castL M).all zfj then some (W.bl ((castL M).any fun y=>eqF y (.int (i:Nat))),false) else none)=_;rw [h1,h2];rfl
theorem zzk {a:Int} (h:Bit a):zs4 [.int a]=some (one (if a=1 then 49 else 48),false):=by
 rcases h with rfl | rfl
 ·kernel_rfl
 ·kernel_rfl
theorem z2f {a:Int} (h:Bit a):oIxS (.str "01") (.int a)=some (one (if a=1 then 49 else 48),false):=by
 rcases h with rfl | rfl
 ·kernel_rfl
 ·kernel_rfl
theorem zl0:∀cs:List Nat,zee (cs.map one)=some (cs.map fun c=>(⟨#[c]⟩ : Str))
  | []=>rfl
  | c::cs=>by
    show (zee (cs.map one)).bind _=_;rw [zl0 cs];rfl
theorem zph:∀cs:List Nat,((cs.map fun c=>(⟨#[c]⟩ : Str)).map (·.length)).sum=cs.length
  | []=>rfl
  | c::cs=>by
    rw [List.map_cons,List.map_cons,List.sum_cons,zph cs,List.length_cons];show 1+_=_;omega
theorem zu5 {g:GE}{en e1:En}{cs:List Nat}{fl:Bool} (h:g en=some (e1,(.lst (cs.map one),fl))) (hz:cs.length<=1000):zny "" g en=some (e1,(.str ⟨cs.toArray⟩,false)):=by
 unfold zny;rw [h];show (zee (cs.map one)).bind _=_;rw [zl0];show (if ((cs.map fun c=>(⟨#[c]⟩ : Str)).map (·.length)).sum+(cs.map fun c=>(⟨#[c]⟩ : Str)).length * (Str.length "")<=16777216 then some (e1,(W.str (Txt.join "" (cs.map fun c=>(⟨#[c]⟩ : Str))),false)) else none)=_;rw [zph,show Str.length "" = 0 from rfl,if_pos (by omega)];have e:Txt.join "" (cs.map fun c=>(⟨#[c]⟩ : Str))=⟨cs.toArray⟩:=(StrLaws.glued_eq_join _ _).trans (join_ones cs);rw [e]
noncomputable def zd7 (Φ:Fn):Prop:=∀(m:Nat) (f:Nat->Int) (M:List Nat),m<=6->(∀i,Bit (f i))->(∀i,2 ^ m<=i->f i=0)->Φ [.int (m:Nat),.int (zaa (tab (2 ^ m) f)),.tup (castL M)]=some ([.int (m:Nat),.int (zaa (tab (2 ^ m) f)),.tup (castL M)],(.str (txF (2 ^ m) f M),false))
theorem zso {Ψ:Str->Fn} (hS:zuw (Ψ "says")):zd7 (zao [false,false,false] 3 (zbn Ψ)):=fun m f M hm hf h0=>by
 have p6:=zhk hm;have c:zb0 Ψ [some (.int (m:Nat),false),some (.int (zaa (tab (2 ^ m) f)),false),some (.tup (castL M),false)]=some ([some (.int (m:Nat),false),some (.int (zaa (tab (2 ^ m) f)),false),some (.tup (castL M),false)],(.lst ((csF (2 ^ m) f M).map one),true)):=by
  unfold zb0;refine zlh (xs:=[some (.tup (castL M),false),some (.int (zaa (tab (2 ^ m) f)),false)]) (e0:=[some (.int (m:Nat),false),some (.int (zaa (tab (2 ^ m) f)),false),some (.tup (castL M),false)]) (ws:=rngW 0 (2 ^ m)) ?_ (by rw [zbg];omega) (by rw [zbg,List.length_map,zdh]) rfl rfl rfl (fun _ _=>rfl) fun i v0 w r hw hr=>?_
  ·have e1 := pow1 (l := m) (by omega);refine zh8 ?_ (by omega);simp! [e1,zan]
  ·obtain ⟨li, rfl⟩ := rngW_get hw;rw [Int.zero_add] at *
   rw [List.getElem?_map,zmg li] at hr;obtain rfl:=sI hr;refine ⟨some (.int (i:Nat),false),false,?_⟩;have ic:=in_c i M;have sy:=hS (2 ^ m) i f hf h0;have sb:=zzk (hf i);by_cases q:i∈M
   ·rw [decide_eq_true q] at ic;have ec:one (cF f M i)=.str "?" := by unfold cF;rw [if_pos q];rfl
    rw [ec];simp! [ic]
   ·rw [decide_eq_false q] at ic;have ec:cF f M i=if f i=1 then 49 else 48:=by unfold cF;rw [if_neg q]
    rw [ec];simp! [ic,sy,sb]
 unfold zbn;exact zbm rfl (zfr (zu5 c (by rw [zdh];omega))) rfl
theorem z25 (n:Nat) (f:Nat->Int) (M:List Nat):chW (txF n f M)=(csF n f M).map one:=by unfold chW txF;simp [one,List.map_map,Function.comp]
theorem zu8 (n:Nat) (f:Nat->Int) (M:List Nat):(txF n f M).length=n:=by
 show ((csF n f M).toArray).size=n;rw [List.size_toArray,zdh]
noncomputable def zgn (Φ:Fn):Prop:=∀(n:Nat) (f:Nat->Int) (M:List Nat) (sg:Str),n<=64->(∀i,i < n->inS2 ⟨#[cF f M i]⟩ sg=true)->Φ [.str (txF n f M),.int (n:Nat),.str sg]=some ([.str (txF n f M),.int (n:Nat),.str sg],(.bl true,false))
theorem zrt (Ψ:Str->Fn):zgn (zao [false,false,false] 3 (zcy Ψ)):=fun n f M sg hn hi=>by
 have c:zdb Ψ [some (.str (txF n f M),false),some (.int (n:Nat),false),some (.str sg,false)]=some ([some (.str (txF n f M),false),some (.int (n:Nat),false),some (.str sg,false)],(.lst (((List.range n).map fun _=>true).map W.bl),true)):=by
  unfold zdb;refine zlh (xs:=[some (.str sg,false)]) (e0:=[some (.str (txF n f M),false),some (.int (n:Nat),false),some (.str sg,false)]) (ws:=(csF n f M).map one) ?_ (by rw [List.length_map,zdh];omega) (by rw [List.length_map,List.length_map,List.length_map,zdh,List.length_range]) rfl rfl rfl (fun _ _=>rfl) fun i v0 w r hw hr=>?_
  ·show (some _ : Option (En × List W)) = _;rw [<-z25];rfl
  ·have li:i < n:=by
    have:=(List.getElem?_eq_some_iff.mp hw).1;rw [List.length_map,zdh] at this;exact this
   rw [List.getElem?_map,zmg li] at hw;rw [List.getElem?_map,List.getElem?_map,List.getElem?_range li] at hr;obtain rfl:=sI hw;obtain rfl:=sI hr;have oi:oInS false (one (cF f M i)) (.str sg)=some (.bl true,false):=by
    show some (W.bl (inS2 ⟨#[cF f M i]⟩ sg),false)=_;rw [hi i li]
   refine ⟨some (one (cF f M i),false),false,?_⟩;simp! [oi]
 have ol:zn6 [.str (txF n f M)]=some (.int (n:Nat),false):=by
  show (if (txF n f M).length<=sizeLine then some (W.int (txF n f M).length,false) else none)=_;rw [zu8,if_pos (by rw [sizeLine_eq];omega)]
 have al:((List.range n).map fun _=>true).all id=true:=by rw [List.all_map];exact List.all_eq_true.mpr fun _ _=>rfl
 unfold zcy;simp! [ol,c,al]
theorem z2c {cs:List Nat}:∀(k:Nat),zc9 (cs.map one) k=(cs.zipIdx k).map fun x:Nat × Nat=>.tup [.int (x.2:Nat),one x.1]:=by
 induction cs with
 | nil=>intro k;rfl
 | cons c cs ih=>intro k;rw [List.map_cons,List.zipIdx_cons,List.map_cons,<-ih (k+1)];rfl
theorem zm9 {a b:Nat} (h:a≠b):((⟨#[a]⟩ : Str)=⟨#[b]⟩)=False:=by
 apply propext;constructor
 ·intro z;injection z with z;exact absurd (by simpa using z) h
 ·exact False.elim
noncomputable def zgi (Φ:Fn):Prop:=∀(n c:Nat) (f:Nat->Int) (M:List Nat),n<=64->Φ [one c,.str (txF n f M)]=some ([one c,.str (txF n f M)],(.tup (castL ((List.range n).filter fun i=>decide (cF f M i=c))),false))
theorem z1h (f:Nat->Int) (M:List Nat) (n:Nat):(csF n f M).zipIdx 0=(List.range n).map fun i=>(cF f M i,i):=by
 apply List.ext_getElem?;intro i;rw [List.getElem?_zipIdx,List.getElem?_map];by_cases h:i < n
 ·rw [zmg h,List.getElem?_range h];simp
 ·rw [List.getElem?_eq_none (by rw [zdh];omega),List.getElem?_eq_none (by rw [List.length_range];omega)];rfl
theorem zp0 (Ψ:Str->Fn):zgi (zao [false,false] 2 (zb9 Ψ)):=fun n c f M hn=>by
 have cc:zcl Ψ [some (one c,false),some (.str (txF n f M),false)]=some ([some (one c,false),some (.str (txF n f M),false)],(.lst (castL ((List.range n).filter fun i=>decide (cF f M i=c))),true)):=by
  unfold zcl castL;refine zxi (ts:=List.range n) (xs:=[some (one c,false)]) (e0:=[some (one c,false),some (.str (txF n f M),false)]) (fun i=>.int (i:Nat)) (fun i=>one (cF f M i)) (fun i=>decide (cF f M i=c)) (fun i:Nat=>.int (i:Nat)) ?_ (by rw [List.length_range];omega) rfl (fun _ _ _ _=>rfl) rfl (fun _ _ _=>rfl) fun v0 i hi=>?_
  ·show (some _ : Option (En × List W)) = _;rw [z25,z2c,z1h,List.map_map];rfl
  ·have oe:oEq (one (cF f M i)) (one c)=some (.bl (decide (cF f M i=c)),false):=by
    show some (W.bl (decide ((⟨#[cF f M i]⟩ : Str)=⟨#[c]⟩)),false)=_;by_cases z:cF f M i=c
    ·rw [z,decide_eq_true rfl,decide_eq_true rfl]
    ·rw [decide_eq_false (by rw [zm9 z];exact id),decide_eq_false z]
   refine ⟨?_,fun _=>⟨some (.int (i:Nat),false),some (one (cF f M i),false),false,?_⟩⟩
   ·simp! [oe]
   ·rfl
 have ot:zec [.lst (castL ((List.range n).filter fun i=>decide (cF f M i=c)))]=some (.tup (castL ((List.range n).filter fun i=>decide (cF f M i=c))),false):=rfl;unfold zb9;simp! [cc,ot]
theorem zvs {m:Nat}{f:Nat->Int} (hf:∀i,Bit (f i)) (M:List Nat) (i:Nat):(i∈((List.range (2 ^ m)).filter fun i=>decide (cF f M i=49)))↔i < 2 ^ m/\i ∉ M/\f i=1:=by
 rw [List.mem_filter,List.mem_range,decide_eq_true_eq];unfold cF;constructor
 ·rintro ⟨h1, h2⟩;refine ⟨h1,?_,?_⟩
  ·intro z;rw [if_pos z] at h2;cases h2
  ·split at h2
   ·cases h2
   ·split at h2
    ·assumption
    ·cases h2
 ·rintro ⟨h1, h2, h3⟩;rw [if_neg h2,if_pos h3];exact ⟨h1,rfl⟩
theorem zw8 {m:Nat}{f:Nat->Int} (hf:∀i,Bit (f i)) (M:List Nat):(tab (2 ^ m) fun i=>if i∈((List.range (2 ^ m)).filter fun i=>decide (cF f M i=49)) then 1 else 0)=tab (2 ^ m) fun i=>if i∈M then 0 else f i:=zb2 fun i hi=>by
 have h:=zvs (m:=m) hf M i;by_cases q:i∈M
 ·rw [if_neg fun z=>(h.mp z).2.1 q,if_pos q]
 ·rw [if_neg q];rcases hf i with e | e
  ·rw [if_neg (fun z=>by have:=(h.mp z).2.2;rw [e] at this;cases this),e]
  ·rw [if_pos (h.mpr ⟨hi,q,e⟩),e]
theorem zto {f:Nat->Int}{M:List Nat} (i:Nat):inS2 ⟨#[cF f M i]⟩ "01?" = true:=by
 rcases zzp f M i with e | e | e<;>rw [e]<;>decide +kernel
noncomputable def zwc (Φ:Fn):Prop:=∀(m:Nat) (f:Nat->Int) (M:List Nat),m<=6->(∀i,Bit (f i))->Φ [.int (m:Nat),.str (txF (2 ^ m) f M)]=some ([.int (m:Nat),.str (txF (2 ^ m) f M)],(.tup [.int (zaa (tab (2 ^ m) fun i=>if i∈M then 0 else f i)),.tup (castL ((List.range (2 ^ m)).filter fun i=>decide (i∈M)))],false))
theorem zv0 (m:Nat) (f:Nat->Int) (M:List Nat):((List.range (2 ^ m)).filter fun i=>decide (cF f M i=63))=(List.range (2 ^ m)).filter fun i=>decide (i∈M):=by
 congr 1
 funext i
 unfold cF;by_cases q:i∈M
 ·rw [if_pos q,decide_eq_true rfl,decide_eq_true q]
 ·rw [if_neg q, decide_eq_false q];split<;>rfl
theorem ztg {Ψ:Str->Fn} (hG:zgn (Ψ "is_signs")) (hA:zgr (Ψ "word_at")) (hP:zgi (Ψ "places_of")):zwc (zao [false,false] 2 (zbs Ψ)):=fun m f M hm hf=>by
 have p6:=zhk hm;have e1:=pow1 (l:=m) (by omega);have g:=hG (2 ^ m) f M "01?" p6 fun i _=>zto i;have p:=hP (2 ^ m) 49 f M p6;have p2:=hP (2 ^ m) 63 f M p6;rw [zv0] at p2;have a:=hA (2 ^ m) ((List.range (2 ^ m)).filter fun i=>decide (cF f M i=49)) p6 fun p hp=>List.mem_range.mp (List.mem_filter.mp hp).1;rw [zw8 hf] at a;have o:one 49=.str "1" := rfl;have o2:one 63=.str "?" := rfl;rw [o] at p;rw [o2] at p2;unfold zbs;simp! [e1,zan,g,p,p2,a]
theorem zvt {n:Nat} (f:Nat->Int) (M:List Nat) (hn:n<=64):zek [.str (txF n f M)]=some (.str (reprText (txF n f M)),false):=by
 have h:=StrLaws.reprText_len (txF n f M) fun c hc=>by
  have hc:c∈csF n f M:=by simpa [txF] using hc
  unfold csF at hc;obtain ⟨i,_,rfl⟩:=List.mem_map.mp hc;rcases zzp f M i with e | e | e<;>rw [e]<;>decide
 rw [zu8] at h;show (if (reprText (txF n f M)).length<=sizeLine then _ else none)=_;rw [if_pos (by rw [sizeLine_eq];omega)]
theorem getD_bit {xs:List Int} (h:Bits xs) (i:Nat):Bit (xs.getD i 0):=by
 by_cases q:i < xs.length
 ·rw [List.getD_eq_getElem?_getD,List.getElem?_eq_getElem q];exact h _ (List.getElem_mem q)
 ·rw [List.getD_eq_getElem?_getD,List.getElem?_eq_none (by omega)];exact .inl rfl
theorem z19 {xs:List Int} (i:Nat) (q:xs.length<=i):xs.getD i 0=0:=by rw [List.getD_eq_getElem?_getD,List.getElem?_eq_none q];rfl
theorem znl {xs:List Int} (h:Bits xs) (hl:xs.length<=64):zgh (zaa xs):=by
 have b:=zce h;have n:=zca h;refine zmf (k:=64) ?_ (by decide);have q:2 ^ xs.length<=2 ^ 64:=Nat.pow_le_pow_right (by decide) hl;have:(2:Int) ^ xs.length<=2 ^ 64:=by exact_mod_cast q
 omega
theorem zx9 {m:Nat}{f:Nat->Int} (hm:m<=6) (hf:∀i,Bit (f i)):zgh (zaa (tab (2 ^ m) f)):=znl (zat fun i _=>hf i) (by rw [zaq];exact zhk hm)
theorem zqy:∀{D M:List Int},D.Nodup->M.Nodup->(∀k,k∈D↔k∈M)->M.Perm D
  | [],M,_,_,h=>by
    have:M=[]:=List.eq_nil_iff_forall_not_mem.mpr fun k hk=>List.not_mem_nil ((h k).mpr hk);rw [this]
  | x::D,M,n,m,h=>by
    have n':=List.nodup_cons.mp n;refine (List.perm_cons_erase ((h x).mp (.head _))).trans (.cons x (zqy n'.2 (m.erase x) fun k=>?_));rw [m.mem_erase_iff,<-h k,List.mem_cons];constructor
    · intro hk
      exact ⟨fun e=>n'.1 (e ▸ hk),.inr hk⟩
    · rintro ⟨a, b | b⟩
      · exact absurd b a
      · exact b
theorem zxz (ns:List Int) (k:Int):k∈metI ns↔k∈ns:=by
 have h:=firstMet_any (valI ns) ns.length k;have e:(List.range ns.length).map (valI ns)=ns:=by
  refine List.ext_getElem? fun i=>?_;rw [List.getElem?_map];by_cases q:i < ns.length
  ·rw [List.getElem?_range q, List.getElem?_eq_getElem q];show some (ns.getD i 0)=_;rw [List.getD_eq_getElem?_getD,List.getElem?_eq_getElem q];rfl
  ·rw [List.getElem?_eq_none (by rw [List.length_range];omega),List.getElem?_eq_none (by omega)];rfl
 rw [e] at h;have a:∀l:List Int,l.any (· == k)=true↔k∈l:=fun l=>by
  rw [List.any_eq_true];exact ⟨fun ⟨x,hx,q⟩=>(beq_iff_eq.mp q) ▸ hx,fun h=>⟨k,h,beq_self_eq_true k⟩⟩
 rw [<-a,<-a ns,<-h];exact Iff.rfl
theorem zow (n:Nat) (p:Nat->Bool):((List.range n).filter fun i=>decide (i∈(List.range n).filter p))=(List.range n).filter p:=by
 refine List.filter_congr fun i hi=>?_;by_cases q:p i=true
 ·rw [q,decide_eq_true (List.mem_filter.mpr ⟨hi,q⟩)]
 ·rw [decide_eq_false fun z => q (List.mem_filter.mp z).2];exact (Bool.eq_false_iff.mpr q).symm
theorem zjo (i:Nat) (p:Nat->Bool) (b:Bool):(List.range (i+1)).filter (fun x=>if x=i then b else p x)=(List.range i).filter p++(if b then [i] else []):=by
 rw [List.range_succ,List.filter_append];congr 1
 ·refine List.filter_congr fun x hx => ?_;rw [if_neg (by have:=List.mem_range.mp hx;omega)]
 ·cases b<;>simp
theorem zm0 {n:Nat}{p:Nat->Bool}:(((List.range n).filter p).map fun x:Nat=>(x:Int)).Pairwise (· < ·):=by
 rw [List.pairwise_map];refine (List.Pairwise.filter _ List.pairwise_lt_range).imp fun h=>?_;omega
theorem zsn {n:Nat}{ns:List Nat} (h:∀x∈ns,x < n):zex (metI (ns.map fun x:Nat=>(x:Int)))=((List.range n).filter fun x=>decide (x∈ns)).map fun x:Nat=>(x:Int):=by
 have pw:=zm0 (n:=n) (p:=fun x=>decide (x∈ns));refine zld (zqy (zdp _ _) (pw.imp fun h=>by omega) fun k=>?_) (pw.imp fun h=>by omega);show k∈metI _↔_;rw [zxz,List.mem_map,List.mem_map];constructor
 ·rintro ⟨x, hx, rfl⟩;exact ⟨x,List.mem_filter.mpr ⟨List.mem_range.mpr (h x hx),decide_eq_true hx⟩,rfl⟩
 ·rintro ⟨x, hx, rfl⟩;exact ⟨x,of_decide_eq_true (List.mem_filter.mp hx).2,rfl⟩
theorem z1k:∀a:Fin 64,plB [((a:Nat):Int)]=true:=by decide +kernel
def Pq (c : Nat) : Prop := ∀ (a : Fin 4) (b : Fin 64), plB [((4 * c + (a : Nat) : Nat) : Int), ((b : Nat) : Int)] = true
theorem pq0 : ∀ (a : Fin 4) (b : Fin 64), plB [((4 * 0 + (a : Nat) : Nat) : Int), ((b : Nat) : Int)] = true := by decide +kernel
theorem pq1 : ∀ (a : Fin 4) (b : Fin 64), plB [((4 * 1 + (a : Nat) : Nat) : Int), ((b : Nat) : Int)] = true := by decide +kernel
theorem pq2 : ∀ (a : Fin 4) (b : Fin 64), plB [((4 * 2 + (a : Nat) : Nat) : Int), ((b : Nat) : Int)] = true := by decide +kernel
theorem pq3 : ∀ (a : Fin 4) (b : Fin 64), plB [((4 * 3 + (a : Nat) : Nat) : Int), ((b : Nat) : Int)] = true := by decide +kernel
theorem pq4 : ∀ (a : Fin 4) (b : Fin 64), plB [((4 * 4 + (a : Nat) : Nat) : Int), ((b : Nat) : Int)] = true := by decide +kernel
theorem pq5 : ∀ (a : Fin 4) (b : Fin 64), plB [((4 * 5 + (a : Nat) : Nat) : Int), ((b : Nat) : Int)] = true := by decide +kernel
theorem pq6 : ∀ (a : Fin 4) (b : Fin 64), plB [((4 * 6 + (a : Nat) : Nat) : Int), ((b : Nat) : Int)] = true := by decide +kernel
theorem pq7 : ∀ (a : Fin 4) (b : Fin 64), plB [((4 * 7 + (a : Nat) : Nat) : Int), ((b : Nat) : Int)] = true := by decide +kernel
theorem pq8 : ∀ (a : Fin 4) (b : Fin 64), plB [((4 * 8 + (a : Nat) : Nat) : Int), ((b : Nat) : Int)] = true := by decide +kernel
theorem pq9 : ∀ (a : Fin 4) (b : Fin 64), plB [((4 * 9 + (a : Nat) : Nat) : Int), ((b : Nat) : Int)] = true := by decide +kernel
theorem pq10 : ∀ (a : Fin 4) (b : Fin 64), plB [((4 * 10 + (a : Nat) : Nat) : Int), ((b : Nat) : Int)] = true := by decide +kernel
theorem pq11 : ∀ (a : Fin 4) (b : Fin 64), plB [((4 * 11 + (a : Nat) : Nat) : Int), ((b : Nat) : Int)] = true := by decide +kernel
theorem pq12 : ∀ (a : Fin 4) (b : Fin 64), plB [((4 * 12 + (a : Nat) : Nat) : Int), ((b : Nat) : Int)] = true := by decide +kernel
theorem pq13 : ∀ (a : Fin 4) (b : Fin 64), plB [((4 * 13 + (a : Nat) : Nat) : Int), ((b : Nat) : Int)] = true := by decide +kernel
theorem pq14 : ∀ (a : Fin 4) (b : Fin 64), plB [((4 * 14 + (a : Nat) : Nat) : Int), ((b : Nat) : Int)] = true := by decide +kernel
theorem pq15 : ∀ (a : Fin 4) (b : Fin 64), plB [((4 * 15 + (a : Nat) : Nat) : Int), ((b : Nat) : Int)] = true := by decide +kernel
theorem pqs : ∀ c, c < 16 → Pq c
  | 0, _ => pq0
  | 1, _ => pq1
  | 2, _ => pq2
  | 3, _ => pq3
  | 4, _ => pq4
  | 5, _ => pq5
  | 6, _ => pq6
  | 7, _ => pq7
  | 8, _ => pq8
  | 9, _ => pq9
  | 10, _ => pq10
  | 11, _ => pq11
  | 12, _ => pq12
  | 13, _ => pq13
  | 14, _ => pq14
  | 15, _ => pq15
  | n + 16, h => absurd h (by omega)
theorem zz8 : ∀ a b : Fin 64, plB [((a : Nat) : Int), ((b : Nat) : Int)] = true := fun a b => by
  have h := pqs (a.val / 4) (by omega) ⟨a.val % 4, by omega⟩ b
  have e : 4 * (a.val / 4) + a.val % 4 = a.val := by omega
  have h : plB [((4 * (a.val / 4) + a.val % 4 : Nat) : Int), ((b : Nat) : Int)] = true := h
  rw [e] at h
  exact h
theorem z3m {ns:List Nat} (hl:ns.length=1\/ns.length=2) (h:∀x∈ns,x < 64):plB (ns.map fun x:Nat=>(x:Int))=true:=by
 match ns,hl,h with
 | [a],_,h=>exact z1k ⟨a,h a (.head _)⟩
 | [a,b],_,h=>exact zz8 ⟨a,h a (.head _)⟩ ⟨b,h b (.tail _ (.head _))⟩
 | [],hl,_=>exact absurd hl (by decide)
 | _::_::_::_,hl,_=>exact absurd hl (by simp)
theorem zpq (Ψ:Str->Fn):zd7 (zao [false,false,false] 3 (zar Ψ)):=fun m f M hm hf h0=>by
 have p6:=zhk hm;have c:zay Ψ [some (.int (m:Nat),false),some (.int (zaa (tab (2 ^ m) f)),false),some (.tup (castL M),false)]=some ([some (.int (m:Nat),false),some (.int (zaa (tab (2 ^ m) f)),false),some (.tup (castL M),false)],(.lst ((csF (2 ^ m) f M).map one),true)):=by
  unfold zay;refine zlh (xs:=[some (.tup (castL M),false),some (.int (zaa (tab (2 ^ m) f)),false)]) (e0:=[some (.int (m:Nat),false),some (.int (zaa (tab (2 ^ m) f)),false),some (.tup (castL M),false)]) (ws:=rngW 0 (2 ^ m)) ?_ (by rw [zbg];omega) (by rw [zbg,List.length_map,zdh]) rfl rfl rfl (fun _ _=>rfl) fun i v0 w r hw hr=>?_
  ·have e1 := pow1 (l := m) (by omega);refine zh8 ?_ (by omega);simp! [e1,zan]
  ·obtain ⟨li, rfl⟩ := rngW_get hw;rw [Int.zero_add] at *
   rw [List.getElem?_map,zmg li] at hr;obtain rfl:=sI hr;refine ⟨some (.int (i:Nat),false),false,?_⟩;have ic:=in_c i M;by_cases q:i∈M
   ·rw [decide_eq_true q] at ic;have ec:one (cF f M i)=.str "?" := by unfold cF;rw [if_pos q];rfl
    rw [ec];simp! [ic]
   ·rw [decide_eq_false q] at ic;have e1:=pow1 (l:=i) (by omega);have e2:=divP (p:=zaa (tab (2 ^ m) f)) (l:=i) (by omega);have bb:=zat (n:=2 ^ m) fun i _=>hf i;have e3:zaa (tab (2 ^ m) f) / ((2 ^ i:Nat):Int) % 2=f i:=by
     have s:=zfg i _ bb;rw [zl8 h0,and1 (Int.ediv_nonneg (zca bb) (Int.pow_nonneg (by decide)))] at s;rw [<-s];norm_cast
    have ib:=z2f (hf i);have ec:cF f M i=if f i=1 then 49 else 48:=by unfold cF;rw [if_neg q]
    rw [ec];simp! [ic,e1,zan,e2,e3,ib]
 unfold zar;exact zbm rfl (zfr (zu5 c (by rw [zdh];omega))) rfl
noncomputable def zrk (Φ:Fn):Prop:=∀(k m:Nat) (st:W),HS k st->k+900 < big->m<=6->∃st' p,Φ [st,.int (m:Nat)]=some ([st',.int (m:Nat)],(.tup (castL ((List.range (2 ^ m)).filter p)),false))/\HS (k+80) st'
theorem zyf {Ψ:Str->Fn} (hK:zef (Ψ "_law_take")) {k m:Nat}{st:W}{v2 v3:Option (W × Bool)} (hs:HS k st) (hk:k+800 < big) (hm:m<=6):∃st' ns,zbk Ψ [some (st,true),some (.int (m:Nat),false),v2,v3]=some ([some (st',true),some (.int (m:Nat),false),v2,v3],(.lst (castL ns),true))/\HS (k+3) st'/\(ns.length=1\/ns.length=2)/\∀x∈ns,x < 2 ^ m:=by
 have p6:=zhk hm;have p1:=pow1 (l:=m) (by omega);obtain ⟨st1,r,e1,g1,r0,r2⟩:=hK k st 2 hs (by omega) (by decide) (by decide);obtain ⟨r,rfl⟩:=Int.eq_ofNat_of_zero_le r0;have ec:(1:Int)+(r:Int)=((1+r:Nat):Int):=by omega
 unfold zbk;obtain ⟨ce',out,hc,w0,w1,st',ns,rfl,g,rfl,ol,oq⟩:=zeq (cap:=[none,none,some 1,some 0]) (T:=.nm 1) (tc:=gYes) (te:=zae [true,false] (Ψ "_law_take") (gCns (zab 3) (gCns (gArg (gOp2 (oI cPow fun i j=>.int (i * 2 ^ j.toNat)) (gArg (gC (.int 1))) (zab 2))) gA0))) (fun i c dn=>∃u0 u1 st' ns,c=[u0,u1,some (.int (m:Nat),false),some (st',true)]/\HS (k+1+i) st'/\dn=castL ns/\ns.length=i/\∀x∈ns,x < 2 ^ m) (zh8 (a:=gArg (gOp2 oAdd (gArg (gC (.int 1))) (gArg (zae [true,false] (Ψ "_law_take") (gCns (zab 0) (gCns (gArg (gC (.int 2))) gA0)))))) (en:=[some (st,true),some (.int (m:Nat),false),v2,v3]) (e1:=[some (st1,true),some (.int (m:Nat),false),v2,v3]) (n:=1+r) (by simp! [e1,ec]) (by omega)) rfl (by rw [zbg,sizeLine_eq];omega) ⟨none,none,st1,[],rfl,g1,rfl,rfl,fun x h=>nomatch h⟩ fun i w c dn hw hp=>by
  obtain ⟨u0,u1,st',ns,rfl,g,rfl,ol,oq⟩:=hp;obtain ⟨li,rfl⟩:=rngW_get hw;obtain ⟨st2,x,e,g2,x0,xn⟩:=hK (k+1+i) st' ((2 ^ m:Nat):Int) g (by omega) (by have:=Nat.two_pow_pos m;omega) (by omega);obtain ⟨x,rfl⟩:=Int.eq_ofNat_of_zero_le x0;refine ⟨[u0,some (.int (0+(i:Int)),false),some (.int (m:Nat),false),some (st',true)],rfl,.inl ⟨_,[u0,some (.int (0+(i:Int)),false),some (.int (m:Nat),false),some (st2,true)],(.int (x:Nat),false),rfl,?_,_,_,st2,ns++[x],rfl,g2.mono (by omega),by unfold castL;rw [List.map_append];rfl,by rw [List.length_append,ol];rfl,fun y hy=>?_⟩⟩
  ·simp! [p1,zan,e]
  ·rcases List.mem_append.mp hy with h | h
   ·exact oq y h
   ·rw [List.mem_singleton.mp h];omega
 rw [zbg] at g ol;exact ⟨st',ns,hc,g.mono (by omega),by omega,oq⟩
theorem zwf {Ψ:Str->Fn} (hK:zef (Ψ "_law_take")) {k m:Nat}{o w:Int}{st:W} (hs:HS k st) (hk:k+800 < big) (hm:m<=6) (ho:0 < o) (ho2:o < 100):∃st' p,zcs Ψ [some (st,true),some (.int (m:Nat),false),some (.int w,false),some (.int o,false)]=some ([some (st',true),some (.int (m:Nat),false),some (.int w,false),some (.int o,false)],(.lst (castL ((List.range (2 ^ m)).filter p)),true))/\HS (k+64) st':=by
  have p6:=zhk hm;have p1:=pow1 (l:=m) (by omega);unfold zcs;obtain ⟨ce',out,hc,w0,w1,st',p,rfl,g,rfl⟩:=zeq (cap:=[none,none,some 3,some 0,some 2]) (T:=.nm 1) (tc:=zai (gOp2 oNe (gArg (gOp2 oEq (gArg (zae [true,false] (Ψ "_law_take") (gCns (zab 3) (gCns (gArg (gVar 2)) gA0)))) (gArg (gC (.int 0))))) (gArg (gOp2 oEq (zab 4) (gArg (gC (.int 7))))))) (te:=gVar 1) (fun i c dn=>∃u0 u1 st' p,c=[u0,u1,some (.int o,false),some (st',true),some (.int w,false)]/\HS (k+i) st'/\dn=castL ((List.range i).filter p)) (zh8 (a:=gArg (gOp2 (oI cPow fun i j=>.int (i * 2 ^ j.toNat)) (gArg (gC (.int 1))) (zab 1))) (en:=[some (st,true),some (.int (m:Nat),false),some (.int w,false),some (.int o,false)]) (e1:=[some (st,true),some (.int (m:Nat),false),some (.int w,false),some (.int o,false)]) (n:=2 ^ m) (by simp! [p1,zan]) (by omega)) rfl (by rw [zbg,sizeLine_eq];omega) ⟨none,none,st,fun _=>false,rfl,hs,rfl⟩ fun i x c dn hw hp=>by
    obtain ⟨u0,u1,st',p,rfl,g,rfl⟩:=hp;obtain ⟨li,rfl⟩:=rngW_get hw;obtain ⟨st2,x,e,g2,x0,xn⟩:=hK (k+i) st' o g (by omega) ho (by omega);have nb:oNe (.bl (decide (x=0))) (.bl (decide (w=7)))=some (.bl (decide (x=0) != decide (w=7)),false):=by
      cases decide (x=0)<;>cases decide (w=7)<;>rfl
    refine ⟨[u0,some (.int (0+(i:Int)),false),some (.int o,false),some (st',true),some (.int w,false)],rfl,?_⟩;have tst:zai (gOp2 oNe (gArg (gOp2 oEq (gArg (zae [true,false] (Ψ "_law_take") (gCns (zab 3) (gCns (gArg (gVar 2)) gA0)))) (gArg (gC (.int 0))))) (gArg (gOp2 oEq (zab 4) (gArg (gC (.int 7)))))) [u0,some (.int (0+(i:Int)),false),some (.int o,false),some (st',true),some (.int w,false)]=some ([u0,some (.int (0+(i:Int)),false),some (.int o,false),some (st2,true),some (.int w,false)],decide (x=0) != decide (w=7)):=by simp! [e,nb]
    cases hb:(decide (x=0) != decide (w=7)) with
    | true =>
      rw [hb] at tst;refine .inl ⟨_,_,(.int (0+(i:Int)),false),tst,rfl,_,_,st2,fun x=>if x=i then true else p x,rfl,g2,?_⟩;rw [zjo];unfold castL;rw [List.map_append,Int.zero_add];rfl
    | false =>
      rw [hb] at tst;refine .inr ⟨_,tst,_,_,st2,fun x=>if x=i then false else p x,rfl,g2,?_⟩;rw [zjo];unfold castL;rw [List.map_append];simp
  rw [zbg] at g hc;exact ⟨st',p,hc,g.mono (by omega)⟩
theorem zxp {Ψ:Str->Fn} (hK:zef (Ψ "_law_take")):zrk (zao [true,false] 4 (zch Ψ)):=fun k m st hs hk hm=>by
 have p6:=zhk hm;have p1:=pow1 (l:=m) (by omega);obtain ⟨st1,r,e1,g1,r0,r8⟩:=hK k st 8 hs (by omega) (by decide) (by decide);have a1:gSet [0] 2 (zae [true,false] (Ψ "_law_take") (gCns (zab 0) (gCns (gArg (gC (.int 8))) gA0))) [some (st,true),some (.int (m:Nat),false),none,none]=some ([some (st1,true),some (.int (m:Nat),false),some (.int r,false),none],.nx):=by simp! [e1]
 unfold zch;by_cases c0:r=0
 ·subst c0;refine ⟨st1,fun _=>false,zbm (en:=[some (st1,true),some (.int (m:Nat),false),some (.int 0,false),none]) rfl (seq_e a1 (zle ?_)) rfl,g1.mono (by omega)⟩;have:castL ((List.range (2 ^ m)).filter fun _=>false)=[]:=by simp [castL]
  rw [this];simp! []
 have d0:decide (r=0)=false:=decide_eq_false c0;by_cases c1:r=1
 ·subst c1;refine ⟨st1,fun _=>true,zbm (en:=[some (st1,true),some (.int (m:Nat),false),some (.int 1,false),none]) rfl (seq_e a1 (seq_e (e1:=[some (st1,true),some (.int (m:Nat),false),some (.int 1,false),none]) (by simp! []) (zle ?_))) rfl,g1.mono (by omega)⟩;have tr:=z0l (a:=gArg (gOp2 (oI cPow fun i j=>.int (i * 2 ^ j.toNat)) (gArg (gC (.int 1))) (zab 1))) (en:=[some (st1,true),some (.int (m:Nat),false),some (.int 1,false),none]) (e1:=[some (st1,true),some (.int (m:Nat),false),some (.int 1,false),none]) (n:=2 ^ m) (by simp! [p1,zan]) (by omega);have:castL ((List.range (2 ^ m)).filter fun _=>true)=castL (List.range (2 ^ m)):=by congr 1;exact List.filter_eq_self.mpr fun _ _=>rfl
  rw [this];refine (ztn (e1:=[some (st1,true),some (.int (m:Nat),false),some (.int 1,false),none]) (by simp! [])).trans (zfr tr)
 have d1:decide (r=1)=false:=decide_eq_false c1;by_cases c4:r < 4
 ·have d4 : decide (r < 4) = true := decide_eq_true c4;obtain ⟨st2,ns,ec,g2,hl,hn⟩:=zyf hK (v2:=some (.int r,false)) (v3:=none) g1 (by omega) hm;refine ⟨st2,fun x=>decide (x∈ns),zbm (en:=[some (st2,true),some (.int (m:Nat),false),some (.int r,false),none]) rfl (seq_e a1 (seq_e (e1:=[some (st1,true),some (.int (m:Nat),false),some (.int r,false),none]) (by simp! [d0]) (seq_e (e1:=[some (st1,true),some (.int (m:Nat),false),some (.int r,false),none]) (by simp! [d1]) (zle ((ztn (e1:=[some (st1,true),some (.int (m:Nat),false),some (.int r,false),none]) (by simp! [d4])).trans (zfr ?_)))))) rfl,g2.mono (by omega)⟩;have ss:gSS (gCns (gArg (zbk Ψ)) gA0) [some (st1,true),some (.int (m:Nat),false),some (.int r,false),none]=some ([some (st2,true),some (.int (m:Nat),false),some (.int r,false),none],(.lst (castL ((List.range (2 ^ m)).filter fun x=>decide (x∈ns))),true)):=by
   rw [zhf,<-zsn hn];refine z4g (xs:=[.inl (.lst (castL ns))]) (by simp! [ec]) (by rw [zhf];rfl) (by rw [List.length_map];omega) (z3m hl fun x hx=>by have:=hn x hx;omega)
  have ot:∀ws,zec [.lst ws]=some (.tup ws,false):=fun _=>rfl;simp! [ss,ot]
 ·have d4 : decide (r < 4) = false := decide_eq_false c4;have oi:∃o:Int,0 < o/\o < 100/\gSet [0] 3 (gOp2 oIx (gArg (za8 (gCns (gArg (gC (.int 8))) (gCns (gArg (gC (.int 4))) (gCns (gArg (gC (.int 2))) (gCns (gArg (gC (.int 2))) gA0)))))) (gArg (gOp2 (oI yes2 fun i j=>.int (i - j)) (zab 2) (gArg (gC (.int 4)))))) [some (st1,true),some (.int (m:Nat),false),some (.int r,false),none]=some ([some (st1,true),some (.int (m:Nat),false),some (.int r,false),some (.int o,false)],.nx):=by
   have:r=4\/r=5\/r=6\/r=7:=by omega
   rcases this with rfl | rfl | rfl | rfl
   ·exact ⟨8,by decide,by decide,by rfl⟩
   ·exact ⟨4,by decide,by decide,by rfl⟩
   ·exact ⟨2,by decide,by decide,by rfl⟩
   ·exact ⟨2,by decide,by decide,by rfl⟩
  obtain ⟨o,o0,o9,eo⟩:=oi;obtain ⟨st2,p,ec,g2⟩:=zwf hK (w:=r) g1 (by omega) hm o0 o9;refine ⟨st2,p,zbm (en:=[some (st2,true),some (.int (m:Nat),false),some (.int r,false),some (.int o,false)]) rfl (seq_e a1 (seq_e (e1:=[some (st1,true),some (.int (m:Nat),false),some (.int r,false),none]) (by simp! [d0]) (seq_e (e1:=[some (st1,true),some (.int (m:Nat),false),some (.int r,false),none]) (by simp! [d1]) (seq_e (e1:=[some (st1,true),some (.int (m:Nat),false),some (.int r,false),none]) (by simp! [d4]) (seq_e eo (zfr ?_)))))) rfl,g2.mono (by omega)⟩;have ot:∀ws,zec [.lst ws]=some (.tup ws,false):=fun _=>rfl;simp! [ec,ot]
theorem zu4 {n:Nat}{f g:Nat->Int}{M:List Nat} (h:∀i,i ∉ M->f i=g i):txF n f M=txF n g M:=by
 unfold txF csF;have:cF f M=cF g M:=funext fun i=>by
  unfold cF;by_cases q:i∈M
  ·rw [if_pos q,if_pos q]
  ·rw [if_neg q,if_neg q,h i q]
 rw [this]
theorem zi0 (n:Nat) (f:Nat->Int):zaa (tab (n+1) f)=zaa (tab n f)+2 ^ n * f n:=by
 rw [zbx,zav,zaq];have:zaa [f n]=f n:=by simp [zaa]
 rw [this]
theorem z1d {a b c d:Nat->Int} (h:∀i,a i+b i - c i=d i):∀n,zaa (tab n a)+zaa (tab n b) - zaa (tab n c)=zaa (tab n d)
  | 0=>rfl
  | n+1=>by
    rw [zi0,zi0,zi0,zi0,<-z1d h n,<-h n,Int.mul_sub,Int.mul_add];omega
noncomputable def inF (M:List Nat) (i:Nat):Int:=if i∈M then 1 else 0
theorem zpc (M:List Nat) (i:Nat):Bit (inF M i):=by
 unfold inF;split
 ·exact .inr rfl
 ·exact .inl rfl
theorem zip_tab (h:Int->Int->Int) (n:Nat) (f g:Nat->Int):List.zipWith h (tab n f) (tab n g)=tab n fun i=>h (f i) (g i):=by
 unfold tab;rw [List.zipWith_map,List.zipWith_self]
theorem w_or {n:Nat}{f:Nat->Int} (hf:∀i,Bit (f i)) (M:List Nat):Builtin.bitOr (zaa (tab n f)) (zaa (tab n (inF M)))=zaa (tab n fun i=>if i∈M then 1 else f i):=by
 rw [zut,zfo (zat fun i _=>hf i) (zat fun i _=>zpc M i),zip_tab];refine z1d (fun i=>?_) n;unfold inF;by_cases q:i∈M
 ·rw [if_pos q,if_pos q];omega
 ·rw [if_neg q,if_neg q];omega
theorem z34 {n:Nat}{f:Nat->Int} (hf:∀i,Bit (f i)) (M:List Nat):Builtin.bitXor (zaa (tab n fun i=>if i∈M then 1 else f i)) (zaa (tab n (inF M)))=zaa (tab n fun i=>if i∈M then 0 else f i):=by
 have hb:∀i,Bit (if i∈M then 1 else f i):=fun i=>by
  split
  ·exact .inr rfl
  ·exact hf i
 rw [zh1 (zat fun i _=>hb i) (zat fun i _=>zpc M i) (by rw [zaq,zaq]),zip_tab];congr 1;refine zb2 fun i _=>?_;unfold inF;by_cases q:i∈M
 ·rw [if_pos q,if_pos q,if_pos q];rfl
 ·rw [if_neg q, if_neg q, if_neg q];rcases hf i with e | e<;>rw [e]<;>rfl
theorem zz9 (p:Nat->Bool):∀n,(((List.range n).filter p).map fun i:Nat=>(1:Int) * 2 ^ i).sum=zaa (tab n fun i=>if p i then 1 else 0)
  | 0=>rfl
  | n+1=>by
    rw [zi0,List.range_succ,List.filter_append,List.map_append,List.sum_append_int,zz9 p n];congr 1;cases q:p n<;>simp [q]
theorem z26 (p:Nat->Bool) (n:Nat):(((List.range n).filter p).map fun i:Nat=>(1:Int) * 2 ^ i).sum=zaa (tab n (inF ((List.range n).filter p))):=by
 rw [zz9];congr 1;refine zb2 fun i hi=>?_;unfold inF;by_cases q:p i=true
 ·rw [if_pos q,if_pos (List.mem_filter.mpr ⟨List.mem_range.mpr hi,q⟩)]
 ·rw [if_neg q,if_neg fun z=>q (List.mem_filter.mp z).2]
theorem z1n (Ψ:Str->Fn) {n:Nat}{p:Nat->Bool} (hn:n<=64) {v0 v1 v2 v3 v4 v6 v7 v8 v9:Option (W × Bool)}:zri Ψ [v0,v1,v2,v3,v4,some (.tup (castL ((List.range n).filter p)),false),v6,v7,v8,v9]=some ([v0,v1,v2,v3,v4,some (.tup (castL ((List.range n).filter p)),false),v6,v7,v8,v9],(.lst ((((List.range n).filter p).map fun i:Nat=>(1:Int) * 2 ^ i).map W.int),true)):=by
 have ll:((List.range n).filter p).length<=64:=by have:=List.length_filter_le p (List.range n);rw [List.length_range] at this;omega
 have lt:∀x∈(List.range n).filter p,x < 64:=fun x hx=>by have:=List.mem_range.mp (List.mem_filter.mp hx).1;omega
 generalize (List.range n).filter p=M at ll lt;unfold zri;refine zlh (xs:=[]) (e0:=[v0,v1,v2,v3,v4,some (.tup (castL M),false),v6,v7,v8,v9]) (ws:=castL M) rfl (by rw [zfh];omega) (by rw [zfh,List.length_map,List.length_map]) rfl rfl rfl (fun _ _=>rfl) fun i u0 w r hw hr=>?_;obtain ⟨x,hx,rfl⟩:=zia hw;rw [List.getElem?_map,List.getElem?_map,hx] at hr;obtain rfl:=sI hr;have p1:=pow1 (l:=x) (by have:=lt x (List.mem_of_getElem? hx);omega);refine ⟨some (.int (x:Nat),false),false,?_⟩;simp! [p1]
theorem z2r {Ψ:Str->Fn} (hK:zef (Ψ "_law_take")) (hB:zn9 (Ψ "_law_bits")) (hW:zro (Ψ "_law_word")) (hO:zrk (Ψ "_law_lost")) (hL:zd7 (Ψ "_law_heard_text")) (hH:zd7 (Ψ "heard_text")) (hS:zwc (Ψ "read_heard")) {k:Nat}{st:W}{v0 v2 v3 v4 v5 v6 v7 v8 v9:Option (W × Bool)} (hs:HS k st) (hk:k+1900 < big):∃st' w3 w4 w5 w6 w7 w8 w9,zlp Ψ [v0,some (st,true),v2,v3,v4,v5,v6,v7,v8,v9]=some ([v0,some (st',true),v2,w3,w4,w5,w6,w7,w8,w9],.nx)/\HS (k+160) st':=by
 obtain ⟨st1,r,e1,g1,r0,r5⟩:=hK k st 6 hs (by omega) (by decide) (by decide);obtain ⟨st2,q,e2,g2,q0,q8⟩:=hK (k+1) st1 8 g1 (by omega) (by decide) (by decide);obtain ⟨r,rfl⟩:=Int.eq_ofNat_of_zero_le r0;have ch:∃m:Nat,gSet [] 3 (gOp2 oIx (gArg (za8 (gCns (gArg (gOp2 oAdd (gArg (gC (.int 1))) (gArg (zae [true,false] (Ψ "_law_take") (gCns (zab 1) (gCns (gArg (gC (.int 6))) gA0)))))) (gCns (gArg (gC (.int 6))) gA0)))) (gArg (gOpN oInt (gCns (gArg (gOp2 oEq (gArg (zae [true,false] (Ψ "_law_take") (gCns (zab 1) (gCns (gArg (gC (.int 8))) gA0)))) (gArg (gC (.int 0))))) gA0)))) [v0,some (st,true),v2,v3,v4,v5,v6,v7,v8,v9]=some ([v0,some (st2,true),v2,some (.int (m:Nat),false),v4,v5,v6,v7,v8,v9],.nx)/\m<=6:=by
  by_cases c:q=0
  ·subst c;have oi:oInt [.bl true]=some (.int 1,false):=rfl;exact ⟨6,by simp! [e1,e2,oi],Nat.le_refl _⟩
  ·have d : decide (q = 0) = false := decide_eq_false c;have oi:oInt [.bl false]=some (.int 0,false):=rfl;have ec:(1:Int)+(r:Int)=((1+r:Nat):Int):=by omega
   exact ⟨1+r,by simp! [e1,e2,d,oi,ec],by omega⟩
 obtain ⟨m,e3,hm⟩:=ch;have p6:=zhk hm;have p1:=pow1 (l:=m) (by omega);obtain ⟨st4,xs,e4,g4,lx,bx⟩:=hB (k+2) st2 ((2 ^ m:Nat):Int) g2 (by omega) (Int.natCast_nonneg _) (by omega);obtain ⟨st5,p,e6,g5⟩:=hO (k+2+66) m st4 g4 (by omega) hm;have lx:xs.length=2 ^ m:=by omega
 have xe:xs=tab (2 ^ m) fun i=>xs.getD i 0:=by rw [<-lx,tab_of]
 have e5:=hW xs;have hf:=getD_bit bx;have h0:∀i,2 ^ m<=i->xs.getD i 0=0:=fun i h=>z19 i (by omega);have we:zaa xs=zaa (tab (2 ^ m) fun i=>xs.getD i 0):=by rw [<-xe]
 rw [we] at e5;generalize hfe:(fun i=>xs.getD i 0)=f at *
 have hf:∀i,Bit (f i):=by rw [<-hfe];exact hf
 have h0:∀i,2 ^ m<=i->f i=0:=by rw [<-hfe];exact h0
 have sm:=z26 p (2 ^ m);have fs:=zow (2 ^ m) p;have cl:=fun {v0 v1 v2 v3 v4 v6 v7 v8 v9:Option (W × Bool)}=>z1n Ψ (n:=2 ^ m) (p:=p) p6 (v0:=v0) (v1:=v1) (v2:=v2) (v3:=v3) (v4:=v4) (v6:=v6) (v7:=v7) (v8:=v8) (v9:=v9);have lM:((List.range (2 ^ m)).filter p).length<=64:=by have:=List.length_filter_le p (List.range (2 ^ m));rw [List.length_range] at this;omega
 have ltM:∀x∈(List.range (2 ^ m)).filter p,x < 2 ^ m:=fun x hx=>List.mem_range.mp (List.mem_filter.mp hx).1;have su:=z31 (((List.range (2 ^ m)).filter p).map fun i:Nat=>(1:Int) * 2 ^ i);rw [sm] at su;generalize (List.range (2 ^ m)).filter p=M at *
 have hf1:∀i,Bit (if i∈M then 1 else f i):=fun i=>by
  split
  ·exact .inr rfl
  ·exact hf i
 have hf0:∀i,Bit (if i∈M then 0 else f i):=fun i=>by
  split
  ·exact .inl rfl
  ·exact hf i
 have t:=hL m f M hm hf h0;have h1:=hH m f M hm hf h0;have h2:=hH m (fun i=>if i∈M then 1 else f i) M hm hf1 fun i hi=>by
  show (if i∈M then 1 else f i)=0;rw [if_neg fun z=>by have:=ltM i z;omega];exact h0 i hi
 have h3:=hH m (fun i=>if i∈M then 0 else f i) M hm hf0 fun i hi=>by
  show (if i∈M then 0 else f i)=0;rw [if_neg fun z=>by have:=ltM i z;omega];exact h0 i hi
 have x2:txF (2 ^ m) (fun i=>if i∈M then 1 else f i) M=txF (2 ^ m) f M:=zu4 fun i q=>if_neg q;have x3:txF (2 ^ m) (fun i=>if i∈M then 0 else f i) M=txF (2 ^ m) f M:=zu4 fun i q=>if_neg q;rw [x2] at h2;rw [x3] at h3;have rh:=hS m f M hm hf;rw [fs] at rh;have rp:=zvt f M p6;have wo:=w_or (n:=2 ^ m) hf M;have wd:=z34 (n:=2 ^ m) hf M;obtain ⟨s,rm⟩:=ztz (a:=zaa (tab (2 ^ m) fun i=>if i∈M then 0 else f i)) (ns:=M.map fun p:Nat=>(p:Int)) (zx9 hm hf0) (fun n hn=>by
  obtain ⟨x,hx,rfl⟩:=List.mem_map.mp hn;have:=ltM x hx;exact zmf (k:=64) (by omega) (by decide)) (by rw [List.length_map];omega)
 have rm:zkg [.tup [.int (zaa (tab (2 ^ m) fun i=>if i∈M then 0 else f i)),.tup (castL M)]]=some (.str s,false):=by rw [zhf];exact rm
 generalize zaa (tab (2 ^ m) fun i=>if i∈M then 0 else f i)=d at *
 generalize zaa (tab (2 ^ m) fun i=>if i∈M then 1 else f i)=u at *
 generalize zaa (tab (2 ^ m) (inF M))=g at *
 generalize zaa (tab (2 ^ m) f)=w at *
 generalize txF (2 ^ m) f M=x at *
 refine ⟨st5,some (.int (m:Nat),false),some (.int w,false),some (.tup (castL M),false),some (.int g,false),some (.str x,false),some (.tup [.int d,.tup (castL M)],false),some (.tup [.int d,.tup (castL M)],false),?_,g5.mono (by omega)⟩;unfold zlp;refine seq_e e3 (seq_e (e1:=[v0,some (st5,true),v2,some (.int (m:Nat),false),some (.int w,false),some (.tup (castL M),false),v6,v7,v8,v9]) ?_ (seq_e (e1:=[v0,some (st5,true),v2,some (.int (m:Nat),false),some (.int w,false),some (.tup (castL M),false),some (.int g,false),v7,v8,v9]) ?_ (seq_e (e1:=[v0,some (st5,true),v2,some (.int (m:Nat),false),some (.int w,false),some (.tup (castL M),false),some (.int g,false),some (.str x,false),v8,v9]) ?_ (seq_e (e1:=[v0,some (st5,true),v2,some (.int (m:Nat),false),some (.int w,false),some (.tup (castL M),false),some (.int g,false),some (.str x,false),some (.tup [.int d,.tup (castL M)],false),v9]) ?_ (seq_e (e1:=[v0,some (st5,true),v2,some (.int (m:Nat),false),some (.int w,false),some (.tup (castL M),false),some (.int g,false),some (.str x,false),some (.tup [.int d,.tup (castL M)],false),v9]) ?_ (seq_e (e1:=[v0,some (st5,true),v2,some (.int (m:Nat),false),some (.int w,false),some (.tup (castL M),false),some (.int g,false),some (.str x,false),some (.tup [.int d,.tup (castL M)],false),some (.tup [.int d,.tup (castL M)],false)]) ?_ ?_))))))
 ·refine par_ev (e1 := [v0, some (st4, true), v2, some (.int (m : Nat), false), v4, v5, v6, v7, v8, v9]) (e2 := [v0, some (st5, true), v2, some (.int (m : Nat), false), v4, v5, v6, v7, v8, v9]) (r1 := (.int w, false)) (r2 := (.tup (castL M), false)) ?_ ?_ rfl
  ·simp! [p1,zan,e4,e5]
  ·simp! [e6]
 ·simp! [cl,su]
 ·simp! [t]
 ·simp! [wo,wd]
 ·simp! [h1,wo,h2,rp]
 ·simp! [rh]
 ·simp! [rm,h3]
theorem zsd (ns:List Int) (hl:ns.length<=63):sem T bn 40 "law" [.frl (ns.map W.int)]=some ([.frl (ns.map W.int)],(.bl true,false)):=by
 have bb:(20000:Nat) < big:=by decide
 rw [z3g];generalize hΨ:sem T bn 39=Ψ;have hH:zvc (Ψ "_law_hand"):=by rw [<-hΨ,zkb];exact zwz (sem T bn 0)
 have hT:∀d,zef (sem T bn (d+3) "_law_take"):=fun d=>by rw [zj2];exact zwu (sem T bn 0)
 have hK:zef (Ψ "_law_take"):=by rw [<-hΨ];exact hT 36
 have hB:zn9 (Ψ "_law_bits"):=by rw [<-hΨ,zke];exact zy1 (hT 35)
 have hW:zro (Ψ "_law_word"):=by rw [<-hΨ,zk9];exact zy0 (sem T bn 0)
 have hO:zrk (Ψ "_law_lost"):=by rw [<-hΨ,zka];exact zxp (hT 35)
 have hL:zd7 (Ψ "_law_heard_text"):=by rw [<-hΨ,zdz];exact zpq _
 have hM:zd7 (Ψ "heard_text"):=by rw [<-hΨ,zhw];exact zso (by rw [zzv];exact zv4 (sem T bn 0))
 have hG:∀d,zgn (sem T bn (d+3) "is_signs"):=fun d=>by rw [znx];exact zrt _
 have hA:∀d,zgr (sem T bn (d+3) "word_at"):=fun d=>by rw [zrc];exact zm6 (sem T bn 0)
 have hP:∀d,zgi (sem T bn (d+3) "places_of"):=fun d=>by rw [zk6];exact zp0 _
 have hS:zwc (Ψ "read_heard"):=by rw [<-hΨ,zjg];exact ztg (hG 35) (hA 35) (hP 35)
 obtain ⟨st0,h0,g0⟩:=hH ns hl;have ct:∃t:Nat,t<=16/\gArg (gOpN oMax (gCns (gArg (gC (.int 4))) (gCns (gArg (gOpN oMin (gCns (gArg (gC (.int 16))) (gCns (gArg (gOpN oLen (gCns (zab 0) gA0))) gA0)))) gA0))) [some (.frl (ns.map W.int),false),some (st0,true),none,none,none,none,none,none,none,none]=some ([some (.frl (ns.map W.int),false),some (st0,true),none,none,none,none,none,none,none,none],.inl (.int (t:Nat))):=by
  have s:seqW (.frl (ns.map W.int))=some (ns.map W.int):=rfl;have om:∃n:Nat,oMin [.int 16,.int (ns.length:Nat)]=some (.int (n:Nat),false)/\n<=16:=by
   by_cases c:(ns.length:Int) < 16
   ·exact ⟨ns.length,by show some (W.int (if (ns.length:Int) < 16 then _ else _),false)=_;rw [if_pos c],by omega⟩
   ·exact ⟨16,by show some (W.int (if (ns.length:Int) < 16 then _ else _),false)=_;rw [if_neg c];rfl,by omega⟩
  obtain ⟨n,om,hn⟩:=om;have ox:∃j:Nat,oMax [.int 4,.int (n:Nat)]=some (.int (j:Nat),false)/\j<=16:=by
   by_cases c:(n:Int) > 4
   ·exact ⟨n,by show some (W.int (if (n:Int) > 4 then _ else _),false)=_;rw [if_pos c],hn⟩
   ·exact ⟨4,by show some (W.int (if (n:Int) > 4 then _ else _),false)=_;rw [if_neg c];rfl,by omega⟩
  obtain ⟨j,ox,hj⟩:=ox;exact ⟨j,hj,by simp! [s,List.length_map,om,ox]⟩
 obtain ⟨t,t16,ct⟩:=ct;have l2:∃en',zqx Ψ [some (.frl (ns.map W.int),false),some (st0,true),none,none,none,none,none,none,none,none]=some (some (.frl (ns.map W.int),false)::en',.nx):=by
  unfold zqx;obtain ⟨en',h,st',w2,w3,w4,w5,w6,w7,w8,w9,rfl,_⟩:=zdc (mp:=[]) (T:=.nm 2) (body:=zlp Ψ) (fun i e=>∃st' w2 w3 w4 w5 w6 w7 w8 w9,e=[some (.frl (ns.map W.int),false),some (st',true),w2,w3,w4,w5,w6,w7,w8,w9]/\HS (160 * i) st') (zh8 ct (by omega)) ⟨_,_,_,_,_,_,_,_,_,rfl,g0⟩ fun i w e hw hp=>by
   obtain ⟨st',w2,w3,w4,w5,w6,w7,w8,w9,rfl,g⟩:=hp;obtain ⟨li,rfl⟩:=rngW_get hw;obtain ⟨st2,x3,x4,x5,x6,x7,x8,x9,hb,g2⟩:=z2r (Ψ:=Ψ) (v0:=some (.frl (ns.map W.int),false)) (v2:=some (.int (0+(i:Int)),false)) (v3:=w3) (v4:=w4) (v5:=w5) (v6:=w6) (v7:=w7) (v8:=w8) (v9:=w9) hK hB hW hO hL hM hS g (by omega);exact ⟨_,_,rfl,.inl hb,_,_,_,_,_,_,_,_,_,rfl,g2.mono (by omega)⟩
  exact ⟨_,h⟩
 obtain ⟨en',l2⟩:=l2;have r1:=hS 1 (fun i=>if i=1 then 1 else 0) [0] (by decide) fun i=>by
  show Bit (if i=1 then 1 else 0);split
  ·exact .inr rfl
  ·exact .inl rfl
 have y1:Ψ "read_heard" [.int 1,.str "?1"]=some ([.int 1,.str "?1"],(.tup [.int 2,.tup [.int 0]],false)):=r1;have oe:oEq (.tup [.int 2,.tup [.int 0]]) (.tup [.int 2,.tup [.int 0]])=some (.bl true,false):=by rfl
 unfold zxs;refine zbm (en:=some (.frl (ns.map W.int),false)::en') rfl (seq_e (e1:=[some (.frl (ns.map W.int),false),some (st0,true),none,none,none,none,none,none,none,none]) ?_ (seq_e l2 ?_)) rfl
 ·simp! [h0]
 ·simp! [y1,oe]
noncomputable abbrev nA (K:PySem.W.Frag) (n:Str) (f:Addr):Prop:=PySem.W.nsIn K mainGlobals n=some (some (.ref f))
noncomputable abbrev nL (K:PySem.W.Frag) (f:Addr) (oc:Value) (od:Option Addr) (n:Str) (st:Stmt) (kV dc pm:Value) (an:Option Addr) (cd ct:Value) (sl:Array (Option Value)):Prop:=K.lookup f=some ⟨oc,od,.func (PySem.W.fnOf n n (zd1 st) (zct st) (zaj st) .none kV dc pm an cd ct),sl⟩
noncomputable abbrev nC (K:PySem.W.Frag) (cd:Value) (n:Str):Prop:=PySem.W.codeIn K cd n=true
noncomputable abbrev nK (K:PySem.W.Frag) (f:Addr):Prop:=PySem.W.keepIn K (.ref f)=true
noncomputable def nD (K:PySem.W.Frag) (t:Fd):Prop:=∃(f:Addr) (oc:Value) (od:Option Addr) (kV dc pm:Value) (an:Option Addr) (cd ct:Value) (sl:Array (Option Value)),nA K t.nm f/\nL K f oc od t.nm t.st kV dc pm an cd ct sl/\nC K cd t.nm/\nK K f
theorem nD_i {K:PySem.W.Frag}{n:Str}{t:Fd}{f:Addr}{oc:Value}{od:Option Addr}{kV dc pm:Value}{an:Option Addr}{cd ct:Value}{sl:Array (Option Value)} (e:t.nm=n) (a:nA K n f) (l:nL K f oc od n t.st kV dc pm an cd ct sl) (c:nC K cd n) (k:nK K f):nD K t:=by
 subst e;exact ⟨_,_,_,_,_,_,_,_,_,_,a,l,c,k⟩
noncomputable def bO (t:Fd):Prop:=FnScope t.N t.ps (zaj t.st)/\t.m.length=t.ps.length/\∀(kV doc pm:Value) (an:Option Addr) (cdv ct:Value) (us:List Value),us.length=t.ps.length->bindArgs (PySem.W.fnOf t.nm t.nm (zd1 t.st) (zct t.st) (zaj t.st) .none kV doc pm an cdv ct) ⟨us,[]⟩=pure (t.ps.zip us)
theorem z3t {K:PySem.W.Frag}{h:Heap}{mg:Str->Option Value} (X:K.In h) (G:h.Ns mainGlobals mg) {t:Fd} (b:bO t) (lm:t.nm∈lams->zt9 K t.nm=true) (d:nD K t):FdOk K mg t:=by
 obtain ⟨f,oc,od,kV,dc,pm,an,cd,ct,sl,a,l,c,k⟩:=d;have F:=zuv (st:=t.st) l c k;exact ⟨b.1,b.2.1,⟨_,_,F,F.binds b.2.2,PySem.W.mg_of X G a⟩,lm⟩
theorem nd_T:(T.map (·.nm)).Nodup:=by decide +kernel
theorem all_c {α:Type}{P:α->Prop}{a:α}{l:List α} (h:P a) (r:∀x∈l,P x):∀x∈a::l,P x:=List.forall_mem_cons.mpr ⟨h,r⟩
theorem all_n {α:Type}{P:α->Prop}:∀x∈([]:List α),P x:=fun _ h=>nomatch h
@[elab_as_elim] theorem lenS {α:Type}{P:List α->Prop}{n:Nat} (us:List α) (hl:us.length=n+1) (h:∀a l,l.length=n->P (a::l)):P us:=by
 cases us with
 | nil=>cases hl
 | cons a l=>exact h a l (Nat.succ.inj hl)
@[elab_as_elim] theorem len0 {α:Type}{P:List α->Prop} (us:List α) (hl:us.length=0) (h:P []):P us:=by
 cases us with
 | nil=>exact h
 | cons a l=>cases hl
@[elab_as_elim] theorem len1 {α:Type}{P:List α->Prop} (us:List α) (hl:us.length=1) (h:∀a,P [a]):P us:=lenS us hl fun a l e=>len0 l e (h a)
@[elab_as_elim] theorem len2 {α:Type}{P:List α->Prop} (us:List α) (hl:us.length=2) (h:∀a b,P [a,b]):P us:=lenS us hl fun a l e=>lenS l e fun b l e=>len0 l e (h a b)
@[elab_as_elim] theorem len3 {α:Type}{P:List α->Prop} (us:List α) (hl:us.length=3) (h:∀a b c,P [a,b,c]):P us:=lenS us hl fun a l e=>len2 l e (h a)
theorem zxq:bO zmi:=⟨⟨by kernel_rfl,by kernel_rfl,by kernel_rfl,by decide +kernel,rfl,by decide +kernel,by decide +kernel⟩,rfl,fun _ _ _ _ _ _ us hl=>len2 us hl fun _ _=>rfl⟩
theorem zmp:bO zds:=⟨⟨by kernel_rfl,by kernel_rfl,by kernel_rfl,by decide +kernel,rfl,by decide +kernel,by decide +kernel⟩,rfl,fun _ _ _ _ _ _ us hl=>len1 us hl fun _=>rfl⟩
theorem zgx:bO zbp:=⟨⟨by kernel_rfl,by kernel_rfl,by kernel_rfl,by decide +kernel,rfl,by decide +kernel,by decide +kernel⟩,rfl,fun _ _ _ _ _ _ us hl=>len3 us hl fun _ _ _=>rfl⟩
theorem zhn:bO zcd:=⟨⟨by kernel_rfl,by kernel_rfl,by kernel_rfl,by decide +kernel,rfl,by decide +kernel,by decide +kernel⟩,rfl,fun _ _ _ _ _ _ us hl=>len2 us hl fun _ _=>rfl⟩
theorem zkz:bO zc3:=⟨⟨by kernel_rfl,by kernel_rfl,by kernel_rfl,by decide +kernel,rfl,by decide +kernel,by decide +kernel⟩,rfl,fun _ _ _ _ _ _ us hl=>len3 us hl fun _ _ _=>rfl⟩
theorem zgj:bO zbr:=⟨⟨by kernel_rfl,by kernel_rfl,by kernel_rfl,by decide +kernel,rfl,by decide +kernel,by decide +kernel⟩,rfl,fun _ _ _ _ _ _ us hl=>len2 us hl fun _ _=>rfl⟩
theorem zhu:bO zb5:=⟨⟨by kernel_rfl,by kernel_rfl,by kernel_rfl,by decide +kernel,rfl,by decide +kernel,by decide +kernel⟩,rfl,fun _ _ _ _ _ _ us hl=>len1 us hl fun _=>rfl⟩
theorem zhp:bO zcg:=⟨⟨by kernel_rfl,by kernel_rfl,by kernel_rfl,by decide +kernel,rfl,by decide +kernel,by decide +kernel⟩,rfl,fun _ _ _ _ _ _ us hl=>len2 us hl fun _ _=>rfl⟩
theorem zhj:bO zb3:=⟨⟨by kernel_rfl,by kernel_rfl,by kernel_rfl,by decide +kernel,rfl,by decide +kernel,by decide +kernel⟩,rfl,fun _ _ _ _ _ _ us hl=>len2 us hl fun _ _=>rfl⟩
theorem zin:bO zcf:=⟨⟨by kernel_rfl,by kernel_rfl,by kernel_rfl,by decide +kernel,rfl,by decide +kernel,by decide +kernel⟩,rfl,fun _ _ _ _ _ _ us hl=>len1 us hl fun _=>rfl⟩
theorem ziv:bO zb6:=⟨⟨by kernel_rfl,by kernel_rfl,by kernel_rfl,by decide +kernel,rfl,by decide +kernel,by decide +kernel⟩,rfl,fun _ _ _ _ _ _ us hl=>len2 us hl fun _ _=>rfl⟩
theorem zdt:bO zas:=⟨⟨by kernel_rfl,by kernel_rfl,by kernel_rfl,by decide +kernel,rfl,by decide +kernel,by decide +kernel⟩,rfl,fun _ _ _ _ _ _ us hl=>len3 us hl fun _ _ _=>rfl⟩
theorem z2t:bO zj3:=⟨⟨by kernel_rfl,by kernel_rfl,by kernel_rfl,by decide +kernel,rfl,by decide +kernel,by decide +kernel⟩,rfl,fun _ _ _ _ _ _ us hl=>len1 us hl fun _=>rfl⟩
theorem all_mk {l:PySem.W.OpenLaw}{w:World}{K:PySem.W.Frag}{h:Heap}{mg:Str->Option Value}{fa:Addr} (X:K.In h) (G:h.Ns mainGlobals mg) (hfa:mg "law" = some (.ref fa)) (D:∀t∈T,nD K t) (M:∀x∈(["law"]:List Str),zt9 K x=true) (Z:∀x∈bn,PySem.W.nsIn K mainGlobals x=some none) :
  ∃fd:FuncData,(∀(s:Shared) (v:Value),BindsTo s fd ⟨[v],[]⟩ [("_law_script",v)])/\∀base:Heap,K.In base->base.Ns mainGlobals mg->FnOk l.prog w K mg base CX0 40 fa fd ["_law_script"] (spF K [false] (sem T bn 40 "law")):=by
 have B:∀t∈T,bO t:=all_c zxq (all_c zmp (all_c zgx (all_c zhn (all_c zkz (all_c zgj (all_c zhu (all_c zhp (all_c zhj (all_c zin (all_c ziv (all_c zdt (all_c z2t (all_n)))))))))))));have q:∀t∈T,t.nm∈lams->t.nm∈(["law"]:List Str):=by decide +kernel
 obtain ⟨f,oc,od,kV,dc,pm,an,cd,ct,sl,a,lk,c,k⟩:=D zj3 (by simp [T]);have F:=zuv (st:=zj3.st) lk c k;have e:=hfa.symm.trans (PySem.W.mg_of X G a);cases e;exact ⟨_,fun s v=>.of_eq rfl,fun base kb nb=>zpw nd_T (fun t ht=>z3t X G (B t ht) (fun hl=>M _ (q t ht hl)) (D t ht)) (fun x hx=>PySem.W.mg_none_of X G (Z x hx)) kb nb 40 zj3 (by simp [T]) _ _ F (PySem.W.mg_of X G a)⟩
theorem walk {l:PySem.W.OpenLaw}{q:Program}{loose:List Str}{XP:(Str->Option Value)->Heap->Prop}{YP:World->Heap->Prop}{d:DefRec}{K:Params->PySem.W.Frag} (hn:l.most=some 63) (hdf:d.params.defaults=[])
  (hY:∀(w:World) (h:Heap),YP w h->(K w.params).In h)
  (nt:∀w:World,PySem.W.noTabs (K w.params)=true) (nd:∀w:World,zrh (K w.params)=true) (hrec:∀(w:World),∀x∈lams,∀c P,PySem.W.tabIn (K w.params) x=some (c,P)->∃d,(recsOf q).find? (fun e=>e.name == x)=some d)
  (F:∀(w:World) (mg:Str->Option Value) (fa:Addr) (h:Heap),(K w.params).In h->h.Ns mainGlobals mg->mg d.name=some (.ref fa) ->
   ∃fd:FuncData,(∀(s:Shared) (u:Value),BindsTo s fd ⟨[u],[]⟩ [("_law_script",u)])/\∀base:Heap,(K w.params).In base->base.Ns mainGlobals mg->FnOk l.prog w (K w.params) mg base CX0 40 fa fd ["_law_script"] (spF (K w.params) [false] (sem T bn 40 "law"))) :
  PySem.W.WalkO q loose XP YP l.row.toRowW d [] (fun f vs=>PySem.call f vs) :=
 L2.walk_ofT (n:=63) (k:=40) (x := "_law_script") (CX:=fun _=>CX0) (sp:=fun w=>spF (K w.params) [false] (sem T bn 40 "law")) hn (by decide) hdf ⟨rfl,by decide,by decide,rfl⟩ hY nt nd hrec F (fun _ _ _ a ns hl st hS=>znd st.sub st.tb hS (ws':=[.frl (ns.map W.int)]) (zsd ns hl) rfl) fun _ _ _ _ _ z=>z
end My
open PySem PySem.W PyProof.Rows
set_option maxRecDepth 100000 in
set_option maxHeartbeats 0 in
theorem PySem.Challenge.cw_yesnowords_k73_heard_words_written_and_r_holds : PySem.Challenge.rw_yesnowords_k73_heard_words_written_and_r.Holds := by
 w_on;o_law;k_head;(case hw=>w_witness2)
 k_fill
 refine My.walk (l:=PySem.Challenge.rw_yesnowords_k73_heard_words_written_and_r) rfl rfl (fun w h Y=>by first | exact PySem.W.kIn_of Y | exact PySem.W.km_in_of Y) ?nt ?nd ?hrec ?F
 case nt=>exact fun w=>by kernel_rfl
 case nd=>exact fun w=>by kernel_rfl
 case hrec =>
  intro w x hx c P e;simp only [L2.lams,List.mem_cons,List.not_mem_nil,or_false] at hx;rcases hx with rfl | rfl | rfl | rfl | rfl
  ·exact nomatch (Eq.trans (by kernel_rfl) e:(none:Option (Addr × Addr))=some (c,P))
  ·exact nomatch (Eq.trans (by kernel_rfl) e:(none:Option (Addr × Addr))=some (c,P))
  ·exact nomatch (Eq.trans (by kernel_rfl) e:(none:Option (Addr × Addr))=some (c,P))
  ·exact nomatch (Eq.trans (by kernel_rfl) e:(none:Option (Addr × Addr))=some (c,P))
  ·exact Option.isSome_iff_exists.mp (by kernel_rfl)
 case F =>
  intro w mg fa h KX G hmg;refine My.all_mk KX G hmg ?xD ?xM ?xZ
  case xM=>exact My.all_c (by kernel_rfl) (My.all_n)
  case xZ =>
   refine' My.all_c ?_ (My.all_c ?_ (My.all_c ?_ (My.all_c ?_ (My.all_c ?_ (My.all_c ?_ (My.all_c ?_ (My.all_c ?_ (My.all_c ?_ (My.all_c ?_ (My.all_c ?_ (My.all_c ?_ (My.all_c ?_ (My.all_c ?_ (My.all_c ?_ (My.all_c ?_ (My.all_c ?_ (My.all_c ?_ (My.all_c ?_ (My.all_c ?_ (My.all_c ?_ (My.all_c ?_ (My.all_n))))))))))))))))))))))
   any_goals k_is
  case xD =>
   refine' My.all_c (My.nD_i (n := "says") rfl ?_ ?_ ?_ ?_) (My.all_c (My.nD_i (n := "word_at") rfl ?_ ?_ ?_ ?_) (My.all_c (My.nD_i (n := "heard_text") rfl ?_ ?_ ?_ ?_) (My.all_c (My.nD_i (n := "places_of") rfl ?_ ?_ ?_ ?_) (My.all_c (My.nD_i (n := "is_signs") rfl ?_ ?_ ?_ ?_) (My.all_c (My.nD_i (n := "read_heard") rfl ?_ ?_ ?_ ?_) (My.all_c (My.nD_i (n := "_law_hand") rfl ?_ ?_ ?_ ?_) (My.all_c (My.nD_i (n := "_law_take") rfl ?_ ?_ ?_ ?_) (My.all_c (My.nD_i (n := "_law_bits") rfl ?_ ?_ ?_ ?_) (My.all_c (My.nD_i (n := "_law_word") rfl ?_ ?_ ?_ ?_) (My.all_c (My.nD_i (n := "_law_lost") rfl ?_ ?_ ?_ ?_) (My.all_c (My.nD_i (n := "_law_heard_text") rfl ?_ ?_ ?_ ?_) (My.all_c (My.nD_i (n := "law") rfl ?_ ?_ ?_ ?_) (My.all_n)))))))))))))
   any_goals (first | (delta My.nA;k_is) | (delta My.nL;k_is) | (delta My.nC;k_is) | (delta My.nK;k_is) | k_is)