import PyProof.Rows.All
import Wide.All
import OpenK.AllK
import Wide.FinOn
import Lean
import PyProof.EqAt
import PyProof.EqKinds
import PyProof.TupleCall
import PyProof.NeKinds
import PyProof.NsDelKeeps
import KE.KRevSl
import PyProof.StrWalks
import PyProof.ConsumeWalk
import PyProof.SumWalk
import PyProof.Rows.SortStr
import PyProof.SumWalkG
import PyProof.StrCalls2
import PyProof.StrLawsIdx
import PyProof.WalkInts
import PyProof.StrOps2
import PyProof.SliceStr2
import PyProof.Draws
import PyProof.EnumMake
import PyProof.Rows.SetFrom
import PyProof.SetRoads
import PyProof.WalksMore
import PyProof.ListRange
import PyProof.TupleOfSeq
import PyProof.TupleOfGen
import PyProof.Rows.SortShell
import PyProof.ZipIter
import PyProof.DictStraight
import PyProof.TupleKey
import PyProof.DictRoadsH
import PyProof.DictTruth
import PyProof.Rows.TupTab
import PySem.Challenge.RW_worldfind_k54_unlike_counted
set_option Elab.async false
set_option linter.all false
set_option maxRecDepth 100000
namespace L2
open PySem PySem.Spec PyProof.Rows
abbrev Key:=Sum Int Str
def keyIs:Key->Value->Bool
 | .inl k,v=>Value.isInt k v
 | .inr x,v=>Value.isStrOf x v
def keyH (w:World):Key->Int
 | .inl k=>hashInt k
 | .inr x=>hashStr w x
theorem wb: ∀ {k:Key}{v:Value},keyIs k v=true->(∃ i t,k=Sum.inl i/\v=Value.int i t)\/(∃ x t,k=Sum.inr x/\v=Value.str x t)
 | .inl i,v,h=>by
  obtain⟨t,e⟩:=Value.isInt_shape (k:=i) (v:=v) h
  exact .inl ⟨i,t,rfl,e⟩
 | .inr x,v,h=>by
  obtain⟨t,e⟩:=Value.isStrOf_shape (x:=x) (v:=v) h
  exact .inr ⟨x,t,rfl,e⟩
theorem xaD (a b:Int):decide ((Sum.inl a:Key)=Sum.inl b)=(a==b):=by
 by_cases e:a=b
 ·subst e;simp
 ·have h: ¬(Sum.inl a:Key)=Sum.inl b:=fun q=>e (Sum.inl.inj q)
  rw [decide_eq_false h]
  exact(beq_eq_false_iff_ne.mpr e).symm
theorem zaw (a b:Str):decide ((Sum.inr a:Key)=Sum.inr b)=decide (a=b):=by
 by_cases e:a=b
 ·subst e;simp
 ·have h: ¬(Sum.inr a:Key)=Sum.inr b:=fun q=>e (Sum.inr.inj q)
  rw [decide_eq_false h,decide_eq_false e]
theorem xaB (a:Int) (b:Str):decide ((Sum.inl a:Key)=Sum.inr b)=false:=decide_eq_false (fun q=>nomatch q)
theorem zaK (a:Str) (b:Int):decide ((Sum.inr a:Key)=Sum.inl b)=false:=decide_eq_false (fun q=>nomatch q)
def mixKind (prog:Program) (w:World):PySem.KeyKind prog w Key where
 is:=keyIs
 hash:=keyH w
 inj:=fun v a b ha hb=>by
  rcases wb ha with⟨i,t,rfl,rfl⟩ | ⟨x,t,rfl,rfl⟩
  ·rcases wb hb with⟨j,u,rfl,e⟩ | ⟨y,u,rfl,e⟩
   ·injection e with e1 _;rw [e1]
   ·exact nomatch e
  ·rcases wb hb with⟨j,u,rfl,e⟩ | ⟨y,u,rfl,e⟩
   ·exact nomatch e
   ·injection e with e1 _;rw [e1]
 byValue:=fun k v h=>by
  rcases wb h with⟨i,t,rfl,rfl⟩ | ⟨x,t,rfl,rfl⟩<;>rfl
 pyHash:=fun hv h=>by
  rcases wb hv with⟨i,t,rfl,rfl⟩ | ⟨x,t,rfl,rfl⟩
  ·exact wpAny_pyHash_int h
  ·exact wpAny_pyHash_str h
 eqBool:=fun hu hv h=>by
  rcases wb hu with⟨i,t,rfl,rfl⟩ | ⟨x,t,rfl,rfl⟩
  ·rcases wb hv with⟨j,u,rfl,rfl⟩ | ⟨y,u,rfl,rfl⟩
   ·rw [xaD]at h;exact wpAny_eqBool_int h
   ·rw [xaB]at h;exact SeqAt.EqAt.int_str i t y u _ _ _ _ h
  ·rcases wb hv with⟨j,u,rfl,rfl⟩ | ⟨y,u,rfl,rfl⟩
   ·rw [zaK]at h;exact SeqAt.EqAt.str_int x t j u _ _ _ _ h
   ·rw [zaw]at h;exact wpAny_eqBool_str h
 «strs» :=fun k x t v h=>by
  rcases wb h with⟨i,u,rfl,e⟩ | ⟨y,u,rfl,e⟩
  ·exact nomatch e
  ·injection e with e1 _
   subst e1
   cases v<;>rfl
theorem jar (prog:Program) (w:World) (k:Key) (v:Value):(mixKind prog w).is k v=keyIs k v:=rfl
end L2
namespace L2
open PySem PySem.Spec PyProof.Rows
inductive V where
 | non | bl (b:Bool) | int (i:Int) | str (x:Str) | byt (b:Array UInt8) | flt (b:UInt64) | ref (a:Addr) | ty (n:String)
 deriving DecidableEq
def RelV:V->Value->Prop
 | .non,u=>u=Value.none
 | .bl b,u=>u=Value.bool b
 | .int i,u=> ∃t,u=Value.int i t
 | .str x,u=> ∃t,u=Value.str x t
 | .byt b,u=> ∃t,u=Value.bytes b t
 | .flt b,u=> ∃t,u=Value.float b t
 | .ref a,u=>u=Value.ref a
 | .ty n,u=>u=Value.type n
abbrev Vals:List V->List Value->Prop:=Paired RelV
theorem Vals.length {xs:List V}{us:List Value}(r:Vals xs us):xs.length=us.length:=Paired.length r
theorem Vals.get: ∀ {xs:List V}{us:List Value}{i:Nat}{x:V},Vals xs us->xs[i]? =some x-> ∃u,us[i]? =some u/\RelV x u
 | _,_,_,_,.nil,e=>by simp at e
 | _,_,0,_,.cons r _,e=>by simp at e;subst e;exact⟨_,rfl,r⟩
 | _,_,i+1,x,.cons _ t,e=>by
  obtain⟨u,h1,h2⟩:=Vals.get (i:=i) (x:=x) t (by simpa using e)
  exact⟨u,by simpa using h1,h2⟩
theorem Vals.set {x:V}{u:Value}(r:RelV x u): ∀ {xs:List V}{us:List Value}(i:Nat),Vals xs us->Vals (xs.set i x) (us.set i u)
 | _,_,_,.nil=> .nil
 | _,_,0,.cons _ t=> .cons r t
 | _,_,i+1,.cons q t=> .cons q (Vals.set r i t)
theorem Vals.append: ∀ {xs ys:List V}{us ws:List Value},Vals xs us->Vals ys ws->Vals (xs++ys) (us++ws)
 | _,_,_,_,.nil,s=>s
 | _,_,_,_,.cons r t,s=> .cons r (Vals.append t s)
theorem Vals.take: ∀ {xs:List V}{us:List Value}(n:Nat),Vals xs us->Vals (xs.take n) (us.take n)
 | _,_,0,_=> .nil
 | _,_,_+1,.nil=> .nil
 | _,_,n+1,.cons r t=> .cons r (Vals.take n t)
theorem Vals.drop: ∀ {xs:List V}{us:List Value}(n:Nat),Vals xs us->Vals (xs.drop n) (us.drop n)
 | _,_,0,r=>r
 | _,_,_+1,.nil=> .nil
 | _,_,n+1,.cons _ t=>Vals.drop n t
def RelO:Option V->Option Value->Prop
 | some v,some u=>RelV v u
 | none,none=>True
 | _,_=>False
def KV {κ:Type}:List (κ×V)->List (κ×Value)->Prop:=Paired fun(p:κ×V) (q:κ×Value)=>p.1=q.1/\RelV p.2 q.2
def kV:Key->V
 | .inl i=> .int i
 | .inr x=> .str x
inductive HO where
 | lst (xs:List V)
 | tup (xs:List V)
 | dK (kvs:List (Key×V)) | dT (kvs:List (List Key×V))
 | set (S:Int->Bool) (n:Nat)
 | ins (C dx:Addr) (fs:List (Str×V))
 | own (x:Addr)
 | xd (fs:List (Str×V))
 | met (f x:Addr)
 | rng (lo hi:Int)
 | frz (o:Obj) (u:HO)
 | tbl (ps:Array Value)
 | ext (φ:Heap->Prop)
abbrev Hp:=Addr->Option HO
def upd (H:Hp) (a:Addr) (o:HO):Hp:=fun b=>if b=a then some o else H b
theorem xb {H:Hp}{a:Addr}{o:HO}:upd H a o a=some o:=by unfold upd;rw [if_pos rfl]
theorem qa {H:Hp}{a b:Addr}{o:HO}(h:b≠a):upd H a o b=H b:=by unfold upd;rw [if_neg h]
theorem xa {H:Hp}{a b:Addr}{o:HO}(h:H a=some o) (h':H b=none):a≠b:=by
 intro e;subst e;rw [h]at h';cases h'
def PTup (h:Heap) (a:Addr) (items:Array Value):Prop:= ∃o,h.get? a=some o/\o.cls= .type "tuple" /\o.dict=none/\ ∃n,o.data= .seq items n
theorem PTup.is {h:Heap}{a:Addr}{items:Array Value}(p:PTup h a items):IsTup h a items:=let ⟨o,e,c,_,n,d⟩:=p; ⟨o,e,c,n,d⟩
theorem PTup.lt {h:Heap}{a:Addr}{items:Array Value}(p:PTup h a items):a<h.objs.size:=p.is.lt
theorem PTup.new (h:Heap) (items:Array Value):PTup (h.push { cls:= .type "tuple",data:= .seq items }) h.objs.size items:=⟨_,Heap.get?_push_size _ rfl,rfl,rfl,_,rfl⟩
section
variable (P:Program) (w:World)
def ObjOk (H:Hp) (h:Heap) (a:Addr):HO->Prop
 | .lst xs=>xs.length<=sizeLine/\ ∃(its:List Value) (n:Nat),Vals xs its/\h.get? a=some { cls:= .type "list",data:= .seq its.toArray n }
 | .tup xs=>xs.length<=sizeLine/\ ∃its:List Value,Vals xs its/\PTup h a its.toArray
 | .dK kvs=>kvs.length<=sizeLine/\(a==sysModules)=false/\ ∃vs,KV kvs vs/\h.DictOf (mixKind P w) a vs
 | .dT kvs=>kvs.length<=sizeLine/\(a==sysModules)=false/\ ∃xs:List (List Key×Addr×Value),
  Paired (fun (p:List Key×V) (q:List Key×Addr×Value)=>p.1=q.1/\H q.2.1=some (.tup (p.1.map kV))/\RelV p.2 q.2.2) kvs xs ∧
  ∃o es ep,h.get? a=some o/\o.ExactDict/\o.data= .dict es ep/\es.toList=xs.map (entryOfKey (tupleKind (mixKind P w)))/\(xs.map (·.1)).Nodup
 | .set S n=>h.SetOf (intKind P w) a S n
 | .ins C dx fs=>H dx=some (.own a)/\fs.length<=1000/\dx≠a/\h.get? a=some (PySem.W.instObj C dx) ∧
  ∃mA,h.Ns1 dx mA/\(∀ f,RelO (fs.lookup f) (mA f))/\PySem.Within mA (fs.map (·.1))
 | .own _=> ∃o,h.get? a=some o
 | .xd fs=> ∃mA,h.Ns1 a mA/\ ∀f,RelO (fs.lookup f) (mA f)
 | .rng lo hi=> ∃t u v,h.get? a=some { cls:= .type "range",data:= .fields #[.int lo t,.int hi u,.int 1 v] }
 | .frz o u=>h.get? a=some o/\ObjOk H h a u
 | .tbl ps=>h.get? a=some { cls:= .none,data:= .fields ps }
 | .met f x=>h.get? a=some (PySem.W.methodObj (.ref f) (.ref x))
 | .ext φ=>φ h/\(∃ o,h.get? a=some o)/\ ∀h1 h2:Heap,φ h1->(∀ o,h1.get? a=some o->h2.get? a=some o)->φ h2
def HOk (H:Hp) (h:Heap):Prop:= ∀a o,H a=some o->ObjOk P w H h a o
end
section
variable {P:Program}{w:World}{H H':Hp}{h h':Heap}{a:Addr}{o:HO}
theorem ObjOk.lt (x:ObjOk P w H h a o):a<h.objs.size:=by
 cases o with
 | lst xs=>obtain⟨_,_,_,_,e⟩:=x;exact Heap.lt_size e
 | tup xs=>obtain⟨_,_,_,p⟩:=x;exact p.lt
 | dK kvs=>obtain⟨_,_,_,_,o,_,_,e,_⟩:=x;exact Heap.lt_size e
 | dT kvs=>obtain⟨_,_,_,_,o,_,_,e,_⟩:=x;exact Heap.lt_size e
 | set S n=>obtain⟨o,_,_,_,e,_⟩:=x;exact Heap.lt_size e
 | ins C dx fs=>obtain⟨_,_,_,e,_⟩:=x;exact Heap.lt_size e
 | own y=>obtain⟨_,e⟩:=x;exact Heap.lt_size e
 | xd fs=>obtain⟨_,⟨_,_,_,e,_⟩,_⟩:=x;exact Heap.lt_size e
 | rng lo hi=>obtain⟨_,_,_,e⟩:=x;exact Heap.lt_size e
 | frz ob u=>obtain⟨e,_⟩:=x;exact Heap.lt_size e
 | tbl ps=>exact Heap.lt_size (show h.get? a=some _ from x)
 | met f y=>exact Heap.lt_size (show h.get? a=some _ from x)
 | ext φ=>obtain⟨_,⟨_,e⟩,_⟩:=x;exact Heap.lt_size e
theorem Paired.mapP {α β:Type}{F G:α->β->Prop}: ∀ {l₁:List α}{l₂:List β},Paired F l₁ l₂->(∀ a b,F a b->G a b)->Paired G l₁ l₂
 | _,_,.nil,_=> .nil
 | _,_,.cons r t,f=> .cons (f _ _ r) (Paired.mapP t f)
theorem ObjOk.stay (x:ObjOk P w H h a o) (k: ∀b u,(b=a\/H b=some (.own a))->h.get? b=some u->h'.get? b=some u)
 (ho: ∀b,H b=some (.own a)->H' b=some (.own a)) (ht: ∀b xs,H b=some (.tup xs)->H' b=some (.tup xs)):ObjOk P w H' h' a o:=by
 induction o with
 | lst xs=>obtain⟨z,its,n,r,e⟩:=x;exact⟨z,its,n,r,k _ _ (.inl rfl) e⟩
 | tup xs=>obtain⟨z,its,r,ob,e,c⟩:=x;exact⟨z,its,r,ob,k _ _ (.inl rfl) e,c⟩
 | dK kvs=>obtain⟨z,y,vs,r,ob,es,ep,e,c⟩:=x;exact⟨z,y,vs,r,ob,es,ep,k _ _ (.inl rfl) e,c⟩
 | dT kvs=>
  obtain⟨z,y,xs,r,ob,es,ep,e,c⟩:=x
  exact⟨z,y,xs,Paired.mapP r fun p q z=>⟨z.1,ht _ _ z.2.1,z.2.2⟩,ob,es,ep,k _ _ (.inl rfl) e,c⟩
 | set S n=>obtain⟨ob,es,ep,t,e,c⟩:=x;exact⟨ob,es,ep,t,k _ _ (.inl rfl) e,c⟩
 | ins C dx fs=>
  obtain⟨d,z,ne,e,mA,⟨od,es,ep,e2,c⟩,r⟩:=x
  exact⟨ho _ d,z,ne,k _ _ (.inl rfl) e,mA,⟨od,es,ep,k _ _ (.inr d) e2,c⟩,r⟩
 | own y=>obtain⟨ob,e⟩:=x;exact⟨ob,k _ _ (.inl rfl) e⟩
 | xd fs=>obtain⟨mA,⟨od,es,ep,e,c⟩,r⟩:=x;exact⟨mA,⟨od,es,ep,k _ _ (.inl rfl) e,c⟩,r⟩
 | rng lo hi=>obtain⟨t,u,v,e⟩:=x;exact⟨t,u,v,k _ _ (.inl rfl) e⟩
 | frz ob u ih=>obtain⟨e,q⟩:=x;exact⟨k _ _ (.inl rfl) e,ih q⟩
 | tbl ps=>
  have e:h.get? a=some { cls:= .none,data:= .fields ps }:=x
  show h'.get? a=some { cls:= .none,data:= .fields ps }
  exact k a _ (.inl rfl) e
 | met f y=>
  have e:h.get? a=some (PySem.W.methodObj (.ref f) (.ref y)):=x
  show h'.get? a=some (PySem.W.methodObj (.ref f) (.ref y))
  exact k a _ (.inl rfl) e
 | ext φ=>obtain⟨p,⟨o,e⟩,st⟩:=x;exact⟨st _ _ p fun o q=>k _ _ (.inl rfl) q,⟨o,k _ _ (.inl rfl) e⟩,st⟩
theorem HOk.lt (x:HOk P w H h) (e:H a=some o):a<h.objs.size:=(x a o e).lt
theorem HOk.fresh (x:HOk P w H h) (e:h.objs.size<=a):H a=none:=by
 cases q:H a with
 | none=>rfl
 | some u=>exact absurd (Nat.lt_of_lt_of_le (x.lt q) e) (Nat.lt_irrefl _)
theorem HOk.kept (x:HOk P w H h) (k: ∀b u,h.get? b=some u->h'.get? b=some u):HOk P w H h':=fun a o e=>
 (x a o e).stay (fun b u _ q=>k b u q) (fun _ q=>q) fun _ _ q=>q
theorem HOk.laid (x:HOk P w H h) (k: ∀b u,h.get? b=some u->h'.get? b=some u) (hp:h.objs.size<=a) (new:ObjOk P w (upd H a o) h' a o):HOk P w (upd H a o) h':=fun b u e=>by
 have hn:=x.fresh hp
 by_cases hb:b=a
 ·subst hb;rw [xb]at e;cases e;exact new
 ·rw [qa hb]at e
  exact(x b u e).stay (fun c v _ q=>k c v q) (fun c q=>by rw [qa (xa q hn)];exact q) fun c xs q=>by rw [qa (xa q hn)];exact q
end
def Rd (H:Hp) (a:Addr) (u:HO):Prop:=H a=some u\/ ∃o,H a=some (.frz o u)
theorem Rd.ok {P:Program}{w:World}{H:Hp}{h:Heap}{a:Addr}{u:HO}(r:Rd H a u) (x:HOk P w H h):ObjOk P w H h a u:=by
 rcases r with r | ⟨o,r⟩
 ·exact x a u r
 ·obtain⟨_,q⟩:=x a _ r
  exact q
def Mut:Option HO->Prop
 | some (.lst _)=>True
 | some (.dK _)=>True
 | some (.dT _)=>True
 | some (.set _ _)=>True
 | some (.ins _ _ _)=>True
 | some (.ext _)=>True
 | _=>False
section
variable {P:Program}{w:World}{H:Hp}{h h':Heap}{x e:Addr}{o':HO}
theorem HOk.write (ok:HOk P w H h) (mu:Mut (H x)) (he:e=x\/H e=some (.own x)) (k: ∀b u,b≠e->h.get? b=some u->h'.get? b=some u) (heo: ∃u,h'.get? e=some u)
 (new:ObjOk P w (upd H x o') h' x o'):HOk P w (upd H x o') h':=fun b u q=>by
 have nown: ∀c y,H c=some (.own y)->c≠x:=fun c y r z=>by subst z;rw [r]at mu;exact mu
 have ntup: ∀c xs,H c=some (.tup xs)->c≠x:=fun c xs r z=>by subst z;rw [r]at mu;exact mu
 by_cases hb:b=x
 ·subst hb;rw [xb]at q;cases q;exact new
 ·rw [qa hb]at q
  by_cases hbe:b=e
  ·have q':H b=some (.own x):=by
    rcases he with z | z
    ·exact absurd (hbe.trans z) hb
    ·rw [hbe];exact z
   rw [q]at q';cases q'
   obtain⟨v,hv⟩:=heo
   exact⟨v,by rw [hbe];exact hv⟩
  ·refine(ok b u q).stay (fun c v hc r=>k c v ?_ r) (fun c r=>by rw [qa (nown c b r)];exact r) fun c xs r=>by rw [qa (ntup c xs r)];exact r
   rcases hc with rfl | hc
   ·exact hbe
   ·rintro rfl
    rcases he with z | z
    ·exact nown c b hc z
    ·rw [hc]at z;cases z;exact hb rfl
end
structure Un (fs ex:List Addr) (H H':Hp) (h h':Heap):Prop where
 keep: ∀b o,h.get? b=some o->H b=none->b∉fs->b∉ex->h'.get? b=some o
 slot: ∀b o,h.get? b=some o->H b=none->b∈fs->b∉ex-> ∃sl,h'.get? b=some { o with slots:=sl }
 free: ∀b o,h.get? b=some o->H b=none->b∉ex->H' b=none
 there: ∀b o,h.get? b=some o->b∉ex-> ∃o',h'.get? b=some o'
 tups: ∀b xs,H b=some (.tup xs)->H' b=some (.tup xs)
 frzs: ∀b o u,H b=some (.frz o u)->H' b=some (.frz o u)
 tbls: ∀b ps,H b=some (.tbl ps)-> ∃more,H' b=some (.tbl (ps++more))
section
variable {fs fs' ex ex':List Addr}{H H1 H2:Hp}{h h1 h2 h':Heap}{a x e:Addr}{o:HO}
theorem Un.any (u:Un fs ex H H1 h h1){b:Addr}{ob:Obj}(q:h.get? b=some ob) (n:H b=none) (hx:b∉ex): ∃sl,h1.get? b=some { ob with slots:=sl }:=by
 by_cases hb:b∈fs
 ·exact u.slot b ob q n hb hx
 ·exact⟨ob.slots,u.keep b ob q n hb hx⟩
theorem Un.kept (k: ∀b u,h.get? b=some u->h'.get? b=some u):Un fs ex H H h h':=
 ⟨fun b ob q _ _ _=>k b ob q,fun b ob q _ _ _=>⟨ob.slots,k b ob q⟩,fun _ _ _ n _=>n,fun b ob q _=>⟨ob,k b ob q⟩,fun _ _ q=>q,fun _ _ _ q=>q,fun _ ps q=>⟨#[],by rw [q];simp⟩⟩
theorem Un.refl:Un fs ex H H h h:=Un.kept fun _ _ q=>q
theorem Un.laid (k: ∀b u,h.get? b=some u->h'.get? b=some u) (hp:h.objs.size<=a) (hn:H a=none):Un fs ex H (upd H a o) h h' where
 keep:=fun b u q _ _ _=>k b u q
 slot:=fun b u q _ _ _=>⟨u.slots,k b u q⟩
 free:=fun b u q n _=>by rw [qa (Nat.ne_of_lt (Nat.lt_of_lt_of_le (Heap.lt_size q) hp))];exact n
 there:=fun b u q _=>⟨u,k b u q⟩
 tups:=fun b xs q=>by rw [qa (xa q hn)];exact q
 frzs:=fun b u xs q=>by rw [qa (xa q hn)];exact q
 tbls:=fun b ps q=>⟨#[],by rw [qa (xa q hn),q];simp⟩
theorem Un.write (mu:Mut (H x)) (he:e=x\/H e=some (.own x)) (k: ∀b u,b≠e->h.get? b=some u->h'.get? b=some u) (heo: ∃u,h'.get? e=some u):Un fs ex H (upd H x o) h h':=by
 have hx: ∀b,H b=none->b≠x:=fun b n z=>by subst z;rw [n]at mu;exact mu
 have hb: ∀b,H b=none->b≠e:=fun b n z=>by
  subst z
  rcases he with r | r
  ·exact hx b n r
  ·rw [n]at r;cases r
 have hm: ∀b u,H b=some u-> ¬Mut (some u)->b≠x:=fun b u q nm z=>by subst z;rw [q]at mu;exact nm mu
 refine⟨fun b u q n _ _=>k b u (hb b n) q,fun b u q n _ _=>⟨u.slots,k b u (hb b n) q⟩,fun b u q n _=>by rw [qa (hx b n)];exact n,fun b u q _=> ?_,
  fun b xs q=>by rw [qa (hm b _ q fun z=>z)];exact q,fun b u xs q=>by rw [qa (hm b _ q fun z=>z)];exact q,fun b ps q=>⟨#[],by rw [qa (hm b _ q fun z=>z),q];simp⟩⟩
 by_cases hbe:b=e
 ·subst hbe;exact heo
 ·exact⟨u,k b u hbe q⟩
end
def trk (h:Heap) (H:Hp):List Addr:=(List.range h.objs.size).filter fun a=>(H a).isSome
def hidT (h:Heap) (H:Hp):Heap:=PySem.W.hideAll h (trk h H)
theorem xK (h:Heap) (H:Hp):(hidT h H).objs.size=h.objs.size:=PySem.W.hideAll_size _ _
theorem X2 {h:Heap}{H:Hp}{b:Addr}{o:Obj}(e:h.get? b=some o) (n:H b=none):(hidT h H).get? b=some o:=
 PySem.W.hideAll_get _ e fun hm=>by
  have q:(H b).isSome=true:=(List.mem_filter.mp hm).2
  rw [n]at q;simp at q
theorem jah {h:Heap}{H:Hp}{b:Addr}{o:Obj}(e:(hidT h H).get? b=some o):h.get? b=some o/\H b=none:=by
 have e':h.get? b=some o:=PySem.W.of_hideAll (trk h H) e
 refine⟨e',?_⟩
 cases q:H b with
 | none=>rfl
 | some x=>
  have hm:b∈trk h H:=List.mem_filter.mpr ⟨List.mem_range.mpr (Heap.lt_size e'),by simp [q]⟩
  have z:(hidT h H).get? b=none:=PySem.W.hideAll_none (trk h H) hm
  rw [z]at e;cases e
def allNews (g h:Heap) (L:Addr):List (Addr×Obj):=(List.range h.objs.size).filterMap fun a=>if a=L\/(g.get? a).isSome=true then none else(h.get? a).map fun o=>(a,o)
def rest (g h:Heap) (L d:Addr):List (Addr×Obj):=(allNews g h L).filter fun p=>decide (p.1≠d)
end L2
namespace L2
open PySem PySem.Spec PyProof.Rows
structure Mod (K:PySem.W.Frag) (mg:Str->Option Value) (base:Heap):Prop where
 kin:K.In base
 glob:base.Ns mainGlobals mg
 blt: ∃mb,base.Ns builtinsNs mb/\ ∀x:Str,x≠ "__name__" ->mb x=bootBuiltins x
 nolimit:base.NoLimit
structure Cx where
 prog:Program
 w:World
 K:PySem.W.Frag
 mg:Str->Option Value
 base:Heap
 A:Around
 N:List Str
 s₀:Shared
 H₀:Hp
 env:Env
 outer:List Env
 stack:List Env
 ex:List Addr
 fn:Str->Bool
 calm:Bool
 pn:List (Addr×Obj)
 xe:Value->Shared->Prop
def frs (l:List Env):List Addr:=l.filterMap (·.frame)
abbrev Cx.fs (X:Cx):List Addr:=frs X.outer
def Vis (sc:Scope) (x:Str):Prop:=sc.names.lookup x=some .local\/sc.names.lookup x=some .cell\/sc.names.lookup x=some .free
def Loc (sc:Scope) (x:Str):Prop:=sc.names.lookup x=some .local\/sc.names.lookup x=some .cell
def Look (env:Env) (h:Heap) (m:Str->Option Value) (x:Str) (u:Value):Prop:=
 (env.kindOf x=some .local/\m x=some u)\/((env.kindOf x=some .cell\/env.kindOf x=some .free)/\ ∃c,env.cells.lookup x=some c/\h.IsCell c (some u))
structure Cx.Ok (X:Cx):Prop where
 mod:Mod X.K X.mg X.base
 kind:X.env.scope.kind= .function
 glob:X.env.globals=mainGlobals
 blt:X.env.builtins=builtinsNs
 above:X.s₀.heap.objs.size<=X.env.locals
 inj: ∀x y c,X.env.cells.lookup x=some c->X.env.cells.lookup y=some c->x=y
 has: ∀x,(X.env.kindOf x=some .cell\/X.env.kindOf x=some .free)-> ∃c,X.env.cells.lookup x=some c
 cab: ∀x c,X.fn x=true->X.env.cells.lookup x=some c->X.s₀.heap.objs.size<=c
 hd:X.calm=true->X.A.handled=none
 frames:X.A.frames=some X.stack
 stk:X.stack=X.outer\/(X.stack=X.env::X.outer/\X.env.frame=some X.env.locals)
 exf: ∀b∈X.ex,b≠X.env.locals/\ ∀x c,X.env.cells.lookup x=some c->c≠b
 bs: ∀b o,X.base.get? b=some o->X.s₀.heap.get? b=some o/\X.H₀ b=none
 bsz:X.base.objs.size<=X.s₀.heap.objs.size
 noex: ∀b o,X.base.get? b=some o->b∉X.ex
 exfs: ∀b∈X.ex,b∉X.fs
 funs:X.s₀.heap.FunFrames X.base X.outer
 frf: ∀b∈X.fs,X.H₀ b=none
structure Inv (X:Cx) (pins:List (Addr×Obj)) (σ:List (Option V)) (H:Hp) (s:Shared):Prop where
 ok:X.Ok
 os:s.os=X.s₀.os
 bare:AllBare s.gens
 base:Un X.fs X.ex X.H₀ H X.s₀.heap s.heap
 loc: ∃m,s.heap.Ns X.env.locals m/\ ∀(i:Nat) (x:Str) (v:V),X.N[i]? =some x->σ[i]? =some (some v)->Vis X.env.scope x-> ∃u,RelV v u/\Look X.env s.heap m x u
 cell: ∀x c,X.env.cells.lookup x=some c-> ∃v,s.heap.IsCell c v
 free:H X.env.locals=none
 freeC: ∀x c,X.env.cells.lookup x=some c->H c=none
 pin: ∀p∈X.pn++pins,s.heap.get? p.1=some p.2/\H p.1=none/\p.1≠X.env.locals/\p.1∉X.fs/\ ∀v,p.2.data≠ .cell v
 hok:HOk X.prog X.w H s.heap
 len:σ.length=X.N.length
section
variable {X:Cx}{pins:List (Addr×Obj)}{σ:List (Option V)}{H H':Hp}{s:Shared}{h':Heap}
theorem Cx.Ok.nofr (ok:X.Ok){b:Addr}{o:Obj}(e:X.base.get? b=some o):b∉X.fs:=fun hb=>by
 have:=(ok.funs.mem hb).1
 rw [e]at this;cases this
theorem Inv.bs (I:Inv X pins σ H s): ∀b o,X.base.get? b=some o->s.heap.get? b=some o/\H b=none:=fun b o e=>
 ⟨I.base.keep b o (I.ok.bs b o e).1 (I.ok.bs b o e).2 (I.ok.nofr e) (I.ok.noex b o e),I.base.free b o (I.ok.bs b o e).1 (I.ok.bs b o e).2 (I.ok.noex b o e)⟩
theorem Inv.bk (I:Inv X pins σ H s): ∀b o,X.base.get? b=some o->s.heap.get? b=some o:=fun b o e=>(I.bs b o e).1
theorem Inv.mod (I:Inv X pins σ H s):Mod X.K X.mg X.base:=I.ok.mod
theorem Inv.kIn (I:Inv X pins σ H s):X.K.In s.heap:=I.ok.mod.kin.keeps I.bk
theorem Inv.lt (I:Inv X pins σ H s):X.env.locals<s.heap.objs.size:=let ⟨_,hn,_⟩:=I.loc;hn.lt
theorem Inv.sz (I:Inv X pins σ H s):X.s₀.heap.objs.size<=s.heap.objs.size:=Nat.le_trans I.ok.above (Nat.le_of_lt I.lt)
theorem Inv.nofs (I:Inv X pins σ H s){a:Addr}(h:s.heap.objs.size<=a):a∉X.fs:=fun hb=>by
 obtain⟨_,o,ho,_⟩:=I.ok.funs.mem hb
 exact absurd (Nat.lt_of_lt_of_le (Heap.lt_size ho) (Nat.le_trans I.sz h)) (Nat.lt_irrefl _)
theorem Inv.cne (I:Inv X pins σ H s): ∀x c,X.env.cells.lookup x=some c->c≠X.env.locals:=fun x c e z=>by
 obtain⟨v,o,ho,hd⟩:=I.cell x c e
 obtain⟨m,⟨o',es,ep,ho',hd',_⟩,_⟩:=I.loc
 rw [z,ho']at ho;cases ho;rw [hd']at hd;cases hd
theorem Inv.funs (I:Inv X pins σ H s):s.heap.FunFrames X.base X.outer:=by
 have all: ∀(l:List Env),(∀ b∈frs l,b∈X.fs)->X.s₀.heap.FunFrames X.base l->s.heap.FunFrames X.base l:=by
  intro l
  induction l with
  | nil=>intro _ _;trivial
  | cons env r ih=>
   intro hs hl
   obtain⟨hk,⟨L,o,hf,hn,ho,hd⟩,hr⟩:=hl
   have hL:L∈X.fs:=hs L (by unfold frs;rw [List.filterMap_cons,hf];exact List.mem_cons_self)
   obtain⟨sl,e⟩:=I.base.slot L o ho (I.ok.frf L hL) hL fun z=>I.ok.exfs L z hL
   exact⟨hk,⟨L,_,hf,hn,e,hd⟩,ih (fun b hb=>hs b (by unfold frs;rw [List.filterMap_cons,hf];exact List.mem_cons_of_mem _ hb)) hr⟩
 exact all X.outer (fun _ hb=>hb) I.ok.funs
theorem Inv.stack (I:Inv X pins σ H s):s.heap.FunFrames X.base X.stack:=by
 rcases I.ok.stk with e | ⟨e,hf⟩
 ·rw [e];exact I.funs
 ·rw [e]
  obtain⟨m,hn,_⟩:=I.loc
  refine .cons (by rw [I.ok.kind];decide) hf hn ?_ I.funs
  exact Heap.get?_none_of_le (Nat.le_trans I.ok.bsz I.ok.above)
theorem Inv.stkSub (I:Inv X pins σ H s): ∀b∈frs X.stack,b∈X.env.locals::X.fs:=fun b hb=>by
 rcases I.ok.stk with e | ⟨e,hf⟩
 ·rw [e]at hb;exact List.mem_cons_of_mem _ hb
 ·rw [e]at hb
  unfold frs at hb
  rw [List.filterMap_cons,hf]at hb
  exact hb
theorem Inv.stkFree (I:Inv X pins σ H s): ∀b∈frs X.stack,H b=none:=fun b hb=>by
 rcases List.mem_cons.mp (I.stkSub b hb)with e | hb
 ·rw [e];exact I.free
 ·obtain⟨_,o,ho,_⟩:=I.ok.funs.mem hb
  exact I.base.free b o ho (I.ok.frf b hb) fun z=>I.ok.exfs b z hb
theorem Inv.step {g':Array GenState}{t':Nat}{d':Drawn}{ch:List Addr}(I:Inv X pins σ H s)
 (hch: ∀b∈ch,(b∈X.ex\/X.s₀.heap.objs.size<=b)/\b≠X.env.locals/\(∀ x c,X.env.cells.lookup x=some c->c≠b)/\ ∀p∈X.pn++pins,p.1≠b)
 (keep: ∀b o,b≠X.env.locals->b∉X.fs->b∉ch->s.heap.get? b=some o->H b=none->h'.get? b=some o)
 (slot: ∀b o,b≠X.env.locals->b∈X.fs->b∉ch->s.heap.get? b=some o->H b=none-> ∃sl,h'.get? b=some { o with slots:=sl }) (free: ∀b o,b∉ch->s.heap.get? b=some o->H b=none->H' b=none)
 (there: ∀b o,b∉ch->s.heap.get? b=some o-> ∃o',h'.get? b=some o')
 (tups: ∀b xs,H b=some (.tup xs)->H' b=some (.tup xs)) (frzs: ∀b o u,H b=some (.frz o u)->H' b=some (.frz o u)) (tbls: ∀b ps,H b=some (.tbl ps)-> ∃more,H' b=some (.tbl (ps++more)))
 (ns: ∀m,s.heap.Ns X.env.locals m->h'.Ns X.env.locals m) (hok:HOk X.prog X.w H' h') (hg:AllBare g'):
 Inv X pins σ H' { s with heap:=h',gens:=g',drawn:=d',toks:=t' }:=by
 have neL: ∀b o,X.s₀.heap.get? b=some o->b≠X.env.locals:=fun b o e=>Nat.ne_of_lt (Nat.lt_of_lt_of_le (Heap.lt_size e) I.ok.above)
 have neC: ∀b o,X.s₀.heap.get? b=some o->b∉X.ex->b∉ch:=fun b o e hx hb=>by
  rcases (hch b hb).1 with z | z
  ·exact hx z
  ·exact absurd (Nat.lt_of_lt_of_le (Heap.lt_size e) z) (Nat.lt_irrefl _)
 have cellK: ∀x c,X.env.cells.lookup x=some c-> ∀v,s.heap.IsCell c v->h'.IsCell c v:=fun x c e v ⟨o,ho,hd⟩=>by
  have nch:c∉ch:=fun z=>(hch c z).2.2.1 x c e rfl
  by_cases hc:c∈X.fs
  ·obtain⟨sl,q⟩:=slot c o (I.cne x c e) hc nch ho (I.freeC x c e)
   exact⟨_,q,hd⟩
  ·exact⟨o,keep c o (I.cne x c e) hc nch ho (I.freeC x c e),hd⟩
 refine⟨I.ok,I.os,hg,⟨fun b o e n hb hx=> ?_,fun b o e n hb hx=> ?_,fun b o e n hx=> ?_,fun b o e hx=> ?_,fun b xs e=>tups b xs (I.base.tups b xs e),fun b o xs e=>frzs b o xs (I.base.frzs b o xs e),fun b ps e=> ?_⟩,?_,fun x c e=> ?_,?_,fun x c e=> ?_,fun p hp=> ?_,hok,I.len⟩
 ·exact keep b o (neL b o e) hb (neC b o e hx) (I.base.keep b o e n hb hx) (I.base.free b o e n hx)
 ·obtain⟨sl,e1⟩:=I.base.slot b o e n hb hx
  obtain⟨sl',e2⟩:=slot b _ (neL b o e) hb (neC b o e hx) e1 (I.base.free b o e n hx)
  exact⟨sl',e2⟩
 ·obtain⟨o',e1⟩:=I.base.there b o e hx
  exact free b o' (neC b o e hx) e1 (I.base.free b o e n hx)
 ·obtain⟨o',e1⟩:=I.base.there b o e hx
  exact there b o' (neC b o e hx) e1
 ·obtain⟨m1,e1⟩:=I.base.tbls b ps e
  obtain⟨m2,e2⟩:=tbls b _ e1
  exact⟨m1++m2,by rw [e2,Array.append_assoc]⟩
 ·obtain⟨m,hn,hl⟩:=I.loc
  refine⟨m,ns m hn,fun i x v e1 e2 e3=> ?_⟩
  obtain⟨u,r,l⟩:=hl i x v e1 e2 e3
  refine⟨u,r,?_⟩
  rcases l with l | ⟨k,c,e,z⟩
  ·exact .inl l
  ·exact .inr ⟨k,c,e,cellK x c e _ z⟩
 ·obtain⟨v,z⟩:=I.cell x c e
  exact⟨v,cellK x c e v z⟩
 ·obtain⟨m,⟨o,_,_,ho,_⟩,_⟩:=I.loc
  exact free _ o (fun z=>(hch _ z).2.1 rfl) ho I.free
 ·obtain⟨v,o,ho,hd⟩:=I.cell x c e
  exact free c o (fun z=>(hch c z).2.2.1 x c e rfl) ho (I.freeC x c e)
 ·obtain⟨e,n,ne,nf,d⟩:=I.pin p hp
  have nch:p.1∉ch:=fun z=>(hch p.1 z).2.2.2 p hp rfl
  exact⟨keep p.1 p.2 ne nf nch e n,free p.1 p.2 nch e n,ne,nf,d⟩
theorem Inv.un {t':Nat}(I:Inv X pins σ H s) (u:Un X.fs [] H H' s.heap h') (hok:HOk X.prog X.w H' h'):Inv X pins σ H' { s with heap:=h',toks:=t' }:=by
 obtain⟨m,⟨o,es,ep,ho,r⟩,_⟩:=id I.loc
 obtain⟨sl,hL⟩:=u.any ho I.free (by simp)
 exact I.step (g':=s.gens) (d':=s.drawn) (ch:= []) (fun _ z=>nomatch z) (fun b o _ hb _ e n=>u.keep b o e n hb (by simp)) (fun b o _ hb _ e n=>u.slot b o e n hb (by simp)) (fun b o _ e n=>u.free b o e n (by simp)) (fun b o _ e=>u.there b o e (by simp)) u.tups u.frzs u.tbls (fun m' hm=>by
  obtain⟨o',es',ep',ho',r'⟩:=hm
  rw [ho]at ho';cases ho'
  exact⟨_,es',ep',hL,r'⟩) hok I.bare
theorem Inv.call {g':Array GenState}{t':Nat}{d':Drawn}{ch:List Addr}(I:Inv X pins σ H s) (u:Un (frs X.stack) ch H H' s.heap h') (hok:HOk X.prog X.w H' h') (hg:AllBare g')
 (hch: ∀b∈ch,(b∈X.ex\/X.s₀.heap.objs.size<=b)/\b≠X.env.locals/\(∀ x c,X.env.cells.lookup x=some c->c≠b)/\ ∀p∈X.pn++pins,p.1≠b):
 Inv X pins σ H' { s with heap:=h',gens:=g',drawn:=d',toks:=t' }:=by
 obtain⟨m,⟨o,es,ep,ho,r⟩,_⟩:=id I.loc
 obtain⟨sl,hL⟩:=u.any ho I.free fun z=>(hch _ z).2.1 rfl
 exact I.step (ch:=ch) hch (fun b o hL hb hc e n=>u.keep b o e n (fun z=>(List.mem_cons.mp (I.stkSub b z)).elim hL hb) hc) (fun b o _ _ hc e n=>u.any e n hc) (fun b o hc e n=>u.free b o e n hc) (fun b o hc e=>u.there b o e hc) u.tups u.frzs u.tbls (fun m' hm=>by
  obtain⟨o',es',ep',ho',r'⟩:=hm
  rw [ho]at ho';cases ho'
  exact⟨_,es',ep',hL,r'⟩) hok hg
theorem Inv.turned {t':Nat}{it:Addr}(I:Inv X pins σ H s) (k: ∀b o,b≠it->s.heap.get? b=some o->h'.get? b=some o) (hn:H it=none) (hL:it≠X.env.locals)
 (h1:it∈X.ex\/X.s₀.heap.objs.size<=it) (h2: ∀x c,X.env.cells.lookup x=some c->c≠it) (h3: ∀p∈X.pn++pins,p.1≠it):Inv X pins σ H { s with heap:=h',toks:=t' }:=by
 have nit: ∀b u,H b=some u->b≠it:=fun b u e z=>by rw [z,hn]at e;cases e
 refine I.step (g':=s.gens) (d':=s.drawn) (ch:= [it]) (fun b hb=> ?_) (fun b o _ _ hc e _=>k b o (fun z=>hc (by simp [z])) e) (fun b o _ _ hc e _=>⟨o.slots,k b o (fun z=>hc (by simp [z])) e⟩) (fun _ _ _ _ n=>n)
  (fun b o hc e=>⟨o,k b o (fun z=>hc (by simp [z])) e⟩) (fun _ _ e=>e) (fun _ _ _ e=>e) (fun b ps e=>⟨#[],by rw [e];simp⟩) (fun m hm=> ?_) (fun b u e=> ?_) I.bare
 ·have e:b=it:=by simpa using hb
  subst e
  exact⟨h1,hL,h2,h3⟩
 ·obtain⟨o,es,ep,ho,r⟩:=hm
  exact⟨o,es,ep,k _ o (Ne.symm hL) ho,r⟩
 ·refine(I.hok b u e).stay (fun c v hc q=>k c v ?_ q) (fun _ q=>q) fun _ _ q=>q
  rcases hc with z | z
  ·rw [z];exact nit b u e
  ·exact nit c _ z
theorem Inv.tok (I:Inv X pins σ H s) (t:Nat):Inv X pins σ H { s with toks:=t }:=I.un (h':=s.heap) (t':=t) Un.refl I.hok
theorem Inv.kept {t':Nat}(I:Inv X pins σ H s) (k: ∀b u,s.heap.get? b=some u->h'.get? b=some u):Inv X pins σ H { s with heap:=h',toks:=t' }:=I.un (Un.kept k) (I.hok.kept k)
theorem Inv.laid {a:Addr}{o:HO}{t':Nat}(I:Inv X pins σ H s) (k: ∀b u,s.heap.get? b=some u->h'.get? b=some u) (hp:s.heap.objs.size<=a) (new:ObjOk X.prog X.w (upd H a o) h' a o):
 Inv X pins σ (upd H a o) { s with heap:=h',toks:=t' }:=I.un (Un.laid k hp (I.hok.fresh hp)) (I.hok.laid k hp new)
theorem Inv.write {x e:Addr}{o:HO}{t':Nat}(I:Inv X pins σ H s) (mu:Mut (H x)) (he:e=x\/H e=some (.own x)) (k: ∀b u,b≠e->s.heap.get? b=some u->h'.get? b=some u) (heo: ∃u,h'.get? e=some u)
 (new:ObjOk X.prog X.w (upd H x o) h' x o):Inv X pins σ (upd H x o) { s with heap:=h',toks:=t' }:=I.un (Un.write mu he k heo) (I.hok.write mu he k heo new)
theorem Inv.pins_of {pins':List (Addr×Obj)}(I:Inv X pins σ H s) (h: ∀p∈pins',s.heap.get? p.1=some p.2/\H p.1=none/\p.1≠X.env.locals/\p.1∉X.fs/\ ∀v,p.2.data≠ .cell v):Inv X pins' σ H s:=
 ⟨I.ok,I.os,I.bare,I.base,I.loc,I.cell,I.free,I.freeC,fun p hp=>(List.mem_append.mp hp).elim (fun z=>I.pin p (List.mem_append_left _ z)) (h p),I.hok,I.len⟩
theorem jr {N:List Str}(hN:N.Nodup){i j:Nat}{x:Str}(a:N[i]? =some x) (b:N[j]? =some x):i=j:=by
 obtain⟨h1,e1⟩:=List.getElem?_eq_some_iff.mp a
 obtain⟨h2,e2⟩:=List.getElem?_eq_some_iff.mp b
 exact(List.getElem_inj hN).mp (e1.trans e2.symm)
theorem xS {M:Model}{A:Around}{E:Value->Shared->Prop}{i:Nat}{x:Str}{v:V}{u:Value}{Q:Unit->Shared->Prop}(I:Inv X pins σ H s) (hN:X.N.Nodup) (hi:X.N[i]? =some x) (hx:Loc X.env.scope x) (r:RelV v u)
 (h: ∀s',Inv X pins (σ.set i (some v)) H s'->(∃ a,Heap.SameBut a s.heap s'.heap/\(a=X.env.locals\/X.env.cells.lookup x=some a))->Q () s') (hf:X.fn x=true\/X.env.scope.names.lookup x=some .local:=by first | exact .inl rfl | exact .inr rfl | assumption):wpAny M A (storeName X.env x u) Q E s:=by
 obtain⟨m,hn,hl⟩:=id I.loc
 have hcls:(X.env.scope.kind== .class||(X.env.scope.kind== .module&&X.env.locals != X.env.globals))=false:=by rw [I.ok.kind];rfl
 have hiσ:i<σ.length:=by rw [I.len];exact(List.getElem?_eq_some_iff.mp hi).1
 have cne:=I.cne
 have tracked: ∀ {a:Addr}{h':Heap},(∃ o,s.heap.get? a=some o/\H a=none)->Heap.SameBut a s.heap h'->HOk X.prog X.w H h':=fun {a h'} ha hs b ob e=>by
  obtain⟨_,_,hfree⟩:=ha
  refine(I.hok b ob e).stay (fun c w' hc q=>(hs.2 c ?_).trans q) (fun _ q=>q) fun _ _ q=>q
  rintro rfl
  rcases hc with rfl | hc
  ·rw [hfree]at e;cases e
  ·rw [hfree]at hc;cases hc
 rcases hx with hk | hk
 ·refine wpAny_storeName_local hk hn (fun h' hn' hs=> ?_) hcls
  obtain⟨oL,_,_,hoL,_⟩:=id hn
  refine h _ ⟨I.ok,I.os,I.bare,⟨fun b o e n hb hx=> ?_,fun b o e n hb hx=> ?_,I.base.free,fun b o e hx=> ?_,I.base.tups,I.base.frzs,I.base.tbls⟩,⟨_,hn',fun j y v' e1 e2 e3=> ?_⟩,fun y c e=> ?_,I.free,I.freeC,fun p hp=> ?_,tracked ⟨oL,hoL,I.free⟩ hs,by simpa using I.len⟩ ⟨_,hs,.inl rfl⟩
  ·exact(hs.2 b (Nat.ne_of_lt (Nat.lt_of_lt_of_le (Heap.lt_size e) I.ok.above))).trans (I.base.keep b o e n hb hx)
  ·obtain⟨sl,e1⟩:=I.base.slot b o e n hb hx
   exact⟨sl,(hs.2 b (Nat.ne_of_lt (Nat.lt_of_lt_of_le (Heap.lt_size e) I.ok.above))).trans e1⟩
  ·obtain⟨o',e1⟩:=I.base.there b o e hx
   exact⟨o',(hs.2 b (Nat.ne_of_lt (Nat.lt_of_lt_of_le (Heap.lt_size e) I.ok.above))).trans e1⟩
  ·by_cases hj:j=i
   ·subst hj
    rw [hi]at e1;cases e1
    rw [List.getElem?_set_self hiσ]at e2
    cases e2
    exact⟨u,r,.inl ⟨hk,by simp⟩⟩
   ·rw [List.getElem?_set_ne (Ne.symm hj)]at e2
    obtain⟨u',r',q⟩:=hl j y v' e1 e2 e3
    refine⟨u',r',?_⟩
    rcases q with⟨k,e⟩ | ⟨k,c,e,z⟩
    ·refine .inl ⟨k,?_⟩
     have:y≠x:=fun e=>hj (jr hN e1 (e▸hi))
     simp [this,e]
    ·exact .inr ⟨k,c,e,z.sameBut hs (cne y c e)⟩
  ·obtain⟨w',z⟩:=I.cell y c e
   exact⟨w',z.sameBut hs (cne y c e)⟩
  ·obtain⟨e,n,ne,nf,d⟩:=I.pin p hp
   exact⟨(hs.2 p.1 ne).trans e,n,ne,nf,d⟩
 ·have hfn:X.fn x=true:=by
   rcases hf with z | z
   ·exact z
   ·rw [z]at hk;cases hk
  obtain⟨c,hc⟩:=I.ok.has x (.inl hk)
  obtain⟨w',z⟩:=I.cell x c hc
  refine wpAny_storeName_cell I.ok.kind hk hc z (fun h' hc' hs=> ?_)
  obtain⟨oc,hoc,hocd⟩:=id z
  refine h { s with heap:=h' } ⟨I.ok,I.os,I.bare,⟨fun b o e n hb hx=> ?_,fun b o e n hb hx=> ?_,I.base.free,fun b o e hx=> ?_,I.base.tups,I.base.frzs,I.base.tbls⟩,⟨m,hn.sameBut hs (Ne.symm (cne x c hc)),fun j y v' e1 e2 e3=> ?_⟩,fun y c' e=> ?_,I.free,I.freeC,fun p hp=> ?_,tracked ⟨oc,hoc,I.freeC x c hc⟩ hs,by simpa using I.len⟩ ⟨c,hs,.inr hc⟩
  ·exact(hs.2 b (Nat.ne_of_lt (Nat.lt_of_lt_of_le (Heap.lt_size e) (I.ok.cab x c hfn hc)))).trans (I.base.keep b o e n hb hx)
  ·obtain⟨sl,e1⟩:=I.base.slot b o e n hb hx
   exact⟨sl,(hs.2 b (Nat.ne_of_lt (Nat.lt_of_lt_of_le (Heap.lt_size e) (I.ok.cab x c hfn hc)))).trans e1⟩
  ·obtain⟨o',e1⟩:=I.base.there b o e hx
   exact⟨o',(hs.2 b (Nat.ne_of_lt (Nat.lt_of_lt_of_le (Heap.lt_size e) (I.ok.cab x c hfn hc)))).trans e1⟩
  ·by_cases hj:j=i
   ·subst hj
    rw [hi]at e1;cases e1
    rw [List.getElem?_set_self hiσ]at e2
    cases e2
    exact⟨u,r,.inr ⟨.inl hk,c,hc,hc'⟩⟩
   ·rw [List.getElem?_set_ne (Ne.symm hj)]at e2
    obtain⟨u',r',q⟩:=hl j y v' e1 e2 e3
    refine⟨u',r',?_⟩
    rcases q with q | ⟨k,c',e,z'⟩
    ·exact .inl q
    ·refine .inr ⟨k,c',e,z'.sameBut hs ?_⟩
     rintro rfl
     exact hj (jr hN e1 (I.ok.inj _ _ _ e hc▸hi))
  ·by_cases hcc:c'=c
   ·subst hcc;exact⟨_,hc'⟩
   ·obtain⟨w2,z2⟩:=I.cell y c' e
    exact⟨w2,z2.sameBut hs hcc⟩
  ·obtain⟨e,n,ne,nf,d⟩:=I.pin p hp
   refine⟨(hs.2 p.1 ?_).trans e,n,ne,nf,d⟩
   intro q
   rw [q,hoc]at e
   have q':oc=p.2:=Option.some.inj e
   exact d w' (by rw [← q'];exact hocd)
theorem Qe {M:Model}{A:Around}{E:Value->Shared->Prop}{i:Nat}{x:Str}{v:V}{u:Value}{Q:Unit->Shared->Prop}(I:Inv X pins σ H s) (hN:X.N.Nodup) (hi:X.N[i]? =some x) (hx:Loc X.env.scope x) (r:RelV v u)
 (h: ∀s',Inv X pins (σ.set i (some v)) H s'->Q () s') (hf:X.fn x=true\/X.env.scope.names.lookup x=some .local:=by first | exact .inl rfl | exact .inr rfl | assumption):wpAny M A (storeName X.env x u) Q E s:=
 xS I hN hi hx r (fun s' I' _=>h s' I') hf
theorem Inv.call' {s':Shared}{ch:List Addr}(I:Inv X pins σ H s) (ho:s'.os=s.os) (u:Un (frs X.stack) ch H H' s.heap s'.heap) (hok:HOk X.prog X.w H' s'.heap) (hg:AllBare s'.gens)
 (hch: ∀b∈ch,(b∈X.ex\/X.s₀.heap.objs.size<=b)/\b≠X.env.locals/\(∀ x c,X.env.cells.lookup x=some c->c≠b)/\ ∀p∈X.pn++pins,p.1≠b):Inv X pins σ H' s':=by
 obtain⟨h',g',d',t',o'⟩:=s'
 have e:o'=s.os:=ho
 subst e
 exact I.call (g':=g') (t':=t') (d':=d') u hok hg hch
end
abbrev XK:=Value->Option Addr->Hp->Prop
abbrev St:=List (Option V)
abbrev VK:=V->Hp->Prop
abbrev TE:=St->Hp->VK->Prop
abbrev TT:=St->Hp->(Bool->Hp->Prop)->Prop
abbrev TA:=St->Hp->(List V->Hp->Prop)->Prop
structure Ends where
 nx:St->Hp->Prop
 rt:VK
 bk:St->Hp->Prop:=fun _ _=>False
 ct:St->Hp->Prop:=fun _ _=>False
abbrev TS:=Ends->St->Hp->Prop
def EP (X:Cx) (pins:List (Addr×Obj)) (σ:St) (Q:VK) (u:Value) (s':Shared):Prop:= ∃v H',Inv X pins σ H' s'/\RelV v u/\Q v H'
def TP (X:Cx) (pins:List (Addr×Obj)) (σ:St) (Q:Bool->Hp->Prop) (b:Bool) (s':Shared):Prop:= ∃H',Inv X pins σ H' s'/\Q b H'
def AP (X:Cx) (pins:List (Addr×Obj)) (σ:St) (Q:List V->Hp->Prop) (us:List Value) (s':Shared):Prop:= ∃vs H',Inv X pins σ H' s'/\Vals vs us/\Q vs H'
def SP (X:Cx) (pins:List (Addr×Obj)) (D:Ends) (f:Flow) (s':Shared):Prop:=
 match f with
 | .next=> ∃σ' H',Inv X pins σ' H' s'/\D.nx σ' H'
 | .brk=> ∃σ' H',Inv X pins σ' H' s'/\D.bk σ' H'
 | .cont=> ∃σ' H',Inv X pins σ' H' s'/\D.ct σ' H'
 | .ret u=> ∃v σ' H',Inv X pins σ' H' s'/\RelV v u/\D.rt v H'
def PE (X:Cx) (e:Expr) (t:TE):Prop:=
 ∀(pins:List (Addr×Obj)) (s:Shared) (σ:St) (H:Hp) (Q:VK),Inv X pins σ H s->t σ H Q->wpAny (model X.prog X.w) X.A (eval e X.env) (EP X pins σ Q) X.xe s
def PT (X:Cx) (e:Expr) (t:TT):Prop:=
 ∀(pins:List (Addr×Obj)) (s:Shared) (σ:St) (H:Hp) (Q:Bool->Hp->Prop),Inv X pins σ H s->t σ H Q->wpAny (model X.prog X.w) X.A (isTrue e X.env (eval e X.env)) (TP X pins σ Q) X.xe s
def PW (X:Cx) (e:Expr) (t:TT):Prop:=
 ∀(whole:Sem Value) (pins:List (Addr×Obj)) (s:Shared) (σ:St) (H:Hp) (Q:Bool->Hp->Prop),Inv X pins σ H s->t σ H Q->wpAny (model X.prog X.w) X.A (isTrue e X.env whole) (TP X pins σ Q) X.xe s
theorem PW.pt {X:Cx}{e:Expr}{t:TT}(h:PW X e t):PT X e t:=h _
def PA (X:Cx) (es:List Expr) (t:TA):Prop:=
 ∀(pos:Pos) (pins:List (Addr×Obj)) (s:Shared) (σ:St) (H:Hp) (Q:List V->Hp->Prop),Inv X pins σ H s->t σ H Q->wpAny (model X.prog X.w) X.A (spliced (backTo pos (starEach es X.env))) (AP X pins σ Q) X.xe s
def PS (X:Cx) (st:Stmt) (t:TS):Prop:=
 ∀(pins:List (Addr×Obj)) (s:Shared) (σ:St) (H:Hp) (D:Ends),Inv X pins σ H s->t D σ H->wpAny (model X.prog X.w) X.A (exec st X.env) (SP X pins D) X.xe s
def PSs (X:Cx) (st:List Stmt) (t:TS):Prop:=
 ∀(pins:List (Addr×Obj)) (s:Shared) (σ:St) (H:Hp) (D:Ends),Inv X pins σ H s->t D σ H->wpAny (model X.prog X.w) X.A (execs st X.env) (SP X pins D) X.xe s
theorem thn {α:Type}{t:Sem α}{Q Q':α->Shared->Prop}{M:Model}{A:Around}{E:Value->Shared->Prop}{s:Shared}(h:wpAny M A t Q E s) (hQ: ∀a s,Q a s->Q' a s):wpAny M A t Q' E s:=wpAny_mono h hQ fun _ _ x=>x
end L2
namespace L2
open PySem PySem.Spec PyProof.Rows
section
variable {X:Cx}
def tVar (i:Nat):TE:=fun σ H Q=> ∃v,σ[i]? =some (some v)/\Q v H
def tC (v:V):TE:=fun _ H Q=>Q v H
theorem Zl {i:Nat}{x:Str}{pos:Pos}(hN:X.N[i]? =some x) (hv:Vis X.env.scope x) (hd:(x==("__debug__" :Str))=false:=by decide) (hcd:(x==("__classdict__" :Str))=false:=by decide):PE X (.Name x pos) (tVar i):=by
 intro pins s σ H Q I h
 obtain⟨v,e,h⟩:=h
 obtain⟨m,hn,hl⟩:=I.loc
 obtain⟨u,r,l⟩:=hl i x v hN e hv
 have fin:EP X pins σ Q u s:=⟨v,H,I,r,h⟩
 rcases l with⟨hk,hm⟩ | ⟨hk,c,hc,hcell⟩
 ·exact wpAny_Name (wpAny_loadName_local I.ok.kind hk hn hm fin) hd
 ·rcases hk with hk | hk
  ·exact wpAny_Name (wpAny_loadName_cell I.ok.kind hk hc hcell fin) hd
  ·exact wpAny_Name (wpAny_loadName_free I.ok.kind hk hc hcell fin hcd) hd
theorem jaI {i j pos}:PE X (.Constant (.int i) j pos) (tC (.int i)):=fun _ _ _ H _ I h=>wpAny_Constant_int ⟨.int i,H,I.tok _,⟨_,rfl⟩,h⟩
theorem zaN {b j pos}:PE X (.Constant (.bool b) j pos) (tC (.bl b)):=fun _ _ _ H _ I h=>Constant_bool ⟨.bl b,H,I,rfl,h⟩
theorem zaJ {j pos}:PE X (.Constant .none j pos) (tC .non):=fun _ _ _ H _ I h=>Constant_none ⟨.non,H,I,rfl,h⟩
theorem zaz {x j pos}:PE X (.Constant (.str x) j pos) (tC (.str x)):=fun _ _ _ H _ I h=>Calls.Constant_str ⟨.str x,H,I.tok _,⟨_,rfl⟩,h⟩
def Gl (X:Cx) (x:Str):Prop:=X.env.kindOf x=some .globalImplicit
theorem jk {E:Value->Shared->Prop}{pins:List (Addr×Obj)}{s:Shared}{σ:St}{H:Hp}{x:Str}{u:Value}{pos:Pos}{Q:Value->Shared->Prop}(I:Inv X pins σ H s) (hg:Gl X x) (hm:X.mg x=some u) (h:Q u s)
 (hd:(x==("__debug__" :Str))=false:=by decide):wpAny (model X.prog X.w) X.A (eval (.Name x pos) X.env) Q E s:=
 Calls.Name_function_global I.ok.kind hg (Calls.loadGlobal_global (by rw [I.ok.glob];exact I.mod.glob.keeps I.bk) hm h) hd
theorem Jh {E:Value->Shared->Prop}{pins:List (Addr×Obj)}{s:Shared}{σ:St}{H:Hp}{x:Str}{u:Value}{pos:Pos}{Q:Value->Shared->Prop}(I:Inv X pins σ H s) (hg:Gl X x) (hm:X.mg x=none) (hv:bootBuiltins x=some u) (h:Q u s)
 (hn:x≠ "__name__" :=by decide) (hd:(x==("__debug__" :Str))=false:=by decide):wpAny (model X.prog X.w) X.A (eval (.Name x pos) X.env) Q E s:=by
 obtain⟨mb,h1,h2⟩:=I.mod.blt
 exact Calls.Name_function_global I.ok.kind hg (Calls.loadGlobal_builtin (by rw [I.ok.glob];exact I.mod.glob.keeps I.bk) hm (by rw [I.ok.blt];exact h1.keeps I.bk) ((h2 x hn).trans hv) h) hd
theorem Xx {x:Str}{v:V}{u:Value}{pos:Pos}(hg:Gl X x) (hm:X.mg x=some u) (r:RelV v u) (hd:(x==("__debug__" :Str))=false:=by decide):PE X (.Name x pos) (tC v):=
 fun _ _ _ H _ I h=>jk I hg hm ⟨v,H,I,r,h⟩ hd
theorem QI {x:Str}{v:V}{u:Value}{pos:Pos}(hg:Gl X x) (hm:X.mg x=none) (hv:bootBuiltins x=some u) (r:RelV v u) (hn:x≠ "__name__" :=by decide) (hd:(x==("__debug__" :Str))=false:=by decide):PE X (.Name x pos) (tC v):=
 fun _ _ _ H _ I h=>Jh I hg hm hv ⟨v,H,I,r,h⟩ hn hd
def t2I (ta tb:TE) (k:Int->Int->Hp->Prop):St->Hp->Prop:=fun σ H=>ta σ H fun x H1=>tb σ H1 fun y H2=> ∃i j,x= .int i/\y= .int j/\k i j H2
def tAdd (ta tb:TE):TE:=fun σ H Q=>t2I ta tb (fun i j H2=>Q (.int (i+j)) H2) σ H
def tSub (ta tb:TE):TE:=fun σ H Q=>t2I ta tb (fun i j H2=>Q (.int (i-j)) H2) σ H
def tMul (ta tb:TE):TE:=fun σ H Q=>t2I ta tb (fun i j H2=>(-(2 ^ 64)<i/\i<2 ^ 64)/\Q (.int (i*j)) H2) σ H
variable {a b:Expr}{ta tb:TE}{pos:Pos}
def PC (X:Cx) (op:CmpOp) (a b:Expr) (t:TE):Prop:=
 ∀(pins:List (Addr×Obj)) (s:Shared) (σ:St) (H:Hp) (Q:VK),Inv X pins σ H s->t σ H Q →
  wpAny (model X.prog X.w) X.A (eval a X.env) (fun v s₁=>wpAny (model X.prog X.w) X.A (eval b X.env) (fun u s₂=>wpAny (model X.prog X.w) X.A (compareOp op v u) (EP X pins σ Q) X.xe s₂) X.xe s₁) X.xe s
def tCmp (p:Int->Int->Bool) (ta tb:TE):TE:=fun σ H Q=>t2I ta tb (fun i j H2=>Q (.bl (p i j)) H2) σ H
abbrev tLt:TE->TE->TE:=tCmp fun i j=>decide (i<j)
abbrev tLe:TE->TE->TE:=tCmp fun i j=>decide (i<=j)
abbrev tGt:TE->TE->TE:=tCmp fun i j=>decide (j<i)
abbrev tGe:TE->TE->TE:=tCmp fun i j=>decide (j<=i)
abbrev tEqI:TE->TE->TE:=tCmp fun i j=>decide (i=j)
abbrev tNeI:TE->TE->TE:=tCmp fun i j=> !decide (i=j)
def tIsN (ta:TE):TE:=fun σ H Q=>ta σ H fun x H1=>Q (.bl (decide (x= .non))) H1
def tNotN (ta:TE):TE:=fun σ H Q=>ta σ H fun x H1=>Q (.bl (!decide (x= .non))) H1
def tB (t:TE):TT:=fun σ H Q=>t σ H fun x H1=> ∃c,x= .bl c/\Q c H1
variable {tA tB':TT}{rest:List Expr}
def tAnd (t u:TT):TT:=fun σ H Q=>t σ H fun c H1=>if c=true then u σ H1 Q else Q false H1
def tOr (t u:TT):TT:=fun σ H Q=>t σ H fun c H1=>if c=true then Q true H1 else u σ H1 Q
def tNot (t:TT):TT:=fun σ H Q=>t σ H fun c H1=>Q (!c) H1
theorem qal (ha:PT X a tA):PW X (.BoolOp .And [a] pos) tA:=by
 intro wh pins s σ H Q I h
 refine isTrue_and (thn (ha pins s σ H Q I h) fun c s1 e=> ?_)
 cases c with
 | true=>exact isTrue_and_nil e
 | false=>exact e
theorem jau (ha:PT X a tA):PW X (.BoolOp .Or [a] pos) tA:=by
 intro wh pins s σ H Q I h
 refine isTrue_or (thn (ha pins s σ H Q I h) fun c s1 e=> ?_)
 cases c with
 | false=>exact isTrue_or_nil e
 | true=>exact e
theorem xaw (ha:PT X a tA) (hb:PW X (.BoolOp .And (b::rest) pos) tB'):PW X (.BoolOp .And (a::b::rest) pos) (tAnd tA tB'):=by
 intro wh pins s σ H Q I h
 refine isTrue_and (thn (ha pins s σ H _ I h) fun c s1 ⟨H1,I1,q1⟩=> ?_)
 cases c with
 | true=>exact hb wh pins s1 σ H1 Q I1 q1
 | false=>exact⟨H1,I1,q1⟩
theorem xaN (ha:PT X a tA) (hb:PW X (.BoolOp .Or (b::rest) pos) tB'):PW X (.BoolOp .Or (a::b::rest) pos) (tOr tA tB'):=by
 intro wh pins s σ H Q I h
 refine isTrue_or (thn (ha pins s σ H _ I h) fun c s1 ⟨H1,I1,q1⟩=> ?_)
 cases c with
 | true=>exact⟨H1,I1,q1⟩
 | false=>exact hb wh pins s1 σ H1 Q I1 q1
theorem zay (ha:PT X a tA):PT X (.UnaryOp .Not a pos) (tNot tA):=by
 intro pins s σ H Q I h
 exact isTrue_not (ha pins s σ H (fun c H1=>Q (!c) H1) I h)
def tAndV (ta tb:TE):TE:=fun σ H Q=>ta σ H fun x H1=> ∃c,x= .bl c/\if c=true then tb σ H1 Q else Q (.bl false) H1
def tOrV (ta tb:TE):TE:=fun σ H Q=>ta σ H fun x H1=> ∃c,x= .bl c/\if c=true then Q (.bl true) H1 else tb σ H1 Q
def tNotV (ta:TE):TE:=fun σ H Q=>ta σ H fun x H1=> ∃c,x= .bl c/\Q (.bl (!c)) H1
theorem w6 {op}{t:TE}(h:PE X a t):PE X (.BoolOp op [a] pos) t:=fun pins s σ H Q I hw=>BoolOp_one (h pins s σ H Q I hw)
def tIf (t:TT) (ta tb:TE):TE:=fun σ H Q=>t σ H fun c H1=>if c=true then ta σ H1 Q else tb σ H1 Q
end
end L2
namespace L2
open PySem PySem.Spec PyProof.Rows
def SqL (K:PySem.W.Frag) (H:Hp) (a:Addr) (xs:List V):Prop:=
 Rd H a (.lst xs) ∨
  ∃(o:Obj) (its:Array Value) (n:Nat),K.lookup a=some o/\o.cls= .type "list" /\o.dict=none/\o.data= .seq its n/\its.size<=sizeLine/\Vals xs its.toList
def SqT (K:PySem.W.Frag) (H:Hp) (a:Addr) (xs:List V):Prop:=
 Rd H a (.tup xs) ∨
  ∃(o:Obj) (its:Array Value) (n:Nat),K.lookup a=some o/\o.cls= .type "tuple" /\o.data= .seq its n/\its.size<=sizeLine/\Vals xs its.toList
def absV:Value->Option V
 | .none=>some .non
 | .bool b=>some (.bl b)
 | .int i _=>some (.int i)
 | .str x _=>some (.str x)
 | .bytes b _=>some (.byt b)
 | .float b _=>some (.flt b)
 | .ref a=>some (.ref a)
 | .type n=>some (.ty n)
 | _=>none
theorem RelV.abs {x:V}{u:Value}(r:RelV x u):absV u=some x:=by
 cases x with
 | non=>cases r;rfl
 | bl _=>cases r;rfl
 | int _=>obtain⟨t,rfl⟩:=r;rfl
 | str _=>obtain⟨t,rfl⟩:=r;rfl
 | byt _=>obtain⟨t,rfl⟩:=r;rfl
 | flt _=>obtain⟨t,rfl⟩:=r;rfl
 | ref _=>cases r;rfl
 | ty _=>cases r;rfl
theorem RelV.inj {x y:V}{u:Value}(r:RelV x u) (q:RelV y u):x=y:=Option.some.inj (r.abs.symm.trans q.abs)
theorem Vals.inj: ∀ {xs ys:List V}{us:List Value},Vals xs us->Vals ys us->xs=ys
 | _,_,_,.nil,.nil=>rfl
 | _,_,_,.cons r t,.cons r' t'=>by rw [r.inj r',Vals.inj t t']
section
variable {X:Cx}{pins:List (Addr×Obj)}{σ:St}{H:Hp}{s:Shared}{a:Addr}{xs ys:List V}
theorem SqL.of {K:PySem.W.Frag}(h:H a=some (.lst xs)):SqL K H a xs:= .inl (.inl h)
theorem Inv.list (I:Inv X pins σ H s) (h:SqL X.K H a xs): ∃its:List Value,Vals xs its/\PlainL s.heap a its.toArray/\xs.length<=sizeLine:=by
 rcases h with h | ⟨o,its,n,hk,hc,hd,hs,hz,r⟩
 ·obtain⟨z,its,n,r,e⟩:=h.ok I.hok
  exact⟨its,r,⟨_,n,e,rfl,rfl,rfl⟩,z⟩
 ·refine⟨its.toList,r,⟨o,n,I.kIn a o hk,hc,hd,by simpa using hs⟩,?_⟩
  have e:=r.length
  simp only [Array.length_toList]at e
  omega
theorem Inv.tuple (I:Inv X pins σ H s) (h:SqT X.K H a xs): ∃its:List Value,Vals xs its/\IsTup s.heap a its.toArray/\xs.length<=sizeLine:=by
 rcases h with h | ⟨o,its,n,hk,hc,hs,hz,r⟩
 ·obtain⟨z,its,r,p⟩:=h.ok I.hok
  exact⟨its,r,p.is,z⟩
 ·refine⟨its.toList,r,⟨o,I.kIn a o hk,hc,n,by simpa using hs⟩,?_⟩
  have e:=r.length
  simp only [Array.length_toList]at e
  omega
theorem Inv.list_inj (I:Inv X pins σ H s) (h:SqL X.K H a xs) (h':SqL X.K H a ys):xs=ys:=by
 obtain⟨its,r,⟨o,n,e,_,_,d⟩,_⟩:=I.list h
 obtain⟨its',r',⟨o',n',e',_,_,d'⟩,_⟩:=I.list h'
 rw [e]at e';cases e'
 rw [d]at d'
 injection d' with d1 _
 have:its=its':=by simpa using congrArg Array.toList d1
 subst this
 exact r.inj r'
theorem Inv.tuple_inj (I:Inv X pins σ H s) (h:SqT X.K H a xs) (h':SqT X.K H a ys):xs=ys:=by
 obtain⟨its,r,⟨o,e,_,n,d⟩,_⟩:=I.tuple h
 obtain⟨its',r',⟨o',e',_,n',d'⟩,_⟩:=I.tuple h'
 rw [e]at e';cases e'
 rw [d]at d'
 injection d' with d1 _
 have:its=its':=by simpa using congrArg Array.toList d1
 subst this
 exact r.inj r'
end
abbrev Cx.wish (X:Cx) (E:Value->Shared->Prop):Cx:= { X with xe:=E }
abbrev Cx.nox (X:Cx):Cx:=X.wish fun _ _=>False
theorem Cx.Ok.wish {X:Cx}(ok:X.Ok) (E:Value->Shared->Prop):(X.wish E).Ok:=
 ⟨ok.mod,ok.kind,ok.glob,ok.blt,ok.above,ok.inj,ok.has,ok.cab,ok.hd,ok.frames,ok.stk,ok.exf,ok.bs,ok.bsz,ok.noex,ok.exfs,ok.funs,ok.frf⟩
theorem Cx.Ok.unwish {X:Cx}{E:Value->Shared->Prop}(ok:(X.wish E).Ok):X.Ok:=
 ⟨ok.mod,ok.kind,ok.glob,ok.blt,ok.above,ok.inj,ok.has,ok.cab,ok.hd,ok.frames,ok.stk,ok.exf,ok.bs,ok.bsz,ok.noex,ok.exfs,ok.funs,ok.frf⟩
section
variable {X:Cx}{pins:List (Addr×Obj)}{σ:St}{H:Hp}{s:Shared}{E:Value->Shared->Prop}
theorem Inv.wish (I:Inv X pins σ H s) (E:Value->Shared->Prop):Inv (X.wish E) pins σ H s:=⟨I.ok.wish E,I.os,I.bare,I.base,I.loc,I.cell,I.free,I.freeC,I.pin,I.hok,I.len⟩
theorem Inv.unwish (I:Inv (X.wish E) pins σ H s):Inv X pins σ H s:=⟨I.ok.unwish,I.os,I.bare,I.base,I.loc,I.cell,I.free,I.freeC,I.pin,I.hok,I.len⟩
theorem SP.unwish {D:Ends}{f:Flow}{s':Shared}(h:SP (X.wish E) pins D f s'):SP X pins D f s':=by
 cases f with
 | next=>obtain⟨σ',H',I,q⟩:=h;exact⟨σ',H',I.unwish,q⟩
 | brk=>obtain⟨σ',H',I,q⟩:=h;exact⟨σ',H',I.unwish,q⟩
 | cont=>obtain⟨σ',H',I,q⟩:=h;exact⟨σ',H',I.unwish,q⟩
 | ret u=>obtain⟨v,σ',H',I,r,q⟩:=h;exact⟨v,σ',H',I.unwish,r,q⟩
end
section
variable {X:Cx}{st:Stmt}{rest:List Stmt}{t u:TS}{e:Expr}{te:TE}{pos:Pos}
def tNext:TS:=fun D σ H=>D.nx σ H
def tSeq (t u:TS):TS:=fun D σ H=>t { D with nx:=u D } σ H
theorem jai:PSs X [] tNext:=fun _ _ σ H _ I h=>wpAny_execs_nil ⟨σ,H,I,h⟩
theorem J1 (h1:PS X st t) (h2:PSs X rest u):PSs X (st::rest) (tSeq t u):=by
 intro pins s σ H D I h
 refine wpAny_execs_cons (thn (h1 pins s σ H { D with nx:=u D } I h) fun f s1 q=> ?_)
 cases f with
 | next=>
  obtain⟨σ',H',I',q⟩:=q
  exact h2 pins s1 σ' H' D I' q
 | ret v=>exact q
 | brk=>exact q
 | cont=>exact q
def tBreak:TS:=fun D σ H=>D.bk σ H
def tCont:TS:=fun D σ H=>D.ct σ H
theorem Inv.quiet {pins:List (Addr×Obj)}{σ:St}{H:Hp}{s:Shared}(I:Inv X pins σ H s):interactive X.env=false:=by simp [interactive,I.ok.kind]
def tDrop (te:TE):TS:=fun D σ H=>te σ H fun _ H1=>D.nx σ H1
theorem Jp (he:PE X e te) (hs:swapsWith e none pos.line X.env=pure false:=by rfl):PS X (.Expr e pos) (tDrop te):=by
 intro pins s σ H D I h
 exact wpAny_Expr_any (thn (he pins s σ H _ I h) fun v s1 ⟨x,H1,I1,r1,q1⟩=>⟨σ,H1,I1,q1⟩) I.quiet hs
def tRet (te:TE):TS:=fun D σ H=>te σ H D.rt
theorem Z5 (he:PE X e te):PS X (.Return (some e) pos) (tRet te):=by
 intro pins s σ H D I h
 exact wpAny_Return_some (thn (he pins s σ H _ I h) fun v s1 ⟨x,H1,I1,r1,q1⟩=>⟨x,σ,H1,I1,r1,q1⟩)
def tRetN:TS:=fun D _ H=>D.rt .non H
def tIfS (c:TT) (t u:TS):TS:=fun D σ H=>c σ H fun b H1=>if b=true then t D σ H1 else u D σ H1
theorem zaP {c:Expr}{a b:List Stmt}{tc:TT}(hc:PT X c tc) (ha:PSs X a t) (hb:PSs X b u):PS X (.If c a b pos) (tIfS tc t u):=by
 intro pins s σ H D I h
 refine wpAny_If (thn (hc pins s σ H _ I h) fun d s1 ⟨H1,I1,q1⟩=> ?_)
 cases d with
 | true=>exact ha pins s1 σ H1 D I1 q1
 | false=>exact hb pins s1 σ H1 D I1 q1
def tNever:TS:=fun _ _ _=>False
end
abbrev TG:=V->St->Hp->(St->Hp->Prop)->Prop
abbrev TGs:=List V->St->Hp->(St->Hp->Prop)->Prop
def PG (X:Cx) (target:Expr) (t:TG):Prop:=
 ∀(pins:List (Addr×Obj)) (s:Shared) (σ:St) (H:Hp) (v:V) (u:Value) (Q:St->Hp->Prop),Inv X pins σ H s->RelV v u->t v σ H Q →
  wpAny (model X.prog X.w) X.A (assign target X.env u) (fun _ s'=> ∃σ' H',Inv X pins σ' H' s'/\Q σ' H') X.xe s
def PGs (X:Cx) (ts:List Expr) (t:TGs):Prop:=
 ∀(pins:List (Addr×Obj)) (s:Shared) (σ:St) (H:Hp) (vs:List V) (us:List Value) (Q:St->Hp->Prop),Inv X pins σ H s->Vals vs us->t vs σ H Q →
  wpAny (model X.prog X.w) X.A (assignInOrder ((assignEach ts X.env).map (·.2)) us) (fun _ s'=> ∃σ' H',Inv X pins σ' H' s'/\Q σ' H') X.xe s
abbrev TSet:=V->V->V->Hp->(Hp->Prop)->Prop
def PSet (X:Cx) (t:TSet):Prop:=
 ∀(pins:List (Addr×Obj)) (s:Shared) (σ:St) (H:Hp) (o i v:V) (ov iv u:Value) (Q:Hp->Prop),Inv X pins σ H s->RelV o ov->RelV i iv->RelV v u->t o i v H Q →
  wpAny (model X.prog X.w) X.A (setItem ov iv u) (fun _ s'=> ∃H',Inv X pins σ H' s'/\Q H') X.xe s
abbrev TIp:=V->V->Hp->VK->Prop
def PIp (X:Cx) (op:Operator) (t:TIp):Prop:=
 ∀(pins:List (Addr×Obj)) (s:Shared) (σ:St) (H:Hp) (x y:V) (v u:Value) (Q:VK),Inv X pins σ H s->RelV x v->RelV y u->t x y H Q →
  wpAny (model X.prog X.w) X.A (inplaceOp op v u) (EP X pins σ Q) X.xe s
section
variable {X:Cx}{pos:Pos}
def gName (i:Nat):TG:=fun v σ H Q=>Q (σ.set i (some v)) H
theorem xP {i:Nat}{x:Str}(hN:X.N.Nodup) (hi:X.N[i]? =some x) (hx:Loc X.env.scope x) (hf:X.fn x=true\/X.env.scope.names.lookup x=some .local:=by first | exact .inl rfl | exact .inr rfl | assumption):PG X (.Name x pos) (gName i):=by
 intro pins s σ H v u Q I r h
 exact wpAny_assign_Name (Qe I hN hi hx r (fun s' I'=>⟨_,H,I',h⟩) hf)
def gNil:TGs:=fun vs σ H Q=>vs= []/\Q σ H
def gCons (t:TG) (u:TGs):TGs:=fun vs σ H Q=> ∃v r,vs=v::r/\t v σ H fun σ' H'=>u r σ' H' Q
theorem jao:PGs X [] gNil:=by
 intro pins s σ H vs us Q I r h
 obtain⟨e,h⟩:=h
 subst e
 cases r
 exact assignInOrder_nil ⟨σ,H,I,h⟩
theorem Q0 {e:Expr}{es:List Expr}{t:TG}{u:TGs}(h1:PG X e t) (h2:PGs X es u)
 (hs:(assignEach (e::es) X.env).map (·.2)=assign e X.env::(assignEach es X.env).map (·.2):=by rfl):PGs X (e::es) (gCons t u):=by
 intro pins s σ H vs us Q I r h
 obtain⟨v,vr,e1,h⟩:=h
 subst e1
 cases r with
 | cons r rr=>
  rw [hs]
  refine assignInOrder_cons (thn (h1 pins s σ H _ _ _ I r h) fun _ s1 ⟨σ1,H1,I1,q1⟩=> ?_)
  exact h2 pins s1 σ1 H1 _ _ Q I1 rr q1
def gTup (K:PySem.W.Frag) (n:Nat) (t:TGs):TG:=fun v σ H Q=> ∃a xs,v= .ref a/\SqT K H a xs/\xs.length=n/\t xs σ H Q
theorem qaB {es:List Expr}{k:Nat}{t:TGs}{n:Nat}(hc:X.calm=true) (h:PGs X es t)
 (hn:(assignEach es X.env).length=n:=by rfl) (hst:(assignEach es X.env).findIdx? (·.1)=none:=by rfl):PG X (.Tuple es k pos) (gTup X.K n t):=by
 intro pins s σ H v u Q I r hw
 obtain⟨a,xs,e1,hq,hl,hw⟩:=hw
 subst e1
 cases r
 obtain⟨its,rv,ht,hz⟩:=I.tuple hq
 refine assign_Tuple_tuple (I.ok.hd hc) ht (by simp [hn,←hl,rv.length]) hst fun h' hx=> ?_
 have I1:Inv X pins σ H { s with heap:=h' }:=I.kept (t':=s.toks) fun b o e=>hx b o (Nat.ne_of_lt (Heap.lt_size e)) e
 exact h pins _ σ H xs _ Q I1 (by simpa using rv) hw
def gSub (to ti:TE) (t:TSet):TG:=fun v σ H Q=>to σ H fun o H1=>ti σ H1 fun i H2=>t o i v H2 fun H3=>Q σ H3
theorem J5 {o i:Expr}{to ti:TE}{t:TSet}(ho:PE X o to) (hi:PE X i ti) (hs:PSet X t)
 (ha: ∀v,assign (.Subscript o i pos) X.env v=(do
   let ov ←holding [v] (eval o X.env)
   let iv ←holding [v,ov] (eval i X.env)
   standAt pos
   holding [v,ov,iv] (setItem ov iv v)
   release [v,ov,iv] []):=by intro _;rfl):PG X (.Subscript o i pos) (gSub to ti t):=by
 intro pins s σ H v u Q I r h
 rw [ha]
 refine wpAny_bind (wpAny_holding (thn (ho pins s σ H _ I h) fun ov s1 ⟨x,H1,I1,r1,q1⟩=> ?_))
 refine wpAny_bind (wpAny_holding (thn (hi pins s1 σ H1 _ I1 q1) fun iv s2 ⟨y,H2,I2,r2,q2⟩=> ?_))
 refine wpAny_bind (wpAny_standAt (wpAny_bind (wpAny_holding (thn (hs pins s2 σ H2 x y v ov iv u _ I2 r1 r2 r q2) fun _ s3 ⟨H3,I3,q3⟩=> ?_))))
 exact wpAny_release ⟨σ,H3,I3,q3⟩
def tAsg (te:TE) (g:TG):TS:=fun D σ H=>te σ H fun x H1=>g x σ H1 D.nx
theorem jI {tg e:Expr}{te:TE}{g:TG}(he:PE X e te) (hg:PG X tg g) (hs:swapsWithSole [tg] e pos.line X.env=pure false:=by rfl) (hw:swappedStores [tg] e X.env=pure none:=by rfl)
 (h1:(assignEach [tg] X.env).map (·.2)= [assign tg X.env]:=by rfl):PS X (.Assign [tg] e pos) (tAsg te g):=by
 intro pins s σ H D I h
 refine wpAny_Assign_stores (thn (he pins s σ H _ I h) fun v s1 ⟨x,H1,I1,r1,q1⟩=> ?_) hs hw
 rw [h1]
 exact thn (hg pins s1 σ H1 x v _ I1 r1 q1) fun _ s2 q=>q
theorem Z7 {i:Nat}{x:Str}{e:Expr}{te:TE}{pos':Pos}(hN:X.N.Nodup) (hi:X.N[i]? =some x) (hx:Loc X.env.scope x) (he:PE X e te) (hs:swapsWith e (some (.Name x pos')) pos.line X.env=pure false:=by rfl) (hf:X.fn x=true\/X.env.scope.names.lookup x=some .local:=by first | exact .inl rfl | exact .inr rfl | assumption):
 PS X (.Assign [.Name x pos'] e pos) (tAsg te (gName i)):=by
 intro pins s σ H D I h
 refine wpAny_Assign_Name (thn (he pins s σ H _ I h) fun v s1 ⟨y,H1,I1,r1,q1⟩=> ?_) hs
 exact Qe I1 hN hi hx r1 (fun s2 I2=>⟨_,H1,I2,q1⟩) hf
def tPar (i j:Nat) (ta:TA):TS:=fun D σ H=>ta σ H fun vs H1=> ∃v w,vs= [v,w]/\D.nx ((σ.set i (some v)).set j (some w)) H1
def tAug (i:Nat) (te:TE) (ti:TIp):TS:=fun D σ H=> ∃x,σ[i]? =some (some x)/\te σ H fun y H1=>ti x y H1 fun z H2=>D.nx (σ.set i (some z)) H2
def tAugS (to ti te:TE) (tget:V->V->Hp->VK->Prop) (tip:TIp) (tset:TSet):TS:=fun D σ H=>to σ H fun o H1=>ti σ H1 fun i H2=>tget o i H2 fun x H3=>te σ H3 fun y H4=>tip x y H4 fun z H5=>tset o i z H5 fun H6=>D.nx σ H6
def PGet (X:Cx) (t:V->V->Hp->VK->Prop):Prop:=
 ∀(pins:List (Addr×Obj)) (s:Shared) (σ:St) (H:Hp) (o i:V) (ov iv:Value) (Q:VK),Inv X pins σ H s->RelV o ov->RelV i iv->t o i H Q →
  wpAny (model X.prog X.w) X.A (getItem ov iv) (EP X pins σ Q) X.xe s
def ipI (f:Int->Int->Int):TIp:=fun x y H Q=> ∃i j,x= .int i/\y= .int j/\Q (.int (f i j)) H
end
section
variable {X:Cx}{pos:Pos}
def tWhile (c:TT) (tb:TS):TS:=fun D σ H=> ∃W:Nat->St->Hp->Prop,(∃ m,W m σ H)/\ ∀m σ H,W m σ H →
 c σ H fun b H1=>if b=true then ∃N:St->Hp->Prop,(∀ σ' H',N σ' H'-> ∃m',m'<m/\W m' σ' H')/\tb { D with nx:=N,ct:=N,bk:=D.nx } σ H1 else D.nx σ H1
theorem W1 {c:Expr}{body:List Stmt}{tc:TT}{tb:TS}(hp:PassesOwn (model X.prog X.w) X.A X.env X.xe) (hc:PT X c tc) (hb:PSs X body tb):PS X (.While c body [] pos) (tWhile tc tb):=by
 intro pins s σ H D I h
 obtain⟨W,⟨m0,w0⟩,turn⟩:=h
 refine wpAny_While (codeAny_whileLoop (fun n s'=> ∃σ' H',Inv X pins σ' H' s'/\W n σ' H') ?_ m0 ⟨σ,H,I,w0⟩)
 rintro n s1 ⟨σ1,H1,I1,w1⟩
 refine wpAny_passesOwn hp (thn (hc pins s1 σ1 H1 _ I1 (turn n σ1 H1 w1)) fun b s2 ⟨H2,I2,q2⟩=> ?_)
 cases b with
 | true=>
  obtain⟨N,hN,q2⟩:=q2
  rw [if_pos rfl]
  refine wpAny_passesOwn hp (thn (hb pins s2 σ1 H2 _ I2 q2) fun f s3 q3=> ?_)
  cases f with
  | next=>
   obtain⟨σ3,H3,I3,n3⟩:=q3
   obtain⟨m',hm,w3⟩:=hN σ3 H3 n3
   exact⟨m',hm,σ3,H3,I3,w3⟩
  | cont=>
   obtain⟨σ3,H3,I3,n3⟩:=q3
   obtain⟨m',hm,w3⟩:=hN σ3 H3 n3
   exact⟨m',hm,σ3,H3,I3,w3⟩
  | brk=>exact q3
  | ret v=>exact q3
 | false=>
  rw [if_neg Bool.false_ne_true]
  exact wpAny_execs_nil ⟨σ1,H2,I2,q2⟩
end
structure It where
 go:Nat->Hp->Prop
 yld:Nat->Hp->V->Hp->Prop
 stop:Nat->Hp->Prop
def FpOk (X:Cx) (pins:List (Addr×Obj)) (H:Hp) (b:Addr):Prop:=
 H b=none/\b≠X.env.locals/\b∉X.fs/\(b∈X.ex\/X.s₀.heap.objs.size<=b)/\(∀ x c,X.env.cells.lookup x=some c->c≠b)/\ ∀p∈X.pn++pins,p.1≠b
theorem Inv.fpOk {X:Cx}{pins:List (Addr×Obj)}{σ:St}{H H':Hp}{s:Shared}{b:Addr}(I:Inv X pins σ H s) (hb:s.heap.objs.size<=b) (hn:H' b=none):FpOk X pins H' b:=by
 refine⟨hn,Nat.ne_of_gt (Nat.lt_of_lt_of_le I.lt hb),I.nofs hb,.inr (Nat.le_trans I.sz hb),fun x c e z=> ?_,fun p hp z=> ?_⟩
 ·obtain⟨v,q⟩:=I.cell x c e
  exact absurd (Nat.lt_of_lt_of_le q.lt (by rw [z];exact hb)) (Nat.lt_irrefl _)
 ·exact absurd (Nat.lt_of_lt_of_le (Heap.lt_size (I.pin p hp).1) (by rw [z];exact hb)) (Nat.lt_irrefl _)
structure Turn (P:Program) (w:World) (K:PySem.W.Frag) (tg:Expr) (J:It) (fp:List Addr) (it:Addr) (tn:Nat->Heap->Prop):Prop where
 mem:it∈fp
 obj: ∀i h,tn i h-> ∀b∈fp,∃o,h.get? b=some o/\ ∀v,o.data≠ .cell v
 keep: ∀i h h',tn i h->(∀ b∈fp,∀o,h.get? b=some o->h'.get? b=some o)->tn i h'
 item: ∀(X:Cx),X.prog=P->X.w=w->X.K=K->X.calm=true-> ∀(i:Nat) (pins:List (Addr×Obj)) (s:Shared) (σ:St) (H:Hp) (E:Value->Shared->Prop),Inv X pins σ H s->(∀ b∈fp,FpOk X pins H b)->tn i s.heap->J.go i H →
  wpAny (model P w) X.A (pyNext (.ref it)) (fun r s1=> ∃u,r=some u ∧
   wpAny (model P w) X.A (letOwnedTupleGo tg (.ref it) u) (fun _ s2=> ∃x H',Inv X pins σ H' s2/\RelV x u/\J.yld i H x H'/\tn (i+1) s2.heap/\ ∀b∈fp,H' b=none) E s1) E s
 done: ∀(X:Cx),X.prog=P->X.w=w->X.K=K->X.calm=true-> ∀(i:Nat) (pins:List (Addr×Obj)) (s:Shared) (σ:St) (H:Hp) (E:Value->Shared->Prop),Inv X pins σ H s->(∀ b∈fp,FpOk X pins H b)->tn i s.heap->J.stop i H →
  wpAny (model P w) X.A (pyNext (.ref it)) (fun r s1=>r=none/\Inv X pins σ H s1) E s
 self: ∀(A:Around) (i:Nat) (s:Shared) (Q:Value->Shared->Prop) (E:Value->Shared->Prop),tn i s.heap->Q (.ref it) s->wpAny (model P w) A (pyIter (.ref it)) Q E s
abbrev TI:=St->Hp->(It->Hp->Prop)->Prop
def PIE (X:Cx) (pins:List (Addr×Obj)) (σ:St) (tg:Expr) (R:It->Hp->Prop) (itv:Value) (s2:Shared):Prop:=
 ∃(it:Addr) (fp:List Addr) (tn:Nat->Heap->Prop) (J:It) (H':Hp),itv= .ref it/\Inv X pins σ H' s2/\Turn X.prog X.w X.K tg J fp it tn/\tn 0 s2.heap/\(∀ b∈fp,FpOk X pins H' b)/\R J H'
def PI (X:Cx) (tg iter:Expr) (wi:TI):Prop:=
 ∀(pins:List (Addr×Obj)) (s:Shared) (σ:St) (H:Hp) (R:It->Hp->Prop),Inv X pins σ H s->wi σ H R →
  wpAny (model X.prog X.w) X.A (eval iter X.env) (fun v s1=>wpAny (model X.prog X.w) X.A (pyIter v) (PIE X pins σ tg R) X.xe s1) X.xe s
theorem zH {M:Model}{A:Around}{E:Value->Shared->Prop}{s:Shared}{tg:Expr}{it:Addr}{u:Value}{o:Obj}{n:String}{vs:Array Value}{Q:Unit->Shared->Prop}(ho:s.heap.get? it=some o) (hc:o.cls= .type n) (hd:o.data= .fields vs)
 (hn: ["enumerate", "zip", "dict_itemiterator", "dict_reverseitemiterator", "odict_iterator", "itertools.zip_longest", "itertools.pairwise"].contains n=false) (hQ:Q () s):wpAny M A (letOwnedTupleGo tg (.ref it) u) Q E s:=by
 unfold letOwnedTupleGo
 cases tg<;>first
  | exact wpAny_pure hQ
  | (cases u<;>first
      | exact wpAny_pure hQ
      | (refine wpAny_bind (wpAny_load ho ?_)
         rw [hc,hd]
         show wpAny M A (if (["enumerate", "zip", "dict_itemiterator", "dict_reverseitemiterator", "odict_iterator", "itertools.zip_longest", "itertools.pairwise"].contains n&&vs[0]? ==some (rawInt _))=true then _ else _) Q E s
         rw [if_neg (by intro h;rw [hn,Bool.false_and]at h;cases h)]
         exact wpAny_pure hQ))
def Itl (K:PySem.W.Frag) (a:Addr):It:=
 ⟨fun i H=> ∃xs x,SqL K H a xs/\xs[i]? =some x,fun i H x H'=>H'=H/\ ∀xs,SqL K H a xs->xs[i]? =some x,fun i H=> ∃xs,SqL K H a xs/\xs.length<=i⟩
def Itt (K:PySem.W.Frag) (a:Addr):It:=
 ⟨fun i H=> ∃xs x,SqT K H a xs/\xs[i]? =some x,fun i H x H'=>H'=H/\ ∀xs,SqT K H a xs->xs[i]? =some x,fun i H=> ∃xs,SqT K H a xs/\xs.length<=i⟩
def Itr (lo:Int) (n:Nat):It:=⟨fun i _=>i<n,fun i H x H'=>H'=H/\x= .int (lo+i),fun i _=>n<=i⟩
theorem zP {P:Program}{w:World}{K:PySem.W.Frag}{tg:Expr}(a it:Addr):Turn P w K tg (Itl K a) [it] it (fun i h=>h.IsListIter it a i) where
 mem:=by simp
 obj:=fun i h st b hb=>by
  have e:b=it:=by simpa using hb
  subst e
  obtain⟨o,e,c,d⟩:=st
  exact⟨o,e,fun v z=>by rw [d]at z;cases z⟩
 keep:=fun i h h' st k=>st.at fun o e=>k it (by simp) o e
 item:=by
  intro X hP hw hK hc i pins s σ H E I hf st hg
  subst hP hw hK
  obtain⟨xs,x,hq,hx⟩:=hg
  obtain⟨its,rv,p,hz⟩:=I.list hq
  obtain⟨u,hu,ru⟩:=rv.get hx
  obtain⟨f0,f1,f2,f3,f4,f5⟩:=hf it (by simp)
  refine wpAny_pyNext_list_item st p.isList (x:=u) (by simpa using hu) fun h' st' sb=> ?_
  have I1:Inv X pins σ H { s with heap:=h' }:=I.turned (t':=s.toks) (fun b o hb e=>(sb.2 b hb).trans e) f0 f1 f3 f4 f5
  obtain⟨o,e,c,d⟩:=id st'
  exact⟨u,rfl,zH (s:= { s with heap:=h' }) e c d (by decide) ⟨x,H,I1,ru,⟨rfl,fun ys hy=>by rw [I.list_inj hy hq];exact hx⟩,st',fun b hb=>(hf b hb).1⟩⟩
 done:=by
  intro X hP hw hK hc i pins s σ H E I hf st hg
  subst hP hw hK
  obtain⟨xs,hq,hx⟩:=hg
  obtain⟨its,rv,p,hz⟩:=I.list hq
  obtain⟨f0,f1,f2,f3,f4,f5⟩:=hf it (by simp)
  have hl:=rv.length
  exact wpAny_pyNext_list_end (I.ok.hd hc) st p.isList (by simp;omega) fun h' eb=>⟨rfl,I.turned (t':=s.toks) (fun b o hb e=>eb b o hb e) f0 f1 f3 f4 f5⟩
 self:=fun _ _ _ _ _ st h=>wpAny_pyIter_listiter st h
theorem jF {P:Program}{w:World}{K:PySem.W.Frag}{tg:Expr}(a it:Addr):Turn P w K tg (Itt K a) [it] it (fun i h=>h.IsTupleIter it a i) where
 mem:=by simp
 obj:=fun i h st b hb=>by
  have e:b=it:=by simpa using hb
  subst e
  obtain⟨o,e,c,d⟩:=st
  exact⟨o,e,fun v z=>by rw [d]at z;cases z⟩
 keep:=fun i h h' st k=>st.at fun o e=>k it (by simp) o e
 item:=by
  intro X hP hw hK hc i pins s σ H E I hf st hg
  subst hP hw hK
  obtain⟨xs,x,hq,hx⟩:=hg
  obtain⟨its,rv,p,hz⟩:=I.tuple hq
  obtain⟨u,hu,ru⟩:=rv.get hx
  obtain⟨f0,f1,f2,f3,f4,f5⟩:=hf it (by simp)
  refine wpAny_pyNext_tuple_item st (show s.heap.IsTuple a its.toArray from p) (x:=u) (by simpa using hu) fun h' st' sb=> ?_
  have I1:Inv X pins σ H { s with heap:=h' }:=I.turned (t':=s.toks) (fun b o hb e=>(sb.2 b hb).trans e) f0 f1 f3 f4 f5
  obtain⟨o,e,c,d⟩:=id st'
  exact⟨u,rfl,zH (s:= { s with heap:=h' }) e c d (by decide) ⟨x,H,I1,ru,⟨rfl,fun ys hy=>by rw [I.tuple_inj hy hq];exact hx⟩,st',fun b hb=>(hf b hb).1⟩⟩
 done:=by
  intro X hP hw hK hc i pins s σ H E I hf st hg
  subst hP hw hK
  obtain⟨xs,hq,hx⟩:=hg
  obtain⟨its,rv,p,hz⟩:=I.tuple hq
  obtain⟨f0,f1,f2,f3,f4,f5⟩:=hf it (by simp)
  have hl:=rv.length
  exact wpAny_pyNext_tuple_end (I.ok.hd hc) st (show s.heap.IsTuple a its.toArray from p) (by simp;omega) fun h' eb=>⟨rfl,I.turned (t':=s.toks) (fun b o hb e=>eb b o hb e) f0 f1 f3 f4 f5⟩
 self:=fun _ _ _ _ _ st h=>wpAny_pyIter_tupleiter st h
theorem ZF {P:Program}{w:World}{K:PySem.W.Frag}{tg:Expr}(it:Addr) (lo:Int) (n:Nat):Turn P w K tg (Itr lo n) [it] it (fun i h=>IsRangeIter h it (lo+(i:Nat)*1) ((n:Int)-(i:Nat)) 1) where
 mem:=by simp
 obj:=fun i h st b hb=>by
  have e:b=it:=by simpa using hb
  subst e
  exact⟨_,st,fun v z=>by
   have z':Data.fields _=Data.cell v:=z
   cases z'⟩
 keep:=fun i h h' st k=>k it (by simp) _ st
 item:=by
  intro X hP hw hK hc i pins s σ H E I hf st hg
  subst hP hw hK
  obtain⟨f0,f1,f2,f3,f4,f5⟩:=hf it (by simp)
  have W:=Walks.range (prog:=X.prog) (w:=X.w) (I.ok.hd hc) it lo 1 n
  refine W.item i s _ _ hg st fun v h' tk hv st' kk=> ?_
  obtain⟨t,rfl⟩:=hv
  have I1:Inv X pins σ H { s with heap:=h',toks:=tk }:=I.turned (fun b o hb e=>kk b o (by simpa using hb) e) f0 f1 f3 f4 f5
  refine⟨_,rfl,zH (s:= { s with heap:=h',toks:=tk }) (n:= "range_iterator") st' rfl rfl (by decide) ⟨.int (lo+i),H,I1,⟨t,?_⟩,⟨rfl,rfl⟩,st',fun b hb=>(hf b hb).1⟩⟩
  rw [Int.mul_one]
 done:=by
  intro X hP hw hK hc i pins s σ H E I hf st hg
  subst hP hw hK
  obtain⟨f0,f1,f2,f3,f4,f5⟩:=hf it (by simp)
  exact wpAny_pyNext_range_end (I.ok.hd hc) st (by have:n<=i:=hg;omega) fun h' eb=>⟨rfl,I.turned (t':=s.toks) (fun b o hb e=>eb b o hb e) f0 f1 f3 f4 f5⟩
 self:=fun _ _ _ _ _ st h=>wpAny_pyIter_rangeiter st h
end L2
namespace L2
open PySem PySem.Spec PyProof.Rows
section
variable {X:Cx}{tg:Expr}
def iList (K:PySem.W.Frag) (tl:TE):TI:=fun σ H R=>tl σ H fun x H1=> ∃a,x= .ref a/\(∃ xs,SqL K H1 a xs)/\R (Itl K a) H1
def iTup (K:PySem.W.Frag) (tl:TE):TI:=fun σ H R=>tl σ H fun x H1=> ∃a,x= .ref a/\(∃ xs,SqT K H1 a xs)/\R (Itt K a) H1
theorem ZD {pins:List (Addr×Obj)}{σ:St}{H:Hp}{s:Shared}{R:It->Hp->Prop}{E:Value->Shared->Prop}{lo hi:Int}{t u v:Tok}{tk:Nat}(I:Inv X pins σ H s) (h1: -(2 ^ 62)<=lo) (h2:lo<2 ^ 62) (h3: -(2 ^ 62)<=hi) (h4:hi<2 ^ 62)
 (q:R (Itr lo (hi-lo).toNat) H):wpAny (model X.prog X.w) X.A (pyIter (.ref s.heap.objs.size)) (PIE X pins σ tg R) E { s with heap:=s.heap.push { cls:= .type "range",data:= .fields #[.int lo t,.int hi u,.int 1 v] },toks:=tk }:=by
 refine wpAny_pyIter_range (IsRange.new ..) (small_one h1 h2 h3 h4) ?_
 have I1:Inv X pins σ H { s with heap:=s.heap.push { cls:= .type "range",data:= .fields #[.int lo t,.int hi u,.int 1 v] },toks:=tk }:=I.kept fun b o e=>Heap.get?_push_of_some _ e
 refine⟨(s.heap.push { cls:= .type "range",data:= .fields #[.int lo t,.int hi u,.int 1 v] }).objs.size,[(s.heap.push { cls:= .type "range",data:= .fields #[.int lo t,.int hi u,.int 1 v] }).objs.size],_,_,H,rfl,
  I1.kept (t':=tk) fun b o e=>Heap.get?_push_of_some _ e,ZF _ lo (hi-lo).toNat,?_,fun b hb=> ?_,q⟩
 ·have e1:lo+((0:Nat):Int)*1=lo:=by simp
  have e2:(((hi-lo).toNat:Nat):Int)-((0:Nat):Int)=Builtin.Range.rangeSize lo hi 1:=by rw [rangeSize_one];split<;>omega
  show IsRangeIter _ _ (lo+((0:Nat):Int)*1) ((((hi-lo).toNat:Nat):Int)-((0:Nat):Int)) 1
  rw [e1,e2]
  exact Heap.get?_push_size _ rfl
 ·have e:b=(s.heap.push { cls:= .type "range",data:= .fields #[.int lo t,.int hi u,.int 1 v] }).objs.size:=by simpa using hb
  subst e
  exact I1.fpOk (Nat.le_refl _) (I1.hok.fresh (Nat.le_refl _))
def iRng1 (ta:TA):TI:=fun σ H R=>ta σ H fun vs H1=> ∃j:Int,vs= [.int j]/\ -(2 ^ 62)<=j/\j<2 ^ 62/\R (Itr 0 j.toNat) H1
def iRng2 (ta:TA):TI:=fun σ H R=>ta σ H fun vs H1=> ∃i j:Int,vs= [.int i,.int j]/\(-(2 ^ 62)<=i/\i<2 ^ 62/\ -(2 ^ 62)<=j/\j<2 ^ 62)/\R (Itr i (j-i).toNat) H1
theorem JK {a:Expr}{ta:TA}{p pos:Pos}(hg:Gl X "range") (hm:X.mg "range" =none) (ha:PA X [a] ta) (hs:starEach [a] X.env= [(false,eval a X.env)]:=by rfl):PI X tg (.Call (.Name "range" p) [a] [] pos) (iRng1 ta):=by
 intro pins s σ H R I h
 refine Call_ (Jh I hg hm boot_range (PyProof.Rows.callWith_type1 (thn (ha pos pins s σ H _ I h) fun us s1 ⟨vs,H1,I1,r1,q1⟩=> ?_) hs rfl))
 obtain⟨j,e,q1,q2,q⟩:=q1
 subst e
 cases r1 with
 | cons r rr=>
  cases rr
  obtain⟨t,rfl⟩:=r
  exact call_range_1 (ZD I1 (by omega) (by omega) q1 q2 (by simpa using q))
theorem ZS {a b:Expr}{ta:TA}{p pos:Pos}(hg:Gl X "range") (hm:X.mg "range" =none) (ha:PA X [a,b] ta) (hs:starEach [a,b] X.env= [(false,eval a X.env),(false,eval b X.env)]:=by rfl) (hs2:starEach [b] X.env= [(false,eval b X.env)]:=by rfl):
 PI X tg (.Call (.Name "range" p) [a,b] [] pos) (iRng2 ta):=by
 intro pins s σ H R I h
 refine Call_ (Jh I hg hm boot_range (PyProof.Rows.callWith_type1 (thn (ha pos pins s σ H _ I h) fun us s1 ⟨vs,H1,I1,r1,q1⟩=> ?_) (by rw [hs,hs2]) (by rw [hs2];rfl)))
 obtain⟨i,j,e,⟨q1,q2,q3,q4⟩,q⟩:=q1
 subst e
 cases r1 with
 | cons r rr=>
  cases rr with
  | cons r' rr=>
   cases rr
   obtain⟨t,rfl⟩:=r
   obtain⟨t',rfl⟩:=r'
   exact call_range_2 (ZD I1 q1 q2 q3 q4 q)
def tFor (wi:TI) (g:TG) (tb:TS):TS:=fun D σ H=>wi σ H fun J H1=> ∃W:Nat->Nat->St->Hp->Prop,(∃ m,W 0 m σ H1)/\ ∀i m σ H,W i m σ H →
 (J.stop i H/\D.nx σ H)\/(J.go i H/\ ∃N:St->Hp->Prop,(∀ σ' H',N σ' H'-> ∃m',m'<m/\W (i+1) m' σ' H')/\ ∀x H',J.yld i H x H'->g x σ H' fun σ2 H2=>tb { D with nx:=N,ct:=N,bk:=D.nx } σ2 H2)
def pinsAt (fp:List Addr) (h:Heap):List (Addr×Obj):=fp.filterMap fun b=>(h.get? b).map fun o=>(b,o)
theorem Xc {fp:List Addr}{h:Heap}{b:Addr}{o:Obj}(hb:b∈fp) (e:h.get? b=some o):(b,o)∈pinsAt fp h:=List.mem_filterMap.mpr ⟨b,hb,by rw [e];rfl⟩
theorem zu {fp:List Addr}{h:Heap}{p:Addr×Obj}(hp:p∈pinsAt fp h):p.1∈fp/\h.get? p.1=some p.2:=by
 obtain⟨b,hb,e⟩:=List.mem_filterMap.mp hp
 cases q:h.get? b with
 | none=>rw [q]at e;cases e
 | some o=>
  rw [q]at e
  have e':(b,o)=p:=Option.some.inj e
  subst e'
  exact⟨hb,q⟩
theorem Inv.pinned {pins:List (Addr×Obj)}{σ:St}{H:Hp}{s:Shared}{fp:List Addr}(I:Inv X pins σ H s) (hf: ∀b∈fp,FpOk X pins H b) (ho: ∀b∈fp,∃o,s.heap.get? b=some o/\ ∀v,o.data≠ .cell v):Inv X (pins++pinsAt fp s.heap) σ H s:=
 I.pins_of fun p hp=>(List.mem_append.mp hp).elim (fun z=>I.pin p (List.mem_append_right _ z)) fun z=>by
  obtain⟨hb,e⟩:=zu z
  obtain⟨f0,f1,f2,_⟩:=hf p.1 hb
  obtain⟨o,e',d⟩:=ho p.1 hb
  rw [e]at e';cases e'
  exact⟨e,f0,f1,f2,d⟩
theorem Inv.unpinned {pins pl:List (Addr×Obj)}{σ:St}{H:Hp}{s:Shared}(I:Inv X (pins++pl) σ H s):Inv X pins σ H s:=I.pins_of fun p hp=>I.pin p (List.mem_append_right _ (List.mem_append_left _ hp))
theorem xat {iter:Expr}{body:List Stmt}{wi:TI}{g:TG}{tb:TS}{pos:Pos}(hp:PassesOwn (model X.prog X.w) X.A X.env X.xe) (hc:X.calm=true) (hi:PI X tg iter wi) (hg:PG X tg g) (hb:PSs X body tb)
 (hs: ∀x,foldedSetIterable iter X.env x=pure x:=by intro _;rfl):PS X (.For tg iter body [] pos) (tFor wi g tb):=by
 intro pins s σ H D I h
 refine wpAny_For (thn (hi pins s σ H _ I h) fun v s1 h1=>thn h1 fun itv s2 h2=> ?_) hs
 obtain⟨it,fp,tn,J,H2,e,I2,T,st2,f2,W,⟨m0,w0⟩,turn⟩:=h2
 subst e
 have stat: ∀ {H':Hp},(∀ b∈fp,H' b=none)-> ∀b∈fp,FpOk X pins H' b:=fun hn b hb=>⟨hn b hb,(f2 b hb).2⟩
 refine codeAny_forLoop_any (fun n s'=> ∃i σ' H',Inv X pins σ' H' s'/\tn i s'.heap/\(∀ b∈fp,H' b=none)/\W i n σ' H') ?_ m0 ⟨0,σ,H2,I2,st2,fun b hb=>(f2 b hb).1,w0⟩
 rintro n s3 ⟨i,σ3,H3,I3,st3,fr3,w3⟩
 rcases turn i n σ3 H3 w3 with⟨stop,qn⟩ | ⟨go,N,hN,step⟩
 ·refine wpAny_passesOwn hp (thn (T.done X rfl rfl rfl hc i pins s3 σ3 H3 X.xe I3 (stat fr3) st3 stop) fun r s4 ⟨hr,I4⟩=> ?_)
  subst hr
  exact wpAny_execs_nil ⟨σ3,H3,I4,qn⟩
 ·refine wpAny_passesOwn hp (thn (T.item X rfl rfl rfl hc i pins s3 σ3 H3 X.xe I3 (stat fr3) st3 go) fun r s4 ⟨u,hr,h4⟩=> ?_)
  subst hr
  refine wpAny_passesOwn hp (thn h4 fun _ s5 ⟨x,H5,I5,r5,y5,st5,fr5⟩=> ?_)
  have I5':=I5.pinned (stat fr5) (T.obj _ _ st5)
  refine wpAny_passesOwn hp (thn (hg _ s5 σ3 H5 x u _ I5' r5 (step x H5 y5)) fun _ s6 ⟨σ6,H6,I6,q6⟩=> ?_)
  refine wpAny_passesOwn hp (thn (hb _ s6 σ6 H6 _ I6 q6) fun f s7 q7=> ?_)
  have again: ∀ {σ7:St}{H7:Hp},Inv X (pins++pinsAt fp s5.heap) σ7 H7 s7->N σ7 H7-> ∃m,m<n/\ ∃i σ' H',Inv X pins σ' H' s7/\tn i s7.heap/\(∀ b∈fp,H' b=none)/\W i m σ' H':=fun {σ7 H7} I7 n7=>by
   obtain⟨m',hm,w7⟩:=hN σ7 H7 n7
   refine⟨m',hm,i+1,σ7,H7,I7.unpinned,T.keep _ _ _ st5 fun b hb o e=>(I7.pin (b,o) (List.mem_append_right _ (List.mem_append_right _ (Xc hb e)))).1,fun b hb=> ?_,w7⟩
   obtain⟨o,e,d⟩:=T.obj _ _ st5 b hb
   exact(I7.pin (b,o) (List.mem_append_right _ (List.mem_append_right _ (Xc hb e)))).2.1
  cases f with
  | next=>obtain⟨σ7,H7,I7,n7⟩:=q7;exact again I7 n7
  | cont=>obtain⟨σ7,H7,I7,n7⟩:=q7;exact again I7 n7
  | brk=>obtain⟨σ7,H7,I7,q7⟩:=q7;exact⟨σ7,H7,I7.unpinned,q7⟩
  | ret v=>obtain⟨x7,σ7,H7,I7,r7,q7⟩:=q7;exact⟨x7,σ7,H7,I7.unpinned,r7,q7⟩
end
end L2
namespace L2
open PySem PySem.Spec PyProof.Rows
abbrev R2:=V->V->Hp->VK->Prop
def OpR (X:Cx) (f:Value->Value->Sem Value) (r:R2):Prop:=
 ∀(pins:List (Addr×Obj)) (s:Shared) (σ:St) (H:Hp) (x y:V) (v u:Value) (Q:VK),Inv X pins σ H s->RelV x v->RelV y u->r x y H Q →
  wpAny (model X.prog X.w) X.A (f v u) (EP X pins σ Q) X.xe s
def UnR (X:Cx) (f:Value->Sem Value) (r:V->Hp->VK->Prop):Prop:=
 ∀(pins:List (Addr×Obj)) (s:Shared) (σ:St) (H:Hp) (x:V) (v:Value) (Q:VK),Inv X pins σ H s->RelV x v->r x H Q →
  wpAny (model X.prog X.w) X.A (f v) (EP X pins σ Q) X.xe s
def CallR (X:Cx) (f:Value) (r:List V->Hp->VK->Prop):Prop:=
 ∀(pins:List (Addr×Obj)) (s:Shared) (σ:St) (H:Hp) (xs:List V) (us:List Value) (Q:VK),Inv X pins σ H s->Vals xs us->r xs H Q →
  wpAny (model X.prog X.w) X.A (call f us) (EP X pins σ Q) X.xe s
def TruR (X:Cx) (r:V->Hp->(Bool->Hp->Prop)->Prop):Prop:=
 ∀(pins:List (Addr×Obj)) (s:Shared) (σ:St) (H:Hp) (x:V) (v:Value) (Q:Bool->Hp->Prop),Inv X pins σ H s->RelV x v->r x H Q →
  wpAny (model X.prog X.w) X.A (truthy v) (TP X pins σ Q) X.xe s
def tOp (r:R2) (ta tb:TE):TE:=fun σ H Q=>ta σ H fun x H1=>tb σ H1 fun y H2=>r x y H2 Q
def tUn (r:V->Hp->VK->Prop) (ta:TE):TE:=fun σ H Q=>ta σ H fun x H1=>r x H1 Q
def rI (C:Int->Int->Prop) (g:Int->Int->V):R2:=fun x y H Q=> ∃i j,x= .int i/\y= .int j/\C i j/\Q (g i j) H
def rI0 (g:Int->Int->V):R2:=fun x y H Q=> ∃i j,x= .int i/\y= .int j/\Q (g i j) H
def rU (g:Int->V):V->Hp->VK->Prop:=fun x H Q=> ∃i,x= .int i/\Q (g i) H
section
variable {X:Cx}{a b c:Expr}{ta tb tc:TE}{pos:Pos}
theorem binT (ha:PE X a ta) (hb:PE X b tb){pins:List (Addr×Obj)}{s:Shared}{σ:St}{H:Hp}{R:V->V->Hp->Prop}(I:Inv X pins σ H s)
 (h:ta σ H fun x H1=>tb σ H1 fun y H2=>R x y H2){Q:Value->Shared->Prop}{f:Value->Value->Sem Value}
 (hf: ∀v u s2 x y H2,Inv X pins σ H2 s2->RelV x v->RelV y u->R x y H2->wpAny (model X.prog X.w) X.A (f v u) Q X.xe s2):
 wpAny (model X.prog X.w) X.A (eval a X.env) (fun v s₁=>wpAny (model X.prog X.w) X.A (eval b X.env) (fun u s₂=>wpAny (model X.prog X.w) X.A (f v u) Q X.xe s₂) X.xe s₁) X.xe s:=by
 refine thn (ha pins s σ H _ I h) fun v s1 ⟨x,H1,I1,r1,q1⟩=> ?_
 refine thn (hb pins s1 σ H1 _ I1 q1) fun u s2 ⟨y,H2,I2,r2,q2⟩=> ?_
 exact hf v u s2 x y H2 I2 r1 r2 q2
theorem zaL {op:Operator}{r:R2}(ho:OpR X (binaryOp op) r) (ha:PE X a ta) (hb:PE X b tb):PE X (.BinOp a op b pos) (tOp r ta tb):=by
 intro pins s σ H Q I h
 exact wpAny_BinOp (binT ha hb I h fun v u s2 x y H2 I2 rx ry q=>ho pins s2 σ H2 x y v u Q I2 rx ry q)
theorem jaL {op:UnaryOp}{r:V->Hp->VK->Prop}(ho:UnR X (unaryOp op) r) (ha:PE X a ta):PE X (.UnaryOp op a pos) (tUn r ta):=by
 intro pins s σ H Q I h
 exact UnaryOp_ (thn (ha pins s σ H _ I h) fun v s1 ⟨x,H1,I1,r1,q1⟩=>ho pins s1 σ H1 x v Q I1 r1 q1)
theorem opI {f:Value->Value->Sem Value}{C:Int->Int->Prop}{g:Int->Int->Int}
 (rule: ∀(i j:Int) (t u:Tok) (s:Shared) (Q:Value->Shared->Prop) (E:Value->Shared->Prop),C i j->Q (.int (g i j) s.toks) { s with toks:=s.toks+1 }->wpAny (model X.prog X.w) X.A (f (.int i t) (.int j u)) Q E s):
 OpR X f (rI C fun i j=> .int (g i j)):=by
 intro pins s σ H x y v u Q I rx ry h
 obtain⟨i,j,rfl,rfl,hc,q⟩:=h
 obtain⟨t,rfl⟩:=rx
 obtain⟨t',rfl⟩:=ry
 exact rule i j t t' s _ _ hc ⟨.int (g i j),H,I.tok _,⟨_,rfl⟩,q⟩
theorem opI0 {f:Value->Value->Sem Value}{g:Int->Int->Int}
 (rule: ∀(i j:Int) (t u:Tok) (s:Shared) (Q:Value->Shared->Prop) (E:Value->Shared->Prop),Q (.int (g i j) s.toks) { s with toks:=s.toks+1 }->wpAny (model X.prog X.w) X.A (f (.int i t) (.int j u)) Q E s):
 OpR X f (rI0 fun i j=> .int (g i j)):=by
 intro pins s σ H x y v u Q I rx ry h
 obtain⟨i,j,rfl,rfl,q⟩:=h
 obtain⟨t,rfl⟩:=rx
 obtain⟨t',rfl⟩:=ry
 exact rule i j t t' s _ _ ⟨.int (g i j),H,I.tok _,⟨_,rfl⟩,q⟩
theorem opB0 {f:Value->Value->Sem Value}{g:Int->Int->Bool}
 (rule: ∀(i j:Int) (t u:Tok) (s:Shared) (Q:Value->Shared->Prop) (E:Value->Shared->Prop),Q (.bool (g i j)) s->wpAny (model X.prog X.w) X.A (f (.int i t) (.int j u)) Q E s):
 OpR X f (rI0 fun i j=> .bl (g i j)):=by
 intro pins s σ H x y v u Q I rx ry h
 obtain⟨i,j,rfl,rfl,q⟩:=h
 obtain⟨t,rfl⟩:=rx
 obtain⟨t',rfl⟩:=ry
 exact rule i j t t' s _ _ ⟨.bl (g i j),H,I,rfl,q⟩
def CDiv (i j:Int):Prop:=0<j/\j<1073741824
def CDivN (i j:Int):Prop:=j≠0/\j.natAbs<1073741824
def CPow (i j:Int):Prop:=0<=j/\j<=1000000/\i.natAbs<2 ^ 64
def CMul (i j:Int):Prop:=(-(2 ^ 64)<i/\i<2 ^ 64)\/(-(2 ^ 64)<j/\j<2 ^ 64)
theorem CMul.ok {i j:Int}(h:CMul i j):IntMulOk i j:=by
 rcases h with⟨h1,h2⟩ | ⟨h1,h2⟩
 ·exact .of_left (intBits_le_64 h1 h2)
 ·exact .of_right (intBits_le_64 h1 h2)
theorem wF (k:Nat):(0:Int)<=2 ^ k:=by
 rw [two_pow_cast]
 exact Int.natCast_nonneg _
theorem zaC:OpR X (binaryOp .Add) (rI0 fun i j=> .int (i+j)):=opI0 fun _ _ _ _ _ _ _ q=>add_int q
theorem qaD:OpR X (binaryOp .Sub) (rI0 fun i j=> .int (i-j)):=opI0 fun _ _ _ _ _ _ _ q=>sub_int q
theorem zas:OpR X (binaryOp .Mult) (rI CMul fun i j=> .int (i*j)):=opI fun _ _ _ _ _ _ _ hc q=>mul_int q hc.ok
theorem qap:OpR X (binaryOp .FloorDiv) (rI CDiv fun i j=> .int (i / j)):=opI fun i j _ _ _ _ _ hc q=>by
 have h1:(0:Int)<j:=hc.1
 have h2:j<1073741824:=hc.2
 exact floordiv_int (by omega) (by rw [Int.fdiv_eq_ediv_of_nonneg i (by omega)];exact q) (.inl (PyProof.noPylong_small (by omega)))
theorem xaF:OpR X (binaryOp .Mod) (rI (fun _ j=>0<j) fun i j=> .int (i % j)):=opI fun i j _ _ _ _ _ hc q=>by
 have h1:(0:Int)<j:=hc
 exact mod_int' (by omega) (by rw [Int.fmod_eq_emod_of_nonneg i (by omega)];exact q)
theorem xas:OpR X (binaryOp .Pow) (rI CPow fun i j=> .int (i ^ j.toNat)):=opI fun _ _ _ _ _ _ _ hc q=>pow_int_small hc.1 hc.2.1 hc.2.2 q
theorem jat:OpR X (binaryOp .LShift) (rI CPow fun i j=> .int (i*2 ^ j.toNat)):=opI fun _ _ _ _ _ _ _ hc q=>lshift_int_small hc.1 hc.2.1 hc.2.2 q
theorem qav:OpR X (binaryOp .RShift) (rI (fun _ j=>0<=j) fun i j=> .int (i / 2 ^ j.toNat)):=opI fun i j _ _ _ _ _ hc q=>
 rshift_int hc (by rw [Int.fdiv_eq_ediv_of_nonneg i (wF _)];exact q)
theorem qaz:OpR X (binaryOp .BitAnd) (rI0 fun i j=> .int (Builtin.bitAnd i j)):=opI0 fun _ _ _ _ _ _ _ q=>and_int q
theorem xaO:OpR X (binaryOp .BitOr) (rI0 fun i j=> .int (Builtin.bitOr i j)):=opI0 fun _ _ _ _ _ _ _ q=>or_int q
theorem qax:OpR X (binaryOp .BitXor) (rI0 fun i j=> .int (Builtin.bitXor i j)):=opI0 fun _ _ _ _ _ _ _ q=>xor_int q
theorem unI {f:Value->Sem Value}{g:Int->Int}
 (rule: ∀(i:Int) (t:Tok) (s:Shared) (Q:Value->Shared->Prop) (E:Value->Shared->Prop),Q (.int (g i) s.toks) { s with toks:=s.toks+1 }->wpAny (model X.prog X.w) X.A (f (.int i t)) Q E s):
 UnR X f (rU fun i=> .int (g i)):=by
 intro pins s σ H x v Q I rx h
 obtain⟨i,rfl,q⟩:=h
 obtain⟨t,rfl⟩:=rx
 exact rule i t s _ _ ⟨.int (g i),H,I.tok _,⟨_,rfl⟩,q⟩
theorem zaE:UnR X (unaryOp .USub) (rU fun i=> .int (-i)):=unI fun _ _ _ _ _ q=>neg_int q
end
def scal:V->V->Bool
 | .non,.non=>true | .non,.int _=>true | .int _,.non=>true | .non,.bl _=>true | .bl _,.non=>true | .non,.str _=>true | .str _,.non=>true
 | .int _,.int _=>true | .bl _,.bl _=>true | .str _,.str _=>true | .byt _,.byt _=>true
 | .int _,.str _=>true | .str _,.int _=>true | .bl _,.str _=>true | .str _,.bl _=>true
 | _,_=>false
def rEq:R2:=fun x y H Q=>scal x y=true/\Q (.bl (decide (x=y))) H
def rNe:R2:=fun x y H Q=>scal x y=true/\Q (.bl (!decide (x=y))) H
section
variable {X:Cx}{a b c:Expr}{ta tb tc:TE}{pos:Pos}
theorem Qt {pins:List (Addr×Obj)}{σ:St}{H:Hp}{s:Shared}{Q:VK}{k k':Bool}(I:Inv X pins σ H s) (q:Q (.bl k) H) (e:k=k'):EP X pins σ Q (.bool k') s:=by
 subst e
 exact⟨.bl k,H,I,rfl,q⟩
theorem qaP:OpR X (compareOp .Lt) (rI0 fun i j=> .bl (decide (i<j))):=opB0 fun _ _ _ _ _ _ _ q=>lt_int q
theorem zaO:OpR X (compareOp .LtE) (rI0 fun i j=> .bl (decide (i<=j))):=opB0 fun _ _ _ _ _ _ _ q=>le_int q
theorem qaO:OpR X (compareOp .Gt) (rI0 fun i j=> .bl (decide (j<i))):=opB0 fun _ _ _ _ _ _ _ q=>gt_int q
theorem qaM:OpR X (compareOp .GtE) (rI0 fun i j=> .bl (decide (j<=i))):=opB0 fun _ _ _ _ _ _ _ q=>ge_int q
theorem ZR:OpR X (compareOp .Lt) (fun x y H Q=> ∃i j,x= .str i/\y= .str j/\Q (.bl (decide (i.cps.toList<j.cps.toList))) H):=by
 intro pins s σ H x y v u Q I rx ry h
 obtain⟨i,j,rfl,rfl,q⟩:=h
 obtain⟨t,rfl⟩:=rx
 obtain⟨t',rfl⟩:=ry
 exact lt_str (Qt I q rfl)
theorem zK:OpR X (compareOp .In) (fun x y H Q=> ∃i j,x= .str i/\y= .str j/\Q (.bl (!(Builtin.Str.occurrences j i 0 j.length 1).isEmpty)) H):=by
 intro pins s σ H x y v u Q I rx ry h
 obtain⟨i,j,rfl,rfl,q⟩:=h
 obtain⟨t,rfl⟩:=rx
 obtain⟨t',rfl⟩:=ry
 exact in_str (Qt I q rfl)
def isObj:HO->Bool
 | .lst _=>true
 | .ins _ _ _=>true
 | _=>false
theorem QS {op:CmpOp}{r:R2}(ho:OpR X (compareOp op) r) (ha:PE X a ta) (hb:PE X b tb) (hm:behindInMarks op b=false):PE X (.Compare a [op] [b] pos) (tOp r ta tb):=by
 intro pins s σ H Q I h
 exact wpAny_Compare1 (binT ha hb I h fun v u s2 x y H2 I2 rx ry q=>ho pins s2 σ H2 x y v u Q I2 rx ry q) hm
def tTest (t:TE):TT:=fun σ H Q=>t σ H fun x H'=> ∃k,x= .bl k/\Q k H'
theorem jL {op:CmpOp}{r:R2}(ho:OpR X (compareOp op) r) (ha:PE X a ta) (hb:PE X b tb) (hm:behindInMarks op b=false):PT X (.Compare a [op] [b] pos) (tTest (tOp r ta tb)):=by
 intro pins s σ H Q I h
 refine wpAny_isTrue_Compare1 (thn (ha pins s σ H _ I h) fun v s1 ⟨x,H1,I1,r1,q1⟩=>thn (hb pins s1 σ H1 _ I1 q1) fun u s2 ⟨y,H2,I2,r2,q2⟩=>
  thn (ho pins s2 σ H2 x y v u _ I2 r1 r2 q2) fun c s3 ⟨z,H3,I3,r3,k,e,q3⟩=> ?_) hm
 subst e
 cases r3
 exact wpAny_truthy_bool ⟨H3,I3,q3⟩
def tChain (r r':R2) (ta tb tc:TE):TE:=fun σ H Q=>ta σ H fun x H1=>tb σ H1 fun y H2=>r x y H2 fun z H3=> ∃k,z= .bl k ∧
 (if k=true then tc σ H3 fun w' H4=>r' y w' H4 Q else Q (.bl false) H3)
theorem WY {op op':CmpOp}{r r':R2}(ho:OpR X (compareOp op) r) (ho':OpR X (compareOp op') r') (ha:PE X a ta) (hb:PE X b tb) (hc:PE X c tc)
 (hm:lastMarks [op,op'] [b,c]=false:=by with_unfolding_all rfl):PE X (.Compare a [op,op'] [b,c] pos) (tChain r r' ta tb tc):=by
 intro pins s σ H Q I h
 refine Compare_chain (thn (ha pins s σ H _ I h) fun v s1 ⟨x,H1,I1,r1,q1⟩=>chain_link (thn (hb pins s1 σ H1 _ I1 q1) fun u s2 ⟨y,H2,I2,r2,q2⟩=>
  thn (ho pins s2 σ H2 x y v u _ I2 r1 r2 q2) fun d s3 ⟨z,H3,I3,r3,k,e,q3⟩=> ?_)) hm
 subst e
 cases r3
 refine wpAny_truthy_bool ?_
 cases k with
 | false=>exact ite_ff ⟨.bl false,H3,I3,rfl,q3⟩
 | true=>exact ite_tt (chain_last (thn (hc pins s3 σ H3 _ I3 q3) fun w' s4 ⟨z',H4,I4,r4,q4⟩=>ho' pins s4 σ H4 y z' u w' Q I4 r2 r4 q4))
theorem Z2 {op op':CmpOp}{r r':R2}(ho:OpR X (compareOp op) r) (ho':OpR X (compareOp op') r') (ha:PE X a ta) (hb:PE X b tb) (hc:PE X c tc)
 (hm:lastMarks [op,op'] [b,c]=false:=by with_unfolding_all rfl):PT X (.Compare a [op,op'] [b,c] pos) (tTest (tChain r r' ta tb tc)):=by
 intro pins s σ H Q I h
 refine isTrue_chain (thn (ha pins s σ H _ I h) fun v s1 ⟨x,H1,I1,r1,q1⟩=>test_link (thn (hb pins s1 σ H1 _ I1 q1) fun u s2 ⟨y,H2,I2,r2,q2⟩=>
  thn (ho pins s2 σ H2 x y v u _ I2 r1 r2 q2) fun d s3 ⟨z,H3,I3,r3,k,e,q3⟩=> ?_)) hm
 subst e
 cases r3
 refine wpAny_truthy_bool ?_
 cases k with
 | false=>
  obtain⟨k',e',q'⟩:=q3
  cases e'
  exact ite_ff ⟨H3,I3,q'⟩
 | true=>
  refine ite_tt (test_last (thn (hc pins s3 σ H3 _ I3 q3) fun w' s4 ⟨z',H4,I4,r4,q4⟩=>thn (ho' pins s4 σ H4 y z' u w' _ I4 r2 r4 q4) fun d' s5 ⟨z2,H5,I5,r5,k2,e2,q5⟩=> ?_))
  subst e2
  cases r5
  exact wpAny_truthy_bool ⟨H5,I5,q5⟩
def TruV (K:PySem.W.Frag) (x:V) (H:Hp) (k:Bool):Prop:=
 match x with
 | .non=>k=false
 | .bl b=>k=b
 | .int i=>k=(i != 0)
 | .str y=>y.length<=sizeLine/\k=((y.length:Int) != 0)
 | .byt y=>y.size<=sizeLine/\k=((y.size:Int) != 0)
 | .ref p=>(∃ xs,SqL K H p xs/\k= !xs.isEmpty)\/(∃ xs,SqT K H p xs/\k= !xs.isEmpty)\/ ∃kvs,H p=some (.dK kvs)/\k= !kvs.isEmpty
 | _=>False
theorem wH {κ:Type}{kvs:List (κ×V)}{vs:List (κ×Value)}(r:KV kvs vs):(!vs.isEmpty)= !kvs.isEmpty:=by
 cases r<;>rfl
theorem Qo {xs:List V}{its:List Value}(r:Vals xs its):(!its.toArray.isEmpty)= !xs.isEmpty:=by
 cases r<;>simp
theorem jl:(sizeLine:Nat)<2 ^ 63:=by rw [sizeLine_eq];decide
theorem QC:TruR X (fun x H Q=> ∃k,TruV X.K x H k/\Q k H):=by
 intro pins s σ H x v Q I rx h
 obtain⟨k,e,q⟩:=h
 have hl:=jl
 have hs:sizeLine=16777216:=sizeLine_eq
 cases x with
 | non=>
  cases rx
  have e':k=false:=e
  subst e'
  exact truthy_none ⟨H,I,q⟩
 | bl b=>
  cases rx
  have e':k=b:=e
  subst e'
  exact wpAny_truthy_bool ⟨H,I,q⟩
 | int i=>
  obtain⟨t,rfl⟩:=rx
  have e':k=(i != 0):=e
  subst e'
  exact PySem.P.truthy_int ⟨H,I,q⟩
 | str y=>
  obtain⟨t,rfl⟩:=rx
  obtain⟨hy,e'⟩:y.length<=sizeLine/\k=((y.length:Int) != 0):=e
  subst e'
  exact PySem.P.truthy_str (by omega) ⟨H,I.tok _,q⟩
 | byt y=>
  obtain⟨t,rfl⟩:=rx
  obtain⟨hy,e'⟩:y.size<=sizeLine/\k=((y.size:Int) != 0):=e
  subst e'
  exact PySem.W.truthy_bytes (by omega) ⟨H,I.tok _,q⟩
 | ref p=>
  cases rx
  have e':(∃ xs,SqL X.K H p xs/\k= !xs.isEmpty)\/(∃ xs,SqT X.K H p xs/\k= !xs.isEmpty)\/ ∃kvs,H p=some (.dK kvs)/\k= !kvs.isEmpty:=e
  rcases e' with⟨xs,hx,e'⟩ | ⟨xs,hx,e'⟩ | ⟨kvs,hx,e'⟩
  ·subst e'
   obtain⟨its,r,pl,hz⟩:=I.list hx
   have hlen:=r.length
   exact wpAny_truthy_list pl.isList (by simp only [List.size_toArray];omega) ⟨H,I.tok _,by rw [Qo r];exact q⟩
  ·subst e'
   obtain⟨its,r,pl,hz⟩:=I.tuple hx
   have hlen:=r.length
   exact truthy_tuple pl (by simp only [List.size_toArray];omega) ⟨H,I.tok _,by rw [Qo r];exact q⟩
  ·subst e'
   obtain⟨hz,hS,vs,r,m⟩:kvs.length<=sizeLine/\(p==sysModules)=false/\ ∃vs,KV kvs vs/\s.heap.DictOf (mixKind X.prog X.w) p vs:=I.hok p _ hx
   have hlen:kvs.length=vs.length:=Paired.length r
   exact wpAny_truthy_dict hS m (by omega) ⟨H,I.tok _,by rw [wH r];exact q⟩
 | _=>exact(show False from e).elim
theorem x0 (ha:PE X a ta) (he: ∀whole,isTrue a X.env whole=(do let v ←whole;standAt a.pos;holding [v] (truthy v))):
 PT X a (fun σ H Q=>ta σ H fun x H'=> ∃k,TruV X.K x H' k/\Q k H'):=by
 intro pins s σ H Q I h
 exact isTrue_plain (thn (ha pins s σ H _ I h) fun v s1 ⟨x,H1,I1,r1,q1⟩=>QC pins s1 σ H1 x v Q I1 r1 q1) (he _)
theorem XE:OpR X (binaryOp .Add) (fun x y H Q=> ∃i j,x= .str i/\y= .str j/\i.length+j.length<=sizeLine/\Q (.str (i++j)) H):=by
 intro pins s σ H x y v u Q I rx ry h
 obtain⟨i,j,rfl,rfl,hz,q⟩:=h
 obtain⟨t,rfl⟩:=rx
 obtain⟨t',rfl⟩:=ry
 exact add_str (fun t' tk=>⟨.str (i++j),H,I.tok _,⟨_,rfl⟩,q⟩) hz
def PlainIxT (b:Expr):Prop:= ∀o i,subscripted b false o i=operate [o,i] (getItem o i)
theorem xi {x:V}{us:List Value}(r:Vals [x] us): ∃u,us= [u]/\RelV x u:=by
 cases r with
 | cons r1 r2=>cases r2;exact⟨_,rfl,r1⟩
theorem Zy {x y:V}{us:List Value}(r:Vals [x,y] us): ∃u w',us= [u,w']/\RelV x u/\RelV y w':=by
 cases r with
 | cons r1 r2=>
  cases r2 with
  | cons r3 r4=>cases r4;exact⟨_,_,rfl,r1,r3⟩
theorem jR (hc:X.calm=true):CallR X (.builtin "max") (fun xs H Q=> ∃i j,xs= [.int i,.int j]/\Q (.int (if j>i then j else i)) H):=by
 intro pins s σ H xs us Q I r h
 obtain⟨i,j,rfl,q⟩:=h
 obtain⟨u,w',rfl,⟨t,rfl⟩,⟨t',rfl⟩⟩:=Zy r
 refine max_two_ints (I.ok.hd hc) fun h' tk k=>⟨_,H,I.kept k,?_,q⟩
 by_cases hj:j>i
 ·rw [if_pos hj,if_pos hj];exact⟨_,rfl⟩
 ·rw [if_neg hj,if_neg hj];exact⟨_,rfl⟩
theorem QL (hc:X.calm=true):CallR X (.builtin "min") (fun xs H Q=> ∃i j,xs= [.int i,.int j]/\Q (.int (if j<i then j else i)) H):=by
 intro pins s σ H xs us Q I r h
 obtain⟨i,j,rfl,q⟩:=h
 obtain⟨u,w',rfl,⟨t,rfl⟩,⟨t',rfl⟩⟩:=Zy r
 refine min_two_ints (I.ok.hd hc) fun h' tk k=>⟨_,H,I.kept k,?_,q⟩
 by_cases hj:j<i
 ·rw [if_pos hj,if_pos hj];exact⟨_,rfl⟩
 ·rw [if_neg hj,if_neg hj];exact⟨_,rfl⟩
theorem Qu:CallR X (.type "int") (fun xs H Q=>(∃ i,xs= [.int i]/\Q (.int i) H)\/ ∃k,xs= [.bl k]/\Q (.int (if k then 1 else 0)) H):=by
 intro pins s σ H xs us Q I r h
 rcases h with⟨i,rfl,q⟩ | ⟨k,rfl,q⟩
 ·obtain⟨u,rfl,t,rfl⟩:=xi r
  exact call_int_int ⟨.int i,H,I,⟨_,rfl⟩,q⟩
 ·obtain⟨u,rfl,r1⟩:=xi r
  cases r1
  exact call_int_bool ⟨.int (if k then 1 else 0),H,I.tok _,⟨_,rfl⟩,q⟩
def LenV (K:PySem.W.Frag) (x:V) (H:Hp) (n:Nat):Prop:=
 match x with
 | .str y=>y.length<=sizeLine/\n=y.length
 | .byt y=>y.size<=sizeLine/\n=y.size
 | .ref p=>(∃ xs,SqL K H p xs/\n=xs.length)\/ ∃xs,SqT K H p xs/\n=xs.length
 | _=>False
theorem Wx:CallR X (.builtin "divmod") (fun xs H Q=> ∃i j,xs= [.int i,.int j]/\CDiv i j/\ ∀p,H p=none->Q (.ref p) (upd H p (.tup [.int (i / j),.int (i % j)]))):=by
 intro pins s σ H xs us Q I r h
 obtain⟨i,j,rfl,⟨h1,h2⟩,q⟩:=h
 obtain⟨u,w',rfl,⟨t,rfl⟩,⟨t',rfl⟩⟩:=Zy r
 refine divmod_int (by omega) ?_ (.inl (PyProof.noPylong_small (by omega)))
 rw [Int.fdiv_eq_ediv_of_nonneg i (by omega),Int.fmod_eq_emod_of_nonneg i (by omega)]
 have hn:H s.heap.objs.size=none:=I.hok.fresh (Nat.le_refl _)
 refine⟨.ref s.heap.objs.size,_,?_,rfl,q _ hn⟩
 refine I.laid (fun b o e=>Heap.get?_push_of_some _ e) (Nat.le_refl _) ⟨by simp only [List.length_cons,List.length_nil];rw [sizeLine_eq];decide,[.int (i / j) s.toks,.int (i % j) (s.toks+1)],.cons ⟨_,rfl⟩ (.cons ⟨_,rfl⟩ .nil),?_⟩
 exact⟨_,Heap.get?_push_size s.heap rfl,rfl,rfl,0,rfl⟩
end
end L2
namespace L2
open PySem PySem.Spec PyProof.Rows
structure ObjM (h:Heap) (x dx C:Addr) (mA:Str->Option Value):Prop where
 obj:h.get? x=some (PySem.W.instObj C dx)
 ns:h.Ns1 dx mA
 ne:dx≠x
theorem xN {h:Heap}{dx:Addr}{mA:Str->Option Value}(n:h.Ns1 dx mA): ∃od,h.get? dx=some od/\ ∀name,PySem.W.lookIn name od=some (mA name):=by
 obtain⟨o,es,ep,ho,hd,hk,_,hm⟩:=n
 refine⟨o,ho,fun name=> ?_⟩
 have e:=hm name
 unfold nsFind findBy at e
 rw [← Array.find?_toList]at e
 unfold PySem.W.lookIn
 rw [hd]
 dsimp only
 split
 ·rename_i y q
  rw [q]at e
  exact congrArg some e
 ·rename_i q
  rw [q]at e
  have a:es.toList.any (·.refKey)=false:=by
   rw [List.any_eq_false]
   intro y hy
   obtain⟨z,t,hkey⟩:=hk y (Array.mem_toList_iff.mp hy)
   simp [DictEntry.refKey,hkey]
  have a': ¬es.toList.any (·.refKey)=true:=by rw [a];exact Bool.false_ne_true
  rw [if_neg a']
  exact congrArg some e
theorem ObjM.look {h:Heap}{x dx C:Addr}{mA:Str->Option Value}(I:ObjM h x dx C mA): ∃od,PySem.W.InstAt h x (PySem.W.instObj C dx) C (some od)/\ ∀name,PySem.W.lookIn name od=some (mA name):=
 let ⟨od,ho,hl⟩:=xN I.ns
 ⟨od,⟨I.obj,rfl,rfl,ho⟩,hl⟩
section
variable {prog:Program}{w:World}{A:Around}{E:Value->Shared->Prop}{s:Shared}{K:PySem.W.Frag}{x dx C f:Addr}{mA:Str->Option Value}{name:Str}{v:Value}
end
def putF (f:Str) (v:V):List (Str×V)->List (Str×V)
 | []=> [(f,v)]
 | (g,x)::r=>if g=f then(g,v)::r else(g,x)::putF f v r
section
variable {P:Program}{w:World}{H H':Hp}{h h':Heap}{a C dx:Addr}{fs fs':List (Str×V)}
theorem zae (hok:HOk P w H h) (e:H a=some (.ins C dx fs)): ∃mA,ObjM h a dx C mA/\(∀ f,RelO (fs.lookup f) (mA f))/\PySem.Within mA (fs.map (·.1))/\fs.length<=1000/\H dx=some (.own a):=by
 obtain⟨d,z,ne,ob,mA,n,r,q⟩:=(show ObjOk P w H h a (.ins C dx fs)from hok a _ e)
 exact⟨mA,⟨ob,n,ne⟩,r,q,z,d⟩
end
structure Cls (K:PySem.W.Frag) (C:Addr):Prop where
 pg:PySem.W.plainGet K C Str.empty=true
 hd:PySem.W.hasDictIn K C=true
 po:PySem.W.plainOver K C=true
 sa:PySem.W.findIn K (.ref C) "__setattr__" =some (some (.builtin "object.__setattr__"))
theorem Cls.get {K:PySem.W.Frag}{C:Addr}(c:Cls K C) (f:Str):PySem.W.plainGet K C f=true:=c.pg
def NoAttr (K:PySem.W.Frag) (C:Addr) (f:Str):Prop:=PySem.W.findIn K (.ref C) f=some none
structure Con (K:PySem.W.Frag) (C:Addr) (f:Str) (v:V) (u:Value):Prop where
 at_:PySem.W.findIn K (.ref C) f=some (some u)
 rel:RelV v u
 get:PySem.W.specialIn K u "__get__" =some none
 cp:PySem.W.copiedNames.contains f=false
structure Meth (K:PySem.W.Frag) (C:Addr) (m:Str) (f:Addr):Prop where
 at_:PySem.W.findIn K (.ref C) m=some (some (.ref f))
 fn:PySem.W.isFn K (.ref f)=true
 kp:PySem.W.keepIn K (.ref f)=true
section
variable {X:Cx}{pins:List (Addr×Obj)}{σ:St}{H:Hp}{s:Shared}{a C dx:Addr}{fs:List (Str×V)}{f:Str}{v:V}{A:Around}{E:Value->Shared->Prop}
end
def tFld (K:PySem.W.Frag) (ta:TE) (f:Str):TE:=fun σ H Q=>ta σ H fun x H1=> ∃a C dx fs v,x= .ref a/\H1 a=some (.ins C dx fs)/\Cls K C/\NoAttr K C f/\fs.lookup f=some v/\Q v H1
def tCon (K:PySem.W.Frag) (ta:TE) (f:Str):TE:=fun σ H Q=>ta σ H fun x H1=> ∃a C dx fs v u,x= .ref a/\H1 a=some (.ins C dx fs)/\Cls K C/\Con K C f v u/\fs.lookup f=none/\Q v H1
def sFld (K:PySem.W.Frag) (ta tv:TE) (f:Str):TS:=fun D σ H=>tv σ H fun y H1=>ta σ H1 fun x H2=> ∃a C dx fs,x= .ref a/\H2 a=some (.ins C dx fs)/\Cls K C/\NoAttr K C f/\fs.length<1000 ∧
 D.nx σ (upd H2 a (.ins C dx (putF f y fs)))
def InOp (X:Cx) (op:Operator) (rd:V->V->Hp->VK->Prop):Prop:=
 ∀(pins:List (Addr×Obj)) (s:Shared) (σ:St) (H:Hp) (x y:V) (u v:Value) (Q:VK),Inv X pins σ H s->RelV x u->RelV y v->rd x y H Q->wpAny (model X.prog X.w) X.A (inplaceOp op u v) (EP X pins σ Q) X.xe s
def sFldAug (K:PySem.W.Frag) (ta tv:TE) (rd:V->V->Hp->VK->Prop) (f:Str):TS:=fun D σ H=>ta σ H fun x H1=> ∃a C dx fs v,x= .ref a/\H1 a=some (.ins C dx fs)/\Cls K C/\NoAttr K C f/\fs.lookup f=some v ∧
 tv σ H1 fun y H2=>rd v y H2 fun z H3=> ∃dx' fs',H3 a=some (.ins C dx' fs')/\fs'.length<1000/\D.nx σ (upd H3 a (.ins C dx' (putF f z fs')))
section
variable {X:Cx}{o e value:Expr}{f:Str}{pos pos' tpos:Pos}{ta tv:TE}
def rAdd:V->V->Hp->VK->Prop:=fun x y H Q=> ∃i j,x= .int i/\y= .int j/\Q (.int (i+j)) H
def rSub:V->V->Hp->VK->Prop:=fun x y H Q=> ∃i j,x= .int i/\y= .int j/\Q (.int (i-j)) H
end
section
variable {X:Cx}{pins:List (Addr×Obj)}{σ:St}{H:Hp}{s:Shared}{A:Around}{E:Value->Shared->Prop}{Q:Value->Shared->Prop}{c:Value}{b:Bool}
inductive TyOf (K:PySem.W.Frag) (H:Hp):V->Value->Prop where
 | non:TyOf K H .non (.type "NoneType")
 | bl (x:Bool):TyOf K H (.bl x) (.type "bool")
 | int (i:Int):TyOf K H (.int i) (.type "int")
 | str (x:Str):TyOf K H (.str x) (.type "str")
 | flt (x:UInt64):TyOf K H (.flt x) (.type "float")
 | lst {a:Addr}{xs:List V}(e:H a=some (.lst xs)):TyOf K H (.ref a) (.type "list")
 | frz {a:Addr}{o:Obj}{xs:List V}(e:H a=some (.frz o (.lst xs))):TyOf K H (.ref a) (.type "list")
 | tup {a:Addr}{xs:List V}(e:H a=some (.tup xs)):TyOf K H (.ref a) (.type "tuple")
 | dK {a:Addr}{kvs:List (Key×V)}(e:H a=some (.dK kvs)):TyOf K H (.ref a) (.type "dict")
 | dT {a:Addr}{kvs:List (List Key×V)}(e:H a=some (.dT kvs)):TyOf K H (.ref a) (.type "dict")
 | ins {a C dx:Addr}{fs:List (Str×V)}(e:H a=some (.ins C dx fs)) (cl:Cls K C) (ha:PySem.W.findIn K (.ref C) "__class__" =some (some (.builtin "object.__class__")))
  (hn:PySem.W.specialIn K (.builtin "object.__class__") "__get__" =some (some (.builtin "getset_descriptor.__get__"))) (htk:PySem.W.takesIn K (.builtin "object.__class__")=some true)
  (hm:PySem.W.mroIn K C (.type "object")=some true):TyOf K H (.ref a) (.ref C)
theorem jd {x:V}{u t:Value}(I:Inv X pins σ H s) (rx:RelV x u) (ty:TyOf X.K H x t) (e:PySem.W.kitOne X.K t c=some b) (h: ∀tk,Q (.bool b) { s with toks:=tk }):
 wpAny (model X.prog X.w) A (call (.builtin "isinstance") [u,c]) Q E s:=by
 cases ty with
 | non=>cases (show u=Value.none from rx);exact PySem.W.kia_one PySem.W.kitx_none I.kIn True.intro e (fun z=>nomatch z) h
 | bl y=>cases (show u=Value.bool y from rx);exact PySem.W.kia_one PySem.W.kitx_bool I.kIn True.intro e (fun z=>nomatch z) h
 | int i=>obtain⟨t,q⟩:=(show ∃t,u=Value.int i t from rx);cases q;exact PySem.W.kia_one PySem.W.kitx_int I.kIn True.intro e (fun z=>nomatch z) h
 | str y=>obtain⟨t,q⟩:=(show ∃t,u=Value.str y t from rx);cases q;exact PySem.W.kia_one PySem.W.kitx_str I.kIn True.intro e (fun z=>nomatch z) h
 | flt y=>obtain⟨t,q⟩:=(show ∃t,u=Value.float y t from rx);cases q;exact PySem.W.kia_one PySem.W.kitx_float I.kIn True.intro e (fun z=>nomatch z) h
 | @lst a xs ea=>
  cases (show u=Value.ref a from rx)
  obtain⟨_,_,n,_,h1⟩:=(show ObjOk X.prog X.w H s.heap a (.lst xs)from I.hok a _ ea)
  exact PySem.W.kia_one PySem.W.kitx_list I.kIn ⟨_,h1,rfl⟩ e (fun z=>nomatch z) h
 | @frz a ob xs ea=>
  cases (show u=Value.ref a from rx)
  obtain⟨_,_,_,n,_,h1⟩:=(show ObjOk X.prog X.w H s.heap a (.frz ob (.lst xs))from I.hok a _ ea)
  exact PySem.W.kia_one PySem.W.kitx_list I.kIn ⟨_,h1,rfl⟩ e (fun z=>nomatch z) h
 | @tup a xs ea=>
  cases (show u=Value.ref a from rx)
  obtain⟨_,_,_,p⟩:=(show ObjOk X.prog X.w H s.heap a (.tup xs)from I.hok a _ ea)
  obtain⟨o,h1,h2,_⟩:=p
  exact PySem.W.kia_one PySem.W.kitx_tuple I.kIn ⟨o,h1,h2⟩ e (fun z=>nomatch z) h
 | @dK a kvs ea=>
  cases (show u=Value.ref a from rx)
  obtain⟨_,_,vs,_,p⟩:=(show ObjOk X.prog X.w H s.heap a (.dK kvs)from I.hok a _ ea)
  obtain⟨o,es,ep,h1,h2,_⟩:=p
  exact PySem.W.kia_one PySem.W.kitx_dict I.kIn ⟨o,h1,h2.1⟩ e (fun z=>nomatch z) h
 | @dT a kvs ea=>
  cases (show u=Value.ref a from rx)
  obtain⟨_,_,xs,_,o,es,ep,h1,h2,_⟩:=(show ObjOk X.prog X.w H s.heap a (.dT kvs)from I.hok a _ ea)
  exact PySem.W.kia_one PySem.W.kitx_dict I.kIn ⟨o,h1,h2.1⟩ e (fun z=>nomatch z) h
 | @ins a C dx fs ea cl ha hn htk hm=>
  cases (show u=Value.ref a from rx)
  obtain⟨mA,O,_⟩:=zae I.hok ea
  obtain⟨od,J,_⟩:=O.look
  exact PySem.W.kia_one (PySem.W.kitx_own (cl.get _) cl.hd ha hn htk hm) I.kIn J e (fun z=>nomatch z) h
end
end L2
namespace L2
open PySem PySem.Spec PyProof.Rows
structure Room (k:Nat) (A:Around):Prop where
 hd:A.handled=none
 dp:A.depth+3*k+5<recursionLimit
 un:A.units+16*k+200<cLine
theorem Room.deeper {k:Nat}{A:Around}(r:Room (k+1) A) (env:Env):Room k (A.deeper env):=
 ⟨r.hd,by have:=r.dp;show A.depth+1+3*k+5<_;omega,by have:=r.un;show A.units+3+16*k+200<_;omega⟩
theorem Room.depth {k:Nat}{A:Around}(r:Room k A):A.depth<recursionLimit:=by have:=r.dp;omega
def tNil:TA:=fun _ H Q=>Q [] H
def tCons (ta:TE) (tr:TA):TA:=fun σ H Q=>ta σ H fun x H1=>tr σ H1 fun xs H2=>Q (x::xs) H2
section
variable {X:Cx}{e:Expr}{es:List Expr}{te:TE}{t:TA}{pos:Pos}
theorem wc:PA X [] tNil:=fun _ _ _ _ H Q I h=>Calls.spliced_nil ⟨[],H,I,.nil,h⟩
theorem zb (ha:PE X e te) (hr:PA X es t) (hs:starEach (e::es) X.env=(false,eval e X.env)::starEach es X.env:=by rfl):PA X (e::es) (tCons te t):=by
 intro pos pins s σ H Q I h
 rw [hs]
 show wpAny _ _ (spliced ((false,eval e X.env)::backTo pos (starEach es X.env))) _ _ s
 refine Calls.spliced_cons (thn (ha pins s σ H _ I h) fun u s1 ⟨x,H1,I1,r1,q1⟩=> ?_)
 exact thn (hr pos pins s1 σ H1 _ I1 q1) fun us s2 ⟨xs,H2,I2,r2,q2⟩=>⟨x::xs,H2,I2,.cons r1 r2,q2⟩
def tTup (t:TA):TE:=fun σ H Q=>t σ H fun xs H1=>xs.length<=sizeLine/\ ∀p,H1 p=none->Q (.ref p) (upd H1 p (.tup xs))
def tLst (t:TA):TE:=fun σ H Q=>t σ H fun xs H1=>xs.length<=sizeLine/\ ∀p,H1 p=none->Q (.ref p) (upd H1 p (.lst xs))
theorem q9 {x1}(h:PA X es t):PE X (.Tuple es x1 pos) (tTup t):=by
 intro pins s σ H Q I hq
 refine wpAny_Tuple_spliced (thn (h pos pins s σ H _ I hq) fun us s1 ⟨xs,H1,I1,r,z,q⟩=>⟨by rw [← r.length];exact z,?_⟩)
 have hf:H1 s1.heap.objs.size=none:=I1.hok.fresh (Nat.le_refl _)
 refine⟨.ref s1.heap.objs.size,upd H1 s1.heap.objs.size (.tup xs),I1.laid (t':=s1.toks) (fun b u e=>Heap.get?_push_of_some _ e) (Nat.le_refl _) ?_,rfl,q _ hf⟩
 exact⟨z,us,r,⟨_,Heap.get?_push_size _ rfl,rfl,rfl,_,rfl⟩⟩
theorem jaD (h:PA X es t):PE X (.List es pos) (tLst t):=by
 intro pins s σ H Q I hq
 refine wpAny_List_spliced (thn (h pos pins s σ H _ I hq) fun us s1 ⟨xs,H1,I1,r,z,q⟩=>⟨by rw [← r.length];exact z,?_⟩)
 have hf:H1 s1.heap.objs.size=none:=I1.hok.fresh (Nat.le_refl _)
 refine⟨.ref s1.heap.objs.size,upd H1 s1.heap.objs.size (.lst xs),I1.laid (t':=s1.toks) (fun b u e=>Heap.get?_push_of_some _ e) (Nat.le_refl _) ?_,rfl,q _ hf⟩
 exact⟨z,us,0,r,Heap.get?_push_size _ rfl⟩
end
abbrev Sp:=List V->Hp->VK->XK->Prop
abbrev CXT:=List Env->Hp->Shared->XK->Value->Shared->Prop
structure Env0 (P:Program) (w:World) (K:PySem.W.Frag) (mg:Str->Option Value) (base:Heap) (A:Around) (outer:List Env) (s:Shared) (H:Hp):Prop where
 frames:A.frames=some outer
 mod:Mod K mg base
 bs: ∀b o,base.get? b=some o->s.heap.get? b=some o/\H b=none
 bsz:base.objs.size<=s.heap.objs.size
 funs:s.heap.FunFrames base outer
 frf: ∀b∈frs outer,H b=none
 hok:HOk P w H s.heap
 bare:AllBare s.gens
def CE (outer:List Env) (P:Program) (w:World) (H:Hp) (s:Shared) (Q:VK) (u:Value) (s':Shared):Prop:=
 ∃v H',s'.os=s.os/\AllBare s'.gens/\Un (frs outer) [] H H' s.heap s'.heap/\HOk P w H' s'.heap/\RelV v u/\Q v H'
def CR (CX:CXT) (outer:List Env) (P:Program) (w:World) (H:Hp) (s:Shared) (Q:VK) (E:XK) (r:Result) (s':Shared):Prop:=
 match r with
 | .ok (.ret u)=>CE outer P w H s Q u s'
 | .ok _=>False
 | .error e=>CX outer H s E e s'
structure FnOk (P:Program) (w:World) (K:PySem.W.Frag) (mg:Str->Option Value) (base:Heap) (CX:CXT) (k:Nat) (f:Addr) (fd:FuncData) (ps:List Str) (sp:Sp):Prop where
 len: ∀vs H Q E,sp vs H Q E->vs.length=ps.length
 run: ∀(A:Around) (outer:List Env) (s:Shared) (H:Hp) (args:Args) (us:List Value) (vs:List V) (Q:VK) (E:XK),Room k A->Env0 P w K mg base A outer s H->BindsTo s fd args (ps.zip us)->Vals vs us->sp vs H Q E →
  codeAny (model P w) A (.call (.ref f) args) (CR CX outer P w H s Q E) s
section
variable {X:Cx}{pins:List (Addr×Obj)}{σ:St}{H:Hp}{s s':Shared}
theorem Inv.env0 (I:Inv X pins σ H s):Env0 X.prog X.w X.K X.mg X.base X.A X.stack s H:=
 ⟨I.ok.frames,I.ok.mod,I.bs,Nat.le_trans I.ok.bsz I.sz,I.stack,I.stkFree,I.hok,I.bare⟩
theorem Inv.after {Q:VK}{u:Value}(I:Inv X pins σ H s) (h:CE X.stack X.prog X.w H s Q u s'):EP X pins σ Q u s':=by
 obtain⟨v,H',os,bare,un,hok,r,q⟩:=h
 obtain⟨hh,g,d,t,os'⟩:=s'
 obtain rfl:os'=s.os:=os
 exact⟨v,H',I.call (h':=hh) (g':=g) (d':=d) (t':=t) (ch:= []) un hok bare (fun b z=>absurd z (by simp)),r,q⟩
end
def tCall (sp:Sp) (dvs:List V) (E:XK) (t:TA):TE:=fun σ H Q=>t σ H fun vs H1=>sp (vs++dvs) H1 Q E
def tMeth (C:Addr) (m:Str) (sp:Sp) (dvs:List V) (E:XK) (ta:TE) (t:TA):TE:=fun σ H Q=>ta σ H fun x H1=> ∃a dx fs,x= .ref a/\H1 a=some (.ins C dx fs)/\fs.lookup m=none ∧
 t σ H1 fun vs H2=>sp (x::(vs++dvs)) H2 Q E
def tMake (C:Addr) (sp:Sp) (dvs:List V) (E:XK) (t:TA):TE:=fun σ H Q=>t σ H fun vs H1=> ∀x dx,H1 x=none->H1 dx=none->dx≠x →
 sp (.ref x::(vs++dvs)) (upd (upd H1 dx (.own x)) x (.ins C dx [])) (fun v H2=>v= .non/\Q (.ref x) H2) E
def Binds (K:PySem.W.Frag) (fd:FuncData) (ps:List Str) (ds:List Value):Prop:=
 ∀(s:Shared) (us:List Value),K.In s.heap->(us++ds).length=ps.length->BindsTo s fd ⟨us,[]⟩ (ps.zip (us++ds))
theorem Binds.all {K:PySem.W.Frag}{fd:FuncData}{ps:List Str}(h: ∀us:List Value,us.length=ps.length->bindArgs fd ⟨us,[]⟩=pure (ps.zip us)):Binds K fd ps []:=fun s us _ hl=>by
 rw [List.append_nil]at hl ⊢
 exact .of_eq (h us hl)
def Passes (CX:CXT) (X:Cx) (E:XK):Prop:= ∀(pins:List (Addr×Obj)) (σ:St) (H:Hp) (s:Shared) (e:Value) (s':Shared),Inv X pins σ H s->CX X.stack H s E e s'->X.xe e s'
section
variable {X:Cx}{CX:CXT}{k:Nat}{f C:Addr}{fd:FuncData}{ps:List Str}{sp:Sp}{dvs:List V}{ds:List Value}{E:XK}{x m:Str}{p pos apos:Pos}{e o:Expr}{es:List Expr}{ta:TE}{t:TA}
theorem j6 {pins:List (Addr×Obj)}{σ:St}{H:Hp}{s:Shared}{Q:VK}{us:List Value}{vs:List V}(F:FnOk X.prog X.w X.K X.mg X.base CX k f fd ps sp) (hr:Room k X.A) (hb:Binds X.K fd ps ds) (hd:Vals dvs ds) (hx:Passes CX X E)
 (I:Inv X pins σ H s) (r:Vals vs us) (h:sp (vs++dvs) H Q E):wpAny (model X.prog X.w) X.A (call (.ref f) us) (EP X pins σ Q) X.xe s:=by
 have r2:Vals (vs++dvs) (us++ds):=r.append hd
 have hl:(us++ds).length=ps.length:=by rw [← r2.length];exact F.len _ _ _ _ h
 refine wpAny_call (codeAny_mono (F.run X.A X.stack s H ⟨us,[]⟩ (us++ds) (vs++dvs) Q E hr I.env0 (hb s us I.kIn hl) r2 h) fun r s' hq=> ?_)
 cases r with
 | error e=>exact hx pins σ H s e s' I hq
 | ok fl=>
  cases fl with
  | ret u=>exact I.after hq
  | next=>exact False.elim hq
  | brk=>exact False.elim hq
  | cont=>exact False.elim hq
theorem qac (F:FnOk X.prog X.w X.K X.mg X.base CX k f fd ps sp) (hr:Room k X.A) (hg:Gl X x) (hm:X.mg x=some (.ref f)) (hk:PySem.W.keepIn X.K (.ref f)=true) (hb:Binds X.K fd ps ds) (hd:Vals dvs ds) (hx:Passes CX X E)
 (ha:PA X (e::es) t) (hdb:(x==("__debug__" :Str))=false:=by decide) (he:starEach (e::es) X.env=(false,eval e X.env)::starEach es X.env:=by rfl) (hpl:(backTo pos (starEach es X.env)).any (·.1)=false:=by rfl):
 PE X (.Call (.Name x p) (e::es) [] pos) (tCall sp dvs E t):=by
 intro pins s σ H Q I h
 refine wpAny_Call_Name_kw (jk I hg hm ?_ hdb)
 refine PySem.W.callWith_K (h₀:=X.base) I.ok.mod.kin hk (thn (ha pos pins s σ H _ I h) fun us s1 ⟨vs,H1,I1,r,q⟩=>⟨I1.kIn,?_⟩) he hpl
 exact j6 F hr hb hd hx I1 r q
theorem qW (F:FnOk X.prog X.w X.K X.mg X.base CX k f fd ps sp) (hr:Room k X.A) (hg:Gl X x) (hm:X.mg x=some (.ref f)) (hk:PySem.W.keepIn X.K (.ref f)=true) (hb:Binds X.K fd ps ds) (hd:Vals dvs ds) (hx:Passes CX X E)
 (hdb:(x==("__debug__" :Str))=false:=by decide):PE X (.Call (.Name x p) [] [] pos) (tCall sp dvs E tNil):=by
 intro pins s σ H Q I h
 refine wpAny_Call_Name_kw (jk I hg hm ?_ hdb)
 exact PySem.W.callWith_K0 I.kIn hk (j6 (us:= []) F hr hb hd hx I .nil h)
structure Mk (K:PySem.W.Frag) (C f:Addr):Prop where
 makes:PySem.W.makesIn K C=true
 init:PySem.W.findIn K (.ref C) "__init__" =some (some (.ref f))
 fn:PySem.W.isFn K (.ref f)=true
 kp:PySem.W.keepIn K (.ref C)=true
end
def PK (X:Cx) (kws:List Keyword) (t:TA):Prop:=
 ∀(pos:Pos) (pins:List (Addr×Obj)) (s:Shared) (σ:St) (H:Hp) (Q:List V->Hp->Prop),Inv X pins σ H s->t σ H Q->wpAny (model X.prog X.w) X.A (evalAll ((backToKw pos (keywordEach kws X.env)).map (·.2))) (AP X pins σ Q) X.xe s
section
variable {X:Cx}{CX:CXT}{k:Nat}{f C:Addr}{fd:FuncData}{ps ks:List Str}{sp:Sp}{E:XK}{x m:Str}{p pos apos kpos:Pos}{e o:Expr}{es:List Expr}{kws:List Keyword}{te ta:TE}{t tk:TA}{nm:Option Str}
structure KBinds (K:PySem.W.Frag) (fd:FuncData) (ps ks:List Str) (g:List Value->List Value->List Value) (gV:List V->List V->List V):Prop where
 to: ∀(s:Shared) (us ws:List Value),K.In s.heap->(g us ws).length=ps.length->BindsTo s fd ⟨us,ks.zip ws⟩ (ps.zip (g us ws))
 rel: ∀ {vs:List V}{us:List Value}{zs:List V}{ws:List Value},Vals vs us->Vals zs ws->Vals (gV vs zs) (g us ws)
def tCallK (sp:Sp) (gV:List V->List V->List V) (E:XK) (t tk:TA):TE:=fun σ H Q=>t σ H fun vs H1=>tk σ H1 fun zs H2=>sp (gV vs zs) H2 Q E
variable {g:List Value->List Value->List Value}{gV:List V->List V->List V}
end
structure FnScope (N P:List Str) (sc:Scope):Prop where
 kind:sc.kind= .function
 co:sc.isCoroutine=false
 gen:sc.isGenerator=false
 nd:N.Nodup
 pre:N.take P.length=P
 par: ∀x∈P,sc.names.lookup x=some .local\/sc.names.lookup x=some .cell
 nofree: ∀y∈sc.names,y.2≠ .free
theorem jt {kindOf:Str->Option NameKind}{x:Str}: ∀ {binds:List (Str×Value)}{m:Str->Option Value},(∀ v,(x,v)∉binds)->bindL kindOf binds m x=m x
 | [],_,_=>rfl
 | (n,v)::r,m,h=>by
  unfold bindL
  rw [jt fun w hw=>h w (List.mem_cons_of_mem _ hw)]
  split
  ·have:x≠n:=by rintro rfl;exact h v List.mem_cons_self
   simp [this]
  ·rfl
theorem Ws {kindOf:Str->Option NameKind}{x:Str}: ∀ {binds:List (Str×Value)}{m:Str->Option Value},(∀ v,(x,v)∉binds)->bindC kindOf binds m x=m x
 | [],_,_=>rfl
 | (n,v)::r,m,h=>by
  unfold bindC
  rw [Ws fun w hw=>h w (List.mem_cons_of_mem _ hw)]
  split
  ·rfl
  ·have:x≠n:=by rintro rfl;exact h v List.mem_cons_self
   simp [this]
theorem Qr {kindOf:Str->Option NameKind}{x:Str}{v:Value}: ∀ {P:List Str}{vs:List Value}{i:Nat}{m:Str->Option Value},P.Nodup->P[i]? =some x->vs[i]? =some v->kindOf x=some .local →
 bindL kindOf (P.zip vs) m x=some v
 | [],_,_,_,_,h,_,_=>by simp at h
 | _::_,[],_,_,_,_,h,_=>by simp at h
 | p::P,w::vs,0,m,nd,h1,h2,hk=>by
  simp at h1 h2;subst h1;subst h2
  show bindL kindOf ((p,w)::P.zip vs) m p=_
  unfold bindL
  rw [jt fun v hv=>(List.nodup_cons.mp nd).1 (List.of_mem_zip hv).1,if_pos hk]
  simp
 | p::P,w::vs,i+1,m,nd,h1,h2,hk=>by
  show bindL kindOf ((p,w)::P.zip vs) m x=_
  unfold bindL
  exact Qr (i:=i) (List.nodup_cons.mp nd).2 (by simpa using h1) (by simpa using h2) hk
theorem Qs {kindOf:Str->Option NameKind}{x:Str}{v:Value}: ∀ {P:List Str}{vs:List Value}{i:Nat}{m:Str->Option Value},P.Nodup->P[i]? =some x->vs[i]? =some v->kindOf x≠some .local →
 bindC kindOf (P.zip vs) m x=some v
 | [],_,_,_,_,h,_,_=>by simp at h
 | _::_,[],_,_,_,_,h,_=>by simp at h
 | p::P,w::vs,0,m,nd,h1,h2,hk=>by
  simp at h1 h2;subst h1;subst h2
  show bindC kindOf ((p,w)::P.zip vs) m p=_
  unfold bindC
  rw [Ws fun v hv=>(List.nodup_cons.mp nd).1 (List.of_mem_zip hv).1,if_neg hk]
  simp
 | p::P,w::vs,i+1,m,nd,h1,h2,hk=>by
  show bindC kindOf ((p,w)::P.zip vs) m x=_
  unfold bindC
  exact Qs (i:=i) (List.nodup_cons.mp nd).2 (by simpa using h1) (by simpa using h2) hk
def start (N:List Str) (vs:List V):St:=vs.map some++List.replicate (N.length-vs.length) none
def cxOf (CX:CXT) (P:Program) (w:World) (K:PySem.W.Frag) (mg:Str->Option Value) (base:Heap) (N:List Str) (qual:Str) (scope:Scope) (f:Addr) (cd:Value) (A:Around) (outer:List Env) (s:Shared) (H:Hp) (E:XK):Cx where
 prog:=P
 w:=w
 K:=K
 mg:=mg
 base:=base
 A:=A.deeper (envOfC qual scope s.heap.objs.size f cd)
 N:=N
 s₀:=s
 H₀:=H
 env:=envOfC qual scope s.heap.objs.size f cd
 outer:=outer
 stack:=envOfC qual scope s.heap.objs.size f cd::outer
 ex:= []
 calm:=true
 fn:=fun _=>true
 pn:= []
 xe:=fun e s'=>wpAny (model P w) (A.deeper (envOfC qual scope s.heap.objs.size f cd)) (leaving (envOfC qual scope s.heap.objs.size f cd) e) (fun _ s''=>CX outer H s E e s'') (fun e' s''=>CX outer H s E e' s'') s'
theorem ZE {sc:Scope}{n:Nat}{x:Str}(h:sc.names.lookup x=some .cell): ∃c,(cellsFrom n sc.names []).lookup x=some c:=by
 have q:=PySem.W.cellsFrom_some sc.names n [] (.inl h)
 exact Option.isSome_iff_exists.mp q
theorem JO {CX:CXT}{P:Program}{w:World}{K:PySem.W.Frag}{mg:Str->Option Value}{base:Heap}{N ps:List Str}{qual:Str}{scope:Scope}{f:Addr}{cd:Value}{A:Around}{outer:List Env}{s s1:Shared}{H:Hp}{E:XK}{us:List Value}{vs:List V}
 (S:FnScope N ps scope) (hd:A.handled=none) (e0:Env0 P w K mg base A outer s H) (hl:vs.length=ps.length) (r:Vals vs us)
 (x:InCallC s s.heap.objs.size (bindL (envOfC qual scope s.heap.objs.size f cd).kindOf (ps.zip us) fun _=>none) (cellsFrom (s.heap.objs.size+1) scope.names []) (bindC (envOfC qual scope s.heap.objs.size f cd).kindOf (ps.zip us) fun _=>none) s1):
 Inv (cxOf CX P w K mg base N qual scope f cd A outer s H E) [] (start N vs) H s1:=by
 have hpl:ps.length<=N.length:=by have:=congrArg List.length S.pre;rw [List.length_take]at this;omega
 obtain⟨h1,tk,rfl,hk⟩:=x.done
 have noA: ∀b:Addr,b∉(cxOf CX P w K mg base N qual scope f cd A outer s H E).ex:=fun b z=>absurd (show b∈([]:List Addr)from z) (by simp)
 refine⟨⟨e0.mod,S.kind,rfl,rfl,Nat.le_refl _,fun y z c h1 h2=> ?_,fun y hy=> ?_,fun y c _ h=> ?_,fun _=>hd,Around.frames_deeper e0.frames,.inr ⟨rfl,rfl⟩,fun b z=>absurd z (noA b),e0.bs,e0.bsz,fun b _ _=>noA b,fun b z=>absurd z (noA b),e0.funs,e0.frf⟩,
  rfl,e0.bare,Un.kept hk,⟨_,x.toInCall.ns,fun i y v h1 h2 h3=> ?_⟩,fun y c h=>⟨_,x.cell y c h⟩,e0.hok.fresh (Nat.le_refl _),fun y c h=> ?_,fun p hp=>absurd (show p∈([]:List (Addr×Obj))from hp) (by simp),e0.hok.kept hk,?_⟩
 ·exact name_of_addr x.apart (PySem.mem_of_lookup h1) (PySem.mem_of_lookup h2)
 ·have hy:scope.names.lookup y=some .cell\/scope.names.lookup y=some .free:=hy
  rcases hy with hy | hy
  ·exact ZE hy
  ·exact absurd rfl (S.nofree _ (PySem.mem_of_lookup hy))
 ·exact Nat.le_of_lt (x.above y c (PySem.mem_of_lookup h))
 ·have hi:i<vs.length:=by
   unfold start at h2
   by_cases hi:i<vs.length
   ·exact hi
   ·rw [List.getElem?_append_right (by simpa using hi)]at h2
    rw [List.getElem?_replicate]at h2
    split at h2<;>cases h2
  have ha:vs[i]? =some v:=by
   unfold start at h2
   rw [List.getElem?_append_left (by simpa using hi),List.getElem?_map]at h2
   cases e:vs[i]? with
   | none=>rw [e]at h2;cases h2
   | some a=>rw [e]at h2;cases h2;rfl
  obtain⟨u,hu,rv⟩:=r.get ha
  have hp:ps[i]? =some y:=by
   rw [← S.pre,List.getElem?_take_of_lt (by omega)];exact h1
  have ndP:ps.Nodup:=by rw [← S.pre];exact S.nd.sublist (List.take_sublist _ _)
  refine⟨u,rv,?_⟩
  rcases S.par y (List.mem_of_getElem? hp)with k | k
  ·exact .inl ⟨k,Qr ndP hp hu k⟩
  ·obtain⟨c,e⟩:=ZE (n:=s.heap.objs.size+1) k
   refine .inr ⟨.inl k,c,e,?_⟩
   have q:=x.cell y c e
   rw [Qs ndP hp hu (by show scope.names.lookup y≠_;rw [k];decide)]at q
   exact q
 ·exact e0.hok.fresh (Nat.le_of_lt (x.above y c (PySem.mem_of_lookup h)))
 ·unfold start
  show _=N.length
  rw [List.length_append,List.length_map,List.length_replicate]
  omega
theorem xaL {CX:CXT}{P:Program}{w:World}{K:PySem.W.Frag}{mg:Str->Option Value}{base:Heap}{k:Nat}{f:Addr}{name qual:Str}{params:Arguments}{body:List Stmt}{scope:Scope}{dV kV doc pm cdv ct oc:Value}{an od:Option Addr}
 {osl:Array (Option Value)}{N ps:List Str}{sp:Sp}(lk:K.lookup f=some ⟨oc,od,.func (PySem.W.fnOf name qual params body scope dV kV doc pm an cdv ct),osl⟩) (hcd:PySem.W.codeIn K cdv qual=true) (S:FnScope N ps scope)
 (len: ∀vs H Q E,sp vs H Q E->vs.length=ps.length)
 (hbody: ∀(A:Around) (outer:List Env) (s:Shared) (H:Hp) (vs:List V) (Q:VK) (E:XK),Room k (A.deeper (envOfC qual scope s.heap.objs.size f cdv))->sp vs H Q E →
   ∃t,PSs (cxOf CX P w K mg base N qual scope f cdv A outer s H E) body t/\t { nx:=fun _ H'=>Q .non H',rt:=Q } (start N vs) H):
 FnOk P w K mg base CX (k+1) f (PySem.W.fnOf name qual params body scope dV kV doc pm an cdv ct) ps sp:=by
 refine⟨len,fun A outer s H args us vs Q E hr e0 hb r hsp=> ?_⟩
 have hl:=len _ _ _ _ hsp
 have KX:K.In s.heap:=e0.mod.kin.keeps fun b o e=>(e0.bs b o e).1
 have lim:s.heap.NoLimit:=e0.mod.nolimit.keeps fun b o e=>(e0.bs b o e).1
 have hkind: ∀y∈ps.zip us,scope.names.lookup y.1=some .local\/(scope.names.lookup y.1=some .cell/\((cellsFrom (s.heap.objs.size+1) scope.names []).lookup y.1).isSome=true):=fun⟨n,v⟩ hy=>by
  rcases S.par n (List.of_mem_zip hy).1 with q | q
  ·exact .inl q
  ·exact .inr ⟨q,PySem.W.cellsFrom_some _ _ _ (.inl q)⟩
 refine codeAny_call_function hr.depth (KX _ _ lk) rfl S.co S.gen rfl (PySem.W.codeRec_of KX hcd) (hb _ _ _ _ ?_)
 refine wpAny_newFunctionEnv_cells S.kind hkind fun env he s1 x=> ?_
 subst he
 refine⟨lim.keeps x.toInCall.keep,codeAny_func ?_⟩
 obtain⟨t,ht,hq⟩:=hbody A outer s H vs Q E (hr.deeper _) hsp
 have I:Inv (cxOf CX P w K mg base N qual scope f cdv A outer s H E) [] (start N vs) H s1:=JO S hr.hd e0 hl r x
 refine wpAny_mono (ht [] s1 (start N vs) H _ I hq) (fun fl s' hs=> ?_) fun e s' hs=>hs
 have fin: ∀ {σ':St}{H':Hp}{v:V}{u:Value},Inv (cxOf CX P w K mg base N qual scope f cdv A outer s H E) [] σ' H' s'->RelV v u->Q v H'->CE outer P w H s Q u s':=
  fun {σ' H' v u} J rv q=>⟨v,H',J.os,J.bare,J.base,J.hok,rv,q⟩
 cases fl with
 | ret u=>
  obtain⟨v,σ',H',J,rv,q⟩:=hs
  exact fin J rv q
 | next=>
  obtain⟨σ',H',J,q⟩:=hs
  exact fin (v:=V.non) (u:=Value.none) J rfl q
 | brk=>
  obtain⟨_,_,_,q⟩:=hs
  exact False.elim q
 | cont=>
  obtain⟨_,_,_,q⟩:=hs
  exact False.elim q
end L2
namespace L2
open PySem PySem.Spec PyProof.Rows
section
variable {X:Cx}{x:Str}{p pos:Pos}{e:Expr}{es:List Expr}{t:TA}{id T:String}{r:List V->Hp->VK->Prop}
def tCB (r:List V->Hp->VK->Prop) (t:TA):TE:=fun σ H Q=>t σ H fun vs H1=>r vs H1 Q
theorem zc (hc:CallR X (.builtin id) r) (hg:Gl X x) (hm:X.mg x=none) (hv:bootBuiltins x=some (.builtin id)) (ha:PA X (e::es) t) (hn:x≠ "__name__" :=by decide) (hdb:(x==("__debug__" :Str))=false:=by decide)
 (he:starEach (e::es) X.env=(false,eval e X.env)::starEach es X.env:=by rfl) (hpl:(backTo pos (starEach es X.env)).any (·.1)=false:=by rfl):PE X (.Call (.Name x p) (e::es) [] pos) (tCB r t):=by
 intro pins s σ H Q I h
 refine wpAny_Call_Name_kw (Jh I hg hm hv ?_ hn hdb)
 exact PyProof.Rows.callWith_builtin1 (thn (ha pos pins s σ H _ I h) fun us s1 ⟨vs,H1,I1,r1,q1⟩=>hc pins s1 σ H1 vs us Q I1 r1 q1) he hpl
theorem Jl (hc:CallR X (.type T) r) (hg:Gl X x) (hm:X.mg x=none) (hv:bootBuiltins x=some (.type T)) (ha:PA X (e::es) t) (hn:x≠ "__name__" :=by decide) (hdb:(x==("__debug__" :Str))=false:=by decide)
 (he:starEach (e::es) X.env=(false,eval e X.env)::starEach es X.env:=by rfl) (hpl:(backTo pos (starEach es X.env)).any (·.1)=false:=by rfl):PE X (.Call (.Name x p) (e::es) [] pos) (tCB r t):=by
 intro pins s σ H Q I h
 refine wpAny_Call_Name_kw (Jh I hg hm hv ?_ hn hdb)
 exact PyProof.Rows.callWith_type1 (thn (ha pos pins s σ H _ I h) fun us s1 ⟨vs,H1,I1,r1,q1⟩=>hc pins s1 σ H1 vs us Q I1 r1 q1) he hpl
end
end L2
namespace HT
open PySem PyProof.Rows
def lexLt:List Int->List Int->Bool
 | [],[]=>false
 | [],_::_=>true
 | _::_,[]=>false
 | x::xs,y::ys=>if x=y then lexLt xs ys else decide (x<y)
theorem qar (x y:Int) (xs ys:List Int):lexLt (x::xs) (y::ys)=if x=y then lexLt xs ys else decide (x<y):=rfl
theorem zV:lexLt [] []=false:=rfl
theorem JT (y:Int) (ys:List Int):lexLt [] (y::ys)=true:=rfl
theorem QT (x:Int) (xs:List Int):lexLt (x::xs) []=false:=rfl
section
open PySem.SeqAt
open PySem.AutoSeq1 (wpAny_loadPart')
open PySem.MeetsSeq PySem.MeetsSeq2 PySem.MeetsSeq3
end
section
variable {prog:Program}{w:World}{A:Around}{E:Value->Shared->Prop}{s:Shared}
theorem cat_tup {t b:Addr}{vs ws:List Value}{Q:Value->Shared->Prop}(ht:IsTup s.heap t vs.toArray) (hb:IsTup s.heap b ws.toArray) (hv:vs≠ [])
 (h1:ws= []->Q (.ref t) s) (h2:ws≠ []->Q (.ref s.heap.objs.size) { s with heap:=s.heap.push { cls:= .type "tuple",data:= .seq (vs++ws).toArray } })
 (hsz:vs.length+ws.length<=sizeLine):wpAny (model prog w) A (binaryOp .Add (.ref t) (.ref b)) Q E s:=by
 obtain⟨⟨cls,dd,data,sl⟩,ho,hc,n,hd⟩:=id ht
 obtain⟨⟨cls2,dd2,data2,sl2⟩,ho2,hc2,n2,hd2⟩:=id hb
 simp only at hc hd hc2 hd2
 subst hc hd hc2 hd2
 have e:vs.toArray++ws.toArray=(vs++ws).toArray:=by simp
 by_cases hw:ws= []
 ·exact concat_meets ⟨_,ho,rfl⟩ ⟨_,ho2,rfl⟩ noFill_tuple_add seq_tuple_add PySem.F.slot_tuple_add PySem.F.entry_tuple_add (PySem.F.args_tuple_add_2 _ _)
   (tuple_addW1 t b vs.toArray ws.toArray n n2 dd dd2 sl sl2 (by simpa using hv) (by simp [hw])) ⟨ho,ho2,h1 hw⟩
 ·refine concat_meets ⟨_,ho,rfl⟩ ⟨_,ho2,rfl⟩ noFill_tuple_add seq_tuple_add PySem.F.slot_tuple_add PySem.F.entry_tuple_add (PySem.F.args_tuple_add_2 _ _)
   (tuple_addW2 t b vs.toArray ws.toArray n n2 dd dd2 sl sl2 (by simpa using hv) (by simpa using hw) (by rw [List.size_toArray,List.size_toArray];exact hsz)) ⟨ho,ho2,?_⟩
  rw [e]
  exact h2 hw
def sIx (n d:Nat):Option Int->Nat
 | none=>d
 | some v=>if v<0 then(v+(n:Int)).toNat else min v.toNat n
theorem jaK (n d:Nat):sIx n d none=d:=rfl
theorem zaA (n d:Nat) (hd:d<=n) (o:Option Int):sIx n d o<=n:=by
 cases o with
 | none=>exact hd
 | some v=>
  show(if v<0 then(v+(n:Int)).toNat else min v.toNat n)<=n
  by_cases hv:v<0
  ·rw [if_pos hv];omega
  ·rw [if_neg hv];exact Nat.min_le_right _ _
theorem ZN (v:Int) (n d:Nat):(if v<0 then max (v+(n:Int)) 0 else min v (n:Int))=((sIx n d (some v):Nat):Int):=by
 show(if v<0 then max (v+(n:Int)) 0 else min v (n:Int))=(((if v<0 then(v+(n:Int)).toNat else min v.toNat n):Nat):Int)
 by_cases hv:v<0
 ·simp only [if_pos hv];omega
 ·simp only [if_neg hv];omega
theorem QH (lo hi:Option Int) (n:Nat):Builtin.Slice.sliceAdjust lo hi 1 (n:Int)=(((sIx n 0 lo:Nat):Int),((sIx n n hi:Nat):Int)):=by
 have h1: ¬((1:Int)<0):=by omega
 unfold Builtin.Slice.sliceAdjust
 simp only [h1,if_false]
 refine Prod.ext ?_ ?_
 ·cases lo with
  | none=>rfl
  | some v=>exact ZN v n 0
 ·cases hi with
  | none=>rfl
  | some v=>exact ZN v n n
theorem WE (i j:Nat):Builtin.Slice.slicePlaces (i:Int) (j:Int) 1=j-i:=by
 unfold Builtin.Slice.slicePlaces
 have h1:(1:Int)>0:=by omega
 simp only [h1,if_true,Int.ediv_one]
 split<;>omega
theorem zo {v:Value}{o:Option Int}{Q:Option Int->Shared->Prop}(p:IsPart v o) (h:Q o s):wpAny (model prog w) A (Builtin.Slice.slicePartIndex v) Q E s:=by
 cases p with
 | none=>exact slicePart_none h
 | int i t=>exact slicePart_int h
theorem sliceApplied_gen {sl:Addr}{vl vu:Value}{lo hi:Option Int}{n:Nat}{Q:Int×Int×Nat->Shared->Prop}(hs:s.heap.IsSliceOf sl vl vu .none) (pl:IsPart vl lo) (pu:IsPart vu hi)
 (h:Q (((sIx n 0 lo:Nat):Int),1,sIx n n hi-sIx n 0 lo) s):wpAny (model prog w) A (Builtin.Slice.sliceApplied (.ref sl) (pure (n:Int))) Q E s:=by
 obtain⟨os,hos,hcs,hds⟩:=id hs
 unfold Builtin.Slice.sliceApplied Builtin.Slice.sliceFields
 refine wpAny_bind (wpAny_bind (wpAny_field hos hds (x:=vl) rfl (wpAny_bind (wpAny_field hos hds (x:=vu) rfl (wpAny_bind (wpAny_field hos hds (x:= .none) rfl (wpAny_pure ?_)))))))
 refine wpAny_bind (slicePart_none ?_)
 show wpAny _ _ (if ((1:Int)==0)=true then _ else _) _ _ s
 rw [if_neg (by decide)]
 refine wpAny_bind (zo pl (wpAny_bind (zo pu (wpAny_bind (wpAny_pure ?_)))))
 show wpAny _ _ (match Builtin.Slice.sliceAdjust lo hi 1 (n:Int)with | (lo,hi)=>pure (lo,(1:Int),Builtin.Slice.slicePlaces lo hi 1)) _ _ s
 rw [QH lo hi n]
 show wpAny _ _ (pure (((sIx n 0 lo:Nat):Int),(1:Int),Builtin.Slice.slicePlaces ((sIx n 0 lo:Nat):Int) ((sIx n n hi:Nat):Int) 1)) _ _ s
 rw [WE]
 exact wpAny_pure h
theorem jY (xs:Array Value) (i k:Nat):((List.range k).filterMap fun(m:Nat)=>xs[((i:Int)+(m:Int)*1).toNat]?).toArray=((xs.toList.drop i).take k).toArray:=by
 have e:(fun (m:Nat)=>xs[((i:Int)+(m:Int)*1).toNat]?)=fun m=>xs[i+m]? :=by
  funext m
  have:((i:Int)+(m:Int)*1).toNat=i+m:=by omega
  rw [this]
 rw [e]
 have:=pick_run xs i k
 rw [List.filterMap_map]at this
 have e2:((fun x=>xs[x]?)∘fun x=>i+x)=fun m=>xs[i+m]? :=rfl
 rw [e2]at this
 rw [this]
theorem getItem_tuple_cut {t sl:Addr}{items:Array Value}{vl vu:Value}{lo hi:Option Int}{Q:Value->Shared->Prop}(ht:IsTup s.heap t items) (hs:s.heap.IsSliceOf sl vl vu .none) (pl:IsPart vl lo) (pu:IsPart vu hi)
 (hw: ¬(sIx items.size 0 lo=0/\sIx items.size items.size hi=items.size))
 (h:Q (.ref s.heap.objs.size) { s with heap:=s.heap.push { cls:= .type "tuple",data:= .seq ((items.toList.drop (sIx items.size 0 lo)).take (sIx items.size items.size hi-sIx items.size 0 lo)).toArray } })
 (hsz:items.size<=sizeLine):wpAny (model prog w) A (getItem (.ref t) (.ref sl)) Q E s:=by
 have htake:sizeOk (.seq ((items.toList.drop (sIx items.size 0 lo)).take (sIx items.size items.size hi-sIx items.size 0 lo)).toArray):=by
  show((items.toList.drop (sIx items.size 0 lo)).take (sIx items.size items.size hi-sIx items.size 0 lo)).toArray.size<=sizeLine
  rw [List.size_toArray,List.length_take,List.length_drop,Array.length_toList]
  omega
 have hj:sIx items.size items.size hi<=items.size:=zaA _ _ (Nat.le_refl _) hi
 obtain⟨os,hos,hcs,hds⟩:=id hs
 have hTs:s.TypeIs (.ref sl) "slice" :=⟨os,hos,hcs⟩
 unfold getItem
 try with_reducible refine wpAny_holding ?_
 first | refine wpAny_bind (wpAny_pure ?_) | skip
 refine wpAny_bind (wpAny_sequenceKey ht.typeIs (by decide) ?_)
 refine wpAny_bind (wpAny_callSpecial?_slot (name:=Str.ofString "__getitem__") ht.typeIs PyProof.Rows.slot_tuple_getitem
  (wpAny_call_entry PyProof.Rows.slot_tuple_getitem ht.typeIs entry_tuple_getitem ?_ (args_tuple_getitem _ _)))
 show wpAny _ _ (Builtin.Tuple.tupleItemsOf (.ref t) >>= _) _ _ s
 refine wpAny_bind (tupleItemsOf_ ht ?_)
 refine wpAny_bind (wpAny_typeOf hTs ?_)
 rw [if_pos (by decide)]
 refine wpAny_bind (sliceApplied_gen hs pl pu ?_)
 have hno: ¬((((sIx items.size 0 lo:Nat):Int)==0&&(1:Int)==1&&(sIx items.size items.size hi-sIx items.size 0 lo)==items.size)=true):=by
  intro q
  rw [Bool.and_eq_true,Bool.and_eq_true]at q
  have q1:((sIx items.size 0 lo:Nat):Int)=0:=eq_of_beq q.1.1
  have q2:sIx items.size items.size hi-sIx items.size 0 lo=items.size:=eq_of_beq q.2
  exact hw ⟨by omega,by omega⟩
 show wpAny _ _ (if (((sIx items.size 0 lo:Nat):Int)==0&&(1:Int)==1&&(sIx items.size items.size hi-sIx items.size 0 lo)==items.size)=true then _ else _) _ _ s
 rw [if_neg hno,jY]
 first
  | exact wpAny_bind (m:=Builtin.Tuple.tupleExact _) (wpAny_newObj_type (wpAny_pure ⟨_,rfl,wpAny_pure h⟩) htake)
  | exact wpAny_bind (m:=Builtin.Tuple.tupleExact _) (wpAny_newObj_type (wpAny_bind (wpAny_pure (wpAny_pure ⟨_,rfl,wpAny_pure h⟩))) htake)
  | exact wpAny_bind (wpAny_bind (m:=Builtin.Tuple.tupleExact _) (wpAny_newObj_type (wpAny_pure (wpAny_pure ⟨_,rfl,wpAny_pure h⟩)) htake))
  | exact wpAny_bind (wpAny_bind (m:=Builtin.Tuple.tupleExact _) (wpAny_newObj_type (wpAny_pure ⟨_,rfl,wpAny_pure h⟩) htake))
end
end HT
namespace L2
open PySem PySem.Spec PyProof.Rows
abbrev TO:=St->Hp->(Option Int->Hp->Prop)->Prop
def PO (X:Cx) (e:Option Expr) (t:TO):Prop:=
 ∀(pins:List (Addr×Obj)) (s:Shared) (σ:St) (H:Hp) (Q:Option Int->Hp->Prop),Inv X pins σ H s->t σ H Q →
  wpAny (model X.prog X.w) X.A (evalPart e X.env) (fun u s'=> ∃o H',Inv X pins σ H' s'/\IsPart u o/\Q o H') X.xe s
def tNoPart:TO:=fun _ H Q=>Q none H
def tPart (t:TE):TO:=fun σ H Q=>t σ H fun x H1=> ∃i,x= .int i/\Q (some i) H1
section
variable {X:Cx}{e:Expr}{te:TE}{lo hi:Option Expr}{tl th:TO}{pos p2:Pos}
theorem jab:PO X none tNoPart:=by
 intro pins s σ H Q I h
 rw [evalPart_none]
 exact wpAny_pure ⟨none,H,I,.none,h⟩
theorem xae (h:PE X e te):PO X (some e) (tPart te):=by
 intro pins s σ H Q I hw
 rw [evalPart_some]
 refine thn (h pins s σ H _ I hw) fun u s1 ⟨x,H1,I1,r1,q1⟩=> ?_
 obtain⟨i,rfl,q⟩:=q1
 obtain⟨t,rfl⟩:=r1
 exact⟨some i,H1,I1,.int i t,q⟩
def SlR (X:Cx) (r:V->Option Int->Option Int->Hp->VK->Prop):Prop:=
 ∀(pins:List (Addr×Obj)) (s:Shared) (σ:St) (H:Hp) (x:V) (v vl vu:Value) (lo hi:Option Int) (sl:Addr) (Q:VK),Inv X pins σ H s->RelV x v->s.heap.IsSliceOf sl vl vu .none->IsPart vl lo->IsPart vu hi->r x lo hi H Q →
  ∃T id,typeLookup (.type T) "__getitem__" =pure (some (.builtin id))/\s.TypeIs v T/\wpAny (model X.prog X.w) X.A (getItem v (.ref sl)) (EP X pins σ Q) X.xe s
theorem SlR.or {r r':V->Option Int->Option Int->Hp->VK->Prop}(h:SlR X r) (h':SlR X r'):SlR X (fun x lo hi H Q=>r x lo hi H Q\/r' x lo hi H Q):=by
 intro pins s σ H x v vl vu lo hi sl Q I rx hs pl pu q
 rcases q with q | q
 ·exact h pins s σ H x v vl vu lo hi sl Q I rx hs pl pu q
 ·exact h' pins s σ H x v vl vu lo hi sl Q I rx hs pl pu q
def tSl (r:V->Option Int->Option Int->Hp->VK->Prop) (te:TE) (tl th:TO):TE:=fun σ H Q=>te σ H fun x H1=>tl σ H1 fun l H2=>th σ H2 fun u H3=>r x l u H3 Q
theorem W2 {r:V->Option Int->Option Int->Hp->VK->Prop}(hr:SlR X r) (he:PE X e te) (hl:PO X lo tl) (hu:PO X hi th):PE X (.Subscript e (.Slice lo hi none p2) pos) (tSl r te tl th):=by
 intro pins s σ H Q I h
 refine Subscript_ (thn (he pins s σ H _ I h) fun v s1 ⟨x,H1,I1,r1,q1⟩=> ?_)
 refine wpAny_Slice (thn (hl pins s1 σ H1 _ I1 q1) fun vl s2 ⟨l,H2,I2,pl,q2⟩=>thn (hu pins s2 σ H2 _ I2 q2) fun vu s3 ⟨u,H3,I3,pu,q3⟩=> ?_)
 rw [evalPart_none]
 refine wpAny_pure ?_
 have I4:Inv X pins σ H3 { s3 with heap:=s3.heap.push { cls:= .type "slice",data:= .fields #[vl,vu,.none] } }:=I3.kept (t':=s3.toks) fun b ob q=>Heap.get?_push_of_some _ q
 obtain⟨T,id,hT,ht,hg⟩:=hr pins { s3 with heap:=s3.heap.push { cls:= .type "slice",data:= .fields #[vl,vu,.none] } } σ H3 x v vl vu l u s3.heap.objs.size Q I4 r1 (Heap.IsSliceOf.new ..) pl pu q3
 show wpAny (model X.prog X.w) X.A (subscriptTail e (.Slice lo hi none p2) v (.ref s3.heap.objs.size)) (EP X pins σ Q) X.xe { s3 with heap:=s3.heap.push { cls:= .type "slice",data:= .fields #[vl,vu,.none] } }
 exact tail_any (ops:= [.ref s3.heap.objs.size,v]) ht hT hg (by with_unfolding_all rfl)
def cutV (xs:List V) (lo hi:Option Int):List V:=(xs.drop (HT.sIx xs.length 0 lo)).take (HT.sIx xs.length xs.length hi-HT.sIx xs.length 0 lo)
theorem Zj (xs:List V) (lo hi:Option Int):(cutV xs lo hi).length<=xs.length:=by
 unfold cutV
 rw [List.length_take,List.length_drop]
 omega
def rSlT (K:PySem.W.Frag):V->Option Int->Option Int->Hp->VK->Prop:=fun x lo hi H Q=> ∃a xs,x= .ref a/\SqT K H a xs ∧
 ¬(HT.sIx xs.length 0 lo=0/\HT.sIx xs.length xs.length hi=xs.length)/\ ∀p,H p=none->Q (.ref p) (upd H p (.tup (cutV xs lo hi)))
theorem qaC:SlR X (rSlT X.K):=by
 intro pins s σ H x v vl vu lo hi sl Q I rx hs pl pu h
 obtain⟨a,xs,rfl,hx,hw,q⟩:=h
 cases rx
 obtain⟨its,r,ht,hz⟩:=I.tuple hx
 have hlen:its.toArray.size=xs.length:=by rw [List.size_toArray];exact r.length.symm
 refine⟨"tuple",_,PyProof.Rows.slot_tuple_getitem.lookup,ht.typeIs,?_⟩
 refine HT.getItem_tuple_cut ht hs pl pu (by rw [hlen];exact hw) ?_ (by rw [hlen];exact hz)
 rw [hlen]
 refine⟨.ref s.heap.objs.size,_,I.laid (t':=s.toks) (o:= .tup (cutV xs lo hi)) (fun b ob q=>Heap.get?_push_of_some _ q) (Nat.le_refl _) ?_,rfl,q _ (I.hok.fresh (Nat.le_refl _))⟩
 exact⟨Nat.le_trans (Zj xs lo hi) hz,_,(r.drop (HT.sIx xs.length 0 lo)).take (HT.sIx xs.length xs.length hi-HT.sIx xs.length 0 lo),PTup.new _ _⟩
def rLtT (K:PySem.W.Frag):R2:=fun x y H Q=> ∃a b ns ms,x= .ref a/\y= .ref b/\SqT K H a (ns.map V.int)/\SqT K H b (ms.map V.int)/\Q (.bl (HT.lexLt ns ms)) H
def rCatT (K:PySem.W.Frag):R2:=fun x y H Q=> ∃a b xs ys,x= .ref a/\y= .ref b/\SqT K H a xs/\SqT K H b ys/\xs≠ []/\xs.length+ys.length<=sizeLine ∧
 (ys= []->Q (.ref a) H)/\(ys≠ []-> ∀p,H p=none->Q (.ref p) (upd H p (.tup (xs++ys))))
theorem Vals.nil_iff {xs:List V}{us:List Value}(r:Vals xs us):us= []↔xs= []:=by
 cases r with
 | nil=>simp
 | cons _ _=>simp
theorem zaq:OpR X (binaryOp .Add) (rCatT X.K):=by
 intro pins s σ H x y v u Q I rx ry h
 obtain⟨a,b,xs,ys,rfl,rfl,ha,hb,hx,hz,q1,q2⟩:=h
 cases rx
 cases ry
 obtain⟨its,r1,p1,_⟩:=I.tuple ha
 obtain⟨its2,r2,p2,_⟩:=I.tuple hb
 refine HT.cat_tup p1 p2 (fun z=>hx (r1.nil_iff.mp z)) (fun z=>⟨.ref a,H,I,rfl,q1 (r2.nil_iff.mp z)⟩) (fun z=> ?_) (by rw [← r1.length,←r2.length];exact hz)
 refine⟨.ref s.heap.objs.size,_,I.laid (t':=s.toks) (o:= .tup (xs++ys)) (fun b ob q=>Heap.get?_push_of_some _ q) (Nat.le_refl _) ?_,rfl,q2 (fun w=>z (r2.nil_iff.mpr w)) _ (I.hok.fresh (Nat.le_refl _))⟩
 exact⟨by rw [List.length_append];exact hz,_,r1.append r2,PTup.new _ _⟩
end
end L2
namespace L2
open PySem PySem.Spec PyProof.Rows
def ixN (n:Nat) (i:Int):Option Nat:=if 0<=i then(if i<n then some i.toNat else none)else if -(n:Int)<=i then some (i+n).toNat else none
def atI {α:Type}(xs:List α) (i:Int):Option α:=(ixN xs.length i).bind fun j=>xs[j]?
theorem zL {n:Nat}{i:Int}{j:Nat}(h:ixN n i=some j):seqIndex? i n=some j/\j<n/\ -(n:Int)<=i/\i<n:=by
 unfold ixN at h
 by_cases h0:0<=i
 ·rw [if_pos h0]at h
  by_cases h1:i<n
  ·rw [if_pos h1]at h
   have e:i.toNat=j:=Option.some.inj h
   exact⟨by rw [seqIndex_of h0 h1,e],by omega,by omega,h1⟩
  ·rw [if_neg h1]at h;cases h
 ·rw [if_neg h0]at h
  by_cases h1: -(n:Int)<=i
  ·rw [if_pos h1]at h
   have e:(i+n).toNat=j:=Option.some.inj h
   exact⟨by rw [seqIndex_neg (by omega) h1,e],by omega,h1,by omega⟩
  ·rw [if_neg h1]at h;cases h
theorem qA {α:Type}{xs:List α}{i:Int}{v:α}(h:atI xs i=some v): ∃j,seqIndex? i xs.length=some j/\xs[j]? =some v/\j<xs.length/\ -(xs.length:Int)<=i/\i<xs.length:=by
 unfold atI at h
 cases e:ixN xs.length i with
 | none=>rw [e]at h;cases h
 | some j=>
  rw [e]at h
  obtain⟨h1,h2,h3,h4⟩:=zL e
  exact⟨j,h1,h,h2,h3,h4⟩
def PlainIx (b:Expr):Prop:= ∀o i,subscripted b false o i=operate [o,i] (getItem o i)
def IxR (X:Cx) (r:R2):Prop:=
 ∀(value slice:Expr) (pins:List (Addr×Obj)) (s:Shared) (σ:St) (H:Hp) (x y:V) (v u:Value) (Q:VK),Inv X pins σ H s->RelV x v->RelV y u->r x y H Q →
  subscripted slice false v u=operate [v,u] (getItem v u)->wpAny (model X.prog X.w) X.A (subscriptTail value slice v u) (EP X pins σ Q) X.xe s
def MtR (X:Cx) (id:String) (r:V->List V->Hp->VK->Prop):Prop:=
 ∀(pins:List (Addr×Obj)) (s:Shared) (σ:St) (H:Hp) (x:V) (xs:List V) (v:Value) (us:List Value) (Q:VK),Inv X pins σ H s->RelV x v->Vals xs us->r x xs H Q →
  wpAny (model X.prog X.w) X.A (call (.builtin id) (v::us)) (EP X pins σ Q) X.xe s
section
variable {X:Cx}{a b:Expr}{ta tb:TE}{pos:Pos}
theorem IxR.or {r r':R2}(h:IxR X r) (h':IxR X r'):IxR X (fun x y H Q=>r x y H Q\/r' x y H Q):=by
 intro value slice pins s σ H x y v u Q I rx ry q hs
 rcases q with q | q
 ·exact h value slice pins s σ H x y v u Q I rx ry q hs
 ·exact h' value slice pins s σ H x y v u Q I rx ry q hs
theorem jaM {r:R2}(hr:IxR X r) (ha:PE X a ta) (hb:PE X b tb) (hs:PlainIx b):PE X (.Subscript a b pos) (tOp r ta tb):=by
 intro pins s σ H Q I h
 exact Subscript_ (binT ha hb I h fun v u s2 x y H2 I2 rx ry q=>hr a b pins s2 σ H2 x y v u Q I2 rx ry q (hs _ _))
def rIxL (K:PySem.W.Frag):R2:=fun x y H Q=> ∃p xs i v,x= .ref p/\y= .int i/\SqL K H p xs/\atI xs i=some v/\Q v H
def rIxT (K:PySem.W.Frag):R2:=fun x y H Q=> ∃p xs i v,x= .ref p/\y= .int i/\SqT K H p xs/\atI xs i=some v/\Q v H
def rIxS:R2:=fun x y H Q=> ∃z i c,x= .str z/\y= .int i/\z.length<=sizeLine/\atI z.cps.toList i=some c/\Q (.str ⟨#[c]⟩) H
theorem ix_list:IxR X (rIxL X.K):=by
 intro value slice pins s σ H x y v u Q I rx ry h hs
 obtain⟨p,xs,i,z,rfl,rfl,hq,he,q⟩:=h
 cases rx
 obtain⟨t,rfl⟩:=ry
 obtain⟨its,r,pl,hz⟩:=I.list hq
 obtain⟨j,h1,h2,h3,h4,h5⟩:=qA he
 obtain⟨w,ew,rw'⟩:=r.get h2
 have hl:=r.length
 have hn:=jl
 have fin:EP X pins σ Q w s:=⟨z,H,I,rw',q⟩
 by_cases h0:0<=i
 ·have hj:i.toNat=j:=by
   rw [seqIndex_of h0 h5]at h1
   exact Option.some.inj h1
  exact item_listR pl.isList h0 (by omega) (by rw [hj];simpa using ew) fin hs
 ·have hj:(i+(its.toArray.size:Int)).toNat=j:=by
   rw [seqIndex_neg (by omega) h4]at h1
   rw [List.size_toArray,←hl]
   exact Option.some.inj h1
  exact subscriptTail_builtinR (x:=w) pl.isList.typeIs slot_list_getitem.lookup
   (wpAny_getItem_list_neg (Q:=fun r s'=>r=w/\EP X pins σ Q r s') pl.isList (by omega) (by rw [List.size_toArray]<;>omega) (by omega) (by rw [hj];simpa using ew) ⟨rfl,fin⟩) hs
theorem ix_tup:IxR X (rIxT X.K):=by
 intro value slice pins s σ H x y v u Q I rx ry h hs
 obtain⟨p,xs,i,z,rfl,rfl,hq,he,q⟩:=h
 cases rx
 obtain⟨t,rfl⟩:=ry
 obtain⟨its,r,pl,hz⟩:=I.tuple hq
 obtain⟨j,h1,h2,h3,h4,h5⟩:=qA he
 obtain⟨w,ew,rw'⟩:=r.get h2
 have hl:=r.length
 have hn:=jl
 have fin:EP X pins σ Q w s:=⟨z,H,I,rw',q⟩
 exact subscriptTail_builtinR (x:=w) pl.typeIs slot_tuple_getitem.lookup
  (getItem_tuple (j:=j) (Q:=fun r s'=>r=w/\EP X pins σ Q r s') pl (by omega) (by omega) (by rw [List.size_toArray,←hl];exact h1) (by simpa using ew) ⟨rfl,fin⟩) hs
theorem X4:IxR X rIxS:=by
 intro value slice pins s σ H x y v u Q I rx ry h hs
 obtain⟨z,i,c,rfl,rfl,hz,he,q⟩:=h
 obtain⟨t,rfl⟩:=rx
 obtain⟨t',rfl⟩:=ry
 obtain⟨j,h1,h2,h3,h4,h5⟩:=qA he
 have hl:z.cps.toList.length=z.length:=by simp [Str.length]
 rw [hl]at h1 h4 h5
 have hn:=jl
 exact tail_any (typeIs_str s z t) slot_str_getitem.lookup (getItem_str (c:=c) (by
  have e1:decide (i< -(2 ^ 63:Int))=false:=decide_eq_false (by omega)
  have e2:decide (i>=2 ^ 63)=false:=decide_eq_false (by omega)
  rw [e1,e2,Bool.or_false]) (by rw [h1];simpa using h2) ⟨.str ⟨#[c]⟩,H,I.tok _,⟨_,rfl⟩,q⟩) hs
def rIx (K:PySem.W.Frag):R2:=fun x y H Q=>rIxL K x y H Q\/rIxT K x y H Q\/rIxS x y H Q
theorem zat:IxR X (rIx X.K):=ix_list.or (ix_tup.or X4)
theorem WG (its:List Value) (n j:Nat) (u:Value):Obj.mapSeq (·.setIfInBounds j u) { cls:= .type "list",data:= .seq its.toArray n }= { cls:= .type "list",data:= .seq (its.set j u).toArray n }:=by
 simp [Obj.mapSeq]
theorem Inv.lst {pins:List (Addr×Obj)}{σ:St}{H:Hp}{s:Shared}{p:Addr}{xs:List V}(I:Inv X pins σ H s) (h:H p=some (.lst xs)):
 ∃(its:List Value) (n:Nat),Vals xs its/\s.heap.get? p=some { cls:= .type "list",data:= .seq its.toArray n }/\xs.length<=sizeLine:=by
 obtain⟨z,its,n,r,e⟩:=I.hok p _ h
 exact⟨its,n,r,e,z⟩
theorem Inv.lstUpd {pins:List (Addr×Obj)}{σ:St}{H:Hp}{s:Shared}{p:Addr}{xs ys:List V}{its its':List Value}{n n':Nat}{f:Obj->Obj}(I:Inv X pins σ H s) (h:H p=some (.lst xs))
 (ho:s.heap.get? p=some { cls:= .type "list",data:= .seq its.toArray n }) (hf:f { cls:= .type "list",data:= .seq its.toArray n }= { cls:= .type "list",data:= .seq its'.toArray n' }) (r:Vals ys its') (hz:ys.length<=sizeLine) (t:Nat):
 Inv X pins σ (upd H p (.lst ys)) { s with heap:=s.heap.update p f,toks:=t }:=by
 have e:(s.heap.update p f).get? p=some { cls:= .type "list",data:= .seq its'.toArray n' }:=by
  rw [Heap.get?_update_self f ho (by rw [hf]<;>rfl),hf]
 refine I.write (x:=p) (e:=p) (by rw [h];trivial) (.inl rfl) (fun b u hb q=>(Heap.get?_update_other _ _ (Ne.symm hb)).trans q) ⟨_,e⟩ ?_
 exact⟨hz,its',n',r,e⟩
def rSetL:V->V->V->Hp->(Hp->Prop)->Prop:=fun o i v H Q=> ∃p xs k j,o= .ref p/\i= .int k/\H p=some (.lst xs)/\ixN xs.length k=some j/\Q (upd H p (.lst (xs.set j v)))
theorem wX:PSet X rSetL:=by
 intro pins s σ H o i v ov iv u Q I ro ri rv h
 obtain⟨p,xs,k,j,rfl,rfl,hp,hj,q⟩:=h
 cases ro
 obtain⟨t,rfl⟩:=ri
 obtain⟨its,n,r,ho,hz⟩:=I.lst hp
 obtain⟨h1,h2,h3,h4⟩:=zL hj
 have hl:=r.length
 have hn:=jl
 have I':Inv X pins σ (upd H p (.lst (xs.set j v))) { s with heap:=s.heap.update p (Obj.mapSeq (·.setIfInBounds j u)) }:=
  I.lstUpd hp ho (WG its n j u) (r.set rv j) (by rw [List.length_set];exact hz) s.toks
 by_cases h0:0<=k
 ·have hk:k.toNat=j:=by
   rw [seqIndex_of h0 h4]at h1
   exact Option.some.inj h1
  exact PySem.W.ki_setAt ho h0 (by omega) (by rw [List.size_toArray,←hl];exact h4) (by rw [hk];exact⟨_,I',q⟩)
 ·have hk:(k+(its.toArray.size:Int)).toNat=j:=by
   rw [seqIndex_neg (by omega) h3]at h1
   rw [List.size_toArray,←hl]
   exact Option.some.inj h1
  exact PySem.W.ki_setBack ho (by omega) (by rw [List.size_toArray,←hl];exact h3) (by omega) (by rw [hk];exact⟨_,I',q⟩)
theorem jv (lo hi:Option Int) (n:Nat):(sliceBounds lo hi none n).1=((HT.sIx n 0 lo:Nat):Int)/\(sliceBounds lo hi none n).2.1=((HT.sIx n n hi:Nat):Int)/\(sliceBounds lo hi none n).2.2=1:=by
 refine⟨?_,?_,rfl⟩
 ·cases lo with
  | none=>simp [sliceBounds,HT.sIx]
  | some i=>
   simp only [sliceBounds,HT.sIx,Option.getD_none,show(1:Int)>0 by decide,if_true]
   by_cases h:i<0
   ·simp only [h,if_true]<;>omega
   ·simp only [h,if_false]<;>omega
 ·cases hi with
  | none=>simp [sliceBounds,HT.sIx]
  | some i=>
   simp only [sliceBounds,HT.sIx,Option.getD_none,show(1:Int)>0 by decide,if_true]
   by_cases h:i<0
   ·simp only [h,if_true]<;>omega
   ·simp only [h,if_false]<;>omega
theorem Wq (its:List Value) (lo hi:Option Int):slicePick its.toArray lo hi none=((its.drop (HT.sIx its.length 0 lo)).take (HT.sIx its.length its.length hi-HT.sIx its.length 0 lo)).toArray:=by
 obtain⟨h1,h2,h3⟩:=jv lo hi its.toArray.size
 unfold slicePick
 rw [h1,h2,h3]
 simp only [sliceRange_one,pick_run,List.size_toArray]<;>rfl
def rSlL (K:PySem.W.Frag):V->Option Int->Option Int->Hp->VK->Prop:=fun x lo hi H Q=> ∃a xs,x= .ref a/\SqL K H a xs/\ ∀p,H p=none->Q (.ref p) (upd H p (.lst (cutV xs lo hi)))
theorem sl_list:SlR X (rSlL X.K):=by
 intro pins s σ H x v vl vu lo hi sl Q I rx hs pl pu h
 obtain⟨a,xs,rfl,hx,q⟩:=h
 cases rx
 obtain⟨its,r,ht,hz⟩:=I.list hx
 have hlen:=r.length
 refine⟨"list",_,slot_list_getitem.lookup,ht.isList.typeIs,?_⟩
 refine wpAny_getItem_list_slice ht.isList hs pl pu .none (by simp) ?_ (by rw [List.size_toArray]<;>omega)
 rw [Wq,←hlen]
 refine⟨.ref s.heap.objs.size,_,I.laid (t':=s.toks) (o:= .lst (cutV xs lo hi)) (fun b ob q=>Heap.get?_push_of_some _ q) (Nat.le_refl _) ?_,rfl,q _ (I.hok.fresh (Nat.le_refl _))⟩
 exact⟨Nat.le_trans (Zj xs lo hi) hz,_,0,(r.drop (HT.sIx xs.length 0 lo)).take (HT.sIx xs.length xs.length hi-HT.sIx xs.length 0 lo),Heap.get?_push_size _ rfl⟩
def flatV:V->Bool
 | .non=>true
 | .bl _=>true
 | .int _=>true
 | .str _=>true
 | _=>false
def eqV:V->V->Bool
 | .non,.non=>true
 | .bl a,.bl b=>a==b
 | .bl a,.int b=>(if a then 1 else 0)==b
 | .int a,.bl b=>a==(if b then 1 else 0)
 | .int a,.int b=>a==b
 | .str a,.str b=>a==b
 | _,_=>false
theorem zav {A:Around}{s:Shared}{y x:V}{u v:Value}(ry:RelV y u) (rx:RelV x v) (fy:flatV y=true) (fx:flatV x=true):SeqAt.EqAt A s u v (eqV y x):=by
 cases y with
 | non=>
  cases ry
  cases x with
  | non=>cases rx;exact SeqAt.EqAt.same _
  | bl b=>cases rx;exact SeqAt.EqAt.none_bool b
  | int b=>obtain⟨t,rfl⟩:=rx;exact SeqAt.EqAt.none_int b t
  | str b=>obtain⟨t,rfl⟩:=rx;exact SeqAt.EqAt.none_str b t
  | _=>exact absurd (show false=true from fx) Bool.false_ne_true
 | bl a=>
  cases ry
  cases x with
  | non=>cases rx;exact SeqAt.EqAt.bool_none a
  | bl b=>cases rx;exact SeqAt.EqAt.bool_bool a b
  | int b=>obtain⟨t,rfl⟩:=rx;exact SeqAt.EqAt.bool_int a b t
  | str b=>obtain⟨t,rfl⟩:=rx;exact SeqAt.EqAt.bool_str a b t
  | _=>exact absurd (show false=true from fx) Bool.false_ne_true
 | int a=>
  obtain⟨t',rfl⟩:=ry
  cases x with
  | non=>cases rx;exact SeqAt.EqAt.int_none a t'
  | bl b=>cases rx;exact SeqAt.EqAt.int_bool a t' b
  | int b=>obtain⟨t,rfl⟩:=rx;exact SeqAt.EqAt.int_int a t' b t
  | str b=>obtain⟨t,rfl⟩:=rx;exact SeqAt.EqAt.int_str a t' b t
  | _=>exact absurd (show false=true from fx) Bool.false_ne_true
 | str a=>
  obtain⟨t',rfl⟩:=ry
  cases x with
  | non=>cases rx;exact SeqAt.EqAt.str_none a t'
  | bl b=>cases rx;exact SeqAt.EqAt.str_bool a t' b
  | int b=>obtain⟨t,rfl⟩:=rx;exact SeqAt.EqAt.str_int a t' b t
  | str b=>obtain⟨t,rfl⟩:=rx;exact SeqAt.EqAt.str_str a t' b t
  | _=>exact absurd (show false=true from fx) Bool.false_ne_true
 | _=>exact absurd (show false=true from fy) Bool.false_ne_true
def eqU (x:V) (u:Value):Bool:=match u with
 | .none=>eqV .non x
 | .bool b=>eqV (.bl b) x
 | .int i _=>eqV (.int i) x
 | .str z _=>eqV (.str z) x
 | _=>false
theorem Q4 {x y:V}{u:Value}(r:RelV y u) (f:flatV y=true):eqU x u=eqV y x:=by
 cases y with
 | non=>cases r;rfl
 | bl b=>cases r;rfl
 | int i=>obtain⟨t,rfl⟩:=r;rfl
 | str z=>obtain⟨t,rfl⟩:=r;rfl
 | _=>exact absurd (show false=true from f) Bool.false_ne_true
theorem Qk {x:V}: ∀ {xs:List V}{us:List Value},Vals xs us->xs.all flatV=true->us.any (eqU x)=xs.any fun y=>eqV y x
 | _,_,.nil,_=>rfl
 | y::xs,u::us,.cons r t,f=>by
  rw [List.all_cons,Bool.and_eq_true]at f
  rw [List.any_cons,List.any_cons,Q4 r f.1,Qk t f.2]
theorem xg {A:Around}{s:Shared}{x:V}{v:Value}(rx:RelV x v) (fx:flatV x=true): ∀ {xs:List V}{us:List Value},Vals xs us->xs.all flatV=true-> ∀u∈us,SeqAt.EqAt A s u v (eqU x u)
 | _,_,.nil,_=>fun u hu=>by cases hu
 | y::xs,u::us,.cons r t,f=>fun u' hu=>by
  rw [List.all_cons,Bool.and_eq_true]at f
  rcases List.mem_cons.mp hu with rfl | hu
  ·rw [Q4 r f.1];exact zav r rx f.1 fx
  ·exact xg rx fx t f.2 u' hu
def inV (x:V) (xs:List V):Bool:=xs.any fun y=>eqV y x
def rIn (K:PySem.W.Frag) (neg:Bool):R2:=fun x y H Q=> ∃p xs,y= .ref p/\(SqL K H p xs\/SqT K H p xs)/\flatV x=true/\xs.all flatV=true/\Q (.bl (if neg then !inV x xs else inV x xs)) H
theorem WJ:OpR X (compareOp .In) (rIn X.K false):=by
 intro pins s σ H x y v u Q I rx ry h
 obtain⟨p,xs,rfl,hq,fx,fs,q⟩:=h
 cases ry
 rcases hq with hq | hq
 ·obtain⟨its,r,pl,hz⟩:=I.list hq
  refine SeqAt.in_listAt (eqU x) pl.isList (fun w hw=>xg rx fx r fs w (by simpa using hw)) ⟨.bl _,H,I,rfl,?_⟩
  rw [show its.toArray.any (eqU x)=its.any (eqU x)by simp,Qk r fs]
  exact q
 ·obtain⟨its,r,pl,hz⟩:=I.tuple hq
  refine SeqAt.in_tupleAt (eqU x) pl (fun w hw=>xg rx fx r fs w (by simpa using hw)) ⟨.bl _,H,I,rfl,?_⟩
  rw [show its.toArray.any (eqU x)=its.any (eqU x)by simp,Qk r fs]
  exact q
theorem Jr:OpR X (compareOp .NotIn) (rIn X.K true):=by
 intro pins s σ H x y v u Q I rx ry h
 obtain⟨p,xs,rfl,hq,fx,fs,q⟩:=h
 cases ry
 rcases hq with hq | hq
 ·obtain⟨its,r,pl,hz⟩:=I.list hq
  refine SeqAt.notIn_listAt (eqU x) pl.isList (fun w hw=>xg rx fx r fs w (by simpa using hw)) ⟨.bl _,H,I,rfl,?_⟩
  rw [show its.toArray.any (eqU x)=its.any (eqU x)by simp,Qk r fs]
  exact q
 ·obtain⟨its,r,pl,hz⟩:=I.tuple hq
  refine SeqAt.notIn_tupleAt (eqU x) pl (fun w hw=>xg rx fx r fs w (by simpa using hw)) ⟨.bl _,H,I,rfl,?_⟩
  rw [show its.toArray.any (eqU x)=its.any (eqU x)by simp,Qk r fs]
  exact q
theorem xx:OpR X (compareOp .NotIn) (fun x y H Q=> ∃i j,x= .str i/\y= .str j/\Q (.bl (!(!(Builtin.Str.occurrences j i 0 j.length 1).isEmpty))) H):=by
 intro pins s σ H x y v u Q I rx ry h
 obtain⟨i,j,rfl,rfl,q⟩:=h
 obtain⟨t,rfl⟩:=rx
 obtain⟨t',rfl⟩:=ry
 exact notIn_str ⟨.bl _,H,I,rfl,q⟩
theorem ju:CallR X (.builtin "len") (fun xs H Q=> ∃p ys,xs= [.ref p]/\(SqL X.K H p ys\/SqT X.K H p ys)/\Q (.int ys.length) H):=by
 intro pins s σ H xs us Q I r h
 obtain⟨p,ys,rfl,hq,q⟩:=h
 obtain⟨u,rfl,rx⟩:=xi r
 cases rx
 have hn:=jl
 rcases hq with hq | hq
 ·obtain⟨its,r',pl,hz⟩:=I.list hq
  have hlen:=r'.length
  exact Calls.call_len_list pl.isList (by simp only [List.size_toArray]<;>omega) ⟨.int ys.length,H,I.tok _,⟨s.toks+1,by rw [List.size_toArray,hlen]⟩,q⟩
 ·obtain⟨its,r',pl,hz⟩:=I.tuple hq
  have hlen:=r'.length
  exact len_tuple pl (by simp only [List.size_toArray]<;>omega) ⟨.int ys.length,H,I.tok _,⟨s.toks+1,by rw [List.size_toArray,hlen]⟩,q⟩
theorem Xv:CallR X (.builtin "len") (fun xs H Q=> ∃z,xs= [.str z]/\z.length<=sizeLine/\Q (.int z.length) H):=by
 intro pins s σ H xs us Q I r h
 obtain⟨z,rfl,hz,q⟩:=h
 obtain⟨u,rfl,t,rfl⟩:=xi r
 have hn:=jl
 exact len_str (by omega) ⟨.int z.length,H,I.tok _,⟨_,rfl⟩,q⟩
theorem zt:CallR X (.type "list") (fun xs H Q=> ∃p ys,xs= [.ref p]/\(SqL X.K H p ys\/SqT X.K H p ys)/\ ∀l,H l=none->Q (.ref l) (upd H l (.lst ys))):=by
 intro pins s σ H xs us Q I r h
 obtain⟨p,ys,rfl,hq,q⟩:=h
 obtain⟨u,rfl,rx⟩:=xi r
 cases rx
 have fin: ∀(its:List Value),Vals ys its->ys.length<=sizeLine-> ∀(h':Heap) (c':Nat),(∀ b o',s.heap.get? b=some o'->h'.get? b=some o') →
  h'.get? s.heap.objs.size=some { cls:= .type "list",dict:=none,data:= .seq its.toArray c',slots:= #[] }->EP X pins σ Q (.ref s.heap.objs.size) { s with heap:=h' }:=fun its r' hz h' c' kp e=>
  ⟨.ref s.heap.objs.size,_,I.laid (t':=s.toks) kp (Nat.le_refl _) (show ObjOk X.prog X.w _ h' _ (.lst ys)from⟨hz,its,c',r',e⟩),rfl,q _ (I.hok.fresh (Nat.le_refl _))⟩
 rcases hq with hq | hq
 ·obtain⟨its,r',pl,hz⟩:=I.list hq
  have hlen:=r'.length
  obtain⟨o,ho,hc,n,hd⟩:=pl.isList
  exact call_list_seq p (.inl rfl) ho hc hd (fun h' c' kp e=>fin its r' hz h' c' kp e) (by simp only [List.size_toArray]<;>omega)
 ·obtain⟨its,r',pl,hz⟩:=I.tuple hq
  have hlen:=r'.length
  obtain⟨o,ho,hc,n,hd⟩:=pl
  exact call_list_seq p (.inr rfl) ho hc hd (fun h' c' kp e=>fin its r' hz h' c' kp e) (by simp only [List.size_toArray]<;>omega)
theorem jc:CallR X (.type "tuple") (fun xs H Q=> ∃p ys,xs= [.ref p]/\((SqL X.K H p ys/\ ∀l,H l=none->Q (.ref l) (upd H l (.tup ys)))\/(SqT X.K H p ys/\Q (.ref p) H))):=by
 intro pins s σ H xs us Q I r h
 obtain⟨p,ys,rfl,h⟩:=h
 obtain⟨u,rfl,rx⟩:=xi r
 cases rx
 rcases h with⟨hq,q⟩ | ⟨hq,q⟩
 ·obtain⟨its,r',pl,hz⟩:=I.list hq
  have hlen:=r'.length
  refine call_tuple_list pl.isList (fun h' kp=> ?_) (by simp only [List.size_toArray]<;>omega)
  have I1:Inv X pins σ H { s with heap:=h' }:=I.kept (t':=s.toks) kp
  have I2:Inv X pins σ (upd H h'.objs.size (.tup ys)) { s with heap:=h'.push { cls:= .type "tuple",data:= .seq its.toArray } }:=
   I1.laid (t':=s.toks) (fun b o e=>Heap.get?_push_of_some _ e) (Nat.le_refl _) (show ObjOk X.prog X.w _ _ _ (.tup ys)from⟨hz,its,r',PTup.new _ _⟩)
  exact⟨.ref h'.objs.size,_,I2,rfl,q _ (I1.hok.fresh (Nat.le_refl _))⟩
 ·obtain⟨its,r',pl,hz⟩:=I.tuple hq
  exact call_tuple_same pl ⟨.ref p,H,I,rfl,q⟩
def tyV (K:PySem.W.Frag) (T:String) (x:V) (H:Hp):Prop:=match x with
 | .str _=>T= "str"
 | .int _=>T= "int"
 | .ref p=>(T= "list" /\ ∃xs,SqL K H p xs)\/(T= "tuple" /\ ∃o,K.lookup p=some o/\o.cls= .type "tuple" /\o.dict=none) ∨
  (T= "dict" /\((∃ kvs,H p=some (.dK kvs))\/ ∃kvs,H p=some (.dT kvs)))\/(T= "set" /\ ∃S n,H p=some (.set S n))
 | _=>False
theorem zaD {pins:List (Addr×Obj)}{σ:St}{H:Hp}{s:Shared}{T:String}{x:V}{v:Value}(I:Inv X pins σ H s) (r:RelV x v) (ty:tyV X.K T x H):
 s.TypeIs v T/\ ∀a,v= .ref a-> ∃ob,s.heap.get? a=some ob/\ob.dict=none:=by
 cases x with
 | str z=>
  obtain⟨t,rfl⟩:=r
  cases (show T= "str" from ty)
  exact⟨typeIs_str s z t,fun _ e=>nomatch e⟩
 | int i=>
  obtain⟨t,rfl⟩:=r
  cases (show T= "int" from ty)
  exact⟨typeIs_int s i t,fun _ e=>nomatch e⟩
 | ref p=>
  cases r
  rcases ty with⟨rfl,xs,hq⟩ | ⟨rfl,o,hk,hc,hd⟩ | ⟨rfl,hk⟩ | ⟨rfl,S,n,hk⟩
  ·obtain⟨its,_,pl,_⟩:=I.list hq
   refine⟨pl.isList.typeIs,fun a e=> ?_⟩
   cases e
   obtain⟨o,n,e,c,hd,_⟩:=pl
   exact⟨o,e,hd⟩
  ·refine⟨⟨o,I.kIn p o hk,hc⟩,fun a e=> ?_⟩
   cases e
   exact⟨o,I.kIn _ o hk,hd⟩
  ·have z: ∃o,s.heap.get? p=some o/\o.ExactDict:=by
    rcases hk with⟨kvs,hk⟩ | ⟨kvs,hk⟩
    ·obtain⟨_,_,_,_,o,_,_,e,ex,_⟩:=I.hok p _ hk
     exact⟨o,e,ex⟩
    ·obtain⟨_,_,_,_,o,_,_,e,ex,_⟩:=I.hok p _ hk
     exact⟨o,e,ex⟩
   obtain⟨o,e,ex⟩:=z
   refine⟨⟨o,e,ex.1⟩,fun a e2=> ?_⟩
   cases e2
   exact⟨o,e,ex.2.1⟩
  ·obtain⟨o,_,_,_,e,ex,_⟩:=I.hok p _ hk
   refine⟨⟨o,e,ex.1⟩,fun a e2=> ?_⟩
   cases e2
   exact⟨o,e,ex.2.1⟩
 | _=>exact False.elim ty
def tBM0 (K:PySem.W.Frag) (T:String) (r:V->List V->Hp->VK->Prop) (to:TE):TE:=fun σ H Q=>to σ H fun x H1=>tyV K T x H1/\r x [] H1 Q
def tBM (K:PySem.W.Frag) (T:String) (r:V->List V->Hp->VK->Prop) (to:TE) (t:TA):TE:=fun σ H Q=>to σ H fun x H1=>tyV K T x H1/\t σ H1 fun xs H2=>r x xs H2 Q
variable {o e:Expr}{es:List Expr}{to:TE}{t:TA}{name:Str}{apos cpos:Pos}{T id:String}{r:V->List V->Hp->VK->Prop}
theorem jaa (pa:PlainAttrs T) (slot:Slot T name id) (hty:typeOf (.builtin id)=pure (.type "method_descriptor")) (hm:MtR X id r) (ho:PE X o to) (ha:PA X (e::es) t)
 (hbase:attributeBase o name X.env (eval o X.env)=eval o X.env:=by rfl)
 (hfew:((backTo cpos (starEach (e::es) X.env)).all (fun x=> !x.1)&&(backToKw cpos (keywordEach [] X.env)).all (fun x=>x.1.isSome)
   &&decide ((e::es).length+([]:List Keyword).length+(if ([]:List Keyword).isEmpty then 0 else 1)<30))=true:=by rfl)
 (hline:(apos.endLine==cpos.line)=true:=by rfl) (hs:starEach (e::es) X.env=(false,eval e X.env)::starEach es X.env:=by rfl) (hplain:(backTo cpos (starEach es X.env)).any (·.1)=false:=by rfl):
 PE X (.Call (.Attribute o name apos) (e::es) [] cpos) (tBM X.K T r to t):=by
 intro pins s σ H Q I h
 refine wpAny_Call_method_late hbase hfew hline rfl (thn (ho pins s σ H _ I h) fun v s1 ⟨x,H1,I1,r1,ty,q1⟩=> ?_)
 obtain⟨h1,h2⟩:=zaD I1 r1 ty
 refine⟨T,id,pa,slot,hty,h1,h2,?_⟩
 have hA:=ha cpos pins s1 σ H1 _ I1 q1
 rw [hs]at hA ⊢
 refine Calls.callWith_builtin (by show(false||(backTo cpos (starEach es X.env)).any (·.1))=false;rw [hplain]<;>rfl) (Calls.evalArgs_plain ?_)
 exact thn hA fun us s2 ⟨vs,H2,I2,r2,q2⟩=>hm pins s2 σ H2 x vs v us Q I2 r1 r2 q2
/- xs.append(e),list.index on a module's tuple .. are MtR facts of 06m -/
end
end L2
namespace L2
open PySem PySem.Spec PyProof.Rows
def MtM (X:Cx) (id:String) (r:V->List V->Hp->VK->Prop):Prop:=
 ∀(pins:List (Addr×Obj)) (s:Shared) (σ:St) (H:Hp) (x:V) (xs:List V) (v:Value) (us:List Value) (Q:VK),Inv X pins σ H s->RelV x v->Vals xs us->r x xs H Q →
  wpAny (model X.prog X.w) X.A (call (.builtin id) (v::us)) (EP X pins σ Q) X.xe s
theorem Vals.one: ∀ {x:V}{us:List Value},Vals [x] us-> ∃u,us= [u]/\RelV x u
 | _,_,.cons r .nil=>⟨_,rfl,r⟩
theorem Vals.eraseIdx: ∀ {xs:List V}{us:List Value}(i:Nat),Vals xs us->Vals (xs.eraseIdx i) (us.eraseIdx i)
 | _,_,_,.nil=> .nil
 | _,_,0,.cons _ t=>t
 | _,_,i+1,.cons r t=> .cons r (Vals.eraseIdx i t)
theorem Vals.rep {xs:List V}{us:List Value}(h:Vals xs us): ∀k:Nat,Vals (List.replicate k xs).flatten (List.replicate k us).flatten
 | 0=> .nil
 | k+1=>by
  rw [List.replicate_succ,List.replicate_succ,List.flatten_cons,List.flatten_cons]
  exact Vals.append h (Vals.rep h k)
theorem xv (its:List Value): ∀(k:Nat) (acc:List Value),
 List.foldl (fun x1 x2=>x1++x2) acc.toArray (List.replicate k its.toArray)=(acc++(List.replicate k its).flatten).toArray
 | 0,acc=>by simp
 | k+1,acc=>by
  have e:acc.toArray++its.toArray=(acc++its).toArray:=by simp
  have e2:(acc++its)++(List.replicate k its).flatten=acc++(List.replicate (k+1) its).flatten:=by
   rw [List.replicate_succ,List.flatten_cons,List.append_assoc]
  rw [← e2,←xv its k (acc++its),←e,List.replicate_succ,List.foldl_cons]
section
variable {X:Cx}{pins:List (Addr×Obj)}{σ:St}{H:Hp}{s:Shared}{l b:Addr}{xs ys zs:List V}
theorem Inv.lset {its its':List Value}{n:Nat}{f:Array Value->Array Value}{t':Nat}(I:Inv X pins σ H s) (hH:H l=some (.lst xs))
 (e:s.heap.get? l=some { cls:= .type "list",data:= .seq its.toArray n }) (hf:f its.toArray=its'.toArray) (hv:Vals ys its') (hz:ys.length<=sizeLine):
 Inv X pins σ (upd H l (.lst ys)) { s with heap:=s.heap.update l (Obj.mapSeq f),toks:=t' }:=by
 have q:=PySem.IsL.update e f
 rw [hf]at q
 refine I.write (x:=l) (e:=l) (by rw [hH];exact trivial) (.inl rfl) (fun b' u hb hu=>(Heap.get?_update_other s.heap (Obj.mapSeq f) (Ne.symm hb)).trans hu) ⟨_,q⟩ ?_
 exact⟨hz,its',_,hv,q⟩
theorem Inv.lnew {its:List Value}{t':Nat}(I:Inv X pins σ H s) (hv:Vals ys its) (hz:ys.length<=sizeLine):
 Inv X pins σ (upd H s.heap.objs.size (.lst ys)) { s with heap:=s.heap.push { cls:= .type "list",data:= .seq its.toArray },toks:=t' }:=
 I.laid (fun _ _ q=>Heap.get?_push_of_some _ q) (Nat.le_refl _) ⟨hz,its,0,hv,Heap.get?_push_size _ rfl⟩
theorem Inv.fresh (I:Inv X pins σ H s):H s.heap.objs.size=none:=I.hok.fresh (Nat.le_refl _)
theorem Inv.lstM (I:Inv X pins σ H s) (hH:H l=some (.lst xs)):xs.length<=sizeLine/\ ∃(its:List Value) (n:Nat),Vals xs its/\xs.length=its.length/\s.heap.get? l=some { cls:= .type "list",data:= .seq its.toArray n }:=by
 obtain⟨z,its,n,r,e⟩:=I.hok l _ hH
 exact⟨z,its,n,r,r.length,e⟩
theorem ZB {n:Nat}(h:n<=sizeLine):Builtin.List.listTooLong n=false:=by
 unfold Builtin.List.listTooLong
 exact decide_eq_false (by omega)
end
section
variable {X:Cx}
def rAppend:V->List V->Hp->VK->Prop:=fun x vs H Q=> ∃l xs y,x= .ref l/\vs= [y]/\H l=some (.lst xs)/\xs.length<sizeLine/\Q .non (upd H l (.lst (xs++ [y])))
theorem zM:MtM X "list.append" rAppend:=by
 intro pins s σ H x vs v us Q I rx rv h
 obtain⟨l,xs,y,rfl,rfl,hH,hz,q⟩:=h
 cases rx
 obtain⟨u,rfl,ru⟩:=rv.one
 obtain⟨z,its,n,r,hl,e⟩:=I.lstM hH
 refine call_meets F.slot_list_append ⟨_,e,rfl⟩ F.entry_list_append (F.args_list_append_2 _ _) (PySem.list_append l its.toArray n u (by rw [List.size_toArray];omega)) ⟨e,?_⟩
 refine⟨.non,_,I.lset (its':=its++ [u]) hH e (by simp) (r.append (.cons ru .nil)) ?_,rfl,q⟩
 rw [List.length_append,List.length_singleton]
 omega
def rExtend:V->List V->Hp->VK->Prop:=fun x vs H Q=> ∃l b xs zs,x= .ref l/\vs= [.ref b]/\H l=some (.lst xs)/\H b=some (.lst zs)/\xs.length+zs.length<=sizeLine/\Q .non (upd H l (.lst (xs++zs)))
theorem qL:MtM X "list.extend" rExtend:=by
 intro pins s σ H x vs v us Q I rx rv h
 obtain⟨l,b,xs,zs,rfl,rfl,hH,hB,hz,q⟩:=h
 cases rx
 obtain⟨u,rfl,ru⟩:=rv.one
 cases ru
 obtain⟨z,its,n,r,hl,e⟩:=I.lstM hH
 obtain⟨z2,its2,n2,r2,hl2,e2⟩:=I.lstM hB
 have hsz:its.toArray.size+its2.toArray.size<=sizeLine:=by rw [List.size_toArray,List.size_toArray];omega
 have hlong: ¬(!its.toArray.isEmpty&&Builtin.List.listTooLong (its.toArray.size+its2.toArray.size))=true:=by
  rw [ZB hsz,Bool.and_false]
  exact Bool.false_ne_true
 refine call_meets F.slot_list_extend ⟨_,e,rfl⟩ F.entry_list_extend (F.args_list_extend_2 _ _)
  (AutoSeq1.list_extend_list_list_0 l its.toArray n b its2.toArray n2 hlong (by rw [List.size_toArray];omega) (by omega)) ⟨e,e2,?_⟩
 refine⟨.non,_,I.lset (its':=its++its2) hH e (by simp) (r.append r2) ?_,rfl,q⟩
 rw [List.length_append]
 omega
def rPop:V->List V->Hp->VK->Prop:=fun x vs H Q=> ∃l xs y,x= .ref l/\vs= []/\H l=some (.lst xs)/\xs[xs.length-1]? =some y/\Q y (upd H l (.lst xs.dropLast))
def rPopAt:V->List V->Hp->VK->Prop:=fun x vs H Q=> ∃l xs i k y,x= .ref l/\vs= [.int i]/\H l=some (.lst xs)/\ -(2 ^ 63)<=i/\i<2 ^ 63/\seqIndex? i xs.length=some k/\xs[k]? =some y/\Q y (upd H l (.lst (xs.eraseIdx k)))
def rReverse:V->List V->Hp->VK->Prop:=fun x vs H Q=> ∃l xs,x= .ref l/\vs= []/\H l=some (.lst xs)/\Q .non (upd H l (.lst xs.reverse))
def rClear:V->List V->Hp->VK->Prop:=fun x vs H Q=> ∃l xs,x= .ref l/\vs= []/\H l=some (.lst xs)/\Q .non (upd H l (.lst []))
def rCat:R2:=fun x y H Q=> ∃l b xs zs,x= .ref l/\y= .ref b/\H l=some (.lst xs)/\H b=some (.lst zs)/\xs.length+zs.length<=sizeLine/\ ∀p,H p=none->Q (.ref p) (upd H p (.lst (xs++zs)))
def rRep:R2:=fun x y H Q=> ∃l k xs,x= .ref l/\y= .int k/\H l=some (.lst xs)/\ -(2 ^ 63)<=k/\k<2 ^ 63/\xs.length*k.toNat<=sizeLine ∧
 ∀p,H p=none->Q (.ref p) (upd H p (.lst (List.replicate k.toNat xs).flatten))
theorem qai {α:Type}(xs:List α) (k:Nat):(List.replicate k xs).flatten.length=k*xs.length:=by
 induction k with
 | zero=>simp
 | succ k ih=>rw [List.replicate_succ,List.flatten_cons,List.length_append,ih,Nat.succ_mul,Nat.add_comm]
end
section
variable {prog:Program}{w:World}{A:Around}{E:Value->Shared->Prop}{s:Shared}
set_option maxRecDepth 100000 in
end
section
variable {X:Cx}
end
end L2
namespace Att
open PySem PySem.W PySem.Calls PyProof.Rows
theorem zm {P:Params}{h:Heap}: ∀(ns:List Int) (vs:List Value),WellAll P h vs (ns.map WData.int)->IntsAre vs ns:=by
 intro ns
 induction ns with
 | nil=>
  intro vs w
  rw [List.map_nil]at w
  cases w
  exact .nil
 | cons n ns ih=>
  intro vs w
  rw [List.map_cons]at w
  cases w with
  | cons a b=>
   cases a
   exact .cons _ _ (ih _ b)
theorem qP {l:OpenLaw}{n:Nat}(hn:l.most=some n){P:Params}{h:Heap}{args:List WData}{vals:List Value}
 (hpre:l.row.toRowW.claim.pre args=true) (hwl:WellAll P h vals args):
 ∃a vs ns,vals= [Value.ref a]/\args= [WData.list (ns.map WData.int)]/\h.get? a=some { cls:= .type "list",data:= .seq vs.toArray }/\IntsAre vs ns/\ns.length<=n:=by
 have hsh:WShape.hasAll [] args [.list .int]=true:=(pre_splitW hpre).1
 have hc:l.pre.holds [] { args:=args }=true:=(pre_splitW hpre).2
 obtain⟨d,r,rfl,h1,h2⟩:=hasAllW_cons hsh
 obtain rfl:=hasAllW_nil h2
 obtain⟨xs,rfl,h3⟩:=hasW_list h1
 obtain⟨ns,rfl⟩:=items_int h3
 have hlen:ns.length<=n:=by
  unfold OpenLaw.pre at hc
  have h4:(WTm.not (.lt (.lit (.int (n:Int))) (.len (.arg 0)))).holds [] { args:= [.list (ns.map .int)] }=true:=by
   have h4:=(holds_andW hc).1
   rw [hn]at h4
   exact h4
  have h5:=condW_of h4 (w_not (w_lt w_lit (w_len_list (w_arg rfl))))
  rw [List.length_map]at h5
  refine Nat.le_of_not_lt fun q=> ?_
  have q':(n:Int)<((ns.length:Nat):Int):=by omega
  first
   | (rw [decide_eq_true q']at h5;exact absurd h5 (by decide))
   | (simp at h5;omega)
 cases hwl with
 | cons w1 w2=>
  cases w2
  cases w1 with
  | list ho hall=>exact⟨_,_,ns,rfl,rfl,ho,zm ns _ hall,hlen⟩
theorem jO (l:OpenLaw) (args:List WData):l.row.toRowW.claim.post args (.bool true) args=true:=
 postW_of (r:=l.row.toRowW) (X:=(true==true))
  (show WShape.has [] (.bool true) .bool=true by first | rfl | decide | simp [WShape.has,WShape.arms,WShape.armsAll])
  (show (WTm.eq .res (.lit (.bool true))).value [] { args:=args,res:=some (.bool true),after:=args }=some (.bool (true==true))from w_eq_bool (w_res rfl) w_lit) rfl
theorem attach_call {l:OpenLaw}{n:Nat}{q:Program}{loose:List Str}{XP:(Str->Option Value)->Heap->Prop}{YP:World->Heap->Prop}{d:DefRec}
 (hn:l.most=some n) (hdf:d.params.defaults= [])
 (call: ∀(w:World) (s₀ s₁:Shared) (mg mb:Str->Option Value) (fa:Addr) (o:Obj) (pm cd doc:Value) (a:Addr) (vs:List Value) (ns:List Int),
   Ground q loose [] XP w s₀ mg mb s₁.heap->YP w s₁.heap →
   s₁.heap.get? fa=some o->o.data= .func (docDef d.name d.params d.body d.scope pm cd doc)->s₁.heap.CodeRec cd d.name->mg d.name=some (.ref fa) →
   s₁.heap.get? a=some { cls:= .type "list",data:= .seq vs.toArray }->IntsAre vs ns->ns.length<=n->s₁.gens= #[] →
   codeAny (model l.prog w) callerA (.call (.ref fa) ⟨[.ref a],[]⟩) (fun r s'=>r= .ok (.ret (.bool true))/\OldK s₁.heap s'.heap/\s'.os=s₁.os/\AllBare s'.gens) s₁):
 WalkO q loose XP YP l.row.toRowW d [] (fun f vs=>PySem.call f vs):=by
 intro w s₀ s₁ mg mb G Y fa o pm cd doc dV kV ho hd hcd hD hmg hg args vals as hpre hlay hrd hwl hlo
 obtain rfl:dV= .none:=Dflts.none hD hdf
 obtain rfl:kV= .none:=Dflts.noKw hD
 obtain⟨a,vs,ns,rfl,rfl,hobj,hints,hlen⟩:=qP hn hpre hwl
 refine enter_call (codeAny_mono (call w s₀ s₁ mg mb fa o pm cd doc a vs ns G Y ho (fd_plain hd) hcd hmg hobj hints hlen hg) fun r s' hq=> ?_)
 obtain⟨rfl,h2,h3,h4⟩:=hq
 exact⟨.inl ⟨.bool true,.bool true,[],rfl,fun _=>rfl,.bool true,jO l _,fun _=>⟨List.Pairwise.nil,fun _ hm=>(nomatch hm)⟩⟩,h2,h3,h4⟩
section
variable {prog:Program}{w:World}{A:Around}{E:Value->Shared->Prop}{s:Shared}{K:Frag}
def noObjs (h:Heap):Heap:= { h with objs:= #[] }
def ledger (h:Heap) (L d:Addr):List (Addr×Obj):=(List.range h.objs.size).filterMap fun a=>if a=L\/a=d then none else(h.get? a).map fun o=>(a,o)
end
end Att
namespace L2
open PySem PySem.Spec PyProof.Rows
theorem qv: ∀ {vs:List Value}{ns:List Int},IntsAre vs ns->Vals (ns.map V.int) vs
 | _,_,.nil=> .nil
 | _,_,.cons n t h=> .cons ⟨t,rfl⟩ (qv h)
def Only (H:Hp):Prop:= ∀b,H b=none\/ ∃o xs,H b=some (.frz o (.lst xs))
theorem ZX {P:Program}{w:World}{K:PySem.W.Frag}{mg mb:Str->Option Value}{CX:CXT}{k:Nat}{fa a:Addr}{fd:FuncData}{x:Str}{sp:Sp}{s₁:Shared}{vs:List Value}{ns:List Int}
 (KX:K.In s₁.heap) (hns:s₁.heap.Ns mainGlobals mg) (hb:s₁.heap.Ns builtinsNs mb) (hbb: ∀x:Str,x≠ "__name__" ->mb x=bootBuiltins x) (hlim:s₁.heap.NoLimit) (hg:s₁.gens= #[])
 (ha:s₁.heap.get? a=some { cls:= .type "list",data:= .seq vs.toArray }) (hi:IntsAre vs ns) (hl:ns.length<=sizeLine) (hr:Room k callerA)
 (F: ∀base:Heap,K.In base->base.Ns mainGlobals mg->FnOk P w K mg base CX k fa fd [x] sp) (hbind: ∀(s:Shared) (u:Value),BindsTo s fd ⟨[u],[]⟩ [(x,u)])
 (hsp: ∀H:Hp,Only H->SqL K H a (ns.map V.int)->sp [.ref a] H (fun v _=>v= .bl true) fun _ _ _=>False)
 (hCX: ∀H e s',CX [] H s₁ (fun _ _ _=>False) e s'->False):
 codeAny (model P w) callerA (.call (.ref fa) ⟨[.ref a],[]⟩) (fun r s'=>r= .ok (.ret (.bool true))/\OldK s₁.heap s'.heap/\s'.os=s₁.os/\AllBare s'.gens) s₁:=by
 have rv:=qv hi
 have lenV:=hi.length
 have core: ∀H:Hp,Only H->SqL K H a (ns.map V.int)->HOk P w H s₁.heap->(∀ b,H b≠none->b=a)->(H a≠none->K.lookup a=none) →
  codeAny (model P w) callerA (.call (.ref fa) ⟨[.ref a],[]⟩) (fun r s'=>r= .ok (.ret (.bool true))/\OldK s₁.heap s'.heap/\s'.os=s₁.os/\AllBare s'.gens) s₁:=by
  intro H hO hS hok hA hK
  have base_of: ∀ {b:Addr}{o:Obj},s₁.heap.get? b=some o->H b=none->(hidT s₁.heap H).get? b=some o:=fun e n=>X2 e n
  have noA: ∀ {b:Addr}{o:Obj}{es:Array DictEntry}{ep:Nat},s₁.heap.get? b=some o->o.data= .dict es ep->H b=none:=fun {b o es ep} e d=>by
   cases q:H b with
   | none=>rfl
   | some u=>
    have e':b=a:=hA b (by rw [q];simp)
    subst e'
    rw [ha]at e;cases e
    have d':Data.seq vs.toArray _=Data.dict es ep:=d
    cases d'
  have nsK: ∀ {b:Addr}{m:Str->Option Value},s₁.heap.Ns b m->(hidT s₁.heap H).Ns b m:=fun {b m} ⟨o,es,ep,e,d,r⟩=>⟨o,es,ep,base_of e (noA e d),d,r⟩
  have hKb:K.In (hidT s₁.heap H):=fun b o e=>base_of (KX b o e) (by
   cases q:H b with
   | none=>rfl
   | some u=>
    have e':b=a:=hA b (by rw [q];simp)
    subst e'
    rw [hK (by rw [q];simp)]at e;cases e)
  have hM:Mod K mg (hidT s₁.heap H):=⟨hKb,nsK hns,⟨mb,nsK hb,hbb⟩,let ⟨mc,h1,h2⟩:=hlim; ⟨mc,nsK h1,h2⟩⟩
  have e0:Env0 P w K mg (hidT s₁.heap H) callerA [] s₁ H:=⟨rfl,hM,fun b o e=>jah e,Nat.le_of_eq (xK _ _),trivial,fun b hb=>absurd (show b∈([]:List Addr)from hb) (by simp),hok,.of_eq hg⟩
  refine codeAny_mono ((F _ hKb (nsK hns)).run callerA [] s₁ H ⟨[.ref a],[]⟩ [.ref a] [.ref a] _ _ hr e0 (hbind s₁ (.ref a)) (.cons rfl .nil) (hsp H hO hS)) fun r s' h=> ?_
  cases r with
  | error e=>exact(hCX H e s' h).elim
  | ok fl=>
   cases fl with
   | next=>exact False.elim h
   | brk=>exact False.elim h
   | cont=>exact False.elim h
   | ret u=>
    obtain⟨v,H',os,bare,un,hok',r',q⟩:=h
    have q':v= .bl true:=q
    subst q'
    obtain rfl:u=Value.bool true:=r'
    refine⟨rfl,OldK.of_keep fun b o e=> ?_,os,bare⟩
    cases q:H b with
    | none=>exact un.keep b o e q (by intro z;exact absurd (show b∈([]:List Addr)from z) (by simp)) (by simp)
    | some u=>
     rcases hO b with z | ⟨ob,xs,z⟩
     ·rw [q]at z;cases z
     ·have z2:=un.frzs b ob _ z
      obtain⟨e1,_⟩:=hok b _ z
      obtain⟨e2,_⟩:=hok' b _ z2
      rw [e]at e1;cases e1
      exact e2
 cases hk:K.lookup a with
 | some o=>
  have e:=KX a o hk
  rw [ha]at e
  cases e
  refine core (fun _=>none) (fun _=> .inl rfl) (.inr ⟨_,vs.toArray,_,hk,rfl,rfl,rfl,by rw [List.size_toArray,lenV];exact hl,by simpa using rv⟩) (fun b u z=>by have z':(none:Option HO)=some u:=z;cases z') (fun b z=>absurd rfl z) fun z=>absurd rfl z
 | none=>
  refine core (fun b=>if b=a then some (.frz { cls:= .type "list",data:= .seq vs.toArray } (.lst (ns.map V.int)))else none) (fun b=> ?_) (.inl (.inr ⟨{ cls:= .type "list",data:= .seq vs.toArray },if_pos rfl⟩)) (fun b u z=> ?_) (fun b z=> ?_) fun _=>hk
  ·by_cases hb:b=a
   ·exact .inr ⟨_,_,if_pos hb⟩
   ·exact .inl (if_neg hb)
  ·by_cases hb:b=a
   ·have z':=(if_pos hb).symm.trans z
    cases z'
    subst hb
    exact⟨ha,by rw [List.length_map];exact hl,vs,_,rv,ha⟩
   ·have z':=(if_neg hb).symm.trans z
    cases z'
  ·by_cases hb:b=a
   ·exact hb
   ·exact absurd (if_neg hb) z
end L2
namespace L2
open PySem PySem.Spec PyProof.Rows
abbrev KOf {K:PySem.W.Frag}{h:Heap}(_:K.In h):PySem.W.Frag:=K
theorem walk_of {l:PySem.W.OpenLaw}{n k:Nat}{q:Program}{loose:List Str}{XP:(Str->Option Value)->Heap->Prop}{YP:World->Heap->Prop}{d:DefRec}{K:Params->PySem.W.Frag}{CX:World->CXT}{sp:World->Sp}{x:Str}
 (hn:l.most=some n) (hn2:n<=sizeLine) (hdf:d.params.defaults= []) (hr:Room k callerA)
 (hY: ∀(w:World) (h:Heap),YP w h->(K w.params).In h)
 (F: ∀(w:World) (mg:Str->Option Value) (fa:Addr) (h:Heap),(K w.params).In h->h.Ns mainGlobals mg->mg d.name=some (.ref fa) →
   ∃fd:FuncData,(∀ (s:Shared) (u:Value),BindsTo s fd ⟨[u],[]⟩ [(x,u)]) ∧
    ∀base:Heap,(K w.params).In base->base.Ns mainGlobals mg->FnOk l.prog w (K w.params) mg base (CX w) k fa fd [x] (sp w))
 (hsp: ∀(w:World) (H:Hp) (a:Addr) (ns:List Int),ns.length<=n->Only H->SqL (K w.params) H a (ns.map V.int)->sp w [.ref a] H (fun v _=>v= .bl true) fun _ _ _=>False)
 (hCX: ∀(w:World) (H:Hp) (s:Shared) (e:Value) (s':Shared),CX w [] H s (fun _ _ _=>False) e s'->False):
 PySem.W.WalkO q loose XP YP l.row.toRowW d [] (fun f vs=>PySem.call f vs):=by
 refine Att.attach_call hn hdf fun w s₀ s₁ mg mb fa o pm cd doc a vs ns G Y ho hd hcd hmg hobj hints hlen hg=> ?_
 have KX:=hY w _ Y
 obtain⟨fd,hb,hF⟩:=F w mg fa _ KX G.T.g hmg
 exact ZX KX G.T.g G.T.b G.T.builtins G.T.nolimit hg hobj hints (Nat.le_trans hlen hn2) hr hF hb (fun H hO hS=>hsp w H a ns hlen hO hS) fun H e s'=>hCX w H s₁ e s'
end L2
/- THE LAST THEOREM (shape;LID,My.* are yours):
 My.Adr: a structure of the addresses that your layer names (classes,functions);My.Txt K t: a structure (Prop) of the equations over K;
 My.txt_mk: {K}{implicit addresses ..}(e1:nsIn K mainGlobals "law" =some (some (.ref f))) (e2:K.lookup f=some ⟨oc,od,.func (fnOf "law" "law" params body scope dV kV doc pm an cdv ct),sl⟩) (e3:codeIn K cdv "law" =true) .. : ∃t,My.Txt K t
set_option maxRecDepth 100000 in
set_option maxHeartbeats 0 in
theorem PySem.Challenge.cw_LID_holds : PySem.Challenge.rw_LID.Holds := by
 w_on;o_law;k_head;(case hw=>w_witness2)
 k_fill
 refine L2.walk_of (l:=PySem.Challenge.rw_LID) (n:=63) (k:=40) (x:= "script") (CX:=fun w=> ..) (sp:=fun _=>My.sp_law) rfl (by decide) rfl ⟨rfl,by decide,by decide⟩ (fun w h Y=>PySem.W.kIn_of Y) ?F ?S ?C
 case F=>
  intro w mg fa h KX G hmg
  have T: ∃t,My.Txt (L2.KOf KX) t:=by
   dsimp only [L2.KOf] -- K must stand as «<heap const> w.params» for k_is
   refine' My.txt_mk ?e1 ?e2 ?e3 ..
   (case e1=>PySem.W.k_is) -- in the order: a name->its address->its object->its parts
   (case e2=>PySem.W.k_is)
   ..
  obtain⟨t,T⟩:=T
  have e0:=hmg.symm.trans (PySem.W.mg_of KX G T.law)
  cases e0 -- fa is the law's own address
  exact⟨_,fun s u=> .of_eq rfl,fun base kb nb=>My.law_fn T kb nb⟩ -- if «.of_eq rfl» comes too early: refine'⟨_,?b,fun base kb nb=>My.law_fn T kb nb⟩;exact fun s u=> .of_eq rfl
 case S=>exact fun w H a ns hl hO hS=> ..
 case C=>exact ..
(the tactic k_is has no namespace: write k_is) -/
namespace L2
open PySem PySem.Spec PyProof.Rows
def inClass (s:Stmt) (j:Nat):Stmt:=match s with
 | .ClassDef _ _ _ body _ _ _ _ _ _ _=>body.getD j (.Pass ⟨0,0,0,0⟩)
 | _=> .Pass ⟨0,0,0,0⟩
def defArgs (s:Stmt):Arguments:=match s with
 | .FunctionDef _ a _ _ _ _ _ _ _ _=>a
 | _=> { posonlyargs:= [],args:= [],vararg:=none,kwonlyargs:= [],kw_defaults:= [],kwarg:=none,defaults:= [] }
def defBody (s:Stmt):List Stmt:=match s with
 | .FunctionDef _ _ b _ _ _ _ _ _ _=>b
 | _=> []
def defScope (s:Stmt):Scope:=match s with
 | .FunctionDef _ _ _ _ _ _ sc _ _ _=>sc
 | _=> { kind:= .function,names:= [],isGenerator:=false,isCoroutine:=false }
abbrev CX0:CXT:=fun _ _ _ _ _ _=>False
abbrev E0:XK:=fun _ _ _=>False
structure Fun (K:PySem.W.Frag) (x qual:Str) (st:Stmt) (f:Addr) (fd:FuncData):Prop where
 ex: ∃(oc:Value) (od:Option Addr) (kV doc pm:Value) (an:Option Addr) (cdv ct:Value) (osl:Array (Option Value)),
  fd=PySem.W.fnOf x qual (defArgs st) (defBody st) (defScope st) .none kV doc pm an cdv ct/\K.lookup f=some ⟨oc,od,.func fd,osl⟩/\PySem.W.codeIn K cdv qual=true
 kp:PySem.W.keepIn K (.ref f)=true
section
variable {P:Program}{w:World}{K:PySem.W.Frag}{mg:Str->Option Value}{base:Heap}
theorem Fun.binds {x qual:Str}{st:Stmt}{f:Addr}{fd:FuncData}{ps:List Str}(F:Fun K x qual st f fd)
 (h: ∀(kV doc pm:Value) (an:Option Addr) (cdv ct:Value) (us:List Value),us.length=ps.length->bindArgs (PySem.W.fnOf x qual (defArgs st) (defBody st) (defScope st) .none kV doc pm an cdv ct) ⟨us,[]⟩=pure (ps.zip us)):Binds K fd ps []:=by
 obtain⟨oc,od,kV,doc,pm,an,cdv,ct,osl,rfl,lk,hcd⟩:=F.ex
 exact .all (h kV doc pm an cdv ct)
theorem w4 {x qual:Str}{st:Stmt}{f:Addr}{oc:Value}{od an:Option Addr}{osl:Array (Option Value)}{kV doc pm cdv ct:Value}(l:K.lookup f=some ⟨oc,od,.func (PySem.W.fnOf x qual (defArgs st) (defBody st) (defScope st) .none kV doc pm an cdv ct),osl⟩)
 (c:PySem.W.codeIn K cdv qual=true) (k:PySem.W.keepIn K (.ref f)=true):Fun K x qual st f (PySem.W.fnOf x qual (defArgs st) (defBody st) (defScope st) .none kV doc pm an cdv ct):=⟨⟨oc,od,kV,doc,pm,an,cdv,ct,osl,rfl,l,c⟩,k⟩
end
theorem Xf {n:Nat}(h:n<=1000):n<sizeLine:=Nat.lt_of_le_of_lt h (by decide)
section
variable {X:Cx}
end
theorem iteF {A B:Prop}(h:B):if false=true then A else B:=by
 rw [if_neg Bool.false_ne_true]
 exact h
theorem iteT {A B:Prop}(h:A):if true=true then A else B:=by
 rw [if_pos rfl]
 exact h
def Same (H H':Hp):Prop:= ∀b o,H b=some o->H' b=some o
end L2
set_option maxHeartbeats 4000000
namespace L2
open PySem PySem.Spec PyProof.Rows
def closStep (env:Env) (cs:List (Str×Addr)) (y:Str×NameKind):List (Str×Addr):=
 if y.2== .free then(match env.cells.lookup y.1 with | some c=>(y.1,c)::cs | none=>cs)else cs
def closL (scope:Scope) (env:Env):List (Str×Addr):=scope.names.foldl (closStep env) []
theorem WO {env:Env}: ∀(names:List (Str×NameKind)) (cs0:List (Str×Addr)),(∀ y∈names,y.2= .free-> ∃c,env.cells.lookup y.1=some c) →
 (do
   let mut cs:=cs0
   for (name,kind) in names do
    if kind== .free then cs:=(name,←cellOf env name)::cs
   return cs:Sem (List (Str×Addr)))=pure (names.foldl (closStep env) cs0)
 | [],cs0,_=>by simp
 | (n,k)::r,cs0,h=>by
  have ih:=fun cs=>WO (env:=env) r cs fun y hy=>h y (List.mem_cons_of_mem _ hy)
  by_cases hk:k= .free
  ·subst hk
   obtain⟨c,hc⟩:=h (n,.free) List.mem_cons_self rfl
   have hc:env.cells.lookup n=some c:=hc
   have e:closStep env cs0 (n,.free)=(n,c)::cs0:=by
    show(if (NameKind.free==NameKind.free)=true then(match env.cells.lookup n with | some c=>(n,c)::cs0 | none=>cs0)else cs0)=_
    rw [if_pos (show (NameKind.free==NameKind.free)=true from rfl),hc]
   rw [List.foldl_cons,e,←ih]
   simp [List.forIn_cons,cellOf,hc]
  ·have hb:(k==NameKind.free)=false:=by simpa using hk
   have e:closStep env cs0 (n,k)=cs0:=by
    show(if (k==NameKind.free)=true then _ else cs0)=_
    rw [hb,if_neg Bool.false_ne_true]
   rw [List.foldl_cons,e,←ih]
   simp [List.forIn_cons,hk]
theorem Jo {scope:Scope}{env:Env}(h: ∀y∈scope.names,y.2= .free-> ∃c,env.cells.lookup y.1=some c):closureFor scope env=pure (closL scope env):=
 WO scope.names [] h
theorem Wk {env:Env}: ∀(names:List (Str×NameKind)) (cs:List (Str×Addr)),(∀ x c,cs.lookup x=some c->env.cells.lookup x=some c)-> ∀x c,(names.foldl (closStep env) cs).lookup x=some c->env.cells.lookup x=some c
 | [],_,h=>h
 | (n,k)::r,cs,h=>by
  refine Wk r (closStep env cs (n,k)) fun x c e=> ?_
  unfold closStep at e
  split at e
  ·split at e
   ·rename_i c' hc'
    rw [List.lookup_cons]at e
    cases hx:x==n with
    | true=>
     rw [hx]at e
     have:x=n:=by simpa using hx
     subst this
     cases e
     exact hc'
    | false=>rw [hx]at e;exact h x c e
   ·exact h x c e
  ·exact h x c e
theorem Jt {env:Env}{x:Str}{c:Addr}(hc:env.cells.lookup x=some c): ∀(names:List (Str×NameKind)) (cs:List (Str×Addr)),((x,.free)∈names\/ ∃c',cs.lookup x=some c')-> ∃c',(names.foldl (closStep env) cs).lookup x=some c'
 | [],cs,h=>h.elim (fun z=>absurd z (by simp)) id
 | (n,k)::r,cs,h=>by
  refine Jt hc r (closStep env cs (n,k)) ?_
  have grow:(∃ c',cs.lookup x=some c')-> ∃c',(closStep env cs (n,k)).lookup x=some c':=fun⟨c',e⟩=>by
   unfold closStep
   split
   ·split
    ·rw [List.lookup_cons]
     cases x==n with
     | true=>exact⟨_,rfl⟩
     | false=>exact⟨c',e⟩
    ·exact⟨c',e⟩
   ·exact⟨c',e⟩
  rcases h with h | h
  ·rcases List.mem_cons.mp h with h | h
   ·cases h
    refine .inr ⟨c,?_⟩
    show List.lookup x (if (NameKind.free==NameKind.free)=true then(match env.cells.lookup x with | some c=>(x,c)::cs | none=>cs)else cs)=_
    rw [if_pos (show (NameKind.free==NameKind.free)=true from rfl),hc]
    simp
   ·exact .inl h
  ·exact .inr (grow h)
theorem Xt {prog:Program}{w:World}{A:Around}{elt tg iter:Expr}{ifs:List Expr}{scope:Scope}{pos:Pos}{it acc:Value}{env:Env}{R:Result->Shared->Prop}{s:Shared}(I:Nat->Shared->Prop)
 (turn: ∀n s,I n s->wpAny (model prog w) A (pyNext it) (fun r s₁=>match r with
   | none=>R (.ok .next) s₁
   | some v=>wpAny (model prog w) A (letOwnedTupleGo tg it v) (fun _ s₁'=>wpAny (model prog w) A (assign tg env v) (fun _ s₂=>
    wpAny (model prog w) A (forIn ifs true fun c r=>if r=true then do let ok ←isTrue c env (eval c env);pure (ForInStep.yield ok)else pure (ForInStep.yield r)) (fun ok s₃=>
     if ok=true then wpAny (model prog w) A (eval elt env) (fun x s₄=>
      wpAny (model prog w) A (call (.builtin "list.append") [acc,x]) (fun _ s₅=> ∃m,m<n/\I m s₅) (notedBy (model prog w) A env fun e s'=>R (.error e) s') s₄) (notedBy (model prog w) A env fun e s'=>R (.error e) s') s₃
     else ∃m,m<n/\I m s₃) (notedBy (model prog w) A env fun e s'=>R (.error e) s') s₂) (notedBy (model prog w) A env fun e s'=>R (.error e) s') s₁') (notedBy (model prog w) A env fun e s'=>R (.error e) s') s₁) (notedBy (model prog w) A env fun e s'=>R (.error e) s') s)
 (n:Nat) (h:I n s):codeAny (model prog w) A (.compLoop (.ListComp elt [⟨tg,iter,ifs,0⟩] scope pos) 0 it acc env) R s:=by
 refine codeAny_loop rfl I (fun n s hI=> ?_) n h
 show wpAny _ A ((compTurn (.ListComp elt [⟨tg,iter,ifs,0⟩] scope pos) 0 it acc env).onRaise (fun x=>do noteFrame x env;theTreesLotGoes x)) _ _ s
 refine wpAny_noted ?_
 rw [compTurn_list]
 refine wpAny_bind (wpAny_standAt (wpAny_bind (wpAny_mono (turn n s hI) (fun r s₁ h₁=> ?_) fun _ _ h'=>h')))
 cases r with
 | none=>exact wpAny_pure h₁
 | some v=>
  refine wpAny_bind (wpAny_mono h₁ (fun _ s₁' h₁'=> ?_) fun _ _ h'=>h')
  refine wpAny_bind (wpAny_mono h₁' (fun _ s₂ h₂=>wpAny_bind (wpAny_mono h₂ (fun ok s₃ h₃=> ?_) fun _ _ h'=>h')) fun _ _ h'=>h')
  cases ok with
  | false=>exact wpAny_pure ⟨rfl,h₃⟩
  | true=>
   exact wpAny_bind (wpAny_bind (wpAny_mono h₃ (fun x s₄ h₄=>wpAny_bind (wpAny_mono h₄ (fun _ s₅ h₅=>wpAny_pure (wpAny_pure ⟨rfl,h₅⟩)) fun _ _ h'=>h')) fun _ _ h'=>h'))
theorem zy {x:Str}: ∀(names:List (Str×NameKind)) (n:Nat) (acc:List (Str×Addr)),(x,NameKind.cell)∉names->(cellsFrom n names acc).lookup x=acc.lookup x
 | [],_,_,_=>rfl
 | (y,k)::r,n,acc,h=>by
  unfold cellsFrom
  split
  ·rename_i hk
   have hk:k= .cell:=by simpa using hk
   subst hk
   rw [zy r (n+1) _ fun z=>h (List.mem_cons_of_mem _ z),List.lookup_cons]
   cases hx:x==y with
   | true=>
    have:x=y:=by simpa using hx
    subst this
    exact absurd List.mem_cons_self h
   | false=>rfl
  ·exact zy r n acc fun z=>h (List.mem_cons_of_mem _ z)
theorem Qz {x:Str}{c:Addr}: ∀(names:List (Str×NameKind)) (h:Heap) (acc:List (Str×Addr)) (Old:Prop),(acc.lookup x=some c->Old\/(h.IsCell c none/\(x,NameKind.cell)∈names\/h.IsCell c none/\Old))-> ∀lo,lo<=h.objs.size →
 (cellsFrom h.objs.size names acc).lookup x=some c->acc.lookup x=some c\/(lo<=c/\(x,NameKind.cell)∈names/\(pushCells h names).IsCell c none)
 | [],_,_,_,_,_,_,e=> .inl e
 | (y,k)::r,h,acc,Old,ha,lo,hlo,e=>by
  unfold cellsFrom at e
  unfold pushCells
  split at e
  ·rename_i hk
   rw [if_pos hk]
   have hk:k= .cell:=by simpa using hk
   subst hk
   have e:(cellsFrom (h.push { cls:= .type "cell",data:= .cell none }).objs.size r ((y,h.objs.size)::acc)).lookup x=some c:=by rw [Heap.size_push];exact e
   rcases Qz r (h.push { cls:= .type "cell",data:= .cell none }) _ True (fun _=> .inl trivial) lo (by rw [Heap.size_push];omega) e with q | ⟨q1,q2,q3⟩
   ·rw [List.lookup_cons]at q
    cases hx:x==y with
    | true=>
     rw [hx]at q
     have:x=y:=by simpa using hx
     subst this
     cases q
     exact .inr ⟨hlo,List.mem_cons_self,(show (h.push { cls:= .type "cell",data:= .cell none }).IsCell h.objs.size none from⟨_,Heap.get?_push_size _ rfl,rfl⟩).keeps fun b o e=>pushCells_keeps r _ b o e⟩
    | false=>
     rw [hx]at q
     exact .inl q
   ·exact .inr ⟨q1,List.mem_cons_of_mem _ q2,q3⟩
  ·rename_i hk
   rw [if_neg hk]
   rcases Qz r h acc True (fun _=> .inl trivial) lo hlo e with q | ⟨q1,q2,q3⟩
   ·exact .inl q
   ·exact .inr ⟨q1,List.mem_cons_of_mem _ q2,q3⟩
theorem QR: ∀(names:List (Str×NameKind)) (n:Nat) (acc:List (Str×Addr)),(∀ x c,acc.lookup x=some c->c<n)->(∀ x y c,acc.lookup x=some c->acc.lookup y=some c->x=y) →
 ∀x y c,(cellsFrom n names acc).lookup x=some c->(cellsFrom n names acc).lookup y=some c->x=y
 | [],_,_,_,hi=>hi
 | (z,k)::r,n,acc,hl,hi=>by
  unfold cellsFrom
  split
  ·have look: ∀x c,((z,n)::acc).lookup x=some c->(x=z/\c=n)\/(acc.lookup x=some c):=fun x c e=>by
    rw [List.lookup_cons]at e
    cases hx:x==z with
    | true=>
     rw [hx]at e
     cases e
     exact .inl ⟨by simpa using hx,rfl⟩
    | false=>
     rw [hx]at e
     exact .inr e
   refine QR r (n+1) _ (fun x c e=> ?_) fun x y c e1 e2=> ?_
   ·rcases look x c e with⟨_,q⟩ | q
    ·exact q▸Nat.lt_succ_self n
    ·exact Nat.lt_succ_of_lt (hl x c q)
   ·rcases look x c e1 with⟨p1,p2⟩ | p<;>rcases look y c e2 with⟨q1,q2⟩ | q
    ·rw [p1,q1]
    ·exact absurd (p2▸hl y c q) (Nat.lt_irrefl _)
    ·exact absurd (q2▸hl x c p) (Nat.lt_irrefl _)
    ·exact hi x y c p q
  ·exact QR r n acc hl hi
theorem Qn {env:Env}{x:Str}{c:Addr}: ∀(names:List (Str×NameKind)) (cs:List (Str×Addr)),(names.foldl (closStep env) cs).lookup x=some c->cs.lookup x=some c\/(x,NameKind.free)∈names
 | [],_,h=> .inl h
 | (y,k)::r,cs,h=>by
  rw [List.foldl_cons]at h
  rcases Qn r _ h with q | q
  ·unfold closStep at q
   split at q
   ·rename_i hk
    have hk:k= .free:=by simpa using hk
    subst hk
    split at q
    ·rw [List.lookup_cons]at q
     cases hx:x==y with
     | true=>
      have:x=y:=by simpa using hx
      subst this
      exact .inr List.mem_cons_self
     | false=>
      rw [hx]at q
      exact .inl q
    ·exact .inl q
   ·exact .inl q
  ·exact .inr (List.mem_cons_of_mem _ q)
theorem Zu {env:Env}: ∀ {names:List (Str×NameKind)}{x:Str},
 ((names.map fun(n,k)=>if(k==NameKind.free&&env.scope.kind== .function&&env.kindOf n==some .cell)then(n,NameKind.cell)else(n,k)).lookup x=some .cell ∨
   (names.map fun(n,k)=>if(k==NameKind.free&&env.scope.kind== .function&&env.kindOf n==some .cell)then(n,NameKind.cell)else(n,k)).lookup x=some .free)->(x,.free)∈names\/(x,.cell)∈names
 | [],_,h=>by simp at h
 | (n,k)::r,x,h=>by
  have ih:= @Zu env r x
  rw [List.map_cons]at h
  by_cases hcond:(k==NameKind.free&&env.scope.kind== .function&&env.kindOf n==some .cell)=true
  ·have hf:k= .free:=by
    rw [Bool.and_eq_true,Bool.and_eq_true]at hcond
    simpa using hcond.1.1
   subst hf
   simp only [hcond,if_true,List.lookup_cons]at h
   cases hx:x==n with
   | true=>
    have:x=n:=by simpa using hx
    subst this
    exact .inl List.mem_cons_self
   | false=>
    rw [hx]at h
    exact(ih h).imp (List.mem_cons_of_mem _) (List.mem_cons_of_mem _)
  ·have hcf:=Bool.eq_false_iff.mpr hcond
   simp only [hcf,Bool.false_eq_true,if_false,List.lookup_cons]at h
   cases hx:x==n with
   | true=>
    have:x=n:=by simpa using hx
    subst this
    rw [hx]at h
    rcases h with h | h
    ·have:k= .cell:=by simpa using h
     subst this
     exact .inr List.mem_cons_self
    ·have:k= .free:=by simpa using h
     subst this
     exact .inl List.mem_cons_self
   | false=>
    rw [hx]at h
    exact(ih (by simpa using h)).imp (List.mem_cons_of_mem _) (List.mem_cons_of_mem _)
theorem WQ: ∀ {names:List (Str×NameKind)}{x:Str}{k k':NameKind},(names.map Prod.fst).Nodup->(x,k)∈names->(x,k')∈names->k=k'
 | (y,j)::r,x,k,k',nd,h1,h2=>by
  rw [List.map_cons,List.nodup_cons]at nd
  rcases List.mem_cons.mp h1 with e1 | e1<;>rcases List.mem_cons.mp h2 with e2 | e2
  ·cases e1;cases e2;rfl
  ·cases e1;exact absurd (List.mem_map.mpr ⟨_,e2,rfl⟩) nd.1
  ·cases e2;exact absurd (List.mem_map.mpr ⟨_,e1,rfl⟩) nd.1
  ·exact WQ nd.2 e1 e2
theorem Jz: ∀ {names:List (Str×NameKind)}{x:Str}{k:NameKind},(names.map Prod.fst).Nodup->(x,k)∈names->names.lookup x=some k
 | (y,j)::r,x,k,nd,h=>by
  rw [List.map_cons,List.nodup_cons]at nd
  rw [List.lookup_cons]
  rcases List.mem_cons.mp h with e | e
  ·cases e;simp
  ·have:(x==y)=false:=by
    cases hx:x==y with
    | false=>rfl
    | true=>
     have:x=y:=by simpa using hx
     subst this
     exact absurd (List.mem_map.mpr ⟨_,e,rfl⟩) nd.1
   rw [this]
   exact Jz nd.2 e
def blkC (scope:Scope) (C:Addr) (env:Env):List (Str×Addr):=cellsFrom (C+1) scope.names (closL scope env)
theorem Jg {M:Model}{A:Around}{E:Value->Shared->Prop}{s:Shared}{scope:Scope}{globals:Addr}{cl:List (Str×Addr)}{qual:Str}{env:Env}{Q:Env->Shared->Prop}
 (hQ:Q (newEnv scope s.heap.objs.size globals (cellsFrom (s.heap.objs.size+1) scope.names cl) qual none .none (some env) builtinsNs) { s with heap:=pushCells (s.heap.push { cls:= .type "dict",data:= .dict #[] }) scope.names }):
 wpAny M A (newFunctionEnv scope globals cl [] qual none .none (some env)) Q E s:=by
 simp only [newFunctionEnv,Option.isSome_some,if_true]
 refine wpAny_bind (wpAny_alloc ?_)
 refine wpAny_bind (wpAny_layCells _ (fun name kind cells=>by cases hkc:kind==NameKind.cell<;>simp [hkc]) _ _ _ _ ?_)
 rw [show ({ s with heap:=s.heap.push { cls:= .type "dict",data:= .dict #[] } }:Shared).heap.objs.size=s.heap.objs.size+1 from Heap.size_push ..]
 refine wpAny_bind ?_
 rw [List.forIn_nil]
 exact wpAny_pure (wpAny_pure hQ)
def cxComp (X:Cx) (N:List Str) (scope:Scope) (C:Addr) (fp:List Addr) (s:Shared) (H:Hp):Cx where
 prog:=X.prog
 w:=X.w
 K:=X.K
 mg:=X.mg
 base:=X.base
 A:=X.A
 N:=N
 s₀:=s
 H₀:=H
 env:=compEnvC scope (blkC scope C X.env) C X.env
 outer:=X.stack
 stack:=X.stack
 ex:=fp
 fn:=fun x=>decide (scope.names.lookup x=some .cell)
 calm:=X.calm
 pn:= []
 xe:=fun _ _=>False
def CapOk (X:Cx):List Nat->List Str->Prop
 | [],[]=>True
 | j::js,x::xs=>X.N[j]? =some x/\(X.env.kindOf x=some .cell\/X.env.kindOf x=some .free)/\CapOk X js xs
 | _,_=>False
theorem CapOk.get {X:Cx}{σ:St}: ∀ {cap:List Nat}{xs:List Str}{i:Nat}{x:Str}{v:V},CapOk X cap xs->xs[i]? =some x->(cap.map fun(j:Nat)=>(σ[j]?).join)[i]? =some (some v) →
 ∃j:Nat,X.N[j]? =some x/\σ[j]? =some (some v)/\(X.env.kindOf x=some .cell\/X.env.kindOf x=some .free)
 | [],[],_,_,_,_,e,_=>by simp at e
 | [],_::_,_,_,_,h,_,_=>h.elim
 | _::_,[],_,_,_,h,_,_=>h.elim
 | j::js,x'::xs,0,x,v,h,e1,e2=>by
  obtain⟨h1,h2,_⟩:=h
  simp at e1
  subst e1
  refine⟨j,h1,?_,h2⟩
  have e2:some ((σ[j]?).join)=some (some v):=by simpa using e2
  have e2:(σ[j]?).join=some v:=Option.some.inj e2
  cases q:σ[j]? with
  | none=>rw [q]at e2;cases e2
  | some z=>rw [q]at e2;have:z=some v:=e2;rw [this]
 | j::js,x'::xs,i+1,x,v,h,e1,e2=>CapOk.get (i:=i) h.2.2 (by simpa using e1) (by simpa using e2)
theorem CapOk.length {X:Cx}: ∀ {cap:List Nat}{xs:List Str},CapOk X cap xs->cap.length=xs.length
 | [],[],_=>rfl
 | [],_::_,h=>h.elim
 | _::_,[],h=>h.elim
 | _::_,_::_,h=>congrArg (· +1) (CapOk.length h.2.2)
def capSt (k:Nat) (cap:List Nat) (σ:St):St:=List.replicate k none++cap.map fun(j:Nat)=>(σ[j]?).join
def PTs (X:Cx) (ifs:List Expr) (t:TT):Prop:=
 ∀(pins:List (Addr×Obj)) (s:Shared) (σ:St) (H:Hp) (Q:Bool->Hp->Prop),Inv X pins σ H s->t σ H Q →
  wpAny (model X.prog X.w) X.A (forIn ifs true fun c r=>if r=true then do let ok ←isTrue c X.env (eval c X.env);pure (ForInStep.yield ok)else pure (ForInStep.yield r)) (TP X pins σ Q) X.xe s
def tYes:TT:=fun _ H Q=>Q true H
theorem ZP {X:Cx}:PTs X [] tYes:=fun _ _ _ H _ I h=>wpAny_tests_nil ⟨H,I,h⟩
theorem jP {X:Cx}{c:Expr}{t:TT}(h:PT X c t):PTs X [c] t:=fun pins s σ H Q I hw=>wpAny_tests_one (h pins s σ H Q I hw)
def CompW (J:It) (g:TG) (tc:TT) (te:TE) (τ0:St) (H1:Hp) (Q:VK):Prop:= ∃W:Nat->Nat->List V->St->Hp->Prop,(∃ m,W 0 m [] τ0 H1)/\ ∀i m ys τ H,W i m ys τ H →
 (J.stop i H/\ys.length<=sizeLine/\ ∀D,H D=none->Q (.ref D) (upd H D (.lst ys))) ∨
 (J.go i H/\ys.length<sizeLine/\ ∃N:List V->St->Hp->Prop,(∀ ys' τ' H',N ys' τ' H'-> ∃m',m'<m/\W (i+1) m' ys' τ' H') ∧
   ∀x H',J.yld i H x H'->g x τ H' fun τ2 H2=>tc τ2 H2 fun b H3=>if b=true then te τ2 H3 fun y H4=>N (ys++ [y]) τ2 H4 else N ys τ2 H3)
abbrev Blk (α:Type):=Addr->List Addr->Shared->Hp->α
def tComp (k:Nat) (cap:List Nat) (wi:TI) (g:Blk TG) (tc:Blk TT) (te:Blk TE):TE:=fun σ H Q=>wi σ H fun J H1=> ∀C fp s,CompW J (g C fp s H1) (tc C fp s H1) (te C fp s H1) (capSt k cap σ) H1 Q
theorem Inv.adopt {X:Cx}{pins:List (Addr×Obj)}{σ:St}{H:Hp}{s:Shared}{D:Addr}{ys:List V}{its:List Value}{n:Nat}(I:Inv X pins σ H s) (hD:FpOk X pins H D) (hs:X.s₀.heap.objs.size<=D)
 (e:s.heap.get? D=some { cls:= .type "list",data:= .seq its.toArray n }) (r:Vals ys its) (hz:ys.length<=sizeLine):Inv X pins σ (upd H D (.lst ys)) s:=by
 obtain⟨h0,h1,h2,h3,h4,h5⟩:=hD
 have up: ∀b o,H b=some o->upd H D (.lst ys) b=some o:=fun b o q=>by rw [qa (xa q h0)];exact q
 have old: ∀b o,X.s₀.heap.get? b=some o->b≠D:=fun b o q z=>by rw [z]at q;exact absurd (Nat.lt_of_lt_of_le (Heap.lt_size q) hs) (Nat.lt_irrefl _)
 refine⟨I.ok,I.os,I.bare,⟨I.base.keep,I.base.slot,fun b o e' n' hx=> ?_,I.base.there,fun b xs q=>up b _ (I.base.tups b xs q),fun b o u q=>up b _ (I.base.frzs b o u q),fun b ps q=> ?_⟩,I.loc,I.cell,?_,fun x c q=> ?_,fun p hp=> ?_,fun b u q=> ?_,I.len⟩
 ·rw [qa (old b o e')];exact I.base.free b o e' n' hx
 ·obtain⟨more,q'⟩:=I.base.tbls b ps q
  exact⟨more,up b _ q'⟩
 ·rw [qa (Ne.symm h1)];exact I.free
 ·rw [qa (h4 x c q)];exact I.freeC x c q
 ·obtain⟨a1,a2,a3⟩:=I.pin p hp
  exact⟨a1,by rw [qa (h5 p hp)];exact a2,a3⟩
 ·by_cases hb:b=D
  ·subst hb
   rw [xb]at q
   cases q
   exact⟨hz,its,n,r,e⟩
  ·rw [qa hb]at q
   exact(I.hok b u q).stay (fun _ _ _ z=>z) (fun c z=>up c _ z) fun c xs z=>up c _ z
theorem Qc {env:Env}: ∀ {names:List (Str×NameKind)}{x:Str},names.lookup x=some .free →
 ((names.map fun(n,k)=>if(k==NameKind.free&&env.scope.kind== .function&&env.kindOf n==some .cell)then(n,NameKind.cell)else(n,k)).lookup x=some .cell ∨
   (names.map fun(n,k)=>if(k==NameKind.free&&env.scope.kind== .function&&env.kindOf n==some .cell)then(n,NameKind.cell)else(n,k)).lookup x=some .free)
 | [],_,h=>by simp at h
 | (n,k)::r,x,h=>by
  have ih:= @Qc env r x
  rw [List.map_cons]
  rw [List.lookup_cons]at h
  cases hx:x==n with
  | true=>
   rw [hx]at h
   have hk:k= .free:=by simpa using h
   subst hk
   by_cases hcond:(NameKind.free==NameKind.free&&env.scope.kind== .function&&env.kindOf n==some .cell)=true
   ·simp only [hcond,if_true,List.lookup_cons,hx]
    first | exact .inl rfl | exact .inl trivial | simp
   ·have hcf:=Bool.eq_false_iff.mpr hcond
    simp only [hcf,Bool.false_eq_true,if_false,List.lookup_cons,hx]
    first | exact .inr rfl | exact .inr trivial | simp
  | false=>
   rw [hx]at h
   have q:=ih h
   by_cases hcond:(k==NameKind.free&&env.scope.kind== .function&&env.kindOf n==some .cell)=true
   ·simp only [hcond,if_true,List.lookup_cons,hx]
    exact q
   ·have hcf:=Bool.eq_false_iff.mpr hcond
    simp only [hcf,Bool.false_eq_true,if_false,List.lookup_cons,hx]
    exact q
structure CompOk (X:Cx) (scope:Scope) (N:List Str) (k:Nat) (cap:List Nat):Prop where
 kind:scope.kind= .function
 nd:(scope.names.map Prod.fst).Nodup
 names: ∀y∈scope.names,y.2= .local->scope.names.lookup y.1=some .local
 free: ∀y∈scope.names,y.2= .free->X.env.kindOf y.1=some .cell\/X.env.kindOf y.1=some .free
 capf: ∀x∈N.drop k,scope.names.lookup x=some .free
 cap:CapOk X cap (N.drop k)
 le:k<=N.length
structure ScopeOk (sc scope:Scope) (N:List Str) (k:Nat):Prop where
 kind:scope.kind= .function
 nd:(scope.names.map Prod.fst).Nodup
 names: ∀y∈scope.names,y.2= .local->scope.names.lookup y.1=some .local
 free: ∀y∈scope.names,y.2= .free->sc.names.lookup y.1=some .cell\/sc.names.lookup y.1=some .free
 capf: ∀x∈N.drop k,scope.names.lookup x=some .free
 le:k<=N.length
section
variable {X:Cx}{elt tg iter:Expr}{ifs:List Expr}{scope:Scope}{pos p0:Pos}{N:List Str}{k:Nat}{cap:List Nat}{wi:TI}{g:Blk TG}{tc:Blk TT}{te:Blk TE}
theorem XH {pins:List (Addr×Obj)}{s2:Shared}{σ:St}{H2:Hp}{tk:Nat}{fp:List Addr}{C:Addr}{h₁:Heap}{m:Str->Option Value}(ok:CompOk X scope N k cap) (I2:Inv X pins σ H2 s2) (f2: ∀b∈fp,FpOk X pins H2 b) (fo: ∀b∈fp,b<s2.heap.objs.size)
 (hC:s2.heap.objs.size<=C) (hns:h₁.Ns C m) (old: ∀b o,s2.heap.get? b=some o->h₁.get? b=some o)
 (hcc: ∀x c,(blkC scope C X.env).lookup x=some c->(closL scope X.env).lookup x=some c\/(C+1<=c/\(x,NameKind.cell)∈scope.names/\h₁.IsCell c none)):
 Inv (cxComp X N scope C fp s2 H2) [] (capSt k cap σ) H2 { s2 with heap:=h₁,toks:=tk }:=by
 have sub: ∀x c,(closL scope X.env).lookup x=some c->X.env.cells.lookup x=some c:=Wk scope.names [] fun x c e=>by simp at e
 have has: ∀x,(x,NameKind.free)∈scope.names-> ∃c,(closL scope X.env).lookup x=some c:=fun x hm=>by
  obtain⟨c,hc⟩:=I2.ok.has x (ok.free _ hm rfl)
  exact Jt hc scope.names [] (.inl hm)
 have lt: ∀x c,(closL scope X.env).lookup x=some c->c<C+1:=fun x c e=>by
  obtain⟨v,o,ho,_⟩:=I2.cell x c (sub x c e)
  exact Nat.lt_succ_of_le (Nat.le_trans (Nat.le_of_lt (Heap.lt_size ho)) hC)
 have inj:=QR scope.names (C+1) (closL scope X.env) lt fun x y c h1 h2=>I2.ok.inj x y c (sub x c h1) (sub y c h2)
 have keep: ∀x c,(x,NameKind.free)∈scope.names->(closL scope X.env).lookup x=some c->(blkC scope C X.env).lookup x=some c:=fun x c hm e=>by
  unfold blkC
  rw [zy scope.names (C+1) _ fun z=>by cases WQ ok.nd hm z]
  exact e
 have hasC: ∀x,(x,NameKind.free)∈scope.names\/(x,NameKind.cell)∈scope.names-> ∃c,(blkC scope C X.env).lookup x=some c:=fun x hx=>by
  rcases hx with hx | hx
  ·obtain⟨c,hc⟩:=has x hx
   exact⟨c,keep x c hx hc⟩
  ·exact Option.isSome_iff_exists.mp (PySem.W.cellsFrom_some scope.names (C+1) (closL scope X.env) (.inl (Jz ok.nd hx)))
 refine⟨⟨I2.ok.mod,ok.kind,I2.ok.glob,I2.ok.blt,hC,inj,fun x hx=>hasC x (Zu hx),fun x c hf e=> ?_,I2.ok.hd,I2.ok.frames,.inl rfl,fun b hb=>⟨?_,fun x c e=> ?_⟩,
  fun b o e=>I2.bs b o e,Nat.le_trans I2.ok.bsz I2.sz,fun b o e hb=> ?_,fun b hb z=>(List.mem_cons.mp (I2.stkSub b z)).elim (f2 b hb).2.1 (f2 b hb).2.2.1,I2.stack,I2.stkFree⟩,
  rfl,I2.bare,Un.kept old,⟨m,hns,fun i x v e1 e2 e3=> ?_⟩,fun x c e=> ?_,I2.hok.fresh hC,fun x c e=> ?_,fun p hp=>absurd (show p∈([]:List (Addr×Obj))from hp) (by simp),I2.hok.kept old,?_⟩
 ·have hf:=of_decide_eq_true hf
  rcases hcc x c e with q | q
  ·rcases Qn scope.names [] q with z | z
   ·simp at z
   ·have:=Jz ok.nd z
    rw [hf]at this
    cases this
  ·exact Nat.le_trans hC (Nat.le_trans (Nat.le_succ C) q.1)
 ·show b≠C
  exact Nat.ne_of_lt (Nat.lt_of_lt_of_le (fo b hb) hC)
 ·rcases hcc x c e with q | q
  ·exact(f2 b hb).2.2.2.2.1 x c (sub x c q)
  ·exact Ne.symm (Nat.ne_of_lt (Nat.lt_of_lt_of_le (fo b hb) (Nat.le_trans hC (Nat.le_trans (Nat.le_succ C) q.1))))
 ·rcases (f2 b hb).2.2.2.1 with z | z
  ·exact I2.ok.noex b o e z
  ·have h1:=Heap.lt_size e
   have h2:=I2.ok.bsz
   exact absurd (Nat.lt_of_lt_of_le h1 (Nat.le_trans h2 z)) (Nat.lt_irrefl _)
 ·have hik:k<=i:=by
   by_cases hik:i<k
   ·have e2:(List.replicate k none++cap.map fun(j:Nat)=>(σ[j]?).join)[i]? =some (some v):=e2
    rw [List.getElem?_append_left (by simpa using hik),List.getElem?_replicate,if_pos hik]at e2
    cases e2
   ·omega
  have e1':(N.drop k)[i-k]? =some x:=by
   rw [List.getElem?_drop,show k+(i-k)=i by omega];exact e1
  have e2':(cap.map fun(j:Nat)=>(σ[j]?).join)[i-k]? =some (some v):=by
   have e2:(List.replicate k none++cap.map fun(j:Nat)=>(σ[j]?).join)[i]? =some (some v):=e2
   rw [List.getElem?_append_right (by simpa using hik),List.length_replicate]at e2
   exact e2
  obtain⟨j,j1,j2,j3⟩:=ok.cap.get (σ:=σ) e1' e2'
  obtain⟨m2,hn,hl⟩:=I2.loc
  obtain⟨u,r,l⟩:=hl j x v j1 j2 (.inr (j3.elim (fun z=> .inl z) fun z=> .inr z))
  refine⟨u,r,.inr ?_⟩
  have hf:=ok.capf x (List.mem_of_getElem? e1')
  refine⟨Qc hf,?_⟩
  obtain⟨c,hc⟩:=has x (PySem.mem_of_lookup hf)
  refine⟨c,keep x c (PySem.mem_of_lookup hf) hc,?_⟩
  rcases l with⟨lk,_⟩ | ⟨_,c',hc',o,ho,hd⟩
  ·rcases j3 with z | z<;>(rw [lk]at z;cases z)
  ·have hcc:=sub x c hc
   rw [hc']at hcc
   cases hcc
   exact⟨o,old _ o ho,hd⟩
 ·rcases hcc x c e with q | q
  ·obtain⟨v,o,ho,hd⟩:=I2.cell x c (sub x c q)
   exact⟨v,o,old c o ho,hd⟩
  ·exact⟨none,q.2.2⟩
 ·rcases hcc x c e with q | q
  ·exact I2.freeC x c (sub x c q)
  ·exact I2.hok.fresh (Nat.le_trans hC (Nat.le_trans (Nat.le_succ C) q.1))
 ·show(List.replicate k none++cap.map fun(j:Nat)=>(σ[j]?).join).length=N.length
  have h1:=ok.cap.length
  have h2:=ok.le
  rw [List.length_append,List.length_replicate,List.length_map,h1,List.length_drop]
  omega
theorem zx (use:Option (Value->Sem Unit)) (hc:X.calm=true) (ok:CompOk X scope N k cap) (hi:PI X tg iter wi)
 (hg: ∀C fp s H,PG (cxComp X N scope C fp s H) tg (g C fp s H)) (ht: ∀C fp s H,PTs (cxComp X N scope C fp s H) ifs (tc C fp s H)) (he: ∀C fp s H,PE (cxComp X N scope C fp s H) elt (te C fp s H))
 (hs: ∀x,foldedSetIterable iter X.env x=pure x)
 {pins:List (Addr×Obj)}{s:Shared}{σ:St}{H:Hp}{Q:VK}{Q':Value->Shared->Prop}(I:Inv X pins σ H s) (h:tComp k cap wi g tc te σ H Q)
 (fin: ∀(D C:Addr) (oC:Obj) (m:Str->Option Value) (H4:Hp) (s4:Shared),Inv X (pins++ [(C,oC)]) σ H4 s4->FpOk X pins H4 C->Q (.ref D) H4->(∀ h:Heap,h.get? C=some oC->h.Ns C m) →
   compPost (model X.prog X.w) X.A X.xe use Q' (.ref D) C (.ok .next) s4):
 wpAny (model X.prog X.w) X.A (comprehension (.ListComp elt [⟨tg,iter,ifs,0⟩] scope pos) scope X.env p0 (newList []) false (eval iter X.env) use) Q' X.xe s:=by
 have hcl:closureFor scope X.env=pure (closL scope X.env):=Jo fun y hy hf=>I.ok.has y.1 (ok.free y hy hf)
 refine wpAny_comprehension_free (use:=use) rfl hs hcl ok.kind ok.names (thn (hi pins s σ H _ I h) fun v s1 h1=>thn h1 fun itv s2 h2=> ?_)
 obtain⟨it,fp,tn,J,H2,e,I2,T,st2,f2,hW⟩:=h2
 subst e
 refine wpAny_newObj_type (Jg ?_)
 dsimp only
 generalize hHp:s2.heap.push { cls:= .type "list",dict:=none,data:= .seq ([]:List Value).toArray }=HP
 have hCs:HP.objs.size=s2.heap.objs.size+1:=by rw [← hHp,Heap.size_push]
 generalize hDD:s2.heap.objs.size=D at hCs ⊢
 have hns0:(HP.push { cls:= .type "dict",data:= .dict #[] }).Ns HP.objs.size fun _=>none:=Heap.Ns.new HP (.type "dict")
 have hlk: ∀x c,(blkC scope HP.objs.size X.env).lookup x=some c->(closL scope X.env).lookup x=some c\/(HP.objs.size+1<=c/\(x,NameKind.cell)∈scope.names/\(pushCells (HP.push { cls:= .type "dict",data:= .dict #[] }) scope.names).IsCell c none):=fun x c e=>by
  refine Qz scope.names (HP.push { cls:= .type "dict",data:= .dict #[] }) (closL scope X.env) True (fun _=> .inl trivial) (HP.objs.size+1) (by rw [Heap.size_push];exact Nat.le_refl _) ?_
  rw [Heap.size_push]
  exact e
 generalize hh1:pushCells (HP.push { cls:= .type "dict",data:= .dict #[] }) scope.names=h₁ at hlk ⊢
 have hns₁:h₁.Ns HP.objs.size fun _=>none:=by rw [← hh1];exact hns0.keeps (pushCells_keeps _ _)
 have hk1: ∀b o,HP.get? b=some o->h₁.get? b=some o:=fun b o e=>by
  rw [← hh1]
  exact pushCells_keeps _ _ b o (Heap.get?_push_of_some _ e)
 generalize hCC:HP.objs.size=C at hCs hns₁ hlk ⊢
 have hDC:D≠C:=by rw [hCs];exact Nat.ne_of_lt (Nat.lt_succ_self _)
 have hle:s2.heap.objs.size<=C:=by rw [hDD,hCs];exact Nat.le_succ _
 have hleD:s2.heap.objs.size<=D:=Nat.le_of_eq hDD
 have fo: ∀b∈fp,b<D:=fun b hb=>by
  obtain⟨o,eo,_⟩:=T.obj _ _ st2 b hb
  rw [← hDD]
  exact Heap.lt_size eo
 have old: ∀b o,s2.heap.get? b=some o->h₁.get? b=some o:=fun b o e=>by
  exact hk1 b o (hHp▸Heap.get?_push_of_some _ e)
 have hacc:h₁.get? D=some { cls:= .type "list",data:= .seq ([]:List Value).toArray }:=by
  refine hk1 _ _ ?_
  rw [← hHp,←hDD]
  exact Heap.get?_push_size _ rfl
 obtain⟨W,⟨m0,w0⟩,turn⟩:=hW C fp s2
 have I3:Inv (cxComp X N scope C fp s2 H2) [] (capSt k cap σ) H2 { s2 with heap:=h₁,toks:=s2.toks }:=
  XH ok I2 f2 (fun b hb=>by rw [hDD];exact fo b hb) hle hns₁ old hlk
 have st3:tn 0 h₁:=T.keep _ _ _ st2 fun b _ o e=>old b o e
 have hch: ∀b∈fp,(b∈X.ex\/X.s₀.heap.objs.size<=b)/\b≠X.env.locals/\(∀ x c,X.env.cells.lookup x=some c->c≠b)/\ ∀p∈X.pn++pins,p.1≠b:=fun b hb=>⟨(f2 b hb).2.2.2.1,(f2 b hb).2.1,(f2 b hb).2.2.2.2.1,(f2 b hb).2.2.2.2.2⟩
 have FD: ∀ {H':Hp},H' D=none->FpOk X pins H' D:=fun hn=>I2.fpOk hleD hn
 have FC: ∀ {H':Hp},H' C=none->FpOk X pins H' C:=fun hn=>I2.fpOk hle hn
 have sub: ∀x c,(closL scope X.env).lookup x=some c->X.env.cells.lookup x=some c:=Wk scope.names [] fun x c e=>by simp at e
 have hDst:D∉frs X.stack:=fun z=>(List.mem_cons.mp (I2.stkSub D z)).elim (FD (H':=fun _=>none) rfl).2.1 (FD (H':=fun _=>none) rfl).2.2.1
 have hDc: ∀x c,(blkC scope C X.env).lookup x=some c->c≠D:=fun x c e=>by
  rcases hlk x c e with q | q
  ·exact(FD (H':=fun _=>none) rfl).2.2.2.2.1 x c (sub x c q)
  ·exact Ne.symm (Nat.ne_of_lt (Nat.lt_of_lt_of_le (by rw [hCs];exact Nat.lt_succ_of_lt (Nat.lt_succ_self _)) q.1))
 have loop: ∀s₃:Shared,s₃= { s2 with heap:=h₁,toks:=s2.toks } →
  codeAny (model X.prog X.w) X.A (.compLoop (.ListComp elt [⟨tg,iter,ifs,0⟩] scope pos) 0 (.ref it) (.ref D) (compEnvC scope (blkC scope C X.env) C X.env))
   (compPost (model X.prog X.w) X.A X.xe use Q' (.ref D) C) s₃:=by
  rintro s₃ rfl
  refine Xt (fun n s'=> ∃i ys its kk τ H',Inv (cxComp X N scope C fp s2 H2) [] τ H' s'/\tn i s'.heap/\(∀ b∈fp,H' b=none)/\H' D=none/\s'.heap.get? D=some { cls:= .type "list",data:= .seq (its:List Value).toArray kk }/\Vals ys its/\W i n ys τ H')
   ?_ m0 ⟨0,[],[],0,_,H2,I3,st3,fun b hb=>(f2 b hb).1,I2.hok.fresh hleD,hacc,.nil,w0⟩
  rintro n s3 ⟨i,ys,its,kk,τ,H3,I3,st3,fr3,hD3,eD3,rv3,w3⟩
  have IP:Inv (cxComp X N scope C fp s2 H2) [(D,{ cls:= .type "list",data:= .seq its.toArray kk })] τ H3 s3:=I3.pins_of fun p hp=>by
   have e:p=(D,{ cls:= .type "list",data:= .seq its.toArray kk }):=by simpa using hp
   subst e
   exact⟨eD3,hD3,hDC,hDst,fun v z=>by cases z⟩
  have fpok: ∀ {H':Hp},(∀ b∈fp,H' b=none)-> ∀b∈fp,FpOk (cxComp X N scope C fp s2 H2) [(D,{ cls:= .type "list",data:= .seq its.toArray kk })] H' b:=fun {H'} hn b hb=>by
   refine⟨hn b hb,I3.ok.exf b hb |>.1,I3.ok.exfs b hb,.inl hb,I3.ok.exf b hb |>.2,fun p hp=> ?_⟩
   have e:p=(D,{ cls:= .type "list",data:= .seq its.toArray kk }):=by
    have hp:p∈([]:List (Addr×Obj))++ [(D,{ cls:= .type "list",data:= .seq its.toArray kk })]:=hp
    simpa using hp
   rw [e]
   exact Ne.symm (Nat.ne_of_lt (fo b hb))
  rcases turn i n ys τ H3 w3 with⟨stop,hz,q⟩ | ⟨go,hz,NN,hN,step⟩
  ·refine thn (T.done (cxComp X N scope C fp s2 H2) rfl rfl rfl hc i _ s3 τ H3 _ IP (fpok fr3) st3 stop) fun r s4 ⟨hr,I4⟩=> ?_
   subst hr
   have eD4:=(I4.pin _ (List.mem_append_right _ List.mem_cons_self)).1
   have I5:Inv X pins σ H3 s4:=I2.call' (ch:=fp) I4.os I4.base I4.hok I4.bare hch
   have I6:=I5.adopt (FD hD3) (Nat.le_trans I2.sz hleD) eD4 rv3 hz
   obtain⟨m,⟨oC,es,ep,hoC,hdC,hr⟩,_⟩:=I4.loc
   have fC:FpOk X pins (upd H3 D (.lst ys)) C:=FC (by rw [qa (Ne.symm hDC)];exact I4.free)
   have I7:Inv X (pins++ [(C,oC)]) σ (upd H3 D (.lst ys)) s4:=I6.pins_of fun p hp=>(List.mem_append.mp hp).elim (fun z=>I6.pin p (List.mem_append_right _ z)) fun z=>by
    have e:p=(C,oC):=by simpa using z
    subst e
    exact⟨hoC,fC.1,fC.2.1,fC.2.2.1,fun v z=>by rw [hdC]at z;cases z⟩
   exact fin D C oC m _ s4 I7 fC (q D hD3) fun h e=>⟨oC,es,ep,e,hdC,hr⟩
  ·refine thn (T.item (cxComp X N scope C fp s2 H2) rfl rfl rfl hc i _ s3 τ H3 _ IP (fpok fr3) st3 go) fun r s4 ⟨u,hr,h4⟩=> ?_
   subst hr
   refine thn h4 fun _ s5 ⟨x,H5,I5,r5,y5,st5,fr5⟩=> ?_
   have I5':=I5.pinned (fpok fr5) (T.obj _ _ st5)
   refine wpAny_mono (hg C fp s2 H2 _ s5 τ H5 x u _ I5' r5 (step x H5 y5)) (fun _ s6 ⟨σ6,H6,I6,q6⟩=> ?_) fun _ _ z=>False.elim z
   refine wpAny_mono (ht C fp s2 H2 _ s6 σ6 H6 _ I6 q6) (fun b s7 ⟨H7,I7,q7⟩=> ?_) fun _ _ z=>False.elim z
   have hp5: ∀b∈fp,∃o,s5.heap.get? b=some o:=fun b hb=>let ⟨o,e,_⟩:=T.obj _ _ st5 b hb; ⟨o,e⟩
   cases b with
   | false=>
    rw [if_neg Bool.false_ne_true]at q7 ⊢
    obtain⟨m',hm,w7⟩:=hN _ _ _ q7
    refine⟨m',hm,i+1,ys,its,kk,σ6,H7,I7.pins_of fun p hp=>absurd hp (by simp),T.keep _ _ _ st5 fun b hb o e=>(I7.pin (b,o) (List.mem_append_right _ (List.mem_append_right _ (Xc hb e)))).1,fun b hb=> ?_,?_,?_,rv3,w7⟩
    ·obtain⟨o,e⟩:=hp5 b hb
     exact(I7.pin (b,o) (List.mem_append_right _ (List.mem_append_right _ (Xc hb e)))).2.1
    ·exact(I7.pin _ (List.mem_append_right _ (List.mem_append_left _ List.mem_cons_self))).2.1
    ·exact(I7.pin _ (List.mem_append_right _ (List.mem_append_left _ List.mem_cons_self))).1
   | true=>
    rw [if_pos rfl]at q7 ⊢
    refine wpAny_mono (he C fp s2 H2 _ s7 σ6 H7 _ I7 q7) (fun y s8 ⟨yv,H8,I8,r8,q8⟩=> ?_) fun _ _ z=>False.elim z
    have pD:=I8.pin _ (List.mem_append_right _ (List.mem_append_left _ List.mem_cons_self))
    have eD8:s8.heap.get? D=some { cls:= .type "list",data:= .seq its.toArray kk }:=pD.1
    have hD8:H8 D=none:=pD.2.1
    have hlen:=rv3.length
    refine call_meets F.slot_list_append ⟨_,eD8,rfl⟩ F.entry_list_append (F.args_list_append_2 _ _) (PySem.list_append D its.toArray kk y (by rw [List.size_toArray];omega)) ⟨eD8,?_⟩
    obtain⟨m',hm,w8⟩:=hN _ _ _ q8
    have IQ:Inv (cxComp X N scope C fp s2 H2) (pinsAt fp s5.heap) σ6 H8 s8:=I8.pins_of fun p hp=>I8.pin p (List.mem_append_right _ (List.mem_append_right _ hp))
    have e9:=PySem.IsL.update eD8 (·.push y)
    rw [show its.toArray.push y=(its++ [y]).toArray by simp]at e9
    have I9:Inv (cxComp X N scope C fp s2 H2) (pinsAt fp s5.heap) σ6 H8 { s8 with heap:=s8.heap.update D (Obj.mapSeq (·.push y)),toks:=s8.toks }:=
     IQ.turned (it:=D) (fun b o hb e=>(Heap.get?_update_other s8.heap (Obj.mapSeq (·.push y)) (Ne.symm hb)).trans e) hD8 hDC (.inr hleD) hDc fun p hp=>by
      have hp:p∈([]:List (Addr×Obj))++pinsAt fp s5.heap:=hp
      have:=fo p.1 (zu (by simpa using hp)).1
      exact Nat.ne_of_lt this
    refine⟨m',hm,i+1,ys++ [yv],its++ [y],_,σ6,H8,I9.pins_of fun p hp=>absurd hp (by simp),T.keep _ _ _ st5 fun b hb o e=>(I9.pin (b,o) (List.mem_append_right _ (Xc hb e))).1,fun b hb=> ?_,hD8,e9,rv3.append (.cons r8 .nil),w8⟩
    obtain⟨o,e⟩:=hp5 b hb
    exact(I9.pin (b,o) (List.mem_append_right _ (Xc hb e))).2.1
 exact codeAny_compStart_list (loop _ rfl) (T.self _ 0 _ _ _ st3 (loop _ rfl))
theorem zam (ok:CompOk X scope N k cap) (hi:PI X tg iter wi)
 (hg: ∀C fp s H,PG (cxComp X N scope C fp s H) tg (g C fp s H)) (ht: ∀C fp s H,PTs (cxComp X N scope C fp s H) ifs (tc C fp s H)) (he: ∀C fp s H,PE (cxComp X N scope C fp s H) elt (te C fp s H))
 (hc:X.calm=true:=by rfl) (hs: ∀x,foldedSetIterable iter X.env x=pure x:=by intro _;rfl):PE X (.ListComp elt [⟨tg,iter,ifs,0⟩] scope pos) (tComp k cap wi g tc te):=by
 intro pins s σ H Q I h
 rw [eval_ListComp]
 refine zx none hc ok hi hg ht he hs I h fun D C oC m H4 s4 I4 fC q hns=> ?_
 have hp:=I4.pin (C,oC) (List.mem_append_right _ (List.mem_append_right _ List.mem_cons_self))
 refine⟨m,hns _ hp.1,fun h' hsb=>⟨.ref D,H4,?_,rfl,q⟩⟩
 exact(I4.unpinned).turned (t':=s4.toks) (fun b o hb e=>hsb.extBut b o hb e) fC.1 fC.2.1 fC.2.2.2.1 fC.2.2.2.2.1 fC.2.2.2.2.2
theorem JF {i:Nat}{x:Str}{pos':Pos}(hN:X.N.Nodup) (hi':X.N[i]? =some x) (hx:Loc X.env.scope x) (ok:CompOk X scope N k cap) (hi:PI X tg iter wi)
 (hg: ∀C fp s H,PG (cxComp X N scope C fp s H) tg (g C fp s H)) (ht: ∀C fp s H,PTs (cxComp X N scope C fp s H) ifs (tc C fp s H)) (he: ∀C fp s H,PE (cxComp X N scope C fp s H) elt (te C fp s H))
 (hsw:swapsWith (.ListComp elt [⟨tg,iter,ifs,0⟩] scope p0) (some (.Name x pos')) pos.line X.env=pure true:=by rfl)
 (hc:X.calm=true:=by rfl) (hs: ∀x,foldedSetIterable iter X.env x=pure x:=by intro _;rfl) (hf:X.fn x=true\/X.env.scope.names.lookup x=some .local:=by first | exact .inl rfl | exact .inr rfl | assumption):
 PS X (.Assign [.Name x pos'] (.ListComp elt [⟨tg,iter,ifs,0⟩] scope p0) pos) (tAsg (tComp k cap wi g tc te) (gName i)):=by
 intro pins s σ H D I h
 rw [exec_Assign_Name_used _ _ _ _ hsw]
 refine wpAny_bind (wpAny_standAt (wpAny_bind ?_))
 show wpAny _ X.A (do let _ ←comprehension (.ListComp elt [⟨tg,iter,ifs,0⟩] scope p0) scope X.env _ (newList []) false (eval iter X.env) (some (assign (.Name x pos') X.env))) _ _ s
 refine wpAny_bind (wpAny_mono (zx (Q':=fun _ s'=>SP X pins D .next s') (some (assign (.Name x pos') X.env)) hc ok hi hg ht he hs I h fun D' C oC m H4 s4 I4 fC q hns=> ?_) (fun _ s' hq=>wpAny_pure (wpAny_pure hq)) fun _ _ e=>e)
 show wpAny _ X.A (assign (.Name x pos') X.env (.ref D')) _ _ _
 refine wpAny_assign_Name (Qe I4 hN hi' hx (v:= .ref D') rfl (fun s5 I5=> ?_) hf)
 have hp:=I5.pin (C,oC) (List.mem_append_right _ (List.mem_append_right _ List.mem_cons_self))
 refine⟨m,hns _ hp.1,fun h' hsb=>⟨_,H4,?_,q⟩⟩
 exact(I5.unpinned).turned (t':=s5.toks) (fun b o hb e=>hsb.extBut b o hb e) fC.1 fC.2.1 fC.2.2.2.1 fC.2.2.2.2.1 fC.2.2.2.2.2
end
end L2
namespace L2
open PySem PySem.Spec PyProof.Rows
def Itv (K:PySem.W.Frag) (a:Addr) (n:Nat):It:=
 ⟨fun i H=> ∃xs,SqL K H a xs/\xs.length=n/\i<n,fun i H x H'=>H'=H/\ ∀xs,SqL K H a xs->xs[n-1-i]? =some x,fun i _=>i=n⟩
theorem ZY {P:Program}{w:World}{K:PySem.W.Frag}{tg:Expr}(a it:Addr) (n:Nat):Turn P w K tg (Itv K a n) [it] it (fun i h=>h.IsRevIter it a ((n:Int)-1-((i:Nat):Int))) where
 mem:=by simp
 obj:=fun i h st b hb=>by
  have e:b=it:=by simpa using hb
  subst e
  obtain⟨o,e,c,d⟩:=st
  exact⟨o,e,fun v z=>by rw [d]at z;cases z⟩
 keep:=fun i h h' st k=>st.at fun o e=>k it (by simp) o e
 item:=by
  intro X hP hw hK hc i pins s σ H E I hf st hg
  subst hP hw hK
  obtain⟨xs,hq,hl,hi⟩:=hg
  obtain⟨its,rv,p,hz⟩:=I.list hq
  have hx:xs[n-1-i]? =some (xs[n-1-i]'(by omega)):=List.getElem?_eq_getElem (by omega)
  obtain⟨u,hu,ru⟩:=rv.get hx
  obtain⟨f0,f1,f2,f3,f4,f5⟩:=hf it (by simp)
  have e:(n:Int)-1-((i:Nat):Int)=((n-1-i:Nat):Int):=by omega
  have st:s.heap.IsRevIter it a ((n:Int)-1-((i:Nat):Int)):=st
  rw [e]at st
  refine wpAny_pyNext_rev_item st p.isList (x:=u) (by simpa using hu) fun h' st' sb=> ?_
  have I1:Inv X pins σ H { s with heap:=h' }:=I.turned (t':=s.toks) (fun b o hb e=>(sb.2 b hb).trans e) f0 f1 f3 f4 f5
  have e2:((n-1-i:Nat):Int)-1=(n:Int)-1-((i+1:Nat):Int):=by omega
  rw [e2]at st'
  obtain⟨o,e,c,d⟩:=id st'
  exact⟨u,rfl,zH (s:= { s with heap:=h' }) e c d (by decide) ⟨_,H,I1,ru,⟨rfl,fun ys hy=>by rw [I.list_inj hy hq];exact hx⟩,st',fun b hb=>(hf b hb).1⟩⟩
 done:=by
  intro X hP hw hK hc i pins s σ H E I hf st hg
  subst hP hw hK
  have hg:i=n:=hg
  subst hg
  obtain⟨f0,f1,f2,f3,f4,f5⟩:=hf it (by simp)
  have e:(i:Int)-1-((i:Nat):Int)= -1:=by omega
  have st:s.heap.IsRevIter it a ((i:Int)-1-((i:Nat):Int)):=st
  rw [e]at st
  exact wpAny_pyNext_rev_end (I.ok.hd hc) st fun h' eb=>⟨rfl,I.turned (t':=s.toks) (fun b o hb e=>eb b o hb e) f0 f1 f3 f4 f5⟩
 self:=fun _ _ _ _ _ st h=>wpAny_pyIter_revIter st h
section
variable {X:Cx}{tg:Expr}
def iRev (K:PySem.W.Frag) (ta:TA):TI:=fun σ H R=>ta σ H fun vs H1=> ∃a xs,vs= [.ref a]/\SqL K H1 a xs/\R (Itv K a xs.length) H1
theorem wK {a:Expr}{ta:TA}{p pos:Pos}(hg:Gl X "reversed") (hm:X.mg "reversed" =none) (ha:PA X [a] ta) (hs:starEach [a] X.env= [(false,eval a X.env)]:=by rfl):PI X tg (.Call (.Name "reversed" p) [a] [] pos) (iRev X.K ta):=by
 intro pins s σ H R I h
 refine Call_ (Jh I hg hm boot_reversed (PyProof.Rows.callWith_type1 (thn (ha pos pins s σ H _ I h) fun us s1 ⟨vs,H1,I1,r1,q1⟩=> ?_) hs rfl))
 obtain⟨b,xs,e,hq,q⟩:=q1
 subst e
 cases r1 with
 | cons r rr=>
  cases rr
  cases r
  obtain⟨its,rv,pl,hz⟩:=I1.list hq
  refine call_reversed_list pl.isList ?_
  have hlen:its.toArray.size=xs.length:=by rw [List.size_toArray];exact rv.length.symm
  rw [hlen]
  have hr:(s1.heap.push (revObj b ((xs.length:Int)-1))).IsRevIter s1.heap.objs.size b ((xs.length:Int)-1-((0:Nat):Int)):=by
   refine⟨_,Heap.get?_push_size _ rfl,rfl,?_⟩
   rw [show (xs.length:Int)-1-((0:Nat):Int)=(xs.length:Int)-1 by omega]<;>rfl
  refine wpAny_pyIter_revIter hr ?_
  refine⟨s1.heap.objs.size,[s1.heap.objs.size],_,_,H1,rfl,I1.kept (t':=s1.toks) fun b o e=>Heap.get?_push_of_some _ e,ZY b _ xs.length,hr,fun c hb=> ?_,q⟩
  have e:c=s1.heap.objs.size:=by simpa using hb
  subst e
  exact I1.fpOk (Nat.le_refl _) (I1.hok.fresh (Nat.le_refl _))
end
def rIsB (K:PySem.W.Frag):List V->Hp->VK->Prop:=fun xs H Q=> ∃x T t b,xs= [x,.ty T]/\TyOf K H x t/\PySem.W.kitOne K t (.type T)=some b/\Q (.bl b) H
structure Has (P:Program) (w:World) (K:PySem.W.Frag) (mg:Str->Option Value) (base:Heap) (k:Nat) (x:Str) (ps:List Str) (sp:Sp):Prop where
 ex: ∃f fd,FnOk P w K mg base CX0 k f fd ps sp/\Binds K fd ps []/\PySem.W.keepIn K (.ref f)=true/\mg x=some (.ref f)
end L2
namespace L2
open PySem PySem.Spec PyProof.Rows
def rNeNil (K:PySem.W.Frag):R2:=fun x y H Q=> ∃p q xs,x= .ref p/\y= .ref q/\SqL K H p xs/\SqL K H q []/\Q (.bl (!xs.isEmpty)) H
end L2
namespace L2
open PySem PySem.Spec PySem.Calls PySem.W PyProof.Rows
structure ExcK (K:Frag) (C:Addr):Prop where
 ga:findIn K (.ref C) "__getattribute__" =some (some (.builtin "BaseException.__getattribute__"))
 gn:findIn K (.ref C) "__getattr__" =some none
 cl:findIn K (.ref C) "__class__" =some (some (.builtin "object.__class__"))
 get:specialIn K (.builtin "object.__class__") "__get__" =some (some (.builtin "getset_descriptor.__get__"))
 set:takesIn K (.builtin "object.__class__")=some true
 obj:mroIn K C (.type "object")=some true
 bas:mroIn K C (.type "BaseException")=some true
 slf:kitCls K (.ref C) (.ref C)=some true
 cls:(clsIn K C).isSome=true
def ExcAt (h:Heap) (x C:Addr):Prop:= ∃o,h.get? x=some o/\o.cls= .ref C
theorem ExcAt.type {M:Model}{h:Heap}{x C:Addr}(e:ExcAt h x C):Looks M h (typeOf (.ref x)) (.ref C):=by
 obtain⟨o,h1,h2⟩:=e
 rw [← h2]
 exact(Looks.ld h1).andThen Looks.now
section
variable {prog:Program}{w:World}{A:Around}{E:Value->Shared->Prop}{s:Shared}{K:Frag}{x C:Addr}
theorem wA {R:Result->Shared->Prop}{tp:Value}(X:K.In s.heap) (I:ExcAt s.heap x C) (Z:ExcK K C) (hr:R (.ok (.ret (.ref C))) s):
 codeAny (model prog w) A (.call (.builtin "getset_descriptor.__get__") ⟨[.builtin "object.__class__",.ref x,tp],[]⟩) R s:=by
 obtain⟨h0,gg,dd,tt,oo⟩:=s
 have La:=I.type (M:=model prog w)
 have Lb:=looks_mroIn (M:=model prog w) X Z.obj
 refine codeAny_call_builtin KF.slot_gs.plain KF.entry_gs (KF.slot_gs.check _ _ _ _ _ _ _ _ KF.type_class (KF.args_gs _ _ _) ?_)
 unfold Builtin.«getset_descriptor.__get__» Builtin.Getset_descriptor.descrGet
 rw [dga_obj]
 refine wpAny_bind (wpAny_pure ?_)
 unfold Builtin.Getset_descriptor.descrGetter Builtin.Getset_descriptor.descrCheckInstance Builtin.Getset_descriptor.descrNameAndClass isInstance
 simp only [KF.owner_class]
 repeat lk
 refine⟨Code.quiet_builtin _ (by decide +kernel),codeAny_builtin KF.entry_class ?_⟩
 unfold Builtin.«object.__class__» shownTypeOf
 repeat lk
 exact hr
theorem Xu {Q:Option Value->Shared->Prop}(X:K.In s.heap) (I:ExcAt s.heap x C) (Z:ExcK K C) (hq:Q (some (.ref C)) { s with toks:=s.toks+1 }):
 wpAny (model prog w) A (getAttr? (.ref x) "__class__") Q E s:=by
 obtain⟨h0,gg,dd,tt,oo⟩:=s
 have La:=I.type (M:=model prog w)
 have Lb:=looks_findIn (M:=model prog w) X Z.ga
 have Lc:=looks_findIn (M:=model prog w) X Z.gn
 have Ld:=looks_findIn (M:=model prog w) X Z.cl
 have Le:=looks_specialIn (M:=model prog w) X Z.get
 have Lf:=looks_takesIn (M:=model prog w) X Z.set
 have Lg:=looks_mroIn (M:=model prog w) X Z.bas
 have found:Looks (model prog w) h0 (Builtin.ObjectAttr.find (.ref x) (.ref C) "__class__") (.bind (.builtin "getset_descriptor.__get__") (.builtin "object.__class__")):=by
  unfold Builtin.ObjectAttr.find
  refine Ld.andThen ?_
  refine Looks.andThen (show Looks (model prog w) h0 (Builtin.ObjectAttr.getOf (some (.builtin "object.__class__"))) (some (.builtin "getset_descriptor.__get__"))from Le) ?_
  unfold Builtin.ObjectAttr.dataDescriptor?
  refine Looks.andThen (a:=some (.builtin "getset_descriptor.__get__",.builtin "object.__class__")) (Lf.andThen ?_) (Looks.tag Looks.now)
  exact Looks.now
 have key: ∀(A:Around) (tk:Tok) (Q:Fin->Shared->Prop) (E:Value->Shared->Prop) (t:Nat),Q (.done (.ret (.ref C))) ⟨h0,gg,dd,t,oo⟩ →
  wpAny (model prog w) A (Builtin.«object.__getattribute__» ⟨[.ref x,.str "__class__" tk],[]⟩) Q E ⟨h0,gg,dd,t,oo⟩:=fun A tk Q E t h1=>by
  unfold Builtin.«object.__getattribute__»
  refine wpAny_bind (wpAny_of_eq (a:=(Value.ref x,[Value.str "__class__" tk])) rfl ?_)
  dsimp only
  refine wpAny_bind (wpAny_of_eq (a:=("__class__" :Str)) rfl ?_)
  refine wpAny_bind (La.at (wpAny_bind (found.at ?_)))
  show wpAny _ _ (Builtin.ObjectAttr.bindTo _ _ _ _) _ _ _
  unfold Builtin.ObjectAttr.bindTo
  dsimp only
  exact wpAny_bind (wpAny_holding (wpAny_call (wA X I Z (wpAny_pure h1))))
 have chk: ∀(A:Around) (nv:Value) (Q:Unit->Shared->Prop) (E:Value->Shared->Prop) (t:Nat),Q () ⟨h0,gg,dd,t,oo⟩ →
  wpAny (model prog w) A (checkBuiltinCall "BaseException.__getattribute__" ⟨[.ref x,nv],[]⟩) Q E ⟨h0,gg,dd,t,oo⟩:=fun A nv Q E t h1=>by
  have k1:builtinKind "BaseException.__getattribute__" =some .slot:=by decide +kernel
  have k2:splitId "BaseException.__getattribute__" =some ("BaseException", "__getattribute__"):=by decide +kernel
  have k3:=F.args_bexc_ga (.ref x) nv
  simp only [checkBuiltinCall,k1,k2]
  refine wpAny_bind ((La.andThen Lg:Looks (model prog w) h0 (isInstance (.ref x) (.type "BaseException")) true).at ?_)
  rw [if_neg (by decide)]
  exact wpAny_of_eq k3 h1
 unfold getAttr? getAttrBy? getAttrBy
 refine wpAny_bind (wpAny_mkText (wpAny_bind (wpAny_attempt (wpAny_holding (wpAny_bind (La.at (wpAny_bind (Lb.at ?_))))))))
 show wpAny _ _ (getAttrByItsOwn _ _ _ _ _ _) _ _ _
 unfold getAttrByItsOwn hookBefore
 refine wpAny_bind (Lc.at ?_)
 refine wpAny_bind (wpAny_attempt (wpAny_holding ?_))
 show wpAny _ _ (boundAndCalled (.builtin "BaseException.__getattribute__") (.ref x) _) _ _ _
 unfold boundAndCalled
 refine wpAny_bind (wpAny_of_eq (F.excAttr_ValueError.ga.bind _) ?_)
 refine wpAny_call (codeAny_call_builtin F.excAttr_ValueError.ga.plain F.entry_bexc_ga (chk _ _ _ _ _ (key _ _ _ _ _ ?_)))
 show wpAny _ _ (handedOut (.ref C)) _ _ _
 exact handed_on rfl (wpAny_pure hq)
end
theorem zp {K:Frag}{x C:Addr}(Z:ExcK K C):KitX K (.ref x) (.ref C) (fun h=>ExcAt h x C) where
 ty:=fun _ _ _ I=>I.type
 it:=fun M h X _=>(kit_cls (M:=M) X Z.slf).2.1
 ne:=fun h tp dd its n sl X htp=>by
  rw [Bool.eq_false_iff]
  intro q
  have e:C=tp:=Value.ref.inj (beq_iff_eq.mp q)
  subst e
  have z:=Z.cls
  cases hl:K.lookup C with
  | none=>simp [clsIn,hl]at z
  | some o=>
   have z2:=X C o hl
   rw [htp]at z2
   cases z2
   simp [clsIn,hl]at z
 ca:=fun X I k=>Xu X I Z k
def excO (x C:Addr):HO:= .ext fun h=>ExcAt h x C
theorem zaf {P:Program}{w:World}{H:Hp}{h:Heap}{x C:Addr}(e:ExcAt h x C):ObjOk P w H h x (excO x C):=by
 refine⟨e,let ⟨o,h1,_⟩:=e; ⟨o,h1⟩,fun h1 h2 ⟨o,a,b⟩ k=>⟨o,k o a,b⟩⟩
def rIsX (K:Frag):List V->Hp->VK->Prop:=fun xs H Q=> ∃x C b,ExcK K C/\H x=some (excO x C) ∧
 ((∃ (D:Addr),xs= [.ref x,.ref D]/\kitOne K (.ref C) (.ref D)=some b)\/(∃ (T:String),xs= [.ref x,.ty T]/\kitOne K (.ref C) (.type T)=some b) ∨
   ∃(t:Addr) (ds:List Addr),xs= [.ref x,.ref t]/\H t=some (.tup (ds.map V.ref))/\kitAny K (.ref C) (ds.map Value.ref)=some b)/\Q (.bl b) H
theorem Zr: ∀ {ds:List Addr}{us:List Value},Vals (ds.map V.ref) us->us=ds.map Value.ref
 | [],_,.nil=>rfl
 | _::_,_,.cons r t=>by
  cases r
  rw [Zr t]
  rfl
theorem zE {X:Cx}:CallR X (.builtin "isinstance") (rIsX X.K):=by
 intro pins s σ H xs us Q I r h
 obtain⟨x,C,b,Z,hx,hc,q⟩:=h
 have ex:ExcAt s.heap x C:=(I.hok x _ hx).1
 rcases hc with⟨D,rfl,e⟩ | ⟨T,rfl,e⟩ | ⟨t,ds,rfl,ht,e⟩
 ·obtain⟨u,w',rfl,rx,ry⟩:=Zy r
  cases rx
  cases ry
  exact kia_one (zp Z) I.kIn ex e (fun z=>nomatch z) fun tk=>⟨.bl b,H,I.tok tk,rfl,q⟩
 ·obtain⟨u,w',rfl,rx,ry⟩:=Zy r
  cases rx
  cases ry
  exact kia_one (zp Z) I.kIn ex e (fun z=>nomatch z) fun tk=>⟨.bl b,H,I.tok tk,rfl,q⟩
 ·obtain⟨u,w',rfl,rx,ry⟩:=Zy r
  cases rx
  cases ry
  obtain⟨_,its,rv,o,h1,h2,_,n,h3⟩:=I.hok t _ ht
  rw [Zr rv]at h3
  obtain⟨c0,d0,dt,sl⟩:=o
  simp only at h2 h3
  subst h2 h3
  exact kia_tup (zp Z) I.kIn ex h1 e (fun z=>nomatch z) fun tk=>⟨.bl b,H,I.tok tk,rfl,q⟩
end L2
namespace L2
open PySem PySem.Spec PySem.Calls PySem.W PyProof.Rows
theorem ObjOk.there {P:Program}{w:World}{H:Hp}{h:Heap}{a:Addr}{o:HO}(x:ObjOk P w H h a o): ∃u,h.get? a=some u:=by
 cases o with
 | lst xs=>exact⟨_,x.2.choose_spec.choose_spec.2⟩
 | tup xs=>obtain⟨_,_,_,u,e,_⟩:=x;exact⟨u,e⟩
 | dK kvs=>obtain⟨_,_,_,_,u,_,_,e,_⟩:=x;exact⟨u,e⟩
 | dT kvs=>obtain⟨_,_,_,_,u,_,_,e,_⟩:=x;exact⟨u,e⟩
 | set S n=>obtain⟨u,_,_,_,e,_⟩:=x;exact⟨u,e⟩
 | ins C dx fs=>obtain⟨_,_,_,e,_⟩:=x;exact⟨_,e⟩
 | own y=>exact x
 | xd fs=>obtain⟨_,⟨u,_,_,e,_⟩,_⟩:=x;exact⟨u,e⟩
 | rng lo hi=>obtain⟨_,_,_,e⟩:=x;exact⟨_,e⟩
 | frz ob u=>exact⟨_,x.1⟩
 | tbl ps=>exact⟨_,show h.get? a=some _ from x⟩
 | met f y=>exact⟨_,show h.get? a=some _ from x⟩
 | ext φ=>exact x.2.1
def CX1 (P:Program) (w:World):CXT:=fun outer H s E e s'=> ∃(x C t:Addr) (B:Heap) (H':Hp),e= .ref x/\s'.os=s.os/\AllBare s'.gens ∧
 Heap.FlyingW B outer x (.ref C) (.ref t) s'.heap/\Un (frs outer) [] H H' s.heap s'.heap/\HOk P w H' s'.heap ∧
 (∀ b o,s'.heap.get? b=some o->((∃ u,H' b=some u)\/ ∃u,s.heap.get? b=some u)->b∉frs outer->B.get? b=some o)/\s.heap.get? x=none/\E (.ref C) none H'
section
variable {P:Program}{w:World}{K:Frag}{mg:Str->Option Value}{base:Heap}{N:List Str}{qual:Str}{scope:Scope}{f:Addr}{cd:Value}{A:Around}{outer:List Env}{s:Shared}{H:Hp}{E:XK}
theorem Jy {pins:List (Addr×Obj)}{σ:St}{H1:Hp}{s2:Shared}{h':Heap}{e C:Addr}{vs:List Value}(I:Inv (cxOf (CX1 P w) P w K mg base N qual scope f cd A outer s H E) pins σ H1 s2)
 (hx:Heap.MadeExcOf s2.heap h' e (.ref C) vs) (q:E (.ref C) none H1):(cxOf (CX1 P w) P w K mg base N qual scope f cd A outer s H E).xe (.ref e) { s2 with heap:=h' }:=by
 have ff:s2.heap.FunFrames base (envOfC qual scope s.heap.objs.size f cd::outer):=I.stack
 have fb:=funFrames_hide (as:=frs (envOfC qual scope s.heap.objs.size f cd::outer)) ff fun env he a ha=>List.mem_filterMap.mpr ⟨env,he,ha⟩
 have free: ∀b∈frs (envOfC qual scope s.heap.objs.size f cd::outer),H1 b=none:=I.stkFree
 refine wpAny_leaves_madeW (L:=s.heap.objs.size) I.ok.frames rfl (fun b o z=>of_hideAll _ z) fb hx fun h2 t x1 x2 x3 x4=> ?_
 have inB: ∀b o,s2.heap.get? b=some o->b∉frs (envOfC qual scope s.heap.objs.size f cd::outer)->(hideAll s2.heap (frs (envOfC qual scope s.heap.objs.size f cd::outer))).get? b=some o:=fun b o z n=>hideAll_get _ z n
 have toH: ∀b o,s2.heap.get? b=some o->b∉frs (envOfC qual scope s.heap.objs.size f cd::outer)->h2.get? b=some o:=fun b o z n=>x1.1 b o (inB b o z n)
 have slotH: ∀b o,b∈frs (envOfC qual scope s.heap.objs.size f cd::outer)->s2.heap.get? b=some o-> ∃sl,h2.get? b=some { o with slots:=sl }:=fun b o hb z=>by
  obtain⟨_,o',z',nf⟩:=ff.mem hb
  rw [z]at z'
  cases z'
  exact x4 b o (hx.keeps b o z) nf
 have cut: ∀b,b∉frs outer->b≠s.heap.objs.size->b∉frs (envOfC qual scope s.heap.objs.size f cd::outer):=fun b n1 n2 hb=>by
  rcases List.mem_cons.mp (show b∈s.heap.objs.size::frs outer from hb)with z | z
  ·exact n2 z
  ·exact n1 z
 have old: ∀b o,s.heap.get? b=some o->b≠s.heap.objs.size:=fun b o z=>Nat.ne_of_lt (Heap.lt_size z)
 have trk: ∀b u,H1 b=some u->b∉frs (envOfC qual scope s.heap.objs.size f cd::outer):=fun b u z hb=>by rw [free b hb]at z;cases z
 refine⟨e,C,t,_,H1,rfl,I.os,I.bare,x1,⟨fun b o z n hb hx=> ?_,fun b o z n hb hx=> ?_,I.base.free,fun b o z hx=> ?_,I.base.tups,I.base.frzs,I.base.tbls⟩,fun b u z=> ?_,fun b o z hc hb=> ?_,?_,q⟩
 ·exact toH b o (I.base.keep b o z n hb hx) (cut b hb (old b o z))
 ·obtain⟨sl,z1⟩:=I.base.slot b o z n hb hx
  obtain⟨sl2,z2⟩:=slotH b _ (List.mem_cons_of_mem _ hb) z1
  exact⟨sl2,z2⟩
 ·obtain⟨o',z1⟩:=I.base.there b o z hx
  by_cases hb:b∈frs (envOfC qual scope s.heap.objs.size f cd::outer)
  ·obtain⟨sl,z2⟩:=slotH b o' hb z1
   exact⟨_,z2⟩
  ·exact⟨o',toH b o' z1 hb⟩
 ·refine(I.hok b u z).stay (fun c v hc z1=>toH c v z1 ?_) (fun _ z1=>z1) fun _ _ z1=>z1
  rcases hc with rfl | hc
  ·exact trk c u z
  ·exact trk c _ hc
 ·have two: ∃o2,s2.heap.get? b=some o2/\b∉frs (envOfC qual scope s.heap.objs.size f cd::outer):=by
   rcases hc with⟨u,hu⟩ | ⟨u,hu⟩
   ·obtain⟨o2,z2⟩:=(I.hok b u hu).there
    exact⟨o2,z2,trk b u hu⟩
   ·obtain⟨o2,z2⟩:=I.base.there b u hu (by show b∉([]:List Addr);simp)
    exact⟨o2,z2,cut b hb (old b u hu)⟩
  obtain⟨o2,z2,nb⟩:=two
  have z3:=toH b o2 z2 nb
  rw [show h2.get? b=some o from z]at z3
  cases z3
  exact inB b _ z2 nb
 ·cases z:s.heap.get? e with
  | none=>rfl
  | some u=>
   obtain⟨o2,z2⟩:=I.base.there e u z (by show e∉([]:List Addr);simp)
   rw [hx.new]at z2
   cases z2
end
theorem jV {K:Frag}{h:Heap}{C:Addr}{bmB:List Value}{newId:String}(X:K.In h) (q:excIn K C bmB newId=true):
 ∃bm Na nm qn bs hd sn sub ab col dd k0 k1 k2 k3 k5 mN,h.get? C=some (excClassObj nm qn C Na bs bm hd sn sub ab col dd k0 k1 k2 k3 k5 newId)/\h.Ns Na mN/\mN "__init__" =none/\OwnTail h bmB bm:=by
 unfold excIn at q
 split at q
 next dd cd sl hl=>
  split at q
  next C2 tl k0 k1 k2 k3 nn k5 em es=>
   simp only [Bool.and_eq_true,beq_iff_eq,Bool.not_eq_true']at q
   obtain⟨⟨⟨⟨⟨rfl,rfl⟩,e1⟩,e2⟩,e3⟩,e4⟩:=q
   obtain⟨nm,bs,mro,nsA,qn,hd,sn,sub,ab,col,del⟩:=cd
   dsimp only at em e1 e3 e4
   subst em e1
   have es2:sl= #[k0,k1,k2,k3,some (.builtin nn),k5]:=by
    cases sl with
    | mk l=>exact congrArg Array.mk es
   subst es2
   exact⟨tl,nsA,nm,qn,bs,hd,sn,sub,ab,col,dd,k0,k1,k2,k3,k5,_,X _ _ hl,.of_isNs (isNs_of_in X e3),nsMap_none_of_in X e3 e4,tail_of_in X e2⟩
  next=>cases q
 next=>cases q
section
variable {P:Program}{w:World}{K:Frag}{mg:Str->Option Value}{base:Heap}{N:List Str}{qual:Str}{scope:Scope}{f:Addr}{cd:Value}{A:Around}{outer:List Env}{s:Shared}{H:Hp}{E:XK}
abbrev veTail:List Value:= [.type "ValueError",.type "Exception",.type "BaseException",.type "object"]
def tRaise (C:Addr) (E:XK) (t:TA):TS:=fun _ σ H=>t σ H fun vs H1=>vs.length<=sizeLine/\E (.ref C) none H1
theorem XW {x:Str}{np cpos pos:Pos}{e:Expr}{es:List Expr}{t:TA}{C:Addr}(hq:excIn K C veTail "ValueError.__new__" =true) (hm:mg x=some (.ref C)) (hg:Gl (cxOf (CX1 P w) P w K mg base N qual scope f cd A outer s H E) x)
 (ha:PA (cxOf (CX1 P w) P w K mg base N qual scope f cd A outer s H E) (e::es) t)
 (he:starEach (e::es) (envOfC qual scope s.heap.objs.size f cd)=(false,eval e (envOfC qual scope s.heap.objs.size f cd))::starEach es (envOfC qual scope s.heap.objs.size f cd):=by rfl)
 (hpl:(backTo cpos (starEach es (envOfC qual scope s.heap.objs.size f cd))).any (·.1)=false:=by rfl) (hd:(x==("__debug__" :Str))=false:=by decide):
 PS (cxOf (CX1 P w) P w K mg base N qual scope f cd A outer s H E) (.Raise (some (.Call (.Name x np) (e::es) [] cpos)) none pos) (tRaise C E t):=by
 intro pins s1 σ H1 D I h
 obtain⟨bm,Na,nm,qn,bs,hdc,sn,sub,ab,col,dd,k0,k1,k2,k3,k5,mN,hC,hN,hni,T⟩:=jV I.mod.kin hq
 refine wpAny_Raise_call_subT (C:=C) (nm:=nm) (q:=qn) (N:=Na) (bs:=bs) (bm:=bm) (hdct:=hdc) (sn:=sn) (sub:=sub) (ab:=ab) (col:=col) (dd:=dd) (k0:=k0) (k1:=k1) (k2:=k2) (k3:=k3) (k5:=k5)
  PySem.F.excBase_ValueError (mN:=mN) (T.hasType PySem.F.excBase_ValueError.hasBase) (I.ok.hd rfl) ?_ hni (jk I hg hm ⟨rfl,?_⟩ hd)
 ·show(backTo cpos (starEach (e::es) (envOfC qual scope s.heap.objs.size f cd))).any (·.1)=false
  rw [he]
  show(false||(backTo cpos (starEach es (envOfC qual scope s.heap.objs.size f cd))).any (·.1))=false
  rw [hpl]
  rfl
 ·have hA:=ha cpos pins s1 σ H1 _ I h
  show wpAny (model P w) _ (evalArgs (.ref C) true (backTo cpos (starEach (e::es) (envOfC qual scope s.heap.objs.size f cd))) []) _ _ s1
  have hA':wpAny (model P w) (A.deeper (envOfC qual scope s.heap.objs.size f cd)) (spliced (backTo cpos (starEach (e::es) (envOfC qual scope s.heap.objs.size f cd)))) _ _ s1:=hA
  rw [he]at hA' ⊢
  exact Calls.evalArgs_plain (thn hA' fun us s2 ⟨vs,H2,I2,r2,z,q2⟩=>⟨rfl,by show us.length<=sizeLine;rw [← r2.length];exact z,I2.bk _ _ hC,hN.keeps I2.bk,T.keeps I2.bk,fun h' a hm'=>Jy I2 hm' q2⟩)
theorem Fun.okX {P:Program}{w:World}{K:Frag}{mg:Str->Option Value}{base:Heap}{x qual:Str}{st:Stmt}{f:Addr}{fd:FuncData}{N ps:List Str}{k:Nat}{sp:Sp}(F:Fun K x qual st f fd) (S:FnScope N ps (defScope st)) (len: ∀vs H Q E,sp vs H Q E->vs.length=ps.length)
 (hbody: ∀(cdv:Value) (A:Around) (outer:List Env) (s:Shared) (H:Hp) (vs:List V) (Q:VK) (E:XK),Room k (A.deeper (envOfC qual (defScope st) s.heap.objs.size f cdv))->sp vs H Q E →
   ∃t,PSs (cxOf (CX1 P w) P w K mg base N qual (defScope st) f cdv A outer s H E) (defBody st) t/\t { nx:=fun _ H'=>Q .non H',rt:=Q } (start N vs) H):FnOk P w K mg base (CX1 P w) (k+1) f fd ps sp:=by
 obtain⟨oc,od,kV,doc,pm,an,cdv,ct,osl,rfl,lk,hcd⟩:=F.ex
 exact xaL lk hcd S len fun A outer s H vs Q E hr hsp=>hbody cdv A outer s H vs Q E hr hsp
theorem qaN:PassesOwn (model P w) (A.deeper (envOfC qual scope s.heap.objs.size f cd)) (envOfC qual scope s.heap.objs.size f cd) (cxOf (CX1 P w) P w K mg base N qual scope f cd A outer s H E).xe:=
 PassesOwn.leaving (M:=model P w) (A:=A.deeper (envOfC qual scope s.heap.objs.size f cd)) (env:=envOfC qual scope s.heap.objs.size f cd) (Q₁:=fun e s''=>CX1 P w outer H s E e s'') (E₁:=fun e' s''=>CX1 P w outer H s E e' s'')
end
end L2
namespace L2
open PySem PySem.Spec PySem.Calls PySem.W PyProof.Rows
section
variable {X:Cx}{pins:List (Addr×Obj)}{σ:St}{H:Hp}{s:Shared}
theorem Inv.reframe {σ':St}{h':Heap}{m':Str->Option Value}{t':Nat}(I:Inv X pins σ H s) (hs:Heap.SameBut X.env.locals s.heap h') (hn:h'.Ns X.env.locals m')
 (hl: ∀(i:Nat) (x:Str) (v:V),X.N[i]? =some x->σ'[i]? =some (some v)->Vis X.env.scope x-> ∃u,RelV v u/\Look X.env h' m' x u) (len:σ'.length=X.N.length):Inv X pins σ' H { s with heap:=h',toks:=t' }:=by
 have far: ∀b o,X.s₀.heap.get? b=some o->b≠X.env.locals:=fun b o e=>Nat.ne_of_lt (Nat.lt_of_lt_of_le (Heap.lt_size e) I.ok.above)
 refine⟨I.ok,I.os,I.bare,⟨fun b o e n hb hx=>(hs.2 b (far b o e)).trans (I.base.keep b o e n hb hx),fun b o e n hb hx=> ?_,I.base.free,fun b o e hx=> ?_,I.base.tups,I.base.frzs,I.base.tbls⟩,⟨m',hn,hl⟩,fun y c e=> ?_,I.free,I.freeC,fun p hp=> ?_,fun b u e=> ?_,len⟩
 ·obtain⟨sl,e1⟩:=I.base.slot b o e n hb hx
  exact⟨sl,(hs.2 b (far b o e)).trans e1⟩
 ·obtain⟨o',e1⟩:=I.base.there b o e hx
  exact⟨o',(hs.2 b (far b o e)).trans e1⟩
 ·obtain⟨v,z⟩:=I.cell y c e
  exact⟨v,z.sameBut hs (I.cne y c e)⟩
 ·obtain⟨e,n,ne,r⟩:=I.pin p hp
  exact⟨(hs.2 p.1 ne).trans e,n,ne,r⟩
 ·refine(I.hok b u e).stay (fun c v hc z=>(hs.2 c ?_).trans z) (fun _ z=>z) fun _ _ z=>z
  intro hcl
  rcases hc with hc | hc
  ·rw [← hc,hcl,I.free]at e;cases e
  ·rw [hcl,I.free]at hc;cases hc
theorem Inv.adoptO {D:Addr}{o:HO}(I:Inv X pins σ H s) (h0:H D=none) (h1:D≠X.env.locals) (h4: ∀x c,X.env.cells.lookup x=some c->c≠D) (h5: ∀p∈X.pn++pins,p.1≠D) (old: ∀b u,X.s₀.heap.get? b=some u->b≠D)
 (new:ObjOk X.prog X.w (upd H D o) s.heap D o):Inv X pins σ (upd H D o) s:=by
 have up: ∀b u,H b=some u->upd H D o b=some u:=fun b u q=>by rw [qa (xa q h0)];exact q
 refine⟨I.ok,I.os,I.bare,⟨I.base.keep,I.base.slot,fun b u e n hx=> ?_,I.base.there,fun b xs q=>up b _ (I.base.tups b xs q),fun b u v q=>up b _ (I.base.frzs b u v q),fun b ps q=> ?_⟩,I.loc,I.cell,?_,fun x c q=> ?_,fun p hp=> ?_,fun b u q=> ?_,I.len⟩
 ·rw [qa (old b u e)];exact I.base.free b u e n hx
 ·obtain⟨more,q'⟩:=I.base.tbls b ps q
  exact⟨more,up b _ q'⟩
 ·rw [qa (Ne.symm h1)];exact I.free
 ·rw [qa (h4 x c q)];exact I.freeC x c q
 ·obtain⟨a1,a2,a3⟩:=I.pin p hp
  exact⟨a1,by rw [qa (h5 p hp)];exact a2,a3⟩
 ·by_cases hb:b=D
  ·subst hb
   rw [xb]at q
   cases q
   exact new
  ·rw [qa hb]at q
   exact(I.hok b u q).stay (fun _ _ _ z=>z) (fun c z=>up c _ z) fun c xs z=>up c _ z
theorem JN {M:Model}{A:Around}{E:Value->Shared->Prop}{Q:Unit->Shared->Prop}{i:Nat}{n:Str}{hp:Pos}(I:Inv X pins σ H s) (hN:X.N.Nodup) (hi:X.N[i]? =some n) (hl:X.env.scope.names.lookup n=some .local)
 (h: ∀s',Inv X pins (σ.set i none) H s'->Q () s'):wpAny M A (do bindName X.env n .none;unbindBehindTheSuite X.env n hp) Q E s:=by
 have hcls:(X.env.scope.kind== .class||(X.env.scope.kind== .module&&X.env.locals != X.env.globals))=false:=by rw [I.ok.kind];rfl
 have hk:X.env.kindOf n=some .local:=hl
 have hiσ:i<σ.length:=by rw [I.len];exact(List.getElem?_eq_some_iff.mp hi).1
 refine wpAny_bind (wpAny_bindName (Qe I hN hi (.inl hl) (v:= .non) rfl (fun s1 I1=> ?_) (.inr hl)))
 obtain⟨m,hn,hloc⟩:=I1.loc
 have hsome:(m n).isSome=true:=by
  obtain⟨u,_,l⟩:=hloc i n .non hi (List.getElem?_set_self hiσ) (.inl hl)
  rcases l with⟨_,e⟩ | ⟨z,_⟩
  ·rw [e];rfl
  ·rcases z with z | z<;>(rw [hk]at z;cases z)
 unfold unbindBehindTheSuite
 refine wpAny_onRaise ?_
 unfold unbindName
 refine wpAny_bind (wpAny_point (wpAny_bind ?_))
 unfold deleteName
 simp only [hk,hcls]
 rw [if_neg (by decide)]
 refine wpAny_bind (wpAny_nsDel_keeps hn fun h2 v hn2 hs2=> ?_)
 rw [hsome]
 refine wpAny_pure (wpAny_point (h _ ?_))
 refine I1.reframe (t':=s1.toks) hs2 hn2 (fun j y v' e1 e2 e3=> ?_) (by rw [List.length_set];exact I.len)
 have hji:j≠i:=fun z=>by
  subst z
  rw [List.getElem?_set_self hiσ]at e2
  cases e2
 rw [List.getElem?_set_ne (Ne.symm hji)]at e2
 obtain⟨u,r,l⟩:=hloc j y v' e1 (by rw [List.getElem?_set_ne (Ne.symm hji)];exact e2) e3
 refine⟨u,r,?_⟩
 rcases l with⟨k,e⟩ | ⟨k,c,e,z⟩
 ·refine .inl ⟨k,?_⟩
  have:y≠n:=fun e=>hji (jr hN e1 (e▸hi))
  simp [this,e]
 ·exact .inr ⟨k,c,e,z.sameBut hs2 (I1.cne y c e)⟩
end
theorem zA {prog:Program}{w:World}{A:Around}{E:Value->Shared->Prop}{s:Shared}{K:Frag}{x C W:Addr}{Q:Bool->Shared->Prop}(X:K.In s.heap) (I:ExcAt s.heap x C) (z:kitCls K (.ref C) (.ref W)=some true) (hb:mroIn K W (.type "BaseException")=some true) (hq:Q true s):
 wpAny (model prog w) A (excMatches (.ref x) (.ref W)) Q E s:=by
 obtain⟨h0,gg,dd,tt,oo⟩:=s
 obtain⟨La,Lb,Lc⟩:=kit_cls (M:=model prog w) X z
 have Ld:=looks_mroIn (M:=model prog w) X hb
 have Le:=I.type (M:=model prog w)
 have Lf:Looks (model prog w) h0 (isInstance (.ref W) (.type "tuple")) false:=La.andThen (Looks.of_pure tc_notTuple)
 have Lg:Looks (model prog w) h0 (isExcClass (.ref W)) true:=Lb.andThen Ld
 unfold excMatches
 repeat lk
 exact hq
theorem JA {X:Cx}{pins:List (Addr×Obj)}{σ:St}{H1 H':Hp}{s1 s':Shared}{B h6:Heap}{x C t:Addr}(I1:Inv X pins σ H1 s1) (os:s'.os=s1.os) (bare:AllBare s'.gens) (un:Un (frs X.stack) [] H1 H' s1.heap s'.heap) (hok:HOk X.prog X.w H' s'.heap)
 (comp: ∀b o,s'.heap.get? b=some o->((∃ u,H' b=some u)\/ ∃u,s1.heap.get? b=some u)->b∉frs X.stack->B.get? b=some o) (fl:Heap.FlyingW B X.stack x (.ref C) (.ref t) h6) (sm:s'.heap.UpToSlots h6):Inv X pins σ H' { s' with heap:=h6 }:=by
 have trk: ∀c u,H' c=some u->c∉frs X.stack:=fun c u z hc=>by
  obtain⟨_,o,e,_⟩:=I1.stack.mem hc
  have:=un.free c o e (I1.stkFree c hc) (by simp)
  rw [this]at z
  cases z
 refine I1.call' (s':= { s' with heap:=h6 }) (ch:= []) os ⟨fun b o e n hb hx=> ?_,fun b o e n hb hx=> ?_,un.free,fun b o e hx=> ?_,un.tups,un.frzs,un.tbls⟩ (fun b u e=> ?_) bare fun b hb=>absurd hb (by simp)
 ·exact fl.1 b o (comp b o (un.keep b o e n hb hx) (.inr ⟨o,e⟩) hb)
 ·obtain⟨sl,e1⟩:=un.slot b o e n hb hx
  obtain⟨_,o',e2,nf⟩:=I1.stack.mem hb
  rw [e]at e2
  cases e2
  obtain⟨sl2,e3⟩:=sm b _ e1 nf
  exact⟨sl2,e3⟩
 ·obtain⟨o',e1⟩:=un.there b o e hx
  by_cases hb:b∈frs X.stack
  ·obtain⟨_,o2,e2,_⟩:=fl.2.2.1.mem hb
   exact⟨o2,e2⟩
  ·exact⟨o',fl.1 b o' (comp b o' e1 (.inr ⟨o,e⟩) hb)⟩
 ·refine(hok b u e).stay (fun c v hc z=> ?_) (fun _ z=>z) fun _ _ z=>z
  rcases hc with rfl | hc
  ·exact fl.1 c v (comp c v z (.inl ⟨u,e⟩) (trk c u e))
  ·exact fl.1 c v (comp c v z (.inl ⟨_,hc⟩) (trk c _ hc))
def tTry (K:Frag) (W:Addr) (sp:Sp) (t:TA) (ie iv:Nat):TS:=fun D σ H=>t σ H fun vs H1=>sp vs H1 (fun _ H2=>D.nx σ H2) fun cls _ H2=> ∃C,cls= .ref C/\ExcK K C/\kitCls K (.ref C) (.ref W)=some true ∧
 ∀x,H2 x=none->D.nx (((σ.set ie (some (.ref x))).set iv (some (.ref x))).set ie none) (upd H2 x (excO x C))
theorem jH {X:Cx}{k:Nat}{f W:Addr}{fd:FuncData}{ps:List Str}{sp:Sp}{fx wx n v:Str}{ie iv:Nat}{p cp ep wp vp np ap hp pos:Pos}{e:Expr}{es:List Expr}{t:TA}
 (hX: ∀a b, ¬X.xe a b) (hst:X.stack=X.env::X.outer) (hf:X.env.frame=some X.env.locals) (hex:X.ex= []) (F:FnOk X.prog X.w X.K X.mg X.base (CX1 X.prog X.w) k f fd ps sp) (hr:Room k X.A) (hg:Gl X fx) (hm:X.mg fx=some (.ref f))
 (hk:keepIn X.K (.ref f)=true) (hb:Binds X.K fd ps []) (ha:PA X (e::es) t) (hW:Gl X wx) (hmW:X.mg wx=some (.ref W)) (hbW:mroIn X.K W (.type "BaseException")=some true) (hN:X.N.Nodup) (hie:X.N[ie]? =some n) (hnl:X.env.scope.names.lookup n=some .local)
 (hiv:X.N[iv]? =some v) (hvl:X.env.scope.names.lookup v=some .local)
 (hs:swapsWith (.Call (.Name fx p) (e::es) [] cp) none ep.line X.env=pure false:=by rfl) (hs2:swapsWith (.Name n np) (some (.Name v vp)) ap.line X.env=pure false:=by rfl)
 (hdb:(fx==("__debug__" :Str))=false:=by decide) (hdW:(wx==("__debug__" :Str))=false:=by decide) (hdn:(n==("__debug__" :Str))=false:=by decide) (he:starEach (e::es) X.env=(false,eval e X.env)::starEach es X.env:=by rfl) (hpl:(backTo cp (starEach es X.env)).any (·.1)=false:=by rfl):
 PS X (.Try [.Expr (.Call (.Name fx p) (e::es) [] cp) ep] [.ExceptHandler (some (.Name wx wp)) (some n) [.Assign [.Name v vp] (.Name n np) ap] hp] [] [] pos) (tTry X.K W sp t ie iv):=by
 intro pins s σ H D I h
 refine wpAny_Try_except ?_
 refine wpAny_execs_cons (wpAny_Expr_any ?_ I.quiet hs)
 refine wpAny_Call_Name_kw (jk I hg hm ?_ hdb)
 refine callWith_K (h₀:=X.base) I.ok.mod.kin hk (wpAny_mono (ha cp pins s σ H _ I h) (fun us s1 ⟨vs,H1,I1,r,q⟩=>⟨I1.kIn,?_⟩) fun _ _ z=>(hX _ _ z).elim) he hpl
 have hl:(us++ []).length=ps.length:=by rw [List.append_nil,←r.length];exact F.len _ _ _ _ q
 refine wpAny_call (codeAny_mono (F.run X.A X.stack s1 H1 ⟨us,[]⟩ (us++ []) vs _ _ hr I1.env0 (hb s1 us I1.kIn hl) (by rw [List.append_nil];exact r) q) fun res s' hq=> ?_)
 cases res with
 | ok fl=>
  cases fl with
  | ret u=>
   obtain⟨y,H2,I2,_,q2⟩:=I1.after hq
   exact wpAny_execs_nil (wpAny_execs_nil ⟨σ,H2,I2,q2⟩)
  | next=>exact False.elim hq
  | brk=>exact False.elim hq
  | cont=>exact False.elim hq
 | error ev=>
  obtain⟨x,C0,tt,B,H',rfl,os,bare,fl,un,hok,comp,new,C,hC,Z,kc,q2⟩:=hq
  cases hC
  have hfr:X.A.frames=some (X.env::X.outer):=by rw [← hst];exact I1.ok.frames
  have fl0:Heap.FlyingW B (X.env::X.outer) x (.ref C0) (.ref tt) s'.heap:=by rw [← hst];exact fl
  refine wpAny_looks_onW hfr hf fl0 fun h4 held sm4=> ?_
  refine wpAny_landsW held fun h5 fl5 sm5=> ?_
  have I5:=JA I1 os bare un hok comp (by rw [hst];exact fl5) (sm4.trans sm5)
  have ex5:ExcAt h5 x C0:=fl5.there
  refine wpAny_handleBy_cons (codeAny_handlers_test (Calls.Name_function_global I5.ok.kind hW (Calls.loadGlobal_global (by rw [I5.ok.glob];exact I5.mod.glob.keeps I5.bk) hmW ?_) hdW)) (fun z=>nomatch z)
  refine zA I5.kIn ex5 kc hbW ?_
  refine codeAny_handlers_suite_as ?_
  refine lands_againW fl5 fun h6 fl6 sm6=> ?_
  have I6:=JA I1 os bare un hok comp (by rw [hst];exact fl6) ((sm4.trans sm5).trans sm6)
  have hx0:H' x=none:=by
   cases z:H' x with
   | none=>rfl
   | some u=>
    obtain⟨o,e1⟩:=(hok x u z).there
    have nf:x∉frs X.stack:=fun hx=>by
     obtain⟨_,o2,e2,_⟩:=I1.stack.mem hx
     rw [new]at e2
     cases e2
    have e3:=comp x o e1 (.inl ⟨u,z⟩) nf
    rw [fl.2.1]at e3
    cases e3
  have there1: ∀b o,s1.heap.get? b=some o->b≠x:=fun b o z e=>by rw [e,new]at z;cases z
  have I7:Inv X pins σ (upd H' x (excO x C0)) { s' with heap:=h6 }:=by
   refine I6.adoptO hx0 (fun z=> ?_) (fun y c z=> ?_) (fun p hp=> ?_) (fun b u z=> ?_) (zaf fl6.there)
   ·obtain⟨m,⟨o,_,_,ho,_⟩,_⟩:=I1.loc
    exact there1 _ o ho z.symm
   ·obtain⟨_,o,ho,_⟩:=I1.cell y c z
    exact there1 c o ho
   ·exact there1 p.1 _ (I1.pin p hp).1
   ·obtain⟨o,ho⟩:=I1.base.there b u z (by rw [hex];simp)
    exact there1 b o ho
  refine Qe I7 hN hie (.inl hnl) (v:= .ref x) rfl (fun s8 I8=> ?_) (.inr hnl)
  have hiσ:ie<σ.length:=by rw [I.len];exact(List.getElem?_eq_some_iff.mp hie).1
  obtain⟨m8,hn8,hl8⟩:=I8.loc
  obtain⟨u8,r8,l8⟩:=hl8 ie n (.ref x) hie (List.getElem?_set_self hiσ) (.inl hnl)
  cases r8
  have hk8:X.env.kindOf n=some .local:=hnl
  have em:m8 n=some (.ref x):=by
   rcases l8 with⟨_,z⟩ | ⟨z,_⟩
   ·exact z
   ·rcases z with z | z<;>(rw [hk8]at z;cases z)
  refine wpAny_execs_cons (wpAny_Assign_Name (wpAny_Name (wpAny_loadName_local I8.ok.kind hk8 hn8 em ?_) hdn) hs2)
  refine Qe I8 hN hiv (.inl hvl) (v:= .ref x) rfl (fun s9 I9=> ?_) (.inr hvl)
  refine wpAny_execs_nil ?_
  exact JN I9 hN hie hnl fun s10 I10=>⟨_,_,I10,q2 x hx0⟩
end L2
namespace L2
open PySem PySem.Spec PySem.Calls PySem.W PyProof.Rows
def tRevSl (K:PySem.W.Frag) (te tk:TE):TE:=fun σ H Q=>te σ H fun x H1=>tk σ H1 fun y H2=>y= .int (-1)/\ ∃a xs,x= .ref a/\SqL K H2 a xs/\ ∀p,H2 p=none->Q (.ref p) (upd H2 p (.lst xs.reverse))
def rNeT (K:PySem.W.Frag):R2:=fun x y H Q=> ∃a b xs,x= .ref a/\y= .ref b/\SqT K H a xs/\SqT K H b xs/\xs.all flatV=true/\Q (.bl false) H
def rSameL (K:PySem.W.Frag) (c:Bool):R2:=fun x y H Q=> ∃(a b:Addr) (ds:List Addr),x= .ref a/\y= .ref b/\SqL K H a (ds.map V.ref)/\SqL K H b (ds.map V.ref)/\Q (.bl c) H
theorem FnOk.calm {P:Program}{w:World}{K:Frag}{mg:Str->Option Value}{base:Heap}{k:Nat}{f:Addr}{fd:FuncData}{ps:List Str}{sp sp0:Sp}(F:FnOk P w K mg base (CX1 P w) k f fd ps sp)
 (h: ∀vs H Q E,sp0 vs H Q E->sp vs H Q (fun _ _ _=>False)):FnOk P w K mg base CX0 k f fd ps sp0:=by
 refine⟨fun vs H Q E q=>F.len vs H Q _ (h _ _ _ _ q),fun A outer s H args us vs Q E hr he hb hv hs=>codeAny_mono (F.run A outer s H args us vs Q _ hr he hb hv (h _ _ _ _ hs)) fun res s' hq=> ?_⟩
 cases res with
 | ok fl=>
  cases fl with
  | ret u=>exact hq
  | next=>exact hq
  | brk=>exact hq
  | cont=>exact hq
 | error ev=>
  obtain⟨x,C,t,B,H',_,_,_,_,_,_,_,_,hE⟩:=hq
  exact hE
theorem jac:bootBuiltins "ValueError" =some (.type "ValueError"):=by decide +kernel
end L2
namespace L2
open PySem PySem.Spec PyProof.Rows
def Its (x:Str):It:=⟨fun i _=> ∃c,x.cps[i]? =some c,fun i H y H'=>H'=H/\ ∃c,x.cps[i]? =some c/\y= .str ⟨#[c]⟩,fun i _=>x.cps[i]? =none⟩
theorem XG {P:Program}{w:World}{K:PySem.W.Frag}{tg:Expr}(it:Addr) (x:Str) (t:Tok):Turn P w K tg (Its x) [it] it (fun i h=>h.IsStrIter it "str_ascii_iterator" x t i) where
 mem:=by simp
 obj:=fun i h st b hb=>by
  have e:b=it:=by simpa using hb
  subst e
  obtain⟨o,e,c,d⟩:=st
  exact⟨o,e,fun v z=>by rw [d]at z;cases z⟩
 keep:=fun i h h' st k=>by
  obtain⟨o,e,c,d⟩:=st
  exact⟨o,k it (by simp) o e,c,d⟩
 item:=by
  intro X hP hw hK hc i pins s σ H E I hf st hg
  subst hP hw hK
  obtain⟨c,hx⟩:=hg
  obtain⟨f0,f1,f2,f3,f4,f5⟩:=hf it (by simp)
  refine wpAny_pyNext_ascii_item st hx fun h' st' sb=> ?_
  have I1:Inv X pins σ H { s with heap:=h',toks:=s.toks+1 }:=I.turned (t':=s.toks+1) (fun b o hb e=>(sb.2 b hb).trans e) f0 f1 f3 f4 f5
  obtain⟨o,e,c',d⟩:=id st'
  exact⟨_,rfl,zH (s:= { s with heap:=h',toks:=s.toks+1 }) e c' d (by decide) ⟨.str ⟨#[c]⟩,H,I1,⟨_,rfl⟩,⟨rfl,c,hx,rfl⟩,st',fun b hb=>(hf b hb).1⟩⟩
 done:=by
  intro X hP hw hK hc i pins s σ H E I hf st hg
  subst hP hw hK
  obtain⟨f0,f1,f2,f3,f4,f5⟩:=hf it (by simp)
  exact wpAny_pyNext_ascii_end (I.ok.hd hc) st hg fun h' eb=>⟨rfl,I.turned (t':=s.toks) (fun b o hb e=>eb b o hb e) f0 f1 f3 f4 f5⟩
 self:=fun _ _ _ _ _ st h=>wpAny_pyIter_striter_ascii st h
theorem zJ {P:Program}{w:World}{K:PySem.W.Frag}{tg:Expr}(it:Addr) (x:Str) (t:Tok):Turn P w K tg (Its x) [it] it (fun i h=>h.IsStrIter it "str_iterator" x t i) where
 mem:=by simp
 obj:=fun i h st b hb=>by
  have e:b=it:=by simpa using hb
  subst e
  obtain⟨o,e,c,d⟩:=st
  exact⟨o,e,fun v z=>by rw [d]at z;cases z⟩
 keep:=fun i h h' st k=>by
  obtain⟨o,e,c,d⟩:=st
  exact⟨o,k it (by simp) o e,c,d⟩
 item:=by
  intro X hP hw hK hc i pins s σ H E I hf st hg
  subst hP hw hK
  obtain⟨c,hx⟩:=hg
  obtain⟨f0,f1,f2,f3,f4,f5⟩:=hf it (by simp)
  refine wpAny_pyNext_wide_item st hx fun h' st' sb=> ?_
  have I1:Inv X pins σ H { s with heap:=h',toks:=s.toks+1 }:=I.turned (t':=s.toks+1) (fun b o hb e=>(sb.2 b hb).trans e) f0 f1 f3 f4 f5
  obtain⟨o,e,c',d⟩:=id st'
  exact⟨_,rfl,zH (s:= { s with heap:=h',toks:=s.toks+1 }) e c' d (by decide) ⟨.str ⟨#[c]⟩,H,I1,⟨_,rfl⟩,⟨rfl,c,hx,rfl⟩,st',fun b hb=>(hf b hb).1⟩⟩
 done:=by
  intro X hP hw hK hc i pins s σ H E I hf st hg
  subst hP hw hK
  obtain⟨f0,f1,f2,f3,f4,f5⟩:=hf it (by simp)
  exact wpAny_pyNext_wide_end (I.ok.hd hc) st hg fun h' eb=>⟨rfl,I.turned (t':=s.toks) (fun b o hb e=>eb b o hb e) f0 f1 f3 f4 f5⟩
 self:=fun _ _ _ _ _ st h=>wpAny_pyIter_striter_wide st h
def iAny (K:PySem.W.Frag) (tl:TE):TI:=fun σ H R=>tl σ H fun x H1=>(∃ a,x= .ref a/\(∃ xs,SqL K H1 a xs)/\R (Itl K a) H1)\/(∃ a,x= .ref a/\(∃ xs,SqT K H1 a xs)/\R (Itt K a) H1)\/ ∃z,x= .str z/\R (Its z) H1
theorem wM {X:Cx}{tg l:Expr}{tl:TE}(hl:PE X l tl):PI X tg l (iAny X.K tl):=by
 intro pins s σ H R I h
 refine thn (hl pins s σ H _ I h) fun v s1 ⟨x,H1,I1,r1,q1⟩=> ?_
 rcases q1 with⟨a,e,⟨xs,hq⟩,q⟩ | ⟨a,e,⟨xs,hq⟩,q⟩ | ⟨z,e,q⟩
 ·subst e
  cases r1
  obtain⟨its,rv,p,hz⟩:=I1.list hq
  refine wpAny_pyIter_list p.isList ?_
  refine⟨s1.heap.objs.size,[s1.heap.objs.size],_,_,H1,rfl,I1.kept (t':=s1.toks) fun b o e=>Heap.get?_push_of_some _ e,zP a _,⟨_,Heap.get?_push_size _ rfl,rfl,rfl⟩,fun b hb=> ?_,q⟩
  have e:b=s1.heap.objs.size:=by simpa using hb
  subst e
  exact I1.fpOk (Nat.le_refl _) (I1.hok.fresh (Nat.le_refl _))
 ·subst e
  cases r1
  obtain⟨its,rv,p,hz⟩:=I1.tuple hq
  refine wpAny_pyIter_tuple (show s1.heap.IsTuple a its.toArray from p) ?_
  refine⟨s1.heap.objs.size,[s1.heap.objs.size],_,_,H1,rfl,I1.kept (t':=s1.toks) fun b o e=>Heap.get?_push_of_some _ e,jF a _,⟨_,Heap.get?_push_size _ rfl,rfl,rfl⟩,fun b hb=> ?_,q⟩
  have e:b=s1.heap.objs.size:=by simpa using hb
  subst e
  exact I1.fpOk (Nat.le_refl _) (I1.hok.fresh (Nat.le_refl _))
 ·subst e
  obtain⟨t,rfl⟩:=r1
  cases ha:z.cps.all (· <128)with
  | true=>
   refine wpAny_pyIter_ascii ha ?_
   refine⟨s1.heap.objs.size,[s1.heap.objs.size],_,_,H1,rfl,I1.kept (t':=s1.toks) fun b o e=>Heap.get?_push_of_some _ e,XG _ z t,⟨_,Heap.get?_push_size _ rfl,rfl,rfl⟩,fun b hb=> ?_,q⟩
   have e:b=s1.heap.objs.size:=by simpa using hb
   subst e
   exact I1.fpOk (Nat.le_refl _) (I1.hok.fresh (Nat.le_refl _))
  | false=>
   refine wpAny_pyIter_wide ha ?_
   refine⟨s1.heap.objs.size,[s1.heap.objs.size],_,_,H1,rfl,I1.kept (t':=s1.toks) fun b o e=>Heap.get?_push_of_some _ e,zJ _ z t,⟨_,Heap.get?_push_size _ rfl,rfl,rfl⟩,fun b hb=> ?_,q⟩
   have e:b=s1.heap.objs.size:=by simpa using hb
   subst e
   exact I1.fpOk (Nat.le_refl _) (I1.hok.fresh (Nat.le_refl _))
end L2
namespace L2
open PySem PySem.Spec PyProof.Rows
section
variable {X:Cx}
theorem Vals.getI {xs:List V}{us:List Value}(r:Vals xs us){i:Nat}{u:Value}(h:us[i]? =some u): ∃x,xs[i]? =some x/\RelV x u:=by
 have hl:=r.length
 have hi:i<us.length:=(List.getElem?_eq_some_iff.mp h).1
 have hx:i<xs.length:=by omega
 obtain⟨u',h1,h2⟩:=r.get (List.getElem?_eq_getElem hx)
 rw [h]at h1
 cases h1
 exact⟨_,List.getElem?_eq_getElem hx,h2⟩
theorem JI (bs:List Bool):(List.range bs.length).all (fun i=>bs.getD i false)=bs.all id:=by
 induction bs with
 | nil=>rfl
 | cons b bs ih=>
  rw [List.length_cons,List.range_succ_eq_map,List.all_cons,List.all_map,List.all_cons,←ih]
  rfl
theorem QK (bs:List Bool):(List.range bs.length).any (fun i=>bs.getD i false)=bs.any id:=by
 induction bs with
 | nil=>rfl
 | cons b bs ih=>
  rw [List.length_cons,List.range_succ_eq_map,List.any_cons,List.any_map,List.any_cons,←ih]
  rfl
theorem Wv {P:Program}{w:World}{A:Around}{bs:List Bool}{its:List Value}(r:Vals (bs.map V.bl) its):TruthOf P w A (fun i v=>its.toArray[i]? =some v) (fun i=>bs.getD i false):=by
 intro i v s Q E hP hQ
 obtain⟨x,h1,h2⟩:=r.getI (by simpa using hP)
 rw [List.getElem?_map]at h1
 cases hb:bs[i]? with
 | none=>rw [hb]at h1;cases h1
 | some b=>
  rw [hb]at h1
  cases h1
  cases h2
  refine wpAny_truthy_bool ?_
  have e:bs.getD i false=b:=by rw [List.getD_eq_getElem?_getD,hb];rfl
  rw [← e]
  exact hQ
theorem xT (hc:X.calm=true):CallR X (.builtin "all") (fun xs H Q=> ∃p,∃bs:List Bool,xs= [.ref p]/\SqL X.K H p (bs.map V.bl)/\Q (.bl (bs.all id)) H):=by
 intro pins s σ H xs us Q I r h
 obtain⟨p,bs,rfl,hq,q⟩:=h
 obtain⟨u,rfl,rx⟩:=xi r
 cases rx
 obtain⟨its,rv,pl,hz⟩:=I.list hq
 have hlen:=rv.length
 rw [List.length_map]at hlen
 refine call_all_walk (wpAny_pyIter_list pl.isList ?_)
 have hne:p≠s.heap.objs.size:=by
  obtain⟨o,ho,_⟩:=pl.isList
  exact Nat.ne_of_lt (Heap.lt_size ho)
 refine⟨s.heap.objs.size,_,_,_,_,_,fun i=>bs.getD i false,rfl,Walks.list (A:=X.A.in1) (I.ok.hd hc) _ p hne its.toArray,⟨⟨_,Heap.get?_push_size _ rfl,rfl,rfl⟩,pl.isList.at fun o e=>Heap.get?_push_of_some _ e⟩,Wv rv,fun h' tk hk=> ?_⟩
 have I1:Inv X pins σ H { s with heap:=h',toks:=tk }:=I.kept (t':=tk) fun b o e=>hk b o (by simp;exact Nat.ne_of_lt (Heap.lt_size e)) (Heap.get?_push_of_some _ e)
 refine⟨.bl _,H,I1,?_,q⟩
 show _=_
 rw [List.size_toArray,←hlen,JI]
theorem ZO (hc:X.calm=true):CallR X (.builtin "any") (fun xs H Q=> ∃p,∃bs:List Bool,xs= [.ref p]/\SqL X.K H p (bs.map V.bl)/\Q (.bl (bs.any id)) H):=by
 intro pins s σ H xs us Q I r h
 obtain⟨p,bs,rfl,hq,q⟩:=h
 obtain⟨u,rfl,rx⟩:=xi r
 cases rx
 obtain⟨its,rv,pl,hz⟩:=I.list hq
 have hlen:=rv.length
 rw [List.length_map]at hlen
 refine call_any_walk (wpAny_pyIter_list pl.isList ?_)
 have hne:p≠s.heap.objs.size:=by
  obtain⟨o,ho,_⟩:=pl.isList
  exact Nat.ne_of_lt (Heap.lt_size ho)
 refine⟨s.heap.objs.size,_,_,_,_,_,fun i=>bs.getD i false,rfl,Walks.list (A:=X.A.in1) (I.ok.hd hc) _ p hne its.toArray,⟨⟨_,Heap.get?_push_size _ rfl,rfl,rfl⟩,pl.isList.at fun o e=>Heap.get?_push_of_some _ e⟩,Wv rv,fun h' tk hk=> ?_⟩
 have I1:Inv X pins σ H { s with heap:=h',toks:=tk }:=I.kept (t':=tk) fun b o e=>hk b o (by simp;exact Nat.ne_of_lt (Heap.lt_size e)) (Heap.get?_push_of_some _ e)
 refine⟨.bl _,H,I1,?_,q⟩
 show _=_
 rw [List.size_toArray,←hlen,QK]
def sumI:List Int->Int
 | []=>0
 | i::r=>i+sumI r
theorem Xw: ∀(xs:List Int) (x:Int),sumI (xs++ [x])=sumI xs+x
 | [],x=>by simp [sumI]
 | y::ys,x=>by
  show y+sumI (ys++ [x])=y+sumI ys+x
  rw [Xw ys x];omega
theorem Xl (ns:List Int): ∀j,j<=ns.length->preSum (fun i=>ns.getD i 0) j=sumI (ns.take j)
 | 0,_=>rfl
 | j+1,h=>by
  rw [preSum,Xl ns j (by omega),List.take_succ,List.getElem?_eq_getElem (by omega)]
  show _=sumI (ns.take j++ [ns[j]])
  rw [Xw,List.getD_eq_getElem?_getD,List.getElem?_eq_getElem (by omega)]
  rfl
end
end L2
namespace L2
open PySem PySem.Spec PyProof.Rows
section
variable {X:Cx}
theorem zO: ∀ {ss:List Str}{us:List Value},Vals (ss.map V.str) us->StrsAre us ss
 | [],us,r=>by cases r;exact .nil
 | z::ss,us,r=>by
  cases r with
  | cons h t=>
   obtain⟨k,rfl⟩:=h
   exact .cons _ _ (zO t)
theorem jJ: ∀ {us:List Value}{ss:List Str},StrsAre us ss->Vals (ss.map V.str) us
 | _,_,.nil=> .nil
 | _,_,.cons _ _ h=> .cons ⟨_,rfl⟩ (jJ h)
theorem wu:CallR X (.builtin "sorted") (fun xs H Q=> ∃p,∃ss:List Str,xs= [.ref p]/\SqL X.K H p (ss.map V.str)/\ss.length<64/\ ∀ss',ss'.Perm ss->sortedS ss'=true-> ∀l,H l=none->Q (.ref l) (upd H l (.lst (ss'.map V.str)))):=by
 intro pins s σ H xs us Q I r h
 obtain⟨p,ss,rfl,hq,h64,q⟩:=h
 obtain⟨u,rfl,rx⟩:=xi r
 cases rx
 obtain⟨its,rv,pl,hz⟩:=I.list hq
 have hlen:=rv.length
 rw [List.length_map]at hlen
 refine sorted_strs pl.isList (zO rv) (by omega) fun out ss' a1 a2 a3=> ?_
 obtain⟨e,he⟩:=sortedAll_at s.heap its out
 have hl:ss'.length<=sizeLine:=by rw [a2.length_eq];rw [List.length_map]at hz;exact hz
 refine⟨.ref (s.heap.objs.size+1),_,I.laid (t':=s.toks) (fun b o e=>sortedAll_old e) (Nat.le_succ _) (show ObjOk X.prog X.w _ _ _ (.lst (ss'.map V.str))from⟨by rw [List.length_map];exact hl,out.toList,e,jJ a1,by simpa [seqObj]using he⟩),rfl,q ss' a2 a3 _ (I.hok.fresh (Nat.le_succ _))⟩
end
end L2
namespace L2
open PySem PySem.Spec PyProof.Rows
section
variable {X:Cx}
def repS (x:Str) (n:Nat):Str:=⟨(List.replicate n x.cps).foldl (· ++ ·) #[]⟩
theorem zv {α:Type}: ∀(n:Nat) (a acc:Array α),((List.replicate n a).foldl (· ++ ·) acc).toList=acc.toList++(List.replicate n a.toList).flatten
 | 0,a,acc=>by simp
 | n+1,a,acc=>by
  rw [List.replicate_succ,List.foldl_cons,zv n,List.replicate_succ,List.flatten_cons]
  simp
theorem Qj (x:Str) (n:Nat):(repS x n).cps.toList=(List.replicate n x.cps.toList).flatten:=by
 unfold repS
 rw [zv]
 simp
theorem wV (x:Str) (n:Nat):(repS x n).length=x.length*n:=by
 show(repS x n).cps.size=x.cps.size*n
 rw [← Array.length_toList,Qj]
 simp [Nat.mul_comm]
theorem wI {a b:Str}(h:a.cps.toList=b.cps.toList):a=b:=by
 cases a;cases b
 simp only [Str.mk.injEq]
 exact Array.toList_inj.mp h
theorem jaf:OpR X (binaryOp .Mult) (fun x y H Q=> ∃z k,x= .str z/\y= .int k/\0<=k/\k<=1000/\z.length*k.toNat<=1000000/\Q (.str (repS z k.toNat)) H):=by
 intro pins s σ H x y v u Q I rx ry h
 obtain⟨z,k,rfl,rfl,h0,h1,hl,q⟩:=h
 obtain⟨t,rfl⟩:=rx
 obtain⟨t',rfl⟩:=ry
 have hsz:(repS z k.toNat).length<=sizeLine:=by rw [wV];exact Nat.le_trans hl (by decide)
 refine P.mul_str (by
  have a: ¬k< -(2 ^ 63:Int):=by omega
  have b: ¬k>=2 ^ 63:=by omega
  rw [decide_eq_false a,decide_eq_false b];rfl) (fun c1 c2=> ?_) (fun c1 c2=> ?_) ?_
 ·have hk:1<=k:=by omega
  have:(2:Int) ^ 63-1>=(z.length:Int)*k:=by
   have e:((z.length*k.toNat:Nat):Int)=(z.length:Int)*k:=by rw [Int.natCast_mul,Int.toNat_of_nonneg h0]
   have:=hl
   omega
  have:=Int.le_ediv_of_mul_le (a:=(z.length:Int)) (b:=2 ^ 63-1) (c:=k) (by omega) (by omega)
  omega
 ·unfold Builtin.Str.tooLong
  exact decide_eq_false (by have:sizeLine>=1000000:=by decide
                            omega)
 ·by_cases c1:k<1
  ·have hk:k=0:=by omega
   subst hk
   rw [if_pos c1]
   exact⟨by decide,.str (repS z 0),H,I.kept (t':=s.toks+1) fun b o e=>e,⟨_,rfl⟩,q⟩
  ·rw [if_neg c1]
   by_cases c2:(k==1||z.length==0)=true
   ·rw [if_pos c2]
    have e:repS z k.toNat=z:=by
     apply wI
     rw [Qj]
     rcases Bool.or_eq_true_iff.mp c2 with c | c
     ·have:k=1:=by simpa using c
      subst this
      simp
     ·have:z.cps.toList= []:=by
       have c:z.length=0:=by simpa using c
       have c:z.cps.size=0:=c
       rw [← Array.length_toList]at c
       exact List.eq_nil_of_length_eq_zero c
      rw [this]
      simp
    rw [e]at q
    exact⟨.str z,H,I,⟨t,rfl⟩,q⟩
   ·rw [if_neg c2]
    exact⟨hsz,.str (repS z k.toNat),H,I.kept (t':=s.toks+1) fun b o e=>e,⟨_,rfl⟩,q⟩
theorem Z0:OpR X (binaryOp .Add) (fun x y H Q=> ∃a b ys,x= .ref a/\y= .ref b/\SqT X.K H a []/\SqT X.K H b ys/\Q (.ref b) H):=by
 intro pins s σ H x y v u Q I rx ry h
 obtain⟨a,b,ys,rfl,rfl,ha,hb,q⟩:=h
 cases rx
 cases ry
 obtain⟨its,r1,p1,_⟩:=I.tuple ha
 obtain⟨its2,r2,p2,_⟩:=I.tuple hb
 cases r1
 obtain⟨⟨cls,dd,data,sl⟩,ho,hc,n,hd⟩:=id p1
 obtain⟨⟨cls2,dd2,data2,sl2⟩,ho2,hc2,n2,hd2⟩:=id p2
 simp only at hc hd hc2 hd2
 subst hc hd hc2 hd2
 exact concat_meets ⟨_,ho,rfl⟩ ⟨_,ho2,rfl⟩ noFill_tuple_add seq_tuple_add PySem.F.slot_tuple_add PySem.F.entry_tuple_add (PySem.F.args_tuple_add_2 _ _)
  (tuple_addW0 a b _ its2.toArray n n2 dd dd2 sl sl2 (by simp)) ⟨ho,ho2,.ref b,H,I,rfl,q⟩
theorem ZL (hc:X.calm=true):CallR X (.builtin "sum") (fun xs H Q=> ∃p,∃ns:List Int,xs= [.ref p]/\SqL X.K H p (ns.map V.int)/\Q (.int (sumI ns)) H):=by
 intro pins s σ H xs us Q I r h
 obtain⟨p,ns,rfl,hq,q⟩:=h
 obtain⟨u,rfl,rx⟩:=xi r
 cases rx
 obtain⟨its,rv,pl,hz⟩:=I.list hq
 have hlen:=rv.length
 rw [List.length_map]at hlen
 refine call_sum_walkG (wpAny_pyIter_list pl.isList ?_)
 have hlt:p<s.heap.objs.size:=by
  obtain⟨o,ho,_⟩:=pl.isList
  exact Heap.lt_size ho
 have hsz:s.heap.objs.size<(s.heap.push { cls:= .type "list_iterator",data:= .fields #[.ref p,.int 0 0] }).objs.size:=Heap.lt_size (Heap.get?_push_size _ rfl)
 refine⟨s.heap.objs.size,_,_,_,_,_,fun i=>ns.getD i 0,rfl,Walks.list (A:=X.A.in1) (I.ok.hd hc) _ p (Nat.ne_of_lt hlt) its.toArray,⟨⟨_,Heap.get?_push_size _ rfl,rfl,rfl⟩,pl.isList.at fun o e=>Heap.get?_push_of_some _ e⟩,fun b hb=> ?_,fun i v hv=> ?_,fun h' tk t' hk=> ?_⟩
 ·simp only [List.mem_cons,List.not_mem_nil,or_false]at hb
  rcases hb with rfl | rfl
  ·exact hsz
  ·exact Nat.lt_trans hlt hsz
 ·obtain⟨x,h1,h2⟩:=rv.getI (by simpa using hv)
  rw [List.getElem?_map]at h1
  cases hb:ns[i]? with
  | none=>rw [hb]at h1;cases h1
  | some b=>
   rw [hb]at h1
   cases h1
   obtain⟨t,rfl⟩:=h2
   exact⟨t,by show Value.int b t=Value.int (ns.getD i 0) t;rw [List.getD_eq_getElem?_getD,hb];rfl⟩
 ·have I1:Inv X pins σ H { s with heap:=h',toks:=tk }:=I.kept (t':=tk) fun b o e=>hk b o (by simp;exact Nat.ne_of_lt (Heap.lt_size e)) (Heap.get?_push_of_some _ e)
  refine⟨.int (sumI ns),H,I1,⟨t',?_⟩,q⟩
  rw [List.size_toArray,←hlen,Xl ns _ (Nat.le_refl _),List.take_length]
theorem Zh: ∀ {ns:List Int}{its:List Value},Vals (ns.map V.int) its-> ∃ps:List (Int×Tok),its=ps.map (fun p=> .int p.1 p.2)/\ps.map (·.1)=ns
 | [],its,r=>by cases r;exact⟨[],rfl,rfl⟩
 | n::ns,its,r=>by
  cases r with
  | cons h t=>
   obtain⟨k,rfl⟩:=h
   obtain⟨ps,e1,e2⟩:=Zh t
   exact⟨(n,k)::ps,by rw [e1];rfl,by rw [← e2];rfl⟩
def bestI (f:Int->Int->Bool):List Int->Int->Int
 | [],a=>a
 | b::r,a=>bestI f r (if f b a then b else a)
theorem Xr (f:Int->Int->Bool): ∀(l:List Int) (b a:Int),bestI f (l++ [b]) a=if f b (bestI f l a)then b else bestI f l a
 | [],b,a=>rfl
 | c::l,b,a=>by
  show bestI f (l++ [b]) _=_
  rw [Xr f l b]
  rfl
theorem wB (f:Int->Int->Bool) (val:Nat->Int): ∀n,val (argBest (fun i j=>f (val i) (val j)) n)=bestI f ((List.range n).map fun i=>val (i+1)) (val 0)
 | 0=>rfl
 | n+1=>by
  have ih:=wB f val n
  rw [List.range_succ,List.map_append,List.map_cons,List.map_nil,Xr,←ih,argBest]
  by_cases q:f (val (n+1)) (val (argBest (fun i j=>f (val i) (val j)) n))=true
  ·simp only [q,if_true]
  ·simp only [q,if_false,Bool.false_eq_true]
theorem qJ {ps:List (Int×Tok)}{n:Int}{ns:List Int}(e:ps.map (·.1)=n::ns) (f:Int->Int->Bool){v:Value}
 (h:(intItems ps.toArray)[argBest (fun i j=>f (numAt ps.toArray i) (numAt ps.toArray j)) (ps.toArray.size-1)]? =some v): ∃t,v= .int (bestI f ns n) t:=by
 obtain⟨t,rfl⟩:=intItems_at h
 refine⟨t,?_⟩
 rw [wB f (numAt ps.toArray)]
 have hl:ps.length=ns.length+1:=by
  have:=congrArg List.length e
  simpa using this
 have hv: ∀i,numAt ps.toArray i=(n::ns).getD i 0:=fun i=>by
  rw [← e,List.getD_eq_getElem?_getD,List.getElem?_map]
  unfold numAt
  rw [List.getElem?_toArray]
  all_goals (cases ps[i]? <;>rfl)
 have h1:(List.range (ps.toArray.size-1)).map (fun i=>numAt ps.toArray (i+1))=ns:=by
  rw [List.size_toArray,hl,Nat.add_sub_cancel]
  apply List.ext_getElem
  ·simp
  ·intro i a b
   simp only [List.getElem_map,List.getElem_range,hv]
   rw [List.getD_eq_getElem?_getD,List.getElem?_cons_succ,List.getElem?_eq_getElem b]
   rfl
 rw [h1,hv 0]
 rfl
theorem jK (hc:X.calm=true):CallR X (.builtin "max") (fun xs H Q=> ∃p n,∃ns:List Int,xs= [.ref p]/\SqL X.K H p ((n::ns).map V.int)/\Q (.int (bestI (fun a b=>decide (a>b)) ns n)) H):=by
 intro pins s σ H xs us Q I r h
 obtain⟨p,n,ns,rfl,hq,q⟩:=h
 obtain⟨u,rfl,rx⟩:=xi r
 cases rx
 obtain⟨its,rv,pl,hz⟩:=I.list hq
 obtain⟨ps,rfl,e2⟩:=Zh rv
 have hl:s.heap.IsList p (intItems ps.toArray):=by
  have e:intItems ps.toArray=(ps.map fun p=>Value.int p.1 p.2).toArray:=by simp [intItems]
  rw [e]
  exact pl.isList
 refine max_intList (I.ok.hd hc) hl (by have:=congrArg List.length e2;simp at this ⊢;omega) fun v h' tk hv hk=> ?_
 obtain⟨t,rfl⟩:=qJ e2 (fun a b=>decide (a>b)) hv
 exact⟨.int _,H,I.kept (t':=tk) fun b o e=>hk b o e,⟨t,rfl⟩,q⟩
theorem QQ (hc:X.calm=true):CallR X (.builtin "min") (fun xs H Q=> ∃p n,∃ns:List Int,xs= [.ref p]/\SqL X.K H p ((n::ns).map V.int)/\Q (.int (bestI (fun a b=>decide (a<b)) ns n)) H):=by
 intro pins s σ H xs us Q I r h
 obtain⟨p,n,ns,rfl,hq,q⟩:=h
 obtain⟨u,rfl,rx⟩:=xi r
 cases rx
 obtain⟨its,rv,pl,hz⟩:=I.list hq
 obtain⟨ps,rfl,e2⟩:=Zh rv
 have hl:s.heap.IsList p (intItems ps.toArray):=by
  have e:intItems ps.toArray=(ps.map fun p=>Value.int p.1 p.2).toArray:=by simp [intItems]
  rw [e]
  exact pl.isList
 refine min_intList (I.ok.hd hc) hl (by have:=congrArg List.length e2;simp at this ⊢;omega) fun v h' tk hv hk=> ?_
 obtain⟨t,rfl⟩:=qJ e2 (fun a b=>decide (a<b)) hv
 exact⟨.int _,H,I.kept (t':=tk) fun b o e=>hk b o e,⟨t,rfl⟩,q⟩
theorem Wi (lo:Option Int) (d n:Nat) (hd:d<=n):(match lo with | none=>(d:Int) | some i=>max 0 (min (if i<0 then i+n else i) n))=((HT.sIx n d lo:Nat):Int)/\HT.sIx n d lo<=n:=by
 cases lo with
 | none=>exact⟨rfl,hd⟩
 | some i=>
  by_cases q:i<0
  ·simp only [HT.sIx,q,if_true];omega
  ·simp only [HT.sIx,q,if_false];omega
theorem Zt (x:Str) (lo hi:Option Int):Builtin.Str.strSliceIndices lo hi 1 x.length=(List.range (HT.sIx x.length x.length hi-HT.sIx x.length 0 lo)).map fun k=>HT.sIx x.length 0 lo+k:=by
 have h1:=Wi lo 0 x.length (Nat.zero_le _)
 have h2:=Wi hi x.length x.length (Nat.le_refl _)
 have e:Builtin.Str.strSliceIndices lo hi 1 x.length=sliceRange ((HT.sIx x.length 0 lo:Nat):Int) ((HT.sIx x.length x.length hi:Nat):Int) 1:=by
  unfold Builtin.Str.strSliceIndices
  simp only [show (1:Int)>0 by decide,if_true]
  rw [← h1.1,←h2.1]
  cases lo<;>cases hi<;>rfl
 rw [e]
 unfold sliceRange
 simp only [show (1:Int)>0 by decide,if_true,Int.ediv_one,Int.one_mul]
 have e2:(if ((HT.sIx x.length 0 lo:Nat):Int)<((HT.sIx x.length x.length hi:Nat):Int)then((HT.sIx x.length x.length hi:Nat):Int)-((HT.sIx x.length 0 lo:Nat):Int)+1-1 else 0).toNat=HT.sIx x.length x.length hi-HT.sIx x.length 0 lo:=by
  split<;>omega
 rw [e2]
 refine List.map_congr_left fun k _=> ?_
 omega
def cutS (x:Str) (lo hi:Option Int):Str:=⟨((x.cps.toList.drop (HT.sIx x.length 0 lo)).take (HT.sIx x.length x.length hi-HT.sIx x.length 0 lo)).toArray⟩
theorem JM (x:Str) (lo hi:Option Int):Txt.slice x lo hi=cutS x lo hi:=by
 have h1:=(Wi lo 0 x.length (Nat.zero_le _)).2
 have h2:=(Wi hi x.length x.length (Nat.le_refl _)).2
 by_cases q:HT.sIx x.length 0 lo<=HT.sIx x.length x.length hi
 ·have e:=StrLaws.sliceText_nat x q h2
  rw [show cutS x lo hi=⟨((x.cps.toList.drop (HT.sIx x.length 0 lo)).take (HT.sIx x.length x.length hi-HT.sIx x.length 0 lo)).toArray⟩from rfl,←e]
  unfold Txt.slice StrLaws.sliceText
  rw [Zt x lo hi,StrLaws.strSliceIndices_plain q h2]
 ·have e0:HT.sIx x.length x.length hi-HT.sIx x.length 0 lo=0:=by omega
  unfold Txt.slice cutS
  rw [Zt x lo hi,e0]
  rw [if_neg (by simp;omega)]
  simp
def rSlS:V->Option Int->Option Int->Hp->VK->Prop:=fun x lo hi H Q=> ∃z,x= .str z/\z.length<=sizeLine/\Q (.str (cutS z lo hi)) H
theorem xaG:SlR X rSlS:=by
 intro pins s σ H x v vl vu lo hi sl Q I rx hs pl pu h
 obtain⟨z,rfl,hz,q⟩:=h
 obtain⟨t,rfl⟩:=rx
 refine⟨"str",_,F.slot_str_getitem.lookup,typeIs_str _ _ _,?_⟩
 have fin: ∀t' k,EP X pins σ Q (.str (Txt.slice z lo hi) t') { s with toks:=k }:=fun t' k=>by
  rw [JM]
  exact⟨.str (cutS z lo hi),H,I.kept (t':=k) fun b o e=>e,⟨_,rfl⟩,q⟩
 have hl:(Txt.slice z lo hi).length<=sizeLine:=Nat.le_trans (Txt.slice_le z _ _) hz
 cases pl<;>cases pu
 ·exact wpAny_getItem_str_slice (l:=none) (u:=none) (st:=none) hs rfl (post_val_or_str ⟨hl,fin⟩)
 ·exact wpAny_getItem_str_slice (l:=none) (u:=some (_,_)) (st:=none) hs rfl (post_val_or_str ⟨hl,fin⟩)
 ·exact wpAny_getItem_str_slice (l:=some (_,_)) (u:=none) (st:=none) hs rfl (post_val_or_str ⟨hl,fin⟩)
 ·exact wpAny_getItem_str_slice (l:=some (_,_)) (u:=some (_,_)) (st:=none) hs rfl (post_val_or_str ⟨hl,fin⟩)
def rJoin (K:PySem.W.Frag):V->List V->Hp->VK->Prop:=fun x vs H Q=> ∃z p,∃ss:List Str,x= .str z/\vs= [.ref p]/\SqL K H p (ss.map V.str)/\JoinOk z ss=true/\Q (.str (Str.join z ss)) H
end
end L2
namespace L2
open PySem PySem.Spec PyProof.Rows PySem.MeetsSeq
section
variable {X:Cx}
abbrev TyF:=V->Hp->Prop
def IsTy (X:Cx) (T:String) (ty:TyF):Prop:= ∀(pins:List (Addr×Obj)) (s:Shared) (σ:St) (H:Hp) (x:V) (v:Value),Inv X pins σ H s->RelV x v->ty x H->s.TypeIs v T/\ ∀a,v= .ref a-> ∃ob,s.heap.get? a=some ob/\ob.dict=none
def tBMG (ty:TyF) (r:V->List V->Hp->VK->Prop) (to:TE) (t:TA):TE:=fun σ H Q=>to σ H fun x H1=>ty x H1/\t σ H1 fun xs H2=>r x xs H2 Q
def PlT (K:PySem.W.Frag) (H:Hp) (a:Addr):Prop:=(∃ xs,H a=some (.tup xs))\/ ∃o,K.lookup a=some o/\o.cls= .type "tuple" /\o.dict=none
def idxS (x:Str):List Str->Option Nat
 | []=>none
 | y::ys=>if y=x then some 0 else(idxS x ys).map (· +1)
def rIndex (K:PySem.W.Frag):V->List V->Hp->VK->Prop:=fun x vs H Q=> ∃a z j,∃ss:List Str,x= .ref a/\vs= [.str z]/\SqT K H a (ss.map V.str)/\idxS z ss=some j/\Q (.int (j:Nat)) H
def rCount (K:PySem.W.Frag):V->List V->Hp->VK->Prop:=fun x vs H Q=> ∃a n,∃ns:List Int,x= .ref a/\vs= [.int n]/\SqL K H a (ns.map V.int)/\Q (.int ((ns.count n:Nat):Int)) H
def rInsert:V->List V->Hp->VK->Prop:=fun x vs H Q=> ∃l xs,∃i:Nat,∃y,x= .ref l/\vs= [.int (i:Int),y]/\H l=some (.lst xs)/\xs.length<sizeLine/\i<=xs.length/\i<2 ^ 62/\Q .non (upd H l (.lst (xs.take i++y::xs.drop i)))
end
end L2
namespace L2
open PySem PySem.Spec PyProof.Rows
section
variable {prog:Program}{w:World}{A:Around}{E:Value->Shared->Prop}{s:Shared}
theorem nextOf_tup_item {it t:Addr}{i:Nat}{items:Array Value}{x:Value}{Q:Value->Shared->Prop}(hit:s.heap.IsTupleIter it t i) (ht:s.heap.IsTuple t items) (hx:items[i]? =some x)
 (hQ: ∀h',h'.IsTupleIter it t (i+1)->Heap.SameBut it s.heap h'->Q x { s with heap:=h' }):wpAny (model prog w) A (Builtin.SmallTypes.nextOf (.ref it)) Q E s:=by
 obtain⟨o,ho,hc,hd⟩:=id hit
 obtain⟨ol,hol,_,nl,hdl⟩:=ht
 unfold Builtin.SmallTypes.nextOf
 refine wpAny_bind (wpAny_callSpecial?_slot (name:=Str.ofString "__next__") hit.typeIs F.slot_tuple_iterator_next
  (wpAny_call_entry F.slot_tuple_iterator_next hit.typeIs F.entry_tuple_iterator_next ?_ (F.args_tuple_iterator_next_1 _)))
 show wpAny _ _ (field (.ref it) 0 >>= _) _ _ s
 refine wpAny_bind (wpAny_field ho hd (x:= .ref t) rfl ?_)
 show wpAny _ _ (if (Value.ref t==Value.none)=true then _ else _) _ _ s
 rw [if_neg (show ¬((Value.ref t==Value.none)=true)from Bool.false_ne_true)]
 show wpAny _ _ (field (.ref it) 1 >>= _) _ _ s
 refine wpAny_bind (wpAny_field ho hd (x:= .int i 0) rfl ?_)
 show wpAny _ _ (seqItems? (.ref t) >>= _) _ _ s
 refine wpAny_bind (wpAny_seqItems hol hdl ?_)
 simp only [Int.toNat_natCast,hx]
 refine wpAny_bind (wpAny_setField ho hd (by simp) (wpAny_pure ⟨x,rfl,wpAny_pure (hQ _ ?_ (Heap.SameBut.update ..))⟩))
 exact⟨_,Heap.get?_update_self _ ho (Obj.isFreed_of_fields (Obj.data_mapFields hd _)),(Obj.cls_mapFields ..).trans hc,by
  rw [Obj.data_mapFields hd];simp [rawInt]⟩
theorem nextOf_tup_end {it t:Addr}{i:Nat}{items:Array Value}{Q:Value->Shared->Prop}(hh:A.handled=none) (hit:s.heap.IsTupleIter it t i) (ht:s.heap.IsTuple t items) (hx:items[i]? =none)
 (hE: ∀h' e,Heap.ExtBut it s.heap h'->(∃ o,h'.get? e=some o/\o.cls= .type "StopIteration")->E (.ref e) { s with heap:=h' }):wpAny (model prog w) A (Builtin.SmallTypes.nextOf (.ref it)) Q E s:=by
 obtain⟨o,ho,hc,hd⟩:=id hit
 obtain⟨ol,hol,_,nl,hdl⟩:=ht
 unfold Builtin.SmallTypes.nextOf
 refine wpAny_bind (wpAny_callSpecial?_slot (name:=Str.ofString "__next__") hit.typeIs F.slot_tuple_iterator_next
  (wpAny_call_entry F.slot_tuple_iterator_next hit.typeIs F.entry_tuple_iterator_next ?_ (F.args_tuple_iterator_next_1 _)))
 show wpAny _ _ (field (.ref it) 0 >>= _) _ _ s
 refine wpAny_bind (wpAny_field ho hd (x:= .ref t) rfl ?_)
 show wpAny _ _ (if (Value.ref t==Value.none)=true then _ else _) _ _ s
 rw [if_neg (show ¬((Value.ref t==Value.none)=true)from Bool.false_ne_true)]
 show wpAny _ _ (field (.ref it) 1 >>= _) _ _ s
 refine wpAny_bind (wpAny_field ho hd (x:= .int i 0) rfl ?_)
 show wpAny _ _ (seqItems? (.ref t) >>= _) _ _ s
 refine wpAny_bind (wpAny_seqItems hol hdl ?_)
 simp only [Int.toNat_natCast,hx]
 refine wpAny_bind (wpAny_rule (wpAny_bind (wpAny_setField ho hd (by simp) ?_)))
 show wpAny _ _ (newExc (.type "StopIteration") [] >>= _) _ _ _
 refine wpAny_bind ?_
 simp only [newExc,newTuple]
 refine wpAny_bind (wpAny_newObj_type ?_ (by size_fits))
 refine wpAny_bind (m:=firstArgMember _ _) (wpAny_of_eq (a:=Value.none) (by first | rfl | (simp only [firstArgMember];rfl)) ?_)
 refine wpAny_newObj_type ?_ (by size_fits)
 simp only [raiseNew]
 refine wpAny_bind (wpAny_handled ?_)
 first | rw [show A.in1.handled=none from hh] | rw [hh]
 refine wpAny_bind (wpAny_pure (wpAny_throw ?_))
 exact hE _ _ (((Heap.SameBut.update ..).extBut.push _).push _) ⟨_,Heap.get?_push_size _ rfl,rfl⟩
theorem wv (hh:A.handled=none) (it t:Addr) (items:Array Value) (hne:t≠it):Draws prog w A it [it,t] items.size (fun i x=>items[i]? =some x) (fun i h=>h.IsTupleIter it t i/\h.IsTuple t items) where
 live:=fun i h st=>let ⟨o,e,_⟩:=st.1; ⟨o,e⟩
 frame:=fun i h h' st k=>⟨let ⟨o,e,r⟩:=st.1; ⟨o,k it (by simp) o e,r⟩,let ⟨o,e,r⟩:=st.2; ⟨o,k t (by simp) o e,r⟩⟩
 item:=fun i s Q E hi st hQ=>nextOf_tup_item st.1 st.2 (x:=items[i]) (by simp [hi]) fun h' st' sb=>hQ _ h' s.toks (by simp [hi]) ⟨st',st.2.extBut sb.extBut hne⟩ sb
 done:=fun s Q E st hE=>nextOf_tup_end hh st.1 st.2 (by simp) hE
open AutoSeq1 (wpAny_loadPart') in
theorem We (l:Addr) (items:Array Value) (n:Nat) (dct:Option Addr) (sl:Array (Option Value)):
 Meets (Builtin.«enumerate.__new__» ⟨[.type "enumerate",.ref l],[]⟩) (fun _ R s=>s.heap.get? l=some { cls:= .type "tuple",dict:=dct,data:= .seq items n,slots:=sl } ∧
  R (.ok (.ret (.ref (s.heap.push { cls:= .type "tuple_iterator",data:= .fields #[.ref l,.int 0 0] }).objs.size)))
   { s with heap:=(s.heap.push { cls:= .type "tuple_iterator",data:= .fields #[.ref l,.int 0 0] }).push { cls:= .type "enumerate",data:= .fields #[.none,.bool false,.ref s.heap.objs.size,rawInt 0,.none,.none] } }):=
 .of_wp fun prog w A R s h=>by
  obtain⟨hp,g,d,tk,os⟩:=s;obtain⟨hl,h⟩:=h
  have hsub:=sub_enumerate
  have hL:Heap.IsTuple (Shared.heap ⟨hp,g,d,tk,os⟩) l items:=⟨_,hl,rfl,n,rfl⟩
  wp_walk using wpAny_loadPart' hl
  refine wpAny_stack_any fun st=>wpAny_pure ?_
  split
  ·rename_i c _ _ _ _ _
   cases (c==Value.type "enumerate")
   ·wp_walk using wpAny_loadPart' hl,wpAny_pyIter_tuple hL
    exact⟨_,rfl,h⟩
   ·wp_walk using wpAny_loadPart' hl,wpAny_pyIter_tuple hL
    exact⟨_,rfl,h⟩
  ·wp_walk using wpAny_loadPart' hl,wpAny_pyIter_tuple hL
   exact⟨_,rfl,h⟩
theorem zg {l:Addr}{items:Array Value}{Q:Value->Shared->Prop}(hL:s.heap.IsTuple l items)
 (h: ∀h',IsEnum h' (s.heap.objs.size+1) s.heap.objs.size 0 .none->h'.IsTupleIter s.heap.objs.size l 0->h'.objs.size=s.heap.objs.size+2 →
   (∀ b o,s.heap.get? b=some o->h'.get? b=some o)->Q (.ref (s.heap.objs.size+1)) { s with heap:=h' }):
 wpAny (model prog w) A (call (.type "enumerate") [.ref l]) Q E s:=by
 obtain⟨⟨c,dct,dt,sl⟩,hl,hc,n,hd⟩:=hL
 replace hc:c= .type "tuple" :=hc
 replace hd:dt= .seq items n:=hd
 subst hc hd
 refine callType_new F.called_enumerate (by decide) (F.typeCall_enumerate_1 _) (F.newCall_enumerate_1 _) (fun obj=>F.args_object_init_2 obj _) F.entry_enumerate_new
  (We l items n dct sl) ⟨hl,?_⟩
 have hz:(s.heap.push { cls:= .type "tuple_iterator",data:= .fields #[.ref l,.int 0 0] }).objs.size=s.heap.objs.size+1:=Heap.size_push ..
 show _/\_
 rw [hz]
 have he:IsEnum ((s.heap.push { cls:= .type "tuple_iterator",data:= .fields #[.ref l,.int 0 0] }).push
  { cls:= .type "enumerate",data:= .fields #[.none,.bool false,.ref s.heap.objs.size,rawInt 0,.none,.none] }) (s.heap.objs.size+1) s.heap.objs.size 0 .none:=by
  have:=Heap.get?_push_size (s.heap.push { cls:= .type "tuple_iterator",data:= .fields #[.ref l,.int 0 0] })
   (o:= { cls:= .type "enumerate",data:= .fields #[.none,.bool false,.ref s.heap.objs.size,rawInt 0,.none,.none] }) rfl
  rw [hz]at this;exact this
 refine⟨⟨_,he,rfl⟩,h _ he ⟨_,Heap.get?_push_of_some _ (Heap.get?_push_size _ rfl),rfl,rfl⟩ (by rw [Heap.size_push,hz]) fun b o x=>Heap.get?_push_of_some _ (Heap.get?_push_of_some _ x)⟩
end
section
variable {X:Cx}{pins:List (Addr×Obj)}{σ:St}{H:Hp}{s:Shared}{h':Heap}
theorem Inv.turned2 {t':Nat}{it e:Addr}(I:Inv X pins σ H s) (k: ∀b o,b≠e->b≠it->s.heap.get? b=some o->h'.get? b=some o) (hn:H it=none) (hn':H e=none) (hL:it≠X.env.locals) (hL':e≠X.env.locals)
 (h1:it∈X.ex\/X.s₀.heap.objs.size<=it) (h1':e∈X.ex\/X.s₀.heap.objs.size<=e) (h2: ∀x c,X.env.cells.lookup x=some c->c≠it) (h2': ∀x c,X.env.cells.lookup x=some c->c≠e) (h3: ∀p∈X.pn++pins,p.1≠it) (h3': ∀p∈X.pn++pins,p.1≠e):Inv X pins σ H { s with heap:=h',toks:=t' }:=by
 have nit: ∀b u,H b=some u->b≠e/\b≠it:=fun b u q=>⟨fun z=>(by rw [z,hn']at q;cases q),fun z=>(by rw [z,hn]at q;cases q)⟩
 have kk: ∀b o,b∉ [e,it]->s.heap.get? b=some o->h'.get? b=some o:=fun b o hc q=>k b o (fun z=>hc (by simp [z])) (fun z=>hc (by simp [z])) q
 refine I.step (g':=s.gens) (d':=s.drawn) (ch:= [e,it]) (fun b hb=> ?_) (fun b o _ _ hc e _=>kk b o hc e) (fun b o _ _ hc e _=>⟨o.slots,kk b o hc e⟩) (fun _ _ _ _ n=>n)
  (fun b o hc e=>⟨o,kk b o hc e⟩) (fun _ _ e=>e) (fun _ _ _ e=>e) (fun b ps e=>⟨#[],by rw [e];simp⟩) (fun m hm=> ?_) (fun b u q=> ?_) I.bare
 ·rcases List.mem_cons.mp hb with z | z
  ·rw [z];exact⟨h1',hL',h2',h3'⟩
  ·rw [List.mem_singleton.mp z];exact⟨h1,hL,h2,h3⟩
 ·obtain⟨o,es,ep,ho,r⟩:=hm
  exact⟨o,es,ep,k _ o (Ne.symm hL') (Ne.symm hL) ho,r⟩
 ·refine(I.hok b u q).stay (fun c v hc q'=>k c v ?_ ?_ q') (fun _ q=>q) fun _ _ q=>q
  ·rcases hc with z | z
   ·rw [z];exact(nit b u q).1
   ·exact(nit c _ z).1
  ·rcases hc with z | z
   ·rw [z];exact(nit b u q).2
   ·exact(nit c _ z).2
end
def Ite (K:PySem.W.Frag) (a:Addr):It:=
 ⟨fun i H=> ∃xs x,SqT K H a xs/\xs[i]? =some x,fun i H x H'=> ∃p y,H p=none/\x= .ref p/\H'=upd H p (.tup [.int (i:Int),y])/\ ∀xs,SqT K H a xs->xs[i]? =some y,fun i H=> ∃xs,SqT K H a xs/\xs.length=i⟩
theorem JQ {P:Program}{w:World}{K:PySem.W.Frag}{elts:List Expr}{x1:Nat}{tp:Pos}(a it e:Addr) (hei:e≠it):Turn P w K (.Tuple elts x1 tp) (Ite K a) [e,it] e (fun i h=>(∃ old,IsEnum h e it (i:Int) old)/\h.IsTupleIter it a i) where
 mem:=by simp
 obj:=fun i h st b hb=>by
  obtain⟨⟨old,q⟩,⟨o,q2,c,d⟩⟩:=st
  rcases List.mem_cons.mp hb with z | z
  ·subst z
   exact⟨_,q,fun v z=>by cases z⟩
  ·rw [List.mem_singleton.mp z]
   exact⟨o,q2,fun v z=>by rw [d]at z;cases z⟩
 keep:=fun i h h' st k=>⟨let ⟨old,q⟩:=st.1; ⟨old,k e (by simp) _ q⟩,let ⟨o,q,r⟩:=st.2; ⟨o,k it (by simp) o q,r⟩⟩
 item:=by
  intro X hP hw hK hc i pins s σ H E I hf st hg
  subst hP hw hK
  obtain⟨⟨old,he⟩,hit⟩:=st
  obtain⟨xs,x,hq,hx⟩:=hg
  obtain⟨its,rv,p,hz⟩:=I.tuple hq
  obtain⟨u,hu,ru⟩:=rv.get hx
  have ht:s.heap.IsTuple a its.toArray:=p
  have hai:a≠it:=fun z=>by
   obtain⟨o,q,c,_⟩:=ht
   obtain⟨o',q',c',_⟩:=hit
   rw [z,q']at q;cases q
   rw [c]at c';exact absurd c' (by decide)
  have hae:a≠e:=fun z=>by
   obtain⟨o,q,c,_⟩:=ht
   rw [z,he]at q;cases q
   exact absurd (show Value.type "enumerate" =Value.type "tuple" from c) (by decide)
  obtain⟨f0,f1,f2,f3,f4,f5⟩:=hf e (by simp)
  obtain⟨g0,g1,g2,g3,g4,g5⟩:=hf it (by simp)
  have hlt:i<its.toArray.size:=by
   have:=List.getElem?_eq_some_iff.mp hu
   simpa using this.1
  have hhd:X.A.in1.handled=none:=I.ok.hd hc
  refine wpAny_pyNext_enum_itemD (wv (A:=X.A.in1) hhd it a its.toArray hai) he ⟨hit,ht⟩ hlt hei (by simp [hei,Ne.symm hae]) fun y h1 tk hy ho hs' hT hsz hk=> ?_
  have ey:y=u:=by
   rw [List.getElem?_toArray]at hy
   rw [hu]at hy;cases hy;rfl
  subst ey
  refine⟨_,rfl,wpAny_letOwnedTupleGo_enum (s:= { s with heap:=h1,toks:=tk+1 }) ho fun h2 he2 sb=> ?_⟩
  have sb:Heap.SameBut e h1 h2:=sb
  have hep:s.heap.objs.size≠e:=Nat.ne_of_gt (Heap.lt_size he)
  have hn:H s.heap.objs.size=none:=I.hok.fresh (Nat.le_refl _)
  have I1:Inv X pins σ (upd H s.heap.objs.size (.tup [.int (i:Int),x])) { s with heap:=s.heap.push { cls:= .type "tuple",data:= .seq #[.int i tk,y] },toks:=tk+1 }:=by
   refine I.laid (fun b o q=>Heap.get?_push_of_some _ q) (Nat.le_refl _) ⟨by simp only [List.length_cons,List.length_nil];rw [sizeLine_eq];decide,[.int i tk,y],.cons ⟨_,rfl⟩ (.cons ru .nil),?_⟩
   exact⟨_,Heap.get?_push_size s.heap rfl,rfl,rfl,_,rfl⟩
  have eit:it<s.heap.objs.size:=by obtain⟨o,q,_⟩:=hit;exact Heap.lt_size q
  have ee:e<s.heap.objs.size:=Heap.lt_size he
  have I2:=I1.turned2 (t':=tk+1) (h':=h2) (it:=it) (e:=e) (fun b o b1 b2 q=>by
   refine(sb.2 b b1).trans ?_
   rcases Heap.get?_push_cases (h:=s.heap) (show (s.heap.push { cls:= .type "tuple",data:= .seq #[.int i tk,y] }).get? b=some o from q)with⟨z,z2⟩ | z
   ·rw [z,z2];exact hT
   ·exact hk b o b1 b2 z) (by rw [qa (Nat.ne_of_lt eit)];exact g0) (by rw [qa (Nat.ne_of_lt ee)];exact f0) g1 f1 g3 f3 g4 f4 g5 f5
  refine⟨.ref s.heap.objs.size,_,I2,rfl,⟨s.heap.objs.size,x,hn,rfl,rfl,fun ys hy=>by rw [I.tuple_inj hy hq];exact hx⟩,⟨⟨y,by simpa using he2⟩,?_⟩,fun b hb=> ?_⟩
  ·obtain⟨o,q,r⟩:=hs'.1
   exact⟨o,(sb.2 it (Ne.symm hei)).trans q,r⟩
  ·rcases List.mem_cons.mp hb with z | z
   ·rw [z,qa (Nat.ne_of_lt ee)];exact f0
   ·rw [List.mem_singleton.mp z,qa (Nat.ne_of_lt eit)];exact g0
 done:=by
  intro X hP hw hK hc i pins s σ H E I hf st hg
  subst hP hw hK
  obtain⟨⟨old,he⟩,hit⟩:=st
  obtain⟨xs,hq,hx⟩:=hg
  obtain⟨its,rv,p,hz⟩:=I.tuple hq
  have ht:s.heap.IsTuple a its.toArray:=p
  have hai:a≠it:=fun z=>by
   obtain⟨o,q,c,_⟩:=ht
   obtain⟨o',q',c',_⟩:=hit
   rw [z,q']at q;cases q
   rw [c]at c';exact absurd c' (by decide)
  obtain⟨g0,g1,g2,g3,g4,g5⟩:=hf it (by simp)
  have hl:=rv.length
  have hhd:X.A.in1.handled=none:=I.ok.hd hc
  have hi:i=its.toArray.size:=by simp;omega
  subst hi
  exact wpAny_pyNext_enum_endD (wv (A:=X.A.in1) hhd it a its.toArray hai) he ⟨hit,ht⟩ fun h' eb=>⟨rfl,I.turned (t':=s.toks) (fun b o hb q=>eb b o hb q) g0 g1 g3 g4 g5⟩
 self:=fun _ _ _ _ _ st h=>wpAny_pyIter_enum st.1.choose_spec h
def iEnum (K:PySem.W.Frag) (ta:TA):TI:=fun σ H R=>ta σ H fun vs H1=> ∃a xs,vs= [.ref a]/\SqT K H1 a xs/\R (Ite K a) H1
theorem xn:bootBuiltins "enumerate" =some (.type "enumerate"):=by decide +kernel
theorem zah {X:Cx}{elts:List Expr}{x1:Nat}{tp:Pos}{a:Expr}{ta:TA}{p pos:Pos}(hg:Gl X "enumerate") (hm:X.mg "enumerate" =none) (ha:PA X [a] ta) (hs:starEach [a] X.env= [(false,eval a X.env)]:=by rfl):PI X (.Tuple elts x1 tp) (.Call (.Name "enumerate" p) [a] [] pos) (iEnum X.K ta):=by
 intro pins s σ H R I h
 refine Call_ (Jh I hg hm xn (PyProof.Rows.callWith_type1 (thn (ha pos pins s σ H _ I h) fun us s1 ⟨vs,H1,I1,r1,q1⟩=> ?_) hs rfl))
 obtain⟨b,xs,e,hq,q⟩:=q1
 subst e
 cases r1 with
 | cons r rr=>
  cases rr
  cases r
  obtain⟨its,rv,pl,hz⟩:=I1.tuple hq
  refine zg (show s1.heap.IsTuple b its.toArray from pl) fun h' he hit hsz hk=> ?_
  refine wpAny_pyIter_enum (s:= { s1 with heap:=h' }) he ?_
  refine⟨s1.heap.objs.size+1,[s1.heap.objs.size+1,s1.heap.objs.size],_,_,H1,rfl,I1.kept (t':=s1.toks) hk,JQ b s1.heap.objs.size (s1.heap.objs.size+1) (Nat.succ_ne_self _),⟨⟨_,by simpa using he⟩,hit⟩,fun c hb=> ?_,q⟩
  rcases List.mem_cons.mp hb with z | z
  ·rw [z];exact I1.fpOk (Nat.le_succ _) (I1.hok.fresh (Nat.le_succ _))
  ·rw [List.mem_singleton.mp z];exact I1.fpOk (Nat.le_refl _) (I1.hok.fresh (Nat.le_refl _))
end L2
namespace L2
open PySem PySem.Spec PyProof.Rows
section
variable {prog:Program}{w:World}{A:Around}{E:Value->Shared->Prop}{s:Shared}
abbrev eset (led:Bool):Obj:= { cls:= .type "set",dict:=none,data:= .set #[] 0 (.fresh 0 0 led) }
set_option maxHeartbeats 8000000 in
end
end L2
namespace L2
open PySem PySem.Spec PyProof.Rows
section
variable {X:Cx}
def unl (is:List Int):Nat:=(firstMet (fun i=>is.getD i 0) is.length).length
end
end L2
namespace L2
open PySem PySem.Spec PyProof.Rows
section
variable {prog:Program}{w:World}{A:Around}{E:Value->Shared->Prop}{s:Shared}
abbrev elst:Obj:= { cls:= .type "list",data:= .seq ([]:List Value).toArray }
open AutoSeq1 (wpAny_loadPart') in
end
end L2
namespace L2
open PySem PySem.Spec PyProof.Rows
section
variable {X:Cx}
def tTr (ta:TA):TE:=fun σ H Q=>ta σ H fun vs H1=> ∃n:Nat,vs= [.int (n:Int)]/\n<=1000/\ ∀l,H1 l=none->Q (.ref l) (upd H1 l (.tup ((List.range n).map fun(i:Nat)=>V.int (i:Int))))
end
end L2
namespace L2
open PySem PySem.Spec PyProof.Rows
section
variable {X:Cx}
def idxI (z:Int):List Int->Option Nat
 | []=>none
 | y::ys=>if y=z then some 0 else(idxI z ys).map (· +1)
def rIndexI (K:PySem.W.Frag):V->List V->Hp->VK->Prop:=fun x vs H Q=> ∃a z j,∃ss:List Int,x= .ref a/\vs= [.int z]/\SqT K H a (ss.map V.int)/\idxI z ss=some j/\Q (.int (j:Nat)) H
end
end L2
namespace L2
open PySem PySem.Spec PyProof.Rows
theorem Jk {prog:Program}{w:World}{A:Around}{E:Value->Shared->Prop}{s:Shared}{t sl:Addr}{vs:Array Value}{vl vu:Value}{lo hi:Option Int}{Q:Value->Shared->Prop}(ht:IsTup s.heap t vs) (hs:s.heap.IsSliceOf sl vl vu .none) (pl:IsPart vl lo) (pu:IsPart vu hi)
 (h0:HT.sIx vs.size 0 lo=0) (h1:HT.sIx vs.size vs.size hi=vs.size) (h:Q (.ref t) s):wpAny (model prog w) A (getItem (.ref t) (.ref sl)) Q E s:=by
 obtain⟨os,hos,hcs,hds⟩:=id hs
 have hTs:s.TypeIs (.ref sl) "slice" :=⟨os,hos,hcs⟩
 unfold getItem
 try with_reducible refine wpAny_holding ?_
 first | refine wpAny_bind (wpAny_pure ?_) | skip
 refine wpAny_bind (wpAny_sequenceKey ht.typeIs (by decide) (wpAny_bind (wpAny_callSpecial?_slot (name:=Str.ofString "__getitem__") ht.typeIs PyProof.Rows.slot_tuple_getitem
  (wpAny_call_entry PyProof.Rows.slot_tuple_getitem ht.typeIs PyProof.Rows.entry_tuple_getitem ?_ (PyProof.Rows.args_tuple_getitem _ _)))))
 show wpAny _ _ (Builtin.Tuple.tupleItemsOf (.ref t) >>= _) _ _ s
 refine wpAny_bind (tupleItemsOf_ ht (wpAny_bind (wpAny_typeOf hTs ?_)))
 rw [if_pos (by decide)]
 refine wpAny_bind (HT.sliceApplied_gen hs pl pu ?_)
 show wpAny _ _ (if (((HT.sIx vs.size 0 lo:Nat):Int)==0&&(1:Int)==1&&(HT.sIx vs.size vs.size hi-HT.sIx vs.size 0 lo)==vs.size)=true then _ else _) _ _ s
 rw [if_pos (by rw [h0,h1];simp)]
 unfold Builtin.Tuple.tupleIsExact
 refine wpAny_bind (wpAny_bind (wpAny_typeOf ht.typeIs (wpAny_pure ?_)))
 rw [if_pos (by decide)]
 exact wpAny_bind (wpAny_rule (wpAny_pure ⟨_,rfl,wpAny_pure h⟩))
section
variable {X:Cx}
def rSlW (K:PySem.W.Frag):V->Option Int->Option Int->Hp->VK->Prop:=fun x lo hi H Q=> ∃a xs,x= .ref a/\SqT K H a xs/\HT.sIx xs.length 0 lo=0/\HT.sIx xs.length xs.length hi=xs.length/\Q (.ref a) H
theorem zau:SlR X (rSlW X.K):=by
 intro pins s σ H x v vl vu lo hi sl Q I rx hs pl pu h
 obtain⟨a,xs,rfl,hx,h0,h1,q⟩:=h
 cases rx
 obtain⟨its,r,ht,hz⟩:=I.tuple hx
 have hlen:its.toArray.size=xs.length:=by rw [List.size_toArray];exact r.length.symm
 refine⟨"tuple",_,PyProof.Rows.slot_tuple_getitem.lookup,ht.typeIs,?_⟩
 exact Jk ht hs pl pu (by rw [hlen];exact h0) (by rw [hlen];exact h1) ⟨.ref a,H,I,rfl,q⟩
end
end L2
namespace PyProof.Rows
open PySem PySem.Spec
section
variable {prog:Program}{w:World}{A:Around}{E:Value->Shared->Prop}{s:Shared}
end
end PyProof.Rows
namespace L2
open PySem PySem.Spec PyProof.Rows
section
variable {X:Cx}
end
end L2
namespace HT
open PySem PyProof.Rows
section
open PySem.SeqAt
open PySem.AutoSeq1 (wpAny_loadPart')
open PySem.MeetsSeq PySem.MeetsSeq2 PySem.MeetsSeq3
end
section
variable {prog:Program}{w:World}{A:Around}{E:Value->Shared->Prop}{s:Shared}
end
end HT
namespace L2
open PySem PySem.Spec PyProof.Rows
section
variable {X:Cx}
def rGeT (K:PySem.W.Frag):R2:=fun x y H Q=> ∃a b ns ms,x= .ref a/\y= .ref b/\SqT K H a (ns.map V.int)/\SqT K H b (ms.map V.int)/\Q (.bl (!HT.lexLt ns ms)) H
end
end L2
namespace L2
open PySem PySem.Spec PyProof.Rows
section
variable {X:Cx}
def tLr (ta:TA):TE:=fun σ H Q=>ta σ H fun vs H1=> ∃n:Nat,vs= [.int (n:Int)]/\n<=1000/\ ∀l,H1 l=none->Q (.ref l) (upd H1 l (.lst ((List.range n).map fun(i:Nat)=>V.int (i:Int))))
end
end L2
namespace PySem
open Sem (wp)
section
variable {prog:Program}{w:World}{A:Around}{E:Value->Shared->Prop}{s:Shared}
theorem Xm {z TI TO i1 i2 l1 l2:Addr}{k1 k2:Nat}{xs ys:Array Value}{x y a b:Value}{Q:Value->Shared->Prop}(D:ZipApart z TI TO i1 i2 l1 l2)
 (hz:IsZip s.heap z TI TO .none) (hTI:IsPair s.heap TI (.ref i1) (.ref i2)) (hTO:IsPair s.heap TO a b)
 (h1:s.heap.IsListIter i1 l1 k1) (h2:s.heap.IsTupleIter i2 l2 k2) (hl1:s.heap.IsList l1 xs) (hl2:s.heap.IsTuple l2 ys) (hx:xs[k1]? =some x) (hy:ys[k2]? =some y)
 (hQ: ∀h',IsZip h' z TI TO (rawInt s.heap.objs.size)->IsPair h' TO x y->h'.IsListIter i1 l1 (k1+1)->h'.IsTupleIter i2 l2 (k2+1)->IsPair h' s.heap.objs.size x y->h'.objs.size=s.heap.objs.size+1 →
   (∀ c o,c≠z->c≠TO->c≠i1->c≠i2->s.heap.get? c=some o->h'.get? c=some o)->Q (.ref s.heap.objs.size) { s with heap:=h' }):
 wpAny (model prog w) A (Builtin.«zip.__next__» ⟨[.ref z],[]⟩) (fun fin s'=> ∃v,fin= .done (.ret v)/\Q v s') E s:=by
 show wpAny _ _ (field (.ref z) 2 >>= _) _ _ _
 refine wpAny_bind (wpAny_field hz rfl (x:= .bool false) rfl ?_)
 show wpAny _ _ (field (.ref z) 3 >>= _) _ _ _
 refine wpAny_bind (wpAny_field hz rfl (x:= .ref TI) rfl ?_)
 refine wpAny_bind (wpAny_seqItems hTI rfl ?_)
 show wpAny _ _ (Builtin.SmallTypes.ownedTupleIsFree (.ref z) >>= _) _ _ _
 refine wpAny_bind ?_
 unfold Builtin.SmallTypes.ownedTupleIsFree
 refine wpAny_bind (wpAny_field hz rfl (x:= .none) rfl (wpAny_pure ?_))
 simp only [if_true]
 refine wpAny_bind (wpAny_rule ?_)
 refine wpAny_bind (wpAny_field hz rfl (x:= .ref TO) rfl ?_)
 refine wpAny_bind (wpAny_setField_rec hz (by simp) fun h₁ hz₁ hs₁=> ?_)
 replace hz₁:IsZip h₁ z TI TO .ellipsis:=hz₁
 refine wpAny_bind ?_
 simp only [List.zipIdx_cons,List.zipIdx_nil,List.forIn_cons,List.forIn_nil]
 refine wpAny_bind (wpAny_bind (wpAny_onRaise ?_))
 show wpAny _ _ (Builtin.SmallTypes.nextOf (.ref i1) >>= _) _ _ _
 refine wpAny_bind (wpAny_nextOf_list_item (h1.extBut hs₁.extBut D.i1z) (hl1.extBut hs₁.extBut D.l1z) hx fun h₂ h1₂ hs₂=>wpAny_pure ?_)
 have hTO₂:IsPair h₂ TO a b:=hs₂.extBut _ _ D.TOi1 (hs₁.extBut _ _ D.TOz hTO)
 refine wpAny_bind (wpAny_seqItems hTO₂ rfl ?_)
 refine wpAny_bind (wpAny_updateSeq_pair hTO₂ fun h₃ hTO₃ hs₃=> ?_)
 replace hTO₃:IsPair h₃ TO x b:=hTO₃
 refine wpAny_bind (wpAny_letGo (wpAny_pure ?_))
 refine wpAny_bind (wpAny_bind (wpAny_onRaise ?_))
 show wpAny _ _ (Builtin.SmallTypes.nextOf (.ref i2) >>= _) _ _ _
 refine wpAny_bind (L2.nextOf_tup_item (((h2.extBut hs₁.extBut D.i2z).extBut hs₂.extBut D.i12.symm).extBut hs₃.extBut D.TOi2.symm)
  (((hl2.extBut hs₁.extBut D.l2z).extBut hs₂.extBut D.l2i1).extBut hs₃.extBut D.l2TO) hy fun h₄ h2₄ hs₄=>wpAny_pure ?_)
 have hTO₄:IsPair h₄ TO x b:=hs₄.extBut _ _ D.TOi2 hTO₃
 refine wpAny_bind (wpAny_seqItems hTO₄ rfl ?_)
 refine wpAny_bind (wpAny_updateSeq_pair hTO₄ fun h₅ hTO₅ hs₅=> ?_)
 replace hTO₅:IsPair h₅ TO x y:=hTO₅
 refine wpAny_bind (wpAny_letGo (wpAny_pure (wpAny_pure ?_)))
 refine wpAny_bind (wpAny_seqItems hTO₅ rfl ?_)
 refine wpAny_bind (wpAny_newTuple ?_)
 have hsz:h₅.objs.size=s.heap.objs.size:=by rw [hs₅.1,hs₄.1,hs₃.1,hs₂.1,hs₁.1]
 have hz₅:IsZip h₅ z TI TO .ellipsis:=hs₅.extBut _ _ D.TOz.symm (hs₄.extBut _ _ D.i2z.symm (hs₃.extBut _ _ D.TOz.symm (hs₂.extBut _ _ D.i1z.symm hz₁)))
 have hk₅: ∀c o,c≠z->c≠TO->c≠i1->c≠i2->s.heap.get? c=some o->h₅.get? c=some o:=fun c o c1 c2 c3 c4 e=>
  hs₅.extBut _ _ c2 (hs₄.extBut _ _ c4 (hs₃.extBut _ _ c2 (hs₂.extBut _ _ c3 (hs₁.extBut _ _ c1 e))))
 have h1₅:h₅.IsListIter i1 l1 (k1+1):=((h1₂.extBut hs₃.extBut D.TOi1.symm).extBut hs₄.extBut D.i12).extBut hs₅.extBut D.TOi1.symm
 have h2₅:h₅.IsTupleIter i2 l2 (k2+1):=h2₄.extBut hs₅.extBut D.TOi2.symm
 have hzlt:z<h₅.objs.size:=Heap.lt_size hz₅
 have hTOlt:TO<h₅.objs.size:=Heap.lt_size hTO₅
 have hi1lt:i1<h₅.objs.size:=by obtain⟨_,e,_⟩:=h1₅;exact Heap.lt_size e
 have hi2lt:i2<h₅.objs.size:=by obtain⟨_,e,_⟩:=h2₅;exact Heap.lt_size e
 show wpAny _ _ (Builtin.SmallTypes.ownedTupleHandOut (.ref z) (.ref h₅.objs.size) >>= _) _ _ _
 refine wpAny_bind ?_
 unfold Builtin.SmallTypes.ownedTupleHandOut
 have hz₆:IsZip (h₅.push { cls:= .type "tuple",data:= .seq #[x,y] }) z TI TO .ellipsis:=Heap.get?_push_of_some _ hz₅
 refine wpAny_bind (wpAny_setField_rec hz₆ (by simp) fun h₇ hz₇ hs₇=> ?_)
 replace hz₇:IsZip h₇ z TI TO (rawInt h₅.objs.size):=hz₇
 refine wpAny_setField_rec hz₇ (by simp) fun h₈ hz₈ hs₈=> ?_
 replace hz₈:IsZip h₈ z TI TO (rawInt h₅.objs.size):=hz₈
 have up: ∀c o,c≠z->h₅.get? c=some o->h₈.get? c=some o:=fun c o c1 e=>hs₈.extBut _ _ c1 (hs₇.extBut _ _ c1 (Heap.get?_push_of_some _ e))
 have hT₈:IsPair h₈ h₅.objs.size x y:=hs₈.extBut _ _ (Nat.ne_of_gt hzlt) (hs₇.extBut _ _ (Nat.ne_of_gt hzlt) (Heap.get?_push_size _ rfl))
 have hz8:h₈.objs.size=h₅.objs.size+1:=by rw [hs₈.1,hs₇.1,Heap.size_push]
 rw [hsz]at hz₈ hT₈ hz8
 refine wpAny_pure ⟨_,rfl,?_⟩
 show Q (.ref h₅.objs.size) _
 rw [hsz]
 exact hQ h₈ hz₈ (up _ _ D.TOz hTO₅) (h1₅.at fun o e=>up _ o D.i1z e) (h2₅.at fun o e=>up _ o D.i2z e) hT₈ hz8 fun c o c1 c2 c3 c4 e=>up c o c1 (hk₅ c o c1 c2 c3 c4 e)
theorem Xp {z TI TO i1 i2 l1 l2:Addr}{k1 k2:Nat}{xs ys:Array Value}{a b:Value}{Q:Fin->Shared->Prop}(hh:A.handled=none) (D:ZipApart z TI TO i1 i2 l1 l2)
 (hz:IsZip s.heap z TI TO .none) (hTI:IsPair s.heap TI (.ref i1) (.ref i2)) (hTO:IsPair s.heap TO a b)
 (h1:s.heap.IsListIter i1 l1 k1) (h2:s.heap.IsTupleIter i2 l2 k2) (hl1:s.heap.IsList l1 xs) (hl2:s.heap.IsTuple l2 ys) (hend:xs[k1]? =none\/ys[k2]? =none)
 (hE: ∀h' e,(∀ c o,c≠z->c≠TO->c≠i1->c≠i2->s.heap.get? c=some o->h'.get? c=some o)->(∃ o,h'.get? e=some o/\o.cls= .type "StopIteration")->E (.ref e) { s with heap:=h' }):
 wpAny (model prog w) A (Builtin.«zip.__next__» ⟨[.ref z],[]⟩) Q E s:=by
 show wpAny _ _ (field (.ref z) 2 >>= _) _ _ _
 refine wpAny_bind (wpAny_field hz rfl (x:= .bool false) rfl ?_)
 show wpAny _ _ (field (.ref z) 3 >>= _) _ _ _
 refine wpAny_bind (wpAny_field hz rfl (x:= .ref TI) rfl ?_)
 refine wpAny_bind (wpAny_seqItems hTI rfl ?_)
 show wpAny _ _ (Builtin.SmallTypes.ownedTupleIsFree (.ref z) >>= _) _ _ _
 refine wpAny_bind ?_
 unfold Builtin.SmallTypes.ownedTupleIsFree
 refine wpAny_bind (wpAny_field hz rfl (x:= .none) rfl (wpAny_pure ?_))
 simp only [if_true]
 refine wpAny_bind (wpAny_rule ?_)
 refine wpAny_bind (wpAny_field hz rfl (x:= .ref TO) rfl ?_)
 refine wpAny_bind (wpAny_setField_rec hz (by simp) fun h₁ hz₁ hs₁=> ?_)
 replace hz₁:IsZip h₁ z TI TO .ellipsis:=hz₁
 refine wpAny_bind ?_
 simp only [List.zipIdx_cons,List.zipIdx_nil,List.forIn_cons,List.forIn_nil]
 refine wpAny_bind (wpAny_bind (wpAny_onRaise ?_))
 show wpAny _ _ (Builtin.SmallTypes.nextOf (.ref i1) >>= _) _ _ _
 cases hx:xs[k1]? with
 | none=>
  refine wpAny_bind (wpAny_nextOf_list_end hh (h1.extBut hs₁.extBut D.i1z) (hl1.extBut hs₁.extBut D.l1z) hx fun h₂ e hs₂ he=> ?_)
  obtain⟨oe,hoe,hce⟩:=he
  have hz₂:IsZip h₂ z TI TO .ellipsis:=hs₂ _ _ D.i1z.symm hz₁
  have hez:e≠z:=fun x=>by subst x;rw [hz₂]at hoe;cases hoe;simp at hce
  refine wpAny_setField_rec hz₂ (by simp) fun h₃ _ hs₃=>hE h₃ e (fun c o c1 _ c3 _ x=>hs₃.extBut _ _ c1 (hs₂ _ _ c3 (hs₁.extBut _ _ c1 x))) ⟨oe,hs₃.extBut _ _ hez hoe,hce⟩
 | some x=>
  have hy:ys[k2]? =none:=by rcases hend with h | h;rw [hx]at h;cases h;exact h
  refine wpAny_bind (wpAny_nextOf_list_item (h1.extBut hs₁.extBut D.i1z) (hl1.extBut hs₁.extBut D.l1z) hx fun h₂ h1₂ hs₂=>wpAny_pure ?_)
  have hTO₂:IsPair h₂ TO a b:=hs₂.extBut _ _ D.TOi1 (hs₁.extBut _ _ D.TOz hTO)
  refine wpAny_bind (wpAny_seqItems hTO₂ rfl ?_)
  refine wpAny_bind (wpAny_updateSeq_pair hTO₂ fun h₃ hTO₃ hs₃=> ?_)
  refine wpAny_bind (wpAny_letGo (wpAny_pure ?_))
  refine wpAny_bind (wpAny_bind (wpAny_onRaise ?_))
  show wpAny _ _ (Builtin.SmallTypes.nextOf (.ref i2) >>= _) _ _ _
  refine wpAny_bind (L2.nextOf_tup_end hh (((h2.extBut hs₁.extBut D.i2z).extBut hs₂.extBut D.i12.symm).extBut hs₃.extBut D.TOi2.symm)
   (((hl2.extBut hs₁.extBut D.l2z).extBut hs₂.extBut D.l2i1).extBut hs₃.extBut D.l2TO) hy fun h₄ e hs₄ he=> ?_)
  obtain⟨oe,hoe,hce⟩:=he
  have hz₄:IsZip h₄ z TI TO .ellipsis:=hs₄ _ _ D.i2z.symm (hs₃.extBut _ _ D.TOz.symm (hs₂.extBut _ _ D.i1z.symm hz₁))
  have hez:e≠z:=fun x=>by subst x;rw [hz₄]at hoe;cases hoe;simp at hce
  refine wpAny_setField_rec hz₄ (by simp) fun h₅ _ hs₅=>hE h₅ e (fun c o c1 c2 c3 c4 x=>hs₅.extBut _ _ c1 (hs₄ _ _ c4 (hs₃.extBut _ _ c2 (hs₂.extBut _ _ c3 (hs₁.extBut _ _ c1 x))))) ⟨oe,hs₅.extBut _ _ hez hoe,hce⟩
theorem je {z TI TO i1 i2 l1 l2:Addr}{k1 k2:Nat}{xs ys:Array Value}{x y a b:Value}{Q:Option Value->Shared->Prop}(D:ZipApart z TI TO i1 i2 l1 l2)
 (hz:IsZip s.heap z TI TO .none) (hTI:IsPair s.heap TI (.ref i1) (.ref i2)) (hTO:IsPair s.heap TO a b)
 (h1:s.heap.IsListIter i1 l1 k1) (h2:s.heap.IsTupleIter i2 l2 k2) (hl1:s.heap.IsList l1 xs) (hl2:s.heap.IsTuple l2 ys) (hx:xs[k1]? =some x) (hy:ys[k2]? =some y)
 (hQ: ∀h',IsZip h' z TI TO (rawInt s.heap.objs.size)->IsPair h' TO x y->h'.IsListIter i1 l1 (k1+1)->h'.IsTupleIter i2 l2 (k2+1)->IsPair h' s.heap.objs.size x y->h'.objs.size=s.heap.objs.size+1 →
   (∀ c o,c≠z->c≠TO->c≠i1->c≠i2->s.heap.get? c=some o->h'.get? c=some o)->Q (some (.ref s.heap.objs.size)) { s with heap:=h' }):
 wpAny (model prog w) A (pyNext (.ref z)) Q E s:=by
 have hT:s.TypeIs (.ref z) "zip" :=⟨_,hz,rfl⟩
 unfold pyNext
 exact wpAny_bind (wpAny_attempt (wpAny_callSpecial?_slot (name:=Str.ofString "__next__") hT F.slot_zip_next
  (wpAny_call_entry F.slot_zip_next hT F.entry_zip_next
    (Xm D hz hTI hTO h1 h2 hl1 hl2 hx hy fun h' a1 a2 a3 a4 a5 a6 a7=>wpAny_pure (hQ h' a1 a2 a3 a4 a5 a6 a7)) (F.args_zip_next_1 _))))
theorem Ze {z TI TO i1 i2 l1 l2:Addr}{k1 k2:Nat}{xs ys:Array Value}{a b:Value}{Q:Option Value->Shared->Prop}(hh:A.handled=none) (D:ZipApart z TI TO i1 i2 l1 l2)
 (hz:IsZip s.heap z TI TO .none) (hTI:IsPair s.heap TI (.ref i1) (.ref i2)) (hTO:IsPair s.heap TO a b)
 (h1:s.heap.IsListIter i1 l1 k1) (h2:s.heap.IsTupleIter i2 l2 k2) (hl1:s.heap.IsList l1 xs) (hl2:s.heap.IsTuple l2 ys) (hend:xs[k1]? =none\/ys[k2]? =none)
 (hQ: ∀h',(∀ c o,c≠z->c≠TO->c≠i1->c≠i2->s.heap.get? c=some o->h'.get? c=some o)->Q none { s with heap:=h' }):wpAny (model prog w) A (pyNext (.ref z)) Q E s:=by
 have hT:s.TypeIs (.ref z) "zip" :=⟨_,hz,rfl⟩
 unfold pyNext
 refine wpAny_bind (wpAny_attempt (wpAny_callSpecial?_slot (name:=Str.ofString "__next__") hT F.slot_zip_next
  (wpAny_call_entry F.slot_zip_next hT F.entry_zip_next (Xp hh D hz hTI hTO h1 h2 hl1 hl2 hend fun h' e hk he=> ?_) (F.args_zip_next_1 _))))
 obtain⟨o,ho,hc⟩:=he
 refine wpAny_bind (wpAny_isInstance (T:= "StopIteration") (b:=true) ⟨o,ho,hc⟩ isSubtype_stop ?_)
 exact wpAny_pure (hQ _ hk)
end
abbrev zipT1 (h:Heap) (l1:Addr):Heap:=h.push { cls:= .type "list_iterator",data:= .fields #[.ref l1,.int 0 0] }
abbrev zipT2 (h:Heap) (l1 l2:Addr):Heap:=(zipT1 h l1).push { cls:= .type "tuple_iterator",data:= .fields #[.ref l2,.int 0 0] }
abbrev zipT3 (h:Heap) (l1 l2:Addr):Heap:=(zipT2 h l1 l2).push { cls:= .type "tuple",data:= .seq #[.ref h.objs.size,.ref (zipT1 h l1).objs.size] }
abbrev zipT4 (h:Heap) (l1 l2:Addr):Heap:=(zipT3 h l1 l2).push { cls:= .type "tuple",data:= .seq #[.none,.none] }
abbrev zipT5 (h:Heap) (l1 l2:Addr):Heap:=(zipT4 h l1 l2).push { cls:= .type "zip",data:= .fields #[.none,.bool false,.bool false,.ref (zipT2 h l1 l2).objs.size,.ref (zipT3 h l1 l2).objs.size] }
theorem zn (l1 l2:Addr) (xs ys:Array Value):
 Meets (Builtin.«zip.__new__» ⟨[.type "zip",.ref l1,.ref l2],[]⟩) (fun _ R s=>s.heap.IsList l1 xs/\s.heap.IsTuple l2 ys ∧
  R (.ok (.ret (.ref (zipT4 s.heap l1 l2).objs.size))) { s with heap:=zipT5 s.heap l1 l2 }):=
 .of_wp fun prog w A R s h=>by
  obtain⟨hp,g,d,tk,os⟩:=s;obtain⟨hl1,hl2,h⟩:=h
  have hsub:=sub_zip
  have hL1:Heap.IsList (Shared.heap ⟨hp,g,d,tk,os⟩) l1 xs:=hl1
  have hL2:Heap.IsTuple (Shared.heap ⟨hp.push { cls:= .type "list_iterator",data:= .fields #[.ref l1,.int 0 0] },g,d,tk,os⟩) l2 ys:=Heap.IsTuple.push hl2 _
  wp_walk using wpAny_pyIter_list hL1,wpAny_pyIter_tuple hL2
  exact⟨_,rfl,h⟩
section
variable {prog:Program}{w:World}{A:Around}{E:Value->Shared->Prop}{s:Shared}
theorem QA {l1 l2:Addr}{xs ys:Array Value}{Q:Value->Shared->Prop}(hl1:s.heap.IsList l1 xs) (hl2:s.heap.IsTuple l2 ys)
 (h: ∀h',IsZip h' (s.heap.objs.size+4) (s.heap.objs.size+2) (s.heap.objs.size+3) .none->IsPair h' (s.heap.objs.size+2) (.ref s.heap.objs.size) (.ref (s.heap.objs.size+1)) →
   IsPair h' (s.heap.objs.size+3) .none .none->h'.IsListIter s.heap.objs.size l1 0->h'.IsTupleIter (s.heap.objs.size+1) l2 0->h'.objs.size=s.heap.objs.size+5 →
   (∀ c o,s.heap.get? c=some o->h'.get? c=some o)->Q (.ref (s.heap.objs.size+4)) { s with heap:=h' }):
 wpAny (model prog w) A (call (.type "zip") [.ref l1,.ref l2]) Q E s:=by
 refine callType_new F.called_zip (by decide) (F.typeCall_zip_2 _ _) (F.newCall_zip_2 _ _) (fun obj=>F.args_object_init_3 obj _ _) F.entry_zip_new
  (zn l1 l2 xs ys) ⟨hl1,hl2,?_⟩
 have z1:(zipT1 s.heap l1).objs.size=s.heap.objs.size+1:=Heap.size_push ..
 have z2:(zipT2 s.heap l1 l2).objs.size=s.heap.objs.size+2:=by rw [Heap.size_push,z1]
 have z3:(zipT3 s.heap l1 l2).objs.size=s.heap.objs.size+3:=by rw [Heap.size_push,z2]
 have z4:(zipT4 s.heap l1 l2).objs.size=s.heap.objs.size+4:=by rw [Heap.size_push,z3]
 have z5:(zipT5 s.heap l1 l2).objs.size=s.heap.objs.size+5:=by rw [Heap.size_push,z4]
 have g5:(zipT5 s.heap l1 l2).get? (zipT4 s.heap l1 l2).objs.size=some _:=Heap.get?_push_size _ rfl
 have g4:(zipT5 s.heap l1 l2).get? (zipT3 s.heap l1 l2).objs.size=some _:=Heap.get?_push_of_some _ (Heap.get?_push_size _ rfl)
 have g3:(zipT5 s.heap l1 l2).get? (zipT2 s.heap l1 l2).objs.size=some _:=Heap.get?_push_of_some _ (Heap.get?_push_of_some _ (Heap.get?_push_size _ rfl))
 have g2:(zipT5 s.heap l1 l2).get? (zipT1 s.heap l1).objs.size=some _:=Heap.get?_push_of_some _ (Heap.get?_push_of_some _ (Heap.get?_push_of_some _ (Heap.get?_push_size _ rfl)))
 have g1:(zipT5 s.heap l1 l2).get? s.heap.objs.size=some _:=Heap.get?_push_of_some _ (Heap.get?_push_of_some _ (Heap.get?_push_of_some _ (Heap.get?_push_of_some _ (Heap.get?_push_size _ rfl))))
 show _/\_
 rw [z2,z3,z4]at g5
 rw [z1,z2]at g3
 rw [z3]at g4
 rw [z1]at g2
 rw [z4]
 exact⟨⟨_,g5,rfl⟩,h _ g5 g3 g4 ⟨_,g1,rfl,rfl⟩ ⟨_,g2,rfl,rfl⟩ z5 fun c o x=>
  Heap.get?_push_of_some _ (Heap.get?_push_of_some _ (Heap.get?_push_of_some _ (Heap.get?_push_of_some _ (Heap.get?_push_of_some _ x))))⟩
end
end PySem
namespace L2
open PySem PySem.Spec PyProof.Rows
section
variable {X:Cx}{pins:List (Addr×Obj)}{σ:St}{H:Hp}{s:Shared}{h':Heap}
theorem Inv.turnedL {t':Nat}{ch:List Addr}(I:Inv X pins σ H s) (k: ∀b o,b∉ch->s.heap.get? b=some o->h'.get? b=some o) (hf: ∀b∈ch,FpOk X pins H b):Inv X pins σ H { s with heap:=h',toks:=t' }:=by
 have nit: ∀b u,H b=some u->b∉ch:=fun b u q z=>by rw [(hf b z).1]at q;cases q
 refine I.step (g':=s.gens) (d':=s.drawn) (ch:=ch) (fun b hb=> ?_) (fun b o _ _ hc e _=>k b o hc e) (fun b o _ _ hc e _=>⟨o.slots,k b o hc e⟩) (fun _ _ _ _ n=>n)
  (fun b o hc e=>⟨o,k b o hc e⟩) (fun _ _ e=>e) (fun _ _ _ e=>e) (fun b ps e=>⟨#[],by rw [e];simp⟩) (fun m hm=> ?_) (fun b u q=> ?_) I.bare
 ·obtain⟨f0,f1,f2,f3,f4,f5⟩:=hf b hb
  exact⟨f3,f1,f4,f5⟩
 ·obtain⟨o,es,ep,ho,r⟩:=hm
  exact⟨o,es,ep,k _ o (fun z=>(hf _ z).2.1 rfl) ho,r⟩
 ·refine(I.hok b u q).stay (fun c v hc q'=>k c v ?_ q') (fun _ q=>q) fun _ _ q=>q
  rcases hc with z | z
  ·rw [z];exact nit b u q
  ·exact nit c _ z
end
def Itz (K:PySem.W.Frag) (l a:Addr):It:=
 ⟨fun i H=> ∃xs x ys y,SqL K H l xs/\xs[i]? =some x/\SqT K H a ys/\ys[i]? =some y,
   fun i H v H'=> ∃p x y,H p=none/\v= .ref p/\H'=upd H p (.tup [x,y])/\(∀ xs,SqL K H l xs->xs[i]? =some x)/\ ∀ys,SqT K H a ys->ys[i]? =some y,
   fun i H=> ∃xs ys,SqL K H l xs/\SqT K H a ys/\min xs.length ys.length=i⟩
theorem XY {P:Program}{w:World}{K:PySem.W.Frag}{elts:List Expr}{x1:Nat}{tp:Pos}(z TI TO i1 i2 l a:Addr) (D:ZipApart z TI TO i1 i2 l a):Turn P w K (.Tuple elts x1 tp) (Itz K l a) [z,TI,TO,i1,i2] z
 (fun i h=>IsZip h z TI TO .none/\IsPair h TI (.ref i1) (.ref i2)/\(∃ c d,IsPair h TO c d)/\h.IsListIter i1 l i/\h.IsTupleIter i2 a i) where
 mem:=by simp
 obj:=fun i h st b hb=>by
  obtain⟨hz,hTI,⟨c,d,hTO⟩,⟨o1,q1,c1,d1⟩,⟨o2,q2,c2,d2⟩⟩:=st
  simp only [List.mem_cons,List.not_mem_nil,or_false]at hb
  rcases hb with e | e | e | e | e
  ·rw [e];exact⟨_,hz,fun v z=>by cases z⟩
  ·rw [e];exact⟨_,hTI,fun v z=>by cases z⟩
  ·rw [e];exact⟨_,hTO,fun v z=>by cases z⟩
  ·rw [e];exact⟨o1,q1,fun v z=>by rw [d1]at z;cases z⟩
  ·rw [e];exact⟨o2,q2,fun v z=>by rw [d2]at z;cases z⟩
 keep:=fun i h h' st k=>by
  obtain⟨hz,hTI,⟨c,d,hTO⟩,h1,h2⟩:=st
  exact⟨k z (by simp) _ hz,k TI (by simp) _ hTI,⟨c,d,k TO (by simp) _ hTO⟩,h1.at fun o e=>k i1 (by simp) o e,h2.at fun o e=>k i2 (by simp) o e⟩
 item:=by
  intro X hP hw hK hc i pins s σ H E I hf st hg
  subst hP hw hK
  obtain⟨hz,hTI,⟨c,d,hTO⟩,h1,h2⟩:=st
  obtain⟨xs,x,ys,y,hq,hx,hq',hy⟩:=hg
  obtain⟨its,rv,p,_⟩:=I.list hq
  obtain⟨its2,rv2,p2,_⟩:=I.tuple hq'
  obtain⟨u,hu,ru⟩:=rv.get hx
  obtain⟨u2,hu2,ru2⟩:=rv2.get hy
  refine je D hz hTI hTO h1 h2 p.isList (show s.heap.IsTuple a its2.toArray from p2) (x:=u) (y:=u2) (by simpa using hu) (by simpa using hu2) fun h3 a1 a2 a3 a4 a5 a6 hk=> ?_
  refine⟨_,rfl,wpAny_letOwnedTupleGo_zip (s:= { s with heap:=h3 }) a1 fun h4 hz4 sb=> ?_⟩
  have sb:Heap.SameBut z h3 h4:=sb
  have lt: ∀ {c o},s.heap.get? c=some o->c≠s.heap.objs.size:=fun e=>Nat.ne_of_lt (Heap.lt_size e)
  have hn:H s.heap.objs.size=none:=I.hok.fresh (Nat.le_refl _)
  have I1:Inv X pins σ (upd H s.heap.objs.size (.tup [x,y])) { s with heap:=s.heap.push { cls:= .type "tuple",data:= .seq #[u,u2] } }:=by
   refine I.laid (t':=s.toks) (fun b o q=>Heap.get?_push_of_some _ q) (Nat.le_refl _) ⟨by simp only [List.length_cons,List.length_nil];rw [sizeLine_eq];decide,[u,u2],.cons ru (.cons ru2 .nil),?_⟩
   exact⟨_,Heap.get?_push_size s.heap rfl,rfl,rfl,_,rfl⟩
  have fz: ∀b∈ [z,TI,TO,i1,i2],b≠s.heap.objs.size:=fun b hb=>by
   obtain⟨o1,q1,_⟩:=h1
   obtain⟨o2,q2,_⟩:=h2
   simp only [List.mem_cons,List.not_mem_nil,or_false]at hb
   rcases hb with e | e | e | e | e
   ·rw [e];exact lt hz
   ·rw [e];exact lt hTI
   ·rw [e];exact lt hTO
   ·rw [e];exact lt q1
   ·rw [e];exact lt q2
  have I2:=I1.turnedL (t':=s.toks) (h':=h4) (ch:= [z,TI,TO,i1,i2]) (fun b o hb q=>by
   simp only [List.mem_cons,List.not_mem_nil,or_false,not_or]at hb
   obtain⟨b1,b2,b3,b4,b5⟩:=hb
   refine(sb.2 b b1).trans ?_
   rcases Heap.get?_push_cases (h:=s.heap) (show (s.heap.push { cls:= .type "tuple",data:= .seq #[u,u2] }).get? b=some o from q)with⟨e1,e2⟩ | e1
   ·rw [e1,e2];exact a5
   ·exact hk b o b1 b3 b4 b5 e1) (fun b hb=>by
   obtain⟨f0,f⟩:=hf b hb
   exact⟨by rw [qa (fz b hb)];exact f0,f⟩)
  refine⟨.ref s.heap.objs.size,_,I2,rfl,⟨s.heap.objs.size,x,y,hn,rfl,rfl,fun zs hzs=>by rw [I.list_inj hzs hq];exact hx,fun zs hzs=>by rw [I.tuple_inj hzs hq'];exact hy⟩,?_,fun b hb=>by rw [qa (fz b hb)];exact(hf b hb).1⟩
  exact⟨hz4,(sb.2 TI D.TIz).trans (hk _ _ D.TIz D.TITO D.TIi1 D.TIi2 hTI),⟨_,_,(sb.2 TO D.TOz).trans a2⟩,a3.at fun o e=>(sb.2 i1 D.i1z).trans e,a4.at fun o e=>(sb.2 i2 D.i2z).trans e⟩
 done:=by
  intro X hP hw hK hc i pins s σ H E I hf st hg
  subst hP hw hK
  obtain⟨hz,hTI,⟨c,d,hTO⟩,h1,h2⟩:=st
  obtain⟨xs,ys,hq,hq',hx⟩:=hg
  obtain⟨its,rv,p,_⟩:=I.list hq
  obtain⟨its2,rv2,p2,_⟩:=I.tuple hq'
  have hl:=rv.length
  have hl2:=rv2.length
  have hend:its.toArray[i]? =none\/its2.toArray[i]? =none:=by
   rcases Nat.le_total xs.length ys.length with q | q
   ·exact .inl (Array.getElem?_eq_none (by rw [List.size_toArray];rw [Nat.min_eq_left q]at hx;omega))
   ·exact .inr (Array.getElem?_eq_none (by rw [List.size_toArray];rw [Nat.min_eq_right q]at hx;omega))
  exact Ze (I.ok.hd hc) D hz hTI hTO h1 h2 p.isList (show s.heap.IsTuple a its2.toArray from p2) hend fun h3 hk=>⟨rfl,I.turnedL (t':=s.toks) (ch:= [z,TI,TO,i1,i2]) (fun b o hb q=>by
   simp only [List.mem_cons,List.not_mem_nil,or_false,not_or]at hb
   exact hk b o hb.1 hb.2.2.1 hb.2.2.2.1 hb.2.2.2.2 q) hf⟩
 self:=fun _ _ _ _ _ st h=>wpAny_pyIter_zip st.1 h
theorem ZV (n l t:Nat) (h1:l<n) (h2:t<n):ZipApart (n+4) (n+2) (n+3) n (n+1) l t:=by
 constructor<;>exact fun e=>absurd (show @Eq Nat _ _ from e) (by omega)
def iZip (K:PySem.W.Frag) (ta:TA):TI:=fun σ H R=>ta σ H fun vs H1=> ∃l a xs ys,vs= [.ref l,.ref a]/\SqL K H1 l xs/\SqT K H1 a ys/\R (Itz K l a) H1
theorem XZ:bootBuiltins "zip" =some (.type "zip"):=by decide +kernel
theorem xaC {X:Cx}{elts:List Expr}{x1:Nat}{tp:Pos}{a b:Expr}{ta:TA}{p pos:Pos}(hg:Gl X "zip") (hm:X.mg "zip" =none) (ha:PA X [a,b] ta) (hs:starEach [a,b] X.env= [(false,eval a X.env),(false,eval b X.env)]:=by rfl) (hs2:starEach [b] X.env= [(false,eval b X.env)]:=by rfl):PI X (.Tuple elts x1 tp) (.Call (.Name "zip" p) [a,b] [] pos) (iZip X.K ta):=by
 intro pins s σ H R I h
 refine Call_ (Jh I hg hm XZ (PyProof.Rows.callWith_type1 (thn (ha pos pins s σ H _ I h) fun us s1 ⟨vs,H1,I1,r1,q1⟩=> ?_) (by rw [hs,hs2]) (by rw [hs2];rfl)))
 obtain⟨l,t,xs,ys,e,hq,hq',q⟩:=q1
 subst e
 cases r1 with
 | cons r rr=>
  cases rr with
  | cons r' rr'=>
   cases rr'
   cases r
   cases r'
   obtain⟨its,rv,pl,_⟩:=I1.list hq
   obtain⟨its2,rv2,pt,_⟩:=I1.tuple hq'
   have hL:s1.heap.IsList l its.toArray:=pl.isList
   have hT:s1.heap.IsTuple t its2.toArray:=pt
   have l1:l<s1.heap.objs.size:=by obtain⟨o,e,_⟩:=hL;exact Heap.lt_size e
   have l2:t<s1.heap.objs.size:=by obtain⟨o,e,_⟩:=hT;exact Heap.lt_size e
   refine QA hL hT fun h3 a1 a2 a3 a4 a5 a6 hk=> ?_
   refine wpAny_pyIter_zip (s:= { s1 with heap:=h3 }) a1 ?_
   refine⟨s1.heap.objs.size+4,[s1.heap.objs.size+4,s1.heap.objs.size+2,s1.heap.objs.size+3,s1.heap.objs.size,s1.heap.objs.size+1],_,_,H1,rfl,I1.kept (t':=s1.toks) hk,
    XY (s1.heap.objs.size+4) (s1.heap.objs.size+2) (s1.heap.objs.size+3) s1.heap.objs.size (s1.heap.objs.size+1) l t (ZV _ l t l1 l2),⟨a1,a2,⟨_,_,a3⟩,a4,a5⟩,fun c hb=> ?_,q⟩
   have hc:s1.heap.objs.size<=c:=by
    simp only [List.mem_cons,List.not_mem_nil,or_false]at hb
    rcases hb with e | e | e | e | e<;>rw [e]<;>first | exact Nat.le_refl _ | exact Nat.le_add_right _ _
   exact I1.fpOk hc (I1.hok.fresh hc)
end L2
namespace HT
open PySem PyProof.Rows
section
open PySem.SeqAt
open PySem.AutoSeq1 (wpAny_loadPart')
open PySem.MeetsSeq PySem.MeetsSeq2 PySem.MeetsSeq3
end
section
variable {prog:Program}{w:World}{A:Around}{E:Value->Shared->Prop}{s:Shared}
end
end HT
namespace L2
open PySem PySem.Spec PyProof.Rows
section
variable {X:Cx}
def rLtL (K:PySem.W.Frag):R2:=fun x y H Q=> ∃a b ns ms,x= .ref a/\y= .ref b/\SqL K H a (ns.map V.int)/\SqL K H b (ms.map V.int)/\ns.length=ms.length/\Q (.bl (HT.lexLt ns ms)) H
end
end L2
set_option maxHeartbeats 8000000
namespace L2
open PySem PySem.Spec PyProof.Rows
def stepS (σ:List Str) (v:Str):List Str:=if σ.any (· ==v)then σ else σ++ [v]
def metS (val:Nat->Str) (i:Nat):List Str:=((List.range i).map val).foldl stepS []
theorem qaH (val:Nat->Str):metS val 0= []:=rfl
section
variable {prog:Program}{w:World}{A:Around}{R:Result->Shared->Prop}{I:Addr}{fp wr:List Addr}{G:Array GenState->Array GenState->Prop}{n:Nat}{P:Nat->Value->Prop}{St:Nat->Shared->Prop}
end
end L2
namespace L2
open PySem PySem.Spec PyProof.Rows
section
variable {prog:Program}{w:World}{A:Around}{E:Value->Shared->Prop}{s:Shared}
set_option maxHeartbeats 8000000 in
end
end L2
namespace L2
open PySem PySem.Spec PyProof.Rows
section
variable {X:Cx}
def unlS (ss:List Str):Nat:=(metS (fun i=>ss.getD i "") ss.length).length
def tLs (K:PySem.W.Frag) (ta:TA):TE:=fun σ H Q=>ta σ H fun vs H1=> ∃a,∃ss:List Str,vs= [.ref a]/\SqL K H1 a (ss.map V.str)/\ss.length<1000/\Q (.int (unlS ss:Nat)) H1
end
end L2
namespace L2
open PySem PySem.Spec PyProof.Rows
open Sem (wp)
abbrev K2:=List (Int ⊕ List Int)
section
variable (prog:Program) (w:World)
inductive Items2 (h:Heap):K2->List Value->Prop
 | nil:Items2 h [] []
 | int {i:Int}{t:Tok}{ks:K2}{vs:List Value}:Items2 h ks vs->Items2 h (.inl i::ks) (.int i t::vs)
 | tup {l:List Int}{a:Addr}{ks:K2}{vs:List Value}:IsTupleKey (intKind prog w) h l a->Items2 h ks vs->Items2 h (.inr l::ks) (.ref a::vs)
def IsKey2 (h:Heap) (ks:K2) (a:Addr):Prop:= ∃o items n,h.get? a=some o/\o.cls= .type "tuple" /\o.data= .seq items n/\Items2 prog w h ks items.toList
def hash1:(Int ⊕ List Int)->Int
 | .inl i=>(intKind prog w).hash i
 | .inr l=>tupleKeyHash (intKind prog w) l
def draw1:(Int ⊕ List Int)->Nat
 | .inl _=>1
 | .inr l=>l.length+1
def hash2 (ks:K2):Int:=reduceHash (Builtin.Tuple.tupleHashOf (ks.map (hash1 prog w)))
def draw2 (ks:K2):Nat:=(ks.map draw1).sum+1
end
section
variable {prog:Program}{w:World}{h:Heap}
theorem Items2.inj {x y:K2}{vs:List Value}(hx:Items2 prog w h x vs) (hy:Items2 prog w h y vs):x=y:=by
 induction hx generalizing y with
 | nil=>cases hy;rfl
 | int _ ih=>
  cases hy with
  | int t=>rw [ih t]
 | tup h1 _ ih=>
  cases hy with
  | tup h2 t=>rw [h1.inj h2,ih t]
theorem IsKey2.inj {a:Addr}{x y:K2}(hx:IsKey2 prog w h x a) (hy:IsKey2 prog w h y a):x=y:=by
 obtain⟨o,items,n,ho,_,hd,hi⟩:=hx
 obtain⟨o',items',n',ho',_,hd',hi'⟩:=hy
 obtain rfl:o=o':=Option.some.inj (ho.symm.trans ho')
 rw [hd]at hd'
 injection hd' with h1 _
 subst h1
 exact hi.inj hi'
theorem IsKey2.typeIs {s:Shared}{ks:K2}{a:Addr}(x:IsKey2 prog w s.heap ks a):s.TypeIs (.ref a) "tuple" :=let ⟨o,_,_,ho,hc,_⟩:=x; ⟨o,ho,hc⟩
theorem Items2.keeps {h':Heap}{d:Addr}{o:Obj}{es ep}(ho:h.get? d=some o) (hd:o.data= .dict es ep) (hs:Heap.SameBut d h h'): ∀ {ks:K2}{vs:List Value},Items2 prog w h ks vs->Items2 prog w h' ks vs
 | _,_,.nil=> .nil
 | _,_,.int t=> .int (t.keeps ho hd hs)
 | _,_,.tup k t=> .tup (k.keeps ho hd hs) (t.keeps ho hd hs)
theorem IsKey2.keeps {h':Heap}{ks:K2}{a d:Addr}{o:Obj}{es ep}(x:IsKey2 prog w h ks a) (ho:h.get? d=some o) (hd:o.data= .dict es ep) (hs:Heap.SameBut d h h'):IsKey2 prog w h' ks a:=by
 obtain⟨o',items,n,ho',hc,hd',hi⟩:=x
 have hne:a≠d:=by
  rintro rfl
  obtain rfl:o'=o:=Option.some.inj (ho'.symm.trans ho)
  rw [hd]at hd';exact nomatch hd'
 exact⟨o',items,n,(hs.2 a hne).trans ho',hc,hd',hi.keeps ho hd hs⟩
variable {A:Around}{E:Value->Shared->Prop}{s:Shared}
theorem qT {ks:K2}{a:Addr}{Q:Int->Shared->Prop}(hu:A.units+1<cLine) (hk:IsKey2 prog w s.heap ks a) (h:Q (hash2 prog w ks) { s with toks:=s.toks+draw2 ks }):
 wpAny (model prog w) A (pyHash (.ref a)) Q E s:=by
 have hT:=hk.typeIs
 obtain⟨o,items,n,ho,_,hd,hi⟩:=hk
 unfold pyHash
 first | unfold pyHashByItsType | skip
 first | refine wpAny_bind (wpAny_cRoomFor_or (.inr (Nat.lt_of_succ_lt hu)) ?_) | skip
 refine wpAny_bind (wpAny_specialOf hT PySem.F.slot_tuple_hash.lookup ?_)
 show wpAny _ _ (if (some (Value.builtin "tuple.__hash__")==some Value.none)=true then _ else _) Q E s
 rw [if_neg (by rw [beq_builtin_none];exact Bool.false_ne_true)]
 refine wpAny_bind (wpAny_specialOf hT PySem.F.slot_tuple_hash.lookup ?_)
 show wpAny _ _ (callSpecialIfBoundUnlessNone? (.ref a) "__hash__" _ >>= _) Q E s
 refine wpAny_bind (wpAny_callSpecialIfBoundUnlessNone?_slot hT PySem.F.slot_tuple_hash (wpAny_call_entry PySem.F.slot_tuple_hash hT PySem.F.entry_tuple_hash ?_ (PySem.F.args_tuple_hash_1 _)))
 show wpAny _ _ (Builtin.Tuple.tupleItemsOf (.ref a) >>= _) _ _ s
 refine wpAny_bind (wpAny_tupleItemsOf ho hd ?_)
 refine wpAny_bind ?_
 rw [← Array.forIn_toList]
 refine wpAny_forIn_list _
  (fun rest (b:Array Int) s'=> ∃done left,ks=done++left/\Items2 prog w s.heap left rest/\b.toList=done.map (hash1 prog w)/\s'= { s with toks:=s.toks+(done.map draw1).sum })
  _ ?_ ?_ _ _ ⟨[],ks,rfl,hi,rfl,rfl⟩
 ·rintro x rest b s' ⟨done,left,rfl,hl,hb,rfl⟩
  cases hl with
  | @int i t ks' _ hl'=>
   refine wpAny_bind ((intKind prog w).pyHash (k:=i) (v:= .int i t) (by simp [intKind,Value.isInt]) ?_)
   first
    | exact wpAny_pure ⟨done++ [.inl i],ks',by simp,hl',by simp [hb,hash1],by simp [Nat.add_assoc,draw1]⟩
    | exact wpAny_bind (wpAny_pure (wpAny_pure ⟨done++ [.inl i],ks',by simp,hl',by simp [hb,hash1],by simp [Nat.add_assoc,draw1]⟩))
  | @tup l c ks' _ h1 hl'=>
   refine wpAny_bind (wpAny_pyHash_tuple (knd:=intKind prog w) (ks:=l) hu h1 ?_)
   first
    | exact wpAny_pure ⟨done++ [.inr l],ks',by simp,hl',by simp [hb,hash1],by simp [Nat.add_assoc,draw1]⟩
    | exact wpAny_bind (wpAny_pure (wpAny_pure ⟨done++ [.inr l],ks',by simp,hl',by simp [hb,hash1],by simp [Nat.add_assoc,draw1]⟩))
 ·rintro b s' ⟨done,left,rfl,hl,hb,rfl⟩
  cases hl
  rw [List.append_nil]at h
  show wpAny _ _ (retInt (Builtin.Tuple.tupleHashOf b.toList)) _ _ _
  rw [hb]
  refine wpAny_ret_mkInt ?_
  show wpAny _ _ (if (decide (-(2:Int) ^ 63<=Builtin.Tuple.tupleHashOf (done.map (hash1 prog w)))&&decide (Builtin.Tuple.tupleHashOf (done.map (hash1 prog w))<2 ^ 63))=true then _ else _) Q E _
  unfold hash2 reduceHash draw2 at h
  by_cases hr:(decide (-(2:Int) ^ 63<=Builtin.Tuple.tupleHashOf (done.map (hash1 prog w)))&&decide (Builtin.Tuple.tupleHashOf (done.map (hash1 prog w))<2 ^ 63))=true
  ·rw [if_pos hr]
   rw [if_pos hr]at h
   exact wpAny_pure (by simpa [Nat.add_assoc]using h)
  ·rw [if_neg hr]
   rw [if_neg hr]at h
   exact wpAny_bind (wpAny_rule (wpAny_pure (by simpa [Nat.add_assoc]using h)))
theorem wW {x y:K2}{a b:Addr}{P:Fin->Shared->Prop}(hu:A.units<cLine) (hx:IsKey2 prog w s.heap x a) (hy:IsKey2 prog w s.heap y b) (hxy:x.map Sum.isLeft=y.map Sum.isLeft) (h:P (.done (.ret (.bool (decide (x=y))))) s):
 wpAny (model prog w) A (Builtin.«tuple.__eq__» ⟨[.ref a,.ref b],[]⟩) P E s:=by
 have hTb:=hy.typeIs
 obtain⟨oa,xs,na,hoa,_,hda,hia⟩:=hx
 obtain⟨ob,ys,nb,hob,_,hdb,hib⟩:=hy
 show wpAny _ _ (isInstance (.ref b) (.type "tuple") >>= _) _ _ s
 refine wpAny_bind (wpAny_isInstance hTb isSubtype_tuple_tuple ?_)
 simp only [Bool.not_true,Bool.false_eq_true,if_false]
 refine wpAny_bind (wpAny_tupleItemsOf hoa hda ?_)
 refine wpAny_bind (wpAny_tupleItemsOf hob hdb ?_)
 refine wpAny_bind ?_
 refine wpAny_forIn_list _
  (fun rest r s'=>r.1=none/\s'=s/\ ∃x' y' xs' ys',rest=List.zip xs' ys'/\Items2 prog w s.heap x' xs'/\Items2 prog w s.heap y' ys'/\x'.map Sum.isLeft=y'.map Sum.isLeft/\decide (x'=y')=decide (x=y)/\(xs'.length==ys'.length)=(xs.size==ys.size))
  _ ?_ ?_ _ _ ⟨rfl,rfl,x,y,xs.toList,ys.toList,rfl,hia,hib,hxy,rfl,by simp⟩
 ·rintro ⟨u,v⟩ rest r s' ⟨hr,rfl,x',y',xs',ys',hz,hx',hy',hsh,hdec,hlen⟩
  obtain⟨k1,k2,x'',y'',xs'',ys'',hz',hx'',hy'',hs'',hdec',hlen',he⟩: ∃(k1 k2:Int ⊕ List Int) (x'' y'':K2) (xs'' ys'':List Value),rest=List.zip xs'' ys''/\Items2 prog w s'.heap x'' xs''/\Items2 prog w s'.heap y'' ys''/\x''.map Sum.isLeft=y''.map Sum.isLeft/\decide (k1::x''=k2::y'')=decide (x=y)/\(xs''.length==ys''.length)=(xs.size==ys.size) ∧
   (∀ Q:Bool->Shared->Prop,Q (decide (k1=k2)) s'->wpAny (model prog w) A (eqBool u v) Q E s'):=by
   cases hx' with
   | nil=>simp at hz
   | @int i t x'' xs'' hx''=>
    cases hy' with
    | nil=>simp at hz
    | @tup l2 c2 y'' ys'' g2 hy''=>simp at hsh
    | @int j u2 y'' ys'' hy''=>
     simp only [List.zip_cons_cons,List.cons.injEq,Prod.mk.injEq]at hz
     obtain⟨⟨rfl,rfl⟩,rfl⟩:=hz
     refine⟨.inl i,.inl j,x'',y'',xs'',ys'',rfl,hx'',hy'',by simpa using hsh,hdec,by simpa using hlen,fun Q q=> ?_⟩
     refine(intKind prog w).eqBool (a:=i) (b:=j) (by simp [intKind,Value.isInt]) (by simp [intKind,Value.isInt]) ?_
     have:decide (i=j)=decide ((Sum.inl i:Int ⊕ List Int)= .inl j):=by simp
     rw [this];exact q
   | @tup l1 c1 x'' xs'' g1 hx''=>
    cases hy' with
    | nil=>simp at hz
    | @int j u2 y'' ys'' hy''=>simp at hsh
    | @tup l2 c2 y'' ys'' g2 hy''=>
     simp only [List.zip_cons_cons,List.cons.injEq,Prod.mk.injEq]at hz
     obtain⟨⟨rfl,rfl⟩,rfl⟩:=hz
     refine⟨.inr l1,.inr l2,x'',y'',xs'',ys'',rfl,hx'',hy'',by simpa using hsh,hdec,by simpa using hlen,fun Q q=> ?_⟩
     refine wpAny_eqBool_tuple (knd:=intKind prog w) (x:=l1) (y:=l2) hu g1 g2 ?_
     have:decide (l1=l2)=decide ((Sum.inr l1:Int ⊕ List Int)= .inr l2):=by simp
     rw [this];exact q
  refine wpAny_bind (he _ ?_)
  by_cases hk:k1=k2
  ·subst hk
   rw [decide_eq_true rfl]
   simp only [Bool.not_true,Bool.false_eq_true,if_false]
   refine wpAny_pure ⟨rfl,rfl,x'',y'',xs'',ys'',hz',hx'',hy'',hs'',?_,hlen'⟩
   rw [← hdec']
   by_cases hxy:x''=y''
   ·simp [hxy]
   ·simp [hxy]
  ·rw [decide_eq_false hk]
   simp only [Bool.not_false,if_true]
   have hf:decide (x=y)=false:=by rw [← hdec'];simp [hk]
   rw [hf]at h
   exact wpAny_bind (wpAny_pure (wpAny_pure (wpAny_pure h)))
 ·rintro ⟨r1,r2⟩ s' ⟨hr,rfl,x',y',xs',ys',hz,hx',hy',hsh,hdec,hlen⟩
  simp only at hr
  subst hr
  refine wpAny_pure ?_
  have hfin:(xs.size==ys.size)=decide (x=y):=by
   rw [← hdec,←hlen]
   cases hx' with
   | nil=>
    cases hy' with
    | nil=>simp
    | _=>simp at hsh
   | _=>
    cases hy' with
    | nil=>simp at hsh
    | _=>simp at hz
  show P (.done (.ret (.bool (xs.size==ys.size)))) s'
  rw [hfin];exact h
theorem zan {x y:K2}{a b:Addr}{Q:Bool->Shared->Prop}(hu:A.units+1<cLine) (hx:IsKey2 prog w s.heap x a) (hy:IsKey2 prog w s.heap y b) (hxy:x.map Sum.isLeft=y.map Sum.isLeft) (h:Q (decide (x=y)) s):
 wpAny (model prog w) A (eqBool (.ref a) (.ref b)) Q E s:=by
 unfold eqBool
 try with_reducible refine wpAny_holding ?_
 show wpAny _ _ (if (Value.ref a==Value.ref b)=true then _ else _) Q E s
 by_cases hab:(Value.ref a==Value.ref b)=true
 ·rw [if_pos hab]
  have e:a=b:=by have:=eq_of_beq hab;injection this
  subst e
  obtain rfl:=hx.inj hy
  exact wpAny_bind (wpAny_rule (wpAny_pure (by simpa using h)))
 ·rw [if_neg hab]
  exact wpAny_bind (wpAny_richCompare_same_room (op:= .Eq) hx.typeIs hy.typeIs PySem.F.slot_tuple_eq
   (wpAny_call_entry PySem.F.slot_tuple_eq hx.typeIs PySem.F.entry_tuple_eq (wW hu hx hy hxy ⟨_,rfl,(fun e=>nomatch e),wpAny_truthy_bool h⟩) (PySem.F.args_tuple_eq_2 _ _)) (Nat.lt_of_succ_lt hu))
theorem jaB {ks:List Int}{a:Addr}{n:Nat}{Q:Bool->Shared->Prop}(hk:IsTupleKey (intKind prog w) s.heap ks a) (h:Q true s):wpAny (model prog w) A (eqIsQuiet (n+1) (.ref a)) Q E s:=by
 have hT:=hk.typeIs
 obtain⟨o,items,m,ho,_,hd,hi⟩:=hk
 unfold eqIsQuiet
 refine wpAny_bind (wpAny_specialOf hT PySem.F.slot_tuple_eq.lookup ?_)
 show wpAny _ _ (isInstance (.ref a) (.type "tuple") >>= _) _ _ s
 refine wpAny_bind (wpAny_isInstance hT isSubtype_tuple_tuple ?_)
 simp only [Bool.not_true,Bool.false_eq_true,if_false]
 refine wpAny_bind (wpAny_seqItems ho hd ?_)
 refine wpAny_bind ?_
 show wpAny _ _ (forIn items _ _) _ _ s
 rw [← Array.forIn_toList]
 refine wpAny_forIn_list _ (fun rest r s'=>r.1=none/\s'=s/\ ∀v∈rest,carriedByValue v=true) _ ?_ ?_ _ _ ⟨rfl,rfl,hi.byValue⟩
 ·rintro v rest r s' ⟨hr,rfl,hall⟩
  rw [eqIsQuiet_byValue _ (hall v List.mem_cons_self)]
  refine wpAny_bind (wpAny_pure ?_)
  simp only [Bool.not_true,Bool.false_eq_true,if_false]
  exact wpAny_pure ⟨rfl,rfl,fun u hu'=>hall u (List.mem_cons_of_mem _ hu')⟩
 ·rintro ⟨r1,r2⟩ s' ⟨hr,rfl,_⟩
  simp only at hr
  subst hr
  exact wpAny_pure h
theorem xaH {ks:K2}{a:Addr}{Q:Bool->Shared->Prop}(hk:IsKey2 prog w s.heap ks a) (h:Q true s):wpAny (model prog w) A (eqIsQuiet 8 (.ref a)) Q E s:=by
 have hT:=hk.typeIs
 obtain⟨o,items,m,ho,_,hd,hi⟩:=hk
 unfold eqIsQuiet
 refine wpAny_bind (wpAny_specialOf hT PySem.F.slot_tuple_eq.lookup ?_)
 show wpAny _ _ (isInstance (.ref a) (.type "tuple") >>= _) _ _ s
 refine wpAny_bind (wpAny_isInstance hT isSubtype_tuple_tuple ?_)
 simp only [Bool.not_true,Bool.false_eq_true,if_false]
 refine wpAny_bind (wpAny_seqItems ho hd ?_)
 refine wpAny_bind ?_
 show wpAny _ _ (forIn items _ _) _ _ s
 rw [← Array.forIn_toList]
 refine wpAny_forIn_list _ (fun rest r s'=>r.1=none/\s'=s/\ ∃ks',Items2 prog w s.heap ks' rest) _ ?_ ?_ _ _ ⟨rfl,rfl,ks,hi⟩
 ·rintro v rest r s' ⟨hr,rfl,ks',hall⟩
  cases hall with
  | @int i t ks'' _ hl=>
   rw [eqIsQuiet_byValue _ (v:= .int i t) rfl]
   refine wpAny_bind (wpAny_pure ?_)
   simp only [Bool.not_true,Bool.false_eq_true,if_false]
   exact wpAny_pure ⟨rfl,rfl,_,hl⟩
  | @tup l c ks'' _ hc hl=>
   refine wpAny_bind (jaB hc ?_)
   simp only [Bool.not_true,Bool.false_eq_true,if_false]
   exact wpAny_pure ⟨rfl,rfl,_,hl⟩
 ·rintro ⟨r1,r2⟩ s' ⟨hr,rfl,_⟩
  simp only at hr
  subst hr
  exact wpAny_pure h
end
abbrev WK:=Int×List Int×List Int
def to2 (k:WK):K2:= [.inl k.1,.inr k.2.1,.inr k.2.2]
theorem WS {x y:WK}(h:to2 x=to2 y):x=y:=by
 obtain⟨a,b,c⟩:=x
 obtain⟨d,e,f⟩:=y
 simp only [to2,List.cons.injEq,Sum.inl.injEq,Sum.inr.injEq,and_true]at h
 rw [h.1,h.2.1,h.2.2]
theorem zac (x y:WK):decide (to2 x=to2 y)=decide (x=y):=by
 by_cases c:x=y
 ·subst c;simp
 ·rw [decide_eq_false c,decide_eq_false fun z=>c (WS z)]
def worldKind (prog:Program) (w:World):HeapKind prog w WK where
 is:=fun h k a=>IsKey2 prog w h (to2 k) a
 hash:=fun k=>hash2 prog w (to2 k)
 draws:=fun k=>draw2 (to2 k)
 room:=fun A=>A.units+1<cLine
 inj:=fun hx hy=>WS (hx.inj hy)
 keeps:=fun x ho hd hs=>x.keeps ho hd hs
 pyHash:=fun hu hk h=>qT hu hk h
 eqBool:=fun {A E s x y a b Q} hu hx hy h=>zan hu hx hy rfl (by rw [zac];exact h)
 quiet:=fun hk h=>xaH hk h
end L2
namespace L2
open PySem PySem.Spec PyProof.Rows
open Sem (wp)
def hashL (l:List Int):Int:=reduceHash (Builtin.Tuple.tupleHashOf (l.map hashInt))
def hashW (k:WK):Int:=reduceHash (Builtin.Tuple.tupleHashOf [hashInt k.1,hashL k.2.1,hashL k.2.2])
theorem xaK (P:Program) (w:World) (k:WK):(worldKind P w).hash k=hashW k:=rfl
def entW (x:WK×Addr×Value):DictEntry:=⟨hashW x.1,.ref x.2.1,x.2.2⟩
def DW (a:Addr) (xs:List (WK×Addr×Value)):HO:= .ext fun h=>(a==sysModules)=false/\xs.length<=sizeLine/\(xs.map (·.1)).Nodup/\ ∃o es ep,h.get? a=some o/\o.ExactDict/\o.data= .dict es ep/\es.toList=xs.map entW
section
variable {P:Program}{w:World}{H:Hp}{h:Heap}{a:Addr}{xs:List (WK×Addr×Value)}
theorem qas (h0:(a==sysModules)=false) (h1:xs.length<=sizeLine) (hd:h.DictOfH (worldKind P w) a xs):ObjOk P w H h a (DW a xs):=by
 obtain⟨o,es,ep,e1,e2,e3,e4,_,e5⟩:=hd
 refine⟨⟨h0,h1,e5,o,es,ep,e1,e2,e3,e4⟩,⟨o,e1⟩,fun h1 h2 ⟨p0,p1,p2,o',es',ep',q1,q2,q3,q4⟩ k=>⟨p0,p1,p2,o',es',ep',k o' q1,q2,q3,q4⟩⟩
theorem Q9 (ok:HOk P w H h) (e:H a=some (DW a xs)) (hk: ∀x∈xs,IsKey2 P w h (to2 x.1) x.2.1):(a==sysModules)=false/\xs.length<=sizeLine/\h.DictOfH (worldKind P w) a xs:=by
 obtain⟨⟨p0,p1,p2,o,es,ep,q1,q2,q3,q4⟩,_,_⟩:=(show ObjOk P w H h a (DW a xs)from ok a _ e)
 exact⟨p0,p1,o,es,ep,q1,q2,q3,q4,hk,p2⟩
end
section
variable {X:Cx}{pins:List (Addr×Obj)}{σ:St}{H:Hp}{s:Shared}{a b:Addr}{k:WK}{xs:List (WK×Addr×Value)}{r:Value}{A:Around}{E:Value->Shared->Prop}
theorem qan (I:Inv X pins σ H s):sysModules<s.heap.objs.size:=by
 have h:mainGlobals<s.heap.objs.size:=(I.mod.glob.keeps I.bk).lt
 exact Nat.lt_trans (by decide) h
theorem qaL {Q:Value->Shared->Prop}(hu:A.units+2<cLine) (I:Inv X pins σ H s) (e:H a=some (DW a xs)) (hk: ∀x∈xs,IsKey2 X.prog X.w s.heap (to2 x.1) x.2.1) (hb:IsKey2 X.prog X.w s.heap (to2 k) b) (h: ∀s',Inv X pins σ H s'->Q (.bool (atKey xs k).isSome) s'):
 wpAny (model X.prog X.w) A (compareOp .In (.ref b) (.ref a)) Q E s:=by
 obtain⟨p0,_,dd⟩:=Q9 I.hok e hk
 exact wpAny_in_heap (knd:=worldKind X.prog X.w) hu hb p0 dd (h _ (I.tok _))
theorem JW {Q:Value->Shared->Prop}(hu:A.units+2<cLine) (I:Inv X pins σ H s) (e:H a=some (DW a xs)) (hk: ∀x∈xs,IsKey2 X.prog X.w s.heap (to2 x.1) x.2.1) (hb:IsKey2 X.prog X.w s.heap (to2 k) b) (h: ∀s',Inv X pins σ H s'->Q (.bool (!(atKey xs k).isSome)) s'):
 wpAny (model X.prog X.w) A (compareOp .NotIn (.ref b) (.ref a)) Q E s:=by
 obtain⟨p0,_,dd⟩:=Q9 I.hok e hk
 exact wpAny_notIn_heap (knd:=worldKind X.prog X.w) hu hb p0 dd (h _ (I.tok _))
theorem qaI {Q:Unit->Shared->Prop}(hu:A.units+2<cLine) (I:Inv X pins σ H s) (e:H a=some (DW a xs)) (hk: ∀x∈xs,IsKey2 X.prog X.w s.heap (to2 x.1) x.2.1) (hb:IsKey2 X.prog X.w s.heap (to2 k) b) (hl:xs.length<sizeLine)
 (h: ∀s',Inv X pins σ (upd H a (DW a (storedH xs k b r))) s'->Q () s'):wpAny (model X.prog X.w) A (setItem (.ref a) (.ref b) r) Q E s:=by
 obtain⟨p0,p1,dd⟩:=Q9 I.hok e hk
 refine wpAny_setItem_heap (knd:=worldKind X.prog X.w) (hsz:=p1) hu hb dd fun h' dd' hs=>h _ ?_
 have he: ∃q,h'.get? a=some q:=let ⟨q,_,_,hq,_⟩:=dd'; ⟨q,hq⟩
 have hl2:(storedH xs k b r).length<=sizeLine:=by
  unfold storedH
  split
  ·rw [List.length_map];omega
  ·rw [List.length_append,List.length_singleton];omega
 exact I.write (x:=a) (e:=a) (by rw [e];exact True.intro) (.inl rfl) (fun b' q hb' z=>(hs.2 b' hb').trans z) he (qas p0 hl2 dd')
def tDNewW:TE:=fun _ H Q=> ∀p,H p=none->Q (.ref p) (upd H p (DW p []))
theorem QX {pos:Pos}:PE X (.Dict [] [] pos) tDNewW:=fun pins s σ H Q I h=>
 wpAny_Dict_empty ⟨.ref s.heap.objs.size,_,I.laid (a:=s.heap.objs.size) (o:=DW s.heap.objs.size []) (t':=s.toks) (fun _ _ q=>Heap.get?_push_of_some _ q) (Nat.le_refl _) (qas (beq_eq_false_iff_ne.mpr (Ne.symm (Nat.ne_of_lt (qan I)))) (Nat.zero_le _) (Heap.DictOfH.new _)),rfl,h _ (I.hok.fresh (Nat.le_refl _))⟩
end
end L2
namespace L2
open PySem PySem.Spec PyProof.Rows
open AutoSeq1 (wpAny_loadPart')
open MeetsSeq MeetsSeq2 MeetsSeq3 SeqRoads2 PySem.SeqAt
theorem Zq (l:Addr) (items:Array Value) (n:Nat) (x:Value) (e:Value->Bool) (j:Nat) (hj:j<items.size) (hit:e items[j]=true) (k:Nat) (hs1:items.size<=sizeLine):
 ∀i:Nat,j-i=k->i<=j->(∀ m (hm:m<items.size),i<=m->m<j->e items[m]=false)->Meets (Builtin.«list.remove.loop» ⟨[.ref l,x,rawInt i],[]⟩)
  (fun A R s=>s.heap.get? l=some { cls:= .type "list",dict:=none,data:= .seq items n,slots:= #[] }/\(∀ y,y∈items->EqAt A.in1 s y x (e y))/\R (.ok (.ret .none)) { s with heap:=s.heap.update l (Obj.mapSeq fun xs=>xs.eraseIdxIfInBounds j) }):=by
 induction k with
 | zero=>
  intro i hk hij hno prog w A R s h
  obtain⟨hp,g,d,tk,os⟩:=s;obtain⟨hl,he,h⟩:=h
  have hij':i=j:=by omega
  subst hij'
  wp_walk using wpAny_loadPart' hl
  have hi:items[((i:Nat):Int).toNat]? =some items[i]:=by simp [hj]
  rw [hi]
  refine wpAny_bind (he _ (Array.getElem_mem hj) prog w _ _ ?_)
  rw [hit]
  have hz':(items.eraseIdxIfInBounds i).size<=sizeLine+1:=Nat.le_trans (size_erased items _) (Nat.le_succ_of_le hs1)
  wp_walk using (wpAny_updateSeq hl rfl (hz:=hs1) (_hz':=hz')),wpAny_loadPart' hl
  simpa using h
 | succ k ih=>
  intro i hk hij hno prog w A R s h
  obtain⟨hp,g,d,tk,os⟩:=s;obtain⟨hl,he,h⟩:=h
  have hlt:i<items.size:=by omega
  wp_walk using wpAny_loadPart' hl
  have hi:items[((i:Nat):Int).toNat]? =some items[i]:=by simp [hlt]
  have hc:((i:Int)+1)=((i+1:Nat):Int):=by push_cast;rfl
  rw [hi]
  refine wpAny_bind (he _ (Array.getElem_mem hlt) prog w _ _ ?_)
  rw [hno i hlt (Nat.le_refl _) (by omega)]
  wp_walk
  rw [hc]
  exact⟨plainId_quiet plain_remove_loop _,codeAny_builtin entry_remove_loop (by
   rw [Around.under_plainId plain_remove_loop _]
   exact ih (i+1) (by omega) (by omega) (fun m hm h1 h2=>hno m hm (by omega) h2) prog w A R _ ⟨hl,he,h⟩)⟩
theorem Xq (l:Addr) (items:Array Value) (n:Nat) (x:Value) (e:Value->Bool) (j:Nat) (hj:j<items.size)
 (hit:e items[j]=true) (hno: ∀m (hm:m<items.size),m<j->e items[m]=false) (hs1:items.size<=sizeLine):
 Meets (Builtin.«list.remove» ⟨[.ref l,x],[]⟩)
  (fun A R s=>s.heap.get? l=some { cls:= .type "list",dict:=none,data:= .seq items n,slots:= #[] }/\(∀ y,y∈items->EqAt A.in1 s y x (e y))/\R (.ok (.ret .none)) { s with heap:=s.heap.update l (Obj.mapSeq fun xs=>xs.eraseIdxIfInBounds j) }):=by
 intro prog w A R s h
 obtain⟨hp,g,d,tk,os⟩:=s;obtain⟨hl,he,h⟩:=h
 wp_walk using wpAny_loadPart' hl
 exact⟨plainId_quiet plain_remove_loop _,codeAny_builtin entry_remove_loop (by
  rw [Around.under_plainId plain_remove_loop _]
  exact Zq l items n x e j hj hit _ hs1 0 rfl (Nat.zero_le _) (fun m hm _ h2=>hno m hm h2) prog w A R _ ⟨hl,he,h⟩)⟩
end L2
set_option genSizeOfSpec false
namespace M
abbrev Tx:=List Nat
theorem Q8: ∃n:Nat,n=1000000:=⟨_,rfl⟩
noncomputable def LIM:Nat:=Classical.choose Q8
theorem LIM_eq:LIM=1000000:=Classical.choose_spec Q8
theorem J7: ∃n:Int,n=1073741824:=⟨_,rfl⟩
noncomputable def B30:Int:=Classical.choose J7
theorem B30_eq:B30=1073741824:=Classical.choose_spec J7
theorem Q7: ∃n:Int,n=2 ^ 62:=⟨_,rfl⟩
noncomputable def B62:Int:=Classical.choose Q7
theorem B62_eq:B62=2 ^ 62:=Classical.choose_spec Q7
theorem Q5: ∃n:Int,n=2 ^ 64:=⟨_,rfl⟩
noncomputable def B64:Int:=Classical.choose Q5
theorem B64_eq:B64=2 ^ 64:=Classical.choose_spec Q5
theorem jav: ∃n:Int,n=1000000:=⟨_,rfl⟩
noncomputable def BP:Int:=Classical.choose jav
theorem BP_eq:BP=1000000:=Classical.choose_spec jav
theorem X6: ∃n:Nat,n=2 ^ 64:=⟨_,rfl⟩
noncomputable def N64:Nat:=Classical.choose X6
theorem N64_eq:N64=2 ^ 64:=Classical.choose_spec X6
inductive D where
 | non
 | bl (b:Bool)
 | int (i:Int)
 | str (s:Tx)
 | tup (xs:List D)
 | lst (xs:List D)
 | ref (r:Nat)
 | exc (c:String) (fs:List (String×D))
inductive W where
 | v (d:D)
 | own (xs:List D)
 | bor (xs:List D)
abbrev WK:=Int×List Int×List Int
inductive Cell where
 | lst (xs:List D)
 | dic (ks:List WK)
abbrev AH:=List Cell
abbrev Sl:=List (Option W)
inductive R (α:Type) where
 | ok (a:α) (h:AH)
 | exc (d:D) (h:AH)
 | fail
def R.bind {α β:Type}:R α->(α->AH->R β)->R β
 | .ok a h,f=>f a h
 | .exc d h,_=> .exc d h
 | .fail,_=> .fail
inductive O where
 | next (τ:Sl) (h:AH)
 | ret (w:W) (h:AH)
 | brk (τ:Sl) (h:AH)
 | cont (τ:Sl) (h:AH)
 | exc (d:D) (h:AH)
 | fail
def O.seq:O->(Sl->AH->O)->O
 | .next τ h,f=>f τ h
 | o,_=>o
def R.toO {α:Type}:R α->(α->AH->O)->O
 | .ok a h,f=>f a h
 | .exc d h,_=> .exc d h
 | .fail,_=> .fail
section
variable {α β:Type}
@[simp] theorem R.bind_ok (a:α) (h:AH) (f:α->AH->R β):(R.ok a h).bind f=f a h:=rfl
@[simp] theorem R.bind_exc (d:D) (h:AH) (f:α->AH->R β):(R.exc d h).bind f= .exc d h:=rfl
@[simp] theorem R.bind_fail (f:α->AH->R β):(R.fail).bind f= .fail:=rfl
@[simp] theorem R.toO_ok (a:α) (h:AH) (f:α->AH->O):(R.ok a h).toO f=f a h:=rfl
@[simp] theorem R.toO_exc (d:D) (h:AH) (f:α->AH->O):(R.exc d h).toO f= .exc d h:=rfl
@[simp] theorem R.toO_fail (f:α->AH->O):(R.fail).toO f= .fail:=rfl
@[simp] theorem O.seq_next (τ:Sl) (h:AH) (f:Sl->AH->O):(O.next τ h).seq f=f τ h:=rfl
@[simp] theorem O.seq_ret (w:W) (h:AH) (f:Sl->AH->O):(O.ret w h).seq f= .ret w h:=rfl
@[simp] theorem O.seq_brk (τ:Sl) (h:AH) (f:Sl->AH->O):(O.brk τ h).seq f= .brk τ h:=rfl
@[simp] theorem O.seq_cont (τ:Sl) (h:AH) (f:Sl->AH->O):(O.cont τ h).seq f= .cont τ h:=rfl
@[simp] theorem O.seq_exc (d:D) (h:AH) (f:Sl->AH->O):(O.exc d h).seq f= .exc d h:=rfl
@[simp] theorem O.seq_fail (f:Sl->AH->O):(O.fail).seq f= .fail:=rfl
end
inductive Op where
 | add | sub | mul | fdiv | mod | pow | shl | shr | band | bor | bxor
 deriving DecidableEq
inductive Cp where
 | eq | ne | lt | le | gt | ge | mem | nmem | isb
 deriving DecidableEq
inductive Ty where
 | non | bool | int | str | list | tuple
 deriving DecidableEq
inductive Mt where
 | index | join | count | indexI
 deriving DecidableEq
inductive Bi where
 | len | int | list | tuple | sum | all | any | sorted | divmod | str | min | max | abs
 deriving DecidableEq
mutual
inductive E where
 | var (i:Nat)
 | con (x:String)
 | int (i:Int)
 | bl (b:Bool)
 | non
 | str (s:Tx)
 | tup (es:Es)
 | lst (es:Es)
 | bin (o:Op) (a b:E)
 | cmp (o:Cp) (a b:E)
 | chain (o p:Cp) (a b c:E)
 | isn (neg:Bool) (a:E)
 | neg (a:E)
 | inv (a:E)
 | not (a:E)
 | and (a b:E)
 | or (a b:E)
 | ite (c a b:E)
 | call (f:String) (es:Es)
 | bi (b:Bi) (es:Es)
 | isT (a:E) (t:Ty)
 | isX (a:E) (one:Bool) (ts:List String)
 | ix (a b:E)
 | sl (a lo hi:E)
 | slL (a lo:E)
 | slH (a hi:E)
 | rev (a:E)
 | comp (tg:List Nat) (one:Bool) (k:Nat) (cap:List Nat) (it:It) (hasIf:Bool) (c elt:E)
 | compR (tg:List Nat) (one:Bool) (k:Nat) (cap:List Nat) (i:Nat) (elt:E)
 | dnew
 | din (neg:Bool) (a:E) (i:Nat)
 | dlen (i:Nat)
 | share (a:E)
 | lenset (a:E)
 | lensT (a:E)
 | trange (a:E)
 | lrange (a:E)
 | sorti (a:E)
 | geT (a b:E)
 | ltL (a b:E)
 | meth (m:Mt) (a:E) (es:Es)
inductive Es where
 | nil
 | cons (e:E) (es:Es)
inductive It where
 | seq (e:E)
 | range1 (a:E)
 | range2 (a b:E)
 | rev (e:E)
 | zip (a b:E)
 | enum (e:E)
end
mutual
inductive S where
 | set (i:Nat) (e:E)
 | setf (i:Nat) (e:E)
 | unp (is:List Nat) (e:E)
 | setix (i:Nat) (k e:E)
 | setref (o k e:E)
 | app (i:Nat) (e:E)
 | ins (i:Nat) (k e:E)
 | ext (i:Nat) (e:E)
 | pop (i:Nat)
 | popTo (i j:Nat)
 | mv (i j:Nat)
 | dput (i:Nat) (e:E)
 | clr (i:Nat)
 | rem (i:Nat) (e:E)
 | insR (i:Nat) (k e:E)
 | appR (i:Nat) (e:E)
 | popR (i j:Nat)
 | popU (i:Nat) (is:List Nat)
 | forR (tg:List Nat) (one:Bool) (i:Nat) (b:Ss)
 | freeze (i:Nat)
 | ex (e:E)
 | ret (e:E)
 | retn
 | iff (c:E) (a b:Ss)
 | whl (n:Nat) (c:E) (b:Ss)
 | for (tg:List Nat) (one:Bool) (it:It) (b:Ss)
 | raise (c:String) (es:Es)
 | tryc (to:Option Nat) (f:String) (es:Es) (c:String) (nm:Nat) (hb:Ss)
 | brk
 | cont
 | pass
inductive Ss where
 | nil
 | cons (s:S) (ss:Ss)
end
noncomputable section
mutual
@[simp,reducible] def noRef:D->Bool
 | .ref _=>false
 | .tup xs=>noRefs xs
 | .lst xs=>noRefs xs
 | .exc _ _=>false
 | _=>true
@[simp,reducible] def noRefs:List D->Bool
 | []=>true
 | x::xs=>noRef x&&noRefs xs
end
mutual
@[simp,reducible] def dep:D->Nat
 | .tup xs=>deps xs+1
 | .lst xs=>deps xs+1
 | _=>0
@[simp,reducible] def deps:List D->Nat
 | []=>0
 | x::xs=>max (dep x) (deps xs)
end
@[reducible] def eqOk (a b:D):Bool:=noRef a&&noRef b&&decide (dep a<150)
mutual
@[simp] def res (h:AH):D->D
 | .ref r=>match h[r]? with
  | some (.lst xs)=> .lst xs
  | _=> .ref r
 | .tup xs=> .tup (ress h xs)
 | .lst xs=> .lst (ress h xs)
 | d=>d
@[simp] def ress (h:AH):List D->List D
 | []=> []
 | x::xs=>res h x::ress h xs
end
mutual
@[simp] def eqD:D->D->Bool
 | .non,.non=>true
 | .bl a,.bl b=>a==b
 | .int i,.int j=>i==j
 | .bl a,.int j=>(a.toNat:Int)==j
 | .int i,.bl b=>i==(b.toNat:Int)
 | .str s,.str t=>s==t
 | .tup xs,.tup ys=>eqDs xs ys
 | .lst xs,.lst ys=>eqDs xs ys
 | _,_=>false
@[simp] def eqDs:List D->List D->Bool
 | [],[]=>true
 | x::xs,y::ys=>eqD x y&&eqDs xs ys
 | _,_=>false
end
def chs (s:Tx):List D:=s.map fun c=> .str [c]
def W.d:W->Option D
 | .v d=>some d
 | .own xs=>some (.lst xs)
 | .bor _=>none
def W.arg:W->W
 | .own xs=> .bor xs
 | w=>w
@[simp] theorem W.arg_v (d:D):(W.v d).arg= .v d:=rfl
@[simp] theorem W.arg_own (xs:List D):(W.own xs).arg= .bor xs:=rfl
@[simp] theorem W.arg_bor (xs:List D):(W.bor xs).arg= .bor xs:=rfl
def W.dd (h:AH):W->D
 | .v d=>res h d
 | .own xs=> .lst (ress h xs)
 | .bor xs=> .lst (ress h xs)
def W.lst? (h:AH):W->Option (List D)
 | .v (.lst xs)=>some xs
 | .own xs=>some xs
 | .bor xs=>some xs
 | .v (.ref r)=>match h[r]? with
  | some (.lst xs)=>some xs
  | _=>none
 | _=>none
def W.seq? (h:AH):W->Option (List D)
 | .v (.tup xs)=>some xs
 | .v (.lst xs)=>some xs
 | .own xs=>some xs
 | .bor xs=>some xs
 | .v (.ref r)=>match h[r]? with
  | some (.lst xs)=>some xs
  | _=>none
 | _=>none
def R.of {α:Type}(h:AH):Option α->R α
 | some a=> .ok a h
 | none=> .fail
@[simp] abbrev okv (d:D) (h:AH):R W:= .ok (.v d) h
def truD (h:AH):W->Option Bool
 | .v .non=>some false
 | .v (.bl b)=>some b
 | .v (.int i)=>some (i != 0)
 | .v (.str s)=>if s.length<=LIM then some (!s.isEmpty)else none
 | .v (.tup xs)=>some (!xs.isEmpty)
 | .v (.lst xs)=>some (!xs.isEmpty)
 | .own xs=>some (!xs.isEmpty)
 | .bor xs=>some (!xs.isEmpty)
 | _=>none
@[simp] theorem R.of_some {α:Type}(h:AH) (a:α):R.of h (some a)= .ok a h:=rfl
@[simp] theorem R.of_none {α:Type}(h:AH):R.of h (none:Option α)= .fail:=rfl
@[simp] theorem W.d_v (d:D):(W.v d).d=some d:=rfl
@[simp] theorem W.d_own (xs:List D):(W.own xs).d=some (.lst xs):=rfl
@[simp] theorem W.d_bor (xs:List D):(W.bor xs).d=none:=rfl
@[simp] theorem W.dd_v (h:AH) (d:D):(W.v d).dd h=res h d:=rfl
@[simp] theorem W.dd_own (h:AH) (xs:List D):(W.own xs).dd h= .lst (ress h xs):=rfl
@[simp] theorem W.dd_bor (h:AH) (xs:List D):(W.bor xs).dd h= .lst (ress h xs):=rfl
@[simp] theorem W.lst_v (h:AH) (xs:List D):(W.v (.lst xs)).lst? h=some xs:=rfl
@[simp] theorem W.lst_own (h:AH) (xs:List D):(W.own xs).lst? h=some xs:=rfl
@[simp] theorem W.lst_bor (h:AH) (xs:List D):(W.bor xs).lst? h=some xs:=rfl
@[simp] theorem W.seq_tup (h:AH) (xs:List D):(W.v (.tup xs)).seq? h=some xs:=rfl
@[simp] theorem W.seq_v (h:AH) (xs:List D):(W.v (.lst xs)).seq? h=some xs:=rfl
@[simp] theorem W.seq_own (h:AH) (xs:List D):(W.own xs).seq? h=some xs:=rfl
@[simp] theorem W.seq_bor (h:AH) (xs:List D):(W.bor xs).seq? h=some xs:=rfl
@[simp] theorem tru_non (h:AH):truD h (.v .non)=some false:=rfl
@[simp] theorem tru_bl (h:AH) (b:Bool):truD h (.v (.bl b))=some b:=rfl
@[simp] theorem tru_int (h:AH) (i:Int):truD h (.v (.int i))=some (i != 0):=rfl
@[simp] theorem tru_str (h:AH) (s:Tx):truD h (.v (.str s))=if s.length<=LIM then some (!s.isEmpty)else none:=rfl
@[simp] theorem tru_tup (h:AH) (s:List D):truD h (.v (.tup s))=some (!s.isEmpty):=rfl
@[simp] theorem tru_lst (h:AH) (s:List D):truD h (.v (.lst s))=some (!s.isEmpty):=rfl
@[simp] theorem tru_own (h:AH) (s:List D):truD h (.own s)=some (!s.isEmpty):=rfl
@[simp] theorem tru_bor (h:AH) (s:List D):truD h (.bor s)=some (!s.isEmpty):=rfl
def andI (i j:Int):Option Int:=
 if 0<=i then(if 0<=j then some ((i.toNat &&& j.toNat:Nat):Int)else some ((i.toNat-(i.toNat &&& (-j-1).toNat):Nat):Int))else none
def orI (i j:Int):Option Int:=if 0<=i/\0<=j then some ((i.toNat ||| j.toNat:Nat):Int)else none
def xorI (i j:Int):Option Int:=if 0<=i/\0<=j then some ((i.toNat ^^^ j.toNat:Nat):Int)else none
def intOp (o:Op) (i j:Int):Option Int:=match o with
 | .add=>some (i+j)
 | .sub=>some (i-j)
 | .mul=>if(-(B64)<i/\i<B64)\/(-(B64)<j/\j<B64)then some (i*j)else none
 | .fdiv=>if 0<j/\j<B30 then some (i / j)else none
 | .mod=>if 0<j then some (i % j)else none
 | .pow=>if 0<=j/\j<=BP/\i.natAbs<N64 then some (i ^ j.toNat)else none
 | .shl=>if 0<=j/\j<=BP/\i.natAbs<N64 then some (i*2 ^ j.toNat)else none
 | .shr=>if 0<=j then some (i / 2 ^ j.toNat)else none
 | .band=>andI i j
 | .bor=>orI i j
 | .bxor=>xorI i j
def W.int? :W->Option Int
 | .v (.int i)=>some i
 | _=>none
def W.str? :W->Option Tx
 | .v (.str s)=>some s
 | _=>none
def W.tup? :W->Option (List D)
 | .v (.tup s)=>some s
 | _=>none
def catL (xs ys:List D) (h:AH):R W:=if xs.length+ys.length<=LIM then .ok (.own (xs++ys)) h else .fail
def repL (xs:List D) (j:Int) (h:AH):R W:=if -1000<=j/\j<=1000/\xs.length*j.toNat<=LIM then .ok (.own (List.replicate j.toNat xs).flatten) h else .fail
def addD (a b:W) (h:AH):R W:=match a.str?,b.str? with
 | some s,some t=>if s.length+t.length<=LIM then okv (.str (s++t)) h else .fail
 | _,_=>match a.tup?,b.tup? with
  | some xs,some ys=>if xs.length+ys.length<=LIM then okv (.tup (xs++ys)) h else .fail
  | _,_=>match a.lst? h,b.lst? h with
   | some xs,some ys=>catL xs ys h
   | _,_=> .fail
def W.lstO? (h:AH):W->Option (List D)
 | .own xs=>some xs
 | .bor xs=>some xs
 | .v (.ref r)=>match h[r]? with
  | some (.lst xs)=>some xs
  | _=>none
 | _=>none
def mulD (a b:W) (h:AH):R W:=match a.str?,b.int? with
 | some s,some j=>if 0<=j/\j<=1000/\s.length*j.toNat<=LIM then okv (.str (List.replicate j.toNat s).flatten) h else .fail
 | _,_=>match a.lstO? h,b.int? with
  | some xs,some j=>repL xs j h
  | _,_=> .fail
def binD (o:Op) (a b:W) (h:AH):R W:=match a.int?,b.int? with
 | some i,some j=>(R.of h (intOp o i j)).bind fun k h=>okv (.int k) h
 | _,_=>match o with
  | .add=>addD a b h
  | .mul=>mulD a b h
  | _=> .fail
def inD (x:D) (xs:List D):Bool:=xs.any fun y=>eqD y x
@[simp,reducible] def flat:D->Bool
 | .non=>true
 | .bl _=>true
 | .int _=>true
 | .str _=>true
 | _=>false
def memG (a b:W) (h:AH):Option Bool:=match b.dd h with
 | .lst ys=>if noRef (a.dd h)&&noRefs ys&&decide (deps ys<140)then some (inD (a.dd h) ys)else none
 | _=>none
def memD (a b:W) (h:AH):Option Bool:=match a.str?,b.str? with
 | some s,some t=>match s with
  | [c]=>some (t.contains c)
  | _=>none
 | _,_=>match a.d,b.seq? h with
  | some d,some xs=>if flat d&&xs.all flat then some (inD d xs)else memG a b h
  | _,_=>none
def cmpI (o:Cp) (i j:Int):Option Bool:=match o with
 | .lt=>some (decide (i<j))
 | .le=>some (decide (i<=j))
 | .gt=>some (decide (j<i))
 | .ge=>some (decide (j<=i))
 | _=>none
def cmpT (o:Cp) (i j:Tx):Option Bool:=match o with
 | .lt=>some (decide (i<j))
 | .ge=>some (!decide (i<j))
 | _=>none
def isbD:W->W->Option Bool
 | .v .non,.v (.bl _)=>some false
 | .v (.bl b),.v (.bl c)=>some (b==c)
 | _,_=>none
def cmpD (o:Cp) (a b:W) (h:AH):Option Bool:=match o with
 | .eq=>if eqOk (a.dd h) (b.dd h)then some (eqD (a.dd h) (b.dd h))else none
 | .ne=>if eqOk (a.dd h) (b.dd h)then some (!eqD (a.dd h) (b.dd h))else none
 | .mem=>memD a b h
 | .nmem=>(memD a b h).map (!·)
 | .isb=>isbD a b
 | o=>match a.int?,b.int? with
  | some i,some j=>cmpI o i j
  | _,_=>match a.str?,b.str? with
   | some s,some t=>cmpT o s t
   | _,_=>none
def ixN (n:Nat) (i:Int):Option Nat:=if 0<=i then(if i<n then some i.toNat else none)else if -(n:Int)<=i then some (i+n).toNat else none
def atI {α:Type}(xs:List α) (i:Int):Option α:=(ixN xs.length i).bind fun j=>xs[j]?
def ixD (a b:W) (h:AH):Option D:=match b.int? with
 | some i=>match a.str? with
  | some s=>if s.length<=LIM then(atI s i).map fun c=> .str [c]else none
  | none=>(a.seq? h).bind fun xs=>atI xs i
 | none=>none
def sIx (n d:Nat):Option Int->Nat
 | none=>d
 | some v=>if v<0 then(v+n).toNat else min v.toNat n
def cut {α:Type}(xs:List α) (lo hi:Option Int):List α:=(xs.drop (sIx xs.length 0 lo)).take (sIx xs.length xs.length hi-sIx xs.length 0 lo)
def slD (a:W) (lo hi:Option Int) (h:AH):R W:=match a.str? with
 | some s=>if s.length<=LIM then okv (.str (cut s lo hi)) h else .fail
 | none=>match a.tup? with
  | some xs=>okv (.tup (cut xs lo hi)) h
  | none=>match a.lst? h with
   | some xs=> .ok (.own (cut xs lo hi)) h
   | none=> .fail
def sumD:List D->Option Int
 | []=>some 0
 | .int i::r=>(sumD r).map (i+ ·)
 | _::_=>none
def intsD:List D->Option (List Int)
 | []=>some []
 | .int i::r=>(intsD r).map (i:: ·)
 | _::_=>none
def strsD:List D->Option (List Tx)
 | []=>some []
 | .str s::r=>(strsD r).map (s:: ·)
 | _::_=>none
def maxI:List Int->Option Int
 | []=>none
 | i::r=>some (r.foldl (fun a b=>if b>a then b else a) i)
def minI:List Int->Option Int
 | []=>none
 | i::r=>some (r.foldl (fun a b=>if b<a then b else a) i)
def insT (x:Tx):List Tx->List Tx
 | []=> [x]
 | y::ys=>if y<x then y::insT x ys else x::y::ys
def sortT:List Tx->List Tx
 | []=> []
 | x::xs=>insT x (sortT xs)
def insI (x:Int):List Int->List Int
 | []=> [x]
 | y::ys=>if y<x then y::insI x ys else x::y::ys
def sortI:List Int->List Int
 | []=> []
 | x::xs=>insI x (sortI xs)
def lexI:List Int->List Int->Bool
 | [],[]=>false
 | [],_::_=>true
 | _::_,[]=>false
 | x::xs,y::ys=>if x=y then lexI xs ys else decide (x<y)
def idxT (x:Tx):List Tx->Option Nat
 | []=>none
 | y::ys=>if y=x then some 0 else(idxT x ys).map (· +1)
def joinT (s:Tx):List Tx->Tx
 | []=> []
 | [x]=>x
 | x::y::r=>x++s++joinT s (y::r)
def blsD:List D->Option (List Bool)
 | []=>some []
 | .bl b::r=>(blsD r).map (b:: ·)
 | _::_=>none
def bi1 (b:Bi) (w:W) (h:AH):R W:=match b with
 | .len=>match w.str? with
  | some s=>if s.length<=LIM then okv (.int s.length) h else .fail
  | none=>(R.of h (w.seq? h)).bind fun xs h=>okv (.int xs.length) h
 | .int=>match w with
  | .v (.int i)=>okv (.int i) h
  | .v (.bl b)=>okv (.int (b.toNat:Int)) h
  | _=> .fail
 | .list=>(R.of h (w.seq? h)).bind fun xs h=> .ok (.own xs) h
 | .tuple=>(R.of h (w.seq? h)).bind fun xs h=>okv (.tup xs) h
 | .sum=>(R.of h ((w.lst? h).bind fun xs=>if xs.length<=LIM then sumD xs else none)).bind fun i h=>okv (.int i) h
 | .all=>(R.of h ((w.lst? h).bind blsD)).bind fun bs h=>okv (.bl (bs.all id)) h
 | .any=>(R.of h ((w.lst? h).bind blsD)).bind fun bs h=>okv (.bl (bs.any id)) h
 | .max=>(R.of h (((w.lst? h).bind intsD).bind maxI)).bind fun i h=>okv (.int i) h
 | .min=>(R.of h (((w.lst? h).bind intsD).bind minI)).bind fun i h=>okv (.int i) h
 | .sorted=>(R.of h ((w.lst? h).bind strsD)).bind fun ts h=>if ts.length<64 then .ok (.own ((sortT ts).map .str)) h else .fail
 | _=> .fail
def mtTy (m:Mt) (x:W) (h:AH):Bool:=match m with
 | .index=>x.tup?.isSome
 | .indexI=>x.tup?.isSome
 | .join=>x.str?.isSome
 | .count=>(x.lst? h).isSome
@[simp] theorem mt_tup (xs:List D) (h:AH):mtTy .index (.v (.tup xs)) h=true:=rfl
@[simp] theorem mt_str (s:Tx) (h:AH):mtTy .join (.v (.str s)) h=true:=rfl
def idxI (x:Int):List Int->Option Nat
 | []=>none
 | y::ys=>if y=x then some 0 else(idxI x ys).map (· +1)
def unlI:List Int->List Int->Nat
 | _,[]=>0
 | seen,x::xs=>(if seen.any (· ==x)then 0 else 1)+unlI (seen++ [x]) xs
def unlT:List Tx->List Tx->Nat
 | _,[]=>0
 | seen,x::xs=>(if seen.any (· ==x)then 0 else 1)+unlT (seen++ [x]) xs
def numD:Nat->List D->List D
 | _,[]=> []
 | i,d::ds=> .tup [.int (i:Int),d]::numD (i+1) ds
def methD (m:Mt) (x:W) (ws:List W) (h:AH):R W:=match m,ws with
 | .index,[w]=>(R.of h (x.tup?.bind strsD)).bind fun ts h=>(R.of h w.str?).bind fun t h=>(R.of h (idxT t ts)).bind fun n h=>if ts.length<=LIM then okv (.int (n:Int)) h else .fail
 | .indexI,[w]=>(R.of h (x.tup?.bind intsD)).bind fun ts h=>(R.of h w.int?).bind fun t h=>(R.of h (idxI t ts)).bind fun n h=>okv (.int (n:Int)) h
 | .join,[w]=>(R.of h x.str?).bind fun s h=>(R.of h ((w.lst? h).bind strsD)).bind fun ts h=>if(joinT s ts).length<=LIM/\ts.length<=LIM/\s.length<=LIM then okv (.str (joinT s ts)) h else .fail
 | .count,[w]=>(R.of h ((x.lst? h).bind intsD)).bind fun is h=>(R.of h w.int?).bind fun i h=>if is.length<=LIM then okv (.int ((is.count i:Nat):Int)) h else .fail
 | _,_=> .fail
def bi2 (b:Bi) (i j:Int) (h:AH):R W:=match b with
 | .divmod=>if 0<j/\j<B30 then okv (.tup [.int (i / j),.int (i % j)]) h else .fail
 | .min=>okv (.int (if j<i then j else i)) h
 | .max=>okv (.int (if j>i then j else i)) h
 | _=> .fail
def biD (b:Bi) (ws:List W) (h:AH):R W:=match ws with
 | [w]=>bi1 b w h
 | [v,w]=>(R.of h v.int?).bind fun i h=>(R.of h w.int?).bind fun j h=>bi2 b i j h
 | _=> .fail
@[simp] theorem bin_ints (o:Op) (i j:Int) (h:AH):binD o (.v (.int i)) (.v (.int j)) h=(R.of h (intOp o i j)).bind fun k h=>okv (.int k) h:=rfl
@[simp] theorem int_add (i j:Int):intOp .add i j=some (i+j):=rfl
@[simp] theorem int_sub (i j:Int):intOp .sub i j=some (i-j):=rfl
@[simp] theorem bin_strs (s u:Tx) (h:AH):binD .add (.v (.str s)) (.v (.str u)) h=if s.length+u.length<=LIM then okv (.str (s++u)) h else .fail:=rfl
@[simp] theorem bin_tups (s u:List D) (h:AH):binD .add (.v (.tup s)) (.v (.tup u)) h=if s.length+u.length<=LIM then okv (.tup (s++u)) h else .fail:=rfl
@[simp] theorem cat_vv (s u:List D) (h:AH):binD .add (.v (.lst s)) (.v (.lst u)) h=if s.length+u.length<=LIM then .ok (.own (s++u)) h else .fail:=rfl
@[simp] theorem cat_vo (s u:List D) (h:AH):binD .add (.v (.lst s)) (.own u) h=if s.length+u.length<=LIM then .ok (.own (s++u)) h else .fail:=rfl
@[simp] theorem cat_vb (s u:List D) (h:AH):binD .add (.v (.lst s)) (.bor u) h=if s.length+u.length<=LIM then .ok (.own (s++u)) h else .fail:=rfl
@[simp] theorem cat_ov (s u:List D) (h:AH):binD .add (.own s) (.v (.lst u)) h=if s.length+u.length<=LIM then .ok (.own (s++u)) h else .fail:=rfl
@[simp] theorem cat_oo (s u:List D) (h:AH):binD .add (.own s) (.own u) h=if s.length+u.length<=LIM then .ok (.own (s++u)) h else .fail:=rfl
@[simp] theorem cat_ob (s u:List D) (h:AH):binD .add (.own s) (.bor u) h=if s.length+u.length<=LIM then .ok (.own (s++u)) h else .fail:=rfl
@[simp] theorem cat_bv (s u:List D) (h:AH):binD .add (.bor s) (.v (.lst u)) h=if s.length+u.length<=LIM then .ok (.own (s++u)) h else .fail:=rfl
@[simp] theorem cat_bo (s u:List D) (h:AH):binD .add (.bor s) (.own u) h=if s.length+u.length<=LIM then .ok (.own (s++u)) h else .fail:=rfl
@[simp] theorem cat_bb (s u:List D) (h:AH):binD .add (.bor s) (.bor u) h=if s.length+u.length<=LIM then .ok (.own (s++u)) h else .fail:=rfl
@[simp] theorem cmp_isb (a b:W) (h:AH):cmpD .isb a b h=isbD a b:=rfl
@[simp] theorem cmp_lt (i j:Int) (h:AH):cmpD .lt (.v (.int i)) (.v (.int j)) h=some (decide (i<j)):=rfl
@[simp] theorem cmp_le (i j:Int) (h:AH):cmpD .le (.v (.int i)) (.v (.int j)) h=some (decide (i<=j)):=rfl
@[simp] theorem cmp_gt (i j:Int) (h:AH):cmpD .gt (.v (.int i)) (.v (.int j)) h=some (decide (j<i)):=rfl
@[simp] theorem cmp_ge (i j:Int) (h:AH):cmpD .ge (.v (.int i)) (.v (.int j)) h=some (decide (j<=i)):=rfl
@[simp] theorem cmp_eq (a b:W) (h:AH):cmpD .eq a b h=if eqOk (a.dd h) (b.dd h)then some (eqD (a.dd h) (b.dd h))else none:=rfl
@[simp] theorem cmp_ne (a b:W) (h:AH):cmpD .ne a b h=if eqOk (a.dd h) (b.dd h)then some (!eqD (a.dd h) (b.dd h))else none:=rfl
@[simp] theorem int?_int (i:Int):(W.v (.int i)).int? =some i:=rfl
@[simp] theorem len_str (s:Tx) (h:AH):biD .len [.v (.str s)] h=if s.length<=LIM then okv (.int s.length) h else .fail:=rfl
@[simp] theorem len_tup (s:List D) (h:AH):biD .len [.v (.tup s)] h=okv (.int s.length) h:=rfl
@[simp] theorem len_lst (s:List D) (h:AH):biD .len [.v (.lst s)] h=okv (.int s.length) h:=rfl
@[simp] theorem len_own (s:List D) (h:AH):biD .len [.own s] h=okv (.int s.length) h:=rfl
@[simp] theorem len_bor (s:List D) (h:AH):biD .len [.bor s] h=okv (.int s.length) h:=rfl
@[simp] theorem int_int (i:Int) (h:AH):biD .int [.v (.int i)] h=okv (.int i) h:=rfl
@[simp] theorem int_bl (b:Bool) (h:AH):biD .int [.v (.bl b)] h=okv (.int (b.toNat:Int)) h:=rfl
@[simp] theorem list_tup (s:List D) (h:AH):biD .list [.v (.tup s)] h= .ok (.own s) h:=rfl
@[simp] theorem list_lst (s:List D) (h:AH):biD .list [.v (.lst s)] h= .ok (.own s) h:=rfl
@[simp] theorem list_own (s:List D) (h:AH):biD .list [.own s] h= .ok (.own s) h:=rfl
@[simp] theorem list_bor (s:List D) (h:AH):biD .list [.bor s] h= .ok (.own s) h:=rfl
@[simp] theorem tuple_tup (s:List D) (h:AH):biD .tuple [.v (.tup s)] h=okv (.tup s) h:=rfl
@[simp] theorem tuple_lst (s:List D) (h:AH):biD .tuple [.v (.lst s)] h=okv (.tup s) h:=rfl
@[simp] theorem tuple_own (s:List D) (h:AH):biD .tuple [.own s] h=okv (.tup s) h:=rfl
@[simp] theorem tuple_bor (s:List D) (h:AH):biD .tuple [.bor s] h=okv (.tup s) h:=rfl
@[simp] theorem all_own (s:List D) (h:AH):biD .all [.own s] h=(R.of h (blsD s)).bind fun bs h=>okv (.bl (bs.all id)) h:=rfl
@[simp] theorem any_own (s:List D) (h:AH):biD .any [.own s] h=(R.of h (blsD s)).bind fun bs h=>okv (.bl (bs.any id)) h:=rfl
@[simp] theorem sum_own (s:List D) (h:AH):biD .sum [.own s] h=(R.of h (if s.length<=LIM then sumD s else none)).bind fun i h=>okv (.int i) h:=rfl
@[simp] theorem divmod_ints (i j:Int) (h:AH):biD .divmod [.v (.int i),.v (.int j)] h=if 0<j/\j<B30 then okv (.tup [.int (i / j),.int (i % j)]) h else .fail:=rfl
@[simp] theorem min_ints (i j:Int) (h:AH):biD .min [.v (.int i),.v (.int j)] h=okv (.int (if j<i then j else i)) h:=rfl
@[simp] theorem max_ints (i j:Int) (h:AH):biD .max [.v (.int i),.v (.int j)] h=okv (.int (if j>i then j else i)) h:=rfl
@[simp] theorem X4 (s:Tx) (i:Int) (h:AH):ixD (.v (.str s)) (.v (.int i)) h=if s.length<=LIM then(atI s i).map fun c=> .str [c]else none:=rfl
@[simp] theorem ix_tup (s:List D) (i:Int) (h:AH):ixD (.v (.tup s)) (.v (.int i)) h=atI s i:=rfl
@[simp] theorem ix_lst (s:List D) (i:Int) (h:AH):ixD (.v (.lst s)) (.v (.int i)) h=atI s i:=rfl
@[simp] theorem ix_own (s:List D) (i:Int) (h:AH):ixD (.own s) (.v (.int i)) h=atI s i:=rfl
@[simp] theorem ix_bor (s:List D) (i:Int) (h:AH):ixD (.bor s) (.v (.int i)) h=atI s i:=rfl
@[simp] theorem sl_lst (s:List D) (lo hi:Option Int) (h:AH):slD (.v (.lst s)) lo hi h= .ok (.own (cut s lo hi)) h:=rfl
@[simp] theorem sl_own (s:List D) (lo hi:Option Int) (h:AH):slD (.own s) lo hi h= .ok (.own (cut s lo hi)) h:=rfl
@[simp] theorem sl_bor (s:List D) (lo hi:Option Int) (h:AH):slD (.bor s) lo hi h= .ok (.own (cut s lo hi)) h:=rfl
abbrev Cls:=List (String×String)
def ancs (cl:Cls):Nat->String->List String
 | 0,_=> []
 | n+1,c=>c::match cl.lookup c with
  | some b=>ancs cl n b
  | none=> []
def tyD:W->Option Ty
 | .v .non=>some .non
 | .v (.bl _)=>some .bool
 | .v (.int _)=>some .int
 | .v (.str _)=>some .str
 | .v (.tup _)=>some .tuple
 | .v (.lst _)=>some .list
 | .own _=>some .list
 | .bor _=>some .list
 | .v (.ref _)=>none
 | .v (.exc _ _)=>none
def Ty.le:Ty->Ty->Bool
 | .bool,.int=>true
 | a,b=>decide (a=b)
def isT (t:Ty) (w:W):Option Bool:=(tyD w).map fun u=>u.le t
@[simp] theorem isT_non (t:Ty):isT t (.v .non)=some (Ty.le .non t):=rfl
@[simp] theorem isT_bl (t:Ty) (b:Bool):isT t (.v (.bl b))=some (Ty.le .bool t):=rfl
@[simp] theorem isT_int (t:Ty) (i:Int):isT t (.v (.int i))=some (Ty.le .int t):=rfl
@[simp] theorem isT_str (t:Ty) (s:Tx):isT t (.v (.str s))=some (Ty.le .str t):=rfl
@[simp] theorem isT_tup (t:Ty) (s:List D):isT t (.v (.tup s))=some (Ty.le .tuple t):=rfl
@[simp] theorem isT_lst (t:Ty) (s:List D):isT t (.v (.lst s))=some (Ty.le .list t):=rfl
@[simp] theorem isT_own (t:Ty) (s:List D):isT t (.own s)=some (Ty.le .list t):=rfl
@[simp] theorem isT_bor (t:Ty) (s:List D):isT t (.bor s)=some (Ty.le .list t):=rfl
@[simp] theorem Ty.le_self (t:Ty):Ty.le t t=true:=by cases t<;>rfl
@[simp] theorem Ty.le_bi:Ty.le .bool .int=true:=rfl
@[simp] theorem Ty.le_ib:Ty.le .int .bool=false:=rfl
@[simp] theorem Ty.le_nb:Ty.le .non .bool=false:=rfl
@[simp] theorem Ty.le_ni:Ty.le .non .int=false:=rfl
@[simp] theorem Ty.le_ns:Ty.le .non .str=false:=rfl
@[simp] theorem Ty.le_nl:Ty.le .non .list=false:=rfl
@[simp] theorem Ty.le_nt:Ty.le .non .tuple=false:=rfl
@[simp] theorem Ty.le_bs:Ty.le .bool .str=false:=rfl
@[simp] theorem Ty.le_bl:Ty.le .bool .list=false:=rfl
@[simp] theorem Ty.le_bt:Ty.le .bool .tuple=false:=rfl
@[simp] theorem Ty.le_is:Ty.le .int .str=false:=rfl
@[simp] theorem Ty.le_il:Ty.le .int .list=false:=rfl
@[simp] theorem Ty.le_it:Ty.le .int .tuple=false:=rfl
@[simp] theorem Ty.le_sb:Ty.le .str .bool=false:=rfl
@[simp] theorem Ty.le_si:Ty.le .str .int=false:=rfl
@[simp] theorem Ty.le_sl:Ty.le .str .list=false:=rfl
@[simp] theorem Ty.le_st:Ty.le .str .tuple=false:=rfl
@[simp] theorem Ty.le_lb:Ty.le .list .bool=false:=rfl
@[simp] theorem Ty.le_li:Ty.le .list .int=false:=rfl
@[simp] theorem Ty.le_ls:Ty.le .list .str=false:=rfl
@[simp] theorem Ty.le_lt:Ty.le .list .tuple=false:=rfl
@[simp] theorem Ty.le_tb:Ty.le .tuple .bool=false:=rfl
@[simp] theorem Ty.le_ti:Ty.le .tuple .int=false:=rfl
@[simp] theorem Ty.le_ts:Ty.le .tuple .str=false:=rfl
@[simp] theorem Ty.le_tl:Ty.le .tuple .list=false:=rfl
def isX (cl:Cls) (w:W) (ts:List String):Option Bool:=match w with
 | .v (.exc c _)=>some (ts.any (ancs cl 8 c).contains)
 | _=>none
@[simp] theorem isX_exc (cl:Cls) (c:String) (fs:List (String×D)) (ts:List String):isX cl (.v (.exc c fs)) ts=some (ts.any (ancs cl 8 c).contains):=rfl
@[simp] def getS:Sl->Nat->Option W
 | [],_=>none
 | x::_,0=>x
 | _::r,n+1=>getS r n
@[simp] def setS:Sl->Nat->W->Sl
 | [],_,_=> []
 | _::r,0,w=>some w::r
 | x::r,n+1,w=>x::setS r n w
def readS (τ:Sl) (i:Nat):Option W:=match getS τ i with
 | some (.own xs)=>some (.bor xs)
 | o=>o
@[simp] theorem readS_own {τ:Sl}{i:Nat}{xs:List D}(e:getS τ i=some (.own xs)):readS τ i=some (.bor xs):=by simp [readS,e]
@[simp] theorem readS_v {τ:Sl}{i:Nat}{d:D}(e:getS τ i=some (.v d)):readS τ i=some (.v d):=by simp [readS,e]
@[simp] theorem readS_bor {τ:Sl}{i:Nat}{xs:List D}(e:getS τ i=some (.bor xs)):readS τ i=some (.bor xs):=by simp [readS,e]
@[simp] def setTup:List Nat->List D->Sl->Option Sl
 | [],[],τ=>some τ
 | i::is,d::ds,τ=>setTup is ds (setS τ i (.v d))
 | _,_,_=>none
def bindT (tg:List Nat) (one:Bool) (d:D) (τ:Sl):Option Sl:=match one with
 | true=>match tg with
  | [i]=>some (setS τ i (.v d))
  | _=>none
 | false=>match d with
  | .tup ds=>setTup tg ds τ
  | _=>none
def compGo (step:D->AH->R (Option D)):List D->AH->R (List D)
 | [],h=> .ok [] h
 | d::ds,h=>match step d h with
  | .ok o h1=>match compGo step ds h1 with
   | .ok r h2=> .ok (match o with | some x=>x::r | none=>r) h2
   | _=> .fail
  | _=> .fail
structure Fx where
 call:String->List W->AH->R W
 cl:Cls
 con:List (String×D)
def cellD (h:AH):Option W->Option (Nat×List D)
 | some (.v (.ref r))=>match h[r]? with
  | some (.lst xs)=>some (r,xs)
  | _=>none
 | _=>none
def wkD:D->Option WK
 | .tup [.int n,.tup ks,.tup ts]=>match intsD ks,intsD ts with
  | some a,some b=>some (n,a,b)
  | _,_=>none
 | _=>none
def dicD (h:AH):Option W->Option (Nat×List WK)
 | some (.v (.ref r))=>match h[r]? with
  | some (.dic ks)=>some (r,ks)
  | _=>none
 | _=>none
def putW (ks:List WK) (k:WK):List WK:=if ks.contains k then ks else ks++ [k]
def dinW (neg:Bool) (w:W) (o:Option (Nat×List WK)) (h:AH):R W:=match w with
 | .v d=>match wkD d,o with
  | some k,some (_,ks)=>okv (.bl (if neg then !ks.contains k else ks.contains k)) h
  | _,_=> .fail
 | _=> .fail
def remD (x:D):List D->Option (List D)
 | []=>none
 | y::ys=>if eqD y x then some ys else(remD x ys).map (y:: ·)
def turnR (r:Nat) (ds:List D) (tg:List Nat) (one:Bool) (τb:Sl) (ev:Sl->AH->R W) (d:D) (h:AH):R (Option D):=open Classical in if h[r]? =some (.lst ds)then(match bindT tg one d τb with
 | none=> .fail
 | some τ'=>(ev τ' h).bind fun y h=>(R.of h y.d).bind fun y h=> .ok (some y) h)else .fail
def endR (r:Nat) (ds ys:List D) (h:AH):R W:=open Classical in if h[r]? =some (.lst ds)then .ok (.own ys) h else .fail
mutual
@[simp] def eval (F:Fx):E->Sl->AH->R W
 | .var i,τ,h=>match readS τ i with
  | some w=> .ok w h
  | none=> .fail
 | .con x,_,h=>match F.con.lookup x with
  | some d=>okv d h
  | none=> .fail
 | .int i,_,h=>okv (.int i) h
 | .bl b,_,h=>okv (.bl b) h
 | .non,_,h=>okv .non h
 | .str s,_,h=>okv (.str s) h
 | .tup es,τ,h=>(evalDs F es τ h).bind fun ds h=>okv (.tup ds) h
 | .lst es,τ,h=>(evalDs F es τ h).bind fun ds h=> .ok (.own ds) h
 | .bin o a b,τ,h=>(eval F a τ h).bind fun x h=>(eval F b τ h).bind fun y h=>binD o x y h
 | .cmp o a b,τ,h=>(eval F a τ h).bind fun x h=>(eval F b τ h).bind fun y h=>(R.of h (cmpD o x y h)).bind fun c h=>okv (.bl c) h
 | .chain o p a b c,τ,h=>(eval F a τ h).bind fun x h=>(eval F b τ h).bind fun y h=>(R.of h (cmpD o x y h)).bind fun t h=>match t with
  | true=>(eval F c τ h).bind fun z h=>(R.of h (cmpD p y z h)).bind fun c h=>okv (.bl c) h
  | false=>okv (.bl false) h
 | .isn neg a,τ,h=>(eval F a τ h).bind fun x h=>match x with
  | .v .non=>okv (.bl (!neg)) h
  | _=>okv (.bl neg) h
 | .neg a,τ,h=>(eval F a τ h).bind fun x h=>(R.of h x.int?).bind fun i h=>okv (.int (-i)) h
 | .inv a,τ,h=>(eval F a τ h).bind fun x h=>(R.of h x.int?).bind fun i h=>okv (.int (-i-1)) h
 | .not a,τ,h=>(eval F a τ h).bind fun x h=>(R.of h (truD h x)).bind fun c h=>okv (.bl (!c)) h
 | .and a b,τ,h=>(eval F a τ h).bind fun x h=>(R.of h (truD h x)).bind fun c h=>match c with
  | true=>eval F b τ h
  | false=> .ok x h
 | .or a b,τ,h=>(eval F a τ h).bind fun x h=>(R.of h (truD h x)).bind fun c h=>match c with
  | true=> .ok x h
  | false=>eval F b τ h
 | .ite c a b,τ,h=>(eval F c τ h).bind fun x h=>(R.of h (truD h x)).bind fun c h=>match c with
  | true=>eval F a τ h
  | false=>eval F b τ h
 | .call f es,τ,h=>(evalWs F es τ h).bind fun ws h=>F.call f (ws.map W.arg) h
 | .bi b es,τ,h=>(evalWs F es τ h).bind fun ws h=>biD b ws h
 | .isT a t,τ,h=>(eval F a τ h).bind fun x h=>(R.of h (isT t x)).bind fun c h=>okv (.bl c) h
 | .isX a _ ts,τ,h=>(eval F a τ h).bind fun x h=>(R.of h (isX F.cl x ts)).bind fun c h=>okv (.bl c) h
 | .ix a b,τ,h=>(eval F a τ h).bind fun x h=>(eval F b τ h).bind fun y h=>(R.of h (ixD x y h)).bind fun d h=>okv d h
 | .sl a lo hi,τ,h=>(eval F a τ h).bind fun x h=>(eval F lo τ h).bind fun l h=>(R.of h l.int?).bind fun l h=>(eval F hi τ h).bind fun u h=>(R.of h u.int?).bind fun u h=>slD x (some l) (some u) h
 | .slL a lo,τ,h=>(eval F a τ h).bind fun x h=>(eval F lo τ h).bind fun l h=>(R.of h l.int?).bind fun l h=>slD x (some l) none h
 | .slH a hi,τ,h=>(eval F a τ h).bind fun x h=>(eval F hi τ h).bind fun u h=>(R.of h u.int?).bind fun u h=>slD x none (some u) h
 | .rev a,τ,h=>(eval F a τ h).bind fun x h=>(R.of h (x.lst? h)).bind fun xs h=> .ok (.own xs.reverse) h
 | .comp tg one k cap it hasIf c elt,τ,h=>(evalIt F it τ h).bind fun ds h=>
  if ds.length<=LIM then
   (compGo (fun d h=>match bindT tg one d (List.replicate k none++cap.map fun j=>readS τ j)with
     | none=> .fail
     | some τ'=>(if hasIf then(eval F c τ' h).bind fun x h=>R.of h (truD h x)else .ok true h).bind fun b h=>match b with
      | true=>(eval F elt τ' h).bind fun y h=>(R.of h y.d).bind fun y h=> .ok (some y) h
      | false=> .ok none h) ds h).bind fun ys h=> .ok (.own ys) h
  else .fail
 | .compR tg one k cap i elt,τ,h=>match cellD h (getS τ i)with
  | some (r,ds)=>if ds.length<=LIM then(compGo (turnR r ds tg one (List.replicate k none++cap.map fun j=>readS τ j) (fun τ' h=>eval F elt τ' h)) ds h).bind fun ys h=>endR r ds ys h else .fail
  | none=> .fail
 | .dnew,_,h=>okv (.ref h.length) (h++ [.dic []])
 | .din neg a i,τ,h=>(eval F a τ h).bind fun x h=>dinW neg x (dicD h (getS τ i)) h
 | .dlen i,τ,h=>match dicD h (getS τ i)with
  | some (_,ks)=>okv (.int (ks.length:Int)) h
  | none=> .fail
 | .share a,τ,h=>(eval F a τ h).bind fun x h=>match x with
  | .own xs=>if noRefs xs then okv (.ref h.length) (h++ [.lst xs])else .fail
  | _=> .fail
 | .lenset a,τ,h=>(eval F a τ h).bind fun x h=>(R.of h (x.tup?.bind intsD)).bind fun is h=>if is.length<1000 then okv (.int ((unlI [] is:Nat):Int)) h else .fail
 | .lensT a,τ,h=>(eval F a τ h).bind fun x h=>(R.of h ((x.lst? h).bind strsD)).bind fun ts h=>if ts.length<1000 then okv (.int ((unlT [] ts:Nat):Int)) h else .fail
 | .trange a,τ,h=>(eval F a τ h).bind fun x h=>(R.of h x.int?).bind fun n h=>if 0<=n/\n<=1000 then okv (.tup ((List.range n.toNat).map fun(i:Nat)=> .int (i:Int))) h else .fail
 | .lrange a,τ,h=>(eval F a τ h).bind fun x h=>(R.of h x.int?).bind fun n h=>if 0<=n/\n<=1000 then .ok (.own ((List.range n.toNat).map fun(i:Nat)=> .int (i:Int))) h else .fail
 | .sorti a,τ,h=>(eval F a τ h).bind fun x h=>(R.of h (x.tup?.bind intsD)).bind fun is h=>if is.length<64 then .ok (.own ((sortI is).map .int)) h else .fail
 | .geT a b,τ,h=>(eval F a τ h).bind fun x h=>(eval F b τ h).bind fun y h=>(R.of h (x.tup?.bind intsD)).bind fun is h=>(R.of h (y.tup?.bind intsD)).bind fun js h=>okv (.bl (!lexI is js)) h
 | .ltL a b,τ,h=>(eval F a τ h).bind fun x h=>(eval F b τ h).bind fun y h=>(R.of h ((x.lst? h).bind intsD)).bind fun is h=>(R.of h ((y.lst? h).bind intsD)).bind fun js h=>if is.length=js.length then okv (.bl (lexI is js)) h else .fail
 | .meth m a es,τ,h=>(eval F a τ h).bind fun x h=>if mtTy m x h then(evalWs F es τ h).bind fun ws h=>methD m x ws h else .fail
@[simp] def evalWs (F:Fx):Es->Sl->AH->R (List W)
 | .nil,_,h=> .ok [] h
 | .cons e es,τ,h=>(eval F e τ h).bind fun w h=>(evalWs F es τ h).bind fun ws h=> .ok (w::ws) h
@[simp] def evalDs (F:Fx):Es->Sl->AH->R (List D)
 | .nil,_,h=> .ok [] h
 | .cons e es,τ,h=>(eval F e τ h).bind fun w h=>(R.of h w.d).bind fun d h=>(evalDs F es τ h).bind fun ds h=> .ok (d::ds) h
@[simp] def evalIt (F:Fx):It->Sl->AH->R (List D)
 | .seq e,τ,h=>(eval F e τ h).bind fun w h=>match w with
  | .v (.str s)=> .ok (chs s) h
  | .v (.tup xs)=> .ok xs h
  | .v (.lst xs)=> .ok xs h
  | .own xs=> .ok xs h
  | .bor xs=> .ok xs h
  | _=> .fail
 | .range1 a,τ,h=>(eval F a τ h).bind fun w h=>(R.of h w.int?).bind fun n h=>if -(B62)<=n/\n<B62 then .ok ((List.range n.toNat).map fun(i:Nat)=> .int (i:Int)) h else .fail
 | .range2 a b,τ,h=>(eval F a τ h).bind fun w h=>(R.of h w.int?).bind fun i h=>(eval F b τ h).bind fun w h=>(R.of h w.int?).bind fun j h=>
  if(-(B62)<=i/\i<B62)/\(-(B62)<=j/\j<B62)then .ok ((List.range (j-i).toNat).map fun(k:Nat)=> .int (i+(k:Int))) h else .fail
 | .rev e,τ,h=>(eval F e τ h).bind fun w h=>match w with
  | .v (.lst xs)=> .ok xs.reverse h
  | .own xs=> .ok xs.reverse h
  | .bor xs=> .ok xs.reverse h
  | _=> .fail
 | .enum e,τ,h=>(eval F e τ h).bind fun w h=>match w with
  | .v (.tup xs)=> .ok (numD 0 xs) h
  | _=> .fail
 | .zip a b,τ,h=>(eval F a τ h).bind fun x h=>(eval F b τ h).bind fun y h=>match x,y with
  | .own xs,.v (.tup ys)=> .ok ((xs.zip ys).map fun p=> .tup [p.1,p.2]) h
  | _,_=> .fail
end
def lpW:W->Option (List D)
 | .v (.str s)=>some (chs s)
 | .v (.tup xs)=>some xs
 | .v (.lst xs)=>some xs
 | .own xs=>some xs
 | _=>none
def lpV:W->Option (List D)
 | .v (.str s)=>some (chs s)
 | .v (.tup xs)=>some xs
 | .v (.lst xs)=>some xs
 | .bor xs=>some xs
 | _=>none
def lpWr:W->Option (List D)
 | .v (.lst xs)=>some xs.reverse
 | .own xs=>some xs.reverse
 | _=>none
def lpVr:W->Option (List D)
 | .v (.lst xs)=>some xs.reverse
 | .bor xs=>some xs.reverse
 | _=>none
@[simp] theorem lpW_str (s:Tx):lpW (.v (.str s))=some (chs s):=rfl
@[simp] theorem lpV_str (s:Tx):lpV (.v (.str s))=some (chs s):=rfl
@[simp] theorem lpW_tup (xs:List D):lpW (.v (.tup xs))=some xs:=rfl
@[simp] theorem lpW_lst (xs:List D):lpW (.v (.lst xs))=some xs:=rfl
@[simp] theorem lpW_own (xs:List D):lpW (.own xs)=some xs:=rfl
@[simp] theorem lpV_tup (xs:List D):lpV (.v (.tup xs))=some xs:=rfl
@[simp] theorem lpV_lst (xs:List D):lpV (.v (.lst xs))=some xs:=rfl
@[simp] theorem lpV_bor (xs:List D):lpV (.bor xs)=some xs:=rfl
@[simp] theorem lpWr_lst (xs:List D):lpWr (.v (.lst xs))=some xs.reverse:=rfl
@[simp] theorem lpWr_own (xs:List D):lpWr (.own xs)=some xs.reverse:=rfl
@[simp] theorem lpVr_lst (xs:List D):lpVr (.v (.lst xs))=some xs.reverse:=rfl
@[simp] theorem lpVr_bor (xs:List D):lpVr (.bor xs)=some xs.reverse:=rfl
@[simp] def isVar:E->Option Nat
 | .var i=>some i
 | _=>none
@[simp] def evalLp (F:Fx) (it:It) (τ:Sl) (h:AH):R (List D):=match it with
 | .seq e=>match isVar e with
  | some i=>R.of h ((getS τ i).bind lpV)
  | none=>(eval F e τ h).bind fun w h=>R.of h (lpW w)
 | .rev e=>match isVar e with
  | some i=>R.of h ((getS τ i).bind lpVr)
  | none=>(eval F e τ h).bind fun w h=>R.of h (lpWr w)
 | it=>evalIt F it τ h
def forGo (bnd:D->Sl->Option Sl) (body:Sl->AH->O):List D->Sl->AH->O
 | [],τ,h=> .next τ h
 | d::ds,τ,h=>match bnd d τ with
  | none=> .fail
  | some τ1=>match body τ1 h with
   | .next τ2 h2=>forGo bnd body ds τ2 h2
   | .cont τ2 h2=>forGo bnd body ds τ2 h2
   | .brk τ2 h2=> .next τ2 h2
   | o=>o
def whlGo (c:Sl->AH->R Bool) (body:Sl->AH->O):Nat->Sl->AH->O
 | 0,_,_=> .fail
 | n+1,τ,h=>(c τ h).toO fun b h1=>match b with
  | false=> .next τ h1
  | true=>match body τ h1 with
   | .next τ2 h2=>whlGo c body n τ2 h2
   | .cont τ2 h2=>whlGo c body n τ2 h2
   | .brk τ2 h2=> .next τ2 h2
   | o=>o
def tstE (F:Fx) (e:E) (τ:Sl) (h:AH):R Bool:=(eval F e τ h).bind fun x h=>R.of h (truD h x)
def setC (w ow kw:W) (τ:Sl) (h:AH):O:=match w,ow,kw with
 | .v d,.v (.ref r),.v (.int j)=>match h[r]? with
  | some (.lst xs)=>match ixN xs.length j with
   | some n=>if flat d then .next τ (h.set r (.lst (xs.set n d)))else .fail
   | none=> .fail
  | _=> .fail
 | _,_,_=> .fail
def forGoR (r:Nat) (xs:List D) (bnd:D->Sl->Option Sl) (body:Sl->AH->O):List D->Sl->AH->O
 | [],τ,h=>open Classical in if h[r]? =some (.lst xs)then .next τ h else .fail
 | d::ds,τ,h=>open Classical in if h[r]? =some (.lst xs)then(match bnd d τ with
  | none=> .fail
  | some τ1=>match body τ1 h with
   | .next τ2 h2=>forGoR r xs bnd body ds τ2 h2
   | .cont τ2 h2=>forGoR r xs bnd body ds τ2 h2
   | .brk τ2 h2=> .next τ2 h2
   | o=>o)else .fail
mutual
@[simp] def exec (F:Fx):S->Sl->AH->O
 | .set i e,τ,h=>(eval F e τ h).toO fun w h=>match w with
  | .bor _=> .fail
  | w=> .next (setS τ i w) h
 | .setf i e,τ,h=>(eval F e τ h).toO fun w h=>match w.d with
  | some d=> .next (setS τ i (.v d)) h
  | none=> .fail
 | .unp is e,τ,h=>(eval F e τ h).toO fun w h=>match w with
  | .v (.tup ds)=>match setTup is ds τ with
   | some τ'=> .next τ' h
   | none=> .fail
  | _=> .fail
 | .setix i k e,τ,h=>(eval F e τ h).toO fun w h=>match getS τ i with
  | some (.own xs)=>(eval F k τ h).toO fun kw h=>match w,kw with
   | .v d,.v (.int j)=>if flat d then(match ixN xs.length j with
    | some n=> .next (setS τ i (.own (xs.set n d))) h
    | none=> .fail)else .fail
   | _,_=> .fail
  | _=> .fail
 | .setref o k e,τ,h=>(eval F e τ h).toO fun w h=>(eval F o τ h).toO fun ow h=>(eval F k τ h).toO fun kw h=>setC w ow kw τ h
 | .app i e,τ,h=>match getS τ i with
  | some (.own xs)=>(eval F e τ h).toO fun w h=>match w.d with
   | some d=>if xs.length<LIM then .next (setS τ i (.own (xs++ [d]))) h else .fail
   | none=> .fail
  | _=> .fail
 | .ins i k e,τ,h=>match getS τ i with
  | some (.own xs)=>(eval F k τ h).toO fun kw h=>(eval F e τ h).toO fun w h=>match kw,w.d with
   | .v (.int j),some d=>if xs.length<LIM/\0<=j/\j<=xs.length then .next (setS τ i (.own (xs.take j.toNat++d::xs.drop j.toNat))) h else .fail
   | _,_=> .fail
  | _=> .fail
 | .ext i e,τ,h=>match getS τ i with
  | some (.own xs)=>(eval F e τ h).toO fun w h=>match w with
   | .own ys=>if xs.length+ys.length<LIM then .next (setS τ i (.own (xs++ys))) h else .fail
   | _=> .fail
  | _=> .fail
 | .pop i,τ,h=>match getS τ i with
  | some (.own xs)=>match xs[xs.length-1]? with
   | some _=> .next (setS τ i (.own (xs.take (xs.length-1)))) h
   | none=> .fail
  | _=> .fail
 | .popTo i j,τ,h=>match getS τ i with
  | some (.own xs)=>match xs[xs.length-1]? with
   | some d=>if flat d then .next (setS (setS τ i (.own (xs.take (xs.length-1)))) j (.v d)) h else .fail
   | none=> .fail
  | _=> .fail
 | .mv i j,τ,h=>match getS τ j with
  | some (.own xs)=> .next (setS (τ.set j none) i (.own xs)) h
  | _=> .fail
 | .dput i e,τ,h=>match dicD h (getS τ i)with
  | some _=>(eval F e τ h).toO fun w h=>match w with
   | .v d=>match wkD d,dicD h (getS τ i)with
    | some k,some (r,ks)=>if ks.length<LIM then .next τ (h.set r (.dic (putW ks k)))else .fail
    | _,_=> .fail
   | _=> .fail
  | none=> .fail
 | .clr i,τ,h=>match getS τ i with
  | some (.own _)=> .next (setS τ i (.own [])) h
  | _=> .fail
 | .rem i e,τ,h=>match getS τ i with
  | some (.own xs)=>(eval F e τ h).toO fun w h=>match w with
   | .v d=>if noRef d&&noRefs xs&&decide (deps xs<140)then(match remD d xs with
    | some ys=> .next (setS τ i (.own ys)) h
    | none=> .fail)else .fail
   | _=> .fail
  | _=> .fail
 | .insR i k e,τ,h=>match cellD h (getS τ i)with
  | some _=>(eval F k τ h).toO fun kw h=>(eval F e τ h).toO fun w h=>match kw,w.d,cellD h (getS τ i)with
   | .v (.int j),some d,some (r,xs)=>if(xs.length<LIM/\0<=j/\j<=xs.length)/\noRef d=true then .next τ (h.set r (.lst (xs.take j.toNat++d::xs.drop j.toNat)))else .fail
   | _,_,_=> .fail
  | none=> .fail
 | .appR i e,τ,h=>match cellD h (getS τ i)with
  | some _=>(eval F e τ h).toO fun w h=>match w.d,cellD h (getS τ i)with
   | some d,some (r,xs)=>if xs.length<LIM/\noRef d=true then .next τ (h.set r (.lst (xs++ [d])))else .fail
   | _,_=> .fail
  | none=> .fail
 | .popR i j,τ,h=>match cellD h (getS τ i)with
  | some (r,xs)=>match xs[xs.length-1]? with
   | some d=> .next (setS τ j (.v d)) (h.set r (.lst (xs.take (xs.length-1))))
   | none=> .fail
  | none=> .fail
 | .popU i is,τ,h=>match cellD h (getS τ i)with
  | some (r,xs)=>match xs[xs.length-1]? with
   | some (.tup ds)=>match setTup is ds τ with
    | some τ'=> .next τ' (h.set r (.lst (xs.take (xs.length-1))))
    | none=> .fail
   | _=> .fail
  | none=> .fail
 | .forR tg one i b,τ,h=>match cellD h (getS τ i)with
  | some (r,xs)=>forGoR r xs (bindT tg one) (fun τ h=>execs F b τ h) xs τ h
  | none=> .fail
 | .freeze i,τ,h=>match getS τ i with
  | some (.own xs)=> .next (setS τ i (.v (.lst xs))) h
  | _=> .next τ h
 | .ex e,τ,h=>(eval F e τ h).toO fun _ h=> .next τ h
 | .ret e,τ,h=>match isVar e with
  | some i=>match getS τ i with
   | some (.bor _)=> .fail
   | some w=> .ret w h
   | none=> .fail
  | none=>(eval F e τ h).toO fun w h=>match w with
   | .bor _=> .fail
   | w=> .ret w h
 | .retn,τ,h=> .ret (.v .non) h
 | .iff c a b,τ,h=>(tstE F c τ h).toO fun t h=>match t with
  | true=>execs F a τ h
  | false=>execs F b τ h
 | .whl n c b,τ,h=>whlGo (fun τ h=>tstE F c τ h) (fun τ h=>execs F b τ h) n τ h
 | .for tg one it b,τ,h=>(evalLp F it τ h).toO fun ds h=>forGo (bindT tg one) (fun τ h=>execs F b τ h) ds τ h
 | .raise c es,τ,h=>(evalWs F es τ h).toO fun _ h=> .exc (.exc c []) h
 | .tryc to f es c nm hb,τ,h=>match evalWs F es τ h with
  | .ok ws h=>match F.call f (ws.map W.arg) h with
   | .ok w h=>match to with
    | none=> .next τ h
    | some i=>match w with
     | .bor _=> .fail
     | w=> .next (setS τ i w) h
   | .exc d h=>match isX F.cl (.v d) [c]with
    | some true=>match execs F hb (setS τ nm (.v d)) h with
     | .next τ' h'=> .next (τ'.set nm none) h'
     | _=> .fail
    | _=> .fail
   | .fail=> .fail
  | _=> .fail
 | .brk,τ,h=> .brk τ h
 | .cont,τ,h=> .cont τ h
 | .pass,τ,h=> .next τ h
@[simp] def execs (F:Fx):Ss->Sl->AH->O
 | .nil,τ,h=> .next τ h
 | .cons s ss,τ,h=>(exec F s τ h).seq fun τ h=>execs F ss τ h
end
structure Fn where
 ps:Nat
 n:Nat
 body:Ss
structure Prog where
 fns:List (String×Fn)
 cl:Cls
 con:List (String×D)
def W.keep:W->Bool
 | .v d=>noRef d
 | .own xs=>noRefs xs
 | .bor _=>true
def fin (n:Nat) (w:W) (h:AH):R W:=if h.length=n then .ok w h else if w.keep then .ok w (h.take n)else .ok w h
def finO (n:Nat):O->R W
 | .ret w h=>match w with
  | .bor _=> .fail
  | w=>fin n w h
 | .next _ h=>fin n (.v .non) h
 | .exc d h=> .exc d h
 | _=> .fail
@[simp] theorem finO_retv (d:D) (h h':AH) (e:h'.length=h.length):finO h.length (.ret (.v d) h')= .ok (.v d) h':=by simp [finO,fin,e]
@[simp] theorem finO_reto (xs:List D) (h h':AH) (e:h'.length=h.length):finO h.length (.ret (.own xs) h')= .ok (.own xs) h':=by simp [finO,fin,e]
@[simp] theorem finO_next (τ:Sl) (h h':AH) (e:h'.length=h.length):finO h.length (.next τ h')= .ok (.v .non) h':=by simp [finO,fin,e]
@[simp] theorem finO_exc (d:D) (n:Nat) (h:AH):finO n (.exc d h)= .exc d h:=rfl
def run (F:Fx) (d:Fn) (ws:List W) (h:AH):R W:=if ws.length=d.ps then finO h.length (execs F d.body (ws.map some++List.replicate (d.n-d.ps) none) h)else .fail
def call (p:Prog):Nat->String->List W->AH->R W
 | 0,_,_,_=> .fail
 | k+1,f,ws,h=>match p.fns.lookup f with
  | some d=>run ⟨call p k,p.cl,p.con⟩ d ws h
  | none=> .fail
theorem call_of {p:Prog}{f:String}{d:Fn}(e:p.fns.lookup f=some d) (k:Nat) (ws:List W) (h:AH) (hl:ws.length=d.ps):
 call p (k+1) f ws h=finO h.length (execs ⟨call p k,p.cl,p.con⟩ d.body (ws.map some++List.replicate (d.n-d.ps) none) h):=by
 rw [call,e]
 simp [run,hl]
end
end M
namespace L2.MS
open PySem PySem.Spec
structure Ge where
 K:PySem.W.Frag
 ca:String->Addr
 cl:M.Cls
 own:List String
structure XOk (Γ:Ge) (c:String):Prop where
 k:ExcK Γ.K (Γ.ca c)
 own: ∀t∈Γ.own,PySem.W.kitOne Γ.K (.ref (Γ.ca c)) (.ref (Γ.ca t))=some ((M.ancs Γ.cl 8 c).contains t)
 ve:PySem.W.kitOne Γ.K (.ref (Γ.ca c)) (.type "ValueError")=some ((M.ancs Γ.cl 8 c).contains "ValueError")
structure Gh where
 fz:Addr->Prop
 rho:Nat->Addr
 n:Nat
def StT (Γ:Ge) (G:Gh) (H:Hp) (a:Addr) (vs:List V):Prop:=(G.fz a/\H a=some (.tup vs)) ∨
 ∃(o:Obj) (its:Array Value) (n:Nat),Γ.K.lookup a=some o/\o.cls= .type "tuple" /\o.dict=none/\o.data= .seq its n/\its.size<=sizeLine/\Vals vs its.toList
def StaL (Γ:Ge) (a:Addr) (vs:List V):Prop:= ∃(o:Obj) (its:Array Value) (n:Nat),Γ.K.lookup a=some o/\o.cls= .type "list" /\o.dict=none/\o.data= .seq its n/\its.size<=sizeLine/\Vals vs its.toList
def StL (Γ:Ge) (G:Gh) (H:Hp) (a:Addr) (vs:List V):Prop:=(G.fz a/\Rd H a (.lst vs))\/StaL Γ a vs
theorem StT.sq {Γ:Ge}{G:Gh}{H:Hp}{a:Addr}{vs:List V}(h:StT Γ G H a vs):SqT Γ.K H a vs:=h.elim (fun z=> .inl (.inl z.2)) fun⟨o,its,n,h1,h2,_,h4⟩=> .inr ⟨o,its,n,h1,h2,h4⟩
theorem StL.sq {Γ:Ge}{G:Gh}{H:Hp}{a:Addr}{vs:List V}(h:StL Γ G H a vs):SqL Γ.K H a vs:=h.elim (fun z=> .inl z.2) fun z=> .inr z
def txS (s:M.Tx):Str:=⟨s.toArray⟩
mutual
def RelD (Γ:Ge) (G:Gh) (H:Hp):M.D->V->Prop
 | .non,v=>v= .non
 | .bl b,v=>v= .bl b
 | .int i,v=>v= .int i
 | .str s,v=>v= .str (txS s)
 | .tup ds,v=> ∃a vs,v= .ref a/\StT Γ G H a vs/\RelDs Γ G H ds vs
 | .lst ds,v=> ∃a vs,v= .ref a/\StL Γ G H a vs/\RelDs Γ G H ds vs
 | .ref r,v=>r<G.n/\v= .ref (G.rho r)
 | .exc c fs,v=>fs= []/\ ∃x,v= .ref x/\G.fz x/\H x=some (excO x (Γ.ca c))/\XOk Γ c
def RelDs (Γ:Ge) (G:Gh) (H:Hp):List M.D->List V->Prop
 | [],vs=>vs= []
 | d::ds,vs=> ∃v r,vs=v::r/\RelD Γ G H d v/\RelDs Γ G H ds r
end
def wkT (k:M.WK):M.D:= .tup [.int k.1,.tup (k.2.1.map .int),.tup (k.2.2.map .int)]
structure HRel (Γ:Ge) (G:Gh) (h:M.AH) (H:Hp):Prop where
 len:h.length=G.n
 cell: ∀r xs,h[r]? =some (M.Cell.lst xs)-> ¬G.fz (G.rho r)/\ ∃vs,H (G.rho r)=some (.lst vs)/\RelDs Γ G H xs vs
 pure: ∀(r:Nat) xs,h[r]? =some (M.Cell.lst xs)->M.noRefs xs=true
 inj: ∀r s,r<G.n->s<G.n->G.rho r=G.rho s->r=s
 live: ∀a,G.fz a-> ∃o,H a=some o
 dic: ∀r ks,h[r]? =some (M.Cell.dic ks)-> ¬G.fz (G.rho r)/\ ∃xs,H (G.rho r)=some (DW (G.rho r) xs)/\xs.map (·.1)=ks/\ ∀x∈xs,RelD Γ G H (wkT x.1) (.ref x.2.1)
def Off (G:Gh) (a:Addr):Prop:= ∀r,r<G.n->G.rho r≠a
structure Ext (G:Gh) (H:Hp) (G':Gh) (H':Hp):Prop where
 keep: ∀a o,H a=some o->Off G a->H' a=some o
 le:G.n<=G'.n
 rho: ∀r,r<G.n->G'.rho r=G.rho r
 new: ∀r,G.n<=r->r<G'.n->H (G'.rho r)=none
 fz: ∀a,G.fz a->G'.fz a
 old: ∀a,G'.fz a->G.fz a\/H a=none
 cells: ∀r,r<G.n->(∃ o,H (G.rho r)=some o)-> ∃o,H' (G.rho r)=some o
def RelW (Γ:Ge) (G:Gh) (H:Hp):M.W->V->Prop
 | .v d,v=>RelD Γ G H d v
 | .own xs,v=> ∃a vs,v= .ref a/\ ¬G.fz a/\Off G a/\H a=some (.lst vs)/\RelDs Γ G H xs vs
 | .bor xs,v=> ∃a vs,v= .ref a/\Off G a/\Rd H a (.lst vs)/\RelDs Γ G H xs vs
def isL:M.W->Bool
 | .own _=>true
 | .bor _=>true
 | _=>false
structure StRel (Γ:Ge) (G:Gh) (τ:M.Sl) (h:M.AH) (σ:St) (H:Hp):Prop where
 len:τ.length=σ.length
 slot: ∀i w,M.getS τ i=some w-> ∃v,σ[i]? =some (some v)/\RelW Γ G H w v
 apart: ∀i j xs w a,i≠j->M.getS τ i=some (.own xs)->M.getS τ j=some w->isL w=true->σ[i]? =some (some (.ref a))->σ[j]? ≠some (some (.ref a))
 heap:HRel Γ G h H
section
variable {Γ:Ge}{G G' G1 G2:Gh}{H H' H1 H2:Hp}{h h':M.AH}{τ:M.Sl}{σ:St}
theorem HRel.nfz (r:HRel Γ G h H){i:Nat}(hi:i<G.n): ¬G.fz (G.rho i):=by
 have hi':i<h.length:=by rw [r.len];exact hi
 cases e:h[i]? with
 | none=>rw [List.getElem?_eq_none_iff]at e;omega
 | some c=>cases c with | lst xs=>exact(r.cell i xs e).1 | dic ks=>exact(r.dic i ks e).1
theorem HRel.off (r:HRel Γ G h H){a:Addr}(ha:G.fz a):Off G a:=fun i hi z=>r.nfz hi (z▸ha)
theorem HRel.there (r:HRel Γ G h H){i:Nat}(hi:i<G.n): ∃o,H (G.rho i)=some o:=by
 have hi':i<h.length:=by rw [r.len];exact hi
 cases e:h[i]? with
 | none=>rw [List.getElem?_eq_none_iff]at e;omega
 | some c=>cases c with | lst xs=>exact⟨_,(r.cell i xs e).2.choose_spec.1⟩ | dic ks=>exact⟨_,(r.dic i ks e).2.choose_spec.1⟩
theorem Ext.refl:Ext G H G H:=⟨fun _ _ e _=>e,Nat.le_refl _,fun _ _=>rfl,fun r h1 h2=>absurd h1 (Nat.not_le.mpr h2),fun _ z=>z,fun _ z=> .inl z,fun _ _ z=>z⟩
theorem Ext.none (e:Ext G H G' H') (hr:HRel Γ G h H){a:Addr}(z:H' a=none):H a=none:=by
 cases q:H a with
 | none=>rfl
 | some o=>
  by_cases hof:Off G a
  ·rw [e.keep a o q hof]at z;cases z
  ·unfold Off at hof
   have: ∃r,r<G.n/\G.rho r=a:=Classical.byContradiction fun hh=>hof fun r hr z=>hh ⟨r,hr,z⟩
   obtain⟨r,hr1,rfl⟩:=this
   obtain⟨o',z'⟩:=e.cells r hr1 ⟨o,q⟩
   rw [z]at z';cases z'
theorem Ext.off (e:Ext G H G' H'){a:Addr}{o:HO}(ha:H a=some o) (hof:Off G a):Off G' a:=fun r hr z=>by
 by_cases hn:r<G.n
 ·rw [e.rho r hn]at z;exact hof r hn z
 ·have:=e.new r (Nat.not_lt.mp hn) hr
  rw [z,ha]at this;cases this
theorem Ext.trans (e1:Ext G H G1 H1) (hr:HRel Γ G h H) (e2:Ext G1 H1 G2 H2):Ext G H G2 H2 where
 keep:=fun a o z hof=>e2.keep a o (e1.keep a o z hof) (e1.off z hof)
 le:=Nat.le_trans e1.le e2.le
 rho:=fun r hn=>by rw [e2.rho r (Nat.lt_of_lt_of_le hn e1.le),e1.rho r hn]
 new:=fun r h1 h2=>by
  by_cases hn:r<G1.n
  ·rw [e2.rho r hn];exact e1.new r h1 hn
  ·exact e1.none hr (e2.new r (Nat.not_lt.mp hn) h2)
 fz:=fun a z=>e2.fz a (e1.fz a z)
 old:=fun a z=>(e2.old a z).elim (fun z=>e1.old a z) fun z=> .inr (e1.none hr z)
 cells:=fun r hn z=>by
  have:=e2.cells r (Nat.lt_of_lt_of_le hn e1.le) (by rw [e1.rho r hn];exact e1.cells r hn z)
  rwa [e1.rho r hn]at this
theorem Ext.rd (e:Ext G H G' H'){a:Addr}{u:HO}(z:Rd H a u) (hof:Off G a):Rd H' a u:=z.elim (fun z=> .inl (e.keep a _ z hof)) fun⟨o,z⟩=> .inr ⟨o,e.keep a _ z hof⟩
structure Mon (G:Gh) (H:Hp) (G':Gh) (H':Hp):Prop where
 keep: ∀a o,G.fz a->H a=some o->H' a=some o
 le:G.n<=G'.n
 rho: ∀r,r<G.n->G'.rho r=G.rho r
 fz: ∀a,G.fz a->G'.fz a
theorem Ext.mon (e:Ext G H G' H') (hr:HRel Γ G h H):Mon G H G' H':=⟨fun a o z q=>e.keep a o q (hr.off z),e.le,e.rho,e.fz⟩
theorem Mon.rd (e:Mon G H G' H'){a:Addr}{u:HO}(z:Rd H a u) (hz:G.fz a):Rd H' a u:=z.elim (fun z=> .inl (e.keep a _ hz z)) fun⟨o,z⟩=> .inr ⟨o,e.keep a _ hz z⟩
mutual
theorem RelD.mon (e:Mon G H G' H'): ∀ {d:M.D}{v:V},RelD Γ G H d v->RelD Γ G' H' d v
 | .non,_,z=>z
 | .bl _,_,z=>z
 | .int _,_,z=>z
 | .str _,_,z=>z
 | .tup _,_,⟨a,vs,z1,z2,z3⟩=>⟨a,vs,z1,z2.elim (fun z=> .inl ⟨e.fz a z.1,e.keep a _ z.1 z.2⟩) fun z=> .inr z,RelDs.mon e z3⟩
 | .lst _,_,⟨a,vs,z1,z2,z3⟩=>⟨a,vs,z1,z2.elim (fun z=> .inl ⟨e.fz a z.1,e.rd z.2 z.1⟩) .inr,RelDs.mon e z3⟩
 | .ref r,_,⟨z1,z2⟩=>⟨Nat.lt_of_lt_of_le z1 e.le,by rw [e.rho r z1];exact z2⟩
 | .exc c fs,_,⟨z0,x,z1,z2,z3,z4⟩=>⟨z0,x,z1,e.fz x z2,e.keep x _ z2 z3,z4⟩
theorem RelDs.mon (e:Mon G H G' H'): ∀ {ds:List M.D}{vs:List V},RelDs Γ G H ds vs->RelDs Γ G' H' ds vs
 | [],_,z=>z
 | _::_,_,⟨v,r,z1,z2,z3⟩=>⟨v,r,z1,RelD.mon e z2,RelDs.mon e z3⟩
end
theorem RelD.ext (e:Ext G H G' H') (hr:HRel Γ G h H){d:M.D}{v:V}(z:RelD Γ G H d v):RelD Γ G' H' d v:=z.mon (e.mon hr)
theorem RelDs.ext (e:Ext G H G' H') (hr:HRel Γ G h H){d:List M.D}{v:List V}(z:RelDs Γ G H d v):RelDs Γ G' H' d v:=z.mon (e.mon hr)
theorem RelW.ext (e:Ext G H G' H') (hr:HRel Γ G h H){w:M.W}{v:V}(z:RelW Γ G H w v):RelW Γ G' H' w v:=by
 cases w with
 | v d=>exact RelD.ext e hr z
 | own xs=>
  obtain⟨a,vs,z1,z2,z3,z4,z5⟩:=z
  refine⟨a,vs,z1,fun q=> ?_,e.off z4 z3,e.keep a _ z4 z3,RelDs.ext e hr z5⟩
  rcases e.old a q with q | q
  ·exact z2 q
  ·rw [z4]at q;cases q
 | bor xs=>
  obtain⟨a,vs,z1,z3,z4,z5⟩:=z
  refine⟨a,vs,z1,?_,e.rd z4 z3,RelDs.ext e hr z5⟩
  rcases z4 with z4 | ⟨o,z4⟩
  ·exact e.off z4 z3
  ·exact e.off z4 z3
theorem StRel.ext (s:StRel Γ G τ h σ H) (e:Ext G H G' H') (hr:HRel Γ G' h' H'):StRel Γ G' τ h' σ H' where
 len:=s.len
 slot:=fun i w z=>let ⟨v,z1,z2⟩:=s.slot i w z; ⟨v,z1,z2.ext e s.heap⟩
 apart:=s.apart
 heap:=hr
theorem RelDs.length: ∀ {ds:List M.D}{vs:List V},RelDs Γ G H ds vs->ds.length=vs.length
 | [],_,rfl=>rfl
 | _::_,_,⟨_,_,rfl,_,z⟩=>congrArg (· +1) (RelDs.length z)
theorem RelDs.get: ∀ {ds:List M.D}{vs:List V}{i:Nat}{d:M.D},RelDs Γ G H ds vs->ds[i]? =some d-> ∃v,vs[i]? =some v/\RelD Γ G H d v
 | [],_,_,_,_,e=>by simp at e
 | _::_,_,0,_,⟨v,_,rfl,z,_⟩,e=>by simp at e;subst e;exact⟨v,rfl,z⟩
 | _::_,_,i+1,_,⟨_,_,rfl,_,z⟩,e=>by
  obtain⟨v,h1,h2⟩:=RelDs.get (i:=i) z (by simpa using e)
  exact⟨v,by simpa using h1,h2⟩
theorem RelDs.append: ∀ {ds es:List M.D}{vs us:List V},RelDs Γ G H ds vs->RelDs Γ G H es us->RelDs Γ G H (ds++es) (vs++us)
 | [],_,_,_,rfl,z=>z
 | _::_,_,_,_,⟨v,r,rfl,z1,z2⟩,z=>⟨v,r++_,rfl,z1,RelDs.append z2 z⟩
theorem RelDs.drop: ∀ {ds:List M.D}{vs:List V}(n:Nat),RelDs Γ G H ds vs->RelDs Γ G H (ds.drop n) (vs.drop n)
 | _,_,0,z=>z
 | [],_,_+1,rfl=>rfl
 | _::_,_,n+1,⟨_,_,rfl,_,z⟩=>RelDs.drop n z
theorem RelDs.take: ∀ {ds:List M.D}{vs:List V}(n:Nat),RelDs Γ G H ds vs->RelDs Γ G H (ds.take n) (vs.take n)
 | _,_,0,_=>rfl
 | [],_,_+1,rfl=>rfl
 | _::_,_,n+1,⟨v,r,rfl,z1,z⟩=>⟨v,r.take n,rfl,z1,RelDs.take n z⟩
theorem RelDs.reverse: ∀ {ds:List M.D}{vs:List V},RelDs Γ G H ds vs->RelDs Γ G H ds.reverse vs.reverse
 | [],_,rfl=>rfl
 | _::_,_,⟨v,r,rfl,z1,z⟩=>by
  rw [List.reverse_cons,List.reverse_cons]
  exact(RelDs.reverse z).append ⟨v,[],rfl,z1,rfl⟩
theorem RelDs.set {d:M.D}{v:V}(z:RelD Γ G H d v): ∀ {ds:List M.D}{vs:List V}(i:Nat),RelDs Γ G H ds vs->RelDs Γ G H (ds.set i d) (vs.set i v)
 | [],_,_,rfl=>rfl
 | _::_,_,0,⟨_,r,rfl,_,z2⟩=>⟨v,r,rfl,z,z2⟩
 | _::_,_,i+1,⟨u,r,rfl,z1,z2⟩=>⟨u,r.set i v,rfl,z1,RelDs.set z i z2⟩
def Gh.more (G:Gh) (a:Addr):Gh:= { G with fz:=fun b=>G.fz b\/b=a }
theorem xl {p:Addr}(o:HO) (hp:H p=none):Ext G H G (upd H p o) where
 keep:=fun a u z _=>by rw [qa (xa z hp)];exact z
 le:=Nat.le_refl _
 rho:=fun _ _=>rfl
 new:=fun r h1 h2=>absurd h1 (Nat.not_le.mpr h2)
 fz:=fun _ z=>z
 old:=fun _ z=> .inl z
 cells:=fun r _ ⟨u,z⟩=>⟨u,by rw [qa (xa z hp)];exact z⟩
theorem Jd {p:Addr}(o:HO) (hp:H p=none):Ext G H (G.more p) (upd H p o) where
 keep:=fun a u z _=>by rw [qa (xa z hp)];exact z
 le:=Nat.le_refl _
 rho:=fun _ _=>rfl
 new:=fun r h1 h2=>absurd h1 (Nat.not_le.mpr h2)
 fz:=fun _ z=> .inl z
 old:=fun a z=>z.elim .inl fun e=> .inr (e▸hp)
 cells:=fun r _ ⟨u,z⟩=>⟨u,by rw [qa (xa z hp)];exact z⟩
theorem HRel.new (r:HRel Γ G h H){p:Addr}(o:HO) (hp:H p=none):HRel Γ G h (upd H p o) where
 len:=r.len
 cell:=fun i xs z=>by
  obtain⟨z1,vs,z2,z3⟩:=r.cell i xs z
  exact⟨z1,vs,by rw [qa (xa z2 hp)];exact z2,z3.ext (xl o hp) r⟩
 pure:=r.pure
 inj:=r.inj
 live:=fun a z=>let ⟨u,q⟩:=r.live a z; ⟨u,by rw [qa (xa q hp)];exact q⟩
 dic:=fun i ks z=>by
  obtain⟨z1,xs,z2,z3,z4⟩:=r.dic i ks z
  exact⟨z1,xs,by rw [qa (xa z2 hp)];exact z2,z3,fun x hx=>(z4 x hx).ext (xl o hp) r⟩
theorem HRel.newF (r:HRel Γ G h H){p:Addr}(o:HO) (hp:H p=none):HRel Γ (G.more p) h (upd H p o) where
 len:=r.len
 cell:=fun i xs z=>by
  obtain⟨z1,vs,z2,z3⟩:=r.cell i xs z
  exact⟨fun q=>q.elim z1 (xa z2 hp),vs,by show upd H p o (G.rho i)=_;rw [qa (xa z2 hp)];exact z2,z3.ext (Jd o hp) r⟩
 pure:=r.pure
 inj:=r.inj
 live:=fun a z=>z.elim (fun z=>let ⟨u,q⟩:=r.live a z; ⟨u,by rw [qa (xa q hp)];exact q⟩) fun e=>⟨o,by rw [e];exact xb⟩
 dic:=fun i ks z=>by
  obtain⟨z1,xs,z2,z3,z4⟩:=r.dic i ks z
  exact⟨fun q=>q.elim z1 (xa z2 hp),xs,by show upd H p o (G.rho i)=_;rw [qa (xa z2 hp)];exact z2,z3,fun x hx=>(z4 x hx).ext (Jd o hp) r⟩
theorem Qd (a:Addr):Mon G H (G.more a) H:=⟨fun _ _ _ z=>z,Nat.le_refl _,fun _ _=>rfl,fun _ z=> .inl z⟩
theorem Ext.more (e:Ext G H G1 H1){a:Addr}(ha:H a=Option.none):Ext G H (G1.more a) H1:=
 ⟨e.keep,e.le,e.rho,e.new,fun b z=> .inl (e.fz b z),fun b z=>z.elim (fun z=>e.old b z) fun z=> .inr (z▸ha),e.cells⟩
theorem HRel.more (r:HRel Γ G h H){a:Addr}(hof:Off G a) (ha: ∃o,H a=some o):HRel Γ (G.more a) h H where
 len:=r.len
 cell:=fun i xs z=>by
  obtain⟨z1,vs,z2,z3⟩:=r.cell i xs z
  have hi:i<G.n:=by rw [← r.len];exact(List.getElem?_eq_some_iff.mp z).1
  exact⟨fun q=>q.elim z1 fun e=>hof i hi e,vs,z2,z3.mon (Qd a)⟩
 pure:=r.pure
 inj:=r.inj
 live:=fun b z=>z.elim (fun z=>r.live b z) fun e=>e▸ha
 dic:=fun i ks z=>by
  obtain⟨z1,xs,z2,z3,z4⟩:=r.dic i ks z
  have hi:i<G.n:=by rw [← r.len];exact(List.getElem?_eq_some_iff.mp z).1
  exact⟨fun q=>q.elim z1 fun e=>hof i hi e,xs,z2,z3,fun x hx=>(z4 x hx).mon (Qd a)⟩
theorem RelW.more {w:M.W}{v:V}{a:Addr}(z:RelW Γ G H w v) (hv:isL w=true->v≠ .ref a):RelW Γ (G.more a) H w v:=by
 cases w with
 | v d=>exact RelD.mon (Qd a) z
 | own xs=>
  obtain⟨b,vs,z1,z2,z3,z4,z5⟩:=z
  exact⟨b,vs,z1,fun q=>q.elim z2 fun e=>hv rfl (e▸z1),z3,z4,z5.mon (Qd a)⟩
 | bor xs=>
  obtain⟨b,vs,z1,z3,z4,z5⟩:=z
  exact⟨b,vs,z1,z3,z4,z5.mon (Qd a)⟩
theorem StRel.more (s:StRel Γ G τ h σ H){a:Addr}(hof:Off G a) (ha: ∃o,H a=some o) (hs: ∀(i:Nat) w,M.getS τ i=some w->isL w=true->σ[i]? ≠some (some (.ref a))):StRel Γ (G.more a) τ h σ H where
 len:=s.len
 slot:=fun i w z=>by
  obtain⟨v,z1,z2⟩:=s.slot i w z
  exact⟨v,z1,z2.more fun q e=>hs i w z q (e▸z1)⟩
 apart:=s.apart
 heap:=s.heap.more hof ha
def FreshW (τ:M.Sl) (σ:St) (H:Hp):M.W->V->Prop
 | .v _,_=>True
 | .own _,v=> ∃a,v= .ref a/\H a=none
 | .bor _,v=> ∃(i:Nat) (w:M.W),M.getS τ i=some w/\isL w=true/\σ[i]? =some (some v)
theorem FreshW.back (e:Ext G H G1 H1) (hr:HRel Γ G h H){w:M.W}{v:V}(z:FreshW τ σ H1 w v):FreshW τ σ H w v:=by
 cases w with
 | v d=>trivial
 | own xs=>obtain⟨a,z1,z2⟩:=z;exact⟨a,z1,e.none hr z2⟩
 | bor xs=>exact z
theorem StRel.slotThere (s:StRel Γ G τ h σ H){i:Nat}{w:M.W}{a:Addr}(e:M.getS τ i=some w) (hl:isL w=true) (q:σ[i]? =some (some (.ref a))): ∃o,H a=some o:=by
 obtain⟨v,z1,z2⟩:=s.slot i w e
 rw [q]at z1
 cases z1
 cases w with
 | v d=>cases hl
 | own xs=>obtain⟨b,vs,z1,_,_,z4,_⟩:=z2;cases z1;exact⟨_,z4⟩
 | bor xs=>
  obtain⟨b,vs,z1,_,z4,_⟩:=z2
  cases z1
  rcases z4 with z4 | ⟨o,z4⟩
  ·exact⟨_,z4⟩
  ·exact⟨_,z4⟩
def ExcE (Γ:Ge) (E:XK) (d:M.D) (H:Hp):Prop:= ∀c,d= .exc c []->XOk Γ c->E (.ref (Γ.ca c)) none H
def Post {α:Type}(Γ:Ge) (E:XK) (G:Gh) (H:Hp) (r:M.R α) (P:α->M.AH->Gh->Hp->Prop):Prop:=match r with
 | .ok a h'=> ∀G' H',Ext G H G' H'->HRel Γ G' h' H'->P a h' G' H'
 | .exc d h'=> ∀G' H',Ext G H G' H'->HRel Γ G' h' H'->ExcE Γ E d H'
 | .fail=>False
theorem Post.on {α:Type}{E:XK}{r:M.R α}{P:α->M.AH->Gh->Hp->Prop}(p:Post Γ E G H r P) (e:Ext G H G1 H1) (hr:HRel Γ G h H):Post Γ E G1 H1 r P:=by
 cases r with
 | ok a h'=>exact fun G' H' e' hr'=>p G' H' (e.trans hr e') hr'
 | exc d h'=>exact fun G' H' e' hr'=>p G' H' (e.trans hr e') hr'
 | fail=>exact p
def tD (Γ:Ge) (E:XK) (m:M.Sl->M.AH->M.R M.W):TE:=fun σ H Q=> ∃G τ h,StRel Γ G τ h σ H/\Post Γ E G H (m τ h) fun w h' G' H'=> ∀v,RelW Γ G' H' w v->FreshW τ σ H w v->Q v H'
def tDT (Γ:Ge) (E:XK) (m:M.Sl->M.AH->M.R Bool):TT:=fun σ H Q=> ∃G τ h,StRel Γ G τ h σ H/\Post Γ E G H (m τ h) fun b _ _ H'=>Q b H'
theorem Ja {α:Type}{E:XK}{G0:Gh}{H0:Hp}{h0:M.AH}{m:M.Sl->M.AH->M.R M.W}{f:M.W->M.AH->M.R α}{P:α->M.AH->Gh->Hp->Prop}{Q:VK}(s0:HRel Γ G0 h0 H0) (e0:Ext G0 H0 G H) (s:StRel Γ G τ h σ H)
 (p:Post Γ E G0 H0 ((m τ h).bind f) P)
 (k: ∀w v h1 G1 H1,Ext G0 H0 G1 H1->Ext G H G1 H1->StRel Γ G1 τ h1 σ H1->RelW Γ G1 H1 w v->FreshW τ σ H w v->Post Γ E G0 H0 (f w h1) P->Q v H1):tD Γ E m σ H Q:=by
 refine⟨G,τ,h,s,?_⟩
 cases q:m τ h with
 | ok w h1=>
  rw [q]at p
  exact fun G1 H1 e hr v z1 z2=>k w v h1 G1 H1 (e0.trans s0 e) e (s.ext e hr) z1 z2 p
 | exc d h1=>rw [q]at p;exact Post.on (h:=h0) (r:=(M.R.exc d h1:M.R M.W)) (P:=fun w h' G' H'=> ∀v,RelW Γ G' H' w v->FreshW τ σ H w v->Q v H') p e0 s0
 | fail=>rw [q]at p;exact p
theorem xq {α:Type}{E:XK}{G0:Gh}{H0:Hp}{h0:M.AH}{m:M.Sl->M.AH->M.R Bool}{f:Bool->M.AH->M.R α}{P:α->M.AH->Gh->Hp->Prop}{Q:Bool->Hp->Prop}(s0:HRel Γ G0 h0 H0) (e0:Ext G0 H0 G H) (s:StRel Γ G τ h σ H)
 (p:Post Γ E G0 H0 ((m τ h).bind f) P)
 (k: ∀b h1 G1 H1,Ext G0 H0 G1 H1->Ext G H G1 H1->StRel Γ G1 τ h1 σ H1->Post Γ E G0 H0 (f b h1) P->Q b H1):tDT Γ E m σ H Q:=by
 refine⟨G,τ,h,s,?_⟩
 cases q:m τ h with
 | ok w h1=>
  rw [q]at p
  exact fun G1 H1 e hr=>k w h1 G1 H1 (e0.trans s0 e) e (s.ext e hr) p
 | exc d h1=>rw [q]at p;exact Post.on (h:=h0) (r:=(M.R.exc d h1:M.R Bool)) (P:=fun b _ _ H'=>Q b H') p e0 s0
 | fail=>rw [q]at p;exact p
def tDA (Γ:Ge) (E:XK) (m:M.Sl->M.AH->M.R (List M.D)):TA:=fun σ H Q=> ∃G τ h,StRel Γ G τ h σ H/\Post Γ E G H (m τ h) fun ds _ G' H'=> ∀vs,RelDs Γ G' H' ds vs->Q vs H'
def RelWs (Γ:Ge) (G:Gh) (H:Hp):List M.W->List V->Prop
 | [],vs=>vs= []
 | w::ws,vs=> ∃v r,vs=v::r/\RelW Γ G H w v/\RelWs Γ G H ws r
theorem RelWs.length: ∀ {ws:List M.W}{vs:List V},RelWs Γ G H ws vs->ws.length=vs.length
 | [],_,rfl=>rfl
 | _::_,_,⟨_,_,rfl,_,z⟩=>congrArg (· +1) (RelWs.length z)
def tDW (Γ:Ge) (E:XK) (m:M.Sl->M.AH->M.R (List M.W)):TA:=fun σ H Q=> ∃G τ h,StRel Γ G τ h σ H/\Post Γ E G H (m τ h) fun ws _ G' H'=> ∀vs,RelWs Γ G' H' ws vs->Q vs H'
theorem Jx {α:Type}{E:XK}{G0:Gh}{H0:Hp}{h0:M.AH}{m:M.Sl->M.AH->M.R (List M.D)}{f:List M.D->M.AH->M.R α}{P:α->M.AH->Gh->Hp->Prop}{Q:List V->Hp->Prop}(s0:HRel Γ G0 h0 H0) (e0:Ext G0 H0 G H) (s:StRel Γ G τ h σ H)
 (p:Post Γ E G0 H0 ((m τ h).bind f) P)
 (k: ∀ds vs h1 G1 H1,Ext G0 H0 G1 H1->Ext G H G1 H1->StRel Γ G1 τ h1 σ H1->RelDs Γ G1 H1 ds vs->Post Γ E G0 H0 (f ds h1) P->Q vs H1):tDA Γ E m σ H Q:=by
 refine⟨G,τ,h,s,?_⟩
 cases q:m τ h with
 | ok w h1=>
  rw [q]at p
  exact fun G1 H1 e hr vs z=>k w vs h1 G1 H1 (e0.trans s0 e) e (s.ext e hr) z p
 | exc d h1=>rw [q]at p;exact Post.on (h:=h0) (r:=(M.R.exc d h1:M.R (List M.D))) (P:=fun ds _ G' H'=> ∀vs,RelDs Γ G' H' ds vs->Q vs H') p e0 s0
 | fail=>rw [q]at p;exact p
theorem zB {α:Type}{E:XK}{G0:Gh}{H0:Hp}{h0:M.AH}{m:M.Sl->M.AH->M.R (List M.W)}{f:List M.W->M.AH->M.R α}{P:α->M.AH->Gh->Hp->Prop}{Q:List V->Hp->Prop}(s0:HRel Γ G0 h0 H0) (e0:Ext G0 H0 G H) (s:StRel Γ G τ h σ H)
 (p:Post Γ E G0 H0 ((m τ h).bind f) P)
 (k: ∀ds vs h1 G1 H1,Ext G0 H0 G1 H1->Ext G H G1 H1->StRel Γ G1 τ h1 σ H1->RelWs Γ G1 H1 ds vs->Post Γ E G0 H0 (f ds h1) P->Q vs H1):tDW Γ E m σ H Q:=by
 refine⟨G,τ,h,s,?_⟩
 cases q:m τ h with
 | ok w h1=>
  rw [q]at p
  exact fun G1 H1 e hr vs z=>k w vs h1 G1 H1 (e0.trans s0 e) e (s.ext e hr) z p
 | exc d h1=>rw [q]at p;exact Post.on (h:=h0) (r:=(M.R.exc d h1:M.R (List M.W))) (P:=fun ds _ G' H'=> ∀vs,RelWs Γ G' H' ds vs->Q vs H') p e0 s0
 | fail=>rw [q]at p;exact p
theorem Post.of {α β:Type}{E:XK}{o:Option β}{f:β->M.AH->M.R α}{P:α->M.AH->Gh->Hp->Prop}(p:Post Γ E G H ((M.R.of h o).bind f) P): ∃b,o=some b/\Post Γ E G H (f b h) P:=by
 cases o with
 | none=>exact p.elim
 | some b=>exact⟨b,rfl,p⟩
theorem Post.at {α:Type}{E:XK}{a:α}{P:α->M.AH->Gh->Hp->Prop}(p:Post Γ E G H (.ok a h) P) (e:Ext G H G1 H1) (hr:HRel Γ G1 h H1):P a h G1 H1:=p G1 H1 e hr
theorem toD (e:Ext G H G1 H1) (s:StRel Γ G1 τ h σ H1) (s0:StRel Γ G τ h' σ H){w:M.W}{v:V}{d:M.D}(r:RelW Γ G1 H1 w v) (f:FreshW τ σ H w v) (hd:w.d=some d):
 ∃G2,Ext G H G2 H1/\StRel Γ G2 τ h σ H1/\RelD Γ G2 H1 d v/\Mon G1 H1 G2 H1:=by
 cases w with
 | v d'=>cases hd;exact⟨G1,e,s,r,⟨fun _ _ _ z=>z,Nat.le_refl _,fun _ _=>rfl,fun _ z=>z⟩⟩
 | own xs=>
  cases hd
  obtain⟨a,vs,rfl,z2,z3,z4,z5⟩:=r
  obtain⟨b,hb,hn⟩:=f
  cases hb
  refine⟨G1.more a,e.more hn,s.more z3 ⟨_,z4⟩ fun i w q hl z=> ?_,⟨a,vs,rfl,.inl ⟨.inr rfl,.inl z4⟩,z5.mon (Qd a)⟩,Qd a⟩
  obtain⟨o,z'⟩:=s0.slotThere q hl z
  rw [hn]at z';cases z'
 | bor xs=>cases hd
end
end L2.MS
namespace L2.MS
open PySem PySem.Spec PyProof.Rows
mutual
def RV (hp:Heap):M.D->Value->Prop
 | .non,u=>u= .none
 | .bl b,u=>u= .bool b
 | .int i,u=> ∃t,u= .int i t
 | .str s,u=> ∃t,u= .str (txS s) t
 | .tup ds,u=> ∃(a:Addr) (its:List Value),u= .ref a/\IsTup hp a its.toArray/\RVs hp ds its
 | .lst ds,u=> ∃(a:Addr) (its:List Value),u= .ref a/\hp.IsList a its.toArray/\RVs hp ds its
 | .ref _,_=>False
 | .exc _ _,_=>False
def RVs (hp:Heap):List M.D->List Value->Prop
 | [],us=>us= []
 | d::ds,us=> ∃u r,us=u::r/\RV hp d u/\RVs hp ds r
end
theorem RVs.length {hp:Heap}: ∀ {ds:List M.D}{us:List Value},RVs hp ds us->ds.length=us.length
 | [],_,rfl=>rfl
 | _::_,_,⟨_,_,rfl,_,z⟩=>congrArg (· +1) (RVs.length z)
theorem RVs.get {hp:Heap}: ∀ {ds:List M.D}{us:List Value}{j:Nat}{u:Value},RVs hp ds us->us[j]? =some u-> ∃d,ds[j]? =some d/\RV hp d u
 | [],_,_,_,rfl,e=>by simp at e
 | d::_,_,0,_,⟨v,_,rfl,z,_⟩,e=>by simp at e;subst e;exact⟨d,rfl,z⟩
 | _::_,_,j+1,_,⟨_,_,rfl,_,z⟩,e=>by
  obtain⟨v,h1,h2⟩:=RVs.get (j:=j) z (by simpa using e)
  exact⟨v,by simpa using h1,h2⟩
section
variable {X:Cx}{Γ:Ge}{G:Gh}{H:Hp}{h:M.AH}{pins:List (Addr×Obj)}{σ:St}{s:Shared}
mutual
theorem RelD.rv0 (I:Inv X pins σ H s) (hK:X.K=Γ.K): ∀ {d:M.D}{x:V}{u:Value},RelD Γ G H d x->RelV x u->M.noRef d=true->RV s.heap d u
 | .non,_,_,rfl,r,_=>r
 | .bl _,_,_,rfl,r,_=>r
 | .int _,_,_,rfl,r,_=>r
 | .str _,_,_,rfl,r,_=>r
 | .tup ds,_,_,⟨a,vs,rfl,z2,z3⟩,r,n=>by
  cases r
  obtain⟨its,r1,p1,_⟩:=I.tuple (hK▸z2.sq)
  exact⟨a,its,rfl,p1,RelDs.rv0 I hK z3 r1 (by simpa [M.noRef]using n)⟩
 | .lst ds,_,_,⟨a,vs,rfl,z2,z3⟩,r,n=>by
  cases r
  obtain⟨its,r1,p1,_⟩:=I.list (hK▸z2.sq)
  exact⟨a,its,rfl,p1.isList,RelDs.rv0 I hK z3 r1 (by simpa [M.noRef]using n)⟩
 | .ref _,_,_,_,_,n=>by simp [M.noRef]at n
 | .exc _ _,_,_,_,_,n=>by simp [M.noRef]at n
theorem RelDs.rv0 (I:Inv X pins σ H s) (hK:X.K=Γ.K): ∀ {ds:List M.D}{xs:List V}{us:List Value},RelDs Γ G H ds xs->Vals xs us->M.noRefs ds=true->RVs s.heap ds us
 | [],_,_,rfl,.nil,_=>rfl
 | d::ds,_,_,⟨v,r,rfl,z1,z2⟩,.cons r1 r2,n=>by
  have n':M.noRef d=true/\M.noRefs ds=true:=by simpa [M.noRefs]using n
  exact⟨_,_,rfl,RelD.rv0 I hK z1 r1 n'.1,RelDs.rv0 I hK z2 r2 n'.2⟩
end
mutual
theorem RelD.rv (I:Inv X pins σ H s) (hK:X.K=Γ.K) (hr:HRel Γ G h H): ∀ {d:M.D}{x:V}{u:Value},RelD Γ G H d x->RelV x u->M.noRef (M.res h d)=true->RV s.heap (M.res h d) u
 | .non,_,_,rfl,r,_=>r
 | .bl _,_,_,rfl,r,_=>r
 | .int _,_,_,rfl,r,_=>r
 | .str _,_,_,rfl,r,_=>r
 | .tup ds,_,_,⟨a,vs,rfl,z2,z3⟩,r,n=>by
  cases r
  obtain⟨its,r1,p1,_⟩:=I.tuple (hK▸z2.sq)
  rw [M.res]at n ⊢
  exact⟨a,its,rfl,p1,RelDs.rv I hK hr z3 r1 (by simpa [M.noRef]using n)⟩
 | .lst ds,_,_,⟨a,vs,rfl,z2,z3⟩,r,n=>by
  cases r
  obtain⟨its,r1,p1,_⟩:=I.list (hK▸z2.sq)
  rw [M.res]at n ⊢
  exact⟨a,its,rfl,p1.isList,RelDs.rv I hK hr z3 r1 (by simpa [M.noRef]using n)⟩
 | .ref i,_,_,⟨hi,e⟩,r,n=>by
  subst e
  cases r
  rw [M.res]at n ⊢
  cases q:h[i]? with
  | none=>rw [q]at n;simp [M.noRef]at n
  | some c=>
   cases c with
   | lst xs=>
    rw [q]at n
    obtain⟨_,vs,z2,z3⟩:=hr.cell i xs q
    obtain⟨its,r1,p1,_⟩:=I.list (SqL.of (K:=X.K) z2)
    exact⟨_,its,rfl,p1.isList,RelDs.rv0 I hK z3 r1 (by simpa [M.noRef]using n)⟩
   | dic ks=>rw [q]at n;simp [M.noRef]at n
 | .exc _ _,_,_,_,_,n=>by simp [M.res,M.noRef]at n
theorem RelDs.rv (I:Inv X pins σ H s) (hK:X.K=Γ.K) (hr:HRel Γ G h H): ∀ {ds:List M.D}{xs:List V}{us:List Value},RelDs Γ G H ds xs->Vals xs us->M.noRefs (M.ress h ds)=true->RVs s.heap (M.ress h ds) us
 | [],_,_,rfl,.nil,_=>rfl
 | d::ds,_,_,⟨v,r,rfl,z1,z2⟩,.cons r1 r2,n=>by
  rw [M.ress]at n ⊢
  have n':M.noRef (M.res h d)=true/\M.noRefs (M.ress h ds)=true:=by simpa [M.noRefs]using n
  exact⟨_,_,rfl,RelD.rv I hK hr z1 r1 n'.1,RelDs.rv I hK hr z2 r2 n'.2⟩
end
theorem RelW.rv (I:Inv X pins σ H s) (hK:X.K=Γ.K) (hr:HRel Γ G h H){w:M.W}{x:V}{u:Value}(z:RelW Γ G H w x) (r:RelV x u) (n:M.noRef (w.dd h)=true):RV s.heap (w.dd h) u:=by
 cases w with
 | v d=>exact RelD.rv I hK hr z r n
 | own xs=>
  obtain⟨a,vs,rfl,_,_,z4,z5⟩:=z
  cases r
  obtain⟨its,r1,p1,_⟩:=I.list (SqL.of (K:=X.K) z4)
  exact⟨a,its,rfl,p1.isList,RelDs.rv I hK hr z5 r1 (by simpa [M.noRef]using n)⟩
 | bor xs=>
  obtain⟨a,vs,rfl,_,z4,z5⟩:=z
  cases r
  obtain⟨its,r1,p1,_⟩:=I.list (show SqL X.K H a vs from .inl z4)
  exact⟨a,its,rfl,p1.isList,RelDs.rv I hK hr z5 r1 (by simpa [M.noRef]using n)⟩
end
theorem zR {a b:M.Tx}(h:txS a=txS b):a=b:=by
 have:=congrArg Str.cps h
 simpa [txS]using this
theorem Zx {hp:Heap}{a:Addr}{xs ys:List Value}(h1:IsTup hp a xs.toArray) (h2:IsTup hp a ys.toArray):xs=ys:=by
 obtain⟨o,e1,_,n,d1⟩:=h1
 obtain⟨o',e2,_,n',d2⟩:=h2
 rw [e1]at e2;cases e2
 rw [d1]at d2;cases d2
 rfl
theorem Wn {hp:Heap}{a:Addr}{xs ys:List Value}(h1:hp.IsList a xs.toArray) (h2:hp.IsList a ys.toArray):xs=ys:=by
 obtain⟨o,e1,_,n,d1⟩:=h1
 obtain⟨o',e2,_,n',d2⟩:=h2
 rw [e1]at e2;cases e2
 rw [d1]at d2;cases d2
 rfl
theorem Xh {hp:Heap}{a:Addr}{xs ys:Array Value}(h1:IsTup hp a xs) (h2:hp.IsList a ys):False:=by
 obtain⟨o,e1,c1,_⟩:=h1
 obtain⟨o',e2,c2,_⟩:=h2
 rw [e1]at e2;cases e2
 rw [c1]at c2
 exact absurd c2 (by decide)
mutual
theorem RV.inj {hp:Heap}: ∀ {d e:M.D}{u:Value},RV hp d u->RV hp e u->d=e
 | .non,e,_,rfl,q=>by cases e<;>first | rfl | (simp [RV]at q)
 | .bl _,e,_,rfl,q=>by cases e<;>first | (simp [RV]at q;done) | (have q:=q;simp [RV]at q;try rw [q])
 | .int _,e,_,⟨t,rfl⟩,q=>by cases e<;>first | (simp [RV]at q;done) | (have q:=q;simp [RV]at q;try rw [q])
 | .str _,e,_,⟨t,rfl⟩,q=>by
  cases e with
  | str z=>
   obtain⟨t',q⟩:=q
   injection q with q1 q2
   rw [zR q1]
  | _=>simp [RV]at q
 | .tup ds,e,_,⟨a,its,rfl,p,r⟩,q=>by
  cases e with
  | tup es=>
   obtain⟨b,its2,e,p2,r2⟩:=q
   cases e
   cases Zx p p2
   rw [RVs.inj r r2]
  | lst es=>
   obtain⟨b,its2,e,p2,r2⟩:=q
   cases e
   exact(Xh p p2).elim
  | _=>simp [RV]at q
 | .lst ds,e,_,⟨a,its,rfl,p,r⟩,q=>by
  cases e with
  | lst es=>
   obtain⟨b,its2,e,p2,r2⟩:=q
   cases e
   cases Wn p p2
   rw [RVs.inj r r2]
  | tup es=>
   obtain⟨b,its2,e,p2,r2⟩:=q
   cases e
   exact(Xh p2 p).elim
  | _=>simp [RV]at q
 | .ref _,_,_,q,_=>q.elim
 | .exc _ _,_,_,q,_=>q.elim
theorem RVs.inj {hp:Heap}: ∀ {d e:List M.D}{u:List Value},RVs hp d u->RVs hp e u->d=e
 | [],e,_,rfl,q=>by
  cases e with
  | nil=>rfl
  | cons a b=>obtain⟨_,_,z,_⟩:=q;cases z
 | d::ds,e,_,⟨u,r,rfl,z1,z2⟩,q=>by
  cases e with
  | nil=>cases (show _::_= []from q)
  | cons a b=>
   obtain⟨_,_,z,y1,y2⟩:=q
   cases z
   rw [RV.inj z1 y1,RVs.inj z2 y2]
end
mutual
theorem RV.refl {hp:Heap}: ∀ {d:M.D}{u:Value},RV hp d u->M.eqD d d=true
 | .non,_,_=>rfl
 | .bl _,_,_=>by simp
 | .int _,_,_=>by simp
 | .str _,_,_=>by simp
 | .tup ds,_,⟨_,_,_,_,r⟩=>by rw [M.eqD];exact RVs.refl r
 | .lst ds,_,⟨_,_,_,_,r⟩=>by rw [M.eqD];exact RVs.refl r
 | .ref _,_,q=>q.elim
 | .exc _ _,_,q=>q.elim
theorem RVs.refl {hp:Heap}: ∀ {d:List M.D}{u:List Value},RVs hp d u->M.eqDs d d=true
 | [],_,_=>rfl
 | d::ds,_,⟨_,_,_,z1,z2⟩=>by rw [M.eqDs,RV.refl z1,RVs.refl z2];rfl
end
def eqJ (xs ys:List M.D) (j:Nat):Bool:=match xs[j]?,ys[j]? with
 | some a,some b=>M.eqD a b
 | _,_=>true
theorem Wm (n:Nat) (e:Nat->Bool):(List.range (n+1)).all e=(e 0&&(List.range n).all fun j=>e (j+1)):=by
 rw [List.range_succ_eq_map,List.all_cons,List.all_map];rfl
theorem Wz: ∀(xs ys:List M.D),xs.length=ys.length->(List.range xs.length).all (eqJ xs ys)=M.eqDs xs ys
 | [],[],_=>rfl
 | [],_::_,h=>by simp at h
 | _::_,[],h=>by simp at h
 | x::xs,y::ys,h=>by
  rw [List.length_cons,Wm,M.eqDs]
  have ih:=Wz xs ys (by simpa using h)
  rw [← ih]
  rfl
theorem JC: ∀(xs ys:List M.D),M.eqDs xs ys=true->xs.length=ys.length
 | [],[],_=>rfl
 | [],_::_,h=>by simp at h
 | _::_,[],h=>by simp at h
 | x::xs,y::ys,h=>by
  rw [M.eqDs,Bool.and_eq_true]at h
  rw [List.length_cons,List.length_cons,JC xs ys h.2]
theorem QP {xs ys:List M.D}(h:xs.length≠ys.length):M.eqDs xs ys=false:=by
 cases e:M.eqDs xs ys with
 | false=>rfl
 | true=>exact absurd (JC xs ys e) h
open SeqAt in
structure Cmp3 (A:Around) (s:Shared) (u v:Value) (b:Bool):Prop where
 rc:RcAt A s u v b
 ne:RcNeAt A s u v (!b)
 eq:EqAt A s u v b
section
open SeqAt
variable {A:Around}{s:Shared}
theorem wf: ∀ {ds:List M.D}{j:Nat}{d:M.D},ds[j]? =some d->M.dep d<=M.deps ds
 | [],_,_,e=>by simp at e
 | x::xs,0,d,e=>by simp at e;subst e;simp only [M.deps];omega
 | x::xs,j+1,d,e=>by
  have:=wf (ds:=xs) (j:=j) (by simpa using e)
  simp only [M.deps]
  omega
theorem b2n (b:Bool):((if b then(1:Int)else 0))=((b.toNat:Nat):Int):=by cases b<;>rfl
theorem WN (a b:M.Tx):(txS a==txS b)=(a==b):=by
 by_cases h:a=b
 ·subst h;simp
 ·have h2:txS a≠txS b:=fun e=>h (zR e)
  rw [beq_eq_false_iff_ne.mpr h,beq_eq_false_iff_ne.mpr h2]
theorem zS {l b:Addr}{its its2:List Value}{xs ys:List M.D}(hl:s.heap.IsList l its.toArray) (hb:s.heap.IsList b its2.toArray) (r1:RVs s.heap xs its) (r2:RVs s.heap ys its2) (hu:A.units<cLine)
 (he: ∀(j:Nat) a c u v,xs[j]? =some a->ys[j]? =some c->RV s.heap a u->RV s.heap c v->EqAt A.in1 s u v (M.eqD a c)):Cmp3 A s (.ref l) (.ref b) (M.eqDs xs ys):=by
 have hi: ∀(j:Nat) (h1:j<its.toArray.size) (h2:j<its2.toArray.size),EqAt A.in1 s its.toArray[j] its2.toArray[j] (eqJ xs ys j):=fun j h1 h2=>by
  obtain⟨a,ea,ra⟩:=r1.get (j:=j) (u:=its.toArray[j]) (by simp at h1;simp [h1])
  obtain⟨c,ec,rc⟩:=r2.get (j:=j) (u:=its2.toArray[j]) (by simp at h2;simp [h2])
  have:=he j a c _ _ ea ec ra rc
  unfold eqJ
  rw [ea,ec]
  exact this
 have l1:=r1.length
 have l2:=r2.length
 have two:RcAt A s (.ref l) (.ref b) (M.eqDs xs ys)/\RcNeAt A s (.ref l) (.ref b) (!M.eqDs xs ys):=by
  by_cases hz:xs.length=ys.length
  ·have hsz:its.toArray.size=its2.toArray.size:=by simp;omega
   have e:(List.range its.toArray.size).all (eqJ xs ys)=M.eqDs xs ys:=by
    rw [List.size_toArray,←l1];exact Wz xs ys hz
   have a:=RcAt.lists hl hb hsz hu hi
   have c:=RcNeAt.lists hl hb hsz hu hi
   rw [e]at a c
   exact⟨a,c⟩
  ·have hsz:(its.toArray.size != its2.toArray.size)=true:=by simp;omega
   rw [QP hz]
   exact⟨RcAt.lists_lengths hl hb hsz hu,RcNeAt.lists_lengths hl hb hsz hu⟩
 refine⟨two.1,two.2,?_⟩
 by_cases hlb:l=b
 ·subst hlb
  cases Wn hl hb
  cases RVs.inj r1 r2
  rw [RVs.refl r1]
  exact EqAt.same _
 ·exact EqAt.of_refs hlb two.1
theorem wG {l b:Addr}{its its2:List Value}{xs ys:List M.D}(hl:IsTup s.heap l its.toArray) (hb:IsTup s.heap b its2.toArray) (r1:RVs s.heap xs its) (r2:RVs s.heap ys its2) (hu:A.units<cLine)
 (he: ∀(j:Nat) a c u v,xs[j]? =some a->ys[j]? =some c->RV s.heap a u->RV s.heap c v->EqAt A.in1 s u v (M.eqD a c)):Cmp3 A s (.ref l) (.ref b) (M.eqDs xs ys):=by
 have hi: ∀(j:Nat) (h1:j<its.toArray.size) (h2:j<its2.toArray.size),EqAt A.in1 s its.toArray[j] its2.toArray[j] (eqJ xs ys j):=fun j h1 h2=>by
  obtain⟨a,ea,ra⟩:=r1.get (j:=j) (u:=its.toArray[j]) (by simp at h1;simp [h1])
  obtain⟨c,ec,rc⟩:=r2.get (j:=j) (u:=its2.toArray[j]) (by simp at h2;simp [h2])
  have:=he j a c _ _ ea ec ra rc
  unfold eqJ
  rw [ea,ec]
  exact this
 have l1:=r1.length
 have l2:=r2.length
 have e:((List.range (min its.toArray.size its2.toArray.size)).all (eqJ xs ys)&&its.toArray.size==its2.toArray.size)=M.eqDs xs ys:=by
  rw [List.size_toArray,List.size_toArray,←l1,←l2]
  by_cases hz:xs.length=ys.length
  ·rw [← hz,Nat.min_self,Wz xs ys hz];simp
  ·rw [QP hz];simp [hz]
 have a:=RcAt.tuples hl hb hu hi
 have c:=RcNeAt.tuples hl hb hu hi
 rw [e]at a c
 refine⟨a,c,?_⟩
 by_cases hlb:l=b
 ·subst hlb
  cases Zx hl hb
  cases RVs.inj r1 r2
  rw [RVs.refl r1]
  exact EqAt.same _
 ·exact EqAt.of_refs hlb a
theorem Cmp3.of {u v:Value}{b b':Bool}(h:Cmp3 A s u v b) (e:b=b'):Cmp3 A s u v b':=e▸h
theorem cmp3: ∀(n:Nat) (d e:M.D) (A:Around) (u v:Value),M.dep d<=n->A.units+n<cLine->RV s.heap d u->RV s.heap e v->Cmp3 A s u v (M.eqD d e):=by
 intro n
 induction n with
 | zero=>
  intro d e A u v hd hu r1 r2
  have hu':A.units<cLine:=by omega
  cases d with
  | non=>
   cases (show u= .none from r1)
   cases e with
   | non=>cases (show v= .none from r2);exact⟨RcAt.none_none,RcNeAt.none_none,EqAt.same _⟩
   | bl b=>cases (show v= .bool b from r2);exact⟨RcAt.none_bool b,RcNeAt.none_bool b,EqAt.none_bool b⟩
   | int i=>obtain⟨t,rfl⟩:=r2;exact⟨RcAt.none_int i t,RcNeAt.none_int i t,EqAt.none_int i t⟩
   | str z=>obtain⟨t,rfl⟩:=r2;exact⟨RcAt.none_str _ t,RcNeAt.none_str _ t,EqAt.none_str _ t⟩
   | tup es=>obtain⟨a,its,rfl,p,_⟩:=r2;exact⟨RcAt.none_tuple p hu',RcNeAt.none_tuple p hu',EqAt.none_tuple p hu'⟩
   | lst es=>obtain⟨a,its,rfl,p,_⟩:=r2;exact⟨RcAt.none_list p hu',RcNeAt.none_list p hu',EqAt.none_list p hu'⟩
   | ref _=>exact r2.elim
   | exc _ _=>exact r2.elim
  | bl x=>
   cases (show u= .bool x from r1)
   cases e with
   | non=>cases (show v= .none from r2);exact⟨RcAt.bool_none x,RcNeAt.bool_none x,EqAt.bool_none x⟩
   | bl b=>cases (show v= .bool b from r2);exact⟨RcAt.bool_bool x b,RcNeAt.bool_bool x b,EqAt.bool_bool x b⟩
   | int i=>obtain⟨t,rfl⟩:=r2;exact(Cmp3.mk (RcAt.bool_int x i t) (RcNeAt.bool_int x i t) (EqAt.bool_int x i t)).of (by rw [b2n];rfl)
   | str z=>obtain⟨t,rfl⟩:=r2;exact⟨RcAt.bool_str x _ t,RcNeAt.bool_str x _ t,EqAt.bool_str x _ t⟩
   | tup es=>obtain⟨a,its,rfl,p,_⟩:=r2;exact⟨RcAt.bool_tuple x p hu',RcNeAt.bool_tuple x p hu',EqAt.bool_tuple x p hu'⟩
   | lst es=>obtain⟨a,its,rfl,p,_⟩:=r2;exact⟨RcAt.bool_list x p hu',RcNeAt.bool_list x p hu',EqAt.bool_list x p hu'⟩
   | ref _=>exact r2.elim
   | exc _ _=>exact r2.elim
  | int x=>
   obtain⟨t0,rfl⟩:=r1
   cases e with
   | non=>cases (show v= .none from r2);exact⟨RcAt.int_none x t0,RcNeAt.int_none x t0,EqAt.int_none x t0⟩
   | bl b=>cases (show v= .bool b from r2);exact(Cmp3.mk (RcAt.int_bool x t0 b) (RcNeAt.int_bool x t0 b) (EqAt.int_bool x t0 b)).of (by rw [b2n];rfl)
   | int i=>obtain⟨t,rfl⟩:=r2;exact⟨RcAt.int_int x t0 i t,RcNeAt.int_int x t0 i t,EqAt.int_int x t0 i t⟩
   | str z=>obtain⟨t,rfl⟩:=r2;exact⟨RcAt.int_str x t0 _ t,RcNeAt.int_str x t0 _ t,EqAt.int_str x t0 _ t⟩
   | tup es=>obtain⟨a,its,rfl,p,_⟩:=r2;exact⟨RcAt.int_tuple x t0 p hu',RcNeAt.int_tuple x t0 p hu',EqAt.int_tuple x t0 p hu'⟩
   | lst es=>obtain⟨a,its,rfl,p,_⟩:=r2;exact⟨RcAt.int_list x t0 p hu',RcNeAt.int_list x t0 p hu',EqAt.int_list x t0 p hu'⟩
   | ref _=>exact r2.elim
   | exc _ _=>exact r2.elim
  | str x=>
   obtain⟨t0,rfl⟩:=r1
   cases e with
   | non=>cases (show v= .none from r2);exact⟨RcAt.str_none _ t0,RcNeAt.str_none _ t0,EqAt.str_none _ t0⟩
   | bl b=>cases (show v= .bool b from r2);exact⟨RcAt.str_bool _ t0 b,RcNeAt.str_bool _ t0 b,EqAt.str_bool _ t0 b⟩
   | int i=>obtain⟨t,rfl⟩:=r2;exact⟨RcAt.str_int _ t0 i t,RcNeAt.str_int _ t0 i t,EqAt.str_int _ t0 i t⟩
   | str z=>obtain⟨t,rfl⟩:=r2;exact(Cmp3.mk (RcAt.str_str _ t0 _ t) (RcNeAt.str_str _ t0 _ t) (EqAt.str_str _ t0 _ t)).of (by rw [WN];rfl)
   | tup es=>obtain⟨a,its,rfl,p,_⟩:=r2;exact⟨RcAt.str_tuple _ t0 p hu',RcNeAt.str_tuple _ t0 p hu',EqAt.str_tuple _ t0 p hu'⟩
   | lst es=>obtain⟨a,its,rfl,p,_⟩:=r2;exact⟨RcAt.str_list _ t0 p hu',RcNeAt.str_list _ t0 p hu',EqAt.str_list _ t0 p hu'⟩
   | ref _=>exact r2.elim
   | exc _ _=>exact r2.elim
  | tup xs=>simp only [M.dep]at hd;omega
  | lst xs=>simp only [M.dep]at hd;omega
  | ref _=>exact r1.elim
  | exc _ _=>exact r1.elim
 | succ n ih=>
  intro d e A u v hd hu r1 r2
  have hu':A.units<cLine:=by omega
  cases d with
  | tup xs=>
   obtain⟨l,its1,rfl,p1,q1⟩:=r1
   have hd':M.deps xs<=n:=by simp only [M.dep]at hd;omega
   cases e with
   | non=>cases (show v= .none from r2);exact⟨RcAt.tuple_none p1 hu',RcNeAt.tuple_none p1 hu',EqAt.tuple_none p1 hu'⟩
   | bl b=>cases (show v= .bool b from r2);exact⟨RcAt.tuple_bool b p1 hu',RcNeAt.tuple_bool b p1 hu',EqAt.tuple_bool b p1 hu'⟩
   | int i=>obtain⟨t,rfl⟩:=r2;exact⟨RcAt.tuple_int i t p1 hu',RcNeAt.tuple_int i t p1 hu',EqAt.tuple_int i t p1 hu'⟩
   | str z=>obtain⟨t,rfl⟩:=r2;exact⟨RcAt.tuple_str _ t p1 hu',RcNeAt.tuple_str _ t p1 hu',EqAt.tuple_str _ t p1 hu'⟩
   | tup es=>
    obtain⟨a,its,rfl,p,q⟩:=r2
    rw [M.eqD]
    exact wG p1 p q1 q hu' fun j a' c' u' v' e1 e2 k1 k2=>(ih a' c' A.in1 u' v' (Nat.le_trans (wf e1) hd') (by show A.units+1+n<cLine;omega) k1 k2).eq
   | lst es=>obtain⟨a,its,rfl,p,_⟩:=r2;exact⟨RcAt.tuple_list p1 p hu',RcNeAt.tuple_list p1 p hu',EqAt.tuple_list p1 p hu'⟩
   | ref _=>exact r2.elim
   | exc _ _=>exact r2.elim
  | lst xs=>
   obtain⟨l,its1,rfl,p1,q1⟩:=r1
   have hd':M.deps xs<=n:=by simp only [M.dep]at hd;omega
   cases e with
   | non=>cases (show v= .none from r2);exact⟨RcAt.list_none p1 hu',RcNeAt.list_none p1 hu',EqAt.list_none p1 hu'⟩
   | bl b=>cases (show v= .bool b from r2);exact⟨RcAt.list_bool b p1 hu',RcNeAt.list_bool b p1 hu',EqAt.list_bool b p1 hu'⟩
   | int i=>obtain⟨t,rfl⟩:=r2;exact⟨RcAt.list_int i t p1 hu',RcNeAt.list_int i t p1 hu',EqAt.list_int i t p1 hu'⟩
   | str z=>obtain⟨t,rfl⟩:=r2;exact⟨RcAt.list_str _ t p1 hu',RcNeAt.list_str _ t p1 hu',EqAt.list_str _ t p1 hu'⟩
   | lst es=>
    obtain⟨a,its,rfl,p,q⟩:=r2
    rw [M.eqD]
    exact zS p1 p q1 q hu' fun j a' c' u' v' e1 e2 k1 k2=>(ih a' c' A.in1 u' v' (Nat.le_trans (wf e1) hd') (by show A.units+1+n<cLine;omega) k1 k2).eq
   | tup es=>obtain⟨a,its,rfl,p,_⟩:=r2;exact⟨RcAt.list_tuple p1 p hu',RcNeAt.list_tuple p1 p hu',EqAt.list_tuple p1 p hu'⟩
   | ref _=>exact r2.elim
   | exc _ _=>exact r2.elim
  | non=>exact ih .non e A u v (by simp) (by omega) r1 r2
  | bl x=>exact ih (.bl x) e A u v (by simp) (by omega) r1 r2
  | int x=>exact ih (.int x) e A u v (by simp) (by omega) r1 r2
  | str x=>exact ih (.str x) e A u v (by simp) (by omega) r1 r2
  | ref _=>exact r1.elim
  | exc _ _=>exact r1.elim
end
end L2.MS
namespace L2.MS
open PySem PySem.Spec PyProof.Rows
def PostW (Γ:Ge) (E:XK) (G:Gh) (H:Hp) (r:M.R M.W) (Q:VK):Prop:=Post Γ E G H r fun w _ G' H'=> ∀v,RelW Γ G' H' w v->FreshW [] [] H w v->Q v H'
section
variable {X:Cx}{Γ:Ge}{G:Gh}{H:Hp}{h:M.AH}{pins:List (Addr×Obj)}{σ:St}{s:Shared}{Q:VK}{E:XK}
theorem PostW.v {d:M.D}(p:PostW Γ E G H (.ok (.v d) h) Q) (hr:HRel Γ G h H){v:V}(z:RelD Γ G H d v):Q v H:=p G H Ext.refl hr v z trivial
theorem HRel.nofz (hr:HRel Γ G h H){a:Addr}(ha:H a=none): ¬G.fz a:=fun q=>by
 obtain⟨o,z⟩:=hr.live a q
 rw [ha]at z;cases z
theorem HRel.offN (hr:HRel Γ G h H){a:Addr}(ha:H a=none):Off G a:=fun r hn e=>by
 obtain⟨o,q⟩:=hr.there hn
 rw [e,ha]at q;cases q
theorem PostW.own {xs:List M.D}{vs:List V}(p:PostW Γ E G H (.ok (.own xs) h) Q) (hr:HRel Γ G h H) (z:RelDs Γ G H xs vs) (a:Addr) (ha:H a=none):Q (.ref a) (upd H a (.lst vs)):=
 p G (upd H a (.lst vs)) (xl _ ha) (hr.new _ ha) (.ref a) ⟨a,vs,rfl,hr.nofz ha,hr.offN ha,xb,z.ext (xl _ ha) hr⟩ ⟨a,rfl,ha⟩
theorem PostW.tup {xs:List M.D}{vs:List V}(p:PostW Γ E G H (.ok (.v (.tup xs)) h) Q) (hr:HRel Γ G h H) (z:RelDs Γ G H xs vs) (a:Addr) (ha:H a=none):Q (.ref a) (upd H a (.tup vs)):=
 p (G.more a) (upd H a (.tup vs)) (Jd _ ha) (hr.newF _ ha) (.ref a) ⟨a,vs,rfl,.inl ⟨.inr rfl,xb⟩,z.ext (Jd _ ha) hr⟩ trivial
theorem PostW.of {β:Type}{o:Option β}{f:β->M.AH->M.R M.W}(p:PostW Γ E G H ((M.R.of h o).bind f) Q): ∃b,o=some b/\PostW Γ E G H (f b h) Q:=Post.of p
theorem PostW.mk {G0:Gh}{H0:Hp}{h0:M.AH}{τ:M.Sl}{σ:St}{r:M.R M.W}(p:Post Γ E G0 H0 r fun w _ G' H'=> ∀v,RelW Γ G' H' w v->FreshW τ σ H0 w v->Q v H') (e:Ext G0 H0 G H) (s0:HRel Γ G0 h0 H0):PostW Γ E G H r Q:=by
 cases r with
 | ok w h'=>
  refine fun G' H' e' hr' v z1 z2=>p G' H' (e.trans s0 e') hr' v z1 ?_
  cases w with
  | v d=>trivial
  | own xs=>obtain⟨a,z3,z4⟩:=z2;exact⟨a,z3,e.none s0 z4⟩
  | bor xs=>obtain⟨i,w,z3,_⟩:=z2;simp at z3
 | exc d h'=>exact fun G' H' e' hr'=>p G' H' (e.trans s0 e') hr'
 | fail=>exact p
theorem RelW.lst (hr:HRel Γ G h H){w:M.W}{v:V}{xs:List M.D}(z:RelW Γ G H w v) (e:w.lst? h=some xs): ∃a vs,v= .ref a/\SqL Γ.K H a vs/\RelDs Γ G H xs vs:=by
 cases w with
 | v d=>
  cases d with
  | lst ys=>cases e;obtain⟨a,vs,z1,z2,z3⟩:=z;exact⟨a,vs,z1,z2.sq,z3⟩
  | ref r=>
   obtain⟨hn,z1⟩:=z
   have e:(match h[r]? with | some (M.Cell.lst zs)=>some zs | _=>none)=some xs:=e
   cases q:h[r]? with
   | none=>rw [q]at e;cases e
   | some c=>
    cases c with
    | lst ys=>
     rw [q]at e
     cases e
     obtain⟨_,vs,z2,z3⟩:=hr.cell r _ q
     exact⟨_,vs,z1,SqL.of z2,z3⟩
    | dic ks=>rw [q]at e;cases e
  | non=>cases e
  | bl _=>cases e
  | int _=>cases e
  | str _=>cases e
  | tup _=>cases e
  | exc _ _=>cases e
 | own ys=>cases e;obtain⟨a,vs,z1,_,_,z2,z3⟩:=z;exact⟨a,vs,z1,SqL.of z2,z3⟩
 | bor ys=>cases e;obtain⟨a,vs,z1,_,z2,z3⟩:=z;exact⟨a,vs,z1,.inl z2,z3⟩
theorem RelW.lstO (hr:HRel Γ G h H){w:M.W}{v:V}{xs:List M.D}(z:RelW Γ G H w v) (e:w.lstO? h=some xs): ∃a vs,v= .ref a/\Rd H a (.lst vs)/\RelDs Γ G H xs vs:=by
 cases w with
 | v d=>
  cases d with
  | ref r=>
   obtain⟨hn,z1⟩:=z
   have e:(match h[r]? with | some (M.Cell.lst zs)=>some zs | _=>none)=some xs:=e
   cases q:h[r]? with
   | none=>rw [q]at e;cases e
   | some c=>
    cases c with
    | lst ys=>
     rw [q]at e
     cases e
     obtain⟨_,vs,z2,z3⟩:=hr.cell r _ q
     exact⟨_,vs,z1,.inl z2,z3⟩
    | dic ks=>rw [q]at e;cases e
  | _=>cases e
 | own ys=>cases e;obtain⟨a,vs,z1,_,_,z2,z3⟩:=z;exact⟨a,vs,z1,.inl z2,z3⟩
 | bor ys=>cases e;obtain⟨a,vs,z1,_,z2,z3⟩:=z;exact⟨a,vs,z1,z2,z3⟩
theorem RelW.seq (hr:HRel Γ G h H){w:M.W}{v:V}{xs:List M.D}(z:RelW Γ G H w v) (e:w.seq? h=some xs): ∃a vs,v= .ref a/\(SqL Γ.K H a vs\/SqT Γ.K H a vs)/\RelDs Γ G H xs vs:=by
 have key:w.lst? h=some xs-> ∃a vs,v= .ref a/\(SqL Γ.K H a vs\/SqT Γ.K H a vs)/\RelDs Γ G H xs vs:=fun e=>by
  obtain⟨a,vs,z1,z2,z3⟩:=z.lst hr e
  exact⟨a,vs,z1,.inl z2,z3⟩
 cases w with
 | v d=>
  cases d with
  | tup ys=>cases e;obtain⟨a,vs,z1,z2,z3⟩:=z;exact⟨a,vs,z1,.inr z2.sq,z3⟩
  | lst ys=>exact key e
  | ref r=>exact key e
  | non=>cases e
  | bl _=>cases e
  | int _=>cases e
  | str _=>cases e
  | exc _ _=>cases e
 | own ys=>exact key e
 | bor ys=>exact key e
theorem jaG (I:Inv X pins σ H s){a:Addr}{vs:List V}(r:Rd H a (.lst vs)):vs.length<=sizeLine/\ ∃(its:List Value) (n:Nat),Vals vs its/\vs.length=its.length/\s.heap.get? a=some { cls:= .type "list",data:= .seq its.toArray n }:=by
 obtain⟨z,its,n,r,e⟩:=r.ok I.hok
 exact⟨z,its,n,r,r.length,e⟩
theorem Jc:M.LIM<=sizeLine:=by rw [M.LIM_eq];decide
def rCatL (K:PySem.W.Frag):R2:=fun x y H Q=> ∃l b xs zs,x= .ref l/\y= .ref b/\SqL K H l xs/\SqL K H b zs/\xs.length+zs.length<=sizeLine/\ ∀p,H p=none->Q (.ref p) (upd H p (.lst (xs++zs)))
theorem xai:OpR X (binaryOp .Add) (rCatL X.K):=by
 intro pins s σ H x y v u Q I rx ry h
 obtain⟨l,b,xs,zs,rfl,rfl,hH,hB,hz,q⟩:=h
 cases rx
 cases ry
 obtain⟨its,r,p1,_⟩:=I.list hH
 obtain⟨its2,r2,p2,_⟩:=I.list hB
 have l1:=r.length
 have l2:=r2.length
 have ea:its.toArray++its2.toArray=(its++its2).toArray:=by simp
 obtain⟨⟨cls,dd,data,sl⟩,ho,hc,n,hd⟩:=id p1.isList
 obtain⟨⟨cls2,dd2,data2,sl2⟩,ho2,hc2,n2,hd2⟩:=id p2.isList
 simp only at hc hd hc2 hd2
 subst hc hd hc2 hd2
 refine concat_meets ⟨_,ho,rfl⟩ ⟨_,ho2,rfl⟩ noFill_list_add seq_list_add PySem.F.slot_list_add PySem.F.entry_list_add (PySem.F.args_list_add_2 _ _) (list_addW l b its.toArray its2.toArray n n2 dd dd2 sl sl2 (by rw [List.size_toArray,List.size_toArray];omega)) ⟨ho,ho2,?_⟩
 rw [ea]
 exact⟨.ref _,_,I.lnew (t':=s.toks) (r.append r2) (by rw [List.length_append];omega),rfl,q _ I.fresh⟩
def rRepL:R2:=fun x y H Q=> ∃l k xs,x= .ref l/\y= .int k/\Rd H l (.lst xs)/\ -(2 ^ 63)<=k/\k<2 ^ 63/\xs.length*k.toNat<=sizeLine ∧
 ∀p,H p=none->Q (.ref p) (upd H p (.lst (List.replicate k.toNat xs).flatten))
theorem qag:OpR X (binaryOp .Mult) rRepL:=by
 intro pins s σ H x y v u Q I rx ry h
 obtain⟨l,k,xs,rfl,rfl,hH,h1,h2,hz,q⟩:=h
 cases rx
 obtain⟨t,rfl⟩:=ry
 obtain⟨z,its,n,r,hl,e⟩:=jaG I hH
 have hlen:its.toArray.size*k.toNat<=sizeLine:=by rw [List.size_toArray,←hl];exact hz
 have hcap: ¬its.toArray.size*k.toNat>(2 ^ 63-1) / 8:=by
  have:(sizeLine:Nat)<=(2 ^ 63-1) / 8:=by decide
  omega
 have hfit: ¬(!Builtin.List.listFitsIndex k)=true:=by
  rw [fitsIndex_both h1 h2]
  exact Bool.false_ne_true
 have hlong: ¬Builtin.List.listTooLong (its.toArray.size*k.toNat)=true:=by
  rw [ZB hlen]
  exact Bool.false_ne_true
 have hnew:List.foldl (fun x1 x2=>x1++x2) #[] (List.replicate (if its.toArray.isEmpty=true then 0 else k.toNat) its.toArray)=(List.replicate k.toNat its).flatten.toArray:=by
  have f0: ∀m:Nat,List.foldl (fun x1 x2=>x1++x2) #[] (List.replicate m its.toArray)=(List.replicate m its).flatten.toArray:=fun m=>by
   have:=xv its m []
   rw [List.nil_append]at this
   exact this
  rw [f0]
  cases its with
  | nil=>simp
  | cons a r'=>rw [if_neg (by simp)]
 refine wpAny_binaryOp_repeat_ref (T:= "list") (U:= "int") (by decide) ⟨_,e,rfl⟩ (fun s'=>typeIs_int s' k t) noFill_list_mul F.fills_int_mul F.slot_int_rmul repeat_list F.slot_int_index.lookup
  (call_meets F.slot_int_rmul (typeIs_int s k t) F.entry_int_rmul (F.args_int_rmul_2 _ _) (int___rmul___int_list k t l its.toArray n)
    ⟨e,rfl,⟨_,e,rfl⟩,call_meets F.slot_list_mul ⟨_,e,rfl⟩ F.entry_list_mul (F.args_list_mul_2 _ _) (AutoListH.list___mul___list_int_3 l its.toArray n k t hfit hcap hlong) ⟨e,?_⟩⟩)
 rw [hnew]
 exact⟨.ref _,_,I.lnew (t':=s.toks) (r.rep k.toNat) (by rw [qai,Nat.mul_comm];exact hz),rfl,q _ I.fresh⟩
theorem RelDs.rep {ds:List M.D}{vs:List V}(z:RelDs Γ G H ds vs): ∀k:Nat,RelDs Γ G H (List.replicate k ds).flatten (List.replicate k vs).flatten
 | 0=>rfl
 | k+1=>by
  rw [List.replicate_succ,List.replicate_succ,List.flatten_cons,List.flatten_cons]
  exact z.append (RelDs.rep z k)
theorem QN (a b:Nat):Builtin.bitAnd (a:Int) (b:Int)=((a &&& b:Nat):Int):=by
 unfold Builtin.bitAnd
 rw [decide_eq_true (Int.natCast_nonneg a),decide_eq_true (Int.natCast_nonneg b)]
 rfl
theorem jaj (a:Nat) (j:Int) (hj: ¬0<=j):Builtin.bitAnd (a:Int) j=((a-(a &&& (-j-1).toNat):Nat):Int):=by
 have e:(Builtin.bitNot j).toNat=(-j-1).toNat:=by unfold Builtin.bitNot;omega
 unfold Builtin.bitAnd
 rw [decide_eq_true (Int.natCast_nonneg a),decide_eq_false hj]
 show(a:Int)-((a &&& (Builtin.bitNot j).toNat:Nat):Int)=_
 rw [e]
 have:= @Nat.and_le_left a (-j-1).toNat
 omega
theorem W3 (a b:Nat):Builtin.bitOr (a:Int) (b:Int)=((a ||| b:Nat):Int):=by
 have h1: ¬(0:Int)<=Builtin.bitNot (a:Int):=by unfold Builtin.bitNot;omega
 have h2: ¬(0:Int)<=Builtin.bitNot (b:Int):=by unfold Builtin.bitNot;omega
 have e1:(Builtin.bitNot (Builtin.bitNot (a:Int))).toNat=a:=by unfold Builtin.bitNot;omega
 have e2:(Builtin.bitNot (Builtin.bitNot (b:Int))).toNat=b:=by unfold Builtin.bitNot;omega
 unfold Builtin.bitOr Builtin.bitAnd
 rw [decide_eq_false h1,decide_eq_false h2]
 show Builtin.bitNot (Builtin.bitNot (((Builtin.bitNot (Builtin.bitNot (a:Int))).toNat ||| (Builtin.bitNot (Builtin.bitNot (b:Int))).toNat:Nat):Int))=_
 rw [e1,e2]
 unfold Builtin.bitNot
 omega
theorem qad {i j k:Int}(h:M.andI i j=some k):Builtin.bitAnd i j=k:=by
 unfold M.andI at h
 split at h
 ·rename_i h0
  obtain⟨a,rfl⟩:=Int.eq_ofNat_of_zero_le h0
  split at h
  ·rename_i h1
   obtain⟨b,rfl⟩:=Int.eq_ofNat_of_zero_le h1
   cases h
   exact QN a b
  ·rename_i h1
   cases h
   exact jaj a j h1
 ·cases h
theorem jaF {i j k:Int}(h:M.orI i j=some k):Builtin.bitOr i j=k:=by
 unfold M.orI at h
 split at h
 ·rename_i h0
  obtain⟨a,rfl⟩:=Int.eq_ofNat_of_zero_le h0.1
  obtain⟨b,rfl⟩:=Int.eq_ofNat_of_zero_le h0.2
  cases h
  exact W3 a b
 ·cases h
theorem X1: ∀a b:Nat,(a ||| b)=(a ^^^ b)+(a &&& b):=by
 intro a
 induction a using Nat.strongRecOn with
 | ind a ih=>
  intro b
  by_cases h:a=0
  ·subst h;simp
  ·have i:=ih (a / 2) (by omega) (b / 2)
   have o1:= @Nat.or_div_two_pow a b 1
   have x1:= @Nat.xor_div_two_pow a b 1
   have n1:= @Nat.and_div_two_pow a b 1
   have o2:= @Nat.or_mod_two_pow a b 1
   have x2:= @Nat.xor_mod_two_pow a b 1
   have n2:= @Nat.and_mod_two_pow a b 1
   simp only [Nat.pow_one]at o1 x1 n1 o2 x2 n2
   rw [← o1,←x1,←n1]at i
   have e:(a ||| b) % 2=(a ^^^ b) % 2+(a &&& b) % 2:=by
    rw [o2,x2,n2]
    rcases Nat.mod_two_eq_zero_or_one a with u | u<;>rcases Nat.mod_two_eq_zero_or_one b with v | v<;>rw [u,v]<;>rfl
   omega
theorem Z9 {i j k:Int}(h:M.xorI i j=some k):Builtin.bitXor i j=k:=by
 unfold M.xorI at h
 split at h
 ·rename_i h0
  obtain⟨a,rfl⟩:=Int.eq_ofNat_of_zero_le h0.1
  obtain⟨b,rfl⟩:=Int.eq_ofNat_of_zero_le h0.2
  cases h
  show Builtin.bitOr (a:Int) (b:Int)-Builtin.bitAnd (a:Int) (b:Int)=((a ^^^ b:Nat):Int)
  rw [W3,QN,X1]
  omega
 ·cases h
def opM:M.Op->Operator
 | .add=> .Add | .sub=> .Sub | .mul=> .Mult | .fdiv=> .FloorDiv | .mod=> .Mod | .pow=> .Pow | .shl=> .LShift | .shr=> .RShift | .band=> .BitAnd | .bor=> .BitOr | .bxor=> .BitXor
def rBin (Γ:Ge) (E:XK) (o:M.Op):R2:=fun x y H Q=> ∃G h w1 w2,HRel Γ G h H/\RelW Γ G H w1 x/\RelW Γ G H w2 y/\PostW Γ E G H (M.binD o w1 w2 h) Q
theorem QF (s t:M.Tx):txS s++txS t=txS (s++t):=by
 show Str.mk _=Str.mk _
 simp [txS]
theorem Zb (s:M.Tx):(txS s).length=s.length:=by
 show s.toArray.size=s.length
 simp
def binOk:M.Op->Bool
 | _=>true
theorem jae {o:M.Op}(ho:binOk o=true){i j k:Int}(e:M.intOp o i j=some k){v u:Value}(I:Inv X pins σ H s) (rx:RelV (.int i) v) (ry:RelV (.int j) u) (q:Q (.int k) H):
 wpAny (model X.prog X.w) X.A (binaryOp (opM o) v u) (EP X pins σ Q) X.xe s:=by
 cases o with
 | add=>cases e;exact zaC pins s σ H _ _ v u Q I rx ry ⟨i,j,rfl,rfl,q⟩
 | sub=>cases e;exact qaD pins s σ H _ _ v u Q I rx ry ⟨i,j,rfl,rfl,q⟩
 | mul=>
  simp only [M.intOp,M.B64_eq,M.B30_eq,M.BP_eq,M.N64_eq]at e
  split at e
  ·rename_i c;cases e;exact zas pins s σ H _ _ v u Q I rx ry ⟨i,j,rfl,rfl,c,q⟩
  ·cases e
 | fdiv=>
  simp only [M.intOp,M.B64_eq,M.B30_eq,M.BP_eq,M.N64_eq]at e
  split at e
  ·rename_i c;cases e;exact qap pins s σ H _ _ v u Q I rx ry ⟨i,j,rfl,rfl,c,q⟩
  ·cases e
 | mod=>
  simp only [M.intOp,M.B64_eq,M.B30_eq,M.BP_eq,M.N64_eq]at e
  split at e
  ·rename_i c;cases e;exact xaF pins s σ H _ _ v u Q I rx ry ⟨i,j,rfl,rfl,c,q⟩
  ·cases e
 | pow=>
  simp only [M.intOp,M.B64_eq,M.B30_eq,M.BP_eq,M.N64_eq]at e
  split at e
  ·rename_i c;cases e;exact xas pins s σ H _ _ v u Q I rx ry ⟨i,j,rfl,rfl,c,q⟩
  ·cases e
 | shl=>
  simp only [M.intOp,M.B64_eq,M.B30_eq,M.BP_eq,M.N64_eq]at e
  split at e
  ·rename_i c;cases e;exact jat pins s σ H _ _ v u Q I rx ry ⟨i,j,rfl,rfl,c,q⟩
  ·cases e
 | shr=>
  simp only [M.intOp,M.B64_eq,M.B30_eq,M.BP_eq,M.N64_eq]at e
  split at e
  ·rename_i c;cases e;exact qav pins s σ H _ _ v u Q I rx ry ⟨i,j,rfl,rfl,c,q⟩
  ·cases e
 | band=>exact qaz pins s σ H _ _ v u Q I rx ry ⟨i,j,rfl,rfl,by dsimp only;rw [qad e];exact q⟩
 | bor=>exact xaO pins s σ H _ _ v u Q I rx ry ⟨i,j,rfl,rfl,by dsimp only;rw [jaF e];exact q⟩
 | bxor=>exact qax pins s σ H _ _ v u Q I rx ry ⟨i,j,rfl,rfl,by dsimp only;rw [Z9 e];exact q⟩
theorem RelW.int {w:M.W}{v:V}{i:Int}(z:RelW Γ G H w v) (e:w.int? =some i):v= .int i:=by
 cases w with
 | v d=>
  cases d with
  | int j=>cases e;exact z
  | _=>cases e
 | _=>cases e
theorem RelW.str {w:M.W}{v:V}{i:M.Tx}(z:RelW Γ G H w v) (e:w.str? =some i):v= .str (txS i):=by
 cases w with
 | v d=>
  cases d with
  | str j=>cases e;exact z
  | _=>cases e
 | _=>cases e
theorem RelW.tup {w:M.W}{v:V}{xs:List M.D}(z:RelW Γ G H w v) (e:w.tup? =some xs): ∃a vs,v= .ref a/\StT Γ G H a vs/\RelDs Γ G H xs vs:=by
 cases w with
 | v d=>
  cases d with
  | tup j=>cases e;exact z
  | _=>cases e
 | _=>cases e
theorem qaF (o:M.Op) (ho:binOk o=true) (hK:X.K=Γ.K):OpR X (binaryOp (opM o)) (rBin Γ E o):=by
 intro pins s σ H x y v u Q I rx ry ⟨G,h,w1,w2,hr,r1,r2,p⟩
 have hL:=Jc
 unfold M.binD at p
 split at p
 ·rename_i i j e1 e2
  obtain⟨k,e,p⟩:=p.of
  cases r1.int e1
  cases r2.int e2
  exact jae ho e I rx ry (p.v hr rfl)
 ·split at p
  · -- add
    unfold M.addD at p
    split at p
    ·rename_i a b e1 e2
     cases r1.str e1
     cases r2.str e2
     split at p
     ·rename_i c
      exact XE pins s σ H _ _ v u Q I rx ry ⟨_,_,rfl,rfl,by rw [Zb,Zb];omega,by rw [QF];exact p.v hr rfl⟩
     ·exact p.elim
    ·split at p
     ·rename_i xs ys e1 e2
      obtain⟨a,vs,rfl,z2,z3⟩:=r1.tup e1
      obtain⟨b,us,rfl,y2,y3⟩:=r2.tup e2
      split at p
      ·rename_i c
       have l1:=z3.length
       have l2:=y3.length
       by_cases ex:vs= []
       ·subst ex
        have:xs= []:=List.eq_nil_of_length_eq_zero l1
        subst this
        rw [List.nil_append]at p
        exact Z0 pins s σ H _ _ v u Q I rx ry ⟨a,b,us,rfl,rfl,hK▸z2.sq,hK▸y2.sq,p.v hr ⟨b,us,rfl,y2,y3⟩⟩
       refine zaq pins s σ H _ _ v u Q I rx ry ⟨a,b,vs,us,rfl,rfl,hK▸z2.sq,hK▸y2.sq,ex,by omega,fun e=> ?_,fun e pp hp=>p.tup hr (z3.append y3) pp hp⟩
       ·subst e
        have:ys= []:=List.eq_nil_of_length_eq_zero l2
        subst this
        rw [List.append_nil]at p
        exact p.v hr ⟨a,vs,rfl,z2,z3⟩
      ·exact p.elim
     ·split at p
      ·rename_i xs ys e1 e2
       obtain⟨a,vs,rfl,z2,z3⟩:=r1.lst hr e1
       obtain⟨b,us,rfl,y2,y3⟩:=r2.lst hr e2
       unfold M.catL at p
       split at p
       ·have l1:=z3.length
        have l2:=y3.length
        exact xai pins s σ H _ _ v u Q I rx ry ⟨a,b,vs,us,rfl,rfl,hK▸z2,hK▸y2,by omega,fun pp hp=>p.own hr (z3.append y3) pp hp⟩
       ·exact p.elim
      ·exact p.elim
  · -- mul
    unfold M.mulD at p
    split at p
    ·rename_i z j e1 e2
     cases r1.str e1
     cases r2.int e2
     split at p
     ·rename_i c
      rw [M.LIM_eq]at c
      refine jaf pins s σ H _ _ v u Q I rx ry ⟨_,j,rfl,rfl,c.1,c.2.1,by rw [Zb];exact c.2.2,?_⟩
      have e:repS (txS z) j.toNat=txS (List.replicate j.toNat z).flatten:=by
       apply wI
       rw [Qj]
       rfl
      rw [e]
      exact p.v hr rfl
     ·exact p.elim
    split at p
    ·rename_i xs j e1 e2
     obtain⟨a,vs,rfl,z2,z3⟩:=r1.lstO hr e1
     cases r2.int e2
     unfold M.repL at p
     split at p
     ·rename_i c
      have l1:=z3.length
      exact qag pins s σ H _ _ v u Q I rx ry ⟨a,j,vs,rfl,rfl,z2,by omega,by omega,by rw [← l1];omega,fun pp hp=>p.own hr (z3.rep j.toNat) pp hp⟩
     ·exact p.elim
    ·exact p.elim
  ·exact p.elim
def cpM:M.Cp->CmpOp
 | .eq=> .Eq | .ne=> .NotEq | .lt=> .Lt | .le=> .LtE | .gt=> .Gt | .ge=> .GtE | .mem=> .In | .nmem=> .NotIn | .isb=> .Is
def rCmp (Γ:Ge) (o:M.Cp):R2:=fun x y H Q=> ∃G h w1 w2 b,HRel Γ G h H/\RelW Γ G H w1 x/\RelW Γ G H w2 y/\M.cmpD o w1 w2 h=some b/\Q (.bl b) H
def cmpOk:M.Cp->Bool
 | .mem=>true
 | .nmem=>true
 | _=>true
theorem W0 {o:M.Cp}{i j:Int}{b:Bool}(e:M.cmpI o i j=some b){v u:Value}(I:Inv X pins σ H s) (rx:RelV (.int i) v) (ry:RelV (.int j) u) (q:Q (.bl b) H):
 wpAny (model X.prog X.w) X.A (compareOp (cpM o) v u) (EP X pins σ Q) X.xe s:=by
 cases o with
 | lt=>cases e;exact qaP pins s σ H _ _ v u Q I rx ry ⟨i,j,rfl,rfl,q⟩
 | le=>cases e;exact zaO pins s σ H _ _ v u Q I rx ry ⟨i,j,rfl,rfl,q⟩
 | gt=>cases e;exact qaO pins s σ H _ _ v u Q I rx ry ⟨i,j,rfl,rfl,q⟩
 | ge=>cases e;exact qaM pins s σ H _ _ v u Q I rx ry ⟨i,j,rfl,rfl,q⟩
 | _=>cases e
theorem jaA (hK:X.K=Γ.K){k:Nat}(hr:Room k X.A):OpR X (compareOp .Eq) (rCmp Γ .eq):=by
 intro pins s σ H x y v u Q I rx ry ⟨G,h,w1,w2,b,hh,r1,r2,e,q⟩
 simp only [M.cmpD]at e
 split at e
 ·rename_i c
  cases e
  have c':(M.noRef (w1.dd h)=true/\M.noRef (w2.dd h)=true)/\M.dep (w1.dd h)<150:=by simpa [M.eqOk]using c
  exact(cmp3 150 _ _ X.A v u (by omega) (by have:=hr.un;omega) (r1.rv I hK hh rx c'.1.1) (r2.rv I hK hh ry c'.1.2)).rc _ _ _ _ ⟨.bl _,H,I,rfl,q⟩
 ·cases e
theorem xau (hK:X.K=Γ.K){k:Nat}(hr:Room k X.A):OpR X (compareOp .NotEq) (rCmp Γ .ne):=by
 intro pins s σ H x y v u Q I rx ry ⟨G,h,w1,w2,b,hh,r1,r2,e,q⟩
 simp only [M.cmpD]at e
 split at e
 ·rename_i c
  cases e
  have c':(M.noRef (w1.dd h)=true/\M.noRef (w2.dd h)=true)/\M.dep (w1.dd h)<150:=by simpa [M.eqOk]using c
  exact(cmp3 150 _ _ X.A v u (by omega) (by have:=hr.un;omega) (r1.rv I hK hh rx c'.1.1) (r2.rv I hK hh ry c'.1.2)).ne _ _ _ _ ⟨.bl _,H,I,rfl,q⟩
 ·cases e
end
end L2.MS
namespace L2.MS
open PySem PySem.Spec PyProof.Rows
theorem PE.imp {X:Cx}{e:Expr}{t t':TE}(h:PE X e t) (k: ∀σ H Q,t' σ H Q->t σ H Q):PE X e t':=fun pins s σ H Q I q=>h pins s σ H Q I (k _ _ _ q)
theorem PT.imp {X:Cx}{e:Expr}{t t':TT}(h:PT X e t) (k: ∀σ H Q,t' σ H Q->t σ H Q):PT X e t':=fun pins s σ H Q I q=>h pins s σ H Q I (k _ _ _ q)
theorem PA.imp {X:Cx}{e:List Expr}{t t':TA}(h:PA X e t) (k: ∀σ H Q,t' σ H Q->t σ H Q):PA X e t':=fun pos pins s σ H Q I q=>h pos pins s σ H Q I (k _ _ _ q)
section
variable {X:Cx}{Γ:Ge}{G:Gh}{H:Hp}{h:M.AH}{pins:List (Addr×Obj)}{σ:St}{s:Shared}{Q:VK}{E:XK}
theorem RelWs.one {w:M.W}{vs:List V}(z:RelWs Γ G H [w] vs): ∃v,vs= [v]/\RelW Γ G H w v:=by
 obtain⟨v,r,rfl,z1,z2⟩:=z
 cases (show r= []from z2)
 exact⟨v,rfl,z1⟩
theorem RelWs.two {w w':M.W}{vs:List V}(z:RelWs Γ G H [w,w'] vs): ∃v v',vs= [v,v']/\RelW Γ G H w v/\RelW Γ G H w' v':=by
 obtain⟨v,r,rfl,z1,z2⟩:=z
 obtain⟨v',rfl,z3⟩:=z2.one
 exact⟨v,v',rfl,z1,z3⟩
def rBi (Γ:Ge) (E:XK) (b:M.Bi):List V->Hp->VK->Prop:=fun xs H Q=> ∃G h ws,HRel Γ G h H/\RelWs Γ G H ws xs/\PostW Γ E G H (M.biD b ws h) Q
theorem zW {K:PySem.W.Frag}{a:Addr}{vs:List V}(h:SqL K H a vs\/SqT K H a vs):SqL K H a vs\/SqT K H a vs:=h
def biOk:M.Bi->Bool
 | .len=>true | .int=>true | .list=>true | .tuple=>true | .divmod=>true | .min=>true | .max=>true | .sum=>true | .all=>true | .any=>true | .sorted=>true
 | _=>false
def biV:M.Bi->Value
 | .len=> .builtin "len" | .int=> .type "int" | .list=> .type "list" | .tuple=> .type "tuple" | .sum=> .builtin "sum" | .all=> .builtin "all" | .any=> .builtin "any"
 | .sorted=> .builtin "sorted" | .divmod=> .builtin "divmod" | .str=> .type "str" | .min=> .builtin "min" | .max=> .builtin "max" | .abs=> .builtin "abs"
theorem PostW.of2 {α β:Type}{o:Option α}{o':Option β}{f:α->β->M.AH->M.R M.W}(p:PostW Γ E G H ((M.R.of h o).bind fun a h=>(M.R.of h o').bind fun b h=>f a b h) Q): ∃a b,o=some a/\o'=some b/\PostW Γ E G H (f a b h) Q:=by
 obtain⟨a,e,p⟩:=p.of
 obtain⟨b,e',p⟩:=p.of
 exact⟨a,b,e,e',p⟩
theorem zz {G:Gh}{H:Hp}: ∀ {xs:List M.D}{vs:List V}{bs:List Bool},M.blsD xs=some bs->RelDs Γ G H xs vs->vs=bs.map V.bl
 | [],_,_,e,z=>by cases e;exact z
 | x::xs,_,bs,e,⟨v,r,z1,z2,z3⟩=>by
  subst z1
  cases x with
  | bl b=>
   obtain⟨cs,e1,rfl⟩:=Option.map_eq_some_iff.mp (show (M.blsD xs).map (b:: ·)=some bs from e)
   cases (show v= .bl b from z2)
   rw [zz e1 z3];rfl
  | _=>cases e
theorem QJ {G:Gh}{H:Hp}: ∀ {xs:List M.D}{vs:List V}{n:Int},M.sumD xs=some n->RelDs Γ G H xs vs-> ∃ns:List Int,vs=ns.map V.int/\n=sumI ns
 | [],_,_,e,z=>by cases e;exact⟨[],z,rfl⟩
 | x::xs,_,n,e,⟨v,r,z1,z2,z3⟩=>by
  subst z1
  cases x with
  | int i=>
   have e:(M.sumD xs).map (i+ ·)=some n:=e
   obtain⟨k,e1,rfl⟩:=Option.map_eq_some_iff.mp e
   obtain⟨ns,h1,h2⟩:=QJ e1 z3
   cases (show v= .int i from z2)
   exact⟨i::ns,by rw [h1];rfl,by rw [h2];rfl⟩
  | _=>cases e
theorem Zk {G:Gh}{H:Hp}: ∀ {xs:List M.D}{vs:List V}{ns:List Int},M.intsD xs=some ns->RelDs Γ G H xs vs->vs=ns.map V.int
 | [],_,_,e,z=>by cases e;exact z
 | x::xs,_,ns,e,⟨v,r,z1,z2,z3⟩=>by
  subst z1
  cases x with
  | int b=>
   obtain⟨cs,e1,rfl⟩:=Option.map_eq_some_iff.mp (show (M.intsD xs).map (b:: ·)=some ns from e)
   cases (show v= .int b from z2)
   rw [Zk e1 z3];rfl
  | _=>cases e
theorem WD {G:Gh}{H:Hp}: ∀ {xs:List M.D}{vs:List V}{ns:List M.Tx},M.strsD xs=some ns->RelDs Γ G H xs vs->vs=(ns.map txS).map V.str
 | [],_,_,e,z=>by cases e;exact z
 | x::xs,_,ns,e,⟨v,r,z1,z2,z3⟩=>by
  subst z1
  cases x with
  | str b=>
   obtain⟨cs,e1,rfl⟩:=Option.map_eq_some_iff.mp (show (M.strsD xs).map (b:: ·)=some ns from e)
   cases (show v= .str (txS b)from z2)
   rw [WD e1 z3];rfl
  | _=>cases e
theorem jD {G:Gh}{H:Hp}: ∀(ts:List M.Tx),RelDs Γ G H (ts.map .str) ((ts.map txS).map V.str)
 | []=>rfl
 | t::ts=>⟨_,_,rfl,rfl,jD ts⟩
theorem W4 (x:M.Tx): ∀ {ys:List M.Tx},ys.Pairwise (fun a b=> ¬b<a)->(M.insT x ys).Pairwise (fun a b=> ¬b<a)
 | [],_=>List.pairwise_singleton _ _
 | y::ys,h=>by
  have h':=List.pairwise_cons.mp h
  unfold M.insT
  split
  ·rename_i q
   refine List.pairwise_cons.mpr ⟨fun z hz=> ?_,W4 x h'.2⟩
   have:z=x\/z∈ys:=by
    have hp: ∀ {x:M.Tx}{ys:List M.Tx},z∈M.insT x ys->z=x\/z∈ys:=by
     intro x ys
     induction ys with
     | nil=>intro h;simp [M.insT]at h;exact .inl h
     | cons y ys ih=>
      intro h
      unfold M.insT at h
      split at h
      ·rcases List.mem_cons.mp h with h | h
       ·exact .inr (h▸List.mem_cons_self)
       ·exact(ih h).imp id (List.mem_cons_of_mem _)
      ·rcases List.mem_cons.mp h with h | h
       ·exact .inl h
       ·exact .inr h
    exact hp hz
   rcases this with rfl | hz
   ·exact fun c=>List.lt_irrefl _ (List.lt_trans c q)
   ·exact h'.1 z hz
  ·rename_i q
   refine List.pairwise_cons.mpr ⟨fun z hz=> ?_,h⟩
   rcases List.mem_cons.mp hz with rfl | hz
   ·exact q
   ·exact List.le_trans q (h'.1 z hz)
theorem ZK: ∀xs:List M.Tx,(M.sortT xs).Pairwise (fun a b=> ¬b<a)
 | []=> .nil
 | x::xs=>W4 x (ZK xs)
theorem jx (x:M.Tx): ∀ys:List M.Tx,(M.insT x ys).Perm (x::ys)
 | []=> .refl _
 | y::ys=>by
  unfold M.insT
  by_cases q:y<x
  ·rw [if_pos q]
   exact((jx x ys).cons y).trans (.swap x y ys)
  ·rw [if_neg q]
theorem Zo: ∀xs:List M.Tx,(M.sortT xs).Perm xs
 | []=> .refl _
 | x::xs=>(jx x (M.sortT xs)).trans ((Zo xs).cons x)
theorem Z6: ∀ {l:List Str}{p:Str},risingS p l=true->(p::l).Pairwise (fun a b=> ¬b.cps.toList<a.cps.toList)
 | [],p,_=>List.pairwise_singleton _ _
 | x::r,p,h=>by
  have h:(!ltCps x.cps.toList p.cps.toList&&risingS x r)=true:=h
  rw [Bool.and_eq_true,ltCps_eq]at h
  have h1: ¬x.cps.toList<p.cps.toList:=by simpa using h.1
  have h2:=Z6 h.2
  refine List.pairwise_cons.mpr ⟨fun z hz=> ?_,h2⟩
  rcases List.mem_cons.mp hz with rfl | hz
  ·exact h1
  ·exact List.le_trans h1 ((List.pairwise_cons.mp h2).1 z hz)
theorem j9 (s:Str):txS s.cps.toList=s:=by cases s;simp [txS]
theorem wN {ts:List M.Tx}{ss:List Str}(hp:ss.Perm (ts.map txS)) (hs:sortedS ss=true):ss=(M.sortT ts).map txS:=by
 have h1:(ss.map fun s=>s.cps.toList).Perm ts:=by
  have:=hp.map (fun s=>s.cps.toList)
  rw [List.map_map]at this
  have e:((fun s:Str=>s.cps.toList)∘txS)=id:=by funext t;simp [txS]
  rw [e,List.map_id]at this
  exact this
 have h2:(ss.map fun s=>s.cps.toList).Pairwise (fun a b=> ¬b<a):=by
  rw [List.pairwise_map]
  cases ss with
  | nil=>exact .nil
  | cons p l=>exact Z6 hs
 have h3:=List.Perm.eq_of_pairwise (fun a b _ _ x y=>List.le_antisymm x y) h2 (ZK ts) (h1.trans (Zo ts).symm)
 rw [← h3,List.map_map]
 have e:(txS∘fun s:Str=>s.cps.toList)=id:=by funext t;exact j9 t
 rw [e,List.map_id]
theorem qX (ns:List Int): ∀n:Int,bestI (fun a b=>decide (a>b)) ns n=ns.foldl (fun a b=>if b>a then b else a) n:=by
 induction ns with
 | nil=>intro n;rfl
 | cons m ns ih=>
  intro n
  show bestI _ ns _=_
  rw [ih,List.foldl_cons]
  simp only [decide_eq_true_eq]
theorem JZ (ns:List Int): ∀n:Int,bestI (fun a b=>decide (a<b)) ns n=ns.foldl (fun a b=>if b<a then b else a) n:=by
 induction ns with
 | nil=>intro n;rfl
 | cons m ns ih=>
  intro n
  show bestI _ ns _=_
  rw [ih,List.foldl_cons]
  simp only [decide_eq_true_eq]
theorem xal (b:M.Bi) (hb:biOk b=true) (hK:X.K=Γ.K) (hc:X.calm=true):CallR X (biV b) (rBi Γ E b):=by
 intro pins s σ H xs us Q I r ⟨G,h,ws,hr,rw',p⟩
 have hL:=Jc
 unfold M.biD at p
 split at p
 ·rename_i w
  obtain⟨v,rfl,z⟩:=rw'.one
  cases b with
  | len=>
   simp only [M.bi1]at p
   split at p
   ·rename_i y e
    cases z.str e
    split at p
    ·exact Xv pins s σ H _ us Q I r ⟨_,rfl,by rw [Zb];omega,by rw [Zb];exact p.v hr rfl⟩
    ·exact p.elim
   ·obtain⟨ys,e,p⟩:=p.of
    obtain⟨a,vs,rfl,z2,z3⟩:=z.seq hr e
    refine ju pins s σ H _ us Q I r ⟨a,vs,rfl,hK▸zW z2,?_⟩
    rw [← z3.length]
    exact p.v hr rfl
  | int=>
   simp only [M.bi1]at p
   split at p
   ·cases (show v= .int _ from z)
    exact Qu pins s σ H _ us Q I r (.inl ⟨_,rfl,p.v hr rfl⟩)
   ·rename_i k
    cases (show v= .bl _ from z)
    refine Qu pins s σ H _ us Q I r (.inr ⟨_,rfl,?_⟩)
    have:=p.v hr (v:= .int (k.toNat:Int)) rfl
    cases k<;>exact this
   ·exact p.elim
  | list=>
   simp only [M.bi1]at p
   obtain⟨ys,e,p⟩:=p.of
   obtain⟨a,vs,rfl,z2,z3⟩:=z.seq hr e
   exact zt pins s σ H _ us Q I r ⟨a,vs,rfl,hK▸zW z2,fun l hl=>p.own hr z3 l hl⟩
  | tuple=>
   simp only [M.bi1]at p
   obtain⟨ys,e,p2⟩:=p.of
   clear p
   cases w with
   | v d=>
    cases d with
    | tup zs=>
     cases e
     obtain⟨a,vs,rfl,z2,z3⟩:=z
     exact jc pins s σ H _ us Q I r ⟨a,vs,rfl,.inr ⟨hK▸z2.sq,p2.v hr ⟨a,vs,rfl,z2,z3⟩⟩⟩
    | lst zs=>
     obtain⟨a,vs,rfl,z2,z3⟩:=RelW.lst hr z e
     exact jc pins s σ H _ us Q I r ⟨a,vs,rfl,.inl ⟨hK▸z2,fun l hl=>p2.tup hr z3 l hl⟩⟩
    | ref q=>
     obtain⟨a,vs,rfl,z2,z3⟩:=RelW.lst hr z e
     exact jc pins s σ H _ us Q I r ⟨a,vs,rfl,.inl ⟨hK▸z2,fun l hl=>p2.tup hr z3 l hl⟩⟩
    | non=>cases e
    | bl _=>cases e
    | int _=>cases e
    | str _=>cases e
    | exc _ _=>cases e
   | own zs=>
    obtain⟨a,vs,rfl,z2,z3⟩:=RelW.lst hr z e
    exact jc pins s σ H _ us Q I r ⟨a,vs,rfl,.inl ⟨hK▸z2,fun l hl=>p2.tup hr z3 l hl⟩⟩
   | bor zs=>
    obtain⟨a,vs,rfl,z2,z3⟩:=RelW.lst hr z e
    exact jc pins s σ H _ us Q I r ⟨a,vs,rfl,.inl ⟨hK▸z2,fun l hl=>p2.tup hr z3 l hl⟩⟩
  | divmod=>exact p.elim
  | min=>
   simp only [M.bi1]at p
   obtain⟨n,e,p⟩:=p.of
   obtain⟨is,e1,e2⟩:=Option.bind_eq_some_iff.mp e
   obtain⟨ys,e3,e4⟩:=Option.bind_eq_some_iff.mp e1
   obtain⟨a,vs,rfl,z2,z3⟩:=RelW.lst hr z e3
   cases Zk e4 z3
   cases is with
   | nil=>cases e2
   | cons i is=>
    cases e2
    refine QQ hc pins s σ H _ us Q I r ⟨a,i,is,rfl,hK▸z2,?_⟩
    rw [JZ]
    exact p.v hr rfl
  | max=>
   simp only [M.bi1]at p
   obtain⟨n,e,p⟩:=p.of
   obtain⟨is,e1,e2⟩:=Option.bind_eq_some_iff.mp e
   obtain⟨ys,e3,e4⟩:=Option.bind_eq_some_iff.mp e1
   obtain⟨a,vs,rfl,z2,z3⟩:=RelW.lst hr z e3
   cases Zk e4 z3
   cases is with
   | nil=>cases e2
   | cons i is=>
    cases e2
    refine jK hc pins s σ H _ us Q I r ⟨a,i,is,rfl,hK▸z2,?_⟩
    rw [qX]
    exact p.v hr rfl
  | sum=>
   simp only [M.bi1]at p
   obtain⟨n,e,p⟩:=p.of
   obtain⟨ys,e1,e2⟩:=Option.bind_eq_some_iff.mp e
   split at e2
   rotate_left
   ·cases e2
   obtain⟨a,vs,rfl,z2,z3⟩:=RelW.lst hr z e1
   obtain⟨ns,rfl,rfl⟩:=QJ e2 z3
   exact ZL hc pins s σ H _ us Q I r ⟨a,ns,rfl,hK▸z2,p.v hr rfl⟩
  | all=>
   simp only [M.bi1]at p
   obtain⟨bs,e,p⟩:=p.of
   obtain⟨ys,e1,e2⟩:=Option.bind_eq_some_iff.mp e
   obtain⟨a,vs,rfl,z2,z3⟩:=RelW.lst hr z e1
   cases zz e2 z3
   exact xT hc pins s σ H _ us Q I r ⟨a,bs,rfl,hK▸z2,p.v hr rfl⟩
  | any=>
   simp only [M.bi1]at p
   obtain⟨bs,e,p⟩:=p.of
   obtain⟨ys,e1,e2⟩:=Option.bind_eq_some_iff.mp e
   obtain⟨a,vs,rfl,z2,z3⟩:=RelW.lst hr z e1
   cases zz e2 z3
   exact ZO hc pins s σ H _ us Q I r ⟨a,bs,rfl,hK▸z2,p.v hr rfl⟩
  | sorted=>
   simp only [M.bi1]at p
   obtain⟨ts,e,p⟩:=p.of
   obtain⟨ys,e1,e2⟩:=Option.bind_eq_some_iff.mp e
   obtain⟨a,vs,rfl,z2,z3⟩:=RelW.lst hr z e1
   cases WD e2 z3
   split at p
   ·rename_i hl
    refine wu pins s σ H _ us Q I r ⟨a,ts.map txS,rfl,hK▸z2,by rw [List.length_map];exact hl,fun ss' hp hs l hl=> ?_⟩
    rw [wN hp hs]
    exact p.own hr (jD _) l hl
   ·exact p.elim
  | str=>cases hb
  | abs=>cases hb
 ·rename_i w w'
  obtain⟨v,v',rfl,z,z'⟩:=rw'.two
  obtain⟨i,j,e,e',p⟩:=p.of2
  cases z.int e
  cases z'.int e'
  cases b with
  | divmod=>
   simp only [M.bi2,M.B30_eq]at p
   split at p
   ·rename_i c
    exact Wx pins s σ H _ us Q I r ⟨i,j,rfl,c,fun l hl=>p.tup hr (vs:= [.int (i / j),.int (i % j)]) ⟨_,_,rfl,rfl,_,_,rfl,rfl,rfl⟩ l hl⟩
   ·exact p.elim
  | min=>exact QL hc pins s σ H _ us Q I r ⟨i,j,rfl,p.v hr rfl⟩
  | max=>exact jR hc pins s σ H _ us Q I r ⟨i,j,rfl,p.v hr rfl⟩
  | len=>exact p.elim
  | int=>exact p.elim
  | list=>exact p.elim
  | tuple=>exact p.elim
  | sum=>exact p.elim
  | all=>exact p.elim
  | any=>exact p.elim
  | sorted=>exact p.elim
  | str=>cases hb
  | abs=>cases hb
 ·exact p.elim
def tyS:M.Ty->String
 | .non=> "NoneType" | .bool=> "bool" | .int=> "int" | .str=> "str" | .list=> "list" | .tuple=> "tuple"
theorem xf (K:PySem.W.Frag): ∀(u t:M.Ty),t≠ .non->PySem.W.kitOne K (.type (tyS u)) (.type (tyS t))=some (M.Ty.le u t):=by
 intro u t ht
 cases u<;>cases t<;>first | exact absurd rfl ht | kernel_rfl
def rIsT (Γ:Ge):List V->Hp->VK->Prop:=fun xs H Q=> ∃G h w x t b,xs= [x,.ty (tyS t)]/\t≠ .non/\HRel Γ G h H/\RelW Γ G H w x/\M.isT t w=some b/\Q (.bl b) H
theorem q0 (hK:X.K=Γ.K):CallR X (.builtin "isinstance") (rIsT Γ):=by
 intro pins s σ H xs us Q I r ⟨G,h,w,x,t,b,hx,ht,hr,z,e,q⟩
 subst hx
 obtain⟨u,w',rfl,rx,ry⟩:=Zy r
 cases ry
 have fin: ∀tk,EP X pins σ Q (.bool b) { s with toks:=tk }:=fun tk=>⟨.bl b,H,I.tok tk,rfl,q⟩
 have lst: ∀ {a:Addr}{vs:List V},x= .ref a->Rd H a (.lst vs)->M.Ty.le .list t=b->wpAny (model X.prog X.w) X.A (call (.builtin "isinstance") [u,.type (tyS t)]) (EP X pins σ Q) X.xe s:=by
  intro a vs ex rd eb
  subst ex eb
  rcases rd with rd | ⟨o,rd⟩
  ·exact jd I rx (.lst rd) (xf _ .list t ht) fin
  ·exact jd I rx (.frz rd) (xf _ .list t ht) fin
 unfold M.isT at e
 cases w with
 | v d=>
  cases d with
  | non=>cases e;cases (show x= .non from z);exact jd I rx .non (xf _ .non t ht) fin
  | bl c=>cases e;cases (show x= .bl c from z);exact jd I rx (.bl c) (xf _ .bool t ht) fin
  | int i=>cases e;cases (show x= .int i from z);exact jd I rx (.int i) (xf _ .int t ht) fin
  | str y=>cases e;cases (show x= .str _ from z);exact jd I rx (.str _) (xf _ .str t ht) fin
  | tup ys=>
   cases e
   obtain⟨a,vs,rfl,z2,z3⟩:=z
   rcases z2 with⟨_,z2⟩ | ⟨o,its,n,k1,k2,k3,_⟩
   ·exact jd I rx (.tup z2) (xf _ .tuple t ht) fin
   ·cases rx
    exact PySem.W.kia_one PySem.W.kitx_tuple I.kIn ⟨o,I.kIn a o (hK▸k1),k2⟩ (xf _ .tuple t ht) (fun z=>nomatch z) fin
  | lst ys=>
   cases e
   obtain⟨a,vs,z1,z2,z3⟩:=z
   rcases z2 with z2 | ⟨o,its,n,k1,k2,k3,_⟩
   ·exact lst z1 z2.2 rfl
   ·subst z1
    cases rx
    exact PySem.W.kia_one PySem.W.kitx_list I.kIn ⟨o,I.kIn a o (hK▸k1),k2⟩ (xf _ .list t ht) (fun z=>nomatch z) fin
  | ref q'=>cases e
  | exc c fs=>cases e
 | own ys=>cases e;obtain⟨a,vs,z1,_,_,z2,_⟩:=z;exact lst z1 (.inl z2) rfl
 | bor ys=>cases e;obtain⟨a,vs,z1,_,z2,_⟩:=z;exact lst z1 z2 rfl
theorem qE (hK:X.K=Γ.K) (hr:HRel Γ G h H){w:M.W}{x:V}{b:Bool}(z:RelW Γ G H w x) (e:M.truD h w=some b):TruV X.K x H b:=by
 have lst: ∀ {a:Addr}{vs:List V}{ys:List M.D},x= .ref a->SqL X.K H a vs->RelDs Γ G H ys vs->(!ys.isEmpty)=b->TruV X.K x H b:=by
  intro a vs ys ex rd rs eb
  subst ex eb
  refine .inl ⟨vs,rd,?_⟩
  cases ys with
  | nil=>cases (show vs= []from rs);rfl
  | cons _ _=>obtain⟨_,_,rfl,_⟩:=rs;rfl
 cases w with
 | v d=>
  cases d with
  | non=>cases e;cases (show x= .non from z);exact rfl
  | bl _=>cases e;cases (show x= .bl _ from z);exact rfl
  | int _=>cases e;cases (show x= .int _ from z);exact rfl
  | str y=>
   cases (show x= .str _ from z)
   have e:(if y.length<=M.LIM then some (!y.isEmpty)else none)=some b:=e
   split at e
   ·rename_i c
    cases e
    refine⟨by rw [Zb];have:=Jc;omega,?_⟩
    rw [Zb]
    cases y with
    | nil=>rfl
    | cons a r=>
     have:((((a::r).length:Nat):Int) != 0)=true:=by
      rw [List.length_cons,bne_iff_ne];omega
     rw [this];rfl
   ·cases e
  | tup ys=>
   cases e
   obtain⟨a,vs,rfl,z2,rs⟩:=z
   refine .inr (.inl ⟨vs,hK▸z2.sq,?_⟩)
   cases ys with
   | nil=>cases (show vs= []from rs);rfl
   | cons _ _=>obtain⟨_,_,rfl,_⟩:=rs;rfl
  | lst ys=>cases e;obtain⟨a,vs,z1,z2,z3⟩:=z;exact lst z1 (hK▸z2.sq) z3 rfl
  | ref q'=>cases e
  | exc c fs=>cases e
 | own ys=>cases e;obtain⟨a,vs,z1,_,_,z2,z3⟩:=z;exact lst z1 (SqL.of z2) z3 rfl
 | bor ys=>cases e;obtain⟨a,vs,z1,_,z2,z3⟩:=z;exact lst z1 (.inl z2) z3 rfl
end
end L2.MS
namespace L2.MS
open PySem PySem.Spec PyProof.Rows
abbrev strS (x:String):Str:=Str.ofString x
example:("len" :Str)=strS "len" :=rfl
structure Cf where
 sc:Scope
 N:List Str
 fns:List String
 own:List String
 rai:List String
 hnd:List String
def visB (sc:Scope) (x:Str):Bool:=match sc.names.lookup x with
 | some .local=>true
 | some .cell=>true
 | some .free=>true
 | _=>false
def glB (sc:Scope) (x:Str):Bool:=match sc.names.lookup x with
 | some .globalImplicit=>true
 | _=>false
def locB (sc:Scope) (x:Str):Bool:=match sc.names.lookup x with
 | some .local=>true
 | some .cell=>true
 | _=>false
def nmB (x:Str):Bool:= !(x==("__debug__" :Str))&& !(x==("__classdict__" :Str))
def biS:M.Bi->String
 | .len=> "len" | .int=> "int" | .list=> "list" | .tuple=> "tuple" | .sum=> "sum" | .all=> "all" | .any=> "any" | .sorted=> "sorted" | .divmod=> "divmod" | .str=> "str" | .min=> "min" | .max=> "max" | .abs=> "abs"
def bltN:List String:= ["len", "int", "list", "tuple", "sum", "all", "any", "sorted", "divmod", "str", "min", "max", "abs", "isinstance", "bool", "range", "reversed", "zip", "enumerate", "set", "ValueError"]
def callNm:Expr->Str->Bool
 | .Name y _,x=>y==x
 | _,_=>false
def gNm (sc:Scope) (x:String) (e:Expr):Bool:=callNm e (strS x)&&glB sc (strS x)&&nmB (strS x)
def mtS:M.Mt->String
 | .index=> "index" | .join=> "join" | .count=> "count" | .indexI=> "index"
def mtOk:M.Mt->Bool
 | .index=>true | .join=>true | .count=>true | .indexI=>true
def notC0:Expr->Bool
 | .Call .. =>false
 | _=>true
def chkCls (cf:Cf):List String->List Expr->Bool
 | [],[]=>true
 | t::ts,e::es=>gNm cf.sc t e&&cf.own.contains t&&chkCls cf ts es
 | _,_=>false
def isM1:Expr->Bool
 | .UnaryOp .USub (.Constant (.int 1) _ _) _=>true
 | _=>false
def chkTg (cf:Cf):List Nat->List Expr->Bool
 | [],[]=>true
 | i::is,.Name x _::es=>decide (cf.N[i]? =some x)&&locB cf.sc x&&chkTg cf is es
 | _,_=>false
def chkTarget (cf:Cf) (tg:List Nat) (one:Bool) (e:Expr):Bool:=match one,e with
 | true,.Name x p=>(match tg with | [_]=>true | _=>false)&&chkTg cf tg [.Name x p]
 | false,.Tuple es _ _=>chkTg cf tg es
 | _,_=>false
def notStar:Expr->Bool
 | .Starred .. =>false
 | _=>true
def notSlice:Expr->Bool
 | .Slice .. =>false
 | _=>true
def notSet:Expr->Bool
 | .Set .. =>false
 | _=>true
def capOk (cf:Cf):List Nat->List Str->Bool
 | [],[]=>true
 | j::js,x::xs=>decide (cf.N[j]? =some x)&&decide (cf.sc.names.lookup x=some .cell\/cf.sc.names.lookup x=some .free)&&capOk cf js xs
 | _,_=>false
def scopeOk (cf:Cf) (scope:Scope) (N:List Str) (k:Nat) (cap:List Nat):Bool:=
 decide (scope.kind= .function)&&decide (scope.names.map Prod.fst).Nodup&&scope.names.all (fun y=>decide (y.2= .local->scope.names.lookup y.1=some .local))&&
 scope.names.all (fun y=>decide (y.2= .free->cf.sc.names.lookup y.1=some .cell\/cf.sc.names.lookup y.1=some .free))&&(N.drop k).all (fun x=>decide (scope.names.lookup x=some .free))&&
 capOk cf cap (N.drop k)&&decide (k<=N.length)&&decide N.Nodup&&decide cap.Nodup
def tgNames:Expr->List Str
 | .Name x _=> [x]
 | .Tuple es _ _=>es.filterMap fun | .Name x _=>some x | _=>none
 | _=> []
def blockN (cf:Cf) (t:Expr) (cap:List Nat):List Str:=tgNames t++cap.filterMap fun j=>cf.N[j]?
def tOk:M.E->Bool
 | .ite .. =>false
 | .share _=>false
 | .not a=>tOk a
 | .and a b=>tOk a&&tOk b
 | .or a b=>tOk a&&tOk b
 | _=>true
def inM (neg:Bool):CmpOp:=if neg then .NotIn else .In
def nilEs:M.Es->Bool
 | .nil=>true
 | _=>false
mutual
def chkE (cf:Cf):M.E->Expr->Bool
 | .var i,e=>match e with
  | .Name x _=>decide (cf.N[i]? =some x)&&visB cf.sc x&&nmB x
  | _=>false
 | .con c,e=>gNm cf.sc c e
 | .int i,e=>match e with
  | .Constant (.int j) _ _=>decide (j=i)
  | _=>false
 | .bl i,e=>match e with
  | .Constant (.bool j) _ _=>decide (j=i)
  | _=>false
 | .non,e=>match e with
  | .Constant .none _ _=>true
  | _=>false
 | .str i,e=>match e with
  | .Constant (.str j) _ _=>decide (j=txS i)
  | _=>false
 | .tup es,e=>match e with
  | .Tuple xs _ _=>decide (xs.length<=1000)&&chkEs cf es xs
  | _=>false
 | .lst es,e=>match e with
  | .List xs _=>decide (xs.length<=1000)&&chkEs cf es xs
  | _=>false
 | .bin o a b,e=>match e with
  | .BinOp x p y _=>decide (p=opM o)&&binOk o&&chkE cf a x&&chkE cf b y
  | _=>false
 | .cmp o a b,e=>match e with
  | .Compare x [p] [y] _=>decide (p=cpM o)&&cmpOk o&&notSet y&&chkE cf a x&&chkE cf b y
  | _=>false
 | .chain o q a b c,e=>match e with
  | .Compare x [p,p'] [y,z] _=>decide (p=cpM o)&&decide (p'=cpM q)&&cmpOk o&&cmpOk q&&notSet z&&chkE cf a x&&chkE cf b y&&chkE cf c z
  | _=>false
 | .isn _ _,_=>false
 | .neg a,e=>match e with
  | .UnaryOp .USub x _=>chkE cf a x
  | _=>false
 | .inv _,_=>false
 | .not a,e=>match e with
  | .UnaryOp .Not x _=>chkE cf a x
  | _=>false
 | .and a b,e=>match e with
  | .BoolOp .And (x::y::rest) p=>chkE cf a x&&(match rest with | []=>chkE cf b y | _=>chkE cf b (.BoolOp .And (y::rest) p))
  | _=>false
 | .or a b,e=>match e with
  | .BoolOp .Or (x::y::rest) p=>chkE cf a x&&(match rest with | []=>chkE cf b y | _=>chkE cf b (.BoolOp .Or (y::rest) p))
  | _=>false
 | .ite _ _ _,_=>false
 | .call f es,e=>match e with
  | .Call g (x::xs) [] _=>gNm cf.sc f g&&cf.fns.contains f&&chkEs cf es (x::xs)
  | .Call g [] [] _=>gNm cf.sc f g&&cf.fns.contains f&&nilEs es
  | _=>false
 | .bi b es,e=>match e with
  | .Call g (x::xs) [] _=>gNm cf.sc (biS b) g&&biOk b&&chkEs cf es (x::xs)
  | _=>false
 | .isT a t,e=>match e with
  | .Call g [x,y] [] _=>gNm cf.sc "isinstance" g&&gNm cf.sc (tyS t) y&&decide (t≠ .non)&&notStar x&&chkE cf a x
  | _=>false
 | .isX a one ts,e=>match e with
  | .Call g [x,y] [] _=>gNm cf.sc "isinstance" g&&notStar x&&chkE cf a x&&(match one with
   | true=>(match ts with
    | [t]=>gNm cf.sc t y&&(decide (t= "ValueError")||cf.own.contains t)
    | _=>false)
   | false=>(match y with
    | .Tuple zs _ _=>decide (zs.length<=1000)&&chkCls cf ts zs
    | _=>false))
  | _=>false
 | .ix a b,e=>match e with
  | .Subscript x y _=>notSlice y&&chkE cf a x&&chkE cf b y
  | _=>false
 | .sl _ _ _,_=>false
 | .slL _ _,_=>false
 | .slH a hi,e=>match e with
  | .Subscript x (.Slice none (some u) none _) _=>chkE cf a x&&chkE cf hi u
  | _=>false
 | .rev _,_=>false
 | .comp tg one k cap it hasIf c elt,e=>match e with
  | .ListComp y [⟨t,iter,ifs,0⟩] scope _=>
   let cb:Cf:= { cf with sc:=scope,N:=blockN cf t cap }
   scopeOk cf scope (blockN cf t cap) k cap&&tg.all (fun i=>decide (i<k))&&chkTarget cb tg one t&&chkIt cf it iter&&chkE cb elt y&&
    (match hasIf with
    | true=>(match ifs with
     | [z]=>tOk c&&chkE cb c z
     | _=>false)
    | false=>(match ifs with
     | []=>true
     | _=>false))
  | _=>false
 | .compR _ _ _ _ _ _,_=>false
 | .dnew,e=>match e with
  | .Dict [] [] _=>true
  | _=>false
 | .din neg a i,e=>match e with
  | .Compare x [p] [.Name y _] _=>decide (p=inM neg)&&decide (cf.N[i]? =some y)&&visB cf.sc y&&nmB y&&chkE cf a x
  | _=>false
 | .dlen _,_=>false
 | .share a,e=>chkE cf a e
 | .lenset _,_=>false
 | .lensT _,_=>false
 | .trange _,_=>false
 | .lrange _,_=>false
 | .sorti _,_=>false
 | .geT _ _,_=>false
 | .ltL _ _,_=>false
 | .meth _ _ _,_=>false
def chkEs (cf:Cf):M.Es->List Expr->Bool
 | .nil,xs=>match xs with
  | []=>true
  | _=>false
 | .cons e es,xs=>match xs with
  | x::xs=>notStar x&&chkE cf e x&&chkEs cf es xs
  | _=>false
def chkIt (cf:Cf):M.It->Expr->Bool
 | .seq a,e=>notSet e&&chkE cf a e
 | .range1 a,e=>match e with
  | .Call g [x] [] _=>gNm cf.sc "range" g&&notStar x&&chkE cf a x
  | _=>false
 | .range2 a b,e=>match e with
  | .Call g [x,y] [] _=>gNm cf.sc "range" g&&notStar x&&notStar y&&chkE cf a x&&chkE cf b y
  | _=>false
 | .rev a,e=>match e with
  | .Call g [x] [] _=>gNm cf.sc "reversed" g&&notStar x&&chkE cf a x
  | _=>false
 | .zip _ _,_=>false
 | .enum _,_=>false
end
def notComp:Expr->Bool
 | .ListComp .. =>false
 | .SetComp .. =>false
 | .DictComp .. =>false
 | _=>true
def notTuple:Expr->Bool
 | .Tuple .. =>false
 | _=>true
def localB (cf:Cf) (i:Nat) (x:Str):Bool:=decide (cf.N[i]? =some x)&&decide (cf.sc.names.lookup x=some .local)
def storB (cf:Cf) (i:Nat) (x:Str):Bool:=decide (cf.N[i]? =some x)&&locB cf.sc x
def isMeth (cf:Cf) (i:Nat) (m:Str) (e:Expr) (cpos:Pos):Bool:=match e with
 | .Attribute (.Name x _) n apos=>decide (cf.N[i]? =some x)&&visB cf.sc x&&nmB x&&decide (n=m)&&(apos.endLine==cpos.line)
 | _=>false
def chkLp (cf:Cf):M.It->Expr->Bool
 | .seq a,e=>notSet e&&chkE cf a e
 | .range1 a,e=>chkIt cf (.range1 a) e
 | .range2 a b,e=>chkIt cf (.range2 a b) e
 | .rev a,e=>chkIt cf (.rev a) e
 | .zip a b,e=>match e with
  | .Call g [x,y] [] _=>gNm cf.sc "zip" g&&notStar x&&notStar y&&chkE cf a x&&chkE cf b y
  | _=>false
 | .enum a,e=>match e with
  | .Call g [x] [] _=>gNm cf.sc "enumerate" g&&notStar x&&chkE cf a x
  | _=>false
def enumOk:M.It->Expr->Bool
 | .enum _,.Tuple _ _ _=>true
 | .enum _,_=>false
 | .zip _ _,.Tuple _ _ _=>true
 | .zip _ _,_=>false
 | _,_=>true
def isSetVar (iv nm:Nat):M.Ss->Bool
 | .cons (.setf i (.var j)) .nil=>decide (i=iv)&&decide (j=nm)
 | _=>false
mutual
def chkS (cf:Cf):M.S->Stmt->Bool
 | .set i e,st=>match st with
  | .Assign [.Name x _] v _=>storB cf i x&&chkE cf e v
  | _=>false
 | .setf i e,st=>match st with
  | .Assign [.Name x _] v _=>storB cf i x&&chkE cf e v
  | _=>false
 | .unp is e,st=>match st with
  | .Assign [.Tuple ts _ _] v _=>chkTg cf is ts&&notTuple v&&chkE cf e v
  | _=>false
 | .setix i kx e,st=>match st with
  | .Assign [.Subscript (.Name x _) y _] v _=>decide (cf.N[i]? =some x)&&visB cf.sc x&&nmB x&&notSlice y&&notTuple v&&notComp v&&chkE cf kx y&&chkE cf e v
  | _=>false
 | .setref _ _ _,_=>false
 | .app i e,st=>match st with
  | .Expr (.Call f [v] [] cpos) _=>isMeth cf i "append" f cpos&&notStar v&&chkE cf e v
  | _=>false
 | .ins _ _ _,_=>false
 | .ext i e,st=>match st with
  | .Expr (.Call f [v] [] cpos) _=>isMeth cf i "extend" f cpos&&notStar v&&chkE cf e v
  | _=>false
 | .pop _,_=>false
 | .popTo _ _,_=>false
 | .mv i j,st=>match st with
  | .Assign [.Name x _] (.Name y _) _=>storB cf i x&&decide (cf.N[j]? =some y)&&visB cf.sc y&&nmB y
  | _=>false
 | .dput i e,st=>match st with
  | .Assign [.Subscript (.Name x _) y _] v _=>decide (cf.N[i]? =some x)&&visB cf.sc x&&nmB x&&notSlice y&&notTuple v&&notComp v&&chkE cf e y&&chkE cf (.bl true) v
  | _=>false
 | .clr _,_=>false
 | .rem i e,st=>match st with
  | .Expr (.Call f [v] [] cpos) _=>isMeth cf i "remove" f cpos&&notStar v&&chkE cf e v
  | _=>false
 | .insR _ _ _,_=>false
 | .appR _ _,_=>false
 | .popR _ _,_=>false
 | .popU _ _,_=>false
 | .forR _ _ _ _,_=>false
 | .freeze _,_=>false
 | .ex e,st=>match st with
  | .Expr v _=>notComp v&&chkE cf e v
  | _=>false
 | .ret e,st=>match st with
  | .Return (some v) _=>chkE cf e v
  | _=>false
 | .retn,_=>false
 | .iff c a b,st=>match st with
  | .If x ys zs _=>tOk c&&chkE cf c x&&chkSs cf a ys&&chkSs cf b zs
  | _=>false
 | .whl _ c b,st=>match st with
  | .While x ys [] _=>tOk c&&chkE cf c x&&chkSs cf b ys
  | _=>false
 | .for tg one it b,st=>match st with
  | .For t iter ys [] _=>enumOk it t&&chkTarget cf tg one t&&chkLp cf it iter&&chkSs cf b ys
  | _=>false
 | .raise c es,st=>match st with
  | .Raise (some (.Call g (x::xs) [] _)) none _=>gNm cf.sc c g&&cf.rai.contains c&&decide ((x::xs).length<=1000)&&chkEs cf es (x::xs)
  | _=>false
 | .tryc to f es c nm hb,st=>match st with
  | .Try [.Expr (.Call g (x::xs) [] _) _] [.ExceptHandler (some w) (some n) [.Assign [.Name v _] (.Name n' _) _] _] [] [] _=>
   (match to with
   | none=>true
   | some _=>false)&&gNm cf.sc f g&&cf.fns.contains f&&chkEs cf es (x::xs)&&gNm cf.sc c w&&cf.hnd.contains c&&decide (n'=n)&&localB cf nm n&&nmB n&&
   (match hb with
   | .cons (.setf iv (.var j)) .nil=>localB cf iv v&&decide (j=nm)
   | _=>false)
  | _=>false
 | .brk,_=>false
 | .cont,_=>false
 | .pass,_=>false
def chkSs (cf:Cf):M.Ss->List Stmt->Bool
 | .nil,sts=>match sts with
  | []=>true
  | _=>false
 | .cons s ss,sts=>match s with
  | .freeze _=>chkSs cf ss sts
  | s=>match sts with
   | st::sts=>chkS cf s st&&chkSs cf ss sts
   | _=>false
end
end L2.MS
namespace L2.MS
open PySem PySem.Spec PyProof.Rows
structure HasX (X:Cx) (k:Nat) (x:Str) (ps:List Str) (sp:Sp):Prop where
 ex: ∃f fd,FnOk X.prog X.w X.K X.mg X.base (CX1 X.prog X.w) k f fd ps sp/\Binds X.K fd ps []/\PySem.W.keepIn X.K (.ref f)=true/\X.mg x=some (.ref f)
def noOwn:M.W->Bool
 | .own _=>false
 | _=>true
def spW (Γ:Ge) (m:List M.W->M.AH->M.R M.W):Sp:=fun vs H Q E=> ∃G h ws,HRel Γ G h H/\RelWs Γ G H ws vs/\(∀ w∈ws,noOwn w=true)/\PostW Γ E G H (m ws h) Q
structure Go (Γ:Ge) (F:M.Fx) (X:Cx) (E:XK) (k:Nat) (cf:Cf):Prop where
 N:X.N=cf.N
 K:X.K=Γ.K
 cl:F.cl=Γ.cl
 ow:cf.own=Γ.own
 nd:cf.N.Nodup
 vis: ∀x,visB cf.sc x=true->Vis X.env.scope x
 lcl: ∀x,cf.sc.names.lookup x=some .local->X.env.scope.names.lookup x=some .local
 sto: ∀x,locB cf.sc x=true->Loc X.env.scope x/\(X.fn x=true\/X.env.scope.names.lookup x=some .local)
 cel: ∀x,(cf.sc.names.lookup x=some .cell\/cf.sc.names.lookup x=some .free)->X.env.kindOf x=some .cell\/X.env.kindOf x=some .free
 gl: ∀x,glB cf.sc x=true->Gl X x
 calm:X.calm=true
 room:Room k X.A
 pass:Passes (CX1 X.prog X.w) X E
 blt: ∀x,x∈bltN->X.mg (strS x)=none
 con: ∀x d,F.con.lookup x=some d-> ∃u v,X.mg (strS x)=some u/\RelV v u/\ ∀G H,RelD Γ G H d v
 fn: ∀f,cf.fns.contains f=true-> ∃ps,HasX X k (strS f) ps (spW Γ (F.call f))
 cls: ∀c,cf.own.contains c=true->X.mg (strS c)=some (.ref (Γ.ca c))
theorem Xa {sc:Scope}{x:String}{e:Expr}(h:gNm sc x e=true): ∃p,e= .Name (strS x) p/\glB sc (strS x)=true/\(strS x==("__debug__" :Str))=false:=by
 unfold gNm at h
 rw [Bool.and_eq_true,Bool.and_eq_true]at h
 obtain⟨⟨h1,h2⟩,h3⟩:=h
 unfold nmB at h3
 rw [Bool.and_eq_true]at h3
 cases e with
 | Name y p=>
  have:y=strS x:=by simpa [callNm]using h1
  subst this
  exact⟨p,rfl,h2,by simpa using h3.1⟩
 | _=>simp [callNm]at h1
theorem Je {x:String}(h:x∈bltN):strS x≠("__name__" :Str):=by
 have:(bltN.all fun x=>decide (strS x≠("__name__" :Str)))=true:=by decide +kernel
 exact of_decide_eq_true (List.all_eq_true.mp this x h)
section
variable {Γ:Ge}{F:M.Fx}{X:Cx}{E:XK}{k:Nat}{cf:Cf}
section
variable {G:Gh}{H:Hp}{h:M.AH}{τ:M.Sl}{σ:St}{Q:VK}
theorem Post.val {G0:Gh}{H0:Hp}{w:M.W}{v:V}(p:Post Γ E G0 H0 (.ok w h) fun w _ G' H'=> ∀v,RelW Γ G' H' w v->FreshW τ σ H0 w v->Q v H') (e:Ext G0 H0 G H) (hr:HRel Γ G h H) (z:RelW Γ G H w v) (f:FreshW τ σ H0 w v):Q v H:=
 p G H e hr v z f
end
theorem xac (go:Go Γ F X E k cf){i:Nat}{x:Str}{pos:Pos}(hN:cf.N[i]? =some x) (hv:visB cf.sc x=true) (hn:nmB x=true):PE X (.Name x pos) (tD Γ E (M.eval F (.var i))):=by
 unfold nmB at hn
 rw [Bool.and_eq_true]at hn
 refine PE.imp (Zl (by rw [go.N];exact hN) (go.vis x hv) (by simpa using hn.1) (by simpa using hn.2)) fun σ H Q qq=> ?_
 obtain⟨G,τ,h,s,p⟩:=qq
 rw [M.eval]at p
 cases q:M.getS τ i with
 | none=>simp [M.readS,q]at p;exact p.elim
 | some w=>
  obtain⟨v,e,r⟩:=s.slot i w q
  refine⟨v,e,?_⟩
  cases w with
  | v d=>
   rw [M.readS_v q]at p
   exact Post.val p Ext.refl s.heap r trivial
  | own xs=>
   rw [M.readS_own q]at p
   obtain⟨a,vs,z1,z2,z3,z4,z5⟩:=r
   exact Post.val p Ext.refl s.heap ⟨a,vs,z1,z3,.inl z4,z5⟩ ⟨i,_,q,rfl,e⟩
  | bor xs=>
   rw [M.readS_bor q]at p
   exact Post.val p Ext.refl s.heap r ⟨i,_,q,rfl,e⟩
theorem xag (go:Go Γ F X E k cf){c:String}{e:Expr}(hg:gNm cf.sc c e=true):PE X e (tD Γ E (M.eval F (.con c))):=by
 obtain⟨p,rfl,h2,h3⟩:=Xa hg
 cases q:F.con.lookup c with
 | none=>
  intro pins s σ H Q I ⟨G,τ,h,st,po⟩
  rw [M.eval,q]at po
  exact po.elim
 | some d=>
  obtain⟨u,v,hm,rv,rd⟩:=go.con c d q
  refine PE.imp (Xx (go.gl _ h2) hm rv h3) fun σ H Q qq=> ?_
  obtain⟨G,τ,h,st,po⟩:=qq
  rw [M.eval,q]at po
  exact Post.val po Ext.refl st.heap (rd G H) trivial
theorem wL {i:Int}{j:Nat}{pos:Pos}:PE X (.Constant (.int i) j pos) (tD Γ E (M.eval F (.int i))):=PE.imp jaI fun σ H Q ⟨G,τ,h,s,p⟩=>Post.val p Ext.refl s.heap (v:= .int i) rfl trivial
theorem W5 {i:Bool}{j:Nat}{pos:Pos}:PE X (.Constant (.bool i) j pos) (tD Γ E (M.eval F (.bl i))):=PE.imp zaN fun σ H Q ⟨G,τ,h,s,p⟩=>Post.val p Ext.refl s.heap (v:= .bl i) rfl trivial
theorem JL {j:Nat}{pos:Pos}:PE X (.Constant .none j pos) (tD Γ E (M.eval F .non)):=PE.imp zaJ fun σ H Q ⟨G,τ,h,s,p⟩=>Post.val p Ext.refl s.heap (v:= .non) rfl trivial
theorem qN {i:M.Tx}{j:Nat}{pos:Pos}:PE X (.Constant (.str (txS i)) j pos) (tD Γ E (M.eval F (.str i))):=PE.imp zaz fun σ H Q ⟨G,τ,h,s,p⟩=>Post.val p Ext.refl s.heap (v:= .str (txS i)) rfl trivial
section
variable {a b c:M.E}{x y z:Expr}{pos:Pos}
theorem qam (go:Go Γ F X E k cf){o:M.Op}(ho:binOk o=true) (ha:PE X x (tD Γ E (M.eval F a))) (hb:PE X y (tD Γ E (M.eval F b))):PE X (.BinOp x (opM o) y pos) (tD Γ E (M.eval F (.bin o a b))):=by
 refine PE.imp (zaL (qaF (E:=E) o ho go.K) ha hb) fun σ H Q qq=> ?_
 obtain⟨G,τ,h,s,p⟩:=qq
 rw [M.eval]at p
 refine Ja s.heap Ext.refl s p fun w1 v1 h1 G1 H1 e1 e1' s1 r1 f1 p1=> ?_
 refine Ja s.heap e1 s1 p1 fun w2 v2 h2 G2 H2 e2 e2' s2 r2 f2 p2=> ?_
 exact⟨G2,h2,w1,w2,s2.heap,r1.ext e2' s1.heap,r2,PostW.mk p2 e2 s.heap⟩
theorem WA {G:Gh}{H:Hp}{d:M.D}{v:V}(z:RelD Γ G H d v) (f:M.flat d=true):flatV v=true:=by
 cases d with
 | non=>cases (show v= .non from z);rfl
 | bl _=>cases (show v= .bl _ from z);rfl
 | int _=>cases (show v= .int _ from z);rfl
 | str _=>cases (show v= .str _ from z);rfl
 | _=>exact absurd (show false=true from f) Bool.false_ne_true
theorem Qq {G:Gh}{H:Hp}: ∀ {ds:List M.D}{vs:List V},RelDs Γ G H ds vs->ds.all M.flat=true->vs.all flatV=true
 | [],_,rfl,_=>rfl
 | d::ds,_,⟨v,r,rfl,z1,z2⟩,f=>by
  rw [List.all_cons,Bool.and_eq_true]at f ⊢
  exact⟨WA z1 f.1,Qq z2 f.2⟩
theorem xax {G:Gh}{H:Hp}{d e:M.D}{v u:V}(z:RelD Γ G H d v) (y:RelD Γ G H e u) (fd:M.flat d=true) (fe:M.flat e=true):eqV v u=M.eqD d e:=by
 cases d with
 | non=>
  cases (show v= .non from z)
  cases e with
  | non=>cases (show u= .non from y);rfl
  | bl _=>cases (show u= .bl _ from y);rfl
  | int _=>cases (show u= .int _ from y);rfl
  | str _=>cases (show u= .str _ from y);rfl
  | _=>exact absurd (show false=true from fe) Bool.false_ne_true
 | bl a=>
  cases (show v= .bl _ from z)
  cases e with
  | non=>cases (show u= .non from y);rfl
  | bl _=>cases (show u= .bl _ from y);rfl
  | int j=>cases (show u= .int _ from y);show((if a then(1:Int)else 0)==j)=((a.toNat:Int)==j);rw [b2n]
  | str _=>cases (show u= .str _ from y);rfl
  | _=>exact absurd (show false=true from fe) Bool.false_ne_true
 | int i=>
  cases (show v= .int _ from z)
  cases e with
  | non=>cases (show u= .non from y);rfl
  | bl b=>cases (show u= .bl _ from y);show(i==(if b then(1:Int)else 0))=(i==(b.toNat:Int));rw [b2n]
  | int _=>cases (show u= .int _ from y);rfl
  | str _=>cases (show u= .str _ from y);rfl
  | _=>exact absurd (show false=true from fe) Bool.false_ne_true
 | str i=>
  cases (show v= .str _ from z)
  cases e with
  | non=>cases (show u= .non from y);rfl
  | bl _=>cases (show u= .bl _ from y);rfl
  | int _=>cases (show u= .int _ from y);rfl
  | str j=>cases (show u= .str _ from y);exact WN i j
  | _=>exact absurd (show false=true from fe) Bool.false_ne_true
 | _=>exact absurd (show false=true from fd) Bool.false_ne_true
theorem j8 {G:Gh}{H:Hp}{d:M.D}{v:V}(z:RelD Γ G H d v) (fd:M.flat d=true): ∀ {ds:List M.D}{vs:List V},RelDs Γ G H ds vs->ds.all M.flat=true->inV v vs=M.inD d ds
 | [],_,rfl,_=>rfl
 | e::ds,_,⟨u,r,rfl,z1,z2⟩,f=>by
  rw [List.all_cons,Bool.and_eq_true]at f
  have ih:=j8 z fd z2 f.2
  unfold inV M.inD at ih ⊢
  rw [List.any_cons,List.any_cons,ih,xax z1 z f.1 fd]
theorem RelW.dflat {G:Gh}{H:Hp}{w:M.W}{v:V}{d:M.D}(z:RelW Γ G H w v) (e:w.d=some d) (f:M.flat d=true):RelD Γ G H d v:=by
 cases w with
 | v d'=>cases e;exact z
 | own xs=>cases e;exact absurd (show false=true from f) Bool.false_ne_true
 | bor xs=>cases e
theorem j4 {hp:Heap}{d:M.D}{ee:Value->Bool}(he: ∀c y,RV hp c y->ee y=M.eqD c d): ∀ {ys:List M.D}{us:List Value},RVs hp ys us->us.any ee=M.inD d ys
 | [],_,rfl=>rfl
 | c::ys,_,⟨u,r,rfl,z1,z2⟩=>by
  have ih:=j4 he z2
  unfold M.inD at ih ⊢
  rw [List.any_cons,List.any_cons,ih,he c u z1]
theorem qab (hK:X.K=Γ.K){k:Nat}(hro:Room k X.A) (neg:Bool){pins:List (Addr×Obj)}{s:Shared}{σ:St}{H:Hp}{x y:V}{v u:Value}{Q:VK}(I:Inv X pins σ H s) (rx:RelV x v) (ry:RelV y u){G:Gh}{h:M.AH}{w1 w2:M.W}{b:Bool}(hr:HRel Γ G h H)
 (r1:RelW Γ G H w1 x) (r2:RelW Γ G H w2 y) (e:M.memG w1 w2 h=some b) (q:Q (.bl (if neg then !b else b)) H):wpAny (model X.prog X.w) X.A (compareOp (if neg then .NotIn else .In) v u) (EP X pins σ Q) X.xe s:=by
 unfold M.memG at e
 split at e
 ·rename_i ys e2
  split at e
  ·rename_i c
   cases e
   have c':(M.noRef (w1.dd h)=true/\M.noRefs ys=true)/\M.deps ys<140:=by simpa using c
   have p1:=r1.rv I hK hr rx c'.1.1
   have p2:=r2.rv I hK hr ry (by rw [e2];exact c'.1.2)
   rw [e2]at p2
   obtain⟨a,its,rfl,hl,rs⟩:=p2
   have hee: ∃ee:Value->Bool,∀c y,RV s.heap c y->ee y=M.eqD c (w1.dd h):=⟨fun y=> @decide (∃ d,RV s.heap d y/\M.eqD d (w1.dd h)=true) (Classical.propDecidable _),fun c y z=>by
    cases q:M.eqD c (w1.dd h)with
    | true=>exact @decide_eq_true _ (Classical.propDecidable _) ⟨c,z,q⟩
    | false=>exact @decide_eq_false _ (Classical.propDecidable _) fun⟨d,z2,q2⟩=>by rw [RV.inj z2 z,q]at q2;cases q2⟩
   obtain⟨ee,he⟩:=hee
   have hq: ∀y,y∈its.toArray->SeqAt.EqAt X.A.in1 s y v (ee y):=fun y hy=>by
    obtain⟨j,hj⟩:=List.getElem?_of_mem (List.mem_toArray.mp hy)
    obtain⟨d,hd,rd⟩:=rs.get hj
    rw [he d y rd]
    exact(cmp3 140 d _ X.A.in1 y v (by have:=wf hd;omega) (by show X.A.units+1+140<cLine;have:=hro.un;omega) rd p1).eq
   have ha:its.toArray.any ee=M.inD (w1.dd h) ys:=by rw [List.any_toArray];exact j4 he rs
   cases neg with
   | true=>exact SeqAt.notIn_listAt ee hl hq ⟨.bl _,H,I,rfl,by rw [ha];exact q⟩
   | false=>exact SeqAt.in_listAt ee hl hq ⟨.bl _,H,I,rfl,by rw [ha];exact q⟩
  ·cases e
 ·cases e
theorem X5 (hK:X.K=Γ.K){k:Nat}(hro:Room k X.A) (neg:Bool){pins:List (Addr×Obj)}{s:Shared}{σ:St}{H:Hp}{x y:V}{v u:Value}{Q:VK}(I:Inv X pins σ H s) (rx:RelV x v) (ry:RelV y u){G:Gh}{h:M.AH}{w1 w2:M.W}{b:Bool}(hr:HRel Γ G h H)
 (r1:RelW Γ G H w1 x) (r2:RelW Γ G H w2 y) (e:M.memD w1 w2 h=some b) (q:Q (.bl (if neg then !b else b)) H):wpAny (model X.prog X.w) X.A (compareOp (if neg then .NotIn else .In) v u) (EP X pins σ Q) X.xe s:=by
 unfold M.memD at e
 split at e
 ·rename_i i j e1 e2
  split at e
  ·rename_i c
   cases e
   cases r1.str e1
   cases r2.str e2
   have f1:(!(Builtin.Str.occurrences (txS j) (txS [c]) 0 (txS j).length 1).isEmpty)=j.contains c:=by
    have:=PySem.StrLaws.found_one (txS j) c
    refine this.trans ?_
    rw [Bool.eq_iff_iff,decide_eq_true_eq,List.contains_iff_mem]
    simp [txS]
   cases neg with
   | true=>exact xx pins s σ H _ _ v u Q I rx ry ⟨_,_,rfl,rfl,by rw [f1];exact q⟩
   | false=>exact zK pins s σ H _ _ v u Q I rx ry ⟨_,_,rfl,rfl,by rw [f1];exact q⟩
  ·cases e
 ·split at e
  ·rename_i d xs e1 e2
   split at e
   ·rename_i c
    rw [Bool.and_eq_true]at c
    cases e
    have z:=r1.dflat e1 c.1
    obtain⟨a,vs,rfl,z2,z3⟩:=r2.seq hr e2
    rw [← j8 z c.1 z3 c.2]at q
    cases neg with
    | true=>exact Jr pins s σ H _ _ v u Q I rx ry ⟨a,vs,rfl,hK▸zW z2,WA z c.1,Qq z3 c.2,q⟩
    | false=>exact WJ pins s σ H _ _ v u Q I rx ry ⟨a,vs,rfl,hK▸zW z2,WA z c.1,Qq z3 c.2,q⟩
   ·exact qab hK hro neg I rx ry hr r1 r2 e q
  ·cases e
theorem qQ:OpR X (compareOp .GtE) (fun x y H Q=> ∃i j,x= .str i/\y= .str j/\Q (.bl (!decide (i.cps.toList<j.cps.toList))) H):=by
 intro pins s σ H x y v u Q I rx ry ⟨i,j,ex,ey,q⟩
 subst ex ey
 obtain⟨t,rfl⟩:=rx
 obtain⟨t',rfl⟩:=ry
 exact PySem.P.ge_str (Qt I q rfl)
theorem Xn (go:Go Γ F X E k cf) (o:M.Cp) (ho:cmpOk o=true):OpR X (compareOp (cpM o)) (rCmp Γ o):=by
 have nums: ∀ {o:M.Cp},(∀ w1 w2 h b,M.cmpD o w1 w2 h=some b->(∃ i j,M.W.int? w1=some i/\M.W.int? w2=some j/\M.cmpI o i j=some b)\/(∃ i j,M.W.str? w1=some i/\M.W.str? w2=some j/\M.cmpT o i j=some b))->OpR X (compareOp (cpM o)) (rCmp Γ o):=by
  intro o hi pins s σ H x y v u Q I rx ry ⟨G,h,w1,w2,b,hh,r1,r2,e,q⟩
  rcases hi w1 w2 h b e with⟨i,j,e1,e2,e3⟩ | ⟨i,j,e1,e2,e3⟩
  ·cases r1.int e1
   cases r2.int e2
   exact W0 e3 I rx ry q
  ·cases r1.str e1
   cases r2.str e2
   cases o with
   | lt=>
    cases e3
    refine ZR pins s σ H _ _ v u Q I rx ry ⟨_,_,rfl,rfl,?_⟩
    have:decide ((txS i).cps.toList<(txS j).cps.toList)=decide (i<j):=decide_eq_decide.mpr (by simp [txS])
    rw [this]
    exact q
   | ge=>
    cases e3
    have:decide ((txS i).cps.toList<(txS j).cps.toList)=decide (i<j):=decide_eq_decide.mpr (by simp [txS])
    rw [← this]at q
    exact qQ pins s σ H _ _ v u Q I rx ry ⟨_,_,rfl,rfl,q⟩
   | _=>cases e3
 have mk: ∀ {o:M.Cp}{w1 w2:M.W}{h:M.AH}{b:Bool},(match M.W.int? w1,M.W.int? w2 with
  | some i,some j=>M.cmpI o i j
  | _,_=>match M.W.str? w1,M.W.str? w2 with
   | some s,some t=>M.cmpT o s t
   | _,_=>none)=some b->(∃ i j,M.W.int? w1=some i/\M.W.int? w2=some j/\M.cmpI o i j=some b)\/(∃ i j,M.W.str? w1=some i/\M.W.str? w2=some j/\M.cmpT o i j=some b):=by
  intro o w1 w2 h b e
  split at e
  ·rename_i i j e1 e2;exact .inl ⟨i,j,e1,e2,e⟩
  ·split at e
   ·rename_i i j e1 e2;exact .inr ⟨i,j,e1,e2,e⟩
   ·cases e
 cases o with
 | eq=>exact jaA go.K go.room
 | ne=>exact xau go.K go.room
 | lt=>exact nums fun w1 w2 h b e=>mk (h:=h) e
 | le=>exact nums fun w1 w2 h b e=>mk (h:=h) e
 | gt=>exact nums fun w1 w2 h b e=>mk (h:=h) e
 | ge=>exact nums fun w1 w2 h b e=>mk (h:=h) e
 | mem=>
  intro pins s σ H x y v u Q I rx ry ⟨G,h,w1,w2,b,hh,r1,r2,e,q⟩
  exact X5 go.K go.room false I rx ry hh r1 r2 e q
 | nmem=>
  intro pins s σ H x y v u Q I rx ry ⟨G,h,w1,w2,b,hh,r1,r2,e,q⟩
  have e:(M.memD w1 w2 h).map (!·)=some b:=e
  cases e2:M.memD w1 w2 h with
  | none=>rw [e2]at e;cases e
  | some c=>
   rw [e2]at e
   cases e
   exact X5 go.K go.room true I rx ry hh r1 r2 e2 q
 | isb=>
  intro pins s σ H x y v u Q I rx ry ⟨G,h,w1,w2,b,hh,r1,r2,e,q⟩
  have e:M.isbD w1 w2=some b:=e
  unfold M.isbD at e
  split at e
  ·cases e
   cases r1
   cases r2
   cases rx
   obtain⟨t,rfl⟩:=ry
   exact wpAny_is_plain rfl (Qt I q rfl)
  ·cases e
   cases r1
   cases r2
   obtain⟨t,rfl⟩:=rx
   obtain⟨t',rfl⟩:=ry
   exact PyProof.Rows.is_bool (Qt I q rfl)
  ·cases e
theorem we {o:CmpOp}{e:Expr}(h:notSet e=true):behindInMarks o e=false:=by
 cases e<;>first | rfl | (simp [notSet]at h)
theorem w5 (go:Go Γ F X E k cf){o:M.Cp}{R:V->Hp->Prop}{σ:St}{H:Hp}{G:Gh}{τ:M.Sl}{h:M.AH}(s:StRel Γ G τ h σ H)
 (p:Post Γ E G H ((M.eval F a τ h).bind fun x h=>(M.eval F b τ h).bind fun y h=>(M.R.of h (M.cmpD o x y h)).bind fun c h=> .ok c h) fun c _ _ H'=>R (.bl c) H'):
 tOp (rCmp Γ o) (tD Γ E (M.eval F a)) (tD Γ E (M.eval F b)) σ H R:=by
 refine Ja s.heap Ext.refl s p fun w1 v1 h1 G1 H1 e1 e1' s1 r1 f1 p1=> ?_
 refine Ja s.heap e1 s1 p1 fun w2 v2 h2 G2 H2 e2 e2' s2 r2 f2 p2=> ?_
 obtain⟨c,ec,p2⟩:=p2.of
 exact⟨G2,h2,w1,w2,c,s2.heap,r1.ext e2' s1.heap,r2,ec,p2.at e2 s2.heap⟩
theorem Post.map {α β:Type}{G:Gh}{H:Hp}{r:M.R α}{f:α->β}{P:β->M.AH->Gh->Hp->Prop}(p:Post Γ E G H (r.bind fun a h=> .ok (f a) h) P):Post Γ E G H r fun a h G' H'=>P (f a) h G' H':=by
 cases r with
 | ok a h=>exact p
 | exc d h=>exact p
 | fail=>exact p
theorem Wc {α β γ:Type}(r:M.R α) (f:α->M.AH->M.R β) (g:β->M.AH->M.R γ):(r.bind f).bind g=r.bind fun a h=>(f a h).bind g:=by cases r<;>rfl
theorem jap (go:Go Γ F X E k cf){o:M.Cp}(ho:cmpOk o=true) (hy:notSet y=true) (ha:PE X x (tD Γ E (M.eval F a))) (hb:PE X y (tD Γ E (M.eval F b))):PE X (.Compare x [cpM o] [y] pos) (tD Γ E (M.eval F (.cmp o a b))):=by
 refine PE.imp (QS (Xn go o ho) ha hb (we hy)) fun σ H Q qq=> ?_
 obtain⟨G,τ,h,s,p⟩:=qq
 rw [M.eval]at p
 refine w5 go s ?_
 have p2:Post Γ E G H (((M.eval F a τ h).bind fun x h=>(M.eval F b τ h).bind fun y h=>(M.R.of h (M.cmpD o x y h)).bind fun c h=> .ok c h).bind fun c h=> .ok (M.W.v (.bl c)) h) fun w _ G' H'=> ∀v,RelW Γ G' H' w v->FreshW τ σ H w v->Q v H':=by
  simpa only [Wc,M.R.bind_ok]using p
 have p3:=p2.map
 cases q:(M.eval F a τ h).bind fun x h=>(M.eval F b τ h).bind fun y h=>(M.R.of h (M.cmpD o x y h)).bind fun c h=> .ok c h with
 | ok c h'=>rw [q]at p3;exact fun G' H' e hr=>p3 G' H' e hr (.bl c) rfl trivial
 | exc d h'=>rw [q]at p3;exact p3
 | fail=>rw [q]at p3;exact p3
theorem jW (go:Go Γ F X E k cf){o:M.Cp}(ho:cmpOk o=true) (hy:notSet y=true) (ha:PE X x (tD Γ E (M.eval F a))) (hb:PE X y (tD Γ E (M.eval F b))):PT X (.Compare x [cpM o] [y] pos) (tDT Γ E (M.tstE F (.cmp o a b))):=by
 refine PT.imp (jL (Xn go o ho) ha hb (we hy)) fun σ H Q qq=> ?_
 obtain⟨G,τ,h,s,p⟩:=qq
 unfold M.tstE at p
 rw [M.eval]at p
 refine w5 go s ?_
 have p2:Post Γ E G H ((M.eval F a τ h).bind fun x h=>(M.eval F b τ h).bind fun y h=>(M.R.of h (M.cmpD o x y h)).bind fun c h=> .ok c h) fun b _ _ H'=>Q b H':=by
  simpa only [Wc,M.R.bind_ok,M.tru_bl,M.R.of_some]using p
 cases q:(M.eval F a τ h).bind fun x h=>(M.eval F b τ h).bind fun y h=>(M.R.of h (M.cmpD o x y h)).bind fun c h=> .ok c h with
 | ok c h'=>rw [q]at p2;exact fun G' H' e hr=>⟨c,rfl,p2 G' H' e hr⟩
 | exc d h'=>rw [q]at p2;exact p2
 | fail=>rw [q]at p2;exact p2
end
end
end L2.MS
namespace L2.MS
open PySem PySem.Spec PyProof.Rows
section
variable {Γ:Ge}{F:M.Fx}{X:Cx}{E:XK}{k:Nat}{cf:Cf}{a b c:M.E}{x y z:Expr}{pos:Pos}
theorem Ji {α:Type}(r:M.R α):(r.bind fun w h=> .ok w h)=r:=by cases r<;>rfl
theorem Wa (go:Go Γ F X E k cf) (ha:PE X x (tD Γ E (M.eval F a))) (he: ∀whole,isTrue x X.env whole=(do let v ←whole;standAt x.pos;holding [v] (truthy v))):PT X x (tDT Γ E (M.tstE F a)):=by
 refine PT.imp (x0 ha he) fun σ H Q qq=> ?_
 obtain⟨G,τ,h,s,p⟩:=qq
 refine Ja s.heap Ext.refl s (f:=fun w h=>M.R.of h (M.truD h w)) p fun w1 v1 h1 G1 H1 e1 e1' s1 r1 f1 p1=> ?_
 cases q:M.truD h1 w1 with
 | none=>rw [q]at p1;exact p1.elim
 | some t=>
  rw [q]at p1
  exact⟨t,qE go.K s1.heap r1 q,p1 G1 H1 e1 s1.heap⟩
theorem zaj {ta:TE}(ha:PE X x ta):PE X (.UnaryOp .Not x pos) (fun σ H Q=>ta σ H fun v H1=> ∃t,TruV X.K v H1 t/\Q (.bl (!t)) H1):=by
 intro pins s σ H Q I h
 refine UnaryOp_ (thn (ha pins s σ H _ I h) fun v s1 ⟨x,H1,I1,r1,t,q1,q2⟩=> ?_)
 exact not_of (thn (QC pins s1 σ H1 x v (fun c H'=>Q (.bl (!c)) H') I1 r1 ⟨t,q1,q2⟩) fun c s2 ⟨H2,I2,q⟩=>⟨.bl (!c),H2,I2,rfl,q⟩)
theorem xaq (go:Go Γ F X E k cf) (ha:PE X x (tD Γ E (M.eval F a))):PE X (.UnaryOp .Not x pos) (tD Γ E (M.eval F (.not a))):=by
 refine PE.imp (zaj ha) fun σ H Q qq=> ?_
 obtain⟨G,τ,h,s,p⟩:=qq
 rw [M.eval]at p
 refine Ja s.heap Ext.refl s p fun w1 v1 h1 G1 H1 e1 e1' s1 r1 f1 p1=> ?_
 obtain⟨t,q,p1⟩:=p1.of
 exact⟨t,qE go.K s1.heap r1 q,Post.val p1 e1 s1.heap (v:= .bl (!t)) rfl trivial⟩
theorem ZW (ha:PT X x (tDT Γ E (M.tstE F a))):PT X (.UnaryOp .Not x pos) (tDT Γ E (M.tstE F (.not a))):=by
 refine PT.imp (zay ha) fun σ H Q qq=> ?_
 obtain⟨G,τ,h,s,p⟩:=qq
 unfold M.tstE at p
 rw [M.eval]at p
 have p2:Post Γ E G H ((M.tstE F a τ h).bind fun t h=> .ok (!t) h) fun b _ _ H'=>Q b H':=by
  unfold M.tstE
  simpa only [Wc,M.R.bind_ok,M.tru_bl,M.R.of_some]using p
 exact⟨G,τ,h,s,p2.map⟩
theorem jaq {ta tb:TE}{rest:List Expr}(ha:PE X x ta) (hb:PE X (.BoolOp .And (y::rest) pos) tb):PE X (.BoolOp .And (x::y::rest) pos) (fun σ H Q=>ta σ H fun v H1=> ∃t,TruV X.K v H1 t/\if t=true then tb σ H1 Q else Q v H1):=by
 intro pins s σ H Q I h
 refine BoolOp_and (thn (ha pins s σ H _ I h) fun v s1 ⟨x,H1,I1,r1,t,q1,q2⟩=> ?_)
 refine thn (QC pins s1 σ H1 x v (fun c H'=>if c=true then tb σ H' Q else Q x H') I1 r1 ⟨t,q1,q2⟩) fun c s2 qq=> ?_
 obtain⟨H2,I2,q⟩:=qq
 cases c with
 | true=>exact hb pins s2 σ H2 Q I2 q
 | false=>exact⟨x,H2,I2,r1,q⟩
theorem xay {ta tb:TE}{rest:List Expr}(ha:PE X x ta) (hb:PE X (.BoolOp .Or (y::rest) pos) tb):PE X (.BoolOp .Or (x::y::rest) pos) (fun σ H Q=>ta σ H fun v H1=> ∃t,TruV X.K v H1 t/\if t=true then Q v H1 else tb σ H1 Q):=by
 intro pins s σ H Q I h
 refine BoolOp_or (thn (ha pins s σ H _ I h) fun v s1 ⟨x,H1,I1,r1,t,q1,q2⟩=> ?_)
 refine thn (QC pins s1 σ H1 x v (fun c H'=>if c=true then Q x H' else tb σ H' Q) I1 r1 ⟨t,q1,q2⟩) fun c s2 qq=> ?_
 obtain⟨H2,I2,q⟩:=qq
 cases c with
 | false=>exact hb pins s2 σ H2 Q I2 q
 | true=>exact⟨x,H2,I2,r1,q⟩
theorem ZJ (go:Go Γ F X E k cf){rest:List Expr}(ha:PE X x (tD Γ E (M.eval F a))) (hb:PE X (.BoolOp .And (y::rest) pos) (tD Γ E (M.eval F b))):PE X (.BoolOp .And (x::y::rest) pos) (tD Γ E (M.eval F (.and a b))):=by
 refine PE.imp (jaq ha hb) fun σ H Q qq=> ?_
 obtain⟨G,τ,h,s,p⟩:=qq
 rw [M.eval]at p
 refine Ja s.heap Ext.refl s p fun w1 v1 h1 G1 H1 e1 e1' s1 r1 f1 p1=> ?_
 obtain⟨t,q,p1⟩:=p1.of
 refine⟨t,qE go.K s1.heap r1 q,?_⟩
 cases t with
 | true=>
  rw [if_pos rfl]
  exact Ja s.heap e1 s1 (f:=fun w h=> .ok w h) (by rw [Ji];exact p1) fun w2 v2 h2 G2 H2 e2 e2' s2 r2 f2 p2=>Post.val p2 e2 s2.heap r2 (f2.back e1 s.heap)
 | false=>
  rw [if_neg Bool.false_ne_true]
  exact Post.val p1 e1 s1.heap r1 f1
theorem W8 (go:Go Γ F X E k cf){rest:List Expr}(ha:PE X x (tD Γ E (M.eval F a))) (hb:PE X (.BoolOp .Or (y::rest) pos) (tD Γ E (M.eval F b))):PE X (.BoolOp .Or (x::y::rest) pos) (tD Γ E (M.eval F (.or a b))):=by
 refine PE.imp (xay ha hb) fun σ H Q qq=> ?_
 obtain⟨G,τ,h,s,p⟩:=qq
 rw [M.eval]at p
 refine Ja s.heap Ext.refl s p fun w1 v1 h1 G1 H1 e1 e1' s1 r1 f1 p1=> ?_
 obtain⟨t,q,p1⟩:=p1.of
 refine⟨t,qE go.K s1.heap r1 q,?_⟩
 cases t with
 | false=>
  rw [if_neg Bool.false_ne_true]
  exact Ja s.heap e1 s1 (f:=fun w h=> .ok w h) (by rw [Ji];exact p1) fun w2 v2 h2 G2 H2 e2 e2' s2 r2 f2 p2=>Post.val p2 e2 s2.heap r2 (f2.back e1 s.heap)
 | true=>
  rw [if_pos rfl]
  exact Post.val p1 e1 s1.heap r1 f1
theorem qaj {τ:M.Sl}{h:M.AH}:M.tstE F (.and a b) τ h=(M.tstE F a τ h).bind fun t h=>match t with
 | true=>M.tstE F b τ h
 | false=> .ok false h:=by
 unfold M.tstE
 rw [M.eval]
 simp only [Wc]
 congr 1
 funext w h1
 cases q:M.truD h1 w with
 | none=>rfl
 | some t=>
  cases t with
  | true=>rfl
  | false=>simp [q]
theorem zaB {τ:M.Sl}{h:M.AH}:M.tstE F (.or a b) τ h=(M.tstE F a τ h).bind fun t h=>match t with
 | true=> .ok true h
 | false=>M.tstE F b τ h:=by
 unfold M.tstE
 rw [M.eval]
 simp only [Wc]
 congr 1
 funext w h1
 cases q:M.truD h1 w with
 | none=>rfl
 | some t=>
  cases t with
  | false=>rfl
  | true=>simp [q]
theorem XB {rest:List Expr}(ha:PT X x (tDT Γ E (M.tstE F a))) (hb:PW X (.BoolOp .And (y::rest) pos) (tDT Γ E (M.tstE F b))):PW X (.BoolOp .And (x::y::rest) pos) (tDT Γ E (M.tstE F (.and a b))):=by
 intro wh pins st σ H Q I ⟨G,τ,h,s,p⟩
 refine xaw ha hb wh pins st σ H Q I ?_
 rw [qaj]at p
 refine xq s.heap Ext.refl s p fun t h1 G1 H1 e1 e1' s1 p1=> ?_
 cases t with
 | true=>
  rw [if_pos rfl]
  exact xq s.heap e1 s1 (f:=fun w h=> .ok w h) (by rw [Ji];exact p1) fun w2 h2 G2 H2 e2 e2' s2 p2=>p2 G2 H2 e2 s2.heap
 | false=>
  rw [if_neg Bool.false_ne_true]
  exact p1 G1 H1 e1 s1.heap
theorem ZM {rest:List Expr}(ha:PT X x (tDT Γ E (M.tstE F a))) (hb:PW X (.BoolOp .Or (y::rest) pos) (tDT Γ E (M.tstE F b))):PW X (.BoolOp .Or (x::y::rest) pos) (tDT Γ E (M.tstE F (.or a b))):=by
 intro wh pins st σ H Q I ⟨G,τ,h,s,p⟩
 refine xaN ha hb wh pins st σ H Q I ?_
 rw [zaB]at p
 refine xq s.heap Ext.refl s p fun t h1 G1 H1 e1 e1' s1 p1=> ?_
 cases t with
 | false=>
  rw [if_neg Bool.false_ne_true]
  exact xq s.heap e1 s1 (f:=fun w h=> .ok w h) (by rw [Ji];exact p1) fun w2 h2 G2 H2 e2 e2' s2 p2=>p2 G2 H2 e2 s2.heap
 | true=>
  rw [if_pos rfl]
  exact p1 G1 H1 e1 s1.heap
theorem zal (ha:PE X x (tD Γ E (M.eval F a))):PE X (.UnaryOp .USub x pos) (tD Γ E (M.eval F (.neg a))):=by
 refine PE.imp (jaL zaE ha) fun σ H Q qq=> ?_
 obtain⟨G,τ,h,s,p⟩:=qq
 rw [M.eval]at p
 refine Ja s.heap Ext.refl s p fun w1 v1 h1 G1 H1 e1 e1' s1 r1 f1 p1=> ?_
 obtain⟨t,q,p1⟩:=p1.of
 exact⟨t,r1.int q,Post.val p1 e1 s1.heap (v:= .int (-t)) rfl trivial⟩
def isnB (neg:Bool):M.W->Bool
 | .v .non=> !neg
 | _=>neg
theorem QD {o o':CmpOp}{e e':Expr}(h:notSet e'=true):lastMarks [o,o'] [e,e']=false:=we h
theorem zC (go:Go Γ F X E k cf){o o':M.Cp}{R:V->Hp->Prop}{σ:St}{H:Hp}{G:Gh}{τ:M.Sl}{h:M.AH}(s:StRel Γ G τ h σ H){P:M.W->M.AH->Gh->Hp->Prop}
 (hP: ∀b h' G' H',P (.v (.bl b)) h' G' H'->R (.bl b) H') (p:Post Γ E G H (M.eval F (.chain o o' a b c) τ h) P):
 tChain (rCmp Γ o) (rCmp Γ o') (tD Γ E (M.eval F a)) (tD Γ E (M.eval F b)) (tD Γ E (M.eval F c)) σ H R:=by
 rw [M.eval]at p
 refine Ja s.heap Ext.refl s p fun w1 v1 h1 G1 H1 e1 e1' s1 r1 f1 p1=> ?_
 refine Ja s.heap e1 s1 p1 fun w2 v2 h2 G2 H2 e2 e2' s2 r2 f2 p2=> ?_
 obtain⟨t,ec,p2⟩:=p2.of
 refine⟨G2,h2,w1,w2,t,s2.heap,r1.ext e2' s1.heap,r2,ec,t,rfl,?_⟩
 cases t with
 | true=>
  rw [if_pos rfl]
  refine Ja s.heap e2 s2 p2 fun w3 v3 h3 G3 H3 e3 e3' s3 r3 f3 p3=> ?_
  obtain⟨t,ec,p3⟩:=p3.of
  exact⟨G3,h3,w2,w3,t,s3.heap,r2.ext e3' s2.heap,r3,ec,hP _ _ _ _ (p3.at e3 s3.heap)⟩
 | false=>
  rw [if_neg Bool.false_ne_true]
  exact hP _ _ _ _ (p2.at e2 s2.heap)
theorem jS (go:Go Γ F X E k cf){o o':M.Cp}(ho:cmpOk o=true) (ho':cmpOk o'=true) (hz:notSet z=true) (ha:PE X x (tD Γ E (M.eval F a))) (hb:PE X y (tD Γ E (M.eval F b))) (hc:PE X z (tD Γ E (M.eval F c))):
 PE X (.Compare x [cpM o,cpM o'] [y,z] pos) (tD Γ E (M.eval F (.chain o o' a b c))):=
 PE.imp (WY (Xn go o ho) (Xn go o' ho') ha hb hc (QD hz)) fun σ H Q ⟨G,τ,h,s,p⟩=>zC go s (fun b h' G' H' q=>q (.bl b) rfl trivial) p
theorem qH (go:Go Γ F X E k cf){o o':M.Cp}(ho:cmpOk o=true) (ho':cmpOk o'=true) (hz:notSet z=true) (ha:PE X x (tD Γ E (M.eval F a))) (hb:PE X y (tD Γ E (M.eval F b))) (hc:PE X z (tD Γ E (M.eval F c))):
 PT X (.Compare x [cpM o,cpM o'] [y,z] pos) (tDT Γ E (M.tstE F (.chain o o' a b c))):=by
 refine PT.imp (Z2 (Xn go o ho) (Xn go o' ho') ha hb hc (QD hz)) fun σ H Q qq=> ?_
 obtain⟨G,τ,h,s,p⟩:=qq
 refine zC go s (P:=fun w _ _ H'=> ∀b,w= .v (.bl b)->Q b H') (fun b h' G' H' q=>⟨b,rfl,q b rfl⟩) ?_
 unfold M.tstE at p
 cases q:M.eval F (.chain o o' a b c) τ h with
 | ok w h'=>rw [q]at p;exact fun G' H' e hr b eb=>by subst eb;exact p G' H' e hr
 | exc d h'=>rw [q]at p;exact p
 | fail=>rw [q]at p;exact p
end
end L2.MS
namespace L2.MS
open PySem PySem.Spec PyProof.Rows
theorem ja {e:Expr}{es:List Expr}{env:Env}(h:notStar e=true):starEach (e::es) env=(false,eval e env)::starEach es env:=by
 cases e<;>first | rfl | (simp [notStar]at h)
def allPlain (es:List Expr):Prop:= ∀e∈es,notStar e=true
theorem Jf {es:List Expr}{env:Env}{pos:Pos}(h: ∀e∈es,notStar e=true):(backTo pos (starEach es env)).any (·.1)=false:=by
 induction es with
 | nil=>rfl
 | cons e r ih=>
  rw [ja (h e List.mem_cons_self)]
  show(false||(backTo pos (starEach r env)).any (·.1))=false
  rw [ih fun e' he'=>h e' (List.mem_cons_of_mem _ he')]
  rfl
section
variable {Γ:Ge}{F:M.Fx}{X:Cx}{E:XK}{k:Nat}{cf:Cf}{a b c:M.E}{x y z:Expr}{pos:Pos}{es:M.Es}{xs:List Expr}
theorem jU:PA X [] (tDA Γ E (M.evalDs F .nil)):=PA.imp wc fun σ H Q ⟨G,τ,h,s,p⟩=>p G H Ext.refl s.heap [] rfl
theorem XS (hx:notStar x=true) (ha:PE X x (tD Γ E (M.eval F a))) (hr:PA X xs (tDA Γ E (M.evalDs F es))):PA X (x::xs) (tDA Γ E (M.evalDs F (.cons a es))):=by
 refine PA.imp (zb ha hr (ja hx)) fun σ H Q qq=> ?_
 obtain⟨G,τ,h,s,p⟩:=qq
 rw [M.evalDs]at p
 refine Ja s.heap Ext.refl s p fun w1 v1 h1 G1 H1 e1 e1' s1 r1 f1 p1=> ?_
 obtain⟨d,q,p1⟩:=p1.of
 obtain⟨G2,e2,s2,rd,_⟩:=toD e1 s1 s r1 f1 q
 refine Jx s.heap e2 s2 p1 fun ds vs h3 G3 H3 e3 e3' s3 r3 p3=> ?_
 exact p3 G3 H3 e3 s3.heap (v1::vs) ⟨v1,vs,rfl,rd.ext e3' s2.heap,r3⟩
theorem JV:PA X [] (tDW Γ E (M.evalWs F .nil)):=PA.imp wc fun σ H Q ⟨G,τ,h,s,p⟩=>p G H Ext.refl s.heap [] rfl
theorem QO (hx:notStar x=true) (ha:PE X x (tD Γ E (M.eval F a))) (hr:PA X xs (tDW Γ E (M.evalWs F es))):PA X (x::xs) (tDW Γ E (M.evalWs F (.cons a es))):=by
 refine PA.imp (zb ha hr (ja hx)) fun σ H Q qq=> ?_
 obtain⟨G,τ,h,s,p⟩:=qq
 rw [M.evalWs]at p
 refine Ja s.heap Ext.refl s p fun w1 v1 h1 G1 H1 e1 e1' s1 r1 f1 p1=> ?_
 refine zB s.heap e1 s1 p1 fun ds vs h3 G3 H3 e3 e3' s3 r3 p3=> ?_
 exact p3 G3 H3 e3 s3.heap (v1::vs) ⟨v1,vs,rfl,r1.ext e3' s1.heap,r3⟩
theorem zag {n:Nat}(hl:xs.length<=1000) (hlen: ∀τ h ds h',M.evalDs F es τ h= .ok ds h'->ds.length=xs.length) (ha:PA X xs (tDA Γ E (M.evalDs F es))):PE X (.Tuple xs n pos) (tD Γ E (M.eval F (.tup es))):=by
 refine PE.imp (q9 ha) fun σ H Q qq=> ?_
 obtain⟨G,τ,h,s,p⟩:=qq
 rw [M.eval]at p
 cases q:M.evalDs F es τ h with
 | ok ds0 h0=>
  have hz:=hlen _ _ _ _ q
  refine Jx s.heap Ext.refl s (f:=fun ds h=>if ds.length=xs.length then M.okv (.tup ds) h else .fail) (P:=fun w h' G' H'=> ∀v,RelW Γ G' H' w v->FreshW τ σ H w v->Q v H') ?_ fun ds vs h1 G1 H1 e1 e1' s1 r1 p1=> ?_
  ·rw [q]at p ⊢
   show Post Γ E G H (if ds0.length=xs.length then M.okv (.tup ds0) h0 else .fail) _
   rw [if_pos hz]
   exact p
  ·by_cases hd:ds.length=xs.length
   ·rw [if_pos hd]at p1
    have l1:=r1.length
    exact⟨Nat.le_of_lt (Xf (by omega)),fun a' ha'=>PostW.tup (PostW.mk p1 e1 s.heap) s1.heap r1 a' ha'⟩
   ·rw [if_neg hd]at p1;exact p1.elim
 | exc d h0=>rw [q]at p;exact⟨G,τ,h,s,by rw [q];exact p⟩
 | fail=>rw [q]at p;exact p.elim
theorem qaq (hl:xs.length<=1000) (hlen: ∀τ h ds h',M.evalDs F es τ h= .ok ds h'->ds.length=xs.length) (ha:PA X xs (tDA Γ E (M.evalDs F es))):PE X (.List xs pos) (tD Γ E (M.eval F (.lst es))):=by
 refine PE.imp (jaD ha) fun σ H Q qq=> ?_
 obtain⟨G,τ,h,s,p⟩:=qq
 rw [M.eval]at p
 cases q:M.evalDs F es τ h with
 | ok ds0 h0=>
  have hz:=hlen _ _ _ _ q
  refine Jx s.heap Ext.refl s (f:=fun ds h=>if ds.length=xs.length then .ok (.own ds) h else .fail) (P:=fun w h' G' H'=> ∀v,RelW Γ G' H' w v->FreshW τ σ H w v->Q v H') ?_ fun ds vs h1 G1 H1 e1 e1' s1 r1 p1=> ?_
  ·rw [q]at p ⊢
   show Post Γ E G H (if ds0.length=xs.length then .ok (M.W.own ds0) h0 else .fail) _
   rw [if_pos hz]
   exact p
  ·by_cases hd:ds.length=xs.length
   ·rw [if_pos hd]at p1
    have l1:=r1.length
    exact⟨Nat.le_of_lt (Xf (by omega)),fun a' ha'=>PostW.own (PostW.mk p1 e1 s.heap) s1.heap r1 a' ha'⟩
   ·rw [if_neg hd]at p1;exact p1.elim
 | exc d h0=>rw [q]at p;exact⟨G,τ,h,s,by rw [q];exact p⟩
 | fail=>rw [q]at p;exact p.elim
theorem qak {G:Gh}{H:Hp}{w:M.W}{v:V}(r:RelW Γ G H w v):RelW Γ G H w.arg v:=by
 cases w with
 | v d=>exact r
 | own xs=>obtain⟨a,vs,z1,_,z3,z4,z5⟩:=r;exact⟨a,vs,z1,z3,.inl z4,z5⟩
 | bor xs=>exact r
theorem zj {G:Gh}{H:Hp}: ∀ {ws:List M.W}{vs:List V},RelWs Γ G H ws vs->RelWs Γ G H (ws.map M.W.arg) vs
 | [],_,z=>z
 | _::_,_,⟨v,r,z1,z2,z3⟩=>⟨v,r,z1,qak z2,zj z3⟩
theorem xj (ws:List M.W): ∀w∈ws.map M.W.arg,noOwn w=true:=fun w hw=>by
 obtain⟨u,_,rfl⟩:=List.mem_map.mp hw
 cases u<;>rfl
theorem wU (go:Go Γ F X E k cf){f:String}{g:Expr}(hg:gNm cf.sc f g=true) (hf:cf.fns.contains f=true) (hx: ∀e∈x::xs,notStar e=true) (ha:PA X (x::xs) (tDW Γ E (M.evalWs F es))):PE X (.Call g (x::xs) [] pos) (tD Γ E (M.eval F (.call f es))):=by
 obtain⟨p,rfl,h2,h3⟩:=Xa hg
 obtain⟨ps,fa,fd,fok,bd,kp,hm⟩:=(go.fn f hf).imp fun ps h=>h.ex
 refine PE.imp (qac fok go.room (go.gl _ h2) hm kp bd .nil go.pass ha h3 (ja (hx _ List.mem_cons_self)) (Jf fun e he=>hx e (List.mem_cons_of_mem _ he))) fun σ H Q qq=> ?_
 obtain⟨G,τ,h,s,p⟩:=qq
 rw [M.eval]at p
 refine zB s.heap Ext.refl s p fun ws vs h1 G1 H1 e1 e1' s1 r1 p1=> ?_
 rw [List.append_nil]
 exact⟨G1,h1,_,s1.heap,zj r1,xj ws,PostW.mk p1 e1 s.heap⟩
theorem ZQ (go:Go Γ F X E k cf){f:String}{g:Expr}(hg:gNm cf.sc f g=true) (hf:cf.fns.contains f=true):PE X (.Call g [] [] pos) (tD Γ E (M.eval F (.call f .nil))):=by
 obtain⟨p,rfl,h2,h3⟩:=Xa hg
 obtain⟨ps,fa,fd,fok,bd,kp,hm⟩:=(go.fn f hf).imp fun ps h=>h.ex
 refine PE.imp (qW fok go.room (go.gl _ h2) hm kp bd .nil go.pass h3) fun σ H Q qq=> ?_
 obtain⟨G,τ,h,s,p⟩:=qq
 have p:Post Γ E G H (F.call f ([].map M.W.arg) h) _:=p
 exact⟨G,h,_,s.heap,zj (ws:= []) (vs:= []) rfl,xj [],PostW.mk p Ext.refl s.heap⟩
theorem xaz (b:M.Bi) (hb:biOk b=true):bootBuiltins (strS (biS b))=some (biV b):=by
 cases b<;>first | (exact absurd (show false=true from hb) Bool.false_ne_true) | decide +kernel
theorem biIn (b:M.Bi):biS b∈bltN:=by cases b<;>decide
theorem zaI (go:Go Γ F X E k cf){b:M.Bi}{g:Expr}(hb:biOk b=true) (hg:gNm cf.sc (biS b) g=true) (hx: ∀e∈x::xs,notStar e=true) (ha:PA X (x::xs) (tDW Γ E (M.evalWs F es))):PE X (.Call g (x::xs) [] pos) (tD Γ E (M.eval F (.bi b es))):=by
 obtain⟨p,rfl,h2,h3⟩:=Xa hg
 have hm:=go.blt _ (biIn b)
 have hn:=Je (biIn b)
 have bt:=xaz b hb
 have cr:CallR X (biV b) (rBi Γ E b):=xal b hb go.K go.calm
 have key: ∀σ H Q,tD Γ E (M.eval F (.bi b es)) σ H Q->tCB (rBi Γ E b) (tDW Γ E (M.evalWs F es)) σ H Q:=fun σ H Q qq=>by
  obtain⟨G,τ,h,s,p⟩:=qq
  rw [M.eval]at p
  refine zB s.heap Ext.refl s p fun ws vs h1 G1 H1 e1 e1' s1 r1 p1=> ?_
  exact⟨G1,h1,ws,s1.heap,r1,PostW.mk p1 e1 s.heap⟩
 have s1:=ja (env:=X.env) (es:=xs) (hx _ List.mem_cons_self)
 have s2:=Jf (env:=X.env) (pos:=pos) fun e he=>hx e (List.mem_cons_of_mem _ he)
 cases b with
 | len=>exact PE.imp (zc cr (go.gl _ h2) hm bt ha hn h3 s1 s2) key
 | divmod=>exact PE.imp (zc cr (go.gl _ h2) hm bt ha hn h3 s1 s2) key
 | min=>exact PE.imp (zc cr (go.gl _ h2) hm bt ha hn h3 s1 s2) key
 | max=>exact PE.imp (zc cr (go.gl _ h2) hm bt ha hn h3 s1 s2) key
 | int=>exact PE.imp (Jl cr (go.gl _ h2) hm bt ha hn h3 s1 s2) key
 | list=>exact PE.imp (Jl cr (go.gl _ h2) hm bt ha hn h3 s1 s2) key
 | tuple=>exact PE.imp (Jl cr (go.gl _ h2) hm bt ha hn h3 s1 s2) key
 | sum=>exact PE.imp (zc cr (go.gl _ h2) hm bt ha hn h3 s1 s2) key
 | all=>exact PE.imp (zc cr (go.gl _ h2) hm bt ha hn h3 s1 s2) key
 | any=>exact PE.imp (zc cr (go.gl _ h2) hm bt ha hn h3 s1 s2) key
 | sorted=>exact PE.imp (zc cr (go.gl _ h2) hm bt ha hn h3 s1 s2) key
 | str=>cases hb
 | abs=>cases hb
theorem jan (go:Go Γ F X E k cf){t:M.Ty}{g:Expr}(ht:t≠ .non) (hg:gNm cf.sc "isinstance" g=true) (hy:gNm cf.sc (tyS t) y=true) (hx:notStar x=true) (ha:PE X x (tD Γ E (M.eval F a))):PE X (.Call g [x,y] [] pos) (tD Γ E (M.eval F (.isT a t))):=by
 obtain⟨p,rfl,h2,h3⟩:=Xa hg
 obtain⟨q,rfl,h4,h5⟩:=Xa hy
 have inT:tyS t∈bltN:=by cases t<;>first | exact absurd rfl ht | decide
 have bt:bootBuiltins (strS (tyS t))=some (.type (tyS t)):=by cases t<;>first | exact absurd rfl ht | decide +kernel
 have bi:bootBuiltins (strS "isinstance")=some (.builtin "isinstance"):=boot_isinstance
 have inI: "isinstance" ∈bltN:=by decide
 have hty:PE X (.Name (strS (tyS t)) q) (tC (.ty (tyS t))):=QI (go.gl _ h4) (go.blt _ inT) bt rfl (Je inT) h5
 refine PE.imp (zc (q0 go.K) (go.gl _ h2) (go.blt _ inI) bi (zb ha (zb hty wc) (ja hx)) (Je inI) h3 (ja hx) rfl) fun σ H Q qq=> ?_
 obtain⟨G,τ,h,s,p⟩:=qq
 rw [M.eval]at p
 refine Ja s.heap Ext.refl s p fun w1 v1 h1 G1 H1 e1 e1' s1 r1 f1 p1=> ?_
 obtain⟨c,q',p1⟩:=p1.of
 exact⟨G1,h1,w1,v1,t,c,rfl,ht,s1.heap,r1,q',Post.val p1 e1 s1.heap (v:= .bl c) rfl trivial⟩
theorem WP (go:Go Γ F X E k cf): ∀ {ts:List String}{zs:List Expr},chkCls cf ts zs=true->PA X zs (fun _ H Q=>Q (ts.map fun t=> .ref (Γ.ca t)) H)/\(∀ t∈ts,t∈Γ.own)/\ts.length=zs.length
 | [],[],_=>⟨wc,fun _ h=>absurd h (by simp),rfl⟩
 | [],_::_,h=>by simp [chkCls]at h
 | _::_,[],h=>by simp [chkCls]at h
 | t::ts,z::zs,h=>by
  unfold chkCls at h
  rw [Bool.and_eq_true,Bool.and_eq_true]at h
  obtain⟨⟨h1,h2⟩,h3⟩:=h
  obtain⟨p,rfl,h4,h5⟩:=Xa h1
  obtain⟨i1,i2,i3⟩:=WP go h3
  refine⟨?_,fun u hu=> ?_,congrArg (· +1) i3⟩
  ·exact zb (Xx (v:= .ref (Γ.ca t)) (go.gl _ h4) (go.cls t h2) rfl h5) i1
  ·rcases List.mem_cons.mp hu with rfl | hu
   ·rw [← go.ow];exact List.contains_iff_mem.mp h2
   ·exact i2 u hu
theorem Jv {c:String}(xo:XOk Γ c): ∀ {ts:List String},(∀ t∈ts,t∈Γ.own)->PySem.W.kitAny Γ.K (.ref (Γ.ca c)) ((ts.map Γ.ca).map Value.ref)=some (ts.any (M.ancs Γ.cl 8 c).contains)
 | [],_=>rfl
 | t::ts,h=>by
  rw [List.map_cons,List.map_cons,PySem.W.kitAny,xo.own t (h t List.mem_cons_self),List.any_cons]
  cases e:(M.ancs Γ.cl 8 c).contains t with
  | true=>rfl
  | false=>
   rw [Bool.false_or]
   exact Jv xo fun u hu=>h u (List.mem_cons_of_mem _ hu)
theorem WL {G:Gh}{H:Hp}{w:M.W}{v:V}{ts:List String}{cl:M.Cls}{b:Bool}(r:RelW Γ G H w v) (e:M.isX cl w ts=some b): ∃c x,v= .ref x/\H x=some (excO x (Γ.ca c))/\XOk Γ c/\b=ts.any (M.ancs cl 8 c).contains:=by
 unfold M.isX at e
 split at e
 ·rename_i c fs
  obtain⟨_,x,z1,_,z3,z4⟩:=r
  exact⟨c,x,z1,z3,z4,(Option.some.inj e).symm⟩
 ·cases e
theorem zU (go:Go Γ F X E k cf){t:String}{g:Expr}(ht:t= "ValueError" \/cf.own.contains t=true) (hg:gNm cf.sc "isinstance" g=true) (hy:gNm cf.sc t y=true) (hx:notStar x=true) (ha:PE X x (tD Γ E (M.eval F a))):
 PE X (.Call g [x,y] [] pos) (tD Γ E (M.eval F (.isX a true [t]))):=by
 obtain⟨p,rfl,h2,h3⟩:=Xa hg
 obtain⟨q,rfl,h4,h5⟩:=Xa hy
 have bi:bootBuiltins (strS "isinstance")=some (.builtin "isinstance"):=boot_isinstance
 have inI: "isinstance" ∈bltN:=by decide
 have fin: ∀(v:V),PE X (.Name (strS t) q) (tC v)->(∀ c,XOk Γ c-> ∀x b,b= [t].any (M.ancs Γ.cl 8 c).contains-> ∀(H:Hp) (Q:VK),H x=some (excO x (Γ.ca c))->Q (.bl b) H->rIsX X.K [.ref x,v] H Q) →
  PE X (.Call (.Name (strS "isinstance") p) [x,.Name (strS t) q] [] pos) (tD Γ E (M.eval F (.isX a true [t]))):=fun v hv hk=>by
  refine PE.imp (zc zE (go.gl _ h2) (go.blt _ inI) bi (zb ha (zb hv wc) (ja hx)) (Je inI) h3 (ja hx) rfl) fun σ H Q qq=> ?_
  obtain⟨G,τ,h,s,p⟩:=qq
  rw [M.eval]at p
  refine Ja s.heap Ext.refl s p fun w1 v1 h1 G1 H1 e1 e1' s1 r1 f1 p1=> ?_
  obtain⟨b,q',p1⟩:=p1.of
  obtain⟨c,x',rfl,z3,z4,z5⟩:=WL r1 q'
  rw [go.cl]at z5
  exact hk c z4 x' b z5 H1 Q z3 (Post.val p1 e1 s1.heap (v:= .bl b) rfl trivial)
 by_cases ho:cf.own.contains t=true
 ·refine fin (.ref (Γ.ca t)) (Xx (go.gl _ h4) (go.cls t ho) rfl h5) fun c xo x b eb H Q hx q=> ?_
  have hk:=xo.own t (by rw [← go.ow];exact List.contains_iff_mem.mp ho)
  refine⟨x,Γ.ca c,b,go.K▸xo.k,hx,.inl ⟨Γ.ca t,rfl,?_⟩,q⟩
  rw [go.K,hk,eb]
  simp
 ·have ht:t= "ValueError" :=ht.elim id fun z=>absurd z ho
  subst ht
  have inV: "ValueError" ∈bltN:=by decide
  refine fin (.ty "ValueError") (QI (go.gl _ h4) (go.blt _ inV) jac rfl (Je inV) h5) fun c xo x b eb H Q hx q=> ?_
  refine⟨x,Γ.ca c,b,go.K▸xo.k,hx,.inr (.inl ⟨"ValueError",rfl,?_⟩),q⟩
  rw [go.K,xo.ve,eb]
  simp
theorem Q3 (go:Go Γ F X E k cf){ts:List String}{g:Expr}{zs:List Expr}{n:Nat}{p2:Pos}(hl:zs.length<=1000) (hg:gNm cf.sc "isinstance" g=true) (hy:chkCls cf ts zs=true) (hx:notStar x=true) (ha:PE X x (tD Γ E (M.eval F a))):
 PE X (.Call g [x,.Tuple zs n p2] [] pos) (tD Γ E (M.eval F (.isX a false ts))):=by
 obtain⟨p,rfl,h2,h3⟩:=Xa hg
 have bi:bootBuiltins (strS "isinstance")=some (.builtin "isinstance"):=boot_isinstance
 have inI: "isinstance" ∈bltN:=by decide
 obtain⟨i1,i2,i3⟩:=WP go hy
 refine PE.imp (zc zE (go.gl _ h2) (go.blt _ inI) bi (zb ha (zb (q9 i1) wc) (ja hx)) (Je inI) h3 (ja hx) rfl) fun σ H Q qq=> ?_
 obtain⟨G,τ,h,s,p⟩:=qq
 rw [M.eval]at p
 refine Ja s.heap Ext.refl s p fun w1 v1 h1 G1 H1 e1 e1' s1 r1 f1 p1=> ?_
 obtain⟨b,q',p1⟩:=p1.of
 obtain⟨c,x',rfl,z3,z4,z5⟩:=WL r1 q'
 rw [go.cl]at z5
 refine⟨?_,fun t ht=> ?_⟩
 ·rw [List.length_map,i3];exact Nat.le_of_lt (Xf hl)
 have hr:=s1.heap.newF (.tup (ts.map fun t=> .ref (Γ.ca t))) ht
 have e2:=e1.trans s.heap (Jd (.tup (ts.map fun t=> .ref (Γ.ca t))) ht)
 refine⟨x',Γ.ca c,b,go.K▸z4.k,?_,.inr (.inr ⟨t,ts.map Γ.ca,rfl,?_,?_⟩),Post.val p1 e2 hr (v:= .bl b) rfl trivial⟩
 ·rw [qa (xa z3 ht)];exact z3
 ·rw [xb,List.map_map];rfl
 ·rw [go.K,Jv z4 i2,z5]
theorem zaG {α:Type}(xs:List α) (i:Int):M.atI xs i=L2.atI xs i:=rfl
theorem RelDs.atI {G:Gh}{H:Hp}{ds:List M.D}{vs:List V}{i:Int}{d:M.D}(z:RelDs Γ G H ds vs) (e:M.atI ds i=some d): ∃v,L2.atI vs i=some v/\RelD Γ G H d v:=by
 unfold M.atI at e
 unfold L2.atI
 rw [z.length]at e
 cases q:M.ixN vs.length i with
 | none=>rw [q]at e;cases e
 | some j=>
  rw [q]at e
  obtain⟨v,h1,h2⟩:=z.get (show ds[j]? =some d from e)
  refine⟨v,?_,h2⟩
  have q':L2.ixN vs.length i=some j:=q
  rw [q']
  exact h1
theorem QZ (hy:notSlice y=true):PlainIx y:=by
 intro o i
 cases y<;>first | rfl | (simp [notSlice]at hy)
theorem qaG (go:Go Γ F X E k cf) (hy:notSlice y=true) (ha:PE X x (tD Γ E (M.eval F a))) (hb:PE X y (tD Γ E (M.eval F b))):PE X (.Subscript x y pos) (tD Γ E (M.eval F (.ix a b))):=by
 refine PE.imp (jaM zat ha hb (QZ hy)) fun σ H Q qq=> ?_
 obtain⟨G,τ,h,s,p⟩:=qq
 rw [M.eval]at p
 refine Ja s.heap Ext.refl s p fun w1 v1 h1 G1 H1 e1 e1' s1 r1 f1 p1=> ?_
 refine Ja s.heap e1 s1 p1 fun w2 v2 h2 G2 H2 e2 e2' s2 r2 f2 p2=> ?_
 obtain⟨d,q,p2⟩:=p2.of
 have r1:=r1.ext e2' s1.heap
 unfold M.ixD at q
 split at q
 ·rename_i i ei
  cases r2.int ei
  split at q
  ·rename_i st es
   cases r1.str es
   split at q
   ·rename_i hl
    cases q2:M.atI st i with
    | none=>rw [q2]at q;cases q
    | some ch=>
     rw [q2]at q
     cases q
     refine .inr (.inr ⟨txS st,i,ch,rfl,rfl,by rw [Zb];have:=Jc;omega,?_,Post.val p2 e2 s2.heap (v:= .str (txS [ch])) rfl trivial⟩)
     have:(txS st).cps.toList=st:=by simp [txS]
     rw [this,←zaG]
     exact q2
   ·cases q
  ·cases q2:w1.seq? h2 with
   | none=>rw [q2]at q;cases q
   | some ds=>
    rw [q2]at q
    obtain⟨l,vs,rfl,z2,z3⟩:=r1.seq s2.heap q2
    obtain⟨v,e,rd⟩:=z3.atI (show M.atI ds i=some d from q)
    have q3:=Post.val p2 e2 s2.heap rd trivial
    rcases z2 with z2 | z2
    ·exact .inl ⟨l,vs,i,v,rfl,rfl,go.K▸z2,e,q3⟩
    ·exact .inr (.inl ⟨l,vs,i,v,rfl,rfl,go.K▸z2,e,q3⟩)
 ·cases q
end
end L2.MS
namespace L2.MS
open PySem PySem.Spec PyProof.Rows
section
variable {Γ:Ge}{F:M.Fx}{X:Cx}{E:XK}{k:Nat}{cf:Cf}{a b c:M.E}{x y z:Expr}{pos p2:Pos}
theorem ZI {α:Type}(xs:List α) (lo hi:Option Int):M.cut xs lo hi=(xs.drop (HT.sIx xs.length 0 lo)).take (HT.sIx xs.length xs.length hi-HT.sIx xs.length 0 lo):=by
 unfold M.cut
 have e: ∀d o,M.sIx xs.length d o=HT.sIx xs.length d o:=fun d o=>by cases o<;>rfl
 rw [e,e]
theorem RelDs.cut {G:Gh}{H:Hp}{ds:List M.D}{vs:List V}(z:RelDs Γ G H ds vs) (lo hi:Option Int):RelDs Γ G H (M.cut ds lo hi) (cutV vs lo hi):=by
 rw [ZI]
 unfold cutV
 rw [z.length]
 exact(z.drop _).take _
theorem xaM {G0 G:Gh}{H0 H:Hp}{h0 h:M.AH}{τ:M.Sl}{σ:St}{Q:VK}{w:M.W}{v:V}{lo hi:Option Int}(s0:HRel Γ G0 h0 H0) (e:Ext G0 H0 G H) (hr:HRel Γ G h H) (r:RelW Γ G H w v)
 (p:Post Γ E G0 H0 (M.slD w lo hi h) fun w _ G' H'=> ∀v,RelW Γ G' H' w v->FreshW τ σ H0 w v->Q v H'):((rSlL Γ.K v lo hi H Q\/rSlT Γ.K v lo hi H Q)\/rSlW Γ.K v lo hi H Q)\/rSlS v lo hi H Q:=by
 unfold M.slD at p
 split at p
 ·rename_i z q
  cases r.str q
  split at p
  ·rename_i c
   have hL:=Jc
   refine .inr ⟨_,rfl,by rw [Zb];omega,?_⟩
   have e1:cutS (txS z) lo hi=txS (M.cut z lo hi):=by
    unfold cutS
    rw [Zb,ZI]
    simp [txS]
   rw [e1]
   exact PostW.v (PostW.mk p e s0) hr rfl
  ·exact p.elim
 ·split at p
  ·rename_i ds q
   obtain⟨l,vs,rfl,z2,z3⟩:=r.tup q
   by_cases c:HT.sIx vs.length 0 lo=0/\HT.sIx vs.length vs.length hi=vs.length
   ·have e2:M.cut ds lo hi=ds:=by
     rw [ZI,z3.length,c.1,c.2,List.drop_zero,Nat.sub_zero,←z3.length,List.take_length]
    rw [e2]at p
    exact .inl (.inr ⟨l,vs,rfl,z2.sq,c.1,c.2,p G H e hr _ ⟨l,vs,rfl,z2,z3⟩ trivial⟩)
   ·exact .inl (.inl (.inr ⟨l,vs,rfl,z2.sq,c,fun a ha=>PostW.tup (PostW.mk p e s0) hr (z3.cut lo hi) a ha⟩))
  ·split at p
   ·rename_i ds q
    obtain⟨l,vs,rfl,z2,z3⟩:=r.lst hr q
    exact .inl <| .inl <| .inl ⟨l,vs,rfl,z2,fun a ha=>PostW.own (PostW.mk p e s0) hr (z3.cut lo hi) a ha⟩
   ·exact p.elim
def rSl (K:PySem.W.Frag):V->Option Int->Option Int->Hp->VK->Prop:=fun x lo hi H Q=>((rSlL K x lo hi H Q\/rSlT K x lo hi H Q)\/rSlW K x lo hi H Q)\/rSlS x lo hi H Q
theorem jaH:SlR X (rSl X.K):=((sl_list.or qaC).or zau).or xaG
theorem J9 (go:Go Γ F X E k cf){hi:M.E}{u:Expr}(ha:PE X x (tD Γ E (M.eval F a))) (hu:PE X u (tD Γ E (M.eval F hi))):PE X (.Subscript x (.Slice none (some u) none p2) pos) (tD Γ E (M.eval F (.slH a hi))):=by
 refine PE.imp (W2 jaH ha jab (xae hu)) fun σ H Q qq=> ?_
 obtain⟨G,τ,h,s,p⟩:=qq
 rw [M.eval]at p
 refine Ja s.heap Ext.refl s p fun w1 v1 h1 G1 H1 e1 e1' s1 r1 f1 p1=> ?_
 refine Ja s.heap e1 s1 p1 fun w2 v2 h2 G2 H2 e2 e2' s2 r2 f2 p2=> ?_
 obtain⟨i,qi,p2⟩:=p2.of
 exact⟨i,r2.int qi,go.K▸xaM s.heap e2 s2.heap (r1.ext e2' s1.heap) p2⟩
def Gh.cell (G:Gh) (a:Addr):Gh:= { G with rho:=fun r=>if r=G.n then a else G.rho r,n:=G.n+1 }
theorem jg {G:Gh}{H:Hp}(a:Addr):Mon G H (G.cell a) H:=⟨fun _ _ _ z=>z,Nat.le_succ _,fun r hr=>by show(if r=G.n then a else G.rho r)=_;rw [if_neg (by omega)],fun _ z=>z⟩
theorem qx {G:Gh}{H:Hp}{h:M.AH}{a:Addr}{xs:List M.D}{vs:List V}(hr:HRel Γ G h H) (n1: ¬G.fz a) (n2:Off G a) (e:H a=some (.lst vs)) (z:RelDs Γ G H xs vs) (hp:M.noRefs xs=true):HRel Γ (G.cell a) (h++ [.lst xs]) H where
 len:=by rw [List.length_append,hr.len];rfl
 cell:=fun r ys q=>by
  show ¬G.fz (if r=G.n then a else G.rho r)/\ ∃vs,H (if r=G.n then a else G.rho r)=some (.lst vs)/\RelDs Γ (G.cell a) H ys vs
  by_cases hn:r=G.n
  ·rw [if_pos hn]
   rw [hn,←hr.len,List.getElem?_append_right (Nat.le_refl _),Nat.sub_self]at q
   cases q
   exact⟨n1,vs,e,z.mon (jg a)⟩
  ·rw [if_neg hn]
   have hlt:r<G.n:=by
    have:=(List.getElem?_eq_some_iff.mp q).1
    rw [List.length_append,hr.len]at this
    simp at this
    omega
   rw [List.getElem?_append_left (by rw [hr.len];exact hlt)]at q
   obtain⟨z1,vs',z2,z3⟩:=hr.cell r ys q
   exact⟨z1,vs',z2,z3.mon (jg a)⟩
 pure:=fun r ys q=>by
  by_cases hlt:r<h.length
  ·rw [List.getElem?_append_left hlt]at q;exact hr.pure r ys q
  ·rw [List.getElem?_append_right (Nat.not_lt.mp hlt)]at q
   cases hn:r-h.length with
   | zero=>rw [hn]at q;cases q;exact hp
   | succ m=>rw [hn]at q;simp at q
 inj:=fun r s h1 h2 e=>by
  have h1:r<G.n+1:=h1
  have h2:s<G.n+1:=h2
  have e:(if r=G.n then a else G.rho r)=(if s=G.n then a else G.rho s):=e
  by_cases hr1:r=G.n
  ·by_cases hs1:s=G.n
   ·omega
   ·rw [if_pos hr1,if_neg hs1]at e
    exact absurd e.symm (n2 s (by omega))
  ·by_cases hs1:s=G.n
   ·rw [if_neg hr1,if_pos hs1]at e
    exact absurd e (n2 r (by omega))
   ·rw [if_neg hr1,if_neg hs1]at e
    exact hr.inj r s (by omega) (by omega) e
 live:=hr.live
 dic:=fun r ks q=>by
  show ¬G.fz (if r=G.n then a else G.rho r)/\ ∃xs,H (if r=G.n then a else G.rho r)=some (DW (if r=G.n then a else G.rho r) xs)/\xs.map (·.1)=ks/\ ∀x∈xs,RelD Γ (G.cell a) H (wkT x.1) (.ref x.2.1)
  by_cases hn:r=G.n
  ·rw [hn,←hr.len,List.getElem?_append_right (Nat.le_refl _),Nat.sub_self]at q
   cases q
  ·rw [if_neg hn]
   have hlt:r<G.n:=by
    have:=(List.getElem?_eq_some_iff.mp q).1
    rw [List.length_append,hr.len]at this
    simp at this
    omega
   rw [List.getElem?_append_left (by rw [hr.len];exact hlt)]at q
   obtain⟨z1,xs',z2,z3,z4⟩:=hr.dic r ks q
   exact⟨z1,xs',z2,z3,fun x hx=>(z4 x hx).mon (jg a)⟩
theorem zZ {G:Gh}{H:Hp}{h:M.AH}{a:Addr}(hr:HRel Γ G h H) (n1: ¬G.fz a) (n2:Off G a) (e:H a=some (DW a [])):HRel Γ (G.cell a) (h++ [.dic []]) H where
 len:=by rw [List.length_append,hr.len];rfl
 cell:=fun r ys q=>by
  show ¬G.fz (if r=G.n then a else G.rho r)/\ ∃vs,H (if r=G.n then a else G.rho r)=some (.lst vs)/\RelDs Γ (G.cell a) H ys vs
  by_cases hn:r=G.n
  ·rw [hn,←hr.len,List.getElem?_append_right (Nat.le_refl _),Nat.sub_self]at q
   cases q
  ·rw [if_neg hn]
   have hlt:r<G.n:=by
    have:=(List.getElem?_eq_some_iff.mp q).1
    rw [List.length_append,hr.len]at this
    simp at this
    omega
   rw [List.getElem?_append_left (by rw [hr.len];exact hlt)]at q
   obtain⟨z1,vs',z2,z3⟩:=hr.cell r ys q
   exact⟨z1,vs',z2,z3.mon (jg a)⟩
 pure:=fun r ys q=>by
  by_cases hlt:r<h.length
  ·rw [List.getElem?_append_left hlt]at q;exact hr.pure r ys q
  ·rw [List.getElem?_append_right (Nat.not_lt.mp hlt)]at q
   cases hn:r-h.length with
   | zero=>rw [hn]at q;cases q
   | succ m=>rw [hn]at q;simp at q
 inj:=fun r s h1 h2 e=>by
  have h1:r<G.n+1:=h1
  have h2:s<G.n+1:=h2
  have e:(if r=G.n then a else G.rho r)=(if s=G.n then a else G.rho s):=e
  by_cases hr1:r=G.n
  ·by_cases hs1:s=G.n
   ·omega
   ·rw [if_pos hr1,if_neg hs1]at e
    exact absurd e.symm (n2 s (by omega))
  ·by_cases hs1:s=G.n
   ·rw [if_neg hr1,if_pos hs1]at e
    exact absurd e (n2 r (by omega))
   ·rw [if_neg hr1,if_neg hs1]at e
    exact hr.inj r s (by omega) (by omega) e
 live:=hr.live
 dic:=fun r ks q=>by
  show ¬G.fz (if r=G.n then a else G.rho r)/\ ∃xs,H (if r=G.n then a else G.rho r)=some (DW (if r=G.n then a else G.rho r) xs)/\xs.map (·.1)=ks/\ ∀x∈xs,RelD Γ (G.cell a) H (wkT x.1) (.ref x.2.1)
  by_cases hn:r=G.n
  ·rw [if_pos hn]
   rw [hn,←hr.len,List.getElem?_append_right (Nat.le_refl _),Nat.sub_self]at q
   cases q
   exact⟨n1,[],e,rfl,fun x hx=>absurd hx List.not_mem_nil⟩
  ·rw [if_neg hn]
   have hlt:r<G.n:=by
    have:=(List.getElem?_eq_some_iff.mp q).1
    rw [List.length_append,hr.len]at this
    simp at this
    omega
   rw [List.getElem?_append_left (by rw [hr.len];exact hlt)]at q
   obtain⟨z1,xs',z2,z3,z4⟩:=hr.dic r ks q
   exact⟨z1,xs',z2,z3,fun x hx=>(z4 x hx).mon (jg a)⟩
theorem xr {G0 G:Gh}{H0 H:Hp}{a:Addr}(e:Ext G0 H0 G H) (ha:H0 a=none):Ext G0 H0 (G.cell a) H where
 keep:=e.keep
 le:=Nat.le_trans e.le (Nat.le_succ _)
 rho:=fun r hr=>by show(if r=G.n then a else G.rho r)=_;rw [if_neg (by have:=e.le;omega)];exact e.rho r hr
 new:=fun r h1 h2=>by
  have h2:r<G.n+1:=h2
  show H0 (if r=G.n then a else G.rho r)=none
  by_cases hn:r=G.n
  ·rw [if_pos hn];exact ha
  ·rw [if_neg hn];exact e.new r h1 (by omega)
 fz:=e.fz
 old:=e.old
 cells:=e.cells
theorem WW:PE X (.Dict [] [] pos) (tD Γ E (M.eval F .dnew)):=by
 refine PE.imp QX fun σ H Q qq=> ?_
 obtain⟨G,τ,h,s,p⟩:=qq
 intro a ha
 have p:Post Γ E G H (M.okv (.ref h.length) (h++ [.dic []])) fun w h' G' H'=> ∀v,RelW Γ G' H' w v->FreshW τ σ H w v->Q v H':=p
 have e1:Ext G H G (upd H a (DW a [])):=xl _ ha
 have hr1:=s.heap.new (DW a []) ha
 refine Post.val p (xr e1 ha) (zZ hr1 (fun z=>by obtain⟨o,q⟩:=s.heap.live a z;rw [ha]at q;cases q) (s.heap.offN ha) xb) (v:= .ref a) ?_ trivial
 show h.length<G.n+1/\V.ref a= .ref (if h.length=G.n then a else G.rho h.length)
 rw [s.heap.len,if_pos rfl]
 exact⟨Nat.lt_succ_self _,rfl⟩
theorem Ql: ∀ {ds:List M.D}{is:List Int},M.intsD ds=some is->ds=is.map .int
 | [],_,rfl=>rfl
 | .int i::r,is,e=>by
  rw [M.intsD]at e
  cases q:M.intsD r with
  | none=>rw [q]at e;cases e
  | some js=>rw [q]at e;cases e;rw [Ql q];rfl
 | .non::_,_,e=>by cases e
 | .bl _::_,_,e=>by cases e
 | .str _::_,_,e=>by cases e
 | .tup _::_,_,e=>by cases e
 | .lst _::_,_,e=>by cases e
 | .ref _::_,_,e=>by cases e
 | .exc _ _::_,_,e=>by cases e
theorem qy {d:M.D}{k:M.WK}(e:M.wkD d=some k):d=wkT k:=by
 unfold M.wkD at e
 split at e
 ·split at e
  ·rename_i a b q1 q2
   cases e
   rw [Ql q1,Ql q2];rfl
  ·cases e
 ·cases e
theorem Xg {P:Program}{w:World}{hp:Heap}: ∀ {is:List Int}{us:List Value},RVs hp (is.map .int) us->ItemsAre (intKind P w) is us
 | [],_,rfl=> .nil
 | i::is,_,⟨u,r,rfl,⟨t,e⟩,z⟩=>by subst e;exact .cons (by simp [intKind,Value.isInt]) (Xg z)
theorem wQ {P:Program}{w:World}{hp:Heap}{k:M.WK}{u:Value}(z:RV hp (wkT k) u): ∃b,u= .ref b/\IsKey2 P w hp (to2 k) b:=by
 obtain⟨a,its,rfl,⟨o,h1,h2,n,h3⟩,u0,r0,rfl,⟨t,rfl⟩,u1,r1,rfl,z1,u2,r2,rfl,z2,rfl⟩:=z
 obtain⟨a1,its1,rfl,⟨o1,g1,g2,n1,g3⟩,y1⟩:=z1
 obtain⟨a2,its2,rfl,⟨o2,f1,f2,n2,f3⟩,y2⟩:=z2
 exact⟨a,rfl,o,_,n,h1,h2,h3,.int (.tup ⟨o1,_,n1,g1,g2,g3,by simpa using Xg y1⟩ (.tup ⟨o2,_,n2,f1,f2,f3,by simpa using Xg y2⟩ .nil))⟩
theorem ZA: ∀l:List Int,M.noRefs (l.map M.D.int)=true
 | []=>rfl
 | _::l=>ZA l
theorem xL (k:M.WK):M.noRef (wkT k)=true:=by
 show(true&&(M.noRefs (k.2.1.map M.D.int)&&(M.noRefs (k.2.2.map M.D.int)&&true)))=true
 rw [ZA,ZA];rfl
theorem Zw {xs:List (M.WK×Addr×Value)}{k:M.WK}:(atKey xs k).isSome=(xs.map (·.1)).contains k:=by
 unfold atKey
 rw [Option.isSome_map,List.isSome_find?,Bool.eq_iff_iff,List.any_eq_true,List.contains_iff_mem,List.mem_map]
 exact⟨fun ⟨x,h1,h2⟩=>⟨x,h1,of_decide_eq_true h2⟩,fun⟨x,h1,h2⟩=>⟨x,h1,decide_eq_true h2⟩⟩
theorem Qf {h:M.AH}{o:Option M.W}{r:Nat}{ks:List M.WK}(e:M.dicD h o=some (r,ks)):o=some (.v (.ref r))/\h[r]? =some (.dic ks):=by
 unfold M.dicD at e
 split at e
 ·split at e
  ·rename_i q
   cases e
   exact⟨rfl,q⟩
  ·cases e
 ·cases e
theorem qj {G:Gh}{τ:M.Sl}{h:M.AH}{σ:St}{H:Hp}(s:StRel Γ G τ h σ H){i r:Nat}{ks:List M.WK}(e:M.dicD h (M.getS τ i)=some (r,ks)):σ[i]? =some (some (.ref (G.rho r))):=by
 obtain⟨e1,e2⟩:=Qf e
 obtain⟨v,z1,z2⟩:=s.slot i _ e1
 obtain⟨z3,z4⟩:=(show RelD Γ G H (.ref r) v from z2)
 subst z4
 exact z1
theorem ZT {pins:List (Addr×Obj)}{σ:St}{H:Hp}{st:Shared}{G:Gh}{xs:List (M.WK×Addr×Value)}(I:Inv X pins σ H st) (hK:X.K=Γ.K) (hk: ∀x∈xs,RelD Γ G H (wkT x.1) (.ref x.2.1)): ∀x∈xs,IsKey2 X.prog X.w st.heap (to2 x.1) x.2.1:=fun x hx=>by
 obtain⟨b,e,z⟩:=wQ (P:=X.prog) (w:=X.w) (RelD.rv0 I hK (hk x hx) (show RelV (.ref x.2.1) (.ref x.2.1)from rfl) (xL x.1))
 cases e
 exact z
def rInW (Γ:Ge) (neg:Bool):R2:=fun x y H Q=> ∃G h k r ks,HRel Γ G h H/\RelD Γ G H (wkT k) x/\y= .ref (G.rho r)/\h[r]? =some (.dic ks)/\Q (.bl (if neg then !ks.contains k else ks.contains k)) H
theorem Q6 (hK:X.K=Γ.K) (hu:X.A.units+2<cLine) (neg:Bool):OpR X (compareOp (inM neg)) (rInW Γ neg):=by
 intro pins st σ H x y v u Q I rx ry ⟨G,h,k,r,ks,hr,rd,ey,er,q⟩
 subst ey
 cases ry
 obtain⟨b,rfl,kb⟩:=wQ (P:=X.prog) (w:=X.w) (RelD.rv0 I hK rd rx (xL k))
 obtain⟨_,xs,hx,ek,hz⟩:=hr.dic r ks er
 have kk:=ZT I hK hz
 have ec:(atKey xs k).isSome=ks.contains k:=by rw [Zw,ek]
 cases neg with
 | false=>exact qaL hu I hx kk kb fun s' I'=>⟨.bl _,H,I',rfl,by rw [ec];exact q⟩
 | true=>exact JW hu I hx kk kb fun s' I'=>⟨.bl _,H,I',rfl,by rw [ec];exact q⟩
def rLenW (Γ:Ge):List V->Hp->VK->Prop:=fun vs H Q=> ∃G h r ks,HRel Γ G h H/\vs= [.ref (G.rho r)]/\h[r]? =some (.dic ks)/\Q (.int (ks.length:Int)) H
def rSetW (Γ:Ge):V->V->V->Hp->(Hp->Prop)->Prop:=fun o i v H Q=> ∃G h k r ks,HRel Γ G h H/\RelD Γ G H (wkT k) i/\o= .ref (G.rho r)/\h[r]? =some (.dic ks)/\ks.length<sizeLine ∧
 ∀xs:List (M.WK×Addr×Value),xs.map (·.1)=M.putW ks k->(∀ x∈xs,RelD Γ G H (wkT x.1) (.ref x.2.1))->Q (upd H (G.rho r) (DW (G.rho r) xs))
theorem qZ (hK:X.K=Γ.K) (hu:X.A.units+2<cLine):PSet X (rSetW Γ):=by
 intro pins st σ H o i v ov iv u Q I ro ri rv ⟨G,h,k,r,ks,hr,rd,eo,er,hl,q⟩
 subst eo
 cases ro
 obtain⟨b,rfl,kb⟩:=wQ (P:=X.prog) (w:=X.w) (RelD.rv0 I hK rd ri (xL k))
 obtain⟨_,xs,hx,ek,hz⟩:=hr.dic r ks er
 have ib:i= .ref b:=by
  obtain⟨a,vs,rfl,_,_⟩:=rd
  cases ri
  rfl
 subst ib
 refine qaI hu I hx (ZT I hK hz) kb (by have:xs.length=ks.length:=(by rw [← ek,List.length_map]);omega) fun s' I'=>⟨_,I',q _ ?_ ?_⟩
 ·unfold storedH M.putW
  rw [Zw,ek]
  by_cases c:ks.contains k=true
  ·rw [if_pos c,if_pos c,keys_map_putAt,ek]
  ·rw [if_neg c,if_neg c,List.map_append,ek];rfl
 ·intro x hx'
  unfold storedH at hx'
  split at hx'
  ·obtain⟨y,hy,rfl⟩:=List.mem_map.mp hx'
   unfold putAt
   split
   ·exact hz y hy
   ·exact hz y hy
  ·rcases List.mem_append.mp hx' with hx' | hx'
   ·exact hz x hx'
   ·rw [List.mem_singleton.mp hx'];exact rd
theorem XO (ha:PE X x (tD Γ E (M.eval F a))):PE X x (tD Γ E (M.eval F (.share a))):=by
 refine PE.imp ha fun σ H Q qq=> ?_
 obtain⟨G,τ,h,s,p⟩:=qq
 rw [M.eval]at p
 refine Ja s.heap Ext.refl s p fun w1 v1 h1 G1 H1 e1 e1' s1 r1 f1 p1=> ?_
 cases w1 with
 | own xs=>
  obtain⟨l,vs,rfl,z2,z3,z4,z5⟩:=r1
  obtain⟨l',el,hl⟩:=f1
  cases el
  have p1:Post Γ E G H (if M.noRefs xs=true then M.okv (.ref h1.length) (h1++ [.lst xs])else .fail) _:=p1
  by_cases hp:M.noRefs xs=true
  rotate_left
  ·rw [if_neg hp]at p1;exact p1.elim
  rw [if_pos hp]at p1
  refine Post.val p1 (xr e1 hl) (qx s1.heap z2 z3 z4 z5 hp) (v:= .ref l) ?_ trivial
  show h1.length<G1.n+1/\V.ref l= .ref (if h1.length=G1.n then l else G1.rho h1.length)
  rw [s1.heap.len,if_pos rfl]
  exact⟨Nat.lt_succ_self _,rfl⟩
 | v d=>exact p1.elim
 | bor xs=>exact p1.elim
end
structure WalkJ (Γ:Ge) (J:It) (ds:List M.D) (C:Gh->Hp->Prop):Prop where
 go: ∀i G H,C G H->i<ds.length->J.go i H
 yld: ∀i G H x H',C G H->i<ds.length->J.yld i H x H'-> ∃G',Ext G H G' H'/\(∀ h,HRel Γ G h H->HRel Γ G' h H')/\ ∃d,ds[i]? =some d/\RelD Γ G' H' d x
 stop: ∀i G H,C G H->ds.length<=i->i<=ds.length->J.stop i H
 keep: ∀G H G' H' h,C G H->Ext G H G' H'->HRel Γ G h H->C G' H'
noncomputable def hideO (τ:M.Sl) (σ:St) (H:Hp):Hp:=fun a=>open Classical in if ∃(i:Nat) (xs:List M.D),M.getS τ i=some (.own xs)/\σ[i]? =some (some (.ref a))then none else H a
def tDI (Γ:Ge) (E:XK) (lp:Bool) (m:M.Sl->M.AH->M.R (List M.D)):TI:=fun σ H R=> ∃G τ h,StRel Γ G τ h σ H/\Post Γ E G H (m τ h) fun ds _ G' H'=> ∀J C,WalkJ Γ J ds C->C G' H'->(lp=true->C G' (hideO τ σ H'))->R J H'
theorem PI.imp {X:Cx}{tg e:Expr}{t t':TI}(h:PI X tg e t) (k: ∀σ H R,t' σ H R->t σ H R):PI X tg e t':=fun pins s σ H R I q=>h pins s σ H R I (k _ _ _ q)
section
variable {Γ:Ge}{F:M.Fx}{X:Cx}{E:XK}{k:Nat}{cf:Cf}{a b c:M.E}{x y z tg:Expr}{pos p2:Pos}{lp:Bool}
def LOk (Γ:Ge) (G:Gh) (H:Hp) (l:Addr) (vs:List V):Prop:=(Rd H l (.lst vs)/\Off G l)\/StaL Γ l vs
def CL (Γ:Ge) (ds:List M.D) (l:Addr) (vs:List V) (G:Gh) (H:Hp):Prop:=LOk Γ G H l vs/\RelDs Γ G H ds vs
theorem LOk.sq {G:Gh}{H:Hp}{l:Addr}{vs:List V}(z:LOk Γ G H l vs):SqL Γ.K H l vs:=z.elim (fun z=> .inl z.1) .inr
theorem StL.lok {G:Gh}{H:Hp}{h:M.AH}{l:Addr}{vs:List V}(z:StL Γ G H l vs) (hr:HRel Γ G h H):LOk Γ G H l vs:=z.elim (fun z=> .inl ⟨z.2,hr.off z.1⟩) .inr
theorem CL.keep {ds:List M.D}{l:Addr}{vs:List V}{G G':Gh}{H H':Hp}{h:M.AH}(z:CL Γ ds l vs G H) (e:Ext G H G' H') (hr:HRel Γ G h H):CL Γ ds l vs G' H':=by
 obtain⟨z1,z3⟩:=z
 refine⟨?_,z3.ext e hr⟩
 rcases z1 with⟨z1,z2⟩ | z1
 ·refine .inl ⟨e.rd z1 z2,?_⟩
  rcases z1 with z1 | ⟨o,z1⟩
  ·exact e.off z1 z2
  ·exact e.off z1 z2
 ·exact .inr z1
theorem CL.walk {ds:List M.D}{l:Addr}{vs:List V}{K:PySem.W.Frag}(hK:K=Γ.K):WalkJ Γ (Itl K l) ds (CL Γ ds l vs) where
 go:=fun i G H ⟨z1,z3⟩ hi=>by
  obtain⟨v,e,_⟩:=z3.get (List.getElem?_eq_getElem hi)
  exact⟨vs,v,hK▸z1.sq,e⟩
 yld:=fun i G H x H' ⟨z1,z3⟩ hi ⟨e,y⟩=>by
  subst e
  obtain⟨v,e,rd⟩:=z3.get (List.getElem?_eq_getElem hi)
  have:=y vs (hK▸z1.sq)
  rw [e]at this
  cases this
  exact⟨G,Ext.refl,fun _ q=>q,_,List.getElem?_eq_getElem hi,rd⟩
 stop:=fun i G H ⟨z1,z3⟩ hi _=>⟨vs,hK▸z1.sq,by rw [← z3.length];exact hi⟩
 keep:=fun G H G' H' h z e hr=>z.keep e hr
def CT (Γ:Ge) (ds:List M.D) (l:Addr) (vs:List V) (G:Gh) (H:Hp):Prop:=StT Γ G H l vs/\RelDs Γ G H ds vs
theorem StT.mon {G G':Gh}{H H':Hp}{l:Addr}{vs:List V}(z:StT Γ G H l vs) (e:Mon G H G' H'):StT Γ G' H' l vs:=z.elim (fun z=> .inl ⟨e.fz l z.1,e.keep l _ z.1 z.2⟩) fun z=> .inr z
theorem CT.walk {ds:List M.D}{l:Addr}{vs:List V}{K:PySem.W.Frag}(hK:K=Γ.K):WalkJ Γ (Itt K l) ds (CT Γ ds l vs) where
 go:=fun i G H ⟨z1,z3⟩ hi=>by
  obtain⟨v,e,_⟩:=z3.get (List.getElem?_eq_getElem hi)
  exact⟨vs,v,hK▸z1.sq,e⟩
 yld:=fun i G H x H' ⟨z1,z3⟩ hi ⟨e,y⟩=>by
  subst e
  obtain⟨v,e,rd⟩:=z3.get (List.getElem?_eq_getElem hi)
  have:=y vs (hK▸z1.sq)
  rw [e]at this
  cases this
  exact⟨G,Ext.refl,fun _ q=>q,_,List.getElem?_eq_getElem hi,rd⟩
 stop:=fun i G H ⟨z1,z3⟩ hi _=>⟨vs,hK▸z1.sq,by rw [← z3.length];exact hi⟩
 keep:=fun G H G' H' h z e hr=>⟨z.1.mon (e.mon hr),z.2.ext e hr⟩
theorem CL.walkR {ds:List M.D}{l:Addr}{vs:List V}{K:PySem.W.Frag}(hK:K=Γ.K):WalkJ Γ (Itv K l vs.length) ds.reverse (CL Γ ds l vs) where
 go:=fun i G H ⟨z1,z3⟩ hi=>⟨vs,hK▸z1.sq,rfl,by rw [← z3.length];simpa using hi⟩
 yld:=fun i G H x H' ⟨z1,z3⟩ hi ⟨e,y⟩=>by
  subst e
  obtain⟨v,e,rd⟩:=z3.reverse.get (List.getElem?_eq_getElem hi)
  have:=y vs (hK▸z1.sq)
  have hl:i<vs.length:=by rw [← z3.length];simpa using hi
  rw [List.getElem?_reverse hl,this]at e
  cases e
  exact⟨G,Ext.refl,fun _ q=>q,_,List.getElem?_eq_getElem hi,rd⟩
 stop:=fun i G H ⟨z1,z3⟩ hi h2=>by
  have l1:=z3.length
  rw [List.length_reverse]at hi h2
  show i=vs.length
  omega
 keep:=fun G H G' H' h z e hr=>z.keep e hr
theorem Zn {lo:Int}{n:Nat}:WalkJ Γ (Itr lo n) ((List.range n).map fun(i:Nat)=>M.D.int (lo+(i:Int))) (fun _ _=>True) where
 go:=fun i G H _ hi=>show i<n by simpa using hi
 yld:=fun i G H x H' _ hi qq=>by
  obtain⟨e,y⟩:=qq
  subst e y
  have hi:i<n:=by simpa using hi
  exact⟨G,Ext.refl,fun _ q=>q,.int (lo+i),by simp [hi],rfl⟩
 stop:=fun i G H _ hi _=>show n<=i by simpa using hi
 keep:=fun _ _ _ _ _ _ _ _=>trivial
theorem Xk {z:M.Tx}:WalkJ Γ (Its (txS z)) (M.chs z) (fun _ _=>True) where
 go:=fun i G H _ hi=>by
  have hi:i<z.length:=by simpa [M.chs]using hi
  exact⟨z[i],by simp [txS,hi]⟩
 yld:=fun i G H x H' _ hi qq=>by
  obtain⟨e,c,y1,y2⟩:=qq
  subst e y2
  have hi:i<z.length:=by simpa [M.chs]using hi
  have y1:z[i]? =some c:=by simpa [txS]using y1
  exact⟨G,Ext.refl,fun _ q=>q,.str [c],by simp [M.chs,y1],rfl⟩
 stop:=fun i G H _ hi _=>by
  have hi:z.length<=i:=by simpa [M.chs]using hi
  show(txS z).cps[i]? =none
  simp [txS,hi]
 keep:=fun _ _ _ _ _ _ _ _=>trivial
theorem xc {τ:M.Sl}{σ:St}{H:Hp}{l:Addr}(hn: ¬ ∃(i:Nat) (xs:List M.D),M.getS τ i=some (.own xs)/\σ[i]? =some (some (.ref l))):hideO τ σ H l=H l:=by
 unfold hideO
 rw [if_neg hn]
theorem Xd {G:Gh}{τ:M.Sl}{h:M.AH}{σ:St}{H:Hp}(s:StRel Γ G τ h σ H){i:Nat}{xs:List M.D}{l:Addr}(e:M.getS τ i=some (.own xs)) (e2:σ[i]? =some (some (.ref l))): ¬G.fz l/\Off G l/\ ∃vs,H l=some (.lst vs)/\RelDs Γ G H xs vs:=by
 obtain⟨v,z1,a,vs,z2,z3,z4,z5,z6⟩:=s.slot i _ e
 rw [e2]at z1
 cases z1
 cases z2
 exact⟨z3,z4,vs,z5,z6⟩
theorem Xe {G:Gh}{τ:M.Sl}{h:M.AH}{σ:St}{H:Hp}(s:StRel Γ G τ h σ H):Mon G H G (hideO τ σ H):=by
 refine⟨fun a o z e=> ?_,Nat.le_refl _,fun _ _=>rfl,fun _ z=>z⟩
 rw [xc fun⟨i,xs,q1,q2⟩=>(Xd s q1 q2).1 z]
 exact e
theorem Q1 (go:Go Γ F X E k cf) (ha:PE X x (tD Γ E (M.eval F a))):PI X tg x (tDI Γ E false (M.evalIt F (.seq a))):=by
 refine PI.imp (wM ha) fun σ H R qq=> ?_
 obtain⟨G,τ,h,s,p⟩:=qq
 rw [M.evalIt]at p
 refine Ja s.heap Ext.refl s p fun w1 v1 h1 G1 H1 e1 e1' s1 r1 f1 p1=> ?_
 have lst: ∀ {ds:List M.D},Post Γ E G H (.ok ds h1) (fun ds x G' H'=> ∀J C,WalkJ Γ J ds C->C G' H'->(false=true->C G' (hideO τ σ H'))->R J H')->(∃ l vs,v1= .ref l/\LOk Γ G1 H1 l vs/\RelDs Γ G1 H1 ds vs) →
  (∃ a,v1= .ref a/\(∃ xs,SqL X.K H1 a xs)/\R (Itl X.K a) H1)\/(∃ a,v1= .ref a/\(∃ xs,SqT X.K H1 a xs)/\R (Itt X.K a) H1)\/ ∃z,v1= .str z/\R (Its z) H1:=fun {ds} p ⟨l,vs,z1,z2,z4⟩=>
  .inl ⟨l,z1,⟨vs,go.K▸z2.sq⟩,p G1 H1 e1 s1.heap _ _ (CL.walk (vs:=vs) go.K) ⟨z2,z4⟩ fun z=>absurd z Bool.false_ne_true⟩
 cases w1 with
 | v d=>
  cases d with
  | tup ds=>
   obtain⟨l,vs,rfl,z2,z3⟩:=r1
   exact .inr (.inl ⟨l,rfl,⟨vs,go.K▸z2.sq⟩,p1 G1 H1 e1 s1.heap _ _ (CT.walk (vs:=vs) go.K) ⟨z2,z3⟩ fun z=>absurd z Bool.false_ne_true⟩)
  | lst ds=>obtain⟨l,vs,z1,z2,z3⟩:=r1;exact lst p1 ⟨l,vs,z1,z2.lok s1.heap,z3⟩
  | non=>exact p1.elim
  | bl _=>exact p1.elim
  | int _=>exact p1.elim
  | str z=>
   cases (show v1= .str (txS z)from r1)
   exact .inr (.inr ⟨_,rfl,p1 G1 H1 e1 s1.heap _ _ Xk trivial fun z=>absurd z Bool.false_ne_true⟩)
  | ref _=>exact p1.elim
  | exc _ _=>exact p1.elim
 | own ds=>obtain⟨l,vs,z1,_,z3,z4,z5⟩:=r1;exact lst p1 ⟨l,vs,z1,.inl ⟨.inl z4,z3⟩,z5⟩
 | bor ds=>obtain⟨l,vs,z1,z3,z4,z5⟩:=r1;exact lst p1 ⟨l,vs,z1,.inl ⟨z4,z3⟩,z5⟩
theorem zX (n:Int):((List.range n.toNat).map fun(i:Nat)=>M.D.int (i:Int))=(List.range n.toNat).map fun(i:Nat)=>M.D.int (0+(i:Int)):=by
 congr 1;funext i;rw [Int.zero_add]
theorem jT: "range" ∈bltN:=by decide
theorem Wj (go:Go Γ F X E k cf){g:Expr}(hg:gNm cf.sc "range" g=true) (hx:notStar x=true) (ha:PE X x (tD Γ E (M.eval F a))):PI X tg (.Call g [x] [] pos) (tDI Γ E lp (M.evalIt F (.range1 a))):=by
 obtain⟨p,rfl,h2,h3⟩:=Xa hg
 refine PI.imp (JK (go.gl _ h2) (go.blt _ jT) (zb ha wc (ja hx)) (ja hx)) fun σ H R qq=> ?_
 obtain⟨G,τ,h,s,p⟩:=qq
 rw [M.evalIt]at p
 refine Ja s.heap Ext.refl s p fun w1 v1 h1 G1 H1 e1 e1' s1 r1 f1 p1=> ?_
 obtain⟨n,q,p1⟩:=p1.of
 split at p1
 ·rename_i c
  rw [M.B62_eq]at c
  cases r1.int q
  rw [zX]at p1
  exact⟨n,rfl,c.1,c.2,p1 G1 H1 e1 s1.heap _ _ Zn trivial fun _=>trivial⟩
 ·exact p1.elim
theorem Xj (go:Go Γ F X E k cf){g:Expr}(hg:gNm cf.sc "range" g=true) (hx:notStar x=true) (hy:notStar y=true) (ha:PE X x (tD Γ E (M.eval F a))) (hb:PE X y (tD Γ E (M.eval F b))):PI X tg (.Call g [x,y] [] pos) (tDI Γ E lp (M.evalIt F (.range2 a b))):=by
 obtain⟨p,rfl,h2,h3⟩:=Xa hg
 refine PI.imp (ZS (go.gl _ h2) (go.blt _ jT) (zb ha (zb hb wc (ja hy)) (ja hx)) (by rw [ja hx,ja hy];rfl) (ja hy)) fun σ H R qq=> ?_
 obtain⟨G,τ,h,s,p⟩:=qq
 rw [M.evalIt]at p
 refine Ja s.heap Ext.refl s p fun w1 v1 h1 G1 H1 e1 e1' s1 r1 f1 p1=> ?_
 obtain⟨n,q,p1⟩:=p1.of
 refine Ja s.heap e1 s1 p1 fun w2 v2 h2 G2 H2 e2 e2' s2 r2 f2 p2=> ?_
 obtain⟨m,q2,p2⟩:=p2.of
 split at p2
 ·rename_i c
  rw [M.B62_eq]at c
  cases r1.int q
  cases r2.int q2
  exact⟨n,m,rfl,⟨c.1.1,c.1.2,c.2.1,c.2.2⟩,p2 G2 H2 e2 s2.heap _ _ Zn trivial fun _=>trivial⟩
 ·exact p2.elim
theorem zad: "reversed" ∈bltN:=by decide
theorem XX (go:Go Γ F X E k cf){g:Expr}(hg:gNm cf.sc "reversed" g=true) (hx:notStar x=true) (ha:PE X x (tD Γ E (M.eval F a))):PI X tg (.Call g [x] [] pos) (tDI Γ E false (M.evalIt F (.rev a))):=by
 obtain⟨p,rfl,h2,h3⟩:=Xa hg
 refine PI.imp (wK (go.gl _ h2) (go.blt _ zad) (zb ha wc (ja hx)) (ja hx)) fun σ H R qq=> ?_
 obtain⟨G,τ,h,s,p⟩:=qq
 rw [M.evalIt]at p
 refine Ja s.heap Ext.refl s p fun w1 v1 h1 G1 H1 e1 e1' s1 r1 f1 p1=> ?_
 have lst: ∀ {ds:List M.D},Post Γ E G H (.ok ds.reverse h1) (fun ds x G' H'=> ∀J C,WalkJ Γ J ds C->C G' H'->(false=true->C G' (hideO τ σ H'))->R J H')->(∃ l vs,v1= .ref l/\LOk Γ G1 H1 l vs/\RelDs Γ G1 H1 ds vs) →
  ∃a xs,[v1]= [.ref a]/\SqL X.K H1 a xs/\R (Itv X.K a xs.length) H1:=fun {ds} p ⟨l,vs,z1,z2,z4⟩=>
  ⟨l,vs,by rw [z1],go.K▸z2.sq,p G1 H1 e1 s1.heap _ _ (CL.walkR (vs:=vs) go.K) ⟨z2,z4⟩ fun z=>absurd z Bool.false_ne_true⟩
 cases w1 with
 | v d=>
  cases d with
  | lst ds=>obtain⟨l,vs,z1,z2,z3⟩:=r1;exact lst p1 ⟨l,vs,z1,z2.lok s1.heap,z3⟩
  | tup _=>exact p1.elim
  | non=>exact p1.elim
  | bl _=>exact p1.elim
  | int _=>exact p1.elim
  | str _=>exact p1.elim
  | ref _=>exact p1.elim
  | exc _ _=>exact p1.elim
 | own ds=>obtain⟨l,vs,z1,_,z3,z4,z5⟩:=r1;exact lst p1 ⟨l,vs,z1,.inl ⟨.inl z4,z3⟩,z5⟩
 | bor ds=>obtain⟨l,vs,z1,z3,z4,z5⟩:=r1;exact lst p1 ⟨l,vs,z1,.inl ⟨z4,z3⟩,z5⟩
end
end L2.MS
namespace L2.MS
open PySem PySem.Spec PyProof.Rows
section
variable {Γ:Ge}{F:M.Fx}{X:Cx}{E:XK}{k:Nat}{cf:Cf}
theorem jb: ∀(τ:M.Sl) (i j:Nat) (w:M.W),M.getS (M.setS τ i w) j=if j=i/\i<τ.length then some w else M.getS τ j
 | [],i,j,w=>by simp
 | x::r,0,0,w=>by simp
 | x::r,0,j+1,w=>by simp
 | x::r,i+1,0,w=>by simp
 | x::r,i+1,j+1,w=>by
  have:=jb r i j w
  simp only [M.setS,M.getS,this,List.length_cons]
  by_cases h:j=i/\i<r.length
  ·rw [if_pos h,if_pos (by omega)]
  ·rw [if_neg h,if_neg (by omega)]
theorem Zd: ∀(τ:M.Sl) (i:Nat) (w:M.W),(M.setS τ i w).length=τ.length
 | [],_,_=>rfl
 | _::_,0,_=>rfl
 | _::r,i+1,w=>by simp [Zd r i w]
theorem Wd: ∀ {τ:M.Sl}{i:Nat}{w:M.W},M.getS τ i=some w->i<τ.length
 | [],_,_,e=>by simp at e
 | _::_,0,_,_=>by simp
 | _::r,i+1,w,e=>by
  have:=Wd (τ:=r) (i:=i) (by simpa using e)
  simp;omega
theorem StRel.set {G:Gh}{τ:M.Sl}{h:M.AH}{σ:St}{H:Hp}(s:StRel Γ G τ h σ H){i:Nat}{w:M.W}{v:V}(r:RelW Γ G H w v)
 (ap:isL w=true-> ∀(j:Nat) w',j≠i->M.getS τ j=some w'->isL w'=true-> ∀a,v= .ref a->σ[j]? ≠some (some (.ref a))):StRel Γ G (M.setS τ i w) h (σ.set i (some v)) H where
 len:=by rw [Zd,List.length_set];exact s.len
 slot:=fun j w' e=>by
  rw [jb]at e
  by_cases c:j=i/\i<τ.length
  ·rw [if_pos c]at e
   cases e
   obtain⟨rfl,c⟩:=c
   exact⟨v,List.getElem?_set_self (by rw [← s.len];exact c),r⟩
  ·rw [if_neg c]at e
   have hj:j≠i:=fun z=>c ⟨z,by subst z;exact Wd e⟩
   obtain⟨v',z1,z2⟩:=s.slot j w' e
   exact⟨v',by rw [List.getElem?_set_ne (Ne.symm hj)];exact z1,z2⟩
 apart:=fun p q xs w' a hpq e1 e2 hl e3=>by
  rw [jb]at e1 e2
  by_cases cp:p=i/\i<τ.length
  ·rw [if_pos cp]at e1
   cases e1
   obtain⟨rfl,cp⟩:=cp
   rw [if_neg (fun z=>hpq z.1.symm)]at e2
   rw [List.getElem?_set_self (by rw [← s.len];exact cp)]at e3
   cases e3
   rw [List.getElem?_set_ne hpq]
   exact ap rfl q w' (Ne.symm hpq) e2 hl a rfl
  ·rw [if_neg cp]at e1
   have hp:p≠i:=fun z=>cp ⟨z,by subst z;exact Wd e1⟩
   rw [List.getElem?_set_ne (Ne.symm hp)]at e3
   by_cases cq:q=i/\i<τ.length
   ·rw [if_pos cq]at e2
    cases e2
    obtain⟨rfl,cq⟩:=cq
    rw [List.getElem?_set_self (by rw [← s.len];exact cq)]
    intro z
    cases z
    exact ap hl p _ hp e1 rfl a rfl e3
   ·rw [if_neg cq]at e2
    have hq:q≠i:=fun z=>cq ⟨z,by subst z;exact Wd e2⟩
    rw [List.getElem?_set_ne (Ne.symm hq)]
    exact s.apart p q xs w' a hpq e1 e2 hl e3
 heap:=s.heap
theorem StRel.setD {G:Gh}{τ:M.Sl}{h:M.AH}{σ:St}{H:Hp}(s:StRel Γ G τ h σ H){i:Nat}{d:M.D}{v:V}(r:RelD Γ G H d v):StRel Γ G (M.setS τ i (.v d)) h (σ.set i (some v)) H:=s.set (w:= .v d) r fun z=>by cases z
def setV:List Nat->List V->St->St
 | i::is,v::vs,σ=>setV is vs (σ.set i (some v))
 | _,_,σ=>σ
theorem jo {G:Gh}{h:M.AH}{H:Hp}: ∀ {is:List Nat}{ds:List M.D}{vs:List V}{τ τ':M.Sl}{σ:St},M.setTup is ds τ=some τ'->RelDs Γ G H ds vs->StRel Γ G τ h σ H->StRel Γ G τ' h (setV is vs σ) H/\is.length=vs.length
 | [],[],_,_,_,_,e,rfl,s=>by cases e;exact⟨s,rfl⟩
 | [],_::_,_,_,_,_,e,_,_=>by simp [M.setTup]at e
 | _::_,[],_,_,_,_,e,_,_=>by simp [M.setTup]at e
 | i::is,d::ds,_,_,_,_,e,⟨v,r,rfl,z1,z2⟩,s=>by
  obtain⟨h1,h2⟩:=jo (is:=is) (ds:=ds) (by simpa [M.setTup]using e) z2 (s.setD (i:=i) z1)
  exact⟨h1,congrArg (· +1) h2⟩
def gM (Γ:Ge) (tg:List Nat) (one:Bool):TG:=fun v σ H Q=>match one with
 | true=> ∃i,tg= [i]/\Q (σ.set i (some v)) H
 | false=> ∃G ds vs a,v= .ref a/\StT Γ G H a vs/\RelDs Γ G H ds vs/\tg.length=vs.length/\Q (setV tg vs σ) H
theorem Zv (go:Go Γ F X E k cf): ∀ {is:List Nat}{es:List Expr},chkTg cf is es=true->PGs X es (fun vs σ H Q=>vs.length=is.length/\Q (setV is vs σ) H)
 | [],[],_=>fun pins s σ H vs us Q I r h=>by
  have hl:vs= []:=List.eq_nil_of_length_eq_zero h.1
  subst hl
  exact jao pins s σ H [] us Q I r ⟨rfl,h.2⟩
 | [],_::_,h=>by simp [chkTg]at h
 | _::_,[],h=>by simp [chkTg]at h
 | i::is,e::es,h=>by
  cases e with
  | Name x p=>
   simp only [chkTg,Bool.and_eq_true,decide_eq_true_eq]at h
   obtain⟨⟨h1,h2⟩,h3⟩:=h
   have ih:=Zv go h3
   have hl:=go.sto x h2
   have key:=Q0 (xP (i:=i) (X:=X) (pos:=p) (by rw [go.N];exact go.nd) (by rw [go.N];exact h1) hl.1 hl.2) ih
   intro pins s σ H vs us Q I r q
   refine key pins s σ H vs us Q I r ?_
   cases vs with
   | nil=>simp at q
   | cons v vs=>
    refine⟨v,vs,rfl,?_⟩
    exact⟨by simpa using q.1,q.2⟩
  | _=>simp [chkTg]at h
theorem WM {env:Env}: ∀ {is:List Nat}{es:List Expr},chkTg cf is es=true->(assignEach es env).length=is.length/\(assignEach es env).findIdx? (·.1)=none
 | [],[],_=>⟨rfl,rfl⟩
 | [],_::_,h=>by simp [chkTg]at h
 | _::_,[],h=>by simp [chkTg]at h
 | i::is,e::es,h=>by
  cases e with
  | Name x p=>
   simp only [chkTg,Bool.and_eq_true]at h
   obtain⟨h1,h2⟩:=WM (env:=env) h.2
   have e1:assignEach (.Name x p::es) env=(false,assign (.Name x p) env)::assignEach es env:=rfl
   rw [e1]
   refine⟨congrArg (· +1) h1,?_⟩
   rw [List.findIdx?_cons]
   simp [h2]
  | _=>simp [chkTg]at h
theorem wg (go:Go Γ F X E k cf){tg:List Nat}{one:Bool}{e:Expr}(h:chkTarget cf tg one e=true):PG X e (gM Γ tg one):=by
 cases one with
 | true=>
  cases e with
  | Name x p=>
   simp only [chkTarget,Bool.and_eq_true]at h
   cases tg with
   | nil=>simp at h
   | cons i r=>
    cases r with
    | cons _ _=>simp at h
    | nil=>
     simp only [chkTg,Bool.and_eq_true,decide_eq_true_eq]at h
     obtain⟨_,⟨h1,h2⟩,_⟩:=h
     have hl:=go.sto x h2
     have key:=xP (i:=i) (X:=X) (pos:=p) (by rw [go.N];exact go.nd) (by rw [go.N];exact h1) hl.1 hl.2
     intro pins s σ H v u Q I r q
     obtain⟨j,e,q⟩:=q
     cases e
     exact key pins s σ H v u Q I r q
  | _=>simp [chkTarget]at h
 | false=>
  cases e with
  | Tuple es n p=>
   have h:chkTg cf tg es=true:=h
   obtain⟨hn,hst⟩:=WM (env:=X.env) h
   have key:=qaB (k:=n) (pos:=p) (n:=tg.length) go.calm (Zv go h) hn hst
   intro pins s σ H v u Q I r q
   obtain⟨G,ds,vs,a,rfl,z1,z2,z3,q⟩:=q
   exact key pins s σ H _ u Q I r ⟨a,vs,rfl,go.K▸z1.sq,z3.symm,z3.symm,q⟩
  | _=>simp [chkTarget]at h
theorem ze (k:Nat) (l:M.Sl): ∀(i:Nat),M.getS (List.replicate k none++l) (k+i)=M.getS l i:=by
 induction k with
 | zero=>intro i;simp
 | succ k ih=>intro i;rw [List.replicate_succ,show k+1+i=(k+i)+1 by omega];exact ih i
theorem zf (k:Nat) (l:M.Sl): ∀ {i:Nat},i<k->M.getS (List.replicate k none++l) i=none:=by
 induction k with
 | zero=>intro i h;omega
 | succ k ih=>
  intro i h
  cases i with
  | zero=>rfl
  | succ i=>rw [List.replicate_succ];exact ih (by omega)
theorem Qi: ∀(l:M.Sl) (i:Nat),M.getS l i=(l[i]?).join
 | [],_=>by simp
 | _::_,0=>by simp
 | _::r,i+1=>by simpa using Qi r i
theorem wn {G:Gh}{τ:M.Sl}{h:M.AH}{σ:St}{H:Hp}(s:StRel Γ G τ h σ H){j:Nat}{w:M.W}(e:M.readS τ j=some w): ∃v,σ[j]? =some (some v)/\RelW Γ G H w v/\(isL w=true-> ∃w',M.getS τ j=some w'/\isL w'=true)/\noOwn w=true:=by
 unfold M.readS at e
 cases q:M.getS τ j with
 | none=>rw [q]at e;cases e
 | some w'=>
  obtain⟨v,z1,z2⟩:=s.slot j w' q
  rw [q]at e
  cases w' with
  | v d=>cases e;exact⟨v,z1,z2,fun z=>(by cases z),rfl⟩
  | own xs=>cases e;obtain⟨a,vs,y1,y2,y3,y4,y5⟩:=z2;exact⟨v,z1,⟨a,vs,y1,y3,.inl y4,y5⟩,fun _=>⟨_,rfl,rfl⟩,rfl⟩
  | bor xs=>cases e;exact⟨v,z1,z2,fun _=>⟨_,rfl,rfl⟩,rfl⟩
def blkS (k:Nat) (cap:List Nat) (τ:M.Sl):M.Sl:=List.replicate k none++cap.map fun j=>M.readS τ j
theorem zai {G:Gh}{τ:M.Sl}{h:M.AH}{σ:St}{H:Hp}(s:StRel Γ G τ h σ H) (kk:Nat) (cap:List Nat){σb:St}(hlen:σb.length=kk+cap.length) (hcap: ∀i,i<cap.length->σb[kk+i]? =some ((σ[cap.getD i 0]?).join)):
 StRel Γ G (blkS kk cap τ) h σb H where
 len:=by unfold blkS;rw [List.length_append,List.length_replicate,List.length_map,hlen]
 slot:=fun i w e=>by
  unfold blkS at e
  by_cases hi:i<kk
  ·rw [zf kk _ hi]at e;cases e
  ·obtain⟨j,rfl⟩: ∃j,i=kk+j:=⟨i-kk,by omega⟩
   rw [ze,Qi,List.getElem?_map]at e
   cases q:cap[j]? with
   | none=>rw [q]at e;cases e
   | some c=>
    rw [q]at e
    have e:M.readS τ c=some w:=e
    obtain⟨v,z1,z2,_⟩:=wn s e
    have hj:j<cap.length:=(List.getElem?_eq_some_iff.mp q).1
    refine⟨v,?_,z2⟩
    rw [hcap j hj,List.getD_eq_getElem?_getD,q]
    show some ((σ[c]?).join)=_
    rw [z1]
    rfl
 apart:=fun i j xs w a hij e1 e2 hl e3=>by
  exfalso
  unfold blkS at e1
  by_cases hi:i<kk
  ·rw [zf kk _ hi]at e1;cases e1
  ·obtain⟨i',rfl⟩: ∃j,i=kk+j:=⟨i-kk,by omega⟩
   rw [ze,Qi,List.getElem?_map]at e1
   cases q:cap[i']? with
   | none=>rw [q]at e1;cases e1
   | some c=>
    rw [q]at e1
    have e1:M.readS τ c=some (.own xs):=e1
    obtain⟨_,_,_,_,z⟩:=wn s e1
    cases z
 heap:=s.heap
end
end L2.MS
namespace L2.MS
open PySem PySem.Spec PyProof.Rows
theorem Xb {env:Env}{kd:NameKind}(hk:kd≠ .free): ∀ {names:List (Str×NameKind)}{x:Str},names.lookup x=some kd →
 (names.map fun(n,k)=>if(k==NameKind.free&&env.scope.kind== .function&&env.kindOf n==some .cell)then(n,NameKind.cell)else(n,k)).lookup x=some kd
 | [],_,h=>by simp at h
 | (n,k)::r,x,h=>by
  have ih:= @Xb env kd hk r x
  rw [List.map_cons]
  rw [List.lookup_cons]at h
  cases hx:x==n with
  | true=>
   rw [hx]at h
   have e:k=kd:=by simpa using h
   subst e
   have hf:(k==NameKind.free)=false:=by simpa using hk
   simp only [hf,Bool.false_and,Bool.false_eq_true,if_false,List.lookup_cons,hx]
  | false=>
   rw [hx]at h
   have q:=ih h
   by_cases hcond:(k==NameKind.free&&env.scope.kind== .function&&env.kindOf n==some .cell)=true
   ·simp only [hcond,if_true,List.lookup_cons,hx]
    exact q
   ·have hcf:=Bool.eq_false_iff.mpr hcond
    simp only [hcf,Bool.false_eq_true,if_false,List.lookup_cons,hx]
    exact q
section
variable {Γ:Ge}{F:M.Fx}{X:Cx}{E:XK}{k:Nat}{cf:Cf}
structure ScOk (cf:Cf) (scope:Scope) (N:List Str) (k:Nat) (cap:List Nat):Prop where
 kind:scope.kind= .function
 ndn:(scope.names.map Prod.fst).Nodup
 names: ∀y∈scope.names,y.2= .local->scope.names.lookup y.1=some .local
 free: ∀y∈scope.names,y.2= .free->cf.sc.names.lookup y.1=some .cell\/cf.sc.names.lookup y.1=some .free
 capf: ∀x∈N.drop k,scope.names.lookup x=some .free
 cap:capOk cf cap (N.drop k)=true
 le:k<=N.length
 nd:N.Nodup
theorem jf {scope:Scope}{N:List Str}{kk:Nat}{cap:List Nat}(h:scopeOk cf scope N kk cap=true):ScOk cf scope N kk cap:=by
 simp only [scopeOk,Bool.and_eq_true,decide_eq_true_eq,List.all_eq_true]at h
 obtain⟨⟨⟨⟨⟨⟨⟨⟨h1,h2⟩,h3⟩,h4⟩,h5⟩,h6⟩,h7⟩,h8⟩,h9⟩:=h
 exact⟨h1,h2,fun y hy=>h3 y hy,fun y hy=>h4 y hy,fun x hx=>h5 x hx,h6,h7,h8⟩
theorem Qv (go:Go Γ F X E k cf): ∀ {cap:List Nat}{xs:List Str},capOk cf cap xs=true->CapOk X cap xs
 | [],[],_=>trivial
 | [],_::_,h=>by simp [capOk]at h
 | _::_,[],h=>by simp [capOk]at h
 | j::js,x::xs,h=>by
  simp only [capOk,Bool.and_eq_true,decide_eq_true_eq]at h
  obtain⟨⟨h1,h2⟩,h3⟩:=h
  exact⟨by rw [go.N];exact h1,go.cel x h2,Qv go h3⟩
theorem qu (go:Go Γ F X E k cf){scope:Scope}{N:List Str}{kk:Nat}{cap:List Nat}(h:ScOk cf scope N kk cap):CompOk X scope N kk cap:=
 ⟨h.kind,h.ndn,h.names,fun y hy hf=>go.cel y.1 (h.free y hy hf),h.capf,Qv go h.cap,h.le⟩
theorem XD {sc:Scope}{x:Str}(h:visB sc x=true):sc.names.lookup x=some .local\/sc.names.lookup x=some .cell\/sc.names.lookup x=some .free:=by
 unfold visB at h
 split at h
 ·rename_i q;exact .inl q
 ·rename_i q;exact .inr (.inl q)
 ·rename_i q;exact .inr (.inr q)
 ·cases h
theorem JD {sc:Scope}{x:Str}(h:locB sc x=true):sc.names.lookup x=some .local\/sc.names.lookup x=some .cell:=by
 unfold locB at h
 split at h
 ·rename_i q;exact .inl q
 ·rename_i q;exact .inr q
 ·cases h
theorem Zz {sc:Scope}{x:Str}(h:glB sc x=true):sc.names.lookup x=some .globalImplicit:=by
 unfold glB at h
 split at h
 ·rename_i q;exact q
 ·cases h
theorem qf (go:Go Γ F X E k cf){scope:Scope}{N:List Str}{kk:Nat}{cap:List Nat}(h:ScOk cf scope N kk cap) (C:Addr) (fp:List Addr) (s:Shared) (H:Hp):Go Γ F (cxComp X N scope C fp s H) E0 k { cf with sc:=scope,N:=N } where
 N:=rfl
 K:=go.K
 cl:=go.cl
 ow:=go.ow
 nd:=h.nd
 vis:=fun x hx=>by
  rcases XD hx with q | q | q
  ·exact .inl (Xb (by decide) q)
  ·exact .inr (.inl (Xb (by decide) q))
  ·exact .inr (Qc q)
 lcl:=fun x hx=>Xb (by decide) hx
 sto:=fun x hx=>by
  rcases JD hx with q | q
  ·exact⟨.inl (Xb (by decide) q),.inr (Xb (by decide) q)⟩
  ·exact⟨.inr (Xb (by decide) q),.inl (decide_eq_true q)⟩
 cel:=fun x hx=>by
  rcases hx with q | q
  ·exact .inl (Xb (by decide) q)
  ·exact Qc q
 gl:=fun x hx=>Xb (by decide) (Zz hx)
 calm:=go.calm
 room:=go.room
 pass:=fun pins σ H' s' e s'' _ hq=>by
  obtain⟨x,C',t,B,H2,_,_,_,_,_,_,_,_,hE⟩:=hq
  exact hE.elim
 blt:=go.blt
 con:=go.con
 fn:=fun f hf=>by
  obtain⟨ps,fa,fd,h1,h2,h3,h4⟩:=(go.fn f hf).imp fun ps h=>h.ex
  exact⟨ps,⟨fa,fd,h1,h2,h3,h4⟩⟩
 cls:=go.cls
theorem WB: ∀(is:List Nat) (vs:List V) (σ:St) (j:Nat),j∉is->(setV is vs σ)[j]? =σ[j]?
 | [],_,_,_,_=>rfl
 | _::_,[],_,_,_=>rfl
 | i::is,v::vs,σ,j,h=>by
  show(setV is vs (σ.set i (some v)))[j]? =σ[j]?
  rw [WB is vs _ j fun z=>h (List.mem_cons_of_mem _ z),List.getElem?_set_ne (fun z:i=j=>h (by rw [z];exact List.mem_cons_self))]
theorem ql: ∀(is:List Nat) (vs:List V) (σ:St),(setV is vs σ).length=σ.length
 | [],_,_=>rfl
 | _::_,[],_=>rfl
 | i::is,v::vs,σ=>by
  show(setV is vs (σ.set i (some v))).length=σ.length
  rw [ql is vs,List.length_set]
theorem bind_ok {G:Gh}{h:M.AH}{H:Hp}{tg:List Nat}{one:Bool}{d:M.D}{x:V}{τ τ':M.Sl}{σ:St}{Q:St->Hp->Prop}(e:M.bindT tg one d τ=some τ') (r:RelD Γ G H d x) (s:StRel Γ G τ h σ H)
 (kq: ∀σ',StRel Γ G τ' h σ' H->(∀ j,j∉tg->σ'[j]? =σ[j]?)->σ'.length=σ.length->Q σ' H):gM Γ tg one x σ H Q:=by
 unfold M.bindT at e
 cases one with
 | true=>
  cases tg with
  | nil=>cases e
  | cons i r'=>
   cases r' with
   | cons _ _=>cases e
   | nil=>
    cases e
    exact⟨i,rfl,kq _ (s.setD r) (fun j hj=>List.getElem?_set_ne fun z=>hj (by simp [z])) (List.length_set ..)⟩
 | false=>
  cases d with
  | tup ds=>
   obtain⟨a,vs,rfl,z2,z3⟩:=r
   obtain⟨s',hl⟩:=jo (show M.setTup tg ds τ=some τ' from e) z3 s
   exact⟨G,ds,vs,a,rfl,z2,z3,hl,kq _ s' (fun j hj=>WB tg vs σ j hj) (ql tg vs σ)⟩
  | _=>cases e
theorem Xs {step:M.D->M.AH->M.R (Option M.D)}: ∀ {ds:List M.D}{h:M.AH}{d:M.D}{h':M.AH},M.compGo step ds h≠ .exc d h'
 | [],_,_,_=>fun e=>by cases e
 | x::ds,h,d,h'=>fun e=>by
  rw [M.compGo]at e
  split at e
  ·split at e<;>cases e
  ·cases e
theorem qz {step:M.D->M.AH->M.R (Option M.D)}{x:M.D}{ds:List M.D}{h hf:M.AH}{ys:List M.D}(e:M.compGo step (x::ds) h= .ok ys hf): ∃o h1 r,step x h= .ok o h1/\M.compGo step ds h1= .ok r hf/\ys=(match o with | some y=>y::r | none=>r):=by
 rw [M.compGo]at e
 split at e
 ·rename_i o h1 e1
  split at e
  ·rename_i r h2 e2
   cases e
   exact⟨o,h1,r,e1,e2,rfl⟩
  ·cases e
 ·cases e
noncomputable def stepC (F:M.Fx) (tg:List Nat) (one:Bool) (τb:M.Sl) (hasIf:Bool) (c elt:M.E):M.D->M.AH->M.R (Option M.D):=fun d h=>match M.bindT tg one d τb with
 | none=> .fail
 | some τ'=>(if hasIf then(M.eval F c τ' h).bind fun x h=>M.R.of h (M.truD h x)else .ok true h).bind fun b h=>match b with
  | true=>(M.eval F elt τ' h).bind fun y h=>(M.R.of h y.d).bind fun y h=> .ok (some y) h
  | false=> .ok none h
theorem jN {tg:List Nat}{one hasIf:Bool}{kk:Nat}{cap:List Nat}{it:M.It}{c elt:M.E}{τ:M.Sl}{h:M.AH}:M.eval F (.comp tg one kk cap it hasIf c elt) τ h=(M.evalIt F it τ h).bind fun ds h=>
 if ds.length<=M.LIM then(M.compGo (stepC F tg one (blkS kk cap τ) hasIf c elt) ds h).bind fun ys h=> .ok (.own ys) h else .fail:=by
 rw [M.eval];rfl
noncomputable def condC (F:M.Fx) (hasIf:Bool) (c:M.E):M.Sl->M.AH->M.R Bool:=fun τ h=>if hasIf then M.tstE F c τ h else .ok true h
theorem Jb {α β:Type}{r:M.R α}{f:α->M.AH->M.R β}{b:β}{h:M.AH}(e:r.bind f= .ok b h): ∃a h1,r= .ok a h1/\f a h1= .ok b h:=by
 cases r with
 | ok a h1=>exact⟨a,h1,rfl,e⟩
 | exc d h1=>cases e
 | fail=>cases e
theorem jy {iter:Expr}{env:Env}(hset:notSet iter=true): ∀v,foldedSetIterable iter env v=pure v:=fun v=>by cases iter<;>first | rfl | (simp [notSet]at hset)
theorem WH {tg:List Nat}{one hasIf:Bool}{kk:Nat}{cap:List Nat}{it:M.It}{c elt:M.E}(htk: ∀i∈tg,i<kk){σ:St}{H:Hp}{Q:VK}(h0:tD Γ E (M.eval F (.comp tg one kk cap it hasIf c elt)) σ H Q):
 tComp kk cap (tDI Γ E false (M.evalIt F it)) (fun _ _ _ _=>gM Γ tg one) (fun _ _ _ _=>tDT Γ E0 (condC F hasIf c)) (fun _ _ _ _=>tD Γ E0 (M.eval F elt)) σ H Q:=by
 obtain⟨G,τ,h,s,p⟩:=h0
 rw [jN]at p
 refine⟨G,τ,h,s,?_⟩
 cases qi:M.evalIt F it τ h with
 | exc d h'=>rw [qi]at p;exact p
 | fail=>rw [qi]at p;exact p
 | ok ds h1=>
  rw [qi]at p
  intro G1 H1 e1 hr1 J C wj c0 _ Ca fp st
  have p:Post Γ E G H (if ds.length<=M.LIM then(M.compGo (stepC F tg one (blkS kk cap τ) hasIf c elt) ds h1).bind fun ys h=> .ok (.own ys) h else .fail) fun w h' G' H'=> ∀v,RelW Γ G' H' w v->FreshW τ σ H w v->Q v H':=p
  by_cases hL:ds.length<=M.LIM
  rotate_left
  ·rw [if_neg hL]at p;exact p.elim
  rw [if_pos hL]at p
  cases qc:M.compGo (stepC F tg one (blkS kk cap τ) hasIf c elt) ds h1 with
  | exc d h'=>exact absurd qc Xs
  | fail=>rw [qc]at p;exact p.elim
  | ok ys hf=>
   rw [qc]at p
   have p:Post Γ E G H (.ok (M.W.own ys) hf) fun w h' G' H'=> ∀v,RelW Γ G' H' w v->FreshW τ σ H w v->Q v H':=p
   have hLs:=Jc
   refine⟨fun i m yv σb H'=> ∃G' h' done rest,(m=ds.length-i/\i<=ds.length/\done.length<=i)/\Ext G1 H1 G' H'/\HRel Γ G' h' H'/\C G' H'/\RelDs Γ G' H' done yv ∧
    M.compGo (stepC F tg one (blkS kk cap τ) hasIf c elt) (ds.drop i) h'= .ok rest hf/\ys=done++rest/\σb.length=kk+cap.length/\ ∀j,j<cap.length->σb[kk+j]? =some ((σ[cap.getD j 0]?).join),⟨ds.length,?_⟩,?_⟩
   ·refine⟨G1,h1,[],ys,⟨by simp,Nat.zero_le _,Nat.le_refl _⟩,Ext.refl,hr1,c0,rfl,qc,rfl,?_,fun j hj=> ?_⟩
    ·unfold capSt;rw [List.length_append,List.length_replicate,List.length_map]
    ·unfold capSt
     rw [List.getElem?_append_right (by simp),List.length_replicate,Nat.add_sub_cancel_left,List.getElem?_map,List.getElem?_eq_getElem hj,List.getD_eq_getElem?_getD,List.getElem?_eq_getElem hj]
     rfl
   ·rintro i m yv σb H' ⟨G',h',done,rest,⟨rfl,hi',hd⟩,e2,hr2,c2,rd,qg,eys,hlen,hcap⟩
    have ldone:=rd.length
    by_cases hlt:i<ds.length
    ·refine .inr ⟨wj.go i G' H' c2 hlt,by omega,_,fun yv' σb' H'' w=>⟨ds.length-(i+1),by omega,w⟩,fun x H'' hy=> ?_⟩
     obtain⟨G4,x4,hx4,d,ed,rdx⟩:=wj.yld i G' H' x H'' c2 hlt hy
     have c2:=wj.keep _ _ _ _ h' c2 x4 hr2
     have rd:=rd.ext x4 hr2
     have e2:=e2.trans hr1 x4
     have hr2:=hx4 _ hr2
     have edr:ds.drop i=d::ds.drop (i+1):=by
      rw [List.drop_eq_getElem_cons hlt]
      rw [List.getElem?_eq_getElem hlt]at ed
      cases ed
      rfl
     rw [edr]at qg
     obtain⟨o,h2,r,qs,qg2,er⟩:=qz qg
     unfold stepC at qs
     cases qb:M.bindT tg one d (blkS kk cap τ)with
     | none=>rw [qb]at qs;cases qs
     | some τ'=>
      rw [qb]at qs
      have so:=s.ext (e1.trans s.heap e2) hr2
      have sb:=zai so kk cap hlen hcap
      refine bind_ok qb rdx sb fun σ2 s2 same hl2=> ?_
      have hcap2: ∀j,j<cap.length->σ2[kk+j]? =some ((σ[cap.getD j 0]?).join):=fun j hj=>by
       rw [same _ fun z=>by have:=htk _ z;omega];exact hcap j hj
      obtain⟨b,h3,qcond,qrest⟩:=Jb (show (condC F hasIf c τ' h').bind _=_ from qs)
      refine⟨G4,τ',h',s2,?_⟩
      rw [qcond]
      intro G3 H3 e3 hr3
      have s3:=s2.ext e3 hr3
      cases b with
      | false=>
       refine iteF ?_
       have qrest:M.R.ok (none:Option M.D) h3= .ok o h2:=qrest
       cases qrest
       exact⟨G3,_,done,r,⟨rfl,by omega,by omega⟩,e2.trans hr1 e3,hr3,wj.keep _ _ _ _ h' c2 e3 hr2,rd.ext e3 hr2,qg2,by rw [eys,er],by rw [hl2];exact hlen,hcap2⟩
      | true=>
       refine iteT ?_
       obtain⟨w,h4,qe,qrest⟩:=Jb (show (M.eval F elt τ' h3).bind _=_ from qrest)
       refine⟨G3,τ',h3,s3,?_⟩
       rw [qe]
       intro G4 H4 e4 hr4 v rw' fw
       obtain⟨dd,h5,qd,qrest⟩:=Jb (show (M.R.of h4 w.d).bind _=_ from qrest)
       cases qw:w.d with
       | none=>rw [qw]at qd;cases qd
       | some d'=>
        rw [qw]at qd
        cases qd
        cases (show M.R.ok (some dd) h4= .ok o h2 from qrest)
        have s4:=s3.ext e4 hr4
        obtain⟨G5,e5,s5,rdv,m5⟩:=toD e4 s4 s3 rw' fw qw
        have e35:=e3.trans hr2 e5
        refine⟨G5,_,done++ [dd],r,⟨rfl,by omega,by rw [List.length_append,List.length_singleton];omega⟩,e2.trans hr1 e35,s5.heap,wj.keep _ _ _ _ h' c2 e35 hr2,(rd.ext e35 hr2).append ⟨v,[],rfl,rdv,rfl⟩,qg2,?_,by rw [hl2];exact hlen,hcap2⟩
        rw [eys,er]
        simp
    ·have ei:i=ds.length:=by omega
     subst ei
     rw [List.drop_length]at qg
     cases (show M.R.ok ([]:List M.D) h'= .ok rest hf from qg)
     rw [List.append_nil]at eys
     subst eys
     exact .inl ⟨wj.stop _ G' H' c2 (Nat.le_refl _) (Nat.le_refl _),by omega,fun D hD=>PostW.own (PostW.mk p (e1.trans s.heap e2) s.heap) hr2 rd D hD⟩
theorem WZ (go:Go Γ F X E k cf){tg:List Nat}{one hasIf:Bool}{kk:Nat}{cap:List Nat}{it:M.It}{c elt:M.E}{t iter y:Expr}{ifs:List Expr}{scope:Scope}{N:List Str}{pos:Pos}(hsc:ScOk cf scope N kk cap)
 (hcl:cap.length=(N.drop kk).length) (htg:chkTarget { cf with sc:=scope,N:=N } tg one t=true) (htk: ∀i∈tg,i<kk) (hset:notSet iter=true)
 (hi:PI X t iter (tDI Γ E false (M.evalIt F it)))
 (he: ∀C fp s H,PE (cxComp X N scope C fp s H) y (tD Γ E0 (M.eval F elt)))
 (ht: ∀C fp s H,PTs (cxComp X N scope C fp s H) ifs (tDT Γ E0 (condC F hasIf c))):
 PE X (.ListComp y [⟨t,iter,ifs,0⟩] scope pos) (tD Γ E (M.eval F (.comp tg one kk cap it hasIf c elt))):=
 PE.imp (zam (qu go hsc) hi (fun C fp s H=>wg (qf go hsc C fp s H) htg) ht he go.calm (jy hset)) fun σ H Q h0=>WH htk h0
theorem jz (go:Go Γ F X E k cf){i:Nat}{x:Str}{pos2 p0:Pos}(hN:cf.N[i]? =some x) (hx:locB cf.sc x=true){tg:List Nat}{one hasIf:Bool}{kk:Nat}{cap:List Nat}{it:M.It}{c elt:M.E}{t iter y:Expr}{ifs:List Expr}{scope:Scope}{N:List Str}{pos:Pos}(hsw:swapsWith (.ListComp y [⟨t,iter,ifs,0⟩] scope p0) (some (.Name x pos2)) pos.line X.env=pure true) (hsc:ScOk cf scope N kk cap)
 (hcl:cap.length=(N.drop kk).length) (htg:chkTarget { cf with sc:=scope,N:=N } tg one t=true) (htk: ∀i∈tg,i<kk) (hset:notSet iter=true)
 (hi:PI X t iter (tDI Γ E false (M.evalIt F it)))
 (he: ∀C fp s H,PE (cxComp X N scope C fp s H) y (tD Γ E0 (M.eval F elt)))
 (ht: ∀C fp s H,PTs (cxComp X N scope C fp s H) ifs (tDT Γ E0 (condC F hasIf c))):
 PS X (.Assign [.Name x pos2] (.ListComp y [⟨t,iter,ifs,0⟩] scope p0) pos) (tAsg (tD Γ E (M.eval F (.comp tg one kk cap it hasIf c elt))) (gName i)):=by
 have hl:=go.sto x hx
 have key:=JF (pos:=pos) (pos':=pos2) (p0:=p0) (by rw [go.N];exact go.nd) (by rw [go.N];exact hN) hl.1 (qu go hsc) hi (fun C fp s H=>wg (qf go hsc C fp s H) htg) ht he hsw go.calm (jy hset) hl.2
 exact fun pins s σ H D I q=>key pins s σ H D I (WH htk q)
theorem Wp (go:Go Γ F X E k cf){i:Nat}{x:Str}{p:Pos}(h1:cf.N[i]? =some x) (h2:visB cf.sc x=true) (h3:nmB x=true):PE X (.Name x p) (tVar i):=by
 unfold nmB at h3
 rw [Bool.and_eq_true]at h3
 exact Zl (by rw [go.N];exact h1) (go.vis x h2) (by simpa using h3.1) (by simpa using h3.2)
theorem zaa (go:Go Γ F X E k cf){neg:Bool}{i:Nat}{x:Expr}{y:Str}{p1 pos:Pos}{a:M.E}(h1:cf.N[i]? =some y) (h2:visB cf.sc y=true) (h3:nmB y=true) (ha:PE X x (tD Γ E (M.eval F a))):PE X (.Compare x [inM neg] [.Name y p1] pos) (tD Γ E (M.eval F (.din neg a i))):=by
 refine PE.imp (QS (Q6 go.K (by have:=go.room.un;omega) neg) ha (Wp go h1 h2 h3) (we rfl)) fun σ H Q qq=> ?_
 obtain⟨G,τ,h,s,p⟩:=qq
 rw [M.eval]at p
 refine Ja s.heap Ext.refl s p fun w1 v1 h1 G1 H1 e1 e1' s1 r1 f1 p1=> ?_
 unfold M.dinW at p1
 split at p1
 ·rename_i d
  split at p1
  ·rename_i kk r ks ek er
   refine⟨_,qj s1 er,G1,h1,kk,r,ks,s1.heap,qy ek▸r1,rfl,(Qf er).2,?_⟩
   exact p1 G1 _ e1 s1.heap (.bl _) rfl trivial
  ·exact p1.elim
 ·exact p1.elim
theorem xV (go:Go Γ F X E k cf){neg:Bool}{i:Nat}{x:Expr}{y:Str}{p1 pos:Pos}{a:M.E}(h1:cf.N[i]? =some y) (h2:visB cf.sc y=true) (h3:nmB y=true) (ha:PE X x (tD Γ E (M.eval F a))):PT X (.Compare x [inM neg] [.Name y p1] pos) (tDT Γ E (M.tstE F (.din neg a i))):=by
 refine PT.imp (jL (Q6 go.K (by have:=go.room.un;omega) neg) ha (Wp go h1 h2 h3) (we rfl)) fun σ H Q qq=> ?_
 obtain⟨G,τ,h,s,p⟩:=qq
 unfold M.tstE at p
 rw [M.eval,Wc]at p
 refine Ja s.heap Ext.refl s p fun w1 v1 h1 G1 H1 e1 e1' s1 r1 f1 p1=> ?_
 unfold M.dinW at p1
 split at p1
 ·rename_i d
  split at p1
  ·rename_i kk r ks ek er
   refine⟨_,qj s1 er,G1,h1,kk,r,ks,s1.heap,qy ek▸r1,rfl,(Qf er).2,?_⟩
   exact⟨_,rfl,p1 G1 _ e1 s1.heap⟩
  ·exact p1.elim
 ·exact p1.elim
end
end L2.MS
namespace L2.MS
open PySem PySem.Spec PyProof.Rows
theorem PW.of_bool {X:Cx}{op:BoolOp}{vs:List Expr}{pos:Pos}{t:TT}(h:PT X (.BoolOp op vs pos) t):PW X (.BoolOp op vs pos) t:=fun wh pins s σ H Q I q=>by
 have:=h pins s σ H Q I q
 rw [PySem.isTrue]at this ⊢
 exact this
theorem Qh {F:M.Fx}{cf:Cf}: ∀ {es:M.Es}{xs:List Expr}{τ:M.Sl}{h:M.AH}{ds:List M.D}{h':M.AH},chkEs cf es xs=true->M.evalDs F es τ h= .ok ds h'->ds.length=xs.length
 | .nil,xs,_,_,_,_,c,e=>by
  unfold chkEs at c
  split at c
  ·rw [M.evalDs]at e;cases e;rfl
  ·cases c
 | .cons a es,xs,τ,h,ds,h',c,e=>by
  unfold chkEs at c
  split at c
  ·rename_i x xs
   simp only [Bool.and_eq_true]at c
   rw [M.evalDs]at e
   obtain⟨w,h1,e1,e⟩:=Jb e
   obtain⟨d,h2,e2,e⟩:=Jb e
   obtain⟨r,h3,e3,e⟩:=Jb e
   cases e
   rw [List.length_cons,List.length_cons,Qh c.2 e3]
  ·cases c
theorem wd {cf:Cf}: ∀ {es:M.Es}{xs:List Expr},chkEs cf es xs=true-> ∀e∈xs,notStar e=true
 | .nil,xs,c=>by
  unfold chkEs at c
  split at c
  ·intro e he;cases he
  ·cases c
 | .cons a es,xs,c=>by
  unfold chkEs at c
  split at c
  ·rename_i x xs
   simp only [Bool.and_eq_true]at c
   intro e he
   rcases List.mem_cons.mp he with rfl | he
   ·exact c.1.1
   ·exact wd c.2 e he
  ·cases c
theorem xk {cf:Cf}: ∀ {cap:List Nat}{xs:List Str},capOk cf cap xs=true->cap.length=xs.length
 | [],[],_=>rfl
 | [],_::_,h=>by simp [capOk]at h
 | _::_,[],h=>by simp [capOk]at h
 | j::js,x::xs,h=>by
  simp only [capOk,Bool.and_eq_true]at h
  exact congrArg (· +1) (xk h.2)
theorem xt {cf:Cf}{it:M.It}{e:Expr}(h:chkIt cf it e=true):notSet e=true:=by
 cases it with
 | seq a=>unfold chkIt at h;rw [Bool.and_eq_true]at h;exact h.1
 | range1 a=>unfold chkIt at h;split at h;rfl;cases h
 | range2 a b=>unfold chkIt at h;split at h;rfl;cases h
 | rev a=>unfold chkIt at h;split at h;rfl;cases h
 | zip a b=>unfold chkIt at h;cases h
 | enum a=>unfold chkIt at h;cases h
section
variable {Γ:Ge}{F:M.Fx}{k:Nat}
mutual
theorem sndE: ∀(m:M.E){X:Cx}{E:XK}{cf:Cf}{e:Expr},Go Γ F X E k cf->chkE cf m e=true->PE X e (tD Γ E (M.eval F m))/\(tOk m=true->PT X e (tDT Γ E (M.tstE F m)))
 | .var i,X,E,cf,e,go,h=>by
  unfold chkE at h
  split at h
  ·simp only [Bool.and_eq_true,decide_eq_true_eq]at h
   have r:=xac (pos:= ‹Pos›) go h.1.1 h.1.2 h.2
   exact⟨r,fun _=>Wa go r fun _=>rfl⟩
  ·cases h
 | .con c,X,E,cf,e,go,h=>by
  unfold chkE at h
  have r:=xag go h
  obtain⟨p,rfl,_,_⟩:=Xa h
  exact⟨r,fun _=>Wa go r fun _=>rfl⟩
 | .int i,X,E,cf,e,go,h=>by
  unfold chkE at h
  split at h
  ·cases of_decide_eq_true h;exact⟨wL,fun _=>Wa go wL fun _=>rfl⟩
  ·cases h
 | .bl i,X,E,cf,e,go,h=>by
  unfold chkE at h
  split at h
  ·cases of_decide_eq_true h;exact⟨W5,fun _=>Wa go W5 fun _=>rfl⟩
  ·cases h
 | .non,X,E,cf,e,go,h=>by
  unfold chkE at h
  split at h
  ·exact⟨JL,fun _=>Wa go JL fun _=>rfl⟩
  ·cases h
 | .str i,X,E,cf,e,go,h=>by
  unfold chkE at h
  split at h
  ·cases of_decide_eq_true h;exact⟨qN,fun _=>Wa go qN fun _=>rfl⟩
  ·cases h
 | .tup es,X,E,cf,e,go,h=>by
  unfold chkE at h
  split at h
  ·rw [Bool.and_eq_true,decide_eq_true_eq]at h
   have r:=zag (n:= ‹Nat›) (pos:= ‹Pos›) h.1 (fun τ hh ds h' q=>Qh h.2 q) (sndA es go h.2)
   exact⟨r,fun _=>Wa go r fun _=>rfl⟩
  ·cases h
 | .lst es,X,E,cf,e,go,h=>by
  unfold chkE at h
  split at h
  ·rw [Bool.and_eq_true,decide_eq_true_eq]at h
   have r:=qaq (pos:= ‹Pos›) h.1 (fun τ hh ds h' q=>Qh h.2 q) (sndA es go h.2)
   exact⟨r,fun _=>Wa go r fun _=>rfl⟩
  ·cases h
 | .bin o a b,X,E,cf,e,go,h=>by
  unfold chkE at h
  split at h
  ·simp only [Bool.and_eq_true,decide_eq_true_eq]at h
   obtain⟨⟨⟨rfl,ho⟩,h1⟩,h2⟩:=h
   have r:=qam (pos:= ‹Pos›) go ho (sndE a go h1).1 (sndE b go h2).1
   exact⟨r,fun _=>Wa go r fun _=>rfl⟩
  ·cases h
 | .cmp o a b,X,E,cf,e,go,h=>by
  unfold chkE at h
  split at h
  ·simp only [Bool.and_eq_true,decide_eq_true_eq]at h
   obtain⟨⟨⟨⟨rfl,ho⟩,hs⟩,h1⟩,h2⟩:=h
   exact⟨jap go ho hs (sndE a go h1).1 (sndE b go h2).1,fun _=>jW go ho hs (sndE a go h1).1 (sndE b go h2).1⟩
  ·cases h
 | .chain o q a b c,X,E,cf,e,go,h=>by
  unfold chkE at h
  split at h
  ·simp only [Bool.and_eq_true,decide_eq_true_eq]at h
   obtain⟨⟨⟨⟨⟨⟨⟨rfl,rfl⟩,ho⟩,hq⟩,hs⟩,h1⟩,h2⟩,h3⟩:=h
   exact⟨jS go ho hq hs (sndE a go h1).1 (sndE b go h2).1 (sndE c go h3).1,fun _=>qH go ho hq hs (sndE a go h1).1 (sndE b go h2).1 (sndE c go h3).1⟩
  ·cases h
 | .isn _ _,X,E,cf,e,go,h=>by unfold chkE at h;cases h
 | .neg a,X,E,cf,e,go,h=>by
  unfold chkE at h
  split at h
  ·have r:=zal (pos:= ‹Pos›) (sndE a go h).1
   exact⟨r,fun _=>Wa go r fun _=>rfl⟩
  ·cases h
 | .inv _,X,E,cf,e,go,h=>by unfold chkE at h;cases h
 | .not a,X,E,cf,e,go,h=>by
  unfold chkE at h
  split at h
  ·exact⟨xaq go (sndE a go h).1,fun t=>ZW ((sndE a go h).2 t)⟩
  ·cases h
 | .and a b,X,E,cf,e,go,h=>by
  unfold chkE at h
  split at h
  ·rename_i x y rest p
   rw [Bool.and_eq_true]at h
   obtain⟨h1,h2⟩:=h
   split at h2
   ·exact⟨ZJ go (sndE a go h1).1 (w6 (sndE b go h2).1),fun t=>by
     have t:tOk a=true/\tOk b=true:=by simpa [tOk]using t
     exact(XB ((sndE a go h1).2 t.1) (qal ((sndE b go h2).2 t.2))).pt⟩
   ·exact⟨ZJ go (sndE a go h1).1 (sndE b go h2).1,fun t=>by
     have t:tOk a=true/\tOk b=true:=by simpa [tOk]using t
     exact(XB ((sndE a go h1).2 t.1) (PW.of_bool ((sndE b go h2).2 t.2))).pt⟩
  ·cases h
 | .or a b,X,E,cf,e,go,h=>by
  unfold chkE at h
  split at h
  ·rename_i x y rest p
   rw [Bool.and_eq_true]at h
   obtain⟨h1,h2⟩:=h
   split at h2
   ·exact⟨W8 go (sndE a go h1).1 (w6 (sndE b go h2).1),fun t=>by
     have t:tOk a=true/\tOk b=true:=by simpa [tOk]using t
     exact(ZM ((sndE a go h1).2 t.1) (jau ((sndE b go h2).2 t.2))).pt⟩
   ·exact⟨W8 go (sndE a go h1).1 (sndE b go h2).1,fun t=>by
     have t:tOk a=true/\tOk b=true:=by simpa [tOk]using t
     exact(ZM ((sndE a go h1).2 t.1) (PW.of_bool ((sndE b go h2).2 t.2))).pt⟩
  ·cases h
 | .ite _ _ _,X,E,cf,e,go,h=>by unfold chkE at h;cases h
 | .call f es,X,E,cf,e,go,h=>by
  unfold chkE at h
  split at h
  ·simp only [Bool.and_eq_true]at h
   have r:=wU (pos:= ‹Pos›) go h.1.1 h.1.2 (wd h.2) (sndWs es go h.2)
   obtain⟨p,rfl,_,_⟩:=Xa h.1.1
   exact⟨r,fun _=>Wa go r fun _=>rfl⟩
  ·simp only [Bool.and_eq_true]at h
   cases es with
   | cons _ _=>exact absurd h.2 Bool.false_ne_true
   | nil=>
    have r:=ZQ (pos:= ‹Pos›) go h.1.1 h.1.2
    obtain⟨p,rfl,_,_⟩:=Xa h.1.1
    exact⟨r,fun _=>Wa go r fun _=>rfl⟩
  ·cases h
 | .bi b es,X,E,cf,e,go,h=>by
  unfold chkE at h
  split at h
  ·simp only [Bool.and_eq_true]at h
   have r:=zaI (pos:= ‹Pos›) go h.1.2 h.1.1 (wd h.2) (sndWs es go h.2)
   obtain⟨p,rfl,_,_⟩:=Xa h.1.1
   exact⟨r,fun _=>Wa go r fun _=>rfl⟩
  ·cases h
 | .isT a t,X,E,cf,e,go,h=>by
  unfold chkE at h
  split at h
  ·simp only [Bool.and_eq_true,decide_eq_true_eq]at h
   obtain⟨⟨⟨⟨h1,h2⟩,h3⟩,h4⟩,h5⟩:=h
   have r:=jan (pos:= ‹Pos›) go h3 h1 h2 h4 (sndE a go h5).1
   obtain⟨p,rfl,_,_⟩:=Xa h1
   exact⟨r,fun _=>Wa go r fun _=>rfl⟩
  ·cases h
 | .isX a one ts,X,E,cf,e,go,h=>by
  unfold chkE at h
  split at h
  ·rename_i g x y pos
   simp only [Bool.and_eq_true]at h
   obtain⟨⟨⟨h1,h2⟩,h3⟩,h4⟩:=h
   have fin:PE X (.Call g [x,y] [] pos) (tD Γ E (M.eval F (.isX a one ts))):=by
    split at h4
    ·split at h4
     ·simp only [Bool.and_eq_true,Bool.or_eq_true,decide_eq_true_eq]at h4
      exact zU go h4.2 h1 h4.1 h2 (sndE a go h3).1
     ·cases h4
    ·split at h4
     ·simp only [Bool.and_eq_true,decide_eq_true_eq]at h4
      exact Q3 go h4.1 h1 h4.2 h2 (sndE a go h3).1
     ·cases h4
   obtain⟨p,rfl,_,_⟩:=Xa h1
   exact⟨fin,fun _=>Wa go fin fun _=>rfl⟩
  ·cases h
 | .ix a b,X,E,cf,e,go,h=>by
  unfold chkE at h
  split at h
  ·simp only [Bool.and_eq_true]at h
   have r:=qaG (pos:= ‹Pos›) go h.1.1 (sndE a go h.1.2).1 (sndE b go h.2).1
   exact⟨r,fun _=>Wa go r fun _=>rfl⟩
  ·cases h
 | .sl _ _ _,X,E,cf,e,go,h=>by unfold chkE at h;cases h
 | .slL _ _,X,E,cf,e,go,h=>by unfold chkE at h;cases h
 | .slH a hi,X,E,cf,e,go,h=>by
  unfold chkE at h
  split at h
  ·rename_i p2 pos
   simp only [Bool.and_eq_true]at h
   have r:=J9 (pos:=pos) (p2:=p2) go (sndE a go h.1).1 (sndE hi go h.2).1
   exact⟨r,fun _=>Wa go r fun _=>rfl⟩
  ·cases h
 | .rev _,X,E,cf,e,go,h=>by unfold chkE at h;cases h
 | .comp tg one kk cap it hasIf c elt,X,E,cf,e,go,h=>by
  unfold chkE at h
  split at h
  ·rename_i y t iter ifs scope pos
   simp only [Bool.and_eq_true,List.all_eq_true,decide_eq_true_eq]at h
   obtain⟨⟨⟨⟨⟨h1,h2⟩,h3⟩,h4⟩,h5⟩,h6⟩:=h
   have sc:=jf h1
   have ht: ∀C fp s H,PTs (cxComp X (blockN cf t cap) scope C fp s H) ifs (tDT Γ E0 (condC F hasIf c)):=fun C fp s H=>by
    have gc:=qf go sc C fp s H
    split at h6
    ·split at h6
     ·rename_i z
      rw [Bool.and_eq_true]at h6
      exact jP ((sndE c gc h6.2).2 h6.1)
     ·cases h6
    ·split at h6
     ·intro pins s1 σ H1 Q I ⟨G,τ,h,st,p⟩
      exact ZP pins s1 σ H1 Q I (p G H1 Ext.refl st.heap)
     ·cases h6
   have r:=WZ (pos:=pos) go sc (xk sc.cap) h3 h2 (xt h4) (sndI it go h4) (fun C fp s H=>(sndE elt (qf go sc C fp s H) h5).1) ht
   exact⟨r,fun _=>Wa go r fun _=>rfl⟩
  ·cases h
 | .compR _ _ _ _ _ _,X,E,cf,e,go,h=>by unfold chkE at h;cases h
 | .dnew,X,E,cf,e,go,h=>by
  unfold chkE at h
  split at h
  ·have r:=WW (pos:= ‹Pos›) (X:=X) (Γ:=Γ) (E:=E) (F:=F)
   exact⟨r,fun _=>Wa go r fun _=>rfl⟩
  ·cases h
 | .din neg a i,X,E,cf,e,go,h=>by
  unfold chkE at h
  split at h
  ·rename_i x p y q1 q2
   simp only [Bool.and_eq_true,decide_eq_true_eq]at h
   obtain⟨⟨⟨⟨rfl,h1⟩,h2⟩,h3⟩,h4⟩:=h
   exact⟨zaa go h1 h2 h3 (sndE a go h4).1,fun _=>xV go h1 h2 h3 (sndE a go h4).1⟩
  ·cases h
 | .dlen _,X,E,cf,e,go,h=>by unfold chkE at h;cases h
 | .share a,X,E,cf,e,go,h=>by
  unfold chkE at h
  exact⟨XO (sndE a go h).1,fun t=>by cases t⟩
 | .lenset _,X,E,cf,e,go,h=>by unfold chkE at h;cases h
 | .lensT _,X,E,cf,e,go,h=>by unfold chkE at h;cases h
 | .trange _,X,E,cf,e,go,h=>by unfold chkE at h;cases h
 | .lrange _,X,E,cf,e,go,h=>by unfold chkE at h;cases h
 | .sorti _,X,E,cf,e,go,h=>by unfold chkE at h;cases h
 | .geT _ _,X,E,cf,e,go,h=>by unfold chkE at h;cases h
 | .ltL _ _,X,E,cf,e,go,h=>by unfold chkE at h;cases h
 | .meth _ _ _,X,E,cf,e,go,h=>by unfold chkE at h;cases h
theorem sndA: ∀(es:M.Es){X:Cx}{E:XK}{cf:Cf}{xs:List Expr},Go Γ F X E k cf->chkEs cf es xs=true->PA X xs (tDA Γ E (M.evalDs F es))
 | .nil,X,E,cf,xs,go,h=>by
  unfold chkEs at h
  split at h
  ·exact jU
  ·cases h
 | .cons a es,X,E,cf,xs,go,h=>by
  unfold chkEs at h
  split at h
  ·simp only [Bool.and_eq_true]at h
   exact XS h.1.1 (sndE a go h.1.2).1 (sndA es go h.2)
  ·cases h
theorem sndWs: ∀(es:M.Es){X:Cx}{E:XK}{cf:Cf}{xs:List Expr},Go Γ F X E k cf->chkEs cf es xs=true->PA X xs (tDW Γ E (M.evalWs F es))
 | .nil,X,E,cf,xs,go,h=>by
  unfold chkEs at h
  split at h
  ·exact JV
  ·cases h
 | .cons a es,X,E,cf,xs,go,h=>by
  unfold chkEs at h
  split at h
  ·simp only [Bool.and_eq_true]at h
   exact QO h.1.1 (sndE a go h.1.2).1 (sndWs es go h.2)
  ·cases h
theorem sndI: ∀(it:M.It){X:Cx}{E:XK}{cf:Cf}{tg e:Expr},Go Γ F X E k cf->chkIt cf it e=true->PI X tg e (tDI Γ E false (M.evalIt F it))
 | .seq a,X,E,cf,tg,e,go,h=>by
  unfold chkIt at h
  rw [Bool.and_eq_true]at h
  exact Q1 go (sndE a go h.2).1
 | .range1 a,X,E,cf,tg,e,go,h=>by
  unfold chkIt at h
  split at h
  ·simp only [Bool.and_eq_true]at h
   exact Wj go h.1.1 h.1.2 (sndE a go h.2).1
  ·cases h
 | .range2 a b,X,E,cf,tg,e,go,h=>by
  unfold chkIt at h
  split at h
  ·simp only [Bool.and_eq_true]at h
   exact Xj go h.1.1.1.1 h.1.1.1.2 h.1.1.2 (sndE a go h.1.2).1 (sndE b go h.2).1
  ·cases h
 | .rev a,X,E,cf,tg,e,go,h=>by
  unfold chkIt at h
  split at h
  ·simp only [Bool.and_eq_true]at h
   exact XX go h.1.1 h.1.2 (sndE a go h.2).1
  ·cases h
 | .zip a b,X,E,cf,tg,e,go,h=>by unfold chkIt at h;cases h
 | .enum a,X,E,cf,tg,e,go,h=>by unfold chkIt at h;cases h
end
end
end L2.MS
namespace L2.MS
open PySem PySem.Spec PyProof.Rows
structure Bs where
 G:Gh
 H:Hp
 h:M.AH
structure StS (Γ:Ge) (B:Bs) (G:Gh) (τ:M.Sl) (h:M.AH) (σ:St) (H:Hp):Prop where
 st:StRel Γ G τ h σ H
 ext:Ext B.G B.H G H
 hr:HRel Γ B.G B.h B.H
 own: ∀i xs a,M.getS τ i=some (.own xs)->σ[i]? =some (some (.ref a))->B.H a=none
def PostO (Γ:Ge) (E:XK) (B:Bs) (o:M.O) (D:Ends):Prop:=match o with
 | .next τ h=> ∀G σ H,StS Γ B G τ h σ H->D.nx σ H
 | .ret w h=> ∀G v H,Ext B.G B.H G H->HRel Γ G h H->RelW Γ G H w v->FreshW [] [] B.H w v->D.rt v H
 | .brk τ h=> ∀G σ H,StS Γ B G τ h σ H->D.bk σ H
 | .cont τ h=> ∀G σ H,StS Γ B G τ h σ H->D.ct σ H
 | .exc d h=> ∀G H,Ext B.G B.H G H->HRel Γ G h H->ExcE Γ E d H
 | .fail=>False
def tDS (Γ:Ge) (E:XK) (m:M.Sl->M.AH->M.O):TS:=fun D σ H=> ∃B G τ h,StS Γ B G τ h σ H/\PostO Γ E B (m τ h) D
theorem PS.imp {X:Cx}{st:Stmt}{t t':TS}(h:PS X st t) (k: ∀D σ H,t' D σ H->t D σ H):PS X st t':=fun pins s σ H D I q=>h pins s σ H D I (k _ _ _ q)
theorem PSs.imp {X:Cx}{st:List Stmt}{t t':TS}(h:PSs X st t) (k: ∀D σ H,t' D σ H->t D σ H):PSs X st t':=fun pins s σ H D I q=>h pins s σ H D I (k _ _ _ q)
section
variable {Γ:Ge}{E:XK}{B:Bs}{G G1:Gh}{τ:M.Sl}{h h1:M.AH}{σ:St}{H H1:Hp}{D:Ends}
theorem StS.on (s:StS Γ B G τ h σ H) (e:Ext G H G1 H1) (hr:HRel Γ G1 h1 H1):StS Γ B G1 τ h1 σ H1:=⟨s.st.ext e hr,s.ext.trans s.hr e,s.hr,s.own⟩
theorem PostO.exc {α:Type}{P:α->M.AH->Gh->Hp->Prop}{d:M.D}(s:StS Γ B G τ h σ H) (p:PostO Γ E B (.exc d h1) D):Post Γ E G H (.exc d h1) P:=fun G' H' e hr=>p G' H' (s.ext.trans s.hr e) hr
theorem zd {m:M.Sl->M.AH->M.R M.W}{f:M.W->M.AH->M.O}{Q:VK}(s:StS Γ B G τ h σ H) (p:PostO Γ E B ((m τ h).toO f) D)
 (k: ∀w v h1 G1 H1,Ext G H G1 H1->StS Γ B G1 τ h1 σ H1->RelW Γ G1 H1 w v->FreshW τ σ H w v->PostO Γ E B (f w h1) D->Q v H1):tD Γ E m σ H Q:=by
 refine⟨G,τ,h,s.st,?_⟩
 cases q:m τ h with
 | ok w h1=>rw [q]at p;exact fun G1 H1 e hr v z1 z2=>k w v h1 G1 H1 e (s.on e hr) z1 z2 p
 | exc d h1=>rw [q]at p;exact PostO.exc s p
 | fail=>rw [q]at p;exact p
theorem jB {m:M.Sl->M.AH->M.R Bool}{f:Bool->M.AH->M.O}{Q:Bool->Hp->Prop}(s:StS Γ B G τ h σ H) (p:PostO Γ E B ((m τ h).toO f) D)
 (k: ∀b h1 G1 H1,Ext G H G1 H1->StS Γ B G1 τ h1 σ H1->PostO Γ E B (f b h1) D->Q b H1):tDT Γ E m σ H Q:=by
 refine⟨G,τ,h,s.st,?_⟩
 cases q:m τ h with
 | ok w h1=>rw [q]at p;exact fun G1 H1 e hr=>k w h1 G1 H1 e (s.on e hr) p
 | exc d h1=>rw [q]at p;exact PostO.exc s p
 | fail=>rw [q]at p;exact p
theorem StS.set {w:M.W}{v:V}{i:Nat}(s0:StS Γ B G τ h σ H) (e:Ext G H G1 H1) (s:StS Γ B G1 τ h1 σ H1) (r:RelW Γ G1 H1 w v) (f:FreshW τ σ H w v) (hb: ∀xs,w≠ .bor xs):StS Γ B G1 (M.setS τ i w) h1 (σ.set i (some v)) H1:=by
 refine⟨s.st.set r fun hl j w' hj e1 hl' a ea z=> ?_,s.ext,s.hr,fun j xs a e1 e2=> ?_⟩
 ·cases w with
  | v d=>cases hl
  | bor xs=>exact hb xs rfl
  | own xs=>
   obtain⟨b,eb,hn⟩:=f
   subst ea
   cases eb
   obtain⟨o,z'⟩:=s0.st.slotThere e1 hl' z
   rw [hn]at z';cases z'
 ·rw [jb]at e1
  by_cases c:j=i/\i<τ.length
  ·rw [if_pos c]at e1
   cases e1
   obtain⟨rfl,c⟩:=c
   rw [List.getElem?_set_self (by rw [← s.st.len];exact c)]at e2
   cases e2
   obtain⟨b,eb,hn⟩:=f
   cases eb
   exact s0.ext.none s0.hr hn
  ·rw [if_neg c]at e1
   have hj:j≠i:=fun z=>c ⟨z,by subst z;exact Wd e1⟩
   rw [List.getElem?_set_ne (Ne.symm hj)]at e2
   exact s.own j xs a e1 e2
theorem StS.fz {w:M.W}{v:V}{d:M.D}(s0:StS Γ B G τ h σ H) (e:Ext G H G1 H1) (s:StS Γ B G1 τ h1 σ H1) (r:RelW Γ G1 H1 w v) (f:FreshW τ σ H w v) (hd:w.d=some d): ∃G2,Ext G H G2 H1/\StS Γ B G2 τ h1 σ H1/\RelD Γ G2 H1 d v:=by
 obtain⟨G2,e2,s2,rd,_⟩:=toD e s.st s0.st r f hd
 exact⟨G2,e2,⟨s2,s0.ext.trans s0.hr e2,s.hr,s.own⟩,rd⟩
theorem StS.setD {d:M.D}{v:V}{i:Nat}(s:StS Γ B G τ h σ H) (r:RelD Γ G H d v):StS Γ B G (M.setS τ i (.v d)) h (σ.set i (some v)) H:=StS.set (w:= .v d) s Ext.refl s r trivial fun xs z=>by cases z
theorem StS.setTup: ∀ {is:List Nat}{ds:List M.D}{vs:List V}{τ τ':M.Sl}{σ:St},M.setTup is ds τ=some τ'->RelDs Γ G H ds vs->StS Γ B G τ h σ H->StS Γ B G τ' h (setV is vs σ) H/\is.length=vs.length
 | [],[],_,_,_,_,e,rfl,s=>by cases e;exact⟨s,rfl⟩
 | [],_::_,_,_,_,_,e,_,_=>by simp [M.setTup]at e
 | _::_,[],_,_,_,_,e,_,_=>by simp [M.setTup]at e
 | i::is,d::ds,_,_,_,_,e,⟨v,r,rfl,z1,z2⟩,s=>by
  obtain⟨h1,h2⟩:=StS.setTup (is:=is) (ds:=ds) (by simpa [M.setTup]using e) z2 (s.setD (i:=i) z1)
  exact⟨h1,congrArg (· +1) h2⟩
theorem qau {tg:List Nat}{one:Bool}{d:M.D}{x:V}{τ':M.Sl}{Q:St->Hp->Prop}(e:M.bindT tg one d τ=some τ') (r:RelD Γ G H d x) (s:StS Γ B G τ h σ H) (kq: ∀σ',StS Γ B G τ' h σ' H->Q σ' H):gM Γ tg one x σ H Q:=by
 unfold M.bindT at e
 cases one with
 | true=>
  cases tg with
  | nil=>cases e
  | cons i r'=>
   cases r' with
   | cons _ _=>cases e
   | nil=>
    cases e
    exact⟨i,rfl,kq _ (s.setD r)⟩
 | false=>
  cases d with
  | tup ds=>
   obtain⟨a,vs,rfl,z2,z3⟩:=r
   obtain⟨s',hl⟩:=StS.setTup (show M.setTup tg ds τ=some τ' from e) z3 s
   exact⟨G,ds,vs,a,rfl,z2,z3,hl,kq _ s'⟩
  | _=>cases e
theorem StS.write {i:Nat}{xs ys:List M.D}{us:List V}{a:Addr}(s:StS Γ B G τ h σ H) (e1:M.getS τ i=some (.own xs)) (e2:σ[i]? =some (some (.ref a))) (r:RelDs Γ G H ys us):StS Γ B G (M.setS τ i (.own ys)) h σ (upd H a (.lst us)):=by
 obtain⟨nf,of,vs,ha,_⟩:=Xd s.st e1 e2
 have hB:=s.own i xs a e1 e2
 have mon:Mon G H G (upd H a (.lst us)):=⟨fun b o z q=>by rw [qa (fun e:b=a=>nf (e▸z))];exact q,Nat.le_refl _,fun _ _=>rfl,fun _ z=>z⟩
 have hil:i<τ.length:=Wd e1
 have hr':HRel Γ G h (upd H a (.lst us)):=by
  refine⟨s.st.heap.len,fun q zs e=> ?_,s.st.heap.pure,s.st.heap.inj,fun b z=> ?_,fun q ks e=> ?_⟩
  ·obtain⟨z1,ws,z2,z3⟩:=s.st.heap.cell q zs e
   have hq:q<G.n:=by rw [← s.st.heap.len];exact(List.getElem?_eq_some_iff.mp e).1
   exact⟨z1,ws,by rw [qa (of q hq)];exact z2,z3.mon mon⟩
  ·obtain⟨o,q⟩:=s.st.heap.live b z
   exact⟨o,by rw [qa (fun e:b=a=>nf (e▸z))];exact q⟩
  ·obtain⟨z1,ws,z2,z3,z4⟩:=s.st.heap.dic q ks e
   have hq:q<G.n:=by rw [← s.st.heap.len];exact(List.getElem?_eq_some_iff.mp e).1
   exact⟨z1,ws,by rw [qa (of q hq)];exact z2,z3,fun x hx=>(z4 x hx).mon mon⟩
 refine⟨⟨by rw [Zd];exact s.st.len,fun j w e=> ?_,fun p q zs w b hpq q1 q2 hl q3=> ?_,hr'⟩,⟨fun b o q hof=> ?_,s.ext.le,s.ext.rho,s.ext.new,s.ext.fz,s.ext.old,fun q hq z=> ?_⟩,s.hr,fun j zs b q1 q2=> ?_⟩
 ·rw [jb]at e
  by_cases c:j=i/\i<τ.length
  ·rw [if_pos c]at e
   cases e
   obtain⟨rfl,_⟩:=c
   exact⟨.ref a,e2,a,us,rfl,nf,of,xb,r.mon mon⟩
  ·rw [if_neg c]at e
   have hj:j≠i:=fun z=>c ⟨z,by subst z;exact Wd e⟩
   obtain⟨v,z1,z2⟩:=s.st.slot j w e
   refine⟨v,z1,?_⟩
   cases w with
   | v d=>exact RelD.mon mon z2
   | own ws=>
    obtain⟨b,bs,rfl,y2,y3,y4,y5⟩:=z2
    have hb:b≠a:=fun z=>s.st.apart i j xs (.own ws) a (Ne.symm hj) e1 e rfl e2 (z▸z1)
    exact⟨b,bs,rfl,y2,y3,by rw [qa hb];exact y4,y5.mon mon⟩
   | bor ws=>
    obtain⟨b,bs,rfl,y3,y4,y5⟩:=z2
    have hb:b≠a:=fun z=>s.st.apart i j xs (.bor ws) a (Ne.symm hj) e1 e rfl e2 (z▸z1)
    refine⟨b,bs,rfl,y3,?_,y5.mon mon⟩
    rcases y4 with y4 | ⟨o,y4⟩
    ·exact .inl (by rw [qa hb];exact y4)
    ·exact .inr ⟨o,by rw [qa hb];exact y4⟩
 ·rw [jb]at q1 q2
  have f1: ∃zs',M.getS τ p=some (.own zs'):=by
   by_cases c:p=i/\i<τ.length
   ·exact⟨xs,by rw [c.1];exact e1⟩
   ·rw [if_neg c]at q1;exact⟨zs,q1⟩
  have f2: ∃w',M.getS τ q=some w'/\isL w'=true:=by
   by_cases c:q=i/\i<τ.length
   ·exact⟨.own xs,by rw [c.1];exact e1,rfl⟩
   ·rw [if_neg c]at q2;exact⟨w,q2,hl⟩
  obtain⟨zs',f1⟩:=f1
  obtain⟨w',f2,hl'⟩:=f2
  exact s.st.apart p q zs' w' b hpq f1 f2 hl' q3
 ·rw [qa (fun e:b=a=>by rw [e,hB]at q;cases q)]
  exact s.ext.keep b o q hof
 ·obtain⟨o,z'⟩:=s.ext.cells q hq z
  have:B.G.rho q≠a:=fun e=>by
   have:=of q (Nat.lt_of_lt_of_le hq s.ext.le)
   rw [s.ext.rho q hq]at this
   exact this e
  exact⟨o,by rw [qa this];exact z'⟩
 ·rw [jb]at q1
  by_cases c:j=i/\i<τ.length
  ·obtain⟨rfl,_⟩:=c
   rw [e2]at q2
   cases q2
   exact hB
  ·rw [if_neg c]at q1;exact s.own j zs b q1 q2
theorem StS.dcell {r:Nat}{xs ys:List M.WK}{us:List (M.WK×Addr×Value)}(s:StS Γ B G τ h σ H) (e1:h[r]? =some (.dic xs)) (hp:us.map (·.1)=ys) (z: ∀x∈us,RelD Γ G H (wkT x.1) (.ref x.2.1)):StS Γ B G τ (h.set r (.dic ys)) σ (upd H (G.rho r) (DW (G.rho r) us)):=by
 have hl:r<h.length:=(List.getElem?_eq_some_iff.mp e1).1
 have hr:r<G.n:=by rw [← s.st.heap.len];exact hl
 obtain⟨nf,vs,hv,_⟩:=s.st.heap.dic r xs e1
 have mon:Mon G H G (upd H (G.rho r) (DW (G.rho r) us)):=⟨fun b o w q=>by rw [qa (fun e:b=G.rho r=>nf (e▸w))];exact q,Nat.le_refl _,fun _ _=>rfl,fun _ w=>w⟩
 have look: ∀q zs,(h.set r (.dic ys))[q]? =some (M.Cell.lst zs)->q≠r/\h[q]? =some (.lst zs):=fun q zs e=>by
  by_cases c:q=r
  ·subst c
   rw [List.getElem?_set_self hl]at e
   cases e
  ·rw [List.getElem?_set_ne (Ne.symm c)]at e
   exact⟨c,e⟩
 have hr':HRel Γ G (h.set r (.dic ys)) (upd H (G.rho r) (DW (G.rho r) us)):=by
  refine⟨by rw [List.length_set];exact s.st.heap.len,fun q zs e=> ?_,fun q zs e=> ?_,s.st.heap.inj,fun b w=> ?_,fun q ks e=> ?_⟩
  ·obtain⟨c,e⟩:=look q zs e
   obtain⟨z1,ws,z2,z3⟩:=s.st.heap.cell q zs e
   have hq:q<G.n:=by rw [← s.st.heap.len];exact(List.getElem?_eq_some_iff.mp e).1
   exact⟨z1,ws,by rw [qa fun e=>c (s.st.heap.inj q r hq hr e)];exact z2,z3.mon mon⟩
  ·obtain⟨c,e⟩:=look q zs e
   exact s.st.heap.pure q zs e
  ·obtain⟨o,q⟩:=s.st.heap.live b w
   exact⟨o,by rw [qa (fun e:b=G.rho r=>nf (e▸w))];exact q⟩
  ·by_cases c:q=r
   ·subst c
    rw [List.getElem?_set_self hl]at e
    cases e
    exact⟨nf,us,xb,hp,fun x hx=>(z x hx).mon mon⟩
   ·rw [List.getElem?_set_ne (Ne.symm c)]at e
    obtain⟨z1,ws,z2,z3,z4⟩:=s.st.heap.dic q ks e
    have hq:q<G.n:=by rw [← s.st.heap.len];exact(List.getElem?_eq_some_iff.mp e).1
    exact⟨z1,ws,by rw [qa fun e=>c (s.st.heap.inj q r hq hr e)];exact z2,z3,fun x hx=>(z4 x hx).mon mon⟩
 refine⟨⟨s.st.len,fun j w e=> ?_,s.st.apart,hr'⟩,⟨fun b o q hof=> ?_,s.ext.le,s.ext.rho,s.ext.new,s.ext.fz,s.ext.old,fun q hq w=> ?_⟩,s.hr,s.own⟩
 ·obtain⟨v,z1,z2⟩:=s.st.slot j w e
  refine⟨v,z1,?_⟩
  cases w with
  | v d=>exact RelD.mon mon z2
  | own ws=>
   obtain⟨b,bs,rfl,y2,y3,y4,y5⟩:=z2
   exact⟨b,bs,rfl,y2,y3,by rw [qa (Ne.symm (y3 r hr))];exact y4,y5.mon mon⟩
  | bor ws=>
   obtain⟨b,bs,rfl,y3,y4,y5⟩:=z2
   refine⟨b,bs,rfl,y3,?_,y5.mon mon⟩
   rcases y4 with y4 | ⟨o,y4⟩
   ·exact .inl (by rw [qa (Ne.symm (y3 r hr))];exact y4)
   ·exact .inr ⟨o,by rw [qa (Ne.symm (y3 r hr))];exact y4⟩
 ·have hb:b≠G.rho r:=fun e=>by
   by_cases c:r<B.G.n
   ·exact hof r c (by rw [← s.ext.rho r c];exact e.symm)
   ·have:=s.ext.new r (Nat.not_lt.mp c) hr
    rw [← e,q]at this
    cases this
  rw [qa hb]
  exact s.ext.keep b o q hof
 ·by_cases c:B.G.rho q=G.rho r
  ·exact⟨_,by rw [c];exact xb⟩
  ·obtain⟨o,w'⟩:=s.ext.cells q hq w
   exact⟨o,by rw [qa c];exact w'⟩
theorem StS.freeze {i:Nat}{xs:List M.D}(s:StS Γ B G τ h σ H) (e1:M.getS τ i=some (.own xs)): ∃G',StS Γ B G' (M.setS τ i (.v (.lst xs))) h σ H:=by
 obtain⟨v,e2,a,vs,rfl,nf,of,ha,rs⟩:=s.st.slot i _ e1
 have hB:=s.own i xs a e1 e2
 refine⟨G.more a,⟨⟨by rw [Zd];exact s.st.len,fun j w e=> ?_,fun p q zs w b hpq q1 q2 hl q3=> ?_,s.st.heap.more of ⟨_,ha⟩⟩,s.ext.more hB,s.hr,fun j zs b q1 q2=> ?_⟩⟩
 ·rw [jb]at e
  by_cases c:j=i/\i<τ.length
  ·rw [if_pos c]at e
   cases e
   obtain⟨rfl,_⟩:=c
   exact⟨.ref a,e2,a,vs,rfl,.inl ⟨.inr rfl,.inl ha⟩,rs.mon (Qd a)⟩
  ·rw [if_neg c]at e
   have hj:j≠i:=fun z=>c ⟨z,by subst z;exact Wd e⟩
   obtain⟨v,z1,z2⟩:=s.st.slot j w e
   exact⟨v,z1,z2.more fun hl ev=>s.st.apart i j xs w a (Ne.symm hj) e1 e hl e2 (ev▸z1)⟩
 ·rw [jb]at q1 q2
  by_cases c:p=i/\i<τ.length
  ·rw [if_pos c]at q1;cases q1
  ·rw [if_neg c]at q1
   by_cases c':q=i/\i<τ.length
   ·rw [if_pos c']at q2;cases q2;cases hl
   ·rw [if_neg c']at q2;exact s.st.apart p q zs w b hpq q1 q2 hl q3
 ·rw [jb]at q1
  by_cases c:j=i/\i<τ.length
  ·rw [if_pos c]at q1;cases q1
  ·rw [if_neg c]at q1;exact s.own j zs b q1 q2
end
end L2.MS
namespace L2.MS
open PySem PySem.Spec PyProof.Rows
structure GoS (Γ:Ge) (F:M.Fx) (X:Cx) (E:XK) (k:Nat) (cf:Cf):Prop extends Go Γ F X E k cf where
 pown:PassesOwn (model X.prog X.w) X.A X.env X.xe
 stk:X.stack=X.env::X.outer
 frm:X.env.frame=some X.env.locals
 ex:X.ex= []
 rai: ∀c,cf.rai.contains c=true->glB cf.sc (strS c)=true->(strS c==("__debug__" :Str))=false->XOk Γ c/\ ∀(np cpos pos:Pos) (e:Expr) (es:List Expr) (t:TA),PA X (e::es) t->(∀ e'∈e::es,notStar e'=true) →
  PS X (.Raise (some (.Call (.Name (strS c) np) (e::es) [] cpos)) none pos) (tRaise (Γ.ca c) E t)
 hnd: ∀c,cf.hnd.contains c=true->PySem.W.mroIn X.K (Γ.ca c) (.type "BaseException")=some true/\cf.own.contains c=true
section
variable {Γ:Ge}{F:M.Fx}{X:Cx}{E:XK}{k:Nat}{cf:Cf}
theorem Zg {i:Nat}{x:Str}(h:storB cf i x=true):cf.N[i]? =some x/\locB cf.sc x=true:=by
 simpa [storB]using h
theorem wo {i:Nat}{x:Str}(h:localB cf i x=true):cf.N[i]? =some x/\cf.sc.names.lookup x=some .local:=by
 simpa [localB]using h
theorem xW {a:M.E}{σ:St}{H:Hp}{Q:VK}(h0:tD Γ E (M.eval F (.share a)) σ H Q):tD Γ E (M.eval F a) σ H Q:=by
 obtain⟨G,τ,h,s,p⟩:=h0
 rw [M.eval]at p
 refine Ja s.heap Ext.refl s p fun w1 v1 h1 G1 H1 e1 e1' s1 r1 f1 p1=> ?_
 cases w1 with
 | own xs=>
  obtain⟨l,vs,rfl,z2,z3,z4,z5⟩:=r1
  obtain⟨l',el,hl⟩:=f1
  cases el
  have p1:Post Γ E G H (if M.noRefs xs=true then M.okv (.ref h1.length) (h1++ [.lst xs])else .fail) _:=p1
  by_cases hp:M.noRefs xs=true
  rotate_left
  ·rw [if_neg hp]at p1;exact p1.elim
  rw [if_pos hp]at p1
  refine Post.val p1 (xr e1 hl) (qx s1.heap z2 z3 z4 z5 hp) (v:= .ref l) ?_ trivial
  show h1.length<G1.n+1/\V.ref l= .ref (if h1.length=G1.n then l else G1.rho h1.length)
  rw [s1.heap.len,if_pos rfl]
  exact⟨Nat.lt_succ_self _,rfl⟩
 | v d=>exact p1.elim
 | bor xs=>exact p1.elim
theorem Qb {v:Expr}{t:Option Expr}{l:Nat}{env:Env}(h:notComp v=true):swapsWith v t l env=pure false:=by
 cases v<;>first | rfl | (simp [notComp]at h)
theorem zk (go:Go Γ F X E k cf){m:M.E}{v:Expr}{i:Nat}{x:Str}{p pos:Pos}(hl:storB cf i x=true) (hv:PE X v (tD Γ E (M.eval F m))) (hc:swapsWith v (some (.Name x p)) pos.line X.env=pure false):
 PS X (.Assign [.Name x p] v pos) (tAsg (tD Γ E (M.eval F m)) (gName i)):=by
 obtain⟨h1,h2⟩:=Zg hl
 have hl:=go.sto x h2
 exact Z7 (by rw [go.N];exact go.nd) (by rw [go.N];exact h1) hl.1 hv hc hl.2
def isSC:M.E->Bool
 | .share _=>true
 | .comp .. =>true
 | .compR .. =>true
 | _=>false
theorem xX {m:M.E}{v:Expr}(h:chkE cf m v=true) (hm:isSC m=false):notComp v=true:=by
 cases m<;>unfold chkE at h<;>first
  | (exact absurd (show true=false from hm) Bool.noConfusion)
  | (split at h<;>first | rfl | cases h)
  | (obtain ⟨p,rfl,_,_⟩:=Xa h;rfl)
  | cases h
def ifOk (cb:Cf) (hasIf:Bool) (ifs:List Expr) (c:M.E):Bool:=match hasIf with
 | true=>(match ifs with
  | [z]=>tOk c&&chkE cb c z
  | _=>false)
 | false=>(match ifs with
  | []=>true
  | _=>false)
theorem WU {tg:List Nat}{one hasIf:Bool}{kk:Nat}{cap:List Nat}{it:M.It}{c elt:M.E}{v:Expr}(h:chkE cf (.comp tg one kk cap it hasIf c elt) v=true): ∃y t iter ifs scope p0,v= .ListComp y [⟨t,iter,ifs,0⟩] scope p0 ∧
 ScOk cf scope (blockN cf t cap) kk cap/\(∀ i∈tg,i<kk)/\chkTarget { cf with sc:=scope,N:=blockN cf t cap } tg one t=true/\chkIt cf it iter=true/\chkE { cf with sc:=scope,N:=blockN cf t cap } elt y=true ∧
 ifOk { cf with sc:=scope,N:=blockN cf t cap } hasIf ifs c=true:=by
 unfold chkE at h
 split at h
 ·rename_i y t iter ifs scope p0
  simp only [Bool.and_eq_true,List.all_eq_true,decide_eq_true_eq]at h
  obtain⟨⟨⟨⟨⟨h1,h2⟩,h3⟩,h4⟩,h5⟩,h6⟩:=h
  exact⟨y,t,iter,ifs,scope,p0,rfl,jf h1,h2,h3,h4,h5,by unfold ifOk;exact h6⟩
 ·cases h
theorem QV (go:Go Γ F X E k cf){v:Expr}{i:Nat}{x:Str}{p pos:Pos}(hl:storB cf i x=true){tg:List Nat}{one hasIf:Bool}{kk:Nat}{cap:List Nat}{it:M.It}{c elt:M.E}(h:chkE cf (.comp tg one kk cap it hasIf c elt) v=true):
 PS X (.Assign [.Name x p] v pos) (tAsg (tD Γ E (M.eval F (.comp tg one kk cap it hasIf c elt))) (gName i)):=by
 have hv:=(sndE (.comp tg one kk cap it hasIf c elt) go h).1
 obtain⟨y,t,iter,ifs,scope,p0,rfl,sc,h2,h3,h4,h5,h6⟩:=WU h
 obtain⟨b,hb⟩: ∃b,swapsWith (.ListComp y [⟨t,iter,ifs,0⟩] scope p0) (some (.Name x p)) pos.line X.env=pure b:=⟨_,rfl⟩
 cases b with
 | false=>exact zk go hl hv hb
 | true=>
  obtain⟨g1,g2⟩:=Zg hl
  have ht: ∀C fp s H,PTs (cxComp X (blockN cf t cap) scope C fp s H) ifs (tDT Γ E0 (condC F hasIf c)):=fun C fp s H=>by
   have gc:=qf go sc C fp s H
   unfold ifOk at h6
   split at h6
   ·split at h6
    ·rename_i z
     rw [Bool.and_eq_true]at h6
     exact jP ((sndE c gc h6.2).2 h6.1)
    ·cases h6
   ·split at h6
    ·intro pins s1 σ H1 Q I ⟨G,τ,h,st,p⟩
     exact ZP pins s1 σ H1 Q I (p G H1 Ext.refl st.heap)
    ·cases h6
  exact jz go g1 g2 hb sc (xk sc.cap) h3 h2 (xt h4) (sndI it go h4) (fun C fp s H=>(sndE elt (qf go sc C fp s H) h5).1) ht
theorem JS (go:Go Γ F X E k cf){v:Expr}{i:Nat}{x:Str}{p pos:Pos}(hl:storB cf i x=true){tg:List Nat}{one:Bool}{kk:Nat}{cap:List Nat}{i0:Nat}{elt:M.E}(h:chkE cf (.compR tg one kk cap i0 elt) v=true):
 PS X (.Assign [.Name x p] v pos) (tAsg (tD Γ E (M.eval F (.compR tg one kk cap i0 elt))) (gName i)):=by
 have hv:=(sndE (.compR tg one kk cap i0 elt) go h).1
 unfold chkE at h
 first
 | exact absurd h Bool.false_ne_true
 | (
  split at h
  ·rename_i y t x1 p1 scope p0
   simp only [Bool.and_eq_true,List.all_eq_true,decide_eq_true_eq]at h
   obtain⟨⟨⟨⟨⟨⟨h1,h2⟩,h3⟩,h4⟩,h5⟩,h6⟩,h7⟩:=h
   have sc:=jf h1
   obtain⟨b,hb⟩: ∃b,swapsWith (.ListComp y [⟨t,.Name x1 p1,[],0⟩] scope p0) (some (.Name x p)) pos.line X.env=pure b:=⟨_,rfl⟩
   cases b with
   | false=>exact zk go hl hv hb
   | true=>
    obtain⟨g1,g2⟩:=Zg hl
    exact snd_setCompR go g1 g2 hb sc h3 h2 h4 h5 h6 fun C fp s H=>(sndE elt (qf go sc C fp s H) h7).1
  ·cases h)
theorem Qa (go:Go Γ F X E k cf){v:Expr}{i:Nat}{x:Str}{p pos:Pos}(hl:storB cf i x=true){m:M.E}(h:chkE cf m v=true) (hm:isSC m=false):PS X (.Assign [.Name x p] v pos) (tAsg (tD Γ E (M.eval F m)) (gName i)):=
 zk go hl (sndE m go h).1 (Qb (xX h hm))
theorem qK (go:Go Γ F X E k cf){v:Expr}{i:Nat}{x:Str}{p pos:Pos}(hl:storB cf i x=true): ∀(m:M.E),chkE cf m v=true->PS X (.Assign [.Name x p] v pos) (tAsg (tD Γ E (M.eval F m)) (gName i))
 | .share a,h=>PS.imp (qK go hl a (by unfold chkE at h;exact h)) fun D σ H q=>xW q
 | .comp ..,h=>QV go hl h
 | .compR ..,h=>JS go hl h
 | .dnew,h=>Qa go hl h rfl
 | .din ..,h=>Qa go hl h rfl
 | .dlen _,h=>Qa go hl h rfl
 | .var _,h=>Qa go hl h rfl
 | .con _,h=>Qa go hl h rfl
 | .int _,h=>Qa go hl h rfl
 | .bl _,h=>Qa go hl h rfl
 | .non,h=>Qa go hl h rfl
 | .str _,h=>Qa go hl h rfl
 | .tup _,h=>Qa go hl h rfl
 | .lst _,h=>Qa go hl h rfl
 | .bin ..,h=>Qa go hl h rfl
 | .cmp ..,h=>Qa go hl h rfl
 | .chain ..,h=>Qa go hl h rfl
 | .isn ..,h=>Qa go hl h rfl
 | .neg _,h=>Qa go hl h rfl
 | .inv _,h=>Qa go hl h rfl
 | .not _,h=>Qa go hl h rfl
 | .and ..,h=>Qa go hl h rfl
 | .or ..,h=>Qa go hl h rfl
 | .ite ..,h=>Qa go hl h rfl
 | .call ..,h=>Qa go hl h rfl
 | .bi ..,h=>Qa go hl h rfl
 | .isT ..,h=>Qa go hl h rfl
 | .isX ..,h=>Qa go hl h rfl
 | .ix ..,h=>Qa go hl h rfl
 | .sl ..,h=>Qa go hl h rfl
 | .slL ..,h=>Qa go hl h rfl
 | .slH ..,h=>Qa go hl h rfl
 | .rev _,h=>Qa go hl h rfl
 | .lenset _,h=>Qa go hl h rfl
 | .lensT _,h=>Qa go hl h rfl
 | .trange _,h=>Qa go hl h rfl
 | .lrange _,h=>Qa go hl h rfl
 | .sorti _,h=>Qa go hl h rfl
 | .geT ..,h=>Qa go hl h rfl
 | .ltL ..,h=>Qa go hl h rfl
 | .meth ..,h=>Qa go hl h rfl
theorem JU (go:Go Γ F X E k cf){v:Expr}{i:Nat}{x:Str}{p pos:Pos}(hl:storB cf i x=true){m:M.E}(h:chkE cf m v=true):PS X (.Assign [.Name x p] v pos) (tDS Γ E (M.exec F (.set i m))):=by
 refine PS.imp (qK go hl m h) fun D σ H qq=> ?_
 obtain⟨B,G,τ,h,s,p⟩:=qq
 rw [M.exec]at p
 refine zd s p fun w v h1 G1 H1 e1 s1 r1 f1 p1=> ?_
 cases w with
 | bor xs=>exact p1.elim
 | v d=>exact p1 G1 _ H1 (StS.set s e1 s1 r1 f1 fun xs z=>by cases z)
 | own ys=>exact p1 G1 _ H1 (StS.set s e1 s1 r1 f1 fun xs z=>by cases z)
theorem WR (go:Go Γ F X E k cf){v:Expr}{i:Nat}{x:Str}{p pos:Pos}(hl:storB cf i x=true){m:M.E}(h:chkE cf m v=true):PS X (.Assign [.Name x p] v pos) (tDS Γ E (M.exec F (.setf i m))):=by
 refine PS.imp (qK go hl m h) fun D σ H qq=> ?_
 obtain⟨B,G,τ,h,s,p⟩:=qq
 rw [M.exec]at p
 refine zd s p fun w v h1 G1 H1 e1 s1 r1 f1 p1=> ?_
 cases q:w.d with
 | none=>rw [q]at p1;exact p1.elim
 | some d=>
  rw [q]at p1
  obtain⟨G2,e2,s2,rd⟩:=StS.fz s e1 s1 r1 f1 q
  exact p1 G2 _ H1 (s2.setD rd)
theorem XJ {v:Expr}{ts:List Expr}{n:Nat}{p:Pos}{l:Nat}{env:Env}:swapsWithSole [.Tuple ts n p] v l env=pure false:=by
 cases v<;>rfl
theorem Qy {v:Expr}{ts:List Expr}{n:Nat}{p:Pos}{env:Env}(h:notTuple v=true):swappedStores [.Tuple ts n p] v env=pure none:=by
 cases v<;>first | rfl | (simp [notTuple]at h)
theorem QY (go:Go Γ F X E k cf){v:Expr}{is:List Nat}{ts:List Expr}{n:Nat}{p pos:Pos}(ht:chkTg cf is ts=true) (hn:notTuple v=true){m:M.E}(h:chkE cf m v=true):PS X (.Assign [.Tuple ts n p] v pos) (tDS Γ E (M.exec F (.unp is m))):=by
 refine PS.imp (jI (sndE m go h).1 (wg go (tg:=is) (one:=false) (e:= .Tuple ts n p) ht) XJ (Qy hn) rfl) fun D σ H qq=> ?_
 obtain⟨B,G,τ,h,s,p⟩:=qq
 rw [M.exec]at p
 refine zd s p fun w v h1 G1 H1 e1 s1 r1 f1 p1=> ?_
 cases w with
 | v d=>
  cases d with
  | tup ds=>
   have p1:PostO Γ E B (match M.setTup is ds τ with | some τ'=> .next τ' h1 | none=> .fail) D:=p1
   cases q:M.setTup is ds τ with
   | none=>rw [q]at p1;exact p1.elim
   | some τ'=>
    rw [q]at p1
    exact qau (one:=false) (show M.bindT is false (.tup ds) τ=some τ' from q) r1 s1 fun σ' s'=>p1 G1 σ' H1 s'
  | _=>exact p1.elim
 | own _=>exact p1.elim
 | bor _=>exact p1.elim
theorem xu {v x y:Expr}{p:Pos}{l:Nat}{env:Env}:swapsWithSole [.Subscript x y p] v l env=pure false:=by
 cases v<;>rfl
theorem Jn {v x y:Expr}{p:Pos}{env:Env}:swappedStores [.Subscript x y p] v env=pure none:=by
 cases v<;>rfl
theorem XQ {x y:Expr}{p:Pos}{env:Env}(hy:notSlice y=true) (v:Value):assign (.Subscript x y p) env v=(do
 let ov ←holding [v] (eval x env)
 let iv ←holding [v,ov] (eval y env)
 standAt p
 holding [v,ov,iv] (setItem ov iv v)
 release [v,ov,iv] []):=by
 cases y<;>first | rfl | (simp [notSlice]at hy)
theorem Z1 {G G':Gh}{H H':Hp}{d:M.D}{v:V}(hf:M.flat d=true) (z:RelD Γ G H d v):RelD Γ G' H' d v:=by
 cases d with
 | non=>exact z
 | bl _=>exact z
 | int _=>exact z
 | str _=>exact z
 | _=>exact absurd (show false=true from hf) Bool.false_ne_true
theorem xp {i:Nat}{m:Str}{e:Expr}{cpos:Pos}(h:isMeth cf i m e cpos=true): ∃x p apos,e= .Attribute (.Name x p) m apos/\cf.N[i]? =some x/\visB cf.sc x=true/\nmB x=true/\(apos.endLine==cpos.line)=true:=by
 unfold isMeth at h
 split at h
 ·simp only [Bool.and_eq_true,decide_eq_true_eq]at h
  obtain⟨⟨⟨⟨h1,h2⟩,h3⟩,rfl⟩,h5⟩:=h
  exact⟨_,_,_,rfl,h1,h2,h3,h5⟩
 ·cases h
theorem WV (go:Go Γ F X E k cf){v f:Expr}{i:Nat}{cpos pos:Pos}(hf:isMeth cf i "append" f cpos=true) (hv:notStar v=true){m:M.E}(h:chkE cf m v=true):PS X (.Expr (.Call f [v] [] cpos) pos) (tDS Γ E (M.exec F (.app i m))):=by
 obtain⟨x,p,apos,rfl,h1,h2,h3,h4⟩:=xp hf
 unfold nmB at h3
 rw [Bool.and_eq_true]at h3
 have pv:=Zl (X:=X) (pos:=p) (by rw [go.N];exact h1) (go.vis x h2) (by simpa using h3.1) (by simpa using h3.2)
 refine PS.imp (Jp (jaa PySem.F.plainAttrs_list PySem.F.slot_list_append PySem.F.type_list_append zM pv (zb (sndE m go h).1 wc (ja hv)) rfl (by rw [ja hv];rfl) h4 (ja hv) rfl) (Qb rfl)) fun D σ H qq=> ?_
 obtain⟨B,G,τ,h,s,p⟩:=qq
 rw [M.exec]at p
 cases q:M.getS τ i with
 | none=>rw [q]at p;exact p.elim
 | some w0=>
  rw [q]at p
  cases w0 with
  | v d=>exact p.elim
  | bor ys=>exact p.elim
  | own ys=>
   obtain⟨v0,e0,a,vs,rfl,z2,z3,z4,z5⟩:=s.st.slot i _ q
   refine⟨.ref a,e0,.inl ⟨rfl,vs,SqL.of z4⟩,?_⟩
   refine zd s p fun w v h1 G1 H1 e1 s1 r1 f1 p1=> ?_
   cases qd:w.d with
   | none=>rw [qd]at p1;exact p1.elim
   | some d=>
    rw [qd]at p1
    obtain⟨G2,e2,s2,rd⟩:=StS.fz s e1 s1 r1 f1 qd
    have p1:PostO Γ E B (if ys.length<M.LIM then .next (M.setS τ i (.own (ys++ [d]))) h1 else .fail) D:=p1
    by_cases hL:ys.length<M.LIM
    ·rw [if_pos hL]at p1
     obtain⟨nf,of,us,ha,rs⟩:=Xd s2.st q e0
     have hlen:=rs.length
     exact⟨a,us,v,rfl,rfl,ha,by have:=Jc;omega,p1 G2 σ _ (s2.write q e0 (rs.append ⟨v,[],rfl,rd,rfl⟩))⟩
    ·rw [if_neg hL]at p1;exact p1.elim
theorem X0 (go:Go Γ F X E k cf){v f:Expr}{i:Nat}{cpos pos:Pos}(hf:isMeth cf i "extend" f cpos=true) (hv:notStar v=true){m:M.E}(h:chkE cf m v=true):PS X (.Expr (.Call f [v] [] cpos) pos) (tDS Γ E (M.exec F (.ext i m))):=by
 obtain⟨x,p,apos,rfl,h1,h2,h3,h4⟩:=xp hf
 unfold nmB at h3
 rw [Bool.and_eq_true]at h3
 have pv:=Zl (X:=X) (pos:=p) (by rw [go.N];exact h1) (go.vis x h2) (by simpa using h3.1) (by simpa using h3.2)
 refine PS.imp (Jp (jaa PySem.F.plainAttrs_list PySem.F.slot_list_extend PySem.F.type_list_extend qL pv (zb (sndE m go h).1 wc (ja hv)) rfl (by rw [ja hv];rfl) h4 (ja hv) rfl) (Qb rfl)) fun D σ H qq=> ?_
 obtain⟨B,G,τ,h,s,p⟩:=qq
 rw [M.exec]at p
 cases q:M.getS τ i with
 | none=>rw [q]at p;exact p.elim
 | some w0=>
  rw [q]at p
  cases w0 with
  | v d=>exact p.elim
  | bor ys=>exact p.elim
  | own ys=>
   obtain⟨v0,e0,a,vs,rfl,z2,z3,z4,z5⟩:=s.st.slot i _ q
   refine⟨.ref a,e0,.inl ⟨rfl,vs,SqL.of z4⟩,?_⟩
   refine zd s p fun w v h1 G1 H1 e1 s1 r1 f1 p1=> ?_
   cases w with
   | v d=>exact p1.elim
   | bor zs=>exact p1.elim
   | own zs=>
    obtain⟨b,us2,rfl,_,_,hb,rs2⟩:=r1
    have p1:PostO Γ E B (if ys.length+zs.length<M.LIM then .next (M.setS τ i (.own (ys++zs))) h1 else .fail) D:=p1
    by_cases hL:ys.length+zs.length<M.LIM
    ·rw [if_pos hL]at p1
     obtain⟨nf,of,us,ha,rs⟩:=Xd s1.st q e0
     have hlen:=rs.length
     have hlen2:=rs2.length
     exact⟨a,b,us,us2,rfl,rfl,ha,hb,by have:=Jc;omega,p1 G1 σ _ (s1.write q e0 (rs.append rs2))⟩
    ·rw [if_neg hL]at p1;exact p1.elim
theorem XR (go:Go Γ F X E k cf){x:Str}{y v:Expr}{i:Nat}{p p2 pos:Pos}(h1:cf.N[i]? =some x) (h2:visB cf.sc x=true) (h3:nmB x=true) (hy:notSlice y=true){kx:M.E}(hk:chkE cf kx y=true) (h:chkE cf (.bl true) v=true):PS X (.Assign [.Subscript (.Name x p) y p2] v pos) (tDS Γ E (M.exec F (.dput i kx))):=by
 refine PS.imp (jI (sndE (.bl true) go h).1 (J5 (Wp go h1 h2 h3) (sndE kx go hk).1 (qZ go.K (by have:=go.room.un;omega)) (XQ hy)) xu Jn rfl) fun D σ H qq=> ?_
 obtain⟨B,G,τ,h,s,p⟩:=qq
 rw [M.exec]at p
 refine⟨G,τ,h,s.st,?_⟩
 rw [M.eval]
 intro G0 H0 e0 hr0 v0 rv0 _
 have s0:=s.on e0 hr0
 cases q:M.dicD h (M.getS τ i)with
 | none=>rw [q]at p;exact p.elim
 | some rx=>
  obtain⟨r0,ks0⟩:=rx
  rw [q]at p
  have sl:=qj s0.st q
  refine⟨_,sl,?_⟩
  refine zd s0 p fun w iv h1 G1 H1 e1 s1 r1 f1 p1=> ?_
  split at p1
  ·rename_i d
   split at p1
   ·rename_i kk r ks ek er
    split at p1
    ·rename_i hL
     have sl1:=qj s1.st er
     have er0:V.ref (G0.rho r0)=V.ref (G1.rho r):=by rw [sl]at sl1;exact Option.some.inj (Option.some.inj sl1)
     refine⟨G1,h1,kk,r,ks,s1.st.heap,qy ek▸r1,er0,(Qf er).2,by have:=Jc;omega,fun xs hx hz=> ?_⟩
     exact p1 G1 σ _ (s1.dcell (Qf er).2 hx hz)
    ·exact p1.elim
   ·exact p1.elim
  ·exact p1.elim
theorem wE {d:M.D}: ∀ {xs ys:List M.D},M.remD d xs=some ys-> ∃j,∃hj:j<xs.length,M.eqD xs[j] d=true/\(∀ m (hm:m<xs.length),m<j->M.eqD xs[m] d=false)/\ys=xs.eraseIdx j
 | [],_,e=>by cases e
 | x::xs,ys,e=>by
  rw [M.remD]at e
  by_cases c:M.eqD x d=true
  ·rw [if_pos c]at e
   cases e
   exact⟨0,Nat.succ_pos _,c,fun m _ h=>absurd h (Nat.not_lt_zero _),rfl⟩
  ·rw [if_neg c]at e
   cases q:M.remD d xs with
   | none=>rw [q]at e;cases e
   | some zs=>
    rw [q]at e
    cases e
    obtain⟨j,hj,h1,h2,h3⟩:=wE q
    refine⟨j+1,Nat.succ_lt_succ hj,h1,fun m hm h=> ?_,by rw [h3];rfl⟩
    cases m with
    | zero=>exact Bool.eq_false_iff.mpr c
    | succ m=>exact h2 m (Nat.lt_of_succ_lt_succ hm) (Nat.lt_of_succ_lt_succ h)
theorem RelDs.erase {G:Gh}{H:Hp}: ∀ {xs:List M.D}{us:List V}(j:Nat),RelDs Γ G H xs us->RelDs Γ G H (xs.eraseIdx j) (us.eraseIdx j)
 | [],_,_,rfl=>rfl
 | x::xs,_,0,⟨u,r,rfl,_,z⟩=>z
 | x::xs,_,j+1,⟨u,r,rfl,z1,z2⟩=>⟨u,r.eraseIdx j,rfl,z1,RelDs.erase j z2⟩
def rRem (Γ:Ge):V->List V->Hp->VK->Prop:=fun x vs H Q=> ∃G l us y d xs j,∃hj:j<xs.length,x= .ref l/\vs= [y]/\H l=some (.lst us)/\RelDs Γ G H xs us/\RelD Γ G H d y/\M.noRef d=true/\M.noRefs xs=true/\M.deps xs<140 ∧
 M.eqD xs[j] d=true/\(∀ m (hm:m<xs.length),m<j->M.eqD xs[m] d=false)/\Q .non (upd H l (.lst (us.eraseIdx j)))
theorem jaw {k:Nat}(hK:X.K=Γ.K) (hro:Room k X.A):MtM X "list.remove" (rRem Γ):=by
 intro pins s σ H x vs v us0 Q I rx rv h
 obtain⟨G,l,us,y,d,xs,j,hj,rfl,rfl,hH,rs,rd,nd,nx,dx,hit,hno,q⟩:=h
 cases rx
 cases rv with
 | cons r1 r2=>
  rename_i u1 _
  cases r2
  obtain⟨z,its,n,r,hl,e⟩:=I.lstM hH
  have p1:=RelD.rv0 I hK rd r1 nd
  have ps:RVs s.heap xs its:=RelDs.rv0 I hK rs r nx
  have lx:xs.length=its.length:=ps.length
  have hee: ∃ee:Value->Bool,∀c y,RV s.heap c y->ee y=M.eqD c d:=⟨fun y=> @decide (∃ c,RV s.heap c y/\M.eqD c d=true) (Classical.propDecidable _),fun c y z=>by
   cases q:M.eqD c d with
   | true=>exact @decide_eq_true _ (Classical.propDecidable _) ⟨c,z,q⟩
   | false=>exact @decide_eq_false _ (Classical.propDecidable _) fun⟨d',z2,q2⟩=>by rw [RV.inj z2 z,q]at q2;cases q2⟩
  obtain⟨ee,he⟩:=hee
  have at_i: ∀(m:Nat) (hm:m<its.toArray.size),ee its.toArray[m]=M.eqD (xs[m]'(by rw [lx];simpa using hm)) d:=fun m hm=>by
   have hm':m<its.length:=by simpa using hm
   obtain⟨c,hc,rc⟩:=ps.get (List.getElem?_eq_getElem hm')
   rw [List.getElem?_eq_getElem (by rw [lx];exact hm')]at hc
   cases hc
   simpa using he _ _ rc
  have hsz:its.toArray.size<=sizeLine:=by rw [List.size_toArray,←hl];exact z
  have hj':j<its.toArray.size:=by rw [List.size_toArray,←lx];exact hj
  refine call_meets PySem.F.slot_list_remove ⟨_,e,rfl⟩ PySem.F.entry_list_remove (PySem.F.args_list_remove_2 _ _) (Xq l its.toArray n u1 ee j hj' (by rw [at_i];exact hit) (fun m hm h=>by rw [at_i];exact hno m _ h) hsz) ⟨e,fun y hy=> ?_,?_⟩
  ·obtain⟨m,hm⟩:=List.getElem?_of_mem (List.mem_toArray.mp hy)
   obtain⟨c,hc,rc⟩:=ps.get hm
   rw [he c y rc]
   exact(cmp3 140 c _ _ y u1 (by have:=wf hc;omega) (by have:=hro.un;show X.A.units+1+140<cLine;omega) rc p1).eq
  ·refine⟨.non,_,I.lset (its':=its.eraseIdx j) hH e ?_ (r.eraseIdx j) ?_,rfl,q⟩
   ·apply Array.toList_inj.mp
    simp
   ·rw [List.length_eraseIdx]
    split<;>omega
theorem J0 (go:Go Γ F X E k cf){v f:Expr}{i:Nat}{cpos pos:Pos}(hf:isMeth cf i "remove" f cpos=true) (hv:notStar v=true){m:M.E}(h:chkE cf m v=true):PS X (.Expr (.Call f [v] [] cpos) pos) (tDS Γ E (M.exec F (.rem i m))):=by
 obtain⟨x,p,apos,rfl,h1,h2,h3,h4⟩:=xp hf
 refine PS.imp (Jp (jaa PySem.F.plainAttrs_list PySem.F.slot_list_remove PySem.F.type_list_remove (jaw go.K go.room) (Wp go h1 h2 h3) (zb (sndE m go h).1 wc (ja hv)) rfl (by rw [ja hv];rfl) h4 (ja hv) rfl) (Qb rfl)) fun D σ H qq=> ?_
 obtain⟨B,G,τ,h,s,p⟩:=qq
 rw [M.exec]at p
 cases q:M.getS τ i with
 | none=>rw [q]at p;exact p.elim
 | some w0=>
  rw [q]at p
  cases w0 with
  | v d=>exact p.elim
  | bor ys=>exact p.elim
  | own ys=>
   obtain⟨v0,e0,a,vs,rfl,z2,z3,z4,z5⟩:=s.st.slot i _ q
   refine⟨.ref a,e0,.inl ⟨rfl,vs,SqL.of z4⟩,?_⟩
   refine zd s p fun w v h1 G1 H1 e1 s1 r1 f1 p1=> ?_
   cases w with
   | own zs=>exact p1.elim
   | bor zs=>exact p1.elim
   | v d=>
    have p1:PostO Γ E B (if (M.noRef d&&M.noRefs ys&&decide (M.deps ys<140))=true then(match M.remD d ys with
     | some zs=> .next (M.setS τ i (.own zs)) h1
     | none=> .fail)else .fail) D:=p1
    by_cases hc:(M.noRef d&&M.noRefs ys&&decide (M.deps ys<140))=true
    rotate_left
    ·rw [if_neg hc]at p1;exact p1.elim
    rw [if_pos hc]at p1
    rw [Bool.and_eq_true,Bool.and_eq_true,decide_eq_true_eq]at hc
    cases qr:M.remD d ys with
    | none=>rw [qr]at p1;exact p1.elim
    | some zs=>
     rw [qr]at p1
     obtain⟨j,hj,g1,g2,rfl⟩:=wE qr
     obtain⟨nf,of,us,ha,rs⟩:=Xd s1.st q e0
     exact⟨G1,a,us,v,d,ys,j,hj,rfl,rfl,ha,rs,r1,hc.1.1,hc.1.2,hc.2,g1,g2,p1 G1 σ _ (s1.write q e0 (rs.erase j))⟩
theorem JE (go:Go Γ F X E k cf){x:Str}{y v:Expr}{i:Nat}{p p2 pos:Pos}(h1:cf.N[i]? =some x) (h2:visB cf.sc x=true) (h3:nmB x=true) (hy:notSlice y=true){kx m:M.E}(hk:chkE cf kx y=true) (h:chkE cf m v=true):PS X (.Assign [.Subscript (.Name x p) y p2] v pos) (tDS Γ E (M.exec F (.setix i kx m))):=by
 unfold nmB at h3
 rw [Bool.and_eq_true]at h3
 have pv:=Zl (X:=X) (pos:=p) (by rw [go.N];exact h1) (go.vis x h2) (by simpa using h3.1) (by simpa using h3.2)
 refine PS.imp (jI (sndE m go h).1 (J5 pv (sndE kx go hk).1 wX (XQ hy)) xu Jn rfl) fun D σ H qq=> ?_
 obtain⟨B,G,τ,h,s,p⟩:=qq
 rw [M.exec]at p
 refine zd s p fun w v h1 G1 H1 e1 s1 r1 f1 p1=> ?_
 cases q:M.getS τ i with
 | none=>rw [q]at p1;exact p1.elim
 | some w0=>
  rw [q]at p1
  cases w0 with
  | v d=>exact p1.elim
  | bor ys=>exact p1.elim
  | own ys=>
   obtain⟨v0,e0,a,vs,rfl,z2,z3,z4,z5⟩:=s1.st.slot i _ q
   refine⟨.ref a,e0,?_⟩
   refine zd s1 p1 fun kw iv h2 G2 H2 e2 s2 r2 f2 p2=> ?_
   split at p2
   ·rename_i d j
    split at p2
    ·rename_i hf
     split at p2
     ·rename_i n qn
      cases (show iv= .int j from r2)
      have rd:RelD Γ G2 H2 d v:=Z1 hf r1
      obtain⟨nf,of,us,ha,rs⟩:=Xd s2.st q e0
      refine⟨_,us,j,n,rfl,rfl,ha,by rw [← rs.length];exact qn,?_⟩
      exact p2 G2 σ _ (s2.write q e0 (RelDs.set rd n rs))
     ·exact p2.elim
    ·exact p2.elim
   ·exact p2.elim
end
end L2.MS
namespace L2.MS
open PySem PySem.Spec PyProof.Rows
section
variable {Γ:Ge}{E:XK}{B:Bs}{G:Gh}{τ:M.Sl}{h:M.AH}{σ:St}{H:Hp}{D:Ends}
theorem wP {a:Addr}{i:Nat}{xs:List M.D}(e1:M.getS τ i=some (.own xs)) (e2:σ[i]? =some (some (.ref a))):hideO τ σ H a=none:=by
 unfold hideO
 rw [if_pos ⟨i,xs,e1,e2⟩]
theorem xD {a:Addr}{o:HO}(e:hideO τ σ H a=some o):H a=some o:=by
 unfold hideO at e
 split at e
 ·cases e
 ·exact e
theorem xR (s:StRel Γ G τ h σ H):HRel Γ G h (hideO τ σ H) where
 len:=s.heap.len
 cell:=fun r xs e=>by
  obtain⟨z1,vs,z2,z3⟩:=s.heap.cell r xs e
  have hr:r<G.n:=by rw [← s.heap.len];exact(List.getElem?_eq_some_iff.mp e).1
  exact⟨z1,vs,by rw [xc fun⟨i,ys,q1,q2⟩=>(Xd s q1 q2).2.1 r hr rfl];exact z2,z3.mon (Xe s)⟩
 pure:=s.heap.pure
 inj:=s.heap.inj
 live:=fun a z=>by
  obtain⟨o,q⟩:=s.heap.live a z
  exact⟨o,by rw [xc fun⟨i,ys,q1,q2⟩=>(Xd s q1 q2).1 z];exact q⟩
 dic:=fun r ks e=>by
  obtain⟨z1,xs,z2,z3,z4⟩:=s.heap.dic r ks e
  have hr:r<G.n:=by rw [← s.heap.len];exact(List.getElem?_eq_some_iff.mp e).1
  exact⟨z1,xs,by rw [xc fun⟨i,ys,q1,q2⟩=>(Xd s q1 q2).2.1 r hr rfl];exact z2,z3,fun x hx=>(z4 x hx).mon (Xe s)⟩
noncomputable def reB (G:Gh) (τ:M.Sl) (h:M.AH) (σ:St) (H:Hp):Bs:=⟨G,hideO τ σ H,h⟩
theorem wm (s:StS Γ B G τ h σ H):Ext B.G B.H G (hideO τ σ H) where
 keep:=fun a o e hof=>by
  rw [xc fun⟨i,xs,q1,q2⟩=>by rw [s.own i xs a q1 q2]at e;cases e]
  exact s.ext.keep a o e hof
 le:=s.ext.le
 rho:=s.ext.rho
 new:=s.ext.new
 fz:=s.ext.fz
 old:=s.ext.old
 cells:=fun r hr z=>by
  obtain⟨o,q⟩:=s.ext.cells r hr z
  refine⟨o,?_⟩
  rw [xc fun qq=>by
   obtain⟨i,xs,q1,q2⟩:=qq
   obtain⟨u,z⟩:=z
   rw [s.own i xs _ q1 q2]at z
   cases z]
  exact q
theorem jaC (s:StS Γ B G τ h σ H):StS Γ (reB G τ h σ H) G τ h σ H where
 st:=s.st
 ext:=⟨fun a o e _=>xD e,Nat.le_refl _,fun _ _=>rfl,fun r h1 h2=>absurd h1 (Nat.not_le.mpr h2),fun _ z=>z,fun _ z=> .inl z,fun r hr ⟨o,z⟩=>⟨o,xD z⟩⟩
 hr:=xR s.st
 own:=fun i xs a e1 e2=>wP e1 e2
theorem Wo (s:StS Γ B G τ h σ H){G2:Gh}{τ2:M.Sl}{h2:M.AH}{σ2:St}{H2:Hp}(s2:StS Γ (reB G τ h σ H) G2 τ2 h2 σ2 H2):StS Γ B G2 τ2 h2 σ2 H2:=
 ⟨s2.st,(wm s).trans s.hr s2.ext,s.hr,fun i xs a e1 e2=>(wm s).none s.hr (s2.own i xs a e1 e2)⟩
theorem Q2 (s:StS Γ B G τ h σ H){o:M.O}(p:PostO Γ E B o D):PostO Γ E (reB G τ h σ H) o D:=by
 cases o with
 | next τ' h'=>exact fun G' σ' H' s'=>p G' σ' H' (Wo s s')
 | brk τ' h'=>exact fun G' σ' H' s'=>p G' σ' H' (Wo s s')
 | cont τ' h'=>exact fun G' σ' H' s'=>p G' σ' H' (Wo s s')
 | ret w h'=>
  refine fun G' v H' e hr r f=>p G' v H' ((wm s).trans s.hr e) hr r ?_
  cases w with
  | v d=>trivial
  | own xs=>obtain⟨a,z1,z2⟩:=f;exact⟨a,z1,(wm s).none s.hr z2⟩
  | bor xs=>exact f
 | exc d h'=>exact fun G' H' e hr=>p G' H' ((wm s).trans s.hr e) hr
 | fail=>exact p
end
section
variable {Γ:Ge}{F:M.Fx}{X:Cx}{E:XK}{k:Nat}{cf:Cf}
theorem CL.hide {G:Gh}{τ:M.Sl}{h:M.AH}{σ:St}{H:Hp}{ds:List M.D}{l:Addr}{vs:List V}(s:StRel Γ G τ h σ H) (c:CL Γ ds l vs G H) (hn: ¬ ∃(i:Nat) (xs:List M.D),M.getS τ i=some (.own xs)/\σ[i]? =some (some (.ref l))):CL Γ ds l vs G (hideO τ σ H):=by
 obtain⟨z1,z3⟩:=c
 refine⟨?_,z3.mon (Xe s)⟩
 rcases z1 with⟨z1,z2⟩ | z1
 ·refine .inl ⟨?_,z2⟩
  rcases z1 with z1 | ⟨o,z1⟩
  ·exact .inl (by rw [xc hn];exact z1)
  ·exact .inr ⟨o,by rw [xc hn];exact z1⟩
 ·exact .inr z1
theorem CL.hideS {G:Gh}{τ:M.Sl}{h:M.AH}{σ:St}{H:Hp}{ds:List M.D}{l:Addr}{vs:List V}(s:StRel Γ G τ h σ H) (z2:StL Γ G H l vs) (z3:RelDs Γ G H ds vs):CL Γ ds l vs G (hideO τ σ H):=by
 refine⟨?_,z3.mon (Xe s)⟩
 rcases z2 with z2 | z2
 ·exact(CL.hide s (ds:=ds) ⟨.inl ⟨z2.2,s.heap.off z2.1⟩,z3⟩ fun⟨j,ys,q1,q2⟩=>(Xd s q1 q2).1 z2.1).1
 ·exact .inr z2
theorem CT.hide {G:Gh}{τ:M.Sl}{h:M.AH}{σ:St}{H:Hp}{ds:List M.D}{l:Addr}{vs:List V}(s:StRel Γ G τ h σ H) (c:CT Γ ds l vs G H):CT Γ ds l vs G (hideO τ σ H):=⟨c.1.mon (Xe s),c.2.mon (Xe s)⟩
theorem xm {a:M.E}{i:Nat}(h:M.isVar a=some i):a= .var i:=by
 cases a<;>first | (cases h;rfl) | cases h
theorem xaj {i:Nat}{e:Expr}(h:chkE cf (.var i) e=true): ∃x p,e= .Name x p/\cf.N[i]? =some x/\visB cf.sc x=true/\nmB x=true:=by
 unfold chkE at h
 split at h
 ·simp only [Bool.and_eq_true,decide_eq_true_eq]at h
  exact⟨_,_,rfl,h.1.1,h.1.2,h.2⟩
 ·cases h
theorem qah (go:Go Γ F X E k cf){i:Nat}{e:Expr}(h:chkE cf (.var i) e=true):PE X e (tVar i):=by
 obtain⟨x,p,rfl,h1,h2,h3⟩:=xaj h
 unfold nmB at h3
 rw [Bool.and_eq_true]at h3
 exact Zl (by rw [go.N];exact h1) (go.vis x h2) (by simpa using h3.1) (by simpa using h3.2)
theorem Js {G:Gh}{τ:M.Sl}{h:M.AH}{σ:St}{H:Hp}(s:StRel Γ G τ h σ H){i:Nat}{w:M.W}{xs:List M.D}(e:M.getS τ i=some w) (hw:w= .v (.lst xs)\/w= .bor xs):
 ∃l vs,σ[i]? =some (some (.ref l))/\CL Γ xs l vs G H/\CL Γ xs l vs G (hideO τ σ H):=by
 obtain⟨v,e2,r⟩:=s.slot i w e
 rcases hw with rfl | rfl
 ·obtain⟨l,vs,rfl,z2,z3⟩:=r
  exact⟨l,vs,e2,⟨z2.lok s.heap,z3⟩,CL.hideS s z2 z3⟩
 ·obtain⟨l,vs,rfl,z2,z3,z4⟩:=r
  have c:CL Γ xs l vs G H:=⟨.inl ⟨z3,z2⟩,z4⟩
  refine⟨l,vs,e2,c,c.hide s fun⟨j,ys,q1,q2⟩=> ?_⟩
  have hji:j≠i:=fun z=>by rw [z,e]at q1;cases q1
  exact s.apart j i ys _ l hji q1 e rfl q2 e2
theorem jm {G0 G:Gh}{τ:M.Sl}{h0 h:M.AH}{σ:St}{H0 H:Hp}(s0:StRel Γ G0 τ h0 σ H0) (s:StRel Γ G τ h σ H){w:M.W}{v:V}{xs:List M.D}(r:RelW Γ G H w v) (f:FreshW τ σ H0 w v) (hw:w= .v (.lst xs)\/w= .own xs):
 ∃l vs,v= .ref l/\CL Γ xs l vs G H/\CL Γ xs l vs G (hideO τ σ H):=by
 rcases hw with rfl | rfl
 ·obtain⟨l,vs,rfl,z2,z3⟩:=r
  exact⟨l,vs,rfl,⟨z2.lok s.heap,z3⟩,CL.hideS s z2 z3⟩
 ·obtain⟨l,vs,rfl,z2,z3,z4,z5⟩:=r
  obtain⟨l',el,hn⟩:=f
  cases el
  have c:CL Γ xs l vs G H:=⟨.inl ⟨.inl z4,z3⟩,z5⟩
  refine⟨l,vs,rfl,c,c.hide s fun⟨j,ys,q1,q2⟩=> ?_⟩
  obtain⟨o,z⟩:=s0.slotThere q1 rfl q2
  rw [hn]at z;cases z
theorem j0 (go:Go Γ F X E k cf){a:M.E}{e tg:Expr}(hc:chkE cf a e=true):PI X tg e (tDI Γ E true (M.evalLp F (.seq a))):=by
 cases q:M.isVar a with
 | some i=>
  cases xm q
  refine PI.imp (wM (qah go hc)) fun σ H R qq=> ?_
  obtain⟨G,τ,h,s,p⟩:=qq
  have p:Post Γ E G H (M.R.of h ((M.getS τ i).bind M.lpV)) fun ds _ G' H'=> ∀J C,WalkJ Γ J ds C->C G' H'->(true=true->C G' (hideO τ σ H'))->R J H':=p
  cases q1:M.getS τ i with
  | none=>rw [q1]at p;exact p.elim
  | some w=>
   rw [q1]at p
   have lst: ∀ {xs:List M.D},(w= .v (.lst xs)\/w= .bor xs)->Post Γ E G H (.ok xs h) (fun ds _ G' H'=> ∀J C,WalkJ Γ J ds C->C G' H'->(true=true->C G' (hideO τ σ H'))->R J H') →
    ∃v,σ[i]? =some (some v)/\((∃ a,v= .ref a/\(∃ xs,SqL X.K H a xs)/\R (Itl X.K a) H)\/(∃ a,v= .ref a/\(∃ xs,SqT X.K H a xs)/\R (Itt X.K a) H)\/ ∃z,v= .str z/\R (Its z) H):=fun {xs} hw p=>by
    obtain⟨l,vs,e2,c1,c2⟩:=Js s q1 hw
    exact⟨_,e2,.inl ⟨l,rfl,⟨vs,go.K▸c1.1.sq⟩,p G H Ext.refl s.heap _ _ (CL.walk go.K) c1 fun _=>c2⟩⟩
   cases w with
   | v d=>
    cases d with
    | lst xs=>exact lst (.inl rfl) p
    | tup xs=>
     obtain⟨v,e2,l,vs,rfl,z2,z3⟩:=s.slot i _ q1
     have c:CT Γ xs l vs G H:=⟨z2,z3⟩
     exact⟨_,e2,.inr (.inl ⟨l,rfl,⟨vs,go.K▸z2.sq⟩,p G H Ext.refl s.heap _ _ (CT.walk go.K) c fun _=>c.hide s⟩)⟩
    | non=>exact p.elim
    | bl _=>exact p.elim
    | int _=>exact p.elim
    | str z=>
     obtain⟨v,e2,r⟩:=s.slot i _ q1
     cases (show v= .str (txS z)from r)
     exact⟨_,e2,.inr (.inr ⟨_,rfl,p G H Ext.refl s.heap _ _ Xk trivial fun _=>trivial⟩)⟩
    | ref _=>exact p.elim
    | exc _ _=>exact p.elim
   | bor xs=>exact lst (.inr rfl) p
   | own xs=>exact p.elim
 | none=>
  refine PI.imp (wM (sndE a go hc).1) fun σ H R qq=> ?_
  obtain⟨G,τ,h,s,p⟩:=qq
  have p:Post Γ E G H ((M.eval F a τ h).bind fun w h=>M.R.of h (M.lpW w)) fun ds _ G' H'=> ∀J C,WalkJ Γ J ds C->C G' H'->(true=true->C G' (hideO τ σ H'))->R J H':=by
   unfold M.evalLp at p
   dsimp only at p
   rw [q]at p
   exact p
  refine Ja s.heap Ext.refl s p fun w1 v1 h1 G1 H1 e1 e1' s1 r1 f1 p1=> ?_
  have lst: ∀ {xs:List M.D},(w1= .v (.lst xs)\/w1= .own xs)->Post Γ E G H (.ok xs h1) (fun ds _ G' H'=> ∀J C,WalkJ Γ J ds C->C G' H'->(true=true->C G' (hideO τ σ H'))->R J H') →
   ((∃ a,v1= .ref a/\(∃ xs,SqL X.K H1 a xs)/\R (Itl X.K a) H1)\/(∃ a,v1= .ref a/\(∃ xs,SqT X.K H1 a xs)/\R (Itt X.K a) H1)\/ ∃z,v1= .str z/\R (Its z) H1):=fun {xs} hw p=>by
   obtain⟨l,vs,e2,c1,c2⟩:=jm s s1 r1 f1 hw
   exact .inl ⟨l,e2,⟨vs,go.K▸c1.1.sq⟩,p G1 H1 e1 s1.heap _ _ (CL.walk go.K) c1 fun _=>c2⟩
  cases w1 with
  | v d=>
   cases d with
   | lst xs=>exact lst (.inl rfl) p1
   | tup xs=>
    obtain⟨l,vs,rfl,z2,z3⟩:=r1
    have c:CT Γ xs l vs G1 H1:=⟨z2,z3⟩
    exact .inr (.inl ⟨l,rfl,⟨vs,go.K▸z2.sq⟩,p1 G1 H1 e1 s1.heap _ _ (CT.walk go.K) c fun _=>c.hide s1⟩)
   | non=>exact p1.elim
   | bl _=>exact p1.elim
   | int _=>exact p1.elim
   | str z=>
    cases (show v1= .str (txS z)from r1)
    exact .inr (.inr ⟨_,rfl,p1 G1 H1 e1 s1.heap _ _ Xk trivial fun _=>trivial⟩)
   | ref _=>exact p1.elim
   | exc _ _=>exact p1.elim
  | own xs=>exact lst (.inr rfl) p1
  | bor xs=>exact p1.elim
theorem xZ (go:Go Γ F X E k cf){a:M.E}{g x tg:Expr}{pos:Pos}(hg:gNm cf.sc "reversed" g=true) (hx:notStar x=true) (hc:chkE cf a x=true):PI X tg (.Call g [x] [] pos) (tDI Γ E true (M.evalLp F (.rev a))):=by
 obtain⟨p0,rfl,h2,h3⟩:=Xa hg
 cases q:M.isVar a with
 | some i=>
  cases xm q
  refine PI.imp (wK (go.gl _ h2) (go.blt _ zad) (zb (qah go hc) wc (ja hx)) (ja hx)) fun σ H R qq=> ?_
  obtain⟨G,τ,h,s,p⟩:=qq
  have p:Post Γ E G H (M.R.of h ((M.getS τ i).bind M.lpVr)) fun ds _ G' H'=> ∀J C,WalkJ Γ J ds C->C G' H'->(true=true->C G' (hideO τ σ H'))->R J H':=p
  cases q1:M.getS τ i with
  | none=>rw [q1]at p;exact p.elim
  | some w=>
   rw [q1]at p
   have lst: ∀ {xs:List M.D},(w= .v (.lst xs)\/w= .bor xs)->Post Γ E G H (.ok xs.reverse h) (fun ds _ G' H'=> ∀J C,WalkJ Γ J ds C->C G' H'->(true=true->C G' (hideO τ σ H'))->R J H') →
    ∃v,σ[i]? =some (some v)/\ ∃a xs,[v]= [.ref a]/\SqL X.K H a xs/\R (Itv X.K a xs.length) H:=fun {xs} hw p=>by
    obtain⟨l,vs,e2,c1,c2⟩:=Js s q1 hw
    exact⟨_,e2,l,vs,rfl,go.K▸c1.1.sq,p G H Ext.refl s.heap _ _ (CL.walkR go.K) c1 fun _=>c2⟩
   cases w with
   | v d=>
    cases d with
    | lst xs=>exact lst (.inl rfl) p
    | tup _=>exact p.elim
    | non=>exact p.elim
    | bl _=>exact p.elim
    | int _=>exact p.elim
    | str _=>exact p.elim
    | ref _=>exact p.elim
    | exc _ _=>exact p.elim
   | bor xs=>exact lst (.inr rfl) p
   | own xs=>exact p.elim
 | none=>
  refine PI.imp (wK (go.gl _ h2) (go.blt _ zad) (zb (sndE a go hc).1 wc (ja hx)) (ja hx)) fun σ H R qq=> ?_
  obtain⟨G,τ,h,s,p⟩:=qq
  have p:Post Γ E G H ((M.eval F a τ h).bind fun w h=>M.R.of h (M.lpWr w)) fun ds _ G' H'=> ∀J C,WalkJ Γ J ds C->C G' H'->(true=true->C G' (hideO τ σ H'))->R J H':=by
   unfold M.evalLp at p
   dsimp only at p
   rw [q]at p
   exact p
  refine Ja s.heap Ext.refl s p fun w1 v1 h1 G1 H1 e1 e1' s1 r1 f1 p1=> ?_
  have lst: ∀ {xs:List M.D},(w1= .v (.lst xs)\/w1= .own xs)->Post Γ E G H (.ok xs.reverse h1) (fun ds _ G' H'=> ∀J C,WalkJ Γ J ds C->C G' H'->(true=true->C G' (hideO τ σ H'))->R J H') →
   ∃a xs,[v1]= [.ref a]/\SqL X.K H1 a xs/\R (Itv X.K a xs.length) H1:=fun {xs} hw p=>by
   obtain⟨l,vs,e2,c1,c2⟩:=jm s s1 r1 f1 hw
   exact⟨l,vs,by rw [e2],go.K▸c1.1.sq,p G1 H1 e1 s1.heap _ _ (CL.walkR go.K) c1 fun _=>c2⟩
  cases w1 with
  | v d=>
   cases d with
   | lst xs=>exact lst (.inl rfl) p1
   | tup _=>exact p1.elim
   | non=>exact p1.elim
   | bl _=>exact p1.elim
   | int _=>exact p1.elim
   | str _=>exact p1.elim
   | ref _=>exact p1.elim
   | exc _ _=>exact p1.elim
  | own xs=>exact lst (.inr rfl) p1
  | bor xs=>exact p1.elim
theorem Xi: ∀(ds:List M.D) (i:Nat),(M.numD i ds).length=ds.length
 | [],_=>rfl
 | d::ds,i=>congrArg (· +1) (Xi ds (i+1))
theorem qD: ∀(ds:List M.D) (j i:Nat) (h:i<ds.length),(M.numD j ds)[i]? =some (.tup [.int ((j+i:Nat):Int),ds[i]])
 | d::ds,j,0,_=>rfl
 | d::ds,j,i+1,h=>by
  have:=qD ds (j+1) i (by simpa using h)
  rw [show j+1+i=j+(i+1)by omega]at this
  simpa [M.numD]using this
theorem jaJ: "enumerate" ∈bltN:=by decide
theorem CT.walkE {ds:List M.D}{l:Addr}{vs:List V}{K:PySem.W.Frag}(hK:K=Γ.K):WalkJ Γ (Ite K l) (M.numD 0 ds) (CT Γ ds l vs) where
 go:=fun i G H ⟨z1,z3⟩ hi=>by
  rw [Xi]at hi
  obtain⟨v,e,_⟩:=z3.get (List.getElem?_eq_getElem hi)
  exact⟨vs,v,hK▸z1.sq,e⟩
 yld:=fun i G H x H' ⟨z1,z3⟩ hi ⟨p,y,hp,ex,eh,hy⟩=>by
  rw [Xi]at hi
  subst ex eh
  obtain⟨v,e,rd⟩:=z3.get (List.getElem?_eq_getElem hi)
  have:=hy vs (hK▸z1.sq)
  rw [e]at this
  cases this
  refine⟨G.more p,Jd _ hp,fun h hr=>hr.newF _ hp,.tup [.int (i:Int),ds[i]],by rw [qD ds 0 i hi,Nat.zero_add],⟨p,[.int (i:Int),y],rfl,.inl ⟨.inr rfl,xb⟩,⟨.int (i:Int),[y],rfl,rfl,⟨y,[],rfl,?_,rfl⟩⟩⟩⟩
  have mm:Mon G H (G.more p) (upd H p (.tup [.int (i:Int),y])):=⟨fun a o ha q=>by rw [qa (xa q hp)];exact q,Nat.le_refl _,fun _ _=>rfl,fun _ z=>Or.inl z⟩
  exact rd.mon mm
 stop:=fun i G H ⟨z1,z3⟩ h1 h2=>by
  rw [Xi]at h1 h2
  exact⟨vs,hK▸z1.sq,by rw [← z3.length];omega⟩
 keep:=fun G H G' H' h z e hr=>⟨z.1.mon (e.mon hr),z.2.ext e hr⟩
theorem qM (go:Go Γ F X E k cf){a:M.E}{g x:Expr}{pos tp:Pos}{elts:List Expr}{x1:Nat}(hg:gNm cf.sc "enumerate" g=true) (hx:notStar x=true) (ha:PE X x (tD Γ E (M.eval F a))):PI X (.Tuple elts x1 tp) (.Call g [x] [] pos) (tDI Γ E true (M.evalLp F (.enum a))):=by
 obtain⟨p0,rfl,h2,h3⟩:=Xa hg
 refine PI.imp (zah (go.gl _ h2) (go.blt _ jaJ) (zb ha wc (ja hx)) (ja hx)) fun σ H R qq=> ?_
 obtain⟨G,τ,h,s,p⟩:=qq
 have p:Post Γ E G H ((M.eval F a τ h).bind fun w h=>match w with
  | .v (.tup xs)=> .ok (M.numD 0 xs) h
  | _=> .fail) fun ds _ G' H'=> ∀J C,WalkJ Γ J ds C->C G' H'->(true=true->C G' (hideO τ σ H'))->R J H':=p
 refine Ja s.heap Ext.refl s p fun w1 v1 h1 G1 H1 e1 e1' s1 r1 f1 p1=> ?_
 cases w1 with
 | v d=>
  cases d with
  | tup xs=>
   obtain⟨l,vs,rfl,z2,z3⟩:=r1
   have c:CT Γ xs l vs G1 H1:=⟨z2,z3⟩
   exact⟨l,vs,rfl,go.K▸z2.sq,p1 G1 H1 e1 s1.heap _ _ (CT.walkE go.K) c fun _=>c.hide s1⟩
  | non=>exact p1.elim
  | bl _=>exact p1.elim
  | int _=>exact p1.elim
  | str _=>exact p1.elim
  | lst _=>exact p1.elim
  | ref _=>exact p1.elim
  | exc _ _=>exact p1.elim
 | own xs=>exact p1.elim
 | bor xs=>exact p1.elim
theorem jaO: "zip" ∈bltN:=by decide
theorem CZ.walk {xs ys:List M.D}{l a:Addr}{vs us:List V}{K:PySem.W.Frag}(hK:K=Γ.K):WalkJ Γ (Itz K l a) ((xs.zip ys).map fun p=> .tup [p.1,p.2]) (fun G H=>CL Γ xs l vs G H/\CT Γ ys a us G H) where
 go:=fun i G H ⟨c1,c2⟩ hi=>by
  rw [List.length_map,List.length_zip]at hi
  obtain⟨v,e,_⟩:=c1.2.get (List.getElem?_eq_getElem (show i<xs.length by omega))
  obtain⟨v2,e2,_⟩:=c2.2.get (List.getElem?_eq_getElem (show i<ys.length by omega))
  exact⟨vs,v,us,v2,hK▸c1.1.sq,e,hK▸c2.1.sq,e2⟩
 yld:=fun i G H x H' ⟨c1,c2⟩ hi ⟨p,x1,y1,hp,ex,eh,h1,h2⟩=>by
  rw [List.length_map,List.length_zip]at hi
  subst ex eh
  have i1:i<xs.length:=by omega
  have i2:i<ys.length:=by omega
  obtain⟨v,e,rd⟩:=c1.2.get (List.getElem?_eq_getElem i1)
  obtain⟨v2,e2,rd2⟩:=c2.2.get (List.getElem?_eq_getElem i2)
  have q1:=h1 vs (hK▸c1.1.sq)
  rw [e]at q1
  cases q1
  have q2:=h2 us (hK▸c2.1.sq)
  rw [e2]at q2
  cases q2
  have mm:Mon G H (G.more p) (upd H p (.tup [x1,y1])):=⟨fun a o ha q=>by rw [qa (xa q hp)];exact q,Nat.le_refl _,fun _ _=>rfl,fun _ z=>Or.inl z⟩
  refine⟨G.more p,Jd _ hp,fun h hr=>hr.newF _ hp,.tup [xs[i],ys[i]],?_,⟨p,[x1,y1],rfl,.inl ⟨.inr rfl,xb⟩,⟨x1,[y1],rfl,rd.mon mm,⟨y1,[],rfl,rd2.mon mm,rfl⟩⟩⟩⟩
  rw [List.getElem?_map,List.getElem?_eq_getElem (by rw [List.length_zip];exact hi),List.getElem_zip]
  rfl
 stop:=fun i G H ⟨c1,c2⟩ h1 h2=>by
  rw [List.length_map,List.length_zip]at h1 h2
  exact⟨vs,us,hK▸c1.1.sq,hK▸c2.1.sq,by rw [← c1.2.length,←c2.2.length];omega⟩
 keep:=fun G H G' H' h ⟨c1,c2⟩ e hr=>⟨(CL.walk hK).keep G H G' H' h c1 e hr,⟨c2.1.mon (e.mon hr),c2.2.ext e hr⟩⟩
theorem qU (go:Go Γ F X E k cf){a b:M.E}{g x y:Expr}{pos tp:Pos}{elts:List Expr}{x1:Nat}(hg:gNm cf.sc "zip" g=true) (hx:notStar x=true) (hy:notStar y=true) (ha:PE X x (tD Γ E (M.eval F a))) (hb:PE X y (tD Γ E (M.eval F b))):PI X (.Tuple elts x1 tp) (.Call g [x,y] [] pos) (tDI Γ E true (M.evalLp F (.zip a b))):=by
 obtain⟨p0,rfl,h2,h3⟩:=Xa hg
 refine PI.imp (xaC (go.gl _ h2) (go.blt _ jaO) (zb ha (zb hb wc (ja hy)) (ja hx)) (by rw [ja hx,ja hy];rfl) (by rw [ja hy];rfl)) fun σ H R qq=> ?_
 obtain⟨G,τ,h,s,p⟩:=qq
 have p:Post Γ E G H ((M.eval F a τ h).bind fun x h=>(M.eval F b τ h).bind fun y h=>match x,y with
  | .own xs,.v (.tup ys)=> .ok ((xs.zip ys).map fun p=>M.D.tup [p.1,p.2]) h
  | _,_=> .fail) fun ds _ G' H'=> ∀J C,WalkJ Γ J ds C->C G' H'->(true=true->C G' (hideO τ σ H'))->R J H':=p
 refine Ja s.heap Ext.refl s p fun w1 v1 h1 G1 H1 e1 e1' s1 r1 f1 p1=> ?_
 refine Ja s.heap e1 s1 p1 fun w2 v2 h2 G2 H2 e2 e2' s2 r2 f2 p2=> ?_
 cases w1 with
 | v d=>exact p2.elim
 | bor xs=>exact p2.elim
 | own xs=>
  cases w2 with
  | own _=>exact p2.elim
  | bor _=>exact p2.elim
  | v d=>
   cases d with
   | tup ys=>
    obtain⟨l,vs,rfl,c1,c1'⟩:=jm s s2 (r1.ext e2' s1.heap) f1 (.inr rfl)
    obtain⟨l2,us,rfl,z2,z3⟩:=r2
    have c2:CT Γ ys l2 us G2 H2:=⟨z2,z3⟩
    exact⟨l,l2,vs,us,rfl,go.K▸c1.1.sq,go.K▸z2.sq,p2 G2 H2 e2 s2.heap _ _ (CZ.walk go.K) ⟨c1,c2⟩ fun _=>⟨c1',c2.hide s2⟩⟩
   | non=>exact p2.elim
   | bl _=>exact p2.elim
   | int _=>exact p2.elim
   | str _=>exact p2.elim
   | lst _=>exact p2.elim
   | ref _=>exact p2.elim
   | exc _ _=>exact p2.elim
theorem WI (cf:Cf) (a b:M.E) (e:Expr):chkLp cf (.zip a b) e=(match e with
 | .Call g [x,y] [] _=>gNm cf.sc "zip" g&&notStar x&&notStar y&&chkE cf a x&&chkE cf b y
 | _=>false):=by cases e<;>rfl
theorem ZH (cf:Cf) (a:M.E) (e:Expr):chkLp cf (.enum a) e=(match e with
 | .Call g [x] [] _=>gNm cf.sc "enumerate" g&&notStar x&&chkE cf a x
 | _=>false):=by cases e<;>rfl
theorem sndL (go:Go Γ F X E k cf){it:M.It}{e tg:Expr}(he:enumOk it tg=true) (h:chkLp cf it e=true):PI X tg e (tDI Γ E true (M.evalLp F it))/\notSet e=true:=by
 cases it with
 | seq a=>
  have h:(notSet e&&chkE cf a e)=true:=h
  rw [Bool.and_eq_true]at h
  exact⟨j0 go h.2,h.1⟩
 | range1 a=>
  have h:chkIt cf (.range1 a) e=true:=h
  unfold chkIt at h
  split at h
  ·simp only [Bool.and_eq_true]at h
   exact⟨Wj go h.1.1 h.1.2 (sndE a go h.2).1,rfl⟩
  ·cases h
 | range2 a b=>
  have h:chkIt cf (.range2 a b) e=true:=h
  unfold chkIt at h
  split at h
  ·simp only [Bool.and_eq_true]at h
   exact⟨Xj go h.1.1.1.1 h.1.1.1.2 h.1.1.2 (sndE a go h.1.2).1 (sndE b go h.2).1,rfl⟩
  ·cases h
 | rev a=>
  have h:chkIt cf (.rev a) e=true:=h
  unfold chkIt at h
  split at h
  ·simp only [Bool.and_eq_true]at h
   exact⟨xZ go h.1.1 h.1.2 h.2,rfl⟩
  ·cases h
 | zip a b=>
  cases tg with
  | Tuple elts x1 tp=>
   rw [WI]at h
   split at h
   ·simp only [Bool.and_eq_true]at h
    exact⟨qU go h.1.1.1.1 h.1.1.1.2 h.1.1.2 (sndE a go h.1.2).1 (sndE b go h.2).1,rfl⟩
   ·cases h
  | _=>cases he
 | enum a=>
  cases tg with
  | Tuple elts x1 tp=>
   rw [ZH]at h
   split at h
   ·simp only [Bool.and_eq_true]at h
    exact⟨qM go h.1.1 h.1.2 (sndE a go h.2).1,rfl⟩
   ·cases h
  | _=>cases he
end
end L2.MS
namespace L2.MS
open PySem PySem.Spec PyProof.Rows
section
variable {Γ:Ge}{F:M.Fx}{X:Cx}{E:XK}{k:Nat}{cf:Cf}
theorem xan (go:Go Γ F X E k cf){v:Expr}{pos:Pos}(hn:notComp v=true){m:M.E}(h:chkE cf m v=true):PS X (.Expr v pos) (tDS Γ E (M.exec F (.ex m))):=by
 refine PS.imp (Jp (sndE m go h).1 (Qb hn)) fun D σ H qq=> ?_
 obtain⟨B,G,τ,h,s,p⟩:=qq
 rw [M.exec]at p
 exact zd s p fun w v h1 G1 H1 e1 s1 r1 f1 p1=>p1 G1 σ H1 s1
theorem QM {B:Bs}{G:Gh}{τ:M.Sl}{h:M.AH}{σ:St}{H:Hp}(s:StS Γ B G τ h σ H){w:M.W}{v:V}(f:FreshW τ σ H w v) (hb: ∀xs,w≠ .bor xs):FreshW [] [] B.H w v:=by
 cases w with
 | v d=>trivial
 | own xs=>obtain⟨a,z1,z2⟩:=f;exact⟨a,z1,s.ext.none s.hr z2⟩
 | bor xs=>exact absurd rfl (hb xs)
theorem qV (go:Go Γ F X E k cf){v:Expr}{pos:Pos}{m:M.E}(h:chkE cf m v=true):PS X (.Return (some v) pos) (tDS Γ E (M.exec F (.ret m))):=by
 cases q:M.isVar m with
 | some i=>
  cases xm q
  refine PS.imp (Z5 (qah go h)) fun D σ H qq=> ?_
  obtain⟨B,G,τ,h,s,p⟩:=qq
  rw [M.exec,q]at p
  dsimp only at p
  cases q1:M.getS τ i with
  | none=>rw [q1]at p;exact p.elim
  | some w=>
   rw [q1]at p
   obtain⟨v,e2,r⟩:=s.st.slot i w q1
   refine⟨v,e2,?_⟩
   cases w with
   | bor xs=>exact p.elim
   | v d=>exact p G v H s.ext s.st.heap r trivial
   | own xs=>
    have r':=r
    obtain⟨a,vs,rfl,_⟩:=r'
    exact p G _ H s.ext s.st.heap r ⟨a,rfl,s.own i xs a q1 e2⟩
 | none=>
  refine PS.imp (Z5 (sndE m go h).1) fun D σ H qq=> ?_
  obtain⟨B,G,τ,h,s,p⟩:=qq
  have p:PostO Γ E B ((M.eval F m τ h).toO fun w h=>match w with
   | .bor _=> .fail
   | w=> .ret w h) D:=by
   rw [M.exec,q]at p;exact p
  refine zd s p fun w v h1 G1 H1 e1 s1 r1 f1 p1=> ?_
  cases w with
  | bor xs=>exact p1.elim
  | v d=>exact p1 G1 v H1 s1.ext s1.st.heap r1 trivial
  | own xs=>exact p1 G1 v H1 s1.ext s1.st.heap r1 (QM s f1 fun xs z=>by cases z)
theorem jZ {c:M.E}{a b:M.Ss}{x:Expr}{ys zs:List Stmt}{pos:Pos}(hc:PT X x (tDT Γ E (M.tstE F c))) (ha:PSs X ys (tDS Γ E (M.execs F a))) (hb:PSs X zs (tDS Γ E (M.execs F b))):PS X (.If x ys zs pos) (tDS Γ E (M.exec F (.iff c a b))):=by
 refine PS.imp (zaP hc ha hb) fun D σ H qq=> ?_
 obtain⟨B,G,τ,h,s,p⟩:=qq
 rw [M.exec]at p
 refine jB s p fun t h1 G1 H1 e1 s1 p1=> ?_
 cases t with
 | true=>exact iteT ⟨B,G1,τ,h1,s1,p1⟩
 | false=>exact iteF ⟨B,G1,τ,h1,s1,p1⟩
theorem zF {s:M.S}{ss:M.Ss}{st:Stmt}{sts:List Stmt}(h1:PS X st (tDS Γ E (M.exec F s))) (h2:PSs X sts (tDS Γ E (M.execs F ss))):PSs X (st::sts) (tDS Γ E (M.execs F (.cons s ss))):=by
 refine PSs.imp (J1 h1 h2) fun D σ H qq=> ?_
 obtain⟨B,G,τ,h,s',p⟩:=qq
 rw [M.execs]at p
 refine⟨B,G,τ,h,s',?_⟩
 cases q:M.exec F s τ h with
 | next τ' h'=>rw [q]at p;exact fun G' σ' H' s2=>⟨B,G',τ',h',s2,p⟩
 | ret w h'=>rw [q]at p;exact p
 | brk τ' h'=>rw [q]at p;exact p
 | cont τ' h'=>rw [q]at p;exact p
 | exc d h'=>rw [q]at p;exact p
 | fail=>rw [q]at p;exact p
theorem wR:PSs X [] (tDS Γ E (M.execs F .nil)):=PSs.imp jai fun D σ H ⟨B,G,τ,h,s,p⟩=>p G σ H s
theorem Wu {i:Nat}{ss:M.Ss}{sts:List Stmt}(h2:PSs X sts (tDS Γ E (M.execs F ss))):PSs X sts (tDS Γ E (M.execs F (.cons (.freeze i) ss))):=by
 refine PSs.imp h2 fun D σ H qq=> ?_
 obtain⟨B,G,τ,h,s,p⟩:=qq
 rw [M.execs,M.exec]at p
 cases q:M.getS τ i with
 | none=>rw [q]at p;exact⟨B,G,τ,h,s,p⟩
 | some w=>
  rw [q]at p
  cases w with
  | v d=>exact⟨B,G,τ,h,s,p⟩
  | bor xs=>exact⟨B,G,τ,h,s,p⟩
  | own xs=>
   obtain⟨G',s'⟩:=s.freeze q
   exact⟨B,G',_,h,s',p⟩
theorem XU (go:GoS Γ F X E k cf){n:Nat}{c:M.E}{b:M.Ss}{x:Expr}{ys:List Stmt}{pos:Pos}(hc:PT X x (tDT Γ E (M.tstE F c))) (hb:PSs X ys (tDS Γ E (M.execs F b))):PS X (.While x ys [] pos) (tDS Γ E (M.exec F (.whl n c b))):=by
 refine PS.imp (W1 go.pown hc hb) fun D σ H qq=> ?_
 obtain⟨B,G,τ,h,s,p⟩:=qq
 rw [M.exec]at p
 refine⟨fun m σ H=> ∃G τ h,StS Γ B G τ h σ H/\PostO Γ E B (M.whlGo (fun τ h=>M.tstE F c τ h) (fun τ h=>M.execs F b τ h) m τ h) D,⟨n,G,τ,h,s,p⟩,?_⟩
 rintro m σ H ⟨G,τ,h,s,p⟩
 cases m with
 | zero=>exact p.elim
 | succ m=>
  rw [M.whlGo]at p
  refine jB s p fun t h1 G1 H1 e1 s1 p1=> ?_
  cases t with
  | false=>exact iteF (p1 G1 σ H1 s1)
  | true=>
   refine iteT ⟨_,fun σ' H' w=>⟨m,Nat.lt_succ_self _,w⟩,B,G1,τ,h1,s1,?_⟩
   have p1:PostO Γ E B (match M.execs F b τ h1 with
    | .next τ2 h2=>M.whlGo (fun τ h=>M.tstE F c τ h) (fun τ h=>M.execs F b τ h) m τ2 h2
    | .cont τ2 h2=>M.whlGo (fun τ h=>M.tstE F c τ h) (fun τ h=>M.execs F b τ h) m τ2 h2
    | .brk τ2 h2=> .next τ2 h2
    | o=>o) D:=p1
   cases q:M.execs F b τ h1 with
   | next τ' h'=>rw [q]at p1;exact fun G' σ' H' s2=>⟨G',τ',h',s2,p1⟩
   | cont τ' h'=>rw [q]at p1;exact fun G' σ' H' s2=>⟨G',τ',h',s2,p1⟩
   | ret w h'=>rw [q]at p1;exact p1
   | brk τ' h'=>rw [q]at p1;exact p1
   | exc d h'=>rw [q]at p1;exact p1
   | fail=>rw [q]at p1;exact p1
theorem QW (go:GoS Γ F X E k cf){tg:List Nat}{one:Bool}{it:M.It}{b:M.Ss}{t iter:Expr}{ys:List Stmt}{pos:Pos}(he:enumOk it t=true) (ht:chkTarget cf tg one t=true) (hi:chkLp cf it iter=true) (hb:PSs X ys (tDS Γ E (M.execs F b))):
 PS X (.For t iter ys [] pos) (tDS Γ E (M.exec F (.for tg one it b))):=by
 obtain⟨li,ls⟩:=sndL (tg:=t) go.toGo he hi
 refine PS.imp (xat go.pown go.calm li (wg go.toGo ht) hb (jy ls)) fun D σ H qq=> ?_
 obtain⟨B,G,τ,h,s,p⟩:=qq
 rw [M.exec]at p
 refine⟨G,τ,h,s.st,?_⟩
 cases q:M.evalLp F it τ h with
 | exc d h1=>rw [q]at p;exact PostO.exc s p
 | fail=>rw [q]at p;exact p
 | ok ds h1=>
  rw [q]at p
  intro G1 H1 e hr J C wj c0 clp
  have s1:=s.on e hr
  have p1:PostO Γ E (reB G1 τ h1 σ H1) (M.forGo (M.bindT tg one) (fun τ h=>M.execs F b τ h) ds τ h1) D:=Q2 s1 p
  have cB:C (reB G1 τ h1 σ H1).G (reB G1 τ h1 σ H1).H:=clp rfl
  have s2:=jaC s1
  refine⟨fun i m σ' H'=> ∃G' τ' h',(m=ds.length-i/\i<=ds.length)/\StS Γ (reB G1 τ h1 σ H1) G' τ' h' σ' H'/\PostO Γ E (reB G1 τ h1 σ H1) (M.forGo (M.bindT tg one) (fun τ h=>M.execs F b τ h) (ds.drop i) τ' h') D,
   ⟨ds.length,G1,τ,h1,⟨by simp,Nat.zero_le _⟩,s2,p1⟩,?_⟩
  rintro i m σ' H' ⟨G',τ',h',⟨rfl,hi'⟩,s',p'⟩
  have c':=wj.keep _ _ _ _ _ cB s'.ext s'.hr
  by_cases hlt:i<ds.length
  ·refine .inr ⟨wj.go i G' H' c' hlt,_,fun σ2 H2 w=>⟨ds.length-(i+1),by omega,w⟩,fun x H'' hy=> ?_⟩
   obtain⟨G4,x4,hx4,d,ed,rdx⟩:=wj.yld i G' H' x H'' c' hlt hy
   have s':=s'.on x4 (hx4 _ s'.st.heap)
   have edr:ds.drop i=d::ds.drop (i+1):=by
    rw [List.drop_eq_getElem_cons hlt]
    rw [List.getElem?_eq_getElem hlt]at ed
    cases ed
    rfl
   rw [edr,M.forGo]at p'
   cases qb:M.bindT tg one d τ' with
   | none=>rw [qb]at p';exact p'.elim
   | some τ1=>
    rw [qb]at p'
    refine qau qb rdx s' fun σ2 s3=>⟨_,G4,τ1,h',s3,?_⟩
    have p':PostO Γ E (reB G1 τ h1 σ H1) (match M.execs F b τ1 h' with
     | .next τ2 h2=>M.forGo (M.bindT tg one) (fun τ h=>M.execs F b τ h) (ds.drop (i+1)) τ2 h2
     | .cont τ2 h2=>M.forGo (M.bindT tg one) (fun τ h=>M.execs F b τ h) (ds.drop (i+1)) τ2 h2
     | .brk τ2 h2=> .next τ2 h2
     | o=>o) D:=p'
    cases q:M.execs F b τ1 h' with
    | next τ2 h2=>rw [q]at p';exact fun G3 σ3 H3 s4=>⟨G3,τ2,h2,⟨rfl,by omega⟩,s4,p'⟩
    | cont τ2 h2=>rw [q]at p';exact fun G3 σ3 H3 s4=>⟨G3,τ2,h2,⟨rfl,by omega⟩,s4,p'⟩
    | ret w h2=>rw [q]at p';exact p'
    | brk τ2 h2=>rw [q]at p';exact p'
    | exc d h2=>rw [q]at p';exact p'
    | fail=>rw [q]at p';exact p'
  ·have ei:i=ds.length:=by omega
   subst ei
   rw [List.drop_length]at p'
   exact .inl ⟨wj.stop _ G' H' c' (Nat.le_refl _) (Nat.le_refl _),p' G' σ' H' s'⟩
theorem qo: ∀ {es:M.Es}{xs:List Expr}{τ:M.Sl}{h:M.AH}{ds:List M.W}{h':M.AH},chkEs cf es xs=true->M.evalWs F es τ h= .ok ds h'->ds.length=xs.length
 | .nil,xs,_,_,_,_,c,e=>by
  unfold chkEs at c
  split at c
  ·rw [M.evalWs]at e;cases e;rfl
  ·cases c
 | .cons a es,xs,τ,h,ds,h',c,e=>by
  unfold chkEs at c
  split at c
  ·rename_i x xs
   simp only [Bool.and_eq_true]at c
   rw [M.evalWs]at e
   obtain⟨w,h1,e1,e⟩:=Jb e
   obtain⟨r,h3,e3,e⟩:=Jb e
   cases e
   rw [List.length_cons,List.length_cons,qo c.2 e3]
  ·cases c
theorem xh: ∀(τ:M.Sl) (i j:Nat),M.getS (τ.set i none) j=if j=i then none else M.getS τ j
 | [],i,j=>by simp
 | x::r,0,0=>by simp
 | x::r,0,j+1=>by simp
 | x::r,i+1,0=>by simp
 | x::r,i+1,j+1=>by simpa using xh r i j
theorem StS.clear {B:Bs}{G:Gh}{τ:M.Sl}{h:M.AH}{σ:St}{H:Hp}(s:StS Γ B G τ h σ H){i:Nat}:StS Γ B G (τ.set i none) h (σ.set i none) H:=by
 have ne: ∀ {j w},M.getS (τ.set i none) j=some w->j≠i/\M.getS τ j=some w:=fun {j w} e=>by
  rw [xh]at e
  split at e
  ·cases e
  ·rename_i hj;exact⟨hj,e⟩
 have sg: ∀ {j:Nat},j≠i->(σ.set i none)[j]? =σ[j]? :=fun {j} hj=>List.getElem?_set_ne (Ne.symm hj)
 refine⟨⟨by rw [List.length_set,List.length_set];exact s.st.len,fun j w e=> ?_,fun p q xs w a hpq e1 e2 hl e3=> ?_,s.st.heap⟩,s.ext,s.hr,fun j xs a e1 e2=> ?_⟩
 ·obtain⟨hj,e⟩:=ne e
  obtain⟨v,z1,z2⟩:=s.st.slot j w e
  exact⟨v,by rw [sg hj];exact z1,z2⟩
 ·obtain⟨hp,e1⟩:=ne e1
  obtain⟨hq,e2⟩:=ne e2
  rw [sg hp]at e3
  rw [sg hq]
  exact s.st.apart p q xs w a hpq e1 e2 hl e3
 ·obtain⟨hj,e1⟩:=ne e1
  rw [sg hj]at e2
  exact s.own j xs a e1 e2
theorem StS.mv {B:Bs}{G:Gh}{τ:M.Sl}{h:M.AH}{σ:St}{H:Hp}(s:StS Γ B G τ h σ H){i j:Nat}{xs:List M.D}{a:Addr}(e:M.getS τ j=some (.own xs)) (e2:σ[j]? =some (some (.ref a))):StS Γ B G (M.setS (τ.set j none) i (.own xs)) h (σ.set i (some (.ref a))) H:=by
 have key: ∀ {k w},M.getS (M.setS (τ.set j none) i (.own xs)) k=some w->(k=i/\i<τ.length/\w= .own xs)\/(k≠i/\k≠j/\M.getS τ k=some w):=fun {k w} q=>by
  rw [jb]at q
  by_cases c:k=i/\i<(τ.set j none).length
  ·rw [if_pos c]at q
   cases q
   exact .inl ⟨c.1,by have:=c.2;rw [List.length_set]at this;exact this,rfl⟩
  ·rw [if_neg c,xh]at q
   split at q
   ·cases q
   ·rename_i hk
    refine .inr ⟨fun z=>c ⟨z,?_⟩,hk,q⟩
    rw [List.length_set,←z]
    exact Wd q
 have sg: ∀ {k:Nat},k≠i->(σ.set i (some (V.ref a)))[k]? =σ[k]? :=fun {k} hk=>List.getElem?_set_ne (Ne.symm hk)
 have si:i<τ.length->(σ.set i (some (V.ref a)))[i]? =some (some (.ref a)):=fun hi=>List.getElem?_set_self (by rw [← s.st.len];exact hi)
 refine⟨⟨by rw [Zd,List.length_set,List.length_set];exact s.st.len,fun k w q=> ?_,fun p q ys w b hpq q1 q2 hl q3=> ?_,s.st.heap⟩,s.ext,s.hr,fun k ys b q1 q2=> ?_⟩
 ·rcases key q with⟨rfl,hi,rfl⟩ | ⟨h1,h2,q⟩
  ·obtain⟨v,z1,z2⟩:=s.st.slot j _ e
   rw [e2]at z1
   cases z1
   exact⟨_,si hi,z2⟩
  ·obtain⟨v,z1,z2⟩:=s.st.slot k w q
   exact⟨v,by rw [sg h1];exact z1,z2⟩
 ·rcases key q1 with⟨rfl,hi,z⟩ | ⟨h1,h2,r1⟩
  ·rcases key q2 with⟨rfl,_,_⟩ | ⟨h3,h4,r2⟩
   ·exact absurd rfl hpq
   ·rw [si hi]at q3
    cases q3
    rw [sg h3]
    exact s.st.apart j q xs w a (Ne.symm h4) e r2 hl e2
  ·rw [sg h1]at q3
   rcases key q2 with⟨rfl,hi,z⟩ | ⟨h3,h4,r2⟩
   ·rw [si hi]
    intro z'
    cases z'
    exact s.st.apart p j ys (.own xs) a h2 r1 e rfl q3 e2
   ·rw [sg h3]
    exact s.st.apart p q ys w b hpq r1 r2 hl q3
 ·rcases key q1 with⟨rfl,hi,z⟩ | ⟨h1,h2,r1⟩
  ·rw [si hi]at q2
   cases q2
   exact s.own j xs a e e2
  ·rw [sg h1]at q2
   exact s.own k ys b r1 q2
theorem X9 (go:Go Γ F X E k cf){i j:Nat}{x y:Str}{p p' pos:Pos}(hl:storB cf i x=true) (h1:cf.N[j]? =some y) (h2:visB cf.sc y=true) (h3:nmB y=true):PS X (.Assign [.Name x p] (.Name y p') pos) (tDS Γ E (M.exec F (.mv i j))):=by
 unfold nmB at h3
 rw [Bool.and_eq_true]at h3
 have pv:=Zl (X:=X) (pos:=p') (by rw [go.N];exact h1) (go.vis y h2) (by simpa using h3.1) (by simpa using h3.2)
 obtain⟨g1,g2⟩:=Zg hl
 have hl:=go.sto x g2
 refine PS.imp (Z7 (by rw [go.N];exact go.nd) (by rw [go.N];exact g1) hl.1 pv (Qb rfl) hl.2) fun D σ H qq=> ?_
 obtain⟨B,G,τ,h,s,q⟩:=qq
 rw [M.exec]at q
 cases e:M.getS τ j with
 | none=>rw [e]at q;exact q.elim
 | some w0=>
  rw [e]at q
  cases w0 with
  | v d=>exact q.elim
  | bor ys=>exact q.elim
  | own ys=>
   obtain⟨v0,e0,a,vs,rfl,z2,z3,z4,z5⟩:=s.st.slot j _ e
   exact⟨.ref a,e0,q G _ H (s.mv e e0)⟩
theorem XF (go:GoS Γ F X E k cf){c:String}{es:M.Es}{g x:Expr}{xs:List Expr}{cpos pos:Pos}(hg:gNm cf.sc c g=true) (hc:cf.rai.contains c=true) (hl:(x::xs).length<=1000) (he:chkEs cf es (x::xs)=true):
 PS X (.Raise (some (.Call g (x::xs) [] cpos)) none pos) (tDS Γ E (M.exec F (.raise c es))):=by
 obtain⟨p0,rfl,h2,h3⟩:=Xa hg
 obtain⟨xo,ps⟩:=go.rai c hc h2 h3
 refine PS.imp (ps _ _ _ _ _ _ (sndWs es go.toGo he) (wd he)) fun D σ H qq=> ?_
 obtain⟨B,G,τ,h,s,p⟩:=qq
 rw [M.exec]at p
 refine⟨G,τ,h,s.st,?_⟩
 cases q:M.evalWs F es τ h with
 | exc d h1=>rw [q]at p;exact PostO.exc s p
 | fail=>rw [q]at p;exact p
 | ok ws h1=>
  rw [q]at p
  intro G1 H1 e hr vs r
  refine⟨?_,p G1 H1 (s.ext.trans s.hr e) hr c rfl xo⟩
  rw [← r.length,qo he q]
  exact Nat.le_of_lt (Xf hl)
theorem JJ {c w:String}(xo:XOk Γ c) (hw:w∈Γ.own) (hc:(M.ancs Γ.cl 8 c).contains w=true):PySem.W.kitCls Γ.K (.ref (Γ.ca c)) (.ref (Γ.ca w))=some true:=by
 have h:=xo.own w hw
 rw [hc]at h
 unfold PySem.W.kitOne at h
 split at h
 ·rename_i e
  have e:Γ.ca c=Γ.ca w:=by simpa using e
  rw [← e]
  exact xo.k.slf
 ·exact h
theorem Go.nox (go:Go Γ F X E k cf):Go Γ F X.nox E0 k cf:=⟨go.N,go.K,go.cl,go.ow,go.nd,go.vis,go.lcl,go.sto,go.cel,go.gl,go.calm,go.room,fun pins σ H s e s' _ hq=>by
 obtain⟨x,C',t,B,H2,_,_,_,_,_,_,_,_,hE⟩:=hq
 exact hE.elim,go.blt,go.con,fun f hf=>by
 obtain⟨ps,fa,fd,h1,h2,h3,h4⟩:=(go.fn f hf).imp fun ps h=>h.ex
 exact⟨ps,⟨fa,fd,h1,h2,h3,h4⟩⟩,go.cls⟩
theorem PS.nox {st:Stmt}{t:TS}(h:PS X.nox st t):PS X st t:=fun pins s σ H D I q=>wpAny_mono (h pins s σ H D (I.wish _) q) (fun _ _ z=>SP.unwish z) fun _ _ z=>False.elim z
theorem Z3 (go:GoS Γ F X E k cf){f c:String}{es:M.Es}{g x w:Expr}{xs:List Expr}{n v:Str}{nm iv:Nat}{cp ep vp np ap hp pos:Pos}(hg:gNm cf.sc f g=true) (hf:cf.fns.contains f=true) (he:chkEs cf es (x::xs)=true)
 (hw:gNm cf.sc c w=true) (hc:cf.hnd.contains c=true) (hn:localB cf nm n=true) (hnn:nmB n=true) (hv:localB cf iv v=true):
 PS X (.Try [.Expr (.Call g (x::xs) [] cp) ep] [.ExceptHandler (some w) (some n) [.Assign [.Name v vp] (.Name n np) ap] hp] [] [] pos) (tDS Γ E (M.exec F (.tryc none f es c nm (.cons (.setf iv (.var nm)) .nil)))):=by
 obtain⟨p0,rfl,h2,h3⟩:=Xa hg
 obtain⟨p1,rfl,h4,h5⟩:=Xa hw
 obtain⟨ps,fa,fd,fok,bd,kp,hm⟩:=(go.fn f hf).imp fun ps h=>h.ex
 obtain⟨hb,ho⟩:=go.hnd c hc
 obtain⟨n1,n2⟩:=wo hn
 obtain⟨v1,v2⟩:=wo hv
 have hpl:=wd he
 unfold nmB at hnn
 rw [Bool.and_eq_true]at hnn
 refine PS.nox (PS.imp (jH (X:=X.nox) (fun _ _ z=>z) go.stk go.frm go.ex fok go.room (go.gl _ h2) hm kp bd (sndWs es go.toGo.nox he) (go.gl _ h4) (go.cls c ho) hb (by show X.N.Nodup;rw [go.N];exact go.nd) (by show X.N[nm]? =_;rw [go.N];exact n1) (go.lcl n n2) (by show X.N[iv]? =_;rw [go.N];exact v1) (go.lcl v v2)
  (Qb rfl) (Qb rfl) h3 h5 (by simpa using hnn.1) (ja (hpl _ List.mem_cons_self)) (Jf fun e he=>hpl e (List.mem_cons_of_mem _ he))) fun D σ H ⟨B,G,τ,h,s,p⟩=> ?_)
 rw [M.exec]at p
 refine⟨G,τ,h,s.st,?_⟩
 cases q:M.evalWs F es τ h with
 | exc d h1=>rw [q]at p;exact p.elim
 | fail=>rw [q]at p;exact p.elim
 | ok ws h1=>
  rw [q]at p
  intro G1 H1 e1 hr1 vs r1
  have s1:=s.on e1 hr1
  refine⟨G1,h1,_,hr1,zj r1,xj ws,?_⟩
  have p:PostO Γ E B (match F.call f (ws.map M.W.arg) h1 with
   | .ok w h=> .next τ h
   | .exc d h=>(match M.isX F.cl (.v d) [c]with
    | some true=>(match M.execs F (.cons (.setf iv (.var nm)) .nil) (M.setS τ nm (.v d)) h with
     | .next τ' h'=> .next (τ'.set nm none) h'
     | _=> .fail)
    | _=> .fail)
   | .fail=> .fail) D:=p
  cases qc:F.call f (ws.map M.W.arg) h1 with
  | fail=>rw [qc]at p;exact p.elim
  | ok w' h2=>
   rw [qc]at p
   intro G2 H2 e2 hr2 v' _ _
   exact p G2 σ H2 (s1.on e2 hr2)
  | exc d h2=>
   rw [qc]at p
   intro G2 H2 e2 hr2 c' ed xo
   subst ed
   have p:PostO Γ E B (match some ([c].any (M.ancs F.cl 8 c').contains)with
    | some true=>(match M.execs F (.cons (.setf iv (.var nm)) .nil) (M.setS τ nm (.v (.exc c' []))) h2 with
     | .next τ' h'=> .next (τ'.set nm none) h'
     | _=> .fail)
    | _=> .fail) D:=p
   cases qk: [c].any (M.ancs F.cl 8 c').contains with
   | false=>rw [qk]at p;exact p.elim
   | true=>
    rw [qk]at p
    have hk:(M.ancs Γ.cl 8 c').contains c=true:=by rw [← go.cl];simpa using qk
    refine⟨_,rfl,go.K▸xo.k,go.K▸JJ xo (by rw [← go.ow];exact List.contains_iff_mem.mp ho) hk,fun y hy=> ?_⟩
    have s2:=(s1.on e2 hr2).on (Jd (excO y (Γ.ca c')) hy) (hr2.newF (excO y (Γ.ca c')) hy)
    have rd:RelD Γ (G2.more y) (upd H2 y (excO y (Γ.ca c'))) (.exc c' []) (.ref y):=⟨rfl,y,rfl,.inr rfl,xb,xo⟩
    by_cases hnl:nm<τ.length
    rotate_left
    ·exfalso
     have gn:M.getS (M.setS τ nm (.v (.exc c' []))) nm=none:=by
      rw [jb,if_neg fun z=>hnl z.2]
      cases q:M.getS τ nm with
      | none=>rfl
      | some w=>exact absurd (Wd q) hnl
     have ee:M.execs F (.cons (.setf iv (.var nm)) .nil) (M.setS τ nm (.v (.exc c' []))) h2= .fail:=by
      rw [M.execs,M.exec,M.eval]
      simp [M.readS,gn]
     have p:PostO Γ E B (match M.execs F (.cons (.setf iv (.var nm)) .nil) (M.setS τ nm (.v (.exc c' []))) h2 with
      | .next τ' h'=> .next (τ'.set nm none) h'
      | _=> .fail) D:=p
     rw [ee]at p
     exact p
    have gn:M.getS (M.setS τ nm (.v (.exc c' []))) nm=some (.v (.exc c' [])):=by rw [jb,if_pos ⟨rfl,hnl⟩]
    have p:PostO Γ E B (.next ((M.setS (M.setS τ nm (.v (.exc c' []))) iv (.v (.exc c' []))).set nm none) h2) D:=by
     have ee:M.execs F (.cons (.setf iv (.var nm)) .nil) (M.setS τ nm (.v (.exc c' []))) h2= .next (M.setS (M.setS τ nm (.v (.exc c' []))) iv (.v (.exc c' []))) h2:=by
      rw [M.execs,M.exec,M.eval,M.readS_v gn]
      rfl
     have p:PostO Γ E B (match M.execs F (.cons (.setf iv (.var nm)) .nil) (M.setS τ nm (.v (.exc c' []))) h2 with
      | .next τ' h'=> .next (τ'.set nm none) h'
      | _=> .fail) D:=p
     rw [ee]at p
     exact p
    exact p _ _ _ ((s2.setD (i:=nm) rd).setD (i:=iv) rd).clear
end
section
variable {Γ:Ge}{F:M.Fx}{k:Nat}{X:Cx}{E:XK}{cf:Cf}
mutual
theorem sndS (go:GoS Γ F X E k cf): ∀(m:M.S){st:Stmt},chkS cf m st=true->PS X st (tDS Γ E (M.exec F m))
 | .set i e,st,h=>by
  unfold chkS at h
  split at h
  ·rw [Bool.and_eq_true]at h;exact JU go.toGo h.1 h.2
  ·cases h
 | .setf i e,st,h=>by
  unfold chkS at h
  split at h
  ·rw [Bool.and_eq_true]at h;exact WR go.toGo h.1 h.2
  ·cases h
 | .unp is e,st,h=>by
  unfold chkS at h
  split at h
  ·simp only [Bool.and_eq_true]at h;exact QY go.toGo h.1.1 h.1.2 h.2
  ·cases h
 | .setix i kx e,st,h=>by
  unfold chkS at h
  split at h
  ·simp only [Bool.and_eq_true,decide_eq_true_eq]at h
   exact JE go.toGo h.1.1.1.1.1.1.1 h.1.1.1.1.1.1.2 h.1.1.1.1.1.2 h.1.1.1.1.2 h.1.2 h.2
  ·cases h
 | .setref _ _ _,st,h=>by unfold chkS at h;cases h
 | .app i e,st,h=>by
  unfold chkS at h
  split at h
  ·simp only [Bool.and_eq_true]at h;exact WV go.toGo h.1.1 h.1.2 h.2
  ·cases h
 | .ins _ _ _,st,h=>by unfold chkS at h;cases h
 | .ext i e,st,h=>by
  unfold chkS at h
  split at h
  ·simp only [Bool.and_eq_true]at h;exact X0 go.toGo h.1.1 h.1.2 h.2
  ·cases h
 | .pop _,st,h=>by unfold chkS at h;cases h
 | .popTo _ _,st,h=>by unfold chkS at h;cases h
 | .mv i j,st,h=>by
  unfold chkS at h
  split at h
  ·simp only [Bool.and_eq_true,decide_eq_true_eq]at h
   exact X9 go.toGo h.1.1.1 h.1.1.2 h.1.2 h.2
  ·cases h
 | .dput i e,st,h=>by
  unfold chkS at h
  split at h
  ·simp only [Bool.and_eq_true,decide_eq_true_eq]at h
   exact XR go.toGo h.1.1.1.1.1.1.1 h.1.1.1.1.1.1.2 h.1.1.1.1.1.2 h.1.1.1.1.2 h.1.2 h.2
  ·cases h
 | .clr _,st,h=>by unfold chkS at h;cases h
 | .rem i e,st,h=>by
  unfold chkS at h
  split at h
  ·simp only [Bool.and_eq_true]at h;exact J0 go.toGo h.1.1 h.1.2 h.2
  ·cases h
 | .insR _ _ _,st,h=>by unfold chkS at h;cases h
 | .appR _ _,st,h=>by unfold chkS at h;cases h
 | .popR _ _,st,h=>by unfold chkS at h;cases h
 | .popU _ _,st,h=>by unfold chkS at h;cases h
 | .forR _ _ _ _,st,h=>by unfold chkS at h;cases h
 | .freeze _,st,h=>by unfold chkS at h;cases h
 | .ex e,st,h=>by
  unfold chkS at h
  split at h
  ·rw [Bool.and_eq_true]at h;exact xan go.toGo h.1 h.2
  ·cases h
 | .ret e,st,h=>by
  unfold chkS at h
  split at h
  ·exact qV go.toGo h
  ·cases h
 | .retn,st,h=>by unfold chkS at h;cases h
 | .iff c a b,st,h=>by
  unfold chkS at h
  split at h
  ·simp only [Bool.and_eq_true]at h
   exact jZ ((sndE c go.toGo h.1.1.2).2 h.1.1.1) (sndSs go a h.1.2) (sndSs go b h.2)
  ·cases h
 | .whl n c b,st,h=>by
  unfold chkS at h
  split at h
  ·simp only [Bool.and_eq_true]at h
   exact XU go ((sndE c go.toGo h.1.2).2 h.1.1) (sndSs go b h.2)
  ·cases h
 | .for tg one it b,st,h=>by
  unfold chkS at h
  split at h
  ·simp only [Bool.and_eq_true]at h
   exact QW go h.1.1.1 h.1.1.2 h.1.2 (sndSs go b h.2)
  ·cases h
 | .raise c es,st,h=>by
  unfold chkS at h
  split at h
  ·simp only [Bool.and_eq_true,decide_eq_true_eq]at h
   exact XF go h.1.1.1 h.1.1.2 h.1.2 h.2
  ·cases h
 | .tryc to f es c nm hb,st,h=>by
  unfold chkS at h
  split at h
  ·simp only [Bool.and_eq_true,decide_eq_true_eq]at h
   obtain⟨⟨⟨⟨⟨⟨⟨⟨⟨h0,h1⟩,h2⟩,h3⟩,h4⟩,h5⟩,h6⟩,h7⟩,h8⟩,h9⟩:=h
   subst h6
   split at h0
   ·split at h9
    ·simp only [Bool.and_eq_true,decide_eq_true_eq]at h9
     obtain⟨h10,rfl⟩:=h9
     exact Z3 go h1 h2 h3 h4 h5 h7 h8 h10
    ·cases h9
   ·cases h0
  ·cases h
 | .brk,st,h=>by unfold chkS at h;cases h
 | .cont,st,h=>by unfold chkS at h;cases h
 | .pass,st,h=>by unfold chkS at h;cases h
theorem sndSs (go:GoS Γ F X E k cf): ∀(m:M.Ss){sts:List Stmt},chkSs cf m sts=true->PSs X sts (tDS Γ E (M.execs F m))
 | .nil,sts,h=>by
  unfold chkSs at h
  split at h
  ·exact wR
  ·cases h
 | .cons s ss,sts,h=>by
  unfold chkSs at h
  split at h
  ·exact Wu (sndSs go ss h)
  ·split at h
   ·rw [Bool.and_eq_true]at h
    exact zF (sndS go s h.1) (sndSs go ss h.2)
   ·cases h
end
end
end L2.MS
namespace L2.MS
open PySem PySem.Spec PyProof.Rows
section
variable {P:Program}{w:World}{K:PySem.W.Frag}{mg:Str->Option Value}{base:Heap}{N:List Str}{qual:Str}{scope:Scope}{f:Addr}{cd:Value}{A:Around}{outer:List Env}{s:Shared}{H:Hp}{E:XK}
theorem xF:Passes (CX1 P w) (cxOf (CX1 P w) P w K mg base N qual scope f cd A outer s H E) E:=by
 intro pins σ H1 s1 ev s' I hq
 obtain⟨x,C,t,B,H',rfl,os,bare,fl,un,hok,comp,new,hE⟩:=hq
 have I':Inv (cxOf (CX1 P w) P w K mg base N qual scope f cd A outer s H E) pins σ H' s':=JA (h6:=s'.heap) I os bare un hok comp fl fun b o z _=>⟨o.slots,z⟩
 have ff:s'.heap.FunFrames B (envOfC qual scope s.heap.objs.size f cd::outer):=fl.2.2.1
 refine wpAny_leaves_onW (L:=s.heap.objs.size) I.ok.frames rfl fl fun h2 x1 x4=> ?_
 have free: ∀b∈frs (envOfC qual scope s.heap.objs.size f cd::outer),H' b=none:=I'.stkFree
 have slotH: ∀b o,b∈frs (envOfC qual scope s.heap.objs.size f cd::outer)->s'.heap.get? b=some o-> ∃sl,h2.get? b=some { o with slots:=sl }:=fun b o hb z=>by
  obtain⟨_,o',z',nf⟩:=ff.mem hb
  rw [z]at z'
  cases z'
  exact x4 b o z nf
 have toH: ∀b o,s'.heap.get? b=some o->((∃ u,H' b=some u)\/ ∃u,s1.heap.get? b=some u)->b∉frs (envOfC qual scope s.heap.objs.size f cd::outer)->h2.get? b=some o:=fun b o z c n=>x1.1 b o (comp b o z c n)
 have cut: ∀b,b∉frs outer->b≠s.heap.objs.size->b∉frs (envOfC qual scope s.heap.objs.size f cd::outer):=fun b n1 n2 hb=>by
  rcases List.mem_cons.mp (show b∈s.heap.objs.size::frs outer from hb)with z | z
  ·exact n2 z
  ·exact n1 z
 have old: ∀b o,s.heap.get? b=some o->b≠s.heap.objs.size:=fun b o z=>Nat.ne_of_lt (Heap.lt_size z)
 have trk: ∀b u,H' b=some u->b∉frs (envOfC qual scope s.heap.objs.size f cd::outer):=fun b u z hb=>by rw [free b hb]at z;cases z
 have in1: ∀b o,s.heap.get? b=some o-> ∃u,s1.heap.get? b=some u:=fun b o z=>I.base.there b o z (by show b∉([]:List Addr);simp)
 refine⟨x,C,t,B,H',rfl,os.trans I.os,bare,x1,⟨fun b o z n hb hx=> ?_,fun b o z n hb hx=> ?_,I'.base.free,fun b o z hx=> ?_,I'.base.tups,I'.base.frzs,I'.base.tbls⟩,fun b u z=> ?_,fun b o z hc hb=> ?_,?_,hE⟩
 ·exact toH b o (I'.base.keep b o z n hb hx) (.inr (in1 b o z)) (cut b hb (old b o z))
 ·obtain⟨sl,z1⟩:=I'.base.slot b o z n hb hx
  obtain⟨sl2,z2⟩:=slotH b _ (List.mem_cons_of_mem _ hb) z1
  exact⟨sl2,z2⟩
 ·obtain⟨o',z1⟩:=I'.base.there b o z hx
  by_cases hb:b∈frs (envOfC qual scope s.heap.objs.size f cd::outer)
  ·obtain⟨sl,z2⟩:=slotH b o' hb z1
   exact⟨_,z2⟩
  ·exact⟨o',toH b o' z1 (.inr (in1 b o z)) hb⟩
 ·refine(hok b u z).stay (fun c v hc z1=> ?_) (fun _ z1=>z1) fun _ _ z1=>z1
  rcases hc with rfl | hc
  ·exact toH c v z1 (.inl ⟨u,z⟩) (trk c u z)
  ·exact toH c v z1 (.inl ⟨_,hc⟩) (trk c _ hc)
 ·have two: ∃o2,s'.heap.get? b=some o2/\((∃ u,H' b=some u)\/ ∃u,s1.heap.get? b=some u)/\b∉frs (envOfC qual scope s.heap.objs.size f cd::outer):=by
   rcases hc with⟨u,hu⟩ | ⟨u,hu⟩
   ·obtain⟨o2,z2⟩:=(hok b u hu).there
    exact⟨o2,z2,.inl ⟨u,hu⟩,trk b u hu⟩
   ·obtain⟨o2,z2⟩:=I'.base.there b u hu (by show b∉([]:List Addr);simp)
    exact⟨o2,z2,.inr (in1 b u hu),cut b hb (old b u hu)⟩
  obtain⟨o2,z2,c2,nb⟩:=two
  have z3:=toH b o2 z2 c2 nb
  rw [show h2.get? b=some o from z]at z3
  cases z3
  exact comp b _ z2 c2 nb
 ·cases z:s.heap.get? x with
  | none=>rfl
  | some u=>
   obtain⟨o2,z2⟩:=in1 x u z
   rw [new]at z2
   cases z2
end
section
variable {Γ:Ge}{G G0:Gh}{H H0:Hp}{h:M.AH}
def Gh.cut (G:Gh) (n:Nat):Gh:= { G with n:=n }
mutual
theorem RelD.cut (n:Nat): ∀ {d:M.D}{v:V},M.noRef d=true->RelD Γ G H d v->RelD Γ (G.cut n) H d v
 | .non,_,_,z=>z
 | .bl _,_,_,z=>z
 | .int _,_,_,z=>z
 | .str _,_,_,z=>z
 | .tup _,_,q,⟨a,vs,z1,z2,z3⟩=>⟨a,vs,z1,z2,RelDs.cutR n (by simpa [M.noRef]using q) z3⟩
 | .lst _,_,q,⟨a,vs,z1,z2,z3⟩=>⟨a,vs,z1,z2,RelDs.cutR n (by simpa [M.noRef]using q) z3⟩
 | .ref r,_,q,_=>by simp [M.noRef]at q
 | .exc c fs,_,q,z=>by simp [M.noRef]at q
theorem RelDs.cutR (n:Nat): ∀ {ds:List M.D}{vs:List V},M.noRefs ds=true->RelDs Γ G H ds vs->RelDs Γ (G.cut n) H ds vs
 | [],_,_,z=>z
 | d::ds,_,q,⟨v,r,z1,z2,z3⟩=>by
  have q':M.noRef d=true/\M.noRefs ds=true:=by simpa [M.noRefs]using q
  exact⟨v,r,z1,RelD.cut n q'.1 z2,RelDs.cutR n q'.2 z3⟩
end
theorem Jq: ∀l:List Int,M.noRefs (l.map M.D.int)=true
 | []=>rfl
 | _::l=>Jq l
theorem xap (k:M.WK):M.noRef (wkT k)=true:=by
 show(true&&(M.noRefs (k.2.1.map M.D.int)&&(M.noRefs (k.2.2.map M.D.int)&&true)))=true
 rw [Jq,Jq];rfl
theorem HRel.cut (r:HRel Γ G h H){n:Nat}(hn:n<=G.n):HRel Γ (G.cut n) (h.take n) H where
 len:=by rw [List.length_take,r.len];exact Nat.min_eq_left hn
 cell:=fun i xs e=>by
  have hi:i<n:=by
   have:=(List.getElem?_eq_some_iff.mp e).1
   rw [List.length_take]at this
   omega
  rw [List.getElem?_take_of_lt hi]at e
  obtain⟨z1,vs,z2,z3⟩:=r.cell i xs e
  exact⟨z1,vs,z2,RelDs.cutR n (r.pure i xs e) z3⟩
 pure:=fun i xs e=>by
  have hi:i<n:=by
   have:=(List.getElem?_eq_some_iff.mp e).1
   rw [List.length_take]at this
   omega
  rw [List.getElem?_take_of_lt hi]at e
  exact r.pure i xs e
 inj:=fun i j h1 h2 e=>r.inj i j (Nat.lt_of_lt_of_le h1 hn) (Nat.lt_of_lt_of_le h2 hn) e
 live:=r.live
 dic:=fun i ks e=>by
  have hi:i<n:=by
   have:=(List.getElem?_eq_some_iff.mp e).1
   rw [List.length_take]at this
   omega
  rw [List.getElem?_take_of_lt hi]at e
  obtain⟨z1,xs,z2,z3,z4⟩:=r.dic i ks e
  exact⟨z1,xs,z2,z3,fun x hx=>RelD.cut n (xap x.1) (z4 x hx)⟩
theorem Ext.cut (e:Ext G0 H0 G H):Ext G0 H0 (G.cut G0.n) H:=⟨e.keep,Nat.le_refl _,e.rho,fun r h1 h2=>absurd h1 (Nat.not_le.mpr h2),e.fz,e.old,e.cells⟩
theorem RelW.cut (n:Nat) (hn:n<=G.n){w:M.W}{v:V}(q:w.keep=true) (hb: ∀xs,w≠ .bor xs) (z:RelW Γ G H w v):RelW Γ (G.cut n) H w v:=by
 cases w with
 | v d=>exact RelD.cut n q z
 | own xs=>
  obtain⟨a,vs,z1,z2,z3,z4,z5⟩:=z
  exact⟨a,vs,z1,z2,fun r hr=>z3 r (Nat.lt_of_lt_of_le hr hn),z4,RelDs.cutR n q z5⟩
 | bor xs=>exact absurd rfl (hb xs)
end
structure Txt (K:PySem.W.Frag) (mg:Str->Option Value) (f:String) where
 st:Stmt
 fa:Addr
 fd:FuncData
 N:List Str
 ps:List Str
structure TxtOk {K:PySem.W.Frag}{mg:Str->Option Value}{f:String}(t:Txt K mg f) (d:M.Fn) (fns own rai hnd:List String):Prop where
 fn:Fun K (strS f) (strS f) t.st t.fa t.fd
 bd:Binds K t.fd t.ps []
 kp:PySem.W.keepIn K (.ref t.fa)=true
 mg:mg (strS f)=some (.ref t.fa)
 sc:FnScope t.N t.ps (defScope t.st)
 n:t.N.length=d.n
 p:t.ps.length=d.ps
 le:d.ps<=d.n
 chk:chkSs ⟨defScope t.st,t.N,fns,own,rai,hnd⟩ d.body (defBody t.st)=true
structure PrOk (Γ:Ge) (p:M.Prog) (mg:Str->Option Value) (own rai hnd:List String):Prop where
 cl:p.cl=Γ.cl
 ow:own=Γ.own
 blt: ∀x,x∈bltN->mg (strS x)=none
 con: ∀x d,p.con.lookup x=some d-> ∃u v,mg (strS x)=some u/\RelV v u/\ ∀G H,RelD Γ G H d v
 cls: ∀c,own.contains c=true->mg (strS c)=some (.ref (Γ.ca c))
 rai: ∀c,rai.contains c=true->XOk Γ c/\PySem.W.excIn Γ.K (Γ.ca c) veTail "ValueError.__new__" =true/\mg (strS c)=some (.ref (Γ.ca c))
 hnd: ∀c,hnd.contains c=true->PySem.W.mroIn Γ.K (Γ.ca c) (.type "BaseException")=some true/\own.contains c=true
section
variable {P:Program}{w:World}{Γ:Ge}{mg:Str->Option Value}{base:Heap}{p:M.Prog}{own rai hnd fns:List String}
theorem XM {G:Gh}{H:Hp}{h:M.AH}{ws:List M.W}{vs:List V}{N:List Str}{n:Nat}(hr:HRel Γ G h H) (r:RelWs Γ G H ws vs) (no: ∀w∈ws,noOwn w=true) (hn:N.length=n):StS Γ ⟨G,H,h⟩ G (ws.map some++List.replicate (n-ws.length) none) h (start N vs) H:=by
 have hl:=r.length
 have get: ∀ {i:Nat}{w:M.W},M.getS (ws.map some++List.replicate (n-ws.length) none) i=some w->ws[i]? =some w:=fun {i w} e=>by
  rw [Qi]at e
  by_cases hi:i<ws.length
  ·rw [List.getElem?_append_left (by simpa using hi),List.getElem?_map]at e
   cases q:ws[i]? with
   | none=>rw [q]at e;cases e
   | some w'=>rw [q]at e;exact e
  ·rw [List.getElem?_append_right (by simpa using hi),List.getElem?_replicate]at e
   split at e<;>cases e
 have rel: ∀ {ws:List M.W}{vs:List V}{i:Nat}{w:M.W},RelWs Γ G H ws vs->ws[i]? =some w-> ∃v,vs[i]? =some v/\RelW Γ G H w v:=by
  intro ws
  induction ws with
  | nil=>intro vs i w _ e;simp at e
  | cons a r ih=>
   intro vs i w ⟨v,us,e1,z1,z2⟩ e
   subst e1
   cases i with
   | zero=>simp at e;subst e;exact⟨v,rfl,z1⟩
   | succ i=>
    obtain⟨v',h1,h2⟩:=ih z2 (by simpa using e)
    exact⟨v',by simpa using h1,h2⟩
 have noown: ∀ {i:Nat}{xs:List M.D},M.getS (ws.map some++List.replicate (n-ws.length) none) i≠some (.own xs):=fun {i xs} e=>by
  have:=no _ (List.mem_of_getElem? (get e))
  cases this
 refine⟨⟨?_,fun i w e=> ?_,fun i j xs w a hij e1=>absurd e1 noown,hr⟩,Ext.refl,hr,fun i xs a e1=>absurd e1 noown⟩
 ·unfold start
  rw [List.length_append,List.length_append,List.length_map,List.length_map,List.length_replicate,List.length_replicate,hn,hl]
 ·obtain⟨v,e2,rw'⟩:=rel r (get e)
  refine⟨v,?_,rw'⟩
  unfold start
  have hi:i<vs.length:=(List.getElem?_eq_some_iff.mp e2).1
  rw [List.getElem?_append_left (by simpa using hi),List.getElem?_map,e2]
  rfl
theorem WT {E:XK}{G:Gh}{H:Hp}{h:M.AH}{Q:VK}{o:M.O}(hr:HRel Γ G h H) (p:PostW Γ E G H (M.finO h.length o) Q):PostO Γ E ⟨G,H,h⟩ o { nx:=fun _ H'=>Q .non H',rt:=Q }:=by
 have key: ∀ {w:M.W}{h':M.AH}{G':Gh}{H':Hp}{v:V},(∀ xs,w≠ .bor xs)->PostW Γ E G H (M.fin h.length w h') Q->Ext G H G' H'->HRel Γ G' h' H'->RelW Γ G' H' w v->FreshW [] [] H w v->Q v H':=fun {w h' G' H' v} hb p e hr' r f=>by
  unfold M.fin at p
  split at p
  ·exact p G' H' e hr' v r f
  ·split at p
   ·rename_i hk
    have e':=e.cut
    rw [hr.len]at p
    exact p (G'.cut G.n) H' e' (hr'.cut e.le) v (r.cut G.n e.le hk hb) f
   ·exact p G' H' e hr' v r f
 cases o with
 | next τ h'=>exact fun G' σ' H' s'=>key (w:= .v .non) (v:= .non) (fun xs z=>by cases z) p s'.ext s'.st.heap rfl trivial
 | ret w h'=>
  cases w with
  | bor xs=>exact p.elim
  | v d=>exact fun G' v H' e hr' r f=>key (fun xs z=>by cases z) p e hr' r f
  | own xs=>exact fun G' v H' e hr' r f=>key (fun xs z=>by cases z) p e hr' r f
 | exc d h'=>exact p
 | brk τ h'=>exact p.elim
 | cont τ h'=>exact p.elim
 | fail=>exact p.elim
end
end L2.MS
namespace L2.MS
open PySem PySem.Spec PyProof.Rows
section
variable {P:Program}{w:World}{Γ:Ge}{mg:Str->Option Value}{base:Heap}{p:M.Prog}{own rai hnd fns:List String}
def DefOk (P:Program) (w:World) (Γ:Ge) (mg:Str->Option Value) (base:Heap) (p:M.Prog) (k:Nat) (f:String):Prop:=
 ∃ps fa fd,FnOk P w Γ.K mg base (CX1 P w) k fa fd ps (spW Γ (M.call p k f))/\Binds Γ.K fd ps []/\PySem.W.keepIn Γ.K (.ref fa)=true/\mg (strS f)=some (.ref fa)
theorem xaI (pr:PrOk Γ p mg own rai hnd){f:String}{d:M.Fn}{t:Txt Γ.K mg f}(ok:TxtOk t d fns own rai hnd) (hf:p.fns.lookup f=some d) (k:Nat) (ih: ∀g,fns.contains g=true->DefOk P w Γ mg base p k g):
 FnOk P w Γ.K mg base (CX1 P w) (k+1) t.fa t.fd t.ps (spW Γ (M.call p (k+1) f)):=by
 have run_len: ∀ {ws:List M.W}{h:M.AH},ws.length≠d.ps->M.call p (k+1) f ws h= .fail:=fun {ws h} hn=>by
  rw [M.call,hf]
  simp [M.run,hn]
 have run_ok: ∀ {ws:List M.W}{h:M.AH},ws.length=d.ps->M.call p (k+1) f ws h=M.finO h.length (M.execs ⟨M.call p k,p.cl,p.con⟩ d.body (ws.map some++List.replicate (d.n-d.ps) none) h):=fun {ws h} hn=>M.call_of hf k ws h hn
 refine Fun.okX ok.fn ok.sc (fun vs H Q E ⟨G,h,ws,hr,rs,no,q⟩=> ?_) fun cdv A outer s H vs Q E room ⟨G,h,ws,hr,rs,no,q⟩=> ?_
 ·by_cases hl:ws.length=d.ps
  ·rw [← rs.length,hl,ok.p]
  ·rw [run_len hl]at q;exact q.elim
 ·by_cases hl:ws.length=d.ps
  rotate_left
  ·rw [run_len hl]at q;exact q.elim
  rw [run_ok hl]at q
  refine⟨tDS Γ E (M.execs ⟨M.call p k,p.cl,p.con⟩ d.body),sndSs (k:=k) ?_ d.body ok.chk,?_⟩
  ·refine { N:=rfl,K:=rfl,cl:=pr.cl,ow:=pr.ow,nd:=ok.sc.nd,vis:=fun x hx=>XD hx,lcl:=fun x hx=>hx,sto:=fun x hx=>⟨JD hx,.inl rfl⟩,cel:=fun x hx=>hx,gl:=fun x hx=>Zz hx,calm:=rfl,room:=room,pass:=xF,blt:=pr.blt,con:=pr.con,fn:=fun g hg=> ?_,cls:=pr.cls,pown:=qaN,stk:=rfl,frm:=rfl,ex:=rfl,rai:=fun c hc hg hd=> ?_,hnd:=pr.hnd }
   ·obtain⟨ps,fa,fd,h1,h2,h3,h4⟩:=ih g hg
    exact⟨ps,⟨fa,fd,h1,h2,h3,h4⟩⟩
   ·obtain⟨xo,ei,hm⟩:=pr.rai c hc
    refine⟨xo,fun np cpos pos e es t ha hp=> ?_⟩
    exact XW ei hm (Zz hg) ha (ja (hp _ List.mem_cons_self)) (Jf fun e he=>hp e (List.mem_cons_of_mem _ he)) hd
  ·refine⟨⟨G,H,h⟩,G,ws.map some++List.replicate (d.n-d.ps) none,h,?_,WT hr q⟩
   have:=XM (N:=t.N) (n:=d.n) hr rs no ok.n
   rw [hl]at this
   exact this
theorem xah (f:String) (t:Txt Γ.K mg f):FnOk P w Γ.K mg base (CX1 P w) 0 t.fa t.fd t.ps (spW Γ (M.call p 0 f)):=
 ⟨fun vs H Q E ⟨G,h,ws,hr,rs,no,q⟩=>q.elim,fun A outer s H args us vs Q E _ _ _ _ ⟨G,h,ws,hr,rs,no,q⟩=>q.elim⟩
theorem jaE (pr:PrOk Γ p mg own rai hnd) (all: ∀f,fns.contains f=true-> ∃d,p.fns.lookup f=some d/\ ∃t:Txt Γ.K mg f,TxtOk t d fns own rai hnd): ∀k f,fns.contains f=true->DefOk P w Γ mg base p k f:=by
 intro k
 induction k with
 | zero=>
  intro f hf
  obtain⟨d,hd,t,ok⟩:=all f hf
  exact⟨t.ps,t.fa,t.fd,xah f t,ok.bd,ok.kp,ok.mg⟩
 | succ k ih=>
  intro f hf
  obtain⟨d,hd,t,ok⟩:=all f hf
  exact⟨t.ps,t.fa,t.fd,xaI pr ok hd k ih,ok.bd,ok.kp,ok.mg⟩
theorem ZZ {K:PySem.W.Frag}{C:Addr}{ci:ClassData}(h:PySem.W.clsIn K C=some ci):(PySem.W.clsIn K C).isSome=true:=by rw [h];rfl
theorem wY {K:PySem.W.Frag}{C:Addr}{ci:ClassData}(h1:PySem.W.clsIn K C=some ci) (h2:PySem.W.typeIn K (.ref C)=some (.type "type")) (h3:PySem.W.subIn K (.ref C) (.ref C)=some true):PySem.W.kitCls K (.ref C) (.ref C)=some true:=by
 show(if _ then _ else _)=_
 rw [h1,h2,if_pos (by first | rfl | simp | decide),h3]
def spLaw (K:PySem.W.Frag):Sp:=fun vs H Q _=> ∃(a:Addr) (ns:List Int),vs= [.ref a]/\SqL K H a (ns.map V.int)/\ns.length<=63/\ ∀H',Q (.bl true) H'
theorem wD {G:Gh}{H:Hp}: ∀(ns:List Int),RelDs Γ G H (ns.map M.D.int) (ns.map V.int)
 | []=>rfl
 | n::ns=>⟨_,_,rfl,rfl,wD ns⟩
theorem jas {k:Nat}{fa:Addr}{fd:FuncData}{ps:List Str}(F:FnOk P w Γ.K mg base (CX1 P w) k fa fd ps (spW Γ (M.call p k "law"))) (hlaw: ∀ns:List Int,ns.length<=63-> ∃h',M.call p k "law" [.v (.lst (ns.map .int))] []= .ok (.v (.bl true)) h'):
 FnOk P w Γ.K mg base CX0 k fa fd ps (spLaw Γ.K):=by
 refine FnOk.calm F fun vs H Q E ⟨a,ns,hv,hS,hn,q⟩=> ?_
 subst hv
 obtain⟨h',hc⟩:=hlaw ns hn
 have fin: ∀G:Gh,HRel Γ G [] H->StL Γ G H a (ns.map V.int)->spW Γ (M.call p k "law") [.ref a] H Q (fun _ _ _=>False):=fun G hr st=>by
  refine⟨G,[],[.v (.lst (ns.map .int))],hr,⟨.ref a,[],rfl,⟨a,ns.map V.int,rfl,st,wD ns⟩,rfl⟩,fun w hw=> ?_,?_⟩
  ·cases List.mem_singleton.mp hw;rfl
  ·rw [hc]
   intro G' H' _ _ v r _
   cases (show v= .bl true from r)
   exact q H'
 rcases hS with hS | hS
 ·refine fin ⟨fun b=>b=a,fun _=>0,0⟩ ⟨rfl,fun r xs e=>by simp at e,fun r xs e=>by simp at e,fun r s h1=>absurd h1 (Nat.not_lt_zero _),fun b hb=> ?_,fun r ks e=>by simp at e⟩ (.inl ⟨rfl,hS⟩)
  subst hb
  rcases hS with z | ⟨o,z⟩
  ·exact⟨_,z⟩
  ·exact⟨_,z⟩
 ·exact fin ⟨fun _=>False,fun _=>0,0⟩ ⟨rfl,fun r xs e=>by simp at e,fun r xs e=>by simp at e,fun r s h1=>absurd h1 (Nat.not_lt_zero _),fun b hb=>hb.elim,fun r ks e=>by simp at e⟩ (.inr hS)
theorem walk {l:PySem.W.OpenLaw}{q:Program}{loose:List Str}{XP:(Str->Option Value)->Heap->Prop}{YP:World->Heap->Prop}{d:DefRec}{K:Params->PySem.W.Frag}{x:Str}(k:Nat) (hk:Room k callerA) (hn:l.most=some 63) (hdf:d.params.defaults= [])
 (hY: ∀(w:World) (h:Heap),YP w h->(K w.params).In h)
 (F: ∀(w:World) (mg:Str->Option Value) (fa:Addr) (h:Heap),(K w.params).In h->h.Ns mainGlobals mg->mg d.name=some (.ref fa) →
   ∃fd:FuncData,(∀ (s:Shared) (u:Value),BindsTo s fd ⟨[u],[]⟩ [(x,u)])/\ ∀base:Heap,(K w.params).In base->base.Ns mainGlobals mg->FnOk l.prog w (K w.params) mg base CX0 k fa fd [x] (spLaw (K w.params))):
 PySem.W.WalkO q loose XP YP l.row.toRowW d [] (fun f vs=>PySem.call f vs):=
 L2.walk_of (n:=63) (k:=k) (x:=x) (CX:=fun _=>CX0) (sp:=fun w=>spLaw (K w.params)) hn (by decide) hdf hk hY F (fun _ _ a ns hl _ hS=>⟨a,ns,rfl,hS,hl,fun _=>rfl⟩) fun _ _ _ _ _ z=>z
end
end L2.MS
namespace Wf
def numB:List Bool->Nat
 | []=>0
 | b::r=>2*numB r+b.toNat
def bitsB (t n:Nat):List Bool:=(List.range n).map t.testBit
theorem bitsB_length (t n:Nat):(bitsB t n).length=n:=by simp [bitsB]
theorem bitsB_get {t n k:Nat}(h:k<n):(bitsB t n)[k]? =some (t.testBit k):=by
 unfold bitsB;rw [List.getElem?_map,List.getElem?_range h];rfl
theorem bit_nat (t k:Nat):t / 2 ^ k % 2=(t.testBit k).toNat:=(Nat.toNat_testBit t k).symm
def pairsM (n t:Nat):List (Nat×Nat):=((List.range (n*n)).filter t.testBit).map fun k=>(k / n,k % n)
def tieM (n:Nat) (ps:List (Nat×Nat)):Nat:=ps.foldl (fun t p=>t ||| 2 ^ (p.1*n+p.2)) 0
def inB (n:Nat) (ps:List (Nat×Nat)):Prop:= ∀p∈ps,p.1<n/\p.2<n
theorem place_lt {n a b:Nat}(ha:a<n) (hb:b<n):a*n+b<n*n:=by
 have:a*n+n<=n*n:=by
  have:=Nat.mul_le_mul_right n (Nat.succ_le_of_lt ha)
  rwa [Nat.succ_mul]at this
 omega
theorem zY {n k:Nat}(h:k<n*n):k / n<n:=Nat.div_lt_of_lt_mul h
theorem WX {n k:Nat}(h:k<n*n):k % n<n:=Nat.mod_lt _ (by
 cases n with
 | zero=>simp at h
 | succ m=>omega)
theorem mem_pairsM {n t:Nat}{p:Nat×Nat}:p∈pairsM n t↔ ∃k,k<n*n/\t.testBit k=true/\p=(k / n,k % n):=by
 unfold pairsM
 simp only [List.mem_map,List.mem_filter,List.mem_range]
 constructor
 ·rintro ⟨k,⟨h1,h2⟩,rfl⟩;exact⟨k,h1,h2,rfl⟩
 ·rintro ⟨k,h1,h2,rfl⟩;exact⟨k,⟨h1,h2⟩,rfl⟩
theorem inB_pairsM (n t:Nat):inB n (pairsM n t):=fun p hp=>by
 obtain⟨k,h1,h2,rfl⟩:=mem_pairsM.mp hp
 exact⟨zY h1,WX h1⟩
def swp (ps:List (Nat×Nat)):List (Nat×Nat):=ps.map fun p=>(p.2,p.1)
def turnM (n t:Nat):Nat:=tieM n (swp (pairsM n t))
def sameM (n:Nat):Nat:=tieM n ((List.range n).map fun a=>(a,a))
end Wf
namespace Wf
def rowM (n p b:Nat):Nat:=p / 2 ^ (b*n) % 2 ^ n
def joinM (n o p:Nat):Nat:=(pairsM n o).foldl (fun t q=>t ||| rowM n p q.2*2 ^ (q.1*n)) 0
theorem pos_of_lt {n k:Nat}(h:k<n*n):0<n:=by
 cases n with
 | zero=>simp at h
 | succ m=>omega
def JB (n o p k:Nat):Bool:=(List.range n).any fun b=>o.testBit (k / n*n+b)&&p.testBit (b*n+k % n)
def midF (n o p a b:Nat) (k:Nat):Bool:=if k / n<a then JB n o p k else if k / n=a then(List.range b).any fun b'=>o.testBit (a*n+b')&&p.testBit (b'*n+k % n)else false
def inF (n o p a b c:Nat) (k:Nat):Bool:=if k / n=a/\k % n<c then midF n o p a (b+1) k else midF n o p a b k
end Wf
namespace Wf
inductive TC (n t a:Nat):Nat->Prop
 | step {b:Nat}:a<n->b<n->t.testBit (a*n+b)=true->TC n t a b
 | more {b c:Nat}:TC n t a b->b<n->c<n->t.testBit (b*n+c)=true->TC n t a c
structure IsTC (n t r:Nat):Prop where
 lt:r<2 ^ (n*n)
 bit: ∀a b,a<n->b<n->(r.testBit (a*n+b)=true↔TC n t a b)
structure Clo (n t r:Nat):Prop where
 lt:r<2 ^ (n*n)
 sub: ∀a b,a<n->b<n->r.testBit (a*n+b)=true->TC n t a b
 sup: ∀k,t.testBit k=true->r.testBit k=true
structure Srch (n t a:Nat) (re wa:List Nat):Prop where
 an:a<n
 nd:re.Nodup
 tc: ∀x∈re,TC n t a x
 wl: ∀x∈wa,x<n/\(x=a\/x∈re)
 cl: ∀x,(x=a\/x∈re)->x∉wa-> ∀b,b<n->t.testBit (x*n+b)=true->b∈re
structure Lk (n t a:Nat) (re wa:List Nat) (h b:Nat):Prop where
 an:a<n
 nd:re.Nodup
 tc: ∀x∈re,TC n t a x
 wl: ∀x∈wa,x<n/\(x=a\/x∈re)
 cl: ∀x,(x=a\/x∈re)->x∉wa->x≠h-> ∀b,b<n->t.testBit (x*n+b)=true->b∈re
 hn:h<n
 hr:h=a\/h∈re
 hb: ∀b',b'<b->t.testBit (h*n+b')=true->b'∈re
end Wf
namespace M
def d_is_whole:Fn:=⟨1,1,.cons (.ret (.and (.isT (.var 0) .int) (.not (.isT (.var 0) .bool)))) .nil⟩
def d_is_below:Fn:=⟨2,2,.cons (.ret (.and (.call "is_whole" (.cons (.var 0) .nil)) (.chain .le .lt (.int 0) (.var 0) (.var 1)))) .nil⟩
def d_is_size:Fn:=⟨1,1,.cons (.ret (.call "is_below" (.cons (.var 0) (.cons (.bin .add (.con "GREATEST_SIZE") (.int 1)) .nil)))) .nil⟩
def d_check_size:Fn:=⟨1,1,.cons (.iff (.not (.call "is_size" (.cons (.var 0) .nil))) (.cons (.raise "NoSize" (.cons (.str [97,32,115,105,122,101,32,105,115,32,97,32,119,104,111,108,101,32,110,117,109,98,101,114,32,102,114,111,109,32,48,32,116,111,32,52]) .nil)) .nil) .nil) .nil⟩
def e_longer_by_one_1:E:= .comp [0] true 1 [3] (.range1 (.var 1)) true (.cmp .nmem (.var 0) (.var 1)) (.bin .add (.var 1) (.tup (.cons (.var 0) .nil)))
def b_longer_by_one_2:Ss:= .cons (.ext 2 e_longer_by_one_1) .nil
def d_longer_by_one:Fn:=⟨2,4,.cons (.set 2 (.lst .nil)) (.cons (.for [3] true (.seq (.var 0)) b_longer_by_one_2) (.cons (.ret (.var 2)) .nil))⟩
def b_renamings_1:Ss:= .cons (.set 1 (.call "longer_by_one" (.cons (.var 1) (.cons (.var 0) .nil)))) .nil
def d_renamings:Fn:=⟨1,3,.cons (.ex (.call "check_size" (.cons (.var 0) .nil))) (.cons (.set 1 (.lst (.cons (.tup .nil) .nil))) (.cons (.for [2] true (.range1 (.var 0)) b_renamings_1) (.cons (.ret (.var 1)) .nil)))⟩
def e_rounds_1:E:= .not (.ix (.var 1) (.var 4))
def b_rounds_2:Ss:= .cons (.setix 1 (.var 4) (.bl true)) (.cons (.setf 4 (.ix (.var 0) (.var 4))) .nil)
def b_rounds_3:Ss:= .cons (.iff (.not (.ix (.var 1) (.var 3))) (.cons (.setf 2 (.bin .add (.var 2) (.int 1))) .nil) .nil) (.cons (.setf 4 (.var 3)) (.cons (.whl 100000 e_rounds_1 b_rounds_2) .nil))
def d_rounds:Fn:=⟨1,5,.cons (.set 1 (.bin .mul (.lst (.cons (.bl false) .nil)) (.bi .len (.cons (.var 0) .nil)))) (.cons (.setf 2 (.int 0)) (.cons (.for [3] true (.range1 (.bi .len (.cons (.var 0) .nil))) b_rounds_3) (.cons (.ret (.var 2)) .nil)))⟩
def e_rounds_of_code_1:E:= .comp [0] true 1 [3,1] (.seq (.var 1)) false (.bl true) (.bin .add (.bin .mul (.var 1) (.bi .len (.cons (.var 2) .nil))) (.var 0))
def b_rounds_of_code_2:Ss:= .cons (.ext 2 e_rounds_of_code_1) .nil
def d_rounds_of_code:Fn:=⟨2,4,.cons (.set 2 (.lst .nil)) (.cons (.for [3] true (.seq (.var 1)) b_rounds_of_code_2) (.cons (.ret (.bin .add (.bin .mul (.bi .len (.cons (.ix (.var 0) (.int 0)) .nil)) (.call "rounds" (.cons (.var 1) .nil))) (.bin .mul (.bi .len (.cons (.ix (.var 0) (.int 1)) .nil)) (.call "rounds" (.cons (.var 2) .nil))))) .nil))⟩
def e_unlike_count_1:E:= .comp [0] true 1 [0] (.seq (.var 2)) false (.bl true) (.bin .shl (.int 1) (.call "rounds_of_code" (.cons (.var 1) (.cons (.var 0) .nil))))
def d_unlike_count:Fn:=⟨2,4,.cons (.setf 2 (.call "renamings" (.cons (.var 1) .nil))) (.cons (.setf 3 (.bi .sum (.cons e_unlike_count_1 .nil))) (.cons (.ret (.bin .fdiv (.var 3) (.bi .len (.cons (.var 2) .nil)))) .nil))⟩
def d_law_nth:Fn:=⟨2,2,.cons (.iff (.cmp .lt (.var 1) (.bi .len (.cons (.var 0) .nil))) (.cons (.ret (.ix (.var 0) (.var 1))) .nil) .nil) (.cons (.ret (.int 0)) .nil)⟩
def d_law_whole:Fn:=⟨1,1,.cons (.ret (.and (.isT (.var 0) .int) (.not (.isT (.var 0) .bool)))) .nil⟩
def b_law_marks_1:Ss:= .cons (.unp [0,4] (.bi .divmod (.cons (.var 0) (.cons (.int 2) .nil)))) (.cons (.app 2 (.var 4)) .nil)
def d_law_marks:Fn:=⟨2,5,.cons (.set 2 (.lst .nil)) (.cons (.for [3] true (.range1 (.var 1)) b_law_marks_1) (.cons (.ret (.var 2)) .nil))⟩
def b_law_orders_1:Ss:= .cons (.iff (.cmp .nmem (.var 5) (.var 4)) (.cons (.app 3 (.bin .add (.var 4) (.tup (.cons (.var 5) .nil)))) .nil) .nil) .nil
def b_law_orders_2:Ss:= .cons (.for [5] true (.range1 (.var 0)) b_law_orders_1) .nil
def b_law_orders_3:Ss:= .cons (.set 3 (.lst .nil)) (.cons (.freeze 1) (.cons (.for [4] true (.seq (.var 1)) b_law_orders_2) (.cons (.mv 1 3) .nil)))
def d_law_orders:Fn:=⟨1,6,.cons (.set 1 (.lst (.cons (.tup .nil) .nil))) (.cons (.for [2] true (.range1 (.var 0)) b_law_orders_3) (.cons (.ret (.var 1)) .nil))⟩
def b_law_world_1:Ss:= .cons (.unp [4,8] (.bi .divmod (.cons (.var 4) (.cons (.bin .shl (.int 1) (.bin .mul (.var 0) (.var 0))) .nil)))) (.cons (.app 6 (.var 8)) .nil)
def b_law_world_2:Ss:= .cons (.unp [4,8] (.bi .divmod (.cons (.var 4) (.cons (.bin .shl (.int 1) (.var 0)) .nil)))) (.cons (.app 5 (.var 8)) .nil)
def d_law_world:Fn:=⟨4,9,.cons (.setf 4 (.bin .mod (.var 3) (.bin .shl (.int 1) (.bin .add (.bin .mul (.var 1) (.var 0)) (.bin .mul (.bin .mul (.var 2) (.var 0)) (.var 0)))))) (.cons (.set 5 (.lst .nil)) (.cons (.set 6 (.lst .nil)) (.cons (.for [7] true (.range1 (.var 1)) b_law_world_2) (.cons (.for [7] true (.range1 (.var 2)) b_law_world_1) (.cons (.ret (.tup (.cons (.var 0) (.cons (.bi .tuple (.cons (.var 5) .nil)) (.cons (.bi .tuple (.cons (.var 6) .nil)) .nil))))) .nil)))))⟩
def e_law_led_1:E:= .comp [0,1] false 2 [1,2] (.seq (.var 10)) false (.bl true) (.bin .shl (.int 1) (.bin .add (.bin .mul (.ix (.var 2) (.var 0)) (.var 3)) (.ix (.var 2) (.var 1))))
def e_law_led_2:E:= .comp [0] true 1 [7,2] (.range1 (.bin .mul (.var 2) (.var 2))) true (.cmp .eq (.ix (.var 1) (.var 0)) (.int 1)) (.bi .divmod (.cons (.var 0) (.cons (.var 2) .nil)))
def b_law_led_3:Ss:= .cons (.setf 7 (.call "_law_marks" (.cons (.var 9) (.cons (.bin .mul (.var 2) (.var 2)) .nil)))) (.cons (.setf 10 e_law_led_2) (.cons (.app 8 (.bi .sum (.cons e_law_led_1 .nil))) .nil))
def e_law_led_4:E:= .comp [0] true 1 [7,1] (.range1 (.var 2)) true (.cmp .eq (.ix (.var 1) (.var 0)) (.int 1)) (.bin .shl (.int 1) (.ix (.var 2) (.var 0)))
def b_law_led_5:Ss:= .cons (.setf 7 (.call "_law_marks" (.cons (.var 6) (.cons (.var 2) .nil)))) (.cons (.app 5 (.bi .sum (.cons e_law_led_4 .nil))) .nil)
def d_law_led:Fn:=⟨2,11,.cons (.unp [2,3,4] (.var 0)) (.cons (.set 5 (.lst .nil)) (.cons (.for [6] true (.seq (.var 3)) b_law_led_5) (.cons (.set 8 (.lst .nil)) (.cons (.for [9] true (.seq (.var 4)) b_law_led_3) (.cons (.ret (.tup (.cons (.var 2) (.cons (.bi .tuple (.cons (.var 5) .nil)) (.cons (.bi .tuple (.cons (.var 8) .nil)) .nil))))) .nil)))))⟩
def d_law_names:Fn:=⟨2,2,.cons (.ret (.tup (.cons (.slH (.tup (.cons (.str [97,103,101]) (.cons (.str [98,101,101]) (.cons (.str [99,97,112]) (.cons (.str [100,111,116]) .nil))))) (.var 0)) (.cons (.slH (.tup (.cons (.str [101,97,116]) (.cons (.str [102,101,100]) (.cons (.str [103,111]) (.cons (.str [104,117,116]) .nil))))) (.var 1)) .nil)))) .nil⟩
def e_law_rounds_1:E:= .cmp .ne (.var 3) (.lst .nil)
def e_law_rounds_2:E:= .cmp .mem (.var 4) (.var 3)
def e_law_rounds_3:E:= .comp [0] true 1 [1] (.seq (.var 4)) false (.bl true) (.ix (.var 1) (.var 0))
def b_law_rounds_4:Ss:= .cons (.rem 3 (.var 4)) (.cons (.setf 4 (.bi .tuple (.cons e_law_rounds_3 .nil))) .nil)
def b_law_rounds_5:Ss:= .cons (.setf 2 (.bin .add (.var 2) (.int 1))) (.cons (.setf 4 (.ix (.var 3) (.int 0))) (.cons (.whl 100000 e_law_rounds_2 b_law_rounds_4) .nil))
def d_law_rounds:Fn:=⟨2,5,.cons (.setf 2 (.int 0)) (.cons (.set 3 (.bi .list (.cons (.var 0) .nil))) (.cons (.whl 100000 e_law_rounds_1 b_law_rounds_5) (.cons (.ret (.var 2)) .nil)))⟩
def b_law_due_1:Ss:= .cons (.setf 8 (.bin .mul (.var 0) (.call "_law_rounds" (.cons (.var 3) (.cons (.var 7) .nil))))) (.cons (.setf 8 (.bin .add (.var 8) (.bin .mul (.var 1) (.call "_law_rounds" (.cons (.var 4) (.cons (.var 7) .nil)))))) (.cons (.setf 6 (.bin .add (.var 6) (.bin .shl (.int 1) (.var 8)))) .nil))
def e_law_due_2:E:= .comp [0] true 1 [2] (.range1 (.bin .mul (.var 2) (.var 2))) false (.bl true) (.bi .divmod (.cons (.var 0) (.cons (.var 1) .nil)))
def e_law_due_3:E:= .comp [0] true 1 [] (.range1 (.var 2)) false (.bl true) (.tup (.cons (.var 0) .nil))
def d_law_due:Fn:=⟨3,9,.cons (.setf 3 e_law_due_3) (.cons (.setf 4 e_law_due_2) (.cons (.setf 5 (.call "_law_orders" (.cons (.var 2) .nil))) (.cons (.setf 6 (.int 0)) (.cons (.for [7] true (.seq (.var 5)) b_law_due_1) (.cons (.ret (.bi .divmod (.cons (.var 6) (.cons (.bi .len (.cons (.var 5) .nil)) .nil)))) .nil)))))⟩
def b_law_least_ones_1:Ss:= .cons (.dput 5 (.call "_law_led" (.cons (.var 8) (.cons (.var 9) .nil)))) .nil
def b_law_least_ones_2:Ss:= .cons (.setf 8 (.call "_law_world" (.cons (.var 2) (.cons (.var 0) (.cons (.var 1) (.cons (.var 7) .nil)))))) (.cons (.iff (.din true (.var 8) 5) (.cons (.setf 6 (.bin .add (.var 6) (.int 1))) (.cons (.for [9] true (.seq (.var 4)) b_law_least_ones_1) .nil)) .nil) .nil)
def d_law_least_ones:Fn:=⟨4,10,.cons (.setf 4 (.call "_law_orders" (.cons (.var 2) .nil))) (.cons (.set 5 .dnew) (.cons (.setf 6 (.int 0)) (.cons (.for [7] true (.range1 (.bin .shl (.int 1) (.var 3))) b_law_least_ones_2) (.cons (.ret (.var 6)) .nil))))⟩
def d_law_refused:Fn:=⟨2,4,.cons (.setf 2 .non) (.cons (.tryc none "unlike_count" (.cons (.var 0) (.cons (.var 1) .nil)) "WorldError" 3 (.cons (.setf 2 (.var 3)) .nil)) (.cons (.iff (.isX (.var 2) false ["NoCode", "TooBig"]) (.cons (.ret (.bl false)) .nil) .nil) (.cons (.ret (.and (.isX (.var 2) true ["NoSize"]) (.isX (.var 2) true ["ValueError"]))) .nil)))⟩
def d_law:Fn:=⟨1,9,.cons (.setf 1 (.call "_law_nth" (.cons (.var 0) (.cons (.int 0) .nil)))) (.cons (.setf 2 (.bin .mod (.var 1) (.int 5))) (.cons (.setf 3 (.bin .mod (.bin .fdiv (.var 1) (.int 5)) (.int 5))) (.cons (.setf 4 (.bin .mod (.bin .fdiv (.var 1) (.int 25)) (.int 5))) (.cons (.setf 5 (.call "_law_names" (.cons (.var 2) (.cons (.var 3) .nil)))) (.cons (.setf 6 (.call "unlike_count" (.cons (.var 5) (.cons (.var 4) .nil)))) (.cons (.iff (.or (.not (.call "_law_whole" (.cons (.var 6) .nil))) (.cmp .ne (.tup (.cons (.var 6) (.cons (.int 0) .nil))) (.call "_law_due" (.cons (.var 2) (.cons (.var 3) (.cons (.var 4) .nil)))))) (.cons (.ret (.bl false)) .nil) .nil) (.cons (.setf 7 (.bin .add (.bin .mul (.var 2) (.var 4)) (.bin .mul (.bin .mul (.var 3) (.var 4)) (.var 4)))) (.cons (.iff (.and (.cmp .lt (.var 7) (.int 7)) (.cmp .ne (.var 6) (.call "_law_least_ones" (.cons (.var 2) (.cons (.var 3) (.cons (.var 4) (.cons (.var 7) .nil))))))) (.cons (.ret (.bl false)) .nil) .nil) (.cons (.setf 8 (.bin .mod (.bin .fdiv (.call "_law_nth" (.cons (.var 0) (.cons (.int 1) .nil))) (.int 6)) (.bin .pow (.int 10) (.int 20)))) (.cons (.ret (.call "_law_refused" (.cons (.var 5) (.cons (.ix (.lst (.cons (.neg (.int 1)) (.cons (.int 5) (.cons (.bin .add (.int 5) (.var 8)) (.cons (.bl true) (.cons .non (.cons (.str [50]) .nil))))))) (.bin .mod (.call "_law_nth" (.cons (.var 0) (.cons (.int 1) .nil))) (.int 6))) .nil)))) .nil))))))))))⟩
def prog:Prog:=⟨[("is_whole",d_is_whole),("is_below",d_is_below),("is_size",d_is_size),("check_size",d_check_size),("longer_by_one",d_longer_by_one),("renamings",d_renamings),("rounds",d_rounds),("rounds_of_code",d_rounds_of_code),("unlike_count",d_unlike_count),("_law_nth",d_law_nth),("_law_whole",d_law_whole),("_law_marks",d_law_marks),("_law_orders",d_law_orders),("_law_world",d_law_world),("_law_led",d_law_led),("_law_names",d_law_names),("_law_rounds",d_law_rounds),("_law_due",d_law_due),("_law_least_ones",d_law_least_ones),("_law_refused",d_law_refused),("law",d_law)],[("WorldError", "ValueError"),("NoSize", "WorldError"),("NoCode", "WorldError"),("TooBig", "WorldError")],[("GREATEST_SIZE",.int 4)]⟩
end M
namespace M
theorem Wg {step:D->AH->R (Option D)}{h:AH}(f:D->Option D): ∀(ds:List D),(∀ d∈ds,step d h= .ok (f d) h)->compGo step ds h= .ok (ds.filterMap f) h
 | [],_=>rfl
 | d::ds,hs=>by
  have ih:=Wg f ds fun d hd=>hs d (List.mem_cons_of_mem _ hd)
  rw [compGo,hs d List.mem_cons_self]
  simp only [ih]
  cases q:f d<;>simp [List.filterMap_cons,q]
theorem xaf {F:Fx}{tg:List Nat}{one:Bool}{k:Nat}{cap:List Nat}{it:It}{c elt:E}{τ:Sl}{h:AH}{ds:List D}(f:D->Option D) (hi:evalIt F it τ h= .ok ds h) (hl:ds.length<=LIM)
 (hs: ∀d∈ds,∃τ' b,bindT tg one d (List.replicate k none++cap.map fun j=>readS τ j)=some τ'/\tstE F c τ' h= .ok b h/\(if b=true then ∃w y,eval F elt τ' h= .ok w h/\w.d=some y/\f d=some y else f d=none)):
 eval F (.comp tg one k cap it true c elt) τ h= .ok (.own (ds.filterMap f)) h:=by
 rw [eval,hi,R.bind_ok,if_pos hl,Wg f]
 ·rfl
 intro d hd
 obtain⟨τ',b,h1,h2,h3⟩:=hs d hd
 rw [h1]
 show((tstE F c τ' h).bind _)=_
 rw [h2]
 cases b with
 | true=>
  rw [if_pos rfl]at h3
  obtain⟨w,y,e1,e2,e3⟩:=h3
  simp [e1,e2,e3]
 | false=>
  rw [if_neg (by simp)]at h3
  simp [h3]
theorem jam {F:Fx}{tg:List Nat}{one:Bool}{k:Nat}{cap:List Nat}{it:It}{c elt:E}{τ:Sl}{h:AH}{ds:List D}(f:D->D) (hi:evalIt F it τ h= .ok ds h) (hl:ds.length<=LIM)
 (hs: ∀d∈ds,∃τ',bindT tg one d (List.replicate k none++cap.map fun j=>readS τ j)=some τ'/\ ∃w,eval F elt τ' h= .ok w h/\w.d=some (f d)):
 eval F (.comp tg one k cap it false c elt) τ h= .ok (.own (ds.map f)) h:=by
 rw [eval,hi,R.bind_ok,if_pos hl,Wg (fun d=>some (f d))]
 ·simp [List.filterMap_eq_map']
 intro d hd
 obtain⟨τ',h1,w,e1,e2⟩:=hs d hd
 rw [h1]
 simp [e1,e2]
theorem qF (bnd:D->Sl->Option Sl) (body:Sl->AH->O) (d:D) (ds:List D) (τ:Sl) (h:AH):forGo bnd body (d::ds) τ h=match bnd d τ with
 | none=> .fail
 | some τ1=>match body τ1 h with
  | .next τ2 h2=>forGo bnd body ds τ2 h2
  | .cont τ2 h2=>forGo bnd body ds τ2 h2
  | .brk τ2 h2=> .next τ2 h2
  | o=>o:=rfl
@[simp] theorem forGo_nil (bnd:D->Sl->Option Sl) (body:Sl->AH->O) (τ:Sl) (h:AH):forGo bnd body [] τ h= .next τ h:=rfl
theorem Za {bnd:D->Sl->Option Sl}{body:Sl->AH->O}{d:D}{ds:List D}{τ τ1 τ2:Sl}{h h2:AH}(e1:bnd d τ=some τ1) (e2:body τ1 h= .next τ2 h2):forGo bnd body (d::ds) τ h=forGo bnd body ds τ2 h2:=by
 rw [qF,e1];simp only [e2]
@[simp] theorem bindT_one (i:Nat) (d:D) (τ:Sl):bindT [i] true d τ=some (setS τ i (.v d)):=rfl
@[simp] theorem bindT_tup (tg:List Nat) (ds:List D) (τ:Sl):bindT tg false (.tup ds) τ=setTup tg ds τ:=rfl
@[simp] theorem int_mod (i j:Int):intOp .mod i j=if 0<j then some (i % j)else none:=rfl
@[simp] theorem int_fdiv (i j:Int):intOp .fdiv i j=if 0<j/\j<B30 then some (i / j)else none:=rfl
@[simp] theorem int_band (i j:Int):intOp .band i j=andI i j:=rfl
@[simp] theorem int_bor (i j:Int):intOp .bor i j=orI i j:=rfl
@[simp] theorem int_shr (i j:Int):intOp .shr i j=if 0<=j then some (i / 2 ^ j.toNat)else none:=rfl
theorem Wb (a b:Nat) (h:a<2 ^ 64):intOp .mul (a:Int) (b:Int)=some ((a*b:Nat):Int):=by
 have h1:(-B64<(a:Int)/\(a:Int)<B64)\/(-B64<(b:Int)/\(b:Int)<B64):=by rw [B64_eq];omega
 show(if _ then _ else _)=_
 rw [if_pos h1,Int.natCast_mul]
theorem shl1 (k:Nat) (h:k<=1000000):intOp .shl 1 (k:Int)=some ((2 ^ k:Nat):Int):=by
 have h1:(0:Int)<=(k:Int)/\(k:Int)<=BP/\(1:Int).natAbs<N64:=by rw [BP_eq,N64_eq];exact⟨by omega,by omega,by decide⟩
 show(if _ then _ else _)=_
 rw [if_pos h1,Int.one_mul,Int.toNat_natCast]
 simp
def pD (p:Nat×Nat):D:= .tup [.int (p.1:Nat),.int (p.2:Nat)]
theorem rng (m:Nat){d:D}(hd:d∈(List.range m).map fun(i:Nat)=>D.int (i:Int)): ∃i:Nat,i<m/\d= .int (i:Int):=by
 obtain⟨i,hi,rfl⟩:=List.mem_map.mp hd
 exact⟨i,List.mem_range.mp hi,rfl⟩
theorem qC {n:Nat}(hn:n<=20):n*n<=400:=Nat.le_trans (Nat.mul_le_mul hn hn) (by decide)
theorem Zc {F:Fx}{a:E}{τ:Sl}{h:AH}{m:Nat}(e:eval F a τ h= .ok (.v (.int (m:Int))) h) (hm:m<=1000000):evalIt F (.range1 a) τ h= .ok ((List.range m).map fun(i:Nat)=> .int (i:Int)) h:=by
 have hr: -B62<=(m:Int)/\(m:Int)<B62:=by rw [B62_eq];omega
 rw [evalIt,e,R.bind_ok,int?_int,R.of_some,R.bind_ok,if_pos hr,Int.toNat_natCast]
end M
namespace M
end M
local macro_rules | `(tactic| simp_all [$xs,*]) => `(tactic| simp only [M.exec, M.execs, M.tstE, M.eval, M.evalWs, M.evalDs, M.evalIt, M.evalLp, M.isVar, M.readS, M.getS, M.setS, M.setTup, M.R.bind_ok, M.R.toO_ok, M.R.of_some, M.O.seq_next, M.O.seq_ret, M.O.seq_exc, M.W.d_v, M.W.d_own, M.W.arg_v, M.W.arg_own, M.W.arg_bor, List.map_cons, List.map_nil, List.cons_append, List.nil_append, Nat.reduceSub, List.replicate_succ, List.replicate_zero, M.tru_bl, Bool.not_true, Bool.not_false, M.bin_ints, Option.bind_some, M.lpV_lst, M.lpV_bor, M.lpV_tup, M.lpW_own, M.lpW_lst, M.lpW_tup, M.int?_int, M.finO_retv, M.finO_reto, M.finO_exc, M.finO_next, M.bindT_one, M.bindT_tup, $xs,*])
namespace M
theorem za {F:Fx}{s:S}{ss:Ss}{τ τ1:Sl}{h h1:AH}(e:exec F s τ h= .next τ1 h1):execs F (.cons s ss) τ h=execs F ss τ1 h1:=by rw [execs,e,O.seq_next]
theorem jC {F:Fx}{s:S}{ss:Ss}{τ:Sl}{h h1:AH}{w:W}(e:exec F s τ h= .ret w h1):execs F (.cons s ss) τ h= .ret w h1:=by rw [execs,e,O.seq_ret]
theorem if_t {F:Fx}{c:E}{a b:Ss}{τ:Sl}{h h1:AH}(e:tstE F c τ h= .ok true h1):exec F (.iff c a b) τ h=execs F a τ h1:=by rw [exec,e,R.toO_ok]
theorem if_f {F:Fx}{c:E}{a b:Ss}{τ:Sl}{h h1:AH}(e:tstE F c τ h= .ok false h1):exec F (.iff c a b) τ h=execs F b τ h1:=by rw [exec,e,R.toO_ok]
theorem jay {F:Fx}{e:E}{τ:Sl}{h h1:AH}{d:D}(hv:isVar e=none) (q:eval F e τ h= .ok (.v d) h1):exec F (.ret e) τ h= .ret (.v d) h1:=by
 rw [exec,hv];simp only [q,R.toO_ok]
theorem xy {F:Fx}{c:E}{a:Ss}{τ:Sl}{h:AH}{ss:Ss}(e:tstE F c τ h= .ok false h):execs F (.cons (.iff c a .nil) ss) τ h=execs F ss τ h:=za (if_f e)
theorem jaN {F:Fx}{c:E}{s:S}{τ:Sl}{h:AH}{ss:Ss}{w:W}(e:tstE F c τ h= .ok true h) (r:exec F s τ h= .ret w h):execs F (.cons (.iff c (.cons s .nil) .nil) ss) τ h= .ret w h:=jC ((if_t e).trans (jC r))
theorem Wh {F:Fx}{s:S}{τ:Sl}{h:AH}:execs F (.cons s .nil) τ h=exec F s τ h:=by
 rw [execs]
 cases exec F s τ h<;>rfl
abbrev nsD (l:List Nat):List D:=l.map fun(x:Nat)=> .int (x:Int)
abbrev wldD (n:Nat) (ks ts:List Nat):D:= .tup [.int (n:Int),.tup (nsD ks),.tup (nsD ts)]
structure Wld (n K T:Nat) (ks ts:List Nat):Prop where
 n4:n<=4
 lk:ks.length=K
 lt:ts.length=T
 bk: ∀x∈ks,x<2 ^ n
 bt: ∀x∈ts,x<2 ^ (n*n)
theorem qm {α:Type}(xs:List α) (i:Nat) (h:i<xs.length):atI xs (i:Int)=xs[i]? :=by
 have:((i:Int))<(xs.length:Int):=by omega
 simp [atI,ixN,this]
theorem jal (l:List Nat) (i:Nat) (h:i<l.length):atI (nsD l) (i:Int)=some (.int ((l.getD i 0:Nat):Int)):=by
 rw [qm _ _ (by simpa using h),List.getElem?_map,List.getElem?_eq_getElem h,List.getD_eq_getElem?_getD,List.getElem?_eq_getElem h]
 rfl
theorem v_it {F:Fx}{e:E}{τ:Sl}{h:AH}{xs:List D}(q:eval F e τ h= .ok (.v (.lst xs)) h):evalIt F (.seq e) τ h= .ok xs h:=by
 rw [evalIt,q];rfl
theorem t_it {F:Fx}{e:E}{τ:Sl}{h:AH}{xs:List D}(q:eval F e τ h= .ok (.v (.tup xs)) h):evalIt F (.seq e) τ h= .ok xs h:=by
 rw [evalIt,q];rfl
theorem ww (n t:Nat):(Wf.pairsM n t).length<=n*n:=by
 unfold Wf.pairsM
 rw [List.length_map]
 exact Nat.le_trans (List.length_filter_le _ _) (by simp)
theorem qaR (x y:D):atI [x,y] 0=some x:=rfl
theorem xaQ (x y:D):atI [x,y] 1=some y:=rfl
theorem zaR (x:D):atI [x] 0=some x:=rfl
theorem xaa {α:Type}(x:α) (r:List α):atI (x::r) 0=some x:=by
 have:(0:Int)<((x::r).length:Int):=by simp
 simp [atI,ixN,this]
theorem zaQ (x y z:D):atI [x,y,z] 0=some x:=rfl
mutual
theorem QB: ∀ {d:D},noRef d=true->eqD d d=true
 | .non,_=>rfl
 | .bl b,_=>by simp
 | .int i,_=>by simp
 | .str s,_=>by simp
 | .tup xs,h=>by
  rw [eqD];exact eqDs_refl (by simpa [noRef]using h)
 | .lst xs,h=>by
  rw [eqD];exact eqDs_refl (by simpa [noRef]using h)
 | .ref _,h=>by simp at h
 | .exc _ _,h=>by simp at h
theorem eqDs_refl: ∀ {xs:List D},noRefs xs=true->eqDs xs xs=true
 | [],_=>rfl
 | x::xs,h=>by
  have h':noRef x=true/\noRefs xs=true:=by simpa [noRefs]using h
  rw [eqDs,QB h'.1,eqDs_refl h'.2];rfl
end
mutual
theorem qS {h:AH}: ∀ {d:D},noRef d=true->res h d=d
 | .non,_=>rfl
 | .bl b,_=>rfl
 | .int i,_=>rfl
 | .str s,_=>rfl
 | .tup xs,q=>by
  rw [res,ress_id (by simpa [noRef]using q)]
 | .lst xs,q=>by
  rw [res,ress_id (by simpa [noRef]using q)]
 | .ref _,q=>by simp at q
 | .exc _ _,q=>by simp at q
theorem ress_id {h:AH}: ∀ {xs:List D},noRefs xs=true->ress h xs=xs
 | [],_=>rfl
 | x::xs,q=>by
  have h':noRef x=true/\noRefs xs=true:=by simpa [noRefs]using q
  rw [ress,qS h'.1,ress_id h'.2]
end
theorem qh {α:Type}(f:α->D) (hf: ∀x,noRef (f x)=true): ∀l:List α,noRefs (l.map f)=true
 | []=>rfl
 | x::l=>by simp [hf x,qh f hf l]
theorem qp {α:Type}(f:α->D) (k:Nat) (hf: ∀x,dep (f x)<=k): ∀l:List α,deps (l.map f)<=k
 | []=>Nat.zero_le _
 | x::l=>by
  have h1:=hf x
  have h2:=qp f k hf l
  simp only [List.map_cons,deps]
  exact Nat.max_le.mpr ⟨h1,h2⟩
theorem Zp: ∀l:List Nat,sumD (nsD l)=some ((l.sum:Nat):Int)
 | []=>rfl
 | x::l=>by
  have:=Zp l
  simp only [nsD,List.map_cons,sumD]at this ⊢
  rw [this,List.sum_cons]
  simp
theorem xao (d:D) (hd:noRef d=true) (hp:dep d<150) (h:AH):cmpD .ne (.v d) (.v d) h=some false:=by
 show(if eqOk (res h d) (res h d)then some (!eqD (res h d) (res h d))else none)=_
 rw [qS hd,if_pos (by rw [eqOk,hd,decide_eq_true hp];rfl),QB hd];rfl
theorem zl {α:Type}{F:Fx}{cap:List Nat}{it:It}{elt:E}{τ:Sl}{h:AH}(g f:α->D) (l:List α) (hi:evalIt F it τ h= .ok (l.map g) h) (hl:l.length<=1000) (hs: ∀x∈l,∃w,eval F elt (some (.v (g x))::cap.map fun j=>readS τ j) h= .ok w h/\w.d=some (f x)):eval F (.comp [0] true 1 cap it false (.bl true) elt) τ h= .ok (.own (l.map f)) h:=by
 rw [eval,hi,R.bind_ok,if_pos (by rw [LIM_eq,List.length_map];omega)]
 have go: ∀(step:D->AH->R (Option D)) (l:List α),(∀ x∈l,step (g x) h= .ok (some (f x)) h)->compGo step (l.map g) h= .ok (l.map f) h:=fun step l=>by
  induction l with
  | nil=>intro _;rfl
  | cons x l ih=>
   intro hx
   rw [List.map_cons,compGo,hx x List.mem_cons_self]
   simp only [ih fun y hy=>hx y (List.mem_cons_of_mem _ hy),List.map_cons]
 rw [go _ l fun x hx=> ?_]
 ·rfl
 ·obtain⟨w,e1,e2⟩:=hs x hx
  show(R.bind (R.ok true h) _)=_
  simp only [R.bind_ok]
  show(eval F elt (some (.v (g x))::cap.map fun j=>readS τ j) h).bind _=_
  rw [e1]
  simp only [R.bind_ok,e2,R.of_some]
theorem xC {F:Fx}{cap:List Nat}{e elt:E}{τ:Sl}{h:AH}{n:Nat}(f:Nat->D) (he:eval F e τ h= .ok (.v (.int (n:Int))) h) (hn:n<=1000)
 (hs: ∀i,i<n-> ∃w,eval F elt (some (.v (.int (i:Int)))::cap.map fun j=>readS τ j) h= .ok w h/\w.d=some (f i)):eval F (.comp [0] true 1 cap (.range1 e) false (.bl true) elt) τ h= .ok (.own ((List.range n).map f)) h:=by
 rw [jam (h:=h) (fun d=>match d with | .int i=>f i.toNat | d=>d) (Zc (m:=n) he (by omega)) (by simp;rw [LIM_eq];omega)]
 ·simp [Function.comp_def]
 ·intro d hd
  obtain⟨i,hi,rfl⟩:=rng _ hd
  obtain⟨w,h1,h2⟩:=hs i hi
  exact⟨_,rfl,w,h1,by simpa using h2⟩
theorem qaQ (F:Fx) (τ:Sl) (h:AH):evalWs F .nil τ h= .ok [] h:=rfl
theorem zq {F:Fx}{i:Nat}{e:E}{τ:Sl}{h h1:AH}{w:W}{d:D}(a:eval F e τ h= .ok w h1) (b:w.d=some d):exec F (.setf i e) τ h= .next (setS τ i (.v d)) h1:=by
 rw [exec,a,R.toO_ok]
 simp only [b]
theorem jaQ (x y z:D):atI [x,y,z] 2=some z:=rfl
end M
namespace M
def pm (o:List Nat) (a:Nat):Nat:=o.getD a 0
structure Od (n:Nat) (o:List Nat):Prop where
 p:o.Perm (List.range n)
section
variable {n:Nat}{o:List Nat}
theorem Od.len (h:Od n o):o.length=n:=by rw [h.p.length_eq,List.length_range]
theorem qat {a:Nat}(h:a<o.length):pm o a=o[a]:=by
 rw [pm,List.getD_eq_getElem?_getD,List.getElem?_eq_getElem h];rfl
theorem Od.lt (h:Od n o){a:Nat}(ha:a<n):pm o a<n:=by
 have hl:a<o.length:=by rw [h.len];exact ha
 rw [qat hl]
 exact List.mem_range.mp (h.p.mem_iff.mp (List.getElem_mem hl))
end
def kM (n:Nat) (o:List Nat) (x:Nat):Nat:=((List.range n).map fun a=>(x.testBit a).toNat*2 ^ pm o a).sum
section
variable {n:Nat}{o:List Nat}(h:Od n o)
include h
end
def tP (n:Nat) (o:List Nat) (p:Nat×Nat):Nat:=pm o p.1*n+pm o p.2
def tK (n:Nat) (o:List Nat) (t:Nat):Nat:=((List.range (n*n)).map fun k=>(t.testBit k).toNat*2 ^ tP n o (k / n,k % n)).sum
section
variable {n:Nat}{o p:List Nat}(h:Od n o)
include h
end
end M
namespace M
def wholeD:D->Bool
 | .int _=>true
 | _=>false
def belowD (d:D) (e:Int):Bool:=match d with
 | .int i=>decide (0<=i)&&decide (i<e)
 | _=>false
theorem qG (k:Nat) (d:D) (h:AH) (hd:noRef d=true):call prog (k+1) "is_whole" [.v d] h= .ok (.v (.bl (wholeD d))) h:=by
 rw [call_of (d:=d_is_whole) rfl _ _ _ rfl]
 cases d<;>simp [d_is_whole,wholeD,readS]at hd ⊢
theorem QG (k:Nat) (d:D) (e:Int) (h:AH) (hd:noRef d=true):call prog (k+2) "is_below" [.v d,.v (.int e)] h= .ok (.v (.bl (belowD d e))) h:=by
 rw [call_of (d:=d_is_below) rfl _ _ _ rfl]
 have hw:=qG k d h hd
 cases d with
 | int i=>
  simp [hw,d_is_below,wholeD,belowD,readS]
  by_cases h0:0<=i<;>simp [h0]
 | _=>first | (simp [hw,d_is_below,wholeD,belowD,readS];done) | (simp at hd)
theorem ZU {α:Type}{F:Fx}{tg cap:List Nat}{one:Bool}{k:Nat}{it:It}{elt:E}{τ:Sl}{h:AH}(g f:α->D) (l:List α) (hi:evalIt F it τ h= .ok (l.map g) h) (hl:l.length<=1000) (hs: ∀x∈l,∃τ' w,bindT tg one (g x) (List.replicate k none++cap.map fun j=>readS τ j)=some τ'/\eval F elt τ' h= .ok w h/\w.d=some (f x)):eval F (.comp tg one k cap it false (.bl true) elt) τ h= .ok (.own (l.map f)) h:=by
 rw [eval,hi,R.bind_ok,if_pos (by rw [LIM_eq,List.length_map];omega)]
 have go: ∀(step:D->AH->R (Option D)) (l:List α),(∀ x∈l,step (g x) h= .ok (some (f x)) h)->compGo step (l.map g) h= .ok (l.map f) h:=fun step l=>by
  induction l with
  | nil=>intro _;rfl
  | cons x l ih=>
   intro hx
   rw [List.map_cons,compGo,hx x List.mem_cons_self]
   simp only [ih fun y hy=>hx y (List.mem_cons_of_mem _ hy),List.map_cons]
 rw [go _ l fun x hx=> ?_]
 ·rfl
 ·obtain⟨τ',w,e0,e1,e2⟩:=hs x hx
  simp only [e0]
  show((eval F elt τ' h).bind _)=_
  rw [e1]
  simp only [R.bind_ok,e2,R.of_some]
theorem jq {F:Fx}{cap:List Nat}{e c elt:E}{τ:Sl}{h:AH}{n:Nat}(b:Nat->Bool) (f:Nat->D) (he:eval F e τ h= .ok (.v (.int (n:Int))) h) (hn:n<=1000)
 (hs: ∀i,i<n->tstE F c (some (.v (.int (i:Int)))::cap.map fun j=>readS τ j) h= .ok (b i) h/\ ∃w,eval F elt (some (.v (.int (i:Int)))::cap.map fun j=>readS τ j) h= .ok w h/\w.d=some (f i)):eval F (.comp [0] true 1 cap (.range1 e) true c elt) τ h= .ok (.own (((List.range n).filter b).map f)) h:=by
 rw [xaf (h:=h) (fun d=>match d with | .int i=>if b i.toNat then some (f i.toNat)else none | _=>none) (Zc (m:=n) he (by omega)) (by simp;rw [LIM_eq];omega)]
 ·congr 2
  have e: ∀l:List Nat,((l.map fun(i:Nat)=>D.int (i:Int)).filterMap fun d=>match d with | .int i=>if b i.toNat then some (f i.toNat)else none | _=>none)=(l.filter b).map f:=fun l=>by
   induction l with
   | nil=>rfl
   | cons x xs ih=>by_cases hx:b x=true<;>simp [List.filterMap_cons,List.filter_cons,hx,ih]
  exact e _
 ·intro d hd
  obtain⟨i,hi,rfl⟩:=rng _ hd
  obtain⟨h1,w,h2,h3⟩:=hs i hi
  refine⟨_,b i,rfl,h1,?_⟩
  by_cases q:b i=true
  ·rw [if_pos q];exact⟨w,_,h2,h3,by simp [q]⟩
  ·rw [if_neg q];simp [q]
theorem Qx: ∀l:List Nat,intsD (nsD l)=some (l.map fun(x:Nat)=>(x:Int))
 | []=>rfl
 | x::l=>by
  have:=Qx l
  simp only [nsD,List.map_cons,intsD]at this ⊢
  rw [this];rfl
theorem wC (l:List Nat):noRefs (nsD l)=true:=qh _ (fun _=>rfl) l
theorem qay (l:List Nat):deps (nsD l)<=0:=qp _ 0 (fun _=>Nat.le_refl _) l
theorem xak (i j:Int) (h:AH):cmpD .ne (.v (.int i)) (.v (.int j)) h=some (!decide (i=j)):=by
 simp [eqOk]
 rfl
end M
namespace M
def kF (x:Nat):Nat->List Nat->Nat->Nat
 | _,[],v=>v
 | i,p::ps,v=>kF x (i+1) ps (if x.testBit i then v ||| 2 ^ p else v)
theorem xY {n:Nat}{o:List Nat}(q:Od n o){a:Nat}(ha:a<n):atI (nsD o) (a:Int)=some (.int ((pm o a:Nat):Int)):=jal o a (by rw [q.len];exact ha)
end M
namespace M
theorem Od.mem {n:Nat}{o:List Nat}(q:Od n o){p:Nat}(hp:p∈o):p<n:=List.mem_range.mp (q.p.mem_iff.mp hp)
def qI (o:List Nat) (b:Nat):Nat:=(idxI (b:Int) (o.map fun(x:Nat)=>(x:Int))).getD 0
end M
namespace M
def bD (b:Bool):D:= .int (b.toNat:Nat)
theorem zD {F:Fx}(h:AH) (w:W): ∀(m t:Nat) (i:Nat) (acc:List D) (x y:Option W),acc.length+m<=1000000-> ∃z x' y',
 forGo (bindT [3] true) (fun τ h=>execs F b_law_marks_1 τ h) (((List.range m).map fun(j:Nat)=>D.int ((i+j:Nat):Int))) [some (.v (.int (t:Int))),some w,some (.own acc),x,y] h=
  .next [z,some w,some (.own (acc++(Wf.bitsB t m).map bD)),x',y'] h
 | 0,t,i,acc,x,y,_=>⟨some (.v (.int (t:Int))),x,y,by simp [Wf.bitsB]⟩
 | m+1,t,i,acc,x,y,hl=>by
  obtain⟨z,x',y',e⟩:=zD h w m (t / 2) (i+1) (acc++ [bD (t.testBit 0)]) (some (.v (.int (i:Nat)))) (some (.v (bD (t.testBit 0)))) (by simp;omega)
  refine⟨z,x',y',?_⟩
  have hr:((List.range (m+1)).map fun(j:Nat)=>D.int ((i+j:Nat):Int))=D.int (i:Nat)::((List.range m).map fun(j:Nat)=>D.int ((i+1+j:Nat):Int)):=by
   rw [List.range_succ_eq_map]
   simp [Function.comp_def,Nat.add_assoc,Nat.add_comm,Nat.add_left_comm,Int.add_comm,Int.add_left_comm]
  rw [hr,Za (τ1:= [some (.v (.int (t:Int))),some w,some (.own acc),some (.v (.int (i:Nat))),y]) (τ2:= [some (.v (.int ((t / 2:Nat):Int))),some w,some (.own (acc++ [bD (t.testBit 0)])),some (.v (.int (i:Nat))),some (.v (bD (t.testBit 0)))]) (h2:=h) rfl ?_,e]
  ·have:(Wf.bitsB t (m+1))=t.testBit 0::Wf.bitsB (t / 2) m:=by
    unfold Wf.bitsB
    rw [List.range_succ_eq_map]
    simp [Function.comp_def,Nat.testBit_succ]
   rw [this]
   simp
  ·have h2:(0:Int)<2/\(2:Int)<B30:=by rw [B30_eq];decide
   have hL:acc.length<LIM:=by rw [LIM_eq];omega
   have e1:(t:Int) / 2=((t / 2:Nat):Int):=rfl
   have e2:D.int ((t:Int) % 2)=bD (t.testBit 0):=by
    have:t % 2=(t.testBit 0).toNat:=by have:=Wf.bit_nat t 0;simpa using this
    unfold bD
    rw [← this];rfl
   simp only [b_law_marks_1,execs,exec,eval,evalWs,readS,getS,R.bind_ok,divmod_ints,h2,and_self,if_true,R.toO_ok,setTup,setS,O.seq_next,W.d_v,hL,e1,e2]
theorem Zm (k t m:Nat) (h:AH) (hm:m<=1000):call prog (k+1) "_law_marks" [.v (.int (t:Int)),.v (.int (m:Int))] h= .ok (.own ((Wf.bitsB t m).map bD)) h:=by
 rw [call_of (d:=d_law_marks) rfl _ _ _ rfl]
 obtain⟨z,x',y',e⟩:=zD (F:=⟨call prog k,prog.cl,prog.con⟩) h (.v (.int (m:Int))) m t 0 [] none none (by simp;omega)
 simp only [d_law_marks,execs,exec,isVar,eval,evalDs,R.bind_ok,R.toO_ok,O.seq_next,evalLp,List.map_cons,List.map_nil,List.cons_append,List.nil_append,Nat.reduceSub,List.replicate_succ,List.replicate_zero,setS]
 rw [Zc (m:=m) (by simp [readS]) (by omega),R.toO_ok]
 simp only [Nat.zero_add]at e
 rw [e]
 simp
theorem qY {α:Type}(xs:List α) (a:Nat):cut xs none (some (a:Int))=xs.take a:=by
 have h1: ¬((a:Int)<0):=by omega
 have e:cut xs none (some (a:Int))=xs.take (min a xs.length):=by simp [cut,sIx,h1]
 rw [e]
 by_cases h:a<=xs.length
 ·rw [Nat.min_eq_left h]
 ·rw [Nat.min_eq_right (by omega),List.take_length,List.take_of_length_le (by omega)]
theorem wq (i:Int) (m:Nat) (h:0<m): ∃a:Nat,a<m/\i % (m:Int)=(a:Int):=by
 have h1:=Int.emod_nonneg i (b:=(m:Int)) (by omega)
 have h2:=Int.emod_lt_of_pos i (b:=(m:Int)) (by omega)
 exact⟨(i % (m:Int)).toNat,by omega,by omega⟩
theorem XC (i j:Int) (h0:0<j) (h1:j<1000):intOp .fdiv i j=some (i / j):=by
 have:0<j/\j<B30:=by rw [B30_eq];omega
 show(if _ then _ else _)=_
 rw [if_pos this]
theorem zG (i j:Int) (h0:0<j):intOp .mod i j=some (i % j):=by
 show(if _ then _ else _)=_
 rw [if_pos h0]
end M
namespace M
theorem wy (k:Nat) (x:Nat) (h:AH):call prog (k+1) "_law_whole" [.v (.int (x:Int))] h= .ok (.v (.bl true)) h:=by
 rw [call_of (d:=d_law_whole) rfl _ _ _ rfl]
 simp [d_law_whole,readS]
theorem xaE (k:Nat) (ns:List Int) (i:Nat) (h:AH):call prog (k+1) "_law_nth" [.v (.lst (ns.map .int)),.v (.int (i:Int))] h= .ok (.v (.int (ns.getD i 0))) h:=by
 rw [call_of (d:=d_law_nth) rfl _ _ _ rfl]
 simp only [d_law_nth]
 by_cases q:i<ns.length
 ·have e:=qm (ns.map D.int) i (by simpa using q)
  rw [List.getElem?_map,List.getElem?_eq_getElem q]at e
  have q':(i:Int)<((ns.map D.int).length:Int):=by rw [List.length_map];omega
  have e:atI (ns.map D.int) (i:Int)=some (.int ns[i]):=e
  rw [jaN (w:= .v (.int ns[i])) (by simp_all [len_lst,cmp_lt,decide_eq_true q']) (by simp_all [ix_lst,e]),List.getD_eq_getElem?_getD,List.getElem?_eq_getElem q]
  exact finO_retv _ _ _ rfl
 ·have q': ¬(i:Int)<((ns.map D.int).length:Int):=by rw [List.length_map];omega
  rw [xy (by simp_all [len_lst,cmp_lt,decide_eq_false q']),List.getD_eq_getElem?_getD,List.getElem?_eq_none (by omega)]
  simp_all []
  rfl
theorem Zf (i m:Nat):((List.range (m+1)).map fun(j:Nat)=>D.int ((i+j:Nat):Int))=D.int (i:Nat)::((List.range m).map fun(j:Nat)=>D.int ((i+1+j:Nat):Int)):=by
 rw [List.range_succ_eq_map]
 simp [Function.comp_def,Nat.add_assoc,Nat.add_comm,Nat.add_left_comm,Int.add_comm,Int.add_left_comm]
end M
namespace M
theorem zh (g:Nat->Bool) (f:Nat->Nat): ∀l:List Nat,((l.filter g).map f).sum=(l.map fun a=>(g a).toNat*f a).sum
 | []=>rfl
 | a::l=>by
  rw [List.filter_cons,List.map_cons,List.sum_cons,←zh g f l]
  cases g a<;>simp
theorem xB (t m i:Nat) (hi:i<m):atI ((Wf.bitsB t m).map bD) (i:Int)=some (bD (t.testBit i)):=by
 rw [qm _ _ (by simpa [Wf.bitsB_length]using hi),List.getElem?_map,Wf.bitsB_get hi];rfl
theorem Z4 (b:Bool) (h:AH):cmpD .eq (.v (bD b)) (.v (.int 1)) h=some b:=by
 cases b<;>simp [bD]
abbrev ldS (n:Nat) (ks ts:List Nat) (o:List Nat) (x5 x6 x7 x8 x9 x10:Option W):Sl:= [some (.v (wldD n ks ts)),some (.v (.tup (nsD o))),some (.v (.int (n:Int))),some (.v (.tup (nsD ks))),some (.v (.tup (nsD ts))),x5,x6,x7,x8,x9,x10]
section
variable {n:Nat}{o:List Nat}(q:Od n o) (hn:n<=4)
include q hn
theorem zax {k:Nat}{ks ts:List Nat}(h:AH): ∀(l acc:List Nat) (x6 x7:Option W),acc.length+l.length<=1000-> ∃y6 y7,
 forGo (bindT [6] true) (fun τ h=>execs ⟨call prog (k+1),prog.cl,prog.con⟩ b_law_led_5 τ h) (nsD l) (ldS n ks ts o (some (.own (nsD acc))) x6 x7 none none none) h= .next (ldS n ks ts o (some (.own (nsD (acc++l.map (kM n o))))) y6 y7 none none none) h
 | [],acc,x6,x7,_=>⟨x6,x7,by simp⟩
 | x::l,acc,x6,x7,hl=>by
  rw [List.length_cons]at hl
  obtain⟨y6,y7,e⟩:=zax h l (acc++ [kM n o x]) (some (.v (.int (x:Int)))) (some (.v (.lst ((Wf.bitsB x n).map bD)))) (by simp;omega)
  refine⟨y6,y7,?_⟩
  have em:=Zm k x n h (by omega)
  have hL:(nsD acc).length<LIM:=by rw [LIM_eq,List.length_map];omega
  rw [show nsD (x::l)= .int (x:Int)::nsD l from rfl,Za (τ1:=ldS n ks ts o (some (.own (nsD acc))) (some (.v (.int (x:Int)))) x7 none none none) (τ2:=ldS n ks ts o (some (.own (nsD (acc++ [kM n o x])))) (some (.v (.int (x:Int)))) (some (.v (.lst ((Wf.bitsB x n).map bD)))) none none none) (h2:=h) rfl ?_,e,List.append_assoc]
  ·rfl
  ·simp only [b_law_led_5]
   rw [za (τ1:=ldS n ks ts o (some (.own (nsD acc))) (some (.v (.int (x:Int)))) (some (.v (.lst ((Wf.bitsB x n).map bD)))) none none none) (h1:=h) (by simp_all [em])]
   have es:eval ⟨call prog (k+1),prog.cl,prog.con⟩ e_law_led_4 (ldS n ks ts o (some (.own (nsD acc))) (some (.v (.int (x:Int)))) (some (.v (.lst ((Wf.bitsB x n).map bD)))) none none none) h= .ok (.own (((List.range n).filter x.testBit).map fun a=> .int ((2 ^ pm o a:Nat):Int))) h:=by
    rw [e_law_led_4]
    refine jq x.testBit _ rfl (by omega) fun i hi=>⟨?_,.v (.int ((2 ^ pm o i:Nat):Int)),?_,rfl⟩
    ·have e1:=xB x n i hi
     simp_all [ix_lst,e1,Z4]
    ·have e1:=xY q hi
     have e2:=shl1 (pm o i) (by have:=q.lt hi;omega)
     simp_all [ix_tup,e1,e2]
   have eq:(((List.range n).filter x.testBit).map fun a=>D.int ((2 ^ pm o a:Nat):Int))=nsD (((List.range n).filter x.testBit).map fun a=>2 ^ pm o a):=by rw [nsD,List.map_map];rfl
   have hL2:(nsD (((List.range n).filter x.testBit).map fun a=>2 ^ pm o a)).length<=LIM:=by
    rw [LIM_eq,List.length_map,List.length_map]
    exact Nat.le_trans (List.length_filter_le _ _) (by simp;omega)
   rw [eq]at es
   have ek:(((List.range n).filter x.testBit).map fun a=>2 ^ pm o a).sum=kM n o x:=zh _ _ _
   have en:nsD (acc++ [kM n o x])=nsD acc++ [.int ((kM n o x:Nat):Int)]:=by simp
   rw [en]
   simp_all [es,sum_own,hL2,if_true,Zp,ek,hL]
theorem zaH {k:Nat}{ks ts:List Nat}{x5 x6:Option W}(h:AH): ∀(l acc:List Nat) (x7 x9 x10:Option W),acc.length+l.length<=1000-> ∃y7 y9 y10,
 forGo (bindT [9] true) (fun τ h=>execs ⟨call prog (k+1),prog.cl,prog.con⟩ b_law_led_3 τ h) (nsD l) (ldS n ks ts o x5 x6 x7 (some (.own (nsD acc))) x9 x10) h= .next (ldS n ks ts o x5 x6 y7 (some (.own (nsD (acc++l.map (tK n o))))) y9 y10) h
 | [],acc,x7,x9,x10,_=>⟨x7,x9,x10,by simp⟩
 | t::l,acc,x7,x9,x10,hl=>by
  rw [List.length_cons]at hl
  obtain⟨y7,y9,y10,e⟩:=zaH h l (acc++ [tK n o t]) (some (.v (.lst ((Wf.bitsB t (n*n)).map bD)))) (some (.v (.int (t:Int)))) (some (.v (.lst ((Wf.pairsM n t).map pD)))) (by simp;omega)
  refine⟨y7,y9,y10,?_⟩
  have hn2:=qC (n:=n) (by omega)
  have em:=Zm k t (n*n) h (by omega)
  have m1:intOp .mul (n:Int) (n:Int)=some ((n*n:Nat):Int):=Wb n n (by omega)
  have hL:(nsD acc).length<LIM:=by rw [LIM_eq,List.length_map];omega
  rw [show nsD (t::l)= .int (t:Int)::nsD l from rfl,Za (τ1:=ldS n ks ts o x5 x6 x7 (some (.own (nsD acc))) (some (.v (.int (t:Int)))) x10) (τ2:=ldS n ks ts o x5 x6 (some (.v (.lst ((Wf.bitsB t (n*n)).map bD)))) (some (.own (nsD (acc++ [tK n o t])))) (some (.v (.int (t:Int)))) (some (.v (.lst ((Wf.pairsM n t).map pD))))) (h2:=h) rfl ?_,e,List.append_assoc]
  ·rfl
  ·simp only [b_law_led_3]
   rw [za (τ1:=ldS n ks ts o x5 x6 (some (.v (.lst ((Wf.bitsB t (n*n)).map bD)))) (some (.own (nsD acc))) (some (.v (.int (t:Int)))) x10) (h1:=h) (by simp_all [m1,em])]
   have e2:eval ⟨call prog (k+1),prog.cl,prog.con⟩ e_law_led_2 (ldS n ks ts o x5 x6 (some (.v (.lst ((Wf.bitsB t (n*n)).map bD)))) (some (.own (nsD acc))) (some (.v (.int (t:Int)))) x10) h= .ok (.own ((Wf.pairsM n t).map pD)) h:=by
    rw [e_law_led_2,Wf.pairsM,List.map_map]
    refine jq t.testBit _ (by simp_all [m1]) (by omega) fun i hi=>⟨?_,.v (pD (i / n,i % n)),?_,rfl⟩
    ·have e1:=xB t (n*n) i hi
     simp_all [ix_lst,e1,Z4]
    ·have h0:(0:Int)<(n:Int)/\(n:Int)<B30:=by
      rw [B30_eq]
      have:=Wf.pos_of_lt hi
      omega
     simp_all [divmod_ints,h0,and_self,if_true]
     rfl
   rw [za (zq e2 rfl)]
   have e3:eval ⟨call prog (k+1),prog.cl,prog.con⟩ e_law_led_1 (ldS n ks ts o x5 x6 (some (.v (.lst ((Wf.bitsB t (n*n)).map bD)))) (some (.own (nsD acc))) (some (.v (.int (t:Int)))) (some (.v (.lst ((Wf.pairsM n t).map pD))))) h= .ok (.own ((Wf.pairsM n t).map fun p=> .int ((2 ^ tP n o p:Nat):Int))) h:=by
    rw [e_law_led_1]
    refine ZU pD _ (Wf.pairsM n t) (v_it rfl) (by have:=ww n t;omega) fun p hp=> ?_
    have hh:=Wf.inB_pairsM n t p hp
    refine⟨[some (.v (.int (p.1:Nat))),some (.v (.int (p.2:Nat))),some (.v (.tup (nsD o))),some (.v (.int (n:Int)))],.v (.int ((2 ^ tP n o p:Nat):Int)),rfl,?_,rfl⟩
    have e1:=xY q hh.1
    have e2:=xY q hh.2
    have l1:=q.lt hh.1
    have l2:=q.lt hh.2
    have m2:intOp .mul ((pm o p.1:Nat):Int) (n:Int)=some ((pm o p.1*n:Nat):Int):=Wb _ n (by omega)
    have c2:((pm o p.1*n:Nat):Int)+((pm o p.2:Nat):Int)=((tP n o p:Nat):Int):=rfl
    have s2:=shl1 (tP n o p) (by
     have:=Wf.place_lt l1 l2
     unfold tP
     omega)
    simp_all [ix_tup,e1,e2,m2,int_add,c2,s2]
   have eq:((Wf.pairsM n t).map fun p=>D.int ((2 ^ tP n o p:Nat):Int))=nsD ((Wf.pairsM n t).map fun p=>2 ^ tP n o p):=by rw [nsD,List.map_map];rfl
   have hL2:(nsD ((Wf.pairsM n t).map fun p=>2 ^ tP n o p)).length<=LIM:=by
    rw [LIM_eq,List.length_map,List.length_map]
    have:=ww n t
    omega
   rw [eq]at e3
   have ek:((Wf.pairsM n t).map fun p=>2 ^ tP n o p).sum=tK n o t:=by
    rw [Wf.pairsM,List.map_map]
    exact zh _ _ _
   have en:nsD (acc++ [tK n o t])=nsD acc++ [.int ((tK n o t:Nat):Int)]:=by simp
   rw [en,Wh]
   have e3:eval ⟨call prog (k+1),prog.cl,prog.con⟩ e_law_led_1 (setS (ldS n ks ts o x5 x6 (some (.v (.lst ((Wf.bitsB t (n*n)).map bD)))) (some (.own (nsD acc))) (some (.v (.int (t:Int)))) x10) 10 (.v (.lst ((Wf.pairsM n t).map pD)))) h=_:=e3
   simp only [setS]at e3 ⊢
   simp_all [e3,sum_own,hL2,if_true,Zp,ek,hL]
theorem xaP (k:Nat) (ks ts:List Nat) (hk:ks.length<=1000) (ht:ts.length<=1000) (h:AH):call prog (k+2) "_law_led" [.v (wldD n ks ts),.v (.tup (nsD o))] h= .ok (.v (wldD n (ks.map (kM n o)) (ts.map (tK n o)))) h:=by
 rw [call_of (d:=d_law_led) rfl _ _ _ rfl]
 obtain⟨y6,y7,e1⟩:=zax q hn (k:=k) (ks:=ks) (ts:=ts) h ks [] none none (by simpa using hk)
 obtain⟨z7,z9,z10,e2⟩:=zaH q hn (k:=k) (ks:=ks) (ts:=ts) (x5:=some (.own (nsD ([]++ks.map (kM n o))))) (x6:=y6) h ts [] y7 none none (by simpa using ht)
 simp only [d_law_led]
 rw [za (τ1:=ldS n ks ts o none none none none none none) (h1:=h) (by simp_all [])]
 rw [za (τ1:=ldS n ks ts o (some (.own [])) none none none none none) (h1:=h) (by simp_all [])]
 rw [za (τ1:=ldS n ks ts o (some (.own (nsD ([]++ks.map (kM n o))))) y6 y7 none none none) (h1:=h) (by
  simp only [exec,evalLp,isVar,getS,Option.bind_some,lpV_tup,R.of_some,R.toO_ok]
  exact e1)]
 rw [za (τ1:=ldS n ks ts o (some (.own (nsD ([]++ks.map (kM n o))))) y6 y7 (some (.own [])) none none) (h1:=h) (by simp_all [])]
 rw [za (τ1:=ldS n ks ts o (some (.own (nsD ([]++ks.map (kM n o))))) y6 z7 (some (.own (nsD ([]++ts.map (tK n o))))) z9 z10) (h1:=h) (by
  simp only [exec,evalLp,isVar,getS,Option.bind_some,lpV_tup,R.of_some,R.toO_ok]
  exact e2)]
 rw [List.nil_append,List.nil_append]
 simp_all [tuple_bor]
end
end M
namespace M
end M
namespace M
def longM (n:Nat) (rows:List (List Nat)):List (List Nat):=rows.flatMap fun r=>((List.range n).filter fun x=> !decide (x∈r)).map fun x=>r++ [x]
def renJ (n:Nat):Nat->List (List Nat)
 | 0=> [[]]
 | j+1=>longM n (renJ n j)
abbrev rwD (rows:List (List Nat)):List D:=rows.map fun r=> .tup (nsD r)
def intsOf (r:List Nat):List Int:=r.map fun(x:Nat)=>(x:Int)
def chk1 (n:Nat):Bool:=decide ((renJ n n).length= [1,1,2,6,24].getD n 0)&&((renJ n n).all fun r=>decide (sortI (intsOf r)=intsOf (List.range n))&&decide (r.length=n))&&((List.range ((renJ n n).length-1)).all fun k=>lexI (intsOf ((renJ n n).getD k [])) (intsOf ((renJ n n).getD (k+1) [])))&&((List.range (n+1)).all fun j=>decide ((renJ n j).length<=24)&&(renJ n j).all fun r=>decide (r.length<=4))
theorem W9: ∀n,n<5->chk1 n=true:=by decide +kernel
structure Ren (n:Nat):Prop where
 len:(renJ n n).length= [1,1,2,6,24].getD n 0
 srt: ∀r∈renJ n n,sortI (intsOf r)=intsOf (List.range n)
 ln: ∀r∈renJ n n,r.length=n
 lex: ∀k,k+1<(renJ n n).length->lexI (intsOf ((renJ n n).getD k [])) (intsOf ((renJ n n).getD (k+1) []))=true
 few: ∀j,j<=n->(renJ n j).length<=24
 sml: ∀j,j<=n-> ∀r∈renJ n j,r.length<=4
theorem ren (n:Nat) (hn:n<=4):Ren n:=by
 have h:=W9 n (by omega)
 unfold chk1 at h
 simp only [Bool.and_eq_true,decide_eq_true_eq,List.all_eq_true]at h
 obtain⟨⟨⟨h1,h2⟩,h3⟩,h4⟩:=h
 exact⟨h1,fun r hr=>(h2 r hr).1,fun r hr=>(h2 r hr).2,fun k hk=>h3 k (List.mem_range.mpr (by omega)),fun j hj=>(h4 j (List.mem_range.mpr (by omega))).1,fun j hj r hr=>(h4 j (List.mem_range.mpr (by omega))).2 r hr⟩
theorem X3 (k:Nat) (d:D) (h:AH) (hd:noRef d=true):call prog (k+3) "is_size" [.v d] h= .ok (.v (.bl (belowD d 5))) h:=by
 rw [call_of (d:=d_is_size) rfl _ _ _ rfl]
 have hb:=QG k d 5 h hd
 have lk:prog.con.lookup "GREATEST_SIZE" =some (.int 4):=rfl
 have e4:(4:Int)+1=5:=rfl
 simp only [d_is_size]
 simp_all [lk,int_add,e4,hb]
theorem xad (k:Nat) (d:D) (h:AH) (hd:noRef d=true) (hb:belowD d 5=true):call prog (k+4) "check_size" [.v d] h= .ok (.v .non) h:=by
 rw [call_of (d:=d_check_size) rfl _ _ _ rfl]
 have hs:=X3 k d h hd
 rw [hb]at hs
 simp only [d_check_size]
 rw [xy (by simp_all [hs])]
 simp_all []
theorem WF (k:Nat) (d:D) (h:AH) (hd:noRef d=true) (hb:belowD d 5=false):call prog (k+4) "check_size" [.v d] h= .exc (.exc "NoSize" []) h:=by
 rw [call_of (d:=d_check_size) rfl _ _ _ rfl]
 have hs:=X3 k d h hd
 rw [hb]at hs
 simp only [d_check_size]
 rw [execs,if_t (h1:=h) (by simp_all [hs]),Wh]
 simp_all []
theorem jaz (b:Nat): ∀l:List Nat,inD (.int (b:Int)) (nsD l)=decide (b∈l)
 | []=>rfl
 | x::l=>by
  have:=jaz b l
  simp only [inD,nsD,List.map_cons,List.any_cons,eqD,List.mem_cons]at this ⊢
  rw [this,Bool.eq_iff_iff]
  simp only [Bool.or_eq_true,beq_iff_eq,decide_eq_true_eq]
  constructor
  ·rintro (h | h)
   ·exact .inl (by omega)
   ·exact .inr h
  ·rintro (h | h)
   ·exact .inl (by omega)
   ·exact .inr h
theorem qaa (l:List Nat):(nsD l).all flat=true:=by
 rw [List.all_map,List.all_eq_true];exact fun _ _=>rfl
theorem qaK (b:Nat) (l:List Nat) (h:AH):cmpD .nmem (.v (.int (b:Int))) (.v (.tup (nsD l))) h=some (!decide (b∈l)):=by
 show(memD _ _ h).map _=_
 have:memD (.v (.int (b:Int))) (.v (.tup (nsD l))) h=some (decide (b∈l)):=by
  show(if flat (.int (b:Int))&&(nsD l).all flat then some (inD (.int (b:Int)) (nsD l))else memG _ _ h)=_
  rw [qaa,jaz];rfl
 rw [this];rfl
theorem xw (F:Fx) (a:E) (τ:Sl) (h:AH):evalLp F (.range1 a) τ h=evalIt F (.range1 a) τ h:=rfl
theorem wJ {F:Fx}{n:Nat}{w:W}(hn:n<=4) (h:AH): ∀(rows acc:List (List Nat)) (x:Option W),(∀ r∈rows,r.length<=4)->acc.length+rows.length*4<=1000-> ∃x',
 forGo (bindT [3] true) (fun τ h=>execs F b_longer_by_one_2 τ h) (rwD rows) [some w,some (.v (.int (n:Int))),some (.own (rwD acc)),x] h= .next [some w,some (.v (.int (n:Int))),some (.own (rwD (acc++longM n rows))),x'] h
 | [],acc,x,_,_=>⟨x,by simp [longM]⟩
 | r::rows,acc,x,hr,hl=>by
  have hf:((List.range n).filter fun x=> !decide (x∈r)).length<=4:=Nat.le_trans (List.length_filter_le _ _) (by simp;exact hn)
  rw [List.length_cons]at hl
  obtain⟨x',e⟩:=wJ (F:=F) (w:=w) hn h rows (acc++((List.range n).filter fun x=> !decide (x∈r)).map fun x=>r++ [x]) (some (.v (.tup (nsD r)))) (fun q hq=>hr q (List.mem_cons_of_mem _ hq)) (by rw [List.length_append,List.length_map];omega)
  refine⟨x',?_⟩
  have ec:eval F e_longer_by_one_1 [some w,some (.v (.int (n:Int))),some (.own (rwD acc)),some (.v (.tup (nsD r)))] h= .ok (.own (((List.range n).filter fun x=> !decide (x∈r)).map fun x=> .tup (nsD (r++ [x])))) h:=by
   rw [e_longer_by_one_1]
   refine jq _ _ rfl (by omega) fun i hi=>⟨?_,.v (.tup (nsD (r++ [i]))),?_,rfl⟩
   ·have:=qaK i r h
    simp_all [this]
   ·have hL:(nsD r).length+ [D.int (i:Int)].length<=LIM:=by
     have:=hr r List.mem_cons_self
     rw [LIM_eq,List.length_map,List.length_singleton];omega
    have en:nsD (r++ [i])=nsD r++ [.int (i:Int)]:=by simp
    rw [en]
    simp_all [bin_tups,hL,if_true]
  have eq:(((List.range n).filter fun x=> !decide (x∈r)).map fun x=>D.tup (nsD (r++ [x])))=rwD (((List.range n).filter fun x=> !decide (x∈r)).map fun x=>r++ [x]):=by rw [rwD,List.map_map];rfl
  rw [eq]at ec
  have hL:(rwD acc).length+(rwD (((List.range n).filter fun x=> !decide (x∈r)).map fun x=>r++ [x])).length<LIM:=by
   rw [LIM_eq,List.length_map,List.length_map,List.length_map];omega
  have ea:rwD (acc++((List.range n).filter fun x=> !decide (x∈r)).map fun x=>r++ [x])=rwD acc++rwD (((List.range n).filter fun x=> !decide (x∈r)).map fun x=>r++ [x]):=List.map_append ..
  have el:longM n (r::rows)=(((List.range n).filter fun x=> !decide (x∈r)).map fun x=>r++ [x])++longM n rows:=rfl
  rw [show rwD (r::rows)= .tup (nsD r)::rwD rows from rfl,Za (τ1:= [some w,some (.v (.int (n:Int))),some (.own (rwD acc)),some (.v (.tup (nsD r)))]) (τ2:= [some w,some (.v (.int (n:Int))),some (.own (rwD (acc++((List.range n).filter fun x=> !decide (x∈r)).map fun x=>r++ [x]))),some (.v (.tup (nsD r)))]) (h2:=h) rfl ?_,e,el,List.append_assoc]
  rw [ea]
  simp_all [b_longer_by_one_2,ec,hL,if_true]
theorem J2 (k n:Nat) (rows:List (List Nat)) (h:AH) (hn:n<=4) (h1: ∀r∈rows,r.length<=4) (h2:rows.length<=24):call prog (k+1) "longer_by_one" [.bor (rwD rows),.v (.int (n:Int))] h= .ok (.own (rwD (longM n rows))) h:=by
 rw [call_of (d:=d_longer_by_one) rfl _ _ _ rfl]
 obtain⟨x',e⟩:=wJ (F:=⟨call prog k,prog.cl,prog.con⟩) (w:= .bor (rwD rows)) hn h rows [] none h1 (by simp;omega)
 simp only [d_longer_by_one]
 rw [za (τ1:= [some (.bor (rwD rows)),some (.v (.int (n:Int))),some (.own []),none]) (h1:=h) (by simp_all [])]
 rw [za (by
  simp only [exec,evalLp,isVar,getS,Option.bind_some,lpV_bor,R.of_some,R.toO_ok]
  exact e)]
 rw [List.nil_append]
 simp_all []
theorem J8 {k n:Nat}(hn:n<=4) (h:AH): ∀(m j:Nat) (x:Option W),j+m=n-> ∃x',
 forGo (bindT [2] true) (fun τ h=>execs ⟨call prog (k+1),prog.cl,prog.con⟩ b_renamings_1 τ h) ((List.range m).map fun(i:Nat)=>D.int ((j+i:Nat):Int)) [some (.v (.int (n:Int))),some (.own (rwD (renJ n j))),x] h= .next [some (.v (.int (n:Int))),some (.own (rwD (renJ n n))),x'] h
 | 0,j,x,e=>⟨x,by obtain rfl:j=n:=by omega
                  rfl⟩
 | m+1,j,x,e=>by
  have Rn:=ren n hn
  have ec:=J2 k n (renJ n j) h hn (Rn.sml j (by omega)) (Rn.few j (by omega))
  obtain⟨x',q⟩:=J8 (k:=k) hn h m (j+1) (some (.v (.int (j:Int)))) (by omega)
  refine⟨x',?_⟩
  rw [Zf,Za (τ1:= [some (.v (.int (n:Int))),some (.own (rwD (renJ n j))),some (.v (.int (j:Int)))]) (τ2:= [some (.v (.int (n:Int))),some (.own (rwD (renJ n (j+1)))),some (.v (.int (j:Int)))]) (h2:=h) rfl ?_,q]
  simp_all [b_renamings_1,ec]
  rfl
theorem wz (k n:Nat) (h:AH) (hn:n<=4):call prog (k+5) "renamings" [.v (.int (n:Int))] h= .ok (.own (rwD (renJ n n))) h:=by
 rw [call_of (d:=d_renamings) rfl _ _ _ rfl]
 have hc:=xad k (.int (n:Int)) h rfl (by simp [belowD];omega)
 obtain⟨x',e⟩:=J8 (k:=k+3) hn h n 0 none (by omega)
 simp only [d_renamings]
 rw [za (τ1:= [some (.v (.int (n:Int))),none,none]) (h1:=h) (by simp_all [hc])]
 rw [za (τ1:= [some (.v (.int (n:Int))),some (.own (rwD (renJ n 0))),none]) (h1:=h) (by simp_all [];rfl)]
 rw [za (by
  rw [exec,xw,Zc (m:=n) rfl (by omega),R.toO_ok]
  simp only [Nat.zero_add]at e
  exact e)]
 simp_all []
theorem Jm (k:Nat) (d:D) (h:AH) (hd:noRef d=true) (hb:belowD d 5=false):call prog (k+5) "renamings" [.v d] h= .exc (.exc "NoSize" []) h:=by
 rw [call_of (d:=d_renamings) rfl _ _ _ rfl]
 have hc:=WF k d h hd hb
 simp only [d_renamings]
 simp_all [hc,R.toO_exc]
end M
namespace M
end M
namespace M
def cd:List (Nat×Nat)->Nat
 | []=>0
 | q::r=>q.2+2 ^ q.1*cd r
def okP (ps:List (Nat×Nat)):Prop:= ∀q∈ps,q.2<2 ^ q.1/\q.1<=16
def wS (ps:List (Nat×Nat)):Nat:=(ps.map (·.1)).sum
def cdF:Nat->Nat->List (Nat×Nat)->Nat
 | t,_,[]=>t
 | t,pl,q::r=>cdF (t ||| q.2*2 ^ pl) (pl+q.1) r
def dg:List Nat->Nat->List Nat
 | [],_=> []
 | w::ws,c=>c % 2 ^ w::dg ws (c / 2 ^ w)
def wdL (n K T:Nat):List Nat:=List.replicate K n++List.replicate T (n*n)
def Cw (n:Nat) (ks ts:List Nat):Nat:=cd ((wdL n ks.length ts.length).zip (ks++ts))
structure Wl (n:Nat) (ks ts:List Nat):Prop where
 n4:n<=4
 k4:ks.length<=4
 t4:ts.length<=4
 bk: ∀x∈ks,x<2 ^ n
 bt: ∀x∈ts,x<2 ^ (n*n)
theorem XN (n:Nat): ∀(j:Nat) (l:List Nat),l.length=j->l.Nodup->(∀ x∈l,x<n)->l∈renJ n j
 | 0,l,hl,_,_=>by
  rw [List.eq_nil_of_length_eq_zero hl];simp [renJ]
 | j+1,l,hl,hn,hb=>by
  rcases List.eq_nil_or_concat l with rfl | ⟨r,x,rfl⟩
  ·simp at hl
  ·rw [List.concat_eq_append]at*
   have nd:=List.nodup_append.mp hn
   have hr:=XN n j r (by simpa using hl) nd.1 fun y hy=>hb y (List.mem_append_left _ hy)
   show r++ [x]∈longM n (renJ n j)
   unfold longM
   rw [List.mem_flatMap]
   refine⟨r,hr,List.mem_map.mpr ⟨x,List.mem_filter.mpr ⟨List.mem_range.mpr (hb x (by simp)),?_⟩,rfl⟩⟩
   have:x∉r:=fun z=>nd.2.2 x z x (by simp) rfl
   simpa using this
theorem XT: ∀n,n<5->((renJ n n).all fun r=>r.isPerm (List.range n))=true:=by decide +kernel
theorem jM {n:Nat}(hn:n<=4) (r:List Nat):r∈renJ n n↔Od n r:=by
 constructor
 ·intro h
  exact⟨List.isPerm_iff.mp (List.all_eq_true.mp (XT n (by omega)) r h)⟩
 ·intro q
  exact XN n n r q.len (q.p.nodup_iff.mpr List.nodup_range) fun x hx=>q.mem hx
structure Ls (n:Nat) (ks ts ks' ts':List Nat):Prop where
 o: ∃r,Od n r/\ks'=ks.map (kM n r)/\ts'=ts.map (tK n r)
 le: ∀r,Od n r->Cw n ks' ts'<=Cw n (ks.map (kM n r)) (ts.map (tK n r))
end M
namespace M
abbrev nmD (A B:List D):D:= .tup [.tup A,.tup B]
theorem xab (xs:List D) (lo hi:Option Int) (h:AH):slD (.v (.tup xs)) lo hi h=okv (.tup (cut xs lo hi)) h:=rfl
abbrev orS (n:Nat) (x1:Option W) (x2:Option W) (acc:List (List Nat)) (x4 x5:Option W):Sl:= [some (.v (.int (n:Int))),x1,x2,some (.own (rwD acc)),x4,x5]
theorem zap (k K T:Nat) (h:AH) (hK:K<=4) (hT:T<=4): ∃A B:List D,A.length=K/\B.length=T/\call prog (k+1) "_law_names" [.v (.int (K:Int)),.v (.int (T:Int))] h= .ok (.v (nmD A B)) h:=by
 rw [call_of (d:=d_law_names) rfl _ _ _ rfl]
 simp only [d_law_names]
 simp_all [xab,qY]
 refine⟨_,_,?_,?_,rfl⟩
 ·rw [List.length_take];show min K 4=K;omega
 ·rw [List.length_take];show min T 4=T;omega
theorem wT {F:Fx}{n:Nat}{r:List Nat}{x1 x2:Option W}(hr:r.length<=4) (h:AH): ∀(m i:Nat) (acc:List (List Nat)) (x5:Option W),i+m=n->acc.length+m<=1000-> ∃y5,
 forGo (bindT [5] true) (fun τ h=>execs F b_law_orders_1 τ h) ((List.range m).map fun(j:Nat)=>D.int ((i+j:Nat):Int)) (orS n x1 x2 acc (some (.v (.tup (nsD r)))) x5) h= .next (orS n x1 x2 (acc++(((List.range m).map (i+ ·)).filter fun x=> !decide (x∈r)).map fun x=>r++ [x]) (some (.v (.tup (nsD r)))) y5) h
 | 0,i,acc,x5,_,_=>⟨x5,by simp⟩
 | m+1,i,acc,x5,e,hl=>by
  have mo:=qaK i r h
  have er:(List.range (m+1)).map (i+ ·)=i::(List.range m).map (i+1+ ·):=by
   rw [List.range_succ_eq_map,List.map_cons,List.map_map]
   congr 1
   exact List.map_congr_left fun x _=>by show i+(x+1)=i+1+x;omega
  have et:tstE F (.cmp .nmem (.var 5) (.var 4)) (orS n x1 x2 acc (some (.v (.tup (nsD r)))) (some (.v (.int (i:Int))))) h= .ok (!decide (i∈r)) h:=by
   simp_all [mo]
  by_cases q:i∈r
  ·obtain⟨y5,z⟩:=wT (F:=F) (n:=n) (x1:=x1) (x2:=x2) hr h m (i+1) acc (some (.v (.int (i:Int)))) (by omega) (by omega)
   refine⟨y5,?_⟩
   rw [decide_eq_true q]at et
   rw [er,List.filter_cons_of_neg (by simpa using q),Zf,Za (τ1:=orS n x1 x2 acc (some (.v (.tup (nsD r)))) (some (.v (.int (i:Int))))) (τ2:=orS n x1 x2 acc (some (.v (.tup (nsD r)))) (some (.v (.int (i:Int))))) (h2:=h) rfl ?_,z]
   simp only [b_law_orders_1]
   rw [xy et]
   rfl
  ·obtain⟨y5,z⟩:=wT (F:=F) (n:=n) (x1:=x1) (x2:=x2) hr h m (i+1) (acc++ [r++ [i]]) (some (.v (.int (i:Int)))) (by omega) (by simp;omega)
   refine⟨y5,?_⟩
   rw [decide_eq_false q]at et
   have hL:(nsD r).length+ [D.int (i:Int)].length<=LIM:=by rw [LIM_eq,List.length_map,List.length_singleton];omega
   have hL2:(rwD acc).length<LIM:=by rw [LIM_eq,List.length_map];omega
   have en:rwD (acc++ [r++ [i]])=rwD acc++ [.tup (nsD r++ [.int (i:Int)])]:=by simp
   rw [er,List.filter_cons_of_pos (by simpa using q),List.map_cons,Zf,Za (τ1:=orS n x1 x2 acc (some (.v (.tup (nsD r)))) (some (.v (.int (i:Int))))) (τ2:=orS n x1 x2 (acc++ [r++ [i]]) (some (.v (.tup (nsD r)))) (some (.v (.int (i:Int))))) (h2:=h) rfl ?_,z,List.append_assoc]
   ·rfl
   ·simp only [b_law_orders_1,Wh]
    rw [if_t et]
    simp only [orS,en]
    simp_all [bin_tups,hL,if_true,hL2]
theorem wO {F:Fx}{n:Nat}{x1 x2:Option W}(hn:n<=4) (h:AH): ∀(rows acc:List (List Nat)) (x4 x5:Option W),(∀ r∈rows,r.length<=4)->acc.length+rows.length*4<=1000-> ∃y4 y5,
 forGo (bindT [4] true) (fun τ h=>execs F b_law_orders_2 τ h) (rwD rows) (orS n x1 x2 acc x4 x5) h= .next (orS n x1 x2 (acc++longM n rows) y4 y5) h
 | [],acc,x4,x5,_,_=>⟨x4,x5,by simp [longM]⟩
 | r::rows,acc,x4,x5,hr,hl=>by
  rw [List.length_cons]at hl
  have hf:((List.range n).filter fun x=> !decide (x∈r)).length<=4:=Nat.le_trans (List.length_filter_le _ _) (by simp;exact hn)
  obtain⟨y5,e⟩:=wT (F:=F) (n:=n) (x1:=x1) (x2:=x2) (hr r List.mem_cons_self) h n 0 acc x5 (by omega) (by omega)
  have e0:(List.range n).map (0+ ·)=List.range n:=(List.map_congr_left fun x _=>Nat.zero_add x).trans (List.map_id _)
  rw [e0]at e
  obtain⟨z4,z5,q⟩:=wO (F:=F) (x1:=x1) (x2:=x2) hn h rows (acc++((List.range n).filter fun x=> !decide (x∈r)).map fun x=>r++ [x]) (some (.v (.tup (nsD r)))) y5 (fun s hs=>hr s (List.mem_cons_of_mem _ hs)) (by rw [List.length_append,List.length_map];omega)
  refine⟨z4,z5,?_⟩
  have el:longM n (r::rows)=(((List.range n).filter fun x=> !decide (x∈r)).map fun x=>r++ [x])++longM n rows:=rfl
  rw [show rwD (r::rows)= .tup (nsD r)::rwD rows from rfl,Za (τ1:=orS n x1 x2 acc (some (.v (.tup (nsD r)))) x5) (h2:=h) rfl (by
   simp only [b_law_orders_2,Wh]
   rw [exec,xw,Zc (m:=n) rfl (by omega),R.toO_ok]
   simp only [Nat.zero_add]at e
   exact e),q,el,List.append_assoc]
theorem J4 {k n:Nat}(hn:n<=4) (h:AH): ∀(m j:Nat) (x2 x3 x4 x5:Option W),j+m=n-> ∃y2 y3 y4 y5,
 forGo (bindT [2] true) (fun τ h=>execs ⟨call prog k,prog.cl,prog.con⟩ b_law_orders_3 τ h) ((List.range m).map fun(i:Nat)=>D.int ((j+i:Nat):Int)) [some (.v (.int (n:Int))),some (.own (rwD (renJ n j))),x2,x3,x4,x5] h= .next [some (.v (.int (n:Int))),some (.own (rwD (renJ n n))),y2,y3,y4,y5] h
 | 0,j,x2,x3,x4,x5,e=>⟨x2,x3,x4,x5,by obtain rfl:j=n:=by omega
                                      rfl⟩
 | m+1,j,x2,x3,x4,x5,e=>by
  have Rn:=ren n hn
  obtain⟨y4,y5,q⟩:=wO (F:=⟨call prog k,prog.cl,prog.con⟩) (x1:=some (.v (.lst (rwD (renJ n j))))) (x2:=some (.v (.int (j:Int)))) hn h (renJ n j) [] x4 x5 (Rn.sml j (by omega)) (by have:=Rn.few j (by omega);simp;omega)
  obtain⟨z2,z3,z4,z5,q2⟩:=J4 (k:=k) hn h m (j+1) (some (.v (.int (j:Int)))) none y4 y5 (by omega)
  refine⟨z2,z3,z4,z5,?_⟩
  rw [List.nil_append]at q
  rw [Zf,Za (τ1:= [some (.v (.int (n:Int))),some (.own (rwD (renJ n j))),some (.v (.int (j:Int))),x3,x4,x5]) (τ2:= [some (.v (.int (n:Int))),some (.own (rwD (renJ n (j+1)))),some (.v (.int (j:Int))),none,y4,y5]) (h2:=h) rfl ?_,q2]
  simp only [b_law_orders_3]
  rw [za (τ1:= [some (.v (.int (n:Int))),some (.own (rwD (renJ n j))),some (.v (.int (j:Int))),some (.own []),x4,x5]) (h1:=h) (by simp_all [])]
  rw [za (τ1:=orS n (some (.v (.lst (rwD (renJ n j))))) (some (.v (.int (j:Int)))) [] x4 x5) (h1:=h) (by simp_all [];rfl)]
  rw [za (by
   simp only [exec,evalLp,isVar,getS,Option.bind_some,lpV_lst,R.of_some,R.toO_ok]
   exact q)]
  rfl
theorem jE (k n:Nat) (h:AH) (hn:n<=4):call prog (k+1) "_law_orders" [.v (.int (n:Int))] h= .ok (.own (rwD (renJ n n))) h:=by
 rw [call_of (d:=d_law_orders) rfl _ _ _ rfl]
 obtain⟨y2,y3,y4,y5,e⟩:=J4 (k:=k) hn h n 0 none none none none (by omega)
 simp only [d_law_orders]
 rw [za (τ1:= [some (.v (.int (n:Int))),some (.own (rwD (renJ n 0))),none,none,none,none]) (h1:=h) (by simp_all [];rfl)]
 rw [za (by
  rw [exec,xw,Zc (m:=n) rfl (by omega),R.toO_ok]
  simp only [Nat.zero_add]at e
  exact e)]
 simp_all []
theorem zab: ∀a b:List Nat,eqDs (nsD a) (nsD b)=decide (a=b)
 | [],[]=>rfl
 | [],_::_=>rfl
 | _::_,[]=>rfl
 | x::a,y::b=>by
  show(((x:Int)==(y:Int))&&eqDs (nsD a) (nsD b))=_
  rw [zab a b,Bool.eq_iff_iff]
  simp only [Bool.and_eq_true,beq_iff_eq,decide_eq_true_eq,List.cons.injEq]
  exact and_congr (by omega) Iff.rfl
end M
namespace M
def walkM (L:List Nat):Nat->Nat->List Bool->List Bool
 | 0,_,s=>s
 | m+1,p,s=>if s.getD p true then s else walkM L m (L.getD p 0) (s.set p true)
theorem WC (L:List Nat): ∀(m p:Nat) (s:List Bool),(walkM L m p s).length=s.length
 | 0,_,_=>rfl
 | m+1,p,s=>by
  rw [walkM]
  split
  ·rfl
  ·rw [WC L m,List.length_set]
theorem zT: ∀(s:List Bool) (p:Nat),p<s.length->s.getD p true=false->(s.set p true).count false+1=s.count false
 | [],p,h,_=>absurd h (Nat.not_lt_zero _)
 | b::s,0,_,e=>by
  have e:b=false:=e
  subst e
  rw [List.set_cons_zero,List.count_cons,List.count_cons]
  rfl
 | b::s,p+1,h,e=>by
  have ih:=zT s p (by simpa using h) e
  rw [List.set_cons_succ,List.count_cons,List.count_cons]
  omega
theorem j5 (s:List Bool) (i:Nat) (hi:i<s.length) (h:AH):ixD (.bor (s.map D.bl)) (.v (.int (i:Int))) h=some (.bl (s.getD i true)):=by
 show atI (s.map D.bl) (i:Int)=_
 rw [qm _ _ (by simpa using hi),List.getElem?_map,List.getD_eq_getElem?_getD,List.getElem?_eq_getElem hi];rfl
structure Lead (L:List Nat) (w:W) (h:AH):Prop where
 two:w= .v (.tup (nsD L))\/w= .bor (nsD L)
 ix: ∀p:Nat,p<L.length->ixD w (.v (.int (p:Int))) h=some (.int ((L.getD p 0:Nat):Int))
 len:biD .len [w] h=okv (.int (L.length:Int)) h
 lt: ∀p:Nat,p<L.length->L.getD p 0<L.length
def rdS (w:W) (s:List Bool) (c:Nat) (x3 x4:Option W):Sl:= [some w,some (.own (s.map .bl)),some (.v (.int (c:Int))),x3,x4]
theorem qO {F:Fx}{L:List Nat}{w:W}{h:AH}(hw:Lead L w h) (c:Nat) (x3:Option W): ∀(m f p:Nat) (s:List Bool),s.length=L.length->p<L.length->s.count false<=m->m<f-> ∃y4,
 whlGo (fun τ h=>tstE F e_rounds_1 τ h) (fun τ h=>execs F b_rounds_2 τ h) f (rdS w s c x3 (some (.v (.int (p:Int))))) h= .next (rdS w (walkM L m p s) c x3 y4) h
 | m,0,_,_,_,_,_,hf=>absurd hf (Nat.not_lt_zero _)
 | m,f+1,p,s,hl,hp,hc,hf=>by
  have ep:=j5 s p (by omega) h
  have et:tstE F e_rounds_1 (rdS w s c x3 (some (.v (.int (p:Int))))) h= .ok (!s.getD p true) h:=by
   unfold rdS e_rounds_1 tstE
   simp_all [ep]
  rw [whlGo,et,R.toO_ok]
  cases q:s.getD p true with
  | true=>
   refine⟨some (.v (.int (p:Int))),?_⟩
   cases m with
   | zero=>rfl
   | succ m=>rw [walkM,if_pos q];rfl
  | false=>
   have cs:=zT s p (by omega) q
   cases m with
   | zero=>omega
   | succ m=>
    obtain⟨y4,e⟩:=qO (F:=F) hw c x3 m f (L.getD p 0) (s.set p true) (by rw [List.length_set];exact hl) (hw.lt p hp) (by omega) (by omega)
    refine⟨y4,?_⟩
    have eb:execs F b_rounds_2 (rdS w s c x3 (some (.v (.int (p:Int))))) h= .next (rdS w (s.set p true) c x3 (some (.v (.int ((L.getD p 0:Nat):Int))))) h:=by
     have hi:=hw.ix p hp
     have hx:ixN (s.map D.bl).length (p:Int)=some p:=by
      unfold ixN
      rw [if_pos (by omega),if_pos (by rw [List.length_map];omega),Int.toNat_natCast]
     unfold rdS b_rounds_2
     rw [List.map_set]
     rcases hw.two with rfl | rfl<;>simp_all [hx,hi,if_true,flat]
    rw [walkM,if_neg (by rw [q];exact Bool.false_ne_true)]
    simp only [Bool.not_false,eb]
    exact e
def stepM (L:List Nat) (z:List Bool×Nat) (p:Nat):List Bool×Nat:=(walkM L L.length p z.1,if z.1.getD p true then z.2 else z.2+1)
def roundsM (L:List Nat):Nat:=((List.range L.length).foldl (stepM L) (List.replicate L.length false,0)).2
theorem Ju {F:Fx}{L:List Nat}{w:W}{h:AH}(hw:Lead L w h) (hL:L.length<=1000): ∀(ps:List Nat) (s:List Bool) (c:Nat) (x3 x4:Option W),(∀ p∈ps,p<L.length)->s.length=L.length-> ∃z1 y3 y4,
 forGo (bindT [3] true) (fun τ h=>execs F b_rounds_3 τ h) (nsD ps) (rdS w s c x3 x4) h= .next (rdS w z1 (ps.foldl (stepM L) (s,c)).2 y3 y4) h
 | [],s,c,x3,x4,_,_=>⟨s,x3,x4,rfl⟩
 | p::ps,s,c,x3,x4,hp,hl=>by
  have p0:=hp p List.mem_cons_self
  have ep:=j5 s p (by omega) h
  obtain⟨y4,ew⟩:=qO (F:=F) hw (if s.getD p true then c else c+1) (some (.v (.int (p:Int)))) L.length 100000 p s hl p0 (by rw [← hl];exact List.count_le_length) (by omega)
  obtain⟨z1,y3,y5,e⟩:=Ju (F:=F) hw hL ps (walkM L L.length p s) (if s.getD p true then c else c+1) (some (.v (.int (p:Int)))) y4 (fun q hq=>hp q (List.mem_cons_of_mem _ hq)) (by rw [WC];exact hl)
  refine⟨z1,y3,y5,?_⟩
  have eb:execs F b_rounds_3 (rdS w s c (some (.v (.int (p:Int)))) x4) h= .next (rdS w (walkM L L.length p s) (if s.getD p true then c else c+1) (some (.v (.int (p:Int)))) y4) h:=by
   unfold b_rounds_3
   rw [za (τ1:=rdS w s (if s.getD p true then c else c+1) (some (.v (.int (p:Int)))) x4) (h1:=h) (by
    unfold rdS
    cases q:s.getD p true with
    | true=>simp_all [ep,q];rfl
    | false=>simp_all [ep,q];rfl)]
   rw [za (τ1:=rdS w s (if s.getD p true then c else c+1) (some (.v (.int (p:Int)))) (some (.v (.int (p:Int))))) (h1:=h) (by unfold rdS;simp_all [])]
   rw [Wh,exec]
   exact ew
  rw [show nsD (p::ps)= .int (p:Int)::nsD ps from rfl,Za (τ1:=rdS w s c (some (.v (.int (p:Int)))) x4) rfl eb]
  exact e
theorem qaw (n:Nat) (hn:n<=1000) (h:AH):binD .mul (.own [.bl false]) (.v (.int (n:Int))) h= .ok (.own ((List.replicate n false).map .bl)) h:=by
 show repL [.bl false] (n:Int) h=_
 unfold repL
 rw [Int.toNat_natCast,if_pos ⟨by omega,by omega,by rw [LIM_eq,List.length_singleton];omega⟩,List.map_replicate]
 congr 2
 induction n with
 | zero=>rfl
 | succ n ih=>rw [List.replicate_succ,List.flatten_cons,ih (by omega),List.replicate_succ];rfl
theorem xE (k:Nat) (L:List Nat) (w:W) (h:AH) (hw:Lead L w h) (hL:L.length<=1000):call prog (k+1) "rounds" [w] h= .ok (.v (.int (roundsM L:Int))) h:=by
 rw [call_of (d:=d_rounds) rfl _ _ _ rfl]
 obtain⟨z1,y3,y4,e⟩:=Ju (F:=⟨call prog k,prog.cl,prog.con⟩) hw hL (List.range L.length) (List.replicate L.length false) 0 none none (fun p hp=>List.mem_range.mp hp) (by simp)
 have hl:=hw.len
 simp only [d_rounds]
 rw [za (τ1:= [some w,some (.own ((List.replicate L.length false).map .bl)),none,none,none]) (h1:=h) (by rcases hw.two with rfl | rfl<;>simp_all [hl,qaw L.length hL h])]
 rw [za (τ1:=rdS w (List.replicate L.length false) 0 none none) (h1:=h) (by unfold rdS;simp_all [];rfl)]
 rw [za (by
  rw [exec,xw,Zc (m:=L.length) (by unfold rdS;rcases hw.two with rfl | rfl<;>simp_all [hl]) (by omega),R.toO_ok]
  exact e)]
 unfold rdS
 simp_all []
 rfl
end M
namespace M
def prM (o:List Nat):List Nat:=o.flatMap fun a=>o.map fun b=>a*o.length+b
def chk2 (n:Nat):Bool:=(renJ n n).all fun o=>decide (o.length=n)&&(o.all fun x=>decide (x<n))&&decide ((prM o).length=n*n)&&((prM o).all fun x=>decide (x<n*n))&&decide (roundsM o<=4)&&decide (roundsM (prM o)<=16)
theorem jX: ∀n,n<5->chk2 n=true:=by decide +kernel
structure Rd (n:Nat) (o:List Nat):Prop where
 l1:o.length=n
 b1: ∀x∈o,x<n
 l2:(prM o).length=n*n
 b2: ∀x∈prM o,x<n*n
 r1:roundsM o<=4
 r2:roundsM (prM o)<=16
theorem jax {n:Nat}(hn:n<=4){o:List Nat}(ho:o∈renJ n n):Rd n o:=by
 have c:=List.all_eq_true.mp (jX n (by omega)) o ho
 simp only [Bool.and_eq_true,decide_eq_true_eq,List.all_eq_true]at c
 obtain⟨⟨⟨⟨⟨a,b⟩,c⟩,d⟩,e⟩,f⟩:=c
 exact⟨a,b,c,d,e,f⟩
theorem jQ {l:List Nat}{p:Nat}(h:p<l.length):l.getD p 0∈l:=by
 rw [List.getD_eq_getElem?_getD,List.getElem?_eq_getElem h];exact List.getElem_mem h
theorem xU (L:List Nat) (h:AH) (hL: ∀x∈L,x<L.length):Lead L (.v (.tup (nsD L))) h where
 two:= .inl rfl
 ix:=fun p hp=>jal L p hp
 len:=by
  show okv (.int ((nsD L).length:Int)) h=_
  rw [List.length_map]
 lt:=fun p hp=>hL _ (jQ hp)
theorem QU (L:List Nat) (h:AH) (hL: ∀x∈L,x<L.length):Lead L (.bor (nsD L)) h where
 two:= .inr rfl
 ix:=fun p hp=>jal L p hp
 len:=by
  show okv (.int ((nsD L).length:Int)) h=_
  rw [List.length_map]
 lt:=fun p hp=>hL _ (jQ hp)
abbrev rcS (nm:D) (o acc:List Nat) (x3:Option W):Sl:= [some (.v nm),some (.v (.tup (nsD o))),some (.own (nsD acc)),x3]
theorem xI {F:Fx}{nm:D}{o:List Nat}(ho:o.length<=4) (h:AH): ∀(l acc:List Nat) (x3:Option W),(∀ a∈l,a<=4)->acc.length+l.length*4<=1000-> ∃y3,
 forGo (bindT [3] true) (fun τ h=>execs F b_rounds_of_code_2 τ h) (nsD l) (rcS nm o acc x3) h= .next (rcS nm o (acc++l.flatMap fun a=>o.map fun b=>a*o.length+b) y3) h
 | [],acc,x3,_,_=>⟨x3,by simp⟩
 | a::l,acc,x3,ha,hl=>by
  rw [List.length_cons]at hl
  have a4:=ha a List.mem_cons_self
  have ln:biD .len [.v (.tup (nsD o))] h=okv (.int (o.length:Int)) h:=by
   show okv (.int ((nsD o).length:Int)) h=_
   rw [List.length_map]
  have ml:=Wb a o.length (by omega)
  have ec:eval F e_rounds_of_code_1 (rcS nm o acc (some (.v (.int (a:Int))))) h= .ok (.own (o.map fun b=>D.int ((a*o.length+b:Nat):Int))) h:=by
   rw [e_rounds_of_code_1]
   refine zl (fun b:Nat=>D.int (b:Int)) _ o (t_it rfl) (by omega) fun b hb=>⟨.v (.int ((a*o.length+b:Nat):Int)),?_,rfl⟩
   simp_all [ln,ml,int_add]
   rfl
  obtain⟨y3,e⟩:=xI (F:=F) (nm:=nm) ho h l (acc++o.map fun b=>a*o.length+b) (some (.v (.int (a:Int)))) (fun x hx=>ha x (List.mem_cons_of_mem _ hx)) (by rw [List.length_append,List.length_map];omega)
  refine⟨y3,?_⟩
  have hL:(nsD acc).length+(o.map fun b=>D.int ((a*o.length+b:Nat):Int)).length<LIM:=by rw [LIM_eq,List.length_map,List.length_map];omega
  have eb:execs F b_rounds_of_code_2 (rcS nm o acc (some (.v (.int (a:Int))))) h= .next (rcS nm o (acc++o.map fun b=>a*o.length+b) (some (.v (.int (a:Int))))) h:=by
   have en:nsD (acc++o.map fun b=>a*o.length+b)=nsD acc++o.map fun b=>D.int ((a*o.length+b:Nat):Int):=by
    rw [nsD,List.map_append,List.map_map];rfl
   unfold rcS at ec ⊢
   rw [en]
   simp_all [b_rounds_of_code_2,ec,hL,if_true]
  rw [show nsD (a::l)= .int (a:Int)::nsD l from rfl,Za (τ1:=rcS nm o acc (some (.v (.int (a:Int))))) rfl eb,e,List.flatMap_cons,List.append_assoc]
theorem qaJ (k n:Nat) (A B:List D) (o:List Nat) (h:AH) (hn:n<=4) (hA:A.length<=4) (hB:B.length<=4) (r:Rd n o):call prog (k+2) "rounds_of_code" [.v (nmD A B),.v (.tup (nsD o))] h= .ok (.v (.int ((A.length*roundsM o+B.length*roundsM (prM o):Nat):Int))) h:=by
 rw [call_of (d:=d_rounds_of_code) rfl _ _ _ rfl]
 have l1:=r.l1
 have nn:n*n<=4*4:=Nat.mul_le_mul hn hn
 obtain⟨y3,e⟩:=xI (F:=⟨call prog (k+1),prog.cl,prog.con⟩) (nm:=nmD A B) (o:=o) (by omega) h o [] none (fun a ha=>by have:=r.b1 a ha;omega) (by simp;omega)
 have c1:=xE k o (.v (.tup (nsD o))) h (xU o h (by rw [l1];exact r.b1)) (by omega)
 have c2:=xE k (prM o) (.bor (nsD (prM o))) h (QU (prM o) h (by rw [r.l2];exact r.b2)) (by rw [r.l2];omega)
 have la:biD .len [.v (.tup A)] h=okv (.int (A.length:Int)) h:=rfl
 have lb:biD .len [.v (.tup B)] h=okv (.int (B.length:Int)) h:=rfl
 have m1:=Wb A.length (roundsM o) (by omega)
 have m2:=Wb B.length (roundsM (prM o)) (by omega)
 have i0:ixD (.v (nmD A B)) (.v (.int 0)) h=some (.tup A):=rfl
 have i1:ixD (.v (nmD A B)) (.v (.int 1)) h=some (.tup B):=rfl
 simp only [d_rounds_of_code]
 rw [za (τ1:=rcS (nmD A B) o [] none) (h1:=h) (by simp_all [];rfl)]
 rw [za (by
  simp only [exec,evalLp,isVar,getS,Option.bind_some,lpV_tup,R.of_some,R.toO_ok]
  exact e)]
 rw [List.nil_append]
 show finO h.length (execs ⟨call prog (k+1),prog.cl,prog.con⟩ _ (rcS (nmD A B) o (prM o) y3) h)=_
 unfold rcS
 simp_all [i0,i1,la,lb,c1,c2,m1,m2,int_add]
 rfl
def twoM (K T:Nat) (o:List Nat):Nat:=2 ^ (K*roundsM o+T*roundsM (prM o))
def cntM (n K T:Nat):Nat:=((renJ n n).map (twoM K T)).sum
theorem zak (k n:Nat) (A B:List D) (h:AH) (hn:n<=4) (hA:A.length<=4) (hB:B.length<=4):call prog (k+6) "unlike_count" [.v (nmD A B),.v (.int (n:Int))] h= .ok (.v (.int ((cntM n A.length B.length / (renJ n n).length:Nat):Int))) h:=by
 rw [call_of (d:=d_unlike_count) rfl _ _ _ rfl]
 have Rn:=ren n hn
 have hf:(renJ n n).length<=24:=Rn.few n (Nat.le_refl _)
 have hp:0<(renJ n n).length:=by
  have: ∀n,n<5->0<(renJ n n).length:=by decide +kernel
  exact this n (by omega)
 have cr:=wz k n h hn
 have ec: ∀x3,eval ⟨call prog (k+5),prog.cl,prog.con⟩ e_unlike_count_1 [some (.v (nmD A B)),some (.v (.int (n:Int))),some (.v (.lst (rwD (renJ n n)))),x3] h= .ok (.own (nsD ((renJ n n).map (twoM A.length B.length)))) h:=by
  intro x3
  rw [e_unlike_count_1,show nsD ((renJ n n).map (twoM A.length B.length))=(renJ n n).map fun o=>D.int ((twoM A.length B.length o:Nat):Int)by rw [nsD,List.map_map];rfl]
  refine zl (fun r:List Nat=>D.tup (nsD r)) _ (renJ n n) (v_it rfl) (by omega) fun o ho=>⟨.v (.int ((twoM A.length B.length o:Nat):Int)),?_,rfl⟩
  have r:=jax hn ho
  have cc:=qaJ (k+3) n A B o h hn hA hB r
  have t1:A.length*roundsM o<=4*4:=Nat.mul_le_mul hA r.r1
  have t2:B.length*roundsM (prM o)<=4*16:=Nat.mul_le_mul hB r.r2
  have s:=shl1 (A.length*roundsM o+B.length*roundsM (prM o)) (by omega)
  simp_all [cc,s]
  rfl
 have su:=Zp ((renJ n n).map (twoM A.length B.length))
 have ln:biD .len [.v (.lst (rwD (renJ n n)))] h=okv (.int ((renJ n n).length:Int)) h:=by
  show okv (.int ((rwD (renJ n n)).length:Int)) h=_
  rw [List.length_map]
 have fd:=XC ((cntM n A.length B.length:Nat):Int) ((renJ n n).length:Int) (by omega) (by omega)
 have es:eval ⟨call prog (k+5),prog.cl,prog.con⟩ (.bi .sum (.cons e_unlike_count_1 .nil)) [some (.v (nmD A B)),some (.v (.int (n:Int))),some (.v (.lst (rwD (renJ n n)))),none] h= .ok (.v (.int ((cntM n A.length B.length:Nat):Int))) h:=by
  have hL:(nsD ((renJ n n).map (twoM A.length B.length))).length<=LIM:=by rw [LIM_eq,List.length_map,List.length_map];omega
  simp_all [ec none,sum_own,hL,if_true,su]
  rfl
 simp only [d_unlike_count]
 rw [za (τ1:= [some (.v (nmD A B)),some (.v (.int (n:Int))),some (.v (.lst (rwD (renJ n n)))),none]) (h1:=h) (by simp_all [cr])]
 rw [za (zq es rfl)]
 simp_all [ln,fd]
 rfl
end M
namespace M
theorem jw (rows:List (List Nat)):noRefs (rwD rows)=true:=qh _ (fun r=>by simpa using wC r) rows
theorem xQ (rows:List (List Nat)):deps (rwD rows)<=1:=qp _ 1 (fun r=>by
 have:=qay r
 simp only [dep];omega) rows
theorem JP (r:List Nat): ∀rows:List (List Nat),inD (.tup (nsD r)) (rwD rows)=decide (r∈rows)
 | []=>by simp [inD]
 | x::rows=>by
  have ih:=JP r rows
  unfold inD at ih ⊢
  show(eqDs (nsD x) (nsD r)||(rwD rows).any fun y=>eqD y (.tup (nsD r)))=_
  rw [ih,zab,Bool.eq_iff_iff,Bool.or_eq_true,decide_eq_true_eq,decide_eq_true_eq,decide_eq_true_eq,List.mem_cons]
  exact or_congr eq_comm Iff.rfl
theorem wZ (r:List Nat) (rows:List (List Nat)) (h:AH):cmpD .mem (.v (.tup (nsD r))) (.bor (rwD rows)) h=some (decide (r∈rows)):=by
 have e1:memG (.v (.tup (nsD r))) (.bor (rwD rows)) h=some (decide (r∈rows)):=by
  unfold memG
  have a1:(W.v (D.tup (nsD r))).dd h= .tup (nsD r):=qS (wC r)
  have a2:(W.bor (rwD rows)).dd h= .lst (rwD rows):=congrArg D.lst (ress_id (jw rows))
  rw [a2,a1]
  have dp:=xQ rows
  show(if noRef (.tup (nsD r))&&noRefs (rwD rows)&&decide (deps (rwD rows)<140)then some (inD (.tup (nsD r)) (rwD rows))else none)=_
  rw [show noRef (.tup (nsD r))=true from wC r,jw,decide_eq_true (by omega),JP];rfl
 exact e1
theorem zar (l:List (List Nat)) (h:AH):cmpD .ne (.bor (rwD l)) (.own []) h=some (!l.isEmpty):=by
 have e1:(W.bor (rwD l)).dd h= .lst (rwD l):=congrArg D.lst (ress_id (jw l))
 have e2:(W.own []).dd h= .lst []:=rfl
 have nr:noRef (.lst (rwD l))=true:=jw l
 have dp:dep (.lst (rwD l))<150:=by
  have:=xQ l
  show deps (rwD l)+1<150
  omega
 rw [cmp_ne,e1,e2,if_pos (by unfold eqOk;rw [nr,decide_eq_true dp];rfl)]
 cases l<;>rfl
theorem ZC (r:List Nat): ∀rows:List (List Nat),r∈rows->remD (.tup (nsD r)) (rwD rows)=some (rwD (rows.erase r))
 | [],h=>nomatch h
 | x::rows,h=>by
  show(if eqDs (nsD x) (nsD r)then some (rwD rows)else(remD (.tup (nsD r)) (rwD rows)).map (.tup (nsD x):: ·))=_
  rw [zab]
  by_cases q:x=r
  ·rw [if_pos (decide_eq_true q),q,List.erase_cons_head]
  ·have hr:r∈rows:=by
    rcases List.mem_cons.mp h with z | z
    ·exact absurd z.symm q
    ·exact z
   rw [if_neg (by simpa using q),ZC r rows hr,List.erase_cons_tail (by simpa using q)]
   rfl
def innM (o:List Nat):Nat->List Nat->List (List Nat)->List (List Nat)
 | 0,_,l=>l
 | m+1,x,l=>if x∈l then innM o m (x.map (pm o)) (l.erase x)else l
def outM (o:List Nat):Nat->List (List Nat)->Nat->Nat
 | 0,_,c=>c
 | m+1,l,c=>match l with
  | []=>c
  | x::r=>outM o m (innM o (r.length+1) x (x::r)) (c+1)
def Sm (n:Nat) (x:List Nat):Prop:=x.length<=2/\ ∀a∈x,a<n
theorem XI (o:List Nat): ∀(m:Nat) (x:List Nat) (l:List (List Nat)),(innM o m x l).length<=l.length/\ ∀y∈innM o m x l,y∈l
 | 0,_,_=>⟨Nat.le_refl _,fun _ z=>z⟩
 | m+1,x,l=>by
  rw [innM]
  split
  ·rename_i q
   obtain⟨a,b⟩:=XI o m (x.map (pm o)) (l.erase x)
   exact⟨Nat.le_trans a (List.length_erase_le ..),fun y hy=>List.mem_of_mem_erase (b y hy)⟩
  ·exact⟨Nat.le_refl _,fun _ z=>z⟩
theorem zaF (o x:List Nat) (r:List (List Nat)):(innM o (r.length+1) x (x::r)).length<=r.length:=by
 rw [innM,if_pos List.mem_cons_self,List.erase_cons_head]
 exact(XI o _ _ _).1
abbrev lrS (bs o:List D) (c:Nat) (l:List (List Nat)) (x4:Option W):Sl:= [some (.v (.lst bs)),some (.v (.tup o)),some (.v (.int (c:Int))),some (.own (rwD l)),x4]
theorem X8 {F:Fx}{n:Nat}{o:List Nat}(q:Od n o) (bs:List D) (c:Nat) (h:AH): ∀(m f:Nat) (x:List Nat) (l:List (List Nat)),l.length<=m->m<f->Sm n x->(∀ y∈l,Sm n y)-> ∃y4,
 whlGo (fun τ h=>tstE F e_law_rounds_2 τ h) (fun τ h=>execs F b_law_rounds_4 τ h) f (lrS bs (nsD o) c l (some (.v (.tup (nsD x))))) h= .next (lrS bs (nsD o) c (innM o m x l) y4) h
 | m,0,_,_,_,hf,_,_=>absurd hf (Nat.not_lt_zero _)
 | m,f+1,x,l,hl,hf,hx,hs=>by
  have em:=wZ x l h
  have et:tstE F e_law_rounds_2 (lrS bs (nsD o) c l (some (.v (.tup (nsD x))))) h= .ok (decide (x∈l)) h:=by
   unfold e_law_rounds_2
   simp_all [em]
  rw [whlGo,et,R.toO_ok]
  by_cases p:x∈l
  ·have lp:=List.length_pos_of_mem p
   have le:=List.length_erase_of_mem p
   cases m with
   | zero=>omega
   | succ m=>
    obtain⟨y4,e⟩:=X8 (F:=F) q bs c h m f (x.map (pm o)) (l.erase x) (by omega) (by omega) ⟨by rw [List.length_map];exact hx.1,fun a ha=>by
     obtain⟨b,hb,rfl⟩:=List.mem_map.mp ha
     exact q.lt (hx.2 b hb)⟩ (fun y hy=>hs y (List.mem_of_mem_erase hy))
    refine⟨y4,?_⟩
    have rm:=ZC x l p
    have dp:=xQ l
    have cd:(noRef (.tup (nsD x))&&noRefs (rwD l)&&decide (deps (rwD l)<140))=true:=by
     rw [show noRef (.tup (nsD x))=true from wC x,jw,decide_eq_true (by omega)];rfl
    have ec:eval F e_law_rounds_3 (lrS bs (nsD o) c (l.erase x) (some (.v (.tup (nsD x))))) h= .ok (.own (nsD (x.map (pm o)))) h:=by
     rw [e_law_rounds_3,show nsD (x.map (pm o))=x.map fun b=>D.int ((pm o b:Nat):Int)by rw [nsD,List.map_map];rfl]
     refine zl (fun b:Nat=>D.int (b:Int)) _ x (t_it rfl) (by have:=hx.1;omega) fun b hb=>⟨.v (.int ((pm o b:Nat):Int)),?_,rfl⟩
     have ix:ixD (.v (.tup (nsD o))) (.v (.int (b:Int))) h=some (.int ((pm o b:Nat):Int)):=xY q (hx.2 b hb)
     simp_all [ix]
    have eb:execs F b_law_rounds_4 (lrS bs (nsD o) c l (some (.v (.tup (nsD x))))) h= .next (lrS bs (nsD o) c (l.erase x) (some (.v (.tup (nsD (x.map (pm o))))))) h:=by
     unfold b_law_rounds_4
     rw [za (τ1:=lrS bs (nsD o) c (l.erase x) (some (.v (.tup (nsD x))))) (h1:=h) (by simp_all [cd,rm,if_true])]
     simp_all [ec,tuple_own]
    rw [innM,if_pos p]
    simp only [decide_eq_true p,eb]
    exact e
  ·refine⟨some (.v (.tup (nsD x))),?_⟩
   simp only [decide_eq_false p]
   cases m with
   | zero=>rfl
   | succ m=>rw [innM,if_neg p]
theorem X7 {F:Fx}{n:Nat}{o:List Nat}(q:Od n o) (bs:List D) (h:AH): ∀(m f:Nat) (l:List (List Nat)) (c:Nat) (x4:Option W),l.length<=m->m<f->l.length<=1000->(∀ y∈l,Sm n y)-> ∃l' y4,
 whlGo (fun τ h=>tstE F e_law_rounds_1 τ h) (fun τ h=>execs F b_law_rounds_5 τ h) f (lrS bs (nsD o) c l x4) h= .next (lrS bs (nsD o) (outM o m l c) l' y4) h
 | m,0,_,_,_,_,hf,_,_=>absurd hf (Nat.not_lt_zero _)
 | m,f+1,l,c,x4,hl,hf,hb,hs=>by
  have en:=zar l h
  have et:tstE F e_law_rounds_1 (lrS bs (nsD o) c l x4) h= .ok (!l.isEmpty) h:=by
   unfold e_law_rounds_1
   simp_all [en]
  rw [whlGo,et,R.toO_ok]
  cases l with
  | nil=>
   refine⟨[],x4,?_⟩
   cases m with
   | zero=>rfl
   | succ m=>rfl
  | cons x r=>
   rw [List.length_cons]at hl hb
   cases m with
   | zero=>omega
   | succ m=>
    have il:=zaF o x r
    have is:=(XI o (r.length+1) x (x::r)).2
    obtain⟨y4,e1⟩:=X8 (F:=F) q bs (c+1) h (r.length+1) 100000 x (x::r) (Nat.le_refl _) (by omega) (hs x List.mem_cons_self) hs
    obtain⟨l',y5,e2⟩:=X7 (F:=F) q bs h m f (innM o (r.length+1) x (x::r)) (c+1) y4 (by omega) (by omega) (by omega) (fun y hy=>hs y (is y hy))
    refine⟨l',y5,?_⟩
    have ix:ixD (.bor (D.tup (nsD x)::List.map (fun r=>D.tup (nsD r)) r)) (.v (.int 0)) h=some (.tup (nsD x)):=xaa _ _
    have eb:execs F b_law_rounds_5 (lrS bs (nsD o) c (x::r) x4) h= .next (lrS bs (nsD o) (c+1) (innM o (r.length+1) x (x::r)) y4) h:=by
     unfold b_law_rounds_5
     rw [za (τ1:=lrS bs (nsD o) (c+1) (x::r) x4) (h1:=h) (by simp_all [int_add];rfl)]
     rw [za (τ1:=lrS bs (nsD o) (c+1) (x::r) (some (.v (.tup (nsD x))))) (h1:=h) (by
      unfold lrS
      rw [show rwD (x::r)=D.tup (nsD x)::List.map (fun r=>D.tup (nsD r)) r from rfl]
      simp_all [ix])]
     rw [Wh,exec]
     exact e1
    simp only [List.isEmpty_cons,Bool.not_false,eb]
    rw [outM]
    exact e2
theorem zw (k n:Nat) (o:List Nat) (q:Od n o) (l:List (List Nat)) (hl:l.length<=1000) (hs: ∀y∈l,Sm n y) (h:AH):call prog (k+1) "_law_rounds" [.v (.lst (rwD l)),.v (.tup (nsD o))] h= .ok (.v (.int (outM o l.length l 0:Int))) h:=by
 rw [call_of (d:=d_law_rounds) rfl _ _ _ rfl]
 obtain⟨l',y4,e⟩:=X7 (F:=⟨call prog k,prog.cl,prog.con⟩) q (rwD l) h l.length 100000 l 0 none (Nat.le_refl _) (by omega) hl hs
 have li:biD .list [.v (.lst (rwD l))] h= .ok (.own (rwD l)) h:=rfl
 simp only [d_law_rounds]
 rw [za (τ1:= [some (.v (.lst (rwD l))),some (.v (.tup (nsD o))),some (.v (.int 0)),none,none]) (h1:=h) (by simp_all [])]
 rw [za (τ1:=lrS (rwD l) (nsD o) 0 l none) (h1:=h) (by simp_all [li];rfl)]
 rw [za (by rw [exec];exact e)]
 simp_all []
end M
namespace M
def onesM (n:Nat):List (List Nat):=(List.range n).map fun a=> [a]
def prsM (n:Nat):List (List Nat):=(List.range (n*n)).map fun i=> [i / n,i % n]
def rdL:Nat->List (Nat×Nat)
 | 0=> [(0,0)]
 | 1=> [(1,1)]
 | 2=> [(2,4),(1,2)]
 | 3=> [(3,9),(2,5),(2,5),(1,3),(1,3),(2,5)]
 | _=> [(4,16),(3,10),(3,10),(2,6),(2,6),(3,10),(3,10),(2,8),(2,6),(1,4),(1,4),(2,6),(2,6),(1,4),(3,10),(2,6),(2,8),(1,4),(1,4),(2,6),(2,6),(3,10),(1,4),(2,8)]
theorem jak: ∀n,n<5->(renJ n n).map (fun o=>(roundsM o,roundsM (prM o)))=rdL n:=by decide +kernel
theorem xav: ∀n,n<5->((renJ n n).all fun o=>decide (outM o (onesM n).length (onesM n) 0=roundsM o)&&decide (outM o (prsM n).length (prsM n) 0=roundsM (prM o)))=true:=by decide +kernel
def cntL (n K T:Nat):Nat:=((rdL n).map fun p=>2 ^ (K*p.1+T*p.2)).sum
theorem W7 {n:Nat}(hn:n<=4) (K T:Nat):cntM n K T=cntL n K T:=by
 unfold cntL cntM
 rw [← jak n (by omega),List.map_map]
 rfl
theorem XL: ∀n,n<5-> ∀K,K<5-> ∀T,T<5->cntL n K T % (rdL n).length=0:=by decide +kernel
theorem jad (n:Nat): ∀y∈onesM n,Sm n y:=fun y hy=>by
 obtain⟨a,ha,rfl⟩:=List.mem_map.mp hy
 exact⟨by simp,fun b hb=>by rw [List.mem_singleton.mp hb];exact List.mem_range.mp ha⟩
theorem xar (n:Nat): ∀y∈prsM n,Sm n y:=fun y hy=>by
 obtain⟨a,ha,rfl⟩:=List.mem_map.mp hy
 have ha:=List.mem_range.mp ha
 have n0:0<n:=by
  rcases Nat.eq_zero_or_pos n with z | z
  ·rw [z]at ha;exact absurd ha (Nat.not_lt_zero _)
  ·exact z
 refine⟨by simp,fun b hb=> ?_⟩
 rcases List.mem_cons.mp hb with rfl | hb
 ·exact Nat.div_lt_of_lt_mul ha
 ·rw [List.mem_singleton.mp hb];exact Nat.mod_lt _ n0
abbrev duS (K T n:Nat) (c:Nat) (x7 x8:Option W):Sl:= [some (.v (.int (K:Int))),some (.v (.int (T:Int))),some (.v (.int (n:Int))),some (.v (.lst (rwD (onesM n)))),some (.v (.lst (rwD (prsM n)))),some (.v (.lst (rwD (renJ n n)))),some (.v (.int (c:Int))),x7,x8]
theorem j7 {k K T n:Nat}(hn:n<=4) (hK:K<=4) (hT:T<=4) (h:AH): ∀(l:List (List Nat)) (c:Nat) (x7 x8:Option W),(∀ o∈l,o∈renJ n n)-> ∃y7 y8,
 forGo (bindT [7] true) (fun τ h=>execs ⟨call prog (k+1),prog.cl,prog.con⟩ b_law_due_1 τ h) (rwD l) (duS K T n c x7 x8) h= .next (duS K T n (c+(l.map (twoM K T)).sum) y7 y8) h
 | [],c,x7,x8,_=>⟨x7,x8,rfl⟩
 | o::l,c,x7,x8,hl=>by
  have ho:=hl o List.mem_cons_self
  have nn:n*n<=4*4:=Nat.mul_le_mul hn hn
  have q:=(jM hn o).mp ho
  have r:=jax hn ho
  have oe:=List.all_eq_true.mp (xav n (by omega)) o ho
  rw [Bool.and_eq_true,decide_eq_true_eq,decide_eq_true_eq]at oe
  have c1:=zw k n o q (onesM n) (by unfold onesM;rw [List.length_map,List.length_range];omega) (jad n) h
  have c2:=zw k n o q (prsM n) (by unfold prsM;rw [List.length_map,List.length_range];omega) (xar n) h
  rw [oe.1]at c1
  rw [oe.2]at c2
  have r1:=r.r1
  have r2:=r.r2
  have m1:=Wb K (roundsM o) (by omega)
  have m2:=Wb T (roundsM (prM o)) (by omega)
  have t1:K*roundsM o<=4*4:=Nat.mul_le_mul hK r1
  have t2:T*roundsM (prM o)<=4*16:=Nat.mul_le_mul hT r2
  have s:=shl1 (K*roundsM o+T*roundsM (prM o)) (by omega)
  obtain⟨y7,y8,e⟩:=j7 (k:=k) hn hK hT h l (c+twoM K T o) (some (.v (.tup (nsD o)))) (some (.v (.int ((K*roundsM o+T*roundsM (prM o):Nat):Int)))) (fun x hx=>hl x (List.mem_cons_of_mem _ hx))
  refine⟨y7,y8,?_⟩
  have eb:execs ⟨call prog (k+1),prog.cl,prog.con⟩ b_law_due_1 (duS K T n c (some (.v (.tup (nsD o)))) x8) h= .next (duS K T n (c+twoM K T o) (some (.v (.tup (nsD o)))) (some (.v (.int ((K*roundsM o+T*roundsM (prM o):Nat):Int))))) h:=by
   unfold b_law_due_1
   rw [za (τ1:=duS K T n c (some (.v (.tup (nsD o)))) (some (.v (.int ((K*roundsM o:Nat):Int))))) (h1:=h) (by simp_all [c1,m1])]
   rw [za (τ1:=duS K T n c (some (.v (.tup (nsD o)))) (some (.v (.int ((K*roundsM o+T*roundsM (prM o):Nat):Int))))) (h1:=h) (by simp_all [c2,m2,int_add];rfl)]
   simp_all [s,int_add]
   rfl
  rw [show rwD (o::l)= .tup (nsD o)::rwD l from rfl,Za (τ1:=duS K T n c (some (.v (.tup (nsD o)))) x8) rfl eb,e,List.map_cons,List.sum_cons,Nat.add_assoc]
theorem jaP (k K T n:Nat) (hn:n<=4) (hK:K<=4) (hT:T<=4) (h:AH):call prog (k+2) "_law_due" [.v (.int (K:Int)),.v (.int (T:Int)),.v (.int (n:Int))] h= .ok (.v (.tup [.int ((cntM n K T / (renJ n n).length:Nat):Int),.int 0])) h:=by
 rw [call_of (d:=d_law_due) rfl _ _ _ rfl]
 have nn:n*n<=4*4:=Nat.mul_le_mul hn hn
 have mn:=Wb n n (by omega)
 have hf:(renJ n n).length<=24:=(ren n hn).few n (Nat.le_refl _)
 have le:(rdL n).length=(renJ n n).length:=by rw [← jak n (by omega),List.length_map]
 have hp:0<(renJ n n).length:=by
  have: ∀n,n<5->0<(renJ n n).length:=by decide +kernel
  exact this n (by omega)
 have wh:=XL n (by omega) K (by omega) T (by omega)
 rw [← W7 hn,le]at wh
 have e3:eval ⟨call prog (k+1),prog.cl,prog.con⟩ e_law_due_3 [some (.v (.int (K:Int))),some (.v (.int (T:Int))),some (.v (.int (n:Int))),none,none,none,none,none,none] h= .ok (.own (rwD (onesM n))) h:=by
  rw [e_law_due_3,show rwD (onesM n)=(List.range n).map fun(a:Nat)=>D.tup [.int (a:Int)]by rw [rwD,onesM,List.map_map];rfl]
  exact xC _ rfl (by omega) fun i hi=>⟨.v (.tup [.int (i:Int)]),by simp_all [],rfl⟩
 have e2:eval ⟨call prog (k+1),prog.cl,prog.con⟩ e_law_due_2 [some (.v (.int (K:Int))),some (.v (.int (T:Int))),some (.v (.int (n:Int))),some (.v (.lst (rwD (onesM n)))),none,none,none,none,none] h= .ok (.own (rwD (prsM n))) h:=by
  rw [e_law_due_2,show rwD (prsM n)=(List.range (n*n)).map fun i=>D.tup [.int ((i / n:Nat):Int),.int ((i % n:Nat):Int)]by rw [rwD,prsM,List.map_map];rfl]
  refine xC _ (by simp_all [mn]) (by omega) fun i hi=>⟨.v (.tup [.int ((i / n:Nat):Int),.int ((i % n:Nat):Int)]),?_,rfl⟩
  have n0:0<n:=by
   rcases Nat.eq_zero_or_pos n with z | z
   ·rw [z]at hi;exact absurd hi (Nat.not_lt_zero _)
   ·exact z
  have dk:(0:Int)<(n:Int)/\(n:Int)<B30:=by rw [B30_eq];omega
  simp_all [divmod_ints,dk,and_self,if_true]
  rfl
 have co:=jE k n h hn
 obtain⟨y7,y8,e⟩:=j7 (k:=k) hn hK hT h (renJ n n) 0 none none (fun _ z=>z)
 simp only [d_law_due]
 rw [za (τ1:= [some (.v (.int (K:Int))),some (.v (.int (T:Int))),some (.v (.int (n:Int))),some (.v (.lst (rwD (onesM n)))),none,none,none,none,none]) (h1:=h) (by exact zq e3 rfl)]
 rw [za (τ1:= [some (.v (.int (K:Int))),some (.v (.int (T:Int))),some (.v (.int (n:Int))),some (.v (.lst (rwD (onesM n)))),some (.v (.lst (rwD (prsM n)))),none,none,none,none]) (h1:=h) (by exact zq e2 rfl)]
 rw [za (τ1:= [some (.v (.int (K:Int))),some (.v (.int (T:Int))),some (.v (.int (n:Int))),some (.v (.lst (rwD (onesM n)))),some (.v (.lst (rwD (prsM n)))),some (.v (.lst (rwD (renJ n n)))),none,none,none]) (h1:=h) (by simp_all [co])]
 rw [za (τ1:=duS K T n 0 none none) (h1:=h) (by simp_all [];rfl)]
 rw [za (by
  simp only [exec,evalLp,isVar,getS,Option.bind_some,lpV_lst,R.of_some,R.toO_ok]
  exact e)]
 have ln:biD .len [.v (.lst (rwD (renJ n n)))] h=okv (.int ((renJ n n).length:Int)) h:=by
  show okv (.int ((rwD (renJ n n)).length:Int)) h=_
  rw [List.length_map]
 have dk:(0:Int)<((renJ n n).length:Int)/\((renJ n n).length:Int)<B30:=by rw [B30_eq];omega
 rw [Nat.zero_add]
 show finO h.length (execs ⟨call prog (k+1),prog.cl,prog.con⟩ _ (duS K T n (cntM n K T) y7 y8) h)=_
 have md:((cntM n K T:Nat):Int) % ((renJ n n).length:Int)=0:=by
  rw [← Int.natCast_emod,wh];rfl
 simp_all [ln,divmod_ints,dk,and_self,if_true,md]
 rfl
end M
namespace M
def fW (n:Nat) (ks ts:List Nat) (o:List Nat):WK:=((n:Int),intsOf (ks.map (kM n o)),intsOf (ts.map (tK n o)))
def fI (n:Nat) (ks ts:List Nat):WK:=((n:Int),intsOf ks,intsOf ts)
def made (f:List Nat->WK):List (List Nat)->List WK->List WK
 | [],acc=>acc
 | o::os,acc=>made f os (putW acc (f o))
theorem J3 (n:Nat) (ks ts:List Nat):wkD (wldD n ks ts)=some ((n:Int),intsOf ks,intsOf ts):=by
 show(match intsD (nsD ks),intsD (nsD ts)with
  | some a,some b=>some ((n:Int),a,b)
  | _,_=>none)=_
 rw [Qx,Qx];rfl
def dgM (B:Nat):Nat->Nat->List Nat
 | 0,_=> []
 | m+1,y=>y % B::dgM B m (y / B)
def rsM (B:Nat):Nat->Nat->Nat
 | 0,y=>y
 | m+1,y=>rsM B m (y / B)
theorem zN (B:Nat): ∀m y,(dgM B m y).length=m
 | 0,_=>rfl
 | m+1,y=>by rw [dgM,List.length_cons,zN B m]
def ksM (n K T x:Nat):List Nat:=dgM (2 ^ n) K (x % 2 ^ (K*n+T*n*n))
def tsM (n K T x:Nat):List Nat:=dgM (2 ^ (n*n)) T (rsM (2 ^ n) K (x % 2 ^ (K*n+T*n*n)))
theorem jA {F:Fx}(B:Nat) (mk:Nat->List D->Option W->Option W->Sl) (body:Ss) (h:AH)
 (hs: ∀(y:Nat) (acc:List Nat) (a b:Option W) (i:Nat),acc.length<1000-> ∃τ1,bindT [7] true (.int (i:Int)) (mk y (nsD acc) a b)=some τ1/\execs F body τ1 h= .next (mk (y / B) (nsD (acc++ [y % B])) (some (.v (.int (i:Int)))) (some (.v (.int ((y % B:Nat):Int))))) h):
 ∀(m i y:Nat) (acc:List Nat) (a b:Option W),acc.length+m<=1000-> ∃a' b',
 forGo (bindT [7] true) (fun τ h=>execs F body τ h) ((List.range m).map fun(j:Nat)=>D.int ((i+j:Nat):Int)) (mk y (nsD acc) a b) h= .next (mk (rsM B m y) (nsD (acc++dgM B m y)) a' b') h
 | 0,i,y,acc,a,b,_=>⟨a,b,by rw [dgM,List.append_nil];rfl⟩
 | m+1,i,y,acc,a,b,hl=>by
  obtain⟨τ1,e1,e2⟩:=hs y acc a b i (by omega)
  obtain⟨a',b',e⟩:=jA B mk body h hs m (i+1) (y / B) (acc++ [y % B]) (some (.v (.int (i:Int)))) (some (.v (.int ((y % B:Nat):Int)))) (by simp;omega)
  refine⟨a',b',?_⟩
  rw [Zf,Za e1 e2,e,List.append_assoc]
  rfl
theorem JX (k n K T x:Nat) (h:AH) (hn:n<=4) (hK:K<=4) (hT:T<=4):call prog (k+1) "_law_world" [.v (.int (n:Int)),.v (.int (K:Int)),.v (.int (T:Int)),.v (.int (x:Int))] h= .ok (.v (wldD n (ksM n K T x) (tsM n K T x))) h:=by
 have hn2:=qC (n:=n) (by omega)
 have b1:2 ^ n<=2 ^ 4:=Nat.pow_le_pow_right (by decide) hn
 have b2:2 ^ (n*n)<=2 ^ 16:=Nat.pow_le_pow_right (by decide) (Nat.mul_le_mul hn hn)
 have p1:0<2 ^ n:=Nat.pow_pos (by decide)
 have p2:0<2 ^ (n*n):=Nat.pow_pos (by decide)
 have s1:=shl1 n (by omega)
 have s2:=shl1 (n*n) (by omega)
 have m1:intOp .mul (n:Int) (n:Int)=some ((n*n:Nat):Int):=Wb n n (by omega)
 have m2:intOp .mul (K:Int) (n:Int)=some ((K*n:Nat):Int):=Wb K n (by omega)
 have m3:intOp .mul (T:Int) (n:Int)=some ((T*n:Nat):Int):=Wb T n (by omega)
 have t1:K*n<=4*4:=Nat.mul_le_mul hK hn
 have t2:T*n<=4*4:=Nat.mul_le_mul hT hn
 have t3:T*n*n<=4*4*4:=Nat.mul_le_mul t2 hn
 have m4:intOp .mul ((T*n:Nat):Int) (n:Int)=some ((T*n*n:Nat):Int):=Wb (T*n) n (by omega)
 have s3:=shl1 (K*n+T*n*n) (by omega)
 have p3:0<2 ^ (K*n+T*n*n):=Nat.pow_pos (by decide)
 have c3:((K*n:Nat):Int)+((T*n*n:Nat):Int)=((K*n+T*n*n:Nat):Int):=rfl
 have md:=zG (x:Int) ((2 ^ (K*n+T*n*n):Nat):Int) (by omega)
 generalize hy:x % 2 ^ (K*n+T*n*n)=y
 have md:intOp .mod (x:Int) ((2 ^ (K*n+T*n*n):Nat):Int)=some (y:Int):=by rw [md,←Int.natCast_emod,hy]
 have dk:(0:Int)<((2 ^ n:Nat):Int)/\((2 ^ n:Nat):Int)<B30:=by rw [B30_eq];omega
 have dt:(0:Int)<((2 ^ (n*n):Nat):Int)/\((2 ^ (n*n):Nat):Int)<B30:=by rw [B30_eq];omega
 obtain⟨a1,b1',e1⟩:=jA (F:=⟨call prog k,prog.cl,prog.con⟩) (2 ^ n) (fun y l a b=> [some (.v (.int (n:Int))),some (.v (.int (K:Int))),some (.v (.int (T:Int))),some (.v (.int (x:Int))),some (.v (.int (y:Int))),some (.own l),some (.own []),a,b]) b_law_world_2 h (fun y acc a b i hl=>⟨_,rfl,by
  have hL:(nsD acc).length<LIM:=by rw [LIM_eq,List.length_map];omega
  have en:nsD (acc++ [y % 2 ^ n])=nsD acc++ [.int ((y % 2 ^ n:Nat):Int)]:=by rw [nsD,List.map_append];rfl
  have q1:(y:Int) / ((2 ^ n:Nat):Int)=((y / 2 ^ n:Nat):Int):=rfl
  have q2:(y:Int) % ((2 ^ n:Nat):Int)=((y % 2 ^ n:Nat):Int):=rfl
  rw [en]
  simp_all [b_law_world_2,s1,divmod_ints,dk,and_self,if_true,hL,q1,q2]⟩) K 0 y [] none none (by simp;omega)
 obtain⟨a2,b2',e2⟩:=jA (F:=⟨call prog k,prog.cl,prog.con⟩) (2 ^ (n*n)) (fun z l a b=> [some (.v (.int (n:Int))),some (.v (.int (K:Int))),some (.v (.int (T:Int))),some (.v (.int (x:Int))),some (.v (.int (z:Int))),some (.own (nsD (dgM (2 ^ n) K y))),some (.own l),a,b]) b_law_world_1 h (fun y acc a b i hl=>⟨_,rfl,by
  have hL:(nsD acc).length<LIM:=by rw [LIM_eq,List.length_map];omega
  have en:nsD (acc++ [y % 2 ^ (n*n)])=nsD acc++ [.int ((y % 2 ^ (n*n):Nat):Int)]:=by rw [nsD,List.map_append];rfl
  have q1:(y:Int) / ((2 ^ (n*n):Nat):Int)=((y / 2 ^ (n*n):Nat):Int):=rfl
  have q2:(y:Int) % ((2 ^ (n*n):Nat):Int)=((y % 2 ^ (n*n):Nat):Int):=rfl
  rw [en]
  simp_all [b_law_world_1,m1,s2,divmod_ints,dt,and_self,if_true,hL,q1,q2]⟩) T 0 (rsM (2 ^ n) K y) [] a1 b1' (by simp;omega)
 rw [call_of (d:=d_law_world) rfl _ _ _ rfl]
 simp only [d_law_world]
 simp only [Nat.zero_add,List.nil_append]at e1 e2
 rw [za (τ1:= [some (.v (.int (n:Int))),some (.v (.int (K:Int))),some (.v (.int (T:Int))),some (.v (.int (x:Int))),some (.v (.int (y:Int))),none,none,none,none]) (h1:=h) (by simp_all [m2,m3,m4,int_add,c3,s3,md])]
 rw [za (τ1:= [some (.v (.int (n:Int))),some (.v (.int (K:Int))),some (.v (.int (T:Int))),some (.v (.int (x:Int))),some (.v (.int (y:Int))),some (.own []),none,none,none]) (h1:=h) (by simp_all [])]
 rw [za (τ1:= [some (.v (.int (n:Int))),some (.v (.int (K:Int))),some (.v (.int (T:Int))),some (.v (.int (x:Int))),some (.v (.int (y:Int))),some (.own []),some (.own []),none,none]) (h1:=h) (by simp_all [])]
 have it: ∀(i:Nat) (m:Nat) (τ:Sl),m<=4->readS τ i=some (.v (.int (m:Int)))->evalLp ⟨call prog k,prog.cl,prog.con⟩ (.range1 (.var i)) τ h= .ok ((List.range m).map fun(i:Nat)=> .int (i:Int)) h:=fun i m τ hm e=>Zc (m:=m) (by rw [eval,e]) (by omega)
 rw [za (by
  rw [exec,it 1 K _ hK rfl,R.toO_ok]
  exact e1)]
 rw [za (by
  rw [exec,it 2 T _ hT rfl,R.toO_ok]
  exact e2)]
 unfold ksM tsM
 rw [hy]
 simp_all [tuple_bor]
abbrev liS (K T n b c:Nat) (x7 x8 x9:Option W):Sl:= [some (.v (.int (K:Int))),some (.v (.int (T:Int))),some (.v (.int (n:Int))),some (.v (.int (b:Int))),some (.v (.lst (rwD (renJ n n)))),some (.v (.ref 0)),some (.v (.int (c:Int))),x7,x8,x9]
theorem W6 (acc:List WK) (k:WK):(putW acc k).length<=acc.length+1:=by
 unfold putW
 split
 ·omega
 ·rw [List.length_append];exact Nat.le_refl _
theorem xO (f:List Nat->WK): ∀(os:List (List Nat)) (acc:List WK),(made f os acc).length<=acc.length+os.length
 | [],acc=>Nat.le_refl _
 | o::os,acc=>by
  have h1:=xO f os (putW acc (f o))
  have h2:=W6 acc (f o)
  rw [made,List.length_cons]
  omega
theorem qaA {k K T n b c:Nat}(hn:n<=4){ks ts:List Nat}(hk:ks.length<=4) (ht:ts.length<=4) (x7:Option W): ∀(l:List (List Nat)) (acc:List WK) (x9:Option W),(∀ o∈l,Od n o)->acc.length+l.length<=10000-> ∃y9,
 forGo (bindT [9] true) (fun τ h=>execs ⟨call prog (k+2),prog.cl,prog.con⟩ b_law_least_ones_1 τ h) (rwD l) (liS K T n b c x7 (some (.v (wldD n ks ts))) x9) [.dic acc]= .next (liS K T n b c x7 (some (.v (wldD n ks ts))) y9) [.dic (made (fW n ks ts) l acc)]
 | [],acc,x9,_,_=>⟨x9,rfl⟩
 | o::l,acc,x9,hl,hc=>by
  rw [List.length_cons]at hc
  have cl:=xaP (k:=k) (n:=n) (hl o List.mem_cons_self) hn ks ts (by omega) (by omega) [.dic acc]
  have wk:=J3 n (ks.map (kM n o)) (ts.map (tK n o))
  have dc:dicD [.dic acc] (some (.v (.ref 0)))=some (0,acc):=rfl
  have hL:acc.length<LIM:=by rw [LIM_eq];omega
  have eb:execs ⟨call prog (k+2),prog.cl,prog.con⟩ b_law_least_ones_1 (liS K T n b c x7 (some (.v (wldD n ks ts))) (some (.v (.tup (nsD o))))) [.dic acc]= .next (liS K T n b c x7 (some (.v (wldD n ks ts))) (some (.v (.tup (nsD o))))) [.dic (putW acc (fW n ks ts o))]:=by
   simp only [b_law_least_ones_1]
   simp_all [dc,cl,wk,hL,if_true]
   rfl
  have pl:=W6 acc (fW n ks ts o)
  obtain⟨y9,e⟩:=qaA (k:=k) (K:=K) (T:=T) (b:=b) (c:=c) hn hk ht x7 l (putW acc (fW n ks ts o)) (some (.v (.tup (nsD o)))) (fun q hq=>hl q (List.mem_cons_of_mem _ hq)) (by omega)
  exact⟨y9,by rw [show rwD (o::l)= .tup (nsD o)::rwD l from rfl,Za (τ1:=liS K T n b c x7 (some (.v (wldD n ks ts))) (some (.v (.tup (nsD o))))) rfl eb];exact e⟩
def leastM (n K T:Nat):List Nat->List WK->Nat->Nat
 | [],_,c=>c
 | x::l,acc,c=>if acc.contains (fI n (ksM n K T x) (tsM n K T x))then leastM n K T l acc c else leastM n K T l (made (fW n (ksM n K T x) (tsM n K T x)) (renJ n n) acc) (c+1)
theorem xam {k K T n b:Nat}(hn:n<=4) (hK:K<=4) (hT:T<=4): ∀(l:List Nat) (acc:List WK) (c:Nat) (x7 x8 x9:Option W),acc.length+l.length*24<=10000-> ∃y7 y8 y9 acc',
 forGo (bindT [7] true) (fun τ h=>execs ⟨call prog (k+2),prog.cl,prog.con⟩ b_law_least_ones_2 τ h) (nsD l) (liS K T n b c x7 x8 x9) [.dic acc]= .next (liS K T n b (leastM n K T l acc c) y7 y8 y9) [.dic acc']
 | [],acc,c,x7,x8,x9,_=>⟨x7,x8,x9,acc,rfl⟩
 | x::l,acc,c,x7,x8,x9,hc=>by
  rw [List.length_cons]at hc
  have cw:=JX (k+1) n K T x [.dic acc] hn hK hT
  have wk:=J3 n (ksM n K T x) (tsM n K T x)
  have dc:dicD [.dic acc] (some (.v (.ref 0)))=some (0,acc):=rfl
  have lk:(ksM n K T x).length<=4:=by rw [ksM,zN];exact hK
  have lt:(tsM n K T x).length<=4:=by rw [tsM,zN];exact hT
  have hf:(renJ n n).length<=24:=(ren n hn).few n (Nat.le_refl _)
  have es:exec ⟨call prog (k+2),prog.cl,prog.con⟩ (.setf 8 (.call "_law_world" (.cons (.var 2) (.cons (.var 0) (.cons (.var 1) (.cons (.var 7) .nil)))))) (liS K T n b c (some (.v (.int (x:Int)))) x8 x9) [.dic acc]= .next (liS K T n b c (some (.v (.int (x:Int)))) (some (.v (wldD n (ksM n K T x) (tsM n K T x)))) x9) [.dic acc]:=by
   simp_all [cw]
  have et:tstE ⟨call prog (k+2),prog.cl,prog.con⟩ (.din true (.var 8) 5) (liS K T n b c (some (.v (.int (x:Int)))) (some (.v (wldD n (ksM n K T x) (tsM n K T x)))) x9) [.dic acc]= .ok (!acc.contains (fI n (ksM n K T x) (tsM n K T x))) [.dic acc]:=by
   have dw:dinW true (.v (wldD n (ksM n K T x) (tsM n K T x))) (some (0,acc)) [.dic acc]=okv (.bl (!acc.contains (fI n (ksM n K T x) (tsM n K T x)))) [.dic acc]:=by
    show(match wkD (wldD n (ksM n K T x) (tsM n K T x)),some (0,acc)with
     | some k,some (_,ks)=>okv (.bl (if true then !ks.contains k else ks.contains k)) [.dic acc]
     | _,_=> .fail)=_
    rw [wk];rfl
   simp_all [dc,dw]
  cases q:acc.contains (fI n (ksM n K T x) (tsM n K T x))with
  | true=>
   obtain⟨y7,y8,y9,acc',e⟩:=xam (k:=k) (b:=b) hn hK hT l acc c (some (.v (.int (x:Int)))) (some (.v (wldD n (ksM n K T x) (tsM n K T x)))) x9 (by omega)
   refine⟨y7,y8,y9,acc',?_⟩
   rw [show nsD (x::l)= .int (x:Int)::nsD l from rfl,Za (τ1:=liS K T n b c (some (.v (.int (x:Int)))) x8 x9) (h2:= [.dic acc]) rfl (by
    unfold b_law_least_ones_2
    rw [za es,xy (by rw [et,q];rfl),execs]),e,leastM,if_pos q]
  | false=>
   have ml:=xO (fW n (ksM n K T x) (tsM n K T x)) (renJ n n) acc
   obtain⟨z9,ei⟩:=qaA (k:=k) (K:=K) (T:=T) (b:=b) (c:=c+1) hn lk lt (some (.v (.int (x:Int)))) (renJ n n) acc x9 (fun o ho=>(jM hn o).mp ho) (by omega)
   obtain⟨y7,y8,y9,acc',e⟩:=xam (k:=k) (b:=b) hn hK hT l (made (fW n (ksM n K T x) (tsM n K T x)) (renJ n n) acc) (c+1) (some (.v (.int (x:Int)))) (some (.v (wldD n (ksM n K T x) (tsM n K T x)))) z9 (by omega)
   refine⟨y7,y8,y9,acc',?_⟩
   rw [show nsD (x::l)= .int (x:Int)::nsD l from rfl,Za (τ1:=liS K T n b c (some (.v (.int (x:Int)))) x8 x9) (τ2:=liS K T n b (c+1) (some (.v (.int (x:Int)))) (some (.v (wldD n (ksM n K T x) (tsM n K T x)))) z9) (h2:= [.dic (made (fW n (ksM n K T x) (tsM n K T x)) (renJ n n) acc)]) rfl (by
    unfold b_law_least_ones_2
    rw [za es,Wh,if_t (by rw [et,q];rfl)]
    rw [za (τ1:=liS K T n b (c+1) (some (.v (.int (x:Int)))) (some (.v (wldD n (ksM n K T x) (tsM n K T x)))) x9) (h1:= [.dic acc]) (by simp_all [int_add];rfl)]
    rw [Wh]
    simp only [exec,evalLp,isVar,getS,Option.bind_some,lpV_lst,R.of_some,R.toO_ok]
    exact ei),e,leastM,if_neg (by rw [q];exact Bool.false_ne_true)]
theorem qae (k K T n b:Nat) (hn:n<=4) (hK:K<=4) (hT:T<=4) (hb:b<=6):call prog (k+3) "_law_least_ones" [.v (.int (K:Int)),.v (.int (T:Int)),.v (.int (n:Int)),.v (.int (b:Int))] []= .ok (.v (.int ((leastM n K T (List.range (2 ^ b)) [] 0:Nat):Int))) []:=by
 have p:2 ^ b<=2 ^ 6:=Nat.pow_le_pow_right (by decide) hb
 have co:=jE (k+1) n [] hn
 have s:=shl1 b (by omega)
 obtain⟨y7,y8,y9,acc',e⟩:=xam (k:=k) (b:=b) hn hK hT (List.range (2 ^ b)) [] 0 none none none (by simp;omega)
 rw [call_of (d:=d_law_least_ones) rfl _ _ _ rfl]
 simp only [d_law_least_ones]
 rw [za (τ1:= [some (.v (.int (K:Int))),some (.v (.int (T:Int))),some (.v (.int (n:Int))),some (.v (.int (b:Int))),some (.v (.lst (rwD (renJ n n)))),none,none,none,none,none]) (h1:= []) (by simp_all [co])]
 rw [za (τ1:= [some (.v (.int (K:Int))),some (.v (.int (T:Int))),some (.v (.int (n:Int))),some (.v (.int (b:Int))),some (.v (.lst (rwD (renJ n n)))),some (.v (.ref 0)),none,none,none,none]) (h1:= [.dic []]) (by rfl)]
 rw [za (τ1:=liS K T n b 0 none none none) (h1:= [.dic []]) (by simp_all [];rfl)]
 rw [za (by
  rw [exec,xw,Zc (m:=2 ^ b) (by simp_all [s]) (by omega),R.toO_ok]
  exact e)]
 rfl
end M
namespace M
theorem qao: ∀K,K<5-> ∀T,T<5->K*0+T*0*0<7->leastM 0 K T (List.range (2 ^ (K*0+T*0*0))) [] 0=cntL 0 K T / (rdL 0).length:=by decide +kernel
theorem qaf: ∀K,K<5-> ∀T,T<5->K*1+T*1*1<7->leastM 1 K T (List.range (2 ^ (K*1+T*1*1))) [] 0=cntL 1 K T / (rdL 1).length:=by decide +kernel
theorem jag: ∀K,K<5-> ∀T,T<5->K*2+T*2*2<7->leastM 2 K T (List.range (2 ^ (K*2+T*2*2))) [] 0=cntL 2 K T / (rdL 2).length:=by decide +kernel
theorem zao: ∀K,K<5-> ∀T,T<5->K*3+T*3*3<7->leastM 3 K T (List.range (2 ^ (K*3+T*3*3))) [] 0=cntL 3 K T / (rdL 3).length:=by decide +kernel
theorem w9: ∀K,K<5-> ∀T,T<5->K*4+T*4*4<7->leastM 4 K T (List.range (2 ^ (K*4+T*4*4))) [] 0=cntL 4 K T / (rdL 4).length:=by decide +kernel
theorem JY {n K T:Nat}(hn:n<=4) (hK:K<=4) (hT:T<=4) (hb:K*n+T*n*n<7):leastM n K T (List.range (2 ^ (K*n+T*n*n))) [] 0=cntM n K T / (renJ n n).length:=by
 have le:(rdL n).length=(renJ n n).length:=by rw [← jak n (by omega),List.length_map]
 rw [W7 hn,←le]
 match n,hn,hb with
 | 0,_,hb=>exact qao K (by omega) T (by omega) hb
 | 1,_,hb=>exact qaf K (by omega) T (by omega) hb
 | 2,_,hb=>exact jag K (by omega) T (by omega) hb
 | 3,_,hb=>exact zao K (by omega) T (by omega) hb
 | 4,_,hb=>exact w9 K (by omega) T (by omega) hb
theorem xaJ:isX prog.cl (.v (.exc "NoSize" [])) ["WorldError"]=some true:=by decide +kernel
theorem ns_1:isX prog.cl (.v (.exc "NoSize" [])) ["NoCode", "TooBig"]=some false:=by decide +kernel
theorem ns_2:isX prog.cl (.v (.exc "NoSize" [])) ["NoSize"]=some true:=by decide +kernel
theorem ns_3:isX prog.cl (.v (.exc "NoSize" [])) ["ValueError"]=some true:=by decide +kernel
theorem ZG (k:Nat) (nm d:D) (h:AH) (hd:noRef d=true) (hb:belowD d 5=false):call prog (k+6) "unlike_count" [.v nm,.v d] h= .exc (.exc "NoSize" []) h:=by
 rw [call_of (d:=d_unlike_count) rfl _ _ _ rfl]
 have hc:=Jm k d h hd hb
 simp only [d_unlike_count]
 simp_all [hc]
 rfl
theorem zI (k:Nat) (nm d:D) (h:AH) (hd:noRef d=true) (hb:belowD d 5=false):call prog (k+7) "_law_refused" [.v nm,.v d] h= .ok (.v (.bl true)) h:=by
 rw [call_of (d:=d_law_refused) rfl _ _ _ rfl]
 have hr:=ZG k nm d h hd hb
 simp only [d_law_refused]
 rw [za (τ1:= [some (.v nm),some (.v d),some (.v .non),none]) (h1:=h) (by simp_all [])]
 rw [za (τ1:= [some (.v nm),some (.v d),some (.v (.exc "NoSize" [])),none]) (h1:=h) (by simp_all [hr,xaJ];rfl)]
 rw [xy (by simp_all [ns_1])]
 rw [jC (w:= .v (.bl true)) (h1:=h) (jay rfl (by simp_all [ns_2,ns_3]))]
 exact finO_retv _ _ _ rfl
theorem zaM:intOp .pow 10 20=some (10 ^ 20):=by
 have:(0:Int)<=20/\(20:Int)<=BP/\(10:Int).natAbs<N64:=by rw [BP_eq,N64_eq];decide
 show(if _ then _ else _)=_
 rw [if_pos this];rfl
theorem qaE {xs:List D}(x:Int) (h0:0<xs.length): ∃d∈xs,atI xs (x % ((xs.length:Nat):Int))=some d:=by
 obtain⟨a,ha,e⟩:=wq x xs.length h0
 exact⟨xs[a],List.getElem_mem ha,by rw [e,qm _ _ ha,List.getElem?_eq_getElem ha]⟩
theorem hlaw (ns:List Int) (hl:ns.length<=63): ∃h',call prog 8 "law" [.v (.lst (ns.map .int))] []= .ok (.v (.bl true)) h':=by
 refine⟨[],?_⟩
 have n0:call prog 7 "_law_nth" [.v (.lst (ns.map .int)),.v (.int 0)] []=_:=xaE 6 ns 0 []
 have n1:call prog 7 "_law_nth" [.v (.lst (ns.map .int)),.v (.int 1)] []=_:=xaE 6 ns 1 []
 generalize ns.getD 0 0=u at n0
 obtain⟨K,hK,eK⟩:=wq u 5 (by decide)
 obtain⟨T,hT,eT⟩:=wq (u / 5) 5 (by decide)
 obtain⟨n,hn,en⟩:=wq (u / 25) 5 (by decide)
 have eK:u % 5=(K:Int):=eK
 have eT:u / 5 % 5=(T:Int):=eT
 have en:u / 25 % 5=(n:Int):=en
 have hK:K<=4:=by omega
 have hT:T<=4:=by omega
 have hn:n<=4:=by omega
 have a1:=zG u 5 (by decide)
 have a2:=XC u 5 (by decide) (by decide)
 have a3:=zG (u / 5) 5 (by decide)
 have a4:=XC u 25 (by decide) (by decide)
 have a5:=zG (u / 25) 5 (by decide)
 have f6:=XC (ns.getD 1 0) 6 (by decide) (by decide)
 have m20:=zG (ns.getD 1 0 / 6) (10 ^ 20) (by decide)
 have m6:=zG (ns.getD 1 0) 6 (by decide)
 have far:0<=ns.getD 1 0 / 6 % 10 ^ 20:=Int.emod_nonneg _ (by decide)
 generalize ns.getD 1 0 / 6 % 10 ^ 20=f at m20 far
 obtain⟨d,hd,ed⟩:=qaE (xs:= [.int (-1),.int 5,.int (5+f),.bl true,.non,.str [50]]) (ns.getD 1 0) (Nat.succ_pos _)
 have ed:atI [D.int (-1),D.int 5,D.int (5+f),D.bl true,D.non,D.str [50]] (ns.getD 1 0 % 6)=some d:=ed
 have bad:noRef d=true/\belowD d 5=false:=by
  simp only [List.mem_cons,List.not_mem_nil,or_false]at hd
  rcases hd with rfl | rfl | rfl | rfl | rfl | rfl
  ·exact⟨rfl,rfl⟩
  ·exact⟨rfl,rfl⟩
  ·exact⟨rfl,by simp only [belowD,Bool.and_eq_false_iff,decide_eq_false_iff_not];omega⟩
  ·exact⟨rfl,rfl⟩
  ·exact⟨rfl,rfl⟩
  ·exact⟨rfl,rfl⟩
 obtain⟨A,B,lA,lB,cn⟩:=zap 6 K T [] hK hT
 have cc:call prog 7 "unlike_count" [.v (nmD A B),.v (.int (n:Int))] []=_:=zak 1 n A B [] hn (by omega) (by omega)
 rw [lA,lB]at cc
 have du:call prog 7 "_law_due" [.v (.int (K:Int)),.v (.int (T:Int)),.v (.int (n:Int))] []=_:=jaP 5 K T n hn hK hT []
 have rf:call prog 7 "_law_refused" [.v (nmD A B),.v d] []=_:=zI 0 (nmD A B) d [] bad.1 bad.2
 have le:K*n+T*n*n<7->cntM n K T / (renJ n n).length=leastM n K T (List.range (2 ^ (K*n+T*n*n))) [] 0:=fun z=>(JY hn hK hT z).symm
 generalize cntM n K T / (renJ n n).length=q at cc du le
 have wh:call prog 7 "_law_whole" [.v (.int (q:Int))] []=_:=wy 6 q []
 have t1:K*n<=4*4:=Nat.mul_le_mul hK hn
 have t2:T*n<=4*4:=Nat.mul_le_mul hT hn
 have t3:T*n*n<=4*4*4:=Nat.mul_le_mul t2 hn
 have m2:intOp .mul (K:Int) (n:Int)=some ((K*n:Nat):Int):=Wb K n (by omega)
 have m3:intOp .mul (T:Int) (n:Int)=some ((T*n:Nat):Int):=Wb T n (by omega)
 have m4:intOp .mul ((T*n:Nat):Int) (n:Int)=some ((T*n*n:Nat):Int):=Wb (T*n) n (by omega)
 have c3:((K*n:Nat):Int)+((T*n*n:Nat):Int)=((K*n+T*n*n:Nat):Int):=rfl
 have nq:=xao (.tup [.int (q:Int),.int 0]) rfl (by simp [dep,deps]) []
 rw [call_of (d:=d_law) rfl _ _ _ rfl]
 simp only [d_law]
 rw [za (τ1:= [some (.v (.lst (ns.map .int))),some (.v (.int u)),none,none,none,none,none,none,none]) (h1:= []) (by simp_all [n0])]
 rw [za (τ1:= [some (.v (.lst (ns.map .int))),some (.v (.int u)),some (.v (.int (K:Int))),none,none,none,none,none,none]) (h1:= []) (by simp_all [a1,eK])]
 rw [za (τ1:= [some (.v (.lst (ns.map .int))),some (.v (.int u)),some (.v (.int (K:Int))),some (.v (.int (T:Int))),none,none,none,none,none]) (h1:= []) (by simp_all [a2,a3,eT])]
 rw [za (τ1:= [some (.v (.lst (ns.map .int))),some (.v (.int u)),some (.v (.int (K:Int))),some (.v (.int (T:Int))),some (.v (.int (n:Int))),none,none,none,none]) (h1:= []) (by simp_all [a4,a5,en])]
 rw [za (τ1:= [some (.v (.lst (ns.map .int))),some (.v (.int u)),some (.v (.int (K:Int))),some (.v (.int (T:Int))),some (.v (.int (n:Int))),some (.v (nmD A B)),none,none,none]) (h1:= []) (by simp_all [cn])]
 rw [za (τ1:= [some (.v (.lst (ns.map .int))),some (.v (.int u)),some (.v (.int (K:Int))),some (.v (.int (T:Int))),some (.v (.int (n:Int))),some (.v (nmD A B)),some (.v (.int (q:Int))),none,none]) (h1:= []) (by simp_all [cc])]
 rw [xy (by simp_all [wh,du,nq])]
 rw [za (τ1:= [some (.v (.lst (ns.map .int))),some (.v (.int u)),some (.v (.int (K:Int))),some (.v (.int (T:Int))),some (.v (.int (n:Int))),some (.v (nmD A B)),some (.v (.int (q:Int))),some (.v (.int ((K*n+T*n*n:Nat):Int))),none]) (h1:= []) (by simp_all [m2,m3,m4,int_add,c3])]
 rw [xy (by
  by_cases z:K*n+T*n*n<7
  ·have cl:call prog 7 "_law_least_ones" [.v (.int (K:Int)),.v (.int (T:Int)),.v (.int (n:Int)),.v (.int ((K*n+T*n*n:Nat):Int))] []=_:=qae 4 K T n (K*n+T*n*n) hn hK hT (by omega)
   rw [← le z]at cl
   have lt:cmpD .lt (.v (.int ((K*n+T*n*n:Nat):Int))) (.v (.int 7)) []=some true:=by
    show some (decide (((K*n+T*n*n:Nat):Int)<7))=_
    rw [decide_eq_true (by omega)]
   simp_all [lt,cl,xak,decide_true]
  ·have lt:cmpD .lt (.v (.int ((K*n+T*n*n:Nat):Int))) (.v (.int 7)) []=some false:=by
    show some (decide (((K*n+T*n*n:Nat):Int)<7))=_
    rw [decide_eq_false (by omega)]
   simp_all [lt])]
 rw [za (τ1:= [some (.v (.lst (ns.map .int))),some (.v (.int u)),some (.v (.int (K:Int))),some (.v (.int (T:Int))),some (.v (.int (n:Int))),some (.v (nmD A B)),some (.v (.int (q:Int))),some (.v (.int ((K*n+T*n*n:Nat):Int))),some (.v (.int f))]) (h1:= []) (by simp_all [n1,f6,zaM,m20])]
 rw [jC (w:= .v (.bl true)) (h1:= []) (jay rfl (by simp_all [n1,m6,int_add,int_sub,int?_int,ix_own,ed,rf]))]
 exact finO_retv _ _ _ rfl
end M
namespace L2.MS
open PySem PyProof.Rows
def top (i:Nat):Stmt:=PySem.Challenge.pw_worldfind_k54_unlike_counted.main.body.getD i (.Pass ⟨0,0,0,0⟩)
def fnsL:List String:= ["is_whole", "is_below", "is_size", "check_size", "longer_by_one", "renamings", "rounds", "rounds_of_code", "unlike_count", "_law_nth", "_law_whole", "_law_marks", "_law_orders", "_law_world", "_law_led", "_law_names", "_law_rounds", "_law_due", "_law_least_ones", "_law_refused", "law"]
def ownL:List String:= ["WorldError", "NoSize", "NoCode", "TooBig"]
def raiL:List String:= ["NoSize"]
def hndL:List String:= ["WorldError"]
abbrev CF (s:Stmt) (N:List Str):Cf:=⟨defScope s,N,fnsL,ownL,raiL,hndL⟩
abbrev s_is_whole:Stmt:=top 6
abbrev n_is_whole:List Str:= ["thing"]
theorem Xy:FnScope n_is_whole ["thing"] (defScope s_is_whole):=by constructor<;>first | rfl | decide +kernel
theorem jG:chkSs (CF s_is_whole n_is_whole) M.d_is_whole.body (defBody s_is_whole)=true:=by decide +kernel
abbrev s_is_below:Stmt:=top 7
abbrev n_is_below:List Str:= ["thing", "end"]
theorem Xz:FnScope n_is_below ["thing", "end"] (defScope s_is_below):=by constructor<;>first | rfl | decide +kernel
theorem JH:chkSs (CF s_is_below n_is_below) M.d_is_below.body (defBody s_is_below)=true:=by decide +kernel
abbrev s_is_size:Stmt:=top 10
abbrev n_is_size:List Str:= ["thing"]
theorem JG:FnScope n_is_size ["thing"] (defScope s_is_size):=by constructor<;>first | rfl | decide +kernel
theorem xJ:chkSs (CF s_is_size n_is_size) M.d_is_size.body (defBody s_is_size)=true:=by decide +kernel
abbrev s_check_size:Stmt:=top 11
abbrev n_check_size:List Str:= ["size"]
theorem Qp:FnScope n_check_size ["size"] (defScope s_check_size):=by constructor<;>first | rfl | decide +kernel
theorem Ww:chkSs (CF s_check_size n_check_size) M.d_check_size.body (defBody s_check_size)=true:=by decide +kernel
abbrev s_longer_by_one:Stmt:=top 13
abbrev n_longer_by_one:List Str:= ["rows", "size", "longer", "row"]
theorem Zi:FnScope n_longer_by_one ["rows", "size"] (defScope s_longer_by_one):=by constructor<;>first | rfl | decide +kernel
theorem Jj:chkSs (CF s_longer_by_one n_longer_by_one) M.d_longer_by_one.body (defBody s_longer_by_one)=true:=by decide +kernel
abbrev s_renamings:Stmt:=top 14
abbrev n_renamings:List Str:= ["size", "rows", "place"]
theorem qt:FnScope n_renamings ["size"] (defScope s_renamings):=by constructor<;>first | rfl | decide +kernel
theorem xA:chkSs (CF s_renamings n_renamings) M.d_renamings.body (defBody s_renamings)=true:=by decide +kernel
abbrev s_rounds:Stmt:=top 16
abbrev n_rounds:List Str:= ["leads", "seen", "number", "start", "place"]
theorem zQ:FnScope n_rounds ["leads"] (defScope s_rounds):=by constructor<;>first | rfl | decide +kernel
theorem XV:chkSs (CF s_rounds n_rounds) M.d_rounds.body (defBody s_rounds)=true:=by decide +kernel
abbrev s_rounds_of_code:Stmt:=top 17
abbrev n_rounds_of_code:List Str:= ["words", "renaming", "pairs", "first"]
theorem Qg:FnScope n_rounds_of_code ["words", "renaming"] (defScope s_rounds_of_code):=by constructor<;>first | rfl | decide +kernel
theorem zi:chkSs (CF s_rounds_of_code n_rounds_of_code) M.d_rounds_of_code.body (defBody s_rounds_of_code)=true:=by decide +kernel
abbrev s_unlike_count:Stmt:=top 18
abbrev n_unlike_count:List Str:= ["words", "size", "all_renamings", "total"]
theorem jj:FnScope n_unlike_count ["words", "size"] (defScope s_unlike_count):=by constructor<;>first | rfl | decide +kernel
theorem jn:chkSs (CF s_unlike_count n_unlike_count) M.d_unlike_count.body (defBody s_unlike_count)=true:=by decide +kernel
abbrev s_law_nth:Stmt:=top 20
abbrev n_law_nth:List Str:= ["_law_script", "_law_k"]
theorem QE:FnScope n_law_nth ["_law_script", "_law_k"] (defScope s_law_nth):=by constructor<;>first | rfl | decide +kernel
theorem xM:chkSs (CF s_law_nth n_law_nth) M.d_law_nth.body (defBody s_law_nth)=true:=by decide +kernel
abbrev s_law_whole:Stmt:=top 21
abbrev n_law_whole:List Str:= ["_law_thing"]
theorem wt:FnScope n_law_whole ["_law_thing"] (defScope s_law_whole):=by constructor<;>first | rfl | decide +kernel
theorem xz:chkSs (CF s_law_whole n_law_whole) M.d_law_whole.body (defBody s_law_whole)=true:=by decide +kernel
abbrev s_law_marks:Stmt:=top 22
abbrev n_law_marks:List Str:= ["_law_number_here", "_law_many", "_law_marks_here", "_law_k", "_law_mark"]
theorem Wt:FnScope n_law_marks ["_law_number_here", "_law_many"] (defScope s_law_marks):=by constructor<;>first | rfl | decide +kernel
theorem qB:chkSs (CF s_law_marks n_law_marks) M.d_law_marks.body (defBody s_law_marks)=true:=by decide +kernel
abbrev s_law_orders:Stmt:=top 24
abbrev n_law_orders:List Str:= ["_law_size", "_law_rows", "_law_step", "_law_longer", "_law_row", "_law_a"]
theorem zr:FnScope n_law_orders ["_law_size"] (defScope s_law_orders):=by constructor<;>first | rfl | decide +kernel
theorem Qw:chkSs (CF s_law_orders n_law_orders) M.d_law_orders.body (defBody s_law_orders)=true:=by decide +kernel
abbrev s_law_world:Stmt:=top 26
abbrev n_law_world:List Str:= ["_law_size", "_law_kinds", "_law_ties", "_law_cell", "_law_number_here", "_law_first", "_law_second", "_law_k", "_law_part"]
theorem Jw:FnScope n_law_world ["_law_size", "_law_kinds", "_law_ties", "_law_cell"] (defScope s_law_world):=by constructor<;>first | rfl | decide +kernel
theorem XA:chkSs (CF s_law_world n_law_world) M.d_law_world.body (defBody s_law_world)=true:=by decide +kernel
abbrev s_law_led:Stmt:=top 27
abbrev n_law_led:List Str:= ["_law_world_here", "_law_order_here", "_law_size", "_law_kinds", "_law_ties", "_law_first", "_law_kind", "_law_marks_here", "_law_second", "_law_tie", "_law_places"]
theorem xH:FnScope n_law_led ["_law_world_here", "_law_order_here"] (defScope s_law_led):=by constructor<;>first | rfl | decide +kernel
theorem JR:chkSs (CF s_law_led n_law_led) M.d_law_led.body (defBody s_law_led)=true:=by decide +kernel
abbrev s_law_names:Stmt:=top 30
abbrev n_law_names:List Str:= ["_law_kinds", "_law_ties"]
theorem Wr:FnScope n_law_names ["_law_kinds", "_law_ties"] (defScope s_law_names):=by constructor<;>first | rfl | decide +kernel
theorem Wy:chkSs (CF s_law_names n_law_names) M.d_law_names.body (defBody s_law_names)=true:=by decide +kernel
abbrev s_law_rounds:Stmt:=top 31
abbrev n_law_rounds:List Str:= ["_law_spots", "_law_order_here", "_law_many", "_law_left", "_law_here"]
theorem jp:FnScope n_law_rounds ["_law_spots", "_law_order_here"] (defScope s_law_rounds):=by constructor<;>first | rfl | decide +kernel
theorem Zs:chkSs (CF s_law_rounds n_law_rounds) M.d_law_rounds.body (defBody s_law_rounds)=true:=by decide +kernel
abbrev s_law_due:Stmt:=top 32
abbrev n_law_due:List Str:= ["_law_kinds", "_law_ties", "_law_size", "_law_things", "_law_pairs", "_law_orders_here", "_law_due_here", "_law_order_here", "_law_many"]
theorem xG:FnScope n_law_due ["_law_kinds", "_law_ties", "_law_size"] (defScope s_law_due):=by constructor<;>first | rfl | decide +kernel
theorem qR:chkSs (CF s_law_due n_law_due) M.d_law_due.body (defBody s_law_due)=true:=by decide +kernel
abbrev s_law_least_ones:Stmt:=top 33
abbrev n_law_least_ones:List Str:= ["_law_kinds", "_law_ties", "_law_size", "_law_many", "_law_orders_here", "_law_seen", "_law_unlike_ones", "_law_number_here", "_law_world_here", "_law_order_here"]
theorem jh:FnScope n_law_least_ones ["_law_kinds", "_law_ties", "_law_size", "_law_many"] (defScope s_law_least_ones):=by constructor<;>first | rfl | decide +kernel
theorem ji:chkSs (CF s_law_least_ones n_law_least_ones) M.d_law_least_ones.body (defBody s_law_least_ones)=true:=by decide +kernel
abbrev s_law_refused:Stmt:=top 34
abbrev n_law_refused:List Str:= ["_law_words", "_law_size", "_law_caught", "e"]
theorem Qm:FnScope n_law_refused ["_law_words", "_law_size"] (defScope s_law_refused):=by constructor<;>first | rfl | decide +kernel
theorem Xo:chkSs (CF s_law_refused n_law_refused) M.d_law_refused.body (defBody s_law_refused)=true:=by decide +kernel
abbrev s_law:Stmt:=top 35
abbrev n_law:List Str:= ["_law_script", "_law_cell", "_law_kinds", "_law_ties", "_law_size", "_law_words", "_law_got", "_law_many", "_law_far"]
theorem J6:FnScope n_law ["_law_script"] (defScope s_law):=by constructor<;>first | rfl | decide +kernel
theorem xaA:chkSs (CF s_law n_law) M.d_law.body (defBody s_law)=true:=by decide +kernel
end L2.MS
namespace L2.MS
open PySem PyProof.Rows
structure FP (K:PySem.W.Frag) (n:Str) (s:Stmt) (f:Addr) (oc:Value) (od an:Option Addr) (sl:Array (Option Value)) (kV dc pm cd ct:Value):Prop where
 a:PySem.W.nsIn K mainGlobals n=some (some (.ref f))
 l:K.lookup f=some ⟨oc,od,.func (PySem.W.fnOf n n (defArgs s) (defBody s) (defScope s) .none kV dc pm an cd ct),sl⟩
 c:PySem.W.codeIn K cd n=true
 k:PySem.W.keepIn K (.ref f)=true
theorem mkf {K:PySem.W.Frag}{mg:Str->Option Value}{h:Heap}(X:K.In h) (G:h.Ns mainGlobals mg){f:String}{st:Stmt}{fa:Addr}{oc:Value}{od an:Option Addr}{sl:Array (Option Value)}{kV dc pm cd ct:Value}(p:FP K (strS f) st fa oc od an sl kV dc pm cd ct){N ps:List Str}{d:M.Fn}(sc:FnScope N ps (defScope st)) (ck:chkSs (CF st N) d.body (defBody st)=true) (hd:M.prog.fns.lookup f=some d) (n:N.length=d.n) (q:ps.length=d.ps) (le:d.ps<=d.n) (hb: ∀(kV doc pm:Value) (an:Option Addr) (cdv ct:Value) (us:List Value),us.length=ps.length->bindArgs (PySem.W.fnOf (strS f) (strS f) (defArgs st) (defBody st) (defScope st) .none kV doc pm an cdv ct) ⟨us,[]⟩=pure (ps.zip us)): ∃d,M.prog.fns.lookup f=some d/\ ∃t:Txt K mg f,TxtOk t d fnsL ownL raiL hndL:=
 have F:=w4 (st:=st) p.l p.c p.k
 ⟨d,hd,⟨st,fa,_,N,ps⟩,⟨F,F.binds hb,p.k,PySem.W.mg_of X G p.a,sc,n,q,le,ck⟩⟩
theorem Z8 {α:Type}: ∀ {l:List (String×α)}{x:String}{d:α},l.lookup x=some d->(x,d)∈l
 | (k,v)::l,x,d,h=>by
  rw [List.lookup_cons]at h
  by_cases q:(x==k)=true
  ·rw [q]at h;cases h;rw [eq_of_beq q];exact List.mem_cons_self
  ·rw [eq_false_of_ne_true q]at h;exact List.mem_cons_of_mem _ (Z8 h)
theorem all_mk {l:PySem.W.OpenLaw}{w:World}{K:PySem.W.Frag}{h:Heap}{mg:Str->Option Value}{fa:Addr}(X:K.In h) (G:h.Ns mainGlobals mg) (hfa:mg "law" =some (.ref fa))
 {f0 f1 f2 f3 f4 f5 f6 f7 f8 f9 f10 f11 f12 f13 f14 f15 f16 f17 f18 f19 f20 C0 C1 C2 C3:Addr}
 (p0:FP K "is_whole" s_is_whole f0 oc0 od0 an0 sl0 kV0 dc0 pm0 cd0 ct0)
 (p1:FP K "is_below" s_is_below f1 oc1 od1 an1 sl1 kV1 dc1 pm1 cd1 ct1)
 (p2:FP K "is_size" s_is_size f2 oc2 od2 an2 sl2 kV2 dc2 pm2 cd2 ct2)
 (p3:FP K "check_size" s_check_size f3 oc3 od3 an3 sl3 kV3 dc3 pm3 cd3 ct3)
 (p4:FP K "longer_by_one" s_longer_by_one f4 oc4 od4 an4 sl4 kV4 dc4 pm4 cd4 ct4)
 (p5:FP K "renamings" s_renamings f5 oc5 od5 an5 sl5 kV5 dc5 pm5 cd5 ct5)
 (p6:FP K "rounds" s_rounds f6 oc6 od6 an6 sl6 kV6 dc6 pm6 cd6 ct6)
 (p7:FP K "rounds_of_code" s_rounds_of_code f7 oc7 od7 an7 sl7 kV7 dc7 pm7 cd7 ct7)
 (p8:FP K "unlike_count" s_unlike_count f8 oc8 od8 an8 sl8 kV8 dc8 pm8 cd8 ct8)
 (p9:FP K "_law_nth" s_law_nth f9 oc9 od9 an9 sl9 kV9 dc9 pm9 cd9 ct9)
 (p10:FP K "_law_whole" s_law_whole f10 oc10 od10 an10 sl10 kV10 dc10 pm10 cd10 ct10)
 (p11:FP K "_law_marks" s_law_marks f11 oc11 od11 an11 sl11 kV11 dc11 pm11 cd11 ct11)
 (p12:FP K "_law_orders" s_law_orders f12 oc12 od12 an12 sl12 kV12 dc12 pm12 cd12 ct12)
 (p13:FP K "_law_world" s_law_world f13 oc13 od13 an13 sl13 kV13 dc13 pm13 cd13 ct13)
 (p14:FP K "_law_led" s_law_led f14 oc14 od14 an14 sl14 kV14 dc14 pm14 cd14 ct14)
 (p15:FP K "_law_names" s_law_names f15 oc15 od15 an15 sl15 kV15 dc15 pm15 cd15 ct15)
 (p16:FP K "_law_rounds" s_law_rounds f16 oc16 od16 an16 sl16 kV16 dc16 pm16 cd16 ct16)
 (p17:FP K "_law_due" s_law_due f17 oc17 od17 an17 sl17 kV17 dc17 pm17 cd17 ct17)
 (p18:FP K "_law_least_ones" s_law_least_ones f18 oc18 od18 an18 sl18 kV18 dc18 pm18 cd18 ct18)
 (p19:FP K "_law_refused" s_law_refused f19 oc19 od19 an19 sl19 kV19 dc19 pm19 cd19 ct19)
 (p20:FP K "law" s_law f20 oc20 od20 an20 sl20 kV20 dc20 pm20 cd20 ct20)
 (z0:PySem.W.nsIn K mainGlobals "len" =some none)
 (z1:PySem.W.nsIn K mainGlobals "int" =some none)
 (z2:PySem.W.nsIn K mainGlobals "list" =some none)
 (z3:PySem.W.nsIn K mainGlobals "tuple" =some none)
 (z4:PySem.W.nsIn K mainGlobals "sum" =some none)
 (z5:PySem.W.nsIn K mainGlobals "all" =some none)
 (z6:PySem.W.nsIn K mainGlobals "any" =some none)
 (z7:PySem.W.nsIn K mainGlobals "sorted" =some none)
 (z8:PySem.W.nsIn K mainGlobals "divmod" =some none)
 (z9:PySem.W.nsIn K mainGlobals "str" =some none)
 (z10:PySem.W.nsIn K mainGlobals "min" =some none)
 (z11:PySem.W.nsIn K mainGlobals "max" =some none)
 (z12:PySem.W.nsIn K mainGlobals "abs" =some none)
 (z13:PySem.W.nsIn K mainGlobals "isinstance" =some none)
 (z14:PySem.W.nsIn K mainGlobals "bool" =some none)
 (z15:PySem.W.nsIn K mainGlobals "range" =some none)
 (z16:PySem.W.nsIn K mainGlobals "reversed" =some none)
 (z17:PySem.W.nsIn K mainGlobals "zip" =some none)
 (z18:PySem.W.nsIn K mainGlobals "enumerate" =some none)
 (z19:PySem.W.nsIn K mainGlobals "set" =some none)
 (z20:PySem.W.nsIn K mainGlobals "ValueError" =some none)
 (o0:PySem.W.nsIn K mainGlobals "WorldError" =some (some (.ref C0)))
 (o1:PySem.W.nsIn K mainGlobals "NoSize" =some (some (.ref C1)))
 (o2:PySem.W.nsIn K mainGlobals "NoCode" =some (some (.ref C2)))
 (o3:PySem.W.nsIn K mainGlobals "TooBig" =some (some (.ref C3)))
 {ck0:Tok}(cn0:PySem.W.nsIn K mainGlobals "GREATEST_SIZE" =some (some (.int 4 ck0)))
 {cI1:ClassData}
 (xe1:PySem.W.excIn K C1 veTail "ValueError.__new__" =true)
 (xga1:PySem.W.findIn K (.ref C1) "__getattribute__" =some (some (.builtin "BaseException.__getattribute__")))
 (xgn1:PySem.W.findIn K (.ref C1) "__getattr__" =some none)
 (xcl1:PySem.W.findIn K (.ref C1) "__class__" =some (some (.builtin "object.__class__")))
 (xge1:PySem.W.specialIn K (.builtin "object.__class__") "__get__" =some (some (.builtin "getset_descriptor.__get__")))
 (xse1:PySem.W.takesIn K (.builtin "object.__class__")=some true)
 (xob1:PySem.W.mroIn K C1 (.type "object")=some true)
 (xba1:PySem.W.mroIn K C1 (.type "BaseException")=some true)
 (xsu1:PySem.W.subIn K (.ref C1) (.ref C1)=some true)
 (xty1:PySem.W.typeIn K (.ref C1)=some (.type "type"))
 (xcs1:PySem.W.clsIn K C1=some cI1)
 (xt0_1:PySem.W.kitOne K (.ref C1) (.ref C0)=some true)
 (xt1_1:PySem.W.kitOne K (.ref C1) (.ref C1)=some true)
 (xt2_1:PySem.W.kitOne K (.ref C1) (.ref C2)=some false)
 (xt3_1:PySem.W.kitOne K (.ref C1) (.ref C3)=some false)
 (xtv1:PySem.W.kitOne K (.ref C1) (.type "ValueError")=some true)
 (hb0:PySem.W.mroIn K C0 (.type "BaseException")=some true)
 : ∃fd:FuncData,(∀ (s:Shared) (v:Value),BindsTo s fd ⟨[v],[]⟩ [("_law_script",v)])/\ ∀base:Heap,K.In base->base.Ns mainGlobals mg->FnOk l.prog w K mg base CX0 8 fa fd ["_law_script"] (spLaw K):=by
 have e:=hfa.symm.trans (PySem.W.mg_of X G p20.a)
 cases e
 let Γ:Ge:=⟨K,fun c=>([("WorldError",C0),("NoSize",C1),("NoCode",C2),("TooBig",C3)].lookup c).getD 0,M.prog.cl,ownL⟩
 have pr:PrOk Γ M.prog mg ownL raiL hndL:=by
  refine⟨rfl,rfl,?_,?_,?_,?_,?_⟩
  ·intro x hx
   simp only [bltN,List.mem_cons,List.not_mem_nil,or_false]at hx
   rcases hx with rfl | rfl | rfl | rfl | rfl | rfl | rfl | rfl | rfl | rfl | rfl | rfl | rfl | rfl | rfl | rfl | rfl | rfl | rfl | rfl | rfl
   ·exact PySem.W.mg_none_of X G z0
   ·exact PySem.W.mg_none_of X G z1
   ·exact PySem.W.mg_none_of X G z2
   ·exact PySem.W.mg_none_of X G z3
   ·exact PySem.W.mg_none_of X G z4
   ·exact PySem.W.mg_none_of X G z5
   ·exact PySem.W.mg_none_of X G z6
   ·exact PySem.W.mg_none_of X G z7
   ·exact PySem.W.mg_none_of X G z8
   ·exact PySem.W.mg_none_of X G z9
   ·exact PySem.W.mg_none_of X G z10
   ·exact PySem.W.mg_none_of X G z11
   ·exact PySem.W.mg_none_of X G z12
   ·exact PySem.W.mg_none_of X G z13
   ·exact PySem.W.mg_none_of X G z14
   ·exact PySem.W.mg_none_of X G z15
   ·exact PySem.W.mg_none_of X G z16
   ·exact PySem.W.mg_none_of X G z17
   ·exact PySem.W.mg_none_of X G z18
   ·exact PySem.W.mg_none_of X G z19
   ·exact PySem.W.mg_none_of X G z20
  ·intro x d hd
   have hm:=Z8 hd
   simp only [M.prog,List.mem_cons,List.not_mem_nil,or_false,Prod.mk.injEq]at hm
   rcases hm with⟨rfl,rfl⟩
   ·exact⟨_,.int 4,PySem.W.mg_of X G cn0,⟨_,rfl⟩,fun _ _=>rfl⟩
  ·intro c hc
   simp only [ownL,List.contains_eq_mem,List.mem_cons,List.not_mem_nil,or_false,decide_eq_true_eq]at hc
   rcases hc with rfl | rfl | rfl | rfl
   ·exact PySem.W.mg_of X G o0
   ·exact PySem.W.mg_of X G o1
   ·exact PySem.W.mg_of X G o2
   ·exact PySem.W.mg_of X G o3
  ·intro c hc
   simp only [raiL,List.contains_eq_mem,List.mem_cons,List.not_mem_nil,or_false,decide_eq_true_eq]at hc
   rcases hc with rfl
   ·refine⟨⟨⟨xga1,xgn1,xcl1,xge1,xse1,xob1,xba1,wY xcs1 xty1 xsu1,ZZ xcs1⟩,?_,xtv1⟩,xe1,PySem.W.mg_of X G o1⟩
    intro t ht
    simp only [Γ,ownL,List.mem_cons,List.not_mem_nil,or_false]at ht
    rcases ht with rfl | rfl | rfl | rfl
    ·exact xt0_1
    ·exact xt1_1
    ·exact xt2_1
    ·exact xt3_1
  ·intro c hc
   simp only [hndL,List.contains_eq_mem,List.mem_cons,List.not_mem_nil,or_false,decide_eq_true_eq]at hc
   rcases hc with rfl
   ·exact⟨hb0,rfl⟩
 have all: ∀f,fnsL.contains f=true-> ∃d,M.prog.fns.lookup f=some d/\ ∃t:Txt Γ.K mg f,TxtOk t d fnsL ownL raiL hndL:=by
  intro f hf
  simp only [fnsL,List.contains_eq_mem,List.mem_cons,List.not_mem_nil,or_false,decide_eq_true_eq]at hf
  rcases hf with rfl | rfl | rfl | rfl | rfl | rfl | rfl | rfl | rfl | rfl | rfl | rfl | rfl | rfl | rfl | rfl | rfl | rfl | rfl | rfl | rfl
  ·exact mkf X G p0 Xy jG rfl rfl rfl (by decide) fun _ _ _ _ _ _ us hl=>match us,hl with | [_],_=>rfl
  ·exact mkf X G p1 Xz JH rfl rfl rfl (by decide) fun _ _ _ _ _ _ us hl=>match us,hl with | [_,_],_=>rfl
  ·exact mkf X G p2 JG xJ rfl rfl rfl (by decide) fun _ _ _ _ _ _ us hl=>match us,hl with | [_],_=>rfl
  ·exact mkf X G p3 Qp Ww rfl rfl rfl (by decide) fun _ _ _ _ _ _ us hl=>match us,hl with | [_],_=>rfl
  ·exact mkf X G p4 Zi Jj rfl rfl rfl (by decide) fun _ _ _ _ _ _ us hl=>match us,hl with | [_,_],_=>rfl
  ·exact mkf X G p5 qt xA rfl rfl rfl (by decide) fun _ _ _ _ _ _ us hl=>match us,hl with | [_],_=>rfl
  ·exact mkf X G p6 zQ XV rfl rfl rfl (by decide) fun _ _ _ _ _ _ us hl=>match us,hl with | [_],_=>rfl
  ·exact mkf X G p7 Qg zi rfl rfl rfl (by decide) fun _ _ _ _ _ _ us hl=>match us,hl with | [_,_],_=>rfl
  ·exact mkf X G p8 jj jn rfl rfl rfl (by decide) fun _ _ _ _ _ _ us hl=>match us,hl with | [_,_],_=>rfl
  ·exact mkf X G p9 QE xM rfl rfl rfl (by decide) fun _ _ _ _ _ _ us hl=>match us,hl with | [_,_],_=>rfl
  ·exact mkf X G p10 wt xz rfl rfl rfl (by decide) fun _ _ _ _ _ _ us hl=>match us,hl with | [_],_=>rfl
  ·exact mkf X G p11 Wt qB rfl rfl rfl (by decide) fun _ _ _ _ _ _ us hl=>match us,hl with | [_,_],_=>rfl
  ·exact mkf X G p12 zr Qw rfl rfl rfl (by decide) fun _ _ _ _ _ _ us hl=>match us,hl with | [_],_=>rfl
  ·exact mkf X G p13 Jw XA rfl rfl rfl (by decide) fun _ _ _ _ _ _ us hl=>match us,hl with | [_,_,_,_],_=>rfl
  ·exact mkf X G p14 xH JR rfl rfl rfl (by decide) fun _ _ _ _ _ _ us hl=>match us,hl with | [_,_],_=>rfl
  ·exact mkf X G p15 Wr Wy rfl rfl rfl (by decide) fun _ _ _ _ _ _ us hl=>match us,hl with | [_,_],_=>rfl
  ·exact mkf X G p16 jp Zs rfl rfl rfl (by decide) fun _ _ _ _ _ _ us hl=>match us,hl with | [_,_],_=>rfl
  ·exact mkf X G p17 xG qR rfl rfl rfl (by decide) fun _ _ _ _ _ _ us hl=>match us,hl with | [_,_,_],_=>rfl
  ·exact mkf X G p18 jh ji rfl rfl rfl (by decide) fun _ _ _ _ _ _ us hl=>match us,hl with | [_,_,_,_],_=>rfl
  ·exact mkf X G p19 Qm Xo rfl rfl rfl (by decide) fun _ _ _ _ _ _ us hl=>match us,hl with | [_,_],_=>rfl
  ·exact mkf X G p20 J6 xaA rfl rfl rfl (by decide) fun _ _ _ _ _ _ us hl=>match us,hl with | [_],_=>rfl
 refine⟨PySem.W.fnOf "law" "law" (defArgs s_law) (defBody s_law) (defScope s_law) .none kV20 dc20 pm20 an20 cd20 ct20,fun s v=> .of_eq rfl,fun base _ _=> ?_⟩
 have F:=w4 (st:=s_law) p20.l p20.c p20.k
 have z:FnOk l.prog w K mg base (CX1 l.prog w) 8 fa _ ["_law_script"] (spW Γ (M.call M.prog 8 "law")):=xaI (t:=⟨s_law,fa,_,["_law_script", "_law_cell", "_law_kinds", "_law_ties", "_law_size", "_law_words", "_law_got", "_law_many", "_law_far"],["_law_script"]⟩) pr ⟨F,F.binds (fun _ _ _ _ _ _ us hl=>match us,hl with | [_],_=>rfl),p20.k,PySem.W.mg_of X G p20.a,J6,rfl,rfl,by decide,xaA⟩ rfl 7 (fun g hg=>jaE pr all 7 g hg)
 exact jas (Γ:=Γ) z M.hlaw
end L2.MS
theorem PySem.W.Fast.tw11257341222647399449 : True := trivial
theorem PySem.W.Fast.tw15303188059554095633 : True := trivial
theorem PySem.W.Fast.tw15475568750807148976 : True := trivial
theorem PySem.W.Fast.tw7342788977274114128 : True := trivial
theorem PySem.W.Fast.tw8929275960142380235 : True := trivial
theorem PySem.W.Fast.tw16697125048286322787 : True := trivial
theorem PySem.W.Fast.tw10480030572623639688 : True := trivial
theorem PySem.W.Fast.tw5535092025901037658 : True := trivial
theorem PySem.W.Fast.tw13826541978668972625 : True := trivial
theorem PySem.W.Fast.tw16069881961342959205 : True := trivial
theorem PySem.W.Fast.tw2406545539746822727 : True := trivial
theorem PySem.W.Fast.tw15882747905836757819 : True := trivial
theorem PySem.W.Fast.tw10530297000174124607 : True := trivial
theorem PySem.W.Fast.tw16656223818942804481 : True := trivial
theorem PySem.W.Fast.tw7266174353399824670 : True := trivial
theorem PySem.W.Fast.tw18317041086324697194 : True := trivial
theorem PySem.W.Fast.tw3440779489385958023 : True := trivial
theorem PySem.W.Fast.tw6037288122501303940 : True := trivial
theorem PySem.W.Fast.tw7103863807040955266 : True := trivial
theorem PySem.W.Fast.tw535098177556992266 : True := trivial
theorem PySem.W.Fast.tw6889018780190081482 : True := trivial
theorem PySem.W.Fast.tw17493708090902368624 : True := trivial
theorem PySem.W.Fast.tw17965576104372666369 : True := trivial
theorem PySem.W.Fast.tw11191734503087078051 : True := trivial
theorem PySem.W.Fast.tw9518207985652980428 : True := trivial
theorem PySem.W.Fast.tw5664440516923968218 : True := trivial
theorem PySem.W.Fast.tw17991553201308687972 : True := trivial
theorem PySem.W.Fast.tw8950050638258845519 : True := trivial
theorem PySem.W.Fast.tw3757402968134181215 : True := trivial
theorem PySem.W.Fast.tw14031326835065159248 : True := trivial
theorem PySem.W.Fast.tw11111100844944339632 : True := trivial
theorem PySem.W.Fast.tw2590361552985637375 : True := trivial
theorem PySem.W.Fast.tw10919947858998201091 : True := trivial
theorem PySem.W.Fast.tw17960619760630177413 : True := trivial
theorem PySem.W.Fast.tw17283651530437663806 : True := trivial
theorem PySem.W.Fast.tw1909787223983710910 : True := trivial
theorem PySem.W.Fast.tw1952645612430917851 : True := trivial
theorem PySem.W.Fast.tw4313786519731070953 : True := trivial
theorem PySem.W.Fast.tw4060790256083778281 : True := trivial
theorem PySem.W.Fast.tw2657841456347608630 : True := trivial
theorem PySem.W.Fast.tw14944054930777179640 : True := trivial
theorem PySem.W.Fast.tw7387149794301955877 : True := trivial
theorem PySem.W.Fast.tw17006623018657367762 : True := trivial
theorem PySem.W.Fast.tw11708052678208730915 : True := trivial
theorem PySem.W.Fast.tw9120155936740128176 : True := trivial
theorem PySem.W.Fast.tw2905190886296716594 : True := trivial
theorem PySem.W.Fast.tw15180952930294615086 : True := trivial
theorem PySem.W.Fast.tw6014005704066915793 : True := trivial
theorem PySem.W.Fast.tw10715655898840095311 : True := trivial
theorem PySem.W.Fast.tw13295813245800633215 : True := trivial
theorem PySem.W.Fast.tw17563064864596351470 : True := trivial
theorem PySem.W.Fast.tw12643552433083364036 : True := trivial
theorem PySem.W.Fast.tw1374142014003793696 : True := trivial
theorem PySem.W.Fast.tw13627578976134884379 : True := trivial
theorem PySem.W.Fast.tw4934085112272059268 : True := trivial
theorem PySem.W.Fast.tw10641398413572396042 : True := trivial
theorem PySem.W.Fast.tw1340650217087512716 : True := trivial
theorem PySem.W.Fast.tw12542575437667288978 : True := trivial
theorem PySem.W.Fast.tw10058699426939980348 : True := trivial
theorem PySem.W.Fast.tw10026640803160507066 : True := trivial
theorem PySem.W.Fast.tw1034369271992080490 : True := trivial
theorem PySem.W.Fast.tw14114545262271210271 : True := trivial
theorem PySem.W.Fast.tw11762519012208481589 : True := trivial
theorem PySem.W.Fast.tw7995053243947980086 : True := trivial
theorem PySem.W.Fast.tw602827208436372363 : True := trivial
open PySem PySem.W PyProof.Rows
set_option maxRecDepth 100000 in
set_option maxHeartbeats 0 in
theorem PySem.Challenge.cw_worldfind_k54_unlike_counted_holds : PySem.Challenge.rw_worldfind_k54_unlike_counted.Holds := by
 w_on;o_law;k_head;(case hw=>w_witness2)
 k_fill
 refine L2.MS.walk (l:=PySem.Challenge.rw_worldfind_k54_unlike_counted) (x:= "_law_script") 8 ⟨rfl,by decide,by decide⟩ rfl rfl (fun w h Y=>PySem.W.kIn_of Y) ?F
 case F=>
  intro w mg fa h KX G hmg
  refine' L2.MS.all_mk KX G hmg ?p0 ?p1 ?p2 ?p3 ?p4 ?p5 ?p6 ?p7 ?p8 ?p9 ?p10 ?p11 ?p12 ?p13 ?p14 ?p15 ?p16 ?p17 ?p18 ?p19 ?p20 ?z0 ?z1 ?z2 ?z3 ?z4 ?z5 ?z6 ?z7 ?z8 ?z9 ?z10 ?z11 ?z12 ?z13 ?z14 ?z15 ?z16 ?z17 ?z18 ?z19 ?z20 ?o0 ?o1 ?o2 ?o3 ?cn0 ?xe1 ?xga1 ?xgn1 ?xcl1 ?xge1 ?xse1 ?xob1 ?xba1 ?xsu1 ?xty1 ?xcs1 ?xt0_1 ?xt1_1 ?xt2_1 ?xt3_1 ?xtv1 ?hb0
  (case p0=>constructor<;>k_is)
  (case p1=>constructor<;>k_is)
  (case p2=>constructor<;>k_is)
  (case p3=>constructor<;>k_is)
  (case p4=>constructor<;>k_is)
  (case p5=>constructor<;>k_is)
  (case p6=>constructor<;>k_is)
  (case p7=>constructor<;>k_is)
  (case p8=>constructor<;>k_is)
  (case p9=>constructor<;>k_is)
  (case p10=>constructor<;>k_is)
  (case p11=>constructor<;>k_is)
  (case p12=>constructor<;>k_is)
  (case p13=>constructor<;>k_is)
  (case p14=>constructor<;>k_is)
  (case p15=>constructor<;>k_is)
  (case p16=>constructor<;>k_is)
  (case p17=>constructor<;>k_is)
  (case p18=>constructor<;>k_is)
  (case p19=>constructor<;>k_is)
  (case p20=>constructor<;>k_is)
  (case z0=>k_is)
  (case z1=>k_is)
  (case z2=>k_is)
  (case z3=>k_is)
  (case z4=>k_is)
  (case z5=>k_is)
  (case z6=>k_is)
  (case z7=>k_is)
  (case z8=>k_is)
  (case z9=>k_is)
  (case z10=>k_is)
  (case z11=>k_is)
  (case z12=>k_is)
  (case z13=>k_is)
  (case z14=>k_is)
  (case z15=>k_is)
  (case z16=>k_is)
  (case z17=>k_is)
  (case z18=>k_is)
  (case z19=>k_is)
  (case z20=>k_is)
  (case o0=>k_is)
  (case o1=>k_is)
  (case o2=>k_is)
  (case o3=>k_is)
  (case cn0=>k_is)
  (case xe1=>k_exc)
  (case xga1=>k_is)
  (case xgn1=>k_is)
  (case xcl1=>k_is)
  (case xge1=>k_is)
  (case xse1=>k_is)
  (case xob1=>k_is)
  (case xba1=>k_is)
  (case xsu1=>k_is)
  (case xty1=>k_is)
  (case xcs1=>k_is)
  (case xt0_1=>kit_is)
  (case xt1_1=>kit_is)
  (case xt2_1=>kit_is)
  (case xt3_1=>kit_is)
  (case xtv1=>kit_is)
  (case hb0=>k_is)
