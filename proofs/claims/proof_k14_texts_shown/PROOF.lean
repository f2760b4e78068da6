import PyProof.Rows.All
import Wide.All
import OpenK.AllK
import Wide.FinOn
import Lean
import PyProof.EqAt
import PyProof.EqKinds
import PyProof.TupleCall
import PyProof.NeKinds
import PyProof.NsDelKeeps
import KE.KRevSl
import PyProof.StrWalks
import PyProof.ConsumeWalk
import PyProof.SumWalk
import PyProof.Rows.SortStr
import PyProof.SumWalkG
import PyProof.StrCalls2
import PyProof.StrLawsIdx
import PyProof.WalkInts
import PyProof.StrOps2
import PyProof.SliceStr2
import PyProof.Draws
import PyProof.EnumMake
import PyProof.Rows.SetFrom
import PyProof.SetRoads
import PyProof.WalksMore
import PyProof.ListRange
import PyProof.TupleOfSeq
import PyProof.TupleOfGen
import PyProof.Rows.SortShell
import PyProof.ZipIter
import PyProof.DictStraight
import PyProof.TupleKey
import PyProof.DictRoadsH
import PyProof.DictTruth
import PyProof.Rows.TupTab
import KE.KTabLook
import PyProof.FString
import PyProof.CallStr
import PySem.Challenge.RW_worldfind_k14_texts_shown
set_option Elab.async false
set_option linter.all false
set_option maxRecDepth 100000
namespace L2
open PySem PySem.Spec PyProof.Rows
abbrev Key:=Sum Int Str
def keyIs:Key->Value->Bool
 | .inl k,v=>Value.isInt k v
 | .inr x,v=>Value.isStrOf x v
def keyH (w:World):Key->Int
 | .inl k=>hashInt k
 | .inr x=>hashStr w x
theorem Zb: ∀ {k:Key}{v:Value},keyIs k v=true->(∃ i t,k=Sum.inl i/\v=Value.int i t)\/(∃ x t,k=Sum.inr x/\v=Value.str x t)
 | .inl i,v,h=>by
  obtain⟨t,e⟩:=Value.isInt_shape (k:=i) (v:=v) h
  exact .inl ⟨i,t,rfl,e⟩
 | .inr x,v,h=>by
  obtain⟨t,e⟩:=Value.isStrOf_shape (x:=x) (v:=v) h
  exact .inr ⟨x,t,rfl,e⟩
theorem zaL (a b:Int):decide ((Sum.inl a:Key)=Sum.inl b)=(a==b):=by
 by_cases e:a=b
 ·subst e;simp
 ·have h: ¬(Sum.inl a:Key)=Sum.inl b:=fun q=>e (Sum.inl.inj q)
  rw [decide_eq_false h]
  exact(beq_eq_false_iff_ne.mpr e).symm
theorem qas (a b:Str):decide ((Sum.inr a:Key)=Sum.inr b)=decide (a=b):=by
 by_cases e:a=b
 ·subst e;simp
 ·have h: ¬(Sum.inr a:Key)=Sum.inr b:=fun q=>e (Sum.inr.inj q)
  rw [decide_eq_false h,decide_eq_false e]
theorem zay (a:Int) (b:Str):decide ((Sum.inl a:Key)=Sum.inr b)=false:=decide_eq_false (fun q=>nomatch q)
theorem xax (a:Str) (b:Int):decide ((Sum.inr a:Key)=Sum.inl b)=false:=decide_eq_false (fun q=>nomatch q)
def mixKind (prog:Program) (w:World):PySem.KeyKind prog w Key where
 is:=keyIs
 hash:=keyH w
 inj:=fun v a b ha hb=>by
  rcases Zb ha with⟨i,t,rfl,rfl⟩ | ⟨x,t,rfl,rfl⟩
  ·rcases Zb hb with⟨j,u,rfl,e⟩ | ⟨y,u,rfl,e⟩
   ·injection e with e1 _;rw [e1]
   ·exact nomatch e
  ·rcases Zb hb with⟨j,u,rfl,e⟩ | ⟨y,u,rfl,e⟩
   ·exact nomatch e
   ·injection e with e1 _;rw [e1]
 byValue:=fun k v h=>by
  rcases Zb h with⟨i,t,rfl,rfl⟩ | ⟨x,t,rfl,rfl⟩<;>rfl
 pyHash:=fun hv h=>by
  rcases Zb hv with⟨i,t,rfl,rfl⟩ | ⟨x,t,rfl,rfl⟩
  ·exact wpAny_pyHash_int h
  ·exact wpAny_pyHash_str h
 eqBool:=fun hu hv h=>by
  rcases Zb hu with⟨i,t,rfl,rfl⟩ | ⟨x,t,rfl,rfl⟩
  ·rcases Zb hv with⟨j,u,rfl,rfl⟩ | ⟨y,u,rfl,rfl⟩
   ·rw [zaL]at h;exact wpAny_eqBool_int h
   ·rw [zay]at h;exact SeqAt.EqAt.int_str i t y u _ _ _ _ h
  ·rcases Zb hv with⟨j,u,rfl,rfl⟩ | ⟨y,u,rfl,rfl⟩
   ·rw [xax]at h;exact SeqAt.EqAt.str_int x t j u _ _ _ _ h
   ·rw [qas]at h;exact wpAny_eqBool_str h
 «strs» :=fun k x t v h=>by
  rcases Zb h with⟨i,u,rfl,e⟩ | ⟨y,u,rfl,e⟩
  ·exact nomatch e
  ·injection e with e1 _
   subst e1
   cases v<;>rfl
theorem zar (prog:Program) (w:World) (k:Key) (v:Value):(mixKind prog w).is k v=keyIs k v:=rfl
end L2
namespace L2
open PySem PySem.Spec PyProof.Rows
inductive V where
 | non | bl (b:Bool) | int (i:Int) | str (x:Str) | byt (b:Array UInt8) | flt (b:UInt64) | ref (a:Addr) | ty (n:String)
 deriving DecidableEq
def RelV:V->Value->Prop
 | .non,u=>u=Value.none
 | .bl b,u=>u=Value.bool b
 | .int i,u=> ∃t,u=Value.int i t
 | .str x,u=> ∃t,u=Value.str x t
 | .byt b,u=> ∃t,u=Value.bytes b t
 | .flt b,u=> ∃t,u=Value.float b t
 | .ref a,u=>u=Value.ref a
 | .ty n,u=>u=Value.type n
abbrev Vals:List V->List Value->Prop:=Paired RelV
theorem Vals.length {xs:List V}{us:List Value}(r:Vals xs us):xs.length=us.length:=Paired.length r
theorem Vals.get: ∀ {xs:List V}{us:List Value}{i:Nat}{x:V},Vals xs us->xs[i]? =some x-> ∃u,us[i]? =some u/\RelV x u
 | _,_,_,_,.nil,e=>by simp at e
 | _,_,0,_,.cons r _,e=>by simp at e;subst e;exact⟨_,rfl,r⟩
 | _,_,i+1,x,.cons _ t,e=>by
  obtain⟨u,h1,h2⟩:=Vals.get (i:=i) (x:=x) t (by simpa using e)
  exact⟨u,by simpa using h1,h2⟩
theorem Vals.set {x:V}{u:Value}(r:RelV x u): ∀ {xs:List V}{us:List Value}(i:Nat),Vals xs us->Vals (xs.set i x) (us.set i u)
 | _,_,_,.nil=> .nil
 | _,_,0,.cons _ t=> .cons r t
 | _,_,i+1,.cons q t=> .cons q (Vals.set r i t)
theorem Vals.append: ∀ {xs ys:List V}{us ws:List Value},Vals xs us->Vals ys ws->Vals (xs++ys) (us++ws)
 | _,_,_,_,.nil,s=>s
 | _,_,_,_,.cons r t,s=> .cons r (Vals.append t s)
theorem Vals.take: ∀ {xs:List V}{us:List Value}(n:Nat),Vals xs us->Vals (xs.take n) (us.take n)
 | _,_,0,_=> .nil
 | _,_,_+1,.nil=> .nil
 | _,_,n+1,.cons r t=> .cons r (Vals.take n t)
theorem Vals.drop: ∀ {xs:List V}{us:List Value}(n:Nat),Vals xs us->Vals (xs.drop n) (us.drop n)
 | _,_,0,r=>r
 | _,_,_+1,.nil=> .nil
 | _,_,n+1,.cons _ t=>Vals.drop n t
def RelO:Option V->Option Value->Prop
 | some v,some u=>RelV v u
 | none,none=>True
 | _,_=>False
def KV {κ:Type}:List (κ×V)->List (κ×Value)->Prop:=Paired fun(p:κ×V) (q:κ×Value)=>p.1=q.1/\RelV p.2 q.2
def kV:Key->V
 | .inl i=> .int i
 | .inr x=> .str x
inductive HO where
 | lst (xs:List V)
 | tup (xs:List V)
 | dK (kvs:List (Key×V)) | dT (kvs:List (List Key×V))
 | set (S:Int->Bool) (n:Nat)
 | ins (C dx:Addr) (fs:List (Str×V))
 | own (x:Addr)
 | xd (fs:List (Str×V))
 | met (f x:Addr)
 | rng (lo hi:Int)
 | frz (o:Obj) (u:HO)
 | tbl (ps:Array Value)
 | ext (φ:Heap->Prop)
abbrev Hp:=Addr->Option HO
def upd (H:Hp) (a:Addr) (o:HO):Hp:=fun b=>if b=a then some o else H b
theorem xc {H:Hp}{a:Addr}{o:HO}:upd H a o a=some o:=by unfold upd;rw [if_pos rfl]
theorem ja {H:Hp}{a b:Addr}{o:HO}(h:b≠a):upd H a o b=H b:=by unfold upd;rw [if_neg h]
theorem xa {H:Hp}{a b:Addr}{o:HO}(h:H a=some o) (h':H b=none):a≠b:=by
 intro e;subst e;rw [h]at h';cases h'
def PTup (h:Heap) (a:Addr) (items:Array Value):Prop:= ∃o,h.get? a=some o/\o.cls= .type "tuple" /\o.dict=none/\ ∃n,o.data= .seq items n
theorem PTup.is {h:Heap}{a:Addr}{items:Array Value}(p:PTup h a items):IsTup h a items:=let ⟨o,e,c,_,n,d⟩:=p; ⟨o,e,c,n,d⟩
theorem PTup.lt {h:Heap}{a:Addr}{items:Array Value}(p:PTup h a items):a<h.objs.size:=p.is.lt
theorem PTup.new (h:Heap) (items:Array Value):PTup (h.push { cls:= .type "tuple",data:= .seq items }) h.objs.size items:=⟨_,Heap.get?_push_size _ rfl,rfl,rfl,_,rfl⟩
section
variable (P:Program) (w:World)
def ObjOk (H:Hp) (h:Heap) (a:Addr):HO->Prop
 | .lst xs=>xs.length<=sizeLine/\ ∃(its:List Value) (n:Nat),Vals xs its/\h.get? a=some { cls:= .type "list",data:= .seq its.toArray n }
 | .tup xs=>xs.length<=sizeLine/\ ∃its:List Value,Vals xs its/\PTup h a its.toArray
 | .dK kvs=>kvs.length<=sizeLine/\(a==sysModules)=false/\ ∃vs,KV kvs vs/\h.DictOf (mixKind P w) a vs
 | .dT kvs=>kvs.length<=sizeLine/\(a==sysModules)=false/\ ∃xs:List (List Key×Addr×Value),
  Paired (fun (p:List Key×V) (q:List Key×Addr×Value)=>p.1=q.1/\H q.2.1=some (.tup (p.1.map kV))/\RelV p.2 q.2.2) kvs xs ∧
  ∃o es ep,h.get? a=some o/\o.ExactDict/\o.data= .dict es ep/\es.toList=xs.map (entryOfKey (tupleKind (mixKind P w)))/\(xs.map (·.1)).Nodup
 | .set S n=>h.SetOf (intKind P w) a S n
 | .ins C dx fs=>H dx=some (.own a)/\fs.length<=1000/\dx≠a/\h.get? a=some (PySem.W.instObj C dx) ∧
  ∃mA,h.Ns1 dx mA/\(∀ f,RelO (fs.lookup f) (mA f))/\PySem.Within mA (fs.map (·.1))
 | .own _=> ∃o,h.get? a=some o
 | .xd fs=> ∃mA,h.Ns1 a mA/\ ∀f,RelO (fs.lookup f) (mA f)
 | .rng lo hi=> ∃t u v,h.get? a=some { cls:= .type "range",data:= .fields #[.int lo t,.int hi u,.int 1 v] }
 | .frz o u=>h.get? a=some o/\ObjOk H h a u
 | .tbl ps=>h.get? a=some { cls:= .none,data:= .fields ps }
 | .met f x=>h.get? a=some (PySem.W.methodObj (.ref f) (.ref x))
 | .ext φ=>φ h/\(∃ o,h.get? a=some o)/\ ∀h1 h2:Heap,φ h1->(∀ o,h1.get? a=some o->h2.get? a=some o)->φ h2
def HOk (H:Hp) (h:Heap):Prop:= ∀a o,H a=some o->ObjOk P w H h a o
end
section
variable {P:Program}{w:World}{H H':Hp}{h h':Heap}{a:Addr}{o:HO}
theorem ObjOk.lt (x:ObjOk P w H h a o):a<h.objs.size:=by
 cases o with
 | lst xs=>obtain⟨_,_,_,_,e⟩:=x;exact Heap.lt_size e
 | tup xs=>obtain⟨_,_,_,p⟩:=x;exact p.lt
 | dK kvs=>obtain⟨_,_,_,_,o,_,_,e,_⟩:=x;exact Heap.lt_size e
 | dT kvs=>obtain⟨_,_,_,_,o,_,_,e,_⟩:=x;exact Heap.lt_size e
 | set S n=>obtain⟨o,_,_,_,e,_⟩:=x;exact Heap.lt_size e
 | ins C dx fs=>obtain⟨_,_,_,e,_⟩:=x;exact Heap.lt_size e
 | own y=>obtain⟨_,e⟩:=x;exact Heap.lt_size e
 | xd fs=>obtain⟨_,⟨_,_,_,e,_⟩,_⟩:=x;exact Heap.lt_size e
 | rng lo hi=>obtain⟨_,_,_,e⟩:=x;exact Heap.lt_size e
 | frz ob u=>obtain⟨e,_⟩:=x;exact Heap.lt_size e
 | tbl ps=>exact Heap.lt_size (show h.get? a=some _ from x)
 | met f y=>exact Heap.lt_size (show h.get? a=some _ from x)
 | ext φ=>obtain⟨_,⟨_,e⟩,_⟩:=x;exact Heap.lt_size e
theorem Paired.mapP {α β:Type}{F G:α->β->Prop}: ∀ {l₁:List α}{l₂:List β},Paired F l₁ l₂->(∀ a b,F a b->G a b)->Paired G l₁ l₂
 | _,_,.nil,_=> .nil
 | _,_,.cons r t,f=> .cons (f _ _ r) (Paired.mapP t f)
theorem ObjOk.stay (x:ObjOk P w H h a o) (k: ∀b u,(b=a\/H b=some (.own a))->h.get? b=some u->h'.get? b=some u)
 (ho: ∀b,H b=some (.own a)->H' b=some (.own a)) (ht: ∀b xs,H b=some (.tup xs)->H' b=some (.tup xs)):ObjOk P w H' h' a o:=by
 induction o with
 | lst xs=>obtain⟨z,its,n,r,e⟩:=x;exact⟨z,its,n,r,k _ _ (.inl rfl) e⟩
 | tup xs=>obtain⟨z,its,r,ob,e,c⟩:=x;exact⟨z,its,r,ob,k _ _ (.inl rfl) e,c⟩
 | dK kvs=>obtain⟨z,y,vs,r,ob,es,ep,e,c⟩:=x;exact⟨z,y,vs,r,ob,es,ep,k _ _ (.inl rfl) e,c⟩
 | dT kvs=>
  obtain⟨z,y,xs,r,ob,es,ep,e,c⟩:=x
  exact⟨z,y,xs,Paired.mapP r fun p q z=>⟨z.1,ht _ _ z.2.1,z.2.2⟩,ob,es,ep,k _ _ (.inl rfl) e,c⟩
 | set S n=>obtain⟨ob,es,ep,t,e,c⟩:=x;exact⟨ob,es,ep,t,k _ _ (.inl rfl) e,c⟩
 | ins C dx fs=>
  obtain⟨d,z,ne,e,mA,⟨od,es,ep,e2,c⟩,r⟩:=x
  exact⟨ho _ d,z,ne,k _ _ (.inl rfl) e,mA,⟨od,es,ep,k _ _ (.inr d) e2,c⟩,r⟩
 | own y=>obtain⟨ob,e⟩:=x;exact⟨ob,k _ _ (.inl rfl) e⟩
 | xd fs=>obtain⟨mA,⟨od,es,ep,e,c⟩,r⟩:=x;exact⟨mA,⟨od,es,ep,k _ _ (.inl rfl) e,c⟩,r⟩
 | rng lo hi=>obtain⟨t,u,v,e⟩:=x;exact⟨t,u,v,k _ _ (.inl rfl) e⟩
 | frz ob u ih=>obtain⟨e,q⟩:=x;exact⟨k _ _ (.inl rfl) e,ih q⟩
 | tbl ps=>
  have e:h.get? a=some { cls:= .none,data:= .fields ps }:=x
  show h'.get? a=some { cls:= .none,data:= .fields ps }
  exact k a _ (.inl rfl) e
 | met f y=>
  have e:h.get? a=some (PySem.W.methodObj (.ref f) (.ref y)):=x
  show h'.get? a=some (PySem.W.methodObj (.ref f) (.ref y))
  exact k a _ (.inl rfl) e
 | ext φ=>obtain⟨p,⟨o,e⟩,st⟩:=x;exact⟨st _ _ p fun o q=>k _ _ (.inl rfl) q,⟨o,k _ _ (.inl rfl) e⟩,st⟩
theorem HOk.lt (x:HOk P w H h) (e:H a=some o):a<h.objs.size:=(x a o e).lt
theorem HOk.fresh (x:HOk P w H h) (e:h.objs.size<=a):H a=none:=by
 cases q:H a with
 | none=>rfl
 | some u=>exact absurd (Nat.lt_of_lt_of_le (x.lt q) e) (Nat.lt_irrefl _)
theorem HOk.kept (x:HOk P w H h) (k: ∀b u,h.get? b=some u->h'.get? b=some u):HOk P w H h':=fun a o e=>
 (x a o e).stay (fun b u _ q=>k b u q) (fun _ q=>q) fun _ _ q=>q
theorem HOk.laid (x:HOk P w H h) (k: ∀b u,h.get? b=some u->h'.get? b=some u) (hp:h.objs.size<=a) (new:ObjOk P w (upd H a o) h' a o):HOk P w (upd H a o) h':=fun b u e=>by
 have hn:=x.fresh hp
 by_cases hb:b=a
 ·subst hb;rw [xc]at e;cases e;exact new
 ·rw [ja hb]at e
  exact(x b u e).stay (fun c v _ q=>k c v q) (fun c q=>by rw [ja (xa q hn)];exact q) fun c xs q=>by rw [ja (xa q hn)];exact q
end
def Rd (H:Hp) (a:Addr) (u:HO):Prop:=H a=some u\/ ∃o,H a=some (.frz o u)
theorem Rd.ok {P:Program}{w:World}{H:Hp}{h:Heap}{a:Addr}{u:HO}(r:Rd H a u) (x:HOk P w H h):ObjOk P w H h a u:=by
 rcases r with r | ⟨o,r⟩
 ·exact x a u r
 ·obtain⟨_,q⟩:=x a _ r
  exact q
def Mut:Option HO->Prop
 | some (.lst _)=>True
 | some (.dK _)=>True
 | some (.dT _)=>True
 | some (.set _ _)=>True
 | some (.ins _ _ _)=>True
 | some (.ext _)=>True
 | _=>False
section
variable {P:Program}{w:World}{H:Hp}{h h':Heap}{x e:Addr}{o':HO}
theorem HOk.write (ok:HOk P w H h) (mu:Mut (H x)) (he:e=x\/H e=some (.own x)) (k: ∀b u,b≠e->h.get? b=some u->h'.get? b=some u) (heo: ∃u,h'.get? e=some u)
 (new:ObjOk P w (upd H x o') h' x o'):HOk P w (upd H x o') h':=fun b u q=>by
 have nown: ∀c y,H c=some (.own y)->c≠x:=fun c y r z=>by subst z;rw [r]at mu;exact mu
 have ntup: ∀c xs,H c=some (.tup xs)->c≠x:=fun c xs r z=>by subst z;rw [r]at mu;exact mu
 by_cases hb:b=x
 ·subst hb;rw [xc]at q;cases q;exact new
 ·rw [ja hb]at q
  by_cases hbe:b=e
  ·have q':H b=some (.own x):=by
    rcases he with z | z
    ·exact absurd (hbe.trans z) hb
    ·rw [hbe];exact z
   rw [q]at q';cases q'
   obtain⟨v,hv⟩:=heo
   exact⟨v,by rw [hbe];exact hv⟩
  ·refine(ok b u q).stay (fun c v hc r=>k c v ?_ r) (fun c r=>by rw [ja (nown c b r)];exact r) fun c xs r=>by rw [ja (ntup c xs r)];exact r
   rcases hc with rfl | hc
   ·exact hbe
   ·rintro rfl
    rcases he with z | z
    ·exact nown c b hc z
    ·rw [hc]at z;cases z;exact hb rfl
end
structure Un (fs ex:List Addr) (H H':Hp) (h h':Heap):Prop where
 keep: ∀b o,h.get? b=some o->H b=none->b∉fs->b∉ex->h'.get? b=some o
 slot: ∀b o,h.get? b=some o->H b=none->b∈fs->b∉ex-> ∃sl,h'.get? b=some { o with slots:=sl }
 free: ∀b o,h.get? b=some o->H b=none->b∉ex->H' b=none
 there: ∀b o,h.get? b=some o->b∉ex-> ∃o',h'.get? b=some o'
 tups: ∀b xs,H b=some (.tup xs)->H' b=some (.tup xs)
 frzs: ∀b o u,H b=some (.frz o u)->H' b=some (.frz o u)
 tbls: ∀b ps,H b=some (.tbl ps)-> ∃more,H' b=some (.tbl (ps++more))
section
variable {fs fs' ex ex':List Addr}{H H1 H2:Hp}{h h1 h2 h':Heap}{a x e:Addr}{o:HO}
theorem Un.any (u:Un fs ex H H1 h h1){b:Addr}{ob:Obj}(q:h.get? b=some ob) (n:H b=none) (hx:b∉ex): ∃sl,h1.get? b=some { ob with slots:=sl }:=by
 by_cases hb:b∈fs
 ·exact u.slot b ob q n hb hx
 ·exact⟨ob.slots,u.keep b ob q n hb hx⟩
theorem Un.kept (k: ∀b u,h.get? b=some u->h'.get? b=some u):Un fs ex H H h h':=
 ⟨fun b ob q _ _ _=>k b ob q,fun b ob q _ _ _=>⟨ob.slots,k b ob q⟩,fun _ _ _ n _=>n,fun b ob q _=>⟨ob,k b ob q⟩,fun _ _ q=>q,fun _ _ _ q=>q,fun _ ps q=>⟨#[],by rw [q];simp⟩⟩
theorem Un.refl:Un fs ex H H h h:=Un.kept fun _ _ q=>q
theorem Un.laid (k: ∀b u,h.get? b=some u->h'.get? b=some u) (hp:h.objs.size<=a) (hn:H a=none):Un fs ex H (upd H a o) h h' where
 keep:=fun b u q _ _ _=>k b u q
 slot:=fun b u q _ _ _=>⟨u.slots,k b u q⟩
 free:=fun b u q n _=>by rw [ja (Nat.ne_of_lt (Nat.lt_of_lt_of_le (Heap.lt_size q) hp))];exact n
 there:=fun b u q _=>⟨u,k b u q⟩
 tups:=fun b xs q=>by rw [ja (xa q hn)];exact q
 frzs:=fun b u xs q=>by rw [ja (xa q hn)];exact q
 tbls:=fun b ps q=>⟨#[],by rw [ja (xa q hn),q];simp⟩
theorem Un.write (mu:Mut (H x)) (he:e=x\/H e=some (.own x)) (k: ∀b u,b≠e->h.get? b=some u->h'.get? b=some u) (heo: ∃u,h'.get? e=some u):Un fs ex H (upd H x o) h h':=by
 have hx: ∀b,H b=none->b≠x:=fun b n z=>by subst z;rw [n]at mu;exact mu
 have hb: ∀b,H b=none->b≠e:=fun b n z=>by
  subst z
  rcases he with r | r
  ·exact hx b n r
  ·rw [n]at r;cases r
 have hm: ∀b u,H b=some u-> ¬Mut (some u)->b≠x:=fun b u q nm z=>by subst z;rw [q]at mu;exact nm mu
 refine⟨fun b u q n _ _=>k b u (hb b n) q,fun b u q n _ _=>⟨u.slots,k b u (hb b n) q⟩,fun b u q n _=>by rw [ja (hx b n)];exact n,fun b u q _=> ?_,
  fun b xs q=>by rw [ja (hm b _ q fun z=>z)];exact q,fun b u xs q=>by rw [ja (hm b _ q fun z=>z)];exact q,fun b ps q=>⟨#[],by rw [ja (hm b _ q fun z=>z),q];simp⟩⟩
 by_cases hbe:b=e
 ·subst hbe;exact heo
 ·exact⟨u,k b u hbe q⟩
end
def trk (h:Heap) (H:Hp):List Addr:=(List.range h.objs.size).filter fun a=>(H a).isSome
def hidT (h:Heap) (H:Hp):Heap:=PySem.W.hideAll h (trk h H)
theorem ZN (h:Heap) (H:Hp):(hidT h H).objs.size=h.objs.size:=PySem.W.hideAll_size _ _
theorem ZY {h:Heap}{H:Hp}{b:Addr}{o:Obj}(e:h.get? b=some o) (n:H b=none):(hidT h H).get? b=some o:=
 PySem.W.hideAll_get _ e fun hm=>by
  have q:(H b).isSome=true:=(List.mem_filter.mp hm).2
  rw [n]at q;simp at q
theorem X9 {h:Heap}{H:Hp}{b:Addr}{o:Obj}(e:(hidT h H).get? b=some o):h.get? b=some o/\H b=none:=by
 have e':h.get? b=some o:=PySem.W.of_hideAll (trk h H) e
 refine⟨e',?_⟩
 cases q:H b with
 | none=>rfl
 | some x=>
  have hm:b∈trk h H:=List.mem_filter.mpr ⟨List.mem_range.mpr (Heap.lt_size e'),by simp [q]⟩
  have z:(hidT h H).get? b=none:=PySem.W.hideAll_none (trk h H) hm
  rw [z]at e;cases e
def allNews (g h:Heap) (L:Addr):List (Addr×Obj):=(List.range h.objs.size).filterMap fun a=>if a=L\/(g.get? a).isSome=true then none else(h.get? a).map fun o=>(a,o)
def rest (g h:Heap) (L d:Addr):List (Addr×Obj):=(allNews g h L).filter fun p=>decide (p.1≠d)
end L2
namespace L2
open PySem PySem.Spec PyProof.Rows
structure Mod (K:PySem.W.Frag) (mg:Str->Option Value) (base:Heap):Prop where
 kin:K.In base
 glob:base.Ns mainGlobals mg
 blt: ∃mb,base.Ns builtinsNs mb/\ ∀x:Str,x≠ "__name__" ->mb x=bootBuiltins x
 nolimit:base.NoLimit
structure Cx where
 prog:Program
 w:World
 K:PySem.W.Frag
 mg:Str->Option Value
 base:Heap
 A:Around
 N:List Str
 s₀:Shared
 H₀:Hp
 env:Env
 outer:List Env
 stack:List Env
 ex:List Addr
 fn:Str->Bool
 calm:Bool
 pn:List (Addr×Obj)
 xe:Value->Shared->Prop
def frs (l:List Env):List Addr:=l.filterMap (·.frame)
abbrev Cx.fs (X:Cx):List Addr:=frs X.outer
def Vis (sc:Scope) (x:Str):Prop:=sc.names.lookup x=some .local\/sc.names.lookup x=some .cell\/sc.names.lookup x=some .free
def Loc (sc:Scope) (x:Str):Prop:=sc.names.lookup x=some .local\/sc.names.lookup x=some .cell
def Look (env:Env) (h:Heap) (m:Str->Option Value) (x:Str) (u:Value):Prop:=
 (env.kindOf x=some .local/\m x=some u)\/((env.kindOf x=some .cell\/env.kindOf x=some .free)/\ ∃c,env.cells.lookup x=some c/\h.IsCell c (some u))
structure Cx.Ok (X:Cx):Prop where
 mod:Mod X.K X.mg X.base
 kind:X.env.scope.kind= .function
 glob:X.env.globals=mainGlobals
 blt:X.env.builtins=builtinsNs
 above:X.s₀.heap.objs.size<=X.env.locals
 inj: ∀x y c,X.env.cells.lookup x=some c->X.env.cells.lookup y=some c->x=y
 has: ∀x,(X.env.kindOf x=some .cell\/X.env.kindOf x=some .free)-> ∃c,X.env.cells.lookup x=some c
 cab: ∀x c,X.fn x=true->X.env.cells.lookup x=some c->X.s₀.heap.objs.size<=c
 hd:X.calm=true->X.A.handled=none
 frames:X.A.frames=some X.stack
 stk:X.stack=X.outer\/(X.stack=X.env::X.outer/\X.env.frame=some X.env.locals)
 exf: ∀b∈X.ex,b≠X.env.locals/\ ∀x c,X.env.cells.lookup x=some c->c≠b
 bs: ∀b o,X.base.get? b=some o->X.s₀.heap.get? b=some o/\X.H₀ b=none
 bsz:X.base.objs.size<=X.s₀.heap.objs.size
 noex: ∀b o,X.base.get? b=some o->b∉X.ex
 exfs: ∀b∈X.ex,b∉X.fs
 funs:X.s₀.heap.FunFrames X.base X.outer
 frf: ∀b∈X.fs,X.H₀ b=none
structure Inv (X:Cx) (pins:List (Addr×Obj)) (σ:List (Option V)) (H:Hp) (s:Shared):Prop where
 ok:X.Ok
 os:s.os=X.s₀.os
 bare:AllBare s.gens
 base:Un X.fs X.ex X.H₀ H X.s₀.heap s.heap
 loc: ∃m,s.heap.Ns X.env.locals m/\ ∀(i:Nat) (x:Str) (v:V),X.N[i]? =some x->σ[i]? =some (some v)->Vis X.env.scope x-> ∃u,RelV v u/\Look X.env s.heap m x u
 cell: ∀x c,X.env.cells.lookup x=some c-> ∃v,s.heap.IsCell c v
 free:H X.env.locals=none
 freeC: ∀x c,X.env.cells.lookup x=some c->H c=none
 pin: ∀p∈X.pn++pins,s.heap.get? p.1=some p.2/\H p.1=none/\p.1≠X.env.locals/\p.1∉X.fs/\ ∀v,p.2.data≠ .cell v
 hok:HOk X.prog X.w H s.heap
 len:σ.length=X.N.length
section
variable {X:Cx}{pins:List (Addr×Obj)}{σ:List (Option V)}{H H':Hp}{s:Shared}{h':Heap}
theorem Cx.Ok.nofr (ok:X.Ok){b:Addr}{o:Obj}(e:X.base.get? b=some o):b∉X.fs:=fun hb=>by
 have:=(ok.funs.mem hb).1
 rw [e]at this;cases this
theorem Inv.bs (I:Inv X pins σ H s): ∀b o,X.base.get? b=some o->s.heap.get? b=some o/\H b=none:=fun b o e=>
 ⟨I.base.keep b o (I.ok.bs b o e).1 (I.ok.bs b o e).2 (I.ok.nofr e) (I.ok.noex b o e),I.base.free b o (I.ok.bs b o e).1 (I.ok.bs b o e).2 (I.ok.noex b o e)⟩
theorem Inv.bk (I:Inv X pins σ H s): ∀b o,X.base.get? b=some o->s.heap.get? b=some o:=fun b o e=>(I.bs b o e).1
theorem Inv.mod (I:Inv X pins σ H s):Mod X.K X.mg X.base:=I.ok.mod
theorem Inv.kIn (I:Inv X pins σ H s):X.K.In s.heap:=I.ok.mod.kin.keeps I.bk
theorem Inv.lt (I:Inv X pins σ H s):X.env.locals<s.heap.objs.size:=let ⟨_,hn,_⟩:=I.loc;hn.lt
theorem Inv.sz (I:Inv X pins σ H s):X.s₀.heap.objs.size<=s.heap.objs.size:=Nat.le_trans I.ok.above (Nat.le_of_lt I.lt)
theorem Inv.nofs (I:Inv X pins σ H s){a:Addr}(h:s.heap.objs.size<=a):a∉X.fs:=fun hb=>by
 obtain⟨_,o,ho,_⟩:=I.ok.funs.mem hb
 exact absurd (Nat.lt_of_lt_of_le (Heap.lt_size ho) (Nat.le_trans I.sz h)) (Nat.lt_irrefl _)
theorem Inv.cne (I:Inv X pins σ H s): ∀x c,X.env.cells.lookup x=some c->c≠X.env.locals:=fun x c e z=>by
 obtain⟨v,o,ho,hd⟩:=I.cell x c e
 obtain⟨m,⟨o',es,ep,ho',hd',_⟩,_⟩:=I.loc
 rw [z,ho']at ho;cases ho;rw [hd']at hd;cases hd
theorem Inv.funs (I:Inv X pins σ H s):s.heap.FunFrames X.base X.outer:=by
 have all: ∀(l:List Env),(∀ b∈frs l,b∈X.fs)->X.s₀.heap.FunFrames X.base l->s.heap.FunFrames X.base l:=by
  intro l
  induction l with
  | nil=>intro _ _;trivial
  | cons env r ih=>
   intro hs hl
   obtain⟨hk,⟨L,o,hf,hn,ho,hd⟩,hr⟩:=hl
   have hL:L∈X.fs:=hs L (by unfold frs;rw [List.filterMap_cons,hf];exact List.mem_cons_self)
   obtain⟨sl,e⟩:=I.base.slot L o ho (I.ok.frf L hL) hL fun z=>I.ok.exfs L z hL
   exact⟨hk,⟨L,_,hf,hn,e,hd⟩,ih (fun b hb=>hs b (by unfold frs;rw [List.filterMap_cons,hf];exact List.mem_cons_of_mem _ hb)) hr⟩
 exact all X.outer (fun _ hb=>hb) I.ok.funs
theorem Inv.stack (I:Inv X pins σ H s):s.heap.FunFrames X.base X.stack:=by
 rcases I.ok.stk with e | ⟨e,hf⟩
 ·rw [e];exact I.funs
 ·rw [e]
  obtain⟨m,hn,_⟩:=I.loc
  refine .cons (by rw [I.ok.kind];decide) hf hn ?_ I.funs
  exact Heap.get?_none_of_le (Nat.le_trans I.ok.bsz I.ok.above)
theorem Inv.stkSub (I:Inv X pins σ H s): ∀b∈frs X.stack,b∈X.env.locals::X.fs:=fun b hb=>by
 rcases I.ok.stk with e | ⟨e,hf⟩
 ·rw [e]at hb;exact List.mem_cons_of_mem _ hb
 ·rw [e]at hb
  unfold frs at hb
  rw [List.filterMap_cons,hf]at hb
  exact hb
theorem Inv.stkFree (I:Inv X pins σ H s): ∀b∈frs X.stack,H b=none:=fun b hb=>by
 rcases List.mem_cons.mp (I.stkSub b hb)with e | hb
 ·rw [e];exact I.free
 ·obtain⟨_,o,ho,_⟩:=I.ok.funs.mem hb
  exact I.base.free b o ho (I.ok.frf b hb) fun z=>I.ok.exfs b z hb
theorem Inv.step {g':Array GenState}{t':Nat}{d':Drawn}{ch:List Addr}(I:Inv X pins σ H s)
 (hch: ∀b∈ch,(b∈X.ex\/X.s₀.heap.objs.size<=b)/\b≠X.env.locals/\(∀ x c,X.env.cells.lookup x=some c->c≠b)/\ ∀p∈X.pn++pins,p.1≠b)
 (keep: ∀b o,b≠X.env.locals->b∉X.fs->b∉ch->s.heap.get? b=some o->H b=none->h'.get? b=some o)
 (slot: ∀b o,b≠X.env.locals->b∈X.fs->b∉ch->s.heap.get? b=some o->H b=none-> ∃sl,h'.get? b=some { o with slots:=sl }) (free: ∀b o,b∉ch->s.heap.get? b=some o->H b=none->H' b=none)
 (there: ∀b o,b∉ch->s.heap.get? b=some o-> ∃o',h'.get? b=some o')
 (tups: ∀b xs,H b=some (.tup xs)->H' b=some (.tup xs)) (frzs: ∀b o u,H b=some (.frz o u)->H' b=some (.frz o u)) (tbls: ∀b ps,H b=some (.tbl ps)-> ∃more,H' b=some (.tbl (ps++more)))
 (ns: ∀m,s.heap.Ns X.env.locals m->h'.Ns X.env.locals m) (hok:HOk X.prog X.w H' h') (hg:AllBare g'):
 Inv X pins σ H' { s with heap:=h',gens:=g',drawn:=d',toks:=t' }:=by
 have neL: ∀b o,X.s₀.heap.get? b=some o->b≠X.env.locals:=fun b o e=>Nat.ne_of_lt (Nat.lt_of_lt_of_le (Heap.lt_size e) I.ok.above)
 have neC: ∀b o,X.s₀.heap.get? b=some o->b∉X.ex->b∉ch:=fun b o e hx hb=>by
  rcases (hch b hb).1 with z | z
  ·exact hx z
  ·exact absurd (Nat.lt_of_lt_of_le (Heap.lt_size e) z) (Nat.lt_irrefl _)
 have cellK: ∀x c,X.env.cells.lookup x=some c-> ∀v,s.heap.IsCell c v->h'.IsCell c v:=fun x c e v ⟨o,ho,hd⟩=>by
  have nch:c∉ch:=fun z=>(hch c z).2.2.1 x c e rfl
  by_cases hc:c∈X.fs
  ·obtain⟨sl,q⟩:=slot c o (I.cne x c e) hc nch ho (I.freeC x c e)
   exact⟨_,q,hd⟩
  ·exact⟨o,keep c o (I.cne x c e) hc nch ho (I.freeC x c e),hd⟩
 refine⟨I.ok,I.os,hg,⟨fun b o e n hb hx=> ?_,fun b o e n hb hx=> ?_,fun b o e n hx=> ?_,fun b o e hx=> ?_,fun b xs e=>tups b xs (I.base.tups b xs e),fun b o xs e=>frzs b o xs (I.base.frzs b o xs e),fun b ps e=> ?_⟩,?_,fun x c e=> ?_,?_,fun x c e=> ?_,fun p hp=> ?_,hok,I.len⟩
 ·exact keep b o (neL b o e) hb (neC b o e hx) (I.base.keep b o e n hb hx) (I.base.free b o e n hx)
 ·obtain⟨sl,e1⟩:=I.base.slot b o e n hb hx
  obtain⟨sl',e2⟩:=slot b _ (neL b o e) hb (neC b o e hx) e1 (I.base.free b o e n hx)
  exact⟨sl',e2⟩
 ·obtain⟨o',e1⟩:=I.base.there b o e hx
  exact free b o' (neC b o e hx) e1 (I.base.free b o e n hx)
 ·obtain⟨o',e1⟩:=I.base.there b o e hx
  exact there b o' (neC b o e hx) e1
 ·obtain⟨m1,e1⟩:=I.base.tbls b ps e
  obtain⟨m2,e2⟩:=tbls b _ e1
  exact⟨m1++m2,by rw [e2,Array.append_assoc]⟩
 ·obtain⟨m,hn,hl⟩:=I.loc
  refine⟨m,ns m hn,fun i x v e1 e2 e3=> ?_⟩
  obtain⟨u,r,l⟩:=hl i x v e1 e2 e3
  refine⟨u,r,?_⟩
  rcases l with l | ⟨k,c,e,z⟩
  ·exact .inl l
  ·exact .inr ⟨k,c,e,cellK x c e _ z⟩
 ·obtain⟨v,z⟩:=I.cell x c e
  exact⟨v,cellK x c e v z⟩
 ·obtain⟨m,⟨o,_,_,ho,_⟩,_⟩:=I.loc
  exact free _ o (fun z=>(hch _ z).2.1 rfl) ho I.free
 ·obtain⟨v,o,ho,hd⟩:=I.cell x c e
  exact free c o (fun z=>(hch c z).2.2.1 x c e rfl) ho (I.freeC x c e)
 ·obtain⟨e,n,ne,nf,d⟩:=I.pin p hp
  have nch:p.1∉ch:=fun z=>(hch p.1 z).2.2.2 p hp rfl
  exact⟨keep p.1 p.2 ne nf nch e n,free p.1 p.2 nch e n,ne,nf,d⟩
theorem Inv.un {t':Nat}(I:Inv X pins σ H s) (u:Un X.fs [] H H' s.heap h') (hok:HOk X.prog X.w H' h'):Inv X pins σ H' { s with heap:=h',toks:=t' }:=by
 obtain⟨m,⟨o,es,ep,ho,r⟩,_⟩:=id I.loc
 obtain⟨sl,hL⟩:=u.any ho I.free (by simp)
 exact I.step (g':=s.gens) (d':=s.drawn) (ch:= []) (fun _ z=>nomatch z) (fun b o _ hb _ e n=>u.keep b o e n hb (by simp)) (fun b o _ hb _ e n=>u.slot b o e n hb (by simp)) (fun b o _ e n=>u.free b o e n (by simp)) (fun b o _ e=>u.there b o e (by simp)) u.tups u.frzs u.tbls (fun m' hm=>by
  obtain⟨o',es',ep',ho',r'⟩:=hm
  rw [ho]at ho';cases ho'
  exact⟨_,es',ep',hL,r'⟩) hok I.bare
theorem Inv.call {g':Array GenState}{t':Nat}{d':Drawn}{ch:List Addr}(I:Inv X pins σ H s) (u:Un (frs X.stack) ch H H' s.heap h') (hok:HOk X.prog X.w H' h') (hg:AllBare g')
 (hch: ∀b∈ch,(b∈X.ex\/X.s₀.heap.objs.size<=b)/\b≠X.env.locals/\(∀ x c,X.env.cells.lookup x=some c->c≠b)/\ ∀p∈X.pn++pins,p.1≠b):
 Inv X pins σ H' { s with heap:=h',gens:=g',drawn:=d',toks:=t' }:=by
 obtain⟨m,⟨o,es,ep,ho,r⟩,_⟩:=id I.loc
 obtain⟨sl,hL⟩:=u.any ho I.free fun z=>(hch _ z).2.1 rfl
 exact I.step (ch:=ch) hch (fun b o hL hb hc e n=>u.keep b o e n (fun z=>(List.mem_cons.mp (I.stkSub b z)).elim hL hb) hc) (fun b o _ _ hc e n=>u.any e n hc) (fun b o hc e n=>u.free b o e n hc) (fun b o hc e=>u.there b o e hc) u.tups u.frzs u.tbls (fun m' hm=>by
  obtain⟨o',es',ep',ho',r'⟩:=hm
  rw [ho]at ho';cases ho'
  exact⟨_,es',ep',hL,r'⟩) hok hg
theorem Inv.turned {t':Nat}{it:Addr}(I:Inv X pins σ H s) (k: ∀b o,b≠it->s.heap.get? b=some o->h'.get? b=some o) (hn:H it=none) (hL:it≠X.env.locals)
 (h1:it∈X.ex\/X.s₀.heap.objs.size<=it) (h2: ∀x c,X.env.cells.lookup x=some c->c≠it) (h3: ∀p∈X.pn++pins,p.1≠it):Inv X pins σ H { s with heap:=h',toks:=t' }:=by
 have nit: ∀b u,H b=some u->b≠it:=fun b u e z=>by rw [z,hn]at e;cases e
 refine I.step (g':=s.gens) (d':=s.drawn) (ch:= [it]) (fun b hb=> ?_) (fun b o _ _ hc e _=>k b o (fun z=>hc (by simp [z])) e) (fun b o _ _ hc e _=>⟨o.slots,k b o (fun z=>hc (by simp [z])) e⟩) (fun _ _ _ _ n=>n)
  (fun b o hc e=>⟨o,k b o (fun z=>hc (by simp [z])) e⟩) (fun _ _ e=>e) (fun _ _ _ e=>e) (fun b ps e=>⟨#[],by rw [e];simp⟩) (fun m hm=> ?_) (fun b u e=> ?_) I.bare
 ·have e:b=it:=by simpa using hb
  subst e
  exact⟨h1,hL,h2,h3⟩
 ·obtain⟨o,es,ep,ho,r⟩:=hm
  exact⟨o,es,ep,k _ o (Ne.symm hL) ho,r⟩
 ·refine(I.hok b u e).stay (fun c v hc q=>k c v ?_ q) (fun _ q=>q) fun _ _ q=>q
  rcases hc with z | z
  ·rw [z];exact nit b u e
  ·exact nit c _ z
theorem Inv.tok (I:Inv X pins σ H s) (t:Nat):Inv X pins σ H { s with toks:=t }:=I.un (h':=s.heap) (t':=t) Un.refl I.hok
theorem Inv.kept {t':Nat}(I:Inv X pins σ H s) (k: ∀b u,s.heap.get? b=some u->h'.get? b=some u):Inv X pins σ H { s with heap:=h',toks:=t' }:=I.un (Un.kept k) (I.hok.kept k)
theorem Inv.laid {a:Addr}{o:HO}{t':Nat}(I:Inv X pins σ H s) (k: ∀b u,s.heap.get? b=some u->h'.get? b=some u) (hp:s.heap.objs.size<=a) (new:ObjOk X.prog X.w (upd H a o) h' a o):
 Inv X pins σ (upd H a o) { s with heap:=h',toks:=t' }:=I.un (Un.laid k hp (I.hok.fresh hp)) (I.hok.laid k hp new)
theorem Inv.write {x e:Addr}{o:HO}{t':Nat}(I:Inv X pins σ H s) (mu:Mut (H x)) (he:e=x\/H e=some (.own x)) (k: ∀b u,b≠e->s.heap.get? b=some u->h'.get? b=some u) (heo: ∃u,h'.get? e=some u)
 (new:ObjOk X.prog X.w (upd H x o) h' x o):Inv X pins σ (upd H x o) { s with heap:=h',toks:=t' }:=I.un (Un.write mu he k heo) (I.hok.write mu he k heo new)
theorem Inv.pins_of {pins':List (Addr×Obj)}(I:Inv X pins σ H s) (h: ∀p∈pins',s.heap.get? p.1=some p.2/\H p.1=none/\p.1≠X.env.locals/\p.1∉X.fs/\ ∀v,p.2.data≠ .cell v):Inv X pins' σ H s:=
 ⟨I.ok,I.os,I.bare,I.base,I.loc,I.cell,I.free,I.freeC,fun p hp=>(List.mem_append.mp hp).elim (fun z=>I.pin p (List.mem_append_left _ z)) (h p),I.hok,I.len⟩
theorem zF {N:List Str}(hN:N.Nodup){i j:Nat}{x:Str}(a:N[i]? =some x) (b:N[j]? =some x):i=j:=by
 obtain⟨h1,e1⟩:=List.getElem?_eq_some_iff.mp a
 obtain⟨h2,e2⟩:=List.getElem?_eq_some_iff.mp b
 exact(List.getElem_inj hN).mp (e1.trans e2.symm)
theorem JM {M:Model}{A:Around}{E:Value->Shared->Prop}{i:Nat}{x:Str}{v:V}{u:Value}{Q:Unit->Shared->Prop}(I:Inv X pins σ H s) (hN:X.N.Nodup) (hi:X.N[i]? =some x) (hx:Loc X.env.scope x) (r:RelV v u)
 (h: ∀s',Inv X pins (σ.set i (some v)) H s'->(∃ a,Heap.SameBut a s.heap s'.heap/\(a=X.env.locals\/X.env.cells.lookup x=some a))->Q () s') (hf:X.fn x=true\/X.env.scope.names.lookup x=some .local:=by first | exact .inl rfl | exact .inr rfl | assumption):wpAny M A (storeName X.env x u) Q E s:=by
 obtain⟨m,hn,hl⟩:=id I.loc
 have hcls:(X.env.scope.kind== .class||(X.env.scope.kind== .module&&X.env.locals != X.env.globals))=false:=by rw [I.ok.kind];rfl
 have hiσ:i<σ.length:=by rw [I.len];exact(List.getElem?_eq_some_iff.mp hi).1
 have cne:=I.cne
 have tracked: ∀ {a:Addr}{h':Heap},(∃ o,s.heap.get? a=some o/\H a=none)->Heap.SameBut a s.heap h'->HOk X.prog X.w H h':=fun {a h'} ha hs b ob e=>by
  obtain⟨_,_,hfree⟩:=ha
  refine(I.hok b ob e).stay (fun c w' hc q=>(hs.2 c ?_).trans q) (fun _ q=>q) fun _ _ q=>q
  rintro rfl
  rcases hc with rfl | hc
  ·rw [hfree]at e;cases e
  ·rw [hfree]at hc;cases hc
 rcases hx with hk | hk
 ·refine wpAny_storeName_local hk hn (fun h' hn' hs=> ?_) hcls
  obtain⟨oL,_,_,hoL,_⟩:=id hn
  refine h _ ⟨I.ok,I.os,I.bare,⟨fun b o e n hb hx=> ?_,fun b o e n hb hx=> ?_,I.base.free,fun b o e hx=> ?_,I.base.tups,I.base.frzs,I.base.tbls⟩,⟨_,hn',fun j y v' e1 e2 e3=> ?_⟩,fun y c e=> ?_,I.free,I.freeC,fun p hp=> ?_,tracked ⟨oL,hoL,I.free⟩ hs,by simpa using I.len⟩ ⟨_,hs,.inl rfl⟩
  ·exact(hs.2 b (Nat.ne_of_lt (Nat.lt_of_lt_of_le (Heap.lt_size e) I.ok.above))).trans (I.base.keep b o e n hb hx)
  ·obtain⟨sl,e1⟩:=I.base.slot b o e n hb hx
   exact⟨sl,(hs.2 b (Nat.ne_of_lt (Nat.lt_of_lt_of_le (Heap.lt_size e) I.ok.above))).trans e1⟩
  ·obtain⟨o',e1⟩:=I.base.there b o e hx
   exact⟨o',(hs.2 b (Nat.ne_of_lt (Nat.lt_of_lt_of_le (Heap.lt_size e) I.ok.above))).trans e1⟩
  ·by_cases hj:j=i
   ·subst hj
    rw [hi]at e1;cases e1
    rw [List.getElem?_set_self hiσ]at e2
    cases e2
    exact⟨u,r,.inl ⟨hk,by simp⟩⟩
   ·rw [List.getElem?_set_ne (Ne.symm hj)]at e2
    obtain⟨u',r',q⟩:=hl j y v' e1 e2 e3
    refine⟨u',r',?_⟩
    rcases q with⟨k,e⟩ | ⟨k,c,e,z⟩
    ·refine .inl ⟨k,?_⟩
     have:y≠x:=fun e=>hj (zF hN e1 (e▸hi))
     simp [this,e]
    ·exact .inr ⟨k,c,e,z.sameBut hs (cne y c e)⟩
  ·obtain⟨w',z⟩:=I.cell y c e
   exact⟨w',z.sameBut hs (cne y c e)⟩
  ·obtain⟨e,n,ne,nf,d⟩:=I.pin p hp
   exact⟨(hs.2 p.1 ne).trans e,n,ne,nf,d⟩
 ·have hfn:X.fn x=true:=by
   rcases hf with z | z
   ·exact z
   ·rw [z]at hk;cases hk
  obtain⟨c,hc⟩:=I.ok.has x (.inl hk)
  obtain⟨w',z⟩:=I.cell x c hc
  refine wpAny_storeName_cell I.ok.kind hk hc z (fun h' hc' hs=> ?_)
  obtain⟨oc,hoc,hocd⟩:=id z
  refine h { s with heap:=h' } ⟨I.ok,I.os,I.bare,⟨fun b o e n hb hx=> ?_,fun b o e n hb hx=> ?_,I.base.free,fun b o e hx=> ?_,I.base.tups,I.base.frzs,I.base.tbls⟩,⟨m,hn.sameBut hs (Ne.symm (cne x c hc)),fun j y v' e1 e2 e3=> ?_⟩,fun y c' e=> ?_,I.free,I.freeC,fun p hp=> ?_,tracked ⟨oc,hoc,I.freeC x c hc⟩ hs,by simpa using I.len⟩ ⟨c,hs,.inr hc⟩
  ·exact(hs.2 b (Nat.ne_of_lt (Nat.lt_of_lt_of_le (Heap.lt_size e) (I.ok.cab x c hfn hc)))).trans (I.base.keep b o e n hb hx)
  ·obtain⟨sl,e1⟩:=I.base.slot b o e n hb hx
   exact⟨sl,(hs.2 b (Nat.ne_of_lt (Nat.lt_of_lt_of_le (Heap.lt_size e) (I.ok.cab x c hfn hc)))).trans e1⟩
  ·obtain⟨o',e1⟩:=I.base.there b o e hx
   exact⟨o',(hs.2 b (Nat.ne_of_lt (Nat.lt_of_lt_of_le (Heap.lt_size e) (I.ok.cab x c hfn hc)))).trans e1⟩
  ·by_cases hj:j=i
   ·subst hj
    rw [hi]at e1;cases e1
    rw [List.getElem?_set_self hiσ]at e2
    cases e2
    exact⟨u,r,.inr ⟨.inl hk,c,hc,hc'⟩⟩
   ·rw [List.getElem?_set_ne (Ne.symm hj)]at e2
    obtain⟨u',r',q⟩:=hl j y v' e1 e2 e3
    refine⟨u',r',?_⟩
    rcases q with q | ⟨k,c',e,z'⟩
    ·exact .inl q
    ·refine .inr ⟨k,c',e,z'.sameBut hs ?_⟩
     rintro rfl
     exact hj (zF hN e1 (I.ok.inj _ _ _ e hc▸hi))
  ·by_cases hcc:c'=c
   ·subst hcc;exact⟨_,hc'⟩
   ·obtain⟨w2,z2⟩:=I.cell y c' e
    exact⟨w2,z2.sameBut hs hcc⟩
  ·obtain⟨e,n,ne,nf,d⟩:=I.pin p hp
   refine⟨(hs.2 p.1 ?_).trans e,n,ne,nf,d⟩
   intro q
   rw [q,hoc]at e
   have q':oc=p.2:=Option.some.inj e
   exact d w' (by rw [← q'];exact hocd)
theorem qu {M:Model}{A:Around}{E:Value->Shared->Prop}{i:Nat}{x:Str}{v:V}{u:Value}{Q:Unit->Shared->Prop}(I:Inv X pins σ H s) (hN:X.N.Nodup) (hi:X.N[i]? =some x) (hx:Loc X.env.scope x) (r:RelV v u)
 (h: ∀s',Inv X pins (σ.set i (some v)) H s'->Q () s') (hf:X.fn x=true\/X.env.scope.names.lookup x=some .local:=by first | exact .inl rfl | exact .inr rfl | assumption):wpAny M A (storeName X.env x u) Q E s:=
 JM I hN hi hx r (fun s' I' _=>h s' I') hf
theorem Inv.call' {s':Shared}{ch:List Addr}(I:Inv X pins σ H s) (ho:s'.os=s.os) (u:Un (frs X.stack) ch H H' s.heap s'.heap) (hok:HOk X.prog X.w H' s'.heap) (hg:AllBare s'.gens)
 (hch: ∀b∈ch,(b∈X.ex\/X.s₀.heap.objs.size<=b)/\b≠X.env.locals/\(∀ x c,X.env.cells.lookup x=some c->c≠b)/\ ∀p∈X.pn++pins,p.1≠b):Inv X pins σ H' s':=by
 obtain⟨h',g',d',t',o'⟩:=s'
 have e:o'=s.os:=ho
 subst e
 exact I.call (g':=g') (t':=t') (d':=d') u hok hg hch
end
abbrev XK:=Value->Option Addr->Hp->Prop
abbrev St:=List (Option V)
abbrev VK:=V->Hp->Prop
abbrev TE:=St->Hp->VK->Prop
abbrev TT:=St->Hp->(Bool->Hp->Prop)->Prop
abbrev TA:=St->Hp->(List V->Hp->Prop)->Prop
structure Ends where
 nx:St->Hp->Prop
 rt:VK
 bk:St->Hp->Prop:=fun _ _=>False
 ct:St->Hp->Prop:=fun _ _=>False
abbrev TS:=Ends->St->Hp->Prop
def EP (X:Cx) (pins:List (Addr×Obj)) (σ:St) (Q:VK) (u:Value) (s':Shared):Prop:= ∃v H',Inv X pins σ H' s'/\RelV v u/\Q v H'
def TP (X:Cx) (pins:List (Addr×Obj)) (σ:St) (Q:Bool->Hp->Prop) (b:Bool) (s':Shared):Prop:= ∃H',Inv X pins σ H' s'/\Q b H'
def AP (X:Cx) (pins:List (Addr×Obj)) (σ:St) (Q:List V->Hp->Prop) (us:List Value) (s':Shared):Prop:= ∃vs H',Inv X pins σ H' s'/\Vals vs us/\Q vs H'
def SP (X:Cx) (pins:List (Addr×Obj)) (D:Ends) (f:Flow) (s':Shared):Prop:=
 match f with
 | .next=> ∃σ' H',Inv X pins σ' H' s'/\D.nx σ' H'
 | .brk=> ∃σ' H',Inv X pins σ' H' s'/\D.bk σ' H'
 | .cont=> ∃σ' H',Inv X pins σ' H' s'/\D.ct σ' H'
 | .ret u=> ∃v σ' H',Inv X pins σ' H' s'/\RelV v u/\D.rt v H'
def PE (X:Cx) (e:Expr) (t:TE):Prop:=
 ∀(pins:List (Addr×Obj)) (s:Shared) (σ:St) (H:Hp) (Q:VK),Inv X pins σ H s->t σ H Q->wpAny (model X.prog X.w) X.A (eval e X.env) (EP X pins σ Q) X.xe s
def PT (X:Cx) (e:Expr) (t:TT):Prop:=
 ∀(pins:List (Addr×Obj)) (s:Shared) (σ:St) (H:Hp) (Q:Bool->Hp->Prop),Inv X pins σ H s->t σ H Q->wpAny (model X.prog X.w) X.A (isTrue e X.env (eval e X.env)) (TP X pins σ Q) X.xe s
def PW (X:Cx) (e:Expr) (t:TT):Prop:=
 ∀(whole:Sem Value) (pins:List (Addr×Obj)) (s:Shared) (σ:St) (H:Hp) (Q:Bool->Hp->Prop),Inv X pins σ H s->t σ H Q->wpAny (model X.prog X.w) X.A (isTrue e X.env whole) (TP X pins σ Q) X.xe s
theorem PW.pt {X:Cx}{e:Expr}{t:TT}(h:PW X e t):PT X e t:=h _
def PA (X:Cx) (es:List Expr) (t:TA):Prop:=
 ∀(pos:Pos) (pins:List (Addr×Obj)) (s:Shared) (σ:St) (H:Hp) (Q:List V->Hp->Prop),Inv X pins σ H s->t σ H Q->wpAny (model X.prog X.w) X.A (spliced (backTo pos (starEach es X.env))) (AP X pins σ Q) X.xe s
def PS (X:Cx) (st:Stmt) (t:TS):Prop:=
 ∀(pins:List (Addr×Obj)) (s:Shared) (σ:St) (H:Hp) (D:Ends),Inv X pins σ H s->t D σ H->wpAny (model X.prog X.w) X.A (exec st X.env) (SP X pins D) X.xe s
def PSs (X:Cx) (st:List Stmt) (t:TS):Prop:=
 ∀(pins:List (Addr×Obj)) (s:Shared) (σ:St) (H:Hp) (D:Ends),Inv X pins σ H s->t D σ H->wpAny (model X.prog X.w) X.A (execs st X.env) (SP X pins D) X.xe s
theorem thn {α:Type}{t:Sem α}{Q Q':α->Shared->Prop}{M:Model}{A:Around}{E:Value->Shared->Prop}{s:Shared}(h:wpAny M A t Q E s) (hQ: ∀a s,Q a s->Q' a s):wpAny M A t Q' E s:=wpAny_mono h hQ fun _ _ x=>x
end L2
namespace L2
open PySem PySem.Spec PyProof.Rows
section
variable {X:Cx}
def tVar (i:Nat):TE:=fun σ H Q=> ∃v,σ[i]? =some (some v)/\Q v H
def tC (v:V):TE:=fun _ H Q=>Q v H
theorem wv {i:Nat}{x:Str}{pos:Pos}(hN:X.N[i]? =some x) (hv:Vis X.env.scope x) (hd:(x==("__debug__" :Str))=false:=by decide) (hcd:(x==("__classdict__" :Str))=false:=by decide):PE X (.Name x pos) (tVar i):=by
 intro pins s σ H Q I h
 obtain⟨v,e,h⟩:=h
 obtain⟨m,hn,hl⟩:=I.loc
 obtain⟨u,r,l⟩:=hl i x v hN e hv
 have fin:EP X pins σ Q u s:=⟨v,H,I,r,h⟩
 rcases l with⟨hk,hm⟩ | ⟨hk,c,hc,hcell⟩
 ·exact wpAny_Name (wpAny_loadName_local I.ok.kind hk hn hm fin) hd
 ·rcases hk with hk | hk
  ·exact wpAny_Name (wpAny_loadName_cell I.ok.kind hk hc hcell fin) hd
  ·exact wpAny_Name (wpAny_loadName_free I.ok.kind hk hc hcell fin hcd) hd
theorem W5 {i j pos}:PE X (.Constant (.int i) j pos) (tC (.int i)):=fun _ _ _ H _ I h=>wpAny_Constant_int ⟨.int i,H,I.tok _,⟨_,rfl⟩,h⟩
theorem xaR {b j pos}:PE X (.Constant (.bool b) j pos) (tC (.bl b)):=fun _ _ _ H _ I h=>Constant_bool ⟨.bl b,H,I,rfl,h⟩
theorem jaw {x j pos}:PE X (.Constant (.str x) j pos) (tC (.str x)):=fun _ _ _ H _ I h=>Calls.Constant_str ⟨.str x,H,I.tok _,⟨_,rfl⟩,h⟩
def Gl (X:Cx) (x:Str):Prop:=X.env.kindOf x=some .globalImplicit
theorem Jt {E:Value->Shared->Prop}{pins:List (Addr×Obj)}{s:Shared}{σ:St}{H:Hp}{x:Str}{u:Value}{pos:Pos}{Q:Value->Shared->Prop}(I:Inv X pins σ H s) (hg:Gl X x) (hm:X.mg x=some u) (h:Q u s)
 (hd:(x==("__debug__" :Str))=false:=by decide):wpAny (model X.prog X.w) X.A (eval (.Name x pos) X.env) Q E s:=
 Calls.Name_function_global I.ok.kind hg (Calls.loadGlobal_global (by rw [I.ok.glob];exact I.mod.glob.keeps I.bk) hm h) hd
theorem Qk {E:Value->Shared->Prop}{pins:List (Addr×Obj)}{s:Shared}{σ:St}{H:Hp}{x:Str}{u:Value}{pos:Pos}{Q:Value->Shared->Prop}(I:Inv X pins σ H s) (hg:Gl X x) (hm:X.mg x=none) (hv:bootBuiltins x=some u) (h:Q u s)
 (hn:x≠ "__name__" :=by decide) (hd:(x==("__debug__" :Str))=false:=by decide):wpAny (model X.prog X.w) X.A (eval (.Name x pos) X.env) Q E s:=by
 obtain⟨mb,h1,h2⟩:=I.mod.blt
 exact Calls.Name_function_global I.ok.kind hg (Calls.loadGlobal_builtin (by rw [I.ok.glob];exact I.mod.glob.keeps I.bk) hm (by rw [I.ok.blt];exact h1.keeps I.bk) ((h2 x hn).trans hv) h) hd
theorem XD {x:Str}{v:V}{u:Value}{pos:Pos}(hg:Gl X x) (hm:X.mg x=some u) (r:RelV v u) (hd:(x==("__debug__" :Str))=false:=by decide):PE X (.Name x pos) (tC v):=
 fun _ _ _ H _ I h=>Jt I hg hm ⟨v,H,I,r,h⟩ hd
theorem zam {x:Str}{v:V}{u:Value}{pos:Pos}(hg:Gl X x) (hm:X.mg x=none) (hv:bootBuiltins x=some u) (r:RelV v u) (hn:x≠ "__name__" :=by decide) (hd:(x==("__debug__" :Str))=false:=by decide):PE X (.Name x pos) (tC v):=
 fun _ _ _ H _ I h=>Qk I hg hm hv ⟨v,H,I,r,h⟩ hn hd
def t2I (ta tb:TE) (k:Int->Int->Hp->Prop):St->Hp->Prop:=fun σ H=>ta σ H fun x H1=>tb σ H1 fun y H2=> ∃i j,x= .int i/\y= .int j/\k i j H2
def tAdd (ta tb:TE):TE:=fun σ H Q=>t2I ta tb (fun i j H2=>Q (.int (i+j)) H2) σ H
def tSub (ta tb:TE):TE:=fun σ H Q=>t2I ta tb (fun i j H2=>Q (.int (i-j)) H2) σ H
def tMul (ta tb:TE):TE:=fun σ H Q=>t2I ta tb (fun i j H2=>(-(2 ^ 64)<i/\i<2 ^ 64)/\Q (.int (i*j)) H2) σ H
variable {a b:Expr}{ta tb:TE}{pos:Pos}
def PC (X:Cx) (op:CmpOp) (a b:Expr) (t:TE):Prop:=
 ∀(pins:List (Addr×Obj)) (s:Shared) (σ:St) (H:Hp) (Q:VK),Inv X pins σ H s->t σ H Q →
  wpAny (model X.prog X.w) X.A (eval a X.env) (fun v s₁=>wpAny (model X.prog X.w) X.A (eval b X.env) (fun u s₂=>wpAny (model X.prog X.w) X.A (compareOp op v u) (EP X pins σ Q) X.xe s₂) X.xe s₁) X.xe s
def tCmp (p:Int->Int->Bool) (ta tb:TE):TE:=fun σ H Q=>t2I ta tb (fun i j H2=>Q (.bl (p i j)) H2) σ H
abbrev tLt:TE->TE->TE:=tCmp fun i j=>decide (i<j)
abbrev tLe:TE->TE->TE:=tCmp fun i j=>decide (i<=j)
abbrev tGt:TE->TE->TE:=tCmp fun i j=>decide (j<i)
abbrev tGe:TE->TE->TE:=tCmp fun i j=>decide (j<=i)
abbrev tEqI:TE->TE->TE:=tCmp fun i j=>decide (i=j)
abbrev tNeI:TE->TE->TE:=tCmp fun i j=> !decide (i=j)
def tIsN (ta:TE):TE:=fun σ H Q=>ta σ H fun x H1=>Q (.bl (decide (x= .non))) H1
def tNotN (ta:TE):TE:=fun σ H Q=>ta σ H fun x H1=>Q (.bl (!decide (x= .non))) H1
def tB (t:TE):TT:=fun σ H Q=>t σ H fun x H1=> ∃c,x= .bl c/\Q c H1
variable {tA tB':TT}{rest:List Expr}
def tAnd (t u:TT):TT:=fun σ H Q=>t σ H fun c H1=>if c=true then u σ H1 Q else Q false H1
def tOr (t u:TT):TT:=fun σ H Q=>t σ H fun c H1=>if c=true then Q true H1 else u σ H1 Q
def tNot (t:TT):TT:=fun σ H Q=>t σ H fun c H1=>Q (!c) H1
theorem xay (ha:PT X a tA):PW X (.BoolOp .Or [a] pos) tA:=by
 intro wh pins s σ H Q I h
 refine isTrue_or (thn (ha pins s σ H Q I h) fun c s1 e=> ?_)
 cases c with
 | false=>exact isTrue_or_nil e
 | true=>exact e
theorem zaO (ha:PT X a tA) (hb:PW X (.BoolOp .Or (b::rest) pos) tB'):PW X (.BoolOp .Or (a::b::rest) pos) (tOr tA tB'):=by
 intro wh pins s σ H Q I h
 refine isTrue_or (thn (ha pins s σ H _ I h) fun c s1 ⟨H1,I1,q1⟩=> ?_)
 cases c with
 | true=>exact⟨H1,I1,q1⟩
 | false=>exact hb wh pins s1 σ H1 Q I1 q1
theorem xaz (ha:PT X a tA):PT X (.UnaryOp .Not a pos) (tNot tA):=by
 intro pins s σ H Q I h
 exact isTrue_not (ha pins s σ H (fun c H1=>Q (!c) H1) I h)
def tAndV (ta tb:TE):TE:=fun σ H Q=>ta σ H fun x H1=> ∃c,x= .bl c/\if c=true then tb σ H1 Q else Q (.bl false) H1
def tOrV (ta tb:TE):TE:=fun σ H Q=>ta σ H fun x H1=> ∃c,x= .bl c/\if c=true then Q (.bl true) H1 else tb σ H1 Q
def tNotV (ta:TE):TE:=fun σ H Q=>ta σ H fun x H1=> ∃c,x= .bl c/\Q (.bl (!c)) H1
theorem jaF {op}{t:TE}(h:PE X a t):PE X (.BoolOp op [a] pos) t:=fun pins s σ H Q I hw=>BoolOp_one (h pins s σ H Q I hw)
def tIf (t:TT) (ta tb:TE):TE:=fun σ H Q=>t σ H fun c H1=>if c=true then ta σ H1 Q else tb σ H1 Q
end
end L2
namespace L2
open PySem PySem.Spec PyProof.Rows
def SqL (K:PySem.W.Frag) (H:Hp) (a:Addr) (xs:List V):Prop:=
 Rd H a (.lst xs) ∨
  ∃(o:Obj) (its:Array Value) (n:Nat),K.lookup a=some o/\o.cls= .type "list" /\o.dict=none/\o.data= .seq its n/\its.size<=sizeLine/\Vals xs its.toList
def SqT (K:PySem.W.Frag) (H:Hp) (a:Addr) (xs:List V):Prop:=
 Rd H a (.tup xs) ∨
  ∃(o:Obj) (its:Array Value) (n:Nat),K.lookup a=some o/\o.cls= .type "tuple" /\o.data= .seq its n/\its.size<=sizeLine/\Vals xs its.toList
def absV:Value->Option V
 | .none=>some .non
 | .bool b=>some (.bl b)
 | .int i _=>some (.int i)
 | .str x _=>some (.str x)
 | .bytes b _=>some (.byt b)
 | .float b _=>some (.flt b)
 | .ref a=>some (.ref a)
 | .type n=>some (.ty n)
 | _=>none
theorem RelV.abs {x:V}{u:Value}(r:RelV x u):absV u=some x:=by
 cases x with
 | non=>cases r;rfl
 | bl _=>cases r;rfl
 | int _=>obtain⟨t,rfl⟩:=r;rfl
 | str _=>obtain⟨t,rfl⟩:=r;rfl
 | byt _=>obtain⟨t,rfl⟩:=r;rfl
 | flt _=>obtain⟨t,rfl⟩:=r;rfl
 | ref _=>cases r;rfl
 | ty _=>cases r;rfl
theorem RelV.inj {x y:V}{u:Value}(r:RelV x u) (q:RelV y u):x=y:=Option.some.inj (r.abs.symm.trans q.abs)
theorem Vals.inj: ∀ {xs ys:List V}{us:List Value},Vals xs us->Vals ys us->xs=ys
 | _,_,_,.nil,.nil=>rfl
 | _,_,_,.cons r t,.cons r' t'=>by rw [r.inj r',Vals.inj t t']
section
variable {X:Cx}{pins:List (Addr×Obj)}{σ:St}{H:Hp}{s:Shared}{a:Addr}{xs ys:List V}
theorem SqL.of {K:PySem.W.Frag}(h:H a=some (.lst xs)):SqL K H a xs:= .inl (.inl h)
theorem Inv.list (I:Inv X pins σ H s) (h:SqL X.K H a xs): ∃its:List Value,Vals xs its/\PlainL s.heap a its.toArray/\xs.length<=sizeLine:=by
 rcases h with h | ⟨o,its,n,hk,hc,hd,hs,hz,r⟩
 ·obtain⟨z,its,n,r,e⟩:=h.ok I.hok
  exact⟨its,r,⟨_,n,e,rfl,rfl,rfl⟩,z⟩
 ·refine⟨its.toList,r,⟨o,n,I.kIn a o hk,hc,hd,by simpa using hs⟩,?_⟩
  have e:=r.length
  simp only [Array.length_toList]at e
  omega
theorem Inv.tuple (I:Inv X pins σ H s) (h:SqT X.K H a xs): ∃its:List Value,Vals xs its/\IsTup s.heap a its.toArray/\xs.length<=sizeLine:=by
 rcases h with h | ⟨o,its,n,hk,hc,hs,hz,r⟩
 ·obtain⟨z,its,r,p⟩:=h.ok I.hok
  exact⟨its,r,p.is,z⟩
 ·refine⟨its.toList,r,⟨o,I.kIn a o hk,hc,n,by simpa using hs⟩,?_⟩
  have e:=r.length
  simp only [Array.length_toList]at e
  omega
theorem Inv.list_inj (I:Inv X pins σ H s) (h:SqL X.K H a xs) (h':SqL X.K H a ys):xs=ys:=by
 obtain⟨its,r,⟨o,n,e,_,_,d⟩,_⟩:=I.list h
 obtain⟨its',r',⟨o',n',e',_,_,d'⟩,_⟩:=I.list h'
 rw [e]at e';cases e'
 rw [d]at d'
 injection d' with d1 _
 have:its=its':=by simpa using congrArg Array.toList d1
 subst this
 exact r.inj r'
theorem Inv.tuple_inj (I:Inv X pins σ H s) (h:SqT X.K H a xs) (h':SqT X.K H a ys):xs=ys:=by
 obtain⟨its,r,⟨o,e,_,n,d⟩,_⟩:=I.tuple h
 obtain⟨its',r',⟨o',e',_,n',d'⟩,_⟩:=I.tuple h'
 rw [e]at e';cases e'
 rw [d]at d'
 injection d' with d1 _
 have:its=its':=by simpa using congrArg Array.toList d1
 subst this
 exact r.inj r'
end
abbrev Cx.wish (X:Cx) (E:Value->Shared->Prop):Cx:= { X with xe:=E }
abbrev Cx.nox (X:Cx):Cx:=X.wish fun _ _=>False
section
variable {X:Cx}{pins:List (Addr×Obj)}{σ:St}{H:Hp}{s:Shared}{E:Value->Shared->Prop}
end
section
variable {X:Cx}{st:Stmt}{rest:List Stmt}{t u:TS}{e:Expr}{te:TE}{pos:Pos}
def tNext:TS:=fun D σ H=>D.nx σ H
def tSeq (t u:TS):TS:=fun D σ H=>t { D with nx:=u D } σ H
theorem xam:PSs X [] tNext:=fun _ _ σ H _ I h=>wpAny_execs_nil ⟨σ,H,I,h⟩
theorem WX (h1:PS X st t) (h2:PSs X rest u):PSs X (st::rest) (tSeq t u):=by
 intro pins s σ H D I h
 refine wpAny_execs_cons (thn (h1 pins s σ H { D with nx:=u D } I h) fun f s1 q=> ?_)
 cases f with
 | next=>
  obtain⟨σ',H',I',q⟩:=q
  exact h2 pins s1 σ' H' D I' q
 | ret v=>exact q
 | brk=>exact q
 | cont=>exact q
def tBreak:TS:=fun D σ H=>D.bk σ H
def tCont:TS:=fun D σ H=>D.ct σ H
theorem Inv.quiet {pins:List (Addr×Obj)}{σ:St}{H:Hp}{s:Shared}(I:Inv X pins σ H s):interactive X.env=false:=by simp [interactive,I.ok.kind]
def tDrop (te:TE):TS:=fun D σ H=>te σ H fun _ H1=>D.nx σ H1
theorem zap (he:PE X e te) (hs:swapsWith e none pos.line X.env=pure false:=by rfl):PS X (.Expr e pos) (tDrop te):=by
 intro pins s σ H D I h
 exact wpAny_Expr_any (thn (he pins s σ H _ I h) fun v s1 ⟨x,H1,I1,r1,q1⟩=>⟨σ,H1,I1,q1⟩) I.quiet hs
def tRet (te:TE):TS:=fun D σ H=>te σ H D.rt
theorem X6 (he:PE X e te):PS X (.Return (some e) pos) (tRet te):=by
 intro pins s σ H D I h
 exact wpAny_Return_some (thn (he pins s σ H _ I h) fun v s1 ⟨x,H1,I1,r1,q1⟩=>⟨x,σ,H1,I1,r1,q1⟩)
def tRetN:TS:=fun D _ H=>D.rt .non H
def tIfS (c:TT) (t u:TS):TS:=fun D σ H=>c σ H fun b H1=>if b=true then t D σ H1 else u D σ H1
theorem qaM {c:Expr}{a b:List Stmt}{tc:TT}(hc:PT X c tc) (ha:PSs X a t) (hb:PSs X b u):PS X (.If c a b pos) (tIfS tc t u):=by
 intro pins s σ H D I h
 refine wpAny_If (thn (hc pins s σ H _ I h) fun d s1 ⟨H1,I1,q1⟩=> ?_)
 cases d with
 | true=>exact ha pins s1 σ H1 D I1 q1
 | false=>exact hb pins s1 σ H1 D I1 q1
def tNever:TS:=fun _ _ _=>False
end
abbrev TG:=V->St->Hp->(St->Hp->Prop)->Prop
abbrev TGs:=List V->St->Hp->(St->Hp->Prop)->Prop
def PG (X:Cx) (target:Expr) (t:TG):Prop:=
 ∀(pins:List (Addr×Obj)) (s:Shared) (σ:St) (H:Hp) (v:V) (u:Value) (Q:St->Hp->Prop),Inv X pins σ H s->RelV v u->t v σ H Q →
  wpAny (model X.prog X.w) X.A (assign target X.env u) (fun _ s'=> ∃σ' H',Inv X pins σ' H' s'/\Q σ' H') X.xe s
def PGs (X:Cx) (ts:List Expr) (t:TGs):Prop:=
 ∀(pins:List (Addr×Obj)) (s:Shared) (σ:St) (H:Hp) (vs:List V) (us:List Value) (Q:St->Hp->Prop),Inv X pins σ H s->Vals vs us->t vs σ H Q →
  wpAny (model X.prog X.w) X.A (assignInOrder ((assignEach ts X.env).map (·.2)) us) (fun _ s'=> ∃σ' H',Inv X pins σ' H' s'/\Q σ' H') X.xe s
abbrev TSet:=V->V->V->Hp->(Hp->Prop)->Prop
def PSet (X:Cx) (t:TSet):Prop:=
 ∀(pins:List (Addr×Obj)) (s:Shared) (σ:St) (H:Hp) (o i v:V) (ov iv u:Value) (Q:Hp->Prop),Inv X pins σ H s->RelV o ov->RelV i iv->RelV v u->t o i v H Q →
  wpAny (model X.prog X.w) X.A (setItem ov iv u) (fun _ s'=> ∃H',Inv X pins σ H' s'/\Q H') X.xe s
abbrev TIp:=V->V->Hp->VK->Prop
def PIp (X:Cx) (op:Operator) (t:TIp):Prop:=
 ∀(pins:List (Addr×Obj)) (s:Shared) (σ:St) (H:Hp) (x y:V) (v u:Value) (Q:VK),Inv X pins σ H s->RelV x v->RelV y u->t x y H Q →
  wpAny (model X.prog X.w) X.A (inplaceOp op v u) (EP X pins σ Q) X.xe s
section
variable {X:Cx}{pos:Pos}
def gName (i:Nat):TG:=fun v σ H Q=>Q (σ.set i (some v)) H
theorem jR {i:Nat}{x:Str}(hN:X.N.Nodup) (hi:X.N[i]? =some x) (hx:Loc X.env.scope x) (hf:X.fn x=true\/X.env.scope.names.lookup x=some .local:=by first | exact .inl rfl | exact .inr rfl | assumption):PG X (.Name x pos) (gName i):=by
 intro pins s σ H v u Q I r h
 exact wpAny_assign_Name (qu I hN hi hx r (fun s' I'=>⟨_,H,I',h⟩) hf)
def gNil:TGs:=fun vs σ H Q=>vs= []/\Q σ H
def gCons (t:TG) (u:TGs):TGs:=fun vs σ H Q=> ∃v r,vs=v::r/\t v σ H fun σ' H'=>u r σ' H' Q
theorem zaq:PGs X [] gNil:=by
 intro pins s σ H vs us Q I r h
 obtain⟨e,h⟩:=h
 subst e
 cases r
 exact assignInOrder_nil ⟨σ,H,I,h⟩
theorem JW {e:Expr}{es:List Expr}{t:TG}{u:TGs}(h1:PG X e t) (h2:PGs X es u)
 (hs:(assignEach (e::es) X.env).map (·.2)=assign e X.env::(assignEach es X.env).map (·.2):=by rfl):PGs X (e::es) (gCons t u):=by
 intro pins s σ H vs us Q I r h
 obtain⟨v,vr,e1,h⟩:=h
 subst e1
 cases r with
 | cons r rr=>
  rw [hs]
  refine assignInOrder_cons (thn (h1 pins s σ H _ _ _ I r h) fun _ s1 ⟨σ1,H1,I1,q1⟩=> ?_)
  exact h2 pins s1 σ1 H1 _ _ Q I1 rr q1
def gTup (K:PySem.W.Frag) (n:Nat) (t:TGs):TG:=fun v σ H Q=> ∃a xs,v= .ref a/\SqT K H a xs/\xs.length=n/\t xs σ H Q
theorem qat {es:List Expr}{k:Nat}{t:TGs}{n:Nat}(hc:X.calm=true) (h:PGs X es t)
 (hn:(assignEach es X.env).length=n:=by rfl) (hst:(assignEach es X.env).findIdx? (·.1)=none:=by rfl):PG X (.Tuple es k pos) (gTup X.K n t):=by
 intro pins s σ H v u Q I r hw
 obtain⟨a,xs,e1,hq,hl,hw⟩:=hw
 subst e1
 cases r
 obtain⟨its,rv,ht,hz⟩:=I.tuple hq
 refine assign_Tuple_tuple (I.ok.hd hc) ht (by simp [hn,←hl,rv.length]) hst fun h' hx=> ?_
 have I1:Inv X pins σ H { s with heap:=h' }:=I.kept (t':=s.toks) fun b o e=>hx b o (Nat.ne_of_lt (Heap.lt_size e)) e
 exact h pins _ σ H xs _ Q I1 (by simpa using rv) hw
def gSub (to ti:TE) (t:TSet):TG:=fun v σ H Q=>to σ H fun o H1=>ti σ H1 fun i H2=>t o i v H2 fun H3=>Q σ H3
theorem Q6 {o i:Expr}{to ti:TE}{t:TSet}(ho:PE X o to) (hi:PE X i ti) (hs:PSet X t)
 (ha: ∀v,assign (.Subscript o i pos) X.env v=(do
   let ov ←holding [v] (eval o X.env)
   let iv ←holding [v,ov] (eval i X.env)
   standAt pos
   holding [v,ov,iv] (setItem ov iv v)
   release [v,ov,iv] []):=by intro _;rfl):PG X (.Subscript o i pos) (gSub to ti t):=by
 intro pins s σ H v u Q I r h
 rw [ha]
 refine wpAny_bind (wpAny_holding (thn (ho pins s σ H _ I h) fun ov s1 ⟨x,H1,I1,r1,q1⟩=> ?_))
 refine wpAny_bind (wpAny_holding (thn (hi pins s1 σ H1 _ I1 q1) fun iv s2 ⟨y,H2,I2,r2,q2⟩=> ?_))
 refine wpAny_bind (wpAny_standAt (wpAny_bind (wpAny_holding (thn (hs pins s2 σ H2 x y v ov iv u _ I2 r1 r2 r q2) fun _ s3 ⟨H3,I3,q3⟩=> ?_))))
 exact wpAny_release ⟨σ,H3,I3,q3⟩
def tAsg (te:TE) (g:TG):TS:=fun D σ H=>te σ H fun x H1=>g x σ H1 D.nx
theorem X4 {tg e:Expr}{te:TE}{g:TG}(he:PE X e te) (hg:PG X tg g) (hs:swapsWithSole [tg] e pos.line X.env=pure false:=by rfl) (hw:swappedStores [tg] e X.env=pure none:=by rfl)
 (h1:(assignEach [tg] X.env).map (·.2)= [assign tg X.env]:=by rfl):PS X (.Assign [tg] e pos) (tAsg te g):=by
 intro pins s σ H D I h
 refine wpAny_Assign_stores (thn (he pins s σ H _ I h) fun v s1 ⟨x,H1,I1,r1,q1⟩=> ?_) hs hw
 rw [h1]
 exact thn (hg pins s1 σ H1 x v _ I1 r1 q1) fun _ s2 q=>q
theorem qaw {i:Nat}{x:Str}{e:Expr}{te:TE}{pos':Pos}(hN:X.N.Nodup) (hi:X.N[i]? =some x) (hx:Loc X.env.scope x) (he:PE X e te) (hs:swapsWith e (some (.Name x pos')) pos.line X.env=pure false:=by rfl) (hf:X.fn x=true\/X.env.scope.names.lookup x=some .local:=by first | exact .inl rfl | exact .inr rfl | assumption):
 PS X (.Assign [.Name x pos'] e pos) (tAsg te (gName i)):=by
 intro pins s σ H D I h
 refine wpAny_Assign_Name (thn (he pins s σ H _ I h) fun v s1 ⟨y,H1,I1,r1,q1⟩=> ?_) hs
 exact qu I1 hN hi hx r1 (fun s2 I2=>⟨_,H1,I2,q1⟩) hf
def tPar (i j:Nat) (ta:TA):TS:=fun D σ H=>ta σ H fun vs H1=> ∃v w,vs= [v,w]/\D.nx ((σ.set i (some v)).set j (some w)) H1
def tAug (i:Nat) (te:TE) (ti:TIp):TS:=fun D σ H=> ∃x,σ[i]? =some (some x)/\te σ H fun y H1=>ti x y H1 fun z H2=>D.nx (σ.set i (some z)) H2
def tAugS (to ti te:TE) (tget:V->V->Hp->VK->Prop) (tip:TIp) (tset:TSet):TS:=fun D σ H=>to σ H fun o H1=>ti σ H1 fun i H2=>tget o i H2 fun x H3=>te σ H3 fun y H4=>tip x y H4 fun z H5=>tset o i z H5 fun H6=>D.nx σ H6
def PGet (X:Cx) (t:V->V->Hp->VK->Prop):Prop:=
 ∀(pins:List (Addr×Obj)) (s:Shared) (σ:St) (H:Hp) (o i:V) (ov iv:Value) (Q:VK),Inv X pins σ H s->RelV o ov->RelV i iv->t o i H Q →
  wpAny (model X.prog X.w) X.A (getItem ov iv) (EP X pins σ Q) X.xe s
def ipI (f:Int->Int->Int):TIp:=fun x y H Q=> ∃i j,x= .int i/\y= .int j/\Q (.int (f i j)) H
end
section
variable {X:Cx}{pos:Pos}
def tWhile (c:TT) (tb:TS):TS:=fun D σ H=> ∃W:Nat->St->Hp->Prop,(∃ m,W m σ H)/\ ∀m σ H,W m σ H →
 c σ H fun b H1=>if b=true then ∃N:St->Hp->Prop,(∀ σ' H',N σ' H'-> ∃m',m'<m/\W m' σ' H')/\tb { D with nx:=N,ct:=N,bk:=D.nx } σ H1 else D.nx σ H1
end
structure It where
 go:Nat->Hp->Prop
 yld:Nat->Hp->V->Hp->Prop
 stop:Nat->Hp->Prop
def FpOk (X:Cx) (pins:List (Addr×Obj)) (H:Hp) (b:Addr):Prop:=
 H b=none/\b≠X.env.locals/\b∉X.fs/\(b∈X.ex\/X.s₀.heap.objs.size<=b)/\(∀ x c,X.env.cells.lookup x=some c->c≠b)/\ ∀p∈X.pn++pins,p.1≠b
theorem Inv.fpOk {X:Cx}{pins:List (Addr×Obj)}{σ:St}{H H':Hp}{s:Shared}{b:Addr}(I:Inv X pins σ H s) (hb:s.heap.objs.size<=b) (hn:H' b=none):FpOk X pins H' b:=by
 refine⟨hn,Nat.ne_of_gt (Nat.lt_of_lt_of_le I.lt hb),I.nofs hb,.inr (Nat.le_trans I.sz hb),fun x c e z=> ?_,fun p hp z=> ?_⟩
 ·obtain⟨v,q⟩:=I.cell x c e
  exact absurd (Nat.lt_of_lt_of_le q.lt (by rw [z];exact hb)) (Nat.lt_irrefl _)
 ·exact absurd (Nat.lt_of_lt_of_le (Heap.lt_size (I.pin p hp).1) (by rw [z];exact hb)) (Nat.lt_irrefl _)
structure Turn (P:Program) (w:World) (K:PySem.W.Frag) (tg:Expr) (J:It) (fp:List Addr) (it:Addr) (tn:Nat->Heap->Prop):Prop where
 mem:it∈fp
 obj: ∀i h,tn i h-> ∀b∈fp,∃o,h.get? b=some o/\ ∀v,o.data≠ .cell v
 keep: ∀i h h',tn i h->(∀ b∈fp,∀o,h.get? b=some o->h'.get? b=some o)->tn i h'
 item: ∀(X:Cx),X.prog=P->X.w=w->X.K=K->X.calm=true-> ∀(i:Nat) (pins:List (Addr×Obj)) (s:Shared) (σ:St) (H:Hp) (E:Value->Shared->Prop),Inv X pins σ H s->(∀ b∈fp,FpOk X pins H b)->tn i s.heap->J.go i H →
  wpAny (model P w) X.A (pyNext (.ref it)) (fun r s1=> ∃u,r=some u ∧
   wpAny (model P w) X.A (letOwnedTupleGo tg (.ref it) u) (fun _ s2=> ∃x H',Inv X pins σ H' s2/\RelV x u/\J.yld i H x H'/\tn (i+1) s2.heap/\ ∀b∈fp,H' b=none) E s1) E s
 done: ∀(X:Cx),X.prog=P->X.w=w->X.K=K->X.calm=true-> ∀(i:Nat) (pins:List (Addr×Obj)) (s:Shared) (σ:St) (H:Hp) (E:Value->Shared->Prop),Inv X pins σ H s->(∀ b∈fp,FpOk X pins H b)->tn i s.heap->J.stop i H →
  wpAny (model P w) X.A (pyNext (.ref it)) (fun r s1=>r=none/\Inv X pins σ H s1) E s
 self: ∀(A:Around) (i:Nat) (s:Shared) (Q:Value->Shared->Prop) (E:Value->Shared->Prop),tn i s.heap->Q (.ref it) s->wpAny (model P w) A (pyIter (.ref it)) Q E s
abbrev TI:=St->Hp->(It->Hp->Prop)->Prop
def PIE (X:Cx) (pins:List (Addr×Obj)) (σ:St) (tg:Expr) (R:It->Hp->Prop) (itv:Value) (s2:Shared):Prop:=
 ∃(it:Addr) (fp:List Addr) (tn:Nat->Heap->Prop) (J:It) (H':Hp),itv= .ref it/\Inv X pins σ H' s2/\Turn X.prog X.w X.K tg J fp it tn/\tn 0 s2.heap/\(∀ b∈fp,FpOk X pins H' b)/\R J H'
def PI (X:Cx) (tg iter:Expr) (wi:TI):Prop:=
 ∀(pins:List (Addr×Obj)) (s:Shared) (σ:St) (H:Hp) (R:It->Hp->Prop),Inv X pins σ H s->wi σ H R →
  wpAny (model X.prog X.w) X.A (eval iter X.env) (fun v s1=>wpAny (model X.prog X.w) X.A (pyIter v) (PIE X pins σ tg R) X.xe s1) X.xe s
theorem zI {M:Model}{A:Around}{E:Value->Shared->Prop}{s:Shared}{tg:Expr}{it:Addr}{u:Value}{o:Obj}{n:String}{vs:Array Value}{Q:Unit->Shared->Prop}(ho:s.heap.get? it=some o) (hc:o.cls= .type n) (hd:o.data= .fields vs)
 (hn: ["enumerate", "zip", "dict_itemiterator", "dict_reverseitemiterator", "odict_iterator", "itertools.zip_longest", "itertools.pairwise"].contains n=false) (hQ:Q () s):wpAny M A (letOwnedTupleGo tg (.ref it) u) Q E s:=by
 unfold letOwnedTupleGo
 cases tg<;>first
  | exact wpAny_pure hQ
  | (cases u<;>first
      | exact wpAny_pure hQ
      | (refine wpAny_bind (wpAny_load ho ?_)
         rw [hc,hd]
         show wpAny M A (if (["enumerate", "zip", "dict_itemiterator", "dict_reverseitemiterator", "odict_iterator", "itertools.zip_longest", "itertools.pairwise"].contains n&&vs[0]? ==some (rawInt _))=true then _ else _) Q E s
         rw [if_neg (by intro h;rw [hn,Bool.false_and]at h;cases h)]
         exact wpAny_pure hQ))
def Itl (K:PySem.W.Frag) (a:Addr):It:=
 ⟨fun i H=> ∃xs x,SqL K H a xs/\xs[i]? =some x,fun i H x H'=>H'=H/\ ∀xs,SqL K H a xs->xs[i]? =some x,fun i H=> ∃xs,SqL K H a xs/\xs.length<=i⟩
def Itt (K:PySem.W.Frag) (a:Addr):It:=
 ⟨fun i H=> ∃xs x,SqT K H a xs/\xs[i]? =some x,fun i H x H'=>H'=H/\ ∀xs,SqT K H a xs->xs[i]? =some x,fun i H=> ∃xs,SqT K H a xs/\xs.length<=i⟩
def Itr (lo:Int) (n:Nat):It:=⟨fun i _=>i<n,fun i H x H'=>H'=H/\x= .int (lo+i),fun i _=>n<=i⟩
theorem jQ {P:Program}{w:World}{K:PySem.W.Frag}{tg:Expr}(a it:Addr):Turn P w K tg (Itl K a) [it] it (fun i h=>h.IsListIter it a i) where
 mem:=by simp
 obj:=fun i h st b hb=>by
  have e:b=it:=by simpa using hb
  subst e
  obtain⟨o,e,c,d⟩:=st
  exact⟨o,e,fun v z=>by rw [d]at z;cases z⟩
 keep:=fun i h h' st k=>st.at fun o e=>k it (by simp) o e
 item:=by
  intro X hP hw hK hc i pins s σ H E I hf st hg
  subst hP hw hK
  obtain⟨xs,x,hq,hx⟩:=hg
  obtain⟨its,rv,p,hz⟩:=I.list hq
  obtain⟨u,hu,ru⟩:=rv.get hx
  obtain⟨f0,f1,f2,f3,f4,f5⟩:=hf it (by simp)
  refine wpAny_pyNext_list_item st p.isList (x:=u) (by simpa using hu) fun h' st' sb=> ?_
  have I1:Inv X pins σ H { s with heap:=h' }:=I.turned (t':=s.toks) (fun b o hb e=>(sb.2 b hb).trans e) f0 f1 f3 f4 f5
  obtain⟨o,e,c,d⟩:=id st'
  exact⟨u,rfl,zI (s:= { s with heap:=h' }) e c d (by decide) ⟨x,H,I1,ru,⟨rfl,fun ys hy=>by rw [I.list_inj hy hq];exact hx⟩,st',fun b hb=>(hf b hb).1⟩⟩
 done:=by
  intro X hP hw hK hc i pins s σ H E I hf st hg
  subst hP hw hK
  obtain⟨xs,hq,hx⟩:=hg
  obtain⟨its,rv,p,hz⟩:=I.list hq
  obtain⟨f0,f1,f2,f3,f4,f5⟩:=hf it (by simp)
  have hl:=rv.length
  exact wpAny_pyNext_list_end (I.ok.hd hc) st p.isList (by simp;omega) fun h' eb=>⟨rfl,I.turned (t':=s.toks) (fun b o hb e=>eb b o hb e) f0 f1 f3 f4 f5⟩
 self:=fun _ _ _ _ _ st h=>wpAny_pyIter_listiter st h
theorem jJ {P:Program}{w:World}{K:PySem.W.Frag}{tg:Expr}(a it:Addr):Turn P w K tg (Itt K a) [it] it (fun i h=>h.IsTupleIter it a i) where
 mem:=by simp
 obj:=fun i h st b hb=>by
  have e:b=it:=by simpa using hb
  subst e
  obtain⟨o,e,c,d⟩:=st
  exact⟨o,e,fun v z=>by rw [d]at z;cases z⟩
 keep:=fun i h h' st k=>st.at fun o e=>k it (by simp) o e
 item:=by
  intro X hP hw hK hc i pins s σ H E I hf st hg
  subst hP hw hK
  obtain⟨xs,x,hq,hx⟩:=hg
  obtain⟨its,rv,p,hz⟩:=I.tuple hq
  obtain⟨u,hu,ru⟩:=rv.get hx
  obtain⟨f0,f1,f2,f3,f4,f5⟩:=hf it (by simp)
  refine wpAny_pyNext_tuple_item st (show s.heap.IsTuple a its.toArray from p) (x:=u) (by simpa using hu) fun h' st' sb=> ?_
  have I1:Inv X pins σ H { s with heap:=h' }:=I.turned (t':=s.toks) (fun b o hb e=>(sb.2 b hb).trans e) f0 f1 f3 f4 f5
  obtain⟨o,e,c,d⟩:=id st'
  exact⟨u,rfl,zI (s:= { s with heap:=h' }) e c d (by decide) ⟨x,H,I1,ru,⟨rfl,fun ys hy=>by rw [I.tuple_inj hy hq];exact hx⟩,st',fun b hb=>(hf b hb).1⟩⟩
 done:=by
  intro X hP hw hK hc i pins s σ H E I hf st hg
  subst hP hw hK
  obtain⟨xs,hq,hx⟩:=hg
  obtain⟨its,rv,p,hz⟩:=I.tuple hq
  obtain⟨f0,f1,f2,f3,f4,f5⟩:=hf it (by simp)
  have hl:=rv.length
  exact wpAny_pyNext_tuple_end (I.ok.hd hc) st (show s.heap.IsTuple a its.toArray from p) (by simp;omega) fun h' eb=>⟨rfl,I.turned (t':=s.toks) (fun b o hb e=>eb b o hb e) f0 f1 f3 f4 f5⟩
 self:=fun _ _ _ _ _ st h=>wpAny_pyIter_tupleiter st h
theorem ZI {P:Program}{w:World}{K:PySem.W.Frag}{tg:Expr}(it:Addr) (lo:Int) (n:Nat):Turn P w K tg (Itr lo n) [it] it (fun i h=>IsRangeIter h it (lo+(i:Nat)*1) ((n:Int)-(i:Nat)) 1) where
 mem:=by simp
 obj:=fun i h st b hb=>by
  have e:b=it:=by simpa using hb
  subst e
  exact⟨_,st,fun v z=>by
   have z':Data.fields _=Data.cell v:=z
   cases z'⟩
 keep:=fun i h h' st k=>k it (by simp) _ st
 item:=by
  intro X hP hw hK hc i pins s σ H E I hf st hg
  subst hP hw hK
  obtain⟨f0,f1,f2,f3,f4,f5⟩:=hf it (by simp)
  have W:=Walks.range (prog:=X.prog) (w:=X.w) (I.ok.hd hc) it lo 1 n
  refine W.item i s _ _ hg st fun v h' tk hv st' kk=> ?_
  obtain⟨t,rfl⟩:=hv
  have I1:Inv X pins σ H { s with heap:=h',toks:=tk }:=I.turned (fun b o hb e=>kk b o (by simpa using hb) e) f0 f1 f3 f4 f5
  refine⟨_,rfl,zI (s:= { s with heap:=h',toks:=tk }) (n:= "range_iterator") st' rfl rfl (by decide) ⟨.int (lo+i),H,I1,⟨t,?_⟩,⟨rfl,rfl⟩,st',fun b hb=>(hf b hb).1⟩⟩
  rw [Int.mul_one]
 done:=by
  intro X hP hw hK hc i pins s σ H E I hf st hg
  subst hP hw hK
  obtain⟨f0,f1,f2,f3,f4,f5⟩:=hf it (by simp)
  exact wpAny_pyNext_range_end (I.ok.hd hc) st (by have:n<=i:=hg;omega) fun h' eb=>⟨rfl,I.turned (t':=s.toks) (fun b o hb e=>eb b o hb e) f0 f1 f3 f4 f5⟩
 self:=fun _ _ _ _ _ st h=>wpAny_pyIter_rangeiter st h
end L2
namespace L2
open PySem PySem.Spec PyProof.Rows
section
variable {X:Cx}{tg:Expr}
def iList (K:PySem.W.Frag) (tl:TE):TI:=fun σ H R=>tl σ H fun x H1=> ∃a,x= .ref a/\(∃ xs,SqL K H1 a xs)/\R (Itl K a) H1
def iTup (K:PySem.W.Frag) (tl:TE):TI:=fun σ H R=>tl σ H fun x H1=> ∃a,x= .ref a/\(∃ xs,SqT K H1 a xs)/\R (Itt K a) H1
theorem WE {pins:List (Addr×Obj)}{σ:St}{H:Hp}{s:Shared}{R:It->Hp->Prop}{E:Value->Shared->Prop}{lo hi:Int}{t u v:Tok}{tk:Nat}(I:Inv X pins σ H s) (h1: -(2 ^ 62)<=lo) (h2:lo<2 ^ 62) (h3: -(2 ^ 62)<=hi) (h4:hi<2 ^ 62)
 (q:R (Itr lo (hi-lo).toNat) H):wpAny (model X.prog X.w) X.A (pyIter (.ref s.heap.objs.size)) (PIE X pins σ tg R) E { s with heap:=s.heap.push { cls:= .type "range",data:= .fields #[.int lo t,.int hi u,.int 1 v] },toks:=tk }:=by
 refine wpAny_pyIter_range (IsRange.new ..) (small_one h1 h2 h3 h4) ?_
 have I1:Inv X pins σ H { s with heap:=s.heap.push { cls:= .type "range",data:= .fields #[.int lo t,.int hi u,.int 1 v] },toks:=tk }:=I.kept fun b o e=>Heap.get?_push_of_some _ e
 refine⟨(s.heap.push { cls:= .type "range",data:= .fields #[.int lo t,.int hi u,.int 1 v] }).objs.size,[(s.heap.push { cls:= .type "range",data:= .fields #[.int lo t,.int hi u,.int 1 v] }).objs.size],_,_,H,rfl,
  I1.kept (t':=tk) fun b o e=>Heap.get?_push_of_some _ e,ZI _ lo (hi-lo).toNat,?_,fun b hb=> ?_,q⟩
 ·have e1:lo+((0:Nat):Int)*1=lo:=by simp
  have e2:(((hi-lo).toNat:Nat):Int)-((0:Nat):Int)=Builtin.Range.rangeSize lo hi 1:=by rw [rangeSize_one];split<;>omega
  show IsRangeIter _ _ (lo+((0:Nat):Int)*1) ((((hi-lo).toNat:Nat):Int)-((0:Nat):Int)) 1
  rw [e1,e2]
  exact Heap.get?_push_size _ rfl
 ·have e:b=(s.heap.push { cls:= .type "range",data:= .fields #[.int lo t,.int hi u,.int 1 v] }).objs.size:=by simpa using hb
  subst e
  exact I1.fpOk (Nat.le_refl _) (I1.hok.fresh (Nat.le_refl _))
def iRng1 (ta:TA):TI:=fun σ H R=>ta σ H fun vs H1=> ∃j:Int,vs= [.int j]/\ -(2 ^ 62)<=j/\j<2 ^ 62/\R (Itr 0 j.toNat) H1
def iRng2 (ta:TA):TI:=fun σ H R=>ta σ H fun vs H1=> ∃i j:Int,vs= [.int i,.int j]/\(-(2 ^ 62)<=i/\i<2 ^ 62/\ -(2 ^ 62)<=j/\j<2 ^ 62)/\R (Itr i (j-i).toNat) H1
theorem QR {a:Expr}{ta:TA}{p pos:Pos}(hg:Gl X "range") (hm:X.mg "range" =none) (ha:PA X [a] ta) (hs:starEach [a] X.env= [(false,eval a X.env)]:=by rfl):PI X tg (.Call (.Name "range" p) [a] [] pos) (iRng1 ta):=by
 intro pins s σ H R I h
 refine Call_ (Qk I hg hm boot_range (PyProof.Rows.callWith_type1 (thn (ha pos pins s σ H _ I h) fun us s1 ⟨vs,H1,I1,r1,q1⟩=> ?_) hs rfl))
 obtain⟨j,e,q1,q2,q⟩:=q1
 subst e
 cases r1 with
 | cons r rr=>
  cases rr
  obtain⟨t,rfl⟩:=r
  exact call_range_1 (WE I1 (by omega) (by omega) q1 q2 (by simpa using q))
theorem QU {a b:Expr}{ta:TA}{p pos:Pos}(hg:Gl X "range") (hm:X.mg "range" =none) (ha:PA X [a,b] ta) (hs:starEach [a,b] X.env= [(false,eval a X.env),(false,eval b X.env)]:=by rfl) (hs2:starEach [b] X.env= [(false,eval b X.env)]:=by rfl):
 PI X tg (.Call (.Name "range" p) [a,b] [] pos) (iRng2 ta):=by
 intro pins s σ H R I h
 refine Call_ (Qk I hg hm boot_range (PyProof.Rows.callWith_type1 (thn (ha pos pins s σ H _ I h) fun us s1 ⟨vs,H1,I1,r1,q1⟩=> ?_) (by rw [hs,hs2]) (by rw [hs2];rfl)))
 obtain⟨i,j,e,⟨q1,q2,q3,q4⟩,q⟩:=q1
 subst e
 cases r1 with
 | cons r rr=>
  cases rr with
  | cons r' rr=>
   cases rr
   obtain⟨t,rfl⟩:=r
   obtain⟨t',rfl⟩:=r'
   exact call_range_2 (WE I1 q1 q2 q3 q4 q)
def tFor (wi:TI) (g:TG) (tb:TS):TS:=fun D σ H=>wi σ H fun J H1=> ∃W:Nat->Nat->St->Hp->Prop,(∃ m,W 0 m σ H1)/\ ∀i m σ H,W i m σ H →
 (J.stop i H/\D.nx σ H)\/(J.go i H/\ ∃N:St->Hp->Prop,(∀ σ' H',N σ' H'-> ∃m',m'<m/\W (i+1) m' σ' H')/\ ∀x H',J.yld i H x H'->g x σ H' fun σ2 H2=>tb { D with nx:=N,ct:=N,bk:=D.nx } σ2 H2)
def pinsAt (fp:List Addr) (h:Heap):List (Addr×Obj):=fp.filterMap fun b=>(h.get? b).map fun o=>(b,o)
theorem jd {fp:List Addr}{h:Heap}{b:Addr}{o:Obj}(hb:b∈fp) (e:h.get? b=some o):(b,o)∈pinsAt fp h:=List.mem_filterMap.mpr ⟨b,hb,by rw [e];rfl⟩
theorem QA {fp:List Addr}{h:Heap}{p:Addr×Obj}(hp:p∈pinsAt fp h):p.1∈fp/\h.get? p.1=some p.2:=by
 obtain⟨b,hb,e⟩:=List.mem_filterMap.mp hp
 cases q:h.get? b with
 | none=>rw [q]at e;cases e
 | some o=>
  rw [q]at e
  have e':(b,o)=p:=Option.some.inj e
  subst e'
  exact⟨hb,q⟩
theorem Inv.pinned {pins:List (Addr×Obj)}{σ:St}{H:Hp}{s:Shared}{fp:List Addr}(I:Inv X pins σ H s) (hf: ∀b∈fp,FpOk X pins H b) (ho: ∀b∈fp,∃o,s.heap.get? b=some o/\ ∀v,o.data≠ .cell v):Inv X (pins++pinsAt fp s.heap) σ H s:=
 I.pins_of fun p hp=>(List.mem_append.mp hp).elim (fun z=>I.pin p (List.mem_append_right _ z)) fun z=>by
  obtain⟨hb,e⟩:=QA z
  obtain⟨f0,f1,f2,_⟩:=hf p.1 hb
  obtain⟨o,e',d⟩:=ho p.1 hb
  rw [e]at e';cases e'
  exact⟨e,f0,f1,f2,d⟩
theorem Inv.unpinned {pins pl:List (Addr×Obj)}{σ:St}{H:Hp}{s:Shared}(I:Inv X (pins++pl) σ H s):Inv X pins σ H s:=I.pins_of fun p hp=>I.pin p (List.mem_append_right _ (List.mem_append_left _ hp))
theorem qay {iter:Expr}{body:List Stmt}{wi:TI}{g:TG}{tb:TS}{pos:Pos}(hp:PassesOwn (model X.prog X.w) X.A X.env X.xe) (hc:X.calm=true) (hi:PI X tg iter wi) (hg:PG X tg g) (hb:PSs X body tb)
 (hs: ∀x,foldedSetIterable iter X.env x=pure x:=by intro _;rfl):PS X (.For tg iter body [] pos) (tFor wi g tb):=by
 intro pins s σ H D I h
 refine wpAny_For (thn (hi pins s σ H _ I h) fun v s1 h1=>thn h1 fun itv s2 h2=> ?_) hs
 obtain⟨it,fp,tn,J,H2,e,I2,T,st2,f2,W,⟨m0,w0⟩,turn⟩:=h2
 subst e
 have stat: ∀ {H':Hp},(∀ b∈fp,H' b=none)-> ∀b∈fp,FpOk X pins H' b:=fun hn b hb=>⟨hn b hb,(f2 b hb).2⟩
 refine codeAny_forLoop_any (fun n s'=> ∃i σ' H',Inv X pins σ' H' s'/\tn i s'.heap/\(∀ b∈fp,H' b=none)/\W i n σ' H') ?_ m0 ⟨0,σ,H2,I2,st2,fun b hb=>(f2 b hb).1,w0⟩
 rintro n s3 ⟨i,σ3,H3,I3,st3,fr3,w3⟩
 rcases turn i n σ3 H3 w3 with⟨stop,qn⟩ | ⟨go,N,hN,step⟩
 ·refine wpAny_passesOwn hp (thn (T.done X rfl rfl rfl hc i pins s3 σ3 H3 X.xe I3 (stat fr3) st3 stop) fun r s4 ⟨hr,I4⟩=> ?_)
  subst hr
  exact wpAny_execs_nil ⟨σ3,H3,I4,qn⟩
 ·refine wpAny_passesOwn hp (thn (T.item X rfl rfl rfl hc i pins s3 σ3 H3 X.xe I3 (stat fr3) st3 go) fun r s4 ⟨u,hr,h4⟩=> ?_)
  subst hr
  refine wpAny_passesOwn hp (thn h4 fun _ s5 ⟨x,H5,I5,r5,y5,st5,fr5⟩=> ?_)
  have I5':=I5.pinned (stat fr5) (T.obj _ _ st5)
  refine wpAny_passesOwn hp (thn (hg _ s5 σ3 H5 x u _ I5' r5 (step x H5 y5)) fun _ s6 ⟨σ6,H6,I6,q6⟩=> ?_)
  refine wpAny_passesOwn hp (thn (hb _ s6 σ6 H6 _ I6 q6) fun f s7 q7=> ?_)
  have again: ∀ {σ7:St}{H7:Hp},Inv X (pins++pinsAt fp s5.heap) σ7 H7 s7->N σ7 H7-> ∃m,m<n/\ ∃i σ' H',Inv X pins σ' H' s7/\tn i s7.heap/\(∀ b∈fp,H' b=none)/\W i m σ' H':=fun {σ7 H7} I7 n7=>by
   obtain⟨m',hm,w7⟩:=hN σ7 H7 n7
   refine⟨m',hm,i+1,σ7,H7,I7.unpinned,T.keep _ _ _ st5 fun b hb o e=>(I7.pin (b,o) (List.mem_append_right _ (List.mem_append_right _ (jd hb e)))).1,fun b hb=> ?_,w7⟩
   obtain⟨o,e,d⟩:=T.obj _ _ st5 b hb
   exact(I7.pin (b,o) (List.mem_append_right _ (List.mem_append_right _ (jd hb e)))).2.1
  cases f with
  | next=>obtain⟨σ7,H7,I7,n7⟩:=q7;exact again I7 n7
  | cont=>obtain⟨σ7,H7,I7,n7⟩:=q7;exact again I7 n7
  | brk=>obtain⟨σ7,H7,I7,q7⟩:=q7;exact⟨σ7,H7,I7.unpinned,q7⟩
  | ret v=>obtain⟨x7,σ7,H7,I7,r7,q7⟩:=q7;exact⟨x7,σ7,H7,I7.unpinned,r7,q7⟩
end
end L2
namespace L2
open PySem PySem.Spec PyProof.Rows
abbrev R2:=V->V->Hp->VK->Prop
def OpR (X:Cx) (f:Value->Value->Sem Value) (r:R2):Prop:=
 ∀(pins:List (Addr×Obj)) (s:Shared) (σ:St) (H:Hp) (x y:V) (v u:Value) (Q:VK),Inv X pins σ H s->RelV x v->RelV y u->r x y H Q →
  wpAny (model X.prog X.w) X.A (f v u) (EP X pins σ Q) X.xe s
def UnR (X:Cx) (f:Value->Sem Value) (r:V->Hp->VK->Prop):Prop:=
 ∀(pins:List (Addr×Obj)) (s:Shared) (σ:St) (H:Hp) (x:V) (v:Value) (Q:VK),Inv X pins σ H s->RelV x v->r x H Q →
  wpAny (model X.prog X.w) X.A (f v) (EP X pins σ Q) X.xe s
def CallR (X:Cx) (f:Value) (r:List V->Hp->VK->Prop):Prop:=
 ∀(pins:List (Addr×Obj)) (s:Shared) (σ:St) (H:Hp) (xs:List V) (us:List Value) (Q:VK),Inv X pins σ H s->Vals xs us->r xs H Q →
  wpAny (model X.prog X.w) X.A (call f us) (EP X pins σ Q) X.xe s
def TruR (X:Cx) (r:V->Hp->(Bool->Hp->Prop)->Prop):Prop:=
 ∀(pins:List (Addr×Obj)) (s:Shared) (σ:St) (H:Hp) (x:V) (v:Value) (Q:Bool->Hp->Prop),Inv X pins σ H s->RelV x v->r x H Q →
  wpAny (model X.prog X.w) X.A (truthy v) (TP X pins σ Q) X.xe s
def tOp (r:R2) (ta tb:TE):TE:=fun σ H Q=>ta σ H fun x H1=>tb σ H1 fun y H2=>r x y H2 Q
def tUn (r:V->Hp->VK->Prop) (ta:TE):TE:=fun σ H Q=>ta σ H fun x H1=>r x H1 Q
def rI (C:Int->Int->Prop) (g:Int->Int->V):R2:=fun x y H Q=> ∃i j,x= .int i/\y= .int j/\C i j/\Q (g i j) H
def rI0 (g:Int->Int->V):R2:=fun x y H Q=> ∃i j,x= .int i/\y= .int j/\Q (g i j) H
def rU (g:Int->V):V->Hp->VK->Prop:=fun x H Q=> ∃i,x= .int i/\Q (g i) H
section
variable {X:Cx}{a b c:Expr}{ta tb tc:TE}{pos:Pos}
theorem binT (ha:PE X a ta) (hb:PE X b tb){pins:List (Addr×Obj)}{s:Shared}{σ:St}{H:Hp}{R:V->V->Hp->Prop}(I:Inv X pins σ H s)
 (h:ta σ H fun x H1=>tb σ H1 fun y H2=>R x y H2){Q:Value->Shared->Prop}{f:Value->Value->Sem Value}
 (hf: ∀v u s2 x y H2,Inv X pins σ H2 s2->RelV x v->RelV y u->R x y H2->wpAny (model X.prog X.w) X.A (f v u) Q X.xe s2):
 wpAny (model X.prog X.w) X.A (eval a X.env) (fun v s₁=>wpAny (model X.prog X.w) X.A (eval b X.env) (fun u s₂=>wpAny (model X.prog X.w) X.A (f v u) Q X.xe s₂) X.xe s₁) X.xe s:=by
 refine thn (ha pins s σ H _ I h) fun v s1 ⟨x,H1,I1,r1,q1⟩=> ?_
 refine thn (hb pins s1 σ H1 _ I1 q1) fun u s2 ⟨y,H2,I2,r2,q2⟩=> ?_
 exact hf v u s2 x y H2 I2 r1 r2 q2
theorem zaN {op:Operator}{r:R2}(ho:OpR X (binaryOp op) r) (ha:PE X a ta) (hb:PE X b tb):PE X (.BinOp a op b pos) (tOp r ta tb):=by
 intro pins s σ H Q I h
 exact wpAny_BinOp (binT ha hb I h fun v u s2 x y H2 I2 rx ry q=>ho pins s2 σ H2 x y v u Q I2 rx ry q)
theorem zaK {op:UnaryOp}{r:V->Hp->VK->Prop}(ho:UnR X (unaryOp op) r) (ha:PE X a ta):PE X (.UnaryOp op a pos) (tUn r ta):=by
 intro pins s σ H Q I h
 exact UnaryOp_ (thn (ha pins s σ H _ I h) fun v s1 ⟨x,H1,I1,r1,q1⟩=>ho pins s1 σ H1 x v Q I1 r1 q1)
theorem opI {f:Value->Value->Sem Value}{C:Int->Int->Prop}{g:Int->Int->Int}
 (rule: ∀(i j:Int) (t u:Tok) (s:Shared) (Q:Value->Shared->Prop) (E:Value->Shared->Prop),C i j->Q (.int (g i j) s.toks) { s with toks:=s.toks+1 }->wpAny (model X.prog X.w) X.A (f (.int i t) (.int j u)) Q E s):
 OpR X f (rI C fun i j=> .int (g i j)):=by
 intro pins s σ H x y v u Q I rx ry h
 obtain⟨i,j,rfl,rfl,hc,q⟩:=h
 obtain⟨t,rfl⟩:=rx
 obtain⟨t',rfl⟩:=ry
 exact rule i j t t' s _ _ hc ⟨.int (g i j),H,I.tok _,⟨_,rfl⟩,q⟩
theorem opI0 {f:Value->Value->Sem Value}{g:Int->Int->Int}
 (rule: ∀(i j:Int) (t u:Tok) (s:Shared) (Q:Value->Shared->Prop) (E:Value->Shared->Prop),Q (.int (g i j) s.toks) { s with toks:=s.toks+1 }->wpAny (model X.prog X.w) X.A (f (.int i t) (.int j u)) Q E s):
 OpR X f (rI0 fun i j=> .int (g i j)):=by
 intro pins s σ H x y v u Q I rx ry h
 obtain⟨i,j,rfl,rfl,q⟩:=h
 obtain⟨t,rfl⟩:=rx
 obtain⟨t',rfl⟩:=ry
 exact rule i j t t' s _ _ ⟨.int (g i j),H,I.tok _,⟨_,rfl⟩,q⟩
theorem opB0 {f:Value->Value->Sem Value}{g:Int->Int->Bool}
 (rule: ∀(i j:Int) (t u:Tok) (s:Shared) (Q:Value->Shared->Prop) (E:Value->Shared->Prop),Q (.bool (g i j)) s->wpAny (model X.prog X.w) X.A (f (.int i t) (.int j u)) Q E s):
 OpR X f (rI0 fun i j=> .bl (g i j)):=by
 intro pins s σ H x y v u Q I rx ry h
 obtain⟨i,j,rfl,rfl,q⟩:=h
 obtain⟨t,rfl⟩:=rx
 obtain⟨t',rfl⟩:=ry
 exact rule i j t t' s _ _ ⟨.bl (g i j),H,I,rfl,q⟩
def CDiv (i j:Int):Prop:=0<j/\j<1073741824
def CDivN (i j:Int):Prop:=j≠0/\j.natAbs<1073741824
def CPow (i j:Int):Prop:=0<=j/\j<=1000000/\i.natAbs<2 ^ 64
def CMul (i j:Int):Prop:=(-(2 ^ 64)<i/\i<2 ^ 64)\/(-(2 ^ 64)<j/\j<2 ^ 64)
theorem CMul.ok {i j:Int}(h:CMul i j):IntMulOk i j:=by
 rcases h with⟨h1,h2⟩ | ⟨h1,h2⟩
 ·exact .of_left (intBits_le_64 h1 h2)
 ·exact .of_right (intBits_le_64 h1 h2)
theorem wJ (k:Nat):(0:Int)<=2 ^ k:=by
 rw [two_pow_cast]
 exact Int.natCast_nonneg _
theorem jaB:OpR X (binaryOp .Add) (rI0 fun i j=> .int (i+j)):=opI0 fun _ _ _ _ _ _ _ q=>add_int q
theorem xaF:OpR X (binaryOp .Sub) (rI0 fun i j=> .int (i-j)):=opI0 fun _ _ _ _ _ _ _ q=>sub_int q
theorem zaI:OpR X (binaryOp .Mult) (rI CMul fun i j=> .int (i*j)):=opI fun _ _ _ _ _ _ _ hc q=>mul_int q hc.ok
theorem zal:OpR X (binaryOp .FloorDiv) (rI CDiv fun i j=> .int (i / j)):=opI fun i j _ _ _ _ _ hc q=>by
 have h1:(0:Int)<j:=hc.1
 have h2:j<1073741824:=hc.2
 exact floordiv_int (by omega) (by rw [Int.fdiv_eq_ediv_of_nonneg i (by omega)];exact q) (.inl (PyProof.noPylong_small (by omega)))
theorem jaK:OpR X (binaryOp .Mod) (rI (fun _ j=>0<j) fun i j=> .int (i % j)):=opI fun i j _ _ _ _ _ hc q=>by
 have h1:(0:Int)<j:=hc
 exact mod_int' (by omega) (by rw [Int.fmod_eq_emod_of_nonneg i (by omega)];exact q)
theorem qaA:OpR X (binaryOp .Pow) (rI CPow fun i j=> .int (i ^ j.toNat)):=opI fun _ _ _ _ _ _ _ hc q=>pow_int_small hc.1 hc.2.1 hc.2.2 q
theorem qaI:OpR X (binaryOp .LShift) (rI CPow fun i j=> .int (i*2 ^ j.toNat)):=opI fun _ _ _ _ _ _ _ hc q=>lshift_int_small hc.1 hc.2.1 hc.2.2 q
theorem qaB:OpR X (binaryOp .RShift) (rI (fun _ j=>0<=j) fun i j=> .int (i / 2 ^ j.toNat)):=opI fun i j _ _ _ _ _ hc q=>
 rshift_int hc (by rw [Int.fdiv_eq_ediv_of_nonneg i (wJ _)];exact q)
theorem qaJ:OpR X (binaryOp .BitAnd) (rI0 fun i j=> .int (Builtin.bitAnd i j)):=opI0 fun _ _ _ _ _ _ _ q=>and_int q
theorem zaM:OpR X (binaryOp .BitOr) (rI0 fun i j=> .int (Builtin.bitOr i j)):=opI0 fun _ _ _ _ _ _ _ q=>or_int q
theorem zaA:OpR X (binaryOp .BitXor) (rI0 fun i j=> .int (Builtin.bitXor i j)):=opI0 fun _ _ _ _ _ _ _ q=>xor_int q
theorem unI {f:Value->Sem Value}{g:Int->Int}
 (rule: ∀(i:Int) (t:Tok) (s:Shared) (Q:Value->Shared->Prop) (E:Value->Shared->Prop),Q (.int (g i) s.toks) { s with toks:=s.toks+1 }->wpAny (model X.prog X.w) X.A (f (.int i t)) Q E s):
 UnR X f (rU fun i=> .int (g i)):=by
 intro pins s σ H x v Q I rx h
 obtain⟨i,rfl,q⟩:=h
 obtain⟨t,rfl⟩:=rx
 exact rule i t s _ _ ⟨.int (g i),H,I.tok _,⟨_,rfl⟩,q⟩
theorem q5:UnR X (unaryOp .USub) (rU fun i=> .int (-i)):=unI fun _ _ _ _ _ q=>neg_int q
end
def scal:V->V->Bool
 | .non,.non=>true | .non,.int _=>true | .int _,.non=>true | .non,.bl _=>true | .bl _,.non=>true | .non,.str _=>true | .str _,.non=>true
 | .int _,.int _=>true | .bl _,.bl _=>true | .str _,.str _=>true | .byt _,.byt _=>true
 | .int _,.str _=>true | .str _,.int _=>true | .bl _,.str _=>true | .str _,.bl _=>true
 | _,_=>false
def rEq:R2:=fun x y H Q=>scal x y=true/\Q (.bl (decide (x=y))) H
def rNe:R2:=fun x y H Q=>scal x y=true/\Q (.bl (!decide (x=y))) H
section
variable {X:Cx}{a b c:Expr}{ta tb tc:TE}{pos:Pos}
theorem Qw {pins:List (Addr×Obj)}{σ:St}{H:Hp}{s:Shared}{Q:VK}{k k':Bool}(I:Inv X pins σ H s) (q:Q (.bl k) H) (e:k=k'):EP X pins σ Q (.bool k') s:=by
 subst e
 exact⟨.bl k,H,I,rfl,q⟩
theorem xaP:OpR X (compareOp .Lt) (rI0 fun i j=> .bl (decide (i<j))):=opB0 fun _ _ _ _ _ _ _ q=>lt_int q
theorem jaR:OpR X (compareOp .LtE) (rI0 fun i j=> .bl (decide (i<=j))):=opB0 fun _ _ _ _ _ _ _ q=>le_int q
theorem zaR:OpR X (compareOp .Gt) (rI0 fun i j=> .bl (decide (j<i))):=opB0 fun _ _ _ _ _ _ _ q=>gt_int q
theorem qaQ:OpR X (compareOp .GtE) (rI0 fun i j=> .bl (decide (j<=i))):=opB0 fun _ _ _ _ _ _ _ q=>ge_int q
theorem xR:OpR X (compareOp .Lt) (fun x y H Q=> ∃i j,x= .str i/\y= .str j/\Q (.bl (decide (i.cps.toList<j.cps.toList))) H):=by
 intro pins s σ H x y v u Q I rx ry h
 obtain⟨i,j,rfl,rfl,q⟩:=h
 obtain⟨t,rfl⟩:=rx
 obtain⟨t',rfl⟩:=ry
 exact lt_str (Qw I q rfl)
theorem WL:OpR X (compareOp .In) (fun x y H Q=> ∃i j,x= .str i/\y= .str j/\Q (.bl (!(Builtin.Str.occurrences j i 0 j.length 1).isEmpty)) H):=by
 intro pins s σ H x y v u Q I rx ry h
 obtain⟨i,j,rfl,rfl,q⟩:=h
 obtain⟨t,rfl⟩:=rx
 obtain⟨t',rfl⟩:=ry
 exact in_str (Qw I q rfl)
def isObj:HO->Bool
 | .lst _=>true
 | .ins _ _ _=>true
 | _=>false
theorem xah {op:CmpOp}{r:R2}(ho:OpR X (compareOp op) r) (ha:PE X a ta) (hb:PE X b tb) (hm:behindInMarks op b=false):PE X (.Compare a [op] [b] pos) (tOp r ta tb):=by
 intro pins s σ H Q I h
 exact wpAny_Compare1 (binT ha hb I h fun v u s2 x y H2 I2 rx ry q=>ho pins s2 σ H2 x y v u Q I2 rx ry q) hm
def tTest (t:TE):TT:=fun σ H Q=>t σ H fun x H'=> ∃k,x= .bl k/\Q k H'
theorem jah {op:CmpOp}{r:R2}(ho:OpR X (compareOp op) r) (ha:PE X a ta) (hb:PE X b tb) (hm:behindInMarks op b=false):PT X (.Compare a [op] [b] pos) (tTest (tOp r ta tb)):=by
 intro pins s σ H Q I h
 refine wpAny_isTrue_Compare1 (thn (ha pins s σ H _ I h) fun v s1 ⟨x,H1,I1,r1,q1⟩=>thn (hb pins s1 σ H1 _ I1 q1) fun u s2 ⟨y,H2,I2,r2,q2⟩=>
  thn (ho pins s2 σ H2 x y v u _ I2 r1 r2 q2) fun c s3 ⟨z,H3,I3,r3,k,e,q3⟩=> ?_) hm
 subst e
 cases r3
 exact wpAny_truthy_bool ⟨H3,I3,q3⟩
def tChain (r r':R2) (ta tb tc:TE):TE:=fun σ H Q=>ta σ H fun x H1=>tb σ H1 fun y H2=>r x y H2 fun z H3=> ∃k,z= .bl k ∧
 (if k=true then tc σ H3 fun w' H4=>r' y w' H4 Q else Q (.bl false) H3)
def TruV (K:PySem.W.Frag) (x:V) (H:Hp) (k:Bool):Prop:=
 match x with
 | .non=>k=false
 | .bl b=>k=b
 | .int i=>k=(i != 0)
 | .str y=>y.length<=sizeLine/\k=((y.length:Int) != 0)
 | .byt y=>y.size<=sizeLine/\k=((y.size:Int) != 0)
 | .ref p=>(∃ xs,SqL K H p xs/\k= !xs.isEmpty)\/(∃ xs,SqT K H p xs/\k= !xs.isEmpty)\/ ∃kvs,H p=some (.dK kvs)/\k= !kvs.isEmpty
 | _=>False
theorem XI {κ:Type}{kvs:List (κ×V)}{vs:List (κ×Value)}(r:KV kvs vs):(!vs.isEmpty)= !kvs.isEmpty:=by
 cases r<;>rfl
theorem Wq {xs:List V}{its:List Value}(r:Vals xs its):(!its.toArray.isEmpty)= !xs.isEmpty:=by
 cases r<;>simp
theorem wo:(sizeLine:Nat)<2 ^ 63:=by rw [sizeLine_eq];decide
theorem QM:TruR X (fun x H Q=> ∃k,TruV X.K x H k/\Q k H):=by
 intro pins s σ H x v Q I rx h
 obtain⟨k,e,q⟩:=h
 have hl:=wo
 have hs:sizeLine=16777216:=sizeLine_eq
 cases x with
 | non=>
  cases rx
  have e':k=false:=e
  subst e'
  exact truthy_none ⟨H,I,q⟩
 | bl b=>
  cases rx
  have e':k=b:=e
  subst e'
  exact wpAny_truthy_bool ⟨H,I,q⟩
 | int i=>
  obtain⟨t,rfl⟩:=rx
  have e':k=(i != 0):=e
  subst e'
  exact PySem.P.truthy_int ⟨H,I,q⟩
 | str y=>
  obtain⟨t,rfl⟩:=rx
  obtain⟨hy,e'⟩:y.length<=sizeLine/\k=((y.length:Int) != 0):=e
  subst e'
  exact PySem.P.truthy_str (by omega) ⟨H,I.tok _,q⟩
 | byt y=>
  obtain⟨t,rfl⟩:=rx
  obtain⟨hy,e'⟩:y.size<=sizeLine/\k=((y.size:Int) != 0):=e
  subst e'
  exact PySem.W.truthy_bytes (by omega) ⟨H,I.tok _,q⟩
 | ref p=>
  cases rx
  have e':(∃ xs,SqL X.K H p xs/\k= !xs.isEmpty)\/(∃ xs,SqT X.K H p xs/\k= !xs.isEmpty)\/ ∃kvs,H p=some (.dK kvs)/\k= !kvs.isEmpty:=e
  rcases e' with⟨xs,hx,e'⟩ | ⟨xs,hx,e'⟩ | ⟨kvs,hx,e'⟩
  ·subst e'
   obtain⟨its,r,pl,hz⟩:=I.list hx
   have hlen:=r.length
   exact wpAny_truthy_list pl.isList (by simp only [List.size_toArray];omega) ⟨H,I.tok _,by rw [Wq r];exact q⟩
  ·subst e'
   obtain⟨its,r,pl,hz⟩:=I.tuple hx
   have hlen:=r.length
   exact truthy_tuple pl (by simp only [List.size_toArray];omega) ⟨H,I.tok _,by rw [Wq r];exact q⟩
  ·subst e'
   obtain⟨hz,hS,vs,r,m⟩:kvs.length<=sizeLine/\(p==sysModules)=false/\ ∃vs,KV kvs vs/\s.heap.DictOf (mixKind X.prog X.w) p vs:=I.hok p _ hx
   have hlen:kvs.length=vs.length:=Paired.length r
   exact wpAny_truthy_dict hS m (by omega) ⟨H,I.tok _,by rw [XI r];exact q⟩
 | _=>exact(show False from e).elim
theorem qZ (ha:PE X a ta) (he: ∀whole,isTrue a X.env whole=(do let v ←whole;standAt a.pos;holding [v] (truthy v))):
 PT X a (fun σ H Q=>ta σ H fun x H'=> ∃k,TruV X.K x H' k/\Q k H'):=by
 intro pins s σ H Q I h
 exact isTrue_plain (thn (ha pins s σ H _ I h) fun v s1 ⟨x,H1,I1,r1,q1⟩=>QM pins s1 σ H1 x v Q I1 r1 q1) (he _)
theorem xH:OpR X (binaryOp .Add) (fun x y H Q=> ∃i j,x= .str i/\y= .str j/\i.length+j.length<=sizeLine/\Q (.str (i++j)) H):=by
 intro pins s σ H x y v u Q I rx ry h
 obtain⟨i,j,rfl,rfl,hz,q⟩:=h
 obtain⟨t,rfl⟩:=rx
 obtain⟨t',rfl⟩:=ry
 exact add_str (fun t' tk=>⟨.str (i++j),H,I.tok _,⟨_,rfl⟩,q⟩) hz
def PlainIxT (b:Expr):Prop:= ∀o i,subscripted b false o i=operate [o,i] (getItem o i)
theorem xl {x:V}{us:List Value}(r:Vals [x] us): ∃u,us= [u]/\RelV x u:=by
 cases r with
 | cons r1 r2=>cases r2;exact⟨_,rfl,r1⟩
theorem QK {x y:V}{us:List Value}(r:Vals [x,y] us): ∃u w',us= [u,w']/\RelV x u/\RelV y w':=by
 cases r with
 | cons r1 r2=>
  cases r2 with
  | cons r3 r4=>cases r4;exact⟨_,_,rfl,r1,r3⟩
theorem wS (hc:X.calm=true):CallR X (.builtin "max") (fun xs H Q=> ∃i j,xs= [.int i,.int j]/\Q (.int (if j>i then j else i)) H):=by
 intro pins s σ H xs us Q I r h
 obtain⟨i,j,rfl,q⟩:=h
 obtain⟨u,w',rfl,⟨t,rfl⟩,⟨t',rfl⟩⟩:=QK r
 refine max_two_ints (I.ok.hd hc) fun h' tk k=>⟨_,H,I.kept k,?_,q⟩
 by_cases hj:j>i
 ·rw [if_pos hj,if_pos hj];exact⟨_,rfl⟩
 ·rw [if_neg hj,if_neg hj];exact⟨_,rfl⟩
theorem zS (hc:X.calm=true):CallR X (.builtin "min") (fun xs H Q=> ∃i j,xs= [.int i,.int j]/\Q (.int (if j<i then j else i)) H):=by
 intro pins s σ H xs us Q I r h
 obtain⟨i,j,rfl,q⟩:=h
 obtain⟨u,w',rfl,⟨t,rfl⟩,⟨t',rfl⟩⟩:=QK r
 refine min_two_ints (I.ok.hd hc) fun h' tk k=>⟨_,H,I.kept k,?_,q⟩
 by_cases hj:j<i
 ·rw [if_pos hj,if_pos hj];exact⟨_,rfl⟩
 ·rw [if_neg hj,if_neg hj];exact⟨_,rfl⟩
theorem Wy:CallR X (.type "int") (fun xs H Q=>(∃ i,xs= [.int i]/\Q (.int i) H)\/ ∃k,xs= [.bl k]/\Q (.int (if k then 1 else 0)) H):=by
 intro pins s σ H xs us Q I r h
 rcases h with⟨i,rfl,q⟩ | ⟨k,rfl,q⟩
 ·obtain⟨u,rfl,t,rfl⟩:=xl r
  exact call_int_int ⟨.int i,H,I,⟨_,rfl⟩,q⟩
 ·obtain⟨u,rfl,r1⟩:=xl r
  cases r1
  exact call_int_bool ⟨.int (if k then 1 else 0),H,I.tok _,⟨_,rfl⟩,q⟩
def LenV (K:PySem.W.Frag) (x:V) (H:Hp) (n:Nat):Prop:=
 match x with
 | .str y=>y.length<=sizeLine/\n=y.length
 | .byt y=>y.size<=sizeLine/\n=y.size
 | .ref p=>(∃ xs,SqL K H p xs/\n=xs.length)\/ ∃xs,SqT K H p xs/\n=xs.length
 | _=>False
theorem xD:CallR X (.builtin "divmod") (fun xs H Q=> ∃i j,xs= [.int i,.int j]/\CDiv i j/\ ∀p,H p=none->Q (.ref p) (upd H p (.tup [.int (i / j),.int (i % j)]))):=by
 intro pins s σ H xs us Q I r h
 obtain⟨i,j,rfl,⟨h1,h2⟩,q⟩:=h
 obtain⟨u,w',rfl,⟨t,rfl⟩,⟨t',rfl⟩⟩:=QK r
 refine divmod_int (by omega) ?_ (.inl (PyProof.noPylong_small (by omega)))
 rw [Int.fdiv_eq_ediv_of_nonneg i (by omega),Int.fmod_eq_emod_of_nonneg i (by omega)]
 have hn:H s.heap.objs.size=none:=I.hok.fresh (Nat.le_refl _)
 refine⟨.ref s.heap.objs.size,_,?_,rfl,q _ hn⟩
 refine I.laid (fun b o e=>Heap.get?_push_of_some _ e) (Nat.le_refl _) ⟨by simp only [List.length_cons,List.length_nil];rw [sizeLine_eq];decide,[.int (i / j) s.toks,.int (i % j) (s.toks+1)],.cons ⟨_,rfl⟩ (.cons ⟨_,rfl⟩ .nil),?_⟩
 exact⟨_,Heap.get?_push_size s.heap rfl,rfl,rfl,0,rfl⟩
end
end L2
namespace L2
open PySem PySem.Spec PyProof.Rows
structure ObjM (h:Heap) (x dx C:Addr) (mA:Str->Option Value):Prop where
 obj:h.get? x=some (PySem.W.instObj C dx)
 ns:h.Ns1 dx mA
 ne:dx≠x
theorem WS {h:Heap}{dx:Addr}{mA:Str->Option Value}(n:h.Ns1 dx mA): ∃od,h.get? dx=some od/\ ∀name,PySem.W.lookIn name od=some (mA name):=by
 obtain⟨o,es,ep,ho,hd,hk,_,hm⟩:=n
 refine⟨o,ho,fun name=> ?_⟩
 have e:=hm name
 unfold nsFind findBy at e
 rw [← Array.find?_toList]at e
 unfold PySem.W.lookIn
 rw [hd]
 dsimp only
 split
 ·rename_i y q
  rw [q]at e
  exact congrArg some e
 ·rename_i q
  rw [q]at e
  have a:es.toList.any (·.refKey)=false:=by
   rw [List.any_eq_false]
   intro y hy
   obtain⟨z,t,hkey⟩:=hk y (Array.mem_toList_iff.mp hy)
   simp [DictEntry.refKey,hkey]
  have a': ¬es.toList.any (·.refKey)=true:=by rw [a];exact Bool.false_ne_true
  rw [if_neg a']
  exact congrArg some e
theorem ObjM.look {h:Heap}{x dx C:Addr}{mA:Str->Option Value}(I:ObjM h x dx C mA): ∃od,PySem.W.InstAt h x (PySem.W.instObj C dx) C (some od)/\ ∀name,PySem.W.lookIn name od=some (mA name):=
 let ⟨od,ho,hl⟩:=WS I.ns
 ⟨od,⟨I.obj,rfl,rfl,ho⟩,hl⟩
section
variable {prog:Program}{w:World}{A:Around}{E:Value->Shared->Prop}{s:Shared}{K:PySem.W.Frag}{x dx C f:Addr}{mA:Str->Option Value}{name:Str}{v:Value}
end
def putF (f:Str) (v:V):List (Str×V)->List (Str×V)
 | []=> [(f,v)]
 | (g,x)::r=>if g=f then(g,v)::r else(g,x)::putF f v r
section
variable {P:Program}{w:World}{H H':Hp}{h h':Heap}{a C dx:Addr}{fs fs':List (Str×V)}
theorem xao (hok:HOk P w H h) (e:H a=some (.ins C dx fs)): ∃mA,ObjM h a dx C mA/\(∀ f,RelO (fs.lookup f) (mA f))/\PySem.Within mA (fs.map (·.1))/\fs.length<=1000/\H dx=some (.own a):=by
 obtain⟨d,z,ne,ob,mA,n,r,q⟩:=(show ObjOk P w H h a (.ins C dx fs)from hok a _ e)
 exact⟨mA,⟨ob,n,ne⟩,r,q,z,d⟩
end
structure Cls (K:PySem.W.Frag) (C:Addr):Prop where
 pg:PySem.W.plainGet K C Str.empty=true
 hd:PySem.W.hasDictIn K C=true
 po:PySem.W.plainOver K C=true
 sa:PySem.W.findIn K (.ref C) "__setattr__" =some (some (.builtin "object.__setattr__"))
theorem Cls.get {K:PySem.W.Frag}{C:Addr}(c:Cls K C) (f:Str):PySem.W.plainGet K C f=true:=c.pg
def NoAttr (K:PySem.W.Frag) (C:Addr) (f:Str):Prop:=PySem.W.findIn K (.ref C) f=some none
structure Con (K:PySem.W.Frag) (C:Addr) (f:Str) (v:V) (u:Value):Prop where
 at_:PySem.W.findIn K (.ref C) f=some (some u)
 rel:RelV v u
 get:PySem.W.specialIn K u "__get__" =some none
 cp:PySem.W.copiedNames.contains f=false
structure Meth (K:PySem.W.Frag) (C:Addr) (m:Str) (f:Addr):Prop where
 at_:PySem.W.findIn K (.ref C) m=some (some (.ref f))
 fn:PySem.W.isFn K (.ref f)=true
 kp:PySem.W.keepIn K (.ref f)=true
section
variable {X:Cx}{pins:List (Addr×Obj)}{σ:St}{H:Hp}{s:Shared}{a C dx:Addr}{fs:List (Str×V)}{f:Str}{v:V}{A:Around}{E:Value->Shared->Prop}
end
def tFld (K:PySem.W.Frag) (ta:TE) (f:Str):TE:=fun σ H Q=>ta σ H fun x H1=> ∃a C dx fs v,x= .ref a/\H1 a=some (.ins C dx fs)/\Cls K C/\NoAttr K C f/\fs.lookup f=some v/\Q v H1
def tCon (K:PySem.W.Frag) (ta:TE) (f:Str):TE:=fun σ H Q=>ta σ H fun x H1=> ∃a C dx fs v u,x= .ref a/\H1 a=some (.ins C dx fs)/\Cls K C/\Con K C f v u/\fs.lookup f=none/\Q v H1
def sFld (K:PySem.W.Frag) (ta tv:TE) (f:Str):TS:=fun D σ H=>tv σ H fun y H1=>ta σ H1 fun x H2=> ∃a C dx fs,x= .ref a/\H2 a=some (.ins C dx fs)/\Cls K C/\NoAttr K C f/\fs.length<1000 ∧
 D.nx σ (upd H2 a (.ins C dx (putF f y fs)))
def InOp (X:Cx) (op:Operator) (rd:V->V->Hp->VK->Prop):Prop:=
 ∀(pins:List (Addr×Obj)) (s:Shared) (σ:St) (H:Hp) (x y:V) (u v:Value) (Q:VK),Inv X pins σ H s->RelV x u->RelV y v->rd x y H Q->wpAny (model X.prog X.w) X.A (inplaceOp op u v) (EP X pins σ Q) X.xe s
def sFldAug (K:PySem.W.Frag) (ta tv:TE) (rd:V->V->Hp->VK->Prop) (f:Str):TS:=fun D σ H=>ta σ H fun x H1=> ∃a C dx fs v,x= .ref a/\H1 a=some (.ins C dx fs)/\Cls K C/\NoAttr K C f/\fs.lookup f=some v ∧
 tv σ H1 fun y H2=>rd v y H2 fun z H3=> ∃dx' fs',H3 a=some (.ins C dx' fs')/\fs'.length<1000/\D.nx σ (upd H3 a (.ins C dx' (putF f z fs')))
section
variable {X:Cx}{o e value:Expr}{f:Str}{pos pos' tpos:Pos}{ta tv:TE}
def rAdd:V->V->Hp->VK->Prop:=fun x y H Q=> ∃i j,x= .int i/\y= .int j/\Q (.int (i+j)) H
def rSub:V->V->Hp->VK->Prop:=fun x y H Q=> ∃i j,x= .int i/\y= .int j/\Q (.int (i-j)) H
end
section
variable {X:Cx}{pins:List (Addr×Obj)}{σ:St}{H:Hp}{s:Shared}{A:Around}{E:Value->Shared->Prop}{Q:Value->Shared->Prop}{c:Value}{b:Bool}
inductive TyOf (K:PySem.W.Frag) (H:Hp):V->Value->Prop where
 | non:TyOf K H .non (.type "NoneType")
 | bl (x:Bool):TyOf K H (.bl x) (.type "bool")
 | int (i:Int):TyOf K H (.int i) (.type "int")
 | str (x:Str):TyOf K H (.str x) (.type "str")
 | flt (x:UInt64):TyOf K H (.flt x) (.type "float")
 | lst {a:Addr}{xs:List V}(e:H a=some (.lst xs)):TyOf K H (.ref a) (.type "list")
 | frz {a:Addr}{o:Obj}{xs:List V}(e:H a=some (.frz o (.lst xs))):TyOf K H (.ref a) (.type "list")
 | tup {a:Addr}{xs:List V}(e:H a=some (.tup xs)):TyOf K H (.ref a) (.type "tuple")
 | dK {a:Addr}{kvs:List (Key×V)}(e:H a=some (.dK kvs)):TyOf K H (.ref a) (.type "dict")
 | dT {a:Addr}{kvs:List (List Key×V)}(e:H a=some (.dT kvs)):TyOf K H (.ref a) (.type "dict")
 | ins {a C dx:Addr}{fs:List (Str×V)}(e:H a=some (.ins C dx fs)) (cl:Cls K C) (ha:PySem.W.findIn K (.ref C) "__class__" =some (some (.builtin "object.__class__")))
  (hn:PySem.W.specialIn K (.builtin "object.__class__") "__get__" =some (some (.builtin "getset_descriptor.__get__"))) (htk:PySem.W.takesIn K (.builtin "object.__class__")=some true)
  (hm:PySem.W.mroIn K C (.type "object")=some true):TyOf K H (.ref a) (.ref C)
theorem Qd {x:V}{u t:Value}(I:Inv X pins σ H s) (rx:RelV x u) (ty:TyOf X.K H x t) (e:PySem.W.kitOne X.K t c=some b) (h: ∀tk,Q (.bool b) { s with toks:=tk }):
 wpAny (model X.prog X.w) A (call (.builtin "isinstance") [u,c]) Q E s:=by
 cases ty with
 | non=>cases (show u=Value.none from rx);exact PySem.W.kia_one PySem.W.kitx_none I.kIn True.intro e (fun z=>nomatch z) h
 | bl y=>cases (show u=Value.bool y from rx);exact PySem.W.kia_one PySem.W.kitx_bool I.kIn True.intro e (fun z=>nomatch z) h
 | int i=>obtain⟨t,q⟩:=(show ∃t,u=Value.int i t from rx);cases q;exact PySem.W.kia_one PySem.W.kitx_int I.kIn True.intro e (fun z=>nomatch z) h
 | str y=>obtain⟨t,q⟩:=(show ∃t,u=Value.str y t from rx);cases q;exact PySem.W.kia_one PySem.W.kitx_str I.kIn True.intro e (fun z=>nomatch z) h
 | flt y=>obtain⟨t,q⟩:=(show ∃t,u=Value.float y t from rx);cases q;exact PySem.W.kia_one PySem.W.kitx_float I.kIn True.intro e (fun z=>nomatch z) h
 | @lst a xs ea=>
  cases (show u=Value.ref a from rx)
  obtain⟨_,_,n,_,h1⟩:=(show ObjOk X.prog X.w H s.heap a (.lst xs)from I.hok a _ ea)
  exact PySem.W.kia_one PySem.W.kitx_list I.kIn ⟨_,h1,rfl⟩ e (fun z=>nomatch z) h
 | @frz a ob xs ea=>
  cases (show u=Value.ref a from rx)
  obtain⟨_,_,_,n,_,h1⟩:=(show ObjOk X.prog X.w H s.heap a (.frz ob (.lst xs))from I.hok a _ ea)
  exact PySem.W.kia_one PySem.W.kitx_list I.kIn ⟨_,h1,rfl⟩ e (fun z=>nomatch z) h
 | @tup a xs ea=>
  cases (show u=Value.ref a from rx)
  obtain⟨_,_,_,p⟩:=(show ObjOk X.prog X.w H s.heap a (.tup xs)from I.hok a _ ea)
  obtain⟨o,h1,h2,_⟩:=p
  exact PySem.W.kia_one PySem.W.kitx_tuple I.kIn ⟨o,h1,h2⟩ e (fun z=>nomatch z) h
 | @dK a kvs ea=>
  cases (show u=Value.ref a from rx)
  obtain⟨_,_,vs,_,p⟩:=(show ObjOk X.prog X.w H s.heap a (.dK kvs)from I.hok a _ ea)
  obtain⟨o,es,ep,h1,h2,_⟩:=p
  exact PySem.W.kia_one PySem.W.kitx_dict I.kIn ⟨o,h1,h2.1⟩ e (fun z=>nomatch z) h
 | @dT a kvs ea=>
  cases (show u=Value.ref a from rx)
  obtain⟨_,_,xs,_,o,es,ep,h1,h2,_⟩:=(show ObjOk X.prog X.w H s.heap a (.dT kvs)from I.hok a _ ea)
  exact PySem.W.kia_one PySem.W.kitx_dict I.kIn ⟨o,h1,h2.1⟩ e (fun z=>nomatch z) h
 | @ins a C dx fs ea cl ha hn htk hm=>
  cases (show u=Value.ref a from rx)
  obtain⟨mA,O,_⟩:=xao I.hok ea
  obtain⟨od,J,_⟩:=O.look
  exact PySem.W.kia_one (PySem.W.kitx_own (cl.get _) cl.hd ha hn htk hm) I.kIn J e (fun z=>nomatch z) h
end
end L2
namespace L2
open PySem PySem.Spec PyProof.Rows
structure Room (k:Nat) (A:Around):Prop where
 hd:A.handled=none
 dp:A.depth+3*k+5<recursionLimit
 un:A.units+16*k+200<cLine
theorem Room.deeper {k:Nat}{A:Around}(r:Room (k+1) A) (env:Env):Room k (A.deeper env):=
 ⟨r.hd,by have:=r.dp;show A.depth+1+3*k+5<_;omega,by have:=r.un;show A.units+3+16*k+200<_;omega⟩
theorem Room.depth {k:Nat}{A:Around}(r:Room k A):A.depth<recursionLimit:=by have:=r.dp;omega
def tNil:TA:=fun _ H Q=>Q [] H
def tCons (ta:TE) (tr:TA):TA:=fun σ H Q=>ta σ H fun x H1=>tr σ H1 fun xs H2=>Q (x::xs) H2
section
variable {X:Cx}{e:Expr}{es:List Expr}{te:TE}{t:TA}{pos:Pos}
theorem zf:PA X [] tNil:=fun _ _ _ _ H Q I h=>Calls.spliced_nil ⟨[],H,I,.nil,h⟩
theorem Xb (ha:PE X e te) (hr:PA X es t) (hs:starEach (e::es) X.env=(false,eval e X.env)::starEach es X.env:=by rfl):PA X (e::es) (tCons te t):=by
 intro pos pins s σ H Q I h
 rw [hs]
 show wpAny _ _ (spliced ((false,eval e X.env)::backTo pos (starEach es X.env))) _ _ s
 refine Calls.spliced_cons (thn (ha pins s σ H _ I h) fun u s1 ⟨x,H1,I1,r1,q1⟩=> ?_)
 exact thn (hr pos pins s1 σ H1 _ I1 q1) fun us s2 ⟨xs,H2,I2,r2,q2⟩=>⟨x::xs,H2,I2,.cons r1 r2,q2⟩
def tTup (t:TA):TE:=fun σ H Q=>t σ H fun xs H1=>xs.length<=sizeLine/\ ∀p,H1 p=none->Q (.ref p) (upd H1 p (.tup xs))
def tLst (t:TA):TE:=fun σ H Q=>t σ H fun xs H1=>xs.length<=sizeLine/\ ∀p,H1 p=none->Q (.ref p) (upd H1 p (.lst xs))
theorem qax {x1}(h:PA X es t):PE X (.Tuple es x1 pos) (tTup t):=by
 intro pins s σ H Q I hq
 refine wpAny_Tuple_spliced (thn (h pos pins s σ H _ I hq) fun us s1 ⟨xs,H1,I1,r,z,q⟩=>⟨by rw [← r.length];exact z,?_⟩)
 have hf:H1 s1.heap.objs.size=none:=I1.hok.fresh (Nat.le_refl _)
 refine⟨.ref s1.heap.objs.size,upd H1 s1.heap.objs.size (.tup xs),I1.laid (t':=s1.toks) (fun b u e=>Heap.get?_push_of_some _ e) (Nat.le_refl _) ?_,rfl,q _ hf⟩
 exact⟨z,us,r,⟨_,Heap.get?_push_size _ rfl,rfl,rfl,_,rfl⟩⟩
theorem qaD (h:PA X es t):PE X (.List es pos) (tLst t):=by
 intro pins s σ H Q I hq
 refine wpAny_List_spliced (thn (h pos pins s σ H _ I hq) fun us s1 ⟨xs,H1,I1,r,z,q⟩=>⟨by rw [← r.length];exact z,?_⟩)
 have hf:H1 s1.heap.objs.size=none:=I1.hok.fresh (Nat.le_refl _)
 refine⟨.ref s1.heap.objs.size,upd H1 s1.heap.objs.size (.lst xs),I1.laid (t':=s1.toks) (fun b u e=>Heap.get?_push_of_some _ e) (Nat.le_refl _) ?_,rfl,q _ hf⟩
 exact⟨z,us,0,r,Heap.get?_push_size _ rfl⟩
end
abbrev Sp:=List V->Hp->VK->XK->Prop
abbrev CXT:=List Env->Hp->Shared->XK->Value->Shared->Prop
structure Env0 (P:Program) (w:World) (K:PySem.W.Frag) (mg:Str->Option Value) (base:Heap) (A:Around) (outer:List Env) (s:Shared) (H:Hp):Prop where
 frames:A.frames=some outer
 mod:Mod K mg base
 bs: ∀b o,base.get? b=some o->s.heap.get? b=some o/\H b=none
 bsz:base.objs.size<=s.heap.objs.size
 funs:s.heap.FunFrames base outer
 frf: ∀b∈frs outer,H b=none
 hok:HOk P w H s.heap
 bare:AllBare s.gens
def CE (outer:List Env) (P:Program) (w:World) (H:Hp) (s:Shared) (Q:VK) (u:Value) (s':Shared):Prop:=
 ∃v H',s'.os=s.os/\AllBare s'.gens/\Un (frs outer) [] H H' s.heap s'.heap/\HOk P w H' s'.heap/\RelV v u/\Q v H'
def CR (CX:CXT) (outer:List Env) (P:Program) (w:World) (H:Hp) (s:Shared) (Q:VK) (E:XK) (r:Result) (s':Shared):Prop:=
 match r with
 | .ok (.ret u)=>CE outer P w H s Q u s'
 | .ok _=>False
 | .error e=>CX outer H s E e s'
structure FnOk (P:Program) (w:World) (K:PySem.W.Frag) (mg:Str->Option Value) (base:Heap) (CX:CXT) (k:Nat) (f:Addr) (fd:FuncData) (ps:List Str) (sp:Sp):Prop where
 len: ∀vs H Q E,sp vs H Q E->vs.length=ps.length
 run: ∀(A:Around) (outer:List Env) (s:Shared) (H:Hp) (args:Args) (us:List Value) (vs:List V) (Q:VK) (E:XK),Room k A->Env0 P w K mg base A outer s H->BindsTo s fd args (ps.zip us)->Vals vs us->sp vs H Q E →
  codeAny (model P w) A (.call (.ref f) args) (CR CX outer P w H s Q E) s
section
variable {X:Cx}{pins:List (Addr×Obj)}{σ:St}{H:Hp}{s s':Shared}
theorem Inv.env0 (I:Inv X pins σ H s):Env0 X.prog X.w X.K X.mg X.base X.A X.stack s H:=
 ⟨I.ok.frames,I.ok.mod,I.bs,Nat.le_trans I.ok.bsz I.sz,I.stack,I.stkFree,I.hok,I.bare⟩
theorem Inv.after {Q:VK}{u:Value}(I:Inv X pins σ H s) (h:CE X.stack X.prog X.w H s Q u s'):EP X pins σ Q u s':=by
 obtain⟨v,H',os,bare,un,hok,r,q⟩:=h
 obtain⟨hh,g,d,t,os'⟩:=s'
 obtain rfl:os'=s.os:=os
 exact⟨v,H',I.call (h':=hh) (g':=g) (d':=d) (t':=t) (ch:= []) un hok bare (fun b z=>absurd z (by simp)),r,q⟩
end
def tCall (sp:Sp) (dvs:List V) (E:XK) (t:TA):TE:=fun σ H Q=>t σ H fun vs H1=>sp (vs++dvs) H1 Q E
def tMeth (C:Addr) (m:Str) (sp:Sp) (dvs:List V) (E:XK) (ta:TE) (t:TA):TE:=fun σ H Q=>ta σ H fun x H1=> ∃a dx fs,x= .ref a/\H1 a=some (.ins C dx fs)/\fs.lookup m=none ∧
 t σ H1 fun vs H2=>sp (x::(vs++dvs)) H2 Q E
def tMake (C:Addr) (sp:Sp) (dvs:List V) (E:XK) (t:TA):TE:=fun σ H Q=>t σ H fun vs H1=> ∀x dx,H1 x=none->H1 dx=none->dx≠x →
 sp (.ref x::(vs++dvs)) (upd (upd H1 dx (.own x)) x (.ins C dx [])) (fun v H2=>v= .non/\Q (.ref x) H2) E
def Binds (K:PySem.W.Frag) (fd:FuncData) (ps:List Str) (ds:List Value):Prop:=
 ∀(s:Shared) (us:List Value),K.In s.heap->(us++ds).length=ps.length->BindsTo s fd ⟨us,[]⟩ (ps.zip (us++ds))
theorem Binds.all {K:PySem.W.Frag}{fd:FuncData}{ps:List Str}(h: ∀us:List Value,us.length=ps.length->bindArgs fd ⟨us,[]⟩=pure (ps.zip us)):Binds K fd ps []:=fun s us _ hl=>by
 rw [List.append_nil]at hl ⊢
 exact .of_eq (h us hl)
def Passes (CX:CXT) (X:Cx) (E:XK):Prop:= ∀(pins:List (Addr×Obj)) (σ:St) (H:Hp) (s:Shared) (e:Value) (s':Shared),Inv X pins σ H s->CX X.stack H s E e s'->X.xe e s'
section
variable {X:Cx}{CX:CXT}{k:Nat}{f C:Addr}{fd:FuncData}{ps:List Str}{sp:Sp}{dvs:List V}{ds:List Value}{E:XK}{x m:Str}{p pos apos:Pos}{e o:Expr}{es:List Expr}{ta:TE}{t:TA}
theorem J9 {pins:List (Addr×Obj)}{σ:St}{H:Hp}{s:Shared}{Q:VK}{us:List Value}{vs:List V}(F:FnOk X.prog X.w X.K X.mg X.base CX k f fd ps sp) (hr:Room k X.A) (hb:Binds X.K fd ps ds) (hd:Vals dvs ds) (hx:Passes CX X E)
 (I:Inv X pins σ H s) (r:Vals vs us) (h:sp (vs++dvs) H Q E):wpAny (model X.prog X.w) X.A (call (.ref f) us) (EP X pins σ Q) X.xe s:=by
 have r2:Vals (vs++dvs) (us++ds):=r.append hd
 have hl:(us++ds).length=ps.length:=by rw [← r2.length];exact F.len _ _ _ _ h
 refine wpAny_call (codeAny_mono (F.run X.A X.stack s H ⟨us,[]⟩ (us++ds) (vs++dvs) Q E hr I.env0 (hb s us I.kIn hl) r2 h) fun r s' hq=> ?_)
 cases r with
 | error e=>exact hx pins σ H s e s' I hq
 | ok fl=>
  cases fl with
  | ret u=>exact I.after hq
  | next=>exact False.elim hq
  | brk=>exact False.elim hq
  | cont=>exact False.elim hq
theorem zab (F:FnOk X.prog X.w X.K X.mg X.base CX k f fd ps sp) (hr:Room k X.A) (hg:Gl X x) (hm:X.mg x=some (.ref f)) (hk:PySem.W.keepIn X.K (.ref f)=true) (hb:Binds X.K fd ps ds) (hd:Vals dvs ds) (hx:Passes CX X E)
 (ha:PA X (e::es) t) (hdb:(x==("__debug__" :Str))=false:=by decide) (he:starEach (e::es) X.env=(false,eval e X.env)::starEach es X.env:=by rfl) (hpl:(backTo pos (starEach es X.env)).any (·.1)=false:=by rfl):
 PE X (.Call (.Name x p) (e::es) [] pos) (tCall sp dvs E t):=by
 intro pins s σ H Q I h
 refine wpAny_Call_Name_kw (Jt I hg hm ?_ hdb)
 refine PySem.W.callWith_K (h₀:=X.base) I.ok.mod.kin hk (thn (ha pos pins s σ H _ I h) fun us s1 ⟨vs,H1,I1,r,q⟩=>⟨I1.kIn,?_⟩) he hpl
 exact J9 F hr hb hd hx I1 r q
theorem ZV (F:FnOk X.prog X.w X.K X.mg X.base CX k f fd ps sp) (hr:Room k X.A) (hg:Gl X x) (hm:X.mg x=some (.ref f)) (hk:PySem.W.keepIn X.K (.ref f)=true) (hb:Binds X.K fd ps ds) (hd:Vals dvs ds) (hx:Passes CX X E)
 (hdb:(x==("__debug__" :Str))=false:=by decide):PE X (.Call (.Name x p) [] [] pos) (tCall sp dvs E tNil):=by
 intro pins s σ H Q I h
 refine wpAny_Call_Name_kw (Jt I hg hm ?_ hdb)
 exact PySem.W.callWith_K0 I.kIn hk (J9 (us:= []) F hr hb hd hx I .nil h)
structure Mk (K:PySem.W.Frag) (C f:Addr):Prop where
 makes:PySem.W.makesIn K C=true
 init:PySem.W.findIn K (.ref C) "__init__" =some (some (.ref f))
 fn:PySem.W.isFn K (.ref f)=true
 kp:PySem.W.keepIn K (.ref C)=true
end
def PK (X:Cx) (kws:List Keyword) (t:TA):Prop:=
 ∀(pos:Pos) (pins:List (Addr×Obj)) (s:Shared) (σ:St) (H:Hp) (Q:List V->Hp->Prop),Inv X pins σ H s->t σ H Q->wpAny (model X.prog X.w) X.A (evalAll ((backToKw pos (keywordEach kws X.env)).map (·.2))) (AP X pins σ Q) X.xe s
section
variable {X:Cx}{CX:CXT}{k:Nat}{f C:Addr}{fd:FuncData}{ps ks:List Str}{sp:Sp}{E:XK}{x m:Str}{p pos apos kpos:Pos}{e o:Expr}{es:List Expr}{kws:List Keyword}{te ta:TE}{t tk:TA}{nm:Option Str}
structure KBinds (K:PySem.W.Frag) (fd:FuncData) (ps ks:List Str) (g:List Value->List Value->List Value) (gV:List V->List V->List V):Prop where
 to: ∀(s:Shared) (us ws:List Value),K.In s.heap->(g us ws).length=ps.length->BindsTo s fd ⟨us,ks.zip ws⟩ (ps.zip (g us ws))
 rel: ∀ {vs:List V}{us:List Value}{zs:List V}{ws:List Value},Vals vs us->Vals zs ws->Vals (gV vs zs) (g us ws)
def tCallK (sp:Sp) (gV:List V->List V->List V) (E:XK) (t tk:TA):TE:=fun σ H Q=>t σ H fun vs H1=>tk σ H1 fun zs H2=>sp (gV vs zs) H2 Q E
variable {g:List Value->List Value->List Value}{gV:List V->List V->List V}
end
structure FnScope (N P:List Str) (sc:Scope):Prop where
 kind:sc.kind= .function
 co:sc.isCoroutine=false
 gen:sc.isGenerator=false
 nd:N.Nodup
 pre:N.take P.length=P
 par: ∀x∈P,sc.names.lookup x=some .local\/sc.names.lookup x=some .cell
 nofree: ∀y∈sc.names,y.2≠ .free
theorem wz {kindOf:Str->Option NameKind}{x:Str}: ∀ {binds:List (Str×Value)}{m:Str->Option Value},(∀ v,(x,v)∉binds)->bindL kindOf binds m x=m x
 | [],_,_=>rfl
 | (n,v)::r,m,h=>by
  unfold bindL
  rw [wz fun w hw=>h w (List.mem_cons_of_mem _ hw)]
  split
  ·have:x≠n:=by rintro rfl;exact h v List.mem_cons_self
   simp [this]
  ·rfl
theorem Jw {kindOf:Str->Option NameKind}{x:Str}: ∀ {binds:List (Str×Value)}{m:Str->Option Value},(∀ v,(x,v)∉binds)->bindC kindOf binds m x=m x
 | [],_,_=>rfl
 | (n,v)::r,m,h=>by
  unfold bindC
  rw [Jw fun w hw=>h w (List.mem_cons_of_mem _ hw)]
  split
  ·rfl
  ·have:x≠n:=by rintro rfl;exact h v List.mem_cons_self
   simp [this]
theorem jA {kindOf:Str->Option NameKind}{x:Str}{v:Value}: ∀ {P:List Str}{vs:List Value}{i:Nat}{m:Str->Option Value},P.Nodup->P[i]? =some x->vs[i]? =some v->kindOf x=some .local →
 bindL kindOf (P.zip vs) m x=some v
 | [],_,_,_,_,h,_,_=>by simp at h
 | _::_,[],_,_,_,_,h,_=>by simp at h
 | p::P,w::vs,0,m,nd,h1,h2,hk=>by
  simp at h1 h2;subst h1;subst h2
  show bindL kindOf ((p,w)::P.zip vs) m p=_
  unfold bindL
  rw [wz fun v hv=>(List.nodup_cons.mp nd).1 (List.of_mem_zip hv).1,if_pos hk]
  simp
 | p::P,w::vs,i+1,m,nd,h1,h2,hk=>by
  show bindL kindOf ((p,w)::P.zip vs) m x=_
  unfold bindL
  exact jA (i:=i) (List.nodup_cons.mp nd).2 (by simpa using h1) (by simpa using h2) hk
theorem Wv {kindOf:Str->Option NameKind}{x:Str}{v:Value}: ∀ {P:List Str}{vs:List Value}{i:Nat}{m:Str->Option Value},P.Nodup->P[i]? =some x->vs[i]? =some v->kindOf x≠some .local →
 bindC kindOf (P.zip vs) m x=some v
 | [],_,_,_,_,h,_,_=>by simp at h
 | _::_,[],_,_,_,_,h,_=>by simp at h
 | p::P,w::vs,0,m,nd,h1,h2,hk=>by
  simp at h1 h2;subst h1;subst h2
  show bindC kindOf ((p,w)::P.zip vs) m p=_
  unfold bindC
  rw [Jw fun v hv=>(List.nodup_cons.mp nd).1 (List.of_mem_zip hv).1,if_neg hk]
  simp
 | p::P,w::vs,i+1,m,nd,h1,h2,hk=>by
  show bindC kindOf ((p,w)::P.zip vs) m x=_
  unfold bindC
  exact Wv (i:=i) (List.nodup_cons.mp nd).2 (by simpa using h1) (by simpa using h2) hk
def start (N:List Str) (vs:List V):St:=vs.map some++List.replicate (N.length-vs.length) none
def cxOf (CX:CXT) (P:Program) (w:World) (K:PySem.W.Frag) (mg:Str->Option Value) (base:Heap) (N:List Str) (qual:Str) (scope:Scope) (f:Addr) (cd:Value) (A:Around) (outer:List Env) (s:Shared) (H:Hp) (E:XK):Cx where
 prog:=P
 w:=w
 K:=K
 mg:=mg
 base:=base
 A:=A.deeper (envOfC qual scope s.heap.objs.size f cd)
 N:=N
 s₀:=s
 H₀:=H
 env:=envOfC qual scope s.heap.objs.size f cd
 outer:=outer
 stack:=envOfC qual scope s.heap.objs.size f cd::outer
 ex:= []
 calm:=true
 fn:=fun _=>true
 pn:= []
 xe:=fun e s'=>wpAny (model P w) (A.deeper (envOfC qual scope s.heap.objs.size f cd)) (leaving (envOfC qual scope s.heap.objs.size f cd) e) (fun _ s''=>CX outer H s E e s'') (fun e' s''=>CX outer H s E e' s'') s'
theorem WF {sc:Scope}{n:Nat}{x:Str}(h:sc.names.lookup x=some .cell): ∃c,(cellsFrom n sc.names []).lookup x=some c:=by
 have q:=PySem.W.cellsFrom_some sc.names n [] (.inl h)
 exact Option.isSome_iff_exists.mp q
theorem wL {CX:CXT}{P:Program}{w:World}{K:PySem.W.Frag}{mg:Str->Option Value}{base:Heap}{N ps:List Str}{qual:Str}{scope:Scope}{f:Addr}{cd:Value}{A:Around}{outer:List Env}{s s1:Shared}{H:Hp}{E:XK}{us:List Value}{vs:List V}
 (S:FnScope N ps scope) (hd:A.handled=none) (e0:Env0 P w K mg base A outer s H) (hl:vs.length=ps.length) (r:Vals vs us)
 (x:InCallC s s.heap.objs.size (bindL (envOfC qual scope s.heap.objs.size f cd).kindOf (ps.zip us) fun _=>none) (cellsFrom (s.heap.objs.size+1) scope.names []) (bindC (envOfC qual scope s.heap.objs.size f cd).kindOf (ps.zip us) fun _=>none) s1):
 Inv (cxOf CX P w K mg base N qual scope f cd A outer s H E) [] (start N vs) H s1:=by
 have hpl:ps.length<=N.length:=by have:=congrArg List.length S.pre;rw [List.length_take]at this;omega
 obtain⟨h1,tk,rfl,hk⟩:=x.done
 have noA: ∀b:Addr,b∉(cxOf CX P w K mg base N qual scope f cd A outer s H E).ex:=fun b z=>absurd (show b∈([]:List Addr)from z) (by simp)
 refine⟨⟨e0.mod,S.kind,rfl,rfl,Nat.le_refl _,fun y z c h1 h2=> ?_,fun y hy=> ?_,fun y c _ h=> ?_,fun _=>hd,Around.frames_deeper e0.frames,.inr ⟨rfl,rfl⟩,fun b z=>absurd z (noA b),e0.bs,e0.bsz,fun b _ _=>noA b,fun b z=>absurd z (noA b),e0.funs,e0.frf⟩,
  rfl,e0.bare,Un.kept hk,⟨_,x.toInCall.ns,fun i y v h1 h2 h3=> ?_⟩,fun y c h=>⟨_,x.cell y c h⟩,e0.hok.fresh (Nat.le_refl _),fun y c h=> ?_,fun p hp=>absurd (show p∈([]:List (Addr×Obj))from hp) (by simp),e0.hok.kept hk,?_⟩
 ·exact name_of_addr x.apart (PySem.mem_of_lookup h1) (PySem.mem_of_lookup h2)
 ·have hy:scope.names.lookup y=some .cell\/scope.names.lookup y=some .free:=hy
  rcases hy with hy | hy
  ·exact WF hy
  ·exact absurd rfl (S.nofree _ (PySem.mem_of_lookup hy))
 ·exact Nat.le_of_lt (x.above y c (PySem.mem_of_lookup h))
 ·have hi:i<vs.length:=by
   unfold start at h2
   by_cases hi:i<vs.length
   ·exact hi
   ·rw [List.getElem?_append_right (by simpa using hi)]at h2
    rw [List.getElem?_replicate]at h2
    split at h2<;>cases h2
  have ha:vs[i]? =some v:=by
   unfold start at h2
   rw [List.getElem?_append_left (by simpa using hi),List.getElem?_map]at h2
   cases e:vs[i]? with
   | none=>rw [e]at h2;cases h2
   | some a=>rw [e]at h2;cases h2;rfl
  obtain⟨u,hu,rv⟩:=r.get ha
  have hp:ps[i]? =some y:=by
   rw [← S.pre,List.getElem?_take_of_lt (by omega)];exact h1
  have ndP:ps.Nodup:=by rw [← S.pre];exact S.nd.sublist (List.take_sublist _ _)
  refine⟨u,rv,?_⟩
  rcases S.par y (List.mem_of_getElem? hp)with k | k
  ·exact .inl ⟨k,jA ndP hp hu k⟩
  ·obtain⟨c,e⟩:=WF (n:=s.heap.objs.size+1) k
   refine .inr ⟨.inl k,c,e,?_⟩
   have q:=x.cell y c e
   rw [Wv ndP hp hu (by show scope.names.lookup y≠_;rw [k];decide)]at q
   exact q
 ·exact e0.hok.fresh (Nat.le_of_lt (x.above y c (PySem.mem_of_lookup h)))
 ·unfold start
  show _=N.length
  rw [List.length_append,List.length_map,List.length_replicate]
  omega
theorem jaN {CX:CXT}{P:Program}{w:World}{K:PySem.W.Frag}{mg:Str->Option Value}{base:Heap}{k:Nat}{f:Addr}{name qual:Str}{params:Arguments}{body:List Stmt}{scope:Scope}{dV kV doc pm cdv ct oc:Value}{an od:Option Addr}
 {osl:Array (Option Value)}{N ps:List Str}{sp:Sp}(lk:K.lookup f=some ⟨oc,od,.func (PySem.W.fnOf name qual params body scope dV kV doc pm an cdv ct),osl⟩) (hcd:PySem.W.codeIn K cdv qual=true) (S:FnScope N ps scope)
 (len: ∀vs H Q E,sp vs H Q E->vs.length=ps.length)
 (hbody: ∀(A:Around) (outer:List Env) (s:Shared) (H:Hp) (vs:List V) (Q:VK) (E:XK),Room k (A.deeper (envOfC qual scope s.heap.objs.size f cdv))->sp vs H Q E →
   ∃t,PSs (cxOf CX P w K mg base N qual scope f cdv A outer s H E) body t/\t { nx:=fun _ H'=>Q .non H',rt:=Q } (start N vs) H):
 FnOk P w K mg base CX (k+1) f (PySem.W.fnOf name qual params body scope dV kV doc pm an cdv ct) ps sp:=by
 refine⟨len,fun A outer s H args us vs Q E hr e0 hb r hsp=> ?_⟩
 have hl:=len _ _ _ _ hsp
 have KX:K.In s.heap:=e0.mod.kin.keeps fun b o e=>(e0.bs b o e).1
 have lim:s.heap.NoLimit:=e0.mod.nolimit.keeps fun b o e=>(e0.bs b o e).1
 have hkind: ∀y∈ps.zip us,scope.names.lookup y.1=some .local\/(scope.names.lookup y.1=some .cell/\((cellsFrom (s.heap.objs.size+1) scope.names []).lookup y.1).isSome=true):=fun⟨n,v⟩ hy=>by
  rcases S.par n (List.of_mem_zip hy).1 with q | q
  ·exact .inl q
  ·exact .inr ⟨q,PySem.W.cellsFrom_some _ _ _ (.inl q)⟩
 refine codeAny_call_function hr.depth (KX _ _ lk) rfl S.co S.gen rfl (PySem.W.codeRec_of KX hcd) (hb _ _ _ _ ?_)
 refine wpAny_newFunctionEnv_cells S.kind hkind fun env he s1 x=> ?_
 subst he
 refine⟨lim.keeps x.toInCall.keep,codeAny_func ?_⟩
 obtain⟨t,ht,hq⟩:=hbody A outer s H vs Q E (hr.deeper _) hsp
 have I:Inv (cxOf CX P w K mg base N qual scope f cdv A outer s H E) [] (start N vs) H s1:=wL S hr.hd e0 hl r x
 refine wpAny_mono (ht [] s1 (start N vs) H _ I hq) (fun fl s' hs=> ?_) fun e s' hs=>hs
 have fin: ∀ {σ':St}{H':Hp}{v:V}{u:Value},Inv (cxOf CX P w K mg base N qual scope f cdv A outer s H E) [] σ' H' s'->RelV v u->Q v H'->CE outer P w H s Q u s':=
  fun {σ' H' v u} J rv q=>⟨v,H',J.os,J.bare,J.base,J.hok,rv,q⟩
 cases fl with
 | ret u=>
  obtain⟨v,σ',H',J,rv,q⟩:=hs
  exact fin J rv q
 | next=>
  obtain⟨σ',H',J,q⟩:=hs
  exact fin (v:=V.non) (u:=Value.none) J rfl q
 | brk=>
  obtain⟨_,_,_,q⟩:=hs
  exact False.elim q
 | cont=>
  obtain⟨_,_,_,q⟩:=hs
  exact False.elim q
end L2
namespace L2
open PySem PySem.Spec PyProof.Rows
section
variable {X:Cx}{x:Str}{p pos:Pos}{e:Expr}{es:List Expr}{t:TA}{id T:String}{r:List V->Hp->VK->Prop}
def tCB (r:List V->Hp->VK->Prop) (t:TA):TE:=fun σ H Q=>t σ H fun vs H1=>r vs H1 Q
theorem Wc (hc:CallR X (.builtin id) r) (hg:Gl X x) (hm:X.mg x=none) (hv:bootBuiltins x=some (.builtin id)) (ha:PA X (e::es) t) (hn:x≠ "__name__" :=by decide) (hdb:(x==("__debug__" :Str))=false:=by decide)
 (he:starEach (e::es) X.env=(false,eval e X.env)::starEach es X.env:=by rfl) (hpl:(backTo pos (starEach es X.env)).any (·.1)=false:=by rfl):PE X (.Call (.Name x p) (e::es) [] pos) (tCB r t):=by
 intro pins s σ H Q I h
 refine wpAny_Call_Name_kw (Qk I hg hm hv ?_ hn hdb)
 exact PyProof.Rows.callWith_builtin1 (thn (ha pos pins s σ H _ I h) fun us s1 ⟨vs,H1,I1,r1,q1⟩=>hc pins s1 σ H1 vs us Q I1 r1 q1) he hpl
theorem zj (hc:CallR X (.type T) r) (hg:Gl X x) (hm:X.mg x=none) (hv:bootBuiltins x=some (.type T)) (ha:PA X (e::es) t) (hn:x≠ "__name__" :=by decide) (hdb:(x==("__debug__" :Str))=false:=by decide)
 (he:starEach (e::es) X.env=(false,eval e X.env)::starEach es X.env:=by rfl) (hpl:(backTo pos (starEach es X.env)).any (·.1)=false:=by rfl):PE X (.Call (.Name x p) (e::es) [] pos) (tCB r t):=by
 intro pins s σ H Q I h
 refine wpAny_Call_Name_kw (Qk I hg hm hv ?_ hn hdb)
 exact PyProof.Rows.callWith_type1 (thn (ha pos pins s σ H _ I h) fun us s1 ⟨vs,H1,I1,r1,q1⟩=>hc pins s1 σ H1 vs us Q I1 r1 q1) he hpl
end
end L2
namespace HT
open PySem PyProof.Rows
def lexLt:List Int->List Int->Bool
 | [],[]=>false
 | [],_::_=>true
 | _::_,[]=>false
 | x::xs,y::ys=>if x=y then lexLt xs ys else decide (x<y)
theorem xaq (x y:Int) (xs ys:List Int):lexLt (x::xs) (y::ys)=if x=y then lexLt xs ys else decide (x<y):=rfl
theorem x0:lexLt [] []=false:=rfl
theorem xV (y:Int) (ys:List Int):lexLt [] (y::ys)=true:=rfl
theorem wV (x:Int) (xs:List Int):lexLt (x::xs) []=false:=rfl
section
open PySem.SeqAt
open PySem.AutoSeq1 (wpAny_loadPart')
open PySem.MeetsSeq PySem.MeetsSeq2 PySem.MeetsSeq3
end
section
variable {prog:Program}{w:World}{A:Around}{E:Value->Shared->Prop}{s:Shared}
theorem cat_tup {t b:Addr}{vs ws:List Value}{Q:Value->Shared->Prop}(ht:IsTup s.heap t vs.toArray) (hb:IsTup s.heap b ws.toArray) (hv:vs≠ [])
 (h1:ws= []->Q (.ref t) s) (h2:ws≠ []->Q (.ref s.heap.objs.size) { s with heap:=s.heap.push { cls:= .type "tuple",data:= .seq (vs++ws).toArray } })
 (hsz:vs.length+ws.length<=sizeLine):wpAny (model prog w) A (binaryOp .Add (.ref t) (.ref b)) Q E s:=by
 obtain⟨⟨cls,dd,data,sl⟩,ho,hc,n,hd⟩:=id ht
 obtain⟨⟨cls2,dd2,data2,sl2⟩,ho2,hc2,n2,hd2⟩:=id hb
 simp only at hc hd hc2 hd2
 subst hc hd hc2 hd2
 have e:vs.toArray++ws.toArray=(vs++ws).toArray:=by simp
 by_cases hw:ws= []
 ·exact concat_meets ⟨_,ho,rfl⟩ ⟨_,ho2,rfl⟩ noFill_tuple_add seq_tuple_add PySem.F.slot_tuple_add PySem.F.entry_tuple_add (PySem.F.args_tuple_add_2 _ _)
   (tuple_addW1 t b vs.toArray ws.toArray n n2 dd dd2 sl sl2 (by simpa using hv) (by simp [hw])) ⟨ho,ho2,h1 hw⟩
 ·refine concat_meets ⟨_,ho,rfl⟩ ⟨_,ho2,rfl⟩ noFill_tuple_add seq_tuple_add PySem.F.slot_tuple_add PySem.F.entry_tuple_add (PySem.F.args_tuple_add_2 _ _)
   (tuple_addW2 t b vs.toArray ws.toArray n n2 dd dd2 sl sl2 (by simpa using hv) (by simpa using hw) (by rw [List.size_toArray,List.size_toArray];exact hsz)) ⟨ho,ho2,?_⟩
  rw [e]
  exact h2 hw
def sIx (n d:Nat):Option Int->Nat
 | none=>d
 | some v=>if v<0 then(v+(n:Int)).toNat else min v.toNat n
theorem qaL (n d:Nat):sIx n d none=d:=rfl
theorem qaK (n d:Nat) (hd:d<=n) (o:Option Int):sIx n d o<=n:=by
 cases o with
 | none=>exact hd
 | some v=>
  show(if v<0 then(v+(n:Int)).toNat else min v.toNat n)<=n
  by_cases hv:v<0
  ·rw [if_pos hv];omega
  ·rw [if_neg hv];exact Nat.min_le_right _ _
theorem XQ (v:Int) (n d:Nat):(if v<0 then max (v+(n:Int)) 0 else min v (n:Int))=((sIx n d (some v):Nat):Int):=by
 show(if v<0 then max (v+(n:Int)) 0 else min v (n:Int))=(((if v<0 then(v+(n:Int)).toNat else min v.toNat n):Nat):Int)
 by_cases hv:v<0
 ·simp only [if_pos hv];omega
 ·simp only [if_neg hv];omega
theorem jH (lo hi:Option Int) (n:Nat):Builtin.Slice.sliceAdjust lo hi 1 (n:Int)=(((sIx n 0 lo:Nat):Int),((sIx n n hi:Nat):Int)):=by
 have h1: ¬((1:Int)<0):=by omega
 unfold Builtin.Slice.sliceAdjust
 simp only [h1,if_false]
 refine Prod.ext ?_ ?_
 ·cases lo with
  | none=>rfl
  | some v=>exact XQ v n 0
 ·cases hi with
  | none=>rfl
  | some v=>exact XQ v n n
theorem zJ (i j:Nat):Builtin.Slice.slicePlaces (i:Int) (j:Int) 1=j-i:=by
 unfold Builtin.Slice.slicePlaces
 have h1:(1:Int)>0:=by omega
 simp only [h1,if_true,Int.ediv_one]
 split<;>omega
theorem Jr {v:Value}{o:Option Int}{Q:Option Int->Shared->Prop}(p:IsPart v o) (h:Q o s):wpAny (model prog w) A (Builtin.Slice.slicePartIndex v) Q E s:=by
 cases p with
 | none=>exact slicePart_none h
 | int i t=>exact slicePart_int h
theorem sliceApplied_gen {sl:Addr}{vl vu:Value}{lo hi:Option Int}{n:Nat}{Q:Int×Int×Nat->Shared->Prop}(hs:s.heap.IsSliceOf sl vl vu .none) (pl:IsPart vl lo) (pu:IsPart vu hi)
 (h:Q (((sIx n 0 lo:Nat):Int),1,sIx n n hi-sIx n 0 lo) s):wpAny (model prog w) A (Builtin.Slice.sliceApplied (.ref sl) (pure (n:Int))) Q E s:=by
 obtain⟨os,hos,hcs,hds⟩:=id hs
 unfold Builtin.Slice.sliceApplied Builtin.Slice.sliceFields
 refine wpAny_bind (wpAny_bind (wpAny_field hos hds (x:=vl) rfl (wpAny_bind (wpAny_field hos hds (x:=vu) rfl (wpAny_bind (wpAny_field hos hds (x:= .none) rfl (wpAny_pure ?_)))))))
 refine wpAny_bind (slicePart_none ?_)
 show wpAny _ _ (if ((1:Int)==0)=true then _ else _) _ _ s
 rw [if_neg (by decide)]
 refine wpAny_bind (Jr pl (wpAny_bind (Jr pu (wpAny_bind (wpAny_pure ?_)))))
 show wpAny _ _ (match Builtin.Slice.sliceAdjust lo hi 1 (n:Int)with | (lo,hi)=>pure (lo,(1:Int),Builtin.Slice.slicePlaces lo hi 1)) _ _ s
 rw [jH lo hi n]
 show wpAny _ _ (pure (((sIx n 0 lo:Nat):Int),(1:Int),Builtin.Slice.slicePlaces ((sIx n 0 lo:Nat):Int) ((sIx n n hi:Nat):Int) 1)) _ _ s
 rw [zJ]
 exact wpAny_pure h
theorem WZ (xs:Array Value) (i k:Nat):((List.range k).filterMap fun(m:Nat)=>xs[((i:Int)+(m:Int)*1).toNat]?).toArray=((xs.toList.drop i).take k).toArray:=by
 have e:(fun (m:Nat)=>xs[((i:Int)+(m:Int)*1).toNat]?)=fun m=>xs[i+m]? :=by
  funext m
  have:((i:Int)+(m:Int)*1).toNat=i+m:=by omega
  rw [this]
 rw [e]
 have:=pick_run xs i k
 rw [List.filterMap_map]at this
 have e2:((fun x=>xs[x]?)∘fun x=>i+x)=fun m=>xs[i+m]? :=rfl
 rw [e2]at this
 rw [this]
theorem getItem_tuple_cut {t sl:Addr}{items:Array Value}{vl vu:Value}{lo hi:Option Int}{Q:Value->Shared->Prop}(ht:IsTup s.heap t items) (hs:s.heap.IsSliceOf sl vl vu .none) (pl:IsPart vl lo) (pu:IsPart vu hi)
 (hw: ¬(sIx items.size 0 lo=0/\sIx items.size items.size hi=items.size))
 (h:Q (.ref s.heap.objs.size) { s with heap:=s.heap.push { cls:= .type "tuple",data:= .seq ((items.toList.drop (sIx items.size 0 lo)).take (sIx items.size items.size hi-sIx items.size 0 lo)).toArray } })
 (hsz:items.size<=sizeLine):wpAny (model prog w) A (getItem (.ref t) (.ref sl)) Q E s:=by
 have htake:sizeOk (.seq ((items.toList.drop (sIx items.size 0 lo)).take (sIx items.size items.size hi-sIx items.size 0 lo)).toArray):=by
  show((items.toList.drop (sIx items.size 0 lo)).take (sIx items.size items.size hi-sIx items.size 0 lo)).toArray.size<=sizeLine
  rw [List.size_toArray,List.length_take,List.length_drop,Array.length_toList]
  omega
 have hj:sIx items.size items.size hi<=items.size:=qaK _ _ (Nat.le_refl _) hi
 obtain⟨os,hos,hcs,hds⟩:=id hs
 have hTs:s.TypeIs (.ref sl) "slice" :=⟨os,hos,hcs⟩
 unfold getItem
 try with_reducible refine wpAny_holding ?_
 first | refine wpAny_bind (wpAny_pure ?_) | skip
 refine wpAny_bind (wpAny_sequenceKey ht.typeIs (by decide) ?_)
 refine wpAny_bind (wpAny_callSpecial?_slot (name:=Str.ofString "__getitem__") ht.typeIs PyProof.Rows.slot_tuple_getitem
  (wpAny_call_entry PyProof.Rows.slot_tuple_getitem ht.typeIs entry_tuple_getitem ?_ (args_tuple_getitem _ _)))
 show wpAny _ _ (Builtin.Tuple.tupleItemsOf (.ref t) >>= _) _ _ s
 refine wpAny_bind (tupleItemsOf_ ht ?_)
 refine wpAny_bind (wpAny_typeOf hTs ?_)
 rw [if_pos (by decide)]
 refine wpAny_bind (sliceApplied_gen hs pl pu ?_)
 have hno: ¬((((sIx items.size 0 lo:Nat):Int)==0&&(1:Int)==1&&(sIx items.size items.size hi-sIx items.size 0 lo)==items.size)=true):=by
  intro q
  rw [Bool.and_eq_true,Bool.and_eq_true]at q
  have q1:((sIx items.size 0 lo:Nat):Int)=0:=eq_of_beq q.1.1
  have q2:sIx items.size items.size hi-sIx items.size 0 lo=items.size:=eq_of_beq q.2
  exact hw ⟨by omega,by omega⟩
 show wpAny _ _ (if (((sIx items.size 0 lo:Nat):Int)==0&&(1:Int)==1&&(sIx items.size items.size hi-sIx items.size 0 lo)==items.size)=true then _ else _) _ _ s
 rw [if_neg hno,WZ]
 first
  | exact wpAny_bind (m:=Builtin.Tuple.tupleExact _) (wpAny_newObj_type (wpAny_pure ⟨_,rfl,wpAny_pure h⟩) htake)
  | exact wpAny_bind (m:=Builtin.Tuple.tupleExact _) (wpAny_newObj_type (wpAny_bind (wpAny_pure (wpAny_pure ⟨_,rfl,wpAny_pure h⟩))) htake)
  | exact wpAny_bind (wpAny_bind (m:=Builtin.Tuple.tupleExact _) (wpAny_newObj_type (wpAny_pure (wpAny_pure ⟨_,rfl,wpAny_pure h⟩)) htake))
  | exact wpAny_bind (wpAny_bind (m:=Builtin.Tuple.tupleExact _) (wpAny_newObj_type (wpAny_pure ⟨_,rfl,wpAny_pure h⟩) htake))
end
end HT
namespace L2
open PySem PySem.Spec PyProof.Rows
abbrev TO:=St->Hp->(Option Int->Hp->Prop)->Prop
def PO (X:Cx) (e:Option Expr) (t:TO):Prop:=
 ∀(pins:List (Addr×Obj)) (s:Shared) (σ:St) (H:Hp) (Q:Option Int->Hp->Prop),Inv X pins σ H s->t σ H Q →
  wpAny (model X.prog X.w) X.A (evalPart e X.env) (fun u s'=> ∃o H',Inv X pins σ H' s'/\IsPart u o/\Q o H') X.xe s
def tNoPart:TO:=fun _ H Q=>Q none H
def tPart (t:TE):TO:=fun σ H Q=>t σ H fun x H1=> ∃i,x= .int i/\Q (some i) H1
section
variable {X:Cx}{e:Expr}{te:TE}{lo hi:Option Expr}{tl th:TO}{pos p2:Pos}
theorem XN:PO X none tNoPart:=by
 intro pins s σ H Q I h
 rw [evalPart_none]
 exact wpAny_pure ⟨none,H,I,.none,h⟩
theorem Zt (h:PE X e te):PO X (some e) (tPart te):=by
 intro pins s σ H Q I hw
 rw [evalPart_some]
 refine thn (h pins s σ H _ I hw) fun u s1 ⟨x,H1,I1,r1,q1⟩=> ?_
 obtain⟨i,rfl,q⟩:=q1
 obtain⟨t,rfl⟩:=r1
 exact⟨some i,H1,I1,.int i t,q⟩
def SlR (X:Cx) (r:V->Option Int->Option Int->Hp->VK->Prop):Prop:=
 ∀(pins:List (Addr×Obj)) (s:Shared) (σ:St) (H:Hp) (x:V) (v vl vu:Value) (lo hi:Option Int) (sl:Addr) (Q:VK),Inv X pins σ H s->RelV x v->s.heap.IsSliceOf sl vl vu .none->IsPart vl lo->IsPart vu hi->r x lo hi H Q →
  ∃T id,typeLookup (.type T) "__getitem__" =pure (some (.builtin id))/\s.TypeIs v T/\wpAny (model X.prog X.w) X.A (getItem v (.ref sl)) (EP X pins σ Q) X.xe s
theorem SlR.or {r r':V->Option Int->Option Int->Hp->VK->Prop}(h:SlR X r) (h':SlR X r'):SlR X (fun x lo hi H Q=>r x lo hi H Q\/r' x lo hi H Q):=by
 intro pins s σ H x v vl vu lo hi sl Q I rx hs pl pu q
 rcases q with q | q
 ·exact h pins s σ H x v vl vu lo hi sl Q I rx hs pl pu q
 ·exact h' pins s σ H x v vl vu lo hi sl Q I rx hs pl pu q
def tSl (r:V->Option Int->Option Int->Hp->VK->Prop) (te:TE) (tl th:TO):TE:=fun σ H Q=>te σ H fun x H1=>tl σ H1 fun l H2=>th σ H2 fun u H3=>r x l u H3 Q
theorem zu {r:V->Option Int->Option Int->Hp->VK->Prop}(hr:SlR X r) (he:PE X e te) (hl:PO X lo tl) (hu:PO X hi th):PE X (.Subscript e (.Slice lo hi none p2) pos) (tSl r te tl th):=by
 intro pins s σ H Q I h
 refine Subscript_ (thn (he pins s σ H _ I h) fun v s1 ⟨x,H1,I1,r1,q1⟩=> ?_)
 refine wpAny_Slice (thn (hl pins s1 σ H1 _ I1 q1) fun vl s2 ⟨l,H2,I2,pl,q2⟩=>thn (hu pins s2 σ H2 _ I2 q2) fun vu s3 ⟨u,H3,I3,pu,q3⟩=> ?_)
 rw [evalPart_none]
 refine wpAny_pure ?_
 have I4:Inv X pins σ H3 { s3 with heap:=s3.heap.push { cls:= .type "slice",data:= .fields #[vl,vu,.none] } }:=I3.kept (t':=s3.toks) fun b ob q=>Heap.get?_push_of_some _ q
 obtain⟨T,id,hT,ht,hg⟩:=hr pins { s3 with heap:=s3.heap.push { cls:= .type "slice",data:= .fields #[vl,vu,.none] } } σ H3 x v vl vu l u s3.heap.objs.size Q I4 r1 (Heap.IsSliceOf.new ..) pl pu q3
 show wpAny (model X.prog X.w) X.A (subscriptTail e (.Slice lo hi none p2) v (.ref s3.heap.objs.size)) (EP X pins σ Q) X.xe { s3 with heap:=s3.heap.push { cls:= .type "slice",data:= .fields #[vl,vu,.none] } }
 exact tail_any (ops:= [.ref s3.heap.objs.size,v]) ht hT hg (by with_unfolding_all rfl)
def cutV (xs:List V) (lo hi:Option Int):List V:=(xs.drop (HT.sIx xs.length 0 lo)).take (HT.sIx xs.length xs.length hi-HT.sIx xs.length 0 lo)
theorem Wo (xs:List V) (lo hi:Option Int):(cutV xs lo hi).length<=xs.length:=by
 unfold cutV
 rw [List.length_take,List.length_drop]
 omega
def rSlT (K:PySem.W.Frag):V->Option Int->Option Int->Hp->VK->Prop:=fun x lo hi H Q=> ∃a xs,x= .ref a/\SqT K H a xs ∧
 ¬(HT.sIx xs.length 0 lo=0/\HT.sIx xs.length xs.length hi=xs.length)/\ ∀p,H p=none->Q (.ref p) (upd H p (.tup (cutV xs lo hi)))
theorem qaz:SlR X (rSlT X.K):=by
 intro pins s σ H x v vl vu lo hi sl Q I rx hs pl pu h
 obtain⟨a,xs,rfl,hx,hw,q⟩:=h
 cases rx
 obtain⟨its,r,ht,hz⟩:=I.tuple hx
 have hlen:its.toArray.size=xs.length:=by rw [List.size_toArray];exact r.length.symm
 refine⟨"tuple",_,PyProof.Rows.slot_tuple_getitem.lookup,ht.typeIs,?_⟩
 refine HT.getItem_tuple_cut ht hs pl pu (by rw [hlen];exact hw) ?_ (by rw [hlen];exact hz)
 rw [hlen]
 refine⟨.ref s.heap.objs.size,_,I.laid (t':=s.toks) (o:= .tup (cutV xs lo hi)) (fun b ob q=>Heap.get?_push_of_some _ q) (Nat.le_refl _) ?_,rfl,q _ (I.hok.fresh (Nat.le_refl _))⟩
 exact⟨Nat.le_trans (Wo xs lo hi) hz,_,(r.drop (HT.sIx xs.length 0 lo)).take (HT.sIx xs.length xs.length hi-HT.sIx xs.length 0 lo),PTup.new _ _⟩
def rLtT (K:PySem.W.Frag):R2:=fun x y H Q=> ∃a b ns ms,x= .ref a/\y= .ref b/\SqT K H a (ns.map V.int)/\SqT K H b (ms.map V.int)/\Q (.bl (HT.lexLt ns ms)) H
def rCatT (K:PySem.W.Frag):R2:=fun x y H Q=> ∃a b xs ys,x= .ref a/\y= .ref b/\SqT K H a xs/\SqT K H b ys/\xs≠ []/\xs.length+ys.length<=sizeLine ∧
 (ys= []->Q (.ref a) H)/\(ys≠ []-> ∀p,H p=none->Q (.ref p) (upd H p (.tup (xs++ys))))
theorem Vals.nil_iff {xs:List V}{us:List Value}(r:Vals xs us):us= []↔xs= []:=by
 cases r with
 | nil=>simp
 | cons _ _=>simp
theorem xan:OpR X (binaryOp .Add) (rCatT X.K):=by
 intro pins s σ H x y v u Q I rx ry h
 obtain⟨a,b,xs,ys,rfl,rfl,ha,hb,hx,hz,q1,q2⟩:=h
 cases rx
 cases ry
 obtain⟨its,r1,p1,_⟩:=I.tuple ha
 obtain⟨its2,r2,p2,_⟩:=I.tuple hb
 refine HT.cat_tup p1 p2 (fun z=>hx (r1.nil_iff.mp z)) (fun z=>⟨.ref a,H,I,rfl,q1 (r2.nil_iff.mp z)⟩) (fun z=> ?_) (by rw [← r1.length,←r2.length];exact hz)
 refine⟨.ref s.heap.objs.size,_,I.laid (t':=s.toks) (o:= .tup (xs++ys)) (fun b ob q=>Heap.get?_push_of_some _ q) (Nat.le_refl _) ?_,rfl,q2 (fun w=>z (r2.nil_iff.mpr w)) _ (I.hok.fresh (Nat.le_refl _))⟩
 exact⟨by rw [List.length_append];exact hz,_,r1.append r2,PTup.new _ _⟩
end
end L2
namespace L2
open PySem PySem.Spec PyProof.Rows
def ixN (n:Nat) (i:Int):Option Nat:=if 0<=i then(if i<n then some i.toNat else none)else if -(n:Int)<=i then some (i+n).toNat else none
def atI {α:Type}(xs:List α) (i:Int):Option α:=(ixN xs.length i).bind fun j=>xs[j]?
theorem zR {n:Nat}{i:Int}{j:Nat}(h:ixN n i=some j):seqIndex? i n=some j/\j<n/\ -(n:Int)<=i/\i<n:=by
 unfold ixN at h
 by_cases h0:0<=i
 ·rw [if_pos h0]at h
  by_cases h1:i<n
  ·rw [if_pos h1]at h
   have e:i.toNat=j:=Option.some.inj h
   exact⟨by rw [seqIndex_of h0 h1,e],by omega,by omega,h1⟩
  ·rw [if_neg h1]at h;cases h
 ·rw [if_neg h0]at h
  by_cases h1: -(n:Int)<=i
  ·rw [if_pos h1]at h
   have e:(i+n).toNat=j:=Option.some.inj h
   exact⟨by rw [seqIndex_neg (by omega) h1,e],by omega,h1,by omega⟩
  ·rw [if_neg h1]at h;cases h
theorem zD {α:Type}{xs:List α}{i:Int}{v:α}(h:atI xs i=some v): ∃j,seqIndex? i xs.length=some j/\xs[j]? =some v/\j<xs.length/\ -(xs.length:Int)<=i/\i<xs.length:=by
 unfold atI at h
 cases e:ixN xs.length i with
 | none=>rw [e]at h;cases h
 | some j=>
  rw [e]at h
  obtain⟨h1,h2,h3,h4⟩:=zR e
  exact⟨j,h1,h,h2,h3,h4⟩
def PlainIx (b:Expr):Prop:= ∀o i,subscripted b false o i=operate [o,i] (getItem o i)
def IxR (X:Cx) (r:R2):Prop:=
 ∀(value slice:Expr) (pins:List (Addr×Obj)) (s:Shared) (σ:St) (H:Hp) (x y:V) (v u:Value) (Q:VK),Inv X pins σ H s->RelV x v->RelV y u->r x y H Q →
  subscripted slice false v u=operate [v,u] (getItem v u)->wpAny (model X.prog X.w) X.A (subscriptTail value slice v u) (EP X pins σ Q) X.xe s
def MtR (X:Cx) (id:String) (r:V->List V->Hp->VK->Prop):Prop:=
 ∀(pins:List (Addr×Obj)) (s:Shared) (σ:St) (H:Hp) (x:V) (xs:List V) (v:Value) (us:List Value) (Q:VK),Inv X pins σ H s->RelV x v->Vals xs us->r x xs H Q →
  wpAny (model X.prog X.w) X.A (call (.builtin id) (v::us)) (EP X pins σ Q) X.xe s
section
variable {X:Cx}{a b:Expr}{ta tb:TE}{pos:Pos}
theorem IxR.or {r r':R2}(h:IxR X r) (h':IxR X r'):IxR X (fun x y H Q=>r x y H Q\/r' x y H Q):=by
 intro value slice pins s σ H x y v u Q I rx ry q hs
 rcases q with q | q
 ·exact h value slice pins s σ H x y v u Q I rx ry q hs
 ·exact h' value slice pins s σ H x y v u Q I rx ry q hs
theorem jay {r:R2}(hr:IxR X r) (ha:PE X a ta) (hb:PE X b tb) (hs:PlainIx b):PE X (.Subscript a b pos) (tOp r ta tb):=by
 intro pins s σ H Q I h
 exact Subscript_ (binT ha hb I h fun v u s2 x y H2 I2 rx ry q=>hr a b pins s2 σ H2 x y v u Q I2 rx ry q (hs _ _))
def rIxL (K:PySem.W.Frag):R2:=fun x y H Q=> ∃p xs i v,x= .ref p/\y= .int i/\SqL K H p xs/\atI xs i=some v/\Q v H
def rIxT (K:PySem.W.Frag):R2:=fun x y H Q=> ∃p xs i v,x= .ref p/\y= .int i/\SqT K H p xs/\atI xs i=some v/\Q v H
def rIxS:R2:=fun x y H Q=> ∃z i c,x= .str z/\y= .int i/\z.length<=sizeLine/\atI z.cps.toList i=some c/\Q (.str ⟨#[c]⟩) H
theorem ix_list:IxR X (rIxL X.K):=by
 intro value slice pins s σ H x y v u Q I rx ry h hs
 obtain⟨p,xs,i,z,rfl,rfl,hq,he,q⟩:=h
 cases rx
 obtain⟨t,rfl⟩:=ry
 obtain⟨its,r,pl,hz⟩:=I.list hq
 obtain⟨j,h1,h2,h3,h4,h5⟩:=zD he
 obtain⟨w,ew,rw'⟩:=r.get h2
 have hl:=r.length
 have hn:=wo
 have fin:EP X pins σ Q w s:=⟨z,H,I,rw',q⟩
 by_cases h0:0<=i
 ·have hj:i.toNat=j:=by
   rw [seqIndex_of h0 h5]at h1
   exact Option.some.inj h1
  exact item_listR pl.isList h0 (by omega) (by rw [hj];simpa using ew) fin hs
 ·have hj:(i+(its.toArray.size:Int)).toNat=j:=by
   rw [seqIndex_neg (by omega) h4]at h1
   rw [List.size_toArray,←hl]
   exact Option.some.inj h1
  exact subscriptTail_builtinR (x:=w) pl.isList.typeIs slot_list_getitem.lookup
   (wpAny_getItem_list_neg (Q:=fun r s'=>r=w/\EP X pins σ Q r s') pl.isList (by omega) (by rw [List.size_toArray]<;>omega) (by omega) (by rw [hj];simpa using ew) ⟨rfl,fin⟩) hs
theorem ix_tup:IxR X (rIxT X.K):=by
 intro value slice pins s σ H x y v u Q I rx ry h hs
 obtain⟨p,xs,i,z,rfl,rfl,hq,he,q⟩:=h
 cases rx
 obtain⟨t,rfl⟩:=ry
 obtain⟨its,r,pl,hz⟩:=I.tuple hq
 obtain⟨j,h1,h2,h3,h4,h5⟩:=zD he
 obtain⟨w,ew,rw'⟩:=r.get h2
 have hl:=r.length
 have hn:=wo
 have fin:EP X pins σ Q w s:=⟨z,H,I,rw',q⟩
 exact subscriptTail_builtinR (x:=w) pl.typeIs slot_tuple_getitem.lookup
  (getItem_tuple (j:=j) (Q:=fun r s'=>r=w/\EP X pins σ Q r s') pl (by omega) (by omega) (by rw [List.size_toArray,←hl];exact h1) (by simpa using ew) ⟨rfl,fin⟩) hs
theorem xE:IxR X rIxS:=by
 intro value slice pins s σ H x y v u Q I rx ry h hs
 obtain⟨z,i,c,rfl,rfl,hz,he,q⟩:=h
 obtain⟨t,rfl⟩:=rx
 obtain⟨t',rfl⟩:=ry
 obtain⟨j,h1,h2,h3,h4,h5⟩:=zD he
 have hl:z.cps.toList.length=z.length:=by simp [Str.length]
 rw [hl]at h1 h4 h5
 have hn:=wo
 exact tail_any (typeIs_str s z t) slot_str_getitem.lookup (getItem_str (c:=c) (by
  have e1:decide (i< -(2 ^ 63:Int))=false:=decide_eq_false (by omega)
  have e2:decide (i>=2 ^ 63)=false:=decide_eq_false (by omega)
  rw [e1,e2,Bool.or_false]) (by rw [h1];simpa using h2) ⟨.str ⟨#[c]⟩,H,I.tok _,⟨_,rfl⟩,q⟩) hs
def rIx (K:PySem.W.Frag):R2:=fun x y H Q=>rIxL K x y H Q\/rIxT K x y H Q\/rIxS x y H Q
theorem jaz:IxR X (rIx X.K):=ix_list.or (ix_tup.or xE)
theorem XH (its:List Value) (n j:Nat) (u:Value):Obj.mapSeq (·.setIfInBounds j u) { cls:= .type "list",data:= .seq its.toArray n }= { cls:= .type "list",data:= .seq (its.set j u).toArray n }:=by
 simp [Obj.mapSeq]
theorem Inv.lst {pins:List (Addr×Obj)}{σ:St}{H:Hp}{s:Shared}{p:Addr}{xs:List V}(I:Inv X pins σ H s) (h:H p=some (.lst xs)):
 ∃(its:List Value) (n:Nat),Vals xs its/\s.heap.get? p=some { cls:= .type "list",data:= .seq its.toArray n }/\xs.length<=sizeLine:=by
 obtain⟨z,its,n,r,e⟩:=I.hok p _ h
 exact⟨its,n,r,e,z⟩
theorem Inv.lstUpd {pins:List (Addr×Obj)}{σ:St}{H:Hp}{s:Shared}{p:Addr}{xs ys:List V}{its its':List Value}{n n':Nat}{f:Obj->Obj}(I:Inv X pins σ H s) (h:H p=some (.lst xs))
 (ho:s.heap.get? p=some { cls:= .type "list",data:= .seq its.toArray n }) (hf:f { cls:= .type "list",data:= .seq its.toArray n }= { cls:= .type "list",data:= .seq its'.toArray n' }) (r:Vals ys its') (hz:ys.length<=sizeLine) (t:Nat):
 Inv X pins σ (upd H p (.lst ys)) { s with heap:=s.heap.update p f,toks:=t }:=by
 have e:(s.heap.update p f).get? p=some { cls:= .type "list",data:= .seq its'.toArray n' }:=by
  rw [Heap.get?_update_self f ho (by rw [hf]<;>rfl),hf]
 refine I.write (x:=p) (e:=p) (by rw [h];trivial) (.inl rfl) (fun b u hb q=>(Heap.get?_update_other _ _ (Ne.symm hb)).trans q) ⟨_,e⟩ ?_
 exact⟨hz,its',n',r,e⟩
def rSetL:V->V->V->Hp->(Hp->Prop)->Prop:=fun o i v H Q=> ∃p xs k j,o= .ref p/\i= .int k/\H p=some (.lst xs)/\ixN xs.length k=some j/\Q (upd H p (.lst (xs.set j v)))
theorem wF:PSet X rSetL:=by
 intro pins s σ H o i v ov iv u Q I ro ri rv h
 obtain⟨p,xs,k,j,rfl,rfl,hp,hj,q⟩:=h
 cases ro
 obtain⟨t,rfl⟩:=ri
 obtain⟨its,n,r,ho,hz⟩:=I.lst hp
 obtain⟨h1,h2,h3,h4⟩:=zR hj
 have hl:=r.length
 have hn:=wo
 have I':Inv X pins σ (upd H p (.lst (xs.set j v))) { s with heap:=s.heap.update p (Obj.mapSeq (·.setIfInBounds j u)) }:=
  I.lstUpd hp ho (XH its n j u) (r.set rv j) (by rw [List.length_set];exact hz) s.toks
 by_cases h0:0<=k
 ·have hk:k.toNat=j:=by
   rw [seqIndex_of h0 h4]at h1
   exact Option.some.inj h1
  exact PySem.W.ki_setAt ho h0 (by omega) (by rw [List.size_toArray,←hl];exact h4) (by rw [hk];exact⟨_,I',q⟩)
 ·have hk:(k+(its.toArray.size:Int)).toNat=j:=by
   rw [seqIndex_neg (by omega) h3]at h1
   rw [List.size_toArray,←hl]
   exact Option.some.inj h1
  exact PySem.W.ki_setBack ho (by omega) (by rw [List.size_toArray,←hl];exact h3) (by omega) (by rw [hk];exact⟨_,I',q⟩)
theorem Xz (lo hi:Option Int) (n:Nat):(sliceBounds lo hi none n).1=((HT.sIx n 0 lo:Nat):Int)/\(sliceBounds lo hi none n).2.1=((HT.sIx n n hi:Nat):Int)/\(sliceBounds lo hi none n).2.2=1:=by
 refine⟨?_,?_,rfl⟩
 ·cases lo with
  | none=>simp [sliceBounds,HT.sIx]
  | some i=>
   simp only [sliceBounds,HT.sIx,Option.getD_none,show(1:Int)>0 by decide,if_true]
   by_cases h:i<0
   ·simp only [h,if_true]<;>omega
   ·simp only [h,if_false]<;>omega
 ·cases hi with
  | none=>simp [sliceBounds,HT.sIx]
  | some i=>
   simp only [sliceBounds,HT.sIx,Option.getD_none,show(1:Int)>0 by decide,if_true]
   by_cases h:i<0
   ·simp only [h,if_true]<;>omega
   ·simp only [h,if_false]<;>omega
theorem Qt (its:List Value) (lo hi:Option Int):slicePick its.toArray lo hi none=((its.drop (HT.sIx its.length 0 lo)).take (HT.sIx its.length its.length hi-HT.sIx its.length 0 lo)).toArray:=by
 obtain⟨h1,h2,h3⟩:=Xz lo hi its.toArray.size
 unfold slicePick
 rw [h1,h2,h3]
 simp only [sliceRange_one,pick_run,List.size_toArray]<;>rfl
def rSlL (K:PySem.W.Frag):V->Option Int->Option Int->Hp->VK->Prop:=fun x lo hi H Q=> ∃a xs,x= .ref a/\SqL K H a xs/\ ∀p,H p=none->Q (.ref p) (upd H p (.lst (cutV xs lo hi)))
theorem sl_list:SlR X (rSlL X.K):=by
 intro pins s σ H x v vl vu lo hi sl Q I rx hs pl pu h
 obtain⟨a,xs,rfl,hx,q⟩:=h
 cases rx
 obtain⟨its,r,ht,hz⟩:=I.list hx
 have hlen:=r.length
 refine⟨"list",_,slot_list_getitem.lookup,ht.isList.typeIs,?_⟩
 refine wpAny_getItem_list_slice ht.isList hs pl pu .none (by simp) ?_ (by rw [List.size_toArray]<;>omega)
 rw [Qt,←hlen]
 refine⟨.ref s.heap.objs.size,_,I.laid (t':=s.toks) (o:= .lst (cutV xs lo hi)) (fun b ob q=>Heap.get?_push_of_some _ q) (Nat.le_refl _) ?_,rfl,q _ (I.hok.fresh (Nat.le_refl _))⟩
 exact⟨Nat.le_trans (Wo xs lo hi) hz,_,0,(r.drop (HT.sIx xs.length 0 lo)).take (HT.sIx xs.length xs.length hi-HT.sIx xs.length 0 lo),Heap.get?_push_size _ rfl⟩
def flatV:V->Bool
 | .non=>true
 | .bl _=>true
 | .int _=>true
 | .str _=>true
 | _=>false
def eqV:V->V->Bool
 | .non,.non=>true
 | .bl a,.bl b=>a==b
 | .bl a,.int b=>(if a then 1 else 0)==b
 | .int a,.bl b=>a==(if b then 1 else 0)
 | .int a,.int b=>a==b
 | .str a,.str b=>a==b
 | _,_=>false
theorem xat {A:Around}{s:Shared}{y x:V}{u v:Value}(ry:RelV y u) (rx:RelV x v) (fy:flatV y=true) (fx:flatV x=true):SeqAt.EqAt A s u v (eqV y x):=by
 cases y with
 | non=>
  cases ry
  cases x with
  | non=>cases rx;exact SeqAt.EqAt.same _
  | bl b=>cases rx;exact SeqAt.EqAt.none_bool b
  | int b=>obtain⟨t,rfl⟩:=rx;exact SeqAt.EqAt.none_int b t
  | str b=>obtain⟨t,rfl⟩:=rx;exact SeqAt.EqAt.none_str b t
  | _=>exact absurd (show false=true from fx) Bool.false_ne_true
 | bl a=>
  cases ry
  cases x with
  | non=>cases rx;exact SeqAt.EqAt.bool_none a
  | bl b=>cases rx;exact SeqAt.EqAt.bool_bool a b
  | int b=>obtain⟨t,rfl⟩:=rx;exact SeqAt.EqAt.bool_int a b t
  | str b=>obtain⟨t,rfl⟩:=rx;exact SeqAt.EqAt.bool_str a b t
  | _=>exact absurd (show false=true from fx) Bool.false_ne_true
 | int a=>
  obtain⟨t',rfl⟩:=ry
  cases x with
  | non=>cases rx;exact SeqAt.EqAt.int_none a t'
  | bl b=>cases rx;exact SeqAt.EqAt.int_bool a t' b
  | int b=>obtain⟨t,rfl⟩:=rx;exact SeqAt.EqAt.int_int a t' b t
  | str b=>obtain⟨t,rfl⟩:=rx;exact SeqAt.EqAt.int_str a t' b t
  | _=>exact absurd (show false=true from fx) Bool.false_ne_true
 | str a=>
  obtain⟨t',rfl⟩:=ry
  cases x with
  | non=>cases rx;exact SeqAt.EqAt.str_none a t'
  | bl b=>cases rx;exact SeqAt.EqAt.str_bool a t' b
  | int b=>obtain⟨t,rfl⟩:=rx;exact SeqAt.EqAt.str_int a t' b t
  | str b=>obtain⟨t,rfl⟩:=rx;exact SeqAt.EqAt.str_str a t' b t
  | _=>exact absurd (show false=true from fx) Bool.false_ne_true
 | _=>exact absurd (show false=true from fy) Bool.false_ne_true
def eqU (x:V) (u:Value):Bool:=match u with
 | .none=>eqV .non x
 | .bool b=>eqV (.bl b) x
 | .int i _=>eqV (.int i) x
 | .str z _=>eqV (.str z) x
 | _=>false
theorem w4 {x y:V}{u:Value}(r:RelV y u) (f:flatV y=true):eqU x u=eqV y x:=by
 cases y with
 | non=>cases r;rfl
 | bl b=>cases r;rfl
 | int i=>obtain⟨t,rfl⟩:=r;rfl
 | str z=>obtain⟨t,rfl⟩:=r;rfl
 | _=>exact absurd (show false=true from f) Bool.false_ne_true
theorem Xn {x:V}: ∀ {xs:List V}{us:List Value},Vals xs us->xs.all flatV=true->us.any (eqU x)=xs.any fun y=>eqV y x
 | _,_,.nil,_=>rfl
 | y::xs,u::us,.cons r t,f=>by
  rw [List.all_cons,Bool.and_eq_true]at f
  rw [List.any_cons,List.any_cons,w4 r f.1,Xn t f.2]
theorem xj {A:Around}{s:Shared}{x:V}{v:Value}(rx:RelV x v) (fx:flatV x=true): ∀ {xs:List V}{us:List Value},Vals xs us->xs.all flatV=true-> ∀u∈us,SeqAt.EqAt A s u v (eqU x u)
 | _,_,.nil,_=>fun u hu=>by cases hu
 | y::xs,u::us,.cons r t,f=>fun u' hu=>by
  rw [List.all_cons,Bool.and_eq_true]at f
  rcases List.mem_cons.mp hu with rfl | hu
  ·rw [w4 r f.1];exact xat r rx f.1 fx
  ·exact xj rx fx t f.2 u' hu
def inV (x:V) (xs:List V):Bool:=xs.any fun y=>eqV y x
def rIn (K:PySem.W.Frag) (neg:Bool):R2:=fun x y H Q=> ∃p xs,y= .ref p/\(SqL K H p xs\/SqT K H p xs)/\flatV x=true/\xs.all flatV=true/\Q (.bl (if neg then !inV x xs else inV x xs)) H
theorem QL:OpR X (compareOp .In) (rIn X.K false):=by
 intro pins s σ H x y v u Q I rx ry h
 obtain⟨p,xs,rfl,hq,fx,fs,q⟩:=h
 cases ry
 rcases hq with hq | hq
 ·obtain⟨its,r,pl,hz⟩:=I.list hq
  refine SeqAt.in_listAt (eqU x) pl.isList (fun w hw=>xj rx fx r fs w (by simpa using hw)) ⟨.bl _,H,I,rfl,?_⟩
  rw [show its.toArray.any (eqU x)=its.any (eqU x)by simp,Xn r fs]
  exact q
 ·obtain⟨its,r,pl,hz⟩:=I.tuple hq
  refine SeqAt.in_tupleAt (eqU x) pl (fun w hw=>xj rx fx r fs w (by simpa using hw)) ⟨.bl _,H,I,rfl,?_⟩
  rw [show its.toArray.any (eqU x)=its.any (eqU x)by simp,Xn r fs]
  exact q
theorem Xx:OpR X (compareOp .NotIn) (rIn X.K true):=by
 intro pins s σ H x y v u Q I rx ry h
 obtain⟨p,xs,rfl,hq,fx,fs,q⟩:=h
 cases ry
 rcases hq with hq | hq
 ·obtain⟨its,r,pl,hz⟩:=I.list hq
  refine SeqAt.notIn_listAt (eqU x) pl.isList (fun w hw=>xj rx fx r fs w (by simpa using hw)) ⟨.bl _,H,I,rfl,?_⟩
  rw [show its.toArray.any (eqU x)=its.any (eqU x)by simp,Xn r fs]
  exact q
 ·obtain⟨its,r,pl,hz⟩:=I.tuple hq
  refine SeqAt.notIn_tupleAt (eqU x) pl (fun w hw=>xj rx fx r fs w (by simpa using hw)) ⟨.bl _,H,I,rfl,?_⟩
  rw [show its.toArray.any (eqU x)=its.any (eqU x)by simp,Xn r fs]
  exact q
theorem zA:OpR X (compareOp .NotIn) (fun x y H Q=> ∃i j,x= .str i/\y= .str j/\Q (.bl (!(!(Builtin.Str.occurrences j i 0 j.length 1).isEmpty))) H):=by
 intro pins s σ H x y v u Q I rx ry h
 obtain⟨i,j,rfl,rfl,q⟩:=h
 obtain⟨t,rfl⟩:=rx
 obtain⟨t',rfl⟩:=ry
 exact notIn_str ⟨.bl _,H,I,rfl,q⟩
theorem xA:CallR X (.builtin "len") (fun xs H Q=> ∃p ys,xs= [.ref p]/\(SqL X.K H p ys\/SqT X.K H p ys)/\Q (.int ys.length) H):=by
 intro pins s σ H xs us Q I r h
 obtain⟨p,ys,rfl,hq,q⟩:=h
 obtain⟨u,rfl,rx⟩:=xl r
 cases rx
 have hn:=wo
 rcases hq with hq | hq
 ·obtain⟨its,r',pl,hz⟩:=I.list hq
  have hlen:=r'.length
  exact Calls.call_len_list pl.isList (by simp only [List.size_toArray]<;>omega) ⟨.int ys.length,H,I.tok _,⟨s.toks+1,by rw [List.size_toArray,hlen]⟩,q⟩
 ·obtain⟨its,r',pl,hz⟩:=I.tuple hq
  have hlen:=r'.length
  exact len_tuple pl (by simp only [List.size_toArray]<;>omega) ⟨.int ys.length,H,I.tok _,⟨s.toks+1,by rw [List.size_toArray,hlen]⟩,q⟩
theorem Zz:CallR X (.builtin "len") (fun xs H Q=> ∃z,xs= [.str z]/\z.length<=sizeLine/\Q (.int z.length) H):=by
 intro pins s σ H xs us Q I r h
 obtain⟨z,rfl,hz,q⟩:=h
 obtain⟨u,rfl,t,rfl⟩:=xl r
 have hn:=wo
 exact len_str (by omega) ⟨.int z.length,H,I.tok _,⟨_,rfl⟩,q⟩
theorem Wz:CallR X (.type "list") (fun xs H Q=> ∃p ys,xs= [.ref p]/\(SqL X.K H p ys\/SqT X.K H p ys)/\ ∀l,H l=none->Q (.ref l) (upd H l (.lst ys))):=by
 intro pins s σ H xs us Q I r h
 obtain⟨p,ys,rfl,hq,q⟩:=h
 obtain⟨u,rfl,rx⟩:=xl r
 cases rx
 have fin: ∀(its:List Value),Vals ys its->ys.length<=sizeLine-> ∀(h':Heap) (c':Nat),(∀ b o',s.heap.get? b=some o'->h'.get? b=some o') →
  h'.get? s.heap.objs.size=some { cls:= .type "list",dict:=none,data:= .seq its.toArray c',slots:= #[] }->EP X pins σ Q (.ref s.heap.objs.size) { s with heap:=h' }:=fun its r' hz h' c' kp e=>
  ⟨.ref s.heap.objs.size,_,I.laid (t':=s.toks) kp (Nat.le_refl _) (show ObjOk X.prog X.w _ h' _ (.lst ys)from⟨hz,its,c',r',e⟩),rfl,q _ (I.hok.fresh (Nat.le_refl _))⟩
 rcases hq with hq | hq
 ·obtain⟨its,r',pl,hz⟩:=I.list hq
  have hlen:=r'.length
  obtain⟨o,ho,hc,n,hd⟩:=pl.isList
  exact call_list_seq p (.inl rfl) ho hc hd (fun h' c' kp e=>fin its r' hz h' c' kp e) (by simp only [List.size_toArray]<;>omega)
 ·obtain⟨its,r',pl,hz⟩:=I.tuple hq
  have hlen:=r'.length
  obtain⟨o,ho,hc,n,hd⟩:=pl
  exact call_list_seq p (.inr rfl) ho hc hd (fun h' c' kp e=>fin its r' hz h' c' kp e) (by simp only [List.size_toArray]<;>omega)
theorem zc:CallR X (.type "tuple") (fun xs H Q=> ∃p ys,xs= [.ref p]/\((SqL X.K H p ys/\ ∀l,H l=none->Q (.ref l) (upd H l (.tup ys)))\/(SqT X.K H p ys/\Q (.ref p) H))):=by
 intro pins s σ H xs us Q I r h
 obtain⟨p,ys,rfl,h⟩:=h
 obtain⟨u,rfl,rx⟩:=xl r
 cases rx
 rcases h with⟨hq,q⟩ | ⟨hq,q⟩
 ·obtain⟨its,r',pl,hz⟩:=I.list hq
  have hlen:=r'.length
  refine call_tuple_list pl.isList (fun h' kp=> ?_) (by simp only [List.size_toArray]<;>omega)
  have I1:Inv X pins σ H { s with heap:=h' }:=I.kept (t':=s.toks) kp
  have I2:Inv X pins σ (upd H h'.objs.size (.tup ys)) { s with heap:=h'.push { cls:= .type "tuple",data:= .seq its.toArray } }:=
   I1.laid (t':=s.toks) (fun b o e=>Heap.get?_push_of_some _ e) (Nat.le_refl _) (show ObjOk X.prog X.w _ _ _ (.tup ys)from⟨hz,its,r',PTup.new _ _⟩)
  exact⟨.ref h'.objs.size,_,I2,rfl,q _ (I1.hok.fresh (Nat.le_refl _))⟩
 ·obtain⟨its,r',pl,hz⟩:=I.tuple hq
  exact call_tuple_same pl ⟨.ref p,H,I,rfl,q⟩
def tyV (K:PySem.W.Frag) (T:String) (x:V) (H:Hp):Prop:=match x with
 | .str _=>T= "str"
 | .int _=>T= "int"
 | .ref p=>(T= "list" /\ ∃xs,SqL K H p xs)\/(T= "tuple" /\ ∃o,K.lookup p=some o/\o.cls= .type "tuple" /\o.dict=none) ∨
  (T= "dict" /\((∃ kvs,H p=some (.dK kvs))\/ ∃kvs,H p=some (.dT kvs)))\/(T= "set" /\ ∃S n,H p=some (.set S n))
 | _=>False
theorem jaH {pins:List (Addr×Obj)}{σ:St}{H:Hp}{s:Shared}{T:String}{x:V}{v:Value}(I:Inv X pins σ H s) (r:RelV x v) (ty:tyV X.K T x H):
 s.TypeIs v T/\ ∀a,v= .ref a-> ∃ob,s.heap.get? a=some ob/\ob.dict=none:=by
 cases x with
 | str z=>
  obtain⟨t,rfl⟩:=r
  cases (show T= "str" from ty)
  exact⟨typeIs_str s z t,fun _ e=>nomatch e⟩
 | int i=>
  obtain⟨t,rfl⟩:=r
  cases (show T= "int" from ty)
  exact⟨typeIs_int s i t,fun _ e=>nomatch e⟩
 | ref p=>
  cases r
  rcases ty with⟨rfl,xs,hq⟩ | ⟨rfl,o,hk,hc,hd⟩ | ⟨rfl,hk⟩ | ⟨rfl,S,n,hk⟩
  ·obtain⟨its,_,pl,_⟩:=I.list hq
   refine⟨pl.isList.typeIs,fun a e=> ?_⟩
   cases e
   obtain⟨o,n,e,c,hd,_⟩:=pl
   exact⟨o,e,hd⟩
  ·refine⟨⟨o,I.kIn p o hk,hc⟩,fun a e=> ?_⟩
   cases e
   exact⟨o,I.kIn _ o hk,hd⟩
  ·have z: ∃o,s.heap.get? p=some o/\o.ExactDict:=by
    rcases hk with⟨kvs,hk⟩ | ⟨kvs,hk⟩
    ·obtain⟨_,_,_,_,o,_,_,e,ex,_⟩:=I.hok p _ hk
     exact⟨o,e,ex⟩
    ·obtain⟨_,_,_,_,o,_,_,e,ex,_⟩:=I.hok p _ hk
     exact⟨o,e,ex⟩
   obtain⟨o,e,ex⟩:=z
   refine⟨⟨o,e,ex.1⟩,fun a e2=> ?_⟩
   cases e2
   exact⟨o,e,ex.2.1⟩
  ·obtain⟨o,_,_,_,e,ex,_⟩:=I.hok p _ hk
   refine⟨⟨o,e,ex.1⟩,fun a e2=> ?_⟩
   cases e2
   exact⟨o,e,ex.2.1⟩
 | _=>exact False.elim ty
def tBM0 (K:PySem.W.Frag) (T:String) (r:V->List V->Hp->VK->Prop) (to:TE):TE:=fun σ H Q=>to σ H fun x H1=>tyV K T x H1/\r x [] H1 Q
def tBM (K:PySem.W.Frag) (T:String) (r:V->List V->Hp->VK->Prop) (to:TE) (t:TA):TE:=fun σ H Q=>to σ H fun x H1=>tyV K T x H1/\t σ H1 fun xs H2=>r x xs H2 Q
variable {o e:Expr}{es:List Expr}{to:TE}{t:TA}{name:Str}{apos cpos:Pos}{T id:String}{r:V->List V->Hp->VK->Prop}
theorem xaN (pa:PlainAttrs T) (slot:Slot T name id) (hty:typeOf (.builtin id)=pure (.type "method_descriptor")) (hm:MtR X id r) (ho:PE X o to) (ha:PA X (e::es) t)
 (hbase:attributeBase o name X.env (eval o X.env)=eval o X.env:=by rfl)
 (hfew:((backTo cpos (starEach (e::es) X.env)).all (fun x=> !x.1)&&(backToKw cpos (keywordEach [] X.env)).all (fun x=>x.1.isSome)
   &&decide ((e::es).length+([]:List Keyword).length+(if ([]:List Keyword).isEmpty then 0 else 1)<30))=true:=by rfl)
 (hline:(apos.endLine==cpos.line)=true:=by rfl) (hs:starEach (e::es) X.env=(false,eval e X.env)::starEach es X.env:=by rfl) (hplain:(backTo cpos (starEach es X.env)).any (·.1)=false:=by rfl):
 PE X (.Call (.Attribute o name apos) (e::es) [] cpos) (tBM X.K T r to t):=by
 intro pins s σ H Q I h
 refine wpAny_Call_method_late hbase hfew hline rfl (thn (ho pins s σ H _ I h) fun v s1 ⟨x,H1,I1,r1,ty,q1⟩=> ?_)
 obtain⟨h1,h2⟩:=jaH I1 r1 ty
 refine⟨T,id,pa,slot,hty,h1,h2,?_⟩
 have hA:=ha cpos pins s1 σ H1 _ I1 q1
 rw [hs]at hA ⊢
 refine Calls.callWith_builtin (by show(false||(backTo cpos (starEach es X.env)).any (·.1))=false;rw [hplain]<;>rfl) (Calls.evalArgs_plain ?_)
 exact thn hA fun us s2 ⟨vs,H2,I2,r2,q2⟩=>hm pins s2 σ H2 x vs v us Q I2 r1 r2 q2
/- xs.append(e),list.index on a module's tuple .. are MtR facts of 06m -/
end
end L2
namespace L2
open PySem PySem.Spec PyProof.Rows
def MtM (X:Cx) (id:String) (r:V->List V->Hp->VK->Prop):Prop:=
 ∀(pins:List (Addr×Obj)) (s:Shared) (σ:St) (H:Hp) (x:V) (xs:List V) (v:Value) (us:List Value) (Q:VK),Inv X pins σ H s->RelV x v->Vals xs us->r x xs H Q →
  wpAny (model X.prog X.w) X.A (call (.builtin id) (v::us)) (EP X pins σ Q) X.xe s
theorem Vals.one: ∀ {x:V}{us:List Value},Vals [x] us-> ∃u,us= [u]/\RelV x u
 | _,_,.cons r .nil=>⟨_,rfl,r⟩
theorem Vals.rep {xs:List V}{us:List Value}(h:Vals xs us): ∀k:Nat,Vals (List.replicate k xs).flatten (List.replicate k us).flatten
 | 0=> .nil
 | k+1=>by
  rw [List.replicate_succ,List.replicate_succ,List.flatten_cons,List.flatten_cons]
  exact Vals.append h (Vals.rep h k)
theorem Xv (its:List Value): ∀(k:Nat) (acc:List Value),
 List.foldl (fun x1 x2=>x1++x2) acc.toArray (List.replicate k its.toArray)=(acc++(List.replicate k its).flatten).toArray
 | 0,acc=>by simp
 | k+1,acc=>by
  have e:acc.toArray++its.toArray=(acc++its).toArray:=by simp
  have e2:(acc++its)++(List.replicate k its).flatten=acc++(List.replicate (k+1) its).flatten:=by
   rw [List.replicate_succ,List.flatten_cons,List.append_assoc]
  rw [← e2,←Xv its k (acc++its),←e,List.replicate_succ,List.foldl_cons]
section
variable {X:Cx}{pins:List (Addr×Obj)}{σ:St}{H:Hp}{s:Shared}{l b:Addr}{xs ys zs:List V}
theorem Inv.lset {its its':List Value}{n:Nat}{f:Array Value->Array Value}{t':Nat}(I:Inv X pins σ H s) (hH:H l=some (.lst xs))
 (e:s.heap.get? l=some { cls:= .type "list",data:= .seq its.toArray n }) (hf:f its.toArray=its'.toArray) (hv:Vals ys its') (hz:ys.length<=sizeLine):
 Inv X pins σ (upd H l (.lst ys)) { s with heap:=s.heap.update l (Obj.mapSeq f),toks:=t' }:=by
 have q:=PySem.IsL.update e f
 rw [hf]at q
 refine I.write (x:=l) (e:=l) (by rw [hH];exact trivial) (.inl rfl) (fun b' u hb hu=>(Heap.get?_update_other s.heap (Obj.mapSeq f) (Ne.symm hb)).trans hu) ⟨_,q⟩ ?_
 exact⟨hz,its',_,hv,q⟩
theorem Inv.lnew {its:List Value}{t':Nat}(I:Inv X pins σ H s) (hv:Vals ys its) (hz:ys.length<=sizeLine):
 Inv X pins σ (upd H s.heap.objs.size (.lst ys)) { s with heap:=s.heap.push { cls:= .type "list",data:= .seq its.toArray },toks:=t' }:=
 I.laid (fun _ _ q=>Heap.get?_push_of_some _ q) (Nat.le_refl _) ⟨hz,its,0,hv,Heap.get?_push_size _ rfl⟩
theorem Inv.fresh (I:Inv X pins σ H s):H s.heap.objs.size=none:=I.hok.fresh (Nat.le_refl _)
theorem Inv.lstM (I:Inv X pins σ H s) (hH:H l=some (.lst xs)):xs.length<=sizeLine/\ ∃(its:List Value) (n:Nat),Vals xs its/\xs.length=its.length/\s.heap.get? l=some { cls:= .type "list",data:= .seq its.toArray n }:=by
 obtain⟨z,its,n,r,e⟩:=I.hok l _ hH
 exact⟨z,its,n,r,r.length,e⟩
theorem wY {n:Nat}(h:n<=sizeLine):Builtin.List.listTooLong n=false:=by
 unfold Builtin.List.listTooLong
 exact decide_eq_false (by omega)
end
section
variable {X:Cx}
def rAppend:V->List V->Hp->VK->Prop:=fun x vs H Q=> ∃l xs y,x= .ref l/\vs= [y]/\H l=some (.lst xs)/\xs.length<sizeLine/\Q .non (upd H l (.lst (xs++ [y])))
theorem XT:MtM X "list.append" rAppend:=by
 intro pins s σ H x vs v us Q I rx rv h
 obtain⟨l,xs,y,rfl,rfl,hH,hz,q⟩:=h
 cases rx
 obtain⟨u,rfl,ru⟩:=rv.one
 obtain⟨z,its,n,r,hl,e⟩:=I.lstM hH
 refine call_meets F.slot_list_append ⟨_,e,rfl⟩ F.entry_list_append (F.args_list_append_2 _ _) (PySem.list_append l its.toArray n u (by rw [List.size_toArray];omega)) ⟨e,?_⟩
 refine⟨.non,_,I.lset (its':=its++ [u]) hH e (by simp) (r.append (.cons ru .nil)) ?_,rfl,q⟩
 rw [List.length_append,List.length_singleton]
 omega
def rExtend:V->List V->Hp->VK->Prop:=fun x vs H Q=> ∃l b xs zs,x= .ref l/\vs= [.ref b]/\H l=some (.lst xs)/\H b=some (.lst zs)/\xs.length+zs.length<=sizeLine/\Q .non (upd H l (.lst (xs++zs)))
def rPop:V->List V->Hp->VK->Prop:=fun x vs H Q=> ∃l xs y,x= .ref l/\vs= []/\H l=some (.lst xs)/\xs[xs.length-1]? =some y/\Q y (upd H l (.lst xs.dropLast))
def rPopAt:V->List V->Hp->VK->Prop:=fun x vs H Q=> ∃l xs i k y,x= .ref l/\vs= [.int i]/\H l=some (.lst xs)/\ -(2 ^ 63)<=i/\i<2 ^ 63/\seqIndex? i xs.length=some k/\xs[k]? =some y/\Q y (upd H l (.lst (xs.eraseIdx k)))
def rReverse:V->List V->Hp->VK->Prop:=fun x vs H Q=> ∃l xs,x= .ref l/\vs= []/\H l=some (.lst xs)/\Q .non (upd H l (.lst xs.reverse))
def rClear:V->List V->Hp->VK->Prop:=fun x vs H Q=> ∃l xs,x= .ref l/\vs= []/\H l=some (.lst xs)/\Q .non (upd H l (.lst []))
def rCat:R2:=fun x y H Q=> ∃l b xs zs,x= .ref l/\y= .ref b/\H l=some (.lst xs)/\H b=some (.lst zs)/\xs.length+zs.length<=sizeLine/\ ∀p,H p=none->Q (.ref p) (upd H p (.lst (xs++zs)))
def rRep:R2:=fun x y H Q=> ∃l k xs,x= .ref l/\y= .int k/\H l=some (.lst xs)/\ -(2 ^ 63)<=k/\k<2 ^ 63/\xs.length*k.toNat<=sizeLine ∧
 ∀p,H p=none->Q (.ref p) (upd H p (.lst (List.replicate k.toNat xs).flatten))
theorem qaq {α:Type}(xs:List α) (k:Nat):(List.replicate k xs).flatten.length=k*xs.length:=by
 induction k with
 | zero=>simp
 | succ k ih=>rw [List.replicate_succ,List.flatten_cons,List.length_append,ih,Nat.succ_mul,Nat.add_comm]
end
section
variable {prog:Program}{w:World}{A:Around}{E:Value->Shared->Prop}{s:Shared}
set_option maxRecDepth 100000 in
end
section
variable {X:Cx}
end
end L2
namespace Att
open PySem PySem.W PySem.Calls PyProof.Rows
theorem jp {P:Params}{h:Heap}: ∀(ns:List Int) (vs:List Value),WellAll P h vs (ns.map WData.int)->IntsAre vs ns:=by
 intro ns
 induction ns with
 | nil=>
  intro vs w
  rw [List.map_nil]at w
  cases w
  exact .nil
 | cons n ns ih=>
  intro vs w
  rw [List.map_cons]at w
  cases w with
  | cons a b=>
   cases a
   exact .cons _ _ (ih _ b)
theorem zP {l:OpenLaw}{n:Nat}(hn:l.most=some n){P:Params}{h:Heap}{args:List WData}{vals:List Value}
 (hpre:l.row.toRowW.claim.pre args=true) (hwl:WellAll P h vals args):
 ∃a vs ns,vals= [Value.ref a]/\args= [WData.list (ns.map WData.int)]/\h.get? a=some { cls:= .type "list",data:= .seq vs.toArray }/\IntsAre vs ns/\ns.length<=n:=by
 have hsh:WShape.hasAll [] args [.list .int]=true:=(pre_splitW hpre).1
 have hc:l.pre.holds [] { args:=args }=true:=(pre_splitW hpre).2
 obtain⟨d,r,rfl,h1,h2⟩:=hasAllW_cons hsh
 obtain rfl:=hasAllW_nil h2
 obtain⟨xs,rfl,h3⟩:=hasW_list h1
 obtain⟨ns,rfl⟩:=items_int h3
 have hlen:ns.length<=n:=by
  unfold OpenLaw.pre at hc
  have h4:(WTm.not (.lt (.lit (.int (n:Int))) (.len (.arg 0)))).holds [] { args:= [.list (ns.map .int)] }=true:=by
   have h4:=(holds_andW hc).1
   rw [hn]at h4
   exact h4
  have h5:=condW_of h4 (w_not (w_lt w_lit (w_len_list (w_arg rfl))))
  rw [List.length_map]at h5
  refine Nat.le_of_not_lt fun q=> ?_
  have q':(n:Int)<((ns.length:Nat):Int):=by omega
  first
   | (rw [decide_eq_true q']at h5;exact absurd h5 (by decide))
   | (simp at h5;omega)
 cases hwl with
 | cons w1 w2=>
  cases w2
  cases w1 with
  | list ho hall=>exact⟨_,_,ns,rfl,rfl,ho,jp ns _ hall,hlen⟩
theorem ZR (l:OpenLaw) (args:List WData):l.row.toRowW.claim.post args (.bool true) args=true:=
 postW_of (r:=l.row.toRowW) (X:=(true==true))
  (show WShape.has [] (.bool true) .bool=true by first | rfl | decide | simp [WShape.has,WShape.arms,WShape.armsAll])
  (show (WTm.eq .res (.lit (.bool true))).value [] { args:=args,res:=some (.bool true),after:=args }=some (.bool (true==true))from w_eq_bool (w_res rfl) w_lit) rfl
theorem attach_call {l:OpenLaw}{n:Nat}{q:Program}{loose:List Str}{XP:(Str->Option Value)->Heap->Prop}{YP:World->Heap->Prop}{d:DefRec}
 (hn:l.most=some n) (hdf:d.params.defaults= [])
 (call: ∀(w:World) (s₀ s₁:Shared) (mg mb:Str->Option Value) (fa:Addr) (o:Obj) (pm cd doc:Value) (a:Addr) (vs:List Value) (ns:List Int),
   Ground q loose [] XP w s₀ mg mb s₁.heap->YP w s₁.heap →
   s₁.heap.get? fa=some o->o.data= .func (docDef d.name d.params d.body d.scope pm cd doc)->s₁.heap.CodeRec cd d.name->mg d.name=some (.ref fa) →
   s₁.heap.get? a=some { cls:= .type "list",data:= .seq vs.toArray }->IntsAre vs ns->ns.length<=n->s₁.gens= #[] →
   codeAny (model l.prog w) callerA (.call (.ref fa) ⟨[.ref a],[]⟩) (fun r s'=>r= .ok (.ret (.bool true))/\OldK s₁.heap s'.heap/\s'.os=s₁.os/\AllBare s'.gens) s₁):
 WalkO q loose XP YP l.row.toRowW d [] (fun f vs=>PySem.call f vs):=by
 intro w s₀ s₁ mg mb G Y fa o pm cd doc dV kV ho hd hcd hD hmg hg args vals as hpre hlay hrd hwl hlo
 obtain rfl:dV= .none:=Dflts.none hD hdf
 obtain rfl:kV= .none:=Dflts.noKw hD
 obtain⟨a,vs,ns,rfl,rfl,hobj,hints,hlen⟩:=zP hn hpre hwl
 refine enter_call (codeAny_mono (call w s₀ s₁ mg mb fa o pm cd doc a vs ns G Y ho (fd_plain hd) hcd hmg hobj hints hlen hg) fun r s' hq=> ?_)
 obtain⟨rfl,h2,h3,h4⟩:=hq
 exact⟨.inl ⟨.bool true,.bool true,[],rfl,fun _=>rfl,.bool true,ZR l _,fun _=>⟨List.Pairwise.nil,fun _ hm=>(nomatch hm)⟩⟩,h2,h3,h4⟩
section
variable {prog:Program}{w:World}{A:Around}{E:Value->Shared->Prop}{s:Shared}{K:Frag}
def noObjs (h:Heap):Heap:= { h with objs:= #[] }
def ledger (h:Heap) (L d:Addr):List (Addr×Obj):=(List.range h.objs.size).filterMap fun a=>if a=L\/a=d then none else(h.get? a).map fun o=>(a,o)
end
end Att
namespace L2
open PySem PySem.Spec PyProof.Rows
theorem Zv: ∀ {vs:List Value}{ns:List Int},IntsAre vs ns->Vals (ns.map V.int) vs
 | _,_,.nil=> .nil
 | _,_,.cons n t h=> .cons ⟨t,rfl⟩ (Zv h)
def Only (H:Hp):Prop:= ∀b,H b=none\/ ∃o xs,H b=some (.frz o (.lst xs))
theorem j0 {P:Program}{w:World}{K:PySem.W.Frag}{mg mb:Str->Option Value}{CX:CXT}{k:Nat}{fa a:Addr}{fd:FuncData}{x:Str}{sp:Sp}{s₁:Shared}{vs:List Value}{ns:List Int}
 (KX:K.In s₁.heap) (hns:s₁.heap.Ns mainGlobals mg) (hb:s₁.heap.Ns builtinsNs mb) (hbb: ∀x:Str,x≠ "__name__" ->mb x=bootBuiltins x) (hlim:s₁.heap.NoLimit) (hg:s₁.gens= #[])
 (ha:s₁.heap.get? a=some { cls:= .type "list",data:= .seq vs.toArray }) (hi:IntsAre vs ns) (hl:ns.length<=sizeLine) (hr:Room k callerA)
 (F: ∀base:Heap,K.In base->base.Ns mainGlobals mg->FnOk P w K mg base CX k fa fd [x] sp) (hbind: ∀(s:Shared) (u:Value),BindsTo s fd ⟨[u],[]⟩ [(x,u)])
 (hsp: ∀H:Hp,Only H->SqL K H a (ns.map V.int)->sp [.ref a] H (fun v _=>v= .bl true) fun _ _ _=>False)
 (hCX: ∀H e s',CX [] H s₁ (fun _ _ _=>False) e s'->False):
 codeAny (model P w) callerA (.call (.ref fa) ⟨[.ref a],[]⟩) (fun r s'=>r= .ok (.ret (.bool true))/\OldK s₁.heap s'.heap/\s'.os=s₁.os/\AllBare s'.gens) s₁:=by
 have rv:=Zv hi
 have lenV:=hi.length
 have core: ∀H:Hp,Only H->SqL K H a (ns.map V.int)->HOk P w H s₁.heap->(∀ b,H b≠none->b=a)->(H a≠none->K.lookup a=none) →
  codeAny (model P w) callerA (.call (.ref fa) ⟨[.ref a],[]⟩) (fun r s'=>r= .ok (.ret (.bool true))/\OldK s₁.heap s'.heap/\s'.os=s₁.os/\AllBare s'.gens) s₁:=by
  intro H hO hS hok hA hK
  have base_of: ∀ {b:Addr}{o:Obj},s₁.heap.get? b=some o->H b=none->(hidT s₁.heap H).get? b=some o:=fun e n=>ZY e n
  have noA: ∀ {b:Addr}{o:Obj}{es:Array DictEntry}{ep:Nat},s₁.heap.get? b=some o->o.data= .dict es ep->H b=none:=fun {b o es ep} e d=>by
   cases q:H b with
   | none=>rfl
   | some u=>
    have e':b=a:=hA b (by rw [q];simp)
    subst e'
    rw [ha]at e;cases e
    have d':Data.seq vs.toArray _=Data.dict es ep:=d
    cases d'
  have nsK: ∀ {b:Addr}{m:Str->Option Value},s₁.heap.Ns b m->(hidT s₁.heap H).Ns b m:=fun {b m} ⟨o,es,ep,e,d,r⟩=>⟨o,es,ep,base_of e (noA e d),d,r⟩
  have hKb:K.In (hidT s₁.heap H):=fun b o e=>base_of (KX b o e) (by
   cases q:H b with
   | none=>rfl
   | some u=>
    have e':b=a:=hA b (by rw [q];simp)
    subst e'
    rw [hK (by rw [q];simp)]at e;cases e)
  have hM:Mod K mg (hidT s₁.heap H):=⟨hKb,nsK hns,⟨mb,nsK hb,hbb⟩,let ⟨mc,h1,h2⟩:=hlim; ⟨mc,nsK h1,h2⟩⟩
  have e0:Env0 P w K mg (hidT s₁.heap H) callerA [] s₁ H:=⟨rfl,hM,fun b o e=>X9 e,Nat.le_of_eq (ZN _ _),trivial,fun b hb=>absurd (show b∈([]:List Addr)from hb) (by simp),hok,.of_eq hg⟩
  refine codeAny_mono ((F _ hKb (nsK hns)).run callerA [] s₁ H ⟨[.ref a],[]⟩ [.ref a] [.ref a] _ _ hr e0 (hbind s₁ (.ref a)) (.cons rfl .nil) (hsp H hO hS)) fun r s' h=> ?_
  cases r with
  | error e=>exact(hCX H e s' h).elim
  | ok fl=>
   cases fl with
   | next=>exact False.elim h
   | brk=>exact False.elim h
   | cont=>exact False.elim h
   | ret u=>
    obtain⟨v,H',os,bare,un,hok',r',q⟩:=h
    have q':v= .bl true:=q
    subst q'
    obtain rfl:u=Value.bool true:=r'
    refine⟨rfl,OldK.of_keep fun b o e=> ?_,os,bare⟩
    cases q:H b with
    | none=>exact un.keep b o e q (by intro z;exact absurd (show b∈([]:List Addr)from z) (by simp)) (by simp)
    | some u=>
     rcases hO b with z | ⟨ob,xs,z⟩
     ·rw [q]at z;cases z
     ·have z2:=un.frzs b ob _ z
      obtain⟨e1,_⟩:=hok b _ z
      obtain⟨e2,_⟩:=hok' b _ z2
      rw [e]at e1;cases e1
      exact e2
 cases hk:K.lookup a with
 | some o=>
  have e:=KX a o hk
  rw [ha]at e
  cases e
  refine core (fun _=>none) (fun _=> .inl rfl) (.inr ⟨_,vs.toArray,_,hk,rfl,rfl,rfl,by rw [List.size_toArray,lenV];exact hl,by simpa using rv⟩) (fun b u z=>by have z':(none:Option HO)=some u:=z;cases z') (fun b z=>absurd rfl z) fun z=>absurd rfl z
 | none=>
  refine core (fun b=>if b=a then some (.frz { cls:= .type "list",data:= .seq vs.toArray } (.lst (ns.map V.int)))else none) (fun b=> ?_) (.inl (.inr ⟨{ cls:= .type "list",data:= .seq vs.toArray },if_pos rfl⟩)) (fun b u z=> ?_) (fun b z=> ?_) fun _=>hk
  ·by_cases hb:b=a
   ·exact .inr ⟨_,_,if_pos hb⟩
   ·exact .inl (if_neg hb)
  ·by_cases hb:b=a
   ·have z':=(if_pos hb).symm.trans z
    cases z'
    subst hb
    exact⟨ha,by rw [List.length_map];exact hl,vs,_,rv,ha⟩
   ·have z':=(if_neg hb).symm.trans z
    cases z'
  ·by_cases hb:b=a
   ·exact hb
   ·exact absurd (if_neg hb) z
end L2
namespace L2
open PySem PySem.Spec PyProof.Rows
abbrev KOf {K:PySem.W.Frag}{h:Heap}(_:K.In h):PySem.W.Frag:=K
theorem walk_of {l:PySem.W.OpenLaw}{n k:Nat}{q:Program}{loose:List Str}{XP:(Str->Option Value)->Heap->Prop}{YP:World->Heap->Prop}{d:DefRec}{K:Params->PySem.W.Frag}{CX:World->CXT}{sp:World->Sp}{x:Str}
 (hn:l.most=some n) (hn2:n<=sizeLine) (hdf:d.params.defaults= []) (hr:Room k callerA)
 (hY: ∀(w:World) (h:Heap),YP w h->(K w.params).In h)
 (F: ∀(w:World) (mg:Str->Option Value) (fa:Addr) (h:Heap),(K w.params).In h->h.Ns mainGlobals mg->mg d.name=some (.ref fa) →
   ∃fd:FuncData,(∀ (s:Shared) (u:Value),BindsTo s fd ⟨[u],[]⟩ [(x,u)]) ∧
    ∀base:Heap,(K w.params).In base->base.Ns mainGlobals mg->FnOk l.prog w (K w.params) mg base (CX w) k fa fd [x] (sp w))
 (hsp: ∀(w:World) (H:Hp) (a:Addr) (ns:List Int),ns.length<=n->Only H->SqL (K w.params) H a (ns.map V.int)->sp w [.ref a] H (fun v _=>v= .bl true) fun _ _ _=>False)
 (hCX: ∀(w:World) (H:Hp) (s:Shared) (e:Value) (s':Shared),CX w [] H s (fun _ _ _=>False) e s'->False):
 PySem.W.WalkO q loose XP YP l.row.toRowW d [] (fun f vs=>PySem.call f vs):=by
 refine Att.attach_call hn hdf fun w s₀ s₁ mg mb fa o pm cd doc a vs ns G Y ho hd hcd hmg hobj hints hlen hg=> ?_
 have KX:=hY w _ Y
 obtain⟨fd,hb,hF⟩:=F w mg fa _ KX G.T.g hmg
 exact j0 KX G.T.g G.T.b G.T.builtins G.T.nolimit hg hobj hints (Nat.le_trans hlen hn2) hr hF hb (fun H hO hS=>hsp w H a ns hlen hO hS) fun H e s'=>hCX w H s₁ e s'
end L2
/- THE LAST THEOREM (shape;LID,My.* are yours):
 My.Adr: a structure of the addresses that your layer names (classes,functions);My.Txt K t: a structure (Prop) of the equations over K;
 My.txt_mk: {K}{implicit addresses ..}(e1:nsIn K mainGlobals "law" =some (some (.ref f))) (e2:K.lookup f=some ⟨oc,od,.func (fnOf "law" "law" params body scope dV kV doc pm an cdv ct),sl⟩) (e3:codeIn K cdv "law" =true) .. : ∃t,My.Txt K t
set_option maxRecDepth 100000 in
set_option maxHeartbeats 0 in
theorem PySem.Challenge.cw_LID_holds : PySem.Challenge.rw_LID.Holds := by
 w_on;o_law;k_head;(case hw=>w_witness2)
 k_fill
 refine L2.walk_of (l:=PySem.Challenge.rw_LID) (n:=63) (k:=40) (x:= "script") (CX:=fun w=> ..) (sp:=fun _=>My.sp_law) rfl (by decide) rfl ⟨rfl,by decide,by decide⟩ (fun w h Y=>PySem.W.kIn_of Y) ?F ?S ?C
 case F=>
  intro w mg fa h KX G hmg
  have T: ∃t,My.Txt (L2.KOf KX) t:=by
   dsimp only [L2.KOf] -- K must stand as «<heap const> w.params» for k_is
   refine' My.txt_mk ?e1 ?e2 ?e3 ..
   (case e1=>PySem.W.k_is) -- in the order: a name->its address->its object->its parts
   (case e2=>PySem.W.k_is)
   ..
  obtain⟨t,T⟩:=T
  have e0:=hmg.symm.trans (PySem.W.mg_of KX G T.law)
  cases e0 -- fa is the law's own address
  exact⟨_,fun s u=> .of_eq rfl,fun base kb nb=>My.law_fn T kb nb⟩ -- if «.of_eq rfl» comes too early: refine'⟨_,?b,fun base kb nb=>My.law_fn T kb nb⟩;exact fun s u=> .of_eq rfl
 case S=>exact fun w H a ns hl hO hS=> ..
 case C=>exact ..
(the tactic k_is has no namespace: write k_is) -/
namespace L2
open PySem PySem.Spec PyProof.Rows
def inClass (s:Stmt) (j:Nat):Stmt:=match s with
 | .ClassDef _ _ _ body _ _ _ _ _ _ _=>body.getD j (.Pass ⟨0,0,0,0⟩)
 | _=> .Pass ⟨0,0,0,0⟩
def defArgs (s:Stmt):Arguments:=match s with
 | .FunctionDef _ a _ _ _ _ _ _ _ _=>a
 | _=> { posonlyargs:= [],args:= [],vararg:=none,kwonlyargs:= [],kw_defaults:= [],kwarg:=none,defaults:= [] }
def defBody (s:Stmt):List Stmt:=match s with
 | .FunctionDef _ _ b _ _ _ _ _ _ _=>b
 | _=> []
def defScope (s:Stmt):Scope:=match s with
 | .FunctionDef _ _ _ _ _ _ sc _ _ _=>sc
 | _=> { kind:= .function,names:= [],isGenerator:=false,isCoroutine:=false }
abbrev CX0:CXT:=fun _ _ _ _ _ _=>False
abbrev E0:XK:=fun _ _ _=>False
structure Fun (K:PySem.W.Frag) (x qual:Str) (st:Stmt) (f:Addr) (fd:FuncData):Prop where
 ex: ∃(oc:Value) (od:Option Addr) (kV doc pm:Value) (an:Option Addr) (cdv ct:Value) (osl:Array (Option Value)),
  fd=PySem.W.fnOf x qual (defArgs st) (defBody st) (defScope st) .none kV doc pm an cdv ct/\K.lookup f=some ⟨oc,od,.func fd,osl⟩/\PySem.W.codeIn K cdv qual=true
 kp:PySem.W.keepIn K (.ref f)=true
section
variable {P:Program}{w:World}{K:PySem.W.Frag}{mg:Str->Option Value}{base:Heap}
theorem Fun.binds {x qual:Str}{st:Stmt}{f:Addr}{fd:FuncData}{ps:List Str}(F:Fun K x qual st f fd)
 (h: ∀(kV doc pm:Value) (an:Option Addr) (cdv ct:Value) (us:List Value),us.length=ps.length->bindArgs (PySem.W.fnOf x qual (defArgs st) (defBody st) (defScope st) .none kV doc pm an cdv ct) ⟨us,[]⟩=pure (ps.zip us)):Binds K fd ps []:=by
 obtain⟨oc,od,kV,doc,pm,an,cdv,ct,osl,rfl,lk,hcd⟩:=F.ex
 exact .all (h kV doc pm an cdv ct)
theorem j8 {x qual:Str}{st:Stmt}{f:Addr}{oc:Value}{od an:Option Addr}{osl:Array (Option Value)}{kV doc pm cdv ct:Value}(l:K.lookup f=some ⟨oc,od,.func (PySem.W.fnOf x qual (defArgs st) (defBody st) (defScope st) .none kV doc pm an cdv ct),osl⟩)
 (c:PySem.W.codeIn K cdv qual=true) (k:PySem.W.keepIn K (.ref f)=true):Fun K x qual st f (PySem.W.fnOf x qual (defArgs st) (defBody st) (defScope st) .none kV doc pm an cdv ct):=⟨⟨oc,od,kV,doc,pm,an,cdv,ct,osl,rfl,l,c⟩,k⟩
end
theorem Qx {n:Nat}(h:n<=1000):n<sizeLine:=Nat.lt_of_le_of_lt h (by decide)
section
variable {X:Cx}
end
theorem iteF {A B:Prop}(h:B):if false=true then A else B:=by
 rw [if_neg Bool.false_ne_true]
 exact h
theorem iteT {A B:Prop}(h:A):if true=true then A else B:=by
 rw [if_pos rfl]
 exact h
def Same (H H':Hp):Prop:= ∀b o,H b=some o->H' b=some o
end L2
set_option maxHeartbeats 4000000
namespace L2
open PySem PySem.Spec PyProof.Rows
def closStep (env:Env) (cs:List (Str×Addr)) (y:Str×NameKind):List (Str×Addr):=
 if y.2== .free then(match env.cells.lookup y.1 with | some c=>(y.1,c)::cs | none=>cs)else cs
def closL (scope:Scope) (env:Env):List (Str×Addr):=scope.names.foldl (closStep env) []
theorem qP {env:Env}: ∀(names:List (Str×NameKind)) (cs0:List (Str×Addr)),(∀ y∈names,y.2= .free-> ∃c,env.cells.lookup y.1=some c) →
 (do
   let mut cs:=cs0
   for (name,kind) in names do
    if kind== .free then cs:=(name,←cellOf env name)::cs
   return cs:Sem (List (Str×Addr)))=pure (names.foldl (closStep env) cs0)
 | [],cs0,_=>by simp
 | (n,k)::r,cs0,h=>by
  have ih:=fun cs=>qP (env:=env) r cs fun y hy=>h y (List.mem_cons_of_mem _ hy)
  by_cases hk:k= .free
  ·subst hk
   obtain⟨c,hc⟩:=h (n,.free) List.mem_cons_self rfl
   have hc:env.cells.lookup n=some c:=hc
   have e:closStep env cs0 (n,.free)=(n,c)::cs0:=by
    show(if (NameKind.free==NameKind.free)=true then(match env.cells.lookup n with | some c=>(n,c)::cs0 | none=>cs0)else cs0)=_
    rw [if_pos (show (NameKind.free==NameKind.free)=true from rfl),hc]
   rw [List.foldl_cons,e,←ih]
   simp [List.forIn_cons,cellOf,hc]
  ·have hb:(k==NameKind.free)=false:=by simpa using hk
   have e:closStep env cs0 (n,k)=cs0:=by
    show(if (k==NameKind.free)=true then _ else cs0)=_
    rw [hb,if_neg Bool.false_ne_true]
   rw [List.foldl_cons,e,←ih]
   simp [List.forIn_cons,hk]
theorem jt {scope:Scope}{env:Env}(h: ∀y∈scope.names,y.2= .free-> ∃c,env.cells.lookup y.1=some c):closureFor scope env=pure (closL scope env):=
 qP scope.names [] h
theorem Qp {env:Env}: ∀(names:List (Str×NameKind)) (cs:List (Str×Addr)),(∀ x c,cs.lookup x=some c->env.cells.lookup x=some c)-> ∀x c,(names.foldl (closStep env) cs).lookup x=some c->env.cells.lookup x=some c
 | [],_,h=>h
 | (n,k)::r,cs,h=>by
  refine Qp r (closStep env cs (n,k)) fun x c e=> ?_
  unfold closStep at e
  split at e
  ·split at e
   ·rename_i c' hc'
    rw [List.lookup_cons]at e
    cases hx:x==n with
    | true=>
     rw [hx]at e
     have:x=n:=by simpa using hx
     subst this
     cases e
     exact hc'
    | false=>rw [hx]at e;exact h x c e
   ·exact h x c e
  ·exact h x c e
theorem zz {env:Env}{x:Str}{c:Addr}(hc:env.cells.lookup x=some c): ∀(names:List (Str×NameKind)) (cs:List (Str×Addr)),((x,.free)∈names\/ ∃c',cs.lookup x=some c')-> ∃c',(names.foldl (closStep env) cs).lookup x=some c'
 | [],cs,h=>h.elim (fun z=>absurd z (by simp)) id
 | (n,k)::r,cs,h=>by
  refine zz hc r (closStep env cs (n,k)) ?_
  have grow:(∃ c',cs.lookup x=some c')-> ∃c',(closStep env cs (n,k)).lookup x=some c':=fun⟨c',e⟩=>by
   unfold closStep
   split
   ·split
    ·rw [List.lookup_cons]
     cases x==n with
     | true=>exact⟨_,rfl⟩
     | false=>exact⟨c',e⟩
    ·exact⟨c',e⟩
   ·exact⟨c',e⟩
  rcases h with h | h
  ·rcases List.mem_cons.mp h with h | h
   ·cases h
    refine .inr ⟨c,?_⟩
    show List.lookup x (if (NameKind.free==NameKind.free)=true then(match env.cells.lookup x with | some c=>(x,c)::cs | none=>cs)else cs)=_
    rw [if_pos (show (NameKind.free==NameKind.free)=true from rfl),hc]
    simp
   ·exact .inl h
  ·exact .inr (grow h)
theorem Zy {prog:Program}{w:World}{A:Around}{elt tg iter:Expr}{ifs:List Expr}{scope:Scope}{pos:Pos}{it acc:Value}{env:Env}{R:Result->Shared->Prop}{s:Shared}(I:Nat->Shared->Prop)
 (turn: ∀n s,I n s->wpAny (model prog w) A (pyNext it) (fun r s₁=>match r with
   | none=>R (.ok .next) s₁
   | some v=>wpAny (model prog w) A (letOwnedTupleGo tg it v) (fun _ s₁'=>wpAny (model prog w) A (assign tg env v) (fun _ s₂=>
    wpAny (model prog w) A (forIn ifs true fun c r=>if r=true then do let ok ←isTrue c env (eval c env);pure (ForInStep.yield ok)else pure (ForInStep.yield r)) (fun ok s₃=>
     if ok=true then wpAny (model prog w) A (eval elt env) (fun x s₄=>
      wpAny (model prog w) A (call (.builtin "list.append") [acc,x]) (fun _ s₅=> ∃m,m<n/\I m s₅) (notedBy (model prog w) A env fun e s'=>R (.error e) s') s₄) (notedBy (model prog w) A env fun e s'=>R (.error e) s') s₃
     else ∃m,m<n/\I m s₃) (notedBy (model prog w) A env fun e s'=>R (.error e) s') s₂) (notedBy (model prog w) A env fun e s'=>R (.error e) s') s₁') (notedBy (model prog w) A env fun e s'=>R (.error e) s') s₁) (notedBy (model prog w) A env fun e s'=>R (.error e) s') s)
 (n:Nat) (h:I n s):codeAny (model prog w) A (.compLoop (.ListComp elt [⟨tg,iter,ifs,0⟩] scope pos) 0 it acc env) R s:=by
 refine codeAny_loop rfl I (fun n s hI=> ?_) n h
 show wpAny _ A ((compTurn (.ListComp elt [⟨tg,iter,ifs,0⟩] scope pos) 0 it acc env).onRaise (fun x=>do noteFrame x env;theTreesLotGoes x)) _ _ s
 refine wpAny_noted ?_
 rw [compTurn_list]
 refine wpAny_bind (wpAny_standAt (wpAny_bind (wpAny_mono (turn n s hI) (fun r s₁ h₁=> ?_) fun _ _ h'=>h')))
 cases r with
 | none=>exact wpAny_pure h₁
 | some v=>
  refine wpAny_bind (wpAny_mono h₁ (fun _ s₁' h₁'=> ?_) fun _ _ h'=>h')
  refine wpAny_bind (wpAny_mono h₁' (fun _ s₂ h₂=>wpAny_bind (wpAny_mono h₂ (fun ok s₃ h₃=> ?_) fun _ _ h'=>h')) fun _ _ h'=>h')
  cases ok with
  | false=>exact wpAny_pure ⟨rfl,h₃⟩
  | true=>
   exact wpAny_bind (wpAny_bind (wpAny_mono h₃ (fun x s₄ h₄=>wpAny_bind (wpAny_mono h₄ (fun _ s₅ h₅=>wpAny_pure (wpAny_pure ⟨rfl,h₅⟩)) fun _ _ h'=>h')) fun _ _ h'=>h'))
theorem WA {x:Str}: ∀(names:List (Str×NameKind)) (n:Nat) (acc:List (Str×Addr)),(x,NameKind.cell)∉names->(cellsFrom n names acc).lookup x=acc.lookup x
 | [],_,_,_=>rfl
 | (y,k)::r,n,acc,h=>by
  unfold cellsFrom
  split
  ·rename_i hk
   have hk:k= .cell:=by simpa using hk
   subst hk
   rw [WA r (n+1) _ fun z=>h (List.mem_cons_of_mem _ z),List.lookup_cons]
   cases hx:x==y with
   | true=>
    have:x=y:=by simpa using hx
    subst this
    exact absurd List.mem_cons_self h
   | false=>rfl
  ·exact WA r n acc fun z=>h (List.mem_cons_of_mem _ z)
theorem XC {x:Str}{c:Addr}: ∀(names:List (Str×NameKind)) (h:Heap) (acc:List (Str×Addr)) (Old:Prop),(acc.lookup x=some c->Old\/(h.IsCell c none/\(x,NameKind.cell)∈names\/h.IsCell c none/\Old))-> ∀lo,lo<=h.objs.size →
 (cellsFrom h.objs.size names acc).lookup x=some c->acc.lookup x=some c\/(lo<=c/\(x,NameKind.cell)∈names/\(pushCells h names).IsCell c none)
 | [],_,_,_,_,_,_,e=> .inl e
 | (y,k)::r,h,acc,Old,ha,lo,hlo,e=>by
  unfold cellsFrom at e
  unfold pushCells
  split at e
  ·rename_i hk
   rw [if_pos hk]
   have hk:k= .cell:=by simpa using hk
   subst hk
   have e:(cellsFrom (h.push { cls:= .type "cell",data:= .cell none }).objs.size r ((y,h.objs.size)::acc)).lookup x=some c:=by rw [Heap.size_push];exact e
   rcases XC r (h.push { cls:= .type "cell",data:= .cell none }) _ True (fun _=> .inl trivial) lo (by rw [Heap.size_push];omega) e with q | ⟨q1,q2,q3⟩
   ·rw [List.lookup_cons]at q
    cases hx:x==y with
    | true=>
     rw [hx]at q
     have:x=y:=by simpa using hx
     subst this
     cases q
     exact .inr ⟨hlo,List.mem_cons_self,(show (h.push { cls:= .type "cell",data:= .cell none }).IsCell h.objs.size none from⟨_,Heap.get?_push_size _ rfl,rfl⟩).keeps fun b o e=>pushCells_keeps r _ b o e⟩
    | false=>
     rw [hx]at q
     exact .inl q
   ·exact .inr ⟨q1,List.mem_cons_of_mem _ q2,q3⟩
  ·rename_i hk
   rw [if_neg hk]
   rcases XC r h acc True (fun _=> .inl trivial) lo hlo e with q | ⟨q1,q2,q3⟩
   ·exact .inl q
   ·exact .inr ⟨q1,List.mem_cons_of_mem _ q2,q3⟩
theorem qU: ∀(names:List (Str×NameKind)) (n:Nat) (acc:List (Str×Addr)),(∀ x c,acc.lookup x=some c->c<n)->(∀ x y c,acc.lookup x=some c->acc.lookup y=some c->x=y) →
 ∀x y c,(cellsFrom n names acc).lookup x=some c->(cellsFrom n names acc).lookup y=some c->x=y
 | [],_,_,_,hi=>hi
 | (z,k)::r,n,acc,hl,hi=>by
  unfold cellsFrom
  split
  ·have look: ∀x c,((z,n)::acc).lookup x=some c->(x=z/\c=n)\/(acc.lookup x=some c):=fun x c e=>by
    rw [List.lookup_cons]at e
    cases hx:x==z with
    | true=>
     rw [hx]at e
     cases e
     exact .inl ⟨by simpa using hx,rfl⟩
    | false=>
     rw [hx]at e
     exact .inr e
   refine qU r (n+1) _ (fun x c e=> ?_) fun x y c e1 e2=> ?_
   ·rcases look x c e with⟨_,q⟩ | q
    ·exact q▸Nat.lt_succ_self n
    ·exact Nat.lt_succ_of_lt (hl x c q)
   ·rcases look x c e1 with⟨p1,p2⟩ | p<;>rcases look y c e2 with⟨q1,q2⟩ | q
    ·rw [p1,q1]
    ·exact absurd (p2▸hl y c q) (Nat.lt_irrefl _)
    ·exact absurd (q2▸hl x c p) (Nat.lt_irrefl _)
    ·exact hi x y c p q
  ·exact qU r n acc hl hi
theorem Jq {env:Env}{x:Str}{c:Addr}: ∀(names:List (Str×NameKind)) (cs:List (Str×Addr)),(names.foldl (closStep env) cs).lookup x=some c->cs.lookup x=some c\/(x,NameKind.free)∈names
 | [],_,h=> .inl h
 | (y,k)::r,cs,h=>by
  rw [List.foldl_cons]at h
  rcases Jq r _ h with q | q
  ·unfold closStep at q
   split at q
   ·rename_i hk
    have hk:k= .free:=by simpa using hk
    subst hk
    split at q
    ·rw [List.lookup_cons]at q
     cases hx:x==y with
     | true=>
      have:x=y:=by simpa using hx
      subst this
      exact .inr List.mem_cons_self
     | false=>
      rw [hx]at q
      exact .inl q
    ·exact .inl q
   ·exact .inl q
  ·exact .inr (List.mem_cons_of_mem _ q)
theorem qz {env:Env}: ∀ {names:List (Str×NameKind)}{x:Str},
 ((names.map fun(n,k)=>if(k==NameKind.free&&env.scope.kind== .function&&env.kindOf n==some .cell)then(n,NameKind.cell)else(n,k)).lookup x=some .cell ∨
   (names.map fun(n,k)=>if(k==NameKind.free&&env.scope.kind== .function&&env.kindOf n==some .cell)then(n,NameKind.cell)else(n,k)).lookup x=some .free)->(x,.free)∈names\/(x,.cell)∈names
 | [],_,h=>by simp at h
 | (n,k)::r,x,h=>by
  have ih:= @qz env r x
  rw [List.map_cons]at h
  by_cases hcond:(k==NameKind.free&&env.scope.kind== .function&&env.kindOf n==some .cell)=true
  ·have hf:k= .free:=by
    rw [Bool.and_eq_true,Bool.and_eq_true]at hcond
    simpa using hcond.1.1
   subst hf
   simp only [hcond,if_true,List.lookup_cons]at h
   cases hx:x==n with
   | true=>
    have:x=n:=by simpa using hx
    subst this
    exact .inl List.mem_cons_self
   | false=>
    rw [hx]at h
    exact(ih h).imp (List.mem_cons_of_mem _) (List.mem_cons_of_mem _)
  ·have hcf:=Bool.eq_false_iff.mpr hcond
   simp only [hcf,Bool.false_eq_true,if_false,List.lookup_cons]at h
   cases hx:x==n with
   | true=>
    have:x=n:=by simpa using hx
    subst this
    rw [hx]at h
    rcases h with h | h
    ·have:k= .cell:=by simpa using h
     subst this
     exact .inr List.mem_cons_self
    ·have:k= .free:=by simpa using h
     subst this
     exact .inl List.mem_cons_self
   | false=>
    rw [hx]at h
    exact(ih (by simpa using h)).imp (List.mem_cons_of_mem _) (List.mem_cons_of_mem _)
theorem xS: ∀ {names:List (Str×NameKind)}{x:Str}{k k':NameKind},(names.map Prod.fst).Nodup->(x,k)∈names->(x,k')∈names->k=k'
 | (y,j)::r,x,k,k',nd,h1,h2=>by
  rw [List.map_cons,List.nodup_cons]at nd
  rcases List.mem_cons.mp h1 with e1 | e1<;>rcases List.mem_cons.mp h2 with e2 | e2
  ·cases e1;cases e2;rfl
  ·cases e1;exact absurd (List.mem_map.mpr ⟨_,e2,rfl⟩) nd.1
  ·cases e2;exact absurd (List.mem_map.mpr ⟨_,e1,rfl⟩) nd.1
  ·exact xS nd.2 e1 e2
theorem ZB: ∀ {names:List (Str×NameKind)}{x:Str}{k:NameKind},(names.map Prod.fst).Nodup->(x,k)∈names->names.lookup x=some k
 | (y,j)::r,x,k,nd,h=>by
  rw [List.map_cons,List.nodup_cons]at nd
  rw [List.lookup_cons]
  rcases List.mem_cons.mp h with e | e
  ·cases e;simp
  ·have:(x==y)=false:=by
    cases hx:x==y with
    | false=>rfl
    | true=>
     have:x=y:=by simpa using hx
     subst this
     exact absurd (List.mem_map.mpr ⟨_,e,rfl⟩) nd.1
   rw [this]
   exact ZB nd.2 e
def blkC (scope:Scope) (C:Addr) (env:Env):List (Str×Addr):=cellsFrom (C+1) scope.names (closL scope env)
theorem qk {M:Model}{A:Around}{E:Value->Shared->Prop}{s:Shared}{scope:Scope}{globals:Addr}{cl:List (Str×Addr)}{qual:Str}{env:Env}{Q:Env->Shared->Prop}
 (hQ:Q (newEnv scope s.heap.objs.size globals (cellsFrom (s.heap.objs.size+1) scope.names cl) qual none .none (some env) builtinsNs) { s with heap:=pushCells (s.heap.push { cls:= .type "dict",data:= .dict #[] }) scope.names }):
 wpAny M A (newFunctionEnv scope globals cl [] qual none .none (some env)) Q E s:=by
 simp only [newFunctionEnv,Option.isSome_some,if_true]
 refine wpAny_bind (wpAny_alloc ?_)
 refine wpAny_bind (wpAny_layCells _ (fun name kind cells=>by cases hkc:kind==NameKind.cell<;>simp [hkc]) _ _ _ _ ?_)
 rw [show ({ s with heap:=s.heap.push { cls:= .type "dict",data:= .dict #[] } }:Shared).heap.objs.size=s.heap.objs.size+1 from Heap.size_push ..]
 refine wpAny_bind ?_
 rw [List.forIn_nil]
 exact wpAny_pure (wpAny_pure hQ)
def cxComp (X:Cx) (N:List Str) (scope:Scope) (C:Addr) (fp:List Addr) (s:Shared) (H:Hp):Cx where
 prog:=X.prog
 w:=X.w
 K:=X.K
 mg:=X.mg
 base:=X.base
 A:=X.A
 N:=N
 s₀:=s
 H₀:=H
 env:=compEnvC scope (blkC scope C X.env) C X.env
 outer:=X.stack
 stack:=X.stack
 ex:=fp
 fn:=fun x=>decide (scope.names.lookup x=some .cell)
 calm:=X.calm
 pn:= []
 xe:=fun _ _=>False
def CapOk (X:Cx):List Nat->List Str->Prop
 | [],[]=>True
 | j::js,x::xs=>X.N[j]? =some x/\(X.env.kindOf x=some .cell\/X.env.kindOf x=some .free)/\CapOk X js xs
 | _,_=>False
theorem CapOk.get {X:Cx}{σ:St}: ∀ {cap:List Nat}{xs:List Str}{i:Nat}{x:Str}{v:V},CapOk X cap xs->xs[i]? =some x->(cap.map fun(j:Nat)=>(σ[j]?).join)[i]? =some (some v) →
 ∃j:Nat,X.N[j]? =some x/\σ[j]? =some (some v)/\(X.env.kindOf x=some .cell\/X.env.kindOf x=some .free)
 | [],[],_,_,_,_,e,_=>by simp at e
 | [],_::_,_,_,_,h,_,_=>h.elim
 | _::_,[],_,_,_,h,_,_=>h.elim
 | j::js,x'::xs,0,x,v,h,e1,e2=>by
  obtain⟨h1,h2,_⟩:=h
  simp at e1
  subst e1
  refine⟨j,h1,?_,h2⟩
  have e2:some ((σ[j]?).join)=some (some v):=by simpa using e2
  have e2:(σ[j]?).join=some v:=Option.some.inj e2
  cases q:σ[j]? with
  | none=>rw [q]at e2;cases e2
  | some z=>rw [q]at e2;have:z=some v:=e2;rw [this]
 | j::js,x'::xs,i+1,x,v,h,e1,e2=>CapOk.get (i:=i) h.2.2 (by simpa using e1) (by simpa using e2)
theorem CapOk.length {X:Cx}: ∀ {cap:List Nat}{xs:List Str},CapOk X cap xs->cap.length=xs.length
 | [],[],_=>rfl
 | [],_::_,h=>h.elim
 | _::_,[],h=>h.elim
 | _::_,_::_,h=>congrArg (· +1) (CapOk.length h.2.2)
def capSt (k:Nat) (cap:List Nat) (σ:St):St:=List.replicate k none++cap.map fun(j:Nat)=>(σ[j]?).join
def PTs (X:Cx) (ifs:List Expr) (t:TT):Prop:=
 ∀(pins:List (Addr×Obj)) (s:Shared) (σ:St) (H:Hp) (Q:Bool->Hp->Prop),Inv X pins σ H s->t σ H Q →
  wpAny (model X.prog X.w) X.A (forIn ifs true fun c r=>if r=true then do let ok ←isTrue c X.env (eval c X.env);pure (ForInStep.yield ok)else pure (ForInStep.yield r)) (TP X pins σ Q) X.xe s
def tYes:TT:=fun _ H Q=>Q true H
theorem QT {X:Cx}:PTs X [] tYes:=fun _ _ _ H _ I h=>wpAny_tests_nil ⟨H,I,h⟩
theorem JP {X:Cx}{c:Expr}{t:TT}(h:PT X c t):PTs X [c] t:=fun pins s σ H Q I hw=>wpAny_tests_one (h pins s σ H Q I hw)
def CompW (J:It) (g:TG) (tc:TT) (te:TE) (τ0:St) (H1:Hp) (Q:VK):Prop:= ∃W:Nat->Nat->List V->St->Hp->Prop,(∃ m,W 0 m [] τ0 H1)/\ ∀i m ys τ H,W i m ys τ H →
 (J.stop i H/\ys.length<=sizeLine/\ ∀D,H D=none->Q (.ref D) (upd H D (.lst ys))) ∨
 (J.go i H/\ys.length<sizeLine/\ ∃N:List V->St->Hp->Prop,(∀ ys' τ' H',N ys' τ' H'-> ∃m',m'<m/\W (i+1) m' ys' τ' H') ∧
   ∀x H',J.yld i H x H'->g x τ H' fun τ2 H2=>tc τ2 H2 fun b H3=>if b=true then te τ2 H3 fun y H4=>N (ys++ [y]) τ2 H4 else N ys τ2 H3)
abbrev Blk (α:Type):=Addr->List Addr->Shared->Hp->α
def tComp (k:Nat) (cap:List Nat) (wi:TI) (g:Blk TG) (tc:Blk TT) (te:Blk TE):TE:=fun σ H Q=>wi σ H fun J H1=> ∀C fp s,CompW J (g C fp s H1) (tc C fp s H1) (te C fp s H1) (capSt k cap σ) H1 Q
theorem Inv.adopt {X:Cx}{pins:List (Addr×Obj)}{σ:St}{H:Hp}{s:Shared}{D:Addr}{ys:List V}{its:List Value}{n:Nat}(I:Inv X pins σ H s) (hD:FpOk X pins H D) (hs:X.s₀.heap.objs.size<=D)
 (e:s.heap.get? D=some { cls:= .type "list",data:= .seq its.toArray n }) (r:Vals ys its) (hz:ys.length<=sizeLine):Inv X pins σ (upd H D (.lst ys)) s:=by
 obtain⟨h0,h1,h2,h3,h4,h5⟩:=hD
 have up: ∀b o,H b=some o->upd H D (.lst ys) b=some o:=fun b o q=>by rw [ja (xa q h0)];exact q
 have old: ∀b o,X.s₀.heap.get? b=some o->b≠D:=fun b o q z=>by rw [z]at q;exact absurd (Nat.lt_of_lt_of_le (Heap.lt_size q) hs) (Nat.lt_irrefl _)
 refine⟨I.ok,I.os,I.bare,⟨I.base.keep,I.base.slot,fun b o e' n' hx=> ?_,I.base.there,fun b xs q=>up b _ (I.base.tups b xs q),fun b o u q=>up b _ (I.base.frzs b o u q),fun b ps q=> ?_⟩,I.loc,I.cell,?_,fun x c q=> ?_,fun p hp=> ?_,fun b u q=> ?_,I.len⟩
 ·rw [ja (old b o e')];exact I.base.free b o e' n' hx
 ·obtain⟨more,q'⟩:=I.base.tbls b ps q
  exact⟨more,up b _ q'⟩
 ·rw [ja (Ne.symm h1)];exact I.free
 ·rw [ja (h4 x c q)];exact I.freeC x c q
 ·obtain⟨a1,a2,a3⟩:=I.pin p hp
  exact⟨a1,by rw [ja (h5 p hp)];exact a2,a3⟩
 ·by_cases hb:b=D
  ·subst hb
   rw [xc]at q
   cases q
   exact⟨hz,its,n,r,e⟩
  ·rw [ja hb]at q
   exact(I.hok b u q).stay (fun _ _ _ z=>z) (fun c z=>up c _ z) fun c xs z=>up c _ z
theorem Xc {env:Env}: ∀ {names:List (Str×NameKind)}{x:Str},names.lookup x=some .free →
 ((names.map fun(n,k)=>if(k==NameKind.free&&env.scope.kind== .function&&env.kindOf n==some .cell)then(n,NameKind.cell)else(n,k)).lookup x=some .cell ∨
   (names.map fun(n,k)=>if(k==NameKind.free&&env.scope.kind== .function&&env.kindOf n==some .cell)then(n,NameKind.cell)else(n,k)).lookup x=some .free)
 | [],_,h=>by simp at h
 | (n,k)::r,x,h=>by
  have ih:= @Xc env r x
  rw [List.map_cons]
  rw [List.lookup_cons]at h
  cases hx:x==n with
  | true=>
   rw [hx]at h
   have hk:k= .free:=by simpa using h
   subst hk
   by_cases hcond:(NameKind.free==NameKind.free&&env.scope.kind== .function&&env.kindOf n==some .cell)=true
   ·simp only [hcond,if_true,List.lookup_cons,hx]
    first | exact .inl rfl | exact .inl trivial | simp
   ·have hcf:=Bool.eq_false_iff.mpr hcond
    simp only [hcf,Bool.false_eq_true,if_false,List.lookup_cons,hx]
    first | exact .inr rfl | exact .inr trivial | simp
  | false=>
   rw [hx]at h
   have q:=ih h
   by_cases hcond:(k==NameKind.free&&env.scope.kind== .function&&env.kindOf n==some .cell)=true
   ·simp only [hcond,if_true,List.lookup_cons,hx]
    exact q
   ·have hcf:=Bool.eq_false_iff.mpr hcond
    simp only [hcf,Bool.false_eq_true,if_false,List.lookup_cons,hx]
    exact q
structure CompOk (X:Cx) (scope:Scope) (N:List Str) (k:Nat) (cap:List Nat):Prop where
 kind:scope.kind= .function
 nd:(scope.names.map Prod.fst).Nodup
 names: ∀y∈scope.names,y.2= .local->scope.names.lookup y.1=some .local
 free: ∀y∈scope.names,y.2= .free->X.env.kindOf y.1=some .cell\/X.env.kindOf y.1=some .free
 capf: ∀x∈N.drop k,scope.names.lookup x=some .free
 cap:CapOk X cap (N.drop k)
 le:k<=N.length
structure ScopeOk (sc scope:Scope) (N:List Str) (k:Nat):Prop where
 kind:scope.kind= .function
 nd:(scope.names.map Prod.fst).Nodup
 names: ∀y∈scope.names,y.2= .local->scope.names.lookup y.1=some .local
 free: ∀y∈scope.names,y.2= .free->sc.names.lookup y.1=some .cell\/sc.names.lookup y.1=some .free
 capf: ∀x∈N.drop k,scope.names.lookup x=some .free
 le:k<=N.length
section
variable {X:Cx}{elt tg iter:Expr}{ifs:List Expr}{scope:Scope}{pos p0:Pos}{N:List Str}{k:Nat}{cap:List Nat}{wi:TI}{g:Blk TG}{tc:Blk TT}{te:Blk TE}
theorem qJ {pins:List (Addr×Obj)}{s2:Shared}{σ:St}{H2:Hp}{tk:Nat}{fp:List Addr}{C:Addr}{h₁:Heap}{m:Str->Option Value}(ok:CompOk X scope N k cap) (I2:Inv X pins σ H2 s2) (f2: ∀b∈fp,FpOk X pins H2 b) (fo: ∀b∈fp,b<s2.heap.objs.size)
 (hC:s2.heap.objs.size<=C) (hns:h₁.Ns C m) (old: ∀b o,s2.heap.get? b=some o->h₁.get? b=some o)
 (hcc: ∀x c,(blkC scope C X.env).lookup x=some c->(closL scope X.env).lookup x=some c\/(C+1<=c/\(x,NameKind.cell)∈scope.names/\h₁.IsCell c none)):
 Inv (cxComp X N scope C fp s2 H2) [] (capSt k cap σ) H2 { s2 with heap:=h₁,toks:=tk }:=by
 have sub: ∀x c,(closL scope X.env).lookup x=some c->X.env.cells.lookup x=some c:=Qp scope.names [] fun x c e=>by simp at e
 have has: ∀x,(x,NameKind.free)∈scope.names-> ∃c,(closL scope X.env).lookup x=some c:=fun x hm=>by
  obtain⟨c,hc⟩:=I2.ok.has x (ok.free _ hm rfl)
  exact zz hc scope.names [] (.inl hm)
 have lt: ∀x c,(closL scope X.env).lookup x=some c->c<C+1:=fun x c e=>by
  obtain⟨v,o,ho,_⟩:=I2.cell x c (sub x c e)
  exact Nat.lt_succ_of_le (Nat.le_trans (Nat.le_of_lt (Heap.lt_size ho)) hC)
 have inj:=qU scope.names (C+1) (closL scope X.env) lt fun x y c h1 h2=>I2.ok.inj x y c (sub x c h1) (sub y c h2)
 have keep: ∀x c,(x,NameKind.free)∈scope.names->(closL scope X.env).lookup x=some c->(blkC scope C X.env).lookup x=some c:=fun x c hm e=>by
  unfold blkC
  rw [WA scope.names (C+1) _ fun z=>by cases xS ok.nd hm z]
  exact e
 have hasC: ∀x,(x,NameKind.free)∈scope.names\/(x,NameKind.cell)∈scope.names-> ∃c,(blkC scope C X.env).lookup x=some c:=fun x hx=>by
  rcases hx with hx | hx
  ·obtain⟨c,hc⟩:=has x hx
   exact⟨c,keep x c hx hc⟩
  ·exact Option.isSome_iff_exists.mp (PySem.W.cellsFrom_some scope.names (C+1) (closL scope X.env) (.inl (ZB ok.nd hx)))
 refine⟨⟨I2.ok.mod,ok.kind,I2.ok.glob,I2.ok.blt,hC,inj,fun x hx=>hasC x (qz hx),fun x c hf e=> ?_,I2.ok.hd,I2.ok.frames,.inl rfl,fun b hb=>⟨?_,fun x c e=> ?_⟩,
  fun b o e=>I2.bs b o e,Nat.le_trans I2.ok.bsz I2.sz,fun b o e hb=> ?_,fun b hb z=>(List.mem_cons.mp (I2.stkSub b z)).elim (f2 b hb).2.1 (f2 b hb).2.2.1,I2.stack,I2.stkFree⟩,
  rfl,I2.bare,Un.kept old,⟨m,hns,fun i x v e1 e2 e3=> ?_⟩,fun x c e=> ?_,I2.hok.fresh hC,fun x c e=> ?_,fun p hp=>absurd (show p∈([]:List (Addr×Obj))from hp) (by simp),I2.hok.kept old,?_⟩
 ·have hf:=of_decide_eq_true hf
  rcases hcc x c e with q | q
  ·rcases Jq scope.names [] q with z | z
   ·simp at z
   ·have:=ZB ok.nd z
    rw [hf]at this
    cases this
  ·exact Nat.le_trans hC (Nat.le_trans (Nat.le_succ C) q.1)
 ·show b≠C
  exact Nat.ne_of_lt (Nat.lt_of_lt_of_le (fo b hb) hC)
 ·rcases hcc x c e with q | q
  ·exact(f2 b hb).2.2.2.2.1 x c (sub x c q)
  ·exact Ne.symm (Nat.ne_of_lt (Nat.lt_of_lt_of_le (fo b hb) (Nat.le_trans hC (Nat.le_trans (Nat.le_succ C) q.1))))
 ·rcases (f2 b hb).2.2.2.1 with z | z
  ·exact I2.ok.noex b o e z
  ·have h1:=Heap.lt_size e
   have h2:=I2.ok.bsz
   exact absurd (Nat.lt_of_lt_of_le h1 (Nat.le_trans h2 z)) (Nat.lt_irrefl _)
 ·have hik:k<=i:=by
   by_cases hik:i<k
   ·have e2:(List.replicate k none++cap.map fun(j:Nat)=>(σ[j]?).join)[i]? =some (some v):=e2
    rw [List.getElem?_append_left (by simpa using hik),List.getElem?_replicate,if_pos hik]at e2
    cases e2
   ·omega
  have e1':(N.drop k)[i-k]? =some x:=by
   rw [List.getElem?_drop,show k+(i-k)=i by omega];exact e1
  have e2':(cap.map fun(j:Nat)=>(σ[j]?).join)[i-k]? =some (some v):=by
   have e2:(List.replicate k none++cap.map fun(j:Nat)=>(σ[j]?).join)[i]? =some (some v):=e2
   rw [List.getElem?_append_right (by simpa using hik),List.length_replicate]at e2
   exact e2
  obtain⟨j,j1,j2,j3⟩:=ok.cap.get (σ:=σ) e1' e2'
  obtain⟨m2,hn,hl⟩:=I2.loc
  obtain⟨u,r,l⟩:=hl j x v j1 j2 (.inr (j3.elim (fun z=> .inl z) fun z=> .inr z))
  refine⟨u,r,.inr ?_⟩
  have hf:=ok.capf x (List.mem_of_getElem? e1')
  refine⟨Xc hf,?_⟩
  obtain⟨c,hc⟩:=has x (PySem.mem_of_lookup hf)
  refine⟨c,keep x c (PySem.mem_of_lookup hf) hc,?_⟩
  rcases l with⟨lk,_⟩ | ⟨_,c',hc',o,ho,hd⟩
  ·rcases j3 with z | z<;>(rw [lk]at z;cases z)
  ·have hcc:=sub x c hc
   rw [hc']at hcc
   cases hcc
   exact⟨o,old _ o ho,hd⟩
 ·rcases hcc x c e with q | q
  ·obtain⟨v,o,ho,hd⟩:=I2.cell x c (sub x c q)
   exact⟨v,o,old c o ho,hd⟩
  ·exact⟨none,q.2.2⟩
 ·rcases hcc x c e with q | q
  ·exact I2.freeC x c (sub x c q)
  ·exact I2.hok.fresh (Nat.le_trans hC (Nat.le_trans (Nat.le_succ C) q.1))
 ·show(List.replicate k none++cap.map fun(j:Nat)=>(σ[j]?).join).length=N.length
  have h1:=ok.cap.length
  have h2:=ok.le
  rw [List.length_append,List.length_replicate,List.length_map,h1,List.length_drop]
  omega
theorem xz (use:Option (Value->Sem Unit)) (hc:X.calm=true) (ok:CompOk X scope N k cap) (hi:PI X tg iter wi)
 (hg: ∀C fp s H,PG (cxComp X N scope C fp s H) tg (g C fp s H)) (ht: ∀C fp s H,PTs (cxComp X N scope C fp s H) ifs (tc C fp s H)) (he: ∀C fp s H,PE (cxComp X N scope C fp s H) elt (te C fp s H))
 (hs: ∀x,foldedSetIterable iter X.env x=pure x)
 {pins:List (Addr×Obj)}{s:Shared}{σ:St}{H:Hp}{Q:VK}{Q':Value->Shared->Prop}(I:Inv X pins σ H s) (h:tComp k cap wi g tc te σ H Q)
 (fin: ∀(D C:Addr) (oC:Obj) (m:Str->Option Value) (H4:Hp) (s4:Shared),Inv X (pins++ [(C,oC)]) σ H4 s4->FpOk X pins H4 C->Q (.ref D) H4->(∀ h:Heap,h.get? C=some oC->h.Ns C m) →
   compPost (model X.prog X.w) X.A X.xe use Q' (.ref D) C (.ok .next) s4):
 wpAny (model X.prog X.w) X.A (comprehension (.ListComp elt [⟨tg,iter,ifs,0⟩] scope pos) scope X.env p0 (newList []) false (eval iter X.env) use) Q' X.xe s:=by
 have hcl:closureFor scope X.env=pure (closL scope X.env):=jt fun y hy hf=>I.ok.has y.1 (ok.free y hy hf)
 refine wpAny_comprehension_free (use:=use) rfl hs hcl ok.kind ok.names (thn (hi pins s σ H _ I h) fun v s1 h1=>thn h1 fun itv s2 h2=> ?_)
 obtain⟨it,fp,tn,J,H2,e,I2,T,st2,f2,hW⟩:=h2
 subst e
 refine wpAny_newObj_type (qk ?_)
 dsimp only
 generalize hHp:s2.heap.push { cls:= .type "list",dict:=none,data:= .seq ([]:List Value).toArray }=HP
 have hCs:HP.objs.size=s2.heap.objs.size+1:=by rw [← hHp,Heap.size_push]
 generalize hDD:s2.heap.objs.size=D at hCs ⊢
 have hns0:(HP.push { cls:= .type "dict",data:= .dict #[] }).Ns HP.objs.size fun _=>none:=Heap.Ns.new HP (.type "dict")
 have hlk: ∀x c,(blkC scope HP.objs.size X.env).lookup x=some c->(closL scope X.env).lookup x=some c\/(HP.objs.size+1<=c/\(x,NameKind.cell)∈scope.names/\(pushCells (HP.push { cls:= .type "dict",data:= .dict #[] }) scope.names).IsCell c none):=fun x c e=>by
  refine XC scope.names (HP.push { cls:= .type "dict",data:= .dict #[] }) (closL scope X.env) True (fun _=> .inl trivial) (HP.objs.size+1) (by rw [Heap.size_push];exact Nat.le_refl _) ?_
  rw [Heap.size_push]
  exact e
 generalize hh1:pushCells (HP.push { cls:= .type "dict",data:= .dict #[] }) scope.names=h₁ at hlk ⊢
 have hns₁:h₁.Ns HP.objs.size fun _=>none:=by rw [← hh1];exact hns0.keeps (pushCells_keeps _ _)
 have hk1: ∀b o,HP.get? b=some o->h₁.get? b=some o:=fun b o e=>by
  rw [← hh1]
  exact pushCells_keeps _ _ b o (Heap.get?_push_of_some _ e)
 generalize hCC:HP.objs.size=C at hCs hns₁ hlk ⊢
 have hDC:D≠C:=by rw [hCs];exact Nat.ne_of_lt (Nat.lt_succ_self _)
 have hle:s2.heap.objs.size<=C:=by rw [hDD,hCs];exact Nat.le_succ _
 have hleD:s2.heap.objs.size<=D:=Nat.le_of_eq hDD
 have fo: ∀b∈fp,b<D:=fun b hb=>by
  obtain⟨o,eo,_⟩:=T.obj _ _ st2 b hb
  rw [← hDD]
  exact Heap.lt_size eo
 have old: ∀b o,s2.heap.get? b=some o->h₁.get? b=some o:=fun b o e=>by
  exact hk1 b o (hHp▸Heap.get?_push_of_some _ e)
 have hacc:h₁.get? D=some { cls:= .type "list",data:= .seq ([]:List Value).toArray }:=by
  refine hk1 _ _ ?_
  rw [← hHp,←hDD]
  exact Heap.get?_push_size _ rfl
 obtain⟨W,⟨m0,w0⟩,turn⟩:=hW C fp s2
 have I3:Inv (cxComp X N scope C fp s2 H2) [] (capSt k cap σ) H2 { s2 with heap:=h₁,toks:=s2.toks }:=
  qJ ok I2 f2 (fun b hb=>by rw [hDD];exact fo b hb) hle hns₁ old hlk
 have st3:tn 0 h₁:=T.keep _ _ _ st2 fun b _ o e=>old b o e
 have hch: ∀b∈fp,(b∈X.ex\/X.s₀.heap.objs.size<=b)/\b≠X.env.locals/\(∀ x c,X.env.cells.lookup x=some c->c≠b)/\ ∀p∈X.pn++pins,p.1≠b:=fun b hb=>⟨(f2 b hb).2.2.2.1,(f2 b hb).2.1,(f2 b hb).2.2.2.2.1,(f2 b hb).2.2.2.2.2⟩
 have FD: ∀ {H':Hp},H' D=none->FpOk X pins H' D:=fun hn=>I2.fpOk hleD hn
 have FC: ∀ {H':Hp},H' C=none->FpOk X pins H' C:=fun hn=>I2.fpOk hle hn
 have sub: ∀x c,(closL scope X.env).lookup x=some c->X.env.cells.lookup x=some c:=Qp scope.names [] fun x c e=>by simp at e
 have hDst:D∉frs X.stack:=fun z=>(List.mem_cons.mp (I2.stkSub D z)).elim (FD (H':=fun _=>none) rfl).2.1 (FD (H':=fun _=>none) rfl).2.2.1
 have hDc: ∀x c,(blkC scope C X.env).lookup x=some c->c≠D:=fun x c e=>by
  rcases hlk x c e with q | q
  ·exact(FD (H':=fun _=>none) rfl).2.2.2.2.1 x c (sub x c q)
  ·exact Ne.symm (Nat.ne_of_lt (Nat.lt_of_lt_of_le (by rw [hCs];exact Nat.lt_succ_of_lt (Nat.lt_succ_self _)) q.1))
 have loop: ∀s₃:Shared,s₃= { s2 with heap:=h₁,toks:=s2.toks } →
  codeAny (model X.prog X.w) X.A (.compLoop (.ListComp elt [⟨tg,iter,ifs,0⟩] scope pos) 0 (.ref it) (.ref D) (compEnvC scope (blkC scope C X.env) C X.env))
   (compPost (model X.prog X.w) X.A X.xe use Q' (.ref D) C) s₃:=by
  rintro s₃ rfl
  refine Zy (fun n s'=> ∃i ys its kk τ H',Inv (cxComp X N scope C fp s2 H2) [] τ H' s'/\tn i s'.heap/\(∀ b∈fp,H' b=none)/\H' D=none/\s'.heap.get? D=some { cls:= .type "list",data:= .seq (its:List Value).toArray kk }/\Vals ys its/\W i n ys τ H')
   ?_ m0 ⟨0,[],[],0,_,H2,I3,st3,fun b hb=>(f2 b hb).1,I2.hok.fresh hleD,hacc,.nil,w0⟩
  rintro n s3 ⟨i,ys,its,kk,τ,H3,I3,st3,fr3,hD3,eD3,rv3,w3⟩
  have IP:Inv (cxComp X N scope C fp s2 H2) [(D,{ cls:= .type "list",data:= .seq its.toArray kk })] τ H3 s3:=I3.pins_of fun p hp=>by
   have e:p=(D,{ cls:= .type "list",data:= .seq its.toArray kk }):=by simpa using hp
   subst e
   exact⟨eD3,hD3,hDC,hDst,fun v z=>by cases z⟩
  have fpok: ∀ {H':Hp},(∀ b∈fp,H' b=none)-> ∀b∈fp,FpOk (cxComp X N scope C fp s2 H2) [(D,{ cls:= .type "list",data:= .seq its.toArray kk })] H' b:=fun {H'} hn b hb=>by
   refine⟨hn b hb,I3.ok.exf b hb |>.1,I3.ok.exfs b hb,.inl hb,I3.ok.exf b hb |>.2,fun p hp=> ?_⟩
   have e:p=(D,{ cls:= .type "list",data:= .seq its.toArray kk }):=by
    have hp:p∈([]:List (Addr×Obj))++ [(D,{ cls:= .type "list",data:= .seq its.toArray kk })]:=hp
    simpa using hp
   rw [e]
   exact Ne.symm (Nat.ne_of_lt (fo b hb))
  rcases turn i n ys τ H3 w3 with⟨stop,hz,q⟩ | ⟨go,hz,NN,hN,step⟩
  ·refine thn (T.done (cxComp X N scope C fp s2 H2) rfl rfl rfl hc i _ s3 τ H3 _ IP (fpok fr3) st3 stop) fun r s4 ⟨hr,I4⟩=> ?_
   subst hr
   have eD4:=(I4.pin _ (List.mem_append_right _ List.mem_cons_self)).1
   have I5:Inv X pins σ H3 s4:=I2.call' (ch:=fp) I4.os I4.base I4.hok I4.bare hch
   have I6:=I5.adopt (FD hD3) (Nat.le_trans I2.sz hleD) eD4 rv3 hz
   obtain⟨m,⟨oC,es,ep,hoC,hdC,hr⟩,_⟩:=I4.loc
   have fC:FpOk X pins (upd H3 D (.lst ys)) C:=FC (by rw [ja (Ne.symm hDC)];exact I4.free)
   have I7:Inv X (pins++ [(C,oC)]) σ (upd H3 D (.lst ys)) s4:=I6.pins_of fun p hp=>(List.mem_append.mp hp).elim (fun z=>I6.pin p (List.mem_append_right _ z)) fun z=>by
    have e:p=(C,oC):=by simpa using z
    subst e
    exact⟨hoC,fC.1,fC.2.1,fC.2.2.1,fun v z=>by rw [hdC]at z;cases z⟩
   exact fin D C oC m _ s4 I7 fC (q D hD3) fun h e=>⟨oC,es,ep,e,hdC,hr⟩
  ·refine thn (T.item (cxComp X N scope C fp s2 H2) rfl rfl rfl hc i _ s3 τ H3 _ IP (fpok fr3) st3 go) fun r s4 ⟨u,hr,h4⟩=> ?_
   subst hr
   refine thn h4 fun _ s5 ⟨x,H5,I5,r5,y5,st5,fr5⟩=> ?_
   have I5':=I5.pinned (fpok fr5) (T.obj _ _ st5)
   refine wpAny_mono (hg C fp s2 H2 _ s5 τ H5 x u _ I5' r5 (step x H5 y5)) (fun _ s6 ⟨σ6,H6,I6,q6⟩=> ?_) fun _ _ z=>False.elim z
   refine wpAny_mono (ht C fp s2 H2 _ s6 σ6 H6 _ I6 q6) (fun b s7 ⟨H7,I7,q7⟩=> ?_) fun _ _ z=>False.elim z
   have hp5: ∀b∈fp,∃o,s5.heap.get? b=some o:=fun b hb=>let ⟨o,e,_⟩:=T.obj _ _ st5 b hb; ⟨o,e⟩
   cases b with
   | false=>
    rw [if_neg Bool.false_ne_true]at q7 ⊢
    obtain⟨m',hm,w7⟩:=hN _ _ _ q7
    refine⟨m',hm,i+1,ys,its,kk,σ6,H7,I7.pins_of fun p hp=>absurd hp (by simp),T.keep _ _ _ st5 fun b hb o e=>(I7.pin (b,o) (List.mem_append_right _ (List.mem_append_right _ (jd hb e)))).1,fun b hb=> ?_,?_,?_,rv3,w7⟩
    ·obtain⟨o,e⟩:=hp5 b hb
     exact(I7.pin (b,o) (List.mem_append_right _ (List.mem_append_right _ (jd hb e)))).2.1
    ·exact(I7.pin _ (List.mem_append_right _ (List.mem_append_left _ List.mem_cons_self))).2.1
    ·exact(I7.pin _ (List.mem_append_right _ (List.mem_append_left _ List.mem_cons_self))).1
   | true=>
    rw [if_pos rfl]at q7 ⊢
    refine wpAny_mono (he C fp s2 H2 _ s7 σ6 H7 _ I7 q7) (fun y s8 ⟨yv,H8,I8,r8,q8⟩=> ?_) fun _ _ z=>False.elim z
    have pD:=I8.pin _ (List.mem_append_right _ (List.mem_append_left _ List.mem_cons_self))
    have eD8:s8.heap.get? D=some { cls:= .type "list",data:= .seq its.toArray kk }:=pD.1
    have hD8:H8 D=none:=pD.2.1
    have hlen:=rv3.length
    refine call_meets F.slot_list_append ⟨_,eD8,rfl⟩ F.entry_list_append (F.args_list_append_2 _ _) (PySem.list_append D its.toArray kk y (by rw [List.size_toArray];omega)) ⟨eD8,?_⟩
    obtain⟨m',hm,w8⟩:=hN _ _ _ q8
    have IQ:Inv (cxComp X N scope C fp s2 H2) (pinsAt fp s5.heap) σ6 H8 s8:=I8.pins_of fun p hp=>I8.pin p (List.mem_append_right _ (List.mem_append_right _ hp))
    have e9:=PySem.IsL.update eD8 (·.push y)
    rw [show its.toArray.push y=(its++ [y]).toArray by simp]at e9
    have I9:Inv (cxComp X N scope C fp s2 H2) (pinsAt fp s5.heap) σ6 H8 { s8 with heap:=s8.heap.update D (Obj.mapSeq (·.push y)),toks:=s8.toks }:=
     IQ.turned (it:=D) (fun b o hb e=>(Heap.get?_update_other s8.heap (Obj.mapSeq (·.push y)) (Ne.symm hb)).trans e) hD8 hDC (.inr hleD) hDc fun p hp=>by
      have hp:p∈([]:List (Addr×Obj))++pinsAt fp s5.heap:=hp
      have:=fo p.1 (QA (by simpa using hp)).1
      exact Nat.ne_of_lt this
    refine⟨m',hm,i+1,ys++ [yv],its++ [y],_,σ6,H8,I9.pins_of fun p hp=>absurd hp (by simp),T.keep _ _ _ st5 fun b hb o e=>(I9.pin (b,o) (List.mem_append_right _ (jd hb e))).1,fun b hb=> ?_,hD8,e9,rv3.append (.cons r8 .nil),w8⟩
    obtain⟨o,e⟩:=hp5 b hb
    exact(I9.pin (b,o) (List.mem_append_right _ (jd hb e))).2.1
 exact codeAny_compStart_list (loop _ rfl) (T.self _ 0 _ _ _ st3 (loop _ rfl))
theorem zaj (ok:CompOk X scope N k cap) (hi:PI X tg iter wi)
 (hg: ∀C fp s H,PG (cxComp X N scope C fp s H) tg (g C fp s H)) (ht: ∀C fp s H,PTs (cxComp X N scope C fp s H) ifs (tc C fp s H)) (he: ∀C fp s H,PE (cxComp X N scope C fp s H) elt (te C fp s H))
 (hc:X.calm=true:=by rfl) (hs: ∀x,foldedSetIterable iter X.env x=pure x:=by intro _;rfl):PE X (.ListComp elt [⟨tg,iter,ifs,0⟩] scope pos) (tComp k cap wi g tc te):=by
 intro pins s σ H Q I h
 rw [eval_ListComp]
 refine xz none hc ok hi hg ht he hs I h fun D C oC m H4 s4 I4 fC q hns=> ?_
 have hp:=I4.pin (C,oC) (List.mem_append_right _ (List.mem_append_right _ List.mem_cons_self))
 refine⟨m,hns _ hp.1,fun h' hsb=>⟨.ref D,H4,?_,rfl,q⟩⟩
 exact(I4.unpinned).turned (t':=s4.toks) (fun b o hb e=>hsb.extBut b o hb e) fC.1 fC.2.1 fC.2.2.2.1 fC.2.2.2.2.1 fC.2.2.2.2.2
theorem xI {i:Nat}{x:Str}{pos':Pos}(hN:X.N.Nodup) (hi':X.N[i]? =some x) (hx:Loc X.env.scope x) (ok:CompOk X scope N k cap) (hi:PI X tg iter wi)
 (hg: ∀C fp s H,PG (cxComp X N scope C fp s H) tg (g C fp s H)) (ht: ∀C fp s H,PTs (cxComp X N scope C fp s H) ifs (tc C fp s H)) (he: ∀C fp s H,PE (cxComp X N scope C fp s H) elt (te C fp s H))
 (hsw:swapsWith (.ListComp elt [⟨tg,iter,ifs,0⟩] scope p0) (some (.Name x pos')) pos.line X.env=pure true:=by rfl)
 (hc:X.calm=true:=by rfl) (hs: ∀x,foldedSetIterable iter X.env x=pure x:=by intro _;rfl) (hf:X.fn x=true\/X.env.scope.names.lookup x=some .local:=by first | exact .inl rfl | exact .inr rfl | assumption):
 PS X (.Assign [.Name x pos'] (.ListComp elt [⟨tg,iter,ifs,0⟩] scope p0) pos) (tAsg (tComp k cap wi g tc te) (gName i)):=by
 intro pins s σ H D I h
 rw [exec_Assign_Name_used _ _ _ _ hsw]
 refine wpAny_bind (wpAny_standAt (wpAny_bind ?_))
 show wpAny _ X.A (do let _ ←comprehension (.ListComp elt [⟨tg,iter,ifs,0⟩] scope p0) scope X.env _ (newList []) false (eval iter X.env) (some (assign (.Name x pos') X.env))) _ _ s
 refine wpAny_bind (wpAny_mono (xz (Q':=fun _ s'=>SP X pins D .next s') (some (assign (.Name x pos') X.env)) hc ok hi hg ht he hs I h fun D' C oC m H4 s4 I4 fC q hns=> ?_) (fun _ s' hq=>wpAny_pure (wpAny_pure hq)) fun _ _ e=>e)
 show wpAny _ X.A (assign (.Name x pos') X.env (.ref D')) _ _ _
 refine wpAny_assign_Name (qu I4 hN hi' hx (v:= .ref D') rfl (fun s5 I5=> ?_) hf)
 have hp:=I5.pin (C,oC) (List.mem_append_right _ (List.mem_append_right _ List.mem_cons_self))
 refine⟨m,hns _ hp.1,fun h' hsb=>⟨_,H4,?_,q⟩⟩
 exact(I5.unpinned).turned (t':=s5.toks) (fun b o hb e=>hsb.extBut b o hb e) fC.1 fC.2.1 fC.2.2.2.1 fC.2.2.2.2.1 fC.2.2.2.2.2
end
end L2
namespace L2
open PySem PySem.Spec PyProof.Rows
def Itv (K:PySem.W.Frag) (a:Addr) (n:Nat):It:=
 ⟨fun i H=> ∃xs,SqL K H a xs/\xs.length=n/\i<n,fun i H x H'=>H'=H/\ ∀xs,SqL K H a xs->xs[n-1-i]? =some x,fun i _=>i=n⟩
theorem jW {P:Program}{w:World}{K:PySem.W.Frag}{tg:Expr}(a it:Addr) (n:Nat):Turn P w K tg (Itv K a n) [it] it (fun i h=>h.IsRevIter it a ((n:Int)-1-((i:Nat):Int))) where
 mem:=by simp
 obj:=fun i h st b hb=>by
  have e:b=it:=by simpa using hb
  subst e
  obtain⟨o,e,c,d⟩:=st
  exact⟨o,e,fun v z=>by rw [d]at z;cases z⟩
 keep:=fun i h h' st k=>st.at fun o e=>k it (by simp) o e
 item:=by
  intro X hP hw hK hc i pins s σ H E I hf st hg
  subst hP hw hK
  obtain⟨xs,hq,hl,hi⟩:=hg
  obtain⟨its,rv,p,hz⟩:=I.list hq
  have hx:xs[n-1-i]? =some (xs[n-1-i]'(by omega)):=List.getElem?_eq_getElem (by omega)
  obtain⟨u,hu,ru⟩:=rv.get hx
  obtain⟨f0,f1,f2,f3,f4,f5⟩:=hf it (by simp)
  have e:(n:Int)-1-((i:Nat):Int)=((n-1-i:Nat):Int):=by omega
  have st:s.heap.IsRevIter it a ((n:Int)-1-((i:Nat):Int)):=st
  rw [e]at st
  refine wpAny_pyNext_rev_item st p.isList (x:=u) (by simpa using hu) fun h' st' sb=> ?_
  have I1:Inv X pins σ H { s with heap:=h' }:=I.turned (t':=s.toks) (fun b o hb e=>(sb.2 b hb).trans e) f0 f1 f3 f4 f5
  have e2:((n-1-i:Nat):Int)-1=(n:Int)-1-((i+1:Nat):Int):=by omega
  rw [e2]at st'
  obtain⟨o,e,c,d⟩:=id st'
  exact⟨u,rfl,zI (s:= { s with heap:=h' }) e c d (by decide) ⟨_,H,I1,ru,⟨rfl,fun ys hy=>by rw [I.list_inj hy hq];exact hx⟩,st',fun b hb=>(hf b hb).1⟩⟩
 done:=by
  intro X hP hw hK hc i pins s σ H E I hf st hg
  subst hP hw hK
  have hg:i=n:=hg
  subst hg
  obtain⟨f0,f1,f2,f3,f4,f5⟩:=hf it (by simp)
  have e:(i:Int)-1-((i:Nat):Int)= -1:=by omega
  have st:s.heap.IsRevIter it a ((i:Int)-1-((i:Nat):Int)):=st
  rw [e]at st
  exact wpAny_pyNext_rev_end (I.ok.hd hc) st fun h' eb=>⟨rfl,I.turned (t':=s.toks) (fun b o hb e=>eb b o hb e) f0 f1 f3 f4 f5⟩
 self:=fun _ _ _ _ _ st h=>wpAny_pyIter_revIter st h
section
variable {X:Cx}{tg:Expr}
def iRev (K:PySem.W.Frag) (ta:TA):TI:=fun σ H R=>ta σ H fun vs H1=> ∃a xs,vs= [.ref a]/\SqL K H1 a xs/\R (Itv K a xs.length) H1
theorem ZL {a:Expr}{ta:TA}{p pos:Pos}(hg:Gl X "reversed") (hm:X.mg "reversed" =none) (ha:PA X [a] ta) (hs:starEach [a] X.env= [(false,eval a X.env)]:=by rfl):PI X tg (.Call (.Name "reversed" p) [a] [] pos) (iRev X.K ta):=by
 intro pins s σ H R I h
 refine Call_ (Qk I hg hm boot_reversed (PyProof.Rows.callWith_type1 (thn (ha pos pins s σ H _ I h) fun us s1 ⟨vs,H1,I1,r1,q1⟩=> ?_) hs rfl))
 obtain⟨b,xs,e,hq,q⟩:=q1
 subst e
 cases r1 with
 | cons r rr=>
  cases rr
  cases r
  obtain⟨its,rv,pl,hz⟩:=I1.list hq
  refine call_reversed_list pl.isList ?_
  have hlen:its.toArray.size=xs.length:=by rw [List.size_toArray];exact rv.length.symm
  rw [hlen]
  have hr:(s1.heap.push (revObj b ((xs.length:Int)-1))).IsRevIter s1.heap.objs.size b ((xs.length:Int)-1-((0:Nat):Int)):=by
   refine⟨_,Heap.get?_push_size _ rfl,rfl,?_⟩
   rw [show (xs.length:Int)-1-((0:Nat):Int)=(xs.length:Int)-1 by omega]<;>rfl
  refine wpAny_pyIter_revIter hr ?_
  refine⟨s1.heap.objs.size,[s1.heap.objs.size],_,_,H1,rfl,I1.kept (t':=s1.toks) fun b o e=>Heap.get?_push_of_some _ e,jW b _ xs.length,hr,fun c hb=> ?_,q⟩
  have e:c=s1.heap.objs.size:=by simpa using hb
  subst e
  exact I1.fpOk (Nat.le_refl _) (I1.hok.fresh (Nat.le_refl _))
end
def rIsB (K:PySem.W.Frag):List V->Hp->VK->Prop:=fun xs H Q=> ∃x T t b,xs= [x,.ty T]/\TyOf K H x t/\PySem.W.kitOne K t (.type T)=some b/\Q (.bl b) H
structure Has (P:Program) (w:World) (K:PySem.W.Frag) (mg:Str->Option Value) (base:Heap) (k:Nat) (x:Str) (ps:List Str) (sp:Sp):Prop where
 ex: ∃f fd,FnOk P w K mg base CX0 k f fd ps sp/\Binds K fd ps []/\PySem.W.keepIn K (.ref f)=true/\mg x=some (.ref f)
end L2
namespace L2
open PySem PySem.Spec PyProof.Rows
def rNeNil (K:PySem.W.Frag):R2:=fun x y H Q=> ∃p q xs,x= .ref p/\y= .ref q/\SqL K H p xs/\SqL K H q []/\Q (.bl (!xs.isEmpty)) H
end L2
namespace L2
open PySem PySem.Spec PySem.Calls PySem.W PyProof.Rows
structure ExcK (K:Frag) (C:Addr):Prop where
 ga:findIn K (.ref C) "__getattribute__" =some (some (.builtin "BaseException.__getattribute__"))
 gn:findIn K (.ref C) "__getattr__" =some none
 cl:findIn K (.ref C) "__class__" =some (some (.builtin "object.__class__"))
 get:specialIn K (.builtin "object.__class__") "__get__" =some (some (.builtin "getset_descriptor.__get__"))
 set:takesIn K (.builtin "object.__class__")=some true
 obj:mroIn K C (.type "object")=some true
 bas:mroIn K C (.type "BaseException")=some true
 slf:kitCls K (.ref C) (.ref C)=some true
 cls:(clsIn K C).isSome=true
def ExcAt (h:Heap) (x C:Addr):Prop:= ∃o,h.get? x=some o/\o.cls= .ref C
section
variable {prog:Program}{w:World}{A:Around}{E:Value->Shared->Prop}{s:Shared}{K:Frag}{x C:Addr}
end
def excO (x C:Addr):HO:= .ext fun h=>ExcAt h x C
def rIsX (K:Frag):List V->Hp->VK->Prop:=fun xs H Q=> ∃x C b,ExcK K C/\H x=some (excO x C) ∧
 ((∃ (D:Addr),xs= [.ref x,.ref D]/\kitOne K (.ref C) (.ref D)=some b)\/(∃ (T:String),xs= [.ref x,.ty T]/\kitOne K (.ref C) (.type T)=some b) ∨
   ∃(t:Addr) (ds:List Addr),xs= [.ref x,.ref t]/\H t=some (.tup (ds.map V.ref))/\kitAny K (.ref C) (ds.map Value.ref)=some b)/\Q (.bl b) H
end L2
namespace L2
open PySem PySem.Spec PySem.Calls PySem.W PyProof.Rows
theorem ObjOk.there {P:Program}{w:World}{H:Hp}{h:Heap}{a:Addr}{o:HO}(x:ObjOk P w H h a o): ∃u,h.get? a=some u:=by
 cases o with
 | lst xs=>exact⟨_,x.2.choose_spec.choose_spec.2⟩
 | tup xs=>obtain⟨_,_,_,u,e,_⟩:=x;exact⟨u,e⟩
 | dK kvs=>obtain⟨_,_,_,_,u,_,_,e,_⟩:=x;exact⟨u,e⟩
 | dT kvs=>obtain⟨_,_,_,_,u,_,_,e,_⟩:=x;exact⟨u,e⟩
 | set S n=>obtain⟨u,_,_,_,e,_⟩:=x;exact⟨u,e⟩
 | ins C dx fs=>obtain⟨_,_,_,e,_⟩:=x;exact⟨_,e⟩
 | own y=>exact x
 | xd fs=>obtain⟨_,⟨u,_,_,e,_⟩,_⟩:=x;exact⟨u,e⟩
 | rng lo hi=>obtain⟨_,_,_,e⟩:=x;exact⟨_,e⟩
 | frz ob u=>exact⟨_,x.1⟩
 | tbl ps=>exact⟨_,show h.get? a=some _ from x⟩
 | met f y=>exact⟨_,show h.get? a=some _ from x⟩
 | ext φ=>exact x.2.1
def CX1 (P:Program) (w:World):CXT:=fun outer H s E e s'=> ∃(x C t:Addr) (B:Heap) (H':Hp),e= .ref x/\s'.os=s.os/\AllBare s'.gens ∧
 Heap.FlyingW B outer x (.ref C) (.ref t) s'.heap/\Un (frs outer) [] H H' s.heap s'.heap/\HOk P w H' s'.heap ∧
 (∀ b o,s'.heap.get? b=some o->((∃ u,H' b=some u)\/ ∃u,s.heap.get? b=some u)->b∉frs outer->B.get? b=some o)/\s.heap.get? x=none/\E (.ref C) none H'
section
variable {P:Program}{w:World}{K:Frag}{mg:Str->Option Value}{base:Heap}{N:List Str}{qual:Str}{scope:Scope}{f:Addr}{cd:Value}{A:Around}{outer:List Env}{s:Shared}{H:Hp}{E:XK}
theorem WD {pins:List (Addr×Obj)}{σ:St}{H1:Hp}{s2:Shared}{h':Heap}{e C:Addr}{vs:List Value}(I:Inv (cxOf (CX1 P w) P w K mg base N qual scope f cd A outer s H E) pins σ H1 s2)
 (hx:Heap.MadeExcOf s2.heap h' e (.ref C) vs) (q:E (.ref C) none H1):(cxOf (CX1 P w) P w K mg base N qual scope f cd A outer s H E).xe (.ref e) { s2 with heap:=h' }:=by
 have ff:s2.heap.FunFrames base (envOfC qual scope s.heap.objs.size f cd::outer):=I.stack
 have fb:=funFrames_hide (as:=frs (envOfC qual scope s.heap.objs.size f cd::outer)) ff fun env he a ha=>List.mem_filterMap.mpr ⟨env,he,ha⟩
 have free: ∀b∈frs (envOfC qual scope s.heap.objs.size f cd::outer),H1 b=none:=I.stkFree
 refine wpAny_leaves_madeW (L:=s.heap.objs.size) I.ok.frames rfl (fun b o z=>of_hideAll _ z) fb hx fun h2 t x1 x2 x3 x4=> ?_
 have inB: ∀b o,s2.heap.get? b=some o->b∉frs (envOfC qual scope s.heap.objs.size f cd::outer)->(hideAll s2.heap (frs (envOfC qual scope s.heap.objs.size f cd::outer))).get? b=some o:=fun b o z n=>hideAll_get _ z n
 have toH: ∀b o,s2.heap.get? b=some o->b∉frs (envOfC qual scope s.heap.objs.size f cd::outer)->h2.get? b=some o:=fun b o z n=>x1.1 b o (inB b o z n)
 have slotH: ∀b o,b∈frs (envOfC qual scope s.heap.objs.size f cd::outer)->s2.heap.get? b=some o-> ∃sl,h2.get? b=some { o with slots:=sl }:=fun b o hb z=>by
  obtain⟨_,o',z',nf⟩:=ff.mem hb
  rw [z]at z'
  cases z'
  exact x4 b o (hx.keeps b o z) nf
 have cut: ∀b,b∉frs outer->b≠s.heap.objs.size->b∉frs (envOfC qual scope s.heap.objs.size f cd::outer):=fun b n1 n2 hb=>by
  rcases List.mem_cons.mp (show b∈s.heap.objs.size::frs outer from hb)with z | z
  ·exact n2 z
  ·exact n1 z
 have old: ∀b o,s.heap.get? b=some o->b≠s.heap.objs.size:=fun b o z=>Nat.ne_of_lt (Heap.lt_size z)
 have trk: ∀b u,H1 b=some u->b∉frs (envOfC qual scope s.heap.objs.size f cd::outer):=fun b u z hb=>by rw [free b hb]at z;cases z
 refine⟨e,C,t,_,H1,rfl,I.os,I.bare,x1,⟨fun b o z n hb hx=> ?_,fun b o z n hb hx=> ?_,I.base.free,fun b o z hx=> ?_,I.base.tups,I.base.frzs,I.base.tbls⟩,fun b u z=> ?_,fun b o z hc hb=> ?_,?_,q⟩
 ·exact toH b o (I.base.keep b o z n hb hx) (cut b hb (old b o z))
 ·obtain⟨sl,z1⟩:=I.base.slot b o z n hb hx
  obtain⟨sl2,z2⟩:=slotH b _ (List.mem_cons_of_mem _ hb) z1
  exact⟨sl2,z2⟩
 ·obtain⟨o',z1⟩:=I.base.there b o z hx
  by_cases hb:b∈frs (envOfC qual scope s.heap.objs.size f cd::outer)
  ·obtain⟨sl,z2⟩:=slotH b o' hb z1
   exact⟨_,z2⟩
  ·exact⟨o',toH b o' z1 hb⟩
 ·refine(I.hok b u z).stay (fun c v hc z1=>toH c v z1 ?_) (fun _ z1=>z1) fun _ _ z1=>z1
  rcases hc with rfl | hc
  ·exact trk c u z
  ·exact trk c _ hc
 ·have two: ∃o2,s2.heap.get? b=some o2/\b∉frs (envOfC qual scope s.heap.objs.size f cd::outer):=by
   rcases hc with⟨u,hu⟩ | ⟨u,hu⟩
   ·obtain⟨o2,z2⟩:=(I.hok b u hu).there
    exact⟨o2,z2,trk b u hu⟩
   ·obtain⟨o2,z2⟩:=I.base.there b u hu (by show b∉([]:List Addr);simp)
    exact⟨o2,z2,cut b hb (old b u hu)⟩
  obtain⟨o2,z2,nb⟩:=two
  have z3:=toH b o2 z2 nb
  rw [show h2.get? b=some o from z]at z3
  cases z3
  exact inB b _ z2 nb
 ·cases z:s.heap.get? e with
  | none=>rfl
  | some u=>
   obtain⟨o2,z2⟩:=I.base.there e u z (by show e∉([]:List Addr);simp)
   rw [hx.new]at z2
   cases z2
end
theorem JX {K:Frag}{h:Heap}{C:Addr}{bmB:List Value}{newId:String}(X:K.In h) (q:excIn K C bmB newId=true):
 ∃bm Na nm qn bs hd sn sub ab col dd k0 k1 k2 k3 k5 mN,h.get? C=some (excClassObj nm qn C Na bs bm hd sn sub ab col dd k0 k1 k2 k3 k5 newId)/\h.Ns Na mN/\mN "__init__" =none/\OwnTail h bmB bm:=by
 unfold excIn at q
 split at q
 next dd cd sl hl=>
  split at q
  next C2 tl k0 k1 k2 k3 nn k5 em es=>
   simp only [Bool.and_eq_true,beq_iff_eq,Bool.not_eq_true']at q
   obtain⟨⟨⟨⟨⟨rfl,rfl⟩,e1⟩,e2⟩,e3⟩,e4⟩:=q
   obtain⟨nm,bs,mro,nsA,qn,hd,sn,sub,ab,col,del⟩:=cd
   dsimp only at em e1 e3 e4
   subst em e1
   have es2:sl= #[k0,k1,k2,k3,some (.builtin nn),k5]:=by
    cases sl with
    | mk l=>exact congrArg Array.mk es
   subst es2
   exact⟨tl,nsA,nm,qn,bs,hd,sn,sub,ab,col,dd,k0,k1,k2,k3,k5,_,X _ _ hl,.of_isNs (isNs_of_in X e3),nsMap_none_of_in X e3 e4,tail_of_in X e2⟩
  next=>cases q
 next=>cases q
section
variable {P:Program}{w:World}{K:Frag}{mg:Str->Option Value}{base:Heap}{N:List Str}{qual:Str}{scope:Scope}{f:Addr}{cd:Value}{A:Around}{outer:List Env}{s:Shared}{H:Hp}{E:XK}
abbrev veTail:List Value:= [.type "ValueError",.type "Exception",.type "BaseException",.type "object"]
def tRaise (C:Addr) (E:XK) (t:TA):TS:=fun _ σ H=>t σ H fun vs H1=>vs.length<=sizeLine/\E (.ref C) none H1
theorem Q3 {x:Str}{np cpos pos:Pos}{e:Expr}{es:List Expr}{t:TA}{C:Addr}(hq:excIn K C veTail "ValueError.__new__" =true) (hm:mg x=some (.ref C)) (hg:Gl (cxOf (CX1 P w) P w K mg base N qual scope f cd A outer s H E) x)
 (ha:PA (cxOf (CX1 P w) P w K mg base N qual scope f cd A outer s H E) (e::es) t)
 (he:starEach (e::es) (envOfC qual scope s.heap.objs.size f cd)=(false,eval e (envOfC qual scope s.heap.objs.size f cd))::starEach es (envOfC qual scope s.heap.objs.size f cd):=by rfl)
 (hpl:(backTo cpos (starEach es (envOfC qual scope s.heap.objs.size f cd))).any (·.1)=false:=by rfl) (hd:(x==("__debug__" :Str))=false:=by decide):
 PS (cxOf (CX1 P w) P w K mg base N qual scope f cd A outer s H E) (.Raise (some (.Call (.Name x np) (e::es) [] cpos)) none pos) (tRaise C E t):=by
 intro pins s1 σ H1 D I h
 obtain⟨bm,Na,nm,qn,bs,hdc,sn,sub,ab,col,dd,k0,k1,k2,k3,k5,mN,hC,hN,hni,T⟩:=JX I.mod.kin hq
 refine wpAny_Raise_call_subT (C:=C) (nm:=nm) (q:=qn) (N:=Na) (bs:=bs) (bm:=bm) (hdct:=hdc) (sn:=sn) (sub:=sub) (ab:=ab) (col:=col) (dd:=dd) (k0:=k0) (k1:=k1) (k2:=k2) (k3:=k3) (k5:=k5)
  PySem.F.excBase_ValueError (mN:=mN) (T.hasType PySem.F.excBase_ValueError.hasBase) (I.ok.hd rfl) ?_ hni (Jt I hg hm ⟨rfl,?_⟩ hd)
 ·show(backTo cpos (starEach (e::es) (envOfC qual scope s.heap.objs.size f cd))).any (·.1)=false
  rw [he]
  show(false||(backTo cpos (starEach es (envOfC qual scope s.heap.objs.size f cd))).any (·.1))=false
  rw [hpl]
  rfl
 ·have hA:=ha cpos pins s1 σ H1 _ I h
  show wpAny (model P w) _ (evalArgs (.ref C) true (backTo cpos (starEach (e::es) (envOfC qual scope s.heap.objs.size f cd))) []) _ _ s1
  have hA':wpAny (model P w) (A.deeper (envOfC qual scope s.heap.objs.size f cd)) (spliced (backTo cpos (starEach (e::es) (envOfC qual scope s.heap.objs.size f cd)))) _ _ s1:=hA
  rw [he]at hA' ⊢
  exact Calls.evalArgs_plain (thn hA' fun us s2 ⟨vs,H2,I2,r2,z,q2⟩=>⟨rfl,by show us.length<=sizeLine;rw [← r2.length];exact z,I2.bk _ _ hC,hN.keeps I2.bk,T.keeps I2.bk,fun h' a hm'=>WD I2 hm' q2⟩)
theorem Fun.okX {P:Program}{w:World}{K:Frag}{mg:Str->Option Value}{base:Heap}{x qual:Str}{st:Stmt}{f:Addr}{fd:FuncData}{N ps:List Str}{k:Nat}{sp:Sp}(F:Fun K x qual st f fd) (S:FnScope N ps (defScope st)) (len: ∀vs H Q E,sp vs H Q E->vs.length=ps.length)
 (hbody: ∀(cdv:Value) (A:Around) (outer:List Env) (s:Shared) (H:Hp) (vs:List V) (Q:VK) (E:XK),Room k (A.deeper (envOfC qual (defScope st) s.heap.objs.size f cdv))->sp vs H Q E →
   ∃t,PSs (cxOf (CX1 P w) P w K mg base N qual (defScope st) f cdv A outer s H E) (defBody st) t/\t { nx:=fun _ H'=>Q .non H',rt:=Q } (start N vs) H):FnOk P w K mg base (CX1 P w) (k+1) f fd ps sp:=by
 obtain⟨oc,od,kV,doc,pm,an,cdv,ct,osl,rfl,lk,hcd⟩:=F.ex
 exact jaN lk hcd S len fun A outer s H vs Q E hr hsp=>hbody cdv A outer s H vs Q E hr hsp
theorem zaQ:PassesOwn (model P w) (A.deeper (envOfC qual scope s.heap.objs.size f cd)) (envOfC qual scope s.heap.objs.size f cd) (cxOf (CX1 P w) P w K mg base N qual scope f cd A outer s H E).xe:=
 PassesOwn.leaving (M:=model P w) (A:=A.deeper (envOfC qual scope s.heap.objs.size f cd)) (env:=envOfC qual scope s.heap.objs.size f cd) (Q₁:=fun e s''=>CX1 P w outer H s E e s'') (E₁:=fun e' s''=>CX1 P w outer H s E e' s'')
end
end L2
namespace L2
open PySem PySem.Spec PySem.Calls PySem.W PyProof.Rows
section
variable {X:Cx}{pins:List (Addr×Obj)}{σ:St}{H:Hp}{s:Shared}
end
theorem zag {X:Cx}{pins:List (Addr×Obj)}{σ:St}{H1 H':Hp}{s1 s':Shared}{B h6:Heap}{x C t:Addr}(I1:Inv X pins σ H1 s1) (os:s'.os=s1.os) (bare:AllBare s'.gens) (un:Un (frs X.stack) [] H1 H' s1.heap s'.heap) (hok:HOk X.prog X.w H' s'.heap)
 (comp: ∀b o,s'.heap.get? b=some o->((∃ u,H' b=some u)\/ ∃u,s1.heap.get? b=some u)->b∉frs X.stack->B.get? b=some o) (fl:Heap.FlyingW B X.stack x (.ref C) (.ref t) h6) (sm:s'.heap.UpToSlots h6):Inv X pins σ H' { s' with heap:=h6 }:=by
 have trk: ∀c u,H' c=some u->c∉frs X.stack:=fun c u z hc=>by
  obtain⟨_,o,e,_⟩:=I1.stack.mem hc
  have:=un.free c o e (I1.stkFree c hc) (by simp)
  rw [this]at z
  cases z
 refine I1.call' (s':= { s' with heap:=h6 }) (ch:= []) os ⟨fun b o e n hb hx=> ?_,fun b o e n hb hx=> ?_,un.free,fun b o e hx=> ?_,un.tups,un.frzs,un.tbls⟩ (fun b u e=> ?_) bare fun b hb=>absurd hb (by simp)
 ·exact fl.1 b o (comp b o (un.keep b o e n hb hx) (.inr ⟨o,e⟩) hb)
 ·obtain⟨sl,e1⟩:=un.slot b o e n hb hx
  obtain⟨_,o',e2,nf⟩:=I1.stack.mem hb
  rw [e]at e2
  cases e2
  obtain⟨sl2,e3⟩:=sm b _ e1 nf
  exact⟨sl2,e3⟩
 ·obtain⟨o',e1⟩:=un.there b o e hx
  by_cases hb:b∈frs X.stack
  ·obtain⟨_,o2,e2,_⟩:=fl.2.2.1.mem hb
   exact⟨o2,e2⟩
  ·exact⟨o',fl.1 b o' (comp b o' e1 (.inr ⟨o,e⟩) hb)⟩
 ·refine(hok b u e).stay (fun c v hc z=> ?_) (fun _ z=>z) fun _ _ z=>z
  rcases hc with rfl | hc
  ·exact fl.1 c v (comp c v z (.inl ⟨u,e⟩) (trk c u e))
  ·exact fl.1 c v (comp c v z (.inl ⟨_,hc⟩) (trk c _ hc))
def tTry (K:Frag) (W:Addr) (sp:Sp) (t:TA) (ie iv:Nat):TS:=fun D σ H=>t σ H fun vs H1=>sp vs H1 (fun _ H2=>D.nx σ H2) fun cls _ H2=> ∃C,cls= .ref C/\ExcK K C/\kitCls K (.ref C) (.ref W)=some true ∧
 ∀x,H2 x=none->D.nx (((σ.set ie (some (.ref x))).set iv (some (.ref x))).set ie none) (upd H2 x (excO x C))
end L2
namespace L2
open PySem PySem.Spec PySem.Calls PySem.W PyProof.Rows
def tRevSl (K:PySem.W.Frag) (te tk:TE):TE:=fun σ H Q=>te σ H fun x H1=>tk σ H1 fun y H2=>y= .int (-1)/\ ∃a xs,x= .ref a/\SqL K H2 a xs/\ ∀p,H2 p=none->Q (.ref p) (upd H2 p (.lst xs.reverse))
theorem ZF: ∀ {xs:List V}{us:List Value},Vals xs us->Vals xs.reverse us.reverse
 | _,_,.nil=> .nil
 | _::_,_::_,.cons r t=>by
  rw [List.reverse_cons,List.reverse_cons]
  exact(ZF t).append (.cons r .nil)
theorem QY {X:Cx}{e st:Expr}{te tk:TE}{pos p2:Pos}(he:PE X e te) (hk:PE X st tk) (hs: ∀l a,subscripted (.Slice none none (some st) p2) false l a=operate [l,a] (getItem l a):=by intro l a;with_unfolding_all rfl):PE X (.Subscript e (.Slice none none (some st) p2) pos) (tRevSl X.K te tk):=by
 intro pins s σ H Q I h
 refine Subscript_ (thn (he pins s σ H _ I h) fun v s1 ⟨x,H1,I1,r1,q1⟩=> ?_)
 refine wpAny_Slice ?_
 rw [evalPart_none]
 refine wpAny_pure (wpAny_pure ?_)
 rw [evalPart_some]
 refine thn (hk pins s1 σ H1 _ I1 q1) fun vk s3 ⟨y,H3,I3,r3,q3⟩=> ?_
 obtain⟨rfl,a,xs,rfl,hx,q⟩:=q3
 obtain⟨tk',rfl⟩:=r3
 cases r1
 have I4:Inv X pins σ H3 { s3 with heap:=s3.heap.push { cls:= .type "slice",data:= .fields #[.none,.none,.int (-1) tk'] } }:=I3.kept (t':=s3.toks) fun b ob q=>Heap.get?_push_of_some _ q
 obtain⟨its,r,ht,hz⟩:=I4.list hx
 have hlen:=r.length
 show wpAny (model X.prog X.w) X.A (subscriptTail e (.Slice none none (some st) p2) (.ref a) (.ref s3.heap.objs.size)) (EP X pins σ Q) X.xe { s3 with heap:=s3.heap.push { cls:= .type "slice",data:= .fields #[.none,.none,.int (-1) tk'] } }
 refine tail_any (ops:= [.ref a,.ref s3.heap.objs.size]) ht.isList.typeIs slot_list_getitem.lookup ?_ (hs _ _)
 refine wpAny_getItem_list_slice ht.isList (Heap.IsSliceOf.new ..) .none .none (.int (-1) tk') (by decide) ?_ (by rw [List.size_toArray]<;>omega)
 rw [krv_pick]
 refine⟨.ref _,_,I4.laid (t':=s3.toks) (o:= .lst xs.reverse) (fun b ob q=>Heap.get?_push_of_some _ q) (Nat.le_refl _) ?_,rfl,q _ (I4.hok.fresh (Nat.le_refl _))⟩
 exact⟨by rw [List.length_reverse];exact hz,_,0,ZF r,Heap.get?_push_size _ rfl⟩
def rNeT (K:PySem.W.Frag):R2:=fun x y H Q=> ∃a b xs,x= .ref a/\y= .ref b/\SqT K H a xs/\SqT K H b xs/\xs.all flatV=true/\Q (.bl false) H
def rSameL (K:PySem.W.Frag) (c:Bool):R2:=fun x y H Q=> ∃(a b:Addr) (ds:List Addr),x= .ref a/\y= .ref b/\SqL K H a (ds.map V.ref)/\SqL K H b (ds.map V.ref)/\Q (.bl c) H
theorem FnOk.calm {P:Program}{w:World}{K:Frag}{mg:Str->Option Value}{base:Heap}{k:Nat}{f:Addr}{fd:FuncData}{ps:List Str}{sp sp0:Sp}(F:FnOk P w K mg base (CX1 P w) k f fd ps sp)
 (h: ∀vs H Q E,sp0 vs H Q E->sp vs H Q (fun _ _ _=>False)):FnOk P w K mg base CX0 k f fd ps sp0:=by
 refine⟨fun vs H Q E q=>F.len vs H Q _ (h _ _ _ _ q),fun A outer s H args us vs Q E hr he hb hv hs=>codeAny_mono (F.run A outer s H args us vs Q _ hr he hb hv (h _ _ _ _ hs)) fun res s' hq=> ?_⟩
 cases res with
 | ok fl=>
  cases fl with
  | ret u=>exact hq
  | next=>exact hq
  | brk=>exact hq
  | cont=>exact hq
 | error ev=>
  obtain⟨x,C,t,B,H',_,_,_,_,_,_,_,_,hE⟩:=hq
  exact hE
end L2
namespace L2
open PySem PySem.Spec PyProof.Rows
def Its (x:Str):It:=⟨fun i _=> ∃c,x.cps[i]? =some c,fun i H y H'=>H'=H/\ ∃c,x.cps[i]? =some c/\y= .str ⟨#[c]⟩,fun i _=>x.cps[i]? =none⟩
theorem qI {P:Program}{w:World}{K:PySem.W.Frag}{tg:Expr}(it:Addr) (x:Str) (t:Tok):Turn P w K tg (Its x) [it] it (fun i h=>h.IsStrIter it "str_ascii_iterator" x t i) where
 mem:=by simp
 obj:=fun i h st b hb=>by
  have e:b=it:=by simpa using hb
  subst e
  obtain⟨o,e,c,d⟩:=st
  exact⟨o,e,fun v z=>by rw [d]at z;cases z⟩
 keep:=fun i h h' st k=>by
  obtain⟨o,e,c,d⟩:=st
  exact⟨o,k it (by simp) o e,c,d⟩
 item:=by
  intro X hP hw hK hc i pins s σ H E I hf st hg
  subst hP hw hK
  obtain⟨c,hx⟩:=hg
  obtain⟨f0,f1,f2,f3,f4,f5⟩:=hf it (by simp)
  refine wpAny_pyNext_ascii_item st hx fun h' st' sb=> ?_
  have I1:Inv X pins σ H { s with heap:=h',toks:=s.toks+1 }:=I.turned (t':=s.toks+1) (fun b o hb e=>(sb.2 b hb).trans e) f0 f1 f3 f4 f5
  obtain⟨o,e,c',d⟩:=id st'
  exact⟨_,rfl,zI (s:= { s with heap:=h',toks:=s.toks+1 }) e c' d (by decide) ⟨.str ⟨#[c]⟩,H,I1,⟨_,rfl⟩,⟨rfl,c,hx,rfl⟩,st',fun b hb=>(hf b hb).1⟩⟩
 done:=by
  intro X hP hw hK hc i pins s σ H E I hf st hg
  subst hP hw hK
  obtain⟨f0,f1,f2,f3,f4,f5⟩:=hf it (by simp)
  exact wpAny_pyNext_ascii_end (I.ok.hd hc) st hg fun h' eb=>⟨rfl,I.turned (t':=s.toks) (fun b o hb e=>eb b o hb e) f0 f1 f3 f4 f5⟩
 self:=fun _ _ _ _ _ st h=>wpAny_pyIter_striter_ascii st h
theorem qM {P:Program}{w:World}{K:PySem.W.Frag}{tg:Expr}(it:Addr) (x:Str) (t:Tok):Turn P w K tg (Its x) [it] it (fun i h=>h.IsStrIter it "str_iterator" x t i) where
 mem:=by simp
 obj:=fun i h st b hb=>by
  have e:b=it:=by simpa using hb
  subst e
  obtain⟨o,e,c,d⟩:=st
  exact⟨o,e,fun v z=>by rw [d]at z;cases z⟩
 keep:=fun i h h' st k=>by
  obtain⟨o,e,c,d⟩:=st
  exact⟨o,k it (by simp) o e,c,d⟩
 item:=by
  intro X hP hw hK hc i pins s σ H E I hf st hg
  subst hP hw hK
  obtain⟨c,hx⟩:=hg
  obtain⟨f0,f1,f2,f3,f4,f5⟩:=hf it (by simp)
  refine wpAny_pyNext_wide_item st hx fun h' st' sb=> ?_
  have I1:Inv X pins σ H { s with heap:=h',toks:=s.toks+1 }:=I.turned (t':=s.toks+1) (fun b o hb e=>(sb.2 b hb).trans e) f0 f1 f3 f4 f5
  obtain⟨o,e,c',d⟩:=id st'
  exact⟨_,rfl,zI (s:= { s with heap:=h',toks:=s.toks+1 }) e c' d (by decide) ⟨.str ⟨#[c]⟩,H,I1,⟨_,rfl⟩,⟨rfl,c,hx,rfl⟩,st',fun b hb=>(hf b hb).1⟩⟩
 done:=by
  intro X hP hw hK hc i pins s σ H E I hf st hg
  subst hP hw hK
  obtain⟨f0,f1,f2,f3,f4,f5⟩:=hf it (by simp)
  exact wpAny_pyNext_wide_end (I.ok.hd hc) st hg fun h' eb=>⟨rfl,I.turned (t':=s.toks) (fun b o hb e=>eb b o hb e) f0 f1 f3 f4 f5⟩
 self:=fun _ _ _ _ _ st h=>wpAny_pyIter_striter_wide st h
def iAny (K:PySem.W.Frag) (tl:TE):TI:=fun σ H R=>tl σ H fun x H1=>(∃ a,x= .ref a/\(∃ xs,SqL K H1 a xs)/\R (Itl K a) H1)\/(∃ a,x= .ref a/\(∃ xs,SqT K H1 a xs)/\R (Itt K a) H1)\/ ∃z,x= .str z/\R (Its z) H1
theorem xM {X:Cx}{tg l:Expr}{tl:TE}(hl:PE X l tl):PI X tg l (iAny X.K tl):=by
 intro pins s σ H R I h
 refine thn (hl pins s σ H _ I h) fun v s1 ⟨x,H1,I1,r1,q1⟩=> ?_
 rcases q1 with⟨a,e,⟨xs,hq⟩,q⟩ | ⟨a,e,⟨xs,hq⟩,q⟩ | ⟨z,e,q⟩
 ·subst e
  cases r1
  obtain⟨its,rv,p,hz⟩:=I1.list hq
  refine wpAny_pyIter_list p.isList ?_
  refine⟨s1.heap.objs.size,[s1.heap.objs.size],_,_,H1,rfl,I1.kept (t':=s1.toks) fun b o e=>Heap.get?_push_of_some _ e,jQ a _,⟨_,Heap.get?_push_size _ rfl,rfl,rfl⟩,fun b hb=> ?_,q⟩
  have e:b=s1.heap.objs.size:=by simpa using hb
  subst e
  exact I1.fpOk (Nat.le_refl _) (I1.hok.fresh (Nat.le_refl _))
 ·subst e
  cases r1
  obtain⟨its,rv,p,hz⟩:=I1.tuple hq
  refine wpAny_pyIter_tuple (show s1.heap.IsTuple a its.toArray from p) ?_
  refine⟨s1.heap.objs.size,[s1.heap.objs.size],_,_,H1,rfl,I1.kept (t':=s1.toks) fun b o e=>Heap.get?_push_of_some _ e,jJ a _,⟨_,Heap.get?_push_size _ rfl,rfl,rfl⟩,fun b hb=> ?_,q⟩
  have e:b=s1.heap.objs.size:=by simpa using hb
  subst e
  exact I1.fpOk (Nat.le_refl _) (I1.hok.fresh (Nat.le_refl _))
 ·subst e
  obtain⟨t,rfl⟩:=r1
  cases ha:z.cps.all (· <128)with
  | true=>
   refine wpAny_pyIter_ascii ha ?_
   refine⟨s1.heap.objs.size,[s1.heap.objs.size],_,_,H1,rfl,I1.kept (t':=s1.toks) fun b o e=>Heap.get?_push_of_some _ e,qI _ z t,⟨_,Heap.get?_push_size _ rfl,rfl,rfl⟩,fun b hb=> ?_,q⟩
   have e:b=s1.heap.objs.size:=by simpa using hb
   subst e
   exact I1.fpOk (Nat.le_refl _) (I1.hok.fresh (Nat.le_refl _))
  | false=>
   refine wpAny_pyIter_wide ha ?_
   refine⟨s1.heap.objs.size,[s1.heap.objs.size],_,_,H1,rfl,I1.kept (t':=s1.toks) fun b o e=>Heap.get?_push_of_some _ e,qM _ z t,⟨_,Heap.get?_push_size _ rfl,rfl,rfl⟩,fun b hb=> ?_,q⟩
   have e:b=s1.heap.objs.size:=by simpa using hb
   subst e
   exact I1.fpOk (Nat.le_refl _) (I1.hok.fresh (Nat.le_refl _))
end L2
namespace L2
open PySem PySem.Spec PyProof.Rows
section
variable {X:Cx}
theorem Vals.getI {xs:List V}{us:List Value}(r:Vals xs us){i:Nat}{u:Value}(h:us[i]? =some u): ∃x,xs[i]? =some x/\RelV x u:=by
 have hl:=r.length
 have hi:i<us.length:=(List.getElem?_eq_some_iff.mp h).1
 have hx:i<xs.length:=by omega
 obtain⟨u',h1,h2⟩:=r.get (List.getElem?_eq_getElem hx)
 rw [h]at h1
 cases h1
 exact⟨_,List.getElem?_eq_getElem hx,h2⟩
theorem JN (bs:List Bool):(List.range bs.length).all (fun i=>bs.getD i false)=bs.all id:=by
 induction bs with
 | nil=>rfl
 | cons b bs ih=>
  rw [List.length_cons,List.range_succ_eq_map,List.all_cons,List.all_map,List.all_cons,←ih]
  rfl
theorem qN (bs:List Bool):(List.range bs.length).any (fun i=>bs.getD i false)=bs.any id:=by
 induction bs with
 | nil=>rfl
 | cons b bs ih=>
  rw [List.length_cons,List.range_succ_eq_map,List.any_cons,List.any_map,List.any_cons,←ih]
  rfl
theorem wx {P:Program}{w:World}{A:Around}{bs:List Bool}{its:List Value}(r:Vals (bs.map V.bl) its):TruthOf P w A (fun i v=>its.toArray[i]? =some v) (fun i=>bs.getD i false):=by
 intro i v s Q E hP hQ
 obtain⟨x,h1,h2⟩:=r.getI (by simpa using hP)
 rw [List.getElem?_map]at h1
 cases hb:bs[i]? with
 | none=>rw [hb]at h1;cases h1
 | some b=>
  rw [hb]at h1
  cases h1
  cases h2
  refine wpAny_truthy_bool ?_
  have e:bs.getD i false=b:=by rw [List.getD_eq_getElem?_getD,hb];rfl
  rw [← e]
  exact hQ
theorem WQ (hc:X.calm=true):CallR X (.builtin "all") (fun xs H Q=> ∃p,∃bs:List Bool,xs= [.ref p]/\SqL X.K H p (bs.map V.bl)/\Q (.bl (bs.all id)) H):=by
 intro pins s σ H xs us Q I r h
 obtain⟨p,bs,rfl,hq,q⟩:=h
 obtain⟨u,rfl,rx⟩:=xl r
 cases rx
 obtain⟨its,rv,pl,hz⟩:=I.list hq
 have hlen:=rv.length
 rw [List.length_map]at hlen
 refine call_all_walk (wpAny_pyIter_list pl.isList ?_)
 have hne:p≠s.heap.objs.size:=by
  obtain⟨o,ho,_⟩:=pl.isList
  exact Nat.ne_of_lt (Heap.lt_size ho)
 refine⟨s.heap.objs.size,_,_,_,_,_,fun i=>bs.getD i false,rfl,Walks.list (A:=X.A.in1) (I.ok.hd hc) _ p hne its.toArray,⟨⟨_,Heap.get?_push_size _ rfl,rfl,rfl⟩,pl.isList.at fun o e=>Heap.get?_push_of_some _ e⟩,wx rv,fun h' tk hk=> ?_⟩
 have I1:Inv X pins σ H { s with heap:=h',toks:=tk }:=I.kept (t':=tk) fun b o e=>hk b o (by simp;exact Nat.ne_of_lt (Heap.lt_size e)) (Heap.get?_push_of_some _ e)
 refine⟨.bl _,H,I1,?_,q⟩
 show _=_
 rw [List.size_toArray,←hlen,JN]
theorem JT (hc:X.calm=true):CallR X (.builtin "any") (fun xs H Q=> ∃p,∃bs:List Bool,xs= [.ref p]/\SqL X.K H p (bs.map V.bl)/\Q (.bl (bs.any id)) H):=by
 intro pins s σ H xs us Q I r h
 obtain⟨p,bs,rfl,hq,q⟩:=h
 obtain⟨u,rfl,rx⟩:=xl r
 cases rx
 obtain⟨its,rv,pl,hz⟩:=I.list hq
 have hlen:=rv.length
 rw [List.length_map]at hlen
 refine call_any_walk (wpAny_pyIter_list pl.isList ?_)
 have hne:p≠s.heap.objs.size:=by
  obtain⟨o,ho,_⟩:=pl.isList
  exact Nat.ne_of_lt (Heap.lt_size ho)
 refine⟨s.heap.objs.size,_,_,_,_,_,fun i=>bs.getD i false,rfl,Walks.list (A:=X.A.in1) (I.ok.hd hc) _ p hne its.toArray,⟨⟨_,Heap.get?_push_size _ rfl,rfl,rfl⟩,pl.isList.at fun o e=>Heap.get?_push_of_some _ e⟩,wx rv,fun h' tk hk=> ?_⟩
 have I1:Inv X pins σ H { s with heap:=h',toks:=tk }:=I.kept (t':=tk) fun b o e=>hk b o (by simp;exact Nat.ne_of_lt (Heap.lt_size e)) (Heap.get?_push_of_some _ e)
 refine⟨.bl _,H,I1,?_,q⟩
 show _=_
 rw [List.size_toArray,←hlen,qN]
def sumI:List Int->Int
 | []=>0
 | i::r=>i+sumI r
theorem qA: ∀(xs:List Int) (x:Int),sumI (xs++ [x])=sumI xs+x
 | [],x=>by simp [sumI]
 | y::ys,x=>by
  show y+sumI (ys++ [x])=y+sumI ys+x
  rw [qA ys x];omega
theorem zn (ns:List Int): ∀j,j<=ns.length->preSum (fun i=>ns.getD i 0) j=sumI (ns.take j)
 | 0,_=>rfl
 | j+1,h=>by
  rw [preSum,zn ns j (by omega),List.take_succ,List.getElem?_eq_getElem (by omega)]
  show _=sumI (ns.take j++ [ns[j]])
  rw [qA,List.getD_eq_getElem?_getD,List.getElem?_eq_getElem (by omega)]
  rfl
end
end L2
namespace L2
open PySem PySem.Spec PyProof.Rows
section
variable {X:Cx}
theorem xk: ∀ {ss:List Str}{us:List Value},Vals (ss.map V.str) us->StrsAre us ss
 | [],us,r=>by cases r;exact .nil
 | z::ss,us,r=>by
  cases r with
  | cons h t=>
   obtain⟨k,rfl⟩:=h
   exact .cons _ _ (xk t)
theorem JO: ∀ {us:List Value}{ss:List Str},StrsAre us ss->Vals (ss.map V.str) us
 | _,_,.nil=> .nil
 | _,_,.cons _ _ h=> .cons ⟨_,rfl⟩ (JO h)
theorem Wx:CallR X (.builtin "sorted") (fun xs H Q=> ∃p,∃ss:List Str,xs= [.ref p]/\SqL X.K H p (ss.map V.str)/\ss.length<64/\ ∀ss',ss'.Perm ss->sortedS ss'=true-> ∀l,H l=none->Q (.ref l) (upd H l (.lst (ss'.map V.str)))):=by
 intro pins s σ H xs us Q I r h
 obtain⟨p,ss,rfl,hq,h64,q⟩:=h
 obtain⟨u,rfl,rx⟩:=xl r
 cases rx
 obtain⟨its,rv,pl,hz⟩:=I.list hq
 have hlen:=rv.length
 rw [List.length_map]at hlen
 refine sorted_strs pl.isList (xk rv) (by omega) fun out ss' a1 a2 a3=> ?_
 obtain⟨e,he⟩:=sortedAll_at s.heap its out
 have hl:ss'.length<=sizeLine:=by rw [a2.length_eq];rw [List.length_map]at hz;exact hz
 refine⟨.ref (s.heap.objs.size+1),_,I.laid (t':=s.toks) (fun b o e=>sortedAll_old e) (Nat.le_succ _) (show ObjOk X.prog X.w _ _ _ (.lst (ss'.map V.str))from⟨by rw [List.length_map];exact hl,out.toList,e,JO a1,by simpa [seqObj]using he⟩),rfl,q ss' a2 a3 _ (I.hok.fresh (Nat.le_succ _))⟩
end
end L2
namespace L2
open PySem PySem.Spec PyProof.Rows
section
variable {X:Cx}
def repS (x:Str) (n:Nat):Str:=⟨(List.replicate n x.cps).foldl (· ++ ·) #[]⟩
theorem wy {α:Type}: ∀(n:Nat) (a acc:Array α),((List.replicate n a).foldl (· ++ ·) acc).toList=acc.toList++(List.replicate n a.toList).flatten
 | 0,a,acc=>by simp
 | n+1,a,acc=>by
  rw [List.replicate_succ,List.foldl_cons,wy n,List.replicate_succ,List.flatten_cons]
  simp
theorem Zo (x:Str) (n:Nat):(repS x n).cps.toList=(List.replicate n x.cps.toList).flatten:=by
 unfold repS
 rw [wy]
 simp
theorem W2 (x:Str) (n:Nat):(repS x n).length=x.length*n:=by
 show(repS x n).cps.size=x.cps.size*n
 rw [← Array.length_toList,Zo]
 simp [Nat.mul_comm]
theorem wM {a b:Str}(h:a.cps.toList=b.cps.toList):a=b:=by
 cases a;cases b
 simp only [Str.mk.injEq]
 exact Array.toList_inj.mp h
theorem zan:OpR X (binaryOp .Mult) (fun x y H Q=> ∃z k,x= .str z/\y= .int k/\0<=k/\k<=1000/\z.length*k.toNat<=1000000/\Q (.str (repS z k.toNat)) H):=by
 intro pins s σ H x y v u Q I rx ry h
 obtain⟨z,k,rfl,rfl,h0,h1,hl,q⟩:=h
 obtain⟨t,rfl⟩:=rx
 obtain⟨t',rfl⟩:=ry
 have hsz:(repS z k.toNat).length<=sizeLine:=by rw [W2];exact Nat.le_trans hl (by decide)
 refine P.mul_str (by
  have a: ¬k< -(2 ^ 63:Int):=by omega
  have b: ¬k>=2 ^ 63:=by omega
  rw [decide_eq_false a,decide_eq_false b];rfl) (fun c1 c2=> ?_) (fun c1 c2=> ?_) ?_
 ·have hk:1<=k:=by omega
  have:(2:Int) ^ 63-1>=(z.length:Int)*k:=by
   have e:((z.length*k.toNat:Nat):Int)=(z.length:Int)*k:=by rw [Int.natCast_mul,Int.toNat_of_nonneg h0]
   have:=hl
   omega
  have:=Int.le_ediv_of_mul_le (a:=(z.length:Int)) (b:=2 ^ 63-1) (c:=k) (by omega) (by omega)
  omega
 ·unfold Builtin.Str.tooLong
  exact decide_eq_false (by have:sizeLine>=1000000:=by decide
                            omega)
 ·by_cases c1:k<1
  ·have hk:k=0:=by omega
   subst hk
   rw [if_pos c1]
   exact⟨by decide,.str (repS z 0),H,I.kept (t':=s.toks+1) fun b o e=>e,⟨_,rfl⟩,q⟩
  ·rw [if_neg c1]
   by_cases c2:(k==1||z.length==0)=true
   ·rw [if_pos c2]
    have e:repS z k.toNat=z:=by
     apply wM
     rw [Zo]
     rcases Bool.or_eq_true_iff.mp c2 with c | c
     ·have:k=1:=by simpa using c
      subst this
      simp
     ·have:z.cps.toList= []:=by
       have c:z.length=0:=by simpa using c
       have c:z.cps.size=0:=c
       rw [← Array.length_toList]at c
       exact List.eq_nil_of_length_eq_zero c
      rw [this]
      simp
    rw [e]at q
    exact⟨.str z,H,I,⟨t,rfl⟩,q⟩
   ·rw [if_neg c2]
    exact⟨hsz,.str (repS z k.toNat),H,I.kept (t':=s.toks+1) fun b o e=>e,⟨_,rfl⟩,q⟩
theorem qX:OpR X (binaryOp .Add) (fun x y H Q=> ∃a b ys,x= .ref a/\y= .ref b/\SqT X.K H a []/\SqT X.K H b ys/\Q (.ref b) H):=by
 intro pins s σ H x y v u Q I rx ry h
 obtain⟨a,b,ys,rfl,rfl,ha,hb,q⟩:=h
 cases rx
 cases ry
 obtain⟨its,r1,p1,_⟩:=I.tuple ha
 obtain⟨its2,r2,p2,_⟩:=I.tuple hb
 cases r1
 obtain⟨⟨cls,dd,data,sl⟩,ho,hc,n,hd⟩:=id p1
 obtain⟨⟨cls2,dd2,data2,sl2⟩,ho2,hc2,n2,hd2⟩:=id p2
 simp only at hc hd hc2 hd2
 subst hc hd hc2 hd2
 exact concat_meets ⟨_,ho,rfl⟩ ⟨_,ho2,rfl⟩ noFill_tuple_add seq_tuple_add PySem.F.slot_tuple_add PySem.F.entry_tuple_add (PySem.F.args_tuple_add_2 _ _)
  (tuple_addW0 a b _ its2.toArray n n2 dd dd2 sl sl2 (by simp)) ⟨ho,ho2,.ref b,H,I,rfl,q⟩
theorem qV (hc:X.calm=true):CallR X (.builtin "sum") (fun xs H Q=> ∃p,∃ns:List Int,xs= [.ref p]/\SqL X.K H p (ns.map V.int)/\Q (.int (sumI ns)) H):=by
 intro pins s σ H xs us Q I r h
 obtain⟨p,ns,rfl,hq,q⟩:=h
 obtain⟨u,rfl,rx⟩:=xl r
 cases rx
 obtain⟨its,rv,pl,hz⟩:=I.list hq
 have hlen:=rv.length
 rw [List.length_map]at hlen
 refine call_sum_walkG (wpAny_pyIter_list pl.isList ?_)
 have hlt:p<s.heap.objs.size:=by
  obtain⟨o,ho,_⟩:=pl.isList
  exact Heap.lt_size ho
 have hsz:s.heap.objs.size<(s.heap.push { cls:= .type "list_iterator",data:= .fields #[.ref p,.int 0 0] }).objs.size:=Heap.lt_size (Heap.get?_push_size _ rfl)
 refine⟨s.heap.objs.size,_,_,_,_,_,fun i=>ns.getD i 0,rfl,Walks.list (A:=X.A.in1) (I.ok.hd hc) _ p (Nat.ne_of_lt hlt) its.toArray,⟨⟨_,Heap.get?_push_size _ rfl,rfl,rfl⟩,pl.isList.at fun o e=>Heap.get?_push_of_some _ e⟩,fun b hb=> ?_,fun i v hv=> ?_,fun h' tk t' hk=> ?_⟩
 ·simp only [List.mem_cons,List.not_mem_nil,or_false]at hb
  rcases hb with rfl | rfl
  ·exact hsz
  ·exact Nat.lt_trans hlt hsz
 ·obtain⟨x,h1,h2⟩:=rv.getI (by simpa using hv)
  rw [List.getElem?_map]at h1
  cases hb:ns[i]? with
  | none=>rw [hb]at h1;cases h1
  | some b=>
   rw [hb]at h1
   cases h1
   obtain⟨t,rfl⟩:=h2
   exact⟨t,by show Value.int b t=Value.int (ns.getD i 0) t;rw [List.getD_eq_getElem?_getD,hb];rfl⟩
 ·have I1:Inv X pins σ H { s with heap:=h',toks:=tk }:=I.kept (t':=tk) fun b o e=>hk b o (by simp;exact Nat.ne_of_lt (Heap.lt_size e)) (Heap.get?_push_of_some _ e)
  refine⟨.int (sumI ns),H,I1,⟨t',?_⟩,q⟩
  rw [List.size_toArray,←hlen,zn ns _ (Nat.le_refl _),List.take_length]
theorem Qg: ∀ {ns:List Int}{its:List Value},Vals (ns.map V.int) its-> ∃ps:List (Int×Tok),its=ps.map (fun p=> .int p.1 p.2)/\ps.map (·.1)=ns
 | [],its,r=>by cases r;exact⟨[],rfl,rfl⟩
 | n::ns,its,r=>by
  cases r with
  | cons h t=>
   obtain⟨k,rfl⟩:=h
   obtain⟨ps,e1,e2⟩:=Qg t
   exact⟨(n,k)::ps,by rw [e1];rfl,by rw [← e2];rfl⟩
def bestI (f:Int->Int->Bool):List Int->Int->Int
 | [],a=>a
 | b::r,a=>bestI f r (if f b a then b else a)
theorem Xy (f:Int->Int->Bool): ∀(l:List Int) (b a:Int),bestI f (l++ [b]) a=if f b (bestI f l a)then b else bestI f l a
 | [],b,a=>rfl
 | c::l,b,a=>by
  show bestI f (l++ [b]) _=_
  rw [Xy f l b]
  rfl
theorem jE (f:Int->Int->Bool) (val:Nat->Int): ∀n,val (argBest (fun i j=>f (val i) (val j)) n)=bestI f ((List.range n).map fun i=>val (i+1)) (val 0)
 | 0=>rfl
 | n+1=>by
  have ih:=jE f val n
  rw [List.range_succ,List.map_append,List.map_cons,List.map_nil,Xy,←ih,argBest]
  by_cases q:f (val (n+1)) (val (argBest (fun i j=>f (val i) (val j)) n))=true
  ·simp only [q,if_true]
  ·simp only [q,if_false,Bool.false_eq_true]
theorem QQ {ps:List (Int×Tok)}{n:Int}{ns:List Int}(e:ps.map (·.1)=n::ns) (f:Int->Int->Bool){v:Value}
 (h:(intItems ps.toArray)[argBest (fun i j=>f (numAt ps.toArray i) (numAt ps.toArray j)) (ps.toArray.size-1)]? =some v): ∃t,v= .int (bestI f ns n) t:=by
 obtain⟨t,rfl⟩:=intItems_at h
 refine⟨t,?_⟩
 rw [jE f (numAt ps.toArray)]
 have hl:ps.length=ns.length+1:=by
  have:=congrArg List.length e
  simpa using this
 have hv: ∀i,numAt ps.toArray i=(n::ns).getD i 0:=fun i=>by
  rw [← e,List.getD_eq_getElem?_getD,List.getElem?_map]
  unfold numAt
  rw [List.getElem?_toArray]
  all_goals (cases ps[i]? <;>rfl)
 have h1:(List.range (ps.toArray.size-1)).map (fun i=>numAt ps.toArray (i+1))=ns:=by
  rw [List.size_toArray,hl,Nat.add_sub_cancel]
  apply List.ext_getElem
  ·simp
  ·intro i a b
   simp only [List.getElem_map,List.getElem_range,hv]
   rw [List.getD_eq_getElem?_getD,List.getElem?_cons_succ,List.getElem?_eq_getElem b]
   rfl
 rw [h1,hv 0]
 rfl
theorem JJ (hc:X.calm=true):CallR X (.builtin "max") (fun xs H Q=> ∃p n,∃ns:List Int,xs= [.ref p]/\SqL X.K H p ((n::ns).map V.int)/\Q (.int (bestI (fun a b=>decide (a>b)) ns n)) H):=by
 intro pins s σ H xs us Q I r h
 obtain⟨p,n,ns,rfl,hq,q⟩:=h
 obtain⟨u,rfl,rx⟩:=xl r
 cases rx
 obtain⟨its,rv,pl,hz⟩:=I.list hq
 obtain⟨ps,rfl,e2⟩:=Qg rv
 have hl:s.heap.IsList p (intItems ps.toArray):=by
  have e:intItems ps.toArray=(ps.map fun p=>Value.int p.1 p.2).toArray:=by simp [intItems]
  rw [e]
  exact pl.isList
 refine max_intList (I.ok.hd hc) hl (by have:=congrArg List.length e2;simp at this ⊢;omega) fun v h' tk hv hk=> ?_
 obtain⟨t,rfl⟩:=QQ e2 (fun a b=>decide (a>b)) hv
 exact⟨.int _,H,I.kept (t':=tk) fun b o e=>hk b o e,⟨t,rfl⟩,q⟩
theorem xL (hc:X.calm=true):CallR X (.builtin "min") (fun xs H Q=> ∃p n,∃ns:List Int,xs= [.ref p]/\SqL X.K H p ((n::ns).map V.int)/\Q (.int (bestI (fun a b=>decide (a<b)) ns n)) H):=by
 intro pins s σ H xs us Q I r h
 obtain⟨p,n,ns,rfl,hq,q⟩:=h
 obtain⟨u,rfl,rx⟩:=xl r
 cases rx
 obtain⟨its,rv,pl,hz⟩:=I.list hq
 obtain⟨ps,rfl,e2⟩:=Qg rv
 have hl:s.heap.IsList p (intItems ps.toArray):=by
  have e:intItems ps.toArray=(ps.map fun p=>Value.int p.1 p.2).toArray:=by simp [intItems]
  rw [e]
  exact pl.isList
 refine min_intList (I.ok.hd hc) hl (by have:=congrArg List.length e2;simp at this ⊢;omega) fun v h' tk hv hk=> ?_
 obtain⟨t,rfl⟩:=QQ e2 (fun a b=>decide (a<b)) hv
 exact⟨.int _,H,I.kept (t':=tk) fun b o e=>hk b o e,⟨t,rfl⟩,q⟩
theorem Xl (lo:Option Int) (d n:Nat) (hd:d<=n):(match lo with | none=>(d:Int) | some i=>max 0 (min (if i<0 then i+n else i) n))=((HT.sIx n d lo:Nat):Int)/\HT.sIx n d lo<=n:=by
 cases lo with
 | none=>exact⟨rfl,hd⟩
 | some i=>
  by_cases q:i<0
  ·simp only [HT.sIx,q,if_true];omega
  ·simp only [HT.sIx,q,if_false];omega
theorem xw (x:Str) (lo hi:Option Int):Builtin.Str.strSliceIndices lo hi 1 x.length=(List.range (HT.sIx x.length x.length hi-HT.sIx x.length 0 lo)).map fun k=>HT.sIx x.length 0 lo+k:=by
 have h1:=Xl lo 0 x.length (Nat.zero_le _)
 have h2:=Xl hi x.length x.length (Nat.le_refl _)
 have e:Builtin.Str.strSliceIndices lo hi 1 x.length=sliceRange ((HT.sIx x.length 0 lo:Nat):Int) ((HT.sIx x.length x.length hi:Nat):Int) 1:=by
  unfold Builtin.Str.strSliceIndices
  simp only [show (1:Int)>0 by decide,if_true]
  rw [← h1.1,←h2.1]
  cases lo<;>cases hi<;>rfl
 rw [e]
 unfold sliceRange
 simp only [show (1:Int)>0 by decide,if_true,Int.ediv_one,Int.one_mul]
 have e2:(if ((HT.sIx x.length 0 lo:Nat):Int)<((HT.sIx x.length x.length hi:Nat):Int)then((HT.sIx x.length x.length hi:Nat):Int)-((HT.sIx x.length 0 lo:Nat):Int)+1-1 else 0).toNat=HT.sIx x.length x.length hi-HT.sIx x.length 0 lo:=by
  split<;>omega
 rw [e2]
 refine List.map_congr_left fun k _=> ?_
 omega
def cutS (x:Str) (lo hi:Option Int):Str:=⟨((x.cps.toList.drop (HT.sIx x.length 0 lo)).take (HT.sIx x.length x.length hi-HT.sIx x.length 0 lo)).toArray⟩
theorem ZO (x:Str) (lo hi:Option Int):Txt.slice x lo hi=cutS x lo hi:=by
 have h1:=(Xl lo 0 x.length (Nat.zero_le _)).2
 have h2:=(Xl hi x.length x.length (Nat.le_refl _)).2
 by_cases q:HT.sIx x.length 0 lo<=HT.sIx x.length x.length hi
 ·have e:=StrLaws.sliceText_nat x q h2
  rw [show cutS x lo hi=⟨((x.cps.toList.drop (HT.sIx x.length 0 lo)).take (HT.sIx x.length x.length hi-HT.sIx x.length 0 lo)).toArray⟩from rfl,←e]
  unfold Txt.slice StrLaws.sliceText
  rw [xw x lo hi,StrLaws.strSliceIndices_plain q h2]
 ·have e0:HT.sIx x.length x.length hi-HT.sIx x.length 0 lo=0:=by omega
  unfold Txt.slice cutS
  rw [xw x lo hi,e0]
  rw [if_neg (by simp;omega)]
  simp
def rSlS:V->Option Int->Option Int->Hp->VK->Prop:=fun x lo hi H Q=> ∃z,x= .str z/\z.length<=sizeLine/\Q (.str (cutS z lo hi)) H
theorem jn:SlR X rSlS:=by
 intro pins s σ H x v vl vu lo hi sl Q I rx hs pl pu h
 obtain⟨z,rfl,hz,q⟩:=h
 obtain⟨t,rfl⟩:=rx
 refine⟨"str",_,F.slot_str_getitem.lookup,typeIs_str _ _ _,?_⟩
 have fin: ∀t' k,EP X pins σ Q (.str (Txt.slice z lo hi) t') { s with toks:=k }:=fun t' k=>by
  rw [ZO]
  exact⟨.str (cutS z lo hi),H,I.kept (t':=k) fun b o e=>e,⟨_,rfl⟩,q⟩
 have hl:(Txt.slice z lo hi).length<=sizeLine:=Nat.le_trans (Txt.slice_le z _ _) hz
 cases pl<;>cases pu
 ·exact wpAny_getItem_str_slice (l:=none) (u:=none) (st:=none) hs rfl (post_val_or_str ⟨hl,fin⟩)
 ·exact wpAny_getItem_str_slice (l:=none) (u:=some (_,_)) (st:=none) hs rfl (post_val_or_str ⟨hl,fin⟩)
 ·exact wpAny_getItem_str_slice (l:=some (_,_)) (u:=none) (st:=none) hs rfl (post_val_or_str ⟨hl,fin⟩)
 ·exact wpAny_getItem_str_slice (l:=some (_,_)) (u:=some (_,_)) (st:=none) hs rfl (post_val_or_str ⟨hl,fin⟩)
theorem Qr: ∀ {ss:List Str}{its:List Value},Vals (ss.map V.str) its-> ∃ps:List (Str×Tok),its=strValues ps/\ps.map (·.1)=ss
 | [],its,r=>by cases r;exact⟨[],rfl,rfl⟩
 | n::ns,its,r=>by
  cases r with
  | cons h t=>
   obtain⟨k,rfl⟩:=h
   obtain⟨ps,e1,e2⟩:=Qr t
   exact⟨(n,k)::ps,by rw [e1];rfl,by rw [← e2];rfl⟩
def rJoin (K:PySem.W.Frag):V->List V->Hp->VK->Prop:=fun x vs H Q=> ∃z p,∃ss:List Str,x= .str z/\vs= [.ref p]/\SqL K H p (ss.map V.str)/\JoinOk z ss=true/\Q (.str (Str.join z ss)) H
theorem qag:MtM X "str.join" (rJoin X.K):=by
 intro pins s σ H x vs v us Q I rx rv h
 obtain⟨z,p,ss,rfl,rfl,hq,hok,q⟩:=h
 obtain⟨t,rfl⟩:=rx
 obtain⟨u,rfl,ru⟩:=rv.one
 cases ru
 obtain⟨its,rv,pl,hz⟩:=I.list hq
 obtain⟨ps,rfl,e2⟩:=Qr rv
 refine SC.join pl.isList e2 hok fun t' k=>⟨.str (Str.join z ss),H,I.kept (t':=k) fun b o e=>e,⟨t',?_⟩,q⟩
 show Value.str (Builtin.Str.glued z ss) t'=_
 rw [StrLaws.glued_eq_join]
end
end L2
namespace L2
open PySem PySem.Spec PyProof.Rows PySem.MeetsSeq
section
variable {X:Cx}
theorem Jz {prog:Program}{w:World}{A:Around}{E:Value->Shared->Prop}{s:Shared}{Q:Value->Shared->Prop}{a:Addr}{items:Array Value}{x:Value}{e:Nat->Bool}{j:Nat}(ht:IsTup s.heap a items)
 (he: ∀i y,items[i]? =some y->PySem.SeqAt.EqAt A.in1 s y x (e i)) (hj:j<items.size) (hit:e j=true) (hno: ∀i,i<j->e i=false) (h: ∀t',Q (.int (j:Int) t') { s with toks:=s.toks+1 }):
 wpAny (model prog w) A (call (.builtin "tuple.index") [.ref a,x]) Q E s:=by
 refine wpAny_call_entry F.slot_tuple_index ht.typeIs F.entry_tuple_index ?_ (F.args_tuple_index_2 _ _)
 unfold Builtin.«tuple.index»
 refine wpAny_bind (wpAny_of_eq (show PySem.selfAndSome "tuple.index" "index" 1 3 ⟨[.ref a,x],[]⟩=pure (Value.ref a,[x])from rfl) ?_)
 refine wpAny_bind (tupleItemsOf_ ht ?_)
 dsimp only
 refine wpAny_bind (wpAny_pure (wpAny_bind (wpAny_pure (wpAny_bind ?_))))
 rw [Nat.min_self,Std.Legacy.Range.forIn_eq_forIn_range']
 simp only [Std.Legacy.Range.size,Nat.sub_zero,Nat.add_sub_cancel,Nat.div_one]
 refine wpAny_forIn_list _ (fun rest b s'=>s'=s/\b=(none,())/\ ∃i,i<=j/\rest=List.range' i (items.size-i)) _ ?_ ?_ _ _ ⟨rfl,rfl,0,Nat.zero_le _,by simp⟩
 ·rintro i rest b s' ⟨rfl,rfl,i0,hi,hr⟩
  have e1:items.size-i0=(items.size-(i0+1))+1:=by omega
  rw [e1,List.range'_succ]at hr
  injection hr with h1 h2
  subst h1
  have hl:i<items.size:=by omega
  rw [Array.getElem?_eq_getElem hl]
  dsimp only
  refine wpAny_bind (he i items[i] (Array.getElem?_eq_getElem hl) prog w _ _ ?_)
  by_cases q:i=j
  ·subst q
   rw [hit,if_pos rfl]
   refine wpAny_bind (wpAny_bind (wpAny_mkInt ?_))
   exact wpAny_pure (wpAny_pure (wpAny_pure ⟨_,rfl,h _⟩))
  ·rw [hno i (by omega),if_neg Bool.false_ne_true]
   exact wpAny_pure ⟨rfl,rfl,i+1,by omega,h2⟩
 ·rintro b s' ⟨rfl,rfl,i0,hi,hr⟩
  have e1:items.size-i0=(items.size-(i0+1))+1:=by omega
  rw [e1,List.range'_succ]at hr
  cases hr
abbrev TyF:=V->Hp->Prop
def IsTy (X:Cx) (T:String) (ty:TyF):Prop:= ∀(pins:List (Addr×Obj)) (s:Shared) (σ:St) (H:Hp) (x:V) (v:Value),Inv X pins σ H s->RelV x v->ty x H->s.TypeIs v T/\ ∀a,v= .ref a-> ∃ob,s.heap.get? a=some ob/\ob.dict=none
def tBMG (ty:TyF) (r:V->List V->Hp->VK->Prop) (to:TE) (t:TA):TE:=fun σ H Q=>to σ H fun x H1=>ty x H1/\t σ H1 fun xs H2=>r x xs H2 Q
theorem zv {T id:String}{name:Str}{ty:TyF}{r:V->List V->Hp->VK->Prop}{o e:Expr}{es:List Expr}{to:TE}{t:TA}{apos cpos:Pos}(pa:PlainAttrs T) (slot:Slot T name id) (hty:typeOf (.builtin id)=pure (.type "method_descriptor")) (ht:IsTy X T ty) (hm:MtM X id r) (ho:PE X o to) (ha:PA X (e::es) t)
 (hbase:attributeBase o name X.env (eval o X.env)=eval o X.env)
 (hfew:((backTo cpos (starEach (e::es) X.env)).all (fun x=> !x.1)&&(backToKw cpos (keywordEach [] X.env)).all (fun x=>x.1.isSome)
   &&decide ((e::es).length+([]:List Keyword).length+(if ([]:List Keyword).isEmpty then 0 else 1)<30))=true)
 (hline:(apos.endLine==cpos.line)=true) (hs:starEach (e::es) X.env=(false,eval e X.env)::starEach es X.env) (hplain:(backTo cpos (starEach es X.env)).any (·.1)=false):
 PE X (.Call (.Attribute o name apos) (e::es) [] cpos) (tBMG ty r to t):=by
 intro pins s σ H Q I h
 refine wpAny_Call_method_late hbase hfew hline rfl (thn (ho pins s σ H _ I h) fun v s1 ⟨x,H1,I1,r1,tx,q1⟩=> ?_)
 obtain⟨h1,h2⟩:=ht pins s1 σ H1 x v I1 r1 tx
 refine⟨T,id,pa,slot,hty,h1,h2,?_⟩
 have hA:=ha cpos pins s1 σ H1 _ I1 q1
 rw [hs]at hA ⊢
 refine Calls.callWith_builtin (by show(false||(backTo cpos (starEach es X.env)).any (·.1))=false;rw [hplain]<;>rfl) (Calls.evalArgs_plain ?_)
 exact thn hA fun us s2 ⟨vs,H2,I2,r2,q2⟩=>hm pins s2 σ H2 x vs v us Q I2 r1 r2 q2
def PlT (K:PySem.W.Frag) (H:Hp) (a:Addr):Prop:=(∃ xs,H a=some (.tup xs))\/ ∃o,K.lookup a=some o/\o.cls= .type "tuple" /\o.dict=none
theorem Z7:IsTy X "tuple" (fun x H=> ∃a,x= .ref a/\PlT X.K H a):=by
 intro pins s σ H x v I r h
 obtain⟨a,rfl,h⟩:=h
 cases r
 rcases h with⟨xs,h⟩ | ⟨o,hk,hc,hd⟩
 ·obtain⟨_,its,_,o,e,c,d,n,dt⟩:=I.hok a _ h
  refine⟨⟨o,e,c⟩,fun b z=> ?_⟩
  cases z
  exact⟨o,e,d⟩
 ·refine⟨⟨o,I.kIn a o hk,hc⟩,fun b z=> ?_⟩
  cases z
  exact⟨o,I.kIn _ o hk,hd⟩
theorem jax:IsTy X "str" (fun x _=> ∃z,x= .str z):=by
 intro pins s σ H x v I r h
 obtain⟨z,rfl⟩:=h
 obtain⟨t,rfl⟩:=r
 exact⟨typeIs_str s z t,fun _ e=>nomatch e⟩
theorem jal:IsTy X "list" (fun x H=> ∃a xs,x= .ref a/\SqL X.K H a xs):=by
 intro pins s σ H x v I r h
 obtain⟨a,xs,rfl,h⟩:=h
 cases r
 obtain⟨its,_,pl,_⟩:=I.list h
 refine⟨pl.isList.typeIs,fun b e=> ?_⟩
 cases e
 obtain⟨o,n,e,c,hd,_⟩:=pl
 exact⟨o,e,hd⟩
def idxS (x:Str):List Str->Option Nat
 | []=>none
 | y::ys=>if y=x then some 0 else(idxS x ys).map (· +1)
theorem WJ {x:Str}: ∀ {ss:List Str}{j:Nat},idxS x ss=some j->j<ss.length/\ss[j]? =some x/\ ∀i,i<j-> ∀y,ss[i]? =some y->y≠x
 | [],_,h=>by cases h
 | y::ys,j,h=>by
  unfold idxS at h
  split at h
  ·rename_i q
   cases h
   exact⟨Nat.zero_lt_succ _,by simp [q],fun i hi=>absurd hi (Nat.not_lt_zero _)⟩
  ·rename_i q
   obtain⟨k,e,rfl⟩:=Option.map_eq_some_iff.mp h
   obtain⟨h1,h2,h3⟩:=WJ e
   refine⟨Nat.succ_lt_succ h1,by simpa using h2,fun i hi z hz=> ?_⟩
   cases i with
   | zero=>simp at hz;rw [← hz];exact q
   | succ i=>exact h3 i (by omega) z (by simpa using hz)
def rIndex (K:PySem.W.Frag):V->List V->Hp->VK->Prop:=fun x vs H Q=> ∃a z j,∃ss:List Str,x= .ref a/\vs= [.str z]/\SqT K H a (ss.map V.str)/\idxS z ss=some j/\Q (.int (j:Nat)) H
theorem XZ:MtM X "tuple.index" (rIndex X.K):=by
 intro pins s σ H x vs v us Q I rx rv h
 obtain⟨a,z,j,ss,rfl,rfl,hq,hj,q⟩:=h
 cases rx
 obtain⟨u,rfl,ru⟩:=rv.one
 obtain⟨t,rfl⟩:=ru
 obtain⟨its,r,p,hz⟩:=I.tuple hq
 obtain⟨h1,h2,h3⟩:=WJ hj
 have hlen:=r.length
 rw [List.length_map]at hlen
 have look: ∀(i:Nat) (y:Value),its.toArray[i]? =some y-> ∃w t',ss[i]? =some w/\y=Value.str w t':=fun i y hy=>by
  obtain⟨x',e1,e2⟩:=r.getI (by simpa using hy)
  rw [List.getElem?_map]at e1
  cases hb:ss[i]? with
  | none=>rw [hb]at e1;cases e1
  | some b=>
   rw [hb]at e1
   cases e1
   obtain⟨t',rfl⟩:=e2
   exact⟨b,t',rfl,rfl⟩
 refine Jz (e:=fun i=>decide (ss[i]? =some z)) p (fun i y hy=> ?_) (by rw [List.size_toArray,←hlen];exact h1) (decide_eq_true h2) (fun i hi=> ?_) fun t'=>⟨.int (j:Nat),H,I.kept (t':=s.toks+1) fun b o e=>e,⟨t',rfl⟩,q⟩
 ·obtain⟨w,t',e,rfl⟩:=look i y hy
  have:=PySem.SeqAt.EqAt.str_str (A:=X.A.in1) (s:=s) w t' z t
  have e2:decide (ss[i]? =some z)=(w==z):=by
   rw [e]
   by_cases q:w=z
   ·subst q;simp
   ·simp [q]
  rw [e2]
  exact this
 ·have hi':i<ss.length:=by omega
  exact decide_eq_false fun c=>h3 i hi z c rfl
def rCount (K:PySem.W.Frag):V->List V->Hp->VK->Prop:=fun x vs H Q=> ∃a n,∃ns:List Int,x= .ref a/\vs= [.int n]/\SqL K H a (ns.map V.int)/\Q (.int ((ns.count n:Nat):Int)) H
theorem WV:MtM X "list.count" (rCount X.K):=by
 intro pins s σ H x vs v us Q I rx rv h
 obtain⟨a,n,ns,rfl,rfl,hq,q⟩:=h
 cases rx
 obtain⟨u,rfl,ru⟩:=rv.one
 obtain⟨t,rfl⟩:=ru
 obtain⟨its,r,pl,hz⟩:=I.list hq
 obtain⟨ps,rfl,e2⟩:=Qg r
 obtain⟨⟨cls,dd,data,sl⟩,ho,hc,k,hd⟩:=id pl.isList
 simp only at hc hd
 subst hc hd
 refine call_meets F.slot_list_count ⟨_,ho,rfl⟩ F.entry_list_count (F.args_list_count_2 _ _) (PySem.SeqAt.list_countAt a _ k dd sl (.int n t) (fun y=>match y with | .int i _=>i==n | _=>false)) ⟨ho,fun y hy=> ?_,?_⟩
 ·simp only [List.mem_toArray,List.mem_map]at hy
  obtain⟨p,_,rfl⟩:=hy
  exact PySem.SeqAt.EqAt.int_int p.1 p.2 n t
 ·refine⟨.int ((ns.count n:Nat):Int),H,I.kept (t':=s.toks+1) fun b o e=>e,⟨s.toks,?_⟩,q⟩
  rw [← e2,List.count_eq_countP,List.countP_map]
  congr 2
  simp only [List.countP_map]
  rfl
def rInsert:V->List V->Hp->VK->Prop:=fun x vs H Q=> ∃l xs,∃i:Nat,∃y,x= .ref l/\vs= [.int (i:Int),y]/\H l=some (.lst xs)/\xs.length<sizeLine/\i<=xs.length/\i<2 ^ 62/\Q .non (upd H l (.lst (xs.take i++y::xs.drop i)))
end
end L2
namespace L2
open PySem PySem.Spec PyProof.Rows
section
variable {prog:Program}{w:World}{A:Around}{E:Value->Shared->Prop}{s:Shared}
theorem nextOf_tup_item {it t:Addr}{i:Nat}{items:Array Value}{x:Value}{Q:Value->Shared->Prop}(hit:s.heap.IsTupleIter it t i) (ht:s.heap.IsTuple t items) (hx:items[i]? =some x)
 (hQ: ∀h',h'.IsTupleIter it t (i+1)->Heap.SameBut it s.heap h'->Q x { s with heap:=h' }):wpAny (model prog w) A (Builtin.SmallTypes.nextOf (.ref it)) Q E s:=by
 obtain⟨o,ho,hc,hd⟩:=id hit
 obtain⟨ol,hol,_,nl,hdl⟩:=ht
 unfold Builtin.SmallTypes.nextOf
 refine wpAny_bind (wpAny_callSpecial?_slot (name:=Str.ofString "__next__") hit.typeIs F.slot_tuple_iterator_next
  (wpAny_call_entry F.slot_tuple_iterator_next hit.typeIs F.entry_tuple_iterator_next ?_ (F.args_tuple_iterator_next_1 _)))
 show wpAny _ _ (field (.ref it) 0 >>= _) _ _ s
 refine wpAny_bind (wpAny_field ho hd (x:= .ref t) rfl ?_)
 show wpAny _ _ (if (Value.ref t==Value.none)=true then _ else _) _ _ s
 rw [if_neg (show ¬((Value.ref t==Value.none)=true)from Bool.false_ne_true)]
 show wpAny _ _ (field (.ref it) 1 >>= _) _ _ s
 refine wpAny_bind (wpAny_field ho hd (x:= .int i 0) rfl ?_)
 show wpAny _ _ (seqItems? (.ref t) >>= _) _ _ s
 refine wpAny_bind (wpAny_seqItems hol hdl ?_)
 simp only [Int.toNat_natCast,hx]
 refine wpAny_bind (wpAny_setField ho hd (by simp) (wpAny_pure ⟨x,rfl,wpAny_pure (hQ _ ?_ (Heap.SameBut.update ..))⟩))
 exact⟨_,Heap.get?_update_self _ ho (Obj.isFreed_of_fields (Obj.data_mapFields hd _)),(Obj.cls_mapFields ..).trans hc,by
  rw [Obj.data_mapFields hd];simp [rawInt]⟩
theorem nextOf_tup_end {it t:Addr}{i:Nat}{items:Array Value}{Q:Value->Shared->Prop}(hh:A.handled=none) (hit:s.heap.IsTupleIter it t i) (ht:s.heap.IsTuple t items) (hx:items[i]? =none)
 (hE: ∀h' e,Heap.ExtBut it s.heap h'->(∃ o,h'.get? e=some o/\o.cls= .type "StopIteration")->E (.ref e) { s with heap:=h' }):wpAny (model prog w) A (Builtin.SmallTypes.nextOf (.ref it)) Q E s:=by
 obtain⟨o,ho,hc,hd⟩:=id hit
 obtain⟨ol,hol,_,nl,hdl⟩:=ht
 unfold Builtin.SmallTypes.nextOf
 refine wpAny_bind (wpAny_callSpecial?_slot (name:=Str.ofString "__next__") hit.typeIs F.slot_tuple_iterator_next
  (wpAny_call_entry F.slot_tuple_iterator_next hit.typeIs F.entry_tuple_iterator_next ?_ (F.args_tuple_iterator_next_1 _)))
 show wpAny _ _ (field (.ref it) 0 >>= _) _ _ s
 refine wpAny_bind (wpAny_field ho hd (x:= .ref t) rfl ?_)
 show wpAny _ _ (if (Value.ref t==Value.none)=true then _ else _) _ _ s
 rw [if_neg (show ¬((Value.ref t==Value.none)=true)from Bool.false_ne_true)]
 show wpAny _ _ (field (.ref it) 1 >>= _) _ _ s
 refine wpAny_bind (wpAny_field ho hd (x:= .int i 0) rfl ?_)
 show wpAny _ _ (seqItems? (.ref t) >>= _) _ _ s
 refine wpAny_bind (wpAny_seqItems hol hdl ?_)
 simp only [Int.toNat_natCast,hx]
 refine wpAny_bind (wpAny_rule (wpAny_bind (wpAny_setField ho hd (by simp) ?_)))
 show wpAny _ _ (newExc (.type "StopIteration") [] >>= _) _ _ _
 refine wpAny_bind ?_
 simp only [newExc,newTuple]
 refine wpAny_bind (wpAny_newObj_type ?_ (by size_fits))
 refine wpAny_bind (m:=firstArgMember _ _) (wpAny_of_eq (a:=Value.none) (by first | rfl | (simp only [firstArgMember];rfl)) ?_)
 refine wpAny_newObj_type ?_ (by size_fits)
 simp only [raiseNew]
 refine wpAny_bind (wpAny_handled ?_)
 first | rw [show A.in1.handled=none from hh] | rw [hh]
 refine wpAny_bind (wpAny_pure (wpAny_throw ?_))
 exact hE _ _ (((Heap.SameBut.update ..).extBut.push _).push _) ⟨_,Heap.get?_push_size _ rfl,rfl⟩
theorem JA (hh:A.handled=none) (it t:Addr) (items:Array Value) (hne:t≠it):Draws prog w A it [it,t] items.size (fun i x=>items[i]? =some x) (fun i h=>h.IsTupleIter it t i/\h.IsTuple t items) where
 live:=fun i h st=>let ⟨o,e,_⟩:=st.1; ⟨o,e⟩
 frame:=fun i h h' st k=>⟨let ⟨o,e,r⟩:=st.1; ⟨o,k it (by simp) o e,r⟩,let ⟨o,e,r⟩:=st.2; ⟨o,k t (by simp) o e,r⟩⟩
 item:=fun i s Q E hi st hQ=>nextOf_tup_item st.1 st.2 (x:=items[i]) (by simp [hi]) fun h' st' sb=>hQ _ h' s.toks (by simp [hi]) ⟨st',st.2.extBut sb.extBut hne⟩ sb
 done:=fun s Q E st hE=>nextOf_tup_end hh st.1 st.2 (by simp) hE
open AutoSeq1 (wpAny_loadPart') in
theorem qh (l:Addr) (items:Array Value) (n:Nat) (dct:Option Addr) (sl:Array (Option Value)):
 Meets (Builtin.«enumerate.__new__» ⟨[.type "enumerate",.ref l],[]⟩) (fun _ R s=>s.heap.get? l=some { cls:= .type "tuple",dict:=dct,data:= .seq items n,slots:=sl } ∧
  R (.ok (.ret (.ref (s.heap.push { cls:= .type "tuple_iterator",data:= .fields #[.ref l,.int 0 0] }).objs.size)))
   { s with heap:=(s.heap.push { cls:= .type "tuple_iterator",data:= .fields #[.ref l,.int 0 0] }).push { cls:= .type "enumerate",data:= .fields #[.none,.bool false,.ref s.heap.objs.size,rawInt 0,.none,.none] } }):=
 .of_wp fun prog w A R s h=>by
  obtain⟨hp,g,d,tk,os⟩:=s;obtain⟨hl,h⟩:=h
  have hsub:=sub_enumerate
  have hL:Heap.IsTuple (Shared.heap ⟨hp,g,d,tk,os⟩) l items:=⟨_,hl,rfl,n,rfl⟩
  wp_walk using wpAny_loadPart' hl
  refine wpAny_stack_any fun st=>wpAny_pure ?_
  split
  ·rename_i c _ _ _ _ _
   cases (c==Value.type "enumerate")
   ·wp_walk using wpAny_loadPart' hl,wpAny_pyIter_tuple hL
    exact⟨_,rfl,h⟩
   ·wp_walk using wpAny_loadPart' hl,wpAny_pyIter_tuple hL
    exact⟨_,rfl,h⟩
  ·wp_walk using wpAny_loadPart' hl,wpAny_pyIter_tuple hL
   exact⟨_,rfl,h⟩
theorem Xi {l:Addr}{items:Array Value}{Q:Value->Shared->Prop}(hL:s.heap.IsTuple l items)
 (h: ∀h',IsEnum h' (s.heap.objs.size+1) s.heap.objs.size 0 .none->h'.IsTupleIter s.heap.objs.size l 0->h'.objs.size=s.heap.objs.size+2 →
   (∀ b o,s.heap.get? b=some o->h'.get? b=some o)->Q (.ref (s.heap.objs.size+1)) { s with heap:=h' }):
 wpAny (model prog w) A (call (.type "enumerate") [.ref l]) Q E s:=by
 obtain⟨⟨c,dct,dt,sl⟩,hl,hc,n,hd⟩:=hL
 replace hc:c= .type "tuple" :=hc
 replace hd:dt= .seq items n:=hd
 subst hc hd
 refine callType_new F.called_enumerate (by decide) (F.typeCall_enumerate_1 _) (F.newCall_enumerate_1 _) (fun obj=>F.args_object_init_2 obj _) F.entry_enumerate_new
  (qh l items n dct sl) ⟨hl,?_⟩
 have hz:(s.heap.push { cls:= .type "tuple_iterator",data:= .fields #[.ref l,.int 0 0] }).objs.size=s.heap.objs.size+1:=Heap.size_push ..
 show _/\_
 rw [hz]
 have he:IsEnum ((s.heap.push { cls:= .type "tuple_iterator",data:= .fields #[.ref l,.int 0 0] }).push
  { cls:= .type "enumerate",data:= .fields #[.none,.bool false,.ref s.heap.objs.size,rawInt 0,.none,.none] }) (s.heap.objs.size+1) s.heap.objs.size 0 .none:=by
  have:=Heap.get?_push_size (s.heap.push { cls:= .type "tuple_iterator",data:= .fields #[.ref l,.int 0 0] })
   (o:= { cls:= .type "enumerate",data:= .fields #[.none,.bool false,.ref s.heap.objs.size,rawInt 0,.none,.none] }) rfl
  rw [hz]at this;exact this
 refine⟨⟨_,he,rfl⟩,h _ he ⟨_,Heap.get?_push_of_some _ (Heap.get?_push_size _ rfl),rfl,rfl⟩ (by rw [Heap.size_push,hz]) fun b o x=>Heap.get?_push_of_some _ (Heap.get?_push_of_some _ x)⟩
end
section
variable {X:Cx}{pins:List (Addr×Obj)}{σ:St}{H:Hp}{s:Shared}{h':Heap}
theorem Inv.turned2 {t':Nat}{it e:Addr}(I:Inv X pins σ H s) (k: ∀b o,b≠e->b≠it->s.heap.get? b=some o->h'.get? b=some o) (hn:H it=none) (hn':H e=none) (hL:it≠X.env.locals) (hL':e≠X.env.locals)
 (h1:it∈X.ex\/X.s₀.heap.objs.size<=it) (h1':e∈X.ex\/X.s₀.heap.objs.size<=e) (h2: ∀x c,X.env.cells.lookup x=some c->c≠it) (h2': ∀x c,X.env.cells.lookup x=some c->c≠e) (h3: ∀p∈X.pn++pins,p.1≠it) (h3': ∀p∈X.pn++pins,p.1≠e):Inv X pins σ H { s with heap:=h',toks:=t' }:=by
 have nit: ∀b u,H b=some u->b≠e/\b≠it:=fun b u q=>⟨fun z=>(by rw [z,hn']at q;cases q),fun z=>(by rw [z,hn]at q;cases q)⟩
 have kk: ∀b o,b∉ [e,it]->s.heap.get? b=some o->h'.get? b=some o:=fun b o hc q=>k b o (fun z=>hc (by simp [z])) (fun z=>hc (by simp [z])) q
 refine I.step (g':=s.gens) (d':=s.drawn) (ch:= [e,it]) (fun b hb=> ?_) (fun b o _ _ hc e _=>kk b o hc e) (fun b o _ _ hc e _=>⟨o.slots,kk b o hc e⟩) (fun _ _ _ _ n=>n)
  (fun b o hc e=>⟨o,kk b o hc e⟩) (fun _ _ e=>e) (fun _ _ _ e=>e) (fun b ps e=>⟨#[],by rw [e];simp⟩) (fun m hm=> ?_) (fun b u q=> ?_) I.bare
 ·rcases List.mem_cons.mp hb with z | z
  ·rw [z];exact⟨h1',hL',h2',h3'⟩
  ·rw [List.mem_singleton.mp z];exact⟨h1,hL,h2,h3⟩
 ·obtain⟨o,es,ep,ho,r⟩:=hm
  exact⟨o,es,ep,k _ o (Ne.symm hL') (Ne.symm hL) ho,r⟩
 ·refine(I.hok b u q).stay (fun c v hc q'=>k c v ?_ ?_ q') (fun _ q=>q) fun _ _ q=>q
  ·rcases hc with z | z
   ·rw [z];exact(nit b u q).1
   ·exact(nit c _ z).1
  ·rcases hc with z | z
   ·rw [z];exact(nit b u q).2
   ·exact(nit c _ z).2
end
def Ite (K:PySem.W.Frag) (a:Addr):It:=
 ⟨fun i H=> ∃xs x,SqT K H a xs/\xs[i]? =some x,fun i H x H'=> ∃p y,H p=none/\x= .ref p/\H'=upd H p (.tup [.int (i:Int),y])/\ ∀xs,SqT K H a xs->xs[i]? =some y,fun i H=> ∃xs,SqT K H a xs/\xs.length=i⟩
theorem JS {P:Program}{w:World}{K:PySem.W.Frag}{elts:List Expr}{x1:Nat}{tp:Pos}(a it e:Addr) (hei:e≠it):Turn P w K (.Tuple elts x1 tp) (Ite K a) [e,it] e (fun i h=>(∃ old,IsEnum h e it (i:Int) old)/\h.IsTupleIter it a i) where
 mem:=by simp
 obj:=fun i h st b hb=>by
  obtain⟨⟨old,q⟩,⟨o,q2,c,d⟩⟩:=st
  rcases List.mem_cons.mp hb with z | z
  ·subst z
   exact⟨_,q,fun v z=>by cases z⟩
  ·rw [List.mem_singleton.mp z]
   exact⟨o,q2,fun v z=>by rw [d]at z;cases z⟩
 keep:=fun i h h' st k=>⟨let ⟨old,q⟩:=st.1; ⟨old,k e (by simp) _ q⟩,let ⟨o,q,r⟩:=st.2; ⟨o,k it (by simp) o q,r⟩⟩
 item:=by
  intro X hP hw hK hc i pins s σ H E I hf st hg
  subst hP hw hK
  obtain⟨⟨old,he⟩,hit⟩:=st
  obtain⟨xs,x,hq,hx⟩:=hg
  obtain⟨its,rv,p,hz⟩:=I.tuple hq
  obtain⟨u,hu,ru⟩:=rv.get hx
  have ht:s.heap.IsTuple a its.toArray:=p
  have hai:a≠it:=fun z=>by
   obtain⟨o,q,c,_⟩:=ht
   obtain⟨o',q',c',_⟩:=hit
   rw [z,q']at q;cases q
   rw [c]at c';exact absurd c' (by decide)
  have hae:a≠e:=fun z=>by
   obtain⟨o,q,c,_⟩:=ht
   rw [z,he]at q;cases q
   exact absurd (show Value.type "enumerate" =Value.type "tuple" from c) (by decide)
  obtain⟨f0,f1,f2,f3,f4,f5⟩:=hf e (by simp)
  obtain⟨g0,g1,g2,g3,g4,g5⟩:=hf it (by simp)
  have hlt:i<its.toArray.size:=by
   have:=List.getElem?_eq_some_iff.mp hu
   simpa using this.1
  have hhd:X.A.in1.handled=none:=I.ok.hd hc
  refine wpAny_pyNext_enum_itemD (JA (A:=X.A.in1) hhd it a its.toArray hai) he ⟨hit,ht⟩ hlt hei (by simp [hei,Ne.symm hae]) fun y h1 tk hy ho hs' hT hsz hk=> ?_
  have ey:y=u:=by
   rw [List.getElem?_toArray]at hy
   rw [hu]at hy;cases hy;rfl
  subst ey
  refine⟨_,rfl,wpAny_letOwnedTupleGo_enum (s:= { s with heap:=h1,toks:=tk+1 }) ho fun h2 he2 sb=> ?_⟩
  have sb:Heap.SameBut e h1 h2:=sb
  have hep:s.heap.objs.size≠e:=Nat.ne_of_gt (Heap.lt_size he)
  have hn:H s.heap.objs.size=none:=I.hok.fresh (Nat.le_refl _)
  have I1:Inv X pins σ (upd H s.heap.objs.size (.tup [.int (i:Int),x])) { s with heap:=s.heap.push { cls:= .type "tuple",data:= .seq #[.int i tk,y] },toks:=tk+1 }:=by
   refine I.laid (fun b o q=>Heap.get?_push_of_some _ q) (Nat.le_refl _) ⟨by simp only [List.length_cons,List.length_nil];rw [sizeLine_eq];decide,[.int i tk,y],.cons ⟨_,rfl⟩ (.cons ru .nil),?_⟩
   exact⟨_,Heap.get?_push_size s.heap rfl,rfl,rfl,_,rfl⟩
  have eit:it<s.heap.objs.size:=by obtain⟨o,q,_⟩:=hit;exact Heap.lt_size q
  have ee:e<s.heap.objs.size:=Heap.lt_size he
  have I2:=I1.turned2 (t':=tk+1) (h':=h2) (it:=it) (e:=e) (fun b o b1 b2 q=>by
   refine(sb.2 b b1).trans ?_
   rcases Heap.get?_push_cases (h:=s.heap) (show (s.heap.push { cls:= .type "tuple",data:= .seq #[.int i tk,y] }).get? b=some o from q)with⟨z,z2⟩ | z
   ·rw [z,z2];exact hT
   ·exact hk b o b1 b2 z) (by rw [ja (Nat.ne_of_lt eit)];exact g0) (by rw [ja (Nat.ne_of_lt ee)];exact f0) g1 f1 g3 f3 g4 f4 g5 f5
  refine⟨.ref s.heap.objs.size,_,I2,rfl,⟨s.heap.objs.size,x,hn,rfl,rfl,fun ys hy=>by rw [I.tuple_inj hy hq];exact hx⟩,⟨⟨y,by simpa using he2⟩,?_⟩,fun b hb=> ?_⟩
  ·obtain⟨o,q,r⟩:=hs'.1
   exact⟨o,(sb.2 it (Ne.symm hei)).trans q,r⟩
  ·rcases List.mem_cons.mp hb with z | z
   ·rw [z,ja (Nat.ne_of_lt ee)];exact f0
   ·rw [List.mem_singleton.mp z,ja (Nat.ne_of_lt eit)];exact g0
 done:=by
  intro X hP hw hK hc i pins s σ H E I hf st hg
  subst hP hw hK
  obtain⟨⟨old,he⟩,hit⟩:=st
  obtain⟨xs,hq,hx⟩:=hg
  obtain⟨its,rv,p,hz⟩:=I.tuple hq
  have ht:s.heap.IsTuple a its.toArray:=p
  have hai:a≠it:=fun z=>by
   obtain⟨o,q,c,_⟩:=ht
   obtain⟨o',q',c',_⟩:=hit
   rw [z,q']at q;cases q
   rw [c]at c';exact absurd c' (by decide)
  obtain⟨g0,g1,g2,g3,g4,g5⟩:=hf it (by simp)
  have hl:=rv.length
  have hhd:X.A.in1.handled=none:=I.ok.hd hc
  have hi:i=its.toArray.size:=by simp;omega
  subst hi
  exact wpAny_pyNext_enum_endD (JA (A:=X.A.in1) hhd it a its.toArray hai) he ⟨hit,ht⟩ fun h' eb=>⟨rfl,I.turned (t':=s.toks) (fun b o hb q=>eb b o hb q) g0 g1 g3 g4 g5⟩
 self:=fun _ _ _ _ _ st h=>wpAny_pyIter_enum st.1.choose_spec h
def iEnum (K:PySem.W.Frag) (ta:TA):TI:=fun σ H R=>ta σ H fun vs H1=> ∃a xs,vs= [.ref a]/\SqT K H1 a xs/\R (Ite K a) H1
theorem Jp:bootBuiltins "enumerate" =some (.type "enumerate"):=by decide +kernel
theorem xag {X:Cx}{elts:List Expr}{x1:Nat}{tp:Pos}{a:Expr}{ta:TA}{p pos:Pos}(hg:Gl X "enumerate") (hm:X.mg "enumerate" =none) (ha:PA X [a] ta) (hs:starEach [a] X.env= [(false,eval a X.env)]:=by rfl):PI X (.Tuple elts x1 tp) (.Call (.Name "enumerate" p) [a] [] pos) (iEnum X.K ta):=by
 intro pins s σ H R I h
 refine Call_ (Qk I hg hm Jp (PyProof.Rows.callWith_type1 (thn (ha pos pins s σ H _ I h) fun us s1 ⟨vs,H1,I1,r1,q1⟩=> ?_) hs rfl))
 obtain⟨b,xs,e,hq,q⟩:=q1
 subst e
 cases r1 with
 | cons r rr=>
  cases rr
  cases r
  obtain⟨its,rv,pl,hz⟩:=I1.tuple hq
  refine Xi (show s1.heap.IsTuple b its.toArray from pl) fun h' he hit hsz hk=> ?_
  refine wpAny_pyIter_enum (s:= { s1 with heap:=h' }) he ?_
  refine⟨s1.heap.objs.size+1,[s1.heap.objs.size+1,s1.heap.objs.size],_,_,H1,rfl,I1.kept (t':=s1.toks) hk,JS b s1.heap.objs.size (s1.heap.objs.size+1) (Nat.succ_ne_self _),⟨⟨_,by simpa using he⟩,hit⟩,fun c hb=> ?_,q⟩
  rcases List.mem_cons.mp hb with z | z
  ·rw [z];exact I1.fpOk (Nat.le_succ _) (I1.hok.fresh (Nat.le_succ _))
  ·rw [List.mem_singleton.mp z];exact I1.fpOk (Nat.le_refl _) (I1.hok.fresh (Nat.le_refl _))
end L2
namespace L2
open PySem PySem.Spec PyProof.Rows
section
variable {prog:Program}{w:World}{A:Around}{E:Value->Shared->Prop}{s:Shared}
abbrev eset (led:Bool):Obj:= { cls:= .type "set",dict:=none,data:= .set #[] 0 (.fresh 0 0 led) }
set_option maxHeartbeats 8000000 in
end
end L2
namespace L2
open PySem PySem.Spec PyProof.Rows
section
variable {X:Cx}
def unl (is:List Int):Nat:=(firstMet (fun i=>is.getD i 0) is.length).length
end
end L2
namespace L2
open PySem PySem.Spec PyProof.Rows
section
variable {prog:Program}{w:World}{A:Around}{E:Value->Shared->Prop}{s:Shared}
abbrev elst:Obj:= { cls:= .type "list",data:= .seq ([]:List Value).toArray }
open AutoSeq1 (wpAny_loadPart') in
end
end L2
namespace L2
open PySem PySem.Spec PyProof.Rows
section
variable {X:Cx}
def tTr (ta:TA):TE:=fun σ H Q=>ta σ H fun vs H1=> ∃n:Nat,vs= [.int (n:Int)]/\n<=1000/\ ∀l,H1 l=none->Q (.ref l) (upd H1 l (.tup ((List.range n).map fun(i:Nat)=>V.int (i:Int))))
end
end L2
namespace L2
open PySem PySem.Spec PyProof.Rows
section
variable {X:Cx}
def idxI (z:Int):List Int->Option Nat
 | []=>none
 | y::ys=>if y=z then some 0 else(idxI z ys).map (· +1)
theorem jM {z:Int}: ∀ {ss:List Int}{j:Nat},idxI z ss=some j->j<ss.length/\ss[j]? =some z/\ ∀i,i<j->ss[i]? ≠some z
 | [],_,h=>by cases h
 | y::ys,j,h=>by
  rw [idxI]at h
  by_cases q:y=z
  ·rw [if_pos q]at h
   cases h
   exact⟨by simp,by simp [q],fun i hi=>absurd hi (Nat.not_lt_zero i)⟩
  ·rw [if_neg q]at h
   obtain⟨k,e,rfl⟩:=Option.map_eq_some_iff.mp h
   obtain⟨h1,h2,h3⟩:=jM e
   refine⟨Nat.succ_lt_succ h1,by simpa using h2,fun i hi hz=> ?_⟩
   cases i with
   | zero=>simp at hz;exact q hz
   | succ i=>exact h3 i (by omega) (by simpa using hz)
def rIndexI (K:PySem.W.Frag):V->List V->Hp->VK->Prop:=fun x vs H Q=> ∃a z j,∃ss:List Int,x= .ref a/\vs= [.int z]/\SqT K H a (ss.map V.int)/\idxI z ss=some j/\Q (.int (j:Nat)) H
theorem XJ:MtM X "tuple.index" (rIndexI X.K):=by
 intro pins s σ H x vs v us Q I rx rv h
 obtain⟨a,z,j,ss,rfl,rfl,hq,hj,q⟩:=h
 cases rx
 obtain⟨u,rfl,t,rfl⟩:=rv.one
 obtain⟨its,r,p,hz⟩:=I.tuple hq
 obtain⟨h1,h2,h3⟩:=jM hj
 have hlen:its.length=ss.length:=by have:=r.length;rw [List.length_map]at this;omega
 refine Jz (e:=fun i=>decide (ss[i]? =some z)) p (fun i y hy=> ?_) (by rw [List.size_toArray,hlen];exact h1) (decide_eq_true h2) (fun i hi=>decide_eq_false (h3 i hi)) fun t'=>⟨.int (j:Nat),H,I.kept (t':=s.toks+1) fun b o e=>e,⟨t',rfl⟩,q⟩
 obtain⟨x',e1,e2⟩:=r.getI (by simpa using hy)
 rw [List.getElem?_map]at e1
 cases hb:ss[i]? with
 | none=>rw [hb]at e1;cases e1
 | some b=>
  rw [hb]at e1
  cases e1
  obtain⟨t',rfl⟩:=e2
  have e3:decide (some b=some z)=(b==z):=by
   by_cases q:b=z
   ·subst q;simp
   ·simp [q]
  rw [e3]
  exact PySem.SeqAt.EqAt.int_int b t' z t
end
end L2
namespace L2
open PySem PySem.Spec PyProof.Rows
theorem Xo {prog:Program}{w:World}{A:Around}{E:Value->Shared->Prop}{s:Shared}{t sl:Addr}{vs:Array Value}{vl vu:Value}{lo hi:Option Int}{Q:Value->Shared->Prop}(ht:IsTup s.heap t vs) (hs:s.heap.IsSliceOf sl vl vu .none) (pl:IsPart vl lo) (pu:IsPart vu hi)
 (h0:HT.sIx vs.size 0 lo=0) (h1:HT.sIx vs.size vs.size hi=vs.size) (h:Q (.ref t) s):wpAny (model prog w) A (getItem (.ref t) (.ref sl)) Q E s:=by
 obtain⟨os,hos,hcs,hds⟩:=id hs
 have hTs:s.TypeIs (.ref sl) "slice" :=⟨os,hos,hcs⟩
 unfold getItem
 try with_reducible refine wpAny_holding ?_
 first | refine wpAny_bind (wpAny_pure ?_) | skip
 refine wpAny_bind (wpAny_sequenceKey ht.typeIs (by decide) (wpAny_bind (wpAny_callSpecial?_slot (name:=Str.ofString "__getitem__") ht.typeIs PyProof.Rows.slot_tuple_getitem
  (wpAny_call_entry PyProof.Rows.slot_tuple_getitem ht.typeIs PyProof.Rows.entry_tuple_getitem ?_ (PyProof.Rows.args_tuple_getitem _ _)))))
 show wpAny _ _ (Builtin.Tuple.tupleItemsOf (.ref t) >>= _) _ _ s
 refine wpAny_bind (tupleItemsOf_ ht (wpAny_bind (wpAny_typeOf hTs ?_)))
 rw [if_pos (by decide)]
 refine wpAny_bind (HT.sliceApplied_gen hs pl pu ?_)
 show wpAny _ _ (if (((HT.sIx vs.size 0 lo:Nat):Int)==0&&(1:Int)==1&&(HT.sIx vs.size vs.size hi-HT.sIx vs.size 0 lo)==vs.size)=true then _ else _) _ _ s
 rw [if_pos (by rw [h0,h1];simp)]
 unfold Builtin.Tuple.tupleIsExact
 refine wpAny_bind (wpAny_bind (wpAny_typeOf ht.typeIs (wpAny_pure ?_)))
 rw [if_pos (by decide)]
 exact wpAny_bind (wpAny_rule (wpAny_pure ⟨_,rfl,wpAny_pure h⟩))
section
variable {X:Cx}
def rSlW (K:PySem.W.Frag):V->Option Int->Option Int->Hp->VK->Prop:=fun x lo hi H Q=> ∃a xs,x= .ref a/\SqT K H a xs/\HT.sIx xs.length 0 lo=0/\HT.sIx xs.length xs.length hi=xs.length/\Q (.ref a) H
theorem xav:SlR X (rSlW X.K):=by
 intro pins s σ H x v vl vu lo hi sl Q I rx hs pl pu h
 obtain⟨a,xs,rfl,hx,h0,h1,q⟩:=h
 cases rx
 obtain⟨its,r,ht,hz⟩:=I.tuple hx
 have hlen:its.toArray.size=xs.length:=by rw [List.size_toArray];exact r.length.symm
 refine⟨"tuple",_,PyProof.Rows.slot_tuple_getitem.lookup,ht.typeIs,?_⟩
 exact Xo ht hs pl pu (by rw [hlen];exact h0) (by rw [hlen];exact h1) ⟨.ref a,H,I,rfl,q⟩
end
end L2
namespace PyProof.Rows
open PySem PySem.Spec
section
variable {prog:Program}{w:World}{A:Around}{E:Value->Shared->Prop}{s:Shared}
end
end PyProof.Rows
namespace L2
open PySem PySem.Spec PyProof.Rows
section
variable {X:Cx}
end
end L2
namespace HT
open PySem PyProof.Rows
section
open PySem.SeqAt
open PySem.AutoSeq1 (wpAny_loadPart')
open PySem.MeetsSeq PySem.MeetsSeq2 PySem.MeetsSeq3
end
section
variable {prog:Program}{w:World}{A:Around}{E:Value->Shared->Prop}{s:Shared}
end
end HT
namespace L2
open PySem PySem.Spec PyProof.Rows
section
variable {X:Cx}
def rGeT (K:PySem.W.Frag):R2:=fun x y H Q=> ∃a b ns ms,x= .ref a/\y= .ref b/\SqT K H a (ns.map V.int)/\SqT K H b (ms.map V.int)/\Q (.bl (!HT.lexLt ns ms)) H
end
end L2
namespace L2
open PySem PySem.Spec PyProof.Rows
section
variable {X:Cx}
def tLr (ta:TA):TE:=fun σ H Q=>ta σ H fun vs H1=> ∃n:Nat,vs= [.int (n:Int)]/\n<=1000/\ ∀l,H1 l=none->Q (.ref l) (upd H1 l (.lst ((List.range n).map fun(i:Nat)=>V.int (i:Int))))
end
end L2
namespace PySem
open Sem (wp)
section
variable {prog:Program}{w:World}{A:Around}{E:Value->Shared->Prop}{s:Shared}
theorem zq {z TI TO i1 i2 l1 l2:Addr}{k1 k2:Nat}{xs ys:Array Value}{x y a b:Value}{Q:Value->Shared->Prop}(D:ZipApart z TI TO i1 i2 l1 l2)
 (hz:IsZip s.heap z TI TO .none) (hTI:IsPair s.heap TI (.ref i1) (.ref i2)) (hTO:IsPair s.heap TO a b)
 (h1:s.heap.IsListIter i1 l1 k1) (h2:s.heap.IsTupleIter i2 l2 k2) (hl1:s.heap.IsList l1 xs) (hl2:s.heap.IsTuple l2 ys) (hx:xs[k1]? =some x) (hy:ys[k2]? =some y)
 (hQ: ∀h',IsZip h' z TI TO (rawInt s.heap.objs.size)->IsPair h' TO x y->h'.IsListIter i1 l1 (k1+1)->h'.IsTupleIter i2 l2 (k2+1)->IsPair h' s.heap.objs.size x y->h'.objs.size=s.heap.objs.size+1 →
   (∀ c o,c≠z->c≠TO->c≠i1->c≠i2->s.heap.get? c=some o->h'.get? c=some o)->Q (.ref s.heap.objs.size) { s with heap:=h' }):
 wpAny (model prog w) A (Builtin.«zip.__next__» ⟨[.ref z],[]⟩) (fun fin s'=> ∃v,fin= .done (.ret v)/\Q v s') E s:=by
 show wpAny _ _ (field (.ref z) 2 >>= _) _ _ _
 refine wpAny_bind (wpAny_field hz rfl (x:= .bool false) rfl ?_)
 show wpAny _ _ (field (.ref z) 3 >>= _) _ _ _
 refine wpAny_bind (wpAny_field hz rfl (x:= .ref TI) rfl ?_)
 refine wpAny_bind (wpAny_seqItems hTI rfl ?_)
 show wpAny _ _ (Builtin.SmallTypes.ownedTupleIsFree (.ref z) >>= _) _ _ _
 refine wpAny_bind ?_
 unfold Builtin.SmallTypes.ownedTupleIsFree
 refine wpAny_bind (wpAny_field hz rfl (x:= .none) rfl (wpAny_pure ?_))
 simp only [if_true]
 refine wpAny_bind (wpAny_rule ?_)
 refine wpAny_bind (wpAny_field hz rfl (x:= .ref TO) rfl ?_)
 refine wpAny_bind (wpAny_setField_rec hz (by simp) fun h₁ hz₁ hs₁=> ?_)
 replace hz₁:IsZip h₁ z TI TO .ellipsis:=hz₁
 refine wpAny_bind ?_
 simp only [List.zipIdx_cons,List.zipIdx_nil,List.forIn_cons,List.forIn_nil]
 refine wpAny_bind (wpAny_bind (wpAny_onRaise ?_))
 show wpAny _ _ (Builtin.SmallTypes.nextOf (.ref i1) >>= _) _ _ _
 refine wpAny_bind (wpAny_nextOf_list_item (h1.extBut hs₁.extBut D.i1z) (hl1.extBut hs₁.extBut D.l1z) hx fun h₂ h1₂ hs₂=>wpAny_pure ?_)
 have hTO₂:IsPair h₂ TO a b:=hs₂.extBut _ _ D.TOi1 (hs₁.extBut _ _ D.TOz hTO)
 refine wpAny_bind (wpAny_seqItems hTO₂ rfl ?_)
 refine wpAny_bind (wpAny_updateSeq_pair hTO₂ fun h₃ hTO₃ hs₃=> ?_)
 replace hTO₃:IsPair h₃ TO x b:=hTO₃
 refine wpAny_bind (wpAny_letGo (wpAny_pure ?_))
 refine wpAny_bind (wpAny_bind (wpAny_onRaise ?_))
 show wpAny _ _ (Builtin.SmallTypes.nextOf (.ref i2) >>= _) _ _ _
 refine wpAny_bind (L2.nextOf_tup_item (((h2.extBut hs₁.extBut D.i2z).extBut hs₂.extBut D.i12.symm).extBut hs₃.extBut D.TOi2.symm)
  (((hl2.extBut hs₁.extBut D.l2z).extBut hs₂.extBut D.l2i1).extBut hs₃.extBut D.l2TO) hy fun h₄ h2₄ hs₄=>wpAny_pure ?_)
 have hTO₄:IsPair h₄ TO x b:=hs₄.extBut _ _ D.TOi2 hTO₃
 refine wpAny_bind (wpAny_seqItems hTO₄ rfl ?_)
 refine wpAny_bind (wpAny_updateSeq_pair hTO₄ fun h₅ hTO₅ hs₅=> ?_)
 replace hTO₅:IsPair h₅ TO x y:=hTO₅
 refine wpAny_bind (wpAny_letGo (wpAny_pure (wpAny_pure ?_)))
 refine wpAny_bind (wpAny_seqItems hTO₅ rfl ?_)
 refine wpAny_bind (wpAny_newTuple ?_)
 have hsz:h₅.objs.size=s.heap.objs.size:=by rw [hs₅.1,hs₄.1,hs₃.1,hs₂.1,hs₁.1]
 have hz₅:IsZip h₅ z TI TO .ellipsis:=hs₅.extBut _ _ D.TOz.symm (hs₄.extBut _ _ D.i2z.symm (hs₃.extBut _ _ D.TOz.symm (hs₂.extBut _ _ D.i1z.symm hz₁)))
 have hk₅: ∀c o,c≠z->c≠TO->c≠i1->c≠i2->s.heap.get? c=some o->h₅.get? c=some o:=fun c o c1 c2 c3 c4 e=>
  hs₅.extBut _ _ c2 (hs₄.extBut _ _ c4 (hs₃.extBut _ _ c2 (hs₂.extBut _ _ c3 (hs₁.extBut _ _ c1 e))))
 have h1₅:h₅.IsListIter i1 l1 (k1+1):=((h1₂.extBut hs₃.extBut D.TOi1.symm).extBut hs₄.extBut D.i12).extBut hs₅.extBut D.TOi1.symm
 have h2₅:h₅.IsTupleIter i2 l2 (k2+1):=h2₄.extBut hs₅.extBut D.TOi2.symm
 have hzlt:z<h₅.objs.size:=Heap.lt_size hz₅
 have hTOlt:TO<h₅.objs.size:=Heap.lt_size hTO₅
 have hi1lt:i1<h₅.objs.size:=by obtain⟨_,e,_⟩:=h1₅;exact Heap.lt_size e
 have hi2lt:i2<h₅.objs.size:=by obtain⟨_,e,_⟩:=h2₅;exact Heap.lt_size e
 show wpAny _ _ (Builtin.SmallTypes.ownedTupleHandOut (.ref z) (.ref h₅.objs.size) >>= _) _ _ _
 refine wpAny_bind ?_
 unfold Builtin.SmallTypes.ownedTupleHandOut
 have hz₆:IsZip (h₅.push { cls:= .type "tuple",data:= .seq #[x,y] }) z TI TO .ellipsis:=Heap.get?_push_of_some _ hz₅
 refine wpAny_bind (wpAny_setField_rec hz₆ (by simp) fun h₇ hz₇ hs₇=> ?_)
 replace hz₇:IsZip h₇ z TI TO (rawInt h₅.objs.size):=hz₇
 refine wpAny_setField_rec hz₇ (by simp) fun h₈ hz₈ hs₈=> ?_
 replace hz₈:IsZip h₈ z TI TO (rawInt h₅.objs.size):=hz₈
 have up: ∀c o,c≠z->h₅.get? c=some o->h₈.get? c=some o:=fun c o c1 e=>hs₈.extBut _ _ c1 (hs₇.extBut _ _ c1 (Heap.get?_push_of_some _ e))
 have hT₈:IsPair h₈ h₅.objs.size x y:=hs₈.extBut _ _ (Nat.ne_of_gt hzlt) (hs₇.extBut _ _ (Nat.ne_of_gt hzlt) (Heap.get?_push_size _ rfl))
 have hz8:h₈.objs.size=h₅.objs.size+1:=by rw [hs₈.1,hs₇.1,Heap.size_push]
 rw [hsz]at hz₈ hT₈ hz8
 refine wpAny_pure ⟨_,rfl,?_⟩
 show Q (.ref h₅.objs.size) _
 rw [hsz]
 exact hQ h₈ hz₈ (up _ _ D.TOz hTO₅) (h1₅.at fun o e=>up _ o D.i1z e) (h2₅.at fun o e=>up _ o D.i2z e) hT₈ hz8 fun c o c1 c2 c3 c4 e=>up c o c1 (hk₅ c o c1 c2 c3 c4 e)
theorem Ws {z TI TO i1 i2 l1 l2:Addr}{k1 k2:Nat}{xs ys:Array Value}{a b:Value}{Q:Fin->Shared->Prop}(hh:A.handled=none) (D:ZipApart z TI TO i1 i2 l1 l2)
 (hz:IsZip s.heap z TI TO .none) (hTI:IsPair s.heap TI (.ref i1) (.ref i2)) (hTO:IsPair s.heap TO a b)
 (h1:s.heap.IsListIter i1 l1 k1) (h2:s.heap.IsTupleIter i2 l2 k2) (hl1:s.heap.IsList l1 xs) (hl2:s.heap.IsTuple l2 ys) (hend:xs[k1]? =none\/ys[k2]? =none)
 (hE: ∀h' e,(∀ c o,c≠z->c≠TO->c≠i1->c≠i2->s.heap.get? c=some o->h'.get? c=some o)->(∃ o,h'.get? e=some o/\o.cls= .type "StopIteration")->E (.ref e) { s with heap:=h' }):
 wpAny (model prog w) A (Builtin.«zip.__next__» ⟨[.ref z],[]⟩) Q E s:=by
 show wpAny _ _ (field (.ref z) 2 >>= _) _ _ _
 refine wpAny_bind (wpAny_field hz rfl (x:= .bool false) rfl ?_)
 show wpAny _ _ (field (.ref z) 3 >>= _) _ _ _
 refine wpAny_bind (wpAny_field hz rfl (x:= .ref TI) rfl ?_)
 refine wpAny_bind (wpAny_seqItems hTI rfl ?_)
 show wpAny _ _ (Builtin.SmallTypes.ownedTupleIsFree (.ref z) >>= _) _ _ _
 refine wpAny_bind ?_
 unfold Builtin.SmallTypes.ownedTupleIsFree
 refine wpAny_bind (wpAny_field hz rfl (x:= .none) rfl (wpAny_pure ?_))
 simp only [if_true]
 refine wpAny_bind (wpAny_rule ?_)
 refine wpAny_bind (wpAny_field hz rfl (x:= .ref TO) rfl ?_)
 refine wpAny_bind (wpAny_setField_rec hz (by simp) fun h₁ hz₁ hs₁=> ?_)
 replace hz₁:IsZip h₁ z TI TO .ellipsis:=hz₁
 refine wpAny_bind ?_
 simp only [List.zipIdx_cons,List.zipIdx_nil,List.forIn_cons,List.forIn_nil]
 refine wpAny_bind (wpAny_bind (wpAny_onRaise ?_))
 show wpAny _ _ (Builtin.SmallTypes.nextOf (.ref i1) >>= _) _ _ _
 cases hx:xs[k1]? with
 | none=>
  refine wpAny_bind (wpAny_nextOf_list_end hh (h1.extBut hs₁.extBut D.i1z) (hl1.extBut hs₁.extBut D.l1z) hx fun h₂ e hs₂ he=> ?_)
  obtain⟨oe,hoe,hce⟩:=he
  have hz₂:IsZip h₂ z TI TO .ellipsis:=hs₂ _ _ D.i1z.symm hz₁
  have hez:e≠z:=fun x=>by subst x;rw [hz₂]at hoe;cases hoe;simp at hce
  refine wpAny_setField_rec hz₂ (by simp) fun h₃ _ hs₃=>hE h₃ e (fun c o c1 _ c3 _ x=>hs₃.extBut _ _ c1 (hs₂ _ _ c3 (hs₁.extBut _ _ c1 x))) ⟨oe,hs₃.extBut _ _ hez hoe,hce⟩
 | some x=>
  have hy:ys[k2]? =none:=by rcases hend with h | h;rw [hx]at h;cases h;exact h
  refine wpAny_bind (wpAny_nextOf_list_item (h1.extBut hs₁.extBut D.i1z) (hl1.extBut hs₁.extBut D.l1z) hx fun h₂ h1₂ hs₂=>wpAny_pure ?_)
  have hTO₂:IsPair h₂ TO a b:=hs₂.extBut _ _ D.TOi1 (hs₁.extBut _ _ D.TOz hTO)
  refine wpAny_bind (wpAny_seqItems hTO₂ rfl ?_)
  refine wpAny_bind (wpAny_updateSeq_pair hTO₂ fun h₃ hTO₃ hs₃=> ?_)
  refine wpAny_bind (wpAny_letGo (wpAny_pure ?_))
  refine wpAny_bind (wpAny_bind (wpAny_onRaise ?_))
  show wpAny _ _ (Builtin.SmallTypes.nextOf (.ref i2) >>= _) _ _ _
  refine wpAny_bind (L2.nextOf_tup_end hh (((h2.extBut hs₁.extBut D.i2z).extBut hs₂.extBut D.i12.symm).extBut hs₃.extBut D.TOi2.symm)
   (((hl2.extBut hs₁.extBut D.l2z).extBut hs₂.extBut D.l2i1).extBut hs₃.extBut D.l2TO) hy fun h₄ e hs₄ he=> ?_)
  obtain⟨oe,hoe,hce⟩:=he
  have hz₄:IsZip h₄ z TI TO .ellipsis:=hs₄ _ _ D.i2z.symm (hs₃.extBut _ _ D.TOz.symm (hs₂.extBut _ _ D.i1z.symm hz₁))
  have hez:e≠z:=fun x=>by subst x;rw [hz₄]at hoe;cases hoe;simp at hce
  refine wpAny_setField_rec hz₄ (by simp) fun h₅ _ hs₅=>hE h₅ e (fun c o c1 c2 c3 c4 x=>hs₅.extBut _ _ c1 (hs₄ _ _ c4 (hs₃.extBut _ _ c2 (hs₂.extBut _ _ c3 (hs₁.extBut _ _ c1 x))))) ⟨oe,hs₅.extBut _ _ hez hoe,hce⟩
theorem qf {z TI TO i1 i2 l1 l2:Addr}{k1 k2:Nat}{xs ys:Array Value}{x y a b:Value}{Q:Option Value->Shared->Prop}(D:ZipApart z TI TO i1 i2 l1 l2)
 (hz:IsZip s.heap z TI TO .none) (hTI:IsPair s.heap TI (.ref i1) (.ref i2)) (hTO:IsPair s.heap TO a b)
 (h1:s.heap.IsListIter i1 l1 k1) (h2:s.heap.IsTupleIter i2 l2 k2) (hl1:s.heap.IsList l1 xs) (hl2:s.heap.IsTuple l2 ys) (hx:xs[k1]? =some x) (hy:ys[k2]? =some y)
 (hQ: ∀h',IsZip h' z TI TO (rawInt s.heap.objs.size)->IsPair h' TO x y->h'.IsListIter i1 l1 (k1+1)->h'.IsTupleIter i2 l2 (k2+1)->IsPair h' s.heap.objs.size x y->h'.objs.size=s.heap.objs.size+1 →
   (∀ c o,c≠z->c≠TO->c≠i1->c≠i2->s.heap.get? c=some o->h'.get? c=some o)->Q (some (.ref s.heap.objs.size)) { s with heap:=h' }):
 wpAny (model prog w) A (pyNext (.ref z)) Q E s:=by
 have hT:s.TypeIs (.ref z) "zip" :=⟨_,hz,rfl⟩
 unfold pyNext
 exact wpAny_bind (wpAny_attempt (wpAny_callSpecial?_slot (name:=Str.ofString "__next__") hT F.slot_zip_next
  (wpAny_call_entry F.slot_zip_next hT F.entry_zip_next
    (zq D hz hTI hTO h1 h2 hl1 hl2 hx hy fun h' a1 a2 a3 a4 a5 a6 a7=>wpAny_pure (hQ h' a1 a2 a3 a4 a5 a6 a7)) (F.args_zip_next_1 _))))
theorem wg {z TI TO i1 i2 l1 l2:Addr}{k1 k2:Nat}{xs ys:Array Value}{a b:Value}{Q:Option Value->Shared->Prop}(hh:A.handled=none) (D:ZipApart z TI TO i1 i2 l1 l2)
 (hz:IsZip s.heap z TI TO .none) (hTI:IsPair s.heap TI (.ref i1) (.ref i2)) (hTO:IsPair s.heap TO a b)
 (h1:s.heap.IsListIter i1 l1 k1) (h2:s.heap.IsTupleIter i2 l2 k2) (hl1:s.heap.IsList l1 xs) (hl2:s.heap.IsTuple l2 ys) (hend:xs[k1]? =none\/ys[k2]? =none)
 (hQ: ∀h',(∀ c o,c≠z->c≠TO->c≠i1->c≠i2->s.heap.get? c=some o->h'.get? c=some o)->Q none { s with heap:=h' }):wpAny (model prog w) A (pyNext (.ref z)) Q E s:=by
 have hT:s.TypeIs (.ref z) "zip" :=⟨_,hz,rfl⟩
 unfold pyNext
 refine wpAny_bind (wpAny_attempt (wpAny_callSpecial?_slot (name:=Str.ofString "__next__") hT F.slot_zip_next
  (wpAny_call_entry F.slot_zip_next hT F.entry_zip_next (Ws hh D hz hTI hTO h1 h2 hl1 hl2 hend fun h' e hk he=> ?_) (F.args_zip_next_1 _))))
 obtain⟨o,ho,hc⟩:=he
 refine wpAny_bind (wpAny_isInstance (T:= "StopIteration") (b:=true) ⟨o,ho,hc⟩ isSubtype_stop ?_)
 exact wpAny_pure (hQ _ hk)
end
abbrev zipT1 (h:Heap) (l1:Addr):Heap:=h.push { cls:= .type "list_iterator",data:= .fields #[.ref l1,.int 0 0] }
abbrev zipT2 (h:Heap) (l1 l2:Addr):Heap:=(zipT1 h l1).push { cls:= .type "tuple_iterator",data:= .fields #[.ref l2,.int 0 0] }
abbrev zipT3 (h:Heap) (l1 l2:Addr):Heap:=(zipT2 h l1 l2).push { cls:= .type "tuple",data:= .seq #[.ref h.objs.size,.ref (zipT1 h l1).objs.size] }
abbrev zipT4 (h:Heap) (l1 l2:Addr):Heap:=(zipT3 h l1 l2).push { cls:= .type "tuple",data:= .seq #[.none,.none] }
abbrev zipT5 (h:Heap) (l1 l2:Addr):Heap:=(zipT4 h l1 l2).push { cls:= .type "zip",data:= .fields #[.none,.bool false,.bool false,.ref (zipT2 h l1 l2).objs.size,.ref (zipT3 h l1 l2).objs.size] }
theorem Xp (l1 l2:Addr) (xs ys:Array Value):
 Meets (Builtin.«zip.__new__» ⟨[.type "zip",.ref l1,.ref l2],[]⟩) (fun _ R s=>s.heap.IsList l1 xs/\s.heap.IsTuple l2 ys ∧
  R (.ok (.ret (.ref (zipT4 s.heap l1 l2).objs.size))) { s with heap:=zipT5 s.heap l1 l2 }):=
 .of_wp fun prog w A R s h=>by
  obtain⟨hp,g,d,tk,os⟩:=s;obtain⟨hl1,hl2,h⟩:=h
  have hsub:=sub_zip
  have hL1:Heap.IsList (Shared.heap ⟨hp,g,d,tk,os⟩) l1 xs:=hl1
  have hL2:Heap.IsTuple (Shared.heap ⟨hp.push { cls:= .type "list_iterator",data:= .fields #[.ref l1,.int 0 0] },g,d,tk,os⟩) l2 ys:=Heap.IsTuple.push hl2 _
  wp_walk using wpAny_pyIter_list hL1,wpAny_pyIter_tuple hL2
  exact⟨_,rfl,h⟩
section
variable {prog:Program}{w:World}{A:Around}{E:Value->Shared->Prop}{s:Shared}
theorem xB {l1 l2:Addr}{xs ys:Array Value}{Q:Value->Shared->Prop}(hl1:s.heap.IsList l1 xs) (hl2:s.heap.IsTuple l2 ys)
 (h: ∀h',IsZip h' (s.heap.objs.size+4) (s.heap.objs.size+2) (s.heap.objs.size+3) .none->IsPair h' (s.heap.objs.size+2) (.ref s.heap.objs.size) (.ref (s.heap.objs.size+1)) →
   IsPair h' (s.heap.objs.size+3) .none .none->h'.IsListIter s.heap.objs.size l1 0->h'.IsTupleIter (s.heap.objs.size+1) l2 0->h'.objs.size=s.heap.objs.size+5 →
   (∀ c o,s.heap.get? c=some o->h'.get? c=some o)->Q (.ref (s.heap.objs.size+4)) { s with heap:=h' }):
 wpAny (model prog w) A (call (.type "zip") [.ref l1,.ref l2]) Q E s:=by
 refine callType_new F.called_zip (by decide) (F.typeCall_zip_2 _ _) (F.newCall_zip_2 _ _) (fun obj=>F.args_object_init_3 obj _ _) F.entry_zip_new
  (Xp l1 l2 xs ys) ⟨hl1,hl2,?_⟩
 have z1:(zipT1 s.heap l1).objs.size=s.heap.objs.size+1:=Heap.size_push ..
 have z2:(zipT2 s.heap l1 l2).objs.size=s.heap.objs.size+2:=by rw [Heap.size_push,z1]
 have z3:(zipT3 s.heap l1 l2).objs.size=s.heap.objs.size+3:=by rw [Heap.size_push,z2]
 have z4:(zipT4 s.heap l1 l2).objs.size=s.heap.objs.size+4:=by rw [Heap.size_push,z3]
 have z5:(zipT5 s.heap l1 l2).objs.size=s.heap.objs.size+5:=by rw [Heap.size_push,z4]
 have g5:(zipT5 s.heap l1 l2).get? (zipT4 s.heap l1 l2).objs.size=some _:=Heap.get?_push_size _ rfl
 have g4:(zipT5 s.heap l1 l2).get? (zipT3 s.heap l1 l2).objs.size=some _:=Heap.get?_push_of_some _ (Heap.get?_push_size _ rfl)
 have g3:(zipT5 s.heap l1 l2).get? (zipT2 s.heap l1 l2).objs.size=some _:=Heap.get?_push_of_some _ (Heap.get?_push_of_some _ (Heap.get?_push_size _ rfl))
 have g2:(zipT5 s.heap l1 l2).get? (zipT1 s.heap l1).objs.size=some _:=Heap.get?_push_of_some _ (Heap.get?_push_of_some _ (Heap.get?_push_of_some _ (Heap.get?_push_size _ rfl)))
 have g1:(zipT5 s.heap l1 l2).get? s.heap.objs.size=some _:=Heap.get?_push_of_some _ (Heap.get?_push_of_some _ (Heap.get?_push_of_some _ (Heap.get?_push_of_some _ (Heap.get?_push_size _ rfl))))
 show _/\_
 rw [z2,z3,z4]at g5
 rw [z1,z2]at g3
 rw [z3]at g4
 rw [z1]at g2
 rw [z4]
 exact⟨⟨_,g5,rfl⟩,h _ g5 g3 g4 ⟨_,g1,rfl,rfl⟩ ⟨_,g2,rfl,rfl⟩ z5 fun c o x=>
  Heap.get?_push_of_some _ (Heap.get?_push_of_some _ (Heap.get?_push_of_some _ (Heap.get?_push_of_some _ (Heap.get?_push_of_some _ x))))⟩
end
end PySem
namespace L2
open PySem PySem.Spec PyProof.Rows
section
variable {X:Cx}{pins:List (Addr×Obj)}{σ:St}{H:Hp}{s:Shared}{h':Heap}
theorem Inv.turnedL {t':Nat}{ch:List Addr}(I:Inv X pins σ H s) (k: ∀b o,b∉ch->s.heap.get? b=some o->h'.get? b=some o) (hf: ∀b∈ch,FpOk X pins H b):Inv X pins σ H { s with heap:=h',toks:=t' }:=by
 have nit: ∀b u,H b=some u->b∉ch:=fun b u q z=>by rw [(hf b z).1]at q;cases q
 refine I.step (g':=s.gens) (d':=s.drawn) (ch:=ch) (fun b hb=> ?_) (fun b o _ _ hc e _=>k b o hc e) (fun b o _ _ hc e _=>⟨o.slots,k b o hc e⟩) (fun _ _ _ _ n=>n)
  (fun b o hc e=>⟨o,k b o hc e⟩) (fun _ _ e=>e) (fun _ _ _ e=>e) (fun b ps e=>⟨#[],by rw [e];simp⟩) (fun m hm=> ?_) (fun b u q=> ?_) I.bare
 ·obtain⟨f0,f1,f2,f3,f4,f5⟩:=hf b hb
  exact⟨f3,f1,f4,f5⟩
 ·obtain⟨o,es,ep,ho,r⟩:=hm
  exact⟨o,es,ep,k _ o (fun z=>(hf _ z).2.1 rfl) ho,r⟩
 ·refine(I.hok b u q).stay (fun c v hc q'=>k c v ?_ q') (fun _ q=>q) fun _ _ q=>q
  rcases hc with z | z
  ·rw [z];exact nit b u q
  ·exact nit c _ z
end
def Itz (K:PySem.W.Frag) (l a:Addr):It:=
 ⟨fun i H=> ∃xs x ys y,SqL K H l xs/\xs[i]? =some x/\SqT K H a ys/\ys[i]? =some y,
   fun i H v H'=> ∃p x y,H p=none/\v= .ref p/\H'=upd H p (.tup [x,y])/\(∀ xs,SqL K H l xs->xs[i]? =some x)/\ ∀ys,SqT K H a ys->ys[i]? =some y,
   fun i H=> ∃xs ys,SqL K H l xs/\SqT K H a ys/\min xs.length ys.length=i⟩
theorem jZ {P:Program}{w:World}{K:PySem.W.Frag}{elts:List Expr}{x1:Nat}{tp:Pos}(z TI TO i1 i2 l a:Addr) (D:ZipApart z TI TO i1 i2 l a):Turn P w K (.Tuple elts x1 tp) (Itz K l a) [z,TI,TO,i1,i2] z
 (fun i h=>IsZip h z TI TO .none/\IsPair h TI (.ref i1) (.ref i2)/\(∃ c d,IsPair h TO c d)/\h.IsListIter i1 l i/\h.IsTupleIter i2 a i) where
 mem:=by simp
 obj:=fun i h st b hb=>by
  obtain⟨hz,hTI,⟨c,d,hTO⟩,⟨o1,q1,c1,d1⟩,⟨o2,q2,c2,d2⟩⟩:=st
  simp only [List.mem_cons,List.not_mem_nil,or_false]at hb
  rcases hb with e | e | e | e | e
  ·rw [e];exact⟨_,hz,fun v z=>by cases z⟩
  ·rw [e];exact⟨_,hTI,fun v z=>by cases z⟩
  ·rw [e];exact⟨_,hTO,fun v z=>by cases z⟩
  ·rw [e];exact⟨o1,q1,fun v z=>by rw [d1]at z;cases z⟩
  ·rw [e];exact⟨o2,q2,fun v z=>by rw [d2]at z;cases z⟩
 keep:=fun i h h' st k=>by
  obtain⟨hz,hTI,⟨c,d,hTO⟩,h1,h2⟩:=st
  exact⟨k z (by simp) _ hz,k TI (by simp) _ hTI,⟨c,d,k TO (by simp) _ hTO⟩,h1.at fun o e=>k i1 (by simp) o e,h2.at fun o e=>k i2 (by simp) o e⟩
 item:=by
  intro X hP hw hK hc i pins s σ H E I hf st hg
  subst hP hw hK
  obtain⟨hz,hTI,⟨c,d,hTO⟩,h1,h2⟩:=st
  obtain⟨xs,x,ys,y,hq,hx,hq',hy⟩:=hg
  obtain⟨its,rv,p,_⟩:=I.list hq
  obtain⟨its2,rv2,p2,_⟩:=I.tuple hq'
  obtain⟨u,hu,ru⟩:=rv.get hx
  obtain⟨u2,hu2,ru2⟩:=rv2.get hy
  refine qf D hz hTI hTO h1 h2 p.isList (show s.heap.IsTuple a its2.toArray from p2) (x:=u) (y:=u2) (by simpa using hu) (by simpa using hu2) fun h3 a1 a2 a3 a4 a5 a6 hk=> ?_
  refine⟨_,rfl,wpAny_letOwnedTupleGo_zip (s:= { s with heap:=h3 }) a1 fun h4 hz4 sb=> ?_⟩
  have sb:Heap.SameBut z h3 h4:=sb
  have lt: ∀ {c o},s.heap.get? c=some o->c≠s.heap.objs.size:=fun e=>Nat.ne_of_lt (Heap.lt_size e)
  have hn:H s.heap.objs.size=none:=I.hok.fresh (Nat.le_refl _)
  have I1:Inv X pins σ (upd H s.heap.objs.size (.tup [x,y])) { s with heap:=s.heap.push { cls:= .type "tuple",data:= .seq #[u,u2] } }:=by
   refine I.laid (t':=s.toks) (fun b o q=>Heap.get?_push_of_some _ q) (Nat.le_refl _) ⟨by simp only [List.length_cons,List.length_nil];rw [sizeLine_eq];decide,[u,u2],.cons ru (.cons ru2 .nil),?_⟩
   exact⟨_,Heap.get?_push_size s.heap rfl,rfl,rfl,_,rfl⟩
  have fz: ∀b∈ [z,TI,TO,i1,i2],b≠s.heap.objs.size:=fun b hb=>by
   obtain⟨o1,q1,_⟩:=h1
   obtain⟨o2,q2,_⟩:=h2
   simp only [List.mem_cons,List.not_mem_nil,or_false]at hb
   rcases hb with e | e | e | e | e
   ·rw [e];exact lt hz
   ·rw [e];exact lt hTI
   ·rw [e];exact lt hTO
   ·rw [e];exact lt q1
   ·rw [e];exact lt q2
  have I2:=I1.turnedL (t':=s.toks) (h':=h4) (ch:= [z,TI,TO,i1,i2]) (fun b o hb q=>by
   simp only [List.mem_cons,List.not_mem_nil,or_false,not_or]at hb
   obtain⟨b1,b2,b3,b4,b5⟩:=hb
   refine(sb.2 b b1).trans ?_
   rcases Heap.get?_push_cases (h:=s.heap) (show (s.heap.push { cls:= .type "tuple",data:= .seq #[u,u2] }).get? b=some o from q)with⟨e1,e2⟩ | e1
   ·rw [e1,e2];exact a5
   ·exact hk b o b1 b3 b4 b5 e1) (fun b hb=>by
   obtain⟨f0,f⟩:=hf b hb
   exact⟨by rw [ja (fz b hb)];exact f0,f⟩)
  refine⟨.ref s.heap.objs.size,_,I2,rfl,⟨s.heap.objs.size,x,y,hn,rfl,rfl,fun zs hzs=>by rw [I.list_inj hzs hq];exact hx,fun zs hzs=>by rw [I.tuple_inj hzs hq'];exact hy⟩,?_,fun b hb=>by rw [ja (fz b hb)];exact(hf b hb).1⟩
  exact⟨hz4,(sb.2 TI D.TIz).trans (hk _ _ D.TIz D.TITO D.TIi1 D.TIi2 hTI),⟨_,_,(sb.2 TO D.TOz).trans a2⟩,a3.at fun o e=>(sb.2 i1 D.i1z).trans e,a4.at fun o e=>(sb.2 i2 D.i2z).trans e⟩
 done:=by
  intro X hP hw hK hc i pins s σ H E I hf st hg
  subst hP hw hK
  obtain⟨hz,hTI,⟨c,d,hTO⟩,h1,h2⟩:=st
  obtain⟨xs,ys,hq,hq',hx⟩:=hg
  obtain⟨its,rv,p,_⟩:=I.list hq
  obtain⟨its2,rv2,p2,_⟩:=I.tuple hq'
  have hl:=rv.length
  have hl2:=rv2.length
  have hend:its.toArray[i]? =none\/its2.toArray[i]? =none:=by
   rcases Nat.le_total xs.length ys.length with q | q
   ·exact .inl (Array.getElem?_eq_none (by rw [List.size_toArray];rw [Nat.min_eq_left q]at hx;omega))
   ·exact .inr (Array.getElem?_eq_none (by rw [List.size_toArray];rw [Nat.min_eq_right q]at hx;omega))
  exact wg (I.ok.hd hc) D hz hTI hTO h1 h2 p.isList (show s.heap.IsTuple a its2.toArray from p2) hend fun h3 hk=>⟨rfl,I.turnedL (t':=s.toks) (ch:= [z,TI,TO,i1,i2]) (fun b o hb q=>by
   simp only [List.mem_cons,List.not_mem_nil,or_false,not_or]at hb
   exact hk b o hb.1 hb.2.2.1 hb.2.2.2.1 hb.2.2.2.2 q) hf⟩
 self:=fun _ _ _ _ _ st h=>wpAny_pyIter_zip st.1 h
theorem Q0 (n l t:Nat) (h1:l<n) (h2:t<n):ZipApart (n+4) (n+2) (n+3) n (n+1) l t:=by
 constructor<;>exact fun e=>absurd (show @Eq Nat _ _ from e) (by omega)
def iZip (K:PySem.W.Frag) (ta:TA):TI:=fun σ H R=>ta σ H fun vs H1=> ∃l a xs ys,vs= [.ref l,.ref a]/\SqL K H1 l xs/\SqT K H1 a ys/\R (Itz K l a) H1
theorem WY:bootBuiltins "zip" =some (.type "zip"):=by decide +kernel
theorem jau {X:Cx}{elts:List Expr}{x1:Nat}{tp:Pos}{a b:Expr}{ta:TA}{p pos:Pos}(hg:Gl X "zip") (hm:X.mg "zip" =none) (ha:PA X [a,b] ta) (hs:starEach [a,b] X.env= [(false,eval a X.env),(false,eval b X.env)]:=by rfl) (hs2:starEach [b] X.env= [(false,eval b X.env)]:=by rfl):PI X (.Tuple elts x1 tp) (.Call (.Name "zip" p) [a,b] [] pos) (iZip X.K ta):=by
 intro pins s σ H R I h
 refine Call_ (Qk I hg hm WY (PyProof.Rows.callWith_type1 (thn (ha pos pins s σ H _ I h) fun us s1 ⟨vs,H1,I1,r1,q1⟩=> ?_) (by rw [hs,hs2]) (by rw [hs2];rfl)))
 obtain⟨l,t,xs,ys,e,hq,hq',q⟩:=q1
 subst e
 cases r1 with
 | cons r rr=>
  cases rr with
  | cons r' rr'=>
   cases rr'
   cases r
   cases r'
   obtain⟨its,rv,pl,_⟩:=I1.list hq
   obtain⟨its2,rv2,pt,_⟩:=I1.tuple hq'
   have hL:s1.heap.IsList l its.toArray:=pl.isList
   have hT:s1.heap.IsTuple t its2.toArray:=pt
   have l1:l<s1.heap.objs.size:=by obtain⟨o,e,_⟩:=hL;exact Heap.lt_size e
   have l2:t<s1.heap.objs.size:=by obtain⟨o,e,_⟩:=hT;exact Heap.lt_size e
   refine xB hL hT fun h3 a1 a2 a3 a4 a5 a6 hk=> ?_
   refine wpAny_pyIter_zip (s:= { s1 with heap:=h3 }) a1 ?_
   refine⟨s1.heap.objs.size+4,[s1.heap.objs.size+4,s1.heap.objs.size+2,s1.heap.objs.size+3,s1.heap.objs.size,s1.heap.objs.size+1],_,_,H1,rfl,I1.kept (t':=s1.toks) hk,
    jZ (s1.heap.objs.size+4) (s1.heap.objs.size+2) (s1.heap.objs.size+3) s1.heap.objs.size (s1.heap.objs.size+1) l t (Q0 _ l t l1 l2),⟨a1,a2,⟨_,_,a3⟩,a4,a5⟩,fun c hb=> ?_,q⟩
   have hc:s1.heap.objs.size<=c:=by
    simp only [List.mem_cons,List.not_mem_nil,or_false]at hb
    rcases hb with e | e | e | e | e<;>rw [e]<;>first | exact Nat.le_refl _ | exact Nat.le_add_right _ _
   exact I1.fpOk hc (I1.hok.fresh hc)
end L2
namespace HT
open PySem PyProof.Rows
section
open PySem.SeqAt
open PySem.AutoSeq1 (wpAny_loadPart')
open PySem.MeetsSeq PySem.MeetsSeq2 PySem.MeetsSeq3
end
section
variable {prog:Program}{w:World}{A:Around}{E:Value->Shared->Prop}{s:Shared}
end
end HT
namespace L2
open PySem PySem.Spec PyProof.Rows
section
variable {X:Cx}
def rLtL (K:PySem.W.Frag):R2:=fun x y H Q=> ∃a b ns ms,x= .ref a/\y= .ref b/\SqL K H a (ns.map V.int)/\SqL K H b (ms.map V.int)/\ns.length=ms.length/\Q (.bl (HT.lexLt ns ms)) H
end
end L2
set_option maxHeartbeats 8000000
namespace L2
open PySem PySem.Spec PyProof.Rows
def stepS (σ:List Str) (v:Str):List Str:=if σ.any (· ==v)then σ else σ++ [v]
def metS (val:Nat->Str) (i:Nat):List Str:=((List.range i).map val).foldl stepS []
theorem qaE (val:Nat->Str):metS val 0= []:=rfl
section
variable {prog:Program}{w:World}{A:Around}{R:Result->Shared->Prop}{I:Addr}{fp wr:List Addr}{G:Array GenState->Array GenState->Prop}{n:Nat}{P:Nat->Value->Prop}{St:Nat->Shared->Prop}
end
end L2
namespace L2
open PySem PySem.Spec PyProof.Rows
section
variable {prog:Program}{w:World}{A:Around}{E:Value->Shared->Prop}{s:Shared}
set_option maxHeartbeats 8000000 in
end
end L2
namespace L2
open PySem PySem.Spec PyProof.Rows
section
variable {X:Cx}
def unlS (ss:List Str):Nat:=(metS (fun i=>ss.getD i "") ss.length).length
def tLs (K:PySem.W.Frag) (ta:TA):TE:=fun σ H Q=>ta σ H fun vs H1=> ∃a,∃ss:List Str,vs= [.ref a]/\SqL K H1 a (ss.map V.str)/\ss.length<1000/\Q (.int (unlS ss:Nat)) H1
end
end L2
namespace L2
open PySem PySem.Spec PyProof.Rows
open Sem (wp)
abbrev K2:=List (Int ⊕ List Int)
section
variable (prog:Program) (w:World)
inductive Items2 (h:Heap):K2->List Value->Prop
 | nil:Items2 h [] []
 | int {i:Int}{t:Tok}{ks:K2}{vs:List Value}:Items2 h ks vs->Items2 h (.inl i::ks) (.int i t::vs)
 | tup {l:List Int}{a:Addr}{ks:K2}{vs:List Value}:IsTupleKey (intKind prog w) h l a->Items2 h ks vs->Items2 h (.inr l::ks) (.ref a::vs)
def IsKey2 (h:Heap) (ks:K2) (a:Addr):Prop:= ∃o items n,h.get? a=some o/\o.cls= .type "tuple" /\o.data= .seq items n/\Items2 prog w h ks items.toList
def hash1:(Int ⊕ List Int)->Int
 | .inl i=>(intKind prog w).hash i
 | .inr l=>tupleKeyHash (intKind prog w) l
def draw1:(Int ⊕ List Int)->Nat
 | .inl _=>1
 | .inr l=>l.length+1
def hash2 (ks:K2):Int:=reduceHash (Builtin.Tuple.tupleHashOf (ks.map (hash1 prog w)))
def draw2 (ks:K2):Nat:=(ks.map draw1).sum+1
end
section
variable {prog:Program}{w:World}{h:Heap}
variable {A:Around}{E:Value->Shared->Prop}{s:Shared}
end
abbrev WK:=Int×List Int×List Int
def to2 (k:WK):K2:= [.inl k.1,.inr k.2.1,.inr k.2.2]
end L2
namespace L2
open PySem PySem.Spec PyProof.Rows
open Sem (wp)
def hashL (l:List Int):Int:=reduceHash (Builtin.Tuple.tupleHashOf (l.map hashInt))
def hashW (k:WK):Int:=reduceHash (Builtin.Tuple.tupleHashOf [hashInt k.1,hashL k.2.1,hashL k.2.2])
def entW (x:WK×Addr×Value):DictEntry:=⟨hashW x.1,.ref x.2.1,x.2.2⟩
def DW (a:Addr) (xs:List (WK×Addr×Value)):HO:= .ext fun h=>(a==sysModules)=false/\xs.length<=sizeLine/\(xs.map (·.1)).Nodup/\ ∃o es ep,h.get? a=some o/\o.ExactDict/\o.data= .dict es ep/\es.toList=xs.map entW
section
variable {P:Program}{w:World}{H:Hp}{h:Heap}{a:Addr}{xs:List (WK×Addr×Value)}
end
section
variable {X:Cx}{pins:List (Addr×Obj)}{σ:St}{H:Hp}{s:Shared}{a b:Addr}{k:WK}{xs:List (WK×Addr×Value)}{r:Value}{A:Around}{E:Value->Shared->Prop}
theorem qao (I:Inv X pins σ H s):sysModules<s.heap.objs.size:=by
 have h:mainGlobals<s.heap.objs.size:=(I.mod.glob.keeps I.bk).lt
 exact Nat.lt_trans (by decide) h
def tDNewW:TE:=fun _ H Q=> ∀p,H p=none->Q (.ref p) (upd H p (DW p []))
end
end L2
namespace L2
open PySem PySem.Spec PyProof.Rows
open AutoSeq1 (wpAny_loadPart')
open MeetsSeq MeetsSeq2 MeetsSeq3 SeqRoads2 PySem.SeqAt
end L2
namespace L2
open PySem PySem.Spec PyProof.Rows PyProof.Rows.KTD PyProof.V
def flV:PyData->V
 | .int i=> .int i
 | .str x=> .str x
 | .bool b=> .bl b
 | _=> .non
theorem XM {d:PyData}{u:Value}(hd:flatData d=true) (h:Flat u d):RelV (flV d) u:=by
 cases d with
 | none=>rw [h.none_inv];rfl
 | bool b=>rw [h.bool_inv];rfl
 | int i=>obtain⟨t,rfl⟩:=h.int_inv;exact⟨t,rfl⟩
 | str x=>obtain⟨t,rfl⟩:=h.str_inv;exact⟨t,rfl⟩
 | list _=>cases hd
 | tuple _=>cases hd
 | dict _=>cases hd
abbrev datF (T:List (Str×PyData)):List (Str×Dat):=T.map fun p=>(p.1,Dat.flat p.2)
section
variable {k:Str}{h:Heap}{P:Value->Prop}
theorem j6 {x:Str}{d:PyData}{T:List (Str×PyData)}(e:k=x):datumAt k ((x,d)::T)=some d:=if_pos (decide_eq_true e)
theorem Zu {x:Str}{d:PyData}{T:List (Str×PyData)}(e: ¬k=x):datumAt k ((x,d)::T)=datumAt k T:=if_neg (by simp [e])
theorem wQ: ∀(T:List (Str×PyData)){d:PyData},datumAt k T=some d->inKeys k (datF T)=true
 | [],_,q=>by cases q
 | (x,d')::T,d,q=>by
  show(decide (k=x)||inKeys k (datF T))=true
  by_cases e:k=x
  ·rw [decide_eq_true e];rfl
  ·rw [Zu e]at q;rw [wQ T q,Bool.or_true]
theorem opn {d:PyData}(q: ∀v,Flat v d->P v):Opened h P (.flat d):=by
 cases d with
 | none=>exact q _ Flat.none
 | bool b=>exact q _ (Flat.bool b)
 | int i=>exact fun t=>q _ (Flat.int i t)
 | str x=>exact fun t=>q _ (Flat.str x t)
 | list _=>exact q
 | tuple _=>exact q
 | dict _=>exact q
theorem qE: ∀(T:List (Str×PyData)),(∀ d v,datumAt k T=some d->Flat v d->P v)->EachL h k P (datF T)
 | [],_=>trivial
 | (x,d)::T,q=>by
  by_cases e:k=x
  ·exact eachL_hit e (opn fun v f=>q d v (j6 e) f)
  ·exact eachL_miss e (qE T fun d' v hd f=>q d' v ((Zu e).trans hd) f)
theorem xQ {els:Prop}: ∀(T:List (Str×PyData)),(∀ d v,datumAt k T=some d->Flat v d->P v)->(datumAt k T=none->els)->Each h k P els (datF T)
 | [],_,n=>n rfl
 | (x,d)::T,q,n=>by
  by_cases e:k=x
  ·exact each_hit e (opn fun v f=>q d v (j6 e) f)
  ·exact each_miss e (xQ T (fun d' v hd f=>q d' v ((Zu e).trans hd) f) fun hd=>n ((Zu e).trans hd))
end
def TabK (K:PySem.W.Frag) (a:Addr) (T:List (Str×PyData)):Prop:=tabLook flatLooks (fun b=>K.lookup b) a T=true
section
variable {X:Cx}{pins:List (Addr×Obj)}{σ:St}{H:Hp}{s:Shared}
theorem Zl {a:Addr}{T:List (Str×PyData)}(I:Inv X pins σ H s) (hl:TabK X.K a T):Here s.heap s.heap a (datF T):=
 ⟨(tab_of_look (fun _ _ x=>flat_of_looks x) I.kIn hl).text,fun _ _ e=>e⟩
theorem QS (T:List (Str×PyData)) (h: ∀p∈T,flatData p.2=true):((datF T).all fun p=>KTD.plain p.2)=true:=by
 rw [List.all_map,List.all_eq_true]
 rintro ⟨x,d⟩ hp
 have:=h _ hp
 cases d<;>first | rfl | cases this
def rIxTab (K:PySem.W.Frag):R2:=fun x y H Q=> ∃a T k d,x= .ref a/\y= .str k/\TabK K a T/\(∀ p∈T,flatData p.2=true)/\datumAt k T=some d/\flatData d=true/\Q (flV d) H
theorem jaA:IxR X (rIxTab X.K):=by
 intro value slice pins s σ H x y v u Q I rx ry h hs
 obtain⟨a,T,k,d,rfl,rfl,hl,ha,hd,hf,q⟩:=h
 cases rx
 obtain⟨t,rfl⟩:=ry
 refine item_textA (Zl I hl) (QS T ha) (wQ T hd) (qE T fun d' w e f=> ?_) hs
 rw [hd]at e
 cases e
 exact⟨flV d,H,I.tok _,XM hf f,q⟩
theorem zaC:IsTy X "dict" (fun x _=> ∃a T,x= .ref a/\TabK X.K a T):=by
 intro pins s σ H x v I r h
 obtain⟨a,T,rfl,hl⟩:=h
 cases r
 exact⟨(Zl I hl).typeIs,(Zl I hl).noDict⟩
def rGetTab (K:PySem.W.Frag):V->List V->Hp->VK->Prop:=fun x xs H Q=> ∃a T k z,x= .ref a/\xs= [.str k,z]/\TabK K a T ∧
 (∀ d,datumAt k T=some d->flatData d=true/\Q (flV d) H)/\(datumAt k T=none->Q z H)
theorem zat:MtM X "dict.get" (rGetTab X.K):=by
 intro pins s σ H x vs v us Q I rx rv h
 obtain⟨a,T,k,z,rfl,rfl,hl,h1,h2⟩:=h
 cases rx
 obtain⟨u,w,rfl,r1,r2⟩:=QK rv
 obtain⟨t,rfl⟩:=r1
 exact get2_text (Zl I hl) (xQ T (fun d w' e f=>⟨flV d,H,I.tok _,XM (h1 d e).1 f,(h1 d e).2⟩) fun e=>⟨z,H,I.tok _,r2,h2 e⟩)
theorem jaE {i:Nat}{x:Str}{p:Pos}{v:V}{E:Value->Shared->Prop}{Q:Value->Shared->Prop}(hN:X.N[i]? =some x) (hv:Vis X.env.scope x) (I:Inv X pins σ H s) (e:σ[i]? =some (some v)) (q: ∀u,RelV v u->Q u s)
 (hd:(x==("__debug__" :Str))=false) (hcd:(x==("__classdict__" :Str))=false):wpAny (model X.prog X.w) X.A (eval (.Name x p) X.env) Q E s:=by
 obtain⟨m,hn,hl⟩:=I.loc
 obtain⟨u,r,l⟩:=hl i x v hN e hv
 have q:=q u r
 rcases l with⟨k1,z⟩ | ⟨k1 | k1,c,z1,z2⟩
 ·exact wpAny_Name (wpAny_loadName_local I.ok.kind k1 hn z q) hd
 ·exact wpAny_Name (wpAny_loadName_cell I.ok.kind k1 z1 z2 q) hd
 ·exact wpAny_Name (wpAny_loadName_free I.ok.kind k1 z1 z2 q hcd) hd
def fmV:V->Option Str
 | .str x=>some x
 | .int i=>if i.natAbs.log2<1920 then some (Str.ofString (toString i))else none
 | _=>none
def fmVs (σ:St):List (Str ⊕ Nat)->Option Str
 | []=>some Str.empty
 | .inl x::ps=>(fmVs σ ps).map (x++ ·)
 | .inr i::ps=>(((σ[i]?).bind id).bind fmV).bind fun x=>(fmVs σ ps).map (x++ ·)
def partOk (X:Cx):(Str ⊕ Nat)->Expr->Prop
 | .inl x,e=> ∃j p,e= .Constant (.str x) j p
 | .inr i,e=> ∃x p q,e= .FormattedValue (.Name x p) (-1) none q/\X.N[i]? =some x/\Vis X.env.scope x/\(x==("__debug__" :Str))=false/\(x==("__classdict__" :Str))=false
def partsOk (X:Cx):List (Str ⊕ Nat)->List Expr->Prop
 | [],es=>es= []
 | p::ps,es=> ∃e r,es=e::r/\partOk X p e/\partsOk X ps r
theorem Zx (a b c:Str):a++(b++c)=a++b++c:=congrArg Str.mk (Array.append_assoc ..).symm
theorem xai (a:Str):a++Str.empty=a:=congrArg Str.mk (Array.append_empty ..)
theorem xab (a:Str):Str.empty++a=a:=congrArg Str.mk (Array.empty_append ..)
theorem Wu: ∀(ps:List (Str ⊕ Nat)) (es:List Expr) (acc t:Str) (s:Shared) (Q:Str->Shared->Prop),partsOk X ps es->fmVs σ ps=some t->(acc++t).length<=sizeLine->Inv X pins σ H s->(∀ s',Inv X pins σ H s'->Q (acc++t) s') →
 Joins (model X.prog X.w) X.A X.xe (evalEach es X.env) acc Q s
 | [],es,acc,t,s,Q,ok,e,hl,I,q=>by
  cases ok
  cases e
  have:=q s I
  rwa [xai]at this
 | .inl x::ps,es,acc,t,s,Q,ok,e,hl,I,q=>by
  obtain⟨_,r,rfl,⟨j,p,rfl⟩,ok⟩:=ok
  obtain⟨t',e',rfl⟩:=Option.map_eq_some_iff.mp e
  have ha:=Zx acc x t'
  rw [ha]at hl q
  refine Calls.Constant_str ⟨x,_,rfl,?_,Wu ps r (acc++x) t' _ Q ok e' hl (I.tok _) q⟩
  have:=strLen_append (acc++x) t'
  omega
 | .inr i::ps,es,acc,t,s,Q,ok,e,hl,I,q=>by
  obtain⟨_,r,rfl,⟨x,p,q0,rfl,hN,hv,hd,hcd⟩,ok⟩:=ok
  obtain⟨y,e1,e2⟩:=Option.bind_eq_some_iff.mp e
  obtain⟨v,ev,e3⟩:=Option.bind_eq_some_iff.mp e1
  obtain⟨t',e',rfl⟩:=Option.map_eq_some_iff.mp e2
  have ha:=Zx acc y t'
  rw [ha]at hl q
  have h1:(acc++y).length<=sizeLine:=by rw [strLen_append]at hl;omega
  have h2:y.length<=sizeLine:=by rw [strLen_append]at h1;omega
  have hs:σ[i]? =some (some v):=by
   obtain⟨o,z1,z2⟩:=Option.bind_eq_some_iff.mp ev
   rw [z1];exact congrArg some z2
  refine wpAny_FormattedValue_plain (thn (wv hN hv hd hcd pins s σ H (fun w H'=>w=v/\H'=H) I ⟨v,hs,rfl,rfl⟩) fun u s1 ⟨w,H1,I1,rw1,e4,e5⟩=> ?_)
  subst e4
  rw [e5]at I1
  have fin: ∀tk s2,Inv X pins σ H s2-> ∃y' t,Value.str y tk= .str y' t/\(acc++y').length<=sizeLine/\Joins (model X.prog X.w) X.A X.xe (evalEach r X.env) (acc++y') Q s2:=fun tk s2 I2=>
   ⟨y,tk,rfl,h1,Wu ps r (acc++y) t' s2 Q ok e' hl I2 q⟩
  cases w with
  | str z=>
   cases e3
   obtain⟨tk,rfl⟩:=rw1
   exact wpAny_formatField_str (fin _ _ I1) (fin _ _ (I1.tok _)) h2
  | int j=>
   obtain⟨tk,rfl⟩:=rw1
   have e3:(if j.natAbs.log2<1920 then some (Str.ofString (toString j))else none)=some y:=e3
   split at e3
   ·rename_i hj
    cases e3
    exact wpAny_formatField_int hj (fin _ _ (I1.tok _))
   ·cases e3
  | _=>cases e3
theorem zae {ps:List (Str ⊕ Nat)}{e1 e2:Expr}{es:List Expr}{pos:Pos}(ok:partsOk X ps (e1::e2::es)):PE X (.JoinedStr (e1::e2::es) pos) (fun σ H Q=> ∃t,fmVs σ ps=some t/\t.length<=sizeLine/\Q (.str t) H):=by
 intro pins s σ H Q I ⟨t,e,hl,q⟩
 have ha:=xab t
 refine wpAny_JoinedStr (Wu ps _ Str.empty t s _ ok e (by rw [ha];exact hl) I fun s' I'=> ?_)
 rw [ha]
 exact⟨hl,.str t,H,I'.tok _,⟨_,rfl⟩,q⟩
theorem xU:CallR X (.type "str") (fun xs H Q=> ∃i:Int,xs= [.int i]/\i.natAbs.log2<1920/\Q (.str (Str.ofString (toString i))) H):=by
 intro pins s σ H xs us Q I r h
 obtain⟨i,rfl,hi,q⟩:=h
 obtain⟨u,rfl,ru⟩:=r.one
 obtain⟨t,rfl⟩:=ru
 exact PySem.P.str_of_int hi ⟨.str (Str.ofString (toString i)),H,I.tok _,⟨_,rfl⟩,q⟩
def litOk:List (Str×Str)->List (Option Expr)->List Expr->Prop
 | [],ks,vs=>ks= []/\vs= []
 | (x,y)::r,ks,vs=> ∃j p j' p' ks' vs',ks=some (.Constant (.str x) j p)::ks'/\vs= .Constant (.str y) j' p'::vs'/\litOk r ks' vs'
theorem WM: ∀ {T:List (Str×Str)}{ks:List (Option Expr)}{vs:List Expr},litOk T ks vs->ks.all (·.isSome)=true/\ks.length=T.length/\vs.length=T.length
 | [],_,_,⟨rfl,rfl⟩=>⟨rfl,rfl,rfl⟩
 | (x,y)::r,_,_,⟨j,p,j',p',ks',vs',rfl,rfl,ok⟩=>by
  obtain⟨h1,h2,h3⟩:=WM ok
  exact⟨by simpa using h1,by simp [h2],by simp [h3]⟩
theorem Qy {pos:Pos}: ∀ {T:List (Str×Str)}{ks:List (Option Expr)}{vs:List Expr}{s:Shared}{Q:List (Value×Value)->Shared->Prop},litOk T ks vs →
 (∀ (kvs:List (Str×Value)) (us:List (Value×Value)) (t:Nat),Carries (strKind X.prog X.w) us kvs->FlatPairs PyData.str kvs (T.map fun p=>(PyData.str p.1,PyData.str p.2))->kvs.map (·.1)=T.map (·.1)->Q us { s with toks:=t }) →
 wpAny (model X.prog X.w) X.A (evalPairs (pairTrees ks vs X.env pos)) Q X.xe s
 | [],_,_,s,Q,⟨rfl,rfl⟩,q=>pairTrees_nil_walk (q [] [] s.toks trivial .nil rfl)
 | (x,y)::r,_,_,s,Q,⟨j,p,j',p',ks',vs',rfl,rfl,ok⟩,q=>
  pairTrees_cons_walk (Calls.Constant_str (Calls.Constant_str (Qy ok fun kvs us t c f m=>q ((x,.str y _)::kvs) _ t ⟨strKind_is _ _ _ _,rfl,c⟩ (.cons (Flat.str y _) f) (by simp [m]))))
theorem jr {K:Type} [DecidableEq K]: ∀(more acc:List (K×Value)),((acc++more).map (·.1)).Nodup->merged acc more=acc++more
 | [],acc,_=>by simp [merged]
 | p::more,acc,h=>by
  have e:stored acc p.1 p.2=acc++ [p]:=by
   unfold stored
   rw [if_neg]
   intro z
   obtain⟨b,hb,e⟩:=List.any_eq_true.mp z
   rw [List.map_append,List.nodup_append]at h
   exact h.2.2 b.1 (List.mem_map_of_mem hb) p.1 (by simp) (of_decide_eq_true e)
  show merged (stored acc p.1 p.2) more=_
  rw [e,jr more (acc++ [p]) (by simpa using h)]
  simp
theorem jab {T:List (Str×Str)}{ks:List (Option Expr)}{vs:List Expr}{i:Nat}{x:Str}{p1 p2 pos:Pos}(ok:litOk T ks vs) (h0:T≠ []) (hl:T.length<=15) (hn:(T.map (·.1)).Nodup)
 (hN:X.N[i]? =some x) (hv:Vis X.env.scope x) (hd:(x==("__debug__" :Str))=false) (hcd:(x==("__classdict__" :Str))=false):
 PE X (.Subscript (.Dict ks vs p1) (.Name x p2) pos) (fun σ H Q=> ∃k y,σ[i]? =some (some (.str k))/\T.lookup k=some y/\Q (.str y) H):=by
 intro pins s σ H Q I ⟨k,y,e1,e2,q⟩
 obtain⟨a1,a2,a3⟩:=WM ok
 have hb:sysModules<s.heap.objs.size:=qao I
 refine Subscript_ (wpAny_Dict_walk (knd:=strKind X.prog X.w) a1 (a2.trans a3.symm) (fun z=>h0 (List.length_eq_zero_iff.mp (by rw [← a2,z];rfl))) (by omega) (Qy ok fun kvs us t c f m=>⟨kvs,c,Heap.DictOf.new _,fun h' dd hs=> ?_⟩))
 have I1:Inv X pins σ H { s with heap:=h',toks:=t+us.length }:=I.kept fun b u z=>(hs.2 b (Nat.ne_of_lt (Heap.lt_size z))).trans (Heap.get?_push_of_some _ z)
 refine jaE hN hv I1 e1 (fun u ru=> ?_) hd hcd
 obtain⟨tk,rfl⟩:=ru
 rw [jr kvs [] (by rw [List.nil_append,m];exact hn),List.nil_append]at dd
 refine item_tab_any PyProof.V.same_str (strKind_is _ _ _ _) (D:=T.map fun p=>(PyData.str p.1,PyData.str p.2)) ⟨beq_eq_false_iff_ne.mpr (Ne.symm (Nat.ne_of_lt hb)),kvs,dd,f⟩ (dv:= .str y) ?_ (fun v fv=> ?_) rfl
 ·clear ok h0 hl hn a2 a3 f m
  induction T with
  | nil=>cases e2
  | cons p T ih=>
   rw [List.lookup_cons]at e2
   by_cases z:k=p.1
   ·subst z
    rw [beq_self_eq_true]at e2
    cases e2
    simp [PySem.Spec.lookup,PyProof.V.same_str]
   ·rw [beq_eq_false_iff_ne.mpr z]at e2
    have:=ih e2
    have z': ¬p.1=k:=fun q=>z q.symm
    simp [PySem.Spec.lookup,PyProof.V.same_str,z',this]
 ·obtain⟨t2,rfl⟩:=fv.str_inv
  exact⟨.str y,H,I1.tok _,⟨_,rfl⟩,q⟩
end
end L2
set_option genSizeOfSpec false
namespace M
abbrev Tx:=List Nat
theorem w5: ∃n:Nat,n=1000000:=⟨_,rfl⟩
noncomputable def LIM:Nat:=Classical.choose w5
theorem LIM_eq:LIM=1000000:=Classical.choose_spec w5
theorem X8: ∃n:Int,n=1073741824:=⟨_,rfl⟩
noncomputable def B30:Int:=Classical.choose X8
theorem B30_eq:B30=1073741824:=Classical.choose_spec X8
theorem Z5: ∃n:Int,n=2 ^ 62:=⟨_,rfl⟩
noncomputable def B62:Int:=Classical.choose Z5
theorem B62_eq:B62=2 ^ 62:=Classical.choose_spec Z5
theorem X7: ∃n:Int,n=2 ^ 64:=⟨_,rfl⟩
noncomputable def B64:Int:=Classical.choose X7
theorem B64_eq:B64=2 ^ 64:=Classical.choose_spec X7
theorem xaG: ∃n:Int,n=1000000:=⟨_,rfl⟩
noncomputable def BP:Int:=Classical.choose xaG
theorem BP_eq:BP=1000000:=Classical.choose_spec xaG
theorem W8: ∃n:Nat,n=2 ^ 64:=⟨_,rfl⟩
noncomputable def N64:Nat:=Classical.choose W8
theorem N64_eq:N64=2 ^ 64:=Classical.choose_spec W8
inductive D where
 | non
 | bl (b:Bool)
 | int (i:Int)
 | str (s:Tx)
 | tup (xs:List D)
 | lst (xs:List D)
 | ref (r:Nat)
 | exc (c:String) (fs:List (Tx×D))
inductive W where
 | v (d:D)
 | own (xs:List D)
 | bor (xs:List D)
abbrev WK:=Int×List Int×List Int
inductive Cell where
 | lst (xs:List D)
 | dic (ks:List WK)
abbrev AH:=List Cell
abbrev Sl:=List (Option W)
inductive R (α:Type) where
 | ok (a:α) (h:AH)
 | exc (d:D) (h:AH)
 | fail
def R.bind {α β:Type}:R α->(α->AH->R β)->R β
 | .ok a h,f=>f a h
 | .exc d h,_=> .exc d h
 | .fail,_=> .fail
inductive O where
 | next (τ:Sl) (h:AH)
 | ret (w:W) (h:AH)
 | brk (τ:Sl) (h:AH)
 | cont (τ:Sl) (h:AH)
 | exc (d:D) (h:AH)
 | fail
def O.seq:O->(Sl->AH->O)->O
 | .next τ h,f=>f τ h
 | o,_=>o
def R.toO {α:Type}:R α->(α->AH->O)->O
 | .ok a h,f=>f a h
 | .exc d h,_=> .exc d h
 | .fail,_=> .fail
section
variable {α β:Type}
@[simp] theorem R.bind_ok (a:α) (h:AH) (f:α->AH->R β):(R.ok a h).bind f=f a h:=rfl
@[simp] theorem R.bind_exc (d:D) (h:AH) (f:α->AH->R β):(R.exc d h).bind f= .exc d h:=rfl
@[simp] theorem R.bind_fail (f:α->AH->R β):(R.fail).bind f= .fail:=rfl
@[simp] theorem R.toO_ok (a:α) (h:AH) (f:α->AH->O):(R.ok a h).toO f=f a h:=rfl
@[simp] theorem R.toO_exc (d:D) (h:AH) (f:α->AH->O):(R.exc d h).toO f= .exc d h:=rfl
@[simp] theorem R.toO_fail (f:α->AH->O):(R.fail).toO f= .fail:=rfl
@[simp] theorem O.seq_next (τ:Sl) (h:AH) (f:Sl->AH->O):(O.next τ h).seq f=f τ h:=rfl
@[simp] theorem O.seq_ret (w:W) (h:AH) (f:Sl->AH->O):(O.ret w h).seq f= .ret w h:=rfl
@[simp] theorem O.seq_brk (τ:Sl) (h:AH) (f:Sl->AH->O):(O.brk τ h).seq f= .brk τ h:=rfl
@[simp] theorem O.seq_cont (τ:Sl) (h:AH) (f:Sl->AH->O):(O.cont τ h).seq f= .cont τ h:=rfl
@[simp] theorem O.seq_exc (d:D) (h:AH) (f:Sl->AH->O):(O.exc d h).seq f= .exc d h:=rfl
@[simp] theorem O.seq_fail (f:Sl->AH->O):(O.fail).seq f= .fail:=rfl
end
inductive Op where
 | add | sub | mul | fdiv | mod | pow | shl | shr | band | bor | bxor
 deriving DecidableEq
inductive Cp where
 | eq | ne | lt | le | gt | ge | mem | nmem | isb
 deriving DecidableEq
inductive Ty where
 | non | bool | int | str | list | tuple
 deriving DecidableEq
inductive Mt where
 | index | join | count | indexI
 deriving DecidableEq
inductive Bi where
 | len | int | list | tuple | sum | all | any | sorted | divmod | str | min | max | abs
 deriving DecidableEq
mutual
inductive E where
 | var (i:Nat)
 | con (x:String)
 | int (i:Int)
 | bl (b:Bool)
 | non
 | str (s:Tx)
 | tup (es:Es)
 | lst (es:Es)
 | bin (o:Op) (a b:E)
 | cmp (o:Cp) (a b:E)
 | chain (o p:Cp) (a b c:E)
 | isn (neg:Bool) (a:E)
 | neg (a:E)
 | inv (a:E)
 | not (a:E)
 | and (a b:E)
 | or (a b:E)
 | ite (c a b:E)
 | call (f:String) (es:Es)
 | bi (b:Bi) (es:Es)
 | isT (a:E) (t:Ty)
 | isX (a:E) (one:Bool) (ts:List String)
 | ix (a b:E)
 | sl (a lo hi:E)
 | slL (a lo:E)
 | slH (a hi:E)
 | rev (a:E)
 | comp (tg:List Nat) (one:Bool) (k:Nat) (cap:List Nat) (it:It) (hasIf:Bool) (c elt:E)
 | compR (tg:List Nat) (one:Bool) (k:Nat) (cap:List Nat) (i:Nat) (elt:E)
 | dnew
 | din (neg:Bool) (a:E) (i:Nat)
 | dlen (i:Nat)
 | share (a:E)
 | lenset (a:E)
 | lensT (a:E)
 | trange (a:E)
 | lrange (a:E)
 | sorti (a:E)
 | geT (a b:E)
 | ltL (a b:E)
 | meth (m:Mt) (a:E) (es:Es)
 | tix (c:String) (a:E)
 | tget (c:String) (es:Es)
 | dlit (kvs:List (Tx×Tx)) (i:Nat)
 | fstr (ps:List (Tx ⊕ Nat))
 | strI (a:E)
inductive Es where
 | nil
 | cons (e:E) (es:Es)
inductive It where
 | seq (e:E)
 | range1 (a:E)
 | range2 (a b:E)
 | rev (e:E)
 | zip (a b:E)
 | enum (e:E)
end
mutual
inductive S where
 | set (i:Nat) (e:E)
 | setf (i:Nat) (e:E)
 | unp (is:List Nat) (e:E)
 | setix (i:Nat) (k e:E)
 | setref (o k e:E)
 | app (i:Nat) (e:E)
 | ins (i:Nat) (k e:E)
 | ext (i:Nat) (e:E)
 | pop (i:Nat)
 | popTo (i j:Nat)
 | mv (i j:Nat)
 | dput (i:Nat) (e:E)
 | clr (i:Nat)
 | rem (i:Nat) (e:E)
 | insR (i:Nat) (k e:E)
 | appR (i:Nat) (e:E)
 | popR (i j:Nat)
 | popU (i:Nat) (is:List Nat)
 | forR (tg:List Nat) (one:Bool) (i:Nat) (b:Ss)
 | freeze (i:Nat)
 | ex (e:E)
 | ret (e:E)
 | retn
 | iff (c:E) (a b:Ss)
 | whl (n:Nat) (c:E) (b:Ss)
 | for (tg:List Nat) (one:Bool) (it:It) (b:Ss)
 | raise (c:String) (es:Es)
 | tryc (to:Option Nat) (f:String) (es:Es) (c:String) (nm:Nat) (hb:Ss)
 | brk
 | cont
 | pass
inductive Ss where
 | nil
 | cons (s:S) (ss:Ss)
end
noncomputable section
mutual
@[simp,reducible] def noRef:D->Bool
 | .ref _=>false
 | .tup xs=>noRefs xs
 | .lst xs=>noRefs xs
 | .exc _ _=>false
 | _=>true
@[simp,reducible] def noRefs:List D->Bool
 | []=>true
 | x::xs=>noRef x&&noRefs xs
end
mutual
@[simp,reducible] def dep:D->Nat
 | .tup xs=>deps xs+1
 | .lst xs=>deps xs+1
 | _=>0
@[simp,reducible] def deps:List D->Nat
 | []=>0
 | x::xs=>max (dep x) (deps xs)
end
@[reducible] def eqOk (a b:D):Bool:=noRef a&&noRef b&&decide (dep a<150)
mutual
@[simp] def res (h:AH):D->D
 | .ref r=>match h[r]? with
  | some (.lst xs)=> .lst xs
  | _=> .ref r
 | .tup xs=> .tup (ress h xs)
 | .lst xs=> .lst (ress h xs)
 | d=>d
@[simp] def ress (h:AH):List D->List D
 | []=> []
 | x::xs=>res h x::ress h xs
end
mutual
@[simp] def eqD:D->D->Bool
 | .non,.non=>true
 | .bl a,.bl b=>a==b
 | .int i,.int j=>i==j
 | .bl a,.int j=>(a.toNat:Int)==j
 | .int i,.bl b=>i==(b.toNat:Int)
 | .str s,.str t=>s==t
 | .tup xs,.tup ys=>eqDs xs ys
 | .lst xs,.lst ys=>eqDs xs ys
 | _,_=>false
@[simp] def eqDs:List D->List D->Bool
 | [],[]=>true
 | x::xs,y::ys=>eqD x y&&eqDs xs ys
 | _,_=>false
end
def chs (s:Tx):List D:=s.map fun c=> .str [c]
def W.d:W->Option D
 | .v d=>some d
 | .own xs=>some (.lst xs)
 | .bor _=>none
def W.arg:W->W
 | .own xs=> .bor xs
 | w=>w
@[simp] theorem W.arg_v (d:D):(W.v d).arg= .v d:=rfl
@[simp] theorem W.arg_own (xs:List D):(W.own xs).arg= .bor xs:=rfl
@[simp] theorem W.arg_bor (xs:List D):(W.bor xs).arg= .bor xs:=rfl
def W.dd (h:AH):W->D
 | .v d=>res h d
 | .own xs=> .lst (ress h xs)
 | .bor xs=> .lst (ress h xs)
def W.lst? (h:AH):W->Option (List D)
 | .v (.lst xs)=>some xs
 | .own xs=>some xs
 | .bor xs=>some xs
 | .v (.ref r)=>match h[r]? with
  | some (.lst xs)=>some xs
  | _=>none
 | _=>none
def W.seq? (h:AH):W->Option (List D)
 | .v (.tup xs)=>some xs
 | .v (.lst xs)=>some xs
 | .own xs=>some xs
 | .bor xs=>some xs
 | .v (.ref r)=>match h[r]? with
  | some (.lst xs)=>some xs
  | _=>none
 | _=>none
def R.of {α:Type}(h:AH):Option α->R α
 | some a=> .ok a h
 | none=> .fail
@[simp] abbrev okv (d:D) (h:AH):R W:= .ok (.v d) h
def truD (h:AH):W->Option Bool
 | .v .non=>some false
 | .v (.bl b)=>some b
 | .v (.int i)=>some (i != 0)
 | .v (.str s)=>if s.length<=LIM then some (!s.isEmpty)else none
 | .v (.tup xs)=>some (!xs.isEmpty)
 | .v (.lst xs)=>some (!xs.isEmpty)
 | .own xs=>some (!xs.isEmpty)
 | .bor xs=>some (!xs.isEmpty)
 | _=>none
@[simp] theorem R.of_some {α:Type}(h:AH) (a:α):R.of h (some a)= .ok a h:=rfl
@[simp] theorem R.of_none {α:Type}(h:AH):R.of h (none:Option α)= .fail:=rfl
@[simp] theorem W.d_v (d:D):(W.v d).d=some d:=rfl
@[simp] theorem W.d_own (xs:List D):(W.own xs).d=some (.lst xs):=rfl
@[simp] theorem W.d_bor (xs:List D):(W.bor xs).d=none:=rfl
@[simp] theorem W.dd_v (h:AH) (d:D):(W.v d).dd h=res h d:=rfl
@[simp] theorem W.dd_own (h:AH) (xs:List D):(W.own xs).dd h= .lst (ress h xs):=rfl
@[simp] theorem W.dd_bor (h:AH) (xs:List D):(W.bor xs).dd h= .lst (ress h xs):=rfl
@[simp] theorem W.lst_v (h:AH) (xs:List D):(W.v (.lst xs)).lst? h=some xs:=rfl
@[simp] theorem W.lst_own (h:AH) (xs:List D):(W.own xs).lst? h=some xs:=rfl
@[simp] theorem W.lst_bor (h:AH) (xs:List D):(W.bor xs).lst? h=some xs:=rfl
@[simp] theorem W.seq_tup (h:AH) (xs:List D):(W.v (.tup xs)).seq? h=some xs:=rfl
@[simp] theorem W.seq_v (h:AH) (xs:List D):(W.v (.lst xs)).seq? h=some xs:=rfl
@[simp] theorem W.seq_own (h:AH) (xs:List D):(W.own xs).seq? h=some xs:=rfl
@[simp] theorem W.seq_bor (h:AH) (xs:List D):(W.bor xs).seq? h=some xs:=rfl
@[simp] theorem tru_non (h:AH):truD h (.v .non)=some false:=rfl
@[simp] theorem tru_bl (h:AH) (b:Bool):truD h (.v (.bl b))=some b:=rfl
@[simp] theorem tru_int (h:AH) (i:Int):truD h (.v (.int i))=some (i != 0):=rfl
@[simp] theorem tru_str (h:AH) (s:Tx):truD h (.v (.str s))=if s.length<=LIM then some (!s.isEmpty)else none:=rfl
@[simp] theorem tru_tup (h:AH) (s:List D):truD h (.v (.tup s))=some (!s.isEmpty):=rfl
@[simp] theorem tru_lst (h:AH) (s:List D):truD h (.v (.lst s))=some (!s.isEmpty):=rfl
@[simp] theorem tru_own (h:AH) (s:List D):truD h (.own s)=some (!s.isEmpty):=rfl
@[simp] theorem tru_bor (h:AH) (s:List D):truD h (.bor s)=some (!s.isEmpty):=rfl
def andI (i j:Int):Option Int:=
 if 0<=i then(if 0<=j then some ((i.toNat &&& j.toNat:Nat):Int)else some ((i.toNat-(i.toNat &&& (-j-1).toNat):Nat):Int))else none
def orI (i j:Int):Option Int:=if 0<=i/\0<=j then some ((i.toNat ||| j.toNat:Nat):Int)else none
def xorI (i j:Int):Option Int:=if 0<=i/\0<=j then some ((i.toNat ^^^ j.toNat:Nat):Int)else none
def intOp (o:Op) (i j:Int):Option Int:=match o with
 | .add=>some (i+j)
 | .sub=>some (i-j)
 | .mul=>if(-(B64)<i/\i<B64)\/(-(B64)<j/\j<B64)then some (i*j)else none
 | .fdiv=>if 0<j/\j<B30 then some (i / j)else none
 | .mod=>if 0<j then some (i % j)else none
 | .pow=>if 0<=j/\j<=BP/\i.natAbs<N64 then some (i ^ j.toNat)else none
 | .shl=>if 0<=j/\j<=BP/\i.natAbs<N64 then some (i*2 ^ j.toNat)else none
 | .shr=>if 0<=j then some (i / 2 ^ j.toNat)else none
 | .band=>andI i j
 | .bor=>orI i j
 | .bxor=>xorI i j
def W.int? :W->Option Int
 | .v (.int i)=>some i
 | _=>none
def W.str? :W->Option Tx
 | .v (.str s)=>some s
 | _=>none
def W.tup? :W->Option (List D)
 | .v (.tup s)=>some s
 | _=>none
def catL (xs ys:List D) (h:AH):R W:=if xs.length+ys.length<=LIM then .ok (.own (xs++ys)) h else .fail
def repL (xs:List D) (j:Int) (h:AH):R W:=if -1000<=j/\j<=1000/\xs.length*j.toNat<=LIM then .ok (.own (List.replicate j.toNat xs).flatten) h else .fail
def addD (a b:W) (h:AH):R W:=match a.str?,b.str? with
 | some s,some t=>if s.length+t.length<=LIM then okv (.str (s++t)) h else .fail
 | _,_=>match a.tup?,b.tup? with
  | some xs,some ys=>if xs.length+ys.length<=LIM then okv (.tup (xs++ys)) h else .fail
  | _,_=>match a.lst? h,b.lst? h with
   | some xs,some ys=>catL xs ys h
   | _,_=> .fail
def W.lstO? (h:AH):W->Option (List D)
 | .own xs=>some xs
 | .bor xs=>some xs
 | .v (.ref r)=>match h[r]? with
  | some (.lst xs)=>some xs
  | _=>none
 | _=>none
def mulD (a b:W) (h:AH):R W:=match a.str?,b.int? with
 | some s,some j=>if 0<=j/\j<=1000/\s.length*j.toNat<=LIM then okv (.str (List.replicate j.toNat s).flatten) h else .fail
 | _,_=>match a.lstO? h,b.int? with
  | some xs,some j=>repL xs j h
  | _,_=> .fail
def binD (o:Op) (a b:W) (h:AH):R W:=match a.int?,b.int? with
 | some i,some j=>(R.of h (intOp o i j)).bind fun k h=>okv (.int k) h
 | _,_=>match o with
  | .add=>addD a b h
  | .mul=>mulD a b h
  | _=> .fail
def inD (x:D) (xs:List D):Bool:=xs.any fun y=>eqD y x
@[simp,reducible] def flat:D->Bool
 | .non=>true
 | .bl _=>true
 | .int _=>true
 | .str _=>true
 | _=>false
def memG (a b:W) (h:AH):Option Bool:=match b.dd h with
 | .lst ys=>if noRef (a.dd h)&&noRefs ys&&decide (deps ys<140)then some (inD (a.dd h) ys)else none
 | _=>none
def memD (a b:W) (h:AH):Option Bool:=match a.str?,b.str? with
 | some s,some t=>match s with
  | [c]=>some (t.contains c)
  | _=>none
 | _,_=>match a.d,b.seq? h with
  | some d,some xs=>if flat d&&xs.all flat then some (inD d xs)else memG a b h
  | _,_=>none
def cmpI (o:Cp) (i j:Int):Option Bool:=match o with
 | .lt=>some (decide (i<j))
 | .le=>some (decide (i<=j))
 | .gt=>some (decide (j<i))
 | .ge=>some (decide (j<=i))
 | _=>none
def cmpT (o:Cp) (i j:Tx):Option Bool:=match o with
 | .lt=>some (decide (i<j))
 | .ge=>some (!decide (i<j))
 | _=>none
def isbD:W->W->Option Bool
 | .v .non,.v (.bl _)=>some false
 | .v (.bl b),.v (.bl c)=>some (b==c)
 | _,_=>none
def cmpD (o:Cp) (a b:W) (h:AH):Option Bool:=match o with
 | .eq=>if eqOk (a.dd h) (b.dd h)then some (eqD (a.dd h) (b.dd h))else none
 | .ne=>if eqOk (a.dd h) (b.dd h)then some (!eqD (a.dd h) (b.dd h))else none
 | .mem=>memD a b h
 | .nmem=>(memD a b h).map (!·)
 | .isb=>isbD a b
 | o=>match a.int?,b.int? with
  | some i,some j=>cmpI o i j
  | _,_=>match a.str?,b.str? with
   | some s,some t=>cmpT o s t
   | _,_=>none
def ixN (n:Nat) (i:Int):Option Nat:=if 0<=i then(if i<n then some i.toNat else none)else if -(n:Int)<=i then some (i+n).toNat else none
def atI {α:Type}(xs:List α) (i:Int):Option α:=(ixN xs.length i).bind fun j=>xs[j]?
def ixD (a b:W) (h:AH):Option D:=match b.int? with
 | some i=>match a.str? with
  | some s=>if s.length<=LIM then(atI s i).map fun c=> .str [c]else none
  | none=>(a.seq? h).bind fun xs=>atI xs i
 | none=>none
def sIx (n d:Nat):Option Int->Nat
 | none=>d
 | some v=>if v<0 then(v+n).toNat else min v.toNat n
def cut {α:Type}(xs:List α) (lo hi:Option Int):List α:=(xs.drop (sIx xs.length 0 lo)).take (sIx xs.length xs.length hi-sIx xs.length 0 lo)
def slD (a:W) (lo hi:Option Int) (h:AH):R W:=match a.str? with
 | some s=>if s.length<=LIM then okv (.str (cut s lo hi)) h else .fail
 | none=>match a.tup? with
  | some xs=>okv (.tup (cut xs lo hi)) h
  | none=>match a.lst? h with
   | some xs=> .ok (.own (cut xs lo hi)) h
   | none=> .fail
def sumD:List D->Option Int
 | []=>some 0
 | .int i::r=>(sumD r).map (i+ ·)
 | _::_=>none
def intsD:List D->Option (List Int)
 | []=>some []
 | .int i::r=>(intsD r).map (i:: ·)
 | _::_=>none
def strsD:List D->Option (List Tx)
 | []=>some []
 | .str s::r=>(strsD r).map (s:: ·)
 | _::_=>none
def maxI:List Int->Option Int
 | []=>none
 | i::r=>some (r.foldl (fun a b=>if b>a then b else a) i)
def minI:List Int->Option Int
 | []=>none
 | i::r=>some (r.foldl (fun a b=>if b<a then b else a) i)
def insT (x:Tx):List Tx->List Tx
 | []=> [x]
 | y::ys=>if y<x then y::insT x ys else x::y::ys
def sortT:List Tx->List Tx
 | []=> []
 | x::xs=>insT x (sortT xs)
def insI (x:Int):List Int->List Int
 | []=> [x]
 | y::ys=>if y<x then y::insI x ys else x::y::ys
def sortI:List Int->List Int
 | []=> []
 | x::xs=>insI x (sortI xs)
def lexI:List Int->List Int->Bool
 | [],[]=>false
 | [],_::_=>true
 | _::_,[]=>false
 | x::xs,y::ys=>if x=y then lexI xs ys else decide (x<y)
def idxT (x:Tx):List Tx->Option Nat
 | []=>none
 | y::ys=>if y=x then some 0 else(idxT x ys).map (· +1)
def joinT (s:Tx):List Tx->Tx
 | []=> []
 | [x]=>x
 | x::y::r=>x++s++joinT s (y::r)
def blsD:List D->Option (List Bool)
 | []=>some []
 | .bl b::r=>(blsD r).map (b:: ·)
 | _::_=>none
def bi1 (b:Bi) (w:W) (h:AH):R W:=match b with
 | .len=>match w.str? with
  | some s=>if s.length<=LIM then okv (.int s.length) h else .fail
  | none=>(R.of h (w.seq? h)).bind fun xs h=>okv (.int xs.length) h
 | .int=>match w with
  | .v (.int i)=>okv (.int i) h
  | .v (.bl b)=>okv (.int (b.toNat:Int)) h
  | _=> .fail
 | .list=>(R.of h (w.seq? h)).bind fun xs h=> .ok (.own xs) h
 | .tuple=>(R.of h (w.seq? h)).bind fun xs h=>okv (.tup xs) h
 | .sum=>(R.of h ((w.lst? h).bind fun xs=>if xs.length<=LIM then sumD xs else none)).bind fun i h=>okv (.int i) h
 | .all=>(R.of h ((w.lst? h).bind blsD)).bind fun bs h=>okv (.bl (bs.all id)) h
 | .any=>(R.of h ((w.lst? h).bind blsD)).bind fun bs h=>okv (.bl (bs.any id)) h
 | .max=>(R.of h (((w.lst? h).bind intsD).bind maxI)).bind fun i h=>okv (.int i) h
 | .min=>(R.of h (((w.lst? h).bind intsD).bind minI)).bind fun i h=>okv (.int i) h
 | .sorted=>(R.of h ((w.lst? h).bind strsD)).bind fun ts h=>if ts.length<64 then .ok (.own ((sortT ts).map .str)) h else .fail
 | _=> .fail
def mtTy (m:Mt) (x:W) (h:AH):Bool:=match m with
 | .index=>x.tup?.isSome
 | .indexI=>x.tup?.isSome
 | .join=>x.str?.isSome
 | .count=>(x.lst? h).isSome
@[simp] theorem mt_tup (xs:List D) (h:AH):mtTy .index (.v (.tup xs)) h=true:=rfl
@[simp] theorem mt_str (s:Tx) (h:AH):mtTy .join (.v (.str s)) h=true:=rfl
def idxI (x:Int):List Int->Option Nat
 | []=>none
 | y::ys=>if y=x then some 0 else(idxI x ys).map (· +1)
def unlI:List Int->List Int->Nat
 | _,[]=>0
 | seen,x::xs=>(if seen.any (· ==x)then 0 else 1)+unlI (seen++ [x]) xs
def unlT:List Tx->List Tx->Nat
 | _,[]=>0
 | seen,x::xs=>(if seen.any (· ==x)then 0 else 1)+unlT (seen++ [x]) xs
def numD:Nat->List D->List D
 | _,[]=> []
 | i,d::ds=> .tup [.int (i:Int),d]::numD (i+1) ds
def methD (m:Mt) (x:W) (ws:List W) (h:AH):R W:=match m,ws with
 | .index,[w]=>(R.of h (x.tup?.bind strsD)).bind fun ts h=>(R.of h w.str?).bind fun t h=>(R.of h (idxT t ts)).bind fun n h=>if ts.length<=LIM then okv (.int (n:Int)) h else .fail
 | .indexI,[w]=>(R.of h (x.tup?.bind intsD)).bind fun ts h=>(R.of h w.int?).bind fun t h=>(R.of h (idxI t ts)).bind fun n h=>okv (.int (n:Int)) h
 | .join,[w]=>(R.of h x.str?).bind fun s h=>(R.of h ((w.lst? h).bind strsD)).bind fun ts h=>if(joinT s ts).length<=LIM/\ts.length<=LIM/\s.length<=LIM then okv (.str (joinT s ts)) h else .fail
 | .count,[w]=>(R.of h ((x.lst? h).bind intsD)).bind fun is h=>(R.of h w.int?).bind fun i h=>if is.length<=LIM then okv (.int ((is.count i:Nat):Int)) h else .fail
 | _,_=> .fail
def bi2 (b:Bi) (i j:Int) (h:AH):R W:=match b with
 | .divmod=>if 0<j/\j<B30 then okv (.tup [.int (i / j),.int (i % j)]) h else .fail
 | .min=>okv (.int (if j<i then j else i)) h
 | .max=>okv (.int (if j>i then j else i)) h
 | _=> .fail
def biD (b:Bi) (ws:List W) (h:AH):R W:=match ws with
 | [w]=>bi1 b w h
 | [v,w]=>(R.of h v.int?).bind fun i h=>(R.of h w.int?).bind fun j h=>bi2 b i j h
 | _=> .fail
@[simp] theorem bin_ints (o:Op) (i j:Int) (h:AH):binD o (.v (.int i)) (.v (.int j)) h=(R.of h (intOp o i j)).bind fun k h=>okv (.int k) h:=rfl
@[simp] theorem int_add (i j:Int):intOp .add i j=some (i+j):=rfl
@[simp] theorem int_sub (i j:Int):intOp .sub i j=some (i-j):=rfl
@[simp] theorem bin_strs (s u:Tx) (h:AH):binD .add (.v (.str s)) (.v (.str u)) h=if s.length+u.length<=LIM then okv (.str (s++u)) h else .fail:=rfl
@[simp] theorem bin_tups (s u:List D) (h:AH):binD .add (.v (.tup s)) (.v (.tup u)) h=if s.length+u.length<=LIM then okv (.tup (s++u)) h else .fail:=rfl
@[simp] theorem cat_vv (s u:List D) (h:AH):binD .add (.v (.lst s)) (.v (.lst u)) h=if s.length+u.length<=LIM then .ok (.own (s++u)) h else .fail:=rfl
@[simp] theorem cat_vo (s u:List D) (h:AH):binD .add (.v (.lst s)) (.own u) h=if s.length+u.length<=LIM then .ok (.own (s++u)) h else .fail:=rfl
@[simp] theorem cat_vb (s u:List D) (h:AH):binD .add (.v (.lst s)) (.bor u) h=if s.length+u.length<=LIM then .ok (.own (s++u)) h else .fail:=rfl
@[simp] theorem cat_ov (s u:List D) (h:AH):binD .add (.own s) (.v (.lst u)) h=if s.length+u.length<=LIM then .ok (.own (s++u)) h else .fail:=rfl
@[simp] theorem cat_oo (s u:List D) (h:AH):binD .add (.own s) (.own u) h=if s.length+u.length<=LIM then .ok (.own (s++u)) h else .fail:=rfl
@[simp] theorem cat_ob (s u:List D) (h:AH):binD .add (.own s) (.bor u) h=if s.length+u.length<=LIM then .ok (.own (s++u)) h else .fail:=rfl
@[simp] theorem cat_bv (s u:List D) (h:AH):binD .add (.bor s) (.v (.lst u)) h=if s.length+u.length<=LIM then .ok (.own (s++u)) h else .fail:=rfl
@[simp] theorem cat_bo (s u:List D) (h:AH):binD .add (.bor s) (.own u) h=if s.length+u.length<=LIM then .ok (.own (s++u)) h else .fail:=rfl
@[simp] theorem cat_bb (s u:List D) (h:AH):binD .add (.bor s) (.bor u) h=if s.length+u.length<=LIM then .ok (.own (s++u)) h else .fail:=rfl
@[simp] theorem cmp_isb (a b:W) (h:AH):cmpD .isb a b h=isbD a b:=rfl
@[simp] theorem cmp_lt (i j:Int) (h:AH):cmpD .lt (.v (.int i)) (.v (.int j)) h=some (decide (i<j)):=rfl
@[simp] theorem cmp_le (i j:Int) (h:AH):cmpD .le (.v (.int i)) (.v (.int j)) h=some (decide (i<=j)):=rfl
@[simp] theorem cmp_gt (i j:Int) (h:AH):cmpD .gt (.v (.int i)) (.v (.int j)) h=some (decide (j<i)):=rfl
@[simp] theorem cmp_ge (i j:Int) (h:AH):cmpD .ge (.v (.int i)) (.v (.int j)) h=some (decide (j<=i)):=rfl
@[simp] theorem cmp_eq (a b:W) (h:AH):cmpD .eq a b h=if eqOk (a.dd h) (b.dd h)then some (eqD (a.dd h) (b.dd h))else none:=rfl
@[simp] theorem cmp_ne (a b:W) (h:AH):cmpD .ne a b h=if eqOk (a.dd h) (b.dd h)then some (!eqD (a.dd h) (b.dd h))else none:=rfl
@[simp] theorem int?_int (i:Int):(W.v (.int i)).int? =some i:=rfl
@[simp] theorem len_str (s:Tx) (h:AH):biD .len [.v (.str s)] h=if s.length<=LIM then okv (.int s.length) h else .fail:=rfl
@[simp] theorem len_tup (s:List D) (h:AH):biD .len [.v (.tup s)] h=okv (.int s.length) h:=rfl
@[simp] theorem len_lst (s:List D) (h:AH):biD .len [.v (.lst s)] h=okv (.int s.length) h:=rfl
@[simp] theorem len_own (s:List D) (h:AH):biD .len [.own s] h=okv (.int s.length) h:=rfl
@[simp] theorem len_bor (s:List D) (h:AH):biD .len [.bor s] h=okv (.int s.length) h:=rfl
@[simp] theorem int_int (i:Int) (h:AH):biD .int [.v (.int i)] h=okv (.int i) h:=rfl
@[simp] theorem int_bl (b:Bool) (h:AH):biD .int [.v (.bl b)] h=okv (.int (b.toNat:Int)) h:=rfl
@[simp] theorem list_tup (s:List D) (h:AH):biD .list [.v (.tup s)] h= .ok (.own s) h:=rfl
@[simp] theorem list_lst (s:List D) (h:AH):biD .list [.v (.lst s)] h= .ok (.own s) h:=rfl
@[simp] theorem list_own (s:List D) (h:AH):biD .list [.own s] h= .ok (.own s) h:=rfl
@[simp] theorem list_bor (s:List D) (h:AH):biD .list [.bor s] h= .ok (.own s) h:=rfl
@[simp] theorem tuple_tup (s:List D) (h:AH):biD .tuple [.v (.tup s)] h=okv (.tup s) h:=rfl
@[simp] theorem tuple_lst (s:List D) (h:AH):biD .tuple [.v (.lst s)] h=okv (.tup s) h:=rfl
@[simp] theorem tuple_own (s:List D) (h:AH):biD .tuple [.own s] h=okv (.tup s) h:=rfl
@[simp] theorem tuple_bor (s:List D) (h:AH):biD .tuple [.bor s] h=okv (.tup s) h:=rfl
@[simp] theorem all_own (s:List D) (h:AH):biD .all [.own s] h=(R.of h (blsD s)).bind fun bs h=>okv (.bl (bs.all id)) h:=rfl
@[simp] theorem any_own (s:List D) (h:AH):biD .any [.own s] h=(R.of h (blsD s)).bind fun bs h=>okv (.bl (bs.any id)) h:=rfl
@[simp] theorem sum_own (s:List D) (h:AH):biD .sum [.own s] h=(R.of h (if s.length<=LIM then sumD s else none)).bind fun i h=>okv (.int i) h:=rfl
@[simp] theorem divmod_ints (i j:Int) (h:AH):biD .divmod [.v (.int i),.v (.int j)] h=if 0<j/\j<B30 then okv (.tup [.int (i / j),.int (i % j)]) h else .fail:=rfl
@[simp] theorem min_ints (i j:Int) (h:AH):biD .min [.v (.int i),.v (.int j)] h=okv (.int (if j<i then j else i)) h:=rfl
@[simp] theorem max_ints (i j:Int) (h:AH):biD .max [.v (.int i),.v (.int j)] h=okv (.int (if j>i then j else i)) h:=rfl
@[simp] theorem xE (s:Tx) (i:Int) (h:AH):ixD (.v (.str s)) (.v (.int i)) h=if s.length<=LIM then(atI s i).map fun c=> .str [c]else none:=rfl
@[simp] theorem ix_tup (s:List D) (i:Int) (h:AH):ixD (.v (.tup s)) (.v (.int i)) h=atI s i:=rfl
@[simp] theorem ix_lst (s:List D) (i:Int) (h:AH):ixD (.v (.lst s)) (.v (.int i)) h=atI s i:=rfl
@[simp] theorem ix_own (s:List D) (i:Int) (h:AH):ixD (.own s) (.v (.int i)) h=atI s i:=rfl
@[simp] theorem ix_bor (s:List D) (i:Int) (h:AH):ixD (.bor s) (.v (.int i)) h=atI s i:=rfl
@[simp] theorem sl_lst (s:List D) (lo hi:Option Int) (h:AH):slD (.v (.lst s)) lo hi h= .ok (.own (cut s lo hi)) h:=rfl
@[simp] theorem sl_own (s:List D) (lo hi:Option Int) (h:AH):slD (.own s) lo hi h= .ok (.own (cut s lo hi)) h:=rfl
@[simp] theorem sl_bor (s:List D) (lo hi:Option Int) (h:AH):slD (.bor s) lo hi h= .ok (.own (cut s lo hi)) h:=rfl
abbrev Cls:=List (String×String)
def ancs (cl:Cls):Nat->String->List String
 | 0,_=> []
 | n+1,c=>c::match cl.lookup c with
  | some b=>ancs cl n b
  | none=> []
def tyD:W->Option Ty
 | .v .non=>some .non
 | .v (.bl _)=>some .bool
 | .v (.int _)=>some .int
 | .v (.str _)=>some .str
 | .v (.tup _)=>some .tuple
 | .v (.lst _)=>some .list
 | .own _=>some .list
 | .bor _=>some .list
 | .v (.ref _)=>none
 | .v (.exc _ _)=>none
def Ty.le:Ty->Ty->Bool
 | .bool,.int=>true
 | a,b=>decide (a=b)
def isT (t:Ty) (w:W):Option Bool:=(tyD w).map fun u=>u.le t
@[simp] theorem isT_non (t:Ty):isT t (.v .non)=some (Ty.le .non t):=rfl
@[simp] theorem isT_bl (t:Ty) (b:Bool):isT t (.v (.bl b))=some (Ty.le .bool t):=rfl
@[simp] theorem isT_int (t:Ty) (i:Int):isT t (.v (.int i))=some (Ty.le .int t):=rfl
@[simp] theorem isT_str (t:Ty) (s:Tx):isT t (.v (.str s))=some (Ty.le .str t):=rfl
@[simp] theorem isT_tup (t:Ty) (s:List D):isT t (.v (.tup s))=some (Ty.le .tuple t):=rfl
@[simp] theorem isT_lst (t:Ty) (s:List D):isT t (.v (.lst s))=some (Ty.le .list t):=rfl
@[simp] theorem isT_own (t:Ty) (s:List D):isT t (.own s)=some (Ty.le .list t):=rfl
@[simp] theorem isT_bor (t:Ty) (s:List D):isT t (.bor s)=some (Ty.le .list t):=rfl
@[simp] theorem Ty.le_self (t:Ty):Ty.le t t=true:=by cases t<;>rfl
@[simp] theorem Ty.le_bi:Ty.le .bool .int=true:=rfl
@[simp] theorem Ty.le_ib:Ty.le .int .bool=false:=rfl
@[simp] theorem Ty.le_nb:Ty.le .non .bool=false:=rfl
@[simp] theorem Ty.le_ni:Ty.le .non .int=false:=rfl
@[simp] theorem Ty.le_ns:Ty.le .non .str=false:=rfl
@[simp] theorem Ty.le_nl:Ty.le .non .list=false:=rfl
@[simp] theorem Ty.le_nt:Ty.le .non .tuple=false:=rfl
@[simp] theorem Ty.le_bs:Ty.le .bool .str=false:=rfl
@[simp] theorem Ty.le_bl:Ty.le .bool .list=false:=rfl
@[simp] theorem Ty.le_bt:Ty.le .bool .tuple=false:=rfl
@[simp] theorem Ty.le_is:Ty.le .int .str=false:=rfl
@[simp] theorem Ty.le_il:Ty.le .int .list=false:=rfl
@[simp] theorem Ty.le_it:Ty.le .int .tuple=false:=rfl
@[simp] theorem Ty.le_sb:Ty.le .str .bool=false:=rfl
@[simp] theorem Ty.le_si:Ty.le .str .int=false:=rfl
@[simp] theorem Ty.le_sl:Ty.le .str .list=false:=rfl
@[simp] theorem Ty.le_st:Ty.le .str .tuple=false:=rfl
@[simp] theorem Ty.le_lb:Ty.le .list .bool=false:=rfl
@[simp] theorem Ty.le_li:Ty.le .list .int=false:=rfl
@[simp] theorem Ty.le_ls:Ty.le .list .str=false:=rfl
@[simp] theorem Ty.le_lt:Ty.le .list .tuple=false:=rfl
@[simp] theorem Ty.le_tb:Ty.le .tuple .bool=false:=rfl
@[simp] theorem Ty.le_ti:Ty.le .tuple .int=false:=rfl
@[simp] theorem Ty.le_ts:Ty.le .tuple .str=false:=rfl
@[simp] theorem Ty.le_tl:Ty.le .tuple .list=false:=rfl
def isX (cl:Cls) (w:W) (ts:List String):Option Bool:=match w with
 | .v (.exc c [])=>some (ts.any (ancs cl 8 c).contains)
 | _=>none
@[simp] theorem isX_exc (cl:Cls) (c:String) (ts:List String):isX cl (.v (.exc c [])) ts=some (ts.any (ancs cl 8 c).contains):=rfl
@[simp] def getS:Sl->Nat->Option W
 | [],_=>none
 | x::_,0=>x
 | _::r,n+1=>getS r n
@[simp] def setS:Sl->Nat->W->Sl
 | [],_,_=> []
 | _::r,0,w=>some w::r
 | x::r,n+1,w=>x::setS r n w
def readS (τ:Sl) (i:Nat):Option W:=match getS τ i with
 | some (.own xs)=>some (.bor xs)
 | o=>o
@[simp] theorem readS_own {τ:Sl}{i:Nat}{xs:List D}(e:getS τ i=some (.own xs)):readS τ i=some (.bor xs):=by simp [readS,e]
@[simp] theorem readS_v {τ:Sl}{i:Nat}{d:D}(e:getS τ i=some (.v d)):readS τ i=some (.v d):=by simp [readS,e]
@[simp] theorem readS_bor {τ:Sl}{i:Nat}{xs:List D}(e:getS τ i=some (.bor xs)):readS τ i=some (.bor xs):=by simp [readS,e]
@[simp] def setTup:List Nat->List D->Sl->Option Sl
 | [],[],τ=>some τ
 | i::is,d::ds,τ=>setTup is ds (setS τ i (.v d))
 | _,_,_=>none
def bindT (tg:List Nat) (one:Bool) (d:D) (τ:Sl):Option Sl:=match one with
 | true=>match tg with
  | [i]=>some (setS τ i (.v d))
  | _=>none
 | false=>match d with
  | .tup ds=>setTup tg ds τ
  | _=>none
def compGo (step:D->AH->R (Option D)):List D->AH->R (List D)
 | [],h=> .ok [] h
 | d::ds,h=>match step d h with
  | .ok o h1=>match compGo step ds h1 with
   | .ok r h2=> .ok (match o with | some x=>x::r | none=>r) h2
   | _=> .fail
  | _=> .fail
structure Fx where
 call:String->List W->AH->R W
 cl:Cls
 con:List (String×D)
def cellD (h:AH):Option W->Option (Nat×List D)
 | some (.v (.ref r))=>match h[r]? with
  | some (.lst xs)=>some (r,xs)
  | _=>none
 | _=>none
def wkD:D->Option WK
 | .tup [.int n,.tup ks,.tup ts]=>match intsD ks,intsD ts with
  | some a,some b=>some (n,a,b)
  | _,_=>none
 | _=>none
def intT (i:Int):Tx:=(toString i).toList.map Char.toNat
def fmtW:W->Option Tx
 | .v (.str s)=>some s
 | .v (.int i)=>if 0<=i/\i<1000 then some (intT i)else none
 | _=>none
@[simp] theorem fmtW_str (s:Tx):fmtW (.v (.str s))=some s:=rfl
@[simp] theorem fmtW_int (i:Int):fmtW (.v (.int i))=if 0<=i/\i<1000 then some (intT i)else none:=rfl
def strD (w:W) (h:AH):R W:=match w with
 | .v (.int i)=>if 0<=i/\i<1000 then okv (.str (intT i)) h else .fail
 | _=> .fail
@[simp] theorem strD_int (i:Int) (h:AH):strD (.v (.int i)) h=if 0<=i/\i<1000 then okv (.str (intT i)) h else .fail:=rfl
def tabD (T:List (Tx×D)) (w:W) (h:AH):R W:=match w with
 | .v (.str k)=>match T.lookup k with
  | some d=>if flat d then okv d h else .fail
  | none=> .fail
 | _=> .fail
@[simp] theorem tabD_str (T:List (Tx×D)) (k:Tx) (h:AH):tabD T (.v (.str k)) h=match T.lookup k with
 | some d=>if flat d then okv d h else .fail
 | none=> .fail:=rfl
def tgetD (T:List (Tx×D)) (ws:List W) (h:AH):R W:=match ws with
 | [.v (.str k),.v z]=>match T.lookup k with
  | some d=>if flat d then okv d h else .fail
  | none=>if flat z then okv z h else .fail
 | _=> .fail
@[simp] theorem tgetD_str (T:List (Tx×D)) (k:Tx) (z:D) (h:AH):tgetD T [.v (.str k),.v z] h=match T.lookup k with
 | some d=>if flat d then okv d h else .fail
 | none=>if flat z then okv z h else .fail:=rfl
def fmtP (τ:Sl):List (Tx ⊕ Nat)->Option Tx
 | []=>some []
 | .inl s::ps=>(fmtP τ ps).map (s++ ·)
 | .inr i::ps=>((getS τ i).bind fmtW).bind fun t=>(fmtP τ ps).map (t++ ·)
@[simp] theorem fmtP_nil (τ:Sl):fmtP τ []=some []:=rfl
@[simp] theorem fmtP_c (τ:Sl) (s:Tx) (ps:List (Tx ⊕ Nat)):fmtP τ (.inl s::ps)=(fmtP τ ps).map (s++ ·):=rfl
@[simp] theorem fmtP_v (τ:Sl) (i:Nat) (ps:List (Tx ⊕ Nat)):fmtP τ (.inr i::ps)=((getS τ i).bind fmtW).bind fun t=>(fmtP τ ps).map (t++ ·):=rfl
def fstrD (o:Option Tx) (h:AH):R W:=match o with
 | some t=>if t.length<=LIM then okv (.str t) h else .fail
 | none=> .fail
@[simp] theorem fstrD_some (t:Tx) (h:AH):fstrD (some t) h=if t.length<=LIM then okv (.str t) h else .fail:=rfl
def dlitD (T:List (Tx×Tx)) (o:Option W) (h:AH):R W:=match o with
 | some (.v (.str k))=>match T.lookup k with
  | some t=>okv (.str t) h
  | none=> .fail
 | _=> .fail
@[simp] theorem dlitD_str (T:List (Tx×Tx)) (k:Tx) (h:AH):dlitD T (some (.v (.str k))) h=match T.lookup k with
 | some t=>okv (.str t) h
 | none=> .fail:=rfl
def dicD (h:AH):Option W->Option (Nat×List WK)
 | some (.v (.ref r))=>match h[r]? with
  | some (.dic ks)=>some (r,ks)
  | _=>none
 | _=>none
def putW (ks:List WK) (k:WK):List WK:=if ks.contains k then ks else ks++ [k]
def dinW (neg:Bool) (w:W) (o:Option (Nat×List WK)) (h:AH):R W:=match w with
 | .v d=>match wkD d,o with
  | some k,some (_,ks)=>okv (.bl (if neg then !ks.contains k else ks.contains k)) h
  | _,_=> .fail
 | _=> .fail
def remD (x:D):List D->Option (List D)
 | []=>none
 | y::ys=>if eqD y x then some ys else(remD x ys).map (y:: ·)
def turnR (r:Nat) (ds:List D) (tg:List Nat) (one:Bool) (τb:Sl) (ev:Sl->AH->R W) (d:D) (h:AH):R (Option D):=open Classical in if h[r]? =some (.lst ds)then(match bindT tg one d τb with
 | none=> .fail
 | some τ'=>(ev τ' h).bind fun y h=>(R.of h y.d).bind fun y h=> .ok (some y) h)else .fail
def endR (r:Nat) (ds ys:List D) (h:AH):R W:=open Classical in if h[r]? =some (.lst ds)then .ok (.own ys) h else .fail
mutual
@[simp] def eval (F:Fx):E->Sl->AH->R W
 | .var i,τ,h=>match readS τ i with
  | some w=> .ok w h
  | none=> .fail
 | .con x,_,h=>match F.con.lookup x with
  | some d=>okv d h
  | none=> .fail
 | .int i,_,h=>okv (.int i) h
 | .bl b,_,h=>okv (.bl b) h
 | .non,_,h=>okv .non h
 | .str s,_,h=>okv (.str s) h
 | .tup es,τ,h=>(evalDs F es τ h).bind fun ds h=>okv (.tup ds) h
 | .lst es,τ,h=>(evalDs F es τ h).bind fun ds h=> .ok (.own ds) h
 | .bin o a b,τ,h=>(eval F a τ h).bind fun x h=>(eval F b τ h).bind fun y h=>binD o x y h
 | .cmp o a b,τ,h=>(eval F a τ h).bind fun x h=>(eval F b τ h).bind fun y h=>(R.of h (cmpD o x y h)).bind fun c h=>okv (.bl c) h
 | .chain o p a b c,τ,h=>(eval F a τ h).bind fun x h=>(eval F b τ h).bind fun y h=>(R.of h (cmpD o x y h)).bind fun t h=>match t with
  | true=>(eval F c τ h).bind fun z h=>(R.of h (cmpD p y z h)).bind fun c h=>okv (.bl c) h
  | false=>okv (.bl false) h
 | .isn neg a,τ,h=>(eval F a τ h).bind fun x h=>match x with
  | .v .non=>okv (.bl (!neg)) h
  | _=>okv (.bl neg) h
 | .neg a,τ,h=>(eval F a τ h).bind fun x h=>(R.of h x.int?).bind fun i h=>okv (.int (-i)) h
 | .inv a,τ,h=>(eval F a τ h).bind fun x h=>(R.of h x.int?).bind fun i h=>okv (.int (-i-1)) h
 | .not a,τ,h=>(eval F a τ h).bind fun x h=>(R.of h (truD h x)).bind fun c h=>okv (.bl (!c)) h
 | .and a b,τ,h=>(eval F a τ h).bind fun x h=>(R.of h (truD h x)).bind fun c h=>match c with
  | true=>eval F b τ h
  | false=> .ok x h
 | .or a b,τ,h=>(eval F a τ h).bind fun x h=>(R.of h (truD h x)).bind fun c h=>match c with
  | true=> .ok x h
  | false=>eval F b τ h
 | .ite c a b,τ,h=>(eval F c τ h).bind fun x h=>(R.of h (truD h x)).bind fun c h=>match c with
  | true=>eval F a τ h
  | false=>eval F b τ h
 | .call f es,τ,h=>(evalWs F es τ h).bind fun ws h=>F.call f (ws.map W.arg) h
 | .bi b es,τ,h=>(evalWs F es τ h).bind fun ws h=>biD b ws h
 | .isT a t,τ,h=>(eval F a τ h).bind fun x h=>(R.of h (isT t x)).bind fun c h=>okv (.bl c) h
 | .isX a _ ts,τ,h=>(eval F a τ h).bind fun x h=>(R.of h (isX F.cl x ts)).bind fun c h=>okv (.bl c) h
 | .ix a b,τ,h=>(eval F a τ h).bind fun x h=>(eval F b τ h).bind fun y h=>(R.of h (ixD x y h)).bind fun d h=>okv d h
 | .sl a lo hi,τ,h=>(eval F a τ h).bind fun x h=>(eval F lo τ h).bind fun l h=>(R.of h l.int?).bind fun l h=>(eval F hi τ h).bind fun u h=>(R.of h u.int?).bind fun u h=>slD x (some l) (some u) h
 | .slL a lo,τ,h=>(eval F a τ h).bind fun x h=>(eval F lo τ h).bind fun l h=>(R.of h l.int?).bind fun l h=>slD x (some l) none h
 | .slH a hi,τ,h=>(eval F a τ h).bind fun x h=>(eval F hi τ h).bind fun u h=>(R.of h u.int?).bind fun u h=>slD x none (some u) h
 | .rev a,τ,h=>(eval F a τ h).bind fun x h=>(R.of h (x.lst? h)).bind fun xs h=> .ok (.own xs.reverse) h
 | .comp tg one k cap it hasIf c elt,τ,h=>(evalIt F it τ h).bind fun ds h=>
  if ds.length<=LIM then
   (compGo (fun d h=>match bindT tg one d (List.replicate k none++cap.map fun j=>readS τ j)with
     | none=> .fail
     | some τ'=>(if hasIf then(eval F c τ' h).bind fun x h=>R.of h (truD h x)else .ok true h).bind fun b h=>match b with
      | true=>(eval F elt τ' h).bind fun y h=>(R.of h y.d).bind fun y h=> .ok (some y) h
      | false=> .ok none h) ds h).bind fun ys h=> .ok (.own ys) h
  else .fail
 | .compR tg one k cap i elt,τ,h=>match cellD h (getS τ i)with
  | some (r,ds)=>if ds.length<=LIM then(compGo (turnR r ds tg one (List.replicate k none++cap.map fun j=>readS τ j) (fun τ' h=>eval F elt τ' h)) ds h).bind fun ys h=>endR r ds ys h else .fail
  | none=> .fail
 | .dnew,_,h=>okv (.ref h.length) (h++ [.dic []])
 | .din neg a i,τ,h=>(eval F a τ h).bind fun x h=>dinW neg x (dicD h (getS τ i)) h
 | .dlen i,τ,h=>match dicD h (getS τ i)with
  | some (_,ks)=>okv (.int (ks.length:Int)) h
  | none=> .fail
 | .share a,τ,h=>(eval F a τ h).bind fun x h=>match x with
  | .own xs=>if noRefs xs then okv (.ref h.length) (h++ [.lst xs])else .fail
  | _=> .fail
 | .lenset a,τ,h=>(eval F a τ h).bind fun x h=>(R.of h (x.tup?.bind intsD)).bind fun is h=>if is.length<1000 then okv (.int ((unlI [] is:Nat):Int)) h else .fail
 | .lensT a,τ,h=>(eval F a τ h).bind fun x h=>(R.of h ((x.lst? h).bind strsD)).bind fun ts h=>if ts.length<1000 then okv (.int ((unlT [] ts:Nat):Int)) h else .fail
 | .trange a,τ,h=>(eval F a τ h).bind fun x h=>(R.of h x.int?).bind fun n h=>if 0<=n/\n<=1000 then okv (.tup ((List.range n.toNat).map fun(i:Nat)=> .int (i:Int))) h else .fail
 | .lrange a,τ,h=>(eval F a τ h).bind fun x h=>(R.of h x.int?).bind fun n h=>if 0<=n/\n<=1000 then .ok (.own ((List.range n.toNat).map fun(i:Nat)=> .int (i:Int))) h else .fail
 | .sorti a,τ,h=>(eval F a τ h).bind fun x h=>(R.of h (x.tup?.bind intsD)).bind fun is h=>if is.length<64 then .ok (.own ((sortI is).map .int)) h else .fail
 | .geT a b,τ,h=>(eval F a τ h).bind fun x h=>(eval F b τ h).bind fun y h=>(R.of h (x.tup?.bind intsD)).bind fun is h=>(R.of h (y.tup?.bind intsD)).bind fun js h=>okv (.bl (!lexI is js)) h
 | .ltL a b,τ,h=>(eval F a τ h).bind fun x h=>(eval F b τ h).bind fun y h=>(R.of h ((x.lst? h).bind intsD)).bind fun is h=>(R.of h ((y.lst? h).bind intsD)).bind fun js h=>if is.length=js.length then okv (.bl (lexI is js)) h else .fail
 | .meth m a es,τ,h=>(eval F a τ h).bind fun x h=>if mtTy m x h then(evalWs F es τ h).bind fun ws h=>methD m x ws h else .fail
 | .tix c a,τ,h=>match F.con.lookup c with
  | some (.exc _ (r::T))=>(eval F a τ h).bind fun w h=>tabD (r::T) w h
  | _=> .fail
 | .tget c es,τ,h=>match F.con.lookup c with
  | some (.exc _ (r::T))=>(evalWs F es τ h).bind fun ws h=>tgetD (r::T) ws h
  | _=> .fail
 | .dlit T i,τ,h=>dlitD T (getS τ i) h
 | .fstr ps,τ,h=>fstrD (fmtP τ ps) h
 | .strI a,τ,h=>(eval F a τ h).bind fun w h=>strD w h
@[simp] def evalWs (F:Fx):Es->Sl->AH->R (List W)
 | .nil,_,h=> .ok [] h
 | .cons e es,τ,h=>(eval F e τ h).bind fun w h=>(evalWs F es τ h).bind fun ws h=> .ok (w::ws) h
@[simp] def evalDs (F:Fx):Es->Sl->AH->R (List D)
 | .nil,_,h=> .ok [] h
 | .cons e es,τ,h=>(eval F e τ h).bind fun w h=>(R.of h w.d).bind fun d h=>(evalDs F es τ h).bind fun ds h=> .ok (d::ds) h
@[simp] def evalIt (F:Fx):It->Sl->AH->R (List D)
 | .seq e,τ,h=>(eval F e τ h).bind fun w h=>match w with
  | .v (.str s)=> .ok (chs s) h
  | .v (.tup xs)=> .ok xs h
  | .v (.lst xs)=> .ok xs h
  | .own xs=> .ok xs h
  | .bor xs=> .ok xs h
  | _=> .fail
 | .range1 a,τ,h=>(eval F a τ h).bind fun w h=>(R.of h w.int?).bind fun n h=>if -(B62)<=n/\n<B62 then .ok ((List.range n.toNat).map fun(i:Nat)=> .int (i:Int)) h else .fail
 | .range2 a b,τ,h=>(eval F a τ h).bind fun w h=>(R.of h w.int?).bind fun i h=>(eval F b τ h).bind fun w h=>(R.of h w.int?).bind fun j h=>
  if(-(B62)<=i/\i<B62)/\(-(B62)<=j/\j<B62)then .ok ((List.range (j-i).toNat).map fun(k:Nat)=> .int (i+(k:Int))) h else .fail
 | .rev e,τ,h=>(eval F e τ h).bind fun w h=>match w with
  | .v (.lst xs)=> .ok xs.reverse h
  | .own xs=> .ok xs.reverse h
  | .bor xs=> .ok xs.reverse h
  | _=> .fail
 | .enum e,τ,h=>(eval F e τ h).bind fun w h=>match w with
  | .v (.tup xs)=> .ok (numD 0 xs) h
  | _=> .fail
 | .zip a b,τ,h=>(eval F a τ h).bind fun x h=>(eval F b τ h).bind fun y h=>match x,y with
  | .own xs,.v (.tup ys)=> .ok ((xs.zip ys).map fun p=> .tup [p.1,p.2]) h
  | _,_=> .fail
end
def lpW:W->Option (List D)
 | .v (.str s)=>some (chs s)
 | .v (.tup xs)=>some xs
 | .v (.lst xs)=>some xs
 | .own xs=>some xs
 | _=>none
def lpV:W->Option (List D)
 | .v (.str s)=>some (chs s)
 | .v (.tup xs)=>some xs
 | .v (.lst xs)=>some xs
 | .bor xs=>some xs
 | _=>none
def lpWr:W->Option (List D)
 | .v (.lst xs)=>some xs.reverse
 | .own xs=>some xs.reverse
 | _=>none
def lpVr:W->Option (List D)
 | .v (.lst xs)=>some xs.reverse
 | .bor xs=>some xs.reverse
 | _=>none
@[simp] theorem lpW_str (s:Tx):lpW (.v (.str s))=some (chs s):=rfl
@[simp] theorem lpV_str (s:Tx):lpV (.v (.str s))=some (chs s):=rfl
@[simp] theorem lpW_tup (xs:List D):lpW (.v (.tup xs))=some xs:=rfl
@[simp] theorem lpW_lst (xs:List D):lpW (.v (.lst xs))=some xs:=rfl
@[simp] theorem lpW_own (xs:List D):lpW (.own xs)=some xs:=rfl
@[simp] theorem lpV_tup (xs:List D):lpV (.v (.tup xs))=some xs:=rfl
@[simp] theorem lpV_lst (xs:List D):lpV (.v (.lst xs))=some xs:=rfl
@[simp] theorem lpV_bor (xs:List D):lpV (.bor xs)=some xs:=rfl
@[simp] theorem lpWr_lst (xs:List D):lpWr (.v (.lst xs))=some xs.reverse:=rfl
@[simp] theorem lpWr_own (xs:List D):lpWr (.own xs)=some xs.reverse:=rfl
@[simp] theorem lpVr_lst (xs:List D):lpVr (.v (.lst xs))=some xs.reverse:=rfl
@[simp] theorem lpVr_bor (xs:List D):lpVr (.bor xs)=some xs.reverse:=rfl
@[simp] def isVar:E->Option Nat
 | .var i=>some i
 | _=>none
@[simp] def evalLp (F:Fx) (it:It) (τ:Sl) (h:AH):R (List D):=match it with
 | .seq e=>match isVar e with
  | some i=>R.of h ((getS τ i).bind lpV)
  | none=>(eval F e τ h).bind fun w h=>R.of h (lpW w)
 | .rev e=>match isVar e with
  | some i=>R.of h ((getS τ i).bind lpVr)
  | none=>(eval F e τ h).bind fun w h=>R.of h (lpWr w)
 | it=>evalIt F it τ h
def forGo (bnd:D->Sl->Option Sl) (body:Sl->AH->O):List D->Sl->AH->O
 | [],τ,h=> .next τ h
 | d::ds,τ,h=>match bnd d τ with
  | none=> .fail
  | some τ1=>match body τ1 h with
   | .next τ2 h2=>forGo bnd body ds τ2 h2
   | .cont τ2 h2=>forGo bnd body ds τ2 h2
   | .brk τ2 h2=> .next τ2 h2
   | o=>o
def whlGo (c:Sl->AH->R Bool) (body:Sl->AH->O):Nat->Sl->AH->O
 | 0,_,_=> .fail
 | n+1,τ,h=>(c τ h).toO fun b h1=>match b with
  | false=> .next τ h1
  | true=>match body τ h1 with
   | .next τ2 h2=>whlGo c body n τ2 h2
   | .cont τ2 h2=>whlGo c body n τ2 h2
   | .brk τ2 h2=> .next τ2 h2
   | o=>o
def tstE (F:Fx) (e:E) (τ:Sl) (h:AH):R Bool:=(eval F e τ h).bind fun x h=>R.of h (truD h x)
def setC (w ow kw:W) (τ:Sl) (h:AH):O:=match w,ow,kw with
 | .v d,.v (.ref r),.v (.int j)=>match h[r]? with
  | some (.lst xs)=>match ixN xs.length j with
   | some n=>if flat d then .next τ (h.set r (.lst (xs.set n d)))else .fail
   | none=> .fail
  | _=> .fail
 | _,_,_=> .fail
def forGoR (r:Nat) (xs:List D) (bnd:D->Sl->Option Sl) (body:Sl->AH->O):List D->Sl->AH->O
 | [],τ,h=>open Classical in if h[r]? =some (.lst xs)then .next τ h else .fail
 | d::ds,τ,h=>open Classical in if h[r]? =some (.lst xs)then(match bnd d τ with
  | none=> .fail
  | some τ1=>match body τ1 h with
   | .next τ2 h2=>forGoR r xs bnd body ds τ2 h2
   | .cont τ2 h2=>forGoR r xs bnd body ds τ2 h2
   | .brk τ2 h2=> .next τ2 h2
   | o=>o)else .fail
mutual
@[simp] def exec (F:Fx):S->Sl->AH->O
 | .set i e,τ,h=>(eval F e τ h).toO fun w h=>match w with
  | .bor _=> .fail
  | w=> .next (setS τ i w) h
 | .setf i e,τ,h=>(eval F e τ h).toO fun w h=>match w.d with
  | some d=> .next (setS τ i (.v d)) h
  | none=> .fail
 | .unp is e,τ,h=>(eval F e τ h).toO fun w h=>match w with
  | .v (.tup ds)=>match setTup is ds τ with
   | some τ'=> .next τ' h
   | none=> .fail
  | _=> .fail
 | .setix i k e,τ,h=>(eval F e τ h).toO fun w h=>match getS τ i with
  | some (.own xs)=>(eval F k τ h).toO fun kw h=>match w,kw with
   | .v d,.v (.int j)=>if flat d then(match ixN xs.length j with
    | some n=> .next (setS τ i (.own (xs.set n d))) h
    | none=> .fail)else .fail
   | _,_=> .fail
  | _=> .fail
 | .setref o k e,τ,h=>(eval F e τ h).toO fun w h=>(eval F o τ h).toO fun ow h=>(eval F k τ h).toO fun kw h=>setC w ow kw τ h
 | .app i e,τ,h=>match getS τ i with
  | some (.own xs)=>(eval F e τ h).toO fun w h=>match w.d with
   | some d=>if xs.length<LIM then .next (setS τ i (.own (xs++ [d]))) h else .fail
   | none=> .fail
  | _=> .fail
 | .ins i k e,τ,h=>match getS τ i with
  | some (.own xs)=>(eval F k τ h).toO fun kw h=>(eval F e τ h).toO fun w h=>match kw,w.d with
   | .v (.int j),some d=>if xs.length<LIM/\0<=j/\j<=xs.length then .next (setS τ i (.own (xs.take j.toNat++d::xs.drop j.toNat))) h else .fail
   | _,_=> .fail
  | _=> .fail
 | .ext i e,τ,h=>match getS τ i with
  | some (.own xs)=>(eval F e τ h).toO fun w h=>match w with
   | .own ys=>if xs.length+ys.length<LIM then .next (setS τ i (.own (xs++ys))) h else .fail
   | _=> .fail
  | _=> .fail
 | .pop i,τ,h=>match getS τ i with
  | some (.own xs)=>match xs[xs.length-1]? with
   | some _=> .next (setS τ i (.own (xs.take (xs.length-1)))) h
   | none=> .fail
  | _=> .fail
 | .popTo i j,τ,h=>match getS τ i with
  | some (.own xs)=>match xs[xs.length-1]? with
   | some d=>if flat d then .next (setS (setS τ i (.own (xs.take (xs.length-1)))) j (.v d)) h else .fail
   | none=> .fail
  | _=> .fail
 | .mv i j,τ,h=>match getS τ j with
  | some (.own xs)=> .next (setS (τ.set j none) i (.own xs)) h
  | _=> .fail
 | .dput i e,τ,h=>match dicD h (getS τ i)with
  | some _=>(eval F e τ h).toO fun w h=>match w with
   | .v d=>match wkD d,dicD h (getS τ i)with
    | some k,some (r,ks)=>if ks.length<LIM then .next τ (h.set r (.dic (putW ks k)))else .fail
    | _,_=> .fail
   | _=> .fail
  | none=> .fail
 | .clr i,τ,h=>match getS τ i with
  | some (.own _)=> .next (setS τ i (.own [])) h
  | _=> .fail
 | .rem i e,τ,h=>match getS τ i with
  | some (.own xs)=>(eval F e τ h).toO fun w h=>match w with
   | .v d=>if noRef d&&noRefs xs&&decide (deps xs<140)then(match remD d xs with
    | some ys=> .next (setS τ i (.own ys)) h
    | none=> .fail)else .fail
   | _=> .fail
  | _=> .fail
 | .insR i k e,τ,h=>match cellD h (getS τ i)with
  | some _=>(eval F k τ h).toO fun kw h=>(eval F e τ h).toO fun w h=>match kw,w.d,cellD h (getS τ i)with
   | .v (.int j),some d,some (r,xs)=>if(xs.length<LIM/\0<=j/\j<=xs.length)/\noRef d=true then .next τ (h.set r (.lst (xs.take j.toNat++d::xs.drop j.toNat)))else .fail
   | _,_,_=> .fail
  | none=> .fail
 | .appR i e,τ,h=>match cellD h (getS τ i)with
  | some _=>(eval F e τ h).toO fun w h=>match w.d,cellD h (getS τ i)with
   | some d,some (r,xs)=>if xs.length<LIM/\noRef d=true then .next τ (h.set r (.lst (xs++ [d])))else .fail
   | _,_=> .fail
  | none=> .fail
 | .popR i j,τ,h=>match cellD h (getS τ i)with
  | some (r,xs)=>match xs[xs.length-1]? with
   | some d=> .next (setS τ j (.v d)) (h.set r (.lst (xs.take (xs.length-1))))
   | none=> .fail
  | none=> .fail
 | .popU i is,τ,h=>match cellD h (getS τ i)with
  | some (r,xs)=>match xs[xs.length-1]? with
   | some (.tup ds)=>match setTup is ds τ with
    | some τ'=> .next τ' (h.set r (.lst (xs.take (xs.length-1))))
    | none=> .fail
   | _=> .fail
  | none=> .fail
 | .forR tg one i b,τ,h=>match cellD h (getS τ i)with
  | some (r,xs)=>forGoR r xs (bindT tg one) (fun τ h=>execs F b τ h) xs τ h
  | none=> .fail
 | .freeze i,τ,h=>match getS τ i with
  | some (.own xs)=> .next (setS τ i (.v (.lst xs))) h
  | _=> .next τ h
 | .ex e,τ,h=>(eval F e τ h).toO fun _ h=> .next τ h
 | .ret e,τ,h=>match isVar e with
  | some i=>match getS τ i with
   | some (.bor _)=> .fail
   | some w=> .ret w h
   | none=> .fail
  | none=>(eval F e τ h).toO fun w h=>match w with
   | .bor _=> .fail
   | w=> .ret w h
 | .retn,τ,h=> .ret (.v .non) h
 | .iff c a b,τ,h=>(tstE F c τ h).toO fun t h=>match t with
  | true=>execs F a τ h
  | false=>execs F b τ h
 | .whl n c b,τ,h=>whlGo (fun τ h=>tstE F c τ h) (fun τ h=>execs F b τ h) n τ h
 | .for tg one it b,τ,h=>(evalLp F it τ h).toO fun ds h=>forGo (bindT tg one) (fun τ h=>execs F b τ h) ds τ h
 | .raise c es,τ,h=>(evalWs F es τ h).toO fun _ h=> .exc (.exc c []) h
 | .tryc to f es c nm hb,τ,h=>match evalWs F es τ h with
  | .ok ws h=>match F.call f (ws.map W.arg) h with
   | .ok w h=>match to with
    | none=> .next τ h
    | some i=>match w with
     | .bor _=> .fail
     | w=> .next (setS τ i w) h
   | .exc d h=>match isX F.cl (.v d) [c]with
    | some true=>match execs F hb (setS τ nm (.v d)) h with
     | .next τ' h'=> .next (τ'.set nm none) h'
     | _=> .fail
    | _=> .fail
   | .fail=> .fail
  | _=> .fail
 | .brk,τ,h=> .brk τ h
 | .cont,τ,h=> .cont τ h
 | .pass,τ,h=> .next τ h
@[simp] def execs (F:Fx):Ss->Sl->AH->O
 | .nil,τ,h=> .next τ h
 | .cons s ss,τ,h=>(exec F s τ h).seq fun τ h=>execs F ss τ h
end
structure Fn where
 ps:Nat
 n:Nat
 body:Ss
structure Prog where
 fns:List (String×Fn)
 cl:Cls
 con:List (String×D)
def W.keep:W->Bool
 | .v d=>noRef d
 | .own xs=>noRefs xs
 | .bor _=>true
def fin (n:Nat) (w:W) (h:AH):R W:=if h.length=n then .ok w h else if w.keep then .ok w (h.take n)else .ok w h
def finO (n:Nat):O->R W
 | .ret w h=>match w with
  | .bor _=> .fail
  | w=>fin n w h
 | .next _ h=>fin n (.v .non) h
 | .exc d h=> .exc d h
 | _=> .fail
@[simp] theorem finO_retv (d:D) (h h':AH) (e:h'.length=h.length):finO h.length (.ret (.v d) h')= .ok (.v d) h':=by simp [finO,fin,e]
@[simp] theorem finO_reto (xs:List D) (h h':AH) (e:h'.length=h.length):finO h.length (.ret (.own xs) h')= .ok (.own xs) h':=by simp [finO,fin,e]
@[simp] theorem finO_next (τ:Sl) (h h':AH) (e:h'.length=h.length):finO h.length (.next τ h')= .ok (.v .non) h':=by simp [finO,fin,e]
@[simp] theorem finO_exc (d:D) (n:Nat) (h:AH):finO n (.exc d h)= .exc d h:=rfl
def run (F:Fx) (d:Fn) (ws:List W) (h:AH):R W:=if ws.length=d.ps then finO h.length (execs F d.body (ws.map some++List.replicate (d.n-d.ps) none) h)else .fail
def call (p:Prog):Nat->String->List W->AH->R W
 | 0,_,_,_=> .fail
 | k+1,f,ws,h=>match p.fns.lookup f with
  | some d=>run ⟨call p k,p.cl,p.con⟩ d ws h
  | none=> .fail
theorem call_of {p:Prog}{f:String}{d:Fn}(e:p.fns.lookup f=some d) (k:Nat) (ws:List W) (h:AH) (hl:ws.length=d.ps):
 call p (k+1) f ws h=finO h.length (execs ⟨call p k,p.cl,p.con⟩ d.body (ws.map some++List.replicate (d.n-d.ps) none) h):=by
 rw [call,e]
 simp [run,hl]
end
end M
namespace L2.MS
open PySem PySem.Spec
structure Ge where
 K:PySem.W.Frag
 ca:String->Addr
 cl:M.Cls
 own:List String
structure XOk (Γ:Ge) (c:String):Prop where
 k:ExcK Γ.K (Γ.ca c)
 own: ∀t∈Γ.own,PySem.W.kitOne Γ.K (.ref (Γ.ca c)) (.ref (Γ.ca t))=some ((M.ancs Γ.cl 8 c).contains t)
 ve:PySem.W.kitOne Γ.K (.ref (Γ.ca c)) (.type "ValueError")=some ((M.ancs Γ.cl 8 c).contains "ValueError")
structure Gh where
 fz:Addr->Prop
 rho:Nat->Addr
 n:Nat
def StT (Γ:Ge) (G:Gh) (H:Hp) (a:Addr) (vs:List V):Prop:=(G.fz a/\H a=some (.tup vs)) ∨
 ∃(o:Obj) (its:Array Value) (n:Nat),Γ.K.lookup a=some o/\o.cls= .type "tuple" /\o.dict=none/\o.data= .seq its n/\its.size<=sizeLine/\Vals vs its.toList
def StaL (Γ:Ge) (a:Addr) (vs:List V):Prop:= ∃(o:Obj) (its:Array Value) (n:Nat),Γ.K.lookup a=some o/\o.cls= .type "list" /\o.dict=none/\o.data= .seq its n/\its.size<=sizeLine/\Vals vs its.toList
def StL (Γ:Ge) (G:Gh) (H:Hp) (a:Addr) (vs:List V):Prop:=(G.fz a/\Rd H a (.lst vs))\/StaL Γ a vs
theorem StT.sq {Γ:Ge}{G:Gh}{H:Hp}{a:Addr}{vs:List V}(h:StT Γ G H a vs):SqT Γ.K H a vs:=h.elim (fun z=> .inl (.inl z.2)) fun⟨o,its,n,h1,h2,_,h4⟩=> .inr ⟨o,its,n,h1,h2,h4⟩
theorem StT.pl {Γ:Ge}{G:Gh}{H:Hp}{a:Addr}{vs:List V}(h:StT Γ G H a vs):PlT Γ.K H a:=h.elim (fun z=> .inl ⟨_,z.2⟩) fun⟨o,_,_,h1,h2,h3,_⟩=> .inr ⟨o,h1,h2,h3⟩
theorem StL.sq {Γ:Ge}{G:Gh}{H:Hp}{a:Addr}{vs:List V}(h:StL Γ G H a vs):SqL Γ.K H a vs:=h.elim (fun z=> .inl z.2) fun z=> .inr z
def txS (s:M.Tx):Str:=⟨s.toArray⟩
def pyD:M.D->PyData
 | .int i=> .int i
 | .str s=> .str (txS s)
 | .bl b=> .bool b
 | _=> .none
def tabP (T:List (M.Tx×M.D)):List (Str×PyData):=T.map fun p=>(txS p.1,pyD p.2)
def TabIs (Γ:Ge) (a:Addr) (T:List (M.Tx×M.D)):Prop:=TabK Γ.K a (tabP T)
mutual
def RelD (Γ:Ge) (G:Gh) (H:Hp):M.D->V->Prop
 | .non,v=>v= .non
 | .bl b,v=>v= .bl b
 | .int i,v=>v= .int i
 | .str s,v=>v= .str (txS s)
 | .tup ds,v=> ∃a vs,v= .ref a/\StT Γ G H a vs/\RelDs Γ G H ds vs
 | .lst ds,v=> ∃a vs,v= .ref a/\StL Γ G H a vs/\RelDs Γ G H ds vs
 | .ref r,v=>r<G.n/\v= .ref (G.rho r)
 | .exc c fs,v=>(fs= []/\ ∃x,v= .ref x/\G.fz x/\H x=some (excO x (Γ.ca c))/\XOk Γ c)\/(fs≠ []/\ ∃a,v= .ref a/\TabIs Γ a fs)
def RelDs (Γ:Ge) (G:Gh) (H:Hp):List M.D->List V->Prop
 | [],vs=>vs= []
 | d::ds,vs=> ∃v r,vs=v::r/\RelD Γ G H d v/\RelDs Γ G H ds r
end
def wkT (k:M.WK):M.D:= .tup [.int k.1,.tup (k.2.1.map .int),.tup (k.2.2.map .int)]
structure HRel (Γ:Ge) (G:Gh) (h:M.AH) (H:Hp):Prop where
 len:h.length=G.n
 cell: ∀r xs,h[r]? =some (M.Cell.lst xs)-> ¬G.fz (G.rho r)/\ ∃vs,H (G.rho r)=some (.lst vs)/\RelDs Γ G H xs vs
 pure: ∀(r:Nat) xs,h[r]? =some (M.Cell.lst xs)->M.noRefs xs=true
 inj: ∀r s,r<G.n->s<G.n->G.rho r=G.rho s->r=s
 live: ∀a,G.fz a-> ∃o,H a=some o
 dic: ∀r ks,h[r]? =some (M.Cell.dic ks)-> ¬G.fz (G.rho r)/\ ∃xs,H (G.rho r)=some (DW (G.rho r) xs)/\xs.map (·.1)=ks/\ ∀x∈xs,RelD Γ G H (wkT x.1) (.ref x.2.1)
def Off (G:Gh) (a:Addr):Prop:= ∀r,r<G.n->G.rho r≠a
structure Ext (G:Gh) (H:Hp) (G':Gh) (H':Hp):Prop where
 keep: ∀a o,H a=some o->Off G a->H' a=some o
 le:G.n<=G'.n
 rho: ∀r,r<G.n->G'.rho r=G.rho r
 new: ∀r,G.n<=r->r<G'.n->H (G'.rho r)=none
 fz: ∀a,G.fz a->G'.fz a
 old: ∀a,G'.fz a->G.fz a\/H a=none
 cells: ∀r,r<G.n->(∃ o,H (G.rho r)=some o)-> ∃o,H' (G.rho r)=some o
def RelW (Γ:Ge) (G:Gh) (H:Hp):M.W->V->Prop
 | .v d,v=>RelD Γ G H d v
 | .own xs,v=> ∃a vs,v= .ref a/\ ¬G.fz a/\Off G a/\H a=some (.lst vs)/\RelDs Γ G H xs vs
 | .bor xs,v=> ∃a vs,v= .ref a/\Off G a/\Rd H a (.lst vs)/\RelDs Γ G H xs vs
def isL:M.W->Bool
 | .own _=>true
 | .bor _=>true
 | _=>false
structure StRel (Γ:Ge) (G:Gh) (τ:M.Sl) (h:M.AH) (σ:St) (H:Hp):Prop where
 len:τ.length=σ.length
 slot: ∀i w,M.getS τ i=some w-> ∃v,σ[i]? =some (some v)/\RelW Γ G H w v
 apart: ∀i j xs w a,i≠j->M.getS τ i=some (.own xs)->M.getS τ j=some w->isL w=true->σ[i]? =some (some (.ref a))->σ[j]? ≠some (some (.ref a))
 heap:HRel Γ G h H
section
variable {Γ:Ge}{G G' G1 G2:Gh}{H H' H1 H2:Hp}{h h':M.AH}{τ:M.Sl}{σ:St}
theorem HRel.nfz (r:HRel Γ G h H){i:Nat}(hi:i<G.n): ¬G.fz (G.rho i):=by
 have hi':i<h.length:=by rw [r.len];exact hi
 cases e:h[i]? with
 | none=>rw [List.getElem?_eq_none_iff]at e;omega
 | some c=>cases c with | lst xs=>exact(r.cell i xs e).1 | dic ks=>exact(r.dic i ks e).1
theorem HRel.off (r:HRel Γ G h H){a:Addr}(ha:G.fz a):Off G a:=fun i hi z=>r.nfz hi (z▸ha)
theorem HRel.there (r:HRel Γ G h H){i:Nat}(hi:i<G.n): ∃o,H (G.rho i)=some o:=by
 have hi':i<h.length:=by rw [r.len];exact hi
 cases e:h[i]? with
 | none=>rw [List.getElem?_eq_none_iff]at e;omega
 | some c=>cases c with | lst xs=>exact⟨_,(r.cell i xs e).2.choose_spec.1⟩ | dic ks=>exact⟨_,(r.dic i ks e).2.choose_spec.1⟩
theorem Ext.refl:Ext G H G H:=⟨fun _ _ e _=>e,Nat.le_refl _,fun _ _=>rfl,fun r h1 h2=>absurd h1 (Nat.not_le.mpr h2),fun _ z=>z,fun _ z=> .inl z,fun _ _ z=>z⟩
theorem Ext.none (e:Ext G H G' H') (hr:HRel Γ G h H){a:Addr}(z:H' a=none):H a=none:=by
 cases q:H a with
 | none=>rfl
 | some o=>
  by_cases hof:Off G a
  ·rw [e.keep a o q hof]at z;cases z
  ·unfold Off at hof
   have: ∃r,r<G.n/\G.rho r=a:=Classical.byContradiction fun hh=>hof fun r hr z=>hh ⟨r,hr,z⟩
   obtain⟨r,hr1,rfl⟩:=this
   obtain⟨o',z'⟩:=e.cells r hr1 ⟨o,q⟩
   rw [z]at z';cases z'
theorem Ext.off (e:Ext G H G' H'){a:Addr}{o:HO}(ha:H a=some o) (hof:Off G a):Off G' a:=fun r hr z=>by
 by_cases hn:r<G.n
 ·rw [e.rho r hn]at z;exact hof r hn z
 ·have:=e.new r (Nat.not_lt.mp hn) hr
  rw [z,ha]at this;cases this
theorem Ext.trans (e1:Ext G H G1 H1) (hr:HRel Γ G h H) (e2:Ext G1 H1 G2 H2):Ext G H G2 H2 where
 keep:=fun a o z hof=>e2.keep a o (e1.keep a o z hof) (e1.off z hof)
 le:=Nat.le_trans e1.le e2.le
 rho:=fun r hn=>by rw [e2.rho r (Nat.lt_of_lt_of_le hn e1.le),e1.rho r hn]
 new:=fun r h1 h2=>by
  by_cases hn:r<G1.n
  ·rw [e2.rho r hn];exact e1.new r h1 hn
  ·exact e1.none hr (e2.new r (Nat.not_lt.mp hn) h2)
 fz:=fun a z=>e2.fz a (e1.fz a z)
 old:=fun a z=>(e2.old a z).elim (fun z=>e1.old a z) fun z=> .inr (e1.none hr z)
 cells:=fun r hn z=>by
  have:=e2.cells r (Nat.lt_of_lt_of_le hn e1.le) (by rw [e1.rho r hn];exact e1.cells r hn z)
  rwa [e1.rho r hn]at this
theorem Ext.rd (e:Ext G H G' H'){a:Addr}{u:HO}(z:Rd H a u) (hof:Off G a):Rd H' a u:=z.elim (fun z=> .inl (e.keep a _ z hof)) fun⟨o,z⟩=> .inr ⟨o,e.keep a _ z hof⟩
structure Mon (G:Gh) (H:Hp) (G':Gh) (H':Hp):Prop where
 keep: ∀a o,G.fz a->H a=some o->H' a=some o
 le:G.n<=G'.n
 rho: ∀r,r<G.n->G'.rho r=G.rho r
 fz: ∀a,G.fz a->G'.fz a
theorem Ext.mon (e:Ext G H G' H') (hr:HRel Γ G h H):Mon G H G' H':=⟨fun a o z q=>e.keep a o q (hr.off z),e.le,e.rho,e.fz⟩
theorem Mon.rd (e:Mon G H G' H'){a:Addr}{u:HO}(z:Rd H a u) (hz:G.fz a):Rd H' a u:=z.elim (fun z=> .inl (e.keep a _ hz z)) fun⟨o,z⟩=> .inr ⟨o,e.keep a _ hz z⟩
mutual
theorem RelD.mon (e:Mon G H G' H'): ∀ {d:M.D}{v:V},RelD Γ G H d v->RelD Γ G' H' d v
 | .non,_,z=>z
 | .bl _,_,z=>z
 | .int _,_,z=>z
 | .str _,_,z=>z
 | .tup _,_,⟨a,vs,z1,z2,z3⟩=>⟨a,vs,z1,z2.elim (fun z=> .inl ⟨e.fz a z.1,e.keep a _ z.1 z.2⟩) fun z=> .inr z,RelDs.mon e z3⟩
 | .lst _,_,⟨a,vs,z1,z2,z3⟩=>⟨a,vs,z1,z2.elim (fun z=> .inl ⟨e.fz a z.1,e.rd z.2 z.1⟩) .inr,RelDs.mon e z3⟩
 | .ref r,_,⟨z1,z2⟩=>⟨Nat.lt_of_lt_of_le z1 e.le,by rw [e.rho r z1];exact z2⟩
 | .exc c fs,_,z=>z.imp (fun ⟨z0,x,z1,z2,z3,z4⟩=>⟨z0,x,z1,e.fz x z2,e.keep x _ z2 z3,z4⟩) id
theorem RelDs.mon (e:Mon G H G' H'): ∀ {ds:List M.D}{vs:List V},RelDs Γ G H ds vs->RelDs Γ G' H' ds vs
 | [],_,z=>z
 | _::_,_,⟨v,r,z1,z2,z3⟩=>⟨v,r,z1,RelD.mon e z2,RelDs.mon e z3⟩
end
theorem RelD.ext (e:Ext G H G' H') (hr:HRel Γ G h H){d:M.D}{v:V}(z:RelD Γ G H d v):RelD Γ G' H' d v:=z.mon (e.mon hr)
theorem RelDs.ext (e:Ext G H G' H') (hr:HRel Γ G h H){d:List M.D}{v:List V}(z:RelDs Γ G H d v):RelDs Γ G' H' d v:=z.mon (e.mon hr)
theorem RelW.ext (e:Ext G H G' H') (hr:HRel Γ G h H){w:M.W}{v:V}(z:RelW Γ G H w v):RelW Γ G' H' w v:=by
 cases w with
 | v d=>exact RelD.ext e hr z
 | own xs=>
  obtain⟨a,vs,z1,z2,z3,z4,z5⟩:=z
  refine⟨a,vs,z1,fun q=> ?_,e.off z4 z3,e.keep a _ z4 z3,RelDs.ext e hr z5⟩
  rcases e.old a q with q | q
  ·exact z2 q
  ·rw [z4]at q;cases q
 | bor xs=>
  obtain⟨a,vs,z1,z3,z4,z5⟩:=z
  refine⟨a,vs,z1,?_,e.rd z4 z3,RelDs.ext e hr z5⟩
  rcases z4 with z4 | ⟨o,z4⟩
  ·exact e.off z4 z3
  ·exact e.off z4 z3
theorem StRel.ext (s:StRel Γ G τ h σ H) (e:Ext G H G' H') (hr:HRel Γ G' h' H'):StRel Γ G' τ h' σ H' where
 len:=s.len
 slot:=fun i w z=>let ⟨v,z1,z2⟩:=s.slot i w z; ⟨v,z1,z2.ext e s.heap⟩
 apart:=s.apart
 heap:=hr
theorem RelDs.length: ∀ {ds:List M.D}{vs:List V},RelDs Γ G H ds vs->ds.length=vs.length
 | [],_,rfl=>rfl
 | _::_,_,⟨_,_,rfl,_,z⟩=>congrArg (· +1) (RelDs.length z)
theorem RelDs.get: ∀ {ds:List M.D}{vs:List V}{i:Nat}{d:M.D},RelDs Γ G H ds vs->ds[i]? =some d-> ∃v,vs[i]? =some v/\RelD Γ G H d v
 | [],_,_,_,_,e=>by simp at e
 | _::_,_,0,_,⟨v,_,rfl,z,_⟩,e=>by simp at e;subst e;exact⟨v,rfl,z⟩
 | _::_,_,i+1,_,⟨_,_,rfl,_,z⟩,e=>by
  obtain⟨v,h1,h2⟩:=RelDs.get (i:=i) z (by simpa using e)
  exact⟨v,by simpa using h1,h2⟩
theorem RelDs.append: ∀ {ds es:List M.D}{vs us:List V},RelDs Γ G H ds vs->RelDs Γ G H es us->RelDs Γ G H (ds++es) (vs++us)
 | [],_,_,_,rfl,z=>z
 | _::_,_,_,_,⟨v,r,rfl,z1,z2⟩,z=>⟨v,r++_,rfl,z1,RelDs.append z2 z⟩
theorem RelDs.drop: ∀ {ds:List M.D}{vs:List V}(n:Nat),RelDs Γ G H ds vs->RelDs Γ G H (ds.drop n) (vs.drop n)
 | _,_,0,z=>z
 | [],_,_+1,rfl=>rfl
 | _::_,_,n+1,⟨_,_,rfl,_,z⟩=>RelDs.drop n z
theorem RelDs.take: ∀ {ds:List M.D}{vs:List V}(n:Nat),RelDs Γ G H ds vs->RelDs Γ G H (ds.take n) (vs.take n)
 | _,_,0,_=>rfl
 | [],_,_+1,rfl=>rfl
 | _::_,_,n+1,⟨v,r,rfl,z1,z⟩=>⟨v,r.take n,rfl,z1,RelDs.take n z⟩
theorem RelDs.reverse: ∀ {ds:List M.D}{vs:List V},RelDs Γ G H ds vs->RelDs Γ G H ds.reverse vs.reverse
 | [],_,rfl=>rfl
 | _::_,_,⟨v,r,rfl,z1,z⟩=>by
  rw [List.reverse_cons,List.reverse_cons]
  exact(RelDs.reverse z).append ⟨v,[],rfl,z1,rfl⟩
theorem RelDs.set {d:M.D}{v:V}(z:RelD Γ G H d v): ∀ {ds:List M.D}{vs:List V}(i:Nat),RelDs Γ G H ds vs->RelDs Γ G H (ds.set i d) (vs.set i v)
 | [],_,_,rfl=>rfl
 | _::_,_,0,⟨_,r,rfl,_,z2⟩=>⟨v,r,rfl,z,z2⟩
 | _::_,_,i+1,⟨u,r,rfl,z1,z2⟩=>⟨u,r.set i v,rfl,z1,RelDs.set z i z2⟩
def Gh.more (G:Gh) (a:Addr):Gh:= { G with fz:=fun b=>G.fz b\/b=a }
theorem qt {p:Addr}(o:HO) (hp:H p=none):Ext G H G (upd H p o) where
 keep:=fun a u z _=>by rw [ja (xa z hp)];exact z
 le:=Nat.le_refl _
 rho:=fun _ _=>rfl
 new:=fun r h1 h2=>absurd h1 (Nat.not_le.mpr h2)
 fz:=fun _ z=>z
 old:=fun _ z=> .inl z
 cells:=fun r _ ⟨u,z⟩=>⟨u,by rw [ja (xa z hp)];exact z⟩
theorem Wg {p:Addr}(o:HO) (hp:H p=none):Ext G H (G.more p) (upd H p o) where
 keep:=fun a u z _=>by rw [ja (xa z hp)];exact z
 le:=Nat.le_refl _
 rho:=fun _ _=>rfl
 new:=fun r h1 h2=>absurd h1 (Nat.not_le.mpr h2)
 fz:=fun _ z=> .inl z
 old:=fun a z=>z.elim .inl fun e=> .inr (e▸hp)
 cells:=fun r _ ⟨u,z⟩=>⟨u,by rw [ja (xa z hp)];exact z⟩
theorem HRel.new (r:HRel Γ G h H){p:Addr}(o:HO) (hp:H p=none):HRel Γ G h (upd H p o) where
 len:=r.len
 cell:=fun i xs z=>by
  obtain⟨z1,vs,z2,z3⟩:=r.cell i xs z
  exact⟨z1,vs,by rw [ja (xa z2 hp)];exact z2,z3.ext (qt o hp) r⟩
 pure:=r.pure
 inj:=r.inj
 live:=fun a z=>let ⟨u,q⟩:=r.live a z; ⟨u,by rw [ja (xa q hp)];exact q⟩
 dic:=fun i ks z=>by
  obtain⟨z1,xs,z2,z3,z4⟩:=r.dic i ks z
  exact⟨z1,xs,by rw [ja (xa z2 hp)];exact z2,z3,fun x hx=>(z4 x hx).ext (qt o hp) r⟩
theorem HRel.newF (r:HRel Γ G h H){p:Addr}(o:HO) (hp:H p=none):HRel Γ (G.more p) h (upd H p o) where
 len:=r.len
 cell:=fun i xs z=>by
  obtain⟨z1,vs,z2,z3⟩:=r.cell i xs z
  exact⟨fun q=>q.elim z1 (xa z2 hp),vs,by show upd H p o (G.rho i)=_;rw [ja (xa z2 hp)];exact z2,z3.ext (Wg o hp) r⟩
 pure:=r.pure
 inj:=r.inj
 live:=fun a z=>z.elim (fun z=>let ⟨u,q⟩:=r.live a z; ⟨u,by rw [ja (xa q hp)];exact q⟩) fun e=>⟨o,by rw [e];exact xc⟩
 dic:=fun i ks z=>by
  obtain⟨z1,xs,z2,z3,z4⟩:=r.dic i ks z
  exact⟨fun q=>q.elim z1 (xa z2 hp),xs,by show upd H p o (G.rho i)=_;rw [ja (xa z2 hp)];exact z2,z3,fun x hx=>(z4 x hx).ext (Wg o hp) r⟩
theorem Jd (a:Addr):Mon G H (G.more a) H:=⟨fun _ _ _ z=>z,Nat.le_refl _,fun _ _=>rfl,fun _ z=> .inl z⟩
theorem Ext.more (e:Ext G H G1 H1){a:Addr}(ha:H a=Option.none):Ext G H (G1.more a) H1:=
 ⟨e.keep,e.le,e.rho,e.new,fun b z=> .inl (e.fz b z),fun b z=>z.elim (fun z=>e.old b z) fun z=> .inr (z▸ha),e.cells⟩
theorem HRel.more (r:HRel Γ G h H){a:Addr}(hof:Off G a) (ha: ∃o,H a=some o):HRel Γ (G.more a) h H where
 len:=r.len
 cell:=fun i xs z=>by
  obtain⟨z1,vs,z2,z3⟩:=r.cell i xs z
  have hi:i<G.n:=by rw [← r.len];exact(List.getElem?_eq_some_iff.mp z).1
  exact⟨fun q=>q.elim z1 fun e=>hof i hi e,vs,z2,z3.mon (Jd a)⟩
 pure:=r.pure
 inj:=r.inj
 live:=fun b z=>z.elim (fun z=>r.live b z) fun e=>e▸ha
 dic:=fun i ks z=>by
  obtain⟨z1,xs,z2,z3,z4⟩:=r.dic i ks z
  have hi:i<G.n:=by rw [← r.len];exact(List.getElem?_eq_some_iff.mp z).1
  exact⟨fun q=>q.elim z1 fun e=>hof i hi e,xs,z2,z3,fun x hx=>(z4 x hx).mon (Jd a)⟩
theorem RelW.more {w:M.W}{v:V}{a:Addr}(z:RelW Γ G H w v) (hv:isL w=true->v≠ .ref a):RelW Γ (G.more a) H w v:=by
 cases w with
 | v d=>exact RelD.mon (Jd a) z
 | own xs=>
  obtain⟨b,vs,z1,z2,z3,z4,z5⟩:=z
  exact⟨b,vs,z1,fun q=>q.elim z2 fun e=>hv rfl (e▸z1),z3,z4,z5.mon (Jd a)⟩
 | bor xs=>
  obtain⟨b,vs,z1,z3,z4,z5⟩:=z
  exact⟨b,vs,z1,z3,z4,z5.mon (Jd a)⟩
theorem StRel.more (s:StRel Γ G τ h σ H){a:Addr}(hof:Off G a) (ha: ∃o,H a=some o) (hs: ∀(i:Nat) w,M.getS τ i=some w->isL w=true->σ[i]? ≠some (some (.ref a))):StRel Γ (G.more a) τ h σ H where
 len:=s.len
 slot:=fun i w z=>by
  obtain⟨v,z1,z2⟩:=s.slot i w z
  exact⟨v,z1,z2.more fun q e=>hs i w z q (e▸z1)⟩
 apart:=s.apart
 heap:=s.heap.more hof ha
def FreshW (τ:M.Sl) (σ:St) (H:Hp):M.W->V->Prop
 | .v _,_=>True
 | .own _,v=> ∃a,v= .ref a/\H a=none
 | .bor _,v=> ∃(i:Nat) (w:M.W),M.getS τ i=some w/\isL w=true/\σ[i]? =some (some v)
theorem FreshW.back (e:Ext G H G1 H1) (hr:HRel Γ G h H){w:M.W}{v:V}(z:FreshW τ σ H1 w v):FreshW τ σ H w v:=by
 cases w with
 | v d=>trivial
 | own xs=>obtain⟨a,z1,z2⟩:=z;exact⟨a,z1,e.none hr z2⟩
 | bor xs=>exact z
theorem StRel.slotThere (s:StRel Γ G τ h σ H){i:Nat}{w:M.W}{a:Addr}(e:M.getS τ i=some w) (hl:isL w=true) (q:σ[i]? =some (some (.ref a))): ∃o,H a=some o:=by
 obtain⟨v,z1,z2⟩:=s.slot i w e
 rw [q]at z1
 cases z1
 cases w with
 | v d=>cases hl
 | own xs=>obtain⟨b,vs,z1,_,_,z4,_⟩:=z2;cases z1;exact⟨_,z4⟩
 | bor xs=>
  obtain⟨b,vs,z1,_,z4,_⟩:=z2
  cases z1
  rcases z4 with z4 | ⟨o,z4⟩
  ·exact⟨_,z4⟩
  ·exact⟨_,z4⟩
def ExcE (Γ:Ge) (E:XK) (d:M.D) (H:Hp):Prop:= ∀c,d= .exc c []->XOk Γ c->E (.ref (Γ.ca c)) none H
def Post {α:Type}(Γ:Ge) (E:XK) (G:Gh) (H:Hp) (r:M.R α) (P:α->M.AH->Gh->Hp->Prop):Prop:=match r with
 | .ok a h'=> ∀G' H',Ext G H G' H'->HRel Γ G' h' H'->P a h' G' H'
 | .exc d h'=> ∀G' H',Ext G H G' H'->HRel Γ G' h' H'->ExcE Γ E d H'
 | .fail=>False
theorem Post.on {α:Type}{E:XK}{r:M.R α}{P:α->M.AH->Gh->Hp->Prop}(p:Post Γ E G H r P) (e:Ext G H G1 H1) (hr:HRel Γ G h H):Post Γ E G1 H1 r P:=by
 cases r with
 | ok a h'=>exact fun G' H' e' hr'=>p G' H' (e.trans hr e') hr'
 | exc d h'=>exact fun G' H' e' hr'=>p G' H' (e.trans hr e') hr'
 | fail=>exact p
def tD (Γ:Ge) (E:XK) (m:M.Sl->M.AH->M.R M.W):TE:=fun σ H Q=> ∃G τ h,StRel Γ G τ h σ H/\Post Γ E G H (m τ h) fun w h' G' H'=> ∀v,RelW Γ G' H' w v->FreshW τ σ H w v->Q v H'
def tDT (Γ:Ge) (E:XK) (m:M.Sl->M.AH->M.R Bool):TT:=fun σ H Q=> ∃G τ h,StRel Γ G τ h σ H/\Post Γ E G H (m τ h) fun b _ _ H'=>Q b H'
theorem Ja {α:Type}{E:XK}{G0:Gh}{H0:Hp}{h0:M.AH}{m:M.Sl->M.AH->M.R M.W}{f:M.W->M.AH->M.R α}{P:α->M.AH->Gh->Hp->Prop}{Q:VK}(s0:HRel Γ G0 h0 H0) (e0:Ext G0 H0 G H) (s:StRel Γ G τ h σ H)
 (p:Post Γ E G0 H0 ((m τ h).bind f) P)
 (k: ∀w v h1 G1 H1,Ext G0 H0 G1 H1->Ext G H G1 H1->StRel Γ G1 τ h1 σ H1->RelW Γ G1 H1 w v->FreshW τ σ H w v->Post Γ E G0 H0 (f w h1) P->Q v H1):tD Γ E m σ H Q:=by
 refine⟨G,τ,h,s,?_⟩
 cases q:m τ h with
 | ok w h1=>
  rw [q]at p
  exact fun G1 H1 e hr v z1 z2=>k w v h1 G1 H1 (e0.trans s0 e) e (s.ext e hr) z1 z2 p
 | exc d h1=>rw [q]at p;exact Post.on (h:=h0) (r:=(M.R.exc d h1:M.R M.W)) (P:=fun w h' G' H'=> ∀v,RelW Γ G' H' w v->FreshW τ σ H w v->Q v H') p e0 s0
 | fail=>rw [q]at p;exact p
theorem jT {α:Type}{E:XK}{G0:Gh}{H0:Hp}{h0:M.AH}{m:M.Sl->M.AH->M.R Bool}{f:Bool->M.AH->M.R α}{P:α->M.AH->Gh->Hp->Prop}{Q:Bool->Hp->Prop}(s0:HRel Γ G0 h0 H0) (e0:Ext G0 H0 G H) (s:StRel Γ G τ h σ H)
 (p:Post Γ E G0 H0 ((m τ h).bind f) P)
 (k: ∀b h1 G1 H1,Ext G0 H0 G1 H1->Ext G H G1 H1->StRel Γ G1 τ h1 σ H1->Post Γ E G0 H0 (f b h1) P->Q b H1):tDT Γ E m σ H Q:=by
 refine⟨G,τ,h,s,?_⟩
 cases q:m τ h with
 | ok w h1=>
  rw [q]at p
  exact fun G1 H1 e hr=>k w h1 G1 H1 (e0.trans s0 e) e (s.ext e hr) p
 | exc d h1=>rw [q]at p;exact Post.on (h:=h0) (r:=(M.R.exc d h1:M.R Bool)) (P:=fun b _ _ H'=>Q b H') p e0 s0
 | fail=>rw [q]at p;exact p
def tDA (Γ:Ge) (E:XK) (m:M.Sl->M.AH->M.R (List M.D)):TA:=fun σ H Q=> ∃G τ h,StRel Γ G τ h σ H/\Post Γ E G H (m τ h) fun ds _ G' H'=> ∀vs,RelDs Γ G' H' ds vs->Q vs H'
def RelWs (Γ:Ge) (G:Gh) (H:Hp):List M.W->List V->Prop
 | [],vs=>vs= []
 | w::ws,vs=> ∃v r,vs=v::r/\RelW Γ G H w v/\RelWs Γ G H ws r
theorem RelWs.length: ∀ {ws:List M.W}{vs:List V},RelWs Γ G H ws vs->ws.length=vs.length
 | [],_,rfl=>rfl
 | _::_,_,⟨_,_,rfl,_,z⟩=>congrArg (· +1) (RelWs.length z)
def tDW (Γ:Ge) (E:XK) (m:M.Sl->M.AH->M.R (List M.W)):TA:=fun σ H Q=> ∃G τ h,StRel Γ G τ h σ H/\Post Γ E G H (m τ h) fun ws _ G' H'=> ∀vs,RelWs Γ G' H' ws vs->Q vs H'
theorem qD {α:Type}{E:XK}{G0:Gh}{H0:Hp}{h0:M.AH}{m:M.Sl->M.AH->M.R (List M.D)}{f:List M.D->M.AH->M.R α}{P:α->M.AH->Gh->Hp->Prop}{Q:List V->Hp->Prop}(s0:HRel Γ G0 h0 H0) (e0:Ext G0 H0 G H) (s:StRel Γ G τ h σ H)
 (p:Post Γ E G0 H0 ((m τ h).bind f) P)
 (k: ∀ds vs h1 G1 H1,Ext G0 H0 G1 H1->Ext G H G1 H1->StRel Γ G1 τ h1 σ H1->RelDs Γ G1 H1 ds vs->Post Γ E G0 H0 (f ds h1) P->Q vs H1):tDA Γ E m σ H Q:=by
 refine⟨G,τ,h,s,?_⟩
 cases q:m τ h with
 | ok w h1=>
  rw [q]at p
  exact fun G1 H1 e hr vs z=>k w vs h1 G1 H1 (e0.trans s0 e) e (s.ext e hr) z p
 | exc d h1=>rw [q]at p;exact Post.on (h:=h0) (r:=(M.R.exc d h1:M.R (List M.D))) (P:=fun ds _ G' H'=> ∀vs,RelDs Γ G' H' ds vs->Q vs H') p e0 s0
 | fail=>rw [q]at p;exact p
theorem zg {α:Type}{E:XK}{G0:Gh}{H0:Hp}{h0:M.AH}{m:M.Sl->M.AH->M.R (List M.W)}{f:List M.W->M.AH->M.R α}{P:α->M.AH->Gh->Hp->Prop}{Q:List V->Hp->Prop}(s0:HRel Γ G0 h0 H0) (e0:Ext G0 H0 G H) (s:StRel Γ G τ h σ H)
 (p:Post Γ E G0 H0 ((m τ h).bind f) P)
 (k: ∀ds vs h1 G1 H1,Ext G0 H0 G1 H1->Ext G H G1 H1->StRel Γ G1 τ h1 σ H1->RelWs Γ G1 H1 ds vs->Post Γ E G0 H0 (f ds h1) P->Q vs H1):tDW Γ E m σ H Q:=by
 refine⟨G,τ,h,s,?_⟩
 cases q:m τ h with
 | ok w h1=>
  rw [q]at p
  exact fun G1 H1 e hr vs z=>k w vs h1 G1 H1 (e0.trans s0 e) e (s.ext e hr) z p
 | exc d h1=>rw [q]at p;exact Post.on (h:=h0) (r:=(M.R.exc d h1:M.R (List M.W))) (P:=fun ds _ G' H'=> ∀vs,RelWs Γ G' H' ds vs->Q vs H') p e0 s0
 | fail=>rw [q]at p;exact p
theorem Post.of {α β:Type}{E:XK}{o:Option β}{f:β->M.AH->M.R α}{P:α->M.AH->Gh->Hp->Prop}(p:Post Γ E G H ((M.R.of h o).bind f) P): ∃b,o=some b/\Post Γ E G H (f b h) P:=by
 cases o with
 | none=>exact p.elim
 | some b=>exact⟨b,rfl,p⟩
theorem Post.at {α:Type}{E:XK}{a:α}{P:α->M.AH->Gh->Hp->Prop}(p:Post Γ E G H (.ok a h) P) (e:Ext G H G1 H1) (hr:HRel Γ G1 h H1):P a h G1 H1:=p G1 H1 e hr
theorem toD (e:Ext G H G1 H1) (s:StRel Γ G1 τ h σ H1) (s0:StRel Γ G τ h' σ H){w:M.W}{v:V}{d:M.D}(r:RelW Γ G1 H1 w v) (f:FreshW τ σ H w v) (hd:w.d=some d):
 ∃G2,Ext G H G2 H1/\StRel Γ G2 τ h σ H1/\RelD Γ G2 H1 d v/\Mon G1 H1 G2 H1:=by
 cases w with
 | v d'=>cases hd;exact⟨G1,e,s,r,⟨fun _ _ _ z=>z,Nat.le_refl _,fun _ _=>rfl,fun _ z=>z⟩⟩
 | own xs=>
  cases hd
  obtain⟨a,vs,rfl,z2,z3,z4,z5⟩:=r
  obtain⟨b,hb,hn⟩:=f
  cases hb
  refine⟨G1.more a,e.more hn,s.more z3 ⟨_,z4⟩ fun i w q hl z=> ?_,⟨a,vs,rfl,.inl ⟨.inr rfl,.inl z4⟩,z5.mon (Jd a)⟩,Jd a⟩
  obtain⟨o,z'⟩:=s0.slotThere q hl z
  rw [hn]at z';cases z'
 | bor xs=>cases hd
end
end L2.MS
namespace L2.MS
open PySem PySem.Spec PyProof.Rows
mutual
def RV (hp:Heap):M.D->Value->Prop
 | .non,u=>u= .none
 | .bl b,u=>u= .bool b
 | .int i,u=> ∃t,u= .int i t
 | .str s,u=> ∃t,u= .str (txS s) t
 | .tup ds,u=> ∃(a:Addr) (its:List Value),u= .ref a/\IsTup hp a its.toArray/\RVs hp ds its
 | .lst ds,u=> ∃(a:Addr) (its:List Value),u= .ref a/\hp.IsList a its.toArray/\RVs hp ds its
 | .ref _,_=>False
 | .exc _ _,_=>False
def RVs (hp:Heap):List M.D->List Value->Prop
 | [],us=>us= []
 | d::ds,us=> ∃u r,us=u::r/\RV hp d u/\RVs hp ds r
end
theorem RVs.length {hp:Heap}: ∀ {ds:List M.D}{us:List Value},RVs hp ds us->ds.length=us.length
 | [],_,rfl=>rfl
 | _::_,_,⟨_,_,rfl,_,z⟩=>congrArg (· +1) (RVs.length z)
theorem RVs.get {hp:Heap}: ∀ {ds:List M.D}{us:List Value}{j:Nat}{u:Value},RVs hp ds us->us[j]? =some u-> ∃d,ds[j]? =some d/\RV hp d u
 | [],_,_,_,rfl,e=>by simp at e
 | d::_,_,0,_,⟨v,_,rfl,z,_⟩,e=>by simp at e;subst e;exact⟨d,rfl,z⟩
 | _::_,_,j+1,_,⟨_,_,rfl,_,z⟩,e=>by
  obtain⟨v,h1,h2⟩:=RVs.get (j:=j) z (by simpa using e)
  exact⟨v,by simpa using h1,h2⟩
section
variable {X:Cx}{Γ:Ge}{G:Gh}{H:Hp}{h:M.AH}{pins:List (Addr×Obj)}{σ:St}{s:Shared}
mutual
theorem RelD.rv0 (I:Inv X pins σ H s) (hK:X.K=Γ.K): ∀ {d:M.D}{x:V}{u:Value},RelD Γ G H d x->RelV x u->M.noRef d=true->RV s.heap d u
 | .non,_,_,rfl,r,_=>r
 | .bl _,_,_,rfl,r,_=>r
 | .int _,_,_,rfl,r,_=>r
 | .str _,_,_,rfl,r,_=>r
 | .tup ds,_,_,⟨a,vs,rfl,z2,z3⟩,r,n=>by
  cases r
  obtain⟨its,r1,p1,_⟩:=I.tuple (hK▸z2.sq)
  exact⟨a,its,rfl,p1,RelDs.rv0 I hK z3 r1 (by simpa [M.noRef]using n)⟩
 | .lst ds,_,_,⟨a,vs,rfl,z2,z3⟩,r,n=>by
  cases r
  obtain⟨its,r1,p1,_⟩:=I.list (hK▸z2.sq)
  exact⟨a,its,rfl,p1.isList,RelDs.rv0 I hK z3 r1 (by simpa [M.noRef]using n)⟩
 | .ref _,_,_,_,_,n=>by simp [M.noRef]at n
 | .exc _ _,_,_,_,_,n=>by simp [M.noRef]at n
theorem RelDs.rv0 (I:Inv X pins σ H s) (hK:X.K=Γ.K): ∀ {ds:List M.D}{xs:List V}{us:List Value},RelDs Γ G H ds xs->Vals xs us->M.noRefs ds=true->RVs s.heap ds us
 | [],_,_,rfl,.nil,_=>rfl
 | d::ds,_,_,⟨v,r,rfl,z1,z2⟩,.cons r1 r2,n=>by
  have n':M.noRef d=true/\M.noRefs ds=true:=by simpa [M.noRefs]using n
  exact⟨_,_,rfl,RelD.rv0 I hK z1 r1 n'.1,RelDs.rv0 I hK z2 r2 n'.2⟩
end
mutual
theorem RelD.rv (I:Inv X pins σ H s) (hK:X.K=Γ.K) (hr:HRel Γ G h H): ∀ {d:M.D}{x:V}{u:Value},RelD Γ G H d x->RelV x u->M.noRef (M.res h d)=true->RV s.heap (M.res h d) u
 | .non,_,_,rfl,r,_=>r
 | .bl _,_,_,rfl,r,_=>r
 | .int _,_,_,rfl,r,_=>r
 | .str _,_,_,rfl,r,_=>r
 | .tup ds,_,_,⟨a,vs,rfl,z2,z3⟩,r,n=>by
  cases r
  obtain⟨its,r1,p1,_⟩:=I.tuple (hK▸z2.sq)
  rw [M.res]at n ⊢
  exact⟨a,its,rfl,p1,RelDs.rv I hK hr z3 r1 (by simpa [M.noRef]using n)⟩
 | .lst ds,_,_,⟨a,vs,rfl,z2,z3⟩,r,n=>by
  cases r
  obtain⟨its,r1,p1,_⟩:=I.list (hK▸z2.sq)
  rw [M.res]at n ⊢
  exact⟨a,its,rfl,p1.isList,RelDs.rv I hK hr z3 r1 (by simpa [M.noRef]using n)⟩
 | .ref i,_,_,⟨hi,e⟩,r,n=>by
  subst e
  cases r
  rw [M.res]at n ⊢
  cases q:h[i]? with
  | none=>rw [q]at n;simp [M.noRef]at n
  | some c=>
   cases c with
   | lst xs=>
    rw [q]at n
    obtain⟨_,vs,z2,z3⟩:=hr.cell i xs q
    obtain⟨its,r1,p1,_⟩:=I.list (SqL.of (K:=X.K) z2)
    exact⟨_,its,rfl,p1.isList,RelDs.rv0 I hK z3 r1 (by simpa [M.noRef]using n)⟩
   | dic ks=>rw [q]at n;simp [M.noRef]at n
 | .exc _ _,_,_,_,_,n=>by simp [M.res,M.noRef]at n
theorem RelDs.rv (I:Inv X pins σ H s) (hK:X.K=Γ.K) (hr:HRel Γ G h H): ∀ {ds:List M.D}{xs:List V}{us:List Value},RelDs Γ G H ds xs->Vals xs us->M.noRefs (M.ress h ds)=true->RVs s.heap (M.ress h ds) us
 | [],_,_,rfl,.nil,_=>rfl
 | d::ds,_,_,⟨v,r,rfl,z1,z2⟩,.cons r1 r2,n=>by
  rw [M.ress]at n ⊢
  have n':M.noRef (M.res h d)=true/\M.noRefs (M.ress h ds)=true:=by simpa [M.noRefs]using n
  exact⟨_,_,rfl,RelD.rv I hK hr z1 r1 n'.1,RelDs.rv I hK hr z2 r2 n'.2⟩
end
theorem RelW.rv (I:Inv X pins σ H s) (hK:X.K=Γ.K) (hr:HRel Γ G h H){w:M.W}{x:V}{u:Value}(z:RelW Γ G H w x) (r:RelV x u) (n:M.noRef (w.dd h)=true):RV s.heap (w.dd h) u:=by
 cases w with
 | v d=>exact RelD.rv I hK hr z r n
 | own xs=>
  obtain⟨a,vs,rfl,_,_,z4,z5⟩:=z
  cases r
  obtain⟨its,r1,p1,_⟩:=I.list (SqL.of (K:=X.K) z4)
  exact⟨a,its,rfl,p1.isList,RelDs.rv I hK hr z5 r1 (by simpa [M.noRef]using n)⟩
 | bor xs=>
  obtain⟨a,vs,rfl,_,z4,z5⟩:=z
  cases r
  obtain⟨its,r1,p1,_⟩:=I.list (show SqL X.K H a vs from .inl z4)
  exact⟨a,its,rfl,p1.isList,RelDs.rv I hK hr z5 r1 (by simpa [M.noRef]using n)⟩
end
theorem Xu {a b:M.Tx}(h:txS a=txS b):a=b:=by
 have:=congrArg Str.cps h
 simpa [txS]using this
theorem qy {hp:Heap}{a:Addr}{xs ys:List Value}(h1:IsTup hp a xs.toArray) (h2:IsTup hp a ys.toArray):xs=ys:=by
 obtain⟨o,e1,_,n,d1⟩:=h1
 obtain⟨o',e2,_,n',d2⟩:=h2
 rw [e1]at e2;cases e2
 rw [d1]at d2;cases d2
 rfl
theorem qr {hp:Heap}{a:Addr}{xs ys:List Value}(h1:hp.IsList a xs.toArray) (h2:hp.IsList a ys.toArray):xs=ys:=by
 obtain⟨o,e1,_,n,d1⟩:=h1
 obtain⟨o',e2,_,n',d2⟩:=h2
 rw [e1]at e2;cases e2
 rw [d1]at d2;cases d2
 rfl
theorem Jk {hp:Heap}{a:Addr}{xs ys:Array Value}(h1:IsTup hp a xs) (h2:hp.IsList a ys):False:=by
 obtain⟨o,e1,c1,_⟩:=h1
 obtain⟨o',e2,c2,_⟩:=h2
 rw [e1]at e2;cases e2
 rw [c1]at c2
 exact absurd c2 (by decide)
mutual
theorem RV.inj {hp:Heap}: ∀ {d e:M.D}{u:Value},RV hp d u->RV hp e u->d=e
 | .non,e,_,rfl,q=>by cases e<;>first | rfl | (simp [RV]at q)
 | .bl _,e,_,rfl,q=>by cases e<;>first | (simp [RV]at q;done) | (have q:=q;simp [RV]at q;try rw [q])
 | .int _,e,_,⟨t,rfl⟩,q=>by cases e<;>first | (simp [RV]at q;done) | (have q:=q;simp [RV]at q;try rw [q])
 | .str _,e,_,⟨t,rfl⟩,q=>by
  cases e with
  | str z=>
   obtain⟨t',q⟩:=q
   injection q with q1 q2
   rw [Xu q1]
  | _=>simp [RV]at q
 | .tup ds,e,_,⟨a,its,rfl,p,r⟩,q=>by
  cases e with
  | tup es=>
   obtain⟨b,its2,e,p2,r2⟩:=q
   cases e
   cases qy p p2
   rw [RVs.inj r r2]
  | lst es=>
   obtain⟨b,its2,e,p2,r2⟩:=q
   cases e
   exact(Jk p p2).elim
  | _=>simp [RV]at q
 | .lst ds,e,_,⟨a,its,rfl,p,r⟩,q=>by
  cases e with
  | lst es=>
   obtain⟨b,its2,e,p2,r2⟩:=q
   cases e
   cases qr p p2
   rw [RVs.inj r r2]
  | tup es=>
   obtain⟨b,its2,e,p2,r2⟩:=q
   cases e
   exact(Jk p2 p).elim
  | _=>simp [RV]at q
 | .ref _,_,_,q,_=>q.elim
 | .exc _ _,_,_,q,_=>q.elim
theorem RVs.inj {hp:Heap}: ∀ {d e:List M.D}{u:List Value},RVs hp d u->RVs hp e u->d=e
 | [],e,_,rfl,q=>by
  cases e with
  | nil=>rfl
  | cons a b=>obtain⟨_,_,z,_⟩:=q;cases z
 | d::ds,e,_,⟨u,r,rfl,z1,z2⟩,q=>by
  cases e with
  | nil=>cases (show _::_= []from q)
  | cons a b=>
   obtain⟨_,_,z,y1,y2⟩:=q
   cases z
   rw [RV.inj z1 y1,RVs.inj z2 y2]
end
mutual
theorem RV.refl {hp:Heap}: ∀ {d:M.D}{u:Value},RV hp d u->M.eqD d d=true
 | .non,_,_=>rfl
 | .bl _,_,_=>by simp
 | .int _,_,_=>by simp
 | .str _,_,_=>by simp
 | .tup ds,_,⟨_,_,_,_,r⟩=>by rw [M.eqD];exact RVs.refl r
 | .lst ds,_,⟨_,_,_,_,r⟩=>by rw [M.eqD];exact RVs.refl r
 | .ref _,_,q=>q.elim
 | .exc _ _,_,q=>q.elim
theorem RVs.refl {hp:Heap}: ∀ {d:List M.D}{u:List Value},RVs hp d u->M.eqDs d d=true
 | [],_,_=>rfl
 | d::ds,_,⟨_,_,_,z1,z2⟩=>by rw [M.eqDs,RV.refl z1,RVs.refl z2];rfl
end
def eqJ (xs ys:List M.D) (j:Nat):Bool:=match xs[j]?,ys[j]? with
 | some a,some b=>M.eqD a b
 | _,_=>true
theorem jq (n:Nat) (e:Nat->Bool):(List.range (n+1)).all e=(e 0&&(List.range n).all fun j=>e (j+1)):=by
 rw [List.range_succ_eq_map,List.all_cons,List.all_map];rfl
theorem XA: ∀(xs ys:List M.D),xs.length=ys.length->(List.range xs.length).all (eqJ xs ys)=M.eqDs xs ys
 | [],[],_=>rfl
 | [],_::_,h=>by simp at h
 | _::_,[],h=>by simp at h
 | x::xs,y::ys,h=>by
  rw [List.length_cons,jq,M.eqDs]
  have ih:=XA xs ys (by simpa using h)
  rw [← ih]
  rfl
theorem zG: ∀(xs ys:List M.D),M.eqDs xs ys=true->xs.length=ys.length
 | [],[],_=>rfl
 | [],_::_,h=>by simp at h
 | _::_,[],h=>by simp at h
 | x::xs,y::ys,h=>by
  rw [M.eqDs,Bool.and_eq_true]at h
  rw [List.length_cons,List.length_cons,zG xs ys h.2]
theorem ZU {xs ys:List M.D}(h:xs.length≠ys.length):M.eqDs xs ys=false:=by
 cases e:M.eqDs xs ys with
 | false=>rfl
 | true=>exact absurd (zG xs ys e) h
open SeqAt in
structure Cmp3 (A:Around) (s:Shared) (u v:Value) (b:Bool):Prop where
 rc:RcAt A s u v b
 ne:RcNeAt A s u v (!b)
 eq:EqAt A s u v b
section
open SeqAt
variable {A:Around}{s:Shared}
theorem Zm: ∀ {ds:List M.D}{j:Nat}{d:M.D},ds[j]? =some d->M.dep d<=M.deps ds
 | [],_,_,e=>by simp at e
 | x::xs,0,d,e=>by simp at e;subst e;simp only [M.deps];omega
 | x::xs,j+1,d,e=>by
  have:=Zm (ds:=xs) (j:=j) (by simpa using e)
  simp only [M.deps]
  omega
theorem b2n (b:Bool):((if b then(1:Int)else 0))=((b.toNat:Nat):Int):=by cases b<;>rfl
theorem ZQ (a b:M.Tx):(txS a==txS b)=(a==b):=by
 by_cases h:a=b
 ·subst h;simp
 ·have h2:txS a≠txS b:=fun e=>h (Xu e)
  rw [beq_eq_false_iff_ne.mpr h,beq_eq_false_iff_ne.mpr h2]
theorem xT {l b:Addr}{its its2:List Value}{xs ys:List M.D}(hl:s.heap.IsList l its.toArray) (hb:s.heap.IsList b its2.toArray) (r1:RVs s.heap xs its) (r2:RVs s.heap ys its2) (hu:A.units<cLine)
 (he: ∀(j:Nat) a c u v,xs[j]? =some a->ys[j]? =some c->RV s.heap a u->RV s.heap c v->EqAt A.in1 s u v (M.eqD a c)):Cmp3 A s (.ref l) (.ref b) (M.eqDs xs ys):=by
 have hi: ∀(j:Nat) (h1:j<its.toArray.size) (h2:j<its2.toArray.size),EqAt A.in1 s its.toArray[j] its2.toArray[j] (eqJ xs ys j):=fun j h1 h2=>by
  obtain⟨a,ea,ra⟩:=r1.get (j:=j) (u:=its.toArray[j]) (by simp at h1;simp [h1])
  obtain⟨c,ec,rc⟩:=r2.get (j:=j) (u:=its2.toArray[j]) (by simp at h2;simp [h2])
  have:=he j a c _ _ ea ec ra rc
  unfold eqJ
  rw [ea,ec]
  exact this
 have l1:=r1.length
 have l2:=r2.length
 have two:RcAt A s (.ref l) (.ref b) (M.eqDs xs ys)/\RcNeAt A s (.ref l) (.ref b) (!M.eqDs xs ys):=by
  by_cases hz:xs.length=ys.length
  ·have hsz:its.toArray.size=its2.toArray.size:=by simp;omega
   have e:(List.range its.toArray.size).all (eqJ xs ys)=M.eqDs xs ys:=by
    rw [List.size_toArray,←l1];exact XA xs ys hz
   have a:=RcAt.lists hl hb hsz hu hi
   have c:=RcNeAt.lists hl hb hsz hu hi
   rw [e]at a c
   exact⟨a,c⟩
  ·have hsz:(its.toArray.size != its2.toArray.size)=true:=by simp;omega
   rw [ZU hz]
   exact⟨RcAt.lists_lengths hl hb hsz hu,RcNeAt.lists_lengths hl hb hsz hu⟩
 refine⟨two.1,two.2,?_⟩
 by_cases hlb:l=b
 ·subst hlb
  cases qr hl hb
  cases RVs.inj r1 r2
  rw [RVs.refl r1]
  exact EqAt.same _
 ·exact EqAt.of_refs hlb two.1
theorem QH {l b:Addr}{its its2:List Value}{xs ys:List M.D}(hl:IsTup s.heap l its.toArray) (hb:IsTup s.heap b its2.toArray) (r1:RVs s.heap xs its) (r2:RVs s.heap ys its2) (hu:A.units<cLine)
 (he: ∀(j:Nat) a c u v,xs[j]? =some a->ys[j]? =some c->RV s.heap a u->RV s.heap c v->EqAt A.in1 s u v (M.eqD a c)):Cmp3 A s (.ref l) (.ref b) (M.eqDs xs ys):=by
 have hi: ∀(j:Nat) (h1:j<its.toArray.size) (h2:j<its2.toArray.size),EqAt A.in1 s its.toArray[j] its2.toArray[j] (eqJ xs ys j):=fun j h1 h2=>by
  obtain⟨a,ea,ra⟩:=r1.get (j:=j) (u:=its.toArray[j]) (by simp at h1;simp [h1])
  obtain⟨c,ec,rc⟩:=r2.get (j:=j) (u:=its2.toArray[j]) (by simp at h2;simp [h2])
  have:=he j a c _ _ ea ec ra rc
  unfold eqJ
  rw [ea,ec]
  exact this
 have l1:=r1.length
 have l2:=r2.length
 have e:((List.range (min its.toArray.size its2.toArray.size)).all (eqJ xs ys)&&its.toArray.size==its2.toArray.size)=M.eqDs xs ys:=by
  rw [List.size_toArray,List.size_toArray,←l1,←l2]
  by_cases hz:xs.length=ys.length
  ·rw [← hz,Nat.min_self,XA xs ys hz];simp
  ·rw [ZU hz];simp [hz]
 have a:=RcAt.tuples hl hb hu hi
 have c:=RcNeAt.tuples hl hb hu hi
 rw [e]at a c
 refine⟨a,c,?_⟩
 by_cases hlb:l=b
 ·subst hlb
  cases qy hl hb
  cases RVs.inj r1 r2
  rw [RVs.refl r1]
  exact EqAt.same _
 ·exact EqAt.of_refs hlb a
theorem Cmp3.of {u v:Value}{b b':Bool}(h:Cmp3 A s u v b) (e:b=b'):Cmp3 A s u v b':=e▸h
theorem cmp3: ∀(n:Nat) (d e:M.D) (A:Around) (u v:Value),M.dep d<=n->A.units+n<cLine->RV s.heap d u->RV s.heap e v->Cmp3 A s u v (M.eqD d e):=by
 intro n
 induction n with
 | zero=>
  intro d e A u v hd hu r1 r2
  have hu':A.units<cLine:=by omega
  cases d with
  | non=>
   cases (show u= .none from r1)
   cases e with
   | non=>cases (show v= .none from r2);exact⟨RcAt.none_none,RcNeAt.none_none,EqAt.same _⟩
   | bl b=>cases (show v= .bool b from r2);exact⟨RcAt.none_bool b,RcNeAt.none_bool b,EqAt.none_bool b⟩
   | int i=>obtain⟨t,rfl⟩:=r2;exact⟨RcAt.none_int i t,RcNeAt.none_int i t,EqAt.none_int i t⟩
   | str z=>obtain⟨t,rfl⟩:=r2;exact⟨RcAt.none_str _ t,RcNeAt.none_str _ t,EqAt.none_str _ t⟩
   | tup es=>obtain⟨a,its,rfl,p,_⟩:=r2;exact⟨RcAt.none_tuple p hu',RcNeAt.none_tuple p hu',EqAt.none_tuple p hu'⟩
   | lst es=>obtain⟨a,its,rfl,p,_⟩:=r2;exact⟨RcAt.none_list p hu',RcNeAt.none_list p hu',EqAt.none_list p hu'⟩
   | ref _=>exact r2.elim
   | exc _ _=>exact r2.elim
  | bl x=>
   cases (show u= .bool x from r1)
   cases e with
   | non=>cases (show v= .none from r2);exact⟨RcAt.bool_none x,RcNeAt.bool_none x,EqAt.bool_none x⟩
   | bl b=>cases (show v= .bool b from r2);exact⟨RcAt.bool_bool x b,RcNeAt.bool_bool x b,EqAt.bool_bool x b⟩
   | int i=>obtain⟨t,rfl⟩:=r2;exact(Cmp3.mk (RcAt.bool_int x i t) (RcNeAt.bool_int x i t) (EqAt.bool_int x i t)).of (by rw [b2n];rfl)
   | str z=>obtain⟨t,rfl⟩:=r2;exact⟨RcAt.bool_str x _ t,RcNeAt.bool_str x _ t,EqAt.bool_str x _ t⟩
   | tup es=>obtain⟨a,its,rfl,p,_⟩:=r2;exact⟨RcAt.bool_tuple x p hu',RcNeAt.bool_tuple x p hu',EqAt.bool_tuple x p hu'⟩
   | lst es=>obtain⟨a,its,rfl,p,_⟩:=r2;exact⟨RcAt.bool_list x p hu',RcNeAt.bool_list x p hu',EqAt.bool_list x p hu'⟩
   | ref _=>exact r2.elim
   | exc _ _=>exact r2.elim
  | int x=>
   obtain⟨t0,rfl⟩:=r1
   cases e with
   | non=>cases (show v= .none from r2);exact⟨RcAt.int_none x t0,RcNeAt.int_none x t0,EqAt.int_none x t0⟩
   | bl b=>cases (show v= .bool b from r2);exact(Cmp3.mk (RcAt.int_bool x t0 b) (RcNeAt.int_bool x t0 b) (EqAt.int_bool x t0 b)).of (by rw [b2n];rfl)
   | int i=>obtain⟨t,rfl⟩:=r2;exact⟨RcAt.int_int x t0 i t,RcNeAt.int_int x t0 i t,EqAt.int_int x t0 i t⟩
   | str z=>obtain⟨t,rfl⟩:=r2;exact⟨RcAt.int_str x t0 _ t,RcNeAt.int_str x t0 _ t,EqAt.int_str x t0 _ t⟩
   | tup es=>obtain⟨a,its,rfl,p,_⟩:=r2;exact⟨RcAt.int_tuple x t0 p hu',RcNeAt.int_tuple x t0 p hu',EqAt.int_tuple x t0 p hu'⟩
   | lst es=>obtain⟨a,its,rfl,p,_⟩:=r2;exact⟨RcAt.int_list x t0 p hu',RcNeAt.int_list x t0 p hu',EqAt.int_list x t0 p hu'⟩
   | ref _=>exact r2.elim
   | exc _ _=>exact r2.elim
  | str x=>
   obtain⟨t0,rfl⟩:=r1
   cases e with
   | non=>cases (show v= .none from r2);exact⟨RcAt.str_none _ t0,RcNeAt.str_none _ t0,EqAt.str_none _ t0⟩
   | bl b=>cases (show v= .bool b from r2);exact⟨RcAt.str_bool _ t0 b,RcNeAt.str_bool _ t0 b,EqAt.str_bool _ t0 b⟩
   | int i=>obtain⟨t,rfl⟩:=r2;exact⟨RcAt.str_int _ t0 i t,RcNeAt.str_int _ t0 i t,EqAt.str_int _ t0 i t⟩
   | str z=>obtain⟨t,rfl⟩:=r2;exact(Cmp3.mk (RcAt.str_str _ t0 _ t) (RcNeAt.str_str _ t0 _ t) (EqAt.str_str _ t0 _ t)).of (by rw [ZQ];rfl)
   | tup es=>obtain⟨a,its,rfl,p,_⟩:=r2;exact⟨RcAt.str_tuple _ t0 p hu',RcNeAt.str_tuple _ t0 p hu',EqAt.str_tuple _ t0 p hu'⟩
   | lst es=>obtain⟨a,its,rfl,p,_⟩:=r2;exact⟨RcAt.str_list _ t0 p hu',RcNeAt.str_list _ t0 p hu',EqAt.str_list _ t0 p hu'⟩
   | ref _=>exact r2.elim
   | exc _ _=>exact r2.elim
  | tup xs=>simp only [M.dep]at hd;omega
  | lst xs=>simp only [M.dep]at hd;omega
  | ref _=>exact r1.elim
  | exc _ _=>exact r1.elim
 | succ n ih=>
  intro d e A u v hd hu r1 r2
  have hu':A.units<cLine:=by omega
  cases d with
  | tup xs=>
   obtain⟨l,its1,rfl,p1,q1⟩:=r1
   have hd':M.deps xs<=n:=by simp only [M.dep]at hd;omega
   cases e with
   | non=>cases (show v= .none from r2);exact⟨RcAt.tuple_none p1 hu',RcNeAt.tuple_none p1 hu',EqAt.tuple_none p1 hu'⟩
   | bl b=>cases (show v= .bool b from r2);exact⟨RcAt.tuple_bool b p1 hu',RcNeAt.tuple_bool b p1 hu',EqAt.tuple_bool b p1 hu'⟩
   | int i=>obtain⟨t,rfl⟩:=r2;exact⟨RcAt.tuple_int i t p1 hu',RcNeAt.tuple_int i t p1 hu',EqAt.tuple_int i t p1 hu'⟩
   | str z=>obtain⟨t,rfl⟩:=r2;exact⟨RcAt.tuple_str _ t p1 hu',RcNeAt.tuple_str _ t p1 hu',EqAt.tuple_str _ t p1 hu'⟩
   | tup es=>
    obtain⟨a,its,rfl,p,q⟩:=r2
    rw [M.eqD]
    exact QH p1 p q1 q hu' fun j a' c' u' v' e1 e2 k1 k2=>(ih a' c' A.in1 u' v' (Nat.le_trans (Zm e1) hd') (by show A.units+1+n<cLine;omega) k1 k2).eq
   | lst es=>obtain⟨a,its,rfl,p,_⟩:=r2;exact⟨RcAt.tuple_list p1 p hu',RcNeAt.tuple_list p1 p hu',EqAt.tuple_list p1 p hu'⟩
   | ref _=>exact r2.elim
   | exc _ _=>exact r2.elim
  | lst xs=>
   obtain⟨l,its1,rfl,p1,q1⟩:=r1
   have hd':M.deps xs<=n:=by simp only [M.dep]at hd;omega
   cases e with
   | non=>cases (show v= .none from r2);exact⟨RcAt.list_none p1 hu',RcNeAt.list_none p1 hu',EqAt.list_none p1 hu'⟩
   | bl b=>cases (show v= .bool b from r2);exact⟨RcAt.list_bool b p1 hu',RcNeAt.list_bool b p1 hu',EqAt.list_bool b p1 hu'⟩
   | int i=>obtain⟨t,rfl⟩:=r2;exact⟨RcAt.list_int i t p1 hu',RcNeAt.list_int i t p1 hu',EqAt.list_int i t p1 hu'⟩
   | str z=>obtain⟨t,rfl⟩:=r2;exact⟨RcAt.list_str _ t p1 hu',RcNeAt.list_str _ t p1 hu',EqAt.list_str _ t p1 hu'⟩
   | lst es=>
    obtain⟨a,its,rfl,p,q⟩:=r2
    rw [M.eqD]
    exact xT p1 p q1 q hu' fun j a' c' u' v' e1 e2 k1 k2=>(ih a' c' A.in1 u' v' (Nat.le_trans (Zm e1) hd') (by show A.units+1+n<cLine;omega) k1 k2).eq
   | tup es=>obtain⟨a,its,rfl,p,_⟩:=r2;exact⟨RcAt.list_tuple p1 p hu',RcNeAt.list_tuple p1 p hu',EqAt.list_tuple p1 p hu'⟩
   | ref _=>exact r2.elim
   | exc _ _=>exact r2.elim
  | non=>exact ih .non e A u v (by simp) (by omega) r1 r2
  | bl x=>exact ih (.bl x) e A u v (by simp) (by omega) r1 r2
  | int x=>exact ih (.int x) e A u v (by simp) (by omega) r1 r2
  | str x=>exact ih (.str x) e A u v (by simp) (by omega) r1 r2
  | ref _=>exact r1.elim
  | exc _ _=>exact r1.elim
end
end L2.MS
namespace L2.MS
open PySem PySem.Spec PyProof.Rows
def PostW (Γ:Ge) (E:XK) (G:Gh) (H:Hp) (r:M.R M.W) (Q:VK):Prop:=Post Γ E G H r fun w _ G' H'=> ∀v,RelW Γ G' H' w v->FreshW [] [] H w v->Q v H'
section
variable {X:Cx}{Γ:Ge}{G:Gh}{H:Hp}{h:M.AH}{pins:List (Addr×Obj)}{σ:St}{s:Shared}{Q:VK}{E:XK}
theorem PostW.v {d:M.D}(p:PostW Γ E G H (.ok (.v d) h) Q) (hr:HRel Γ G h H){v:V}(z:RelD Γ G H d v):Q v H:=p G H Ext.refl hr v z trivial
theorem HRel.nofz (hr:HRel Γ G h H){a:Addr}(ha:H a=none): ¬G.fz a:=fun q=>by
 obtain⟨o,z⟩:=hr.live a q
 rw [ha]at z;cases z
theorem HRel.offN (hr:HRel Γ G h H){a:Addr}(ha:H a=none):Off G a:=fun r hn e=>by
 obtain⟨o,q⟩:=hr.there hn
 rw [e,ha]at q;cases q
theorem PostW.own {xs:List M.D}{vs:List V}(p:PostW Γ E G H (.ok (.own xs) h) Q) (hr:HRel Γ G h H) (z:RelDs Γ G H xs vs) (a:Addr) (ha:H a=none):Q (.ref a) (upd H a (.lst vs)):=
 p G (upd H a (.lst vs)) (qt _ ha) (hr.new _ ha) (.ref a) ⟨a,vs,rfl,hr.nofz ha,hr.offN ha,xc,z.ext (qt _ ha) hr⟩ ⟨a,rfl,ha⟩
theorem PostW.tup {xs:List M.D}{vs:List V}(p:PostW Γ E G H (.ok (.v (.tup xs)) h) Q) (hr:HRel Γ G h H) (z:RelDs Γ G H xs vs) (a:Addr) (ha:H a=none):Q (.ref a) (upd H a (.tup vs)):=
 p (G.more a) (upd H a (.tup vs)) (Wg _ ha) (hr.newF _ ha) (.ref a) ⟨a,vs,rfl,.inl ⟨.inr rfl,xc⟩,z.ext (Wg _ ha) hr⟩ trivial
theorem PostW.of {β:Type}{o:Option β}{f:β->M.AH->M.R M.W}(p:PostW Γ E G H ((M.R.of h o).bind f) Q): ∃b,o=some b/\PostW Γ E G H (f b h) Q:=Post.of p
theorem PostW.mk {G0:Gh}{H0:Hp}{h0:M.AH}{τ:M.Sl}{σ:St}{r:M.R M.W}(p:Post Γ E G0 H0 r fun w _ G' H'=> ∀v,RelW Γ G' H' w v->FreshW τ σ H0 w v->Q v H') (e:Ext G0 H0 G H) (s0:HRel Γ G0 h0 H0):PostW Γ E G H r Q:=by
 cases r with
 | ok w h'=>
  refine fun G' H' e' hr' v z1 z2=>p G' H' (e.trans s0 e') hr' v z1 ?_
  cases w with
  | v d=>trivial
  | own xs=>obtain⟨a,z3,z4⟩:=z2;exact⟨a,z3,e.none s0 z4⟩
  | bor xs=>obtain⟨i,w,z3,_⟩:=z2;simp at z3
 | exc d h'=>exact fun G' H' e' hr'=>p G' H' (e.trans s0 e') hr'
 | fail=>exact p
theorem RelW.lst (hr:HRel Γ G h H){w:M.W}{v:V}{xs:List M.D}(z:RelW Γ G H w v) (e:w.lst? h=some xs): ∃a vs,v= .ref a/\SqL Γ.K H a vs/\RelDs Γ G H xs vs:=by
 cases w with
 | v d=>
  cases d with
  | lst ys=>cases e;obtain⟨a,vs,z1,z2,z3⟩:=z;exact⟨a,vs,z1,z2.sq,z3⟩
  | ref r=>
   obtain⟨hn,z1⟩:=z
   have e:(match h[r]? with | some (M.Cell.lst zs)=>some zs | _=>none)=some xs:=e
   cases q:h[r]? with
   | none=>rw [q]at e;cases e
   | some c=>
    cases c with
    | lst ys=>
     rw [q]at e
     cases e
     obtain⟨_,vs,z2,z3⟩:=hr.cell r _ q
     exact⟨_,vs,z1,SqL.of z2,z3⟩
    | dic ks=>rw [q]at e;cases e
  | non=>cases e
  | bl _=>cases e
  | int _=>cases e
  | str _=>cases e
  | tup _=>cases e
  | exc _ _=>cases e
 | own ys=>cases e;obtain⟨a,vs,z1,_,_,z2,z3⟩:=z;exact⟨a,vs,z1,SqL.of z2,z3⟩
 | bor ys=>cases e;obtain⟨a,vs,z1,_,z2,z3⟩:=z;exact⟨a,vs,z1,.inl z2,z3⟩
theorem RelW.lstO (hr:HRel Γ G h H){w:M.W}{v:V}{xs:List M.D}(z:RelW Γ G H w v) (e:w.lstO? h=some xs): ∃a vs,v= .ref a/\Rd H a (.lst vs)/\RelDs Γ G H xs vs:=by
 cases w with
 | v d=>
  cases d with
  | ref r=>
   obtain⟨hn,z1⟩:=z
   have e:(match h[r]? with | some (M.Cell.lst zs)=>some zs | _=>none)=some xs:=e
   cases q:h[r]? with
   | none=>rw [q]at e;cases e
   | some c=>
    cases c with
    | lst ys=>
     rw [q]at e
     cases e
     obtain⟨_,vs,z2,z3⟩:=hr.cell r _ q
     exact⟨_,vs,z1,.inl z2,z3⟩
    | dic ks=>rw [q]at e;cases e
  | _=>cases e
 | own ys=>cases e;obtain⟨a,vs,z1,_,_,z2,z3⟩:=z;exact⟨a,vs,z1,.inl z2,z3⟩
 | bor ys=>cases e;obtain⟨a,vs,z1,_,z2,z3⟩:=z;exact⟨a,vs,z1,z2,z3⟩
theorem RelW.seq (hr:HRel Γ G h H){w:M.W}{v:V}{xs:List M.D}(z:RelW Γ G H w v) (e:w.seq? h=some xs): ∃a vs,v= .ref a/\(SqL Γ.K H a vs\/SqT Γ.K H a vs)/\RelDs Γ G H xs vs:=by
 have key:w.lst? h=some xs-> ∃a vs,v= .ref a/\(SqL Γ.K H a vs\/SqT Γ.K H a vs)/\RelDs Γ G H xs vs:=fun e=>by
  obtain⟨a,vs,z1,z2,z3⟩:=z.lst hr e
  exact⟨a,vs,z1,.inl z2,z3⟩
 cases w with
 | v d=>
  cases d with
  | tup ys=>cases e;obtain⟨a,vs,z1,z2,z3⟩:=z;exact⟨a,vs,z1,.inr z2.sq,z3⟩
  | lst ys=>exact key e
  | ref r=>exact key e
  | non=>cases e
  | bl _=>cases e
  | int _=>cases e
  | str _=>cases e
  | exc _ _=>cases e
 | own ys=>exact key e
 | bor ys=>exact key e
theorem qav (I:Inv X pins σ H s){a:Addr}{vs:List V}(r:Rd H a (.lst vs)):vs.length<=sizeLine/\ ∃(its:List Value) (n:Nat),Vals vs its/\vs.length=its.length/\s.heap.get? a=some { cls:= .type "list",data:= .seq its.toArray n }:=by
 obtain⟨z,its,n,r,e⟩:=r.ok I.hok
 exact⟨z,its,n,r,r.length,e⟩
theorem Xd:M.LIM<=sizeLine:=by rw [M.LIM_eq];decide
def rCatL (K:PySem.W.Frag):R2:=fun x y H Q=> ∃l b xs zs,x= .ref l/\y= .ref b/\SqL K H l xs/\SqL K H b zs/\xs.length+zs.length<=sizeLine/\ ∀p,H p=none->Q (.ref p) (upd H p (.lst (xs++zs)))
theorem jam:OpR X (binaryOp .Add) (rCatL X.K):=by
 intro pins s σ H x y v u Q I rx ry h
 obtain⟨l,b,xs,zs,rfl,rfl,hH,hB,hz,q⟩:=h
 cases rx
 cases ry
 obtain⟨its,r,p1,_⟩:=I.list hH
 obtain⟨its2,r2,p2,_⟩:=I.list hB
 have l1:=r.length
 have l2:=r2.length
 have ea:its.toArray++its2.toArray=(its++its2).toArray:=by simp
 obtain⟨⟨cls,dd,data,sl⟩,ho,hc,n,hd⟩:=id p1.isList
 obtain⟨⟨cls2,dd2,data2,sl2⟩,ho2,hc2,n2,hd2⟩:=id p2.isList
 simp only at hc hd hc2 hd2
 subst hc hd hc2 hd2
 refine concat_meets ⟨_,ho,rfl⟩ ⟨_,ho2,rfl⟩ noFill_list_add seq_list_add PySem.F.slot_list_add PySem.F.entry_list_add (PySem.F.args_list_add_2 _ _) (list_addW l b its.toArray its2.toArray n n2 dd dd2 sl sl2 (by rw [List.size_toArray,List.size_toArray];omega)) ⟨ho,ho2,?_⟩
 rw [ea]
 exact⟨.ref _,_,I.lnew (t':=s.toks) (r.append r2) (by rw [List.length_append];omega),rfl,q _ I.fresh⟩
def rRepL:R2:=fun x y H Q=> ∃l k xs,x= .ref l/\y= .int k/\Rd H l (.lst xs)/\ -(2 ^ 63)<=k/\k<2 ^ 63/\xs.length*k.toNat<=sizeLine ∧
 ∀p,H p=none->Q (.ref p) (upd H p (.lst (List.replicate k.toNat xs).flatten))
theorem zak:OpR X (binaryOp .Mult) rRepL:=by
 intro pins s σ H x y v u Q I rx ry h
 obtain⟨l,k,xs,rfl,rfl,hH,h1,h2,hz,q⟩:=h
 cases rx
 obtain⟨t,rfl⟩:=ry
 obtain⟨z,its,n,r,hl,e⟩:=qav I hH
 have hlen:its.toArray.size*k.toNat<=sizeLine:=by rw [List.size_toArray,←hl];exact hz
 have hcap: ¬its.toArray.size*k.toNat>(2 ^ 63-1) / 8:=by
  have:(sizeLine:Nat)<=(2 ^ 63-1) / 8:=by decide
  omega
 have hfit: ¬(!Builtin.List.listFitsIndex k)=true:=by
  rw [fitsIndex_both h1 h2]
  exact Bool.false_ne_true
 have hlong: ¬Builtin.List.listTooLong (its.toArray.size*k.toNat)=true:=by
  rw [wY hlen]
  exact Bool.false_ne_true
 have hnew:List.foldl (fun x1 x2=>x1++x2) #[] (List.replicate (if its.toArray.isEmpty=true then 0 else k.toNat) its.toArray)=(List.replicate k.toNat its).flatten.toArray:=by
  have f0: ∀m:Nat,List.foldl (fun x1 x2=>x1++x2) #[] (List.replicate m its.toArray)=(List.replicate m its).flatten.toArray:=fun m=>by
   have:=Xv its m []
   rw [List.nil_append]at this
   exact this
  rw [f0]
  cases its with
  | nil=>simp
  | cons a r'=>rw [if_neg (by simp)]
 refine wpAny_binaryOp_repeat_ref (T:= "list") (U:= "int") (by decide) ⟨_,e,rfl⟩ (fun s'=>typeIs_int s' k t) noFill_list_mul F.fills_int_mul F.slot_int_rmul repeat_list F.slot_int_index.lookup
  (call_meets F.slot_int_rmul (typeIs_int s k t) F.entry_int_rmul (F.args_int_rmul_2 _ _) (int___rmul___int_list k t l its.toArray n)
    ⟨e,rfl,⟨_,e,rfl⟩,call_meets F.slot_list_mul ⟨_,e,rfl⟩ F.entry_list_mul (F.args_list_mul_2 _ _) (AutoListH.list___mul___list_int_3 l its.toArray n k t hfit hcap hlong) ⟨e,?_⟩⟩)
 rw [hnew]
 exact⟨.ref _,_,I.lnew (t':=s.toks) (r.rep k.toNat) (by rw [qaq,Nat.mul_comm];exact hz),rfl,q _ I.fresh⟩
theorem RelDs.rep {ds:List M.D}{vs:List V}(z:RelDs Γ G H ds vs): ∀k:Nat,RelDs Γ G H (List.replicate k ds).flatten (List.replicate k vs).flatten
 | 0=>rfl
 | k+1=>by
  rw [List.replicate_succ,List.replicate_succ,List.flatten_cons,List.flatten_cons]
  exact z.append (RelDs.rep z k)
theorem wO (a b:Nat):Builtin.bitAnd (a:Int) (b:Int)=((a &&& b:Nat):Int):=by
 unfold Builtin.bitAnd
 rw [decide_eq_true (Int.natCast_nonneg a),decide_eq_true (Int.natCast_nonneg b)]
 rfl
theorem qae (a:Nat) (j:Int) (hj: ¬0<=j):Builtin.bitAnd (a:Int) j=((a-(a &&& (-j-1).toNat):Nat):Int):=by
 have e:(Builtin.bitNot j).toNat=(-j-1).toNat:=by unfold Builtin.bitNot;omega
 unfold Builtin.bitAnd
 rw [decide_eq_true (Int.natCast_nonneg a),decide_eq_false hj]
 show(a:Int)-((a &&& (Builtin.bitNot j).toNat:Nat):Int)=_
 rw [e]
 have:= @Nat.and_le_left a (-j-1).toNat
 omega
theorem j5 (a b:Nat):Builtin.bitOr (a:Int) (b:Int)=((a ||| b:Nat):Int):=by
 have h1: ¬(0:Int)<=Builtin.bitNot (a:Int):=by unfold Builtin.bitNot;omega
 have h2: ¬(0:Int)<=Builtin.bitNot (b:Int):=by unfold Builtin.bitNot;omega
 have e1:(Builtin.bitNot (Builtin.bitNot (a:Int))).toNat=a:=by unfold Builtin.bitNot;omega
 have e2:(Builtin.bitNot (Builtin.bitNot (b:Int))).toNat=b:=by unfold Builtin.bitNot;omega
 unfold Builtin.bitOr Builtin.bitAnd
 rw [decide_eq_false h1,decide_eq_false h2]
 show Builtin.bitNot (Builtin.bitNot (((Builtin.bitNot (Builtin.bitNot (a:Int))).toNat ||| (Builtin.bitNot (Builtin.bitNot (b:Int))).toNat:Nat):Int))=_
 rw [e1,e2]
 unfold Builtin.bitNot
 omega
theorem jao {i j k:Int}(h:M.andI i j=some k):Builtin.bitAnd i j=k:=by
 unfold M.andI at h
 split at h
 ·rename_i h0
  obtain⟨a,rfl⟩:=Int.eq_ofNat_of_zero_le h0
  split at h
  ·rename_i h1
   obtain⟨b,rfl⟩:=Int.eq_ofNat_of_zero_le h1
   cases h
   exact wO a b
  ·rename_i h1
   cases h
   exact qae a j h1
 ·cases h
theorem xar {i j k:Int}(h:M.orI i j=some k):Builtin.bitOr i j=k:=by
 unfold M.orI at h
 split at h
 ·rename_i h0
  obtain⟨a,rfl⟩:=Int.eq_ofNat_of_zero_le h0.1
  obtain⟨b,rfl⟩:=Int.eq_ofNat_of_zero_le h0.2
  cases h
  exact j5 a b
 ·cases h
theorem W0: ∀a b:Nat,(a ||| b)=(a ^^^ b)+(a &&& b):=by
 intro a
 induction a using Nat.strongRecOn with
 | ind a ih=>
  intro b
  by_cases h:a=0
  ·subst h;simp
  ·have i:=ih (a / 2) (by omega) (b / 2)
   have o1:= @Nat.or_div_two_pow a b 1
   have x1:= @Nat.xor_div_two_pow a b 1
   have n1:= @Nat.and_div_two_pow a b 1
   have o2:= @Nat.or_mod_two_pow a b 1
   have x2:= @Nat.xor_mod_two_pow a b 1
   have n2:= @Nat.and_mod_two_pow a b 1
   simp only [Nat.pow_one]at o1 x1 n1 o2 x2 n2
   rw [← o1,←x1,←n1]at i
   have e:(a ||| b) % 2=(a ^^^ b) % 2+(a &&& b) % 2:=by
    rw [o2,x2,n2]
    rcases Nat.mod_two_eq_zero_or_one a with u | u<;>rcases Nat.mod_two_eq_zero_or_one b with v | v<;>rw [u,v]<;>rfl
   omega
theorem qal {i j k:Int}(h:M.xorI i j=some k):Builtin.bitXor i j=k:=by
 unfold M.xorI at h
 split at h
 ·rename_i h0
  obtain⟨a,rfl⟩:=Int.eq_ofNat_of_zero_le h0.1
  obtain⟨b,rfl⟩:=Int.eq_ofNat_of_zero_le h0.2
  cases h
  show Builtin.bitOr (a:Int) (b:Int)-Builtin.bitAnd (a:Int) (b:Int)=((a ^^^ b:Nat):Int)
  rw [j5,wO,W0]
  omega
 ·cases h
def opM:M.Op->Operator
 | .add=> .Add | .sub=> .Sub | .mul=> .Mult | .fdiv=> .FloorDiv | .mod=> .Mod | .pow=> .Pow | .shl=> .LShift | .shr=> .RShift | .band=> .BitAnd | .bor=> .BitOr | .bxor=> .BitXor
def rBin (Γ:Ge) (E:XK) (o:M.Op):R2:=fun x y H Q=> ∃G h w1 w2,HRel Γ G h H/\RelW Γ G H w1 x/\RelW Γ G H w2 y/\PostW Γ E G H (M.binD o w1 w2 h) Q
theorem je (s t:M.Tx):txS s++txS t=txS (s++t):=by
 show Str.mk _=Str.mk _
 simp [txS]
theorem jb (s:M.Tx):(txS s).length=s.length:=by
 show s.toArray.size=s.length
 simp
def binOk:M.Op->Bool
 | _=>true
theorem jac {o:M.Op}(ho:binOk o=true){i j k:Int}(e:M.intOp o i j=some k){v u:Value}(I:Inv X pins σ H s) (rx:RelV (.int i) v) (ry:RelV (.int j) u) (q:Q (.int k) H):
 wpAny (model X.prog X.w) X.A (binaryOp (opM o) v u) (EP X pins σ Q) X.xe s:=by
 cases o with
 | add=>cases e;exact jaB pins s σ H _ _ v u Q I rx ry ⟨i,j,rfl,rfl,q⟩
 | sub=>cases e;exact xaF pins s σ H _ _ v u Q I rx ry ⟨i,j,rfl,rfl,q⟩
 | mul=>
  simp only [M.intOp,M.B64_eq,M.B30_eq,M.BP_eq,M.N64_eq]at e
  split at e
  ·rename_i c;cases e;exact zaI pins s σ H _ _ v u Q I rx ry ⟨i,j,rfl,rfl,c,q⟩
  ·cases e
 | fdiv=>
  simp only [M.intOp,M.B64_eq,M.B30_eq,M.BP_eq,M.N64_eq]at e
  split at e
  ·rename_i c;cases e;exact zal pins s σ H _ _ v u Q I rx ry ⟨i,j,rfl,rfl,c,q⟩
  ·cases e
 | mod=>
  simp only [M.intOp,M.B64_eq,M.B30_eq,M.BP_eq,M.N64_eq]at e
  split at e
  ·rename_i c;cases e;exact jaK pins s σ H _ _ v u Q I rx ry ⟨i,j,rfl,rfl,c,q⟩
  ·cases e
 | pow=>
  simp only [M.intOp,M.B64_eq,M.B30_eq,M.BP_eq,M.N64_eq]at e
  split at e
  ·rename_i c;cases e;exact qaA pins s σ H _ _ v u Q I rx ry ⟨i,j,rfl,rfl,c,q⟩
  ·cases e
 | shl=>
  simp only [M.intOp,M.B64_eq,M.B30_eq,M.BP_eq,M.N64_eq]at e
  split at e
  ·rename_i c;cases e;exact qaI pins s σ H _ _ v u Q I rx ry ⟨i,j,rfl,rfl,c,q⟩
  ·cases e
 | shr=>
  simp only [M.intOp,M.B64_eq,M.B30_eq,M.BP_eq,M.N64_eq]at e
  split at e
  ·rename_i c;cases e;exact qaB pins s σ H _ _ v u Q I rx ry ⟨i,j,rfl,rfl,c,q⟩
  ·cases e
 | band=>exact qaJ pins s σ H _ _ v u Q I rx ry ⟨i,j,rfl,rfl,by dsimp only;rw [jao e];exact q⟩
 | bor=>exact zaM pins s σ H _ _ v u Q I rx ry ⟨i,j,rfl,rfl,by dsimp only;rw [xar e];exact q⟩
 | bxor=>exact zaA pins s σ H _ _ v u Q I rx ry ⟨i,j,rfl,rfl,by dsimp only;rw [qal e];exact q⟩
theorem RelW.int {w:M.W}{v:V}{i:Int}(z:RelW Γ G H w v) (e:w.int? =some i):v= .int i:=by
 cases w with
 | v d=>
  cases d with
  | int j=>cases e;exact z
  | _=>cases e
 | _=>cases e
theorem RelW.str {w:M.W}{v:V}{i:M.Tx}(z:RelW Γ G H w v) (e:w.str? =some i):v= .str (txS i):=by
 cases w with
 | v d=>
  cases d with
  | str j=>cases e;exact z
  | _=>cases e
 | _=>cases e
theorem RelW.tup {w:M.W}{v:V}{xs:List M.D}(z:RelW Γ G H w v) (e:w.tup? =some xs): ∃a vs,v= .ref a/\StT Γ G H a vs/\RelDs Γ G H xs vs:=by
 cases w with
 | v d=>
  cases d with
  | tup j=>cases e;exact z
  | _=>cases e
 | _=>cases e
theorem zaB (o:M.Op) (ho:binOk o=true) (hK:X.K=Γ.K):OpR X (binaryOp (opM o)) (rBin Γ E o):=by
 intro pins s σ H x y v u Q I rx ry ⟨G,h,w1,w2,hr,r1,r2,p⟩
 have hL:=Xd
 unfold M.binD at p
 split at p
 ·rename_i i j e1 e2
  obtain⟨k,e,p⟩:=p.of
  cases r1.int e1
  cases r2.int e2
  exact jac ho e I rx ry (p.v hr rfl)
 ·split at p
  · -- add
    unfold M.addD at p
    split at p
    ·rename_i a b e1 e2
     cases r1.str e1
     cases r2.str e2
     split at p
     ·rename_i c
      exact xH pins s σ H _ _ v u Q I rx ry ⟨_,_,rfl,rfl,by rw [jb,jb];omega,by rw [je];exact p.v hr rfl⟩
     ·exact p.elim
    ·split at p
     ·rename_i xs ys e1 e2
      obtain⟨a,vs,rfl,z2,z3⟩:=r1.tup e1
      obtain⟨b,us,rfl,y2,y3⟩:=r2.tup e2
      split at p
      ·rename_i c
       have l1:=z3.length
       have l2:=y3.length
       by_cases ex:vs= []
       ·subst ex
        have:xs= []:=List.eq_nil_of_length_eq_zero l1
        subst this
        rw [List.nil_append]at p
        exact qX pins s σ H _ _ v u Q I rx ry ⟨a,b,us,rfl,rfl,hK▸z2.sq,hK▸y2.sq,p.v hr ⟨b,us,rfl,y2,y3⟩⟩
       refine xan pins s σ H _ _ v u Q I rx ry ⟨a,b,vs,us,rfl,rfl,hK▸z2.sq,hK▸y2.sq,ex,by omega,fun e=> ?_,fun e pp hp=>p.tup hr (z3.append y3) pp hp⟩
       ·subst e
        have:ys= []:=List.eq_nil_of_length_eq_zero l2
        subst this
        rw [List.append_nil]at p
        exact p.v hr ⟨a,vs,rfl,z2,z3⟩
      ·exact p.elim
     ·split at p
      ·rename_i xs ys e1 e2
       obtain⟨a,vs,rfl,z2,z3⟩:=r1.lst hr e1
       obtain⟨b,us,rfl,y2,y3⟩:=r2.lst hr e2
       unfold M.catL at p
       split at p
       ·have l1:=z3.length
        have l2:=y3.length
        exact jam pins s σ H _ _ v u Q I rx ry ⟨a,b,vs,us,rfl,rfl,hK▸z2,hK▸y2,by omega,fun pp hp=>p.own hr (z3.append y3) pp hp⟩
       ·exact p.elim
      ·exact p.elim
  · -- mul
    unfold M.mulD at p
    split at p
    ·rename_i z j e1 e2
     cases r1.str e1
     cases r2.int e2
     split at p
     ·rename_i c
      rw [M.LIM_eq]at c
      refine zan pins s σ H _ _ v u Q I rx ry ⟨_,j,rfl,rfl,c.1,c.2.1,by rw [jb];exact c.2.2,?_⟩
      have e:repS (txS z) j.toNat=txS (List.replicate j.toNat z).flatten:=by
       apply wM
       rw [Zo]
       rfl
      rw [e]
      exact p.v hr rfl
     ·exact p.elim
    split at p
    ·rename_i xs j e1 e2
     obtain⟨a,vs,rfl,z2,z3⟩:=r1.lstO hr e1
     cases r2.int e2
     unfold M.repL at p
     split at p
     ·rename_i c
      have l1:=z3.length
      exact zak pins s σ H _ _ v u Q I rx ry ⟨a,j,vs,rfl,rfl,z2,by omega,by omega,by rw [← l1];omega,fun pp hp=>p.own hr (z3.rep j.toNat) pp hp⟩
     ·exact p.elim
    ·exact p.elim
  ·exact p.elim
def cpM:M.Cp->CmpOp
 | .eq=> .Eq | .ne=> .NotEq | .lt=> .Lt | .le=> .LtE | .gt=> .Gt | .ge=> .GtE | .mem=> .In | .nmem=> .NotIn | .isb=> .Is
def rCmp (Γ:Ge) (o:M.Cp):R2:=fun x y H Q=> ∃G h w1 w2 b,HRel Γ G h H/\RelW Γ G H w1 x/\RelW Γ G H w2 y/\M.cmpD o w1 w2 h=some b/\Q (.bl b) H
def cmpOk:M.Cp->Bool
 | .mem=>true
 | .nmem=>true
 | _=>true
theorem zW {o:M.Cp}{i j:Int}{b:Bool}(e:M.cmpI o i j=some b){v u:Value}(I:Inv X pins σ H s) (rx:RelV (.int i) v) (ry:RelV (.int j) u) (q:Q (.bl b) H):
 wpAny (model X.prog X.w) X.A (compareOp (cpM o) v u) (EP X pins σ Q) X.xe s:=by
 cases o with
 | lt=>cases e;exact xaP pins s σ H _ _ v u Q I rx ry ⟨i,j,rfl,rfl,q⟩
 | le=>cases e;exact jaR pins s σ H _ _ v u Q I rx ry ⟨i,j,rfl,rfl,q⟩
 | gt=>cases e;exact zaR pins s σ H _ _ v u Q I rx ry ⟨i,j,rfl,rfl,q⟩
 | ge=>cases e;exact qaQ pins s σ H _ _ v u Q I rx ry ⟨i,j,rfl,rfl,q⟩
 | _=>cases e
theorem xas (hK:X.K=Γ.K){k:Nat}(hr:Room k X.A):OpR X (compareOp .Eq) (rCmp Γ .eq):=by
 intro pins s σ H x y v u Q I rx ry ⟨G,h,w1,w2,b,hh,r1,r2,e,q⟩
 simp only [M.cmpD]at e
 split at e
 ·rename_i c
  cases e
  have c':(M.noRef (w1.dd h)=true/\M.noRef (w2.dd h)=true)/\M.dep (w1.dd h)<150:=by simpa [M.eqOk]using c
  exact(cmp3 150 _ _ X.A v u (by omega) (by have:=hr.un;omega) (r1.rv I hK hh rx c'.1.1) (r2.rv I hK hh ry c'.1.2)).rc _ _ _ _ ⟨.bl _,H,I,rfl,q⟩
 ·cases e
theorem xaK (hK:X.K=Γ.K){k:Nat}(hr:Room k X.A):OpR X (compareOp .NotEq) (rCmp Γ .ne):=by
 intro pins s σ H x y v u Q I rx ry ⟨G,h,w1,w2,b,hh,r1,r2,e,q⟩
 simp only [M.cmpD]at e
 split at e
 ·rename_i c
  cases e
  have c':(M.noRef (w1.dd h)=true/\M.noRef (w2.dd h)=true)/\M.dep (w1.dd h)<150:=by simpa [M.eqOk]using c
  exact(cmp3 150 _ _ X.A v u (by omega) (by have:=hr.un;omega) (r1.rv I hK hh rx c'.1.1) (r2.rv I hK hh ry c'.1.2)).ne _ _ _ _ ⟨.bl _,H,I,rfl,q⟩
 ·cases e
end
end L2.MS
namespace L2.MS
open PySem PySem.Spec PyProof.Rows
theorem PE.imp {X:Cx}{e:Expr}{t t':TE}(h:PE X e t) (k: ∀σ H Q,t' σ H Q->t σ H Q):PE X e t':=fun pins s σ H Q I q=>h pins s σ H Q I (k _ _ _ q)
theorem PT.imp {X:Cx}{e:Expr}{t t':TT}(h:PT X e t) (k: ∀σ H Q,t' σ H Q->t σ H Q):PT X e t':=fun pins s σ H Q I q=>h pins s σ H Q I (k _ _ _ q)
theorem PA.imp {X:Cx}{e:List Expr}{t t':TA}(h:PA X e t) (k: ∀σ H Q,t' σ H Q->t σ H Q):PA X e t':=fun pos pins s σ H Q I q=>h pos pins s σ H Q I (k _ _ _ q)
section
variable {X:Cx}{Γ:Ge}{G:Gh}{H:Hp}{h:M.AH}{pins:List (Addr×Obj)}{σ:St}{s:Shared}{Q:VK}{E:XK}
theorem RelWs.one {w:M.W}{vs:List V}(z:RelWs Γ G H [w] vs): ∃v,vs= [v]/\RelW Γ G H w v:=by
 obtain⟨v,r,rfl,z1,z2⟩:=z
 cases (show r= []from z2)
 exact⟨v,rfl,z1⟩
theorem RelWs.two {w w':M.W}{vs:List V}(z:RelWs Γ G H [w,w'] vs): ∃v v',vs= [v,v']/\RelW Γ G H w v/\RelW Γ G H w' v':=by
 obtain⟨v,r,rfl,z1,z2⟩:=z
 obtain⟨v',rfl,z3⟩:=z2.one
 exact⟨v,v',rfl,z1,z3⟩
def rBi (Γ:Ge) (E:XK) (b:M.Bi):List V->Hp->VK->Prop:=fun xs H Q=> ∃G h ws,HRel Γ G h H/\RelWs Γ G H ws xs/\PostW Γ E G H (M.biD b ws h) Q
theorem X3 {K:PySem.W.Frag}{a:Addr}{vs:List V}(h:SqL K H a vs\/SqT K H a vs):SqL K H a vs\/SqT K H a vs:=h
def biOk:M.Bi->Bool
 | .len=>true | .int=>true | .list=>true | .tuple=>true | .divmod=>true | .min=>true | .max=>true | .sum=>true | .all=>true | .any=>true | .sorted=>true
 | _=>false
def biV:M.Bi->Value
 | .len=> .builtin "len" | .int=> .type "int" | .list=> .type "list" | .tuple=> .type "tuple" | .sum=> .builtin "sum" | .all=> .builtin "all" | .any=> .builtin "any"
 | .sorted=> .builtin "sorted" | .divmod=> .builtin "divmod" | .str=> .type "str" | .min=> .builtin "min" | .max=> .builtin "max" | .abs=> .builtin "abs"
theorem PostW.of2 {α β:Type}{o:Option α}{o':Option β}{f:α->β->M.AH->M.R M.W}(p:PostW Γ E G H ((M.R.of h o).bind fun a h=>(M.R.of h o').bind fun b h=>f a b h) Q): ∃a b,o=some a/\o'=some b/\PostW Γ E G H (f a b h) Q:=by
 obtain⟨a,e,p⟩:=p.of
 obtain⟨b,e',p⟩:=p.of
 exact⟨a,b,e,e',p⟩
theorem jC {G:Gh}{H:Hp}: ∀ {xs:List M.D}{vs:List V}{bs:List Bool},M.blsD xs=some bs->RelDs Γ G H xs vs->vs=bs.map V.bl
 | [],_,_,e,z=>by cases e;exact z
 | x::xs,_,bs,e,⟨v,r,z1,z2,z3⟩=>by
  subst z1
  cases x with
  | bl b=>
   obtain⟨cs,e1,rfl⟩:=Option.map_eq_some_iff.mp (show (M.blsD xs).map (b:: ·)=some bs from e)
   cases (show v= .bl b from z2)
   rw [jC e1 z3];rfl
  | _=>cases e
theorem zV {G:Gh}{H:Hp}: ∀ {xs:List M.D}{vs:List V}{n:Int},M.sumD xs=some n->RelDs Γ G H xs vs-> ∃ns:List Int,vs=ns.map V.int/\n=sumI ns
 | [],_,_,e,z=>by cases e;exact⟨[],z,rfl⟩
 | x::xs,_,n,e,⟨v,r,z1,z2,z3⟩=>by
  subst z1
  cases x with
  | int i=>
   have e:(M.sumD xs).map (i+ ·)=some n:=e
   obtain⟨k,e1,rfl⟩:=Option.map_eq_some_iff.mp e
   obtain⟨ns,h1,h2⟩:=zV e1 z3
   cases (show v= .int i from z2)
   exact⟨i::ns,by rw [h1];rfl,by rw [h2];rfl⟩
  | _=>cases e
theorem Zf {G:Gh}{H:Hp}: ∀ {xs:List M.D}{vs:List V}{ns:List Int},M.intsD xs=some ns->RelDs Γ G H xs vs->vs=ns.map V.int
 | [],_,_,e,z=>by cases e;exact z
 | x::xs,_,ns,e,⟨v,r,z1,z2,z3⟩=>by
  subst z1
  cases x with
  | int b=>
   obtain⟨cs,e1,rfl⟩:=Option.map_eq_some_iff.mp (show (M.intsD xs).map (b:: ·)=some ns from e)
   cases (show v= .int b from z2)
   rw [Zf e1 z3];rfl
  | _=>cases e
theorem qm {G:Gh}{H:Hp}: ∀ {xs:List M.D}{vs:List V}{ns:List M.Tx},M.strsD xs=some ns->RelDs Γ G H xs vs->vs=(ns.map txS).map V.str
 | [],_,_,e,z=>by cases e;exact z
 | x::xs,_,ns,e,⟨v,r,z1,z2,z3⟩=>by
  subst z1
  cases x with
  | str b=>
   obtain⟨cs,e1,rfl⟩:=Option.map_eq_some_iff.mp (show (M.strsD xs).map (b:: ·)=some ns from e)
   cases (show v= .str (txS b)from z2)
   rw [qm e1 z3];rfl
  | _=>cases e
theorem QF {G:Gh}{H:Hp}: ∀(ts:List M.Tx),RelDs Γ G H (ts.map .str) ((ts.map txS).map V.str)
 | []=>rfl
 | t::ts=>⟨_,_,rfl,rfl,QF ts⟩
theorem W6 (x:M.Tx): ∀ {ys:List M.Tx},ys.Pairwise (fun a b=> ¬b<a)->(M.insT x ys).Pairwise (fun a b=> ¬b<a)
 | [],_=>List.pairwise_singleton _ _
 | y::ys,h=>by
  have h':=List.pairwise_cons.mp h
  unfold M.insT
  split
  ·rename_i q
   refine List.pairwise_cons.mpr ⟨fun z hz=> ?_,W6 x h'.2⟩
   have:z=x\/z∈ys:=by
    have hp: ∀ {x:M.Tx}{ys:List M.Tx},z∈M.insT x ys->z=x\/z∈ys:=by
     intro x ys
     induction ys with
     | nil=>intro h;simp [M.insT]at h;exact .inl h
     | cons y ys ih=>
      intro h
      unfold M.insT at h
      split at h
      ·rcases List.mem_cons.mp h with h | h
       ·exact .inr (h▸List.mem_cons_self)
       ·exact(ih h).imp id (List.mem_cons_of_mem _)
      ·rcases List.mem_cons.mp h with h | h
       ·exact .inl h
       ·exact .inr h
    exact hp hz
   rcases this with rfl | hz
   ·exact fun c=>List.lt_irrefl _ (List.lt_trans c q)
   ·exact h'.1 z hz
  ·rename_i q
   refine List.pairwise_cons.mpr ⟨fun z hz=> ?_,h⟩
   rcases List.mem_cons.mp hz with rfl | hz
   ·exact q
   ·exact List.le_trans q (h'.1 z hz)
theorem WU: ∀xs:List M.Tx,(M.sortT xs).Pairwise (fun a b=> ¬b<a)
 | []=> .nil
 | x::xs=>W6 x (WU xs)
theorem jg (x:M.Tx): ∀ys:List M.Tx,(M.insT x ys).Perm (x::ys)
 | []=> .refl _
 | y::ys=>by
  unfold M.insT
  by_cases q:y<x
  ·rw [if_pos q]
   exact((jg x ys).cons y).trans (.swap x y ys)
  ·rw [if_neg q]
theorem Wb: ∀xs:List M.Tx,(M.sortT xs).Perm xs
 | []=> .refl _
 | x::xs=>(jg x (M.sortT xs)).trans ((Wb xs).cons x)
theorem Q4: ∀ {l:List Str}{p:Str},risingS p l=true->(p::l).Pairwise (fun a b=> ¬b.cps.toList<a.cps.toList)
 | [],p,_=>List.pairwise_singleton _ _
 | x::r,p,h=>by
  have h:(!ltCps x.cps.toList p.cps.toList&&risingS x r)=true:=h
  rw [Bool.and_eq_true,ltCps_eq]at h
  have h1: ¬x.cps.toList<p.cps.toList:=by simpa using h.1
  have h2:=Q4 h.2
  refine List.pairwise_cons.mpr ⟨fun z hz=> ?_,h2⟩
  rcases List.mem_cons.mp hz with rfl | hz
  ·exact h1
  ·exact List.le_trans h1 ((List.pairwise_cons.mp h2).1 z hz)
theorem xae (s:Str):txS s.cps.toList=s:=by cases s;simp [txS]
theorem ZT {ts:List M.Tx}{ss:List Str}(hp:ss.Perm (ts.map txS)) (hs:sortedS ss=true):ss=(M.sortT ts).map txS:=by
 have h1:(ss.map fun s=>s.cps.toList).Perm ts:=by
  have:=hp.map (fun s=>s.cps.toList)
  rw [List.map_map]at this
  have e:((fun s:Str=>s.cps.toList)∘txS)=id:=by funext t;simp [txS]
  rw [e,List.map_id]at this
  exact this
 have h2:(ss.map fun s=>s.cps.toList).Pairwise (fun a b=> ¬b<a):=by
  rw [List.pairwise_map]
  cases ss with
  | nil=>exact .nil
  | cons p l=>exact Q4 hs
 have h3:=List.Perm.eq_of_pairwise (fun a b _ _ x y=>List.le_antisymm x y) h2 (WU ts) (h1.trans (Wb ts).symm)
 rw [← h3,List.map_map]
 have e:(txS∘fun s:Str=>s.cps.toList)=id:=by funext t;exact xae t
 rw [e,List.map_id]
theorem Q2 (ns:List Int): ∀n:Int,bestI (fun a b=>decide (a>b)) ns n=ns.foldl (fun a b=>if b>a then b else a) n:=by
 induction ns with
 | nil=>intro n;rfl
 | cons m ns ih=>
  intro n
  show bestI _ ns _=_
  rw [ih,List.foldl_cons]
  simp only [decide_eq_true_eq]
theorem JY (ns:List Int): ∀n:Int,bestI (fun a b=>decide (a<b)) ns n=ns.foldl (fun a b=>if b<a then b else a) n:=by
 induction ns with
 | nil=>intro n;rfl
 | cons m ns ih=>
  intro n
  show bestI _ ns _=_
  rw [ih,List.foldl_cons]
  simp only [decide_eq_true_eq]
theorem qaa (b:M.Bi) (hb:biOk b=true) (hK:X.K=Γ.K) (hc:X.calm=true):CallR X (biV b) (rBi Γ E b):=by
 intro pins s σ H xs us Q I r ⟨G,h,ws,hr,rw',p⟩
 have hL:=Xd
 unfold M.biD at p
 split at p
 ·rename_i w
  obtain⟨v,rfl,z⟩:=rw'.one
  cases b with
  | len=>
   simp only [M.bi1]at p
   split at p
   ·rename_i y e
    cases z.str e
    split at p
    ·exact Zz pins s σ H _ us Q I r ⟨_,rfl,by rw [jb];omega,by rw [jb];exact p.v hr rfl⟩
    ·exact p.elim
   ·obtain⟨ys,e,p⟩:=p.of
    obtain⟨a,vs,rfl,z2,z3⟩:=z.seq hr e
    refine xA pins s σ H _ us Q I r ⟨a,vs,rfl,hK▸X3 z2,?_⟩
    rw [← z3.length]
    exact p.v hr rfl
  | int=>
   simp only [M.bi1]at p
   split at p
   ·cases (show v= .int _ from z)
    exact Wy pins s σ H _ us Q I r (.inl ⟨_,rfl,p.v hr rfl⟩)
   ·rename_i k
    cases (show v= .bl _ from z)
    refine Wy pins s σ H _ us Q I r (.inr ⟨_,rfl,?_⟩)
    have:=p.v hr (v:= .int (k.toNat:Int)) rfl
    cases k<;>exact this
   ·exact p.elim
  | list=>
   simp only [M.bi1]at p
   obtain⟨ys,e,p⟩:=p.of
   obtain⟨a,vs,rfl,z2,z3⟩:=z.seq hr e
   exact Wz pins s σ H _ us Q I r ⟨a,vs,rfl,hK▸X3 z2,fun l hl=>p.own hr z3 l hl⟩
  | tuple=>
   simp only [M.bi1]at p
   obtain⟨ys,e,p2⟩:=p.of
   clear p
   cases w with
   | v d=>
    cases d with
    | tup zs=>
     cases e
     obtain⟨a,vs,rfl,z2,z3⟩:=z
     exact zc pins s σ H _ us Q I r ⟨a,vs,rfl,.inr ⟨hK▸z2.sq,p2.v hr ⟨a,vs,rfl,z2,z3⟩⟩⟩
    | lst zs=>
     obtain⟨a,vs,rfl,z2,z3⟩:=RelW.lst hr z e
     exact zc pins s σ H _ us Q I r ⟨a,vs,rfl,.inl ⟨hK▸z2,fun l hl=>p2.tup hr z3 l hl⟩⟩
    | ref q=>
     obtain⟨a,vs,rfl,z2,z3⟩:=RelW.lst hr z e
     exact zc pins s σ H _ us Q I r ⟨a,vs,rfl,.inl ⟨hK▸z2,fun l hl=>p2.tup hr z3 l hl⟩⟩
    | non=>cases e
    | bl _=>cases e
    | int _=>cases e
    | str _=>cases e
    | exc _ _=>cases e
   | own zs=>
    obtain⟨a,vs,rfl,z2,z3⟩:=RelW.lst hr z e
    exact zc pins s σ H _ us Q I r ⟨a,vs,rfl,.inl ⟨hK▸z2,fun l hl=>p2.tup hr z3 l hl⟩⟩
   | bor zs=>
    obtain⟨a,vs,rfl,z2,z3⟩:=RelW.lst hr z e
    exact zc pins s σ H _ us Q I r ⟨a,vs,rfl,.inl ⟨hK▸z2,fun l hl=>p2.tup hr z3 l hl⟩⟩
  | divmod=>exact p.elim
  | min=>
   simp only [M.bi1]at p
   obtain⟨n,e,p⟩:=p.of
   obtain⟨is,e1,e2⟩:=Option.bind_eq_some_iff.mp e
   obtain⟨ys,e3,e4⟩:=Option.bind_eq_some_iff.mp e1
   obtain⟨a,vs,rfl,z2,z3⟩:=RelW.lst hr z e3
   cases Zf e4 z3
   cases is with
   | nil=>cases e2
   | cons i is=>
    cases e2
    refine xL hc pins s σ H _ us Q I r ⟨a,i,is,rfl,hK▸z2,?_⟩
    rw [JY]
    exact p.v hr rfl
  | max=>
   simp only [M.bi1]at p
   obtain⟨n,e,p⟩:=p.of
   obtain⟨is,e1,e2⟩:=Option.bind_eq_some_iff.mp e
   obtain⟨ys,e3,e4⟩:=Option.bind_eq_some_iff.mp e1
   obtain⟨a,vs,rfl,z2,z3⟩:=RelW.lst hr z e3
   cases Zf e4 z3
   cases is with
   | nil=>cases e2
   | cons i is=>
    cases e2
    refine JJ hc pins s σ H _ us Q I r ⟨a,i,is,rfl,hK▸z2,?_⟩
    rw [Q2]
    exact p.v hr rfl
  | sum=>
   simp only [M.bi1]at p
   obtain⟨n,e,p⟩:=p.of
   obtain⟨ys,e1,e2⟩:=Option.bind_eq_some_iff.mp e
   split at e2
   rotate_left
   ·cases e2
   obtain⟨a,vs,rfl,z2,z3⟩:=RelW.lst hr z e1
   obtain⟨ns,rfl,rfl⟩:=zV e2 z3
   exact qV hc pins s σ H _ us Q I r ⟨a,ns,rfl,hK▸z2,p.v hr rfl⟩
  | all=>
   simp only [M.bi1]at p
   obtain⟨bs,e,p⟩:=p.of
   obtain⟨ys,e1,e2⟩:=Option.bind_eq_some_iff.mp e
   obtain⟨a,vs,rfl,z2,z3⟩:=RelW.lst hr z e1
   cases jC e2 z3
   exact WQ hc pins s σ H _ us Q I r ⟨a,bs,rfl,hK▸z2,p.v hr rfl⟩
  | any=>
   simp only [M.bi1]at p
   obtain⟨bs,e,p⟩:=p.of
   obtain⟨ys,e1,e2⟩:=Option.bind_eq_some_iff.mp e
   obtain⟨a,vs,rfl,z2,z3⟩:=RelW.lst hr z e1
   cases jC e2 z3
   exact JT hc pins s σ H _ us Q I r ⟨a,bs,rfl,hK▸z2,p.v hr rfl⟩
  | sorted=>
   simp only [M.bi1]at p
   obtain⟨ts,e,p⟩:=p.of
   obtain⟨ys,e1,e2⟩:=Option.bind_eq_some_iff.mp e
   obtain⟨a,vs,rfl,z2,z3⟩:=RelW.lst hr z e1
   cases qm e2 z3
   split at p
   ·rename_i hl
    refine Wx pins s σ H _ us Q I r ⟨a,ts.map txS,rfl,hK▸z2,by rw [List.length_map];exact hl,fun ss' hp hs l hl=> ?_⟩
    rw [ZT hp hs]
    exact p.own hr (QF _) l hl
   ·exact p.elim
  | str=>cases hb
  | abs=>cases hb
 ·rename_i w w'
  obtain⟨v,v',rfl,z,z'⟩:=rw'.two
  obtain⟨i,j,e,e',p⟩:=p.of2
  cases z.int e
  cases z'.int e'
  cases b with
  | divmod=>
   simp only [M.bi2,M.B30_eq]at p
   split at p
   ·rename_i c
    exact xD pins s σ H _ us Q I r ⟨i,j,rfl,c,fun l hl=>p.tup hr (vs:= [.int (i / j),.int (i % j)]) ⟨_,_,rfl,rfl,_,_,rfl,rfl,rfl⟩ l hl⟩
   ·exact p.elim
  | min=>exact zS hc pins s σ H _ us Q I r ⟨i,j,rfl,p.v hr rfl⟩
  | max=>exact wS hc pins s σ H _ us Q I r ⟨i,j,rfl,p.v hr rfl⟩
  | len=>exact p.elim
  | int=>exact p.elim
  | list=>exact p.elim
  | tuple=>exact p.elim
  | sum=>exact p.elim
  | all=>exact p.elim
  | any=>exact p.elim
  | sorted=>exact p.elim
  | str=>cases hb
  | abs=>cases hb
 ·exact p.elim
def tyS:M.Ty->String
 | .non=> "NoneType" | .bool=> "bool" | .int=> "int" | .str=> "str" | .list=> "list" | .tuple=> "tuple"
theorem Ji (K:PySem.W.Frag): ∀(u t:M.Ty),t≠ .non->PySem.W.kitOne K (.type (tyS u)) (.type (tyS t))=some (M.Ty.le u t):=by
 intro u t ht
 cases u<;>cases t<;>first | exact absurd rfl ht | kernel_rfl
def rIsT (Γ:Ge):List V->Hp->VK->Prop:=fun xs H Q=> ∃G h w x t b,xs= [x,.ty (tyS t)]/\t≠ .non/\HRel Γ G h H/\RelW Γ G H w x/\M.isT t w=some b/\Q (.bl b) H
theorem ZW (hK:X.K=Γ.K):CallR X (.builtin "isinstance") (rIsT Γ):=by
 intro pins s σ H xs us Q I r ⟨G,h,w,x,t,b,hx,ht,hr,z,e,q⟩
 subst hx
 obtain⟨u,w',rfl,rx,ry⟩:=QK r
 cases ry
 have fin: ∀tk,EP X pins σ Q (.bool b) { s with toks:=tk }:=fun tk=>⟨.bl b,H,I.tok tk,rfl,q⟩
 have lst: ∀ {a:Addr}{vs:List V},x= .ref a->Rd H a (.lst vs)->M.Ty.le .list t=b->wpAny (model X.prog X.w) X.A (call (.builtin "isinstance") [u,.type (tyS t)]) (EP X pins σ Q) X.xe s:=by
  intro a vs ex rd eb
  subst ex eb
  rcases rd with rd | ⟨o,rd⟩
  ·exact Qd I rx (.lst rd) (Ji _ .list t ht) fin
  ·exact Qd I rx (.frz rd) (Ji _ .list t ht) fin
 unfold M.isT at e
 cases w with
 | v d=>
  cases d with
  | non=>cases e;cases (show x= .non from z);exact Qd I rx .non (Ji _ .non t ht) fin
  | bl c=>cases e;cases (show x= .bl c from z);exact Qd I rx (.bl c) (Ji _ .bool t ht) fin
  | int i=>cases e;cases (show x= .int i from z);exact Qd I rx (.int i) (Ji _ .int t ht) fin
  | str y=>cases e;cases (show x= .str _ from z);exact Qd I rx (.str _) (Ji _ .str t ht) fin
  | tup ys=>
   cases e
   obtain⟨a,vs,rfl,z2,z3⟩:=z
   rcases z2 with⟨_,z2⟩ | ⟨o,its,n,k1,k2,k3,_⟩
   ·exact Qd I rx (.tup z2) (Ji _ .tuple t ht) fin
   ·cases rx
    exact PySem.W.kia_one PySem.W.kitx_tuple I.kIn ⟨o,I.kIn a o (hK▸k1),k2⟩ (Ji _ .tuple t ht) (fun z=>nomatch z) fin
  | lst ys=>
   cases e
   obtain⟨a,vs,z1,z2,z3⟩:=z
   rcases z2 with z2 | ⟨o,its,n,k1,k2,k3,_⟩
   ·exact lst z1 z2.2 rfl
   ·subst z1
    cases rx
    exact PySem.W.kia_one PySem.W.kitx_list I.kIn ⟨o,I.kIn a o (hK▸k1),k2⟩ (Ji _ .list t ht) (fun z=>nomatch z) fin
  | ref q'=>cases e
  | exc c fs=>cases e
 | own ys=>cases e;obtain⟨a,vs,z1,_,_,z2,_⟩:=z;exact lst z1 (.inl z2) rfl
 | bor ys=>cases e;obtain⟨a,vs,z1,_,z2,_⟩:=z;exact lst z1 z2 rfl
theorem qQ (hK:X.K=Γ.K) (hr:HRel Γ G h H){w:M.W}{x:V}{b:Bool}(z:RelW Γ G H w x) (e:M.truD h w=some b):TruV X.K x H b:=by
 have lst: ∀ {a:Addr}{vs:List V}{ys:List M.D},x= .ref a->SqL X.K H a vs->RelDs Γ G H ys vs->(!ys.isEmpty)=b->TruV X.K x H b:=by
  intro a vs ys ex rd rs eb
  subst ex eb
  refine .inl ⟨vs,rd,?_⟩
  cases ys with
  | nil=>cases (show vs= []from rs);rfl
  | cons _ _=>obtain⟨_,_,rfl,_⟩:=rs;rfl
 cases w with
 | v d=>
  cases d with
  | non=>cases e;cases (show x= .non from z);exact rfl
  | bl _=>cases e;cases (show x= .bl _ from z);exact rfl
  | int _=>cases e;cases (show x= .int _ from z);exact rfl
  | str y=>
   cases (show x= .str _ from z)
   have e:(if y.length<=M.LIM then some (!y.isEmpty)else none)=some b:=e
   split at e
   ·rename_i c
    cases e
    refine⟨by rw [jb];have:=Xd;omega,?_⟩
    rw [jb]
    cases y with
    | nil=>rfl
    | cons a r=>
     have:((((a::r).length:Nat):Int) != 0)=true:=by
      rw [List.length_cons,bne_iff_ne];omega
     rw [this];rfl
   ·cases e
  | tup ys=>
   cases e
   obtain⟨a,vs,rfl,z2,rs⟩:=z
   refine .inr (.inl ⟨vs,hK▸z2.sq,?_⟩)
   cases ys with
   | nil=>cases (show vs= []from rs);rfl
   | cons _ _=>obtain⟨_,_,rfl,_⟩:=rs;rfl
  | lst ys=>cases e;obtain⟨a,vs,z1,z2,z3⟩:=z;exact lst z1 (hK▸z2.sq) z3 rfl
  | ref q'=>cases e
  | exc c fs=>cases e
 | own ys=>cases e;obtain⟨a,vs,z1,_,_,z2,z3⟩:=z;exact lst z1 (SqL.of z2) z3 rfl
 | bor ys=>cases e;obtain⟨a,vs,z1,_,z2,z3⟩:=z;exact lst z1 (.inl z2) z3 rfl
end
end L2.MS
namespace L2.MS
open PySem PySem.Spec PyProof.Rows
abbrev strS (x:String):Str:=Str.ofString x
example:("len" :Str)=strS "len" :=rfl
structure Cf where
 sc:Scope
 N:List Str
 fns:List String
 own:List String
 rai:List String
 hnd:List String
def visB (sc:Scope) (x:Str):Bool:=match sc.names.lookup x with
 | some .local=>true
 | some .cell=>true
 | some .free=>true
 | _=>false
def glB (sc:Scope) (x:Str):Bool:=match sc.names.lookup x with
 | some .globalImplicit=>true
 | _=>false
def locB (sc:Scope) (x:Str):Bool:=match sc.names.lookup x with
 | some .local=>true
 | some .cell=>true
 | _=>false
def nmB (x:Str):Bool:= !(x==("__debug__" :Str))&& !(x==("__classdict__" :Str))
def biS:M.Bi->String
 | .len=> "len" | .int=> "int" | .list=> "list" | .tuple=> "tuple" | .sum=> "sum" | .all=> "all" | .any=> "any" | .sorted=> "sorted" | .divmod=> "divmod" | .str=> "str" | .min=> "min" | .max=> "max" | .abs=> "abs"
def bltN:List String:= ["len", "int", "list", "tuple", "sum", "all", "any", "sorted", "divmod", "str", "min", "max", "abs", "isinstance", "bool", "range", "reversed", "zip", "enumerate", "set", "ValueError"]
def callNm:Expr->Str->Bool
 | .Name y _,x=>y==x
 | _,_=>false
def gNm (sc:Scope) (x:String) (e:Expr):Bool:=callNm e (strS x)&&glB sc (strS x)&&nmB (strS x)
def mtS:M.Mt->String
 | .index=> "index" | .join=> "join" | .count=> "count" | .indexI=> "index"
def mtOk:M.Mt->Bool
 | .index=>true | .join=>true | .count=>true | .indexI=>true
def notC0:Expr->Bool
 | .Call .. =>false
 | _=>true
def chkCls (cf:Cf):List String->List Expr->Bool
 | [],[]=>true
 | t::ts,e::es=>gNm cf.sc t e&&cf.own.contains t&&chkCls cf ts es
 | _,_=>false
def isM1:Expr->Bool
 | .UnaryOp .USub (.Constant (.int 1) _ _) _=>true
 | _=>false
def chkTg (cf:Cf):List Nat->List Expr->Bool
 | [],[]=>true
 | i::is,.Name x _::es=>decide (cf.N[i]? =some x)&&locB cf.sc x&&chkTg cf is es
 | _,_=>false
def chkTarget (cf:Cf) (tg:List Nat) (one:Bool) (e:Expr):Bool:=match one,e with
 | true,.Name x p=>(match tg with | [_]=>true | _=>false)&&chkTg cf tg [.Name x p]
 | false,.Tuple es _ _=>chkTg cf tg es
 | _,_=>false
def notStar:Expr->Bool
 | .Starred .. =>false
 | _=>true
def notSlice:Expr->Bool
 | .Slice .. =>false
 | _=>true
def notSet:Expr->Bool
 | .Set .. =>false
 | _=>true
def capOk (cf:Cf):List Nat->List Str->Bool
 | [],[]=>true
 | j::js,x::xs=>decide (cf.N[j]? =some x)&&decide (cf.sc.names.lookup x=some .cell\/cf.sc.names.lookup x=some .free)&&capOk cf js xs
 | _,_=>false
def scopeOk (cf:Cf) (scope:Scope) (N:List Str) (k:Nat) (cap:List Nat):Bool:=
 decide (scope.kind= .function)&&decide (scope.names.map Prod.fst).Nodup&&scope.names.all (fun y=>decide (y.2= .local->scope.names.lookup y.1=some .local))&&
 scope.names.all (fun y=>decide (y.2= .free->cf.sc.names.lookup y.1=some .cell\/cf.sc.names.lookup y.1=some .free))&&(N.drop k).all (fun x=>decide (scope.names.lookup x=some .free))&&
 capOk cf cap (N.drop k)&&decide (k<=N.length)&&decide N.Nodup&&decide cap.Nodup
def tgNames:Expr->List Str
 | .Name x _=> [x]
 | .Tuple es _ _=>es.filterMap fun | .Name x _=>some x | _=>none
 | _=> []
def blockN (cf:Cf) (t:Expr) (cap:List Nat):List Str:=tgNames t++cap.filterMap fun j=>cf.N[j]?
def tOk:M.E->Bool
 | .ite .. =>false
 | .share _=>false
 | .not a=>tOk a
 | .and a b=>tOk a&&tOk b
 | .or a b=>tOk a&&tOk b
 | _=>true
def inM (neg:Bool):CmpOp:=if neg then .NotIn else .In
def nilEs:M.Es->Bool
 | .nil=>true
 | _=>false
def chkFs (cf:Cf):List (M.Tx ⊕ Nat)->List Expr->Bool
 | [],[]=>true
 | .inl t::ps,.Constant (.str j) _ _::es=>decide (j=txS t)&&chkFs cf ps es
 | .inr i::ps,.FormattedValue (.Name x _) c none _::es=>decide (c= -1)&&decide (cf.N[i]? =some x)&&visB cf.sc x&&nmB x&&chkFs cf ps es
 | _,_=>false
def chkLit:List (M.Tx×M.Tx)->List (Option Expr)->List Expr->Bool
 | [],[],[]=>true
 | (x,y)::T,some (.Constant (.str u) _ _)::ks,.Constant (.str v) _ _::vs=>decide (u=txS x)&&decide (v=txS y)&&chkLit T ks vs
 | _,_,_=>false
mutual
def chkE (cf:Cf):M.E->Expr->Bool
 | .var i,e=>match e with
  | .Name x _=>decide (cf.N[i]? =some x)&&visB cf.sc x&&nmB x
  | _=>false
 | .con c,e=>gNm cf.sc c e
 | .int i,e=>match e with
  | .Constant (.int j) _ _=>decide (j=i)
  | _=>false
 | .bl i,e=>match e with
  | .Constant (.bool j) _ _=>decide (j=i)
  | _=>false
 | .non,_=>false
 | .str i,e=>match e with
  | .Constant (.str j) _ _=>decide (j=txS i)
  | _=>false
 | .tup es,e=>match e with
  | .Tuple xs _ _=>decide (xs.length<=1000)&&chkEs cf es xs
  | _=>false
 | .lst es,e=>match e with
  | .List xs _=>decide (xs.length<=1000)&&chkEs cf es xs
  | _=>false
 | .bin o a b,e=>match e with
  | .BinOp x p y _=>decide (p=opM o)&&binOk o&&chkE cf a x&&chkE cf b y
  | _=>false
 | .cmp o a b,e=>match e with
  | .Compare x [p] [y] _=>decide (p=cpM o)&&cmpOk o&&notSet y&&chkE cf a x&&chkE cf b y
  | _=>false
 | .chain _ _ _ _ _,_=>false
 | .isn _ _,_=>false
 | .neg a,e=>match e with
  | .UnaryOp .USub x _=>chkE cf a x
  | _=>false
 | .inv _,_=>false
 | .not a,e=>match e with
  | .UnaryOp .Not x _=>chkE cf a x
  | _=>false
 | .and _ _,_=>false
 | .or a b,e=>match e with
  | .BoolOp .Or (x::y::rest) p=>chkE cf a x&&(match rest with | []=>chkE cf b y | _=>chkE cf b (.BoolOp .Or (y::rest) p))
  | _=>false
 | .ite _ _ _,_=>false
 | .call f es,e=>match e with
  | .Call g (x::xs) [] _=>gNm cf.sc f g&&cf.fns.contains f&&chkEs cf es (x::xs)
  | .Call g [] [] _=>gNm cf.sc f g&&cf.fns.contains f&&nilEs es
  | _=>false
 | .bi b es,e=>match e with
  | .Call g (x::xs) [] _=>gNm cf.sc (biS b) g&&biOk b&&chkEs cf es (x::xs)
  | _=>false
 | .isT a t,e=>match e with
  | .Call g [x,y] [] _=>gNm cf.sc "isinstance" g&&gNm cf.sc (tyS t) y&&decide (t≠ .non)&&notStar x&&chkE cf a x
  | _=>false
 | .isX _ _ _,_=>false
 | .ix a b,e=>match e with
  | .Subscript x y _=>notSlice y&&chkE cf a x&&chkE cf b y
  | _=>false
 | .sl a lo hi,e=>match e with
  | .Subscript x (.Slice (some l) (some u) none _) _=>chkE cf a x&&chkE cf lo l&&chkE cf hi u
  | _=>false
 | .slL a lo,e=>match e with
  | .Subscript x (.Slice (some l) none none _) _=>chkE cf a x&&chkE cf lo l
  | _=>false
 | .slH a hi,e=>match e with
  | .Subscript x (.Slice none (some u) none _) _=>chkE cf a x&&chkE cf hi u
  | _=>false
 | .rev a,e=>match e with
  | .Subscript x (.Slice none none (some st) _) _=>isM1 st&&chkE cf a x
  | _=>false
 | .comp tg one k cap it hasIf c elt,e=>match e with
  | .ListComp y [⟨t,iter,ifs,0⟩] scope _=>
   let cb:Cf:= { cf with sc:=scope,N:=blockN cf t cap }
   scopeOk cf scope (blockN cf t cap) k cap&&tg.all (fun i=>decide (i<k))&&chkTarget cb tg one t&&chkIt cf it iter&&chkE cb elt y&&
    (match hasIf with
    | true=>(match ifs with
     | [z]=>tOk c&&chkE cb c z
     | _=>false)
    | false=>(match ifs with
     | []=>true
     | _=>false))
  | _=>false
 | .compR _ _ _ _ _ _,_=>false
 | .dnew,_=>false
 | .din _ _ _,_=>false
 | .dlen _,_=>false
 | .share a,e=>chkE cf a e
 | .lenset _,_=>false
 | .lensT _,_=>false
 | .trange _,_=>false
 | .lrange _,_=>false
 | .sorti _,_=>false
 | .geT _ _,_=>false
 | .ltL _ _,_=>false
 | .meth m a es,e=>match e with
  | .Call (.Attribute o n apos) [x] [] cpos=>decide (n=strS (mtS m))&&mtOk m&&(apos.endLine==cpos.line)&&notC0 o&&chkE cf a o&&chkEs cf es [x]
  | _=>false
 | .tix c a,e=>match e with
  | .Subscript g y _=>gNm cf.sc c g&&notSlice y&&chkE cf a y
  | _=>false
 | .tget c es,e=>match e with
  | .Call (.Attribute g n apos) [x,y] [] cpos=>gNm cf.sc c g&&decide (n=strS "get")&&(apos.endLine==cpos.line)&&chkEs cf es [x,y]
  | _=>false
 | .dlit T i,e=>match e with
  | .Subscript (.Dict ks vs _) (.Name x _) _=>chkLit T ks vs&&decide (T≠ [])&&decide (T.length<=15)&&decide (T.map (·.1)).Nodup&&decide (cf.N[i]? =some x)&&visB cf.sc x&&nmB x
  | _=>false
 | .fstr ps,e=>match e with
  | .JoinedStr (x::y::xs) _=>chkFs cf ps (x::y::xs)
  | _=>false
 | .strI a,e=>match e with
  | .Call g [x] [] _=>gNm cf.sc "str" g&&notStar x&&chkE cf a x
  | _=>false
def chkEs (cf:Cf):M.Es->List Expr->Bool
 | .nil,xs=>match xs with
  | []=>true
  | _=>false
 | .cons e es,xs=>match xs with
  | x::xs=>notStar x&&chkE cf e x&&chkEs cf es xs
  | _=>false
def chkIt (cf:Cf):M.It->Expr->Bool
 | .seq a,e=>notSet e&&chkE cf a e
 | .range1 a,e=>match e with
  | .Call g [x] [] _=>gNm cf.sc "range" g&&notStar x&&chkE cf a x
  | _=>false
 | .range2 a b,e=>match e with
  | .Call g [x,y] [] _=>gNm cf.sc "range" g&&notStar x&&notStar y&&chkE cf a x&&chkE cf b y
  | _=>false
 | .rev a,e=>match e with
  | .Call g [x] [] _=>gNm cf.sc "reversed" g&&notStar x&&chkE cf a x
  | _=>false
 | .zip _ _,_=>false
 | .enum _,_=>false
end
def notComp:Expr->Bool
 | .ListComp .. =>false
 | .SetComp .. =>false
 | .DictComp .. =>false
 | _=>true
def notTuple:Expr->Bool
 | .Tuple .. =>false
 | _=>true
def localB (cf:Cf) (i:Nat) (x:Str):Bool:=decide (cf.N[i]? =some x)&&decide (cf.sc.names.lookup x=some .local)
def storB (cf:Cf) (i:Nat) (x:Str):Bool:=decide (cf.N[i]? =some x)&&locB cf.sc x
def isMeth (cf:Cf) (i:Nat) (m:Str) (e:Expr) (cpos:Pos):Bool:=match e with
 | .Attribute (.Name x _) n apos=>decide (cf.N[i]? =some x)&&visB cf.sc x&&nmB x&&decide (n=m)&&(apos.endLine==cpos.line)
 | _=>false
def chkLp (cf:Cf):M.It->Expr->Bool
 | .seq a,e=>notSet e&&chkE cf a e
 | .range1 a,e=>chkIt cf (.range1 a) e
 | .range2 a b,e=>chkIt cf (.range2 a b) e
 | .rev a,e=>chkIt cf (.rev a) e
 | .zip a b,e=>match e with
  | .Call g [x,y] [] _=>gNm cf.sc "zip" g&&notStar x&&notStar y&&chkE cf a x&&chkE cf b y
  | _=>false
 | .enum a,e=>match e with
  | .Call g [x] [] _=>gNm cf.sc "enumerate" g&&notStar x&&chkE cf a x
  | _=>false
def enumOk:M.It->Expr->Bool
 | .enum _,.Tuple _ _ _=>true
 | .enum _,_=>false
 | .zip _ _,.Tuple _ _ _=>true
 | .zip _ _,_=>false
 | _,_=>true
def isSetVar (iv nm:Nat):M.Ss->Bool
 | .cons (.setf i (.var j)) .nil=>decide (i=iv)&&decide (j=nm)
 | _=>false
mutual
def chkS (cf:Cf):M.S->Stmt->Bool
 | .set i e,st=>match st with
  | .Assign [.Name x _] v _=>storB cf i x&&chkE cf e v
  | _=>false
 | .setf i e,st=>match st with
  | .Assign [.Name x _] v _=>storB cf i x&&chkE cf e v
  | _=>false
 | .unp _ _,_=>false
 | .setix i kx e,st=>match st with
  | .Assign [.Subscript (.Name x _) y _] v _=>decide (cf.N[i]? =some x)&&visB cf.sc x&&nmB x&&notSlice y&&notTuple v&&notComp v&&chkE cf kx y&&chkE cf e v
  | _=>false
 | .setref o kx e,st=>match st with
  | .Assign [.Subscript x y _] v _=>notSlice y&&notTuple v&&notComp v&&chkE cf o x&&chkE cf kx y&&chkE cf e v
  | _=>false
 | .app i e,st=>match st with
  | .Expr (.Call f [v] [] cpos) _=>isMeth cf i "append" f cpos&&notStar v&&chkE cf e v
  | _=>false
 | .ins _ _ _,_=>false
 | .ext _ _,_=>false
 | .pop _,_=>false
 | .popTo _ _,_=>false
 | .mv _ _,_=>false
 | .dput _ _,_=>false
 | .clr _,_=>false
 | .rem _ _,_=>false
 | .insR _ _ _,_=>false
 | .appR _ _,_=>false
 | .popR _ _,_=>false
 | .popU _ _,_=>false
 | .forR _ _ _ _,_=>false
 | .freeze _,_=>false
 | .ex _,_=>false
 | .ret e,st=>match st with
  | .Return (some v) _=>chkE cf e v
  | _=>false
 | .retn,_=>false
 | .iff c a b,st=>match st with
  | .If x ys zs _=>tOk c&&chkE cf c x&&chkSs cf a ys&&chkSs cf b zs
  | _=>false
 | .whl _ _ _,_=>false
 | .for tg one it b,st=>match st with
  | .For t iter ys [] _=>enumOk it t&&chkTarget cf tg one t&&chkLp cf it iter&&chkSs cf b ys
  | _=>false
 | .raise _ _,_=>false
 | .tryc _ _ _ _ _ _,_=>false
 | .brk,_=>false
 | .cont,_=>false
 | .pass,_=>false
def chkSs (cf:Cf):M.Ss->List Stmt->Bool
 | .nil,sts=>match sts with
  | []=>true
  | _=>false
 | .cons s ss,sts=>match s with
  | .freeze _=>chkSs cf ss sts
  | s=>match sts with
   | st::sts=>chkS cf s st&&chkSs cf ss sts
   | _=>false
end
end L2.MS
namespace L2.MS
open PySem PySem.Spec PyProof.Rows
structure HasX (X:Cx) (k:Nat) (x:Str) (ps:List Str) (sp:Sp):Prop where
 ex: ∃f fd,FnOk X.prog X.w X.K X.mg X.base (CX1 X.prog X.w) k f fd ps sp/\Binds X.K fd ps []/\PySem.W.keepIn X.K (.ref f)=true/\X.mg x=some (.ref f)
def noOwn:M.W->Bool
 | .own _=>false
 | _=>true
def spW (Γ:Ge) (m:List M.W->M.AH->M.R M.W):Sp:=fun vs H Q E=> ∃G h ws,HRel Γ G h H/\RelWs Γ G H ws vs/\(∀ w∈ws,noOwn w=true)/\PostW Γ E G H (m ws h) Q
structure Go (Γ:Ge) (F:M.Fx) (X:Cx) (E:XK) (k:Nat) (cf:Cf):Prop where
 N:X.N=cf.N
 K:X.K=Γ.K
 cl:F.cl=Γ.cl
 ow:cf.own=Γ.own
 nd:cf.N.Nodup
 vis: ∀x,visB cf.sc x=true->Vis X.env.scope x
 lcl: ∀x,cf.sc.names.lookup x=some .local->X.env.scope.names.lookup x=some .local
 sto: ∀x,locB cf.sc x=true->Loc X.env.scope x/\(X.fn x=true\/X.env.scope.names.lookup x=some .local)
 cel: ∀x,(cf.sc.names.lookup x=some .cell\/cf.sc.names.lookup x=some .free)->X.env.kindOf x=some .cell\/X.env.kindOf x=some .free
 gl: ∀x,glB cf.sc x=true->Gl X x
 calm:X.calm=true
 room:Room k X.A
 pass:Passes (CX1 X.prog X.w) X E
 blt: ∀x,x∈bltN->X.mg (strS x)=none
 con: ∀x d,F.con.lookup x=some d-> ∃u v,X.mg (strS x)=some u/\RelV v u/\ ∀G H,RelD Γ G H d v
 fn: ∀f,cf.fns.contains f=true-> ∃ps,HasX X k (strS f) ps (spW Γ (F.call f))
 cls: ∀c,cf.own.contains c=true->X.mg (strS c)=some (.ref (Γ.ca c))
theorem xb {sc:Scope}{x:String}{e:Expr}(h:gNm sc x e=true): ∃p,e= .Name (strS x) p/\glB sc (strS x)=true/\(strS x==("__debug__" :Str))=false:=by
 unfold gNm at h
 rw [Bool.and_eq_true,Bool.and_eq_true]at h
 obtain⟨⟨h1,h2⟩,h3⟩:=h
 unfold nmB at h3
 rw [Bool.and_eq_true]at h3
 cases e with
 | Name y p=>
  have:y=strS x:=by simpa [callNm]using h1
  subst this
  exact⟨p,rfl,h2,by simpa using h3.1⟩
 | _=>simp [callNm]at h1
theorem zm {x:String}(h:x∈bltN):strS x≠("__name__" :Str):=by
 have:(bltN.all fun x=>decide (strS x≠("__name__" :Str)))=true:=by decide +kernel
 exact of_decide_eq_true (List.all_eq_true.mp this x h)
section
variable {Γ:Ge}{F:M.Fx}{X:Cx}{E:XK}{k:Nat}{cf:Cf}
section
variable {G:Gh}{H:Hp}{h:M.AH}{τ:M.Sl}{σ:St}{Q:VK}
theorem Post.val {G0:Gh}{H0:Hp}{w:M.W}{v:V}(p:Post Γ E G0 H0 (.ok w h) fun w _ G' H'=> ∀v,RelW Γ G' H' w v->FreshW τ σ H0 w v->Q v H') (e:Ext G0 H0 G H) (hr:HRel Γ G h H) (z:RelW Γ G H w v) (f:FreshW τ σ H0 w v):Q v H:=
 p G H e hr v z f
end
theorem xac (go:Go Γ F X E k cf){i:Nat}{x:Str}{pos:Pos}(hN:cf.N[i]? =some x) (hv:visB cf.sc x=true) (hn:nmB x=true):PE X (.Name x pos) (tD Γ E (M.eval F (.var i))):=by
 unfold nmB at hn
 rw [Bool.and_eq_true]at hn
 refine PE.imp (wv (by rw [go.N];exact hN) (go.vis x hv) (by simpa using hn.1) (by simpa using hn.2)) fun σ H Q qq=> ?_
 obtain⟨G,τ,h,s,p⟩:=qq
 rw [M.eval]at p
 cases q:M.getS τ i with
 | none=>simp [M.readS,q]at p;exact p.elim
 | some w=>
  obtain⟨v,e,r⟩:=s.slot i w q
  refine⟨v,e,?_⟩
  cases w with
  | v d=>
   rw [M.readS_v q]at p
   exact Post.val p Ext.refl s.heap r trivial
  | own xs=>
   rw [M.readS_own q]at p
   obtain⟨a,vs,z1,z2,z3,z4,z5⟩:=r
   exact Post.val p Ext.refl s.heap ⟨a,vs,z1,z3,.inl z4,z5⟩ ⟨i,_,q,rfl,e⟩
  | bor xs=>
   rw [M.readS_bor q]at p
   exact Post.val p Ext.refl s.heap r ⟨i,_,q,rfl,e⟩
theorem jag (go:Go Γ F X E k cf){c:String}{e:Expr}(hg:gNm cf.sc c e=true):PE X e (tD Γ E (M.eval F (.con c))):=by
 obtain⟨p,rfl,h2,h3⟩:=xb hg
 cases q:F.con.lookup c with
 | none=>
  intro pins s σ H Q I ⟨G,τ,h,st,po⟩
  rw [M.eval,q]at po
  exact po.elim
 | some d=>
  obtain⟨u,v,hm,rv,rd⟩:=go.con c d q
  refine PE.imp (XD (go.gl _ h2) hm rv h3) fun σ H Q qq=> ?_
  obtain⟨G,τ,h,st,po⟩:=qq
  rw [M.eval,q]at po
  exact Post.val po Ext.refl st.heap (rd G H) trivial
theorem XU {i:Int}{j:Nat}{pos:Pos}:PE X (.Constant (.int i) j pos) (tD Γ E (M.eval F (.int i))):=PE.imp W5 fun σ H Q ⟨G,τ,h,s,p⟩=>Post.val p Ext.refl s.heap (v:= .int i) rfl trivial
theorem J7 {i:Bool}{j:Nat}{pos:Pos}:PE X (.Constant (.bool i) j pos) (tD Γ E (M.eval F (.bl i))):=PE.imp xaR fun σ H Q ⟨G,τ,h,s,p⟩=>Post.val p Ext.refl s.heap (v:= .bl i) rfl trivial
theorem wT {i:M.Tx}{j:Nat}{pos:Pos}:PE X (.Constant (.str (txS i)) j pos) (tD Γ E (M.eval F (.str i))):=PE.imp jaw fun σ H Q ⟨G,τ,h,s,p⟩=>Post.val p Ext.refl s.heap (v:= .str (txS i)) rfl trivial
section
variable {a b c:M.E}{x y z:Expr}{pos:Pos}
theorem zad (go:Go Γ F X E k cf){o:M.Op}(ho:binOk o=true) (ha:PE X x (tD Γ E (M.eval F a))) (hb:PE X y (tD Γ E (M.eval F b))):PE X (.BinOp x (opM o) y pos) (tD Γ E (M.eval F (.bin o a b))):=by
 refine PE.imp (zaN (zaB (E:=E) o ho go.K) ha hb) fun σ H Q qq=> ?_
 obtain⟨G,τ,h,s,p⟩:=qq
 rw [M.eval]at p
 refine Ja s.heap Ext.refl s p fun w1 v1 h1 G1 H1 e1 e1' s1 r1 f1 p1=> ?_
 refine Ja s.heap e1 s1 p1 fun w2 v2 h2 G2 H2 e2 e2' s2 r2 f2 p2=> ?_
 exact⟨G2,h2,w1,w2,s2.heap,r1.ext e2' s1.heap,r2,PostW.mk p2 e2 s.heap⟩
theorem WB {G:Gh}{H:Hp}{d:M.D}{v:V}(z:RelD Γ G H d v) (f:M.flat d=true):flatV v=true:=by
 cases d with
 | non=>cases (show v= .non from z);rfl
 | bl _=>cases (show v= .bl _ from z);rfl
 | int _=>cases (show v= .int _ from z);rfl
 | str _=>cases (show v= .str _ from z);rfl
 | _=>exact absurd (show false=true from f) Bool.false_ne_true
theorem ju {G:Gh}{H:Hp}: ∀ {ds:List M.D}{vs:List V},RelDs Γ G H ds vs->ds.all M.flat=true->vs.all flatV=true
 | [],_,rfl,_=>rfl
 | d::ds,_,⟨v,r,rfl,z1,z2⟩,f=>by
  rw [List.all_cons,Bool.and_eq_true]at f ⊢
  exact⟨WB z1 f.1,ju z2 f.2⟩
theorem jaI {G:Gh}{H:Hp}{d e:M.D}{v u:V}(z:RelD Γ G H d v) (y:RelD Γ G H e u) (fd:M.flat d=true) (fe:M.flat e=true):eqV v u=M.eqD d e:=by
 cases d with
 | non=>
  cases (show v= .non from z)
  cases e with
  | non=>cases (show u= .non from y);rfl
  | bl _=>cases (show u= .bl _ from y);rfl
  | int _=>cases (show u= .int _ from y);rfl
  | str _=>cases (show u= .str _ from y);rfl
  | _=>exact absurd (show false=true from fe) Bool.false_ne_true
 | bl a=>
  cases (show v= .bl _ from z)
  cases e with
  | non=>cases (show u= .non from y);rfl
  | bl _=>cases (show u= .bl _ from y);rfl
  | int j=>cases (show u= .int _ from y);show((if a then(1:Int)else 0)==j)=((a.toNat:Int)==j);rw [b2n]
  | str _=>cases (show u= .str _ from y);rfl
  | _=>exact absurd (show false=true from fe) Bool.false_ne_true
 | int i=>
  cases (show v= .int _ from z)
  cases e with
  | non=>cases (show u= .non from y);rfl
  | bl b=>cases (show u= .bl _ from y);show(i==(if b then(1:Int)else 0))=(i==(b.toNat:Int));rw [b2n]
  | int _=>cases (show u= .int _ from y);rfl
  | str _=>cases (show u= .str _ from y);rfl
  | _=>exact absurd (show false=true from fe) Bool.false_ne_true
 | str i=>
  cases (show v= .str _ from z)
  cases e with
  | non=>cases (show u= .non from y);rfl
  | bl _=>cases (show u= .bl _ from y);rfl
  | int _=>cases (show u= .int _ from y);rfl
  | str j=>cases (show u= .str _ from y);exact ZQ i j
  | _=>exact absurd (show false=true from fe) Bool.false_ne_true
 | _=>exact absurd (show false=true from fd) Bool.false_ne_true
theorem w6 {G:Gh}{H:Hp}{d:M.D}{v:V}(z:RelD Γ G H d v) (fd:M.flat d=true): ∀ {ds:List M.D}{vs:List V},RelDs Γ G H ds vs->ds.all M.flat=true->inV v vs=M.inD d ds
 | [],_,rfl,_=>rfl
 | e::ds,_,⟨u,r,rfl,z1,z2⟩,f=>by
  rw [List.all_cons,Bool.and_eq_true]at f
  have ih:=w6 z fd z2 f.2
  unfold inV M.inD at ih ⊢
  rw [List.any_cons,List.any_cons,ih,jaI z1 z f.1 fd]
theorem RelW.dflat {G:Gh}{H:Hp}{w:M.W}{v:V}{d:M.D}(z:RelW Γ G H w v) (e:w.d=some d) (f:M.flat d=true):RelD Γ G H d v:=by
 cases w with
 | v d'=>cases e;exact z
 | own xs=>cases e;exact absurd (show false=true from f) Bool.false_ne_true
 | bor xs=>cases e
theorem J6 {hp:Heap}{d:M.D}{ee:Value->Bool}(he: ∀c y,RV hp c y->ee y=M.eqD c d): ∀ {ys:List M.D}{us:List Value},RVs hp ys us->us.any ee=M.inD d ys
 | [],_,rfl=>rfl
 | c::ys,_,⟨u,r,rfl,z1,z2⟩=>by
  have ih:=J6 he z2
  unfold M.inD at ih ⊢
  rw [List.any_cons,List.any_cons,ih,he c u z1]
theorem jan (hK:X.K=Γ.K){k:Nat}(hro:Room k X.A) (neg:Bool){pins:List (Addr×Obj)}{s:Shared}{σ:St}{H:Hp}{x y:V}{v u:Value}{Q:VK}(I:Inv X pins σ H s) (rx:RelV x v) (ry:RelV y u){G:Gh}{h:M.AH}{w1 w2:M.W}{b:Bool}(hr:HRel Γ G h H)
 (r1:RelW Γ G H w1 x) (r2:RelW Γ G H w2 y) (e:M.memG w1 w2 h=some b) (q:Q (.bl (if neg then !b else b)) H):wpAny (model X.prog X.w) X.A (compareOp (if neg then .NotIn else .In) v u) (EP X pins σ Q) X.xe s:=by
 unfold M.memG at e
 split at e
 ·rename_i ys e2
  split at e
  ·rename_i c
   cases e
   have c':(M.noRef (w1.dd h)=true/\M.noRefs ys=true)/\M.deps ys<140:=by simpa using c
   have p1:=r1.rv I hK hr rx c'.1.1
   have p2:=r2.rv I hK hr ry (by rw [e2];exact c'.1.2)
   rw [e2]at p2
   obtain⟨a,its,rfl,hl,rs⟩:=p2
   have hee: ∃ee:Value->Bool,∀c y,RV s.heap c y->ee y=M.eqD c (w1.dd h):=⟨fun y=> @decide (∃ d,RV s.heap d y/\M.eqD d (w1.dd h)=true) (Classical.propDecidable _),fun c y z=>by
    cases q:M.eqD c (w1.dd h)with
    | true=>exact @decide_eq_true _ (Classical.propDecidable _) ⟨c,z,q⟩
    | false=>exact @decide_eq_false _ (Classical.propDecidable _) fun⟨d,z2,q2⟩=>by rw [RV.inj z2 z,q]at q2;cases q2⟩
   obtain⟨ee,he⟩:=hee
   have hq: ∀y,y∈its.toArray->SeqAt.EqAt X.A.in1 s y v (ee y):=fun y hy=>by
    obtain⟨j,hj⟩:=List.getElem?_of_mem (List.mem_toArray.mp hy)
    obtain⟨d,hd,rd⟩:=rs.get hj
    rw [he d y rd]
    exact(cmp3 140 d _ X.A.in1 y v (by have:=Zm hd;omega) (by show X.A.units+1+140<cLine;have:=hro.un;omega) rd p1).eq
   have ha:its.toArray.any ee=M.inD (w1.dd h) ys:=by rw [List.any_toArray];exact J6 he rs
   cases neg with
   | true=>exact SeqAt.notIn_listAt ee hl hq ⟨.bl _,H,I,rfl,by rw [ha];exact q⟩
   | false=>exact SeqAt.in_listAt ee hl hq ⟨.bl _,H,I,rfl,by rw [ha];exact q⟩
  ·cases e
 ·cases e
theorem Q8 (hK:X.K=Γ.K){k:Nat}(hro:Room k X.A) (neg:Bool){pins:List (Addr×Obj)}{s:Shared}{σ:St}{H:Hp}{x y:V}{v u:Value}{Q:VK}(I:Inv X pins σ H s) (rx:RelV x v) (ry:RelV y u){G:Gh}{h:M.AH}{w1 w2:M.W}{b:Bool}(hr:HRel Γ G h H)
 (r1:RelW Γ G H w1 x) (r2:RelW Γ G H w2 y) (e:M.memD w1 w2 h=some b) (q:Q (.bl (if neg then !b else b)) H):wpAny (model X.prog X.w) X.A (compareOp (if neg then .NotIn else .In) v u) (EP X pins σ Q) X.xe s:=by
 unfold M.memD at e
 split at e
 ·rename_i i j e1 e2
  split at e
  ·rename_i c
   cases e
   cases r1.str e1
   cases r2.str e2
   have f1:(!(Builtin.Str.occurrences (txS j) (txS [c]) 0 (txS j).length 1).isEmpty)=j.contains c:=by
    have:=PySem.StrLaws.found_one (txS j) c
    refine this.trans ?_
    rw [Bool.eq_iff_iff,decide_eq_true_eq,List.contains_iff_mem]
    simp [txS]
   cases neg with
   | true=>exact zA pins s σ H _ _ v u Q I rx ry ⟨_,_,rfl,rfl,by rw [f1];exact q⟩
   | false=>exact WL pins s σ H _ _ v u Q I rx ry ⟨_,_,rfl,rfl,by rw [f1];exact q⟩
  ·cases e
 ·split at e
  ·rename_i d xs e1 e2
   split at e
   ·rename_i c
    rw [Bool.and_eq_true]at c
    cases e
    have z:=r1.dflat e1 c.1
    obtain⟨a,vs,rfl,z2,z3⟩:=r2.seq hr e2
    rw [← w6 z c.1 z3 c.2]at q
    cases neg with
    | true=>exact Xx pins s σ H _ _ v u Q I rx ry ⟨a,vs,rfl,hK▸X3 z2,WB z c.1,ju z3 c.2,q⟩
    | false=>exact QL pins s σ H _ _ v u Q I rx ry ⟨a,vs,rfl,hK▸X3 z2,WB z c.1,ju z3 c.2,q⟩
   ·exact jan hK hro neg I rx ry hr r1 r2 e q
  ·cases e
theorem wK:OpR X (compareOp .GtE) (fun x y H Q=> ∃i j,x= .str i/\y= .str j/\Q (.bl (!decide (i.cps.toList<j.cps.toList))) H):=by
 intro pins s σ H x y v u Q I rx ry ⟨i,j,ex,ey,q⟩
 subst ex ey
 obtain⟨t,rfl⟩:=rx
 obtain⟨t',rfl⟩:=ry
 exact PySem.P.ge_str (Qw I q rfl)
theorem X5 (go:Go Γ F X E k cf) (o:M.Cp) (ho:cmpOk o=true):OpR X (compareOp (cpM o)) (rCmp Γ o):=by
 have nums: ∀ {o:M.Cp},(∀ w1 w2 h b,M.cmpD o w1 w2 h=some b->(∃ i j,M.W.int? w1=some i/\M.W.int? w2=some j/\M.cmpI o i j=some b)\/(∃ i j,M.W.str? w1=some i/\M.W.str? w2=some j/\M.cmpT o i j=some b))->OpR X (compareOp (cpM o)) (rCmp Γ o):=by
  intro o hi pins s σ H x y v u Q I rx ry ⟨G,h,w1,w2,b,hh,r1,r2,e,q⟩
  rcases hi w1 w2 h b e with⟨i,j,e1,e2,e3⟩ | ⟨i,j,e1,e2,e3⟩
  ·cases r1.int e1
   cases r2.int e2
   exact zW e3 I rx ry q
  ·cases r1.str e1
   cases r2.str e2
   cases o with
   | lt=>
    cases e3
    refine xR pins s σ H _ _ v u Q I rx ry ⟨_,_,rfl,rfl,?_⟩
    have:decide ((txS i).cps.toList<(txS j).cps.toList)=decide (i<j):=decide_eq_decide.mpr (by simp [txS])
    rw [this]
    exact q
   | ge=>
    cases e3
    have:decide ((txS i).cps.toList<(txS j).cps.toList)=decide (i<j):=decide_eq_decide.mpr (by simp [txS])
    rw [← this]at q
    exact wK pins s σ H _ _ v u Q I rx ry ⟨_,_,rfl,rfl,q⟩
   | _=>cases e3
 have mk: ∀ {o:M.Cp}{w1 w2:M.W}{h:M.AH}{b:Bool},(match M.W.int? w1,M.W.int? w2 with
  | some i,some j=>M.cmpI o i j
  | _,_=>match M.W.str? w1,M.W.str? w2 with
   | some s,some t=>M.cmpT o s t
   | _,_=>none)=some b->(∃ i j,M.W.int? w1=some i/\M.W.int? w2=some j/\M.cmpI o i j=some b)\/(∃ i j,M.W.str? w1=some i/\M.W.str? w2=some j/\M.cmpT o i j=some b):=by
  intro o w1 w2 h b e
  split at e
  ·rename_i i j e1 e2;exact .inl ⟨i,j,e1,e2,e⟩
  ·split at e
   ·rename_i i j e1 e2;exact .inr ⟨i,j,e1,e2,e⟩
   ·cases e
 cases o with
 | eq=>exact xas go.K go.room
 | ne=>exact xaK go.K go.room
 | lt=>exact nums fun w1 w2 h b e=>mk (h:=h) e
 | le=>exact nums fun w1 w2 h b e=>mk (h:=h) e
 | gt=>exact nums fun w1 w2 h b e=>mk (h:=h) e
 | ge=>exact nums fun w1 w2 h b e=>mk (h:=h) e
 | mem=>
  intro pins s σ H x y v u Q I rx ry ⟨G,h,w1,w2,b,hh,r1,r2,e,q⟩
  exact Q8 go.K go.room false I rx ry hh r1 r2 e q
 | nmem=>
  intro pins s σ H x y v u Q I rx ry ⟨G,h,w1,w2,b,hh,r1,r2,e,q⟩
  have e:(M.memD w1 w2 h).map (!·)=some b:=e
  cases e2:M.memD w1 w2 h with
  | none=>rw [e2]at e;cases e
  | some c=>
   rw [e2]at e
   cases e
   exact Q8 go.K go.room true I rx ry hh r1 r2 e2 q
 | isb=>
  intro pins s σ H x y v u Q I rx ry ⟨G,h,w1,w2,b,hh,r1,r2,e,q⟩
  have e:M.isbD w1 w2=some b:=e
  unfold M.isbD at e
  split at e
  ·cases e
   cases r1
   cases r2
   cases rx
   obtain⟨t,rfl⟩:=ry
   exact wpAny_is_plain rfl (Qw I q rfl)
  ·cases e
   cases r1
   cases r2
   obtain⟨t,rfl⟩:=rx
   obtain⟨t',rfl⟩:=ry
   exact PyProof.Rows.is_bool (Qw I q rfl)
  ·cases e
theorem zx {o:CmpOp}{e:Expr}(h:notSet e=true):behindInMarks o e=false:=by
 cases e<;>first | rfl | (simp [notSet]at h)
theorem Z6 (go:Go Γ F X E k cf){o:M.Cp}{R:V->Hp->Prop}{σ:St}{H:Hp}{G:Gh}{τ:M.Sl}{h:M.AH}(s:StRel Γ G τ h σ H)
 (p:Post Γ E G H ((M.eval F a τ h).bind fun x h=>(M.eval F b τ h).bind fun y h=>(M.R.of h (M.cmpD o x y h)).bind fun c h=> .ok c h) fun c _ _ H'=>R (.bl c) H'):
 tOp (rCmp Γ o) (tD Γ E (M.eval F a)) (tD Γ E (M.eval F b)) σ H R:=by
 refine Ja s.heap Ext.refl s p fun w1 v1 h1 G1 H1 e1 e1' s1 r1 f1 p1=> ?_
 refine Ja s.heap e1 s1 p1 fun w2 v2 h2 G2 H2 e2 e2' s2 r2 f2 p2=> ?_
 obtain⟨c,ec,p2⟩:=p2.of
 exact⟨G2,h2,w1,w2,c,s2.heap,r1.ext e2' s1.heap,r2,ec,p2.at e2 s2.heap⟩
theorem Post.map {α β:Type}{G:Gh}{H:Hp}{r:M.R α}{f:α->β}{P:β->M.AH->Gh->Hp->Prop}(p:Post Γ E G H (r.bind fun a h=> .ok (f a) h) P):Post Γ E G H r fun a h G' H'=>P (f a) h G' H':=by
 cases r with
 | ok a h=>exact p
 | exc d h=>exact p
 | fail=>exact p
theorem Jg {α β γ:Type}(r:M.R α) (f:α->M.AH->M.R β) (g:β->M.AH->M.R γ):(r.bind f).bind g=r.bind fun a h=>(f a h).bind g:=by cases r<;>rfl
theorem W9 (go:Go Γ F X E k cf){o:M.Cp}(ho:cmpOk o=true) (hy:notSet y=true) (ha:PE X x (tD Γ E (M.eval F a))) (hb:PE X y (tD Γ E (M.eval F b))):PE X (.Compare x [cpM o] [y] pos) (tD Γ E (M.eval F (.cmp o a b))):=by
 refine PE.imp (xah (X5 go o ho) ha hb (zx hy)) fun σ H Q qq=> ?_
 obtain⟨G,τ,h,s,p⟩:=qq
 rw [M.eval]at p
 refine Z6 go s ?_
 have p2:Post Γ E G H (((M.eval F a τ h).bind fun x h=>(M.eval F b τ h).bind fun y h=>(M.R.of h (M.cmpD o x y h)).bind fun c h=> .ok c h).bind fun c h=> .ok (M.W.v (.bl c)) h) fun w _ G' H'=> ∀v,RelW Γ G' H' w v->FreshW τ σ H w v->Q v H':=by
  simpa only [Jg,M.R.bind_ok]using p
 have p3:=p2.map
 cases q:(M.eval F a τ h).bind fun x h=>(M.eval F b τ h).bind fun y h=>(M.R.of h (M.cmpD o x y h)).bind fun c h=> .ok c h with
 | ok c h'=>rw [q]at p3;exact fun G' H' e hr=>p3 G' H' e hr (.bl c) rfl trivial
 | exc d h'=>rw [q]at p3;exact p3
 | fail=>rw [q]at p3;exact p3
theorem XV (go:Go Γ F X E k cf){o:M.Cp}(ho:cmpOk o=true) (hy:notSet y=true) (ha:PE X x (tD Γ E (M.eval F a))) (hb:PE X y (tD Γ E (M.eval F b))):PT X (.Compare x [cpM o] [y] pos) (tDT Γ E (M.tstE F (.cmp o a b))):=by
 refine PT.imp (jah (X5 go o ho) ha hb (zx hy)) fun σ H Q qq=> ?_
 obtain⟨G,τ,h,s,p⟩:=qq
 unfold M.tstE at p
 rw [M.eval]at p
 refine Z6 go s ?_
 have p2:Post Γ E G H ((M.eval F a τ h).bind fun x h=>(M.eval F b τ h).bind fun y h=>(M.R.of h (M.cmpD o x y h)).bind fun c h=> .ok c h) fun b _ _ H'=>Q b H':=by
  simpa only [Jg,M.R.bind_ok,M.tru_bl,M.R.of_some]using p
 cases q:(M.eval F a τ h).bind fun x h=>(M.eval F b τ h).bind fun y h=>(M.R.of h (M.cmpD o x y h)).bind fun c h=> .ok c h with
 | ok c h'=>rw [q]at p2;exact fun G' H' e hr=>⟨c,rfl,p2 G' H' e hr⟩
 | exc d h'=>rw [q]at p2;exact p2
 | fail=>rw [q]at p2;exact p2
end
end
end L2.MS
namespace L2.MS
open PySem PySem.Spec PyProof.Rows
section
variable {Γ:Ge}{F:M.Fx}{X:Cx}{E:XK}{k:Nat}{cf:Cf}{a b c:M.E}{x y z:Expr}{pos:Pos}
theorem JE {α:Type}(r:M.R α):(r.bind fun w h=> .ok w h)=r:=by cases r<;>rfl
theorem Qa (go:Go Γ F X E k cf) (ha:PE X x (tD Γ E (M.eval F a))) (he: ∀whole,isTrue x X.env whole=(do let v ←whole;standAt x.pos;holding [v] (truthy v))):PT X x (tDT Γ E (M.tstE F a)):=by
 refine PT.imp (qZ ha he) fun σ H Q qq=> ?_
 obtain⟨G,τ,h,s,p⟩:=qq
 refine Ja s.heap Ext.refl s (f:=fun w h=>M.R.of h (M.truD h w)) p fun w1 v1 h1 G1 H1 e1 e1' s1 r1 f1 p1=> ?_
 cases q:M.truD h1 w1 with
 | none=>rw [q]at p1;exact p1.elim
 | some t=>
  rw [q]at p1
  exact⟨t,qQ go.K s1.heap r1 q,p1 G1 H1 e1 s1.heap⟩
theorem xad {ta:TE}(ha:PE X x ta):PE X (.UnaryOp .Not x pos) (fun σ H Q=>ta σ H fun v H1=> ∃t,TruV X.K v H1 t/\Q (.bl (!t)) H1):=by
 intro pins s σ H Q I h
 refine UnaryOp_ (thn (ha pins s σ H _ I h) fun v s1 ⟨x,H1,I1,r1,t,q1,q2⟩=> ?_)
 exact not_of (thn (QM pins s1 σ H1 x v (fun c H'=>Q (.bl (!c)) H') I1 r1 ⟨t,q1,q2⟩) fun c s2 ⟨H2,I2,q⟩=>⟨.bl (!c),H2,I2,rfl,q⟩)
theorem xal (go:Go Γ F X E k cf) (ha:PE X x (tD Γ E (M.eval F a))):PE X (.UnaryOp .Not x pos) (tD Γ E (M.eval F (.not a))):=by
 refine PE.imp (xad ha) fun σ H Q qq=> ?_
 obtain⟨G,τ,h,s,p⟩:=qq
 rw [M.eval]at p
 refine Ja s.heap Ext.refl s p fun w1 v1 h1 G1 H1 e1 e1' s1 r1 f1 p1=> ?_
 obtain⟨t,q,p1⟩:=p1.of
 exact⟨t,qQ go.K s1.heap r1 q,Post.val p1 e1 s1.heap (v:= .bl (!t)) rfl trivial⟩
theorem Z2 (ha:PT X x (tDT Γ E (M.tstE F a))):PT X (.UnaryOp .Not x pos) (tDT Γ E (M.tstE F (.not a))):=by
 refine PT.imp (xaz ha) fun σ H Q qq=> ?_
 obtain⟨G,τ,h,s,p⟩:=qq
 unfold M.tstE at p
 rw [M.eval]at p
 have p2:Post Γ E G H ((M.tstE F a τ h).bind fun t h=> .ok (!t) h) fun b _ _ H'=>Q b H':=by
  unfold M.tstE
  simpa only [Jg,M.R.bind_ok,M.tru_bl,M.R.of_some]using p
 exact⟨G,τ,h,s,p2.map⟩
theorem zaF {ta tb:TE}{rest:List Expr}(ha:PE X x ta) (hb:PE X (.BoolOp .Or (y::rest) pos) tb):PE X (.BoolOp .Or (x::y::rest) pos) (fun σ H Q=>ta σ H fun v H1=> ∃t,TruV X.K v H1 t/\if t=true then Q v H1 else tb σ H1 Q):=by
 intro pins s σ H Q I h
 refine BoolOp_or (thn (ha pins s σ H _ I h) fun v s1 ⟨x,H1,I1,r1,t,q1,q2⟩=> ?_)
 refine thn (QM pins s1 σ H1 x v (fun c H'=>if c=true then Q x H' else tb σ H' Q) I1 r1 ⟨t,q1,q2⟩) fun c s2 qq=> ?_
 obtain⟨H2,I2,q⟩:=qq
 cases c with
 | false=>exact hb pins s2 σ H2 Q I2 q
 | true=>exact⟨x,H2,I2,r1,q⟩
theorem j9 (go:Go Γ F X E k cf){rest:List Expr}(ha:PE X x (tD Γ E (M.eval F a))) (hb:PE X (.BoolOp .Or (y::rest) pos) (tD Γ E (M.eval F b))):PE X (.BoolOp .Or (x::y::rest) pos) (tD Γ E (M.eval F (.or a b))):=by
 refine PE.imp (zaF ha hb) fun σ H Q qq=> ?_
 obtain⟨G,τ,h,s,p⟩:=qq
 rw [M.eval]at p
 refine Ja s.heap Ext.refl s p fun w1 v1 h1 G1 H1 e1 e1' s1 r1 f1 p1=> ?_
 obtain⟨t,q,p1⟩:=p1.of
 refine⟨t,qQ go.K s1.heap r1 q,?_⟩
 cases t with
 | false=>
  rw [if_neg Bool.false_ne_true]
  exact Ja s.heap e1 s1 (f:=fun w h=> .ok w h) (by rw [JE];exact p1) fun w2 v2 h2 G2 H2 e2 e2' s2 r2 f2 p2=>Post.val p2 e2 s2.heap r2 (f2.back e1 s.heap)
 | true=>
  rw [if_pos rfl]
  exact Post.val p1 e1 s1.heap r1 f1
theorem jaC {τ:M.Sl}{h:M.AH}:M.tstE F (.or a b) τ h=(M.tstE F a τ h).bind fun t h=>match t with
 | true=> .ok true h
 | false=>M.tstE F b τ h:=by
 unfold M.tstE
 rw [M.eval]
 simp only [Jg]
 congr 1
 funext w h1
 cases q:M.truD h1 w with
 | none=>rfl
 | some t=>
  cases t with
  | false=>rfl
  | true=>simp [q]
theorem ZM {rest:List Expr}(ha:PT X x (tDT Γ E (M.tstE F a))) (hb:PW X (.BoolOp .Or (y::rest) pos) (tDT Γ E (M.tstE F b))):PW X (.BoolOp .Or (x::y::rest) pos) (tDT Γ E (M.tstE F (.or a b))):=by
 intro wh pins st σ H Q I ⟨G,τ,h,s,p⟩
 refine zaO ha hb wh pins st σ H Q I ?_
 rw [jaC]at p
 refine jT s.heap Ext.refl s p fun t h1 G1 H1 e1 e1' s1 p1=> ?_
 cases t with
 | false=>
  rw [if_neg Bool.false_ne_true]
  exact jT s.heap e1 s1 (f:=fun w h=> .ok w h) (by rw [JE];exact p1) fun w2 h2 G2 H2 e2 e2' s2 p2=>p2 G2 H2 e2 s2.heap
 | true=>
  rw [if_pos rfl]
  exact p1 G1 H1 e1 s1.heap
theorem xap (ha:PE X x (tD Γ E (M.eval F a))):PE X (.UnaryOp .USub x pos) (tD Γ E (M.eval F (.neg a))):=by
 refine PE.imp (zaK q5 ha) fun σ H Q qq=> ?_
 obtain⟨G,τ,h,s,p⟩:=qq
 rw [M.eval]at p
 refine Ja s.heap Ext.refl s p fun w1 v1 h1 G1 H1 e1 e1' s1 r1 f1 p1=> ?_
 obtain⟨t,q,p1⟩:=p1.of
 exact⟨t,r1.int q,Post.val p1 e1 s1.heap (v:= .int (-t)) rfl trivial⟩
def isnB (neg:Bool):M.W->Bool
 | .v .non=> !neg
 | _=>neg
end
end L2.MS
namespace L2.MS
open PySem PySem.Spec PyProof.Rows
theorem qa {e:Expr}{es:List Expr}{env:Env}(h:notStar e=true):starEach (e::es) env=(false,eval e env)::starEach es env:=by
 cases e<;>first | rfl | (simp [notStar]at h)
def allPlain (es:List Expr):Prop:= ∀e∈es,notStar e=true
theorem Jm {es:List Expr}{env:Env}{pos:Pos}(h: ∀e∈es,notStar e=true):(backTo pos (starEach es env)).any (·.1)=false:=by
 induction es with
 | nil=>rfl
 | cons e r ih=>
  rw [qa (h e List.mem_cons_self)]
  show(false||(backTo pos (starEach r env)).any (·.1))=false
  rw [ih fun e' he'=>h e' (List.mem_cons_of_mem _ he')]
  rfl
section
variable {Γ:Ge}{F:M.Fx}{X:Cx}{E:XK}{k:Nat}{cf:Cf}{a b c:M.E}{x y z:Expr}{pos:Pos}{es:M.Es}{xs:List Expr}
theorem Z1:PA X [] (tDA Γ E (M.evalDs F .nil)):=PA.imp zf fun σ H Q ⟨G,τ,h,s,p⟩=>p G H Ext.refl s.heap [] rfl
theorem QN (hx:notStar x=true) (ha:PE X x (tD Γ E (M.eval F a))) (hr:PA X xs (tDA Γ E (M.evalDs F es))):PA X (x::xs) (tDA Γ E (M.evalDs F (.cons a es))):=by
 refine PA.imp (Xb ha hr (qa hx)) fun σ H Q qq=> ?_
 obtain⟨G,τ,h,s,p⟩:=qq
 rw [M.evalDs]at p
 refine Ja s.heap Ext.refl s p fun w1 v1 h1 G1 H1 e1 e1' s1 r1 f1 p1=> ?_
 obtain⟨d,q,p1⟩:=p1.of
 obtain⟨G2,e2,s2,rd,_⟩:=toD e1 s1 s r1 f1 q
 refine qD s.heap e2 s2 p1 fun ds vs h3 G3 H3 e3 e3' s3 r3 p3=> ?_
 exact p3 G3 H3 e3 s3.heap (v1::vs) ⟨v1,vs,rfl,rd.ext e3' s2.heap,r3⟩
theorem X1:PA X [] (tDW Γ E (M.evalWs F .nil)):=PA.imp zf fun σ H Q ⟨G,τ,h,s,p⟩=>p G H Ext.refl s.heap [] rfl
theorem jV (hx:notStar x=true) (ha:PE X x (tD Γ E (M.eval F a))) (hr:PA X xs (tDW Γ E (M.evalWs F es))):PA X (x::xs) (tDW Γ E (M.evalWs F (.cons a es))):=by
 refine PA.imp (Xb ha hr (qa hx)) fun σ H Q qq=> ?_
 obtain⟨G,τ,h,s,p⟩:=qq
 rw [M.evalWs]at p
 refine Ja s.heap Ext.refl s p fun w1 v1 h1 G1 H1 e1 e1' s1 r1 f1 p1=> ?_
 refine zg s.heap e1 s1 p1 fun ds vs h3 G3 H3 e3 e3' s3 r3 p3=> ?_
 exact p3 G3 H3 e3 s3.heap (v1::vs) ⟨v1,vs,rfl,r1.ext e3' s1.heap,r3⟩
theorem xaf {n:Nat}(hl:xs.length<=1000) (hlen: ∀τ h ds h',M.evalDs F es τ h= .ok ds h'->ds.length=xs.length) (ha:PA X xs (tDA Γ E (M.evalDs F es))):PE X (.Tuple xs n pos) (tD Γ E (M.eval F (.tup es))):=by
 refine PE.imp (qax ha) fun σ H Q qq=> ?_
 obtain⟨G,τ,h,s,p⟩:=qq
 rw [M.eval]at p
 cases q:M.evalDs F es τ h with
 | ok ds0 h0=>
  have hz:=hlen _ _ _ _ q
  refine qD s.heap Ext.refl s (f:=fun ds h=>if ds.length=xs.length then M.okv (.tup ds) h else .fail) (P:=fun w h' G' H'=> ∀v,RelW Γ G' H' w v->FreshW τ σ H w v->Q v H') ?_ fun ds vs h1 G1 H1 e1 e1' s1 r1 p1=> ?_
  ·rw [q]at p ⊢
   show Post Γ E G H (if ds0.length=xs.length then M.okv (.tup ds0) h0 else .fail) _
   rw [if_pos hz]
   exact p
  ·by_cases hd:ds.length=xs.length
   ·rw [if_pos hd]at p1
    have l1:=r1.length
    exact⟨Nat.le_of_lt (Qx (by omega)),fun a' ha'=>PostW.tup (PostW.mk p1 e1 s.heap) s1.heap r1 a' ha'⟩
   ·rw [if_neg hd]at p1;exact p1.elim
 | exc d h0=>rw [q]at p;exact⟨G,τ,h,s,by rw [q];exact p⟩
 | fail=>rw [q]at p;exact p.elim
theorem qam (hl:xs.length<=1000) (hlen: ∀τ h ds h',M.evalDs F es τ h= .ok ds h'->ds.length=xs.length) (ha:PA X xs (tDA Γ E (M.evalDs F es))):PE X (.List xs pos) (tD Γ E (M.eval F (.lst es))):=by
 refine PE.imp (qaD ha) fun σ H Q qq=> ?_
 obtain⟨G,τ,h,s,p⟩:=qq
 rw [M.eval]at p
 cases q:M.evalDs F es τ h with
 | ok ds0 h0=>
  have hz:=hlen _ _ _ _ q
  refine qD s.heap Ext.refl s (f:=fun ds h=>if ds.length=xs.length then .ok (.own ds) h else .fail) (P:=fun w h' G' H'=> ∀v,RelW Γ G' H' w v->FreshW τ σ H w v->Q v H') ?_ fun ds vs h1 G1 H1 e1 e1' s1 r1 p1=> ?_
  ·rw [q]at p ⊢
   show Post Γ E G H (if ds0.length=xs.length then .ok (M.W.own ds0) h0 else .fail) _
   rw [if_pos hz]
   exact p
  ·by_cases hd:ds.length=xs.length
   ·rw [if_pos hd]at p1
    have l1:=r1.length
    exact⟨Nat.le_of_lt (Qx (by omega)),fun a' ha'=>PostW.own (PostW.mk p1 e1 s.heap) s1.heap r1 a' ha'⟩
   ·rw [if_neg hd]at p1;exact p1.elim
 | exc d h0=>rw [q]at p;exact⟨G,τ,h,s,by rw [q];exact p⟩
 | fail=>rw [q]at p;exact p.elim
theorem qaf {G:Gh}{H:Hp}{w:M.W}{v:V}(r:RelW Γ G H w v):RelW Γ G H w.arg v:=by
 cases w with
 | v d=>exact r
 | own xs=>obtain⟨a,vs,z1,_,z3,z4,z5⟩:=r;exact⟨a,vs,z1,z3,.inl z4,z5⟩
 | bor xs=>exact r
theorem Qu {G:Gh}{H:Hp}: ∀ {ws:List M.W}{vs:List V},RelWs Γ G H ws vs->RelWs Γ G H (ws.map M.W.arg) vs
 | [],_,z=>z
 | _::_,_,⟨v,r,z1,z2,z3⟩=>⟨v,r,z1,qaf z2,Qu z3⟩
theorem jz (ws:List M.W): ∀w∈ws.map M.W.arg,noOwn w=true:=fun w hw=>by
 obtain⟨u,_,rfl⟩:=List.mem_map.mp hw
 cases u<;>rfl
theorem JZ (go:Go Γ F X E k cf){f:String}{g:Expr}(hg:gNm cf.sc f g=true) (hf:cf.fns.contains f=true) (hx: ∀e∈x::xs,notStar e=true) (ha:PA X (x::xs) (tDW Γ E (M.evalWs F es))):PE X (.Call g (x::xs) [] pos) (tD Γ E (M.eval F (.call f es))):=by
 obtain⟨p,rfl,h2,h3⟩:=xb hg
 obtain⟨ps,fa,fd,fok,bd,kp,hm⟩:=(go.fn f hf).imp fun ps h=>h.ex
 refine PE.imp (zab fok go.room (go.gl _ h2) hm kp bd .nil go.pass ha h3 (qa (hx _ List.mem_cons_self)) (Jm fun e he=>hx e (List.mem_cons_of_mem _ he))) fun σ H Q qq=> ?_
 obtain⟨G,τ,h,s,p⟩:=qq
 rw [M.eval]at p
 refine zg s.heap Ext.refl s p fun ws vs h1 G1 H1 e1 e1' s1 r1 p1=> ?_
 rw [List.append_nil]
 exact⟨G1,h1,_,s1.heap,Qu r1,jz ws,PostW.mk p1 e1 s.heap⟩
theorem WT (go:Go Γ F X E k cf){f:String}{g:Expr}(hg:gNm cf.sc f g=true) (hf:cf.fns.contains f=true):PE X (.Call g [] [] pos) (tD Γ E (M.eval F (.call f .nil))):=by
 obtain⟨p,rfl,h2,h3⟩:=xb hg
 obtain⟨ps,fa,fd,fok,bd,kp,hm⟩:=(go.fn f hf).imp fun ps h=>h.ex
 refine PE.imp (ZV fok go.room (go.gl _ h2) hm kp bd .nil go.pass h3) fun σ H Q qq=> ?_
 obtain⟨G,τ,h,s,p⟩:=qq
 have p:Post Γ E G H (F.call f ([].map M.W.arg) h) _:=p
 exact⟨G,h,_,s.heap,Qu (ws:= []) (vs:= []) rfl,jz [],PostW.mk p Ext.refl s.heap⟩
theorem jav (b:M.Bi) (hb:biOk b=true):bootBuiltins (strS (biS b))=some (biV b):=by
 cases b<;>first | (exact absurd (show false=true from hb) Bool.false_ne_true) | decide +kernel
theorem biIn (b:M.Bi):biS b∈bltN:=by cases b<;>decide
theorem zav (go:Go Γ F X E k cf){b:M.Bi}{g:Expr}(hb:biOk b=true) (hg:gNm cf.sc (biS b) g=true) (hx: ∀e∈x::xs,notStar e=true) (ha:PA X (x::xs) (tDW Γ E (M.evalWs F es))):PE X (.Call g (x::xs) [] pos) (tD Γ E (M.eval F (.bi b es))):=by
 obtain⟨p,rfl,h2,h3⟩:=xb hg
 have hm:=go.blt _ (biIn b)
 have hn:=zm (biIn b)
 have bt:=jav b hb
 have cr:CallR X (biV b) (rBi Γ E b):=qaa b hb go.K go.calm
 have key: ∀σ H Q,tD Γ E (M.eval F (.bi b es)) σ H Q->tCB (rBi Γ E b) (tDW Γ E (M.evalWs F es)) σ H Q:=fun σ H Q qq=>by
  obtain⟨G,τ,h,s,p⟩:=qq
  rw [M.eval]at p
  refine zg s.heap Ext.refl s p fun ws vs h1 G1 H1 e1 e1' s1 r1 p1=> ?_
  exact⟨G1,h1,ws,s1.heap,r1,PostW.mk p1 e1 s.heap⟩
 have s1:=qa (env:=X.env) (es:=xs) (hx _ List.mem_cons_self)
 have s2:=Jm (env:=X.env) (pos:=pos) fun e he=>hx e (List.mem_cons_of_mem _ he)
 cases b with
 | len=>exact PE.imp (Wc cr (go.gl _ h2) hm bt ha hn h3 s1 s2) key
 | divmod=>exact PE.imp (Wc cr (go.gl _ h2) hm bt ha hn h3 s1 s2) key
 | min=>exact PE.imp (Wc cr (go.gl _ h2) hm bt ha hn h3 s1 s2) key
 | max=>exact PE.imp (Wc cr (go.gl _ h2) hm bt ha hn h3 s1 s2) key
 | int=>exact PE.imp (zj cr (go.gl _ h2) hm bt ha hn h3 s1 s2) key
 | list=>exact PE.imp (zj cr (go.gl _ h2) hm bt ha hn h3 s1 s2) key
 | tuple=>exact PE.imp (zj cr (go.gl _ h2) hm bt ha hn h3 s1 s2) key
 | sum=>exact PE.imp (Wc cr (go.gl _ h2) hm bt ha hn h3 s1 s2) key
 | all=>exact PE.imp (Wc cr (go.gl _ h2) hm bt ha hn h3 s1 s2) key
 | any=>exact PE.imp (Wc cr (go.gl _ h2) hm bt ha hn h3 s1 s2) key
 | sorted=>exact PE.imp (Wc cr (go.gl _ h2) hm bt ha hn h3 s1 s2) key
 | str=>cases hb
 | abs=>cases hb
theorem base_of {o:Expr}{n:Str}{env:Env}(h:notC0 o=true) (w:Sem Value):attributeBase o n env w=w:=by
 cases o<;>first | rfl | exact absurd (show false=true from h) Bool.false_ne_true
theorem QO (t:M.Tx): ∀ {ts:List M.Tx}{n:Nat},M.idxT t ts=some n->idxS (txS t) (ts.map txS)=some n
 | [],_,e=>by cases e
 | y::ys,n,e=>by
  unfold M.idxT at e
  rw [List.map_cons,idxS]
  split at e
  ·rename_i q
   cases e
   rw [if_pos (by rw [q])]
  ·rename_i q
   obtain⟨k,e1,rfl⟩:=Option.map_eq_some_iff.mp e
   rw [if_neg (fun c=>q (by
    have:=congrArg (fun s:Str=>s.cps.toList) c
    simpa [txS]using this)),QO t e1]
   rfl
theorem jF (z:M.Tx): ∀ts:List M.Tx,Str.join (txS z) (ts.map txS)=txS (M.joinT z ts)
 | []=>rfl
 | [t]=>rfl
 | t::u::r=>by
  have ih:=jF z (u::r)
  simp only [List.map_cons,Str.join,M.joinT]at ih ⊢
  rw [ih,je,je]
theorem WG {z:M.Tx}: ∀ts:List M.Tx,(M.joinT z ts).length+z.length=(ts.map fun t=>t.length+z.length).sum+(if ts= []then z.length else 0)
 | []=>by simp [M.joinT]
 | [t]=>by simp [M.joinT]
 | t::u::r=>by
  have ih:=WG (z:=z) (u::r)
  simp only [M.joinT,List.length_append,List.map_cons,List.sum_cons]at ih ⊢
  simp at ih ⊢
  omega
theorem xF (z:M.Tx): ∀ts:List M.Tx,((ts.map txS).map (·.length)).sum+(ts.map txS).length*(txS z).length=(ts.map fun t=>t.length+z.length).sum
 | []=>by simp
 | t::ts=>by
  have ih:=xF z ts
  rw [jb]at ih ⊢
  simp only [List.map_cons,List.sum_cons,jb,List.length_cons,Nat.succ_mul]at ih ⊢
  omega
theorem ZE (t:Int): ∀ {ts:List Int}{n:Nat},M.idxI t ts=some n->idxI t ts=some n
 | [],_,h=>by cases h
 | y::ys,n,h=>by
  rw [M.idxI]at h
  rw [idxI]
  split at h
  ·rename_i q;rw [if_pos q];exact h
  ·rename_i q
   rw [if_neg q]
   obtain⟨k,e,rfl⟩:=Option.map_eq_some_iff.mp h
   rw [ZE t e];rfl
theorem xW (go:Go Γ F X E k cf){m:M.Mt}{a:M.E}{o:Expr}{apos cpos:Pos}(hm:mtOk m=true) (hl:(apos.endLine==cpos.line)=true) (hc:notC0 o=true) (hx:notStar x=true) (ha:PE X o (tD Γ E (M.eval F a))) (hw:PA X [x] (tDW Γ E (M.evalWs F es))):
 PE X (.Call (.Attribute o (strS (mtS m)) apos) [x] [] cpos) (tD Γ E (M.eval F (.meth m a es))):=by
 cases m with
 | index=>
  refine PE.imp (zv PySem.F.plainAttrs_tuple PySem.F.slot_tuple_index PySem.F.type_tuple_index Z7 XZ ha hw (base_of hc _) (by rw [qa hx];rfl) hl (qa hx) rfl) fun σ H Q qq=> ?_
  obtain⟨G,τ,h,s,p⟩:=qq
  rw [M.eval]at p
  refine Ja s.heap Ext.refl s p fun w1 v1 h1 G1 H1 e1 e1' s1 r1 f1 p1=> ?_
  split at p1
  ·rename_i ht
   obtain⟨xs,ex⟩:=Option.isSome_iff_exists.mp (show w1.tup?.isSome=true from ht)
   obtain⟨b,vs,rfl,z2,z3⟩:=r1.tup ex
   refine⟨⟨b,rfl,go.K▸z2.pl⟩,?_⟩
   refine zg s.heap e1 s1 p1 fun ws us h2 G2 H2 e2 e2' s2 r2 p2=> ?_
   obtain⟨b',vs',eb,z2',z3'⟩:=RelW.ext (w:= .v (.tup xs)) e2' s1.heap ⟨b,vs,rfl,z2,z3⟩
   cases eb
   cases ws with
   | nil=>exact p2.elim
   | cons w wr=>
    cases wr with
    | cons _ _=>exact p2.elim
    | nil=>
     obtain⟨u,rfl,ru⟩:=r2.one
     have p2:Post Γ E G H ((M.R.of h2 (w1.tup?.bind M.strsD)).bind fun ts h=>(M.R.of h w.str?).bind fun t h=>(M.R.of h (M.idxT t ts)).bind fun n h=>if ts.length<=M.LIM then M.okv (.int (n:Int)) h else .fail) _:=p2
     obtain⟨ts,q1,p2⟩:=p2.of
     obtain⟨t,q2,p2⟩:=p2.of
     obtain⟨n,q3,p2⟩:=p2.of
     cases ru.str q2
     rw [ex,Option.bind_some]at q1
     cases qm q1 z3'
     split at p2
     ·exact⟨b,txS t,n,ts.map txS,rfl,rfl,go.K▸StT.sq z2',QO t q3,(PostW.mk p2 e2 s.heap).v s2.heap rfl⟩
     ·exact p2.elim
  ·exact p1.elim
 | indexI=>
  refine PE.imp (zv PySem.F.plainAttrs_tuple PySem.F.slot_tuple_index PySem.F.type_tuple_index Z7 XJ ha hw (base_of hc _) (by rw [qa hx];rfl) hl (qa hx) rfl) fun σ H Q qq=> ?_
  obtain⟨G,τ,h,s,p⟩:=qq
  rw [M.eval]at p
  refine Ja s.heap Ext.refl s p fun w1 v1 h1 G1 H1 e1 e1' s1 r1 f1 p1=> ?_
  split at p1
  ·rename_i ht
   obtain⟨xs,ex⟩:=Option.isSome_iff_exists.mp (show w1.tup?.isSome=true from ht)
   obtain⟨b,vs,rfl,z2,z3⟩:=r1.tup ex
   refine⟨⟨b,rfl,go.K▸z2.pl⟩,?_⟩
   refine zg s.heap e1 s1 p1 fun ws us h2 G2 H2 e2 e2' s2 r2 p2=> ?_
   obtain⟨b',vs',eb,z2',z3'⟩:=RelW.ext (w:= .v (.tup xs)) e2' s1.heap ⟨b,vs,rfl,z2,z3⟩
   cases eb
   cases ws with
   | nil=>exact p2.elim
   | cons w wr=>
    cases wr with
    | cons _ _=>exact p2.elim
    | nil=>
     obtain⟨u,rfl,ru⟩:=r2.one
     have p2:Post Γ E G H ((M.R.of h2 (w1.tup?.bind M.intsD)).bind fun ts h=>(M.R.of h w.int?).bind fun t h=>(M.R.of h (M.idxI t ts)).bind fun n h=>M.okv (.int (n:Int)) h) _:=p2
     obtain⟨ts,q1,p2⟩:=p2.of
     obtain⟨t,q2,p2⟩:=p2.of
     obtain⟨n,q3,p2⟩:=p2.of
     cases ru.int q2
     rw [ex,Option.bind_some]at q1
     cases Zf q1 z3'
     exact⟨b,t,n,ts,rfl,rfl,go.K▸StT.sq z2',ZE t q3,(PostW.mk p2 e2 s.heap).v s2.heap rfl⟩
  ·exact p1.elim
 | join=>
  refine PE.imp (zv PySem.F.plainAttrs_str PySem.F.slot_str_join PySem.F.type_str_join jax qag ha hw (base_of hc _) (by rw [qa hx];rfl) hl (qa hx) rfl) fun σ H Q qq=> ?_
  obtain⟨G,τ,h,s,p⟩:=qq
  rw [M.eval]at p
  refine Ja s.heap Ext.refl s p fun w1 v1 h1 G1 H1 e1 e1' s1 r1 f1 p1=> ?_
  split at p1
  ·rename_i ht
   obtain⟨z,ez⟩:=Option.isSome_iff_exists.mp (show w1.str?.isSome=true from ht)
   cases r1.str ez
   refine⟨⟨_,rfl⟩,?_⟩
   refine zg s.heap e1 s1 p1 fun ws us h2 G2 H2 e2 e2' s2 r2 p2=> ?_
   cases ws with
   | nil=>exact p2.elim
   | cons w wr=>
    cases wr with
    | cons _ _=>exact p2.elim
    | nil=>
     obtain⟨u,rfl,ru⟩:=r2.one
     have p2:Post Γ E G H ((M.R.of h2 w1.str?).bind fun s h=>(M.R.of h ((w.lst? h).bind M.strsD)).bind fun ts h=>if(M.joinT s ts).length<=M.LIM/\ts.length<=M.LIM/\s.length<=M.LIM then M.okv (.str (M.joinT s ts)) h else .fail) _:=p2
     obtain⟨z',q1,p2⟩:=p2.of
     obtain⟨ts,q2,p2⟩:=p2.of
     rw [ez]at q1
     cases q1
     obtain⟨ys,q3,q4⟩:=Option.bind_eq_some_iff.mp q2
     obtain⟨b,vs,rfl,y2,y3⟩:=RelW.lst s2.heap ru q3
     cases qm q4 y3
     split at p2
     ·rename_i c
      rw [M.LIM_eq]at c
      refine⟨txS z,b,ts.map txS,rfl,rfl,go.K▸y2,?_,?_⟩
      ·unfold JoinOk
       rw [StrLaws.joinTotal]
       have hf:=WG (z:=z) ts
       have hs:=xF z ts
       have: ¬(((ts.map txS).map (·.length)).sum+(ts.map txS).length*(txS z).length>sizeLine):=by
        have:sizeLine>=3000000:=by decide
        split at hf<;>omega
       rw [show Builtin.Str.tooLong (((ts.map txS).map (·.length)).sum+(ts.map txS).length*(txS z).length)=false from decide_eq_false this]
       rfl
      ·rw [jF]
       exact(PostW.mk p2 e2 s.heap).v s2.heap rfl
     ·exact p2.elim
  ·exact p1.elim
 | count=>
  refine PE.imp (zv PySem.F.plainAttrs_list PySem.F.slot_list_count PySem.F.type_list_count jal WV ha hw (base_of hc _) (by rw [qa hx];rfl) hl (qa hx) rfl) fun σ H Q qq=> ?_
  obtain⟨G,τ,h,s,p⟩:=qq
  rw [M.eval]at p
  refine Ja s.heap Ext.refl s p fun w1 v1 h1 G1 H1 e1 e1' s1 r1 f1 p1=> ?_
  split at p1
  ·rename_i ht
   obtain⟨ys,ey⟩:=Option.isSome_iff_exists.mp (show (w1.lst? h1).isSome=true from ht)
   obtain⟨b,vs,rfl,z2,z3⟩:=RelW.lst s1.heap r1 ey
   refine⟨⟨b,vs,rfl,go.K▸z2⟩,?_⟩
   refine zg s.heap e1 s1 p1 fun ws us h2 G2 H2 e2 e2' s2 r2 p2=> ?_
   cases ws with
   | nil=>exact p2.elim
   | cons w wr=>
    cases wr with
    | cons _ _=>exact p2.elim
    | nil=>
     obtain⟨u,rfl,ru⟩:=r2.one
     have p2:Post Γ E G H ((M.R.of h2 ((w1.lst? h2).bind M.intsD)).bind fun is h=>(M.R.of h w.int?).bind fun i h=>if is.length<=M.LIM then M.okv (.int ((is.count i:Nat):Int)) h else .fail) _:=p2
     obtain⟨is,q1,p2⟩:=p2.of
     obtain⟨i,q2,p2⟩:=p2.of
     obtain⟨ys2,q3,q4⟩:=Option.bind_eq_some_iff.mp q1
     obtain⟨b',vs',eb,y2,y3⟩:=RelW.lst s2.heap (r1.ext e2' s1.heap) q3
     cases eb
     cases Zf q4 y3
     cases ru.int q2
     split at p2
     ·exact⟨b,i,is,rfl,rfl,go.K▸y2,(PostW.mk p2 e2 s.heap).v s2.heap rfl⟩
     ·exact p2.elim
  ·exact p1.elim
theorem jai (a b:M.Tx):(txS a==txS b)=(a==b):=by
 rw [Bool.eq_iff_iff,beq_iff_eq,beq_iff_eq]
 exact⟨fun e=>by simpa [txS]using e,fun e=>by rw [e]⟩
theorem qak (go:Go Γ F X E k cf){t:M.Ty}{g:Expr}(ht:t≠ .non) (hg:gNm cf.sc "isinstance" g=true) (hy:gNm cf.sc (tyS t) y=true) (hx:notStar x=true) (ha:PE X x (tD Γ E (M.eval F a))):PE X (.Call g [x,y] [] pos) (tD Γ E (M.eval F (.isT a t))):=by
 obtain⟨p,rfl,h2,h3⟩:=xb hg
 obtain⟨q,rfl,h4,h5⟩:=xb hy
 have inT:tyS t∈bltN:=by cases t<;>first | exact absurd rfl ht | decide
 have bt:bootBuiltins (strS (tyS t))=some (.type (tyS t)):=by cases t<;>first | exact absurd rfl ht | decide +kernel
 have bi:bootBuiltins (strS "isinstance")=some (.builtin "isinstance"):=boot_isinstance
 have inI: "isinstance" ∈bltN:=by decide
 have hty:PE X (.Name (strS (tyS t)) q) (tC (.ty (tyS t))):=zam (go.gl _ h4) (go.blt _ inT) bt rfl (zm inT) h5
 refine PE.imp (Wc (ZW go.K) (go.gl _ h2) (go.blt _ inI) bi (Xb ha (Xb hty zf) (qa hx)) (zm inI) h3 (qa hx) rfl) fun σ H Q qq=> ?_
 obtain⟨G,τ,h,s,p⟩:=qq
 rw [M.eval]at p
 refine Ja s.heap Ext.refl s p fun w1 v1 h1 G1 H1 e1 e1' s1 r1 f1 p1=> ?_
 obtain⟨c,q',p1⟩:=p1.of
 exact⟨G1,h1,w1,v1,t,c,rfl,ht,s1.heap,r1,q',Post.val p1 e1 s1.heap (v:= .bl c) rfl trivial⟩
theorem jat {α:Type}(xs:List α) (i:Int):M.atI xs i=L2.atI xs i:=rfl
theorem RelDs.atI {G:Gh}{H:Hp}{ds:List M.D}{vs:List V}{i:Int}{d:M.D}(z:RelDs Γ G H ds vs) (e:M.atI ds i=some d): ∃v,L2.atI vs i=some v/\RelD Γ G H d v:=by
 unfold M.atI at e
 unfold L2.atI
 rw [z.length]at e
 cases q:M.ixN vs.length i with
 | none=>rw [q]at e;cases e
 | some j=>
  rw [q]at e
  obtain⟨v,h1,h2⟩:=z.get (show ds[j]? =some d from e)
  refine⟨v,?_,h2⟩
  have q':L2.ixN vs.length i=some j:=q
  rw [q']
  exact h1
theorem wE (hy:notSlice y=true):PlainIx y:=by
 intro o i
 cases y<;>first | rfl | (simp [notSlice]at hy)
theorem qaC (go:Go Γ F X E k cf) (hy:notSlice y=true) (ha:PE X x (tD Γ E (M.eval F a))) (hb:PE X y (tD Γ E (M.eval F b))):PE X (.Subscript x y pos) (tD Γ E (M.eval F (.ix a b))):=by
 refine PE.imp (jay jaz ha hb (wE hy)) fun σ H Q qq=> ?_
 obtain⟨G,τ,h,s,p⟩:=qq
 rw [M.eval]at p
 refine Ja s.heap Ext.refl s p fun w1 v1 h1 G1 H1 e1 e1' s1 r1 f1 p1=> ?_
 refine Ja s.heap e1 s1 p1 fun w2 v2 h2 G2 H2 e2 e2' s2 r2 f2 p2=> ?_
 obtain⟨d,q,p2⟩:=p2.of
 have r1:=r1.ext e2' s1.heap
 unfold M.ixD at q
 split at q
 ·rename_i i ei
  cases r2.int ei
  split at q
  ·rename_i st es
   cases r1.str es
   split at q
   ·rename_i hl
    cases q2:M.atI st i with
    | none=>rw [q2]at q;cases q
    | some ch=>
     rw [q2]at q
     cases q
     refine .inr (.inr ⟨txS st,i,ch,rfl,rfl,by rw [jb];have:=Xd;omega,?_,Post.val p2 e2 s2.heap (v:= .str (txS [ch])) rfl trivial⟩)
     have:(txS st).cps.toList=st:=by simp [txS]
     rw [this,←jat]
     exact q2
   ·cases q
  ·cases q2:w1.seq? h2 with
   | none=>rw [q2]at q;cases q
   | some ds=>
    rw [q2]at q
    obtain⟨l,vs,rfl,z2,z3⟩:=r1.seq s2.heap q2
    obtain⟨v,e,rd⟩:=z3.atI (show M.atI ds i=some d from q)
    have q3:=Post.val p2 e2 s2.heap rd trivial
    rcases z2 with z2 | z2
    ·exact .inl ⟨l,vs,i,v,rfl,rfl,go.K▸z2,e,q3⟩
    ·exact .inr (.inl ⟨l,vs,i,v,rfl,rfl,go.K▸z2,e,q3⟩)
 ·cases q
end
end L2.MS
namespace L2.MS
open PySem PySem.Spec PyProof.Rows
section
variable {Γ:Ge}{F:M.Fx}{X:Cx}{E:XK}{k:Nat}{cf:Cf}{a b c:M.E}{x y z:Expr}{pos p2:Pos}
theorem wU {α:Type}(xs:List α) (lo hi:Option Int):M.cut xs lo hi=(xs.drop (HT.sIx xs.length 0 lo)).take (HT.sIx xs.length xs.length hi-HT.sIx xs.length 0 lo):=by
 unfold M.cut
 have e: ∀d o,M.sIx xs.length d o=HT.sIx xs.length d o:=fun d o=>by cases o<;>rfl
 rw [e,e]
theorem RelDs.cut {G:Gh}{H:Hp}{ds:List M.D}{vs:List V}(z:RelDs Γ G H ds vs) (lo hi:Option Int):RelDs Γ G H (M.cut ds lo hi) (cutV vs lo hi):=by
 rw [wU]
 unfold cutV
 rw [z.length]
 exact(z.drop _).take _
theorem qap {G0 G:Gh}{H0 H:Hp}{h0 h:M.AH}{τ:M.Sl}{σ:St}{Q:VK}{w:M.W}{v:V}{lo hi:Option Int}(s0:HRel Γ G0 h0 H0) (e:Ext G0 H0 G H) (hr:HRel Γ G h H) (r:RelW Γ G H w v)
 (p:Post Γ E G0 H0 (M.slD w lo hi h) fun w _ G' H'=> ∀v,RelW Γ G' H' w v->FreshW τ σ H0 w v->Q v H'):((rSlL Γ.K v lo hi H Q\/rSlT Γ.K v lo hi H Q)\/rSlW Γ.K v lo hi H Q)\/rSlS v lo hi H Q:=by
 unfold M.slD at p
 split at p
 ·rename_i z q
  cases r.str q
  split at p
  ·rename_i c
   have hL:=Xd
   refine .inr ⟨_,rfl,by rw [jb];omega,?_⟩
   have e1:cutS (txS z) lo hi=txS (M.cut z lo hi):=by
    unfold cutS
    rw [jb,wU]
    simp [txS]
   rw [e1]
   exact PostW.v (PostW.mk p e s0) hr rfl
  ·exact p.elim
 ·split at p
  ·rename_i ds q
   obtain⟨l,vs,rfl,z2,z3⟩:=r.tup q
   by_cases c:HT.sIx vs.length 0 lo=0/\HT.sIx vs.length vs.length hi=vs.length
   ·have e2:M.cut ds lo hi=ds:=by
     rw [wU,z3.length,c.1,c.2,List.drop_zero,Nat.sub_zero,←z3.length,List.take_length]
    rw [e2]at p
    exact .inl (.inr ⟨l,vs,rfl,z2.sq,c.1,c.2,p G H e hr _ ⟨l,vs,rfl,z2,z3⟩ trivial⟩)
   ·exact .inl (.inl (.inr ⟨l,vs,rfl,z2.sq,c,fun a ha=>PostW.tup (PostW.mk p e s0) hr (z3.cut lo hi) a ha⟩))
  ·split at p
   ·rename_i ds q
    obtain⟨l,vs,rfl,z2,z3⟩:=r.lst hr q
    exact .inl <| .inl <| .inl ⟨l,vs,rfl,z2,fun a ha=>PostW.own (PostW.mk p e s0) hr (z3.cut lo hi) a ha⟩
   ·exact p.elim
def rSl (K:PySem.W.Frag):V->Option Int->Option Int->Hp->VK->Prop:=fun x lo hi H Q=>((rSlL K x lo hi H Q\/rSlT K x lo hi H Q)\/rSlW K x lo hi H Q)\/rSlS x lo hi H Q
theorem XO:SlR X (rSl X.K):=((sl_list.or qaz).or xav).or jn
theorem zaD (go:Go Γ F X E k cf){lo hi:M.E}{l u:Expr}(ha:PE X x (tD Γ E (M.eval F a))) (hl:PE X l (tD Γ E (M.eval F lo))) (hu:PE X u (tD Γ E (M.eval F hi))):PE X (.Subscript x (.Slice (some l) (some u) none p2) pos) (tD Γ E (M.eval F (.sl a lo hi))):=by
 refine PE.imp (zu XO ha (Zt hl) (Zt hu)) fun σ H Q qq=> ?_
 obtain⟨G,τ,h,s,p⟩:=qq
 rw [M.eval]at p
 refine Ja s.heap Ext.refl s p fun w1 v1 h1 G1 H1 e1 e1' s1 r1 f1 p1=> ?_
 refine Ja s.heap e1 s1 p1 fun w2 v2 h2 G2 H2 e2 e2' s2 r2 f2 p2=> ?_
 obtain⟨i,qi,p2⟩:=p2.of
 refine⟨i,r2.int qi,?_⟩
 refine Ja s.heap e2 s2 p2 fun w3 v3 h3 G3 H3 e3 e3' s3 r3 f3 p3=> ?_
 obtain⟨j,qj,p3⟩:=p3.of
 exact⟨j,r3.int qj,go.K▸qap s.heap e3 s3.heap ((r1.ext e2' s1.heap).ext e3' s2.heap) p3⟩
theorem zao (go:Go Γ F X E k cf){lo:M.E}{l:Expr}(ha:PE X x (tD Γ E (M.eval F a))) (hl:PE X l (tD Γ E (M.eval F lo))):PE X (.Subscript x (.Slice (some l) none none p2) pos) (tD Γ E (M.eval F (.slL a lo))):=by
 refine PE.imp (zu XO ha (Zt hl) XN) fun σ H Q qq=> ?_
 obtain⟨G,τ,h,s,p⟩:=qq
 rw [M.eval]at p
 refine Ja s.heap Ext.refl s p fun w1 v1 h1 G1 H1 e1 e1' s1 r1 f1 p1=> ?_
 refine Ja s.heap e1 s1 p1 fun w2 v2 h2 G2 H2 e2 e2' s2 r2 f2 p2=> ?_
 obtain⟨i,qi,p2⟩:=p2.of
 exact⟨i,r2.int qi,go.K▸qap s.heap e2 s2.heap (r1.ext e2' s1.heap) p2⟩
theorem jae (go:Go Γ F X E k cf){hi:M.E}{u:Expr}(ha:PE X x (tD Γ E (M.eval F a))) (hu:PE X u (tD Γ E (M.eval F hi))):PE X (.Subscript x (.Slice none (some u) none p2) pos) (tD Γ E (M.eval F (.slH a hi))):=by
 refine PE.imp (zu XO ha XN (Zt hu)) fun σ H Q qq=> ?_
 obtain⟨G,τ,h,s,p⟩:=qq
 rw [M.eval]at p
 refine Ja s.heap Ext.refl s p fun w1 v1 h1 G1 H1 e1 e1' s1 r1 f1 p1=> ?_
 refine Ja s.heap e1 s1 p1 fun w2 v2 h2 G2 H2 e2 e2' s2 r2 f2 p2=> ?_
 obtain⟨i,qi,p2⟩:=p2.of
 exact⟨i,r2.int qi,go.K▸qap s.heap e2 s2.heap (r1.ext e2' s1.heap) p2⟩
theorem J3 {st:Expr}(h:isM1 st=true): ∃k p q,st= .UnaryOp .USub (.Constant (.int 1) k p) q:=by
 unfold isM1 at h
 split at h
 ·exact⟨_,_,_,rfl⟩
 ·cases h
theorem jaf (go:Go Γ F X E k cf){st:Expr}(hst:isM1 st=true) (ha:PE X x (tD Γ E (M.eval F a))):PE X (.Subscript x (.Slice none none (some st) p2) pos) (tD Γ E (M.eval F (.rev a))):=by
 obtain⟨k',q1,q2,rfl⟩:=J3 hst
 refine PE.imp (QY ha (zaK q5 W5)) fun σ H Q qq=> ?_
 obtain⟨G,τ,h,s,p⟩:=qq
 rw [M.eval]at p
 refine Ja s.heap Ext.refl s p fun w1 v1 h1 G1 H1 e1 e1' s1 r1 f1 p1=> ?_
 obtain⟨ds,q,p1⟩:=p1.of
 obtain⟨l,vs,rfl,z2,z3⟩:=r1.lst s1.heap q
 exact⟨1,rfl,rfl,l,vs,rfl,go.K▸z2,fun a' ha'=>PostW.own (PostW.mk p1 e1 s.heap) s1.heap z3.reverse a' ha'⟩
def Gh.cell (G:Gh) (a:Addr):Gh:= { G with rho:=fun r=>if r=G.n then a else G.rho r,n:=G.n+1 }
theorem zt {G:Gh}{H:Hp}(a:Addr):Mon G H (G.cell a) H:=⟨fun _ _ _ z=>z,Nat.le_succ _,fun r hr=>by show(if r=G.n then a else G.rho r)=_;rw [if_neg (by omega)],fun _ z=>z⟩
theorem Qz {G:Gh}{H:Hp}{h:M.AH}{a:Addr}{xs:List M.D}{vs:List V}(hr:HRel Γ G h H) (n1: ¬G.fz a) (n2:Off G a) (e:H a=some (.lst vs)) (z:RelDs Γ G H xs vs) (hp:M.noRefs xs=true):HRel Γ (G.cell a) (h++ [.lst xs]) H where
 len:=by rw [List.length_append,hr.len];rfl
 cell:=fun r ys q=>by
  show ¬G.fz (if r=G.n then a else G.rho r)/\ ∃vs,H (if r=G.n then a else G.rho r)=some (.lst vs)/\RelDs Γ (G.cell a) H ys vs
  by_cases hn:r=G.n
  ·rw [if_pos hn]
   rw [hn,←hr.len,List.getElem?_append_right (Nat.le_refl _),Nat.sub_self]at q
   cases q
   exact⟨n1,vs,e,z.mon (zt a)⟩
  ·rw [if_neg hn]
   have hlt:r<G.n:=by
    have:=(List.getElem?_eq_some_iff.mp q).1
    rw [List.length_append,hr.len]at this
    simp at this
    omega
   rw [List.getElem?_append_left (by rw [hr.len];exact hlt)]at q
   obtain⟨z1,vs',z2,z3⟩:=hr.cell r ys q
   exact⟨z1,vs',z2,z3.mon (zt a)⟩
 pure:=fun r ys q=>by
  by_cases hlt:r<h.length
  ·rw [List.getElem?_append_left hlt]at q;exact hr.pure r ys q
  ·rw [List.getElem?_append_right (Nat.not_lt.mp hlt)]at q
   cases hn:r-h.length with
   | zero=>rw [hn]at q;cases q;exact hp
   | succ m=>rw [hn]at q;simp at q
 inj:=fun r s h1 h2 e=>by
  have h1:r<G.n+1:=h1
  have h2:s<G.n+1:=h2
  have e:(if r=G.n then a else G.rho r)=(if s=G.n then a else G.rho s):=e
  by_cases hr1:r=G.n
  ·by_cases hs1:s=G.n
   ·omega
   ·rw [if_pos hr1,if_neg hs1]at e
    exact absurd e.symm (n2 s (by omega))
  ·by_cases hs1:s=G.n
   ·rw [if_neg hr1,if_pos hs1]at e
    exact absurd e (n2 r (by omega))
   ·rw [if_neg hr1,if_neg hs1]at e
    exact hr.inj r s (by omega) (by omega) e
 live:=hr.live
 dic:=fun r ks q=>by
  show ¬G.fz (if r=G.n then a else G.rho r)/\ ∃xs,H (if r=G.n then a else G.rho r)=some (DW (if r=G.n then a else G.rho r) xs)/\xs.map (·.1)=ks/\ ∀x∈xs,RelD Γ (G.cell a) H (wkT x.1) (.ref x.2.1)
  by_cases hn:r=G.n
  ·rw [hn,←hr.len,List.getElem?_append_right (Nat.le_refl _),Nat.sub_self]at q
   cases q
  ·rw [if_neg hn]
   have hlt:r<G.n:=by
    have:=(List.getElem?_eq_some_iff.mp q).1
    rw [List.length_append,hr.len]at this
    simp at this
    omega
   rw [List.getElem?_append_left (by rw [hr.len];exact hlt)]at q
   obtain⟨z1,xs',z2,z3,z4⟩:=hr.dic r ks q
   exact⟨z1,xs',z2,z3,fun x hx=>(z4 x hx).mon (zt a)⟩
theorem zE {G0 G:Gh}{H0 H:Hp}{a:Addr}(e:Ext G0 H0 G H) (ha:H0 a=none):Ext G0 H0 (G.cell a) H where
 keep:=e.keep
 le:=Nat.le_trans e.le (Nat.le_succ _)
 rho:=fun r hr=>by show(if r=G.n then a else G.rho r)=_;rw [if_neg (by have:=e.le;omega)];exact e.rho r hr
 new:=fun r h1 h2=>by
  have h2:r<G.n+1:=h2
  show H0 (if r=G.n then a else G.rho r)=none
  by_cases hn:r=G.n
  ·rw [if_pos hn];exact ha
  ·rw [if_neg hn];exact e.new r h1 (by omega)
 fz:=e.fz
 old:=e.old
 cells:=e.cells
def rInW (Γ:Ge) (neg:Bool):R2:=fun x y H Q=> ∃G h k r ks,HRel Γ G h H/\RelD Γ G H (wkT k) x/\y= .ref (G.rho r)/\h[r]? =some (.dic ks)/\Q (.bl (if neg then !ks.contains k else ks.contains k)) H
def rLenW (Γ:Ge):List V->Hp->VK->Prop:=fun vs H Q=> ∃G h r ks,HRel Γ G h H/\vs= [.ref (G.rho r)]/\h[r]? =some (.dic ks)/\Q (.int (ks.length:Int)) H
def rSetW (Γ:Ge):V->V->V->Hp->(Hp->Prop)->Prop:=fun o i v H Q=> ∃G h k r ks,HRel Γ G h H/\RelD Γ G H (wkT k) i/\o= .ref (G.rho r)/\h[r]? =some (.dic ks)/\ks.length<sizeLine ∧
 ∀xs:List (M.WK×Addr×Value),xs.map (·.1)=M.putW ks k->(∀ x∈xs,RelD Γ G H (wkT x.1) (.ref x.2.1))->Q (upd H (G.rho r) (DW (G.rho r) xs))
theorem JR (ha:PE X x (tD Γ E (M.eval F a))):PE X x (tD Γ E (M.eval F (.share a))):=by
 refine PE.imp ha fun σ H Q qq=> ?_
 obtain⟨G,τ,h,s,p⟩:=qq
 rw [M.eval]at p
 refine Ja s.heap Ext.refl s p fun w1 v1 h1 G1 H1 e1 e1' s1 r1 f1 p1=> ?_
 cases w1 with
 | own xs=>
  obtain⟨l,vs,rfl,z2,z3,z4,z5⟩:=r1
  obtain⟨l',el,hl⟩:=f1
  cases el
  have p1:Post Γ E G H (if M.noRefs xs=true then M.okv (.ref h1.length) (h1++ [.lst xs])else .fail) _:=p1
  by_cases hp:M.noRefs xs=true
  rotate_left
  ·rw [if_neg hp]at p1;exact p1.elim
  rw [if_pos hp]at p1
  refine Post.val p1 (zE e1 hl) (Qz s1.heap z2 z3 z4 z5 hp) (v:= .ref l) ?_ trivial
  show h1.length<G1.n+1/\V.ref l= .ref (if h1.length=G1.n then l else G1.rho h1.length)
  rw [s1.heap.len,if_pos rfl]
  exact⟨Nat.lt_succ_self _,rfl⟩
 | v d=>exact p1.elim
 | bor xs=>exact p1.elim
end
structure WalkJ (Γ:Ge) (J:It) (ds:List M.D) (C:Gh->Hp->Prop):Prop where
 go: ∀i G H,C G H->i<ds.length->J.go i H
 yld: ∀i G H x H',C G H->i<ds.length->J.yld i H x H'-> ∃G',Ext G H G' H'/\(∀ h,HRel Γ G h H->HRel Γ G' h H')/\ ∃d,ds[i]? =some d/\RelD Γ G' H' d x
 stop: ∀i G H,C G H->ds.length<=i->i<=ds.length->J.stop i H
 keep: ∀G H G' H' h,C G H->Ext G H G' H'->HRel Γ G h H->C G' H'
noncomputable def hideO (τ:M.Sl) (σ:St) (H:Hp):Hp:=fun a=>open Classical in if ∃(i:Nat) (xs:List M.D),M.getS τ i=some (.own xs)/\σ[i]? =some (some (.ref a))then none else H a
def tDI (Γ:Ge) (E:XK) (lp:Bool) (m:M.Sl->M.AH->M.R (List M.D)):TI:=fun σ H R=> ∃G τ h,StRel Γ G τ h σ H/\Post Γ E G H (m τ h) fun ds _ G' H'=> ∀J C,WalkJ Γ J ds C->C G' H'->(lp=true->C G' (hideO τ σ H'))->R J H'
theorem PI.imp {X:Cx}{tg e:Expr}{t t':TI}(h:PI X tg e t) (k: ∀σ H R,t' σ H R->t σ H R):PI X tg e t':=fun pins s σ H R I q=>h pins s σ H R I (k _ _ _ q)
section
variable {Γ:Ge}{F:M.Fx}{X:Cx}{E:XK}{k:Nat}{cf:Cf}{a b c:M.E}{x y z tg:Expr}{pos p2:Pos}{lp:Bool}
def LOk (Γ:Ge) (G:Gh) (H:Hp) (l:Addr) (vs:List V):Prop:=(Rd H l (.lst vs)/\Off G l)\/StaL Γ l vs
def CL (Γ:Ge) (ds:List M.D) (l:Addr) (vs:List V) (G:Gh) (H:Hp):Prop:=LOk Γ G H l vs/\RelDs Γ G H ds vs
theorem LOk.sq {G:Gh}{H:Hp}{l:Addr}{vs:List V}(z:LOk Γ G H l vs):SqL Γ.K H l vs:=z.elim (fun z=> .inl z.1) .inr
theorem StL.lok {G:Gh}{H:Hp}{h:M.AH}{l:Addr}{vs:List V}(z:StL Γ G H l vs) (hr:HRel Γ G h H):LOk Γ G H l vs:=z.elim (fun z=> .inl ⟨z.2,hr.off z.1⟩) .inr
theorem CL.keep {ds:List M.D}{l:Addr}{vs:List V}{G G':Gh}{H H':Hp}{h:M.AH}(z:CL Γ ds l vs G H) (e:Ext G H G' H') (hr:HRel Γ G h H):CL Γ ds l vs G' H':=by
 obtain⟨z1,z3⟩:=z
 refine⟨?_,z3.ext e hr⟩
 rcases z1 with⟨z1,z2⟩ | z1
 ·refine .inl ⟨e.rd z1 z2,?_⟩
  rcases z1 with z1 | ⟨o,z1⟩
  ·exact e.off z1 z2
  ·exact e.off z1 z2
 ·exact .inr z1
theorem CL.walk {ds:List M.D}{l:Addr}{vs:List V}{K:PySem.W.Frag}(hK:K=Γ.K):WalkJ Γ (Itl K l) ds (CL Γ ds l vs) where
 go:=fun i G H ⟨z1,z3⟩ hi=>by
  obtain⟨v,e,_⟩:=z3.get (List.getElem?_eq_getElem hi)
  exact⟨vs,v,hK▸z1.sq,e⟩
 yld:=fun i G H x H' ⟨z1,z3⟩ hi ⟨e,y⟩=>by
  subst e
  obtain⟨v,e,rd⟩:=z3.get (List.getElem?_eq_getElem hi)
  have:=y vs (hK▸z1.sq)
  rw [e]at this
  cases this
  exact⟨G,Ext.refl,fun _ q=>q,_,List.getElem?_eq_getElem hi,rd⟩
 stop:=fun i G H ⟨z1,z3⟩ hi _=>⟨vs,hK▸z1.sq,by rw [← z3.length];exact hi⟩
 keep:=fun G H G' H' h z e hr=>z.keep e hr
def CT (Γ:Ge) (ds:List M.D) (l:Addr) (vs:List V) (G:Gh) (H:Hp):Prop:=StT Γ G H l vs/\RelDs Γ G H ds vs
theorem StT.mon {G G':Gh}{H H':Hp}{l:Addr}{vs:List V}(z:StT Γ G H l vs) (e:Mon G H G' H'):StT Γ G' H' l vs:=z.elim (fun z=> .inl ⟨e.fz l z.1,e.keep l _ z.1 z.2⟩) fun z=> .inr z
theorem CT.walk {ds:List M.D}{l:Addr}{vs:List V}{K:PySem.W.Frag}(hK:K=Γ.K):WalkJ Γ (Itt K l) ds (CT Γ ds l vs) where
 go:=fun i G H ⟨z1,z3⟩ hi=>by
  obtain⟨v,e,_⟩:=z3.get (List.getElem?_eq_getElem hi)
  exact⟨vs,v,hK▸z1.sq,e⟩
 yld:=fun i G H x H' ⟨z1,z3⟩ hi ⟨e,y⟩=>by
  subst e
  obtain⟨v,e,rd⟩:=z3.get (List.getElem?_eq_getElem hi)
  have:=y vs (hK▸z1.sq)
  rw [e]at this
  cases this
  exact⟨G,Ext.refl,fun _ q=>q,_,List.getElem?_eq_getElem hi,rd⟩
 stop:=fun i G H ⟨z1,z3⟩ hi _=>⟨vs,hK▸z1.sq,by rw [← z3.length];exact hi⟩
 keep:=fun G H G' H' h z e hr=>⟨z.1.mon (e.mon hr),z.2.ext e hr⟩
theorem CL.walkR {ds:List M.D}{l:Addr}{vs:List V}{K:PySem.W.Frag}(hK:K=Γ.K):WalkJ Γ (Itv K l vs.length) ds.reverse (CL Γ ds l vs) where
 go:=fun i G H ⟨z1,z3⟩ hi=>⟨vs,hK▸z1.sq,rfl,by rw [← z3.length];simpa using hi⟩
 yld:=fun i G H x H' ⟨z1,z3⟩ hi ⟨e,y⟩=>by
  subst e
  obtain⟨v,e,rd⟩:=z3.reverse.get (List.getElem?_eq_getElem hi)
  have:=y vs (hK▸z1.sq)
  have hl:i<vs.length:=by rw [← z3.length];simpa using hi
  rw [List.getElem?_reverse hl,this]at e
  cases e
  exact⟨G,Ext.refl,fun _ q=>q,_,List.getElem?_eq_getElem hi,rd⟩
 stop:=fun i G H ⟨z1,z3⟩ hi h2=>by
  have l1:=z3.length
  rw [List.length_reverse]at hi h2
  show i=vs.length
  omega
 keep:=fun G H G' H' h z e hr=>z.keep e hr
theorem Qq {lo:Int}{n:Nat}:WalkJ Γ (Itr lo n) ((List.range n).map fun(i:Nat)=>M.D.int (lo+(i:Int))) (fun _ _=>True) where
 go:=fun i G H _ hi=>show i<n by simpa using hi
 yld:=fun i G H x H' _ hi qq=>by
  obtain⟨e,y⟩:=qq
  subst e y
  have hi:i<n:=by simpa using hi
  exact⟨G,Ext.refl,fun _ q=>q,.int (lo+i),by simp [hi],rfl⟩
 stop:=fun i G H _ hi _=>show n<=i by simpa using hi
 keep:=fun _ _ _ _ _ _ _ _=>trivial
theorem Wn {z:M.Tx}:WalkJ Γ (Its (txS z)) (M.chs z) (fun _ _=>True) where
 go:=fun i G H _ hi=>by
  have hi:i<z.length:=by simpa [M.chs]using hi
  exact⟨z[i],by simp [txS,hi]⟩
 yld:=fun i G H x H' _ hi qq=>by
  obtain⟨e,c,y1,y2⟩:=qq
  subst e y2
  have hi:i<z.length:=by simpa [M.chs]using hi
  have y1:z[i]? =some c:=by simpa [txS]using y1
  exact⟨G,Ext.refl,fun _ q=>q,.str [c],by simp [M.chs,y1],rfl⟩
 stop:=fun i G H _ hi _=>by
  have hi:z.length<=i:=by simpa [M.chs]using hi
  show(txS z).cps[i]? =none
  simp [txS,hi]
 keep:=fun _ _ _ _ _ _ _ _=>trivial
theorem Qc {τ:M.Sl}{σ:St}{H:Hp}{l:Addr}(hn: ¬ ∃(i:Nat) (xs:List M.D),M.getS τ i=some (.own xs)/\σ[i]? =some (some (.ref l))):hideO τ σ H l=H l:=by
 unfold hideO
 rw [if_neg hn]
theorem Xf {G:Gh}{τ:M.Sl}{h:M.AH}{σ:St}{H:Hp}(s:StRel Γ G τ h σ H){i:Nat}{xs:List M.D}{l:Addr}(e:M.getS τ i=some (.own xs)) (e2:σ[i]? =some (some (.ref l))): ¬G.fz l/\Off G l/\ ∃vs,H l=some (.lst vs)/\RelDs Γ G H xs vs:=by
 obtain⟨v,z1,a,vs,z2,z3,z4,z5,z6⟩:=s.slot i _ e
 rw [e2]at z1
 cases z1
 cases z2
 exact⟨z3,z4,vs,z5,z6⟩
theorem Xg {G:Gh}{τ:M.Sl}{h:M.AH}{σ:St}{H:Hp}(s:StRel Γ G τ h σ H):Mon G H G (hideO τ σ H):=by
 refine⟨fun a o z e=> ?_,Nat.le_refl _,fun _ _=>rfl,fun _ z=>z⟩
 rw [Qc fun⟨i,xs,q1,q2⟩=>(Xf s q1 q2).1 z]
 exact e
theorem qY (go:Go Γ F X E k cf) (ha:PE X x (tD Γ E (M.eval F a))):PI X tg x (tDI Γ E false (M.evalIt F (.seq a))):=by
 refine PI.imp (xM ha) fun σ H R qq=> ?_
 obtain⟨G,τ,h,s,p⟩:=qq
 rw [M.evalIt]at p
 refine Ja s.heap Ext.refl s p fun w1 v1 h1 G1 H1 e1 e1' s1 r1 f1 p1=> ?_
 have lst: ∀ {ds:List M.D},Post Γ E G H (.ok ds h1) (fun ds x G' H'=> ∀J C,WalkJ Γ J ds C->C G' H'->(false=true->C G' (hideO τ σ H'))->R J H')->(∃ l vs,v1= .ref l/\LOk Γ G1 H1 l vs/\RelDs Γ G1 H1 ds vs) →
  (∃ a,v1= .ref a/\(∃ xs,SqL X.K H1 a xs)/\R (Itl X.K a) H1)\/(∃ a,v1= .ref a/\(∃ xs,SqT X.K H1 a xs)/\R (Itt X.K a) H1)\/ ∃z,v1= .str z/\R (Its z) H1:=fun {ds} p ⟨l,vs,z1,z2,z4⟩=>
  .inl ⟨l,z1,⟨vs,go.K▸z2.sq⟩,p G1 H1 e1 s1.heap _ _ (CL.walk (vs:=vs) go.K) ⟨z2,z4⟩ fun z=>absurd z Bool.false_ne_true⟩
 cases w1 with
 | v d=>
  cases d with
  | tup ds=>
   obtain⟨l,vs,rfl,z2,z3⟩:=r1
   exact .inr (.inl ⟨l,rfl,⟨vs,go.K▸z2.sq⟩,p1 G1 H1 e1 s1.heap _ _ (CT.walk (vs:=vs) go.K) ⟨z2,z3⟩ fun z=>absurd z Bool.false_ne_true⟩)
  | lst ds=>obtain⟨l,vs,z1,z2,z3⟩:=r1;exact lst p1 ⟨l,vs,z1,z2.lok s1.heap,z3⟩
  | non=>exact p1.elim
  | bl _=>exact p1.elim
  | int _=>exact p1.elim
  | str z=>
   cases (show v1= .str (txS z)from r1)
   exact .inr (.inr ⟨_,rfl,p1 G1 H1 e1 s1.heap _ _ Wn trivial fun z=>absurd z Bool.false_ne_true⟩)
  | ref _=>exact p1.elim
  | exc _ _=>exact p1.elim
 | own ds=>obtain⟨l,vs,z1,_,z3,z4,z5⟩:=r1;exact lst p1 ⟨l,vs,z1,.inl ⟨.inl z4,z3⟩,z5⟩
 | bor ds=>obtain⟨l,vs,z1,z3,z4,z5⟩:=r1;exact lst p1 ⟨l,vs,z1,.inl ⟨z4,z3⟩,z5⟩
theorem qW (n:Int):((List.range n.toNat).map fun(i:Nat)=>M.D.int (i:Int))=(List.range n.toNat).map fun(i:Nat)=>M.D.int (0+(i:Int)):=by
 congr 1;funext i;rw [Int.zero_add]
theorem ZP: "range" ∈bltN:=by decide
theorem xn (go:Go Γ F X E k cf){g:Expr}(hg:gNm cf.sc "range" g=true) (hx:notStar x=true) (ha:PE X x (tD Γ E (M.eval F a))):PI X tg (.Call g [x] [] pos) (tDI Γ E lp (M.evalIt F (.range1 a))):=by
 obtain⟨p,rfl,h2,h3⟩:=xb hg
 refine PI.imp (QR (go.gl _ h2) (go.blt _ ZP) (Xb ha zf (qa hx)) (qa hx)) fun σ H R qq=> ?_
 obtain⟨G,τ,h,s,p⟩:=qq
 rw [M.evalIt]at p
 refine Ja s.heap Ext.refl s p fun w1 v1 h1 G1 H1 e1 e1' s1 r1 f1 p1=> ?_
 obtain⟨n,q,p1⟩:=p1.of
 split at p1
 ·rename_i c
  rw [M.B62_eq]at c
  cases r1.int q
  rw [qW]at p1
  exact⟨n,rfl,c.1,c.2,p1 G1 H1 e1 s1.heap _ _ Qq trivial fun _=>trivial⟩
 ·exact p1.elim
theorem Jo (go:Go Γ F X E k cf){g:Expr}(hg:gNm cf.sc "range" g=true) (hx:notStar x=true) (hy:notStar y=true) (ha:PE X x (tD Γ E (M.eval F a))) (hb:PE X y (tD Γ E (M.eval F b))):PI X tg (.Call g [x,y] [] pos) (tDI Γ E lp (M.evalIt F (.range2 a b))):=by
 obtain⟨p,rfl,h2,h3⟩:=xb hg
 refine PI.imp (QU (go.gl _ h2) (go.blt _ ZP) (Xb ha (Xb hb zf (qa hy)) (qa hx)) (by rw [qa hx,qa hy];rfl) (qa hy)) fun σ H R qq=> ?_
 obtain⟨G,τ,h,s,p⟩:=qq
 rw [M.evalIt]at p
 refine Ja s.heap Ext.refl s p fun w1 v1 h1 G1 H1 e1 e1' s1 r1 f1 p1=> ?_
 obtain⟨n,q,p1⟩:=p1.of
 refine Ja s.heap e1 s1 p1 fun w2 v2 h2 G2 H2 e2 e2' s2 r2 f2 p2=> ?_
 obtain⟨m,q2,p2⟩:=p2.of
 split at p2
 ·rename_i c
  rw [M.B62_eq]at c
  cases r1.int q
  cases r2.int q2
  exact⟨n,m,rfl,⟨c.1.1,c.1.2,c.2.1,c.2.2⟩,p2 G2 H2 e2 s2.heap _ _ Qq trivial fun _=>trivial⟩
 ·exact p2.elim
theorem jak: "reversed" ∈bltN:=by decide
theorem X2 (go:Go Γ F X E k cf){g:Expr}(hg:gNm cf.sc "reversed" g=true) (hx:notStar x=true) (ha:PE X x (tD Γ E (M.eval F a))):PI X tg (.Call g [x] [] pos) (tDI Γ E false (M.evalIt F (.rev a))):=by
 obtain⟨p,rfl,h2,h3⟩:=xb hg
 refine PI.imp (ZL (go.gl _ h2) (go.blt _ jak) (Xb ha zf (qa hx)) (qa hx)) fun σ H R qq=> ?_
 obtain⟨G,τ,h,s,p⟩:=qq
 rw [M.evalIt]at p
 refine Ja s.heap Ext.refl s p fun w1 v1 h1 G1 H1 e1 e1' s1 r1 f1 p1=> ?_
 have lst: ∀ {ds:List M.D},Post Γ E G H (.ok ds.reverse h1) (fun ds x G' H'=> ∀J C,WalkJ Γ J ds C->C G' H'->(false=true->C G' (hideO τ σ H'))->R J H')->(∃ l vs,v1= .ref l/\LOk Γ G1 H1 l vs/\RelDs Γ G1 H1 ds vs) →
  ∃a xs,[v1]= [.ref a]/\SqL X.K H1 a xs/\R (Itv X.K a xs.length) H1:=fun {ds} p ⟨l,vs,z1,z2,z4⟩=>
  ⟨l,vs,by rw [z1],go.K▸z2.sq,p G1 H1 e1 s1.heap _ _ (CL.walkR (vs:=vs) go.K) ⟨z2,z4⟩ fun z=>absurd z Bool.false_ne_true⟩
 cases w1 with
 | v d=>
  cases d with
  | lst ds=>obtain⟨l,vs,z1,z2,z3⟩:=r1;exact lst p1 ⟨l,vs,z1,z2.lok s1.heap,z3⟩
  | tup _=>exact p1.elim
  | non=>exact p1.elim
  | bl _=>exact p1.elim
  | int _=>exact p1.elim
  | str _=>exact p1.elim
  | ref _=>exact p1.elim
  | exc _ _=>exact p1.elim
 | own ds=>obtain⟨l,vs,z1,_,z3,z4,z5⟩:=r1;exact lst p1 ⟨l,vs,z1,.inl ⟨.inl z4,z3⟩,z5⟩
 | bor ds=>obtain⟨l,vs,z1,z3,z4,z5⟩:=r1;exact lst p1 ⟨l,vs,z1,.inl ⟨z4,z3⟩,z5⟩
end
end L2.MS
namespace L2.MS
open PySem PySem.Spec PyProof.Rows
section
variable {Γ:Ge}{F:M.Fx}{X:Cx}{E:XK}{k:Nat}{cf:Cf}
theorem Jb: ∀(τ:M.Sl) (i j:Nat) (w:M.W),M.getS (M.setS τ i w) j=if j=i/\i<τ.length then some w else M.getS τ j
 | [],i,j,w=>by simp
 | x::r,0,0,w=>by simp
 | x::r,0,j+1,w=>by simp
 | x::r,i+1,0,w=>by simp
 | x::r,i+1,j+1,w=>by
  have:=Jb r i j w
  simp only [M.setS,M.getS,this,List.length_cons]
  by_cases h:j=i/\i<r.length
  ·rw [if_pos h,if_pos (by omega)]
  ·rw [if_neg h,if_neg (by omega)]
theorem We: ∀(τ:M.Sl) (i:Nat) (w:M.W),(M.setS τ i w).length=τ.length
 | [],_,_=>rfl
 | _::_,0,_=>rfl
 | _::r,i+1,w=>by simp [We r i w]
theorem Jf: ∀ {τ:M.Sl}{i:Nat}{w:M.W},M.getS τ i=some w->i<τ.length
 | [],_,_,e=>by simp at e
 | _::_,0,_,_=>by simp
 | _::r,i+1,w,e=>by
  have:=Jf (τ:=r) (i:=i) (by simpa using e)
  simp;omega
theorem StRel.set {G:Gh}{τ:M.Sl}{h:M.AH}{σ:St}{H:Hp}(s:StRel Γ G τ h σ H){i:Nat}{w:M.W}{v:V}(r:RelW Γ G H w v)
 (ap:isL w=true-> ∀(j:Nat) w',j≠i->M.getS τ j=some w'->isL w'=true-> ∀a,v= .ref a->σ[j]? ≠some (some (.ref a))):StRel Γ G (M.setS τ i w) h (σ.set i (some v)) H where
 len:=by rw [We,List.length_set];exact s.len
 slot:=fun j w' e=>by
  rw [Jb]at e
  by_cases c:j=i/\i<τ.length
  ·rw [if_pos c]at e
   cases e
   obtain⟨rfl,c⟩:=c
   exact⟨v,List.getElem?_set_self (by rw [← s.len];exact c),r⟩
  ·rw [if_neg c]at e
   have hj:j≠i:=fun z=>c ⟨z,by subst z;exact Jf e⟩
   obtain⟨v',z1,z2⟩:=s.slot j w' e
   exact⟨v',by rw [List.getElem?_set_ne (Ne.symm hj)];exact z1,z2⟩
 apart:=fun p q xs w' a hpq e1 e2 hl e3=>by
  rw [Jb]at e1 e2
  by_cases cp:p=i/\i<τ.length
  ·rw [if_pos cp]at e1
   cases e1
   obtain⟨rfl,cp⟩:=cp
   rw [if_neg (fun z=>hpq z.1.symm)]at e2
   rw [List.getElem?_set_self (by rw [← s.len];exact cp)]at e3
   cases e3
   rw [List.getElem?_set_ne hpq]
   exact ap rfl q w' (Ne.symm hpq) e2 hl a rfl
  ·rw [if_neg cp]at e1
   have hp:p≠i:=fun z=>cp ⟨z,by subst z;exact Jf e1⟩
   rw [List.getElem?_set_ne (Ne.symm hp)]at e3
   by_cases cq:q=i/\i<τ.length
   ·rw [if_pos cq]at e2
    cases e2
    obtain⟨rfl,cq⟩:=cq
    rw [List.getElem?_set_self (by rw [← s.len];exact cq)]
    intro z
    cases z
    exact ap hl p _ hp e1 rfl a rfl e3
   ·rw [if_neg cq]at e2
    have hq:q≠i:=fun z=>cq ⟨z,by subst z;exact Jf e2⟩
    rw [List.getElem?_set_ne (Ne.symm hq)]
    exact s.apart p q xs w' a hpq e1 e2 hl e3
 heap:=s.heap
theorem StRel.setD {G:Gh}{τ:M.Sl}{h:M.AH}{σ:St}{H:Hp}(s:StRel Γ G τ h σ H){i:Nat}{d:M.D}{v:V}(r:RelD Γ G H d v):StRel Γ G (M.setS τ i (.v d)) h (σ.set i (some v)) H:=s.set (w:= .v d) r fun z=>by cases z
def setV:List Nat->List V->St->St
 | i::is,v::vs,σ=>setV is vs (σ.set i (some v))
 | _,_,σ=>σ
theorem Xr {G:Gh}{h:M.AH}{H:Hp}: ∀ {is:List Nat}{ds:List M.D}{vs:List V}{τ τ':M.Sl}{σ:St},M.setTup is ds τ=some τ'->RelDs Γ G H ds vs->StRel Γ G τ h σ H->StRel Γ G τ' h (setV is vs σ) H/\is.length=vs.length
 | [],[],_,_,_,_,e,rfl,s=>by cases e;exact⟨s,rfl⟩
 | [],_::_,_,_,_,_,e,_,_=>by simp [M.setTup]at e
 | _::_,[],_,_,_,_,e,_,_=>by simp [M.setTup]at e
 | i::is,d::ds,_,_,_,_,e,⟨v,r,rfl,z1,z2⟩,s=>by
  obtain⟨h1,h2⟩:=Xr (is:=is) (ds:=ds) (by simpa [M.setTup]using e) z2 (s.setD (i:=i) z1)
  exact⟨h1,congrArg (· +1) h2⟩
def gM (Γ:Ge) (tg:List Nat) (one:Bool):TG:=fun v σ H Q=>match one with
 | true=> ∃i,tg= [i]/\Q (σ.set i (some v)) H
 | false=> ∃G ds vs a,v= .ref a/\StT Γ G H a vs/\RelDs Γ G H ds vs/\tg.length=vs.length/\Q (setV tg vs σ) H
theorem ww (go:Go Γ F X E k cf): ∀ {is:List Nat}{es:List Expr},chkTg cf is es=true->PGs X es (fun vs σ H Q=>vs.length=is.length/\Q (setV is vs σ) H)
 | [],[],_=>fun pins s σ H vs us Q I r h=>by
  have hl:vs= []:=List.eq_nil_of_length_eq_zero h.1
  subst hl
  exact zaq pins s σ H [] us Q I r ⟨rfl,h.2⟩
 | [],_::_,h=>by simp [chkTg]at h
 | _::_,[],h=>by simp [chkTg]at h
 | i::is,e::es,h=>by
  cases e with
  | Name x p=>
   simp only [chkTg,Bool.and_eq_true,decide_eq_true_eq]at h
   obtain⟨⟨h1,h2⟩,h3⟩:=h
   have ih:=ww go h3
   have hl:=go.sto x h2
   have key:=JW (jR (i:=i) (X:=X) (pos:=p) (by rw [go.N];exact go.nd) (by rw [go.N];exact h1) hl.1 hl.2) ih
   intro pins s σ H vs us Q I r q
   refine key pins s σ H vs us Q I r ?_
   cases vs with
   | nil=>simp at q
   | cons v vs=>
    refine⟨v,vs,rfl,?_⟩
    exact⟨by simpa using q.1,q.2⟩
  | _=>simp [chkTg]at h
theorem JU {env:Env}: ∀ {is:List Nat}{es:List Expr},chkTg cf is es=true->(assignEach es env).length=is.length/\(assignEach es env).findIdx? (·.1)=none
 | [],[],_=>⟨rfl,rfl⟩
 | [],_::_,h=>by simp [chkTg]at h
 | _::_,[],h=>by simp [chkTg]at h
 | i::is,e::es,h=>by
  cases e with
  | Name x p=>
   simp only [chkTg,Bool.and_eq_true]at h
   obtain⟨h1,h2⟩:=JU (env:=env) h.2
   have e1:assignEach (.Name x p::es) env=(false,assign (.Name x p) env)::assignEach es env:=rfl
   rw [e1]
   refine⟨congrArg (· +1) h1,?_⟩
   rw [List.findIdx?_cons]
   simp [h2]
  | _=>simp [chkTg]at h
theorem Xm (go:Go Γ F X E k cf){tg:List Nat}{one:Bool}{e:Expr}(h:chkTarget cf tg one e=true):PG X e (gM Γ tg one):=by
 cases one with
 | true=>
  cases e with
  | Name x p=>
   simp only [chkTarget,Bool.and_eq_true]at h
   cases tg with
   | nil=>simp at h
   | cons i r=>
    cases r with
    | cons _ _=>simp at h
    | nil=>
     simp only [chkTg,Bool.and_eq_true,decide_eq_true_eq]at h
     obtain⟨_,⟨h1,h2⟩,_⟩:=h
     have hl:=go.sto x h2
     have key:=jR (i:=i) (X:=X) (pos:=p) (by rw [go.N];exact go.nd) (by rw [go.N];exact h1) hl.1 hl.2
     intro pins s σ H v u Q I r q
     obtain⟨j,e,q⟩:=q
     cases e
     exact key pins s σ H v u Q I r q
  | _=>simp [chkTarget]at h
 | false=>
  cases e with
  | Tuple es n p=>
   have h:chkTg cf tg es=true:=h
   obtain⟨hn,hst⟩:=JU (env:=X.env) h
   have key:=qat (k:=n) (pos:=p) (n:=tg.length) go.calm (ww go h) hn hst
   intro pins s σ H v u Q I r q
   obtain⟨G,ds,vs,a,rfl,z1,z2,z3,q⟩:=q
   exact key pins s σ H _ u Q I r ⟨a,vs,rfl,go.K▸z1.sq,z3.symm,z3.symm,q⟩
  | _=>simp [chkTarget]at h
theorem Ze (k:Nat) (l:M.Sl): ∀(i:Nat),M.getS (List.replicate k none++l) (k+i)=M.getS l i:=by
 induction k with
 | zero=>intro i;simp
 | succ k ih=>intro i;rw [List.replicate_succ,show k+1+i=(k+i)+1 by omega];exact ih i
theorem Zh (k:Nat) (l:M.Sl): ∀ {i:Nat},i<k->M.getS (List.replicate k none++l) i=none:=by
 induction k with
 | zero=>intro i h;omega
 | succ k ih=>
  intro i h
  cases i with
  | zero=>rfl
  | succ i=>rw [List.replicate_succ];exact ih (by omega)
theorem xm: ∀(l:M.Sl) (i:Nat),M.getS l i=(l[i]?).join
 | [],_=>by simp
 | _::_,0=>by simp
 | _::r,i+1=>by simpa using xm r i
theorem Zr {G:Gh}{τ:M.Sl}{h:M.AH}{σ:St}{H:Hp}(s:StRel Γ G τ h σ H){j:Nat}{w:M.W}(e:M.readS τ j=some w): ∃v,σ[j]? =some (some v)/\RelW Γ G H w v/\(isL w=true-> ∃w',M.getS τ j=some w'/\isL w'=true)/\noOwn w=true:=by
 unfold M.readS at e
 cases q:M.getS τ j with
 | none=>rw [q]at e;cases e
 | some w'=>
  obtain⟨v,z1,z2⟩:=s.slot j w' q
  rw [q]at e
  cases w' with
  | v d=>cases e;exact⟨v,z1,z2,fun z=>(by cases z),rfl⟩
  | own xs=>cases e;obtain⟨a,vs,y1,y2,y3,y4,y5⟩:=z2;exact⟨v,z1,⟨a,vs,y1,y3,.inl y4,y5⟩,fun _=>⟨_,rfl,rfl⟩,rfl⟩
  | bor xs=>cases e;exact⟨v,z1,z2,fun _=>⟨_,rfl,rfl⟩,rfl⟩
def blkS (k:Nat) (cap:List Nat) (τ:M.Sl):M.Sl:=List.replicate k none++cap.map fun j=>M.readS τ j
theorem zah {G:Gh}{τ:M.Sl}{h:M.AH}{σ:St}{H:Hp}(s:StRel Γ G τ h σ H) (kk:Nat) (cap:List Nat){σb:St}(hlen:σb.length=kk+cap.length) (hcap: ∀i,i<cap.length->σb[kk+i]? =some ((σ[cap.getD i 0]?).join)):
 StRel Γ G (blkS kk cap τ) h σb H where
 len:=by unfold blkS;rw [List.length_append,List.length_replicate,List.length_map,hlen]
 slot:=fun i w e=>by
  unfold blkS at e
  by_cases hi:i<kk
  ·rw [Zh kk _ hi]at e;cases e
  ·obtain⟨j,rfl⟩: ∃j,i=kk+j:=⟨i-kk,by omega⟩
   rw [Ze,xm,List.getElem?_map]at e
   cases q:cap[j]? with
   | none=>rw [q]at e;cases e
   | some c=>
    rw [q]at e
    have e:M.readS τ c=some w:=e
    obtain⟨v,z1,z2,_⟩:=Zr s e
    have hj:j<cap.length:=(List.getElem?_eq_some_iff.mp q).1
    refine⟨v,?_,z2⟩
    rw [hcap j hj,List.getD_eq_getElem?_getD,q]
    show some ((σ[c]?).join)=_
    rw [z1]
    rfl
 apart:=fun i j xs w a hij e1 e2 hl e3=>by
  exfalso
  unfold blkS at e1
  by_cases hi:i<kk
  ·rw [Zh kk _ hi]at e1;cases e1
  ·obtain⟨i',rfl⟩: ∃j,i=kk+j:=⟨i-kk,by omega⟩
   rw [Ze,xm,List.getElem?_map]at e1
   cases q:cap[i']? with
   | none=>rw [q]at e1;cases e1
   | some c=>
    rw [q]at e1
    have e1:M.readS τ c=some (.own xs):=e1
    obtain⟨_,_,_,_,z⟩:=Zr s e1
    cases z
 heap:=s.heap
end
end L2.MS
namespace L2.MS
open PySem PySem.Spec PyProof.Rows
theorem Qb {env:Env}{kd:NameKind}(hk:kd≠ .free): ∀ {names:List (Str×NameKind)}{x:Str},names.lookup x=some kd →
 (names.map fun(n,k)=>if(k==NameKind.free&&env.scope.kind== .function&&env.kindOf n==some .cell)then(n,NameKind.cell)else(n,k)).lookup x=some kd
 | [],_,h=>by simp at h
 | (n,k)::r,x,h=>by
  have ih:= @Qb env kd hk r x
  rw [List.map_cons]
  rw [List.lookup_cons]at h
  cases hx:x==n with
  | true=>
   rw [hx]at h
   have e:k=kd:=by simpa using h
   subst e
   have hf:(k==NameKind.free)=false:=by simpa using hk
   simp only [hf,Bool.false_and,Bool.false_eq_true,if_false,List.lookup_cons,hx]
  | false=>
   rw [hx]at h
   have q:=ih h
   by_cases hcond:(k==NameKind.free&&env.scope.kind== .function&&env.kindOf n==some .cell)=true
   ·simp only [hcond,if_true,List.lookup_cons,hx]
    exact q
   ·have hcf:=Bool.eq_false_iff.mpr hcond
    simp only [hcf,Bool.false_eq_true,if_false,List.lookup_cons,hx]
    exact q
section
variable {Γ:Ge}{F:M.Fx}{X:Cx}{E:XK}{k:Nat}{cf:Cf}
structure ScOk (cf:Cf) (scope:Scope) (N:List Str) (k:Nat) (cap:List Nat):Prop where
 kind:scope.kind= .function
 ndn:(scope.names.map Prod.fst).Nodup
 names: ∀y∈scope.names,y.2= .local->scope.names.lookup y.1=some .local
 free: ∀y∈scope.names,y.2= .free->cf.sc.names.lookup y.1=some .cell\/cf.sc.names.lookup y.1=some .free
 capf: ∀x∈N.drop k,scope.names.lookup x=some .free
 cap:capOk cf cap (N.drop k)=true
 le:k<=N.length
 nd:N.Nodup
theorem ji {scope:Scope}{N:List Str}{kk:Nat}{cap:List Nat}(h:scopeOk cf scope N kk cap=true):ScOk cf scope N kk cap:=by
 simp only [scopeOk,Bool.and_eq_true,decide_eq_true_eq,List.all_eq_true]at h
 obtain⟨⟨⟨⟨⟨⟨⟨⟨h1,h2⟩,h3⟩,h4⟩,h5⟩,h6⟩,h7⟩,h8⟩,h9⟩:=h
 exact⟨h1,h2,fun y hy=>h3 y hy,fun y hy=>h4 y hy,fun x hx=>h5 x hx,h6,h7,h8⟩
theorem Ww (go:Go Γ F X E k cf): ∀ {cap:List Nat}{xs:List Str},capOk cf cap xs=true->CapOk X cap xs
 | [],[],_=>trivial
 | [],_::_,h=>by simp [capOk]at h
 | _::_,[],h=>by simp [capOk]at h
 | j::js,x::xs,h=>by
  simp only [capOk,Bool.and_eq_true,decide_eq_true_eq]at h
  obtain⟨⟨h1,h2⟩,h3⟩:=h
  exact⟨by rw [go.N];exact h1,go.cel x h2,Ww go h3⟩
theorem Qv (go:Go Γ F X E k cf){scope:Scope}{N:List Str}{kk:Nat}{cap:List Nat}(h:ScOk cf scope N kk cap):CompOk X scope N kk cap:=
 ⟨h.kind,h.ndn,h.names,fun y hy hf=>go.cel y.1 (h.free y hy hf),h.capf,Ww go h.cap,h.le⟩
theorem ZG {sc:Scope}{x:Str}(h:visB sc x=true):sc.names.lookup x=some .local\/sc.names.lookup x=some .cell\/sc.names.lookup x=some .free:=by
 unfold visB at h
 split at h
 ·rename_i q;exact .inl q
 ·rename_i q;exact .inr (.inl q)
 ·rename_i q;exact .inr (.inr q)
 ·cases h
theorem wG {sc:Scope}{x:Str}(h:locB sc x=true):sc.names.lookup x=some .local\/sc.names.lookup x=some .cell:=by
 unfold locB at h
 split at h
 ·rename_i q;exact .inl q
 ·rename_i q;exact .inr q
 ·cases h
theorem jD {sc:Scope}{x:Str}(h:glB sc x=true):sc.names.lookup x=some .globalImplicit:=by
 unfold glB at h
 split at h
 ·rename_i q;exact q
 ·cases h
theorem Jh (go:Go Γ F X E k cf){scope:Scope}{N:List Str}{kk:Nat}{cap:List Nat}(h:ScOk cf scope N kk cap) (C:Addr) (fp:List Addr) (s:Shared) (H:Hp):Go Γ F (cxComp X N scope C fp s H) E0 k { cf with sc:=scope,N:=N } where
 N:=rfl
 K:=go.K
 cl:=go.cl
 ow:=go.ow
 nd:=h.nd
 vis:=fun x hx=>by
  rcases ZG hx with q | q | q
  ·exact .inl (Qb (by decide) q)
  ·exact .inr (.inl (Qb (by decide) q))
  ·exact .inr (Xc q)
 lcl:=fun x hx=>Qb (by decide) hx
 sto:=fun x hx=>by
  rcases wG hx with q | q
  ·exact⟨.inl (Qb (by decide) q),.inr (Qb (by decide) q)⟩
  ·exact⟨.inr (Qb (by decide) q),.inl (decide_eq_true q)⟩
 cel:=fun x hx=>by
  rcases hx with q | q
  ·exact .inl (Qb (by decide) q)
  ·exact Xc q
 gl:=fun x hx=>Qb (by decide) (jD hx)
 calm:=go.calm
 room:=go.room
 pass:=fun pins σ H' s' e s'' _ hq=>by
  obtain⟨x,C',t,B,H2,_,_,_,_,_,_,_,_,hE⟩:=hq
  exact hE.elim
 blt:=go.blt
 con:=go.con
 fn:=fun f hf=>by
  obtain⟨ps,fa,fd,h1,h2,h3,h4⟩:=(go.fn f hf).imp fun ps h=>h.ex
  exact⟨ps,⟨fa,fd,h1,h2,h3,h4⟩⟩
 cls:=go.cls
theorem XG: ∀(is:List Nat) (vs:List V) (σ:St) (j:Nat),j∉is->(setV is vs σ)[j]? =σ[j]?
 | [],_,_,_,_=>rfl
 | _::_,[],_,_,_=>rfl
 | i::is,v::vs,σ,j,h=>by
  show(setV is vs (σ.set i (some v)))[j]? =σ[j]?
  rw [XG is vs _ j fun z=>h (List.mem_cons_of_mem _ z),List.getElem?_set_ne (fun z:i=j=>h (by rw [z];exact List.mem_cons_self))]
theorem qp: ∀(is:List Nat) (vs:List V) (σ:St),(setV is vs σ).length=σ.length
 | [],_,_=>rfl
 | _::_,[],_=>rfl
 | i::is,v::vs,σ=>by
  show(setV is vs (σ.set i (some v))).length=σ.length
  rw [qp is vs,List.length_set]
theorem bind_ok {G:Gh}{h:M.AH}{H:Hp}{tg:List Nat}{one:Bool}{d:M.D}{x:V}{τ τ':M.Sl}{σ:St}{Q:St->Hp->Prop}(e:M.bindT tg one d τ=some τ') (r:RelD Γ G H d x) (s:StRel Γ G τ h σ H)
 (kq: ∀σ',StRel Γ G τ' h σ' H->(∀ j,j∉tg->σ'[j]? =σ[j]?)->σ'.length=σ.length->Q σ' H):gM Γ tg one x σ H Q:=by
 unfold M.bindT at e
 cases one with
 | true=>
  cases tg with
  | nil=>cases e
  | cons i r'=>
   cases r' with
   | cons _ _=>cases e
   | nil=>
    cases e
    exact⟨i,rfl,kq _ (s.setD r) (fun j hj=>List.getElem?_set_ne fun z=>hj (by simp [z])) (List.length_set ..)⟩
 | false=>
  cases d with
  | tup ds=>
   obtain⟨a,vs,rfl,z2,z3⟩:=r
   obtain⟨s',hl⟩:=Xr (show M.setTup tg ds τ=some τ' from e) z3 s
   exact⟨G,ds,vs,a,rfl,z2,z3,hl,kq _ s' (fun j hj=>XG tg vs σ j hj) (qp tg vs σ)⟩
  | _=>cases e
theorem xv {step:M.D->M.AH->M.R (Option M.D)}: ∀ {ds:List M.D}{h:M.AH}{d:M.D}{h':M.AH},M.compGo step ds h≠ .exc d h'
 | [],_,_,_=>fun e=>by cases e
 | x::ds,h,d,h'=>fun e=>by
  rw [M.compGo]at e
  split at e
  ·split at e<;>cases e
  ·cases e
theorem ZC {step:M.D->M.AH->M.R (Option M.D)}{x:M.D}{ds:List M.D}{h hf:M.AH}{ys:List M.D}(e:M.compGo step (x::ds) h= .ok ys hf): ∃o h1 r,step x h= .ok o h1/\M.compGo step ds h1= .ok r hf/\ys=(match o with | some y=>y::r | none=>r):=by
 rw [M.compGo]at e
 split at e
 ·rename_i o h1 e1
  split at e
  ·rename_i r h2 e2
   cases e
   exact⟨o,h1,r,e1,e2,rfl⟩
  ·cases e
 ·cases e
noncomputable def stepC (F:M.Fx) (tg:List Nat) (one:Bool) (τb:M.Sl) (hasIf:Bool) (c elt:M.E):M.D->M.AH->M.R (Option M.D):=fun d h=>match M.bindT tg one d τb with
 | none=> .fail
 | some τ'=>(if hasIf then(M.eval F c τ' h).bind fun x h=>M.R.of h (M.truD h x)else .ok true h).bind fun b h=>match b with
  | true=>(M.eval F elt τ' h).bind fun y h=>(M.R.of h y.d).bind fun y h=> .ok (some y) h
  | false=> .ok none h
theorem zM {tg:List Nat}{one hasIf:Bool}{kk:Nat}{cap:List Nat}{it:M.It}{c elt:M.E}{τ:M.Sl}{h:M.AH}:M.eval F (.comp tg one kk cap it hasIf c elt) τ h=(M.evalIt F it τ h).bind fun ds h=>
 if ds.length<=M.LIM then(M.compGo (stepC F tg one (blkS kk cap τ) hasIf c elt) ds h).bind fun ys h=> .ok (.own ys) h else .fail:=by
 rw [M.eval];rfl
noncomputable def condC (F:M.Fx) (hasIf:Bool) (c:M.E):M.Sl->M.AH->M.R Bool:=fun τ h=>if hasIf then M.tstE F c τ h else .ok true h
theorem wc {α β:Type}{r:M.R α}{f:α->M.AH->M.R β}{b:β}{h:M.AH}(e:r.bind f= .ok b h): ∃a h1,r= .ok a h1/\f a h1= .ok b h:=by
 cases r with
 | ok a h1=>exact⟨a,h1,rfl,e⟩
 | exc d h1=>cases e
 | fail=>cases e
theorem qB {iter:Expr}{env:Env}(hset:notSet iter=true): ∀v,foldedSetIterable iter env v=pure v:=fun v=>by cases iter<;>first | rfl | (simp [notSet]at hset)
theorem wN {tg:List Nat}{one hasIf:Bool}{kk:Nat}{cap:List Nat}{it:M.It}{c elt:M.E}(htk: ∀i∈tg,i<kk){σ:St}{H:Hp}{Q:VK}(h0:tD Γ E (M.eval F (.comp tg one kk cap it hasIf c elt)) σ H Q):
 tComp kk cap (tDI Γ E false (M.evalIt F it)) (fun _ _ _ _=>gM Γ tg one) (fun _ _ _ _=>tDT Γ E0 (condC F hasIf c)) (fun _ _ _ _=>tD Γ E0 (M.eval F elt)) σ H Q:=by
 obtain⟨G,τ,h,s,p⟩:=h0
 rw [zM]at p
 refine⟨G,τ,h,s,?_⟩
 cases qi:M.evalIt F it τ h with
 | exc d h'=>rw [qi]at p;exact p
 | fail=>rw [qi]at p;exact p
 | ok ds h1=>
  rw [qi]at p
  intro G1 H1 e1 hr1 J C wj c0 _ Ca fp st
  have p:Post Γ E G H (if ds.length<=M.LIM then(M.compGo (stepC F tg one (blkS kk cap τ) hasIf c elt) ds h1).bind fun ys h=> .ok (.own ys) h else .fail) fun w h' G' H'=> ∀v,RelW Γ G' H' w v->FreshW τ σ H w v->Q v H':=p
  by_cases hL:ds.length<=M.LIM
  rotate_left
  ·rw [if_neg hL]at p;exact p.elim
  rw [if_pos hL]at p
  cases qc:M.compGo (stepC F tg one (blkS kk cap τ) hasIf c elt) ds h1 with
  | exc d h'=>exact absurd qc xv
  | fail=>rw [qc]at p;exact p.elim
  | ok ys hf=>
   rw [qc]at p
   have p:Post Γ E G H (.ok (M.W.own ys) hf) fun w h' G' H'=> ∀v,RelW Γ G' H' w v->FreshW τ σ H w v->Q v H':=p
   have hLs:=Xd
   refine⟨fun i m yv σb H'=> ∃G' h' done rest,(m=ds.length-i/\i<=ds.length/\done.length<=i)/\Ext G1 H1 G' H'/\HRel Γ G' h' H'/\C G' H'/\RelDs Γ G' H' done yv ∧
    M.compGo (stepC F tg one (blkS kk cap τ) hasIf c elt) (ds.drop i) h'= .ok rest hf/\ys=done++rest/\σb.length=kk+cap.length/\ ∀j,j<cap.length->σb[kk+j]? =some ((σ[cap.getD j 0]?).join),⟨ds.length,?_⟩,?_⟩
   ·refine⟨G1,h1,[],ys,⟨by simp,Nat.zero_le _,Nat.le_refl _⟩,Ext.refl,hr1,c0,rfl,qc,rfl,?_,fun j hj=> ?_⟩
    ·unfold capSt;rw [List.length_append,List.length_replicate,List.length_map]
    ·unfold capSt
     rw [List.getElem?_append_right (by simp),List.length_replicate,Nat.add_sub_cancel_left,List.getElem?_map,List.getElem?_eq_getElem hj,List.getD_eq_getElem?_getD,List.getElem?_eq_getElem hj]
     rfl
   ·rintro i m yv σb H' ⟨G',h',done,rest,⟨rfl,hi',hd⟩,e2,hr2,c2,rd,qg,eys,hlen,hcap⟩
    have ldone:=rd.length
    by_cases hlt:i<ds.length
    ·refine .inr ⟨wj.go i G' H' c2 hlt,by omega,_,fun yv' σb' H'' w=>⟨ds.length-(i+1),by omega,w⟩,fun x H'' hy=> ?_⟩
     obtain⟨G4,x4,hx4,d,ed,rdx⟩:=wj.yld i G' H' x H'' c2 hlt hy
     have c2:=wj.keep _ _ _ _ h' c2 x4 hr2
     have rd:=rd.ext x4 hr2
     have e2:=e2.trans hr1 x4
     have hr2:=hx4 _ hr2
     have edr:ds.drop i=d::ds.drop (i+1):=by
      rw [List.drop_eq_getElem_cons hlt]
      rw [List.getElem?_eq_getElem hlt]at ed
      cases ed
      rfl
     rw [edr]at qg
     obtain⟨o,h2,r,qs,qg2,er⟩:=ZC qg
     unfold stepC at qs
     cases qb:M.bindT tg one d (blkS kk cap τ)with
     | none=>rw [qb]at qs;cases qs
     | some τ'=>
      rw [qb]at qs
      have so:=s.ext (e1.trans s.heap e2) hr2
      have sb:=zah so kk cap hlen hcap
      refine bind_ok qb rdx sb fun σ2 s2 same hl2=> ?_
      have hcap2: ∀j,j<cap.length->σ2[kk+j]? =some ((σ[cap.getD j 0]?).join):=fun j hj=>by
       rw [same _ fun z=>by have:=htk _ z;omega];exact hcap j hj
      obtain⟨b,h3,qcond,qrest⟩:=wc (show (condC F hasIf c τ' h').bind _=_ from qs)
      refine⟨G4,τ',h',s2,?_⟩
      rw [qcond]
      intro G3 H3 e3 hr3
      have s3:=s2.ext e3 hr3
      cases b with
      | false=>
       refine iteF ?_
       have qrest:M.R.ok (none:Option M.D) h3= .ok o h2:=qrest
       cases qrest
       exact⟨G3,_,done,r,⟨rfl,by omega,by omega⟩,e2.trans hr1 e3,hr3,wj.keep _ _ _ _ h' c2 e3 hr2,rd.ext e3 hr2,qg2,by rw [eys,er],by rw [hl2];exact hlen,hcap2⟩
      | true=>
       refine iteT ?_
       obtain⟨w,h4,qe,qrest⟩:=wc (show (M.eval F elt τ' h3).bind _=_ from qrest)
       refine⟨G3,τ',h3,s3,?_⟩
       rw [qe]
       intro G4 H4 e4 hr4 v rw' fw
       obtain⟨dd,h5,qd,qrest⟩:=wc (show (M.R.of h4 w.d).bind _=_ from qrest)
       cases qw:w.d with
       | none=>rw [qw]at qd;cases qd
       | some d'=>
        rw [qw]at qd
        cases qd
        cases (show M.R.ok (some dd) h4= .ok o h2 from qrest)
        have s4:=s3.ext e4 hr4
        obtain⟨G5,e5,s5,rdv,m5⟩:=toD e4 s4 s3 rw' fw qw
        have e35:=e3.trans hr2 e5
        refine⟨G5,_,done++ [dd],r,⟨rfl,by omega,by rw [List.length_append,List.length_singleton];omega⟩,e2.trans hr1 e35,s5.heap,wj.keep _ _ _ _ h' c2 e35 hr2,(rd.ext e35 hr2).append ⟨v,[],rfl,rdv,rfl⟩,qg2,?_,by rw [hl2];exact hlen,hcap2⟩
        rw [eys,er]
        simp
    ·have ei:i=ds.length:=by omega
     subst ei
     rw [List.drop_length]at qg
     cases (show M.R.ok ([]:List M.D) h'= .ok rest hf from qg)
     rw [List.append_nil]at eys
     subst eys
     exact .inl ⟨wj.stop _ G' H' c2 (Nat.le_refl _) (Nat.le_refl _),by omega,fun D hD=>PostW.own (PostW.mk p (e1.trans s.heap e2) s.heap) hr2 rd D hD⟩
theorem zX (go:Go Γ F X E k cf){tg:List Nat}{one hasIf:Bool}{kk:Nat}{cap:List Nat}{it:M.It}{c elt:M.E}{t iter y:Expr}{ifs:List Expr}{scope:Scope}{N:List Str}{pos:Pos}(hsc:ScOk cf scope N kk cap)
 (hcl:cap.length=(N.drop kk).length) (htg:chkTarget { cf with sc:=scope,N:=N } tg one t=true) (htk: ∀i∈tg,i<kk) (hset:notSet iter=true)
 (hi:PI X t iter (tDI Γ E false (M.evalIt F it)))
 (he: ∀C fp s H,PE (cxComp X N scope C fp s H) y (tD Γ E0 (M.eval F elt)))
 (ht: ∀C fp s H,PTs (cxComp X N scope C fp s H) ifs (tDT Γ E0 (condC F hasIf c))):
 PE X (.ListComp y [⟨t,iter,ifs,0⟩] scope pos) (tD Γ E (M.eval F (.comp tg one kk cap it hasIf c elt))):=
 PE.imp (zaj (Qv go hsc) hi (fun C fp s H=>Xm (Jh go hsc C fp s H) htg) ht he go.calm (qB hset)) fun σ H Q h0=>wN htk h0
theorem JC (go:Go Γ F X E k cf){i:Nat}{x:Str}{pos2 p0:Pos}(hN:cf.N[i]? =some x) (hx:locB cf.sc x=true){tg:List Nat}{one hasIf:Bool}{kk:Nat}{cap:List Nat}{it:M.It}{c elt:M.E}{t iter y:Expr}{ifs:List Expr}{scope:Scope}{N:List Str}{pos:Pos}(hsw:swapsWith (.ListComp y [⟨t,iter,ifs,0⟩] scope p0) (some (.Name x pos2)) pos.line X.env=pure true) (hsc:ScOk cf scope N kk cap)
 (hcl:cap.length=(N.drop kk).length) (htg:chkTarget { cf with sc:=scope,N:=N } tg one t=true) (htk: ∀i∈tg,i<kk) (hset:notSet iter=true)
 (hi:PI X t iter (tDI Γ E false (M.evalIt F it)))
 (he: ∀C fp s H,PE (cxComp X N scope C fp s H) y (tD Γ E0 (M.eval F elt)))
 (ht: ∀C fp s H,PTs (cxComp X N scope C fp s H) ifs (tDT Γ E0 (condC F hasIf c))):
 PS X (.Assign [.Name x pos2] (.ListComp y [⟨t,iter,ifs,0⟩] scope p0) pos) (tAsg (tD Γ E (M.eval F (.comp tg one kk cap it hasIf c elt))) (gName i)):=by
 have hl:=go.sto x hx
 have key:=xI (pos:=pos) (pos':=pos2) (p0:=p0) (by rw [go.N];exact go.nd) (by rw [go.N];exact hN) hl.1 (Qv go hsc) hi (fun C fp s H=>Xm (Jh go hsc C fp s H) htg) ht he hsw go.calm (qB hset) hl.2
 exact fun pins s σ H D I q=>key pins s σ H D I (wN htk q)
theorem qF (k:M.Tx): ∀(T:List (M.Tx×M.D)),KTD.datumAt (txS k) (tabP T)=(T.lookup k).map pyD
 | []=>rfl
 | (x,d)::T=>by
  show(if decide (txS k=txS x)=true then some (pyD d)else KTD.datumAt (txS k) (tabP T))=_
  rw [List.lookup_cons]
  by_cases e:k=x
  ·subst e
   rw [if_pos (decide_eq_true rfl),beq_self_eq_true]
   rfl
  ·rw [if_neg (by simpa using fun z=>e (Xu z)),beq_eq_false_iff_ne.mpr e,qF k T]
theorem xK (T:List (M.Tx×M.D)): ∀p∈tabP T,flatData p.2=true:=by
 intro p hp
 obtain⟨⟨x,d⟩,_,rfl⟩:=List.mem_map.mp hp
 cases d<;>rfl
theorem Jl {G:Gh}{H:Hp}{d:M.D}(h:M.flat d=true):RelD Γ G H d (flV (pyD d))/\flatData (pyD d)=true:=by
 cases d<;>first | exact⟨rfl,rfl⟩ | cases h
theorem zL (go:Go Γ F X E k cf){c n:String}{T:List (M.Tx×M.D)}(q:F.con.lookup c=some (.exc n T)) (ne:T≠ []): ∃a,X.mg (strS c)=some (.ref a)/\TabK X.K a (tabP T):=by
 obtain⟨u,v,hm,rv,rd⟩:=go.con c _ q
 rcases rd ⟨fun _=>False,fun _=>0,0⟩ (fun _=>none)with⟨z,_⟩ | ⟨_,a,e,ht⟩
 ·exact absurd z ne
 ·subst e
  cases rv
  exact⟨a,hm,go.K▸ht⟩
theorem xak (go:Go Γ F X E k cf){c:String}{g y:Expr}{pos:Pos}{a:M.E}(hg:gNm cf.sc c g=true) (hy:notSlice y=true) (ha:PE X y (tD Γ E (M.eval F a))):PE X (.Subscript g y pos) (tD Γ E (M.eval F (.tix c a))):=by
 obtain⟨p0,rfl,g2,g3⟩:=xb hg
 have none:(∀ n T,F.con.lookup c=some (.exc n T)->T= [])->PE X (.Subscript (.Name (strS c) p0) y pos) (tD Γ E (M.eval F (.tix c a))):=by
  intro hn pins s σ H Q I ⟨G,τ,h,st,po⟩
  rw [M.eval]at po
  split at po
  ·rename_i n r T q;cases hn n _ q
  ·exact po.elim
 by_cases w: ∃n T,F.con.lookup c=some (.exc n T)/\T≠ []
 ·obtain⟨n,T,q,ne⟩:=w
  obtain⟨b,hm,ht⟩:=zL go q ne
  refine PE.imp (jay jaA (XD (v:= .ref b) (go.gl _ g2) hm rfl g3) ha (wE hy)) fun σ H Q qq=> ?_
  obtain⟨G,τ,h,s,p⟩:=qq
  obtain⟨t0,T,rfl⟩:=List.exists_cons_of_ne_nil ne
  rw [M.eval,q]at p
  refine Ja s.heap Ext.refl s p fun w1 v1 h1 G1 H1 e1 e1' s1 r1 f1 p1=> ?_
  unfold M.tabD at p1
  split at p1
  ·rename_i kk
   cases (show v1= .str (txS kk)from r1)
   split at p1
   ·rename_i d hd
    split at p1
    ·rename_i fd
     exact⟨b,tabP (t0::T),txS kk,pyD d,rfl,rfl,ht,xK _,by rw [qF,hd];rfl,(Jl (Γ:=Γ) (G:=G1) (H:=H1) fd).2,Post.val p1 e1 s1.heap (v:=flV (pyD d)) (Jl fd).1 trivial⟩
    ·exact p1.elim
   ·exact p1.elim
  ·exact p1.elim
 ·exact none fun n T q=>Classical.byContradiction fun z=>w ⟨n,T,q,z⟩
theorem jX (go:Go Γ F X E k cf){c:String}{g x y:Expr}{apos cpos:Pos}{es:M.Es}(hg:gNm cf.sc c g=true) (hl:(apos.endLine==cpos.line)=true) (hx: ∀e∈ [x,y],notStar e=true) (ha:PA X [x,y] (tDW Γ E (M.evalWs F es))):PE X (.Call (.Attribute g (strS "get") apos) [x,y] [] cpos) (tD Γ E (M.eval F (.tget c es))):=by
 obtain⟨p0,rfl,g2,g3⟩:=xb hg
 have none:(∀ n T,F.con.lookup c=some (.exc n T)->T= [])->PE X (.Call (.Attribute (.Name (strS c) p0) (strS "get") apos) [x,y] [] cpos) (tD Γ E (M.eval F (.tget c es))):=by
  intro hn pins s σ H Q I ⟨G,τ,h,st,po⟩
  rw [M.eval]at po
  split at po
  ·rename_i n r T q;cases hn n _ q
  ·exact po.elim
 by_cases w: ∃n T,F.con.lookup c=some (.exc n T)/\T≠ []
 ·obtain⟨n,T,q,ne⟩:=w
  obtain⟨b,hm,ht⟩:=zL go q ne
  have hs: ∀ {env:Env},starEach [x,y] env=(false,eval x env)::starEach [y] env:=qa (hx x (by simp))
  have hs2: ∀ {env:Env},starEach [y] env= [(false,eval y env)]:=qa (hx y (by simp))
  refine PE.imp (zv PySem.F.plainAttrs_dict PySem.F.slot_dict_get PySem.F.type_dict_get zaC zat (XD (v:= .ref b) (go.gl _ g2) hm rfl g3) ha rfl (by rw [hs,hs2];rfl) hl hs (by rw [hs2];rfl)) fun σ H Q qq=> ?_
  obtain⟨G,τ,h,s,p⟩:=qq
  obtain⟨t0,T,rfl⟩:=List.exists_cons_of_ne_nil ne
  rw [M.eval,q]at p
  refine⟨⟨b,_,rfl,ht⟩,zg s.heap Ext.refl s p fun ws us h1 G1 H1 e1 e1' s1 r1 p1=> ?_⟩
  unfold M.tgetD at p1
  split at p1
  ·rename_i kk z
   obtain⟨u1,r,rfl,ru1,rr⟩:=r1
   obtain⟨u2,r,rfl,ru2,rr⟩:=rr
   cases rr
   cases (show u1= .str (txS kk)from ru1)
   refine⟨b,tabP (t0::T),txS kk,u2,rfl,rfl,ht,fun d hd=> ?_,fun hd=> ?_⟩
   ·rw [qF]at hd
    obtain⟨d',e',rfl⟩:=Option.map_eq_some_iff.mp hd
    rw [e']at p1
    dsimp only at p1
    split at p1
    ·rename_i fd
     exact⟨(Jl (Γ:=Γ) (G:=G1) (H:=H1) fd).2,Post.val p1 e1 s1.heap (v:=flV (pyD d')) (Jl fd).1 trivial⟩
    ·exact p1.elim
   ·rw [qF,Option.map_eq_none_iff]at hd
    rw [hd]at p1
    dsimp only at p1
    split at p1
    ·exact Post.val p1 e1 s1.heap (v:=u2) ru2 trivial
    ·exact p1.elim
  ·exact p1.elim
 ·exact none fun n T q=>Classical.byContradiction fun z=>w ⟨n,T,q,z⟩
theorem jP: ∀ {T:List (M.Tx×M.Tx)}{ks:List (Option Expr)}{vs:List Expr},chkLit T ks vs=true->litOk (T.map fun p=>(txS p.1,txS p.2)) ks vs
 | [],ks,vs,h=>by
  cases ks<;>cases vs<;>first | exact⟨rfl,rfl⟩ | cases h
 | (x,y)::T,ks,vs,h=>by
  unfold chkLit at h
  split at h
  ·rename_i h0;cases h0
  ·rename_i h0
   cases h0
   simp only [Bool.and_eq_true,decide_eq_true_eq]at h
   obtain⟨⟨rfl,rfl⟩,h⟩:=h
   exact⟨_,_,_,_,_,_,rfl,rfl,jP h⟩
  ·cases h
theorem Z9 (k:M.Tx): ∀(T:List (M.Tx×M.Tx)),(T.map fun p=>(txS p.1,txS p.2)).lookup (txS k)=(T.lookup k).map txS
 | []=>rfl
 | (x,y)::T=>by
  rw [List.map_cons,List.lookup_cons,List.lookup_cons]
  dsimp only
  rw [jai]
  cases k==x with
  | true=>rfl
  | false=>exact Z9 k T
theorem W1 (go:Go Γ F X E k cf){T:List (M.Tx×M.Tx)}{ks:List (Option Expr)}{vs:List Expr}{i:Nat}{x:Str}{p1 p2 pos:Pos}(hk:chkLit T ks vs=true) (h0:T≠ []) (hl:T.length<=15) (hn:(T.map (·.1)).Nodup) (h1:cf.N[i]? =some x) (h2:visB cf.sc x=true) (h3:nmB x=true):
 PE X (.Subscript (.Dict ks vs p1) (.Name x p2) pos) (tD Γ E (M.eval F (.dlit T i))):=by
 unfold nmB at h3
 rw [Bool.and_eq_true]at h3
 refine PE.imp (jab (jP hk) (by simpa using h0) (by simpa using hl) ?_ (by rw [go.N];exact h1) (go.vis x h2) (by simpa using h3.1) (by simpa using h3.2)) fun σ H Q qq=> ?_
 ·rw [List.map_map]
  have e:((·.1)∘fun p:M.Tx×M.Tx=>(txS p.1,txS p.2))=txS∘(·.1):=rfl
  rw [e,←List.map_map]
  exact List.Pairwise.map _ (fun a b z q=>z (Xu q)) hn
 obtain⟨G,τ,h,s,p⟩:=qq
 rw [M.eval]at p
 unfold M.dlitD at p
 split at p
 ·rename_i kk e
  obtain⟨v,ev,r⟩:=s.slot i _ e
  cases (show v= .str (txS kk)from r)
  split at p
  ·rename_i t et
   exact⟨txS kk,txS t,ev,by rw [Z9,et];rfl,Post.val p Ext.refl s.heap (v:= .str (txS t)) rfl trivial⟩
  ·exact p.elim
 ·exact p.elim
def convP:(M.Tx ⊕ Nat)->(Str ⊕ Nat)
 | .inl t=> .inl (txS t)
 | .inr i=> .inr i
theorem Qo (go:Go Γ F X E k cf): ∀ {ps:List (M.Tx ⊕ Nat)}{es:List Expr},chkFs cf ps es=true->partsOk X (ps.map convP) es
 | [],es,h=>by cases es<;>first | rfl | cases h
 | p::ps,es,h=>by
  unfold chkFs at h
  split at h
  ·rename_i h0;cases h0
  ·rename_i t ps' j _ _ es' h0
   cases h0
   simp only [Bool.and_eq_true,decide_eq_true_eq]at h
   obtain⟨rfl,h⟩:=h
   exact⟨_,_,rfl,⟨_,_,rfl⟩,Qo go h⟩
  ·rename_i i ps' x _ c _ es' h0
   cases h0
   simp only [Bool.and_eq_true,decide_eq_true_eq]at h
   obtain⟨⟨⟨⟨rfl,h1⟩,h2⟩,h3⟩,h⟩:=h
   unfold nmB at h3
   rw [Bool.and_eq_true]at h3
   exact⟨_,_,rfl,⟨x,_,_,rfl,by rw [go.N];exact h1,go.vis x h2,by simpa using h3.1,by simpa using h3.2⟩,Qo go h⟩
  ·cases h
theorem JF (i:Int):Str.ofString (toString i)=txS (M.intT i):=by
 unfold txS M.intT
 rw [Str.ofString_eq_toList]
theorem Jv {i:Int}(h:0<=i/\i<1000):i.natAbs.log2<1920:=by
 have h1:i.natAbs<2 ^ 10:=by omega
 by_cases z:i.natAbs=0
 ·rw [z];decide
 ·exact Nat.lt_trans ((Nat.log2_lt z).mpr h1) (by decide)
theorem ZD {G:Gh}{τ:M.Sl}{h:M.AH}{σ:St}{H:Hp}(s:StRel Γ G τ h σ H): ∀ {ps:List (M.Tx ⊕ Nat)}{t:M.Tx},M.fmtP τ ps=some t->fmVs σ (ps.map convP)=some (txS t)
 | [],t,e=>by cases e;rfl
 | .inl u::ps,t,e=>by
  obtain⟨t',e',rfl⟩:=Option.map_eq_some_iff.mp e
  show(fmVs σ (ps.map convP)).map _=_
  rw [ZD s e',←je]
  rfl
 | .inr i::ps,t,e=>by
  obtain⟨u,e1,e2⟩:=Option.bind_eq_some_iff.mp e
  obtain⟨w,e3,e4⟩:=Option.bind_eq_some_iff.mp e1
  obtain⟨t',e',rfl⟩:=Option.map_eq_some_iff.mp e2
  obtain⟨v,ev,r⟩:=s.slot i w e3
  have hv:fmV v=some (txS u):=by
   unfold M.fmtW at e4
   split at e4
   ·cases e4
    cases (show v= .str (txS _)from r)
    rfl
   ·split at e4
    ·rename_i j hj
     cases e4
     cases (show v= .int j from r)
     show(if j.natAbs.log2<1920 then some (Str.ofString (toString j))else none)=_
     rw [if_pos (Jv hj),JF]
    ·cases e4
   ·cases e4
  show(((σ[i]?).bind id).bind fmV).bind (fun x=>(fmVs σ (ps.map convP)).map (x++ ·))=_
  rw [ev]
  show(fmV v).bind (fun x=>(fmVs σ (ps.map convP)).map (x++ ·))=_
  rw [hv,ZD s e',←je]
  rfl
theorem QX (go:Go Γ F X E k cf){ps:List (M.Tx ⊕ Nat)}{x y:Expr}{xs:List Expr}{pos:Pos}(h:chkFs cf ps (x::y::xs)=true):PE X (.JoinedStr (x::y::xs) pos) (tD Γ E (M.eval F (.fstr ps))):=by
 refine PE.imp (zae (Qo go h)) fun σ H Q qq=> ?_
 obtain⟨G,τ,h,s,p⟩:=qq
 rw [M.eval]at p
 unfold M.fstrD at p
 split at p
 ·rename_i t et
  split at p
  ·rename_i hl
   exact⟨txS t,ZD s et,by rw [jb];have:=Xd;omega,Post.val p Ext.refl s.heap (v:= .str (txS t)) rfl trivial⟩
  ·exact p.elim
 ·exact p.elim
theorem QV (go:Go Γ F X E k cf){g x:Expr}{pos:Pos}{a:M.E}(hg:gNm cf.sc "str" g=true) (hx:notStar x=true) (ha:PE X x (tD Γ E (M.eval F a))):PE X (.Call g [x] [] pos) (tD Γ E (M.eval F (.strI a))):=by
 obtain⟨p,rfl,h2,h3⟩:=xb hg
 have inS: "str" ∈bltN:=by decide
 refine PE.imp (zj xU (go.gl _ h2) (go.blt _ inS) (by decide +kernel) (Xb ha zf (qa hx)) (zm inS) h3 (qa hx) rfl) fun σ H Q qq=> ?_
 obtain⟨G,τ,h,s,p⟩:=qq
 rw [M.eval]at p
 refine Ja s.heap Ext.refl s p fun w1 v1 h1 G1 H1 e1 e1' s1 r1 f1 p1=> ?_
 unfold M.strD at p1
 split at p1
 ·rename_i i
  cases (show v1= .int i from r1)
  split at p1
  ·rename_i hi
   exact⟨i,rfl,Jv hi,JF i▸Post.val p1 e1 s1.heap (v:= .str (txS (M.intT i))) rfl trivial⟩
  ·exact p1.elim
 ·exact p1.elim
end
end L2.MS
namespace L2.MS
open PySem PySem.Spec PyProof.Rows
theorem PW.of_bool {X:Cx}{op:BoolOp}{vs:List Expr}{pos:Pos}{t:TT}(h:PT X (.BoolOp op vs pos) t):PW X (.BoolOp op vs pos) t:=fun wh pins s σ H Q I q=>by
 have:=h pins s σ H Q I q
 rw [PySem.isTrue]at this ⊢
 exact this
theorem zk {F:M.Fx}{cf:Cf}: ∀ {es:M.Es}{xs:List Expr}{τ:M.Sl}{h:M.AH}{ds:List M.D}{h':M.AH},chkEs cf es xs=true->M.evalDs F es τ h= .ok ds h'->ds.length=xs.length
 | .nil,xs,_,_,_,_,c,e=>by
  unfold chkEs at c
  split at c
  ·rw [M.evalDs]at e;cases e;rfl
  ·cases c
 | .cons a es,xs,τ,h,ds,h',c,e=>by
  unfold chkEs at c
  split at c
  ·rename_i x xs
   simp only [Bool.and_eq_true]at c
   rw [M.evalDs]at e
   obtain⟨w,h1,e1,e⟩:=wc e
   obtain⟨d,h2,e2,e⟩:=wc e
   obtain⟨r,h3,e3,e⟩:=wc e
   cases e
   rw [List.length_cons,List.length_cons,zk c.2 e3]
  ·cases c
theorem Zd {cf:Cf}: ∀ {es:M.Es}{xs:List Expr},chkEs cf es xs=true-> ∀e∈xs,notStar e=true
 | .nil,xs,c=>by
  unfold chkEs at c
  split at c
  ·intro e he;cases he
  ·cases c
 | .cons a es,xs,c=>by
  unfold chkEs at c
  split at c
  ·rename_i x xs
   simp only [Bool.and_eq_true]at c
   intro e he
   rcases List.mem_cons.mp he with rfl | he
   ·exact c.1.1
   ·exact Zd c.2 e he
  ·cases c
theorem zp {cf:Cf}: ∀ {cap:List Nat}{xs:List Str},capOk cf cap xs=true->cap.length=xs.length
 | [],[],_=>rfl
 | [],_::_,h=>by simp [capOk]at h
 | _::_,[],h=>by simp [capOk]at h
 | j::js,x::xs,h=>by
  simp only [capOk,Bool.and_eq_true]at h
  exact congrArg (· +1) (zp h.2)
theorem jy {cf:Cf}{it:M.It}{e:Expr}(h:chkIt cf it e=true):notSet e=true:=by
 cases it with
 | seq a=>unfold chkIt at h;rw [Bool.and_eq_true]at h;exact h.1
 | range1 a=>unfold chkIt at h;split at h;rfl;cases h
 | range2 a b=>unfold chkIt at h;split at h;rfl;cases h
 | rev a=>unfold chkIt at h;split at h;rfl;cases h
 | zip a b=>unfold chkIt at h;cases h
 | enum a=>unfold chkIt at h;cases h
section
variable {Γ:Ge}{F:M.Fx}{k:Nat}
mutual
theorem sndE: ∀(m:M.E){X:Cx}{E:XK}{cf:Cf}{e:Expr},Go Γ F X E k cf->chkE cf m e=true->PE X e (tD Γ E (M.eval F m))/\(tOk m=true->PT X e (tDT Γ E (M.tstE F m)))
 | .var i,X,E,cf,e,go,h=>by
  unfold chkE at h
  split at h
  ·simp only [Bool.and_eq_true,decide_eq_true_eq]at h
   have r:=xac (pos:= ‹Pos›) go h.1.1 h.1.2 h.2
   exact⟨r,fun _=>Qa go r fun _=>rfl⟩
  ·cases h
 | .con c,X,E,cf,e,go,h=>by
  unfold chkE at h
  have r:=jag go h
  obtain⟨p,rfl,_,_⟩:=xb h
  exact⟨r,fun _=>Qa go r fun _=>rfl⟩
 | .int i,X,E,cf,e,go,h=>by
  unfold chkE at h
  split at h
  ·cases of_decide_eq_true h;exact⟨XU,fun _=>Qa go XU fun _=>rfl⟩
  ·cases h
 | .bl i,X,E,cf,e,go,h=>by
  unfold chkE at h
  split at h
  ·cases of_decide_eq_true h;exact⟨J7,fun _=>Qa go J7 fun _=>rfl⟩
  ·cases h
 | .non,X,E,cf,e,go,h=>by unfold chkE at h;cases h
 | .str i,X,E,cf,e,go,h=>by
  unfold chkE at h
  split at h
  ·cases of_decide_eq_true h;exact⟨wT,fun _=>Qa go wT fun _=>rfl⟩
  ·cases h
 | .tup es,X,E,cf,e,go,h=>by
  unfold chkE at h
  split at h
  ·rw [Bool.and_eq_true,decide_eq_true_eq]at h
   have r:=xaf (n:= ‹Nat›) (pos:= ‹Pos›) h.1 (fun τ hh ds h' q=>zk h.2 q) (sndA es go h.2)
   exact⟨r,fun _=>Qa go r fun _=>rfl⟩
  ·cases h
 | .lst es,X,E,cf,e,go,h=>by
  unfold chkE at h
  split at h
  ·rw [Bool.and_eq_true,decide_eq_true_eq]at h
   have r:=qam (pos:= ‹Pos›) h.1 (fun τ hh ds h' q=>zk h.2 q) (sndA es go h.2)
   exact⟨r,fun _=>Qa go r fun _=>rfl⟩
  ·cases h
 | .bin o a b,X,E,cf,e,go,h=>by
  unfold chkE at h
  split at h
  ·simp only [Bool.and_eq_true,decide_eq_true_eq]at h
   obtain⟨⟨⟨rfl,ho⟩,h1⟩,h2⟩:=h
   have r:=zad (pos:= ‹Pos›) go ho (sndE a go h1).1 (sndE b go h2).1
   exact⟨r,fun _=>Qa go r fun _=>rfl⟩
  ·cases h
 | .cmp o a b,X,E,cf,e,go,h=>by
  unfold chkE at h
  split at h
  ·simp only [Bool.and_eq_true,decide_eq_true_eq]at h
   obtain⟨⟨⟨⟨rfl,ho⟩,hs⟩,h1⟩,h2⟩:=h
   exact⟨W9 go ho hs (sndE a go h1).1 (sndE b go h2).1,fun _=>XV go ho hs (sndE a go h1).1 (sndE b go h2).1⟩
  ·cases h
 | .chain _ _ _ _ _,X,E,cf,e,go,h=>by unfold chkE at h;cases h
 | .isn _ _,X,E,cf,e,go,h=>by unfold chkE at h;cases h
 | .neg a,X,E,cf,e,go,h=>by
  unfold chkE at h
  split at h
  ·have r:=xap (pos:= ‹Pos›) (sndE a go h).1
   exact⟨r,fun _=>Qa go r fun _=>rfl⟩
  ·cases h
 | .inv _,X,E,cf,e,go,h=>by unfold chkE at h;cases h
 | .not a,X,E,cf,e,go,h=>by
  unfold chkE at h
  split at h
  ·exact⟨xal go (sndE a go h).1,fun t=>Z2 ((sndE a go h).2 t)⟩
  ·cases h
 | .and _ _,X,E,cf,e,go,h=>by unfold chkE at h;cases h
 | .or a b,X,E,cf,e,go,h=>by
  unfold chkE at h
  split at h
  ·rename_i x y rest p
   rw [Bool.and_eq_true]at h
   obtain⟨h1,h2⟩:=h
   split at h2
   ·exact⟨j9 go (sndE a go h1).1 (jaF (sndE b go h2).1),fun t=>by
     have t:tOk a=true/\tOk b=true:=by simpa [tOk]using t
     exact(ZM ((sndE a go h1).2 t.1) (xay ((sndE b go h2).2 t.2))).pt⟩
   ·exact⟨j9 go (sndE a go h1).1 (sndE b go h2).1,fun t=>by
     have t:tOk a=true/\tOk b=true:=by simpa [tOk]using t
     exact(ZM ((sndE a go h1).2 t.1) (PW.of_bool ((sndE b go h2).2 t.2))).pt⟩
  ·cases h
 | .ite _ _ _,X,E,cf,e,go,h=>by unfold chkE at h;cases h
 | .call f es,X,E,cf,e,go,h=>by
  unfold chkE at h
  split at h
  ·simp only [Bool.and_eq_true]at h
   have r:=JZ (pos:= ‹Pos›) go h.1.1 h.1.2 (Zd h.2) (sndWs es go h.2)
   obtain⟨p,rfl,_,_⟩:=xb h.1.1
   exact⟨r,fun _=>Qa go r fun _=>rfl⟩
  ·simp only [Bool.and_eq_true]at h
   cases es with
   | cons _ _=>exact absurd h.2 Bool.false_ne_true
   | nil=>
    have r:=WT (pos:= ‹Pos›) go h.1.1 h.1.2
    obtain⟨p,rfl,_,_⟩:=xb h.1.1
    exact⟨r,fun _=>Qa go r fun _=>rfl⟩
  ·cases h
 | .bi b es,X,E,cf,e,go,h=>by
  unfold chkE at h
  split at h
  ·simp only [Bool.and_eq_true]at h
   have r:=zav (pos:= ‹Pos›) go h.1.2 h.1.1 (Zd h.2) (sndWs es go h.2)
   obtain⟨p,rfl,_,_⟩:=xb h.1.1
   exact⟨r,fun _=>Qa go r fun _=>rfl⟩
  ·cases h
 | .isT a t,X,E,cf,e,go,h=>by
  unfold chkE at h
  split at h
  ·simp only [Bool.and_eq_true,decide_eq_true_eq]at h
   obtain⟨⟨⟨⟨h1,h2⟩,h3⟩,h4⟩,h5⟩:=h
   have r:=qak (pos:= ‹Pos›) go h3 h1 h2 h4 (sndE a go h5).1
   obtain⟨p,rfl,_,_⟩:=xb h1
   exact⟨r,fun _=>Qa go r fun _=>rfl⟩
  ·cases h
 | .isX _ _ _,X,E,cf,e,go,h=>by unfold chkE at h;cases h
 | .ix a b,X,E,cf,e,go,h=>by
  unfold chkE at h
  split at h
  ·simp only [Bool.and_eq_true]at h
   have r:=qaC (pos:= ‹Pos›) go h.1.1 (sndE a go h.1.2).1 (sndE b go h.2).1
   exact⟨r,fun _=>Qa go r fun _=>rfl⟩
  ·cases h
 | .sl a lo hi,X,E,cf,e,go,h=>by
  unfold chkE at h
  split at h
  ·rename_i p2 pos
   simp only [Bool.and_eq_true]at h
   have r:=zaD (pos:=pos) (p2:=p2) go (sndE a go h.1.1).1 (sndE lo go h.1.2).1 (sndE hi go h.2).1
   exact⟨r,fun _=>Qa go r fun _=>rfl⟩
  ·cases h
 | .slL a lo,X,E,cf,e,go,h=>by
  unfold chkE at h
  split at h
  ·rename_i p2 pos
   simp only [Bool.and_eq_true]at h
   have r:=zao (pos:=pos) (p2:=p2) go (sndE a go h.1).1 (sndE lo go h.2).1
   exact⟨r,fun _=>Qa go r fun _=>rfl⟩
  ·cases h
 | .slH a hi,X,E,cf,e,go,h=>by
  unfold chkE at h
  split at h
  ·rename_i p2 pos
   simp only [Bool.and_eq_true]at h
   have r:=jae (pos:=pos) (p2:=p2) go (sndE a go h.1).1 (sndE hi go h.2).1
   exact⟨r,fun _=>Qa go r fun _=>rfl⟩
  ·cases h
 | .rev a,X,E,cf,e,go,h=>by
  unfold chkE at h
  split at h
  ·rename_i p2 pos
   simp only [Bool.and_eq_true]at h
   have r:=jaf (pos:=pos) (p2:=p2) go h.1 (sndE a go h.2).1
   exact⟨r,fun _=>Qa go r fun _=>rfl⟩
  ·cases h
 | .comp tg one kk cap it hasIf c elt,X,E,cf,e,go,h=>by
  unfold chkE at h
  split at h
  ·rename_i y t iter ifs scope pos
   simp only [Bool.and_eq_true,List.all_eq_true,decide_eq_true_eq]at h
   obtain⟨⟨⟨⟨⟨h1,h2⟩,h3⟩,h4⟩,h5⟩,h6⟩:=h
   have sc:=ji h1
   have ht: ∀C fp s H,PTs (cxComp X (blockN cf t cap) scope C fp s H) ifs (tDT Γ E0 (condC F hasIf c)):=fun C fp s H=>by
    have gc:=Jh go sc C fp s H
    split at h6
    ·split at h6
     ·rename_i z
      rw [Bool.and_eq_true]at h6
      exact JP ((sndE c gc h6.2).2 h6.1)
     ·cases h6
    ·split at h6
     ·intro pins s1 σ H1 Q I ⟨G,τ,h,st,p⟩
      exact QT pins s1 σ H1 Q I (p G H1 Ext.refl st.heap)
     ·cases h6
   have r:=zX (pos:=pos) go sc (zp sc.cap) h3 h2 (jy h4) (sndI it go h4) (fun C fp s H=>(sndE elt (Jh go sc C fp s H) h5).1) ht
   exact⟨r,fun _=>Qa go r fun _=>rfl⟩
  ·cases h
 | .compR _ _ _ _ _ _,X,E,cf,e,go,h=>by unfold chkE at h;cases h
 | .dnew,X,E,cf,e,go,h=>by unfold chkE at h;cases h
 | .din _ _ _,X,E,cf,e,go,h=>by unfold chkE at h;cases h
 | .dlen _,X,E,cf,e,go,h=>by unfold chkE at h;cases h
 | .share a,X,E,cf,e,go,h=>by
  unfold chkE at h
  exact⟨JR (sndE a go h).1,fun t=>by cases t⟩
 | .lenset _,X,E,cf,e,go,h=>by unfold chkE at h;cases h
 | .lensT _,X,E,cf,e,go,h=>by unfold chkE at h;cases h
 | .trange _,X,E,cf,e,go,h=>by unfold chkE at h;cases h
 | .lrange _,X,E,cf,e,go,h=>by unfold chkE at h;cases h
 | .sorti _,X,E,cf,e,go,h=>by unfold chkE at h;cases h
 | .geT _ _,X,E,cf,e,go,h=>by unfold chkE at h;cases h
 | .ltL _ _,X,E,cf,e,go,h=>by unfold chkE at h;cases h
 | .tix c a,X,E,cf,e,go,h=>by
  unfold chkE at h
  split at h
  ·rename_i g y q1
   simp only [Bool.and_eq_true]at h
   have r:=xak (pos:=q1) go h.1.1 h.1.2 (sndE a go h.2).1
   exact⟨r,fun _=>Qa go r fun _=>rfl⟩
  ·cases h
 | .tget c es,X,E,cf,e,go,h=>by
  unfold chkE at h
  split at h
  ·rename_i g n apos x y cpos
   simp only [Bool.and_eq_true,decide_eq_true_eq]at h
   obtain⟨⟨⟨h1,rfl⟩,h3⟩,h4⟩:=h
   have r:=jX go h1 h3 (Zd h4) (sndWs es go h4)
   exact⟨r,fun _=>Qa go r fun _=>rfl⟩
  ·cases h
 | .dlit T i,X,E,cf,e,go,h=>by
  unfold chkE at h
  split at h
  ·rename_i ks vs q1 x q2 q3
   simp only [Bool.and_eq_true,decide_eq_true_eq]at h
   have r:=W1 (p1:=q1) (p2:=q2) (pos:=q3) go h.1.1.1.1.1.1 h.1.1.1.1.1.2 h.1.1.1.1.2 h.1.1.1.2 h.1.1.2 h.1.2 h.2
   exact⟨r,fun _=>Qa go r fun _=>rfl⟩
  ·cases h
 | .fstr ps,X,E,cf,e,go,h=>by
  unfold chkE at h
  split at h
  ·rename_i x y xs q1
   have r:=QX (pos:=q1) go h
   exact⟨r,fun _=>Qa go r fun _=>rfl⟩
  ·cases h
 | .strI a,X,E,cf,e,go,h=>by
  unfold chkE at h
  split at h
  ·rename_i g x q1
   simp only [Bool.and_eq_true]at h
   have r:=QV (pos:=q1) go h.1.1 h.1.2 (sndE a go h.2).1
   exact⟨r,fun _=>Qa go r fun _=>rfl⟩
  ·cases h
 | .meth m a es,X,E,cf,e,go,h=>by
  unfold chkE at h
  split at h
  ·simp only [Bool.and_eq_true,decide_eq_true_eq]at h
   obtain⟨⟨⟨⟨⟨rfl,h2⟩,h3⟩,h4⟩,h5⟩,h6⟩:=h
   have r:=xW go h2 h3 h4 (Zd h6 _ List.mem_cons_self) (sndE a go h5).1 (sndWs es go h6)
   exact⟨r,fun _=>Qa go r fun _=>rfl⟩
  ·cases h
theorem sndA: ∀(es:M.Es){X:Cx}{E:XK}{cf:Cf}{xs:List Expr},Go Γ F X E k cf->chkEs cf es xs=true->PA X xs (tDA Γ E (M.evalDs F es))
 | .nil,X,E,cf,xs,go,h=>by
  unfold chkEs at h
  split at h
  ·exact Z1
  ·cases h
 | .cons a es,X,E,cf,xs,go,h=>by
  unfold chkEs at h
  split at h
  ·simp only [Bool.and_eq_true]at h
   exact QN h.1.1 (sndE a go h.1.2).1 (sndA es go h.2)
  ·cases h
theorem sndWs: ∀(es:M.Es){X:Cx}{E:XK}{cf:Cf}{xs:List Expr},Go Γ F X E k cf->chkEs cf es xs=true->PA X xs (tDW Γ E (M.evalWs F es))
 | .nil,X,E,cf,xs,go,h=>by
  unfold chkEs at h
  split at h
  ·exact X1
  ·cases h
 | .cons a es,X,E,cf,xs,go,h=>by
  unfold chkEs at h
  split at h
  ·simp only [Bool.and_eq_true]at h
   exact jV h.1.1 (sndE a go h.1.2).1 (sndWs es go h.2)
  ·cases h
theorem sndI: ∀(it:M.It){X:Cx}{E:XK}{cf:Cf}{tg e:Expr},Go Γ F X E k cf->chkIt cf it e=true->PI X tg e (tDI Γ E false (M.evalIt F it))
 | .seq a,X,E,cf,tg,e,go,h=>by
  unfold chkIt at h
  rw [Bool.and_eq_true]at h
  exact qY go (sndE a go h.2).1
 | .range1 a,X,E,cf,tg,e,go,h=>by
  unfold chkIt at h
  split at h
  ·simp only [Bool.and_eq_true]at h
   exact xn go h.1.1 h.1.2 (sndE a go h.2).1
  ·cases h
 | .range2 a b,X,E,cf,tg,e,go,h=>by
  unfold chkIt at h
  split at h
  ·simp only [Bool.and_eq_true]at h
   exact Jo go h.1.1.1.1 h.1.1.1.2 h.1.1.2 (sndE a go h.1.2).1 (sndE b go h.2).1
  ·cases h
 | .rev a,X,E,cf,tg,e,go,h=>by
  unfold chkIt at h
  split at h
  ·simp only [Bool.and_eq_true]at h
   exact X2 go h.1.1 h.1.2 (sndE a go h.2).1
  ·cases h
 | .zip a b,X,E,cf,tg,e,go,h=>by unfold chkIt at h;cases h
 | .enum a,X,E,cf,tg,e,go,h=>by unfold chkIt at h;cases h
end
end
end L2.MS
namespace L2.MS
open PySem PySem.Spec PyProof.Rows
structure Bs where
 G:Gh
 H:Hp
 h:M.AH
structure StS (Γ:Ge) (B:Bs) (G:Gh) (τ:M.Sl) (h:M.AH) (σ:St) (H:Hp):Prop where
 st:StRel Γ G τ h σ H
 ext:Ext B.G B.H G H
 hr:HRel Γ B.G B.h B.H
 own: ∀i xs a,M.getS τ i=some (.own xs)->σ[i]? =some (some (.ref a))->B.H a=none
def PostO (Γ:Ge) (E:XK) (B:Bs) (o:M.O) (D:Ends):Prop:=match o with
 | .next τ h=> ∀G σ H,StS Γ B G τ h σ H->D.nx σ H
 | .ret w h=> ∀G v H,Ext B.G B.H G H->HRel Γ G h H->RelW Γ G H w v->FreshW [] [] B.H w v->D.rt v H
 | .brk τ h=> ∀G σ H,StS Γ B G τ h σ H->D.bk σ H
 | .cont τ h=> ∀G σ H,StS Γ B G τ h σ H->D.ct σ H
 | .exc d h=> ∀G H,Ext B.G B.H G H->HRel Γ G h H->ExcE Γ E d H
 | .fail=>False
def tDS (Γ:Ge) (E:XK) (m:M.Sl->M.AH->M.O):TS:=fun D σ H=> ∃B G τ h,StS Γ B G τ h σ H/\PostO Γ E B (m τ h) D
theorem PS.imp {X:Cx}{st:Stmt}{t t':TS}(h:PS X st t) (k: ∀D σ H,t' D σ H->t D σ H):PS X st t':=fun pins s σ H D I q=>h pins s σ H D I (k _ _ _ q)
theorem PSs.imp {X:Cx}{st:List Stmt}{t t':TS}(h:PSs X st t) (k: ∀D σ H,t' D σ H->t D σ H):PSs X st t':=fun pins s σ H D I q=>h pins s σ H D I (k _ _ _ q)
section
variable {Γ:Ge}{E:XK}{B:Bs}{G G1:Gh}{τ:M.Sl}{h h1:M.AH}{σ:St}{H H1:Hp}{D:Ends}
theorem StS.on (s:StS Γ B G τ h σ H) (e:Ext G H G1 H1) (hr:HRel Γ G1 h1 H1):StS Γ B G1 τ h1 σ H1:=⟨s.st.ext e hr,s.ext.trans s.hr e,s.hr,s.own⟩
theorem PostO.exc {α:Type}{P:α->M.AH->Gh->Hp->Prop}{d:M.D}(s:StS Γ B G τ h σ H) (p:PostO Γ E B (.exc d h1) D):Post Γ E G H (.exc d h1) P:=fun G' H' e hr=>p G' H' (s.ext.trans s.hr e) hr
theorem Je {m:M.Sl->M.AH->M.R M.W}{f:M.W->M.AH->M.O}{Q:VK}(s:StS Γ B G τ h σ H) (p:PostO Γ E B ((m τ h).toO f) D)
 (k: ∀w v h1 G1 H1,Ext G H G1 H1->StS Γ B G1 τ h1 σ H1->RelW Γ G1 H1 w v->FreshW τ σ H w v->PostO Γ E B (f w h1) D->Q v H1):tD Γ E m σ H Q:=by
 refine⟨G,τ,h,s.st,?_⟩
 cases q:m τ h with
 | ok w h1=>rw [q]at p;exact fun G1 H1 e hr v z1 z2=>k w v h1 G1 H1 e (s.on e hr) z1 z2 p
 | exc d h1=>rw [q]at p;exact PostO.exc s p
 | fail=>rw [q]at p;exact p
theorem XY {m:M.Sl->M.AH->M.R Bool}{f:Bool->M.AH->M.O}{Q:Bool->Hp->Prop}(s:StS Γ B G τ h σ H) (p:PostO Γ E B ((m τ h).toO f) D)
 (k: ∀b h1 G1 H1,Ext G H G1 H1->StS Γ B G1 τ h1 σ H1->PostO Γ E B (f b h1) D->Q b H1):tDT Γ E m σ H Q:=by
 refine⟨G,τ,h,s.st,?_⟩
 cases q:m τ h with
 | ok w h1=>rw [q]at p;exact fun G1 H1 e hr=>k w h1 G1 H1 e (s.on e hr) p
 | exc d h1=>rw [q]at p;exact PostO.exc s p
 | fail=>rw [q]at p;exact p
theorem StS.set {w:M.W}{v:V}{i:Nat}(s0:StS Γ B G τ h σ H) (e:Ext G H G1 H1) (s:StS Γ B G1 τ h1 σ H1) (r:RelW Γ G1 H1 w v) (f:FreshW τ σ H w v) (hb: ∀xs,w≠ .bor xs):StS Γ B G1 (M.setS τ i w) h1 (σ.set i (some v)) H1:=by
 refine⟨s.st.set r fun hl j w' hj e1 hl' a ea z=> ?_,s.ext,s.hr,fun j xs a e1 e2=> ?_⟩
 ·cases w with
  | v d=>cases hl
  | bor xs=>exact hb xs rfl
  | own xs=>
   obtain⟨b,eb,hn⟩:=f
   subst ea
   cases eb
   obtain⟨o,z'⟩:=s0.st.slotThere e1 hl' z
   rw [hn]at z';cases z'
 ·rw [Jb]at e1
  by_cases c:j=i/\i<τ.length
  ·rw [if_pos c]at e1
   cases e1
   obtain⟨rfl,c⟩:=c
   rw [List.getElem?_set_self (by rw [← s.st.len];exact c)]at e2
   cases e2
   obtain⟨b,eb,hn⟩:=f
   cases eb
   exact s0.ext.none s0.hr hn
  ·rw [if_neg c]at e1
   have hj:j≠i:=fun z=>c ⟨z,by subst z;exact Jf e1⟩
   rw [List.getElem?_set_ne (Ne.symm hj)]at e2
   exact s.own j xs a e1 e2
theorem StS.fz {w:M.W}{v:V}{d:M.D}(s0:StS Γ B G τ h σ H) (e:Ext G H G1 H1) (s:StS Γ B G1 τ h1 σ H1) (r:RelW Γ G1 H1 w v) (f:FreshW τ σ H w v) (hd:w.d=some d): ∃G2,Ext G H G2 H1/\StS Γ B G2 τ h1 σ H1/\RelD Γ G2 H1 d v:=by
 obtain⟨G2,e2,s2,rd,_⟩:=toD e s.st s0.st r f hd
 exact⟨G2,e2,⟨s2,s0.ext.trans s0.hr e2,s.hr,s.own⟩,rd⟩
theorem StS.setD {d:M.D}{v:V}{i:Nat}(s:StS Γ B G τ h σ H) (r:RelD Γ G H d v):StS Γ B G (M.setS τ i (.v d)) h (σ.set i (some v)) H:=StS.set (w:= .v d) s Ext.refl s r trivial fun xs z=>by cases z
theorem StS.setTup: ∀ {is:List Nat}{ds:List M.D}{vs:List V}{τ τ':M.Sl}{σ:St},M.setTup is ds τ=some τ'->RelDs Γ G H ds vs->StS Γ B G τ h σ H->StS Γ B G τ' h (setV is vs σ) H/\is.length=vs.length
 | [],[],_,_,_,_,e,rfl,s=>by cases e;exact⟨s,rfl⟩
 | [],_::_,_,_,_,_,e,_,_=>by simp [M.setTup]at e
 | _::_,[],_,_,_,_,e,_,_=>by simp [M.setTup]at e
 | i::is,d::ds,_,_,_,_,e,⟨v,r,rfl,z1,z2⟩,s=>by
  obtain⟨h1,h2⟩:=StS.setTup (is:=is) (ds:=ds) (by simpa [M.setTup]using e) z2 (s.setD (i:=i) z1)
  exact⟨h1,congrArg (· +1) h2⟩
theorem jaO {tg:List Nat}{one:Bool}{d:M.D}{x:V}{τ':M.Sl}{Q:St->Hp->Prop}(e:M.bindT tg one d τ=some τ') (r:RelD Γ G H d x) (s:StS Γ B G τ h σ H) (kq: ∀σ',StS Γ B G τ' h σ' H->Q σ' H):gM Γ tg one x σ H Q:=by
 unfold M.bindT at e
 cases one with
 | true=>
  cases tg with
  | nil=>cases e
  | cons i r'=>
   cases r' with
   | cons _ _=>cases e
   | nil=>
    cases e
    exact⟨i,rfl,kq _ (s.setD r)⟩
 | false=>
  cases d with
  | tup ds=>
   obtain⟨a,vs,rfl,z2,z3⟩:=r
   obtain⟨s',hl⟩:=StS.setTup (show M.setTup tg ds τ=some τ' from e) z3 s
   exact⟨G,ds,vs,a,rfl,z2,z3,hl,kq _ s'⟩
  | _=>cases e
theorem StS.write {i:Nat}{xs ys:List M.D}{us:List V}{a:Addr}(s:StS Γ B G τ h σ H) (e1:M.getS τ i=some (.own xs)) (e2:σ[i]? =some (some (.ref a))) (r:RelDs Γ G H ys us):StS Γ B G (M.setS τ i (.own ys)) h σ (upd H a (.lst us)):=by
 obtain⟨nf,of,vs,ha,_⟩:=Xf s.st e1 e2
 have hB:=s.own i xs a e1 e2
 have mon:Mon G H G (upd H a (.lst us)):=⟨fun b o z q=>by rw [ja (fun e:b=a=>nf (e▸z))];exact q,Nat.le_refl _,fun _ _=>rfl,fun _ z=>z⟩
 have hil:i<τ.length:=Jf e1
 have hr':HRel Γ G h (upd H a (.lst us)):=by
  refine⟨s.st.heap.len,fun q zs e=> ?_,s.st.heap.pure,s.st.heap.inj,fun b z=> ?_,fun q ks e=> ?_⟩
  ·obtain⟨z1,ws,z2,z3⟩:=s.st.heap.cell q zs e
   have hq:q<G.n:=by rw [← s.st.heap.len];exact(List.getElem?_eq_some_iff.mp e).1
   exact⟨z1,ws,by rw [ja (of q hq)];exact z2,z3.mon mon⟩
  ·obtain⟨o,q⟩:=s.st.heap.live b z
   exact⟨o,by rw [ja (fun e:b=a=>nf (e▸z))];exact q⟩
  ·obtain⟨z1,ws,z2,z3,z4⟩:=s.st.heap.dic q ks e
   have hq:q<G.n:=by rw [← s.st.heap.len];exact(List.getElem?_eq_some_iff.mp e).1
   exact⟨z1,ws,by rw [ja (of q hq)];exact z2,z3,fun x hx=>(z4 x hx).mon mon⟩
 refine⟨⟨by rw [We];exact s.st.len,fun j w e=> ?_,fun p q zs w b hpq q1 q2 hl q3=> ?_,hr'⟩,⟨fun b o q hof=> ?_,s.ext.le,s.ext.rho,s.ext.new,s.ext.fz,s.ext.old,fun q hq z=> ?_⟩,s.hr,fun j zs b q1 q2=> ?_⟩
 ·rw [Jb]at e
  by_cases c:j=i/\i<τ.length
  ·rw [if_pos c]at e
   cases e
   obtain⟨rfl,_⟩:=c
   exact⟨.ref a,e2,a,us,rfl,nf,of,xc,r.mon mon⟩
  ·rw [if_neg c]at e
   have hj:j≠i:=fun z=>c ⟨z,by subst z;exact Jf e⟩
   obtain⟨v,z1,z2⟩:=s.st.slot j w e
   refine⟨v,z1,?_⟩
   cases w with
   | v d=>exact RelD.mon mon z2
   | own ws=>
    obtain⟨b,bs,rfl,y2,y3,y4,y5⟩:=z2
    have hb:b≠a:=fun z=>s.st.apart i j xs (.own ws) a (Ne.symm hj) e1 e rfl e2 (z▸z1)
    exact⟨b,bs,rfl,y2,y3,by rw [ja hb];exact y4,y5.mon mon⟩
   | bor ws=>
    obtain⟨b,bs,rfl,y3,y4,y5⟩:=z2
    have hb:b≠a:=fun z=>s.st.apart i j xs (.bor ws) a (Ne.symm hj) e1 e rfl e2 (z▸z1)
    refine⟨b,bs,rfl,y3,?_,y5.mon mon⟩
    rcases y4 with y4 | ⟨o,y4⟩
    ·exact .inl (by rw [ja hb];exact y4)
    ·exact .inr ⟨o,by rw [ja hb];exact y4⟩
 ·rw [Jb]at q1 q2
  have f1: ∃zs',M.getS τ p=some (.own zs'):=by
   by_cases c:p=i/\i<τ.length
   ·exact⟨xs,by rw [c.1];exact e1⟩
   ·rw [if_neg c]at q1;exact⟨zs,q1⟩
  have f2: ∃w',M.getS τ q=some w'/\isL w'=true:=by
   by_cases c:q=i/\i<τ.length
   ·exact⟨.own xs,by rw [c.1];exact e1,rfl⟩
   ·rw [if_neg c]at q2;exact⟨w,q2,hl⟩
  obtain⟨zs',f1⟩:=f1
  obtain⟨w',f2,hl'⟩:=f2
  exact s.st.apart p q zs' w' b hpq f1 f2 hl' q3
 ·rw [ja (fun e:b=a=>by rw [e,hB]at q;cases q)]
  exact s.ext.keep b o q hof
 ·obtain⟨o,z'⟩:=s.ext.cells q hq z
  have:B.G.rho q≠a:=fun e=>by
   have:=of q (Nat.lt_of_lt_of_le hq s.ext.le)
   rw [s.ext.rho q hq]at this
   exact this e
  exact⟨o,by rw [ja this];exact z'⟩
 ·rw [Jb]at q1
  by_cases c:j=i/\i<τ.length
  ·obtain⟨rfl,_⟩:=c
   rw [e2]at q2
   cases q2
   exact hB
  ·rw [if_neg c]at q1;exact s.own j zs b q1 q2
theorem Xq: ∀(xs:List M.D) (n:Nat){d:M.D},M.noRefs xs=true->M.noRef d=true->M.noRefs (xs.set n d)=true
 | [],_,_,_,_=>rfl
 | x::xs,0,d,h,hd=>by
  have h:(M.noRef x&&M.noRefs xs)=true:=h
  rw [Bool.and_eq_true]at h
  show(M.noRef d&&M.noRefs xs)=true
  rw [hd,h.2];rfl
 | x::xs,n+1,d,h,hd=>by
  have h:(M.noRef x&&M.noRefs xs)=true:=h
  rw [Bool.and_eq_true]at h
  show(M.noRef x&&M.noRefs (xs.set n d))=true
  rw [h.1,Xq xs n h.2 hd];rfl
theorem StS.cell {r:Nat}{xs ys:List M.D}{us:List V}(s:StS Γ B G τ h σ H) (e1:h[r]? =some (.lst xs)) (hp:M.noRefs ys=true) (z:RelDs Γ G H ys us):StS Γ B G τ (h.set r (.lst ys)) σ (upd H (G.rho r) (.lst us)):=by
 have hl:r<h.length:=(List.getElem?_eq_some_iff.mp e1).1
 have hr:r<G.n:=by rw [← s.st.heap.len];exact hl
 obtain⟨nf,vs,hv,_⟩:=s.st.heap.cell r xs e1
 have mon:Mon G H G (upd H (G.rho r) (.lst us)):=⟨fun b o w q=>by rw [ja (fun e:b=G.rho r=>nf (e▸w))];exact q,Nat.le_refl _,fun _ _=>rfl,fun _ w=>w⟩
 have look: ∀q zs,(h.set r (.lst ys))[q]? =some (M.Cell.lst zs)->(q=r/\zs=ys)\/(q≠r/\h[q]? =some (.lst zs)):=fun q zs e=>by
  by_cases c:q=r
  ·subst c
   rw [List.getElem?_set_self hl]at e
   cases e
   exact .inl ⟨rfl,rfl⟩
  ·rw [List.getElem?_set_ne (Ne.symm c)]at e
   exact .inr ⟨c,e⟩
 have hr':HRel Γ G (h.set r (.lst ys)) (upd H (G.rho r) (.lst us)):=by
  refine⟨by rw [List.length_set];exact s.st.heap.len,fun q zs e=> ?_,fun q zs e=> ?_,s.st.heap.inj,fun b w=> ?_,fun q ks e=> ?_⟩
  ·rcases look q zs e with⟨rfl,rfl⟩ | ⟨c,e⟩
   ·exact⟨nf,us,xc,z.mon mon⟩
   ·obtain⟨z1,ws,z2,z3⟩:=s.st.heap.cell q zs e
    have hq:q<G.n:=by rw [← s.st.heap.len];exact(List.getElem?_eq_some_iff.mp e).1
    exact⟨z1,ws,by rw [ja fun e=>c (s.st.heap.inj q r hq hr e)];exact z2,z3.mon mon⟩
  ·rcases look q zs e with⟨rfl,rfl⟩ | ⟨c,e⟩
   ·exact hp
   ·exact s.st.heap.pure q zs e
  ·obtain⟨o,q⟩:=s.st.heap.live b w
   exact⟨o,by rw [ja (fun e:b=G.rho r=>nf (e▸w))];exact q⟩
  ·have c:q≠r:=fun c=>by
    subst c
    rw [List.getElem?_set_self hl]at e
    cases e
   rw [List.getElem?_set_ne (Ne.symm c)]at e
   obtain⟨z1,ws,z2,z3,z4⟩:=s.st.heap.dic q ks e
   have hq:q<G.n:=by rw [← s.st.heap.len];exact(List.getElem?_eq_some_iff.mp e).1
   exact⟨z1,ws,by rw [ja fun e=>c (s.st.heap.inj q r hq hr e)];exact z2,z3,fun x hx=>(z4 x hx).mon mon⟩
 refine⟨⟨s.st.len,fun j w e=> ?_,s.st.apart,hr'⟩,⟨fun b o q hof=> ?_,s.ext.le,s.ext.rho,s.ext.new,s.ext.fz,s.ext.old,fun q hq w=> ?_⟩,s.hr,s.own⟩
 ·obtain⟨v,z1,z2⟩:=s.st.slot j w e
  refine⟨v,z1,?_⟩
  cases w with
  | v d=>exact RelD.mon mon z2
  | own ws=>
   obtain⟨b,bs,rfl,y2,y3,y4,y5⟩:=z2
   exact⟨b,bs,rfl,y2,y3,by rw [ja (Ne.symm (y3 r hr))];exact y4,y5.mon mon⟩
  | bor ws=>
   obtain⟨b,bs,rfl,y3,y4,y5⟩:=z2
   refine⟨b,bs,rfl,y3,?_,y5.mon mon⟩
   rcases y4 with y4 | ⟨o,y4⟩
   ·exact .inl (by rw [ja (Ne.symm (y3 r hr))];exact y4)
   ·exact .inr ⟨o,by rw [ja (Ne.symm (y3 r hr))];exact y4⟩
 ·have hb:b≠G.rho r:=fun e=>by
   by_cases c:r<B.G.n
   ·exact hof r c (by rw [← s.ext.rho r c];exact e.symm)
   ·have:=s.ext.new r (Nat.not_lt.mp c) hr
    rw [← e,q]at this
    cases this
  rw [ja hb]
  exact s.ext.keep b o q hof
 ·by_cases c:B.G.rho q=G.rho r
  ·exact⟨_,by rw [c];exact xc⟩
  ·obtain⟨o,w'⟩:=s.ext.cells q hq w
   exact⟨o,by rw [ja c];exact w'⟩
theorem StS.freeze {i:Nat}{xs:List M.D}(s:StS Γ B G τ h σ H) (e1:M.getS τ i=some (.own xs)): ∃G',StS Γ B G' (M.setS τ i (.v (.lst xs))) h σ H:=by
 obtain⟨v,e2,a,vs,rfl,nf,of,ha,rs⟩:=s.st.slot i _ e1
 have hB:=s.own i xs a e1 e2
 refine⟨G.more a,⟨⟨by rw [We];exact s.st.len,fun j w e=> ?_,fun p q zs w b hpq q1 q2 hl q3=> ?_,s.st.heap.more of ⟨_,ha⟩⟩,s.ext.more hB,s.hr,fun j zs b q1 q2=> ?_⟩⟩
 ·rw [Jb]at e
  by_cases c:j=i/\i<τ.length
  ·rw [if_pos c]at e
   cases e
   obtain⟨rfl,_⟩:=c
   exact⟨.ref a,e2,a,vs,rfl,.inl ⟨.inr rfl,.inl ha⟩,rs.mon (Jd a)⟩
  ·rw [if_neg c]at e
   have hj:j≠i:=fun z=>c ⟨z,by subst z;exact Jf e⟩
   obtain⟨v,z1,z2⟩:=s.st.slot j w e
   exact⟨v,z1,z2.more fun hl ev=>s.st.apart i j xs w a (Ne.symm hj) e1 e hl e2 (ev▸z1)⟩
 ·rw [Jb]at q1 q2
  by_cases c:p=i/\i<τ.length
  ·rw [if_pos c]at q1;cases q1
  ·rw [if_neg c]at q1
   by_cases c':q=i/\i<τ.length
   ·rw [if_pos c']at q2;cases q2;cases hl
   ·rw [if_neg c']at q2;exact s.st.apart p q zs w b hpq q1 q2 hl q3
 ·rw [Jb]at q1
  by_cases c:j=i/\i<τ.length
  ·rw [if_pos c]at q1;cases q1
  ·rw [if_neg c]at q1;exact s.own j zs b q1 q2
end
end L2.MS
namespace L2.MS
open PySem PySem.Spec PyProof.Rows
structure GoS (Γ:Ge) (F:M.Fx) (X:Cx) (E:XK) (k:Nat) (cf:Cf):Prop extends Go Γ F X E k cf where
 pown:PassesOwn (model X.prog X.w) X.A X.env X.xe
 stk:X.stack=X.env::X.outer
 frm:X.env.frame=some X.env.locals
 ex:X.ex= []
 rai: ∀c,cf.rai.contains c=true->glB cf.sc (strS c)=true->(strS c==("__debug__" :Str))=false->XOk Γ c/\ ∀(np cpos pos:Pos) (e:Expr) (es:List Expr) (t:TA),PA X (e::es) t->(∀ e'∈e::es,notStar e'=true) →
  PS X (.Raise (some (.Call (.Name (strS c) np) (e::es) [] cpos)) none pos) (tRaise (Γ.ca c) E t)
 hnd: ∀c,cf.hnd.contains c=true->PySem.W.mroIn X.K (Γ.ca c) (.type "BaseException")=some true/\cf.own.contains c=true
section
variable {Γ:Ge}{F:M.Fx}{X:Cx}{E:XK}{k:Nat}{cf:Cf}
theorem Zn {i:Nat}{x:Str}(h:storB cf i x=true):cf.N[i]? =some x/\locB cf.sc x=true:=by
 simpa [storB]using h
theorem jY {a:M.E}{σ:St}{H:Hp}{Q:VK}(h0:tD Γ E (M.eval F (.share a)) σ H Q):tD Γ E (M.eval F a) σ H Q:=by
 obtain⟨G,τ,h,s,p⟩:=h0
 rw [M.eval]at p
 refine Ja s.heap Ext.refl s p fun w1 v1 h1 G1 H1 e1 e1' s1 r1 f1 p1=> ?_
 cases w1 with
 | own xs=>
  obtain⟨l,vs,rfl,z2,z3,z4,z5⟩:=r1
  obtain⟨l',el,hl⟩:=f1
  cases el
  have p1:Post Γ E G H (if M.noRefs xs=true then M.okv (.ref h1.length) (h1++ [.lst xs])else .fail) _:=p1
  by_cases hp:M.noRefs xs=true
  rotate_left
  ·rw [if_neg hp]at p1;exact p1.elim
  rw [if_pos hp]at p1
  refine Post.val p1 (zE e1 hl) (Qz s1.heap z2 z3 z4 z5 hp) (v:= .ref l) ?_ trivial
  show h1.length<G1.n+1/\V.ref l= .ref (if h1.length=G1.n then l else G1.rho h1.length)
  rw [s1.heap.len,if_pos rfl]
  exact⟨Nat.lt_succ_self _,rfl⟩
 | v d=>exact p1.elim
 | bor xs=>exact p1.elim
theorem Qn {v:Expr}{t:Option Expr}{l:Nat}{env:Env}(h:notComp v=true):swapsWith v t l env=pure false:=by
 cases v<;>first | rfl | (simp [notComp]at h)
theorem Wm (go:Go Γ F X E k cf){m:M.E}{v:Expr}{i:Nat}{x:Str}{p pos:Pos}(hl:storB cf i x=true) (hv:PE X v (tD Γ E (M.eval F m))) (hc:swapsWith v (some (.Name x p)) pos.line X.env=pure false):
 PS X (.Assign [.Name x p] v pos) (tAsg (tD Γ E (M.eval F m)) (gName i)):=by
 obtain⟨h1,h2⟩:=Zn hl
 have hl:=go.sto x h2
 exact qaw (by rw [go.N];exact go.nd) (by rw [go.N];exact h1) hl.1 hv hc hl.2
def isSC:M.E->Bool
 | .share _=>true
 | .comp .. =>true
 | .compR .. =>true
 | _=>false
theorem wZ {m:M.E}{v:Expr}(h:chkE cf m v=true) (hm:isSC m=false):notComp v=true:=by
 cases m<;>unfold chkE at h<;>first
  | (exact absurd (show true=false from hm) Bool.noConfusion)
  | (split at h<;>first | rfl | cases h)
  | (obtain ⟨p,rfl,_,_⟩:=xb h;rfl)
  | cases h
def ifOk (cb:Cf) (hasIf:Bool) (ifs:List Expr) (c:M.E):Bool:=match hasIf with
 | true=>(match ifs with
  | [z]=>tOk c&&chkE cb c z
  | _=>false)
 | false=>(match ifs with
  | []=>true
  | _=>false)
theorem xZ {tg:List Nat}{one hasIf:Bool}{kk:Nat}{cap:List Nat}{it:M.It}{c elt:M.E}{v:Expr}(h:chkE cf (.comp tg one kk cap it hasIf c elt) v=true): ∃y t iter ifs scope p0,v= .ListComp y [⟨t,iter,ifs,0⟩] scope p0 ∧
 ScOk cf scope (blockN cf t cap) kk cap/\(∀ i∈tg,i<kk)/\chkTarget { cf with sc:=scope,N:=blockN cf t cap } tg one t=true/\chkIt cf it iter=true/\chkE { cf with sc:=scope,N:=blockN cf t cap } elt y=true ∧
 ifOk { cf with sc:=scope,N:=blockN cf t cap } hasIf ifs c=true:=by
 unfold chkE at h
 split at h
 ·rename_i y t iter ifs scope p0
  simp only [Bool.and_eq_true,List.all_eq_true,decide_eq_true_eq]at h
  obtain⟨⟨⟨⟨⟨h1,h2⟩,h3⟩,h4⟩,h5⟩,h6⟩:=h
  exact⟨y,t,iter,ifs,scope,p0,rfl,ji h1,h2,h3,h4,h5,by unfold ifOk;exact h6⟩
 ·cases h
theorem J2 (go:Go Γ F X E k cf){v:Expr}{i:Nat}{x:Str}{p pos:Pos}(hl:storB cf i x=true){tg:List Nat}{one hasIf:Bool}{kk:Nat}{cap:List Nat}{it:M.It}{c elt:M.E}(h:chkE cf (.comp tg one kk cap it hasIf c elt) v=true):
 PS X (.Assign [.Name x p] v pos) (tAsg (tD Γ E (M.eval F (.comp tg one kk cap it hasIf c elt))) (gName i)):=by
 have hv:=(sndE (.comp tg one kk cap it hasIf c elt) go h).1
 obtain⟨y,t,iter,ifs,scope,p0,rfl,sc,h2,h3,h4,h5,h6⟩:=xZ h
 obtain⟨b,hb⟩: ∃b,swapsWith (.ListComp y [⟨t,iter,ifs,0⟩] scope p0) (some (.Name x p)) pos.line X.env=pure b:=⟨_,rfl⟩
 cases b with
 | false=>exact Wm go hl hv hb
 | true=>
  obtain⟨g1,g2⟩:=Zn hl
  have ht: ∀C fp s H,PTs (cxComp X (blockN cf t cap) scope C fp s H) ifs (tDT Γ E0 (condC F hasIf c)):=fun C fp s H=>by
   have gc:=Jh go sc C fp s H
   unfold ifOk at h6
   split at h6
   ·split at h6
    ·rename_i z
     rw [Bool.and_eq_true]at h6
     exact JP ((sndE c gc h6.2).2 h6.1)
    ·cases h6
   ·split at h6
    ·intro pins s1 σ H1 Q I ⟨G,τ,h,st,p⟩
     exact QT pins s1 σ H1 Q I (p G H1 Ext.refl st.heap)
    ·cases h6
  exact JC go g1 g2 hb sc (zp sc.cap) h3 h2 (jy h4) (sndI it go h4) (fun C fp s H=>(sndE elt (Jh go sc C fp s H) h5).1) ht
theorem wR (go:Go Γ F X E k cf){v:Expr}{i:Nat}{x:Str}{p pos:Pos}(hl:storB cf i x=true){tg:List Nat}{one:Bool}{kk:Nat}{cap:List Nat}{i0:Nat}{elt:M.E}(h:chkE cf (.compR tg one kk cap i0 elt) v=true):
 PS X (.Assign [.Name x p] v pos) (tAsg (tD Γ E (M.eval F (.compR tg one kk cap i0 elt))) (gName i)):=by
 have hv:=(sndE (.compR tg one kk cap i0 elt) go h).1
 unfold chkE at h
 first
 | exact absurd h Bool.false_ne_true
 | (
  split at h
  ·rename_i y t x1 p1 scope p0
   simp only [Bool.and_eq_true,List.all_eq_true,decide_eq_true_eq]at h
   obtain⟨⟨⟨⟨⟨⟨h1,h2⟩,h3⟩,h4⟩,h5⟩,h6⟩,h7⟩:=h
   have sc:=ji h1
   obtain⟨b,hb⟩: ∃b,swapsWith (.ListComp y [⟨t,.Name x1 p1,[],0⟩] scope p0) (some (.Name x p)) pos.line X.env=pure b:=⟨_,rfl⟩
   cases b with
   | false=>exact Wm go hl hv hb
   | true=>
    obtain⟨g1,g2⟩:=Zn hl
    exact snd_setCompR go g1 g2 hb sc h3 h2 h4 h5 h6 fun C fp s H=>(sndE elt (Jh go sc C fp s H) h7).1
  ·cases h)
theorem Za (go:Go Γ F X E k cf){v:Expr}{i:Nat}{x:Str}{p pos:Pos}(hl:storB cf i x=true){m:M.E}(h:chkE cf m v=true) (hm:isSC m=false):PS X (.Assign [.Name x p] v pos) (tAsg (tD Γ E (M.eval F m)) (gName i)):=
 Wm go hl (sndE m go h).1 (Qn (wZ h hm))
theorem WN (go:Go Γ F X E k cf){v:Expr}{i:Nat}{x:Str}{p pos:Pos}(hl:storB cf i x=true): ∀(m:M.E),chkE cf m v=true->PS X (.Assign [.Name x p] v pos) (tAsg (tD Γ E (M.eval F m)) (gName i))
 | .share a,h=>PS.imp (WN go hl a (by unfold chkE at h;exact h)) fun D σ H q=>jY q
 | .comp ..,h=>J2 go hl h
 | .compR ..,h=>wR go hl h
 | .dnew,h=>Za go hl h rfl
 | .din ..,h=>Za go hl h rfl
 | .dlen _,h=>Za go hl h rfl
 | .var _,h=>Za go hl h rfl
 | .con _,h=>Za go hl h rfl
 | .int _,h=>Za go hl h rfl
 | .bl _,h=>Za go hl h rfl
 | .non,h=>Za go hl h rfl
 | .str _,h=>Za go hl h rfl
 | .tup _,h=>Za go hl h rfl
 | .lst _,h=>Za go hl h rfl
 | .bin ..,h=>Za go hl h rfl
 | .cmp ..,h=>Za go hl h rfl
 | .chain ..,h=>Za go hl h rfl
 | .isn ..,h=>Za go hl h rfl
 | .neg _,h=>Za go hl h rfl
 | .inv _,h=>Za go hl h rfl
 | .not _,h=>Za go hl h rfl
 | .and ..,h=>Za go hl h rfl
 | .or ..,h=>Za go hl h rfl
 | .ite ..,h=>Za go hl h rfl
 | .call ..,h=>Za go hl h rfl
 | .bi ..,h=>Za go hl h rfl
 | .isT ..,h=>Za go hl h rfl
 | .isX ..,h=>Za go hl h rfl
 | .ix ..,h=>Za go hl h rfl
 | .sl ..,h=>Za go hl h rfl
 | .slL ..,h=>Za go hl h rfl
 | .slH ..,h=>Za go hl h rfl
 | .rev _,h=>Za go hl h rfl
 | .lenset _,h=>Za go hl h rfl
 | .lensT _,h=>Za go hl h rfl
 | .trange _,h=>Za go hl h rfl
 | .lrange _,h=>Za go hl h rfl
 | .sorti _,h=>Za go hl h rfl
 | .geT ..,h=>Za go hl h rfl
 | .ltL ..,h=>Za go hl h rfl
 | .meth ..,h=>Za go hl h rfl
 | .tix ..,h=>Za go hl h rfl
 | .tget ..,h=>Za go hl h rfl
 | .dlit ..,h=>Za go hl h rfl
 | .fstr _,h=>Za go hl h rfl
 | .strI _,h=>Za go hl h rfl
theorem wW (go:Go Γ F X E k cf){v:Expr}{i:Nat}{x:Str}{p pos:Pos}(hl:storB cf i x=true){m:M.E}(h:chkE cf m v=true):PS X (.Assign [.Name x p] v pos) (tDS Γ E (M.exec F (.set i m))):=by
 refine PS.imp (WN go hl m h) fun D σ H qq=> ?_
 obtain⟨B,G,τ,h,s,p⟩:=qq
 rw [M.exec]at p
 refine Je s p fun w v h1 G1 H1 e1 s1 r1 f1 p1=> ?_
 cases w with
 | bor xs=>exact p1.elim
 | v d=>exact p1 G1 _ H1 (StS.set s e1 s1 r1 f1 fun xs z=>by cases z)
 | own ys=>exact p1 G1 _ H1 (StS.set s e1 s1 r1 f1 fun xs z=>by cases z)
theorem qR (go:Go Γ F X E k cf){v:Expr}{i:Nat}{x:Str}{p pos:Pos}(hl:storB cf i x=true){m:M.E}(h:chkE cf m v=true):PS X (.Assign [.Name x p] v pos) (tDS Γ E (M.exec F (.setf i m))):=by
 refine PS.imp (WN go hl m h) fun D σ H qq=> ?_
 obtain⟨B,G,τ,h,s,p⟩:=qq
 rw [M.exec]at p
 refine Je s p fun w v h1 G1 H1 e1 s1 r1 f1 p1=> ?_
 cases q:w.d with
 | none=>rw [q]at p1;exact p1.elim
 | some d=>
  rw [q]at p1
  obtain⟨G2,e2,s2,rd⟩:=StS.fz s e1 s1 r1 f1 q
  exact p1 G2 _ H1 (s2.setD rd)
theorem Jx {v x y:Expr}{p:Pos}{l:Nat}{env:Env}:swapsWithSole [.Subscript x y p] v l env=pure false:=by
 cases v<;>rfl
theorem zr {v x y:Expr}{p:Pos}{env:Env}:swappedStores [.Subscript x y p] v env=pure none:=by
 cases v<;>rfl
theorem jS {x y:Expr}{p:Pos}{env:Env}(hy:notSlice y=true) (v:Value):assign (.Subscript x y p) env v=(do
 let ov ←holding [v] (eval x env)
 let iv ←holding [v,ov] (eval y env)
 standAt p
 holding [v,ov,iv] (setItem ov iv v)
 release [v,ov,iv] []):=by
 cases y<;>first | rfl | (simp [notSlice]at hy)
theorem qG {G G':Gh}{H H':Hp}{d:M.D}{v:V}(hf:M.flat d=true) (z:RelD Γ G H d v):RelD Γ G' H' d v:=by
 cases d with
 | non=>exact z
 | bl _=>exact z
 | int _=>exact z
 | str _=>exact z
 | _=>exact absurd (show false=true from hf) Bool.false_ne_true
theorem ZH {d:M.D}(hf:M.flat d=true):M.noRef d=true:=by
 cases d<;>first | rfl | exact absurd (show false=true from hf) Bool.false_ne_true
theorem JD (go:Go Γ F X E k cf){x y v:Expr}{p pos:Pos}(hy:notSlice y=true){o kx m:M.E}(ho:chkE cf o x=true) (hk:chkE cf kx y=true) (h:chkE cf m v=true):PS X (.Assign [.Subscript x y p] v pos) (tDS Γ E (M.exec F (.setref o kx m))):=by
 refine PS.imp (X4 (sndE m go h).1 (Q6 (sndE o go ho).1 (sndE kx go hk).1 wF (jS hy)) Jx zr rfl) fun D σ H qq=> ?_
 obtain⟨B,G,τ,h,s,p⟩:=qq
 rw [M.exec]at p
 refine Je s p fun w v h1 G1 H1 e1 s1 r1 f1 p1=> ?_
 refine Je s1 p1 fun ow ov h2 G2 H2 e2 s2 r2 f2 p2=> ?_
 refine Je s2 p2 fun kw iv h3 G3 H3 e3 s3 r3 f3 p3=> ?_
 unfold M.setC at p3
 split at p3
 ·rename_i d r j
  split at p3
  ·rename_i xs q
   split at p3
   ·rename_i n qn
    split at p3
    ·rename_i hf
     obtain⟨h4,h5⟩:=(show RelD Γ G3 H3 (.ref r) ov from RelW.ext (w:= .v (.ref r)) e3 s2.st.heap r2)
     subst h5
     cases (show iv= .int j from r3)
     have rd:RelD Γ G3 H3 d v:=qG hf r1
     obtain⟨_,vs,hv,rv⟩:=s3.st.heap.cell r xs q
     refine⟨_,vs,j,n,rfl,rfl,hv,by rw [← rv.length];exact qn,?_⟩
     exact p3 G3 σ _ (s3.cell q (Xq xs n (s3.st.heap.pure r xs q) (ZH hf)) (RelDs.set rd n rv))
    ·exact p3.elim
   ·exact p3.elim
  ·exact p3.elim
 ·exact p3.elim
theorem wX {i:Nat}{m:Str}{e:Expr}{cpos:Pos}(h:isMeth cf i m e cpos=true): ∃x p apos,e= .Attribute (.Name x p) m apos/\cf.N[i]? =some x/\visB cf.sc x=true/\nmB x=true/\(apos.endLine==cpos.line)=true:=by
 unfold isMeth at h
 split at h
 ·simp only [Bool.and_eq_true,decide_eq_true_eq]at h
  obtain⟨⟨⟨⟨h1,h2⟩,h3⟩,rfl⟩,h5⟩:=h
  exact⟨_,_,_,rfl,h1,h2,h3,h5⟩
 ·cases h
theorem J0 (go:Go Γ F X E k cf){v f:Expr}{i:Nat}{cpos pos:Pos}(hf:isMeth cf i "append" f cpos=true) (hv:notStar v=true){m:M.E}(h:chkE cf m v=true):PS X (.Expr (.Call f [v] [] cpos) pos) (tDS Γ E (M.exec F (.app i m))):=by
 obtain⟨x,p,apos,rfl,h1,h2,h3,h4⟩:=wX hf
 unfold nmB at h3
 rw [Bool.and_eq_true]at h3
 have pv:=wv (X:=X) (pos:=p) (by rw [go.N];exact h1) (go.vis x h2) (by simpa using h3.1) (by simpa using h3.2)
 refine PS.imp (zap (xaN PySem.F.plainAttrs_list PySem.F.slot_list_append PySem.F.type_list_append XT pv (Xb (sndE m go h).1 zf (qa hv)) rfl (by rw [qa hv];rfl) h4 (qa hv) rfl) (Qn rfl)) fun D σ H qq=> ?_
 obtain⟨B,G,τ,h,s,p⟩:=qq
 rw [M.exec]at p
 cases q:M.getS τ i with
 | none=>rw [q]at p;exact p.elim
 | some w0=>
  rw [q]at p
  cases w0 with
  | v d=>exact p.elim
  | bor ys=>exact p.elim
  | own ys=>
   obtain⟨v0,e0,a,vs,rfl,z2,z3,z4,z5⟩:=s.st.slot i _ q
   refine⟨.ref a,e0,.inl ⟨rfl,vs,SqL.of z4⟩,?_⟩
   refine Je s p fun w v h1 G1 H1 e1 s1 r1 f1 p1=> ?_
   cases qd:w.d with
   | none=>rw [qd]at p1;exact p1.elim
   | some d=>
    rw [qd]at p1
    obtain⟨G2,e2,s2,rd⟩:=StS.fz s e1 s1 r1 f1 qd
    have p1:PostO Γ E B (if ys.length<M.LIM then .next (M.setS τ i (.own (ys++ [d]))) h1 else .fail) D:=p1
    by_cases hL:ys.length<M.LIM
    ·rw [if_pos hL]at p1
     obtain⟨nf,of,us,ha,rs⟩:=Xf s2.st q e0
     have hlen:=rs.length
     exact⟨a,us,v,rfl,rfl,ha,by have:=Xd;omega,p1 G2 σ _ (s2.write q e0 (rs.append ⟨v,[],rfl,rd,rfl⟩))⟩
    ·rw [if_neg hL]at p1;exact p1.elim
def rRem (Γ:Ge):V->List V->Hp->VK->Prop:=fun x vs H Q=> ∃G l us y d xs j,∃hj:j<xs.length,x= .ref l/\vs= [y]/\H l=some (.lst us)/\RelDs Γ G H xs us/\RelD Γ G H d y/\M.noRef d=true/\M.noRefs xs=true/\M.deps xs<140 ∧
 M.eqD xs[j] d=true/\(∀ m (hm:m<xs.length),m<j->M.eqD xs[m] d=false)/\Q .non (upd H l (.lst (us.eraseIdx j)))
theorem wH (go:Go Γ F X E k cf){x:Str}{y v:Expr}{i:Nat}{p p2 pos:Pos}(h1:cf.N[i]? =some x) (h2:visB cf.sc x=true) (h3:nmB x=true) (hy:notSlice y=true){kx m:M.E}(hk:chkE cf kx y=true) (h:chkE cf m v=true):PS X (.Assign [.Subscript (.Name x p) y p2] v pos) (tDS Γ E (M.exec F (.setix i kx m))):=by
 unfold nmB at h3
 rw [Bool.and_eq_true]at h3
 have pv:=wv (X:=X) (pos:=p) (by rw [go.N];exact h1) (go.vis x h2) (by simpa using h3.1) (by simpa using h3.2)
 refine PS.imp (X4 (sndE m go h).1 (Q6 pv (sndE kx go hk).1 wF (jS hy)) Jx zr rfl) fun D σ H qq=> ?_
 obtain⟨B,G,τ,h,s,p⟩:=qq
 rw [M.exec]at p
 refine Je s p fun w v h1 G1 H1 e1 s1 r1 f1 p1=> ?_
 cases q:M.getS τ i with
 | none=>rw [q]at p1;exact p1.elim
 | some w0=>
  rw [q]at p1
  cases w0 with
  | v d=>exact p1.elim
  | bor ys=>exact p1.elim
  | own ys=>
   obtain⟨v0,e0,a,vs,rfl,z2,z3,z4,z5⟩:=s1.st.slot i _ q
   refine⟨.ref a,e0,?_⟩
   refine Je s1 p1 fun kw iv h2 G2 H2 e2 s2 r2 f2 p2=> ?_
   split at p2
   ·rename_i d j
    split at p2
    ·rename_i hf
     split at p2
     ·rename_i n qn
      cases (show iv= .int j from r2)
      have rd:RelD Γ G2 H2 d v:=qG hf r1
      obtain⟨nf,of,us,ha,rs⟩:=Xf s2.st q e0
      refine⟨_,us,j,n,rfl,rfl,ha,by rw [← rs.length];exact qn,?_⟩
      exact p2 G2 σ _ (s2.write q e0 (RelDs.set rd n rs))
     ·exact p2.elim
    ·exact p2.elim
   ·exact p2.elim
end
end L2.MS
namespace L2.MS
open PySem PySem.Spec PyProof.Rows
section
variable {Γ:Ge}{E:XK}{B:Bs}{G:Gh}{τ:M.Sl}{h:M.AH}{σ:St}{H:Hp}{D:Ends}
theorem JK {a:Addr}{i:Nat}{xs:List M.D}(e1:M.getS τ i=some (.own xs)) (e2:σ[i]? =some (some (.ref a))):hideO τ σ H a=none:=by
 unfold hideO
 rw [if_pos ⟨i,xs,e1,e2⟩]
theorem XF {a:Addr}{o:HO}(e:hideO τ σ H a=some o):H a=some o:=by
 unfold hideO at e
 split at e
 ·cases e
 ·exact e
theorem ZK (s:StRel Γ G τ h σ H):HRel Γ G h (hideO τ σ H) where
 len:=s.heap.len
 cell:=fun r xs e=>by
  obtain⟨z1,vs,z2,z3⟩:=s.heap.cell r xs e
  have hr:r<G.n:=by rw [← s.heap.len];exact(List.getElem?_eq_some_iff.mp e).1
  exact⟨z1,vs,by rw [Qc fun⟨i,ys,q1,q2⟩=>(Xf s q1 q2).2.1 r hr rfl];exact z2,z3.mon (Xg s)⟩
 pure:=s.heap.pure
 inj:=s.heap.inj
 live:=fun a z=>by
  obtain⟨o,q⟩:=s.heap.live a z
  exact⟨o,by rw [Qc fun⟨i,ys,q1,q2⟩=>(Xf s q1 q2).1 z];exact q⟩
 dic:=fun r ks e=>by
  obtain⟨z1,xs,z2,z3,z4⟩:=s.heap.dic r ks e
  have hr:r<G.n:=by rw [← s.heap.len];exact(List.getElem?_eq_some_iff.mp e).1
  exact⟨z1,xs,by rw [Qc fun⟨i,ys,q1,q2⟩=>(Xf s q1 q2).2.1 r hr rfl];exact z2,z3,fun x hx=>(z4 x hx).mon (Xg s)⟩
noncomputable def reB (G:Gh) (τ:M.Sl) (h:M.AH) (σ:St) (H:Hp):Bs:=⟨G,hideO τ σ H,h⟩
theorem Qm (s:StS Γ B G τ h σ H):Ext B.G B.H G (hideO τ σ H) where
 keep:=fun a o e hof=>by
  rw [Qc fun⟨i,xs,q1,q2⟩=>by rw [s.own i xs a q1 q2]at e;cases e]
  exact s.ext.keep a o e hof
 le:=s.ext.le
 rho:=s.ext.rho
 new:=s.ext.new
 fz:=s.ext.fz
 old:=s.ext.old
 cells:=fun r hr z=>by
  obtain⟨o,q⟩:=s.ext.cells r hr z
  refine⟨o,?_⟩
  rw [Qc fun qq=>by
   obtain⟨i,xs,q1,q2⟩:=qq
   obtain⟨u,z⟩:=z
   rw [s.own i xs _ q1 q2]at z
   cases z]
  exact q
theorem jar (s:StS Γ B G τ h σ H):StS Γ (reB G τ h σ H) G τ h σ H where
 st:=s.st
 ext:=⟨fun a o e _=>XF e,Nat.le_refl _,fun _ _=>rfl,fun r h1 h2=>absurd h1 (Nat.not_le.mpr h2),fun _ z=>z,fun _ z=> .inl z,fun r hr ⟨o,z⟩=>⟨o,XF z⟩⟩
 hr:=ZK s.st
 own:=fun i xs a e1 e2=>JK e1 e2
theorem Xt (s:StS Γ B G τ h σ H){G2:Gh}{τ2:M.Sl}{h2:M.AH}{σ2:St}{H2:Hp}(s2:StS Γ (reB G τ h σ H) G2 τ2 h2 σ2 H2):StS Γ B G2 τ2 h2 σ2 H2:=
 ⟨s2.st,(Qm s).trans s.hr s2.ext,s.hr,fun i xs a e1 e2=>(Qm s).none s.hr (s2.own i xs a e1 e2)⟩
theorem JV (s:StS Γ B G τ h σ H){o:M.O}(p:PostO Γ E B o D):PostO Γ E (reB G τ h σ H) o D:=by
 cases o with
 | next τ' h'=>exact fun G' σ' H' s'=>p G' σ' H' (Xt s s')
 | brk τ' h'=>exact fun G' σ' H' s'=>p G' σ' H' (Xt s s')
 | cont τ' h'=>exact fun G' σ' H' s'=>p G' σ' H' (Xt s s')
 | ret w h'=>
  refine fun G' v H' e hr r f=>p G' v H' ((Qm s).trans s.hr e) hr r ?_
  cases w with
  | v d=>trivial
  | own xs=>obtain⟨a,z1,z2⟩:=f;exact⟨a,z1,(Qm s).none s.hr z2⟩
  | bor xs=>exact f
 | exc d h'=>exact fun G' H' e hr=>p G' H' ((Qm s).trans s.hr e) hr
 | fail=>exact p
end
section
variable {Γ:Ge}{F:M.Fx}{X:Cx}{E:XK}{k:Nat}{cf:Cf}
theorem CL.hide {G:Gh}{τ:M.Sl}{h:M.AH}{σ:St}{H:Hp}{ds:List M.D}{l:Addr}{vs:List V}(s:StRel Γ G τ h σ H) (c:CL Γ ds l vs G H) (hn: ¬ ∃(i:Nat) (xs:List M.D),M.getS τ i=some (.own xs)/\σ[i]? =some (some (.ref l))):CL Γ ds l vs G (hideO τ σ H):=by
 obtain⟨z1,z3⟩:=c
 refine⟨?_,z3.mon (Xg s)⟩
 rcases z1 with⟨z1,z2⟩ | z1
 ·refine .inl ⟨?_,z2⟩
  rcases z1 with z1 | ⟨o,z1⟩
  ·exact .inl (by rw [Qc hn];exact z1)
  ·exact .inr ⟨o,by rw [Qc hn];exact z1⟩
 ·exact .inr z1
theorem CL.hideS {G:Gh}{τ:M.Sl}{h:M.AH}{σ:St}{H:Hp}{ds:List M.D}{l:Addr}{vs:List V}(s:StRel Γ G τ h σ H) (z2:StL Γ G H l vs) (z3:RelDs Γ G H ds vs):CL Γ ds l vs G (hideO τ σ H):=by
 refine⟨?_,z3.mon (Xg s)⟩
 rcases z2 with z2 | z2
 ·exact(CL.hide s (ds:=ds) ⟨.inl ⟨z2.2,s.heap.off z2.1⟩,z3⟩ fun⟨j,ys,q1,q2⟩=>(Xf s q1 q2).1 z2.1).1
 ·exact .inr z2
theorem CT.hide {G:Gh}{τ:M.Sl}{h:M.AH}{σ:St}{H:Hp}{ds:List M.D}{l:Addr}{vs:List V}(s:StRel Γ G τ h σ H) (c:CT Γ ds l vs G H):CT Γ ds l vs G (hideO τ σ H):=⟨c.1.mon (Xg s),c.2.mon (Xg s)⟩
theorem wn {a:M.E}{i:Nat}(h:M.isVar a=some i):a= .var i:=by
 cases a<;>first | (cases h;rfl) | cases h
theorem xaa {i:Nat}{e:Expr}(h:chkE cf (.var i) e=true): ∃x p,e= .Name x p/\cf.N[i]? =some x/\visB cf.sc x=true/\nmB x=true:=by
 unfold chkE at h
 split at h
 ·simp only [Bool.and_eq_true,decide_eq_true_eq]at h
  exact⟨_,_,rfl,h.1.1,h.1.2,h.2⟩
 ·cases h
theorem qai (go:Go Γ F X E k cf){i:Nat}{e:Expr}(h:chkE cf (.var i) e=true):PE X e (tVar i):=by
 obtain⟨x,p,rfl,h1,h2,h3⟩:=xaa h
 unfold nmB at h3
 rw [Bool.and_eq_true]at h3
 exact wv (by rw [go.N];exact h1) (go.vis x h2) (by simpa using h3.1) (by simpa using h3.2)
theorem wA {G:Gh}{τ:M.Sl}{h:M.AH}{σ:St}{H:Hp}(s:StRel Γ G τ h σ H){i:Nat}{w:M.W}{xs:List M.D}(e:M.getS τ i=some w) (hw:w= .v (.lst xs)\/w= .bor xs):
 ∃l vs,σ[i]? =some (some (.ref l))/\CL Γ xs l vs G H/\CL Γ xs l vs G (hideO τ σ H):=by
 obtain⟨v,e2,r⟩:=s.slot i w e
 rcases hw with rfl | rfl
 ·obtain⟨l,vs,rfl,z2,z3⟩:=r
  exact⟨l,vs,e2,⟨z2.lok s.heap,z3⟩,CL.hideS s z2 z3⟩
 ·obtain⟨l,vs,rfl,z2,z3,z4⟩:=r
  have c:CL Γ xs l vs G H:=⟨.inl ⟨z3,z2⟩,z4⟩
  refine⟨l,vs,e2,c,c.hide s fun⟨j,ys,q1,q2⟩=> ?_⟩
  have hji:j≠i:=fun z=>by rw [z,e]at q1;cases q1
  exact s.apart j i ys _ l hji q1 e rfl q2 e2
theorem jo {G0 G:Gh}{τ:M.Sl}{h0 h:M.AH}{σ:St}{H0 H:Hp}(s0:StRel Γ G0 τ h0 σ H0) (s:StRel Γ G τ h σ H){w:M.W}{v:V}{xs:List M.D}(r:RelW Γ G H w v) (f:FreshW τ σ H0 w v) (hw:w= .v (.lst xs)\/w= .own xs):
 ∃l vs,v= .ref l/\CL Γ xs l vs G H/\CL Γ xs l vs G (hideO τ σ H):=by
 rcases hw with rfl | rfl
 ·obtain⟨l,vs,rfl,z2,z3⟩:=r
  exact⟨l,vs,rfl,⟨z2.lok s.heap,z3⟩,CL.hideS s z2 z3⟩
 ·obtain⟨l,vs,rfl,z2,z3,z4,z5⟩:=r
  obtain⟨l',el,hn⟩:=f
  cases el
  have c:CL Γ xs l vs G H:=⟨.inl ⟨.inl z4,z3⟩,z5⟩
  refine⟨l,vs,rfl,c,c.hide s fun⟨j,ys,q1,q2⟩=> ?_⟩
  obtain⟨o,z⟩:=s0.slotThere q1 rfl q2
  rw [hn]at z;cases z
theorem XX (go:Go Γ F X E k cf){a:M.E}{e tg:Expr}(hc:chkE cf a e=true):PI X tg e (tDI Γ E true (M.evalLp F (.seq a))):=by
 cases q:M.isVar a with
 | some i=>
  cases wn q
  refine PI.imp (xM (qai go hc)) fun σ H R qq=> ?_
  obtain⟨G,τ,h,s,p⟩:=qq
  have p:Post Γ E G H (M.R.of h ((M.getS τ i).bind M.lpV)) fun ds _ G' H'=> ∀J C,WalkJ Γ J ds C->C G' H'->(true=true->C G' (hideO τ σ H'))->R J H':=p
  cases q1:M.getS τ i with
  | none=>rw [q1]at p;exact p.elim
  | some w=>
   rw [q1]at p
   have lst: ∀ {xs:List M.D},(w= .v (.lst xs)\/w= .bor xs)->Post Γ E G H (.ok xs h) (fun ds _ G' H'=> ∀J C,WalkJ Γ J ds C->C G' H'->(true=true->C G' (hideO τ σ H'))->R J H') →
    ∃v,σ[i]? =some (some v)/\((∃ a,v= .ref a/\(∃ xs,SqL X.K H a xs)/\R (Itl X.K a) H)\/(∃ a,v= .ref a/\(∃ xs,SqT X.K H a xs)/\R (Itt X.K a) H)\/ ∃z,v= .str z/\R (Its z) H):=fun {xs} hw p=>by
    obtain⟨l,vs,e2,c1,c2⟩:=wA s q1 hw
    exact⟨_,e2,.inl ⟨l,rfl,⟨vs,go.K▸c1.1.sq⟩,p G H Ext.refl s.heap _ _ (CL.walk go.K) c1 fun _=>c2⟩⟩
   cases w with
   | v d=>
    cases d with
    | lst xs=>exact lst (.inl rfl) p
    | tup xs=>
     obtain⟨v,e2,l,vs,rfl,z2,z3⟩:=s.slot i _ q1
     have c:CT Γ xs l vs G H:=⟨z2,z3⟩
     exact⟨_,e2,.inr (.inl ⟨l,rfl,⟨vs,go.K▸z2.sq⟩,p G H Ext.refl s.heap _ _ (CT.walk go.K) c fun _=>c.hide s⟩)⟩
    | non=>exact p.elim
    | bl _=>exact p.elim
    | int _=>exact p.elim
    | str z=>
     obtain⟨v,e2,r⟩:=s.slot i _ q1
     cases (show v= .str (txS z)from r)
     exact⟨_,e2,.inr (.inr ⟨_,rfl,p G H Ext.refl s.heap _ _ Wn trivial fun _=>trivial⟩)⟩
    | ref _=>exact p.elim
    | exc _ _=>exact p.elim
   | bor xs=>exact lst (.inr rfl) p
   | own xs=>exact p.elim
 | none=>
  refine PI.imp (xM (sndE a go hc).1) fun σ H R qq=> ?_
  obtain⟨G,τ,h,s,p⟩:=qq
  have p:Post Γ E G H ((M.eval F a τ h).bind fun w h=>M.R.of h (M.lpW w)) fun ds _ G' H'=> ∀J C,WalkJ Γ J ds C->C G' H'->(true=true->C G' (hideO τ σ H'))->R J H':=by
   unfold M.evalLp at p
   dsimp only at p
   rw [q]at p
   exact p
  refine Ja s.heap Ext.refl s p fun w1 v1 h1 G1 H1 e1 e1' s1 r1 f1 p1=> ?_
  have lst: ∀ {xs:List M.D},(w1= .v (.lst xs)\/w1= .own xs)->Post Γ E G H (.ok xs h1) (fun ds _ G' H'=> ∀J C,WalkJ Γ J ds C->C G' H'->(true=true->C G' (hideO τ σ H'))->R J H') →
   ((∃ a,v1= .ref a/\(∃ xs,SqL X.K H1 a xs)/\R (Itl X.K a) H1)\/(∃ a,v1= .ref a/\(∃ xs,SqT X.K H1 a xs)/\R (Itt X.K a) H1)\/ ∃z,v1= .str z/\R (Its z) H1):=fun {xs} hw p=>by
   obtain⟨l,vs,e2,c1,c2⟩:=jo s s1 r1 f1 hw
   exact .inl ⟨l,e2,⟨vs,go.K▸c1.1.sq⟩,p G1 H1 e1 s1.heap _ _ (CL.walk go.K) c1 fun _=>c2⟩
  cases w1 with
  | v d=>
   cases d with
   | lst xs=>exact lst (.inl rfl) p1
   | tup xs=>
    obtain⟨l,vs,rfl,z2,z3⟩:=r1
    have c:CT Γ xs l vs G1 H1:=⟨z2,z3⟩
    exact .inr (.inl ⟨l,rfl,⟨vs,go.K▸z2.sq⟩,p1 G1 H1 e1 s1.heap _ _ (CT.walk go.K) c fun _=>c.hide s1⟩)
   | non=>exact p1.elim
   | bl _=>exact p1.elim
   | int _=>exact p1.elim
   | str z=>
    cases (show v1= .str (txS z)from r1)
    exact .inr (.inr ⟨_,rfl,p1 G1 H1 e1 s1.heap _ _ Wn trivial fun _=>trivial⟩)
   | ref _=>exact p1.elim
   | exc _ _=>exact p1.elim
  | own xs=>exact lst (.inr rfl) p1
  | bor xs=>exact p1.elim
theorem J1 (go:Go Γ F X E k cf){a:M.E}{g x tg:Expr}{pos:Pos}(hg:gNm cf.sc "reversed" g=true) (hx:notStar x=true) (hc:chkE cf a x=true):PI X tg (.Call g [x] [] pos) (tDI Γ E true (M.evalLp F (.rev a))):=by
 obtain⟨p0,rfl,h2,h3⟩:=xb hg
 cases q:M.isVar a with
 | some i=>
  cases wn q
  refine PI.imp (ZL (go.gl _ h2) (go.blt _ jak) (Xb (qai go hc) zf (qa hx)) (qa hx)) fun σ H R qq=> ?_
  obtain⟨G,τ,h,s,p⟩:=qq
  have p:Post Γ E G H (M.R.of h ((M.getS τ i).bind M.lpVr)) fun ds _ G' H'=> ∀J C,WalkJ Γ J ds C->C G' H'->(true=true->C G' (hideO τ σ H'))->R J H':=p
  cases q1:M.getS τ i with
  | none=>rw [q1]at p;exact p.elim
  | some w=>
   rw [q1]at p
   have lst: ∀ {xs:List M.D},(w= .v (.lst xs)\/w= .bor xs)->Post Γ E G H (.ok xs.reverse h) (fun ds _ G' H'=> ∀J C,WalkJ Γ J ds C->C G' H'->(true=true->C G' (hideO τ σ H'))->R J H') →
    ∃v,σ[i]? =some (some v)/\ ∃a xs,[v]= [.ref a]/\SqL X.K H a xs/\R (Itv X.K a xs.length) H:=fun {xs} hw p=>by
    obtain⟨l,vs,e2,c1,c2⟩:=wA s q1 hw
    exact⟨_,e2,l,vs,rfl,go.K▸c1.1.sq,p G H Ext.refl s.heap _ _ (CL.walkR go.K) c1 fun _=>c2⟩
   cases w with
   | v d=>
    cases d with
    | lst xs=>exact lst (.inl rfl) p
    | tup _=>exact p.elim
    | non=>exact p.elim
    | bl _=>exact p.elim
    | int _=>exact p.elim
    | str _=>exact p.elim
    | ref _=>exact p.elim
    | exc _ _=>exact p.elim
   | bor xs=>exact lst (.inr rfl) p
   | own xs=>exact p.elim
 | none=>
  refine PI.imp (ZL (go.gl _ h2) (go.blt _ jak) (Xb (sndE a go hc).1 zf (qa hx)) (qa hx)) fun σ H R qq=> ?_
  obtain⟨G,τ,h,s,p⟩:=qq
  have p:Post Γ E G H ((M.eval F a τ h).bind fun w h=>M.R.of h (M.lpWr w)) fun ds _ G' H'=> ∀J C,WalkJ Γ J ds C->C G' H'->(true=true->C G' (hideO τ σ H'))->R J H':=by
   unfold M.evalLp at p
   dsimp only at p
   rw [q]at p
   exact p
  refine Ja s.heap Ext.refl s p fun w1 v1 h1 G1 H1 e1 e1' s1 r1 f1 p1=> ?_
  have lst: ∀ {xs:List M.D},(w1= .v (.lst xs)\/w1= .own xs)->Post Γ E G H (.ok xs.reverse h1) (fun ds _ G' H'=> ∀J C,WalkJ Γ J ds C->C G' H'->(true=true->C G' (hideO τ σ H'))->R J H') →
   ∃a xs,[v1]= [.ref a]/\SqL X.K H1 a xs/\R (Itv X.K a xs.length) H1:=fun {xs} hw p=>by
   obtain⟨l,vs,e2,c1,c2⟩:=jo s s1 r1 f1 hw
   exact⟨l,vs,by rw [e2],go.K▸c1.1.sq,p G1 H1 e1 s1.heap _ _ (CL.walkR go.K) c1 fun _=>c2⟩
  cases w1 with
  | v d=>
   cases d with
   | lst xs=>exact lst (.inl rfl) p1
   | tup _=>exact p1.elim
   | non=>exact p1.elim
   | bl _=>exact p1.elim
   | int _=>exact p1.elim
   | str _=>exact p1.elim
   | ref _=>exact p1.elim
   | exc _ _=>exact p1.elim
  | own xs=>exact lst (.inr rfl) p1
  | bor xs=>exact p1.elim
theorem jm: ∀(ds:List M.D) (i:Nat),(M.numD i ds).length=ds.length
 | [],_=>rfl
 | d::ds,i=>congrArg (· +1) (jm ds (i+1))
theorem QG: ∀(ds:List M.D) (j i:Nat) (h:i<ds.length),(M.numD j ds)[i]? =some (.tup [.int ((j+i:Nat):Int),ds[i]])
 | d::ds,j,0,_=>rfl
 | d::ds,j,i+1,h=>by
  have:=QG ds (j+1) i (by simpa using h)
  rw [show j+1+i=j+(i+1)by omega]at this
  simpa [M.numD]using this
theorem xaH: "enumerate" ∈bltN:=by decide
theorem CT.walkE {ds:List M.D}{l:Addr}{vs:List V}{K:PySem.W.Frag}(hK:K=Γ.K):WalkJ Γ (Ite K l) (M.numD 0 ds) (CT Γ ds l vs) where
 go:=fun i G H ⟨z1,z3⟩ hi=>by
  rw [jm]at hi
  obtain⟨v,e,_⟩:=z3.get (List.getElem?_eq_getElem hi)
  exact⟨vs,v,hK▸z1.sq,e⟩
 yld:=fun i G H x H' ⟨z1,z3⟩ hi ⟨p,y,hp,ex,eh,hy⟩=>by
  rw [jm]at hi
  subst ex eh
  obtain⟨v,e,rd⟩:=z3.get (List.getElem?_eq_getElem hi)
  have:=hy vs (hK▸z1.sq)
  rw [e]at this
  cases this
  refine⟨G.more p,Wg _ hp,fun h hr=>hr.newF _ hp,.tup [.int (i:Int),ds[i]],by rw [QG ds 0 i hi,Nat.zero_add],⟨p,[.int (i:Int),y],rfl,.inl ⟨.inr rfl,xc⟩,⟨.int (i:Int),[y],rfl,rfl,⟨y,[],rfl,?_,rfl⟩⟩⟩⟩
  have mm:Mon G H (G.more p) (upd H p (.tup [.int (i:Int),y])):=⟨fun a o ha q=>by rw [ja (xa q hp)];exact q,Nat.le_refl _,fun _ _=>rfl,fun _ z=>Or.inl z⟩
  exact rd.mon mm
 stop:=fun i G H ⟨z1,z3⟩ h1 h2=>by
  rw [jm]at h1 h2
  exact⟨vs,hK▸z1.sq,by rw [← z3.length];omega⟩
 keep:=fun G H G' H' h z e hr=>⟨z.1.mon (e.mon hr),z.2.ext e hr⟩
theorem wP (go:Go Γ F X E k cf){a:M.E}{g x:Expr}{pos tp:Pos}{elts:List Expr}{x1:Nat}(hg:gNm cf.sc "enumerate" g=true) (hx:notStar x=true) (ha:PE X x (tD Γ E (M.eval F a))):PI X (.Tuple elts x1 tp) (.Call g [x] [] pos) (tDI Γ E true (M.evalLp F (.enum a))):=by
 obtain⟨p0,rfl,h2,h3⟩:=xb hg
 refine PI.imp (xag (go.gl _ h2) (go.blt _ xaH) (Xb ha zf (qa hx)) (qa hx)) fun σ H R qq=> ?_
 obtain⟨G,τ,h,s,p⟩:=qq
 have p:Post Γ E G H ((M.eval F a τ h).bind fun w h=>match w with
  | .v (.tup xs)=> .ok (M.numD 0 xs) h
  | _=> .fail) fun ds _ G' H'=> ∀J C,WalkJ Γ J ds C->C G' H'->(true=true->C G' (hideO τ σ H'))->R J H':=p
 refine Ja s.heap Ext.refl s p fun w1 v1 h1 G1 H1 e1 e1' s1 r1 f1 p1=> ?_
 cases w1 with
 | v d=>
  cases d with
  | tup xs=>
   obtain⟨l,vs,rfl,z2,z3⟩:=r1
   have c:CT Γ xs l vs G1 H1:=⟨z2,z3⟩
   exact⟨l,vs,rfl,go.K▸z2.sq,p1 G1 H1 e1 s1.heap _ _ (CT.walkE go.K) c fun _=>c.hide s1⟩
  | non=>exact p1.elim
  | bl _=>exact p1.elim
  | int _=>exact p1.elim
  | str _=>exact p1.elim
  | lst _=>exact p1.elim
  | ref _=>exact p1.elim
  | exc _ _=>exact p1.elim
 | own xs=>exact p1.elim
 | bor xs=>exact p1.elim
theorem qaN: "zip" ∈bltN:=by decide
theorem CZ.walk {xs ys:List M.D}{l a:Addr}{vs us:List V}{K:PySem.W.Frag}(hK:K=Γ.K):WalkJ Γ (Itz K l a) ((xs.zip ys).map fun p=> .tup [p.1,p.2]) (fun G H=>CL Γ xs l vs G H/\CT Γ ys a us G H) where
 go:=fun i G H ⟨c1,c2⟩ hi=>by
  rw [List.length_map,List.length_zip]at hi
  obtain⟨v,e,_⟩:=c1.2.get (List.getElem?_eq_getElem (show i<xs.length by omega))
  obtain⟨v2,e2,_⟩:=c2.2.get (List.getElem?_eq_getElem (show i<ys.length by omega))
  exact⟨vs,v,us,v2,hK▸c1.1.sq,e,hK▸c2.1.sq,e2⟩
 yld:=fun i G H x H' ⟨c1,c2⟩ hi ⟨p,x1,y1,hp,ex,eh,h1,h2⟩=>by
  rw [List.length_map,List.length_zip]at hi
  subst ex eh
  have i1:i<xs.length:=by omega
  have i2:i<ys.length:=by omega
  obtain⟨v,e,rd⟩:=c1.2.get (List.getElem?_eq_getElem i1)
  obtain⟨v2,e2,rd2⟩:=c2.2.get (List.getElem?_eq_getElem i2)
  have q1:=h1 vs (hK▸c1.1.sq)
  rw [e]at q1
  cases q1
  have q2:=h2 us (hK▸c2.1.sq)
  rw [e2]at q2
  cases q2
  have mm:Mon G H (G.more p) (upd H p (.tup [x1,y1])):=⟨fun a o ha q=>by rw [ja (xa q hp)];exact q,Nat.le_refl _,fun _ _=>rfl,fun _ z=>Or.inl z⟩
  refine⟨G.more p,Wg _ hp,fun h hr=>hr.newF _ hp,.tup [xs[i],ys[i]],?_,⟨p,[x1,y1],rfl,.inl ⟨.inr rfl,xc⟩,⟨x1,[y1],rfl,rd.mon mm,⟨y1,[],rfl,rd2.mon mm,rfl⟩⟩⟩⟩
  rw [List.getElem?_map,List.getElem?_eq_getElem (by rw [List.length_zip];exact hi),List.getElem_zip]
  rfl
 stop:=fun i G H ⟨c1,c2⟩ h1 h2=>by
  rw [List.length_map,List.length_zip]at h1 h2
  exact⟨vs,us,hK▸c1.1.sq,hK▸c2.1.sq,by rw [← c1.2.length,←c2.2.length];omega⟩
 keep:=fun G H G' H' h ⟨c1,c2⟩ e hr=>⟨(CL.walk hK).keep G H G' H' h c1 e hr,⟨c2.1.mon (e.mon hr),c2.2.ext e hr⟩⟩
theorem WW (go:Go Γ F X E k cf){a b:M.E}{g x y:Expr}{pos tp:Pos}{elts:List Expr}{x1:Nat}(hg:gNm cf.sc "zip" g=true) (hx:notStar x=true) (hy:notStar y=true) (ha:PE X x (tD Γ E (M.eval F a))) (hb:PE X y (tD Γ E (M.eval F b))):PI X (.Tuple elts x1 tp) (.Call g [x,y] [] pos) (tDI Γ E true (M.evalLp F (.zip a b))):=by
 obtain⟨p0,rfl,h2,h3⟩:=xb hg
 refine PI.imp (jau (go.gl _ h2) (go.blt _ qaN) (Xb ha (Xb hb zf (qa hy)) (qa hx)) (by rw [qa hx,qa hy];rfl) (by rw [qa hy];rfl)) fun σ H R qq=> ?_
 obtain⟨G,τ,h,s,p⟩:=qq
 have p:Post Γ E G H ((M.eval F a τ h).bind fun x h=>(M.eval F b τ h).bind fun y h=>match x,y with
  | .own xs,.v (.tup ys)=> .ok ((xs.zip ys).map fun p=>M.D.tup [p.1,p.2]) h
  | _,_=> .fail) fun ds _ G' H'=> ∀J C,WalkJ Γ J ds C->C G' H'->(true=true->C G' (hideO τ σ H'))->R J H':=p
 refine Ja s.heap Ext.refl s p fun w1 v1 h1 G1 H1 e1 e1' s1 r1 f1 p1=> ?_
 refine Ja s.heap e1 s1 p1 fun w2 v2 h2 G2 H2 e2 e2' s2 r2 f2 p2=> ?_
 cases w1 with
 | v d=>exact p2.elim
 | bor xs=>exact p2.elim
 | own xs=>
  cases w2 with
  | own _=>exact p2.elim
  | bor _=>exact p2.elim
  | v d=>
   cases d with
   | tup ys=>
    obtain⟨l,vs,rfl,c1,c1'⟩:=jo s s2 (r1.ext e2' s1.heap) f1 (.inr rfl)
    obtain⟨l2,us,rfl,z2,z3⟩:=r2
    have c2:CT Γ ys l2 us G2 H2:=⟨z2,z3⟩
    exact⟨l,l2,vs,us,rfl,go.K▸c1.1.sq,go.K▸z2.sq,p2 G2 H2 e2 s2.heap _ _ (CZ.walk go.K) ⟨c1,c2⟩ fun _=>⟨c1',c2.hide s2⟩⟩
   | non=>exact p2.elim
   | bl _=>exact p2.elim
   | int _=>exact p2.elim
   | str _=>exact p2.elim
   | lst _=>exact p2.elim
   | ref _=>exact p2.elim
   | exc _ _=>exact p2.elim
theorem JL (cf:Cf) (a b:M.E) (e:Expr):chkLp cf (.zip a b) e=(match e with
 | .Call g [x,y] [] _=>gNm cf.sc "zip" g&&notStar x&&notStar y&&chkE cf a x&&chkE cf b y
 | _=>false):=by cases e<;>rfl
theorem JI (cf:Cf) (a:M.E) (e:Expr):chkLp cf (.enum a) e=(match e with
 | .Call g [x] [] _=>gNm cf.sc "enumerate" g&&notStar x&&chkE cf a x
 | _=>false):=by cases e<;>rfl
theorem sndL (go:Go Γ F X E k cf){it:M.It}{e tg:Expr}(he:enumOk it tg=true) (h:chkLp cf it e=true):PI X tg e (tDI Γ E true (M.evalLp F it))/\notSet e=true:=by
 cases it with
 | seq a=>
  have h:(notSet e&&chkE cf a e)=true:=h
  rw [Bool.and_eq_true]at h
  exact⟨XX go h.2,h.1⟩
 | range1 a=>
  have h:chkIt cf (.range1 a) e=true:=h
  unfold chkIt at h
  split at h
  ·simp only [Bool.and_eq_true]at h
   exact⟨xn go h.1.1 h.1.2 (sndE a go h.2).1,rfl⟩
  ·cases h
 | range2 a b=>
  have h:chkIt cf (.range2 a b) e=true:=h
  unfold chkIt at h
  split at h
  ·simp only [Bool.and_eq_true]at h
   exact⟨Jo go h.1.1.1.1 h.1.1.1.2 h.1.1.2 (sndE a go h.1.2).1 (sndE b go h.2).1,rfl⟩
  ·cases h
 | rev a=>
  have h:chkIt cf (.rev a) e=true:=h
  unfold chkIt at h
  split at h
  ·simp only [Bool.and_eq_true]at h
   exact⟨J1 go h.1.1 h.1.2 h.2,rfl⟩
  ·cases h
 | zip a b=>
  cases tg with
  | Tuple elts x1 tp=>
   rw [JL]at h
   split at h
   ·simp only [Bool.and_eq_true]at h
    exact⟨WW go h.1.1.1.1 h.1.1.1.2 h.1.1.2 (sndE a go h.1.2).1 (sndE b go h.2).1,rfl⟩
   ·cases h
  | _=>cases he
 | enum a=>
  cases tg with
  | Tuple elts x1 tp=>
   rw [JI]at h
   split at h
   ·simp only [Bool.and_eq_true]at h
    exact⟨wP go h.1.1 h.1.2 (sndE a go h.2).1,rfl⟩
   ·cases h
  | _=>cases he
end
end L2.MS
namespace L2.MS
open PySem PySem.Spec PyProof.Rows
section
variable {Γ:Ge}{F:M.Fx}{X:Cx}{E:XK}{k:Nat}{cf:Cf}
theorem XR {B:Bs}{G:Gh}{τ:M.Sl}{h:M.AH}{σ:St}{H:Hp}(s:StS Γ B G τ h σ H){w:M.W}{v:V}(f:FreshW τ σ H w v) (hb: ∀xs,w≠ .bor xs):FreshW [] [] B.H w v:=by
 cases w with
 | v d=>trivial
 | own xs=>obtain⟨a,z1,z2⟩:=f;exact⟨a,z1,s.ext.none s.hr z2⟩
 | bor xs=>exact absurd rfl (hb xs)
theorem QW (go:Go Γ F X E k cf){v:Expr}{pos:Pos}{m:M.E}(h:chkE cf m v=true):PS X (.Return (some v) pos) (tDS Γ E (M.exec F (.ret m))):=by
 cases q:M.isVar m with
 | some i=>
  cases wn q
  refine PS.imp (X6 (qai go h)) fun D σ H qq=> ?_
  obtain⟨B,G,τ,h,s,p⟩:=qq
  rw [M.exec,q]at p
  dsimp only at p
  cases q1:M.getS τ i with
  | none=>rw [q1]at p;exact p.elim
  | some w=>
   rw [q1]at p
   obtain⟨v,e2,r⟩:=s.st.slot i w q1
   refine⟨v,e2,?_⟩
   cases w with
   | bor xs=>exact p.elim
   | v d=>exact p G v H s.ext s.st.heap r trivial
   | own xs=>
    have r':=r
    obtain⟨a,vs,rfl,_⟩:=r'
    exact p G _ H s.ext s.st.heap r ⟨a,rfl,s.own i xs a q1 e2⟩
 | none=>
  refine PS.imp (X6 (sndE m go h).1) fun D σ H qq=> ?_
  obtain⟨B,G,τ,h,s,p⟩:=qq
  have p:PostO Γ E B ((M.eval F m τ h).toO fun w h=>match w with
   | .bor _=> .fail
   | w=> .ret w h) D:=by
   rw [M.exec,q]at p;exact p
  refine Je s p fun w v h1 G1 H1 e1 s1 r1 f1 p1=> ?_
  cases w with
  | bor xs=>exact p1.elim
  | v d=>exact p1 G1 v H1 s1.ext s1.st.heap r1 trivial
  | own xs=>exact p1 G1 v H1 s1.ext s1.st.heap r1 (XR s f1 fun xs z=>by cases z)
theorem Z3 {c:M.E}{a b:M.Ss}{x:Expr}{ys zs:List Stmt}{pos:Pos}(hc:PT X x (tDT Γ E (M.tstE F c))) (ha:PSs X ys (tDS Γ E (M.execs F a))) (hb:PSs X zs (tDS Γ E (M.execs F b))):PS X (.If x ys zs pos) (tDS Γ E (M.exec F (.iff c a b))):=by
 refine PS.imp (qaM hc ha hb) fun D σ H qq=> ?_
 obtain⟨B,G,τ,h,s,p⟩:=qq
 rw [M.exec]at p
 refine XY s p fun t h1 G1 H1 e1 s1 p1=> ?_
 cases t with
 | true=>exact iteT ⟨B,G1,τ,h1,s1,p1⟩
 | false=>exact iteF ⟨B,G1,τ,h1,s1,p1⟩
theorem jI {s:M.S}{ss:M.Ss}{st:Stmt}{sts:List Stmt}(h1:PS X st (tDS Γ E (M.exec F s))) (h2:PSs X sts (tDS Γ E (M.execs F ss))):PSs X (st::sts) (tDS Γ E (M.execs F (.cons s ss))):=by
 refine PSs.imp (WX h1 h2) fun D σ H qq=> ?_
 obtain⟨B,G,τ,h,s',p⟩:=qq
 rw [M.execs]at p
 refine⟨B,G,τ,h,s',?_⟩
 cases q:M.exec F s τ h with
 | next τ' h'=>rw [q]at p;exact fun G' σ' H' s2=>⟨B,G',τ',h',s2,p⟩
 | ret w h'=>rw [q]at p;exact p
 | brk τ' h'=>rw [q]at p;exact p
 | cont τ' h'=>rw [q]at p;exact p
 | exc d h'=>rw [q]at p;exact p
 | fail=>rw [q]at p;exact p
theorem xN:PSs X [] (tDS Γ E (M.execs F .nil)):=PSs.imp xam fun D σ H ⟨B,G,τ,h,s,p⟩=>p G σ H s
theorem xx {i:Nat}{ss:M.Ss}{sts:List Stmt}(h2:PSs X sts (tDS Γ E (M.execs F ss))):PSs X sts (tDS Γ E (M.execs F (.cons (.freeze i) ss))):=by
 refine PSs.imp h2 fun D σ H qq=> ?_
 obtain⟨B,G,τ,h,s,p⟩:=qq
 rw [M.execs,M.exec]at p
 cases q:M.getS τ i with
 | none=>rw [q]at p;exact⟨B,G,τ,h,s,p⟩
 | some w=>
  rw [q]at p
  cases w with
  | v d=>exact⟨B,G,τ,h,s,p⟩
  | bor xs=>exact⟨B,G,τ,h,s,p⟩
  | own xs=>
   obtain⟨G',s'⟩:=s.freeze q
   exact⟨B,G',_,h,s',p⟩
theorem X0 (go:GoS Γ F X E k cf){tg:List Nat}{one:Bool}{it:M.It}{b:M.Ss}{t iter:Expr}{ys:List Stmt}{pos:Pos}(he:enumOk it t=true) (ht:chkTarget cf tg one t=true) (hi:chkLp cf it iter=true) (hb:PSs X ys (tDS Γ E (M.execs F b))):
 PS X (.For t iter ys [] pos) (tDS Γ E (M.exec F (.for tg one it b))):=by
 obtain⟨li,ls⟩:=sndL (tg:=t) go.toGo he hi
 refine PS.imp (qay go.pown go.calm li (Xm go.toGo ht) hb (qB ls)) fun D σ H qq=> ?_
 obtain⟨B,G,τ,h,s,p⟩:=qq
 rw [M.exec]at p
 refine⟨G,τ,h,s.st,?_⟩
 cases q:M.evalLp F it τ h with
 | exc d h1=>rw [q]at p;exact PostO.exc s p
 | fail=>rw [q]at p;exact p
 | ok ds h1=>
  rw [q]at p
  intro G1 H1 e hr J C wj c0 clp
  have s1:=s.on e hr
  have p1:PostO Γ E (reB G1 τ h1 σ H1) (M.forGo (M.bindT tg one) (fun τ h=>M.execs F b τ h) ds τ h1) D:=JV s1 p
  have cB:C (reB G1 τ h1 σ H1).G (reB G1 τ h1 σ H1).H:=clp rfl
  have s2:=jar s1
  refine⟨fun i m σ' H'=> ∃G' τ' h',(m=ds.length-i/\i<=ds.length)/\StS Γ (reB G1 τ h1 σ H1) G' τ' h' σ' H'/\PostO Γ E (reB G1 τ h1 σ H1) (M.forGo (M.bindT tg one) (fun τ h=>M.execs F b τ h) (ds.drop i) τ' h') D,
   ⟨ds.length,G1,τ,h1,⟨by simp,Nat.zero_le _⟩,s2,p1⟩,?_⟩
  rintro i m σ' H' ⟨G',τ',h',⟨rfl,hi'⟩,s',p'⟩
  have c':=wj.keep _ _ _ _ _ cB s'.ext s'.hr
  by_cases hlt:i<ds.length
  ·refine .inr ⟨wj.go i G' H' c' hlt,_,fun σ2 H2 w=>⟨ds.length-(i+1),by omega,w⟩,fun x H'' hy=> ?_⟩
   obtain⟨G4,x4,hx4,d,ed,rdx⟩:=wj.yld i G' H' x H'' c' hlt hy
   have s':=s'.on x4 (hx4 _ s'.st.heap)
   have edr:ds.drop i=d::ds.drop (i+1):=by
    rw [List.drop_eq_getElem_cons hlt]
    rw [List.getElem?_eq_getElem hlt]at ed
    cases ed
    rfl
   rw [edr,M.forGo]at p'
   cases qb:M.bindT tg one d τ' with
   | none=>rw [qb]at p';exact p'.elim
   | some τ1=>
    rw [qb]at p'
    refine jaO qb rdx s' fun σ2 s3=>⟨_,G4,τ1,h',s3,?_⟩
    have p':PostO Γ E (reB G1 τ h1 σ H1) (match M.execs F b τ1 h' with
     | .next τ2 h2=>M.forGo (M.bindT tg one) (fun τ h=>M.execs F b τ h) (ds.drop (i+1)) τ2 h2
     | .cont τ2 h2=>M.forGo (M.bindT tg one) (fun τ h=>M.execs F b τ h) (ds.drop (i+1)) τ2 h2
     | .brk τ2 h2=> .next τ2 h2
     | o=>o) D:=p'
    cases q:M.execs F b τ1 h' with
    | next τ2 h2=>rw [q]at p';exact fun G3 σ3 H3 s4=>⟨G3,τ2,h2,⟨rfl,by omega⟩,s4,p'⟩
    | cont τ2 h2=>rw [q]at p';exact fun G3 σ3 H3 s4=>⟨G3,τ2,h2,⟨rfl,by omega⟩,s4,p'⟩
    | ret w h2=>rw [q]at p';exact p'
    | brk τ2 h2=>rw [q]at p';exact p'
    | exc d h2=>rw [q]at p';exact p'
    | fail=>rw [q]at p';exact p'
  ·have ei:i=ds.length:=by omega
   subst ei
   rw [List.drop_length]at p'
   exact .inl ⟨wj.stop _ G' H' c' (Nat.le_refl _) (Nat.le_refl _),p' G' σ' H' s'⟩
end
section
variable {Γ:Ge}{F:M.Fx}{k:Nat}{X:Cx}{E:XK}{cf:Cf}
mutual
theorem sndS (go:GoS Γ F X E k cf): ∀(m:M.S){st:Stmt},chkS cf m st=true->PS X st (tDS Γ E (M.exec F m))
 | .set i e,st,h=>by
  unfold chkS at h
  split at h
  ·rw [Bool.and_eq_true]at h;exact wW go.toGo h.1 h.2
  ·cases h
 | .setf i e,st,h=>by
  unfold chkS at h
  split at h
  ·rw [Bool.and_eq_true]at h;exact qR go.toGo h.1 h.2
  ·cases h
 | .unp _ _,st,h=>by unfold chkS at h;cases h
 | .setix i kx e,st,h=>by
  unfold chkS at h
  split at h
  ·simp only [Bool.and_eq_true,decide_eq_true_eq]at h
   exact wH go.toGo h.1.1.1.1.1.1.1 h.1.1.1.1.1.1.2 h.1.1.1.1.1.2 h.1.1.1.1.2 h.1.2 h.2
  ·cases h
 | .setref o kx e,st,h=>by
  unfold chkS at h
  split at h
  ·simp only [Bool.and_eq_true]at h
   exact JD go.toGo h.1.1.1.1.1 h.1.1.2 h.1.2 h.2
  ·cases h
 | .app i e,st,h=>by
  unfold chkS at h
  split at h
  ·simp only [Bool.and_eq_true]at h;exact J0 go.toGo h.1.1 h.1.2 h.2
  ·cases h
 | .ins _ _ _,st,h=>by unfold chkS at h;cases h
 | .ext _ _,st,h=>by unfold chkS at h;cases h
 | .pop _,st,h=>by unfold chkS at h;cases h
 | .popTo _ _,st,h=>by unfold chkS at h;cases h
 | .mv _ _,st,h=>by unfold chkS at h;cases h
 | .dput _ _,st,h=>by unfold chkS at h;cases h
 | .clr _,st,h=>by unfold chkS at h;cases h
 | .rem _ _,st,h=>by unfold chkS at h;cases h
 | .insR _ _ _,st,h=>by unfold chkS at h;cases h
 | .appR _ _,st,h=>by unfold chkS at h;cases h
 | .popR _ _,st,h=>by unfold chkS at h;cases h
 | .popU _ _,st,h=>by unfold chkS at h;cases h
 | .forR _ _ _ _,st,h=>by unfold chkS at h;cases h
 | .freeze _,st,h=>by unfold chkS at h;cases h
 | .ex _,st,h=>by unfold chkS at h;cases h
 | .ret e,st,h=>by
  unfold chkS at h
  split at h
  ·exact QW go.toGo h
  ·cases h
 | .retn,st,h=>by unfold chkS at h;cases h
 | .iff c a b,st,h=>by
  unfold chkS at h
  split at h
  ·simp only [Bool.and_eq_true]at h
   exact Z3 ((sndE c go.toGo h.1.1.2).2 h.1.1.1) (sndSs go a h.1.2) (sndSs go b h.2)
  ·cases h
 | .whl _ _ _,st,h=>by unfold chkS at h;cases h
 | .for tg one it b,st,h=>by
  unfold chkS at h
  split at h
  ·simp only [Bool.and_eq_true]at h
   exact X0 go h.1.1.1 h.1.1.2 h.1.2 (sndSs go b h.2)
  ·cases h
 | .raise _ _,st,h=>by unfold chkS at h;cases h
 | .tryc _ _ _ _ _ _,st,h=>by unfold chkS at h;cases h
 | .brk,st,h=>by unfold chkS at h;cases h
 | .cont,st,h=>by unfold chkS at h;cases h
 | .pass,st,h=>by unfold chkS at h;cases h
theorem sndSs (go:GoS Γ F X E k cf): ∀(m:M.Ss){sts:List Stmt},chkSs cf m sts=true->PSs X sts (tDS Γ E (M.execs F m))
 | .nil,sts,h=>by
  unfold chkSs at h
  split at h
  ·exact xN
  ·cases h
 | .cons s ss,sts,h=>by
  unfold chkSs at h
  split at h
  ·exact xx (sndSs go ss h)
  ·split at h
   ·rw [Bool.and_eq_true]at h
    exact jI (sndS go s h.1) (sndSs go ss h.2)
   ·cases h
end
end
end L2.MS
namespace L2.MS
open PySem PySem.Spec PyProof.Rows
section
variable {P:Program}{w:World}{K:PySem.W.Frag}{mg:Str->Option Value}{base:Heap}{N:List Str}{qual:Str}{scope:Scope}{f:Addr}{cd:Value}{A:Around}{outer:List Env}{s:Shared}{H:Hp}{E:XK}
theorem QJ:Passes (CX1 P w) (cxOf (CX1 P w) P w K mg base N qual scope f cd A outer s H E) E:=by
 intro pins σ H1 s1 ev s' I hq
 obtain⟨x,C,t,B,H',rfl,os,bare,fl,un,hok,comp,new,hE⟩:=hq
 have I':Inv (cxOf (CX1 P w) P w K mg base N qual scope f cd A outer s H E) pins σ H' s':=zag (h6:=s'.heap) I os bare un hok comp fl fun b o z _=>⟨o.slots,z⟩
 have ff:s'.heap.FunFrames B (envOfC qual scope s.heap.objs.size f cd::outer):=fl.2.2.1
 refine wpAny_leaves_onW (L:=s.heap.objs.size) I.ok.frames rfl fl fun h2 x1 x4=> ?_
 have free: ∀b∈frs (envOfC qual scope s.heap.objs.size f cd::outer),H' b=none:=I'.stkFree
 have slotH: ∀b o,b∈frs (envOfC qual scope s.heap.objs.size f cd::outer)->s'.heap.get? b=some o-> ∃sl,h2.get? b=some { o with slots:=sl }:=fun b o hb z=>by
  obtain⟨_,o',z',nf⟩:=ff.mem hb
  rw [z]at z'
  cases z'
  exact x4 b o z nf
 have toH: ∀b o,s'.heap.get? b=some o->((∃ u,H' b=some u)\/ ∃u,s1.heap.get? b=some u)->b∉frs (envOfC qual scope s.heap.objs.size f cd::outer)->h2.get? b=some o:=fun b o z c n=>x1.1 b o (comp b o z c n)
 have cut: ∀b,b∉frs outer->b≠s.heap.objs.size->b∉frs (envOfC qual scope s.heap.objs.size f cd::outer):=fun b n1 n2 hb=>by
  rcases List.mem_cons.mp (show b∈s.heap.objs.size::frs outer from hb)with z | z
  ·exact n2 z
  ·exact n1 z
 have old: ∀b o,s.heap.get? b=some o->b≠s.heap.objs.size:=fun b o z=>Nat.ne_of_lt (Heap.lt_size z)
 have trk: ∀b u,H' b=some u->b∉frs (envOfC qual scope s.heap.objs.size f cd::outer):=fun b u z hb=>by rw [free b hb]at z;cases z
 have in1: ∀b o,s.heap.get? b=some o-> ∃u,s1.heap.get? b=some u:=fun b o z=>I.base.there b o z (by show b∉([]:List Addr);simp)
 refine⟨x,C,t,B,H',rfl,os.trans I.os,bare,x1,⟨fun b o z n hb hx=> ?_,fun b o z n hb hx=> ?_,I'.base.free,fun b o z hx=> ?_,I'.base.tups,I'.base.frzs,I'.base.tbls⟩,fun b u z=> ?_,fun b o z hc hb=> ?_,?_,hE⟩
 ·exact toH b o (I'.base.keep b o z n hb hx) (.inr (in1 b o z)) (cut b hb (old b o z))
 ·obtain⟨sl,z1⟩:=I'.base.slot b o z n hb hx
  obtain⟨sl2,z2⟩:=slotH b _ (List.mem_cons_of_mem _ hb) z1
  exact⟨sl2,z2⟩
 ·obtain⟨o',z1⟩:=I'.base.there b o z hx
  by_cases hb:b∈frs (envOfC qual scope s.heap.objs.size f cd::outer)
  ·obtain⟨sl,z2⟩:=slotH b o' hb z1
   exact⟨_,z2⟩
  ·exact⟨o',toH b o' z1 (.inr (in1 b o z)) hb⟩
 ·refine(hok b u z).stay (fun c v hc z1=> ?_) (fun _ z1=>z1) fun _ _ z1=>z1
  rcases hc with rfl | hc
  ·exact toH c v z1 (.inl ⟨u,z⟩) (trk c u z)
  ·exact toH c v z1 (.inl ⟨_,hc⟩) (trk c _ hc)
 ·have two: ∃o2,s'.heap.get? b=some o2/\((∃ u,H' b=some u)\/ ∃u,s1.heap.get? b=some u)/\b∉frs (envOfC qual scope s.heap.objs.size f cd::outer):=by
   rcases hc with⟨u,hu⟩ | ⟨u,hu⟩
   ·obtain⟨o2,z2⟩:=(hok b u hu).there
    exact⟨o2,z2,.inl ⟨u,hu⟩,trk b u hu⟩
   ·obtain⟨o2,z2⟩:=I'.base.there b u hu (by show b∉([]:List Addr);simp)
    exact⟨o2,z2,.inr (in1 b u hu),cut b hb (old b u hu)⟩
  obtain⟨o2,z2,c2,nb⟩:=two
  have z3:=toH b o2 z2 c2 nb
  rw [show h2.get? b=some o from z]at z3
  cases z3
  exact comp b _ z2 c2 nb
 ·cases z:s.heap.get? x with
  | none=>rfl
  | some u=>
   obtain⟨o2,z2⟩:=in1 x u z
   rw [new]at z2
   cases z2
end
section
variable {Γ:Ge}{G G0:Gh}{H H0:Hp}{h:M.AH}
def Gh.cut (G:Gh) (n:Nat):Gh:= { G with n:=n }
mutual
theorem RelD.cut (n:Nat): ∀ {d:M.D}{v:V},M.noRef d=true->RelD Γ G H d v->RelD Γ (G.cut n) H d v
 | .non,_,_,z=>z
 | .bl _,_,_,z=>z
 | .int _,_,_,z=>z
 | .str _,_,_,z=>z
 | .tup _,_,q,⟨a,vs,z1,z2,z3⟩=>⟨a,vs,z1,z2,RelDs.cutR n (by simpa [M.noRef]using q) z3⟩
 | .lst _,_,q,⟨a,vs,z1,z2,z3⟩=>⟨a,vs,z1,z2,RelDs.cutR n (by simpa [M.noRef]using q) z3⟩
 | .ref r,_,q,_=>by simp [M.noRef]at q
 | .exc c fs,_,q,z=>by simp [M.noRef]at q
theorem RelDs.cutR (n:Nat): ∀ {ds:List M.D}{vs:List V},M.noRefs ds=true->RelDs Γ G H ds vs->RelDs Γ (G.cut n) H ds vs
 | [],_,_,z=>z
 | d::ds,_,q,⟨v,r,z1,z2,z3⟩=>by
  have q':M.noRef d=true/\M.noRefs ds=true:=by simpa [M.noRefs]using q
  exact⟨v,r,z1,RelD.cut n q'.1 z2,RelDs.cutR n q'.2 z3⟩
end
theorem xt: ∀l:List Int,M.noRefs (l.map M.D.int)=true
 | []=>rfl
 | _::l=>xt l
theorem qaj (k:M.WK):M.noRef (wkT k)=true:=by
 show(true&&(M.noRefs (k.2.1.map M.D.int)&&(M.noRefs (k.2.2.map M.D.int)&&true)))=true
 rw [xt,xt];rfl
theorem HRel.cut (r:HRel Γ G h H){n:Nat}(hn:n<=G.n):HRel Γ (G.cut n) (h.take n) H where
 len:=by rw [List.length_take,r.len];exact Nat.min_eq_left hn
 cell:=fun i xs e=>by
  have hi:i<n:=by
   have:=(List.getElem?_eq_some_iff.mp e).1
   rw [List.length_take]at this
   omega
  rw [List.getElem?_take_of_lt hi]at e
  obtain⟨z1,vs,z2,z3⟩:=r.cell i xs e
  exact⟨z1,vs,z2,RelDs.cutR n (r.pure i xs e) z3⟩
 pure:=fun i xs e=>by
  have hi:i<n:=by
   have:=(List.getElem?_eq_some_iff.mp e).1
   rw [List.length_take]at this
   omega
  rw [List.getElem?_take_of_lt hi]at e
  exact r.pure i xs e
 inj:=fun i j h1 h2 e=>r.inj i j (Nat.lt_of_lt_of_le h1 hn) (Nat.lt_of_lt_of_le h2 hn) e
 live:=r.live
 dic:=fun i ks e=>by
  have hi:i<n:=by
   have:=(List.getElem?_eq_some_iff.mp e).1
   rw [List.length_take]at this
   omega
  rw [List.getElem?_take_of_lt hi]at e
  obtain⟨z1,xs,z2,z3,z4⟩:=r.dic i ks e
  exact⟨z1,xs,z2,z3,fun x hx=>RelD.cut n (qaj x.1) (z4 x hx)⟩
theorem Ext.cut (e:Ext G0 H0 G H):Ext G0 H0 (G.cut G0.n) H:=⟨e.keep,Nat.le_refl _,e.rho,fun r h1 h2=>absurd h1 (Nat.not_le.mpr h2),e.fz,e.old,e.cells⟩
theorem RelW.cut (n:Nat) (hn:n<=G.n){w:M.W}{v:V}(q:w.keep=true) (hb: ∀xs,w≠ .bor xs) (z:RelW Γ G H w v):RelW Γ (G.cut n) H w v:=by
 cases w with
 | v d=>exact RelD.cut n q z
 | own xs=>
  obtain⟨a,vs,z1,z2,z3,z4,z5⟩:=z
  exact⟨a,vs,z1,z2,fun r hr=>z3 r (Nat.lt_of_lt_of_le hr hn),z4,RelDs.cutR n q z5⟩
 | bor xs=>exact absurd rfl (hb xs)
end
structure Txt (K:PySem.W.Frag) (mg:Str->Option Value) (f:String) where
 st:Stmt
 fa:Addr
 fd:FuncData
 N:List Str
 ps:List Str
structure TxtOk {K:PySem.W.Frag}{mg:Str->Option Value}{f:String}(t:Txt K mg f) (d:M.Fn) (fns own rai hnd:List String):Prop where
 fn:Fun K (strS f) (strS f) t.st t.fa t.fd
 bd:Binds K t.fd t.ps []
 kp:PySem.W.keepIn K (.ref t.fa)=true
 mg:mg (strS f)=some (.ref t.fa)
 sc:FnScope t.N t.ps (defScope t.st)
 n:t.N.length=d.n
 p:t.ps.length=d.ps
 le:d.ps<=d.n
 chk:chkSs ⟨defScope t.st,t.N,fns,own,rai,hnd⟩ d.body (defBody t.st)=true
structure PrOk (Γ:Ge) (p:M.Prog) (mg:Str->Option Value) (own rai hnd:List String):Prop where
 cl:p.cl=Γ.cl
 ow:own=Γ.own
 blt: ∀x,x∈bltN->mg (strS x)=none
 con: ∀x d,p.con.lookup x=some d-> ∃u v,mg (strS x)=some u/\RelV v u/\ ∀G H,RelD Γ G H d v
 cls: ∀c,own.contains c=true->mg (strS c)=some (.ref (Γ.ca c))
 rai: ∀c,rai.contains c=true->XOk Γ c/\PySem.W.excIn Γ.K (Γ.ca c) veTail "ValueError.__new__" =true/\mg (strS c)=some (.ref (Γ.ca c))
 hnd: ∀c,hnd.contains c=true->PySem.W.mroIn Γ.K (Γ.ca c) (.type "BaseException")=some true/\own.contains c=true
section
variable {P:Program}{w:World}{Γ:Ge}{mg:Str->Option Value}{base:Heap}{p:M.Prog}{own rai hnd fns:List String}
theorem qT {G:Gh}{H:Hp}{h:M.AH}{ws:List M.W}{vs:List V}{N:List Str}{n:Nat}(hr:HRel Γ G h H) (r:RelWs Γ G H ws vs) (no: ∀w∈ws,noOwn w=true) (hn:N.length=n):StS Γ ⟨G,H,h⟩ G (ws.map some++List.replicate (n-ws.length) none) h (start N vs) H:=by
 have hl:=r.length
 have get: ∀ {i:Nat}{w:M.W},M.getS (ws.map some++List.replicate (n-ws.length) none) i=some w->ws[i]? =some w:=fun {i w} e=>by
  rw [xm]at e
  by_cases hi:i<ws.length
  ·rw [List.getElem?_append_left (by simpa using hi),List.getElem?_map]at e
   cases q:ws[i]? with
   | none=>rw [q]at e;cases e
   | some w'=>rw [q]at e;exact e
  ·rw [List.getElem?_append_right (by simpa using hi),List.getElem?_replicate]at e
   split at e<;>cases e
 have rel: ∀ {ws:List M.W}{vs:List V}{i:Nat}{w:M.W},RelWs Γ G H ws vs->ws[i]? =some w-> ∃v,vs[i]? =some v/\RelW Γ G H w v:=by
  intro ws
  induction ws with
  | nil=>intro vs i w _ e;simp at e
  | cons a r ih=>
   intro vs i w ⟨v,us,e1,z1,z2⟩ e
   subst e1
   cases i with
   | zero=>simp at e;subst e;exact⟨v,rfl,z1⟩
   | succ i=>
    obtain⟨v',h1,h2⟩:=ih z2 (by simpa using e)
    exact⟨v',by simpa using h1,h2⟩
 have noown: ∀ {i:Nat}{xs:List M.D},M.getS (ws.map some++List.replicate (n-ws.length) none) i≠some (.own xs):=fun {i xs} e=>by
  have:=no _ (List.mem_of_getElem? (get e))
  cases this
 refine⟨⟨?_,fun i w e=> ?_,fun i j xs w a hij e1=>absurd e1 noown,hr⟩,Ext.refl,hr,fun i xs a e1=>absurd e1 noown⟩
 ·unfold start
  rw [List.length_append,List.length_append,List.length_map,List.length_map,List.length_replicate,List.length_replicate,hn,hl]
 ·obtain⟨v,e2,rw'⟩:=rel r (get e)
  refine⟨v,?_,rw'⟩
  unfold start
  have hi:i<vs.length:=(List.getElem?_eq_some_iff.mp e2).1
  rw [List.getElem?_append_left (by simpa using hi),List.getElem?_map,e2]
  rfl
theorem xY {E:XK}{G:Gh}{H:Hp}{h:M.AH}{Q:VK}{o:M.O}(hr:HRel Γ G h H) (p:PostW Γ E G H (M.finO h.length o) Q):PostO Γ E ⟨G,H,h⟩ o { nx:=fun _ H'=>Q .non H',rt:=Q }:=by
 have key: ∀ {w:M.W}{h':M.AH}{G':Gh}{H':Hp}{v:V},(∀ xs,w≠ .bor xs)->PostW Γ E G H (M.fin h.length w h') Q->Ext G H G' H'->HRel Γ G' h' H'->RelW Γ G' H' w v->FreshW [] [] H w v->Q v H':=fun {w h' G' H' v} hb p e hr' r f=>by
  unfold M.fin at p
  split at p
  ·exact p G' H' e hr' v r f
  ·split at p
   ·rename_i hk
    have e':=e.cut
    rw [hr.len]at p
    exact p (G'.cut G.n) H' e' (hr'.cut e.le) v (r.cut G.n e.le hk hb) f
   ·exact p G' H' e hr' v r f
 cases o with
 | next τ h'=>exact fun G' σ' H' s'=>key (w:= .v .non) (v:= .non) (fun xs z=>by cases z) p s'.ext s'.st.heap rfl trivial
 | ret w h'=>
  cases w with
  | bor xs=>exact p.elim
  | v d=>exact fun G' v H' e hr' r f=>key (fun xs z=>by cases z) p e hr' r f
  | own xs=>exact fun G' v H' e hr' r f=>key (fun xs z=>by cases z) p e hr' r f
 | exc d h'=>exact p
 | brk τ h'=>exact p.elim
 | cont τ h'=>exact p.elim
 | fail=>exact p.elim
end
end L2.MS
namespace L2.MS
open PySem PySem.Spec PyProof.Rows
section
variable {P:Program}{w:World}{Γ:Ge}{mg:Str->Option Value}{base:Heap}{p:M.Prog}{own rai hnd fns:List String}
def DefOk (P:Program) (w:World) (Γ:Ge) (mg:Str->Option Value) (base:Heap) (p:M.Prog) (k:Nat) (f:String):Prop:=
 ∃ps fa fd,FnOk P w Γ.K mg base (CX1 P w) k fa fd ps (spW Γ (M.call p k f))/\Binds Γ.K fd ps []/\PySem.W.keepIn Γ.K (.ref fa)=true/\mg (strS f)=some (.ref fa)
theorem zaw (pr:PrOk Γ p mg own rai hnd){f:String}{d:M.Fn}{t:Txt Γ.K mg f}(ok:TxtOk t d fns own rai hnd) (hf:p.fns.lookup f=some d) (k:Nat) (ih: ∀g,fns.contains g=true->DefOk P w Γ mg base p k g):
 FnOk P w Γ.K mg base (CX1 P w) (k+1) t.fa t.fd t.ps (spW Γ (M.call p (k+1) f)):=by
 have run_len: ∀ {ws:List M.W}{h:M.AH},ws.length≠d.ps->M.call p (k+1) f ws h= .fail:=fun {ws h} hn=>by
  rw [M.call,hf]
  simp [M.run,hn]
 have run_ok: ∀ {ws:List M.W}{h:M.AH},ws.length=d.ps->M.call p (k+1) f ws h=M.finO h.length (M.execs ⟨M.call p k,p.cl,p.con⟩ d.body (ws.map some++List.replicate (d.n-d.ps) none) h):=fun {ws h} hn=>M.call_of hf k ws h hn
 refine Fun.okX ok.fn ok.sc (fun vs H Q E ⟨G,h,ws,hr,rs,no,q⟩=> ?_) fun cdv A outer s H vs Q E room ⟨G,h,ws,hr,rs,no,q⟩=> ?_
 ·by_cases hl:ws.length=d.ps
  ·rw [← rs.length,hl,ok.p]
  ·rw [run_len hl]at q;exact q.elim
 ·by_cases hl:ws.length=d.ps
  rotate_left
  ·rw [run_len hl]at q;exact q.elim
  rw [run_ok hl]at q
  refine⟨tDS Γ E (M.execs ⟨M.call p k,p.cl,p.con⟩ d.body),sndSs (k:=k) ?_ d.body ok.chk,?_⟩
  ·refine { N:=rfl,K:=rfl,cl:=pr.cl,ow:=pr.ow,nd:=ok.sc.nd,vis:=fun x hx=>ZG hx,lcl:=fun x hx=>hx,sto:=fun x hx=>⟨wG hx,.inl rfl⟩,cel:=fun x hx=>hx,gl:=fun x hx=>jD hx,calm:=rfl,room:=room,pass:=QJ,blt:=pr.blt,con:=pr.con,fn:=fun g hg=> ?_,cls:=pr.cls,pown:=zaQ,stk:=rfl,frm:=rfl,ex:=rfl,rai:=fun c hc hg hd=> ?_,hnd:=pr.hnd }
   ·obtain⟨ps,fa,fd,h1,h2,h3,h4⟩:=ih g hg
    exact⟨ps,⟨fa,fd,h1,h2,h3,h4⟩⟩
   ·obtain⟨xo,ei,hm⟩:=pr.rai c hc
    refine⟨xo,fun np cpos pos e es t ha hp=> ?_⟩
    exact Q3 ei hm (jD hg) ha (qa (hp _ List.mem_cons_self)) (Jm fun e he=>hp e (List.mem_cons_of_mem _ he)) hd
  ·refine⟨⟨G,H,h⟩,G,ws.map some++List.replicate (d.n-d.ps) none,h,?_,xY hr q⟩
   have:=qT (N:=t.N) (n:=d.n) hr rs no ok.n
   rw [hl]at this
   exact this
theorem zac (f:String) (t:Txt Γ.K mg f):FnOk P w Γ.K mg base (CX1 P w) 0 t.fa t.fd t.ps (spW Γ (M.call p 0 f)):=
 ⟨fun vs H Q E ⟨G,h,ws,hr,rs,no,q⟩=>q.elim,fun A outer s H args us vs Q E _ _ _ _ ⟨G,h,ws,hr,rs,no,q⟩=>q.elim⟩
theorem xaE (pr:PrOk Γ p mg own rai hnd) (all: ∀f,fns.contains f=true-> ∃d,p.fns.lookup f=some d/\ ∃t:Txt Γ.K mg f,TxtOk t d fns own rai hnd): ∀k f,fns.contains f=true->DefOk P w Γ mg base p k f:=by
 intro k
 induction k with
 | zero=>
  intro f hf
  obtain⟨d,hd,t,ok⟩:=all f hf
  exact⟨t.ps,t.fa,t.fd,zac f t,ok.bd,ok.kp,ok.mg⟩
 | succ k ih=>
  intro f hf
  obtain⟨d,hd,t,ok⟩:=all f hf
  exact⟨t.ps,t.fa,t.fd,zaw pr ok hd k ih,ok.bd,ok.kp,ok.mg⟩
def spLaw (K:PySem.W.Frag):Sp:=fun vs H Q _=> ∃(a:Addr) (ns:List Int),vs= [.ref a]/\SqL K H a (ns.map V.int)/\ns.length<=63/\ ∀H',Q (.bl true) H'
theorem zH {G:Gh}{H:Hp}: ∀(ns:List Int),RelDs Γ G H (ns.map M.D.int) (ns.map V.int)
 | []=>rfl
 | n::ns=>⟨_,_,rfl,rfl,zH ns⟩
theorem jaG {k:Nat}{fa:Addr}{fd:FuncData}{ps:List Str}(F:FnOk P w Γ.K mg base (CX1 P w) k fa fd ps (spW Γ (M.call p k "law"))) (hlaw: ∀ns:List Int,ns.length<=63-> ∃h',M.call p k "law" [.v (.lst (ns.map .int))] []= .ok (.v (.bl true)) h'):
 FnOk P w Γ.K mg base CX0 k fa fd ps (spLaw Γ.K):=by
 refine FnOk.calm F fun vs H Q E ⟨a,ns,hv,hS,hn,q⟩=> ?_
 subst hv
 obtain⟨h',hc⟩:=hlaw ns hn
 have fin: ∀G:Gh,HRel Γ G [] H->StL Γ G H a (ns.map V.int)->spW Γ (M.call p k "law") [.ref a] H Q (fun _ _ _=>False):=fun G hr st=>by
  refine⟨G,[],[.v (.lst (ns.map .int))],hr,⟨.ref a,[],rfl,⟨a,ns.map V.int,rfl,st,zH ns⟩,rfl⟩,fun w hw=> ?_,?_⟩
  ·cases List.mem_singleton.mp hw;rfl
  ·rw [hc]
   intro G' H' _ _ v r _
   cases (show v= .bl true from r)
   exact q H'
 rcases hS with hS | hS
 ·refine fin ⟨fun b=>b=a,fun _=>0,0⟩ ⟨rfl,fun r xs e=>by simp at e,fun r xs e=>by simp at e,fun r s h1=>absurd h1 (Nat.not_lt_zero _),fun b hb=> ?_,fun r ks e=>by simp at e⟩ (.inl ⟨rfl,hS⟩)
  subst hb
  rcases hS with z | ⟨o,z⟩
  ·exact⟨_,z⟩
  ·exact⟨_,z⟩
 ·exact fin ⟨fun _=>False,fun _=>0,0⟩ ⟨rfl,fun r xs e=>by simp at e,fun r xs e=>by simp at e,fun r s h1=>absurd h1 (Nat.not_lt_zero _),fun b hb=>hb.elim,fun r ks e=>by simp at e⟩ (.inr hS)
theorem walk {l:PySem.W.OpenLaw}{q:Program}{loose:List Str}{XP:(Str->Option Value)->Heap->Prop}{YP:World->Heap->Prop}{d:DefRec}{K:Params->PySem.W.Frag}{x:Str}(k:Nat) (hk:Room k callerA) (hn:l.most=some 63) (hdf:d.params.defaults= [])
 (hY: ∀(w:World) (h:Heap),YP w h->(K w.params).In h)
 (F: ∀(w:World) (mg:Str->Option Value) (fa:Addr) (h:Heap),(K w.params).In h->h.Ns mainGlobals mg->mg d.name=some (.ref fa) →
   ∃fd:FuncData,(∀ (s:Shared) (u:Value),BindsTo s fd ⟨[u],[]⟩ [(x,u)])/\ ∀base:Heap,(K w.params).In base->base.Ns mainGlobals mg->FnOk l.prog w (K w.params) mg base CX0 k fa fd [x] (spLaw (K w.params))):
 PySem.W.WalkO q loose XP YP l.row.toRowW d [] (fun f vs=>PySem.call f vs):=
 L2.walk_of (n:=63) (k:=k) (x:=x) (CX:=fun _=>CX0) (sp:=fun w=>spLaw (K w.params)) hn (by decide) hdf hk hY F (fun _ _ a ns hl _ hS=>⟨a,ns,rfl,hS,hl,fun _=>rfl⟩) fun _ _ _ _ _ z=>z
end
end L2.MS
namespace Wf
def numB:List Bool->Nat
 | []=>0
 | b::r=>2*numB r+b.toNat
def bitsB (t n:Nat):List Bool:=(List.range n).map t.testBit
def pairsM (n t:Nat):List (Nat×Nat):=((List.range (n*n)).filter t.testBit).map fun k=>(k / n,k % n)
def tieM (n:Nat) (ps:List (Nat×Nat)):Nat:=ps.foldl (fun t p=>t ||| 2 ^ (p.1*n+p.2)) 0
def inB (n:Nat) (ps:List (Nat×Nat)):Prop:= ∀p∈ps,p.1<n/\p.2<n
def swp (ps:List (Nat×Nat)):List (Nat×Nat):=ps.map fun p=>(p.2,p.1)
def turnM (n t:Nat):Nat:=tieM n (swp (pairsM n t))
def sameM (n:Nat):Nat:=tieM n ((List.range n).map fun a=>(a,a))
end Wf
namespace Wf
def rowM (n p b:Nat):Nat:=p / 2 ^ (b*n) % 2 ^ n
def joinM (n o p:Nat):Nat:=(pairsM n o).foldl (fun t q=>t ||| rowM n p q.2*2 ^ (q.1*n)) 0
def JB (n o p k:Nat):Bool:=(List.range n).any fun b=>o.testBit (k / n*n+b)&&p.testBit (b*n+k % n)
def midF (n o p a b:Nat) (k:Nat):Bool:=if k / n<a then JB n o p k else if k / n=a then(List.range b).any fun b'=>o.testBit (a*n+b')&&p.testBit (b'*n+k % n)else false
def inF (n o p a b c:Nat) (k:Nat):Bool:=if k / n=a/\k % n<c then midF n o p a (b+1) k else midF n o p a b k
end Wf
namespace Wf
inductive TC (n t a:Nat):Nat->Prop
 | step {b:Nat}:a<n->b<n->t.testBit (a*n+b)=true->TC n t a b
 | more {b c:Nat}:TC n t a b->b<n->c<n->t.testBit (b*n+c)=true->TC n t a c
structure IsTC (n t r:Nat):Prop where
 lt:r<2 ^ (n*n)
 bit: ∀a b,a<n->b<n->(r.testBit (a*n+b)=true↔TC n t a b)
structure Clo (n t r:Nat):Prop where
 lt:r<2 ^ (n*n)
 sub: ∀a b,a<n->b<n->r.testBit (a*n+b)=true->TC n t a b
 sup: ∀k,t.testBit k=true->r.testBit k=true
structure Srch (n t a:Nat) (re wa:List Nat):Prop where
 an:a<n
 nd:re.Nodup
 tc: ∀x∈re,TC n t a x
 wl: ∀x∈wa,x<n/\(x=a\/x∈re)
 cl: ∀x,(x=a\/x∈re)->x∉wa-> ∀b,b<n->t.testBit (x*n+b)=true->b∈re
structure Lk (n t a:Nat) (re wa:List Nat) (h b:Nat):Prop where
 an:a<n
 nd:re.Nodup
 tc: ∀x∈re,TC n t a x
 wl: ∀x∈wa,x<n/\(x=a\/x∈re)
 cl: ∀x,(x=a\/x∈re)->x∉wa->x≠h-> ∀b,b<n->t.testBit (x*n+b)=true->b∈re
 hn:h<n
 hr:h=a\/h∈re
 hb: ∀b',b'<b->t.testBit (h*n+b')=true->b'∈re
end Wf
namespace M
def d_expression_of_rank:Fn:=⟨2,3,.cons (.setf 2 (.call "shown_expression" (.cons (.var 0) .nil))) (.cons (.iff (.cmp .lt (.tget "EXPRESSION_RANKS" (.cons (.ix (.var 0) (.int 0)) (.cons (.con "ATOM_RANK") .nil))) (.var 1)) (.cons (.ret (.fstr [.inl [40],.inr 2,.inl [41]])) .nil) .nil) (.cons (.ret (.var 2)) .nil))⟩
def d_shown_expression:Fn:=⟨1,6,.cons (.setf 1 (.ix (.var 0) (.int 0))) (.cons (.iff (.cmp .eq (.var 1) (.str [110,97,109,101])) (.cons (.ret (.ix (.var 0) (.int 1))) .nil) .nil) (.cons (.iff (.cmp .mem (.var 1) (.tup (.cons (.str [115,97,109,101]) (.cons (.str [97,108,108]) (.cons (.str [110,111,110,101]) .nil))))) (.cons (.ret (.var 1)) .nil) .nil) (.cons (.setf 2 (.tix "SIGNS" (.var 1))) (.cons (.iff (.cmp .mem (.var 1) (.tup (.cons (.str [116,117,114,110,101,100]) (.cons (.str [99,108,111,115,101,100]) .nil)))) (.cons (.ret (.bin .add (.var 2) (.call "expression_of_rank" (.cons (.ix (.var 0) (.int 1)) (.cons (.con "ATOM_RANK") .nil))))) .nil) .nil) (.cons (.setf 3 (.tix "EXPRESSION_RANKS" (.var 1))) (.cons (.setf 4 (.call "expression_of_rank" (.cons (.ix (.var 0) (.int 1)) (.cons (.var 3) .nil)))) (.cons (.setf 5 (.call "expression_of_rank" (.cons (.ix (.var 0) (.int 2)) (.cons (.bin .add (.var 3) (.int 1)) .nil)))) (.cons (.ret (.fstr [.inr 4,.inl [32],.inr 2,.inl [32],.inr 5])) .nil))))))))⟩
def d_saying_of_rank:Fn:=⟨2,3,.cons (.setf 2 (.call "shown_saying" (.cons (.var 0) .nil))) (.cons (.iff (.cmp .lt (.tget "SAYING_RANKS" (.cons (.ix (.var 0) (.int 0)) (.cons (.con "UNIT_RANK") .nil))) (.var 1)) (.cons (.ret (.fstr [.inl [91],.inr 2,.inl [93]])) .nil) .nil) (.cons (.ret (.var 2)) .nil))⟩
def d_shown_fact:Fn:=⟨1,5,.cons (.setf 1 (.tix "WORDS" (.ix (.var 0) (.int 0)))) (.cons (.setf 2 (.call "shown_expression" (.cons (.ix (.var 0) (.neg (.int 1))) .nil))) (.cons (.iff (.cmp .mem (.ix (.var 0) (.int 0)) (.tup (.cons (.str [105,110]) (.cons (.str [101,113,117,97,108]) .nil)))) (.cons (.setf 3 (.call "shown_expression" (.cons (.ix (.var 0) (.int 1)) .nil))) (.cons (.ret (.fstr [.inr 3,.inl [32],.inr 1,.inl [32],.inr 2])) .nil)) .nil) (.cons (.iff (.cmp .mem (.ix (.var 0) (.int 0)) (.tup (.cons (.str [115,111,109,101]) (.cons (.str [110,111]) .nil)))) (.cons (.ret (.fstr [.inr 1,.inl [32],.inr 2])) .nil) .nil) (.cons (.setf 4 (.ix (.var 0) (.int 1))) (.cons (.ret (.fstr [.inr 1,.inl [32],.inr 4,.inl [32],.inr 2])) .nil)))))⟩
def d_shown_saying:Fn:=⟨1,5,.cons (.setf 1 (.ix (.var 0) (.int 0))) (.cons (.iff (.cmp .eq (.var 1) (.str [110,111,116])) (.cons (.ret (.bin .add (.str [110,111,116,32]) (.call "saying_of_rank" (.cons (.ix (.var 0) (.int 1)) (.cons (.con "UNIT_RANK") .nil))))) .nil) .nil) (.cons (.iff (.cmp .mem (.var 1) (.tup (.cons (.str [97,110,100]) (.cons (.str [111,114]) .nil)))) (.cons (.setf 2 (.tix "SAYING_RANKS" (.var 1))) (.cons (.setf 3 (.call "saying_of_rank" (.cons (.ix (.var 0) (.int 1)) (.cons (.var 2) .nil)))) (.cons (.setf 4 (.call "saying_of_rank" (.cons (.ix (.var 0) (.int 2)) (.cons (.bin .add (.var 2) (.int 1)) .nil)))) (.cons (.ret (.fstr [.inr 3,.inl [32],.inr 1,.inl [32],.inr 4])) .nil)))) .nil) (.cons (.ret (.call "shown_fact" (.cons (.var 0) .nil))) .nil)))⟩
def d_law_cell:Fn:=⟨2,2,.cons (.ret (.bi .sum (.cons (.sl (.var 0) (.var 1) (.bin .add (.var 1) (.int 1))) .nil))) .nil⟩
def d_law_purse:Fn:=⟨2,3,.cons (.setf 2 (.call "_law_cell" (.cons (.var 0) (.cons (.var 1) .nil)))) (.cons (.iff (.cmp .eq (.bin .mod (.call "_law_cell" (.cons (.var 0) (.cons (.int 0) .nil))) (.int 2)) (.int 1)) (.cons (.ret (.lst (.cons (.bin .fdiv (.var 2) (.ix (.lst (.cons (.int 1) (.cons (.int 2) .nil))) (.bi .int (.cons (.cmp .eq (.var 1) (.int 0)) .nil)))) (.cons (.int 1) (.cons (.int 60) .nil))))) .nil) .nil) (.cons (.ret (.lst (.cons (.bin .add (.bin .mod (.var 2) (.int 1000000093)) (.int 5)) (.cons (.int 0) (.cons (.int 900) .nil))))) .nil))⟩
def d_law_next:Fn:=⟨2,4,.cons (.setref (.var 0) (.int 2) (.bin .sub (.ix (.var 0) (.int 2)) (.int 1))) (.cons (.iff (.cmp .lt (.ix (.var 0) (.int 2)) (.int 0)) (.cons (.ret (.int 0)) .nil) .nil) (.cons (.iff (.cmp .eq (.ix (.var 0) (.int 1)) (.int 1)) (.cons (.setf 2 (.bin .mod (.ix (.var 0) (.int 0)) (.var 1))) (.cons (.setref (.var 0) (.int 0) (.bin .fdiv (.ix (.var 0) (.int 0)) (.var 1))) (.cons (.ret (.var 2)) .nil))) .nil) (.cons (.setref (.var 0) (.int 0) (.bin .mod (.bin .add (.bin .add (.bin .mul (.ix (.var 0) (.int 0)) (.int 48817)) (.bin .mul (.int 65029) (.ix (.var 0) (.int 2)))) (.int 501)) (.int 1000000093))) (.cons (.setf 3 (.bin .mod (.bin .mul (.ix (.var 0) (.int 0)) (.bin .add (.bin .fdiv (.ix (.var 0) (.int 0)) (.int 2053)) (.int 613))) (.int 998244353))) (.cons (.ret (.bin .mod (.bin .mod (.bin .add (.bin .mul (.var 3) (.var 3)) (.ix (.var 0) (.int 0))) (.int 1000000087)) (.var 1))) .nil)))))⟩
def e_law_family_1:E:= .comp [0] true 1 [5,6,2,3] (.range1 (.var 1)) false (.bl true) (.bin .add (.bin .add (.slH (.var 1) (.var 2)) (.ix (.var 3) (.bin .mod (.bin .add (.bin .add (.var 4) (.int 1)) (.bin .mul (.int 3) (.var 0))) (.int 26)))) (.slL (.var 1) (.var 2)))
def e_law_family_2:E:= .comp [0] true 1 [4,3] (.range1 (.var 1)) false (.bl true) (.ix (.var 1) (.bin .mod (.bin .add (.var 2) (.bin .mul (.int 3) (.var 0))) (.int 16)))
def e_law_family_3:E:= .comp [0] true 1 [2,3] (.range1 (.var 1)) false (.bl true) (.slH (.bin .add (.str [113]) (.bin .mul (.ix (.var 1) (.var 2)) (.int 7))) (.bin .add (.var 0) (.int 1)))
def e_law_family_4:E:= .comp [0] true 1 [2,3,0] (.range1 (.var 1)) false (.bl true) (.ix (.var 1) (.bin .mod (.bin .add (.var 2) (.bin .mul (.bin .add (.int 1) (.bin .mul (.int 2) (.bin .mod (.bin .fdiv (.var 3) (.int 104)) (.int 6)))) (.var 0))) (.int 26)))
def d_law_family:Fn:=⟨2,7,.cons (.setf 2 (.str [97,98,99,100,101,102,103,104,105,106,107,108,109,110,111,112,113,114,115,116,117,118,119,120,121,122])) (.cons (.setf 3 (.bin .mod (.bin .fdiv (.var 0) (.int 4)) (.int 26))) (.cons (.iff (.cmp .eq (.bin .mod (.var 0) (.int 4)) (.int 0)) (.cons (.ret e_law_family_4) .nil) .nil) (.cons (.iff (.cmp .eq (.bin .mod (.var 0) (.int 4)) (.int 1)) (.cons (.ret e_law_family_3) .nil) .nil) (.cons (.iff (.cmp .eq (.bin .mod (.var 0) (.int 4)) (.int 2)) (.cons (.setf 4 (.lst (.cons (.str [110,111,116,97]) (.cons (.str [111,114,98]) (.cons (.str [97,110,100,121]) (.cons (.str [105,110,110]) (.cons (.str [97,108,108,115]) (.cons (.str [115,97,109,101,121]) (.cons (.str [110,111,110,101,97]) (.cons (.str [101,97,99,104,115]) (.cons (.str [108,101,97,115,116,115]) (.cons (.str [109,111,115,116,121]) (.cons (.str [115,111,109,101,115]) (.cons (.str [110,111,97]) .nil)))))))))))))) (.cons (.setf 4 (.bin .add (.var 4) (.lst (.cons (.str [107,105,110,100,97]) (.cons (.str [116,105,101,115]) (.cons (.str [115,97,121,115]) (.cons (.str [105]) .nil))))))) (.cons (.ret e_law_family_2) .nil))) .nil) (.cons (.setf 5 (.slH (.bin .add (.str [113]) (.bin .mul (.ix (.var 2) (.var 3)) (.int 6))) (.bin .add (.int 1) (.bin .mod (.bin .fdiv (.var 0) (.int 104)) (.int 7))))) (.cons (.setf 6 (.bin .mod (.bin .fdiv (.var 0) (.int 728)) (.bin .add (.bi .len (.cons (.var 5) .nil)) (.int 1)))) (.cons (.ret e_law_family_1) .nil)))))))⟩
def e_law_any_names_1:E:= .comp [0] true 1 [4,5] (.seq (.var 9)) true (.cmp .nmem (.var 0) (.bin .add (.var 1) (.var 2))) (.var 0)
def e_law_any_names_2:E:= .comp [0] true 1 [8] (.seq (.var 3)) false (.bl true) (.bin .add (.slH (.var 1) (.int 7)) (.var 0))
def e_law_any_names_3:E:= .comp [0] true 1 [3,6] (.range1 (.var 7)) false (.bl true) (.ix (.var 1) (.call "_law_next" (.cons (.var 2) (.cons (.int 26) .nil))))
def b_law_any_names_4:Ss:= .cons (.setf 7 (.bin .add (.int 1) (.call "_law_next" (.cons (.var 6) (.cons (.int 8) .nil))))) (.cons (.setf 8 (.meth .join (.str []) (.cons e_law_any_names_3 .nil))) (.cons (.iff (.cmp .mem (.var 8) (.bin .add (.var 4) (.var 5))) (.cons (.setf 9 e_law_any_names_2) (.cons (.setf 8 (.ix e_law_any_names_1 (.int 0))) .nil)) .nil) (.cons (.app 5 (.var 8)) .nil)))
def d_law_any_names:Fn:=⟨3,10,.cons (.setf 3 (.str [97,98,99,100,101,102,103,104,105,106,107,108,109,110,111,112,113,114,115,116,117,118,119,120,121,122])) (.cons (.setf 4 (.lst (.cons (.str [115,111,109,101]) (.cons (.str [110,111]) (.cons (.str [108,101,97,115,116]) (.cons (.str [109,111,115,116]) (.cons (.str [101,97,99,104]) (.cons (.str [105,110]) (.cons (.str [97,110,100]) (.cons (.str [111,114]) (.cons (.str [110,111,116]) (.cons (.str [115,97,109,101]) (.cons (.str [97,108,108]) (.cons (.str [110,111,110,101]) (.cons (.str [107,105,110,100]) (.cons (.str [116,105,101]) .nil)))))))))))))))) (.cons (.set 5 (.lst (.cons (.str [115,97,121]) .nil))) (.cons (.for [6] true (.seq (.bin .add (.bin .mul (.lst (.cons (.share (.call "_law_purse" (.cons (.var 0) (.cons (.int 1) .nil)))) .nil)) (.var 1)) (.bin .mul (.lst (.cons (.share (.call "_law_purse" (.cons (.var 0) (.cons (.int 2) .nil)))) .nil)) (.var 2)))) b_law_any_names_4) (.cons (.ret (.slL (.var 5) (.int 1))) .nil))))⟩
def d_law_words:Fn:=⟨1,6,.cons (.set 1 (.share (.call "_law_purse" (.cons (.var 0) (.cons (.int 0) .nil))))) (.cons (.setf 2 (.call "_law_next" (.cons (.var 1) (.cons (.int 5) .nil)))) (.cons (.setf 3 (.call "_law_next" (.cons (.var 1) (.cons (.int 5) .nil)))) (.cons (.setf 4 (.call "_law_next" (.cons (.var 1) (.cons (.bin .pow (.int 10) (.int 8)) .nil)))) (.cons (.setf 5 (.call "_law_family" (.cons (.bin .fdiv (.var 4) (.int 2)) (.cons (.bin .add (.var 2) (.var 3)) .nil)))) (.cons (.iff (.cmp .eq (.bin .mod (.var 4) (.int 2)) (.int 1)) (.cons (.setf 5 (.rev (.var 5))) .nil) .nil) (.cons (.iff (.cmp .eq (.bin .mod (.call "_law_cell" (.cons (.var 0) (.cons (.int 0) .nil))) (.int 2)) (.int 1)) (.cons (.setf 5 (.call "_law_any_names" (.cons (.var 0) (.cons (.var 2) (.cons (.var 3) .nil))))) .nil) .nil) (.cons (.ret (.tup (.cons (.bi .tuple (.cons (.bi .sorted (.cons (.slH (.var 5) (.var 2)) .nil)) .nil)) (.cons (.bi .tuple (.cons (.bi .sorted (.cons (.slL (.var 5) (.var 2)) .nil)) .nil)) .nil)))) .nil)))))))⟩
def e_law_leaf_1:E:= .comp [0] true 1 [] (.seq (.var 1)) false (.bl true) (.tup (.cons (.str [110,97,109,101]) (.cons (.var 0) .nil)))
def d_law_leaf:Fn:=⟨2,3,.cons (.setf 2 (.bin .add e_law_leaf_1 (.lst (.cons (.tup (.cons (.str [115,97,109,101]) .nil)) (.cons (.tup (.cons (.str [97,108,108]) .nil)) (.cons (.tup (.cons (.str [110,111,110,101]) .nil)) .nil)))))) (.cons (.ret (.ix (.var 2) (.call "_law_next" (.cons (.var 0) (.cons (.bi .len (.cons (.var 2) .nil)) .nil))))) .nil)⟩
def d_law_expression:Fn:=⟨3,6,.cons (.setf 3 (.int 0)) (.cons (.iff (.cmp .gt (.var 1) (.int 0)) (.cons (.setf 3 (.call "_law_next" (.cons (.var 0) (.cons (.int 9) .nil)))) .nil) .nil) (.cons (.iff (.cmp .eq (.var 3) (.int 0)) (.cons (.ret (.call "_law_leaf" (.cons (.var 0) (.cons (.var 2) .nil)))) .nil) .nil) (.cons (.setf 4 (.call "_law_expression" (.cons (.var 0) (.cons (.bin .sub (.var 1) (.int 1)) (.cons (.var 2) .nil))))) (.cons (.iff (.cmp .lt (.var 3) (.int 3)) (.cons (.ret (.tup (.cons (.ix (.lst (.cons (.str [116,117,114,110,101,100]) (.cons (.str [99,108,111,115,101,100]) .nil))) (.bin .sub (.var 3) (.int 1))) (.cons (.var 4) .nil)))) .nil) .nil) (.cons (.setf 5 (.call "_law_expression" (.cons (.var 0) (.cons (.bin .sub (.var 1) (.int 1)) (.cons (.var 2) .nil))))) (.cons (.ret (.tup (.cons (.ix (.lst (.cons (.str [112,108,117,115]) (.cons (.str [108,101,115,115]) (.cons (.str [98,111,116,104]) (.cons (.str [106,111,105,110,101,100]) (.cons (.str [108,101,115,115]) (.cons (.str [106,111,105,110,101,100]) .nil))))))) (.bin .sub (.var 3) (.int 3))) (.cons (.var 4) (.cons (.var 5) .nil))))) .nil))))))⟩
def d_law_fact:Fn:=⟨2,5,.cons (.setf 2 (.call "_law_next" (.cons (.var 0) (.cons (.int 8) .nil)))) (.cons (.setf 3 (.call "_law_expression" (.cons (.var 0) (.cons (.call "_law_next" (.cons (.var 0) (.cons (.int 4) .nil))) (.cons (.var 1) .nil))))) (.cons (.iff (.cmp .lt (.var 2) (.int 2)) (.cons (.ret (.tup (.cons (.ix (.lst (.cons (.str [105,110]) (.cons (.str [101,113,117,97,108]) .nil))) (.var 2)) (.cons (.var 3) (.cons (.call "_law_expression" (.cons (.var 0) (.cons (.call "_law_next" (.cons (.var 0) (.cons (.int 3) .nil))) (.cons (.var 1) .nil)))) .nil))))) .nil) .nil) (.cons (.iff (.cmp .lt (.var 2) (.int 4)) (.cons (.ret (.tup (.cons (.ix (.lst (.cons (.str [115,111,109,101]) (.cons (.str [110,111]) .nil))) (.bin .sub (.var 2) (.int 2))) (.cons (.var 3) .nil)))) .nil) .nil) (.cons (.setf 4 (.call "_law_next" (.cons (.var 0) (.cons (.ix (.lst (.cons (.int 5) (.cons (.int 18) (.cons (.int 100) .nil)))) (.call "_law_next" (.cons (.var 0) (.cons (.int 3) .nil)))) .nil)))) (.cons (.ret (.tup (.cons (.ix (.lst (.cons (.str [108,101,97,115,116]) (.cons (.str [109,111,115,116]) (.cons (.str [101,97,99,104,108,101,97,115,116]) (.cons (.str [101,97,99,104,109,111,115,116]) .nil))))) (.bin .sub (.var 2) (.int 4))) (.cons (.var 4) (.cons (.var 3) .nil))))) .nil)))))⟩
def d_law_saying:Fn:=⟨3,5,.cons (.setf 3 (.int 0)) (.cons (.iff (.cmp .gt (.var 1) (.int 0)) (.cons (.setf 3 (.call "_law_next" (.cons (.var 0) (.cons (.int 6) .nil)))) .nil) .nil) (.cons (.iff (.cmp .lt (.var 3) (.int 3)) (.cons (.ret (.call "_law_fact" (.cons (.var 0) (.cons (.var 2) .nil)))) .nil) .nil) (.cons (.setf 4 (.call "_law_saying" (.cons (.var 0) (.cons (.bin .sub (.var 1) (.int 1)) (.cons (.var 2) .nil))))) (.cons (.iff (.cmp .eq (.var 3) (.int 3)) (.cons (.ret (.tup (.cons (.str [110,111,116]) (.cons (.var 4) .nil)))) .nil) .nil) (.cons (.ret (.tup (.cons (.ix (.lst (.cons (.str [97,110,100]) (.cons (.str [111,114]) .nil))) (.bin .sub (.var 3) (.int 4))) (.cons (.var 4) (.cons (.call "_law_saying" (.cons (.var 0) (.cons (.bin .sub (.var 1) (.int 1)) (.cons (.var 2) .nil)))) .nil))))) .nil)))))⟩
def d_law_level:Fn:=⟨1,1,.cons (.iff (.cmp .mem (.ix (.var 0) (.int 0)) (.tup (.cons (.str [112,108,117,115]) (.cons (.str [108,101,115,115]) .nil)))) (.cons (.ret (.int 0)) .nil) .nil) (.cons (.iff (.cmp .mem (.ix (.var 0) (.int 0)) (.tup (.cons (.str [98,111,116,104]) (.cons (.str [106,111,105,110,101,100]) .nil)))) (.cons (.ret (.bin .add (.int 1) (.bi .int (.cons (.cmp .eq (.ix (.var 0) (.int 0)) (.str [106,111,105,110,101,100])) .nil)))) .nil) .nil) (.cons (.ret (.int 3)) .nil))⟩
def d_law_text:Fn:=⟨2,6,.cons (.setf 2 (.ix (.var 0) (.int 0))) (.cons (.setf 3 (.var 2)) (.cons (.iff (.cmp .eq (.var 2) (.str [110,97,109,101])) (.cons (.setf 3 (.ix (.var 0) (.int 1))) .nil) .nil) (.cons (.iff (.cmp .mem (.var 2) (.tup (.cons (.str [116,117,114,110,101,100]) (.cons (.str [99,108,111,115,101,100]) .nil)))) (.cons (.setf 3 (.bin .add (.ix (.str [126,94]) (.bi .int (.cons (.cmp .eq (.var 2) (.str [99,108,111,115,101,100])) .nil))) (.call "_law_text" (.cons (.ix (.var 0) (.int 1)) (.cons (.int 3) .nil))))) .nil) .nil) (.cons (.iff (.cmp .lt (.call "_law_level" (.cons (.var 0) .nil)) (.int 3)) (.cons (.setf 4 (.dlit [([112,108,117,115],[32,43,32]),([108,101,115,115],[32,45,32]),([98,111,116,104],[32,38,32]),([106,111,105,110,101,100],[32,46,32])] 2)) (.cons (.setf 5 (.call "_law_level" (.cons (.var 0) .nil))) (.cons (.setf 3 (.bin .add (.bin .add (.call "_law_text" (.cons (.ix (.var 0) (.int 1)) (.cons (.var 5) .nil))) (.var 4)) (.call "_law_text" (.cons (.ix (.var 0) (.int 2)) (.cons (.bin .add (.var 5) (.int 1)) .nil))))) .nil))) .nil) (.cons (.iff (.cmp .lt (.call "_law_level" (.cons (.var 0) .nil)) (.var 1)) (.cons (.ret (.bin .add (.bin .add (.str [40]) (.var 3)) (.str [41]))) .nil) .nil) (.cons (.ret (.var 3)) .nil))))))⟩
def d_law_saying_level:Fn:=⟨1,1,.cons (.ret (.bin .sub (.bin .sub (.int 2) (.bi .int (.cons (.cmp .eq (.ix (.var 0) (.int 0)) (.str [97,110,100])) .nil))) (.bin .mul (.int 2) (.bi .int (.cons (.cmp .eq (.ix (.var 0) (.int 0)) (.str [111,114])) .nil))))) .nil⟩
def d_law_saying_text:Fn:=⟨2,6,.cons (.setf 2 (.ix (.var 0) (.int 0))) (.cons (.iff (.cmp .mem (.var 2) (.tup (.cons (.str [97,110,100]) (.cons (.str [111,114]) .nil)))) (.cons (.setf 3 (.call "_law_saying_level" (.cons (.var 0) .nil))) (.cons (.setf 4 (.bin .add (.bin .add (.bin .add (.bin .add (.call "_law_saying_text" (.cons (.ix (.var 0) (.int 1)) (.cons (.var 3) .nil))) (.str [32])) (.var 2)) (.str [32])) (.call "_law_saying_text" (.cons (.ix (.var 0) (.int 2)) (.cons (.bin .add (.var 3) (.int 1)) .nil))))) .nil)) (.cons (.iff (.cmp .eq (.var 2) (.str [110,111,116])) (.cons (.setf 4 (.bin .add (.str [110,111,116,32]) (.call "_law_saying_text" (.cons (.ix (.var 0) (.int 1)) (.cons (.int 2) .nil))))) .nil) (.cons (.iff (.cmp .mem (.var 2) (.tup (.cons (.str [105,110]) (.cons (.str [101,113,117,97,108]) .nil)))) (.cons (.setf 5 (.ix (.lst (.cons (.str [32,61,32]) (.cons (.str [32,105,110,32]) .nil))) (.bi .int (.cons (.cmp .eq (.var 2) (.str [105,110])) .nil)))) (.cons (.setf 4 (.bin .add (.bin .add (.call "_law_text" (.cons (.ix (.var 0) (.int 1)) (.cons (.int 0) .nil))) (.var 5)) (.call "_law_text" (.cons (.ix (.var 0) (.int 2)) (.cons (.int 0) .nil))))) .nil)) (.cons (.iff (.cmp .mem (.var 2) (.tup (.cons (.str [115,111,109,101]) (.cons (.str [110,111]) .nil)))) (.cons (.setf 4 (.bin .add (.bin .add (.var 2) (.str [32])) (.call "_law_text" (.cons (.ix (.var 0) (.int 1)) (.cons (.int 0) .nil))))) .nil) (.cons (.setf 2 (.dlit [([108,101,97,115,116],[108,101,97,115,116,32]),([109,111,115,116],[109,111,115,116,32]),([101,97,99,104,108,101,97,115,116],[101,97,99,104,32,108,101,97,115,116,32]),([101,97,99,104,109,111,115,116],[101,97,99,104,32,109,111,115,116,32])] 2)) (.cons (.setf 4 (.bin .add (.bin .add (.bin .add (.var 2) (.strI (.ix (.var 0) (.int 1)))) (.str [32])) (.call "_law_text" (.cons (.ix (.var 0) (.int 2)) (.cons (.int 0) .nil))))) .nil))) .nil)) .nil)) .nil)) (.cons (.iff (.cmp .lt (.call "_law_saying_level" (.cons (.var 0) .nil)) (.var 1)) (.cons (.ret (.bin .add (.bin .add (.str [91]) (.var 4)) (.str [93]))) .nil) .nil) (.cons (.ret (.var 4)) .nil)))⟩
def e_law_parts_1:E:= .comp [0] true 1 [] (.seq (.slL (.var 0) (.int 1))) true (.isT (.var 0) .tuple) (.var 0)
def d_law_parts:Fn:=⟨1,1,.cons (.iff (.cmp .mem (.ix (.var 0) (.int 0)) (.tup (.cons (.str [110,111,116]) (.cons (.str [97,110,100]) (.cons (.str [111,114]) .nil))))) (.cons (.ret (.call "_law_parts" (.cons (.ix (.var 0) (.int 1)) .nil))) .nil) .nil) (.cons (.ret e_law_parts_1) .nil)⟩
def b_law_1:Ss:= .cons (.setf 5 (.call "shown_expression" (.cons (.var 6) .nil))) (.cons (.iff (.or (.not (.isT (.var 5) .str)) (.cmp .ne (.var 5) (.call "_law_text" (.cons (.var 6) (.cons (.int 0) .nil))))) (.cons (.ret (.bl false)) .nil) .nil) .nil)
def b_law_2:Ss:= .cons (.set 3 (.share (.call "_law_purse" (.cons (.var 0) (.cons (.var 2) .nil))))) (.cons (.setf 4 (.call "_law_saying" (.cons (.var 3) (.cons (.call "_law_next" (.cons (.var 3) (.cons (.int 5) .nil))) (.cons (.bin .add (.ix (.var 1) (.int 0)) (.ix (.var 1) (.int 1))) .nil))))) (.cons (.setf 5 (.call "shown_saying" (.cons (.var 4) .nil))) (.cons (.iff (.or (.not (.isT (.var 5) .str)) (.cmp .ne (.var 5) (.call "_law_saying_text" (.cons (.var 4) (.cons (.int 0) .nil))))) (.cons (.ret (.bl false)) .nil) .nil) (.cons (.for [6] true (.seq (.call "_law_parts" (.cons (.var 4) .nil))) b_law_1) .nil))))
def d_law:Fn:=⟨1,7,.cons (.setf 1 (.call "_law_words" (.cons (.var 0) .nil))) (.cons (.for [2] true (.range2 (.int 3) (.bi .max (.cons (.int 4) (.cons (.bi .min (.cons (.int 23) (.cons (.bi .len (.cons (.var 0) .nil)) .nil))) .nil)))) b_law_2) (.cons (.ret (.bl true)) .nil))⟩
def prog:Prog:=⟨[("expression_of_rank",d_expression_of_rank),("shown_expression",d_shown_expression),("saying_of_rank",d_saying_of_rank),("shown_fact",d_shown_fact),("shown_saying",d_shown_saying),("_law_cell",d_law_cell),("_law_purse",d_law_purse),("_law_next",d_law_next),("_law_family",d_law_family),("_law_any_names",d_law_any_names),("_law_words",d_law_words),("_law_leaf",d_law_leaf),("_law_expression",d_law_expression),("_law_fact",d_law_fact),("_law_saying",d_law_saying),("_law_level",d_law_level),("_law_text",d_law_text),("_law_saying_level",d_law_saying_level),("_law_saying_text",d_law_saying_text),("_law_parts",d_law_parts),("law",d_law)],[],[("ATOM_RANK",.int 4),("EXPRESSION_RANKS",.exc "" [([112,108,117,115],.int 1),([108,101,115,115],.int 1),([98,111,116,104],.int 2),([106,111,105,110,101,100],.int 3)]),("SIGNS",.exc "" [([112,108,117,115],.str [43]),([108,101,115,115],.str [45]),([98,111,116,104],.str [38]),([106,111,105,110,101,100],.str [46]),([116,117,114,110,101,100],.str [126]),([99,108,111,115,101,100],.str [94])]),("UNIT_RANK",.int 3),("SAYING_RANKS",.exc "" [([111,114],.int 1),([97,110,100],.int 2)]),("WORDS",.exc "" [([105,110],.str [105,110]),([101,113,117,97,108],.str [61]),([115,111,109,101],.str [115,111,109,101]),([110,111],.str [110,111]),([108,101,97,115,116],.str [108,101,97,115,116]),([109,111,115,116],.str [109,111,115,116]),([101,97,99,104,108,101,97,115,116],.str [101,97,99,104,32,108,101,97,115,116]),([101,97,99,104,109,111,115,116],.str [101,97,99,104,32,109,111,115,116])])]⟩
end M
namespace M
theorem Jj {step:D->AH->R (Option D)}{h:AH}(f:D->Option D): ∀(ds:List D),(∀ d∈ds,step d h= .ok (f d) h)->compGo step ds h= .ok (ds.filterMap f) h
 | [],_=>rfl
 | d::ds,hs=>by
  have ih:=Jj f ds fun d hd=>hs d (List.mem_cons_of_mem _ hd)
  rw [compGo,hs d List.mem_cons_self]
  simp only [ih]
  cases q:f d<;>simp [List.filterMap_cons,q]
theorem zU {F:Fx}{tg:List Nat}{one:Bool}{k:Nat}{cap:List Nat}{it:It}{c elt:E}{τ:Sl}{h:AH}{ds:List D}(f:D->Option D) (hi:evalIt F it τ h= .ok ds h) (hl:ds.length<=LIM)
 (hs: ∀d∈ds,∃τ' b,bindT tg one d (List.replicate k none++cap.map fun j=>readS τ j)=some τ'/\tstE F c τ' h= .ok b h/\(if b=true then ∃w y,eval F elt τ' h= .ok w h/\w.d=some y/\f d=some y else f d=none)):
 eval F (.comp tg one k cap it true c elt) τ h= .ok (.own (ds.filterMap f)) h:=by
 rw [eval,hi,R.bind_ok,if_pos hl,Jj f]
 ·rfl
 intro d hd
 obtain⟨τ',b,h1,h2,h3⟩:=hs d hd
 rw [h1]
 show((tstE F c τ' h).bind _)=_
 rw [h2]
 cases b with
 | true=>
  rw [if_pos rfl]at h3
  obtain⟨w,y,e1,e2,e3⟩:=h3
  simp [e1,e2,e3]
 | false=>
  rw [if_neg (by simp)]at h3
  simp [h3]
theorem jk {F:Fx}{tg:List Nat}{one:Bool}{k:Nat}{cap:List Nat}{it:It}{c elt:E}{τ:Sl}{h:AH}{ds:List D}(f:D->D) (hi:evalIt F it τ h= .ok ds h) (hl:ds.length<=LIM)
 (hs: ∀d∈ds,∃τ',bindT tg one d (List.replicate k none++cap.map fun j=>readS τ j)=some τ'/\ ∃w,eval F elt τ' h= .ok w h/\w.d=some (f d)):
 eval F (.comp tg one k cap it false c elt) τ h= .ok (.own (ds.map f)) h:=by
 rw [eval,hi,R.bind_ok,if_pos hl,Jj (fun d=>some (f d))]
 ·simp [List.filterMap_eq_map']
 intro d hd
 obtain⟨τ',h1,w,e1,e2⟩:=hs d hd
 rw [h1]
 simp [e1,e2]
theorem wI (bnd:D->Sl->Option Sl) (body:Sl->AH->O) (d:D) (ds:List D) (τ:Sl) (h:AH):forGo bnd body (d::ds) τ h=match bnd d τ with
 | none=> .fail
 | some τ1=>match body τ1 h with
  | .next τ2 h2=>forGo bnd body ds τ2 h2
  | .cont τ2 h2=>forGo bnd body ds τ2 h2
  | .brk τ2 h2=> .next τ2 h2
  | o=>o:=rfl
@[simp] theorem forGo_nil (bnd:D->Sl->Option Sl) (body:Sl->AH->O) (τ:Sl) (h:AH):forGo bnd body [] τ h= .next τ h:=rfl
theorem Qj {bnd:D->Sl->Option Sl}{body:Sl->AH->O}{d:D}{ds:List D}{τ τ1 τ2:Sl}{h h2:AH}(e1:bnd d τ=some τ1) (e2:body τ1 h= .next τ2 h2):forGo bnd body (d::ds) τ h=forGo bnd body ds τ2 h2:=by
 rw [wI,e1];simp only [e2]
@[simp] theorem bindT_one (i:Nat) (d:D) (τ:Sl):bindT [i] true d τ=some (setS τ i (.v d)):=rfl
@[simp] theorem bindT_tup (tg:List Nat) (ds:List D) (τ:Sl):bindT tg false (.tup ds) τ=setTup tg ds τ:=rfl
@[simp] theorem int_mod (i j:Int):intOp .mod i j=if 0<j then some (i % j)else none:=rfl
@[simp] theorem int_fdiv (i j:Int):intOp .fdiv i j=if 0<j/\j<B30 then some (i / j)else none:=rfl
@[simp] theorem int_band (i j:Int):intOp .band i j=andI i j:=rfl
@[simp] theorem int_bor (i j:Int):intOp .bor i j=orI i j:=rfl
@[simp] theorem int_shr (i j:Int):intOp .shr i j=if 0<=j then some (i / 2 ^ j.toNat)else none:=rfl
theorem wu (a b:Nat) (h:a<2 ^ 64):intOp .mul (a:Int) (b:Int)=some ((a*b:Nat):Int):=by
 have h1:(-B64<(a:Int)/\(a:Int)<B64)\/(-B64<(b:Int)/\(b:Int)<B64):=by rw [B64_eq];omega
 show(if _ then _ else _)=_
 rw [if_pos h1,Int.natCast_mul]
theorem rng (m:Nat){d:D}(hd:d∈(List.range m).map fun(i:Nat)=>D.int (i:Int)): ∃i:Nat,i<m/\d= .int (i:Int):=by
 obtain⟨i,hi,rfl⟩:=List.mem_map.mp hd
 exact⟨i,List.mem_range.mp hi,rfl⟩
theorem Qi {F:Fx}{a:E}{τ:Sl}{h:AH}{m:Nat}(e:eval F a τ h= .ok (.v (.int (m:Int))) h) (hm:m<=1000000):evalIt F (.range1 a) τ h= .ok ((List.range m).map fun(i:Nat)=> .int (i:Int)) h:=by
 have hr: -B62<=(m:Int)/\(m:Int)<B62:=by rw [B62_eq];omega
 rw [evalIt,e,R.bind_ok,int?_int,R.of_some,R.bind_ok,if_pos hr,Int.toNat_natCast]
end M
local macro_rules | `(tactic| simp_all [$xs,*]) => `(tactic| simp only [M.exec, M.execs, M.tstE, M.eval, M.evalWs, M.evalDs, M.evalIt, M.evalLp, M.isVar, M.readS, M.getS, M.setS, M.setTup, M.R.bind_ok, M.R.toO_ok, M.R.of_some, M.O.seq_next, M.O.seq_ret, M.O.seq_exc, M.W.d_v, M.W.d_own, M.W.arg_v, M.W.arg_own, M.W.arg_bor, List.map_cons, List.map_nil, List.cons_append, List.nil_append, Nat.reduceSub, List.replicate_succ, List.replicate_zero, M.tru_bl, Bool.not_true, Bool.not_false, M.bin_ints, Option.bind_some, M.lpV_lst, M.lpV_bor, M.lpV_tup, M.lpW_own, M.lpW_lst, M.lpW_tup, M.int?_int, M.finO_retv, M.finO_reto, M.finO_exc, M.finO_next, M.bindT_one, M.bindT_tup, $xs,*])
namespace M
theorem t_it {F:Fx}{e:E}{τ:Sl}{h:AH}{xs:List D}(q:eval F e τ h= .ok (.v (.tup xs)) h):evalIt F (.seq e) τ h= .ok xs h:=by
 rw [evalIt,q];rfl
end M
namespace M
theorem za {F:Fx}{s:S}{ss:Ss}{τ τ1:Sl}{h h1:AH}(e:exec F s τ h= .next τ1 h1):execs F (.cons s ss) τ h=execs F ss τ1 h1:=by rw [execs,e,O.seq_next]
theorem Wa {F:Fx}{s:S}{ss:Ss}{τ:Sl}{h h1:AH}{w:W}(e:exec F s τ h= .ret w h1):execs F (.cons s ss) τ h= .ret w h1:=by rw [execs,e,O.seq_ret]
theorem if_t {F:Fx}{c:E}{a b:Ss}{τ:Sl}{h h1:AH}(e:tstE F c τ h= .ok true h1):exec F (.iff c a b) τ h=execs F a τ h1:=by rw [exec,e,R.toO_ok]
theorem if_f {F:Fx}{c:E}{a b:Ss}{τ:Sl}{h h1:AH}(e:tstE F c τ h= .ok false h1):exec F (.iff c a b) τ h=execs F b τ h1:=by rw [exec,e,R.toO_ok]
theorem zi {F:Fx}{e:E}{τ:Sl}{h h1:AH}{xs:List D}(hv:isVar e=none) (q:eval F e τ h= .ok (.own xs) h1):exec F (.ret e) τ h= .ret (.own xs) h1:=by
 rw [exec,hv];simp only [q,R.toO_ok]
theorem xf {F:Fx}{e:E}{τ:Sl}{h h1:AH}{d:D}(hv:isVar e=none) (q:eval F e τ h= .ok (.v d) h1):exec F (.ret e) τ h= .ret (.v d) h1:=by
 rw [exec,hv];simp only [q,R.toO_ok]
def PH (h:AH):Prop:= ∀r,r<h.length-> ∃a f m:Int,h[r]? =some (.lst [.int a,.int f,.int m])
theorem xh {h:AH}{r:Nat}{xs:List D}(e:h[r]? =some (.lst xs)) (i:Int):ixD (.v (.ref r)) (.v (.int i)) h=atI xs i:=by
 simp [ixD,W.int?,W.str?,W.seq?,e]
theorem zY (x y z:D):atI [x,y,z] 0=some x:=rfl
theorem qau (x y z:D):atI [x,y,z] 1=some y:=rfl
theorem zQ (x y z:D):atI [x,y,z] 2=some z:=rfl
theorem jaS:ixN 3 0=some 0:=rfl
theorem qaS:ixN 3 2=some 2:=rfl
theorem PH.set {h:AH}(P:PH h) (r:Nat) (a f m:Int):PH (h.set r (.lst [.int a,.int f,.int m])):=fun q hq=>by
 rw [List.length_set]at hq
 by_cases e:q=r
 ·subst e
  exact⟨a,f,m,by rw [List.getElem?_set_self hq]⟩
 ·obtain⟨a',f',m',e'⟩:=P q hq
  exact⟨a',f',m',by rw [List.getElem?_set_ne (fun h=>e h.symm),e']⟩
theorem PH.nil:PH []:=fun r hr=>absurd hr (Nat.not_lt_zero _)
theorem PH.app {h:AH}(P:PH h) (a f m:Int):PH (h++ [.lst [.int a,.int f,.int m]]):=fun q hq=>by
 by_cases e:q<h.length
 ·rw [List.getElem?_append_left e]
  exact P q e
 ·simp at hq
  have:q=h.length:=by omega
  subst this
  exact⟨a,f,m,by simp⟩
theorem PH.take {h:AH}(P:PH h) (n:Nat):PH (h.take n):=fun q hq=>by
 rw [List.length_take]at hq
 rw [List.getElem?_take,if_pos (by omega)]
 exact P q (by omega)
theorem xp {F:Fx}{i:Nat}{j:Int}{e:E}{τ:Sl}{h h2:AH}{r n:Nat}{d:D}{xs:List D}(e1:eval F e τ h= .ok (.v d) h) (e2:readS τ i=some (.v (.ref r))) (e3:h[r]? =some (.lst xs)) (e4:ixN xs.length j=some n) (e5:flat d=true) (e6:h2=h.set r (.lst (xs.set n d))):
 exec F (.setref (.var i) (.int j) e) τ h= .next τ h2:=by
 subst e6
 simp only [exec,e1,R.toO_ok,eval,e2,setC,e3,e4,e5,if_true]
theorem zaf (a b:Int) (h: -(2:Int) ^ 64<b/\b<2 ^ 64):intOp .mul a b=some (a*b):=by
 have h1:(-B64<a/\a<B64)\/(-B64<b/\b<B64):=by rw [B64_eq];exact .inr h
 show(if _ then _ else _)=_
 rw [if_pos h1]
theorem wm (a b:Int) (h: -(2:Int) ^ 64<a/\a<2 ^ 64):intOp .mul a b=some (a*b):=by
 have h1:(-B64<a/\a<B64)\/(-B64<b/\b<B64):=by rw [B64_eq];exact .inl h
 show(if _ then _ else _)=_
 rw [if_pos h1]
theorem Xe (a b:Int) (h:0<b):intOp .mod a b=some (a % b):=by
 rw [int_mod,if_pos h]
theorem Wl (a b:Int) (h:0<b) (h2:b<1073741824):intOp .fdiv a b=some (a / b):=by
 rw [int_fdiv,if_pos ⟨h,by rw [B30_eq];exact h2⟩]
theorem Zk (i j:Int) (h:AH):cmpD .eq (.v (.int i)) (.v (.int j)) h=some (decide (i=j)):=by
 simp [eqOk]
 rfl
theorem Wd (k:Nat){h:AH}{r m:Nat}(P:PH h) (hr:r<h.length) (hm:0<m) (hb:m<1073741824):
 ∃(v:Nat) (h':AH),v<m/\PH h'/\h'.length=h.length/\call prog (k+1) "_law_next" [.v (.ref r),.v (.int (m:Int))] h= .ok (.v (.int (v:Int))) h':=by
 obtain⟨a,f,g,e0⟩:=P r hr
 rw [call_of (d:=d_law_next) rfl _ _ _ rfl]
 have l1:(h.set r (.lst [.int a,.int f,.int (g-1)]))[r]? =some (.lst [.int a,.int f,.int (g-1)]):=List.getElem?_set_self hr
 have s1: ∀F τ,readS τ 0=some (.v (.ref r))->exec F (.setref (.var 0) (.int 2) (.bin .sub (.ix (.var 0) (.int 2)) (.int 1))) τ h= .next τ (h.set r (.lst [.int a,.int f,.int (g-1)])):=fun F τ q=>
  xp (d:= .int (g-1)) (n:=2) (by simp only [eval,q,xh e0,R.bind_ok,zQ,R.of_some,bin_ints,int_sub]) q e0 rfl rfl rfl
 simp only [d_law_next]
 rw [za (s1 _ _ rfl)]
 have hm':(0:Int)<(m:Int):=by omega
 by_cases q:g-1<0
 ·refine⟨0,_,hm,P.set r a f (g-1),by rw [List.length_set],?_⟩
  simp_all [xh l1,zQ,cmp_lt,q,decide_true]
  rw [finO_retv _ _ _ (by rw [List.length_set])]
  rfl
 by_cases q2:f=1
 ·subst q2
  have l2:((h.set r (.lst [.int a,.int 1,.int (g-1)])).set r (.lst [.int (a / m),.int 1,.int (g-1)]))[r]? =some (.lst [.int (a / m),.int 1,.int (g-1)]):=List.getElem?_set_self (by rw [List.length_set];exact hr)
  have s2: ∀F τ,readS τ 0=some (.v (.ref r))->readS τ 1=some (.v (.int (m:Int)))->exec F (.setref (.var 0) (.int 0) (.bin .fdiv (.ix (.var 0) (.int 0)) (.var 1))) τ (h.set r (.lst [.int a,.int 1,.int (g-1)]))= .next τ ((h.set r (.lst [.int a,.int 1,.int (g-1)])).set r (.lst [.int (a / m),.int 1,.int (g-1)])):=fun F τ q1 q3=>
   xp (d:= .int (a / m)) (n:=0) (by simp only [eval,q1,q3,xh l1,R.bind_ok,zY,R.of_some,bin_ints,Wl a m hm' (by omega)]) q1 l1 rfl rfl rfl
  refine⟨(a % m).toNat,_,?_,(P.set r a 1 (g-1)).set r (a / m) 1 (g-1),by rw [List.length_set,List.length_set],?_⟩
  ·have:=Int.emod_lt_of_pos a hm'
   have:=Int.emod_nonneg a (Int.ne_of_gt hm')
   omega
  ·have e4:(((a % m).toNat:Nat):Int)=a % m:=Int.toNat_of_nonneg (Int.emod_nonneg a (Int.ne_of_gt hm'))
   show finO _ (execs _ _ [some (.v (.ref r)),some (.v (.int (m:Int))),none,none] _)=_
   rw [za (τ1:= [some (.v (.ref r)),some (.v (.int (m:Int))),none,none]) (h1:=h.set r (.lst [.int a,.int 1,.int (g-1)])) (by simp_all [xh l1,zQ,cmp_lt,q,decide_false])]
   rw [Wa (w:= .v (.int (a % m))) (h1:=(h.set r (.lst [.int a,.int 1,.int (g-1)])).set r (.lst [.int (a / m),.int 1,.int (g-1)]))]
   ·rw [finO_retv _ _ _ (by rw [List.length_set,List.length_set]),e4]
   ·rw [if_t (h1:=h.set r (.lst [.int a,.int 1,.int (g-1)])) (by simp_all [xh l1,qau,Zk,decide_true])]
    rw [za (τ1:= [some (.v (.ref r)),some (.v (.int (m:Int))),some (.v (.int (a % m))),none]) (h1:=h.set r (.lst [.int a,.int 1,.int (g-1)])) (by simp_all [xh l1,zY,Xe a m hm'])]
    rw [za (s2 _ _ rfl rfl)]
    simp_all []
 ·generalize hA:(a*48817+65029*(g-1)+501) % 1000000093=A
  have hA1:0<=A/\A<1000000093:=by
   rw [← hA]
   exact⟨Int.emod_nonneg _ (by decide),Int.emod_lt_of_pos _ (by decide)⟩
  have l2:((h.set r (.lst [.int a,.int f,.int (g-1)])).set r (.lst [.int A,.int f,.int (g-1)]))[r]? =some (.lst [.int A,.int f,.int (g-1)]):=List.getElem?_set_self (by rw [List.length_set];exact hr)
  have m1:intOp .mul a 48817=some (a*48817):=zaf a 48817 (by decide)
  have m2:intOp .mul 65029 (g-1)=some (65029*(g-1)):=wm _ _ (by decide)
  have d1:intOp .mod (a*48817+65029*(g-1)+501) 1000000093=some A:=by rw [Xe _ _ (by decide),hA]
  have s2: ∀F τ,readS τ 0=some (.v (.ref r))->exec F (.setref (.var 0) (.int 0) (.bin .mod (.bin .add (.bin .add (.bin .mul (.ix (.var 0) (.int 0)) (.int 48817)) (.bin .mul (.int 65029) (.ix (.var 0) (.int 2)))) (.int 501)) (.int 1000000093))) τ (h.set r (.lst [.int a,.int f,.int (g-1)]))= .next τ ((h.set r (.lst [.int a,.int f,.int (g-1)])).set r (.lst [.int A,.int f,.int (g-1)])):=fun F τ q1=>
   xp (d:= .int A) (n:=0) (by simp only [eval,q1,xh l1,R.bind_ok,zY,zQ,R.of_some,bin_ints,m1,m2,int_add,d1]) q1 l1 rfl rfl rfl
  generalize hB:A*(A / 2053+613) % 998244353=B
  have hB1:0<=B/\B<998244353:=by
   rw [← hB]
   exact⟨Int.emod_nonneg _ (by decide),Int.emod_lt_of_pos _ (by decide)⟩
  have m3:intOp .mul A (A / 2053+613)=some (A*(A / 2053+613)):=wm _ _ (by omega)
  have m4:intOp .mul B B=some (B*B):=wm _ _ (by omega)
  have f1:intOp .fdiv A 2053=some (A / 2053):=Wl _ _ (by decide) (by decide)
  have d2:intOp .mod (A*(A / 2053+613)) 998244353=some B:=by rw [Xe _ _ (by decide),hB]
  have d3:intOp .mod (B*B+A) 1000000087=some ((B*B+A) % 1000000087):=Xe _ _ (by decide)
  have d4:intOp .mod ((B*B+A) % 1000000087) m=some ((B*B+A) % 1000000087 % m):=Xe _ _ hm'
  refine⟨((B*B+A) % 1000000087 % m).toNat,_,?_,(P.set r a f (g-1)).set r A f (g-1),by rw [List.length_set,List.length_set],?_⟩
  ·have:=Int.emod_lt_of_pos ((B*B+A) % 1000000087) hm'
   have:=Int.emod_nonneg ((B*B+A) % 1000000087) (Int.ne_of_gt hm')
   omega
  ·have e4:((((B*B+A) % 1000000087 % m).toNat:Nat):Int)=(B*B+A) % 1000000087 % m:=Int.toNat_of_nonneg (Int.emod_nonneg _ (Int.ne_of_gt hm'))
   have t1:exec ⟨call prog k,prog.cl,prog.con⟩ (.iff (.cmp .lt (.ix (.var 0) (.int 2)) (.int 0)) (.cons (.ret (.int 0)) .nil) .nil) [some (.v (.ref r)),some (.v (.int (m:Int))),none,none] (h.set r (.lst [.int a,.int f,.int (g-1)]))= .next [some (.v (.ref r)),some (.v (.int (m:Int))),none,none] (h.set r (.lst [.int a,.int f,.int (g-1)])):=by
    simp_all [xh l1,zQ,cmp_lt,q,decide_false]
   have t2: ∀b,exec ⟨call prog k,prog.cl,prog.con⟩ (.iff (.cmp .eq (.ix (.var 0) (.int 1)) (.int 1)) b .nil) [some (.v (.ref r)),some (.v (.int (m:Int))),none,none] (h.set r (.lst [.int a,.int f,.int (g-1)]))= .next [some (.v (.ref r)),some (.v (.int (m:Int))),none,none] (h.set r (.lst [.int a,.int f,.int (g-1)])):=by
    intro b
    simp_all [xh l1,qau,Zk,q2,decide_false]
   show finO _ (execs _ _ [some (.v (.ref r)),some (.v (.int (m:Int))),none,none] _)=_
   rw [za t1,za (t2 _),za (s2 _ _ rfl)]
   simp_all [xh l2,zY,f1,int_add,m3,d2,m4,d3,d4]
   rw [finO_retv _ _ _ (by rw [List.length_set,List.length_set]),e4]
end M
namespace M
abbrev scD (ns:List Int):W:= .v (.lst (ns.map .int))
theorem Jy: ∀xs:List Int,sumD (xs.map .int)=some xs.sum
 | []=>rfl
 | x::xs=>by simp [sumD,Jy xs]
theorem qah {α β:Type}(f:α->β) (xs:List α) (lo hi:Option Int):cut (xs.map f) lo hi=(cut xs lo hi).map f:=by
 simp [cut,List.map_drop,List.map_take]
theorem zau {α:Type}(xs:List α) (lo hi:Option Int):(cut xs lo hi).length<=xs.length:=by
 simp only [cut,List.length_take,List.length_drop]
 omega
theorem qO (k:Nat) (ns:List Int) (hl:ns.length<=63) (j:Nat) (h:AH): ∃c:Int,call prog (k+1) "_law_cell" [scD ns,.v (.int (j:Int))] h= .ok (.v (.int c)) h:=by
 rw [call_of (d:=d_law_cell) rfl _ _ _ rfl]
 have hL:(cut ns (some (j:Int)) (some ((j:Int)+1))).length<=LIM:=by
  have:=zau ns (some (j:Int)) (some ((j:Int)+1))
  rw [LIM_eq];omega
 refine⟨(cut ns (some (j:Int)) (some ((j:Int)+1))).sum,?_⟩
 simp_all [d_law_cell,int_add,sl_lst,qah,sum_own,Jy,List.length_map,hL,if_true]
theorem Js (k:Nat) (ns:List Int) (hl:ns.length<=63) (j:Nat) (h:AH): ∃a f g:Int,call prog (k+2) "_law_purse" [scD ns,.v (.int (j:Int))] h= .ok (.own [.int a,.int f,.int g]) h:=by
 obtain⟨c,e⟩:=qO k ns hl j h
 obtain⟨c0,e0⟩:=qO k ns hl 0 h
 rw [call_of (d:=d_law_purse) rfl _ _ _ rfl]
 have m1:intOp .mod c0 2=some (c0 % 2):=Xe _ _ (by decide)
 have m2:intOp .mod c 1000000093=some (c % 1000000093):=Xe _ _ (by decide)
 have f1: ∀b:Bool,∃z,atI [D.int 1,D.int 2] ((b.toNat:Nat):Int)=some (.int z)/\0<z/\z<1073741824:=fun b=>by
  cases b
  ·exact⟨1,rfl,by decide,by decide⟩
  ·exact⟨2,rfl,by decide,by decide⟩
 obtain⟨z,f2,f3,f4⟩:=f1 (decide ((j:Int)=0))
 have f5:intOp .fdiv c z=some (c / z):=Wl _ _ f3 f4
 have e0':call prog (k+1) "_law_cell" [scD ns,.v (.int 0)] h= .ok (.v (.int c0)) h:=e0
 simp only [scD]at e e0'
 by_cases q:c0 % 2=1
 ·refine⟨c / z,1,60,?_⟩
  simp_all [d_law_purse,scD,e,e0',m1,Zk,q,decide_true,int_bl,ix_own,f2,f5]
 ·refine⟨c % 1000000093+5,0,900,?_⟩
  simp_all [d_law_purse,scD,e,e0',m1,Zk,q,decide_false,m2,int_add]
end M
namespace M
abbrev L26:Tx:= [97,98,99,100,101,102,103,104,105,106,107,108,109,110,111,112,113,114,115,116,117,118,119,120,121,122]
def taken:List Tx:= [[115,111,109,101],[110,111],[108,101,97,115,116],[109,111,115,116],[101,97,99,104],[105,110],[97,110,100],[111,114],[110,111,116],[115,97,109,101],[97,108,108],[110,111,110,101],[107,105,110,100],[116,105,101],[115,97,121]]
structure GoodN (t:Tx):Prop where
 lo:1<=t.length
 hi:t.length<=8
 let_: ∀c∈t,97<=c/\c<=122
 free:t∉taken
theorem jN: ∀t∈taken,(113:Nat)∉t:=by decide
theorem xO: ∀t∈taken,2<=t.length:=by decide
theorem at26 (i:Nat) (h:i<26):atI L26 (i:Int)=some (97+i):=by
 have: ∀i:Nat,i<26->atI L26 (i:Int)=some (97+i):=by decide
 exact this i h
theorem zy {α:Type}(xs:List α) (n:Nat):cut xs none (some (n:Int))=xs.take n:=by
 have h1: ¬((n:Int)<0):=by omega
 simp only [cut,sIx,h1,if_false,Int.toNat_natCast,List.drop_zero,Nat.sub_zero]
 by_cases q:n<=xs.length
 ·rw [Nat.min_eq_left q]
 ·rw [Nat.min_eq_right (by omega),List.take_of_length_le (Nat.le_refl _),List.take_of_length_le (by omega)]
theorem xG {α:Type}(xs:List α) (n:Nat):cut xs (some (n:Int)) none=xs.drop n:=by
 have h1: ¬((n:Int)<0):=by omega
 simp only [cut,sIx,h1,if_false,Int.toNat_natCast]
 by_cases q:n<=xs.length
 ·rw [Nat.min_eq_left q,List.take_of_length_le (by simp)]
 ·rw [Nat.min_eq_right (by omega),List.drop_of_length_le (Nat.le_refl _),List.drop_of_length_le (by omega),List.take_nil]
theorem jn (s:Tx) (lo hi:Option Int) (h:AH) (hl:s.length<=LIM):slD (.v (.str s)) lo hi h= .ok (.v (.str (cut s lo hi))) h:=by
 show(if s.length<=LIM then _ else _)=_
 rw [if_pos hl]
theorem mul_str (s:Tx) (n:Nat) (h:AH) (hl:n<=1000) (h2:s.length*n<=1000000):binD .mul (.v (.str s)) (.v (.int (n:Int))) h= .ok (.v (.str (List.replicate n s).flatten)) h:=by
 show(if 0<=(n:Int)/\(n:Int)<=1000/\s.length*(n:Int).toNat<=LIM then _ else _)=_
 rw [if_pos ⟨by omega,by omega,by rw [LIM_eq,Int.toNat_natCast];exact h2⟩,Int.toNat_natCast]
theorem add_str (s u:Tx) (h:AH) (hl:s.length+u.length<=1000000):binD .add (.v (.str s)) (.v (.str u)) h= .ok (.v (.str (s++u))) h:=by
 rw [bin_strs,if_pos (by rw [LIM_eq];exact hl)]
theorem Qe (i:Nat) (hi:i<26) (h:AH):ixD (.v (.str L26)) (.v (.int (i:Int))) h=some (.str [97+i]):=by
 rw [xE,if_pos (by rw [LIM_eq];decide),at26 i hi]
 rfl
theorem Ql {α:Type}(f:Nat->α) (m:Nat) (hm:m<=8) (hf: ∀i,i<8-> ∀j,j<8->i≠j->f i≠f j):((List.range m).map f).Nodup:=by
 rw [List.Nodup,List.pairwise_map]
 refine List.Pairwise.imp_of_mem ?_ (List.nodup_range (n:=m))
 intro a b ha hb hab
 exact hf a (by have:=List.mem_range.mp ha;omega) b (by have:=List.mem_range.mp hb;omega) hab
theorem Ju (a b:Nat) (hb:0<b):intOp .mod (a:Int) (b:Int)=some ((a % b:Nat):Int):=by
 rw [Xe _ _ (by omega)];rfl
theorem jv (a b:Nat) (hb:0<b) (h2:b<1073741824):intOp .fdiv (a:Int) (b:Int)=some ((a / b:Nat):Int):=by
 rw [Wl _ _ (by omega) (by omega)];rfl
theorem xq (a b:Nat):intOp .add (a:Int) (b:Int)=some ((a+b:Nat):Int):=rfl
def fam0 (c k:Nat):Tx:= [97+(c / 4 % 26+(1+2*(c / 104 % 6))*k) % 26]
def fam1 (c k:Nat):Tx:=(113::List.replicate 7 (97+c / 4 % 26)).take (k+1)
def nearL:List Tx:= [[110,111,116,97],[111,114,98],[97,110,100,121],[105,110,110],[97,108,108,115],[115,97,109,101,121],[110,111,110,101,97],[101,97,99,104,115],[108,101,97,115,116,115],[109,111,115,116,121],[115,111,109,101,115],[110,111,97],[107,105,110,100,97],[116,105,101,115],[115,97,121,115],[105]]
def fam2 (c k:Nat):Tx:=nearL.getD ((c / 4 % 26+3*k) % 16) []
def stem (c:Nat):Tx:=(113::List.replicate 6 (97+c / 4 % 26)).take (1+c / 104 % 7)
def fam3 (c k:Nat):Tx:=(stem c).take (c / 728 % ((stem c).length+1))++ [97+(c / 4 % 26+1+3*k) % 26]++(stem c).drop (c / 728 % ((stem c).length+1))
theorem rep1 (n x:Nat):(List.replicate n [x]).flatten=List.replicate n x:=by
 induction n with
 | zero=>rfl
 | succ n ih=>rw [List.replicate_succ,List.flatten_cons,ih];rfl
theorem Qs (c:Nat):(stem c).length<=7:=by simp [stem];omega
theorem jL: ∀p,p<26*6-> ∀i,i<8-> ∀j,j<8->i≠j->(p / 6+(1+2*(p % 6))*i) % 26≠(p / 6+(1+2*(p % 6))*j) % 26:=by decide +kernel
theorem QZ (f:Nat) (hf:f<26) (d:Nat) (hd:d<6) (i:Nat) (hi:i<8) (j:Nat) (hj:j<8) (ne:i≠j):(f+(1+2*d)*i) % 26≠(f+(1+2*d)*j) % 26:=by
 have:=jL (f*6+d) (by omega) i hi j hj ne
 rwa [show (f*6+d) / 6=f by omega,show(f*6+d) % 6=d by omega]at this
theorem ZX: ∀f,f<26-> ∀i,i<8-> ∀j,j<8->i≠j->nearL.getD ((f+3*i) % 16) []≠nearL.getD ((f+3*j) % 16) []:=by decide +kernel
theorem xX: ∀f,f<26-> ∀i,i<8-> ∀j,j<8->i≠j->(f+1+3*i) % 26≠(f+1+3*j) % 26:=by decide +kernel
theorem jO: ∀i,i<16->1<=(nearL.getD i []).length/\(nearL.getD i []).length<=8/\(∀ c∈nearL.getD i [],97<=c/\c<=122)/\nearL.getD i []∉taken:=by decide +kernel
theorem f26 (c:Nat):c / 4 % 26<26:=Nat.mod_lt _ (by decide)
theorem qac (c:Nat): ∀i,i<8-> ∀j,j<8->i≠j->fam0 c i≠fam0 c j:=fun i hi j hj ne e=>by
 have:=QZ _ (f26 c) (c / 104 % 6) (Nat.mod_lt _ (by decide)) i hi j hj ne
 simp only [fam0,List.cons.injEq,and_true]at e
 omega
theorem qan (c:Nat): ∀i,i<8-> ∀j,j<8->i≠j->fam1 c i≠fam1 c j:=fun i hi j hj ne e=>by
 have:=congrArg List.length e
 simp [fam1]at this
 omega
theorem jaq (c:Nat): ∀i,i<8-> ∀j,j<8->i≠j->fam2 c i≠fam2 c j:=fun i hi j hj ne=>ZX _ (f26 c) i hi j hj ne
theorem jaj (c:Nat): ∀i,i<8-> ∀j,j<8->i≠j->fam3 c i≠fam3 c j:=fun i hi j hj ne e=>by
 have:=xX _ (f26 c) i hi j hj ne
 simp only [fam3,List.append_assoc,List.append_cancel_left_eq,List.cons_append,List.nil_append,List.cons.injEq,and_true]at e
 omega
theorem zN (c k:Nat):GoodN (fam0 c k):=by
 have h:=Nat.mod_lt (c / 4 % 26+(1+2*(c / 104 % 6))*k) (show 0<26 by decide)
 refine⟨Nat.le_refl _,by simp [fam0],fun x hx=> ?_,fun ht=> ?_⟩
 ·simp only [fam0,List.mem_singleton]at hx
  omega
 ·have:=xO _ ht
  simp [fam0]at this
theorem WO (c k:Nat):GoodN (fam1 c k):=by
 have h:=f26 c
 have hl:(fam1 c k).length=min (k+1) 8:=by simp [fam1];omega
 refine⟨by omega,by omega,fun x hx=> ?_,fun ht=> ?_⟩
 ·have hx:=List.mem_of_mem_take hx
  simp only [List.mem_cons,List.mem_replicate]at hx
  omega
 ·refine jN _ ht ?_
  simp [fam1]
theorem WR (c k:Nat):GoodN (fam2 c k):=by
 have:=jO _ (Nat.mod_lt (c / 4 % 26+3*k) (show 0<16 by decide))
 exact⟨this.1,this.2.1,this.2.2.1,this.2.2.2⟩
theorem XL (c k:Nat):GoodN (fam3 c k):=by
 have h:=f26 c
 have h2:=Nat.mod_lt (c / 4 % 26+1+3*k) (show 0<26 by decide)
 have hs: ∀x∈stem c,97<=x/\x<=122:=fun x hx=>by
  have hx:=List.mem_of_mem_take hx
  simp only [List.mem_cons,List.mem_replicate]at hx
  omega
 have hl:(fam3 c k).length=(stem c).length+1:=by
  have:=Nat.mod_lt (c / 728) (show 0<(stem c).length+1 by omega)
  simp only [fam3,List.length_append,List.length_take,List.length_drop,List.length_cons,List.length_nil]
  omega
 refine⟨by omega,by have:=Qs c;omega,fun x hx=> ?_,fun ht=> ?_⟩
 ·simp only [fam3,List.mem_append,List.mem_singleton]at hx
  rcases hx with(hx | hx) | hx
  ·exact hs x (List.mem_of_mem_take hx)
  ·omega
  ·exact hs x (List.mem_of_mem_drop hx)
 ·refine jN _ ht ?_
  have hq:(113:Nat)∈stem c:=by
   have:1+c / 104 % 7=(c / 104 % 7)+1:=by omega
   rw [stem,this,List.take_succ_cons]
   exact List.mem_cons_self
  rw [← List.take_append_drop (c / 728 % ((stem c).length+1)) (stem c)]at hq
  simp only [fam3,List.mem_append]
  rcases List.mem_append.mp hq with q | q
  ·exact .inl (.inl q)
  ·exact .inr q
end M
namespace M
theorem jB {α:Type}(xs:List α) (i:Nat) (h:i<xs.length):atI xs (i:Int)=xs[i]? :=by
 have:((i:Int))<(xs.length:Int):=by omega
 simp [atI,ixN,this]
theorem qab (i:Nat) (h:i<16):atI (nearL.map D.str) (i:Int)=some (.str (nearL.getD i [])):=by
 have:i<(nearL.map D.str).length:=by simpa [nearL]using h
 have e:=jB (nearL.map D.str) i this
 rw [e,List.getElem?_map]
 have h2:i<nearL.length:=by simpa [nearL]using h
 rw [List.getElem?_eq_getElem h2,List.getD_eq_getElem?_getD,List.getElem?_eq_getElem h2]
 rfl
theorem Wh (i j:Nat) (h:AH):cmpD .eq (.v (.int (i:Int))) (.v (.int (j:Int))) h=some (decide (i=j)):=by
 rw [Zk]
 congr 1
 exact decide_eq_decide.mpr (by omega)
theorem jaM {F:Fx}(c m:Nat) (h:AH) (hm:m<=8){x4 x5 x6:Option W}:eval F e_law_family_4 [some (.v (.int (c:Int))),some (.v (.int (m:Int))),some (.v (.str L26)),some (.v (.int ((c / 4 % 26:Nat):Int))),x4,x5,x6] h= .ok (.own (((List.range m).map (fam0 c)).map .str)) h:=by
 rw [e_law_family_4,jk (h:=h) (fun d=>match d with | .int i=> .str (fam0 c i.toNat) | d=>d) (Qi (m:=m) (by simp_all []) (by omega)) (by simp;rw [LIM_eq];omega)]
 ·simp [Function.comp_def]
 ·intro d hd
  obtain⟨i,hi,rfl⟩:=rng _ hd
  refine⟨_,rfl,.v (.str (fam0 c i)),?_,by simp⟩
  have e1:intOp .fdiv (c:Int) 104=some ((c / 104:Nat):Int):=jv c 104 (by decide) (by decide)
  have e2:intOp .mod ((c / 104:Nat):Int) 6=some ((c / 104 % 6:Nat):Int):=Ju (c / 104) 6 (by decide)
  have e3:intOp .mul 2 ((c / 104 % 6:Nat):Int)=some ((2*(c / 104 % 6):Nat):Int):=wu 2 _ (by decide)
  have e4:intOp .add 1 ((2*(c / 104 % 6):Nat):Int)=some ((1+2*(c / 104 % 6):Nat):Int):=xq 1 (2*(c / 104 % 6))
  have e5:intOp .mul ((1+2*(c / 104 % 6):Nat):Int) (i:Int)=some (((1+2*(c / 104 % 6))*i:Nat):Int):=wu _ _ (by omega)
  have e6:=xq (c / 4 % 26) ((1+2*(c / 104 % 6))*i)
  have e7:intOp .mod ((c / 4 % 26+(1+2*(c / 104 % 6))*i:Nat):Int) 26=some (((c / 4 % 26+(1+2*(c / 104 % 6))*i) % 26:Nat):Int):=Ju _ 26 (by decide)
  have e8:=Qe ((c / 4 % 26+(1+2*(c / 104 % 6))*i) % 26) (Nat.mod_lt _ (by decide)) h
  simp_all [e1,e2,e3,e4,e5,e6,e7,e8]
  rfl
theorem xaM {F:Fx}(c m:Nat) (h:AH) (hm:m<=8){x4 x5 x6:Option W}:eval F e_law_family_3 [some (.v (.int (c:Int))),some (.v (.int (m:Int))),some (.v (.str L26)),some (.v (.int ((c / 4 % 26:Nat):Int))),x4,x5,x6] h= .ok (.own (((List.range m).map (fam1 c)).map .str)) h:=by
 rw [e_law_family_3,jk (h:=h) (fun d=>match d with | .int i=> .str (fam1 c i.toNat) | d=>d) (Qi (m:=m) (by simp_all []) (by omega)) (by simp;rw [LIM_eq];omega)]
 ·simp [Function.comp_def]
 ·intro d hd
  obtain⟨i,hi,rfl⟩:=rng _ hd
  refine⟨[some (.v (.int (i:Int))),some (.v (.str L26)),some (.v (.int ((c / 4 % 26:Nat):Int)))],rfl,.v (.str (fam1 c i)),?_,by simp⟩
  have e1:=Qe (c / 4 % 26) (f26 c) h
  have e2:binD .mul (.v (.str [97+c / 4 % 26])) (.v (.int 7)) h= .ok (.v (.str (List.replicate 7 (97+c / 4 % 26)))) h:=by
   have:=mul_str [97+c / 4 % 26] 7 h (by decide) (by simp)
   rw [rep1]at this
   exact this
  have e3:binD .add (.v (.str [113])) (.v (.str (List.replicate 7 (97+c / 4 % 26)))) h= .ok (.v (.str (113::List.replicate 7 (97+c / 4 % 26)))) h:=add_str _ _ h (by simp)
  have e4:intOp .add (i:Int) 1=some ((i+1:Nat):Int):=xq i 1
  have e5:slD (.v (.str (113::List.replicate 7 (97+c / 4 % 26)))) none (some ((i+1:Nat):Int)) h= .ok (.v (.str (fam1 c i))) h:=by
   rw [jn _ _ _ _ (by simp [LIM_eq]),zy]
   rfl
  simp only [eval,readS,getS,R.bind_ok,R.of_some,e1,e2,e3,bin_ints,e4,int?_int,e5]
theorem zaP {F:Fx}(c m:Nat) (h:AH) (hm:m<=8){x5 x6:Option W}:eval F e_law_family_2 [some (.v (.int (c:Int))),some (.v (.int (m:Int))),some (.v (.str L26)),some (.v (.int ((c / 4 % 26:Nat):Int))),some (.v (.lst (nearL.map .str))),x5,x6] h= .ok (.own (((List.range m).map (fam2 c)).map .str)) h:=by
 rw [e_law_family_2,jk (h:=h) (fun d=>match d with | .int i=> .str (fam2 c i.toNat) | d=>d) (Qi (m:=m) (by simp_all []) (by omega)) (by simp;rw [LIM_eq];omega)]
 ·simp [Function.comp_def]
 ·intro d hd
  obtain⟨i,hi,rfl⟩:=rng _ hd
  refine⟨_,rfl,.v (.str (fam2 c i)),?_,by simp⟩
  have e1:intOp .mul 3 (i:Int)=some ((3*i:Nat):Int):=wu 3 i (by decide)
  have e2:=xq (c / 4 % 26) (3*i)
  have e3:intOp .mod ((c / 4 % 26+3*i:Nat):Int) 16=some (((c / 4 % 26+3*i) % 16:Nat):Int):=Ju _ 16 (by decide)
  have e4:=qab ((c / 4 % 26+3*i) % 16) (Nat.mod_lt _ (by decide))
  simp only [eval,readS,getS,setS,List.replicate_succ,List.replicate_zero,List.cons_append,List.nil_append,List.map_cons,List.map_nil,R.bind_ok,R.of_some,bin_ints,e1,e2,e3,ix_lst]
  rw [e4]
  rfl
theorem xaL {F:Fx}(c m:Nat) (h:AH) (hm:m<=8){x4:Option W}:eval F e_law_family_1 [some (.v (.int (c:Int))),some (.v (.int (m:Int))),some (.v (.str L26)),some (.v (.int ((c / 4 % 26:Nat):Int))),x4,some (.v (.str (stem c))),some (.v (.int ((c / 728 % ((stem c).length+1):Nat):Int)))] h= .ok (.own (((List.range m).map (fam3 c)).map .str)) h:=by
 rw [e_law_family_1,jk (h:=h) (fun d=>match d with | .int i=> .str (fam3 c i.toNat) | d=>d) (Qi (m:=m) (by simp_all []) (by omega)) (by simp;rw [LIM_eq];omega)]
 ·simp [Function.comp_def]
 ·intro d hd
  obtain⟨i,hi,rfl⟩:=rng _ hd
  refine⟨_,rfl,.v (.str (fam3 c i)),?_,by simp⟩
  have sl:=Qs c
  have sL:(stem c).length<=LIM:=by rw [LIM_eq];omega
  have e1:intOp .add ((c / 4 % 26:Nat):Int) 1=some ((c / 4 % 26+1:Nat):Int):=xq _ 1
  have e2:intOp .mul 3 (i:Int)=some ((3*i:Nat):Int):=wu 3 i (by decide)
  have e3:=xq (c / 4 % 26+1) (3*i)
  have e4:intOp .mod ((c / 4 % 26+1+3*i:Nat):Int) 26=some (((c / 4 % 26+1+3*i) % 26:Nat):Int):=Ju _ 26 (by decide)
  have e5:=Qe ((c / 4 % 26+1+3*i) % 26) (Nat.mod_lt _ (by decide)) h
  have e6:=jn (stem c) none (some ((c / 728 % ((stem c).length+1):Nat):Int)) h sL
  have e7:=jn (stem c) (some ((c / 728 % ((stem c).length+1):Nat):Int)) none h sL
  rw [zy]at e6
  rw [xG]at e7
  simp only [eval,readS,getS,setS,List.replicate_succ,List.replicate_zero,List.cons_append,List.nil_append,List.map_cons,List.map_nil,R.bind_ok,R.of_some,bin_ints,e1,e2,e3,e4,e5,e6,e7,int?_int]
  rw [add_str _ _ _ (by simp;omega),R.bind_ok]
  simp only [e7,R.bind_ok]
  rw [add_str _ _ _ (by simp;omega)]
  rfl
theorem W3 (k c m:Nat) (h:AH) (hm:m<=8): ∃ts:List Tx,ts.length=m/\ts.Nodup/\(∀ t∈ts,GoodN t)/\call prog (k+1) "_law_family" [.v (.int (c:Int)),.v (.int (m:Int))] h= .ok (.own (ts.map .str)) h:=by
 rw [call_of (d:=d_law_family) rfl _ _ _ rfl]
 have f1:intOp .fdiv (c:Int) 4=some ((c / 4:Nat):Int):=jv c 4 (by decide) (by decide)
 have f2:intOp .mod ((c / 4:Nat):Int) 26=some ((c / 4 % 26:Nat):Int):=Ju _ 26 (by decide)
 have f3:intOp .mod (c:Int) 4=some ((c % 4:Nat):Int):=Ju c 4 (by decide)
 have q0:cmpD .eq (.v (.int ((c % 4:Nat):Int))) (.v (.int 0)) h=some (decide (c % 4=0)):=Wh (c % 4) 0 h
 have q1:cmpD .eq (.v (.int ((c % 4:Nat):Int))) (.v (.int 1)) h=some (decide (c % 4=1)):=Wh (c % 4) 1 h
 have q2:cmpD .eq (.v (.int ((c % 4:Nat):Int))) (.v (.int 2)) h=some (decide (c % 4=2)):=Wh (c % 4) 2 h
 simp only [d_law_family]
 show ∃ts:List Tx,_/\_/\_/\finO _ (execs _ _ [some (.v (.int (c:Int))),some (.v (.int (m:Int))),none,none,none,none,none] h)=_
 rw [za (τ1:= [some (.v (.int (c:Int))),some (.v (.int (m:Int))),some (.v (.str L26)),none,none,none,none]) (h1:=h) rfl]
 rw [za (τ1:= [some (.v (.int (c:Int))),some (.v (.int (m:Int))),some (.v (.str L26)),some (.v (.int ((c / 4 % 26:Nat):Int))),none,none,none]) (h1:=h) (by simp_all [f1,f2])]
 by_cases c0:c % 4=0
 ·refine⟨(List.range m).map (fam0 c),by simp,Ql _ m hm (qac c),fun t ht=> ?_,?_⟩
  ·obtain⟨i,_,rfl⟩:=List.mem_map.mp ht
   exact zN c i
  ·rw [Wa (w:= .own (((List.range m).map (fam0 c)).map .str)) (h1:=h) ((if_t (h1:=h) (by simp_all [f3,q0,decide_eq_true c0])).trans (Wa (zi rfl (jaM c m h hm)))),finO_reto _ _ _ rfl]
 rw [za (τ1:= [some (.v (.int (c:Int))),some (.v (.int (m:Int))),some (.v (.str L26)),some (.v (.int ((c / 4 % 26:Nat):Int))),none,none,none]) (h1:=h) (by simp_all [f3,q0,decide_eq_false c0])]
 by_cases c1:c % 4=1
 ·refine⟨(List.range m).map (fam1 c),by simp,Ql _ m hm (qan c),fun t ht=> ?_,?_⟩
  ·obtain⟨i,_,rfl⟩:=List.mem_map.mp ht
   exact WO c i
  ·rw [Wa (w:= .own (((List.range m).map (fam1 c)).map .str)) (h1:=h) ((if_t (h1:=h) (by simp_all [f3,q1,decide_eq_true c1])).trans (Wa (zi rfl (xaM c m h hm)))),finO_reto _ _ _ rfl]
 rw [za (τ1:= [some (.v (.int (c:Int))),some (.v (.int (m:Int))),some (.v (.str L26)),some (.v (.int ((c / 4 % 26:Nat):Int))),none,none,none]) (h1:=h) (by simp_all [f3,q1,decide_eq_false c1])]
 by_cases c2:c % 4=2
 ·refine⟨(List.range m).map (fam2 c),by simp,Ql _ m hm (jaq c),fun t ht=> ?_,?_⟩
  ·obtain⟨i,_,rfl⟩:=List.mem_map.mp ht
   exact WR c i
  ·rw [Wa (w:= .own (((List.range m).map (fam2 c)).map .str)) (h1:=h) ?_,finO_reto _ _ _ rfl]
   rw [if_t (h1:=h) (by simp_all [f3,q2,decide_eq_true c2])]
   rw [za (τ1:= [some (.v (.int (c:Int))),some (.v (.int (m:Int))),some (.v (.str L26)),some (.v (.int ((c / 4 % 26:Nat):Int))),some (.v (.lst ((nearL.take 12).map .str))),none,none]) (h1:=h) (by simp_all [];rfl)]
   rw [za (τ1:= [some (.v (.int (c:Int))),some (.v (.int (m:Int))),some (.v (.str L26)),some (.v (.int ((c / 4 % 26:Nat):Int))),some (.v (.lst (nearL.map .str))),none,none]) (h1:=h) (by simp_all [cat_vo];rw [if_pos (by rw [LIM_eq];decide)];rfl)]
   exact Wa (zi rfl (zaP c m h hm))
 rw [za (τ1:= [some (.v (.int (c:Int))),some (.v (.int (m:Int))),some (.v (.str L26)),some (.v (.int ((c / 4 % 26:Nat):Int))),none,none,none]) (h1:=h) (by simp_all [f3,q2,decide_eq_false c2])]
 have sl:=Qs c
 have sL:(stem c).length<=LIM:=by rw [LIM_eq];omega
 have g1:=Qe (c / 4 % 26) (f26 c) h
 have g2:binD .mul (.v (.str [97+c / 4 % 26])) (.v (.int 6)) h= .ok (.v (.str (List.replicate 6 (97+c / 4 % 26)))) h:=by
  have:=mul_str [97+c / 4 % 26] 6 h (by decide) (by simp)
  rw [rep1]at this
  exact this
 have g3:binD .add (.v (.str [113])) (.v (.str (List.replicate 6 (97+c / 4 % 26)))) h= .ok (.v (.str (113::List.replicate 6 (97+c / 4 % 26)))) h:=add_str _ _ h (by simp)
 have g4:intOp .fdiv (c:Int) 104=some ((c / 104:Nat):Int):=jv c 104 (by decide) (by decide)
 have g5:intOp .mod ((c / 104:Nat):Int) 7=some ((c / 104 % 7:Nat):Int):=Ju _ 7 (by decide)
 have g6:intOp .add 1 ((c / 104 % 7:Nat):Int)=some ((1+c / 104 % 7:Nat):Int):=xq 1 _
 have g7:slD (.v (.str (113::List.replicate 6 (97+c / 4 % 26)))) none (some ((1+c / 104 % 7:Nat):Int)) h= .ok (.v (.str (stem c))) h:=by
  rw [jn _ _ _ _ (by simp [LIM_eq]),zy]
  rfl
 have g8:intOp .fdiv (c:Int) 728=some ((c / 728:Nat):Int):=jv c 728 (by decide) (by decide)
 have g9:intOp .add ((stem c).length:Int) 1=some (((stem c).length+1:Nat):Int):=xq _ 1
 have g10:=Ju (c / 728) ((stem c).length+1) (by omega)
 rw [za (τ1:= [some (.v (.int (c:Int))),some (.v (.int (m:Int))),some (.v (.str L26)),some (.v (.int ((c / 4 % 26:Nat):Int))),none,some (.v (.str (stem c))),none]) (h1:=h) (by simp only [exec,eval,readS,getS,setS,R.bind_ok,R.of_some,g1,g2,g3,bin_ints,g4,g5,g6,int?_int,g7,R.toO_ok,W.d_v])]
 rw [za (τ1:= [some (.v (.int (c:Int))),some (.v (.int (m:Int))),some (.v (.str L26)),some (.v (.int ((c / 4 % 26:Nat):Int))),none,some (.v (.str (stem c))),some (.v (.int ((c / 728 % ((stem c).length+1):Nat):Int)))]) (h1:=h) (by simp only [exec,eval,evalWs,readS,getS,setS,R.bind_ok,R.of_some,bin_ints,g8,len_str,sL,if_true,g9,g10,R.toO_ok,W.d_v])]
 refine⟨(List.range m).map (fam3 c),by simp,Ql _ m hm (jaj c),fun t ht=> ?_,?_⟩
 ·obtain⟨i,_,rfl⟩:=List.mem_map.mp ht
  exact XL c i
 ·rw [Wa (w:= .own (((List.range m).map (fam3 c)).map .str)) (h1:=h) (zi rfl (xaL c m h hm)),finO_reto _ _ _ rfl]
end M
namespace M
theorem wq {step:D->AH->R (Option D)}{I:AH->Prop}{Q:D->Prop}: ∀(ds:List D),(∀ d∈ds,∀h,I h-> ∃y h',step d h= .ok (some y) h'/\I h'/\Q y)-> ∀h,I h-> ∃ys h',compGo step ds h= .ok ys h'/\I h'/\ys.length=ds.length/\ ∀y∈ys,Q y
 | [],_,h,i=>⟨[],h,rfl,i,rfl,fun _ hy=>absurd hy (List.not_mem_nil)⟩
 | d::ds,hs,h,i=>by
  obtain⟨y,h1,e1,i1,q1⟩:=hs d List.mem_cons_self h i
  obtain⟨ys,h2,e2,i2,l2,q2⟩:=wq ds (fun d hd=>hs d (List.mem_cons_of_mem _ hd)) h1 i1
  refine⟨y::ys,h2,by rw [compGo,e1];simp only [e2],i2,by simp [l2],fun z hz=> ?_⟩
  rcases List.mem_cons.mp hz with rfl | hz
  ·exact q1
  ·exact q2 z hz
theorem ZZ {F:Fx}{tg:List Nat}{one:Bool}{k:Nat}{cap:List Nat}{it:It}{c elt:E}{τ:Sl}{h:AH}{ds:List D}{I:AH->Prop}{Q:D->Prop}(hi:evalIt F it τ h= .ok ds h) (hl:ds.length<=LIM) (i0:I h)
 (hs: ∀d∈ds,∀h,I h-> ∃τ',bindT tg one d (List.replicate k none++cap.map fun j=>readS τ j)=some τ'/\ ∃w y h',eval F elt τ' h= .ok w h'/\w.d=some y/\I h'/\Q y):
 ∃ys h',eval F (.comp tg one k cap it false c elt) τ h= .ok (.own ys) h'/\I h'/\ys.length=ds.length/\ ∀y∈ys,Q y:=by
 obtain⟨step,e0,hst⟩: ∃step:D->AH->R (Option D),eval F (.comp tg one k cap it false c elt) τ h=(compGo step ds h).bind (fun ys h=> .ok (.own ys) h) ∧
  ∀d h τ' w y h',bindT tg one d (List.replicate k none++cap.map fun j=>readS τ j)=some τ'->eval F elt τ' h= .ok w h'->w.d=some y->step d h= .ok (some y) h':=
  ⟨_,by rw [eval,hi,R.bind_ok,if_pos hl],fun d h τ' w y h' e1 e2 e3=>by simp [e1,e2,e3]⟩
 obtain⟨ys,h',e,r⟩:=wq (step:=step) (I:=I) (Q:=Q) ds (fun d hd h i=>by
  obtain⟨τ',e1,w,y,h',e2,e3,i',q⟩:=hs d hd h i
  exact⟨y,h',hst d h τ' w y h' e1 e2 e3,i',q⟩) h i0
 exact⟨ys,h',by rw [e0,e,R.bind_ok],r⟩
theorem xk: ∀ts:List Tx,strsD (ts.map .str)=some ts
 | []=>rfl
 | t::ts=>by simp [strsD,xk ts]
theorem jK (s:Tx): ∀ts:List Tx,inD (.str s) (ts.map .str)=decide (s∈ts)
 | []=>rfl
 | t::ts=>by
  have ih:=jK s ts
  simp only [inD]at ih
  by_cases q:t=s
  ·subst q
   simp [inD]
  ·have q2: ¬s=t:=fun e=>q e.symm
   simp only [inD,List.map_cons,List.any_cons,eqD,ih,List.mem_cons,q2,false_or]
   simp [q]
theorem qL (ts:List Tx):(ts.map D.str).all flat=true:=by simp
theorem Zg (s:Tx) (ts:List Tx) (w:W) (h:AH) (hw:w.seq? h=some (ts.map .str)) (h2:w.str? =none):memD (.v (.str s)) w h=some (decide (s∈ts)):=by
 unfold memD
 rw [h2]
 simp only [W.str?,W.d_v,hw,flat,qL,Bool.true_and,if_true,jK]
theorem zw {α:Type} [DecidableEq α]: ∀(l m:List α),l.Nodup->(∀ x∈l,x∈m)->l.length<=m.length
 | [],_,_,_=>Nat.zero_le _
 | x::l,m,hn,hs=>by
  have h1:=(List.nodup_cons.mp hn)
  have h2:=zw l (m.erase x) h1.2 fun y hy=>by
   have:y≠x:=fun e=>h1.1 (e▸hy)
   exact(List.mem_erase_of_ne this).mpr (hs y (List.mem_cons_of_mem _ hy))
  have h3:=List.length_erase_of_mem (hs x List.mem_cons_self)
  have h4:0<m.length:=List.length_pos_of_mem (hs x List.mem_cons_self)
  simp only [List.length_cons]
  omega
theorem zaE: ∀cs:List Nat,joinT [] (cs.map fun c=> [c])=cs
 | []=>rfl
 | [c]=>rfl
 | c::d::r=>by
  have:=zaE (d::r)
  simp only [List.map_cons,joinT,List.append_nil]at this ⊢
  rw [this]
  rfl
theorem xJ {ys:List D}(h: ∀y∈ys,∃c,(97<=c/\c<=122)/\y= .str [c]): ∃cs:List Nat,ys=(cs.map fun c=> [c]).map .str/\ ∀c∈cs,97<=c/\c<=122:=by
 induction ys with
 | nil=>exact⟨[],rfl,fun _ h=>absurd h List.not_mem_nil⟩
 | cons y ys ih=>
  obtain⟨c,hc,e⟩:=h y List.mem_cons_self
  obtain⟨cs,e2,hcs⟩:=ih fun y hy=>h y (List.mem_cons_of_mem _ hy)
  refine⟨c::cs,by rw [e,e2];rfl,fun d hd=> ?_⟩
  rcases List.mem_cons.mp hd with rfl | hd
  ·exact hc
  ·exact hcs d hd
def taken14:List Tx:=taken.take 14
def sayT:Tx:= [115,97,121]
theorem qC (t:Tx):t∈taken↔t∈taken14\/t=sayT:=by
 have:taken=taken14++ [sayT]:=rfl
 rw [this,List.mem_append,List.mem_singleton]
structure Nm (ts:List Tx):Prop where
 nd:ts.Nodup
 good: ∀t∈ts,GoodN t
theorem Nm.snoc {ts:List Tx}(h:Nm ts){t:Tx}(hg:GoodN t) (hn:t∉ts):Nm (ts++ [t]):=by
 refine⟨?_,fun x hx=> ?_⟩
 ·rw [List.nodup_append]
  refine⟨h.nd,by simp,?_⟩
  intro a ha b hb e
  rw [List.mem_singleton]at hb
  subst hb
  subst e
  exact hn ha
 ·rcases List.mem_append.mp hx with hx | hx
  ·exact h.good x hx
  ·rw [List.mem_singleton]at hx
   exact hx▸hg
abbrev anyS (s a b:W) (ts:List Tx) (x6 x7 x8 x9:Option W):Sl:= [some s,some a,some b,some (.v (.str L26)),some (.v (.lst (taken14.map .str))),some (.own ((sayT::ts).map .str)),x6,x7,x8,x9]
theorem qaP {k r n:Nat}{s a b:W}{ts:List Tx}{x8 x9:Option W}{h:AH}(P:PH h) (hr:r<h.length) (hn:n<=8):
 ∃cs:List Nat,∃h',cs.length=n/\(∀ c∈cs,97<=c/\c<=122)/\PH h'/\h'.length=h.length ∧
  eval ⟨call prog (k+1),prog.cl,prog.con⟩ e_law_any_names_3 (anyS s a b ts (some (.v (.ref r))) (some (.v (.int (n:Int)))) x8 x9) h= .ok (.own ((cs.map fun c=> [c]).map .str)) h':=by
 obtain⟨ys,h',e,⟨P',l'⟩,ly,hy⟩:=ZZ (F:=⟨call prog (k+1),prog.cl,prog.con⟩) (tg:= [0]) (one:=true) (k:=1) (cap:= [3,6]) (it:= .range1 (.var 7)) (c:= .bl true) (elt:= .ix (.var 1) (.call "_law_next" (.cons (.var 2) (.cons (.int 26) .nil)))) (τ:=anyS s a b ts (some (.v (.ref r))) (some (.v (.int (n:Int)))) x8 x9)
  (I:=fun h'=>PH h'/\h'.length=h.length) (Q:=fun y=> ∃c,(97<=c/\c<=122)/\y= .str [c]) (Qi (m:=n) (by simp_all []) (by omega)) (by simp;rw [LIM_eq];omega) ⟨P,rfl⟩ (fun d hd h1 ⟨P1,l1⟩=>by
    obtain⟨v,h2,hv,P2,l2,e2⟩:=Wd k P1 (show r<h1.length by omega) (show 0<26 by decide) (by decide)
    have e2:call prog (k+1) "_law_next" [.v (.ref r),.v (.int 26)] h1= .ok (.v (.int (v:Int))) h2:=e2
    refine⟨[some (.v d),some (.v (.str L26)),some (.v (.ref r))],rfl,.v (.str [97+v]),.str [97+v],h2,?_,rfl,⟨P2,by omega⟩,97+v,by omega,rfl⟩
    simp only [eval,evalWs,readS,getS,R.bind_ok,List.map_cons,List.map_nil,W.arg_v,e2,Qe v hv h2,R.of_some])
 obtain⟨cs,e1,hc⟩:=xJ hy
 refine⟨cs,h',?_,hc,P',l',?_⟩
 ·have:ys.length=cs.length:=by rw [e1];simp
  rw [← this,ly]
  simp
 ·rw [e_law_any_names_3,e,e1]
theorem xaO {F:Fx}{s a b:W}{ts:List Tx}{x6 x7 x9:Option W}{h:AH}{t:Tx}(ht:t.length<=8):
 eval F e_law_any_names_2 (anyS s a b ts x6 x7 (some (.v (.str t))) x9) h= .ok (.own ((L26.map fun c=>t.take 7++ [c]).map .str)) h:=by
 have tL:t.length<=LIM:=by rw [LIM_eq];omega
 rw [e_law_any_names_2,jk (h:=h) (ds:=chs L26) (fun d=>match d with | .str u=> .str (t.take 7++u) | d=>d) (by simp_all []) (by rw [LIM_eq];decide)]
 ·simp [chs]
 ·intro d hd
  obtain⟨c,hc,rfl⟩:=List.mem_map.mp hd
  refine⟨[some (.v (.str [c])),some (.v (.str t))],rfl,.v (.str (t.take 7++ [c])),?_,rfl⟩
  have e1:slD (.v (.str t)) none (some 7) h= .ok (.v (.str (t.take 7))) h:=by
   rw [jn _ _ _ _ tL]
   exact congrArg (fun x=>R.ok (W.v (D.str x)) h) (zy t 7)
  simp only [eval,readS,getS,R.bind_ok,R.of_some,int?_int,e1]
  exact add_str _ _ h (by simp;omega)
theorem jG (ts:List Tx) (h:AH) (hl:ts.length<=100):binD .add (.v (.lst (taken14.map .str))) (.bor ((sayT::ts).map .str)) h= .ok (.own ((taken14++sayT::ts).map .str)) h:=by
 rw [cat_vb,if_pos (by rw [LIM_eq];simp [taken14,taken];omega),List.map_append]
theorem qaR {F:Fx}{s a b:W}{ts:List Tx}{x6 x7 x8:Option W}{h:AH}{us:List Tx}(hl:ts.length<=100) (hu:us.length<=100):
 eval F e_law_any_names_1 (anyS s a b ts x6 x7 x8 (some (.v (.lst (us.map .str))))) h= .ok (.own ((us.filter fun u=> !decide (u∈taken14++sayT::ts)).map .str)) h:=by
 rw [e_law_any_names_1,zU (h:=h) (ds:=us.map .str) (fun d=>match d with | .str u=>if u∈taken14++sayT::ts then none else some (.str u) | _=>none) (by simp_all []) (by rw [LIM_eq];simp;omega)]
 ·congr 2
  rw [List.filterMap_map]
  induction us with
  | nil=>rfl
  | cons u us ih=>
   by_cases q:u∈taken14++sayT::ts
   ·rw [List.filterMap_cons_none (by simp only [Function.comp,q,if_true]),List.filter_cons_of_neg (by simp only [q,decide_true,Bool.not_true];simp)]
    exact ih (by simp at hu;omega)
   ·rw [List.filterMap_cons_some (b:= .str u) (by simp only [Function.comp,q,if_false]),List.filter_cons_of_pos (by simp only [q,decide_false,Bool.not_false]),List.map_cons,ih (by simp at hu;omega)]
 ·intro d hd
  obtain⟨u,_,rfl⟩:=List.mem_map.mp hd
  refine⟨[some (.v (.str u)),some (.v (.lst (taken14.map .str))),some (.bor ((sayT::ts).map .str))], !decide (u∈taken14++sayT::ts),rfl,?_,?_⟩
  ·simp only [tstE,eval,readS,getS,R.bind_ok,jG ts h hl,cmpD,Zg u (taken14++sayT::ts) (.own ((taken14++sayT::ts).map .str)) h rfl rfl,Option.map_some,R.of_some,tru_bl]
  ·by_cases q:u∈taken14++sayT::ts
   ·simp only [q,decide_true,Bool.not_true,Bool.false_eq_true,if_false,if_true]
   ·simp only [q,decide_false,Bool.not_false,if_true,if_false]
    exact⟨_,_,rfl,rfl,rfl⟩
theorem zO {ts:List Tx}{t:Tx}(hl:ts.length<=7): ∃c r,(97<=c/\c<=122)/\t.take 7++ [c]∉taken14++sayT::ts/\((L26.map fun c=>t.take 7++ [c]).filter fun u=> !decide (u∈taken14++sayT::ts))=(t.take 7++ [c])::r:=by
 cases q:((L26.map fun c=>t.take 7++ [c]).filter fun u=> !decide (u∈taken14++sayT::ts))with
 | nil=>
  have h1:=List.filter_eq_nil_iff.mp q
  have h2: ∀u∈(L26.map fun c=>t.take 7++ [c]),u∈taken14++sayT::ts:=fun u hu=>by
   by_cases q2:u∈taken14++sayT::ts
   ·exact q2
   ·exact absurd (by simp only [q2,decide_false,Bool.not_false]) (h1 u hu)
  have h3:(L26.map fun c=>t.take 7++ [c]).Nodup:=by
   rw [List.Nodup,List.pairwise_map]
   refine List.Pairwise.imp ?_ (show L26.Pairwise (· ≠ ·)by decide)
   intro x y ne e
   simp only [List.append_cancel_left_eq,List.cons.injEq,and_true]at e
   exact ne e
  have h4:=zw _ _ h3 h2
  simp [taken14,taken]at h4
  omega
 | cons u r=>
  have hu:u∈((L26.map fun c=>t.take 7++ [c]).filter fun u=> !decide (u∈taken14++sayT::ts)):=by rw [q];exact List.mem_cons_self
  rw [List.mem_filter]at hu
  obtain⟨c,hc,e⟩:=List.mem_map.mp hu.1
  have h97: ∀c∈L26,97<=c/\c<=122:=by decide
  refine⟨c,r,h97 c hc,?_,by rw [e]⟩
  rw [e]
  simpa using hu.2
end M
namespace M
theorem jf {α:Type}(x:α) (r:List α):atI (x::r) 0=some x:=by
 have:(0:Int)<((x::r).length:Int):=by simp
 simp [atI,ixN,this]
theorem Q1 {k r:Nat}{s a b:W}{ts:List Tx}{x7 x8 x9:Option W}{h:AH}(P:PH h) (hr:r<h.length) (N:Nm ts) (hl:ts.length<=7):
 ∃t y7 y8 y9 h',Nm (ts++ [t])/\PH h'/\h'.length=h.length ∧
  execs ⟨call prog (k+1),prog.cl,prog.con⟩ b_law_any_names_4 (anyS s a b ts (some (.v (.ref r))) x7 x8 x9) h= .next (anyS s a b (ts++ [t]) (some (.v (.ref r))) y7 y8 y9) h':=by
 obtain⟨v,h1,hv,P1,l1,e1⟩:=Wd k P hr (show 0<8 by decide) (by decide)
 have e1:call prog (k+1) "_law_next" [.v (.ref r),.v (.int 8)] h= .ok (.v (.int (v:Int))) h1:=e1
 have a1:intOp .add 1 (v:Int)=some ((1+v:Nat):Int):=xq 1 v
 obtain⟨cs,h2,lc,hc,P2,l2,e2⟩:=qaP (k:=k) (s:=s) (a:=a) (b:=b) (ts:=ts) (x8:=x8) (x9:=x9) (n:=1+v) P1 (show r<h1.length by omega) (by omega)
 have lf: ∀t:Tx,t.length<=8->(∀ c∈t,97<=c/\c<=122)->1<=t.length->t∉taken14++sayT::ts->Nm (ts++ [t]):=fun t h8 hcs h1 hf=>by
  refine N.snoc ⟨h1,h8,hcs,fun ht=>hf ?_⟩ fun ht=>hf ?_
  ·rcases (qC t).mp ht with q | q
   ·exact List.mem_append_left _ q
   ·exact List.mem_append_right _ (q▸List.mem_cons_self)
  ·exact List.mem_append_right _ (List.mem_cons_of_mem _ ht)
 have lm:((sayT::ts).map D.str).length<LIM:=by rw [LIM_eq];simp;omega
 simp only [b_law_any_names_4]
 rw [za (τ1:=anyS s a b ts (some (.v (.ref r))) (some (.v (.int ((1+v:Nat):Int)))) x8 x9) (h1:=h1) (by simp_all [e1,a1];rfl)]
 have jl:cs.length<=LIM/\(cs.map fun c=> [c]).length<=LIM/\([]:Tx).length<=LIM:=by
  rw [List.length_map,LIM_eq];exact⟨by omega,by omega,Nat.zero_le _⟩
 have e2':exec ⟨call prog (k+1),prog.cl,prog.con⟩ (.setf 8 (.meth .join (.str []) (.cons e_law_any_names_3 .nil))) (anyS s a b ts (some (.v (.ref r))) (some (.v (.int ((1+v:Nat):Int)))) x8 x9) h1= .next (anyS s a b ts (some (.v (.ref r))) (some (.v (.int ((1+v:Nat):Int)))) (some (.v (.str cs))) x9) h2:=by
  simp only [exec,eval,evalWs,R.bind_ok,mt_str,if_true,e2,methD,W.str?,R.of_some,W.lst_own,Option.bind_some,xk,zaE,if_pos jl,R.toO_ok,W.d_v,setS]
 rw [za e2']
 have tst:tstE ⟨call prog (k+1),prog.cl,prog.con⟩ (.cmp .mem (.var 8) (.bin .add (.var 4) (.var 5))) (anyS s a b ts (some (.v (.ref r))) (some (.v (.int ((1+v:Nat):Int)))) (some (.v (.str cs))) x9) h2= .ok (decide (cs∈taken14++sayT::ts)) h2:=by
  simp only [tstE,eval,readS,getS,R.bind_ok,jG ts h2 (by omega),cmpD,Zg cs (taken14++sayT::ts) (.own ((taken14++sayT::ts).map .str)) h2 rfl rfl,R.of_some,tru_bl]
 by_cases q:cs∈taken14++sayT::ts
 ·rw [decide_eq_true q]at tst
  obtain⟨c,rr,hcc,hf,ef⟩:=zO (ts:=ts) (t:=cs) hl
  obtain⟨U,hU⟩: ∃U,U=L26.map fun c=>cs.take 7++ [c]:=⟨_,rfl⟩
  rw [← hU]at ef
  have lU:U.length<=100:=by rw [hU];simp
  have eU:=xaO (F:=⟨call prog (k+1),prog.cl,prog.con⟩) (s:=s) (a:=a) (b:=b) (ts:=ts) (x6:=some (.v (.ref r))) (x7:=some (.v (.int ((1+v:Nat):Int)))) (x9:=x9) (h:=h2) (t:=cs) (by omega)
  rw [← hU]at eU
  have i0:exec ⟨call prog (k+1),prog.cl,prog.con⟩ (.setf 8 (.ix e_law_any_names_1 (.int 0))) (anyS s a b ts (some (.v (.ref r))) (some (.v (.int ((1+v:Nat):Int)))) (some (.v (.str cs))) (some (.v (.lst (U.map .str))))) h2= .next (anyS s a b ts (some (.v (.ref r))) (some (.v (.int ((1+v:Nat):Int)))) (some (.v (.str (cs.take 7++ [c])))) (some (.v (.lst (U.map .str))))) h2:=by
   simp only [exec,eval,qaR (F:=⟨call prog (k+1),prog.cl,prog.con⟩) (s:=s) (a:=a) (b:=b) (x6:=some (.v (.ref r))) (x7:=some (.v (.int ((1+v:Nat):Int)))) (x8:=some (.v (.str cs))) (h:=h2) (ts:=ts) (us:=U) (by omega) lU,ef,R.bind_ok,ix_own,List.map_cons,jf,R.of_some,R.toO_ok,W.d_v,setS]<;>rfl
  refine⟨cs.take 7++ [c],some (.v (.int ((1+v:Nat):Int))),some (.v (.str (cs.take 7++ [c]))),some (.v (.lst (U.map .str))),h2,lf _ (by simp;omega) (fun x hx=> ?_) (by simp) hf,P2,by omega,?_⟩
  ·rcases List.mem_append.mp hx with hx | hx
   ·exact hc x (List.mem_of_mem_take hx)
   ·rw [List.mem_singleton]at hx;exact hx▸hcc
  ·rw [za (τ1:=anyS s a b ts (some (.v (.ref r))) (some (.v (.int ((1+v:Nat):Int)))) (some (.v (.str (cs.take 7++ [c])))) (some (.v (.lst (U.map .str))))) (h1:=h2)]
   ·simp only [execs,exec,getS,eval,readS,R.toO_ok,W.d_v,lm,if_true,setS,O.seq_next]
    simp [anyS]
   ·rw [if_t tst,za (τ1:=anyS s a b ts (some (.v (.ref r))) (some (.v (.int ((1+v:Nat):Int)))) (some (.v (.str cs))) (some (.v (.lst (U.map .str))))) (h1:=h2) (by simp only [exec,eU,R.toO_ok,W.d_own,setS]),za i0]
    rfl
 ·rw [decide_eq_false q]at tst
  refine⟨cs,some (.v (.int ((1+v:Nat):Int))),some (.v (.str cs)),x9,h2,lf cs (by omega) hc (by omega) q,P2,by omega,?_⟩
  rw [za ((if_f tst).trans rfl)]
  simp only [execs,exec,getS,eval,readS,R.toO_ok,W.d_v,lm,if_true,setS,O.seq_next]
  simp [anyS]
theorem j4 {k:Nat}{s a b:W}: ∀(rs:List Nat) (ts:List Tx) (x6 x7 x8 x9:Option W) (h:AH),PH h->(∀ r∈rs,r<h.length)->Nm ts->ts.length+rs.length<=8-> ∃us y6 y7 y8 y9 h',Nm us/\us.length=ts.length+rs.length/\PH h'/\h'.length=h.length ∧
 forGo (bindT [6] true) (fun τ h=>execs ⟨call prog (k+1),prog.cl,prog.con⟩ b_law_any_names_4 τ h) (rs.map .ref) (anyS s a b ts x6 x7 x8 x9) h= .next (anyS s a b us y6 y7 y8 y9) h'
 | [],ts,x6,x7,x8,x9,h,P,hr,N,hl=>⟨ts,x6,x7,x8,x9,h,N,by simp,P,rfl,rfl⟩
 | r::rs,ts,x6,x7,x8,x9,h,P,hr,N,hl=>by
  simp only [List.length_cons]at hl
  obtain⟨t,y7,y8,y9,h1,N1,P1,l1,e1⟩:=Q1 (k:=k) (s:=s) (a:=a) (b:=b) (x7:=x7) (x8:=x8) (x9:=x9) P (hr r List.mem_cons_self) N (by omega)
  obtain⟨us,z6,z7,z8,z9,h2,N2,l2,P2,l3,e2⟩:=j4 (k:=k) (s:=s) (a:=a) (b:=b) rs (ts++ [t]) (some (.v (.ref r))) y7 y8 y9 h1 P1 (fun q hq=>by have:=hr q (List.mem_cons_of_mem _ hq);omega) N1 (by simp;omega)
  refine⟨us,z6,z7,z8,z9,h2,N2,by simp at l2 ⊢;omega,P2,by omega,?_⟩
  rw [List.map_cons,Qj (τ1:=anyS s a b ts (some (.v (.ref r))) x7 x8 x9) rfl e1,e2]
theorem JG (n r:Nat):(List.replicate n [D.ref r]).flatten=(List.replicate n r).map .ref:=by
 induction n with
 | zero=>rfl
 | succ n ih=>rw [List.replicate_succ,List.flatten_cons,ih];rfl
theorem jU (xs:List D) (n:Nat) (h:AH) (hn:n<=1000) (hl:xs.length*n<=1000000):binD .mul (.own xs) (.v (.int (n:Int))) h= .ok (.own (List.replicate n xs).flatten) h:=by
 show repL xs (n:Int) h=_
 rw [repL,if_pos ⟨by omega,by omega,by rw [Int.toNat_natCast,LIM_eq];exact hl⟩,Int.toNat_natCast]
theorem xaj {xs:List D}{n:Nat}{h:AH}(hk:noRefs xs=true) (hn:n<=h.length): ∃h',finO n (.ret (.own xs) h)= .ok (.own xs) h'/\h'=h.take n:=by
 by_cases q:h.length=n
 ·exact⟨h,by simp [finO,fin,q],by rw [← q,List.take_length]⟩
 ·exact⟨h.take n,by simp [finO,fin,q,W.keep,hk],rfl⟩
theorem xaA {d:D}{n:Nat}{h:AH}(hk:noRef d=true) (hn:n<=h.length): ∃h',finO n (.ret (.v d) h)= .ok (.v d) h'/\h'=h.take n:=by
 by_cases q:h.length=n
 ·exact⟨h,by simp [finO,fin,q],by rw [← q,List.take_length]⟩
 ·exact⟨h.take n,by simp [finO,fin,q,W.keep,hk],rfl⟩
theorem Qh: ∀ts:List Tx,noRefs (ts.map .str)=true
 | []=>rfl
 | t::ts=>by simp [Qh ts]
theorem zh {F:Fx}{f:String}{es:Es}{τ:Sl}{h:AH}{ws:List W}{xs:List D}(e1:evalWs F es τ h= .ok ws h) (e2:F.call f (ws.map W.arg) h= .ok (.own xs) h) (e3:noRefs xs=true):eval F (.share (.call f es)) τ h= .ok (.v (.ref h.length)) (h++ [.lst xs]):=by
 simp only [eval,e1,R.bind_ok,e2,e3,if_true]
theorem wC (k:Nat) (ns:List Int) (hs:ns.length<=63) (K T:Nat) (hK:K<=4) (hT:T<=4) (h:AH) (P:PH h): ∃ts h',Nm ts/\ts.length=K+T/\PH h'/\h'.length=h.length ∧
 call prog (k+3) "_law_any_names" [scD ns,.v (.int (K:Int)),.v (.int (T:Int))] h= .ok (.own (ts.map .str)) h':=by
 rw [call_of (d:=d_law_any_names) rfl _ _ _ rfl]
 obtain⟨a1,f1,g1,e1⟩:=Js k ns hs 1 h
 obtain⟨a2,f2,g2,e2⟩:=Js k ns hs 2 (h++ [.lst [.int a1,.int f1,.int g1]])
 have P1:=P.app a1 f1 g1
 have P2:=P1.app a2 f2 g2
 obtain⟨us,y6,y7,y8,y9,h',N,lu,P3,l3,e3⟩:=j4 (k:=k+1) (s:=scD ns) (a:= .v (.int (K:Int))) (b:= .v (.int (T:Int))) (List.replicate K h.length++List.replicate T (h.length+1)) [] none none none none (h++ [.lst [.int a1,.int f1,.int g1]]++ [.lst [.int a2,.int f2,.int g2]]) P2 (fun r hr=>by
  rw [List.length_append,List.length_append]
  rcases List.mem_append.mp hr with q | q
  ·rw [(List.mem_replicate.mp q).2];simp;omega
  ·rw [(List.mem_replicate.mp q).2];simp) ⟨List.nodup_nil,fun _ h=>absurd h List.not_mem_nil⟩ (by simp;omega)
 simp only [List.length_append,List.length_replicate,List.length_nil,Nat.zero_add]at lu
 have k1:call prog (k+2) "_law_purse" [scD ns,.v (.int 1)] h= .ok (.own [.int a1,.int f1,.int g1]) h:=e1
 have k2:call prog (k+2) "_law_purse" [scD ns,.v (.int 2)] (h++ [.lst [.int a1,.int f1,.int g1]])= .ok (.own [.int a2,.int f2,.int g2]) (h++ [.lst [.int a1,.int f1,.int g1]]):=e2
 obtain⟨h4,e4,t4⟩:=xaj (xs:=us.map .str) (n:=h.length) (h:=h') (Qh us) (by rw [l3,List.length_append,List.length_append];omega)
 refine⟨us,h4,N,lu,t4▸P3.take _,by rw [t4,List.length_take,l3,List.length_append,List.length_append];omega,?_⟩
 simp only [d_law_any_names]
 show finO _ (execs _ _ [some (scD ns),some (.v (.int (K:Int))),some (.v (.int (T:Int))),none,none,none,none,none,none,none] h)=_
 rw [za (τ1:= [some (scD ns),some (.v (.int (K:Int))),some (.v (.int (T:Int))),some (.v (.str L26)),none,none,none,none,none,none]) (h1:=h) rfl]
 rw [za (τ1:= [some (scD ns),some (.v (.int (K:Int))),some (.v (.int (T:Int))),some (.v (.str L26)),some (.v (.lst (taken14.map .str))),none,none,none,none,none]) (h1:=h) rfl]
 rw [za (τ1:=anyS (scD ns) (.v (.int (K:Int))) (.v (.int (T:Int))) [] none none none none) (h1:=h) rfl]
 have m1:binD .mul (.own [.ref h.length]) (.v (.int (K:Int))) (h++ [.lst [.int a1,.int f1,.int g1]])= .ok (.own ((List.replicate K h.length).map .ref)) (h++ [.lst [.int a1,.int f1,.int g1]]):=by
  rw [jU _ _ _ (by omega) (by simp;omega),JG]
 have m2:binD .mul (.own [.ref (h.length+1)]) (.v (.int (T:Int))) (h++ [.lst [.int a1,.int f1,.int g1]]++ [.lst [.int a2,.int f2,.int g2]])= .ok (.own ((List.replicate T (h.length+1)).map .ref)) (h++ [.lst [.int a1,.int f1,.int g1]]++ [.lst [.int a2,.int f2,.int g2]]):=by
  rw [jU _ _ _ (by omega) (by simp;omega),JG]
 have ll:(h++ [Cell.lst [.int a1,.int f1,.int g1]]).length=h.length+1:=by simp
 have fr:exec ⟨call prog (k+2),prog.cl,prog.con⟩ (.for [6] true (.seq (.bin .add (.bin .mul (.lst (.cons (.share (.call "_law_purse" (.cons (.var 0) (.cons (.int 1) .nil)))) .nil)) (.var 1)) (.bin .mul (.lst (.cons (.share (.call "_law_purse" (.cons (.var 0) (.cons (.int 2) .nil)))) .nil)) (.var 2)))) b_law_any_names_4) (anyS (scD ns) (.v (.int (K:Int))) (.v (.int (T:Int))) [] none none none none) h= .next (anyS (scD ns) (.v (.int (K:Int))) (.v (.int (T:Int))) us y6 y7 y8 y9) h':=by
  have p1:=zh (F:=⟨call prog (k+2),prog.cl,prog.con⟩) (f:= "_law_purse") (es:= .cons (.var 0) (.cons (.int 1) .nil)) (τ:=anyS (scD ns) (.v (.int (K:Int))) (.v (.int (T:Int))) [] none none none none) (h:=h) (ws:= [scD ns,.v (.int 1)]) (xs:= [D.int a1,D.int f1,D.int g1]) rfl k1 rfl
  have p2:=zh (F:=⟨call prog (k+2),prog.cl,prog.con⟩) (f:= "_law_purse") (es:= .cons (.var 0) (.cons (.int 2) .nil)) (τ:=anyS (scD ns) (.v (.int (K:Int))) (.v (.int (T:Int))) [] none none none none) (h:=h++ [Cell.lst [D.int a1,D.int f1,D.int g1]]) (ws:= [scD ns,.v (.int 2)]) (xs:= [D.int a2,D.int f2,D.int g2]) rfl k2 rfl
  rw [ll]at p2
  rw [exec,evalLp]
  simp only [isVar]
  rw [eval,eval,eval,evalDs,p1]
  simp only [R.bind_ok,W.d_v,R.of_some,evalDs]
  rw [show eval ⟨call prog (k+2),prog.cl,prog.con⟩ (.var 1) (anyS (scD ns) (.v (.int (K:Int))) (.v (.int (T:Int))) [] none none none none) (h++ [.lst [.int a1,.int f1,.int g1]])= .ok (.v (.int (K:Int))) (h++ [.lst [.int a1,.int f1,.int g1]])from rfl,R.bind_ok,m1,R.bind_ok,eval,eval,evalDs,p2]
  simp only [R.bind_ok,W.d_v,R.of_some,evalDs]
  rw [show eval ⟨call prog (k+2),prog.cl,prog.con⟩ (.var 2) (anyS (scD ns) (.v (.int (K:Int))) (.v (.int (T:Int))) [] none none none none) (h++ [.lst [.int a1,.int f1,.int g1]]++ [.lst [.int a2,.int f2,.int g2]])= .ok (.v (.int (T:Int))) (h++ [.lst [.int a1,.int f1,.int g1]]++ [.lst [.int a2,.int f2,.int g2]])from rfl,R.bind_ok,m2,R.bind_ok,cat_oo,if_pos (by rw [LIM_eq];simp;omega),R.bind_ok,lpW_own,R.of_some,R.toO_ok,←List.map_append,e3]
 rw [za fr]
 rw [Wa (w:= .own (us.map .str)) (h1:=h') ?_,e4]
 refine zi rfl ?_
 have:=xG ((sayT::us).map D.str) 1
 have h1:cut ((sayT::us).map D.str) (some 1) none=us.map .str:=this
 simp only [eval,readS,getS,R.bind_ok,int?_int,R.of_some,sl_bor,h1]
end M
namespace M
theorem jg (x:Tx): ∀ys:List Tx,(insT x ys).Perm (x::ys)
 | []=> .refl _
 | y::ys=>by
  unfold insT
  by_cases q:y<x
  ·rw [if_pos q]
   exact((jg x ys).cons y).trans (.swap x y ys)
  ·rw [if_neg q]
theorem Wb: ∀xs:List Tx,(sortT xs).Perm xs
 | []=> .refl _
 | x::xs=>(jg x (sortT xs)).trans ((Wb xs).cons x)
theorem Nm.perm {a b:List Tx}(h:Nm a) (p:b.Perm a):Nm b:=⟨p.nodup_iff.mpr h.nd,fun t ht=>h.good t (p.mem_iff.mp ht)⟩
theorem Nm.rev {a:List Tx}(h:Nm a):Nm a.reverse:=h.perm (List.reverse_perm a)
abbrev tsD (ts:List Tx):D:= .tup (ts.map .str)
abbrev wD (K T:List Tx):D:= .tup [tsD K,tsD T]
theorem pow8:intOp .pow 10 8=some ((100000000:Nat):Int):=by
 have:(0:Int)<=8/\(8:Int)<=BP/\(10:Int).natAbs<N64:=by rw [BP_eq,N64_eq];decide
 show(if _ then _ else _)=_
 rw [if_pos this]
 rfl
theorem xr (ts:List Tx) (h:AH) (hl:ts.length<64):biD .sorted [.own (ts.map .str)] h= .ok (.own ((sortT ts).map .str)) h:=by
 show(R.of h ((some (ts.map D.str)).bind strsD)).bind _=_
 rw [Option.bind_some,xk,R.of_some,R.bind_ok,if_pos hl]
theorem J4 (c:Int) (h:AH):cmpD .eq (.v (.int (c % 2))) (.v (.int 1)) h=some (decide (c % 2=1)):=Zk _ _ h
abbrev woS (s:W) (r K T n:Nat) (ts:List Tx):Sl:= [some s,some (.v (.ref r)),some (.v (.int (K:Int))),some (.v (.int (T:Int))),some (.v (.int (n:Int))),some (.v (.lst (ts.map .str)))]
theorem qad (k:Nat) (ns:List Int) (hs:ns.length<=63) (h:AH) (P:PH h): ∃K T h',K.length<=4/\T.length<=4/\Nm (K++T)/\PH h'/\h'.length=h.length/\call prog (k+4) "_law_words" [scD ns] h= .ok (.v (wD K T)) h':=by
 rw [call_of (d:=d_law_words) rfl _ _ _ rfl]
 obtain⟨a1,f1,g1,e1⟩:=Js (k+1) ns hs 0 h
 have e1:call prog (k+3) "_law_purse" [scD ns,.v (.int 0)] h= .ok (.own [.int a1,.int f1,.int g1]) h:=e1
 have P1:=P.app a1 f1 g1
 have l1:(h++ [Cell.lst [D.int a1,D.int f1,D.int g1]]).length=h.length+1:=by simp
 obtain⟨K,h2,hK,P2,l2,e2⟩:=Wd (k+2) P1 (show h.length<(h++ [Cell.lst [D.int a1,D.int f1,D.int g1]]).length by omega) (show 0<5 by decide) (by decide)
 obtain⟨T,h3,hT,P3,l3,e3⟩:=Wd (k+2) P2 (show h.length<h2.length by omega) (show 0<5 by decide) (by decide)
 obtain⟨n,h4,hn,P4,l4,e4⟩:=Wd (k+2) P3 (show h.length<h3.length by omega) (show 0<100000000 by decide) (by decide)
 have e2:call prog (k+3) "_law_next" [.v (.ref h.length),.v (.int 5)] (h++ [Cell.lst [D.int a1,D.int f1,D.int g1]])= .ok (.v (.int (K:Int))) h2:=e2
 have e3:call prog (k+3) "_law_next" [.v (.ref h.length),.v (.int 5)] h2= .ok (.v (.int (T:Int))) h3:=e3
 obtain⟨fs,lf,nf,gf,e5⟩:=W3 (k+2) (n / 2) (K+T) h4 (by omega)
 obtain⟨c0,e6⟩:=qO (k+2) ns hs 0 h4
 have e6:call prog (k+3) "_law_cell" [scD ns,.v (.int 0)] h4= .ok (.v (.int c0)) h4:=e6
 obtain⟨as,h5,Na,la,P5,l5,e7⟩:=wC k ns hs K T (by omega) (by omega) h4 P4
 have d1:intOp .fdiv (n:Int) 2=some ((n / 2:Nat):Int):=jv n 2 (by decide) (by decide)
 have d2:intOp .mod (n:Int) 2=some ((n % 2:Nat):Int):=Ju n 2 (by decide)
 have d3:intOp .mod c0 2=some (c0 % 2):=Xe _ _ (by decide)
 have d4:=xq K T
 have q1:cmpD .eq (.v (.int ((n % 2:Nat):Int))) (.v (.int 1)) h4=some (decide (n % 2=1)):=Wh (n % 2) 1 h4
 simp only [d_law_words]
 show ∃K T h',_/\_/\_/\_/\_/\finO _ (execs _ _ [some (scD ns),none,none,none,none,none] h)=_
 have p1:=zh (F:=⟨call prog (k+3),prog.cl,prog.con⟩) (f:= "_law_purse") (es:= .cons (.var 0) (.cons (.int 0) .nil)) (τ:= [some (scD ns),none,none,none,none,none]) (h:=h) (ws:= [scD ns,.v (.int 0)]) (xs:= [D.int a1,D.int f1,D.int g1]) rfl e1 rfl
 rw [za (τ1:= [some (scD ns),some (.v (.ref h.length)),none,none,none,none]) (h1:=h++ [Cell.lst [D.int a1,D.int f1,D.int g1]]) (by rw [exec,p1];rfl)]
 rw [za (τ1:= [some (scD ns),some (.v (.ref h.length)),some (.v (.int (K:Int))),none,none,none]) (h1:=h2) (by simp_all [e2])]
 rw [za (τ1:= [some (scD ns),some (.v (.ref h.length)),some (.v (.int (K:Int))),some (.v (.int (T:Int))),none,none]) (h1:=h3) (by simp_all [e3])]
 rw [za (τ1:= [some (scD ns),some (.v (.ref h.length)),some (.v (.int (K:Int))),some (.v (.int (T:Int))),some (.v (.int (n:Int))),none]) (h1:=h4) (by simp_all [pow8,e4])]
 rw [za (τ1:=woS (scD ns) h.length K T n fs) (h1:=h4) (by simp_all [d1,d4,e5])]
 have b1: ∃ts:List Tx,Nm ts/\ts.length=K+T/\exec ⟨call prog (k+3),prog.cl,prog.con⟩ (.iff (.cmp .eq (.bin .mod (.var 4) (.int 2)) (.int 1)) (.cons (.setf 5 (.rev (.var 5))) .nil) .nil) (woS (scD ns) h.length K T n fs) h4= .next (woS (scD ns) h.length K T n ts) h4:=by
  by_cases q:n % 2=1
  ·refine⟨fs.reverse,Nm.rev ⟨nf,gf⟩,by simp [lf],?_⟩
   rw [if_t (h1:=h4) (by simp_all [d2,q1,decide_eq_true q])]
   simp_all [W.lst_v]
   rw [← List.map_reverse]
  ·refine⟨fs,⟨nf,gf⟩,lf,?_⟩
   rw [if_f (h1:=h4) (by simp_all [d2,q1,decide_eq_false q])]
   rfl
 obtain⟨ts,Nt,lt,eb⟩:=b1
 rw [za eb]
 have b2: ∃us h6,Nm us/\us.length=K+T/\PH h6/\h6.length=h4.length/\exec ⟨call prog (k+3),prog.cl,prog.con⟩ (.iff (.cmp .eq (.bin .mod (.call "_law_cell" (.cons (.var 0) (.cons (.int 0) .nil))) (.int 2)) (.int 1)) (.cons (.setf 5 (.call "_law_any_names" (.cons (.var 0) (.cons (.var 2) (.cons (.var 3) .nil))))) .nil) .nil) (woS (scD ns) h.length K T n ts) h4= .next (woS (scD ns) h.length K T n us) h6:=by
  by_cases q:c0 % 2=1
  ·refine⟨as,h5,Na,la,P5,l5,?_⟩
   rw [if_t (h1:=h4) (by simp only [scD]at e6;simp_all [e6,d3,J4,decide_eq_true q])]
   simp only [scD]at e7
   simp_all [e7]
  ·refine⟨ts,h4,Nt,lt,P4,rfl,?_⟩
   rw [if_f (h1:=h4) (by simp only [scD]at e6;simp_all [e6,d3,J4,decide_eq_false q])]
   rfl
 obtain⟨us,h6,Nu,lu,P6,l6,ec⟩:=b2
 rw [za ec]
 have lt1:(us.take K).length=K:=by rw [List.length_take];omega
 have lt2:(us.drop K).length=T:=by rw [List.length_drop];omega
 have pm:(sortT (us.take K)++sortT (us.drop K)).Perm us:=by
  have:=(Wb (us.take K)).append (Wb (us.drop K))
  rwa [List.take_append_drop]at this
 have nr:noRef (wD (sortT (us.take K)) (sortT (us.drop K)))=true:=by simp [Qh]
 obtain⟨h7,e7',t7⟩:=xaA (d:=wD (sortT (us.take K)) (sortT (us.drop K))) (n:=h.length) (h:=h6) nr (by omega)
 refine⟨sortT (us.take K),sortT (us.drop K),h7,?_,?_,Nu.perm pm,t7▸P6.take _,by rw [t7,List.length_take];omega,?_⟩
 ·rw [(Wb _).length_eq];omega
 ·rw [(Wb _).length_eq];omega
 rw [Wa (w:= .v (wD (sortT (us.take K)) (sortT (us.drop K)))) (h1:=h6) ?_,e7']
 refine xf rfl ?_
 have c1:cut (us.map D.str) none (some (K:Int))=(us.take K).map .str:=by rw [zy,List.map_take]
 have c2:cut (us.map D.str) (some (K:Int)) none=(us.drop K).map .str:=by rw [xG,List.map_drop]
 have s1:=xr (us.take K) h6 (by omega)
 have s2:=xr (us.drop K) h6 (by omega)
 simp only [eval,evalDs,evalWs,readS,getS,R.bind_ok,int?_int,R.of_some,sl_lst,c1,c2,s1,s2,tuple_own,W.d_v]
end M
namespace M
inductive Ex where
 | name (t:Tx)
 | same
 | all
 | none
 | turned (a:Ex)
 | closed (a:Ex)
 | plus (a b:Ex)
 | less (a b:Ex)
 | both (a b:Ex)
 | joined (a b:Ex)
abbrev t_name:Tx:= [110,97,109,101]
abbrev t_same:Tx:= [115,97,109,101]
abbrev t_all:Tx:= [97,108,108]
abbrev t_none:Tx:= [110,111,110,101]
abbrev t_plus:Tx:= [112,108,117,115]
abbrev t_less:Tx:= [108,101,115,115]
abbrev t_both:Tx:= [98,111,116,104]
abbrev t_joined:Tx:= [106,111,105,110,101,100]
abbrev t_turned:Tx:= [116,117,114,110,101,100]
abbrev t_closed:Tx:= [99,108,111,115,101,100]
def exD:Ex->D
 | .name t=> .tup [.str t_name,.str t]
 | .same=> .tup [.str t_same]
 | .all=> .tup [.str t_all]
 | .none=> .tup [.str t_none]
 | .turned a=> .tup [.str t_turned,exD a]
 | .closed a=> .tup [.str t_closed,exD a]
 | .plus a b=> .tup [.str t_plus,exD a,exD b]
 | .less a b=> .tup [.str t_less,exD a,exD b]
 | .both a b=> .tup [.str t_both,exD a,exD b]
 | .joined a b=> .tup [.str t_joined,exD a,exD b]
def Ex.wf (N:List Tx):Ex->Prop
 | .name t=>t∈N
 | .turned a=>a.wf N
 | .closed a=>a.wf N
 | .plus a b=>a.wf N/\b.wf N
 | .less a b=>a.wf N/\b.wf N
 | .both a b=>a.wf N/\b.wf N
 | .joined a b=>a.wf N/\b.wf N
 | _=>True
def Ex.dp:Ex->Nat
 | .turned a=>a.dp+1
 | .closed a=>a.dp+1
 | .plus a b=>max a.dp b.dp+1
 | .less a b=>max a.dp b.dp+1
 | .both a b=>max a.dp b.dp+1
 | .joined a b=>max a.dp b.dp+1
 | _=>0
theorem qaO {F:Fx}{a x:Option W}(N:List Tx) (hN:N.length<=100) (h:AH):eval F e_law_leaf_1 [a,some (.v (tsD N)),x] h= .ok (.own (N.map fun t=>exD (.name t))) h:=by
 rw [e_law_leaf_1,jk (h:=h) (ds:=N.map .str) (fun d=> .tup [.str t_name,d]) (by simp_all []) (by rw [LIM_eq];simp;omega)]
 ·simp [exD]
 ·intro d hd
  exact⟨[some (.v d)],rfl,_,rfl,rfl⟩
theorem w9 (k r:Nat) (N:List Tx) (hN:N.length<=100){h:AH}(P:PH h) (hr:r<h.length): ∃e h',e.wf N/\e.dp=0/\PH h'/\h'.length=h.length/\call prog (k+2) "_law_leaf" [.v (.ref r),.v (tsD N)] h= .ok (.v (exD e)) h':=by
 obtain⟨v,h1,hv,P1,l1,e1⟩:=Wd k P hr (show 0<N.length+3 by omega) (by omega)
 have hx: ∃e,Ex.wf N e/\e.dp=0/\((N.map fun t=>exD (.name t))++ [exD .same,exD .all,exD .none])[v]? =some (exD e):=by
  by_cases q:v<N.length
  ·refine⟨.name N[v],List.getElem_mem q,rfl,?_⟩
   rw [List.getElem?_append_left (by simpa using q),List.getElem?_map,List.getElem?_eq_getElem q]
   rfl
  ·rw [List.getElem?_append_right (by simpa using Nat.not_lt.mp q),List.length_map]
   have:v-N.length=0\/v-N.length=1\/v-N.length=2:=by omega
   rcases this with q | q | q<;>rw [q]
   ·exact⟨.same,trivial,rfl,rfl⟩
   ·exact⟨.all,trivial,rfl,rfl⟩
   ·exact⟨.none,trivial,rfl,rfl⟩
 obtain⟨e,we,de,ee⟩:=hx
 refine⟨e,h1,we,de,P1,l1,?_⟩
 have hl:((N.map fun t=>exD (.name t))++ [exD .same,exD .all,exD .none]).length=N.length+3:=by simp
 have ea:=jB ((N.map fun t=>exD (.name t))++ [exD .same,exD .all,exD .none]) v (by omega)
 rw [ee]at ea
 rw [call_of (d:=d_law_leaf) rfl _ _ _ rfl]
 simp only [d_law_leaf]
 show finO _ (execs _ _ [some (.v (.ref r)),some (.v (tsD N)),none] h)=_
 rw [za (τ1:= [some (.v (.ref r)),some (.v (tsD N)),some (.v (.lst ((N.map fun t=>exD (.name t))++ [exD .same,exD .all,exD .none])))]) (h1:=h)]
 ·rw [Wa (w:= .v (exD e)) (h1:=h1) (xf rfl ?_),finO_retv _ _ _ l1]
  simp_all [len_lst,hl,e1,ix_lst,ea]
 ·rw [exec,eval,qaO N hN h,R.bind_ok]
  simp only [eval,evalDs,R.bind_ok,W.d_v,R.of_some,cat_oo]
  rw [if_pos (by rw [LIM_eq];simp;omega)]
  rfl
theorem qaF (s:Nat) (h1:0<s) (h2:s<3): ∃f:Ex->Ex,(∀ a,(f a).dp=a.dp+1)/\(∀ N a,a.wf N->(f a).wf N)/\ ∃t,atI [D.str t_turned,.str t_closed] ((s:Int)-1)=some (.str t)/\ ∀a,exD (f a)= .tup [.str t,exD a]:=by
 match s,h1,h2 with
 | 1,_,_=>exact⟨.turned,fun _=>rfl,fun _ _ h=>h,t_turned,rfl,fun _=>rfl⟩
 | 2,_,_=>exact⟨.closed,fun _=>rfl,fun _ _ h=>h,t_closed,rfl,fun _=>rfl⟩
 | s+3,_,h=>exact absurd h (by omega)
theorem qar (s:Nat) (h1:3<=s) (h2:s<9): ∃f:Ex->Ex->Ex,(∀ a b,(f a b).dp=max a.dp b.dp+1)/\(∀ N a b,a.wf N->b.wf N->(f a b).wf N)/\ ∃t,atI [D.str t_plus,.str t_less,.str t_both,.str t_joined,.str t_less,.str t_joined] ((s:Int)-3)=some (.str t)/\ ∀a b,exD (f a b)= .tup [.str t,exD a,exD b]:=by
 match s,h1,h2 with
 | 3,_,_=>exact⟨.plus,fun _ _=>rfl,fun _ _ _ h g=>⟨h,g⟩,t_plus,rfl,fun _ _=>rfl⟩
 | 4,_,_=>exact⟨.less,fun _ _=>rfl,fun _ _ _ h g=>⟨h,g⟩,t_less,rfl,fun _ _=>rfl⟩
 | 5,_,_=>exact⟨.both,fun _ _=>rfl,fun _ _ _ h g=>⟨h,g⟩,t_both,rfl,fun _ _=>rfl⟩
 | 6,_,_=>exact⟨.joined,fun _ _=>rfl,fun _ _ _ h g=>⟨h,g⟩,t_joined,rfl,fun _ _=>rfl⟩
 | 7,_,_=>exact⟨.less,fun _ _=>rfl,fun _ _ _ h g=>⟨h,g⟩,t_less,rfl,fun _ _=>rfl⟩
 | 8,_,_=>exact⟨.joined,fun _ _=>rfl,fun _ _ _ h g=>⟨h,g⟩,t_joined,rfl,fun _ _=>rfl⟩
 | s+9,_,h=>exact absurd h (by omega)
theorem ze (r:Nat) (N:List Tx) (hN:N.length<=100): ∀(d k:Nat) (h:AH),PH h->r<h.length-> ∃e h',e.wf N/\e.dp<=d/\PH h'/\h'.length=h.length/\call prog (k+d+3) "_law_expression" [.v (.ref r),.v (.int (d:Int)),.v (tsD N)] h= .ok (.v (exD e)) h'
 | 0,k,h,P,hr=>by
  obtain⟨e,h1,we,de,P1,l1,e1⟩:=w9 k r N hN P hr
  refine⟨e,h1,we,Nat.le_of_eq de,P1,l1,?_⟩
  rw [call_of (d:=d_law_expression) rfl _ _ _ rfl]
  have z:cmpD .gt (.v (.int ((0:Nat):Int))) (.v (.int 0)) h=some false:=rfl
  have z2:cmpD .eq (.v (.int 0)) (.v (.int 0)) h=some true:=Wh 0 0 h
  simp_all [d_law_expression,z,z2,e1]
  rw [finO_retv _ _ _ l1]
 | d+1,k,h,P,hr=>by
  obtain⟨s,h1,hs,P1,l1,e1⟩:=Wd (k+d+2) P hr (show 0<9 by decide) (by decide)
  have e1:call prog (k+d+3) "_law_next" [.v (.ref r),.v (.int 9)] h= .ok (.v (.int (s:Int))) h1:=e1
  have z:cmpD .gt (.v (.int ((d+1:Nat):Int))) (.v (.int 0)) h=some true:=by
   rw [cmp_gt];congr 1;exact decide_eq_true (by omega)
  have z2: ∀h,cmpD .eq (.v (.int (s:Int))) (.v (.int 0)) h=some (decide (s=0)):=fun h=>Wh s 0 h
  have zd:intOp .sub ((d+1:Nat):Int) 1=some (d:Int):=by rw [int_sub];congr 1;omega
  rw [show k+(d+1)+3=k+d+4 by omega,call_of (d:=d_law_expression) rfl _ _ _ rfl]
  simp only [d_law_expression]
  show ∃e h',_/\_/\_/\_/\finO _ (execs _ _ [some (.v (.ref r)),some (.v (.int ((d+1:Nat):Int))),some (.v (tsD N)),none,none,none] h)=_
  rw [za (τ1:= [some (.v (.ref r)),some (.v (.int ((d+1:Nat):Int))),some (.v (tsD N)),some (.v (.int 0)),none,none]) (h1:=h) rfl]
  rw [za (τ1:= [some (.v (.ref r)),some (.v (.int ((d+1:Nat):Int))),some (.v (tsD N)),some (.v (.int (s:Int))),none,none]) (h1:=h1) (by simp_all [z,e1])]
  by_cases q0:s=0
  ·obtain⟨e,h2,we,de,P2,l2,e2⟩:=w9 (k+d+1) r N hN P1 (show r<h1.length by omega)
   refine⟨e,h2,we,by omega,P2,by omega,?_⟩
   rw [Wa (w:= .v (exD e)) (h1:=h2) (by simp_all [z2,decide_eq_true q0,e2]),finO_retv _ _ _ (by omega)]
  ·obtain⟨a,h2,wa,da,P2,l2,e2⟩:=ze r N hN d k h1 P1 (by omega)
   rw [za (τ1:= [some (.v (.ref r)),some (.v (.int ((d+1:Nat):Int))),some (.v (tsD N)),some (.v (.int (s:Int))),none,none]) (h1:=h1) (by simp_all [z2,decide_eq_false q0])]
   rw [za (τ1:= [some (.v (.ref r)),some (.v (.int ((d+1:Nat):Int))),some (.v (tsD N)),some (.v (.int (s:Int))),some (.v (exD a)),none]) (h1:=h2) (by simp_all [zd,e2])]
   by_cases q3:s<3
   ·obtain⟨f,hd,hw,t,ht,he⟩:=qaF s (by omega) q3
    have z3:cmpD .lt (.v (.int (s:Int))) (.v (.int 3)) h2=some true:=by
     rw [cmp_lt];congr 1;exact decide_eq_true (by omega)
    refine⟨f a,h2,hw N a wa,by rw [hd];omega,P2,by omega,?_⟩
    rw [Wa (w:= .v (exD (f a))) (h1:=h2) (by simp_all [z3,int_sub,ix_own,ht,he]),finO_retv _ _ _ (by omega)]
   ·obtain⟨f,hd,hw,t,ht,he⟩:=qar s (by omega) hs
    obtain⟨b,h3,wb,db,P3,l3,e3⟩:=ze r N hN d k h2 P2 (by omega)
    have z3:cmpD .lt (.v (.int (s:Int))) (.v (.int 3)) h2=some false:=by
     rw [cmp_lt];congr 1;exact decide_eq_false (by omega)
    refine⟨f a b,h3,hw N a b wa wb,by rw [hd];omega,P3,by omega,?_⟩
    rw [za (τ1:= [some (.v (.ref r)),some (.v (.int ((d+1:Nat):Int))),some (.v (tsD N)),some (.v (.int (s:Int))),some (.v (exD a)),none]) (h1:=h2) (by simp_all [z3])]
    rw [za (τ1:= [some (.v (.ref r)),some (.v (.int ((d+1:Nat):Int))),some (.v (tsD N)),some (.v (.int (s:Int))),some (.v (exD a)),some (.v (exD b))]) (h1:=h3) (by simp_all [zd,e3])]
    rw [Wa (w:= .v (exD (f a b))) (h1:=h3) (by simp_all [int_sub,ix_own,ht,he]),finO_retv _ _ _ (by omega)]
end M
namespace M
def exS:Ex->Tx
 | .name _=>t_name
 | .same=>t_same
 | .all=>t_all
 | .none=>t_none
 | .turned _=>t_turned
 | .closed _=>t_closed
 | .plus _ _=>t_plus
 | .less _ _=>t_less
 | .both _ _=>t_both
 | .joined _ _=>t_joined
theorem qH (s t:Tx) (h:AH):cmpD .eq (.v (.str s)) (.v (.str t)) h=some (s==t):=by simp [eqOk]
theorem zb {F:Fx}{c:E}{a:Ss}{τ:Sl}{h:AH}{ss:Ss}(e:tstE F c τ h= .ok false h):execs F (.cons (.iff c a .nil) ss) τ h=execs F ss τ h:=za (if_f e)
theorem jw {F:Fx}{c:E}{s:S}{τ:Sl}{h:AH}{ss:Ss}{w:W}(e:tstE F c τ h= .ok true h) (r:exec F s τ h= .ret w h):execs F (.cons (.iff c (.cons s .nil) .nil) ss) τ h= .ret w h:=Wa ((if_t e).trans (Wa r))
theorem Jc (x y:D) (r:List D):atI (x::y::r) 1=some y:=by
 have:=jB (x::y::r) 1 (by simp)
 exact this
abbrev t_least:Tx:= [108,101,97,115,116]
abbrev t_most:Tx:= [109,111,115,116]
abbrev t_eleast:Tx:= [101,97,99,104,108,101,97,115,116]
abbrev t_emost:Tx:= [101,97,99,104,109,111,115,116]
abbrev t_in:Tx:= [105,110]
abbrev t_equal:Tx:= [101,113,117,97,108]
abbrev t_some:Tx:= [115,111,109,101]
abbrev t_no:Tx:= [110,111]
inductive Fc where
 | inn (a b:Ex)
 | equ (a b:Ex)
 | som (a:Ex)
 | non (a:Ex)
 | cnt (s:Tx) (k:Nat) (a:Ex)
def fcD:Fc->D
 | .inn a b=> .tup [.str t_in,exD a,exD b]
 | .equ a b=> .tup [.str t_equal,exD a,exD b]
 | .som a=> .tup [.str t_some,exD a]
 | .non a=> .tup [.str t_no,exD a]
 | .cnt s k a=> .tup [.str s,.int (k:Int),exD a]
def Fc.wf (N:List Tx):Fc->Prop
 | .inn a b=>a.wf N/\b.wf N
 | .equ a b=>a.wf N/\b.wf N
 | .som a=>a.wf N
 | .non a=>a.wf N
 | .cnt s k a=>(s∈ [t_least,t_most,t_eleast,t_emost]/\k<1000)/\a.wf N
def Fc.dp:Fc->Nat
 | .inn a b=>max a.dp b.dp
 | .equ a b=>max a.dp b.dp
 | .som a=>a.dp
 | .non a=>a.dp
 | .cnt _ _ a=>a.dp
theorem jaP (x y:D):atI [x,y] 0=some x:=rfl
theorem xaQ (x y:D):atI [x,y] 1=some y:=rfl
end M
namespace M
theorem xaC (s:Nat) (h4:4<=s) (h8:s<8): ∃t∈ [t_least,t_most,t_eleast,t_emost],atI [D.str t_least,.str t_most,.str t_eleast,.str t_emost] ((s:Int)-4)=some (.str t):=by
 match s,h4,h8 with
 | 4,_,_=>exact⟨t_least,by decide,rfl⟩
 | 5,_,_=>exact⟨t_most,by decide,rfl⟩
 | 6,_,_=>exact⟨t_eleast,by decide,rfl⟩
 | 7,_,_=>exact⟨t_emost,by decide,rfl⟩
 | s+8,_,h=>exact absurd h (by omega)
abbrev lfS (r:Nat) (N:List Tx) (x2 x3 x4:Option W):Sl:= [some (.v (.ref r)),some (.v (tsD N)),x2,x3,x4]
theorem Z8 (k r:Nat) (N:List Tx) (hN:N.length<=100){h:AH}(P:PH h) (hr:r<h.length): ∃f h',Fc.wf N f/\f.dp<=4/\PH h'/\h'.length=h.length/\call prog (k+7) "_law_fact" [.v (.ref r),.v (tsD N)] h= .ok (.v (fcD f)) h':=by
 obtain⟨s,h1,hs,P1,l1,e1⟩:=Wd (k+5) P hr (show 0<8 by decide) (by decide)
 have e1:call prog (k+6) "_law_next" [.v (.ref r),.v (.int 8)] h= .ok (.v (.int (s:Int))) h1:=e1
 obtain⟨d,h2,hd,P2,l2,e2⟩:=Wd (k+5) P1 (show r<h1.length by omega) (show 0<4 by decide) (by decide)
 have e2:call prog (k+6) "_law_next" [.v (.ref r),.v (.int 4)] h1= .ok (.v (.int (d:Int))) h2:=e2
 obtain⟨a,h3,wa,da,P3,l3,e3⟩:=ze r N hN d (k+3-d) h2 P2 (by omega)
 rw [show k+3-d+d+3=k+6 by omega]at e3
 rw [call_of (d:=d_law_fact) rfl _ _ _ rfl]
 simp only [d_law_fact]
 show ∃f h',_/\_/\_/\_/\finO _ (execs _ _ (lfS r N none none none) h)=_
 rw [za (τ1:=lfS r N (some (.v (.int (s:Int)))) none none) (h1:=h1) (by simp_all [e1])]
 rw [za (τ1:=lfS r N (some (.v (.int (s:Int)))) (some (.v (exD a))) none) (h1:=h3) (by simp_all [e2,e3])]
 by_cases q2:s<2
 ·obtain⟨c,h4,hc,P4,l4,e4⟩:=Wd (k+5) P3 (show r<h3.length by omega) (show 0<3 by decide) (by decide)
  have e4:call prog (k+6) "_law_next" [.v (.ref r),.v (.int 3)] h3= .ok (.v (.int (c:Int))) h4:=e4
  obtain⟨b,h5,wb,db,P5,l5,e5⟩:=ze r N hN c (k+3-c) h4 P4 (by omega)
  rw [show k+3-c+c+3=k+6 by omega]at e5
  have z:cmpD .lt (.v (.int (s:Int))) (.v (.int 2)) h3=some true:=by
   rw [cmp_lt];congr 1;exact decide_eq_true (by omega)
  obtain⟨f,wf,df,t,ht,hf⟩: ∃f:Fc,f.wf N/\f.dp<=4/\ ∃t,atI [D.str t_in,.str t_equal] (s:Int)=some (.str t)/\fcD f= .tup [.str t,exD a,exD b]:=by
   match s,q2 with
   | 0,_=>exact⟨.inn a b,⟨wa,wb⟩,by simp only [Fc.dp];omega,t_in,rfl,rfl⟩
   | 1,_=>exact⟨.equ a b,⟨wa,wb⟩,by simp only [Fc.dp];omega,t_equal,rfl,rfl⟩
   | s+2,h=>exact absurd h (by omega)
  refine⟨f,h5,wf,df,P5,by omega,?_⟩
  rw [Wa (w:= .v (fcD f)) (h1:=h5) (by simp_all [z,ix_own,ht,e4,e5,hf]),finO_retv _ _ _ (by omega)]
 rw [zb (by
  have z:cmpD .lt (.v (.int (s:Int))) (.v (.int 2)) h3=some false:=by
   rw [cmp_lt];congr 1;exact decide_eq_false (by omega)
  simp_all [z])]
 by_cases q4:s<4
 ·have z:cmpD .lt (.v (.int (s:Int))) (.v (.int 4)) h3=some true:=by
   rw [cmp_lt];congr 1;exact decide_eq_true (by omega)
  obtain⟨f,wf,df,t,ht,hf⟩: ∃f:Fc,f.wf N/\f.dp<=4/\ ∃t,atI [D.str t_some,.str t_no] ((s:Int)-2)=some (.str t)/\fcD f= .tup [.str t,exD a]:=by
   match s,q2,q4 with
   | 0,h,_=>exact absurd h (by omega)
   | 1,h,_=>exact absurd h (by omega)
   | 2,_,_=>exact⟨.som a,wa,by simp only [Fc.dp];omega,t_some,rfl,rfl⟩
   | 3,_,_=>exact⟨.non a,wa,by simp only [Fc.dp];omega,t_no,rfl,rfl⟩
   | s+4,_,h=>exact absurd h (by omega)
  refine⟨f,h3,wf,df,P3,by omega,?_⟩
  rw [Wa (w:= .v (fcD f)) (h1:=h3) (by simp_all [z,int_sub,ix_own,ht,hf]),finO_retv _ _ _ (by omega)]
 rw [zb (by
  have z:cmpD .lt (.v (.int (s:Int))) (.v (.int 4)) h3=some false:=by
   rw [cmp_lt];congr 1;exact decide_eq_false (by omega)
  simp_all [z])]
 obtain⟨c,h4,hc,P4,l4,e4⟩:=Wd (k+5) P3 (show r<h3.length by omega) (show 0<3 by decide) (by decide)
 have e4:call prog (k+6) "_law_next" [.v (.ref r),.v (.int 3)] h3= .ok (.v (.int (c:Int))) h4:=e4
 obtain⟨u,hu,u0,ub⟩: ∃u:Nat,atI [D.int 5,.int 18,.int 100] (c:Int)=some (.int (u:Int))/\0<u/\u<1000:=by
  match c,hc with
  | 0,_=>exact⟨5,rfl,by decide,by decide⟩
  | 1,_=>exact⟨18,rfl,by decide,by decide⟩
  | 2,_=>exact⟨100,rfl,by decide,by decide⟩
  | c+3,h=>exact absurd h (by omega)
 obtain⟨j,h5,hj,P5,l5,e5⟩:=Wd (k+5) P4 (show r<h4.length by omega) u0 (by omega)
 have e5:call prog (k+6) "_law_next" [.v (.ref r),.v (.int (u:Int))] h4= .ok (.v (.int (j:Int))) h5:=e5
 obtain⟨t,ht,et⟩:=xaC s (by omega) hs
 refine⟨.cnt t j a,h5,⟨⟨ht,by omega⟩,wa⟩,by simp only [Fc.dp];omega,P5,by omega,?_⟩
 rw [za (τ1:=lfS r N (some (.v (.int (s:Int)))) (some (.v (exD a))) (some (.v (.int (j:Int))))) (h1:=h5) (by simp_all [ix_own,e4,hu,e5])]
 rw [Wa (w:= .v (fcD (.cnt t j a))) (h1:=h5) (by simp_all [int_sub,ix_own,et,fcD]),finO_retv _ _ _ (by omega)]
end M
namespace M
abbrev t_not:Tx:= [110,111,116]
abbrev t_and:Tx:= [97,110,100]
abbrev t_or:Tx:= [111,114]
inductive Sy where
 | fact (f:Fc)
 | neg (a:Sy)
 | conj (a b:Sy)
 | disj (a b:Sy)
def syD:Sy->D
 | .fact f=>fcD f
 | .neg a=> .tup [.str t_not,syD a]
 | .conj a b=> .tup [.str t_and,syD a,syD b]
 | .disj a b=> .tup [.str t_or,syD a,syD b]
def Sy.wf (N:List Tx):Sy->Prop
 | .fact f=>f.wf N
 | .neg a=>a.wf N
 | .conj a b=>a.wf N/\b.wf N
 | .disj a b=>a.wf N/\b.wf N
def Sy.dp:Sy->Nat
 | .fact f=>f.dp
 | .neg a=>a.dp+1
 | .conj a b=>max a.dp b.dp+1
 | .disj a b=>max a.dp b.dp+1
theorem ZS {N:List Tx}(f:Fc) (wf:f.wf N): ∃s ds,fcD f= .tup (.str s::ds)/\(s==t_not)=false/\(s==t_and)=false/\(s==t_or)=false:=by
 cases f with
 | inn a b=>exact⟨t_in,_,rfl,rfl,rfl,rfl⟩
 | equ a b=>exact⟨t_equal,_,rfl,rfl,rfl,rfl⟩
 | som a=>exact⟨t_some,_,rfl,rfl,rfl,rfl⟩
 | non a=>exact⟨t_no,_,rfl,rfl,rfl,rfl⟩
 | cnt s j a=>
  have: ∀s∈ [t_least,t_most,t_eleast,t_emost],(s==t_not)=false/\(s==t_and)=false/\(s==t_or)=false:=by decide
  exact⟨s,_,rfl,this s wf.1.1⟩
abbrev lsS (r d:Nat) (N:List Tx) (x3 x4:Option W):Sl:= [some (.v (.ref r)),some (.v (.int (d:Int))),some (.v (tsD N)),x3,x4]
theorem Xs (r:Nat) (N:List Tx) (hN:N.length<=100): ∀(d k:Nat) (h:AH),PH h->r<h.length-> ∃s h',Sy.wf N s/\s.dp<=d+4/\PH h'/\h'.length=h.length/\call prog (k+d+8) "_law_saying" [.v (.ref r),.v (.int (d:Int)),.v (tsD N)] h= .ok (.v (syD s)) h'
 | 0,k,h,P,hr=>by
  obtain⟨f,h1,wf,df,P1,l1,e1⟩:=Z8 k r N hN P hr
  refine⟨.fact f,h1,wf,by simpa [Sy.dp]using df,P1,l1,?_⟩
  rw [call_of (d:=d_law_saying) rfl _ _ _ rfl]
  have z:cmpD .gt (.v (.int ((0:Nat):Int))) (.v (.int 0)) h=some false:=rfl
  have z2:cmpD .lt (.v (.int 0)) (.v (.int 3)) h=some true:=rfl
  have e1:call prog (k+0+7) "_law_fact" [.v (.ref r),.v (tsD N)] h= .ok (.v (fcD f)) h1:=e1
  simp_all [d_law_saying,z,z2,e1,syD]
  rw [finO_retv _ _ _ l1]
 | d+1,k,h,P,hr=>by
  obtain⟨s,h1,hs,P1,l1,e1⟩:=Wd (k+d+7) P hr (show 0<6 by decide) (by decide)
  have e1:call prog (k+d+8) "_law_next" [.v (.ref r),.v (.int 6)] h= .ok (.v (.int (s:Int))) h1:=e1
  have z:cmpD .gt (.v (.int ((d+1:Nat):Int))) (.v (.int 0)) h=some true:=by
   rw [cmp_gt];congr 1;exact decide_eq_true (by omega)
  have zd:intOp .sub ((d+1:Nat):Int) 1=some (d:Int):=by rw [int_sub];congr 1;omega
  rw [show k+(d+1)+8=k+d+9 by omega,call_of (d:=d_law_saying) rfl _ _ _ rfl]
  simp only [d_law_saying]
  show ∃e h',_/\_/\_/\_/\finO _ (execs _ _ (lsS r (d+1) N none none) h)=_
  rw [za (τ1:=lsS r (d+1) N (some (.v (.int 0))) none) (h1:=h) rfl]
  rw [za (τ1:=lsS r (d+1) N (some (.v (.int (s:Int)))) none) (h1:=h1) (by simp_all [z,e1])]
  by_cases q3:s<3
  ·obtain⟨f,h2,wf,df,P2,l2,e2⟩:=Z8 (k+d+1) r N hN P1 (show r<h1.length by omega)
   have e2:call prog (k+d+8) "_law_fact" [.v (.ref r),.v (tsD N)] h1= .ok (.v (fcD f)) h2:=e2
   have z3:cmpD .lt (.v (.int (s:Int))) (.v (.int 3)) h1=some true:=by
    rw [cmp_lt];congr 1;exact decide_eq_true (by omega)
   refine⟨.fact f,h2,wf,by simp only [Sy.dp];omega,P2,by omega,?_⟩
   rw [Wa (w:= .v (syD (.fact f))) (h1:=h2) (by simp_all [z3,e2,syD]),finO_retv _ _ _ (by omega)]
  ·obtain⟨a,h2,wa,da,P2,l2,e2⟩:=Xs r N hN d k h1 P1 (by omega)
   rw [zb (by
    have z3:cmpD .lt (.v (.int (s:Int))) (.v (.int 3)) h1=some false:=by
     rw [cmp_lt];congr 1;exact decide_eq_false (by omega)
    simp_all [z3])]
   rw [za (τ1:=lsS r (d+1) N (some (.v (.int (s:Int)))) (some (.v (syD a)))) (h1:=h2) (by simp_all [zd,e2])]
   have z4:cmpD .eq (.v (.int (s:Int))) (.v (.int 3)) h2=some (decide (s=3)):=Wh s 3 h2
   by_cases q4:s=3
   ·refine⟨.neg a,h2,wa,by simp only [Sy.dp];omega,P2,by omega,?_⟩
    rw [Wa (w:= .v (syD (.neg a))) (h1:=h2) (by simp_all [z4,decide_eq_true q4,syD]),finO_retv _ _ _ (by omega)]
   ·obtain⟨b,h3,wb,db,P3,l3,e3⟩:=Xs r N hN d k h2 P2 (by omega)
    obtain⟨f,wf,df,t,ht,hf⟩: ∃f:Sy,f.wf N/\f.dp<=d+1+4/\ ∃t,atI [D.str t_and,.str t_or] ((s:Int)-4)=some (.str t)/\syD f= .tup [.str t,syD a,syD b]:=by
     have:s=4\/s=5:=by omega
     rcases this with rfl | rfl
     ·exact⟨.conj a b,⟨wa,wb⟩,by simp only [Sy.dp];omega,t_and,rfl,rfl⟩
     ·exact⟨.disj a b,⟨wa,wb⟩,by simp only [Sy.dp];omega,t_or,rfl,rfl⟩
    refine⟨f,h3,wf,df,P3,by omega,?_⟩
    rw [zb (by simp_all [z4,decide_eq_false q4])]
    rw [Wa (w:= .v (syD f)) (h1:=h3) (by simp_all [int_sub,ix_own,ht,zd,e3,hf]),finO_retv _ _ _ (by omega)]
theorem qS {F:Fx}{a b:E}{τ:Sl}{h:AH}:evalLp F (.range2 a b) τ h=evalIt F (.range2 a b) τ h:=rfl
end M
namespace M
def lvl:Ex->Nat
 | .plus _ _=>0
 | .less _ _=>0
 | .both _ _=>1
 | .joined _ _=>2
 | _=>3
def br (c:Bool) (o k:Nat) (t:Tx):Tx:=if c then o::(t++ [k])else t
def bT:Ex->Tx
 | .name t=>t
 | .same=>t_same
 | .all=>t_all
 | .none=>t_none
 | .turned a=>126::br (decide (lvl a<3)) 40 41 (bT a)
 | .closed a=>94::br (decide (lvl a<3)) 40 41 (bT a)
 | .plus a b=>br (decide (lvl a<0)) 40 41 (bT a)++(32::43::32::br (decide (lvl b<1)) 40 41 (bT b))
 | .less a b=>br (decide (lvl a<0)) 40 41 (bT a)++(32::45::32::br (decide (lvl b<1)) 40 41 (bT b))
 | .both a b=>br (decide (lvl a<1)) 40 41 (bT a)++(32::38::32::br (decide (lvl b<2)) 40 41 (bT b))
 | .joined a b=>br (decide (lvl a<2)) 40 41 (bT a)++(32::46::32::br (decide (lvl b<3)) 40 41 (bT b))
theorem jc (c:Bool) (o k:Nat) (t:Tx):(br c o k t).length<=t.length+2:=by unfold br;split<;>simp
theorem Zc (c:Bool) (o k:Nat) (t:Tx):t.length<=(br c o k t).length:=by unfold br;split<;>simp<;>omega
theorem zZ (e:Ex): ∃ds,exD e= .tup (.str (exS e)::ds):=by cases e<;>exact⟨_,rfl⟩
theorem XW (e:Ex):tgetD [([112,108,117,115],.int 1),([108,101,115,115],.int 1),([98,111,116,104],.int 2),([106,111,105,110,101,100],.int 3)] [.v (.str (exS e)),.v (.int 4)]=fun h=>okv (.int ((lvl e:Int)+1)) h:=by
 funext h;cases e<;>rfl
theorem QP (a l:Nat) (h:AH):cmpD .lt (.v (.int ((a:Int)+1))) (.v (.int ((l:Int)+1))) h=some (decide (a<l)):=by
 rw [cmp_lt];congr 1;rw [decide_eq_decide];omega
theorem Wr (a l:Nat) (h:AH):cmpD .lt (.v (.int (a:Int))) (.v (.int (l:Int))) h=some (decide (a<l)):=by
 rw [cmp_lt];congr 1;rw [decide_eq_decide];omega
theorem xP {m l:Nat}{e:Ex}{h:AH}(hl:(bT e).length<=900000) (ea:call prog m "shown_expression" [.v (exD e)] h= .ok (.v (.str (bT e))) h):
 call prog (m+1) "expression_of_rank" [.v (exD e),.v (.int ((l:Int)+1))] h= .ok (.v (.str (br (decide (lvl e<l)) 40 41 (bT e)))) h:=by
 obtain⟨ds,ed⟩:=zZ e
 rw [call_of (d:=d_expression_of_rank) rfl _ _ _ rfl]
 simp only [d_expression_of_rank]
 show finO _ (execs _ _ [some (.v (exD e)),some (.v (.int ((l:Int)+1))),none] h)=_
 rw [za (τ1:= [some (.v (exD e)),some (.v (.int ((l:Int)+1))),some (.v (.str (bT e)))]) (h1:=h) (by simp_all [ea])]
 have tg:eval ⟨call prog m,prog.cl,prog.con⟩ (.tget "EXPRESSION_RANKS" (.cons (.ix (.var 0) (.int 0)) (.cons (.con "ATOM_RANK") .nil))) [some (.v (exD e)),some (.v (.int ((l:Int)+1))),some (.v (.str (bT e)))] h= .ok (.v (.int ((lvl e:Int)+1))) h:=by
  rw [eval,show(⟨call prog m,prog.cl,prog.con⟩:Fx).con.lookup "EXPRESSION_RANKS" =some (.exc "" [([112,108,117,115],.int 1),([108,101,115,115],.int 1),([98,111,116,104],.int 2),([106,111,105,110,101,100],.int 3)])from rfl]
  have ew:evalWs ⟨call prog m,prog.cl,prog.con⟩ (.cons (.ix (.var 0) (.int 0)) (.cons (.con "ATOM_RANK") .nil)) [some (.v (exD e)),some (.v (.int ((l:Int)+1))),some (.v (.str (bT e)))] h= .ok [.v (.str (exS e)),.v (.int 4)] h:=by
   rw [ed]
   simp only [evalWs,eval,readS,getS,R.bind_ok,ix_tup,jf,R.of_some]
   rfl
  simp only [ew,R.bind_ok,XW]
 have tt:tstE ⟨call prog m,prog.cl,prog.con⟩ (.cmp .lt (.tget "EXPRESSION_RANKS" (.cons (.ix (.var 0) (.int 0)) (.cons (.con "ATOM_RANK") .nil))) (.var 1)) [some (.v (exD e)),some (.v (.int ((l:Int)+1))),some (.v (.str (bT e)))] h= .ok (decide (lvl e<l)) h:=by
  rw [tstE,eval,tg]
  simp only [R.bind_ok,eval,readS,getS,QP,R.of_some,tru_bl]
 cases q:decide (lvl e<l)with
 | true=>
  rw [q]at tt
  rw [jw tt (xf rfl (d:= .str (br true 40 41 (bT e))) ?_),finO_retv _ _ _ rfl]
  rw [eval]
  simp only [fmtP_c,fmtP_v,fmtP_nil,getS,Option.bind_some,fmtW_str,Option.map_some,fstrD_some]
  rw [if_pos (by rw [LIM_eq];simp;omega)]
  rfl
 | false=>
  rw [q]at tt
  rw [zb tt,Wa (w:= .v (.str (bT e))) (h1:=h) rfl,finO_retv _ _ _ rfl]
  rfl
theorem XE:prog.con.lookup "ATOM_RANK" =some (.int 4):=rfl
section
variable {m:Nat}{h:AH}{a b:Ex}
theorem qaG (s g:Tx) (hs:(s,g)∈ [(t_turned,([126]:Tx)),(t_closed,[94])]) (hl:(bT a).length<=800000) (ea: ∀l:Nat,call prog m "expression_of_rank" [.v (exD a),.v (.int ((l:Int)+1))] h= .ok (.v (.str (br (decide (lvl a<l)) 40 41 (bT a)))) h):
 call prog (m+1) "shown_expression" [.v (.tup [.str s,exD a])] h= .ok (.v (.str (g++br (decide (lvl a<3)) 40 41 (bT a)))) h:=by
 have e4:call prog m "expression_of_rank" [.v (exD a),.v (.int 4)] h= .ok (.v (.str (br (decide (lvl a<3)) 40 41 (bT a)))) h:=ea 3
 have b3:=jc (decide (lvl a<3)) 40 41 (bT a)
 simp only [List.mem_cons,List.not_mem_nil,or_false,Prod.mk.injEq]at hs
 rw [call_of (d:=d_shown_expression) rfl _ _ _ rfl]
 simp only [d_shown_expression]
 rcases hs with⟨rfl,rfl⟩ | ⟨rfl,rfl⟩
 ·show finO _ (execs _ _ [some (.v (.tup [.str t_turned,exD a])),none,none,none,none,none] h)=_
  rw [za (τ1:= [some (.v (.tup [.str t_turned,exD a])),some (.v (.str t_turned)),none,none,none,none]) (h1:=h) rfl,zb rfl,zb rfl]
  rw [za (τ1:= [some (.v (.tup [.str t_turned,exD a])),some (.v (.str t_turned)),some (.v (.str [126])),none,none,none]) (h1:=h) rfl]
  rw [jw rfl (xf rfl (d:= .str ([126]++br (decide (lvl a<3)) 40 41 (bT a))) ?_),finO_retv _ _ _ rfl]
  simp_all [ix_tup,Jc,XE,e4,bin_strs]
  rw [if_pos (by rw [LIM_eq];simp;omega)]
 ·show finO _ (execs _ _ [some (.v (.tup [.str t_closed,exD a])),none,none,none,none,none] h)=_
  rw [za (τ1:= [some (.v (.tup [.str t_closed,exD a])),some (.v (.str t_closed)),none,none,none,none]) (h1:=h) rfl,zb rfl,zb rfl]
  rw [za (τ1:= [some (.v (.tup [.str t_closed,exD a])),some (.v (.str t_closed)),some (.v (.str [94])),none,none,none]) (h1:=h) rfl]
  rw [jw rfl (xf rfl (d:= .str ([94]++br (decide (lvl a<3)) 40 41 (bT a))) ?_),finO_retv _ _ _ rfl]
  simp_all [ix_tup,Jc,XE,e4,bin_strs]
  rw [if_pos (by rw [LIM_eq];simp;omega)]
theorem Zq (x y z:D):atI [x,y,z] 2=some z:=rfl
theorem xaJ (s:Tx) (g l:Nat) (hs:(s,g,l)∈ [(t_plus,43,0),(t_less,45,0),(t_both,38,1),(t_joined,46,2)]) (hl:(bT a).length+(bT b).length<=800000)
 (ea: ∀l:Nat,call prog m "expression_of_rank" [.v (exD a),.v (.int ((l:Int)+1))] h= .ok (.v (.str (br (decide (lvl a<l)) 40 41 (bT a)))) h) (eb: ∀l:Nat,call prog m "expression_of_rank" [.v (exD b),.v (.int ((l:Int)+1))] h= .ok (.v (.str (br (decide (lvl b<l)) 40 41 (bT b)))) h):
 call prog (m+1) "shown_expression" [.v (.tup [.str s,exD a,exD b])] h= .ok (.v (.str (br (decide (lvl a<l)) 40 41 (bT a)++(32::g::32::br (decide (lvl b<l+1)) 40 41 (bT b))))) h:=by
 have e1:=ea l
 have e2:=eb (l+1)
 have b1:=jc (decide (lvl a<l)) 40 41 (bT a)
 have b2:=jc (decide (lvl b<l+1)) 40 41 (bT b)
 have ei:((l:Int)+1+1)=(((l+1:Nat):Int)+1):=by omega
 have st: ∀(st:Tx),(st,g,l)∈ [(t_plus,43,0),(t_less,45,0),(t_both,38,1),(t_joined,46,2)] →
  execs ⟨call prog m,prog.cl,prog.con⟩ d_shown_expression.body [some (.v (.tup [.str st,exD a,exD b])),none,none,none,none,none] h=
  execs ⟨call prog m,prog.cl,prog.con⟩ (.cons (.setf 4 (.call "expression_of_rank" (.cons (.ix (.var 0) (.int 1)) (.cons (.var 3) .nil)))) (.cons (.setf 5 (.call "expression_of_rank" (.cons (.ix (.var 0) (.int 2)) (.cons (.bin .add (.var 3) (.int 1)) .nil)))) (.cons (.ret (.fstr [.inr 4,.inl [32],.inr 2,.inl [32],.inr 5])) .nil)))
   [some (.v (.tup [.str st,exD a,exD b])),some (.v (.str st)),some (.v (.str [g])),some (.v (.int ((l:Int)+1))),none,none] h:=by
  intro st hs
  simp only [List.mem_cons,List.not_mem_nil,or_false,Prod.mk.injEq]at hs
  simp only [d_shown_expression]
  rcases hs with⟨rfl,rfl,rfl⟩ | ⟨rfl,rfl,rfl⟩ | ⟨rfl,rfl,rfl⟩ | ⟨rfl,rfl,rfl⟩
  ·rw [za (τ1:= [some (.v (.tup [.str t_plus,exD a,exD b])),some (.v (.str t_plus)),none,none,none,none]) (h1:=h) rfl,zb rfl,zb rfl,za (τ1:= [some (.v (.tup [.str t_plus,exD a,exD b])),some (.v (.str t_plus)),some (.v (.str [43])),none,none,none]) (h1:=h) rfl,zb rfl,za (h1:=h) rfl];rfl
  ·rw [za (τ1:= [some (.v (.tup [.str t_less,exD a,exD b])),some (.v (.str t_less)),none,none,none,none]) (h1:=h) rfl,zb rfl,zb rfl,za (τ1:= [some (.v (.tup [.str t_less,exD a,exD b])),some (.v (.str t_less)),some (.v (.str [45])),none,none,none]) (h1:=h) rfl,zb rfl,za (h1:=h) rfl];rfl
  ·rw [za (τ1:= [some (.v (.tup [.str t_both,exD a,exD b])),some (.v (.str t_both)),none,none,none,none]) (h1:=h) rfl,zb rfl,zb rfl,za (τ1:= [some (.v (.tup [.str t_both,exD a,exD b])),some (.v (.str t_both)),some (.v (.str [38])),none,none,none]) (h1:=h) rfl,zb rfl,za (h1:=h) rfl];rfl
  ·rw [za (τ1:= [some (.v (.tup [.str t_joined,exD a,exD b])),some (.v (.str t_joined)),none,none,none,none]) (h1:=h) rfl,zb rfl,zb rfl,za (τ1:= [some (.v (.tup [.str t_joined,exD a,exD b])),some (.v (.str t_joined)),some (.v (.str [46])),none,none,none]) (h1:=h) rfl,zb rfl,za (h1:=h) rfl];rfl
 rw [call_of (d:=d_shown_expression) rfl _ _ _ rfl]
 show finO _ (execs _ _ [some (.v (.tup [.str s,exD a,exD b])),none,none,none,none,none] h)=_
 rw [st s hs]
 rw [za (τ1:= [some (.v (.tup [.str s,exD a,exD b])),some (.v (.str s)),some (.v (.str [g])),some (.v (.int ((l:Int)+1))),some (.v (.str (br (decide (lvl a<l)) 40 41 (bT a)))),none]) (h1:=h) (by simp_all [ix_tup,Jc,e1])]
 rw [za (τ1:= [some (.v (.tup [.str s,exD a,exD b])),some (.v (.str s)),some (.v (.str [g])),some (.v (.int ((l:Int)+1))),some (.v (.str (br (decide (lvl a<l)) 40 41 (bT a)))),some (.v (.str (br (decide (lvl b<l+1)) 40 41 (bT b))))]) (h1:=h) (by simp_all [ix_tup,Zq,int_add,ei,e2])]
 rw [Wa (h1:=h) (xf rfl (d:= .str (br (decide (lvl a<l)) 40 41 (bT a)++(32::g::32::br (decide (lvl b<l+1)) 40 41 (bT b)))) ?_),finO_retv _ _ _ rfl]
 rw [eval]
 simp only [fmtP_c,fmtP_v,fmtP_nil,getS,Option.bind_some,fmtW_str,Option.map_some,fstrD_some]
 rw [if_pos (by rw [LIM_eq];simp;omega)]
 simp
end
theorem xg (h:AH): ∀(e:Ex),(bT e).length<=700000-> ∀m,2*e.dp<=m->call prog (m+1) "shown_expression" [.v (exD e)] h= .ok (.v (.str (bT e))) h:=by
 have one: ∀(f:Ex->Ex) (s g:Tx),(s,g)∈ [(t_turned,([126]:Tx)),(t_closed,[94])]-> ∀a,(∀ m,2*a.dp<=m->call prog (m+1) "shown_expression" [.v (exD a)] h= .ok (.v (.str (bT a))) h)->(bT a).length<=700000-> ∀m,2*(a.dp+1)<=m →
  call prog (m+1) "shown_expression" [.v (.tup [.str s,exD a])] h= .ok (.v (.str (g++br (decide (lvl a<3)) 40 41 (bT a)))) h:=fun f s g hs a ih hl m hm=>by
  obtain⟨k,rfl⟩: ∃k,m=k+2:=⟨m-2,by omega⟩
  exact qaG s g hs (by omega) fun l=>xP (by omega) (ih k (by omega))
 have two: ∀(s:Tx) (g l:Nat),(s,g,l)∈ [(t_plus,43,0),(t_less,45,0),(t_both,38,1),(t_joined,46,2)]-> ∀a b,(∀ m,2*a.dp<=m->call prog (m+1) "shown_expression" [.v (exD a)] h= .ok (.v (.str (bT a))) h)->(∀ m,2*b.dp<=m->call prog (m+1) "shown_expression" [.v (exD b)] h= .ok (.v (.str (bT b))) h) →
  (br (decide (lvl a<l)) 40 41 (bT a)++(32::g::32::br (decide (lvl b<l+1)) 40 41 (bT b))).length<=700000-> ∀m,2*(max a.dp b.dp+1)<=m->call prog (m+1) "shown_expression" [.v (.tup [.str s,exD a,exD b])] h= .ok (.v (.str (br (decide (lvl a<l)) 40 41 (bT a)++(32::g::32::br (decide (lvl b<l+1)) 40 41 (bT b))))) h:=fun s g l hs a b ia ib hl m hm=>by
  obtain⟨k,rfl⟩: ∃k,m=k+2:=⟨m-2,by omega⟩
  have b1:=Zc (decide (lvl a<l)) 40 41 (bT a)
  have b2:=Zc (decide (lvl b<l+1)) 40 41 (bT b)
  simp only [List.length_append,List.length_cons]at hl
  exact xaJ s g l hs (by omega) (fun l=>xP (by omega) (ia k (by omega))) fun l=>xP (by omega) (ib k (by omega))
 intro e
 induction e with
 | name t=>intro hl m hm;rw [call_of (d:=d_shown_expression) rfl _ _ _ rfl,show execs _ _ _ h= .ret (.v (.str t)) h from rfl,finO_retv _ _ _ rfl];rfl
 | same=>intro hl m hm;rw [call_of (d:=d_shown_expression) rfl _ _ _ rfl,show execs _ _ _ h= .ret (.v (.str t_same)) h from rfl,finO_retv _ _ _ rfl];rfl
 | all=>intro hl m hm;rw [call_of (d:=d_shown_expression) rfl _ _ _ rfl,show execs _ _ _ h= .ret (.v (.str t_all)) h from rfl,finO_retv _ _ _ rfl];rfl
 | none=>intro hl m hm;rw [call_of (d:=d_shown_expression) rfl _ _ _ rfl,show execs _ _ _ h= .ret (.v (.str t_none)) h from rfl,finO_retv _ _ _ rfl];rfl
 | turned a ih=>
  intro hl
  have b3:=Zc (decide (lvl a<3)) 40 41 (bT a)
  simp only [bT,List.length_cons]at hl
  exact one .turned t_turned [126] (by decide) a (ih (by omega)) (by omega)
 | closed a ih=>
  intro hl
  have b3:=Zc (decide (lvl a<3)) 40 41 (bT a)
  simp only [bT,List.length_cons]at hl
  exact one .closed t_closed [94] (by decide) a (ih (by omega)) (by omega)
 | plus a b ia ib=>
  intro hl
  have b1:=Zc (decide (lvl a<0)) 40 41 (bT a)
  have b2:=Zc (decide (lvl b<1)) 40 41 (bT b)
  have hl2:=hl
  simp only [bT,List.length_append,List.length_cons]at hl2
  exact two t_plus 43 0 (by decide) a b (ia (by omega)) (ib (by omega)) hl
 | less a b ia ib=>
  intro hl
  have b1:=Zc (decide (lvl a<0)) 40 41 (bT a)
  have b2:=Zc (decide (lvl b<1)) 40 41 (bT b)
  have hl2:=hl
  simp only [bT,List.length_append,List.length_cons]at hl2
  exact two t_less 45 0 (by decide) a b (ia (by omega)) (ib (by omega)) hl
 | both a b ia ib=>
  intro hl
  have b1:=Zc (decide (lvl a<1)) 40 41 (bT a)
  have b2:=Zc (decide (lvl b<2)) 40 41 (bT b)
  have hl2:=hl
  simp only [bT,List.length_append,List.length_cons]at hl2
  exact two t_both 38 1 (by decide) a b (ia (by omega)) (ib (by omega)) hl
 | joined a b ia ib=>
  intro hl
  have b1:=Zc (decide (lvl a<2)) 40 41 (bT a)
  have b2:=Zc (decide (lvl b<3)) 40 41 (bT b)
  have hl2:=hl
  simp only [bT,List.length_append,List.length_cons]at hl2
  exact two t_joined 46 2 (by decide) a b (ia (by omega)) (ib (by omega)) hl
end M
namespace M
theorem wt (m:Nat) (h:AH) (e:Ex):call prog (m+1) "_law_level" [.v (exD e)] h= .ok (.v (.int (lvl e:Nat))) h:=by
 cases e with
 | name t=>rw [call_of (d:=d_law_level) rfl _ _ _ rfl,show execs _ _ _ h= .ret (.v (.int 3)) h from rfl,finO_retv _ _ _ rfl];rfl
 | same=>rw [call_of (d:=d_law_level) rfl _ _ _ rfl,show execs _ _ _ h= .ret (.v (.int 3)) h from rfl,finO_retv _ _ _ rfl];rfl
 | all=>rw [call_of (d:=d_law_level) rfl _ _ _ rfl,show execs _ _ _ h= .ret (.v (.int 3)) h from rfl,finO_retv _ _ _ rfl];rfl
 | none=>rw [call_of (d:=d_law_level) rfl _ _ _ rfl,show execs _ _ _ h= .ret (.v (.int 3)) h from rfl,finO_retv _ _ _ rfl];rfl
 | turned a=>rw [call_of (d:=d_law_level) rfl _ _ _ rfl,show execs _ _ _ h= .ret (.v (.int 3)) h from rfl,finO_retv _ _ _ rfl];rfl
 | closed a=>rw [call_of (d:=d_law_level) rfl _ _ _ rfl,show execs _ _ _ h= .ret (.v (.int 3)) h from rfl,finO_retv _ _ _ rfl];rfl
 | plus a b=>rw [call_of (d:=d_law_level) rfl _ _ _ rfl,show execs _ _ _ h= .ret (.v (.int 0)) h from rfl,finO_retv _ _ _ rfl];rfl
 | less a b=>rw [call_of (d:=d_law_level) rfl _ _ _ rfl,show execs _ _ _ h= .ret (.v (.int 0)) h from rfl,finO_retv _ _ _ rfl];rfl
 | both a b=>rw [call_of (d:=d_law_level) rfl _ _ _ rfl,show execs _ _ _ h= .ret (.v (.int 1)) h from rfl,finO_retv _ _ _ rfl];rfl
 | joined a b=>rw [call_of (d:=d_law_level) rfl _ _ _ rfl,show execs _ _ _ h= .ret (.v (.int 2)) h from rfl,finO_retv _ _ _ rfl];rfl
abbrev tS (d:D) (l:Nat) (x2 x3 x4 x5:Option W):Sl:= [some (.v d),some (.v (.int (l:Int))),x2,x3,x4,x5]
def tEnd:Ss:= .cons (.iff (.cmp .lt (.call "_law_level" (.cons (.var 0) .nil)) (.var 1)) (.cons (.ret (.bin .add (.bin .add (.str [40]) (.var 3)) (.str [41]))) .nil) .nil) (.cons (.ret (.var 3)) .nil)
def tTwo:Ss:= .cons (.setf 4 (.dlit [([112,108,117,115],[32,43,32]),([108,101,115,115],[32,45,32]),([98,111,116,104],[32,38,32]),([106,111,105,110,101,100],[32,46,32])] 2)) (.cons (.setf 5 (.call "_law_level" (.cons (.var 0) .nil))) (.cons (.setf 3 (.bin .add (.bin .add (.call "_law_text" (.cons (.ix (.var 0) (.int 1)) (.cons (.var 5) .nil))) (.var 4)) (.call "_law_text" (.cons (.ix (.var 0) (.int 2)) (.cons (.bin .add (.var 5) (.int 1)) .nil))))) .nil))
def tLv:Ss:= .cons (.iff (.cmp .lt (.call "_law_level" (.cons (.var 0) .nil)) (.int 3)) tTwo .nil) tEnd
section
variable {m l:Nat}{h:AH}{a b e:Ex}{x2 x3 x4 x5:Option W}{t:Tx}
theorem W4 (ht:t.length<=900000):execs ⟨call prog (m+1),prog.cl,prog.con⟩ tEnd (tS (exD e) l x2 (some (.v (.str t))) x4 x5) h= .ret (.v (.str (br (decide (lvl e<l)) 40 41 t))) h:=by
 have tt:tstE ⟨call prog (m+1),prog.cl,prog.con⟩ (.cmp .lt (.call "_law_level" (.cons (.var 0) .nil)) (.var 1)) (tS (exD e) l x2 (some (.v (.str t))) x4 x5) h= .ok (decide (lvl e<l)) h:=by
  simp_all [wt,Wr]
 unfold tEnd
 cases q:decide (lvl e<l)with
 | true=>
  rw [q]at tt
  refine jw tt (xf rfl ?_)
  simp_all [bin_strs]
  rw [if_pos (by rw [LIM_eq];simp;omega)]
  simp only [R.bind_ok,bin_strs]
  rw [if_pos (by rw [LIM_eq];simp;omega)]
  rfl
 | false=>
  rw [q]at tt
  rw [zb tt]
  rfl
theorem jap (he:lvl e=3) (ht:t.length<=900000):execs ⟨call prog (m+1),prog.cl,prog.con⟩ tLv (tS (exD e) l x2 (some (.v (.str t))) x4 x5) h= .ret (.v (.str (br (decide (lvl e<l)) 40 41 t))) h:=by
 unfold tLv
 rw [zb,W4 ht]
 have:=Wr (lvl e) 3 h
 rw [he]at this
 have z:cmpD .lt (.v (.int (3:Nat))) (.v (.int 3)) h=some false:=this
 simp_all [wt,he,z]
theorem qaH (s:Tx) (g k:Nat) (he:lvl e=k) (ed:exD e= .tup [.str s,exD a,exD b]) (hs:(s,g,k)∈ [(t_plus,43,0),(t_less,45,0),(t_both,38,1),(t_joined,46,2)]) (hl:(bT a).length+(bT b).length<=800000)
 (ea: ∀l:Nat,call prog (m+1) "_law_text" [.v (exD a),.v (.int (l:Int))] h= .ok (.v (.str (br (decide (lvl a<l)) 40 41 (bT a)))) h) (eb: ∀l:Nat,call prog (m+1) "_law_text" [.v (exD b),.v (.int (l:Int))] h= .ok (.v (.str (br (decide (lvl b<l)) 40 41 (bT b)))) h):
 execs ⟨call prog (m+1),prog.cl,prog.con⟩ tLv (tS (exD e) l (some (.v (.str s))) x3 x4 x5) h= .ret (.v (.str (br (decide (lvl e<l)) 40 41 (br (decide (lvl a<k)) 40 41 (bT a)++(32::g::32::br (decide (lvl b<k+1)) 40 41 (bT b)))))) h:=by
 have b1:=jc (decide (lvl a<k)) 40 41 (bT a)
 have b2:=jc (decide (lvl b<k+1)) 40 41 (bT b)
 have hk:k<3:=by
  simp only [List.mem_cons,List.not_mem_nil,or_false,Prod.mk.injEq]at hs
  omega
 have dl: ∀h,dlitD [([112,108,117,115],[32,43,32]),([108,101,115,115],[32,45,32]),([98,111,116,104],[32,38,32]),([106,111,105,110,101,100],[32,46,32])] (some (.v (.str s))) h=okv (.str [32,g,32]) h:=by
  simp only [List.mem_cons,List.not_mem_nil,or_false,Prod.mk.injEq]at hs
  rcases hs with⟨rfl,rfl,rfl⟩ | ⟨rfl,rfl,rfl⟩ | ⟨rfl,rfl,rfl⟩ | ⟨rfl,rfl,rfl⟩<;>exact fun _=>rfl
 have e1:=ea k
 have e2:=eb (k+1)
 have ei:((k:Int)+1)=((k+1:Nat):Int):=by omega
 unfold tLv
 rw [za (τ1:=tS (exD e) l (some (.v (.str s))) (some (.v (.str (br (decide (lvl a<k)) 40 41 (bT a)++(32::g::32::br (decide (lvl b<k+1)) 40 41 (bT b)))))) (some (.v (.str [32,g,32]))) (some (.v (.int (k:Int))))) (h1:=h),W4 (by simp;omega)]
 rw [if_t (h1:=h)]
 ·unfold tTwo
  rw [za (τ1:=tS (exD e) l (some (.v (.str s))) x3 (some (.v (.str [32,g,32]))) x5) (h1:=h) (by simp_all [dl])]
  rw [za (τ1:=tS (exD e) l (some (.v (.str s))) x3 (some (.v (.str [32,g,32]))) (some (.v (.int (k:Int))))) (h1:=h) (by simp_all [wt,he])]
  rw [za (τ1:=tS (exD e) l (some (.v (.str s))) (some (.v (.str (br (decide (lvl a<k)) 40 41 (bT a)++(32::g::32::br (decide (lvl b<k+1)) 40 41 (bT b)))))) (some (.v (.str [32,g,32]))) (some (.v (.int (k:Int))))) (h1:=h)]
  ·rfl
  ·simp_all [ed,ix_tup,Jc,Zq,e1,bin_strs]
   rw [if_pos (by rw [LIM_eq];simp;omega)]
   simp only [R.bind_ok,int_add,R.of_some,ei,List.map_cons,List.map_nil,W.arg_v,e2,bin_strs]
   rw [if_pos (by rw [LIM_eq];simp;omega)]
   simp only [R.toO_ok,W.d_v,List.append_assoc,List.cons_append,List.nil_append]
 ·have:=Wr (lvl e) 3 h
  rw [he,decide_eq_true hk]at this
  have z:cmpD .lt (.v (.int (k:Int))) (.v (.int 3)) h=some true:=this
  simp_all [wt,he,z]
end
theorem zaH (i:Nat) (c:Nat) (h:AH) (hc:(i,c)∈ [(0,126),(1,94)]):ixD (.v (.str [126,94])) (.v (.int (i:Int))) h=some (.str [c]):=by
 rw [xE,if_pos (by rw [LIM_eq];decide)]
 simp only [List.mem_cons,List.not_mem_nil,or_false,Prod.mk.injEq]at hc
 rcases hc with⟨rfl,rfl⟩ | ⟨rfl,rfl⟩<;>rfl
theorem Q9 (h:AH): ∀(e:Ex),(bT e).length<=700000-> ∀m,e.dp+1<=m-> ∀l:Nat,call prog (m+1) "_law_text" [.v (exD e),.v (.int (l:Int))] h= .ok (.v (.str (br (decide (lvl e<l)) 40 41 (bT e)))) h:=by
 have two: ∀(e a b:Ex) (s:Tx) (g k:Nat),lvl e=k->exD e= .tup [.str s,exD a,exD b]->bT e=br (decide (lvl a<k)) 40 41 (bT a)++(32::g::32::br (decide (lvl b<k+1)) 40 41 (bT b))->e.dp=max a.dp b.dp+1->(s,g,k)∈ [(t_plus,43,0),(t_less,45,0),(t_both,38,1),(t_joined,46,2)] →
  ((bT a).length<=700000-> ∀m,a.dp+1<=m-> ∀l:Nat,call prog (m+1) "_law_text" [.v (exD a),.v (.int (l:Int))] h= .ok (.v (.str (br (decide (lvl a<l)) 40 41 (bT a)))) h)->((bT b).length<=700000-> ∀m,b.dp+1<=m-> ∀l:Nat,call prog (m+1) "_law_text" [.v (exD b),.v (.int (l:Int))] h= .ok (.v (.str (br (decide (lvl b<l)) 40 41 (bT b)))) h) →
  (bT e).length<=700000-> ∀m,e.dp+1<=m-> ∀l:Nat,call prog (m+1) "_law_text" [.v (exD e),.v (.int (l:Int))] h= .ok (.v (.str (br (decide (lvl e<l)) 40 41 (bT e)))) h:=fun e a b s g k he ed eb hd hs ia ib hl m hm l=>by
  have b1:=Zc (decide (lvl a<k)) 40 41 (bT a)
  have b2:=Zc (decide (lvl b<k+1)) 40 41 (bT b)
  rw [eb]at hl
  simp only [List.length_append,List.length_cons]at hl
  obtain⟨n,rfl⟩: ∃n,m=n+1:=⟨m-1,by omega⟩
  have tw:=qaH (m:=n) (l:=l) (h:=h) (x3:=some (.v (.str s))) (x4:=none) (x5:=none) s g k he ed hs (by omega) (ia (by omega) n (by omega)) (ib (by omega) n (by omega))
  rw [call_of (d:=d_law_text) rfl _ _ _ rfl]
  have st:execs ⟨call prog (n+1),prog.cl,prog.con⟩ d_law_text.body (tS (exD e) l none none none none) h=execs ⟨call prog (n+1),prog.cl,prog.con⟩ tLv (tS (exD e) l (some (.v (.str s))) (some (.v (.str s))) none none) h:=by
   rw [ed]
   simp only [d_law_text]
   simp only [List.mem_cons,List.not_mem_nil,or_false,Prod.mk.injEq]at hs
   rcases hs with⟨rfl,_,_⟩ | ⟨rfl,_,_⟩ | ⟨rfl,_,_⟩ | ⟨rfl,_,_⟩
   ·rw [za (τ1:=tS (.tup [.str t_plus,exD a,exD b]) l (some (.v (.str t_plus))) none none none) (h1:=h) rfl,za (τ1:=tS (.tup [.str t_plus,exD a,exD b]) l (some (.v (.str t_plus))) (some (.v (.str t_plus))) none none) (h1:=h) rfl,zb rfl,zb rfl];rfl
   ·rw [za (τ1:=tS (.tup [.str t_less,exD a,exD b]) l (some (.v (.str t_less))) none none none) (h1:=h) rfl,za (τ1:=tS (.tup [.str t_less,exD a,exD b]) l (some (.v (.str t_less))) (some (.v (.str t_less))) none none) (h1:=h) rfl,zb rfl,zb rfl];rfl
   ·rw [za (τ1:=tS (.tup [.str t_both,exD a,exD b]) l (some (.v (.str t_both))) none none none) (h1:=h) rfl,za (τ1:=tS (.tup [.str t_both,exD a,exD b]) l (some (.v (.str t_both))) (some (.v (.str t_both))) none none) (h1:=h) rfl,zb rfl,zb rfl];rfl
   ·rw [za (τ1:=tS (.tup [.str t_joined,exD a,exD b]) l (some (.v (.str t_joined))) none none none) (h1:=h) rfl,za (τ1:=tS (.tup [.str t_joined,exD a,exD b]) l (some (.v (.str t_joined))) (some (.v (.str t_joined))) none none) (h1:=h) rfl,zb rfl,zb rfl];rfl
  show finO _ (execs _ _ (tS (exD e) l none none none none) h)=_
  rw [st,tw,finO_retv _ _ _ rfl,eb]
 have leaf: ∀(e:Ex) (s t:Tx),lvl e=3->bT e=t->t.length<=700000->(∀ m (l:Nat),execs ⟨call prog (m+1),prog.cl,prog.con⟩ d_law_text.body (tS (exD e) l none none none none) h=execs ⟨call prog (m+1),prog.cl,prog.con⟩ tLv (tS (exD e) l (some (.v (.str s))) (some (.v (.str t))) none none) h) →
  ∀m,e.dp+1<=m-> ∀l:Nat,call prog (m+1) "_law_text" [.v (exD e),.v (.int (l:Int))] h= .ok (.v (.str (br (decide (lvl e<l)) 40 41 (bT e)))) h:=fun e s t he et hl st m hm l=>by
  obtain⟨n,rfl⟩: ∃n,m=n+1:=⟨m-1,by omega⟩
  rw [call_of (d:=d_law_text) rfl _ _ _ rfl]
  show finO _ (execs _ _ (tS (exD e) l none none none none) h)=_
  rw [st n l,jap he (by omega),finO_retv _ _ _ rfl,et]
 intro e
 induction e with
 | name t=>intro hl;exact leaf _ t_name t rfl rfl hl fun m l=>by simp only [d_law_text];rw [za (τ1:=tS (.tup [.str t_name,.str t]) l (some (.v (.str t_name))) none none none) (h1:=h) rfl,za (τ1:=tS (.tup [.str t_name,.str t]) l (some (.v (.str t_name))) (some (.v (.str t_name))) none none) (h1:=h) rfl,za (τ1:=tS (.tup [.str t_name,.str t]) l (some (.v (.str t_name))) (some (.v (.str t))) none none) (h1:=h) rfl,zb rfl];rfl
 | same=>intro hl;exact leaf _ t_same t_same rfl rfl hl fun m l=>by simp only [d_law_text];rw [za (τ1:=tS (.tup [.str t_same]) l (some (.v (.str t_same))) none none none) (h1:=h) rfl,za (τ1:=tS (.tup [.str t_same]) l (some (.v (.str t_same))) (some (.v (.str t_same))) none none) (h1:=h) rfl,zb rfl,zb rfl];rfl
 | all=>intro hl;exact leaf _ t_all t_all rfl rfl hl fun m l=>by simp only [d_law_text];rw [za (τ1:=tS (.tup [.str t_all]) l (some (.v (.str t_all))) none none none) (h1:=h) rfl,za (τ1:=tS (.tup [.str t_all]) l (some (.v (.str t_all))) (some (.v (.str t_all))) none none) (h1:=h) rfl,zb rfl,zb rfl];rfl
 | none=>intro hl;exact leaf _ t_none t_none rfl rfl hl fun m l=>by simp only [d_law_text];rw [za (τ1:=tS (.tup [.str t_none]) l (some (.v (.str t_none))) none none none) (h1:=h) rfl,za (τ1:=tS (.tup [.str t_none]) l (some (.v (.str t_none))) (some (.v (.str t_none))) none none) (h1:=h) rfl,zb rfl,zb rfl];rfl
 | turned a ih=>
  intro hl m hm l
  have b3:=Zc (decide (lvl a<3)) 40 41 (bT a)
  have hl2:=hl
  simp only [bT,List.length_cons]at hl2
  simp only [Ex.dp]at hm
  obtain⟨n,rfl⟩: ∃n,m=n+1:=⟨m-1,by omega⟩
  have ea:call prog (n+1) "_law_text" [.v (exD a),.v (.int 3)] h= .ok (.v (.str (br (decide (lvl a<3)) 40 41 (bT a)))) h:=ih (by omega) n (by omega) 3
  rw [call_of (d:=d_law_text) rfl _ _ _ rfl]
  simp only [d_law_text]
  show finO _ (execs _ _ (tS (exD (.turned a)) l none none none none) h)=_
  rw [za (τ1:=tS (exD (.turned a)) l (some (.v (.str t_turned))) none none none) (h1:=h) rfl,za (τ1:=tS (exD (.turned a)) l (some (.v (.str t_turned))) (some (.v (.str t_turned))) none none) (h1:=h) rfl,zb rfl]
  rw [za (τ1:=tS (exD (.turned a)) l (some (.v (.str t_turned))) (some (.v (.str (bT (.turned a))))) none none) (h1:=h)]
  ·have:=jap (m:=n) (l:=l) (h:=h) (e:= .turned a) (x2:=some (.v (.str t_turned))) (x4:=none) (x5:=none) (t:=bT (.turned a)) rfl (by omega)
   simp only [tLv,tTwo,tEnd]at this
   rw [this,finO_retv _ _ _ rfl]
  ·rw [if_t (h1:=h) rfl]
   have z:eval ⟨call prog (n+1),prog.cl,prog.con⟩ (.bi .int (.cons (.cmp .eq (.var 2) (.str [99,108,111,115,101,100])) .nil)) (tS (exD (.turned a)) l (some (.v (.str t_turned))) (some (.v (.str t_turned))) none none) h= .ok (.v (.int (0:Nat))) h:=rfl
   have z2:eval ⟨call prog (n+1),prog.cl,prog.con⟩ (.ix (.str [126,94]) (.bi .int (.cons (.cmp .eq (.var 2) (.str [99,108,111,115,101,100])) .nil))) (tS (exD (.turned a)) l (some (.v (.str t_turned))) (some (.v (.str t_turned))) none none) h= .ok (.v (.str [126])) h:=by
    rw [eval,show eval ⟨call prog (n+1),prog.cl,prog.con⟩ (.str [126,94]) (tS (exD (.turned a)) l (some (.v (.str t_turned))) (some (.v (.str t_turned))) none none) h= .ok (.v (.str [126,94])) h from rfl,R.bind_ok,z,R.bind_ok,zaH 0 126 h (by decide)];rfl
   rw [za (τ1:=tS (exD (.turned a)) l (some (.v (.str t_turned))) (some (.v (.str (bT (.turned a))))) none none) (h1:=h)]
   ·rfl
   ·rw [exec,eval,z2]
    simp only [exD]
    simp_all [ix_tup,Jc,ea,bin_strs]
    rw [if_pos (by rw [LIM_eq];simp;have:=jc (decide (lvl a<3)) 40 41 (bT a);omega)]
    rfl
 | closed a ih=>
  intro hl m hm l
  have b3:=Zc (decide (lvl a<3)) 40 41 (bT a)
  have hl2:=hl
  simp only [bT,List.length_cons]at hl2
  simp only [Ex.dp]at hm
  obtain⟨n,rfl⟩: ∃n,m=n+1:=⟨m-1,by omega⟩
  have ea:call prog (n+1) "_law_text" [.v (exD a),.v (.int 3)] h= .ok (.v (.str (br (decide (lvl a<3)) 40 41 (bT a)))) h:=ih (by omega) n (by omega) 3
  rw [call_of (d:=d_law_text) rfl _ _ _ rfl]
  simp only [d_law_text]
  show finO _ (execs _ _ (tS (exD (.closed a)) l none none none none) h)=_
  rw [za (τ1:=tS (exD (.closed a)) l (some (.v (.str t_closed))) none none none) (h1:=h) rfl,za (τ1:=tS (exD (.closed a)) l (some (.v (.str t_closed))) (some (.v (.str t_closed))) none none) (h1:=h) rfl,zb rfl]
  rw [za (τ1:=tS (exD (.closed a)) l (some (.v (.str t_closed))) (some (.v (.str (bT (.closed a))))) none none) (h1:=h)]
  ·have:=jap (m:=n) (l:=l) (h:=h) (e:= .closed a) (x2:=some (.v (.str t_closed))) (x4:=none) (x5:=none) (t:=bT (.closed a)) rfl (by omega)
   simp only [tLv,tTwo,tEnd]at this
   rw [this,finO_retv _ _ _ rfl]
  ·rw [if_t (h1:=h) rfl]
   have z:eval ⟨call prog (n+1),prog.cl,prog.con⟩ (.bi .int (.cons (.cmp .eq (.var 2) (.str [99,108,111,115,101,100])) .nil)) (tS (exD (.closed a)) l (some (.v (.str t_closed))) (some (.v (.str t_closed))) none none) h= .ok (.v (.int (1:Nat))) h:=rfl
   have z2:eval ⟨call prog (n+1),prog.cl,prog.con⟩ (.ix (.str [126,94]) (.bi .int (.cons (.cmp .eq (.var 2) (.str [99,108,111,115,101,100])) .nil))) (tS (exD (.closed a)) l (some (.v (.str t_closed))) (some (.v (.str t_closed))) none none) h= .ok (.v (.str [94])) h:=by
    rw [eval,show eval ⟨call prog (n+1),prog.cl,prog.con⟩ (.str [126,94]) (tS (exD (.closed a)) l (some (.v (.str t_closed))) (some (.v (.str t_closed))) none none) h= .ok (.v (.str [126,94])) h from rfl,R.bind_ok,z,R.bind_ok,zaH 1 94 h (by decide)];rfl
   rw [za (τ1:=tS (exD (.closed a)) l (some (.v (.str t_closed))) (some (.v (.str (bT (.closed a))))) none none) (h1:=h)]
   ·rfl
   ·rw [exec,eval,z2]
    simp only [exD]
    simp_all [ix_tup,Jc,ea,bin_strs]
    rw [if_pos (by rw [LIM_eq];simp;have:=jc (decide (lvl a<3)) 40 41 (bT a);omega)]
    rfl
 | plus a b ia ib=>exact two _ a b t_plus 43 0 rfl rfl rfl rfl (by decide) ia ib
 | less a b ia ib=>exact two _ a b t_less 45 0 rfl rfl rfl rfl (by decide) ia ib
 | both a b ia ib=>exact two _ a b t_both 38 1 rfl rfl rfl rfl (by decide) ia ib
 | joined a b ia ib=>exact two _ a b t_joined 46 2 rfl rfl rfl rfl (by decide) ia ib
end M
namespace M
abbrev t_eachleast:Tx:= [101,97,99,104,32,108,101,97,115,116]
abbrev t_eachmost:Tx:= [101,97,99,104,32,109,111,115,116]
def wd (s:Tx):Tx:=if s=t_eleast then t_eachleast else if s=t_emost then t_eachmost else s
def fT:Fc->Tx
 | .inn a b=>bT a++(32::105::110::32::bT b)
 | .equ a b=>bT a++(32::61::32::bT b)
 | .som a=>t_some++32::bT a
 | .non a=>t_no++32::bT a
 | .cnt s k a=>wd s++32::(intT k++32::bT a)
theorem jaQ (x y:D):atI [x,y] (-1)=some y:=rfl
theorem zaJ (x y z:D):atI [x,y,z] (-1)=some z:=rfl
theorem neg1 {F:Fx}{τ:Sl}{h:AH}:eval F (.neg (.int 1)) τ h= .ok (.v (.int (-1))) h:=rfl
abbrev fS (d:D) (x1 x2 x3 x4:Option W):Sl:= [some (.v d),x1,x2,x3,x4]
theorem Zp {F:Fx}{ps:List (Tx ⊕ Nat)}{τ:Sl}{h:AH}{t:Tx}(e:fmtP τ ps=some t) (hl:t.length<=900000):eval F (.fstr ps) τ h= .ok (.v (.str t)) h:=by
 rw [eval,e,fstrD_some,if_pos (by rw [LIM_eq];omega)]
section
variable {m:Nat}{h:AH}{a b:Ex}
theorem q9 (s w:Tx) (hs:(s,w)∈ [(t_in,([105,110]:Tx)),(t_equal,[61])]) (hl:(bT a).length+(bT b).length<=800000) (ea:call prog m "shown_expression" [.v (exD a)] h= .ok (.v (.str (bT a))) h) (eb:call prog m "shown_expression" [.v (exD b)] h= .ok (.v (.str (bT b))) h):
 call prog (m+1) "shown_fact" [.v (.tup [.str s,exD a,exD b])] h= .ok (.v (.str (bT a++(32::(w++32::bT b))))) h:=by
 have hw:w.length<=2:=by
  simp only [List.mem_cons,List.not_mem_nil,or_false,Prod.mk.injEq]at hs
  rcases hs with⟨rfl,rfl⟩ | ⟨rfl,rfl⟩<;>decide
 have st:execs ⟨call prog m,prog.cl,prog.con⟩ d_shown_fact.body (fS (.tup [.str s,exD a,exD b]) none none none none) h= .ret (.v (.str (bT a++(32::(w++32::bT b))))) h:=by
  simp only [d_shown_fact]
  rw [za (τ1:=fS (.tup [.str s,exD a,exD b]) (some (.v (.str w))) none none none) (h1:=h) (by
   simp only [List.mem_cons,List.not_mem_nil,or_false,Prod.mk.injEq]at hs
   rcases hs with⟨rfl,rfl⟩ | ⟨rfl,rfl⟩<;>rfl)]
  rw [za (τ1:=fS (.tup [.str s,exD a,exD b]) (some (.v (.str w))) (some (.v (.str (bT b)))) none none) (h1:=h) (by simp_all [neg1,ix_tup,zaJ,eb])]
  refine Wa ((if_t (h1:=h) ?_).trans ?_)
  ·simp only [List.mem_cons,List.not_mem_nil,or_false,Prod.mk.injEq]at hs
   rcases hs with⟨rfl,rfl⟩ | ⟨rfl,rfl⟩<;>rfl
  ·rw [za (τ1:=fS (.tup [.str s,exD a,exD b]) (some (.v (.str w))) (some (.v (.str (bT b)))) (some (.v (.str (bT a)))) none) (h1:=h) (by simp_all [ix_tup,Jc,ea])]
   refine Wa (xf rfl (Zp ?_ (by simp;omega)))
   simp only [fmtP_c,fmtP_v,fmtP_nil,getS,Option.bind_some,fmtW_str,Option.map_some,List.append_nil,List.cons_append,List.nil_append]
 rw [call_of (d:=d_shown_fact) rfl _ _ _ rfl]
 show finO _ (execs _ _ (fS (.tup [.str s,exD a,exD b]) none none none none) h)=_
 rw [st,finO_retv _ _ _ rfl]
theorem J5 (s:Tx) (hs:s∈ [t_some,t_no]) (hl:(bT a).length<=800000) (ea:call prog m "shown_expression" [.v (exD a)] h= .ok (.v (.str (bT a))) h):
 call prog (m+1) "shown_fact" [.v (.tup [.str s,exD a])] h= .ok (.v (.str (s++32::bT a))) h:=by
 have hw:s.length<=4:=by
  simp only [List.mem_cons,List.not_mem_nil,or_false]at hs
  rcases hs with rfl | rfl<;>decide
 have st:execs ⟨call prog m,prog.cl,prog.con⟩ d_shown_fact.body (fS (.tup [.str s,exD a]) none none none none) h= .ret (.v (.str (s++32::bT a))) h:=by
  simp only [d_shown_fact]
  rw [za (τ1:=fS (.tup [.str s,exD a]) (some (.v (.str s))) none none none) (h1:=h) (by
   simp only [List.mem_cons,List.not_mem_nil,or_false]at hs
   rcases hs with rfl | rfl<;>rfl)]
  rw [za (τ1:=fS (.tup [.str s,exD a]) (some (.v (.str s))) (some (.v (.str (bT a)))) none none) (h1:=h) (by simp_all [neg1,ix_tup,jaQ,ea])]
  rw [zb (by
   simp only [List.mem_cons,List.not_mem_nil,or_false]at hs
   rcases hs with rfl | rfl<;>rfl)]
  refine jw (by
   simp only [List.mem_cons,List.not_mem_nil,or_false]at hs
   rcases hs with rfl | rfl<;>rfl) (xf rfl (Zp ?_ (by simp;omega)))
  simp only [fmtP_c,fmtP_v,fmtP_nil,getS,Option.bind_some,fmtW_str,Option.map_some,List.append_nil,List.cons_append,List.nil_append]
 rw [call_of (d:=d_shown_fact) rfl _ _ _ rfl]
 show finO _ (execs _ _ (fS (.tup [.str s,exD a]) none none none none) h)=_
 rw [st,finO_retv _ _ _ rfl]
theorem xaI (s:Tx) (k:Nat) (hk:k<1000) (hs:s∈ [t_least,t_most,t_eleast,t_emost]) (hl:(wd s++32::(intT k++32::bT a)).length<=800000) (ea:call prog m "shown_expression" [.v (exD a)] h= .ok (.v (.str (bT a))) h):
 call prog (m+1) "shown_fact" [.v (.tup [.str s,.int (k:Int),exD a])] h= .ok (.v (.str (wd s++32::(intT k++32::bT a)))) h:=by
 have st:execs ⟨call prog m,prog.cl,prog.con⟩ d_shown_fact.body (fS (.tup [.str s,.int (k:Int),exD a]) none none none none) h= .ret (.v (.str (wd s++32::(intT k++32::bT a)))) h:=by
  simp only [d_shown_fact]
  rw [za (τ1:=fS (.tup [.str s,.int (k:Int),exD a]) (some (.v (.str (wd s)))) none none none) (h1:=h) (by
   simp only [List.mem_cons,List.not_mem_nil,or_false]at hs
   rcases hs with rfl | rfl | rfl | rfl<;>rfl)]
  rw [za (τ1:=fS (.tup [.str s,.int (k:Int),exD a]) (some (.v (.str (wd s)))) (some (.v (.str (bT a)))) none none) (h1:=h) (by simp_all [neg1,ix_tup,zaJ,ea])]
  rw [zb (by
   simp only [List.mem_cons,List.not_mem_nil,or_false]at hs
   rcases hs with rfl | rfl | rfl | rfl<;>rfl)]
  rw [zb (by
   simp only [List.mem_cons,List.not_mem_nil,or_false]at hs
   rcases hs with rfl | rfl | rfl | rfl<;>rfl)]
  rw [za (τ1:=fS (.tup [.str s,.int (k:Int),exD a]) (some (.v (.str (wd s)))) (some (.v (.str (bT a)))) none (some (.v (.int (k:Int))))) (h1:=h) (by simp_all [ix_tup,Jc])]
  refine Wa (xf rfl (Zp ?_ (by omega)))
  have hk':(0:Int)<=(k:Int)/\(k:Int)<1000:=by omega
  simp only [fmtP_c,fmtP_v,fmtP_nil,getS,Option.bind_some,fmtW_str,fmtW_int,if_pos hk',Option.map_some,List.append_nil,List.cons_append,List.nil_append]
 rw [call_of (d:=d_shown_fact) rfl _ _ _ rfl]
 show finO _ (execs _ _ (fS (.tup [.str s,.int (k:Int),exD a]) none none none none) h)=_
 rw [st,finO_retv _ _ _ rfl]
end
theorem zai (h:AH){N:List Tx}(f:Fc) (wf:f.wf N) (hl:(fT f).length<=600000) (m:Nat) (hm:2*f.dp+1<=m):call prog (m+1) "shown_fact" [.v (fcD f)] h= .ok (.v (.str (fT f))) h:=by
 obtain⟨n,rfl⟩: ∃n,m=n+1:=⟨m-1,by omega⟩
 cases f with
 | inn a b=>
  simp only [fT,List.length_append,List.length_cons]at hl
  simp only [Fc.dp]at hm
  exact q9 t_in [105,110] (by decide) (by omega) (xg h a (by omega) n (by omega)) (xg h b (by omega) n (by omega))
 | equ a b=>
  simp only [fT,List.length_append,List.length_cons]at hl
  simp only [Fc.dp]at hm
  exact q9 t_equal [61] (by decide) (by omega) (xg h a (by omega) n (by omega)) (xg h b (by omega) n (by omega))
 | som a=>
  simp only [fT,List.length_append,List.length_cons]at hl
  simp only [Fc.dp]at hm
  exact J5 t_some (by decide) (by omega) (xg h a (by omega) n (by omega))
 | non a=>
  simp only [fT,List.length_append,List.length_cons]at hl
  simp only [Fc.dp]at hm
  exact J5 t_no (by decide) (by omega) (xg h a (by omega) n (by omega))
 | cnt s k a=>
  have hl2:=hl
  simp only [fT,List.length_append,List.length_cons]at hl2
  simp only [Fc.dp]at hm
  exact xaI s k wf.1.2 wf.1.1 (by simp only [fT]at hl;omega) (xg h a (by omega) n (by omega))
def slv:Sy->Nat
 | .conj _ _=>1
 | .disj _ _=>0
 | _=>2
def sT:Sy->Tx
 | .fact f=>fT f
 | .neg a=>110::111::116::32::br (decide (slv a<2)) 91 93 (sT a)
 | .conj a b=>br (decide (slv a<1)) 91 93 (sT a)++(32::(t_and++32::br (decide (slv b<2)) 91 93 (sT b)))
 | .disj a b=>br (decide (slv a<0)) 91 93 (sT a)++(32::(t_or++32::br (decide (slv b<1)) 91 93 (sT b)))
theorem qK {N:List Tx}(s:Sy) (wf:s.wf N): ∃hd ds,syD s= .tup (.str hd::ds)/\(∀ h,tgetD [([111,114],.int 1),([97,110,100],.int 2)] [.v (.str hd),.v (.int 3)] h=okv (.int ((slv s:Int)+1)) h)/\(slv s:Int)=2-(if hd==t_and then 1 else 0)-2*(if hd==t_or then 1 else 0):=by
 cases s with
 | fact f=>
  cases f with
  | inn a b=>exact⟨t_in,_,rfl,fun _=>rfl,rfl⟩
  | equ a b=>exact⟨t_equal,_,rfl,fun _=>rfl,rfl⟩
  | som a=>exact⟨t_some,_,rfl,fun _=>rfl,rfl⟩
  | non a=>exact⟨t_no,_,rfl,fun _=>rfl,rfl⟩
  | cnt s j a=>
   have hs:=wf.1.1
   simp only [List.mem_cons,List.not_mem_nil,or_false]at hs
   rcases hs with rfl | rfl | rfl | rfl
   ·exact⟨t_least,_,rfl,fun _=>rfl,rfl⟩
   ·exact⟨t_most,_,rfl,fun _=>rfl,rfl⟩
   ·exact⟨t_eleast,_,rfl,fun _=>rfl,rfl⟩
   ·exact⟨t_emost,_,rfl,fun _=>rfl,rfl⟩
 | neg a=>exact⟨t_not,_,rfl,fun _=>rfl,rfl⟩
 | conj a b=>exact⟨t_and,_,rfl,fun _=>rfl,rfl⟩
 | disj a b=>exact⟨t_or,_,rfl,fun _=>rfl,rfl⟩
theorem qo {N:List Tx}{m l:Nat}{e:Sy}{h:AH}(wf:e.wf N) (hl:(sT e).length<=800000) (ea:call prog m "shown_saying" [.v (syD e)] h= .ok (.v (.str (sT e))) h):
 call prog (m+1) "saying_of_rank" [.v (syD e),.v (.int ((l:Int)+1))] h= .ok (.v (.str (br (decide (slv e<l)) 91 93 (sT e)))) h:=by
 obtain⟨hd,ds,ed,tgv,_⟩:=qK e wf
 rw [call_of (d:=d_saying_of_rank) rfl _ _ _ rfl]
 simp only [d_saying_of_rank]
 show finO _ (execs _ _ [some (.v (syD e)),some (.v (.int ((l:Int)+1))),none] h)=_
 rw [za (τ1:= [some (.v (syD e)),some (.v (.int ((l:Int)+1))),some (.v (.str (sT e)))]) (h1:=h) (by simp_all [ea])]
 have tg:eval ⟨call prog m,prog.cl,prog.con⟩ (.tget "SAYING_RANKS" (.cons (.ix (.var 0) (.int 0)) (.cons (.con "UNIT_RANK") .nil))) [some (.v (syD e)),some (.v (.int ((l:Int)+1))),some (.v (.str (sT e)))] h= .ok (.v (.int ((slv e:Int)+1))) h:=by
  rw [eval,show(⟨call prog m,prog.cl,prog.con⟩:Fx).con.lookup "SAYING_RANKS" =some (.exc "" [([111,114],.int 1),([97,110,100],.int 2)])from rfl]
  have ew:evalWs ⟨call prog m,prog.cl,prog.con⟩ (.cons (.ix (.var 0) (.int 0)) (.cons (.con "UNIT_RANK") .nil)) [some (.v (syD e)),some (.v (.int ((l:Int)+1))),some (.v (.str (sT e)))] h= .ok [.v (.str hd),.v (.int 3)] h:=by
   rw [ed]
   simp only [evalWs,eval,readS,getS,R.bind_ok,ix_tup,jf,R.of_some]
   rfl
  simp only [ew,R.bind_ok,tgv]
 have tt:tstE ⟨call prog m,prog.cl,prog.con⟩ (.cmp .lt (.tget "SAYING_RANKS" (.cons (.ix (.var 0) (.int 0)) (.cons (.con "UNIT_RANK") .nil))) (.var 1)) [some (.v (syD e)),some (.v (.int ((l:Int)+1))),some (.v (.str (sT e)))] h= .ok (decide (slv e<l)) h:=by
  rw [tstE,eval,tg]
  simp only [R.bind_ok,eval,readS,getS,QP,R.of_some,tru_bl]
 cases q:decide (slv e<l)with
 | true=>
  rw [q]at tt
  rw [jw tt (xf rfl (d:= .str (br true 91 93 (sT e))) (Zp ?_ ?_)),finO_retv _ _ _ rfl]
  ·simp only [fmtP_c,fmtP_v,fmtP_nil,getS,Option.bind_some,fmtW_str,Option.map_some];rfl
  ·have:=jc true 91 93 (sT e);omega
 | false=>
  rw [q]at tt
  rw [zb tt,Wa (w:= .v (.str (sT e))) (h1:=h) rfl,finO_retv _ _ _ rfl]
  rfl
end M
namespace M
theorem Z0:prog.con.lookup "UNIT_RANK" =some (.int 3):=rfl
section
variable {m:Nat}{h:AH}{a b:Sy}
theorem jaD (hl:(sT a).length<=700000) (ea: ∀l:Nat,call prog m "saying_of_rank" [.v (syD a),.v (.int ((l:Int)+1))] h= .ok (.v (.str (br (decide (slv a<l)) 91 93 (sT a)))) h):
 call prog (m+1) "shown_saying" [.v (syD (.neg a))] h= .ok (.v (.str (sT (.neg a)))) h:=by
 have e3:call prog m "saying_of_rank" [.v (syD a),.v (.int 3)] h= .ok (.v (.str (br (decide (slv a<2)) 91 93 (sT a)))) h:=ea 2
 have b3:=jc (decide (slv a<2)) 91 93 (sT a)
 rw [call_of (d:=d_shown_saying) rfl _ _ _ rfl]
 simp only [d_shown_saying]
 show finO _ (execs _ _ (fS (.tup [.str t_not,syD a]) none none none none) h)=_
 rw [za (τ1:=fS (.tup [.str t_not,syD a]) (some (.v (.str t_not))) none none none) (h1:=h) rfl]
 rw [jw rfl (xf rfl (d:= .str (sT (.neg a))) ?_),finO_retv _ _ _ rfl]
 simp_all [ix_tup,Jc,Z0,e3,bin_strs]
 rw [if_pos (by rw [LIM_eq];simp;omega)]
 rfl
theorem Q7 (s:Tx) (l:Nat) (hs:(s,l)∈ [(t_and,1),(t_or,0)]) (hl:(sT a).length+(sT b).length<=800000)
 (ea: ∀l:Nat,call prog m "saying_of_rank" [.v (syD a),.v (.int ((l:Int)+1))] h= .ok (.v (.str (br (decide (slv a<l)) 91 93 (sT a)))) h) (eb: ∀l:Nat,call prog m "saying_of_rank" [.v (syD b),.v (.int ((l:Int)+1))] h= .ok (.v (.str (br (decide (slv b<l)) 91 93 (sT b)))) h):
 call prog (m+1) "shown_saying" [.v (.tup [.str s,syD a,syD b])] h= .ok (.v (.str (br (decide (slv a<l)) 91 93 (sT a)++(32::(s++32::br (decide (slv b<l+1)) 91 93 (sT b)))))) h:=by
 have e1:=ea l
 have e2:=eb (l+1)
 have b1:=jc (decide (slv a<l)) 91 93 (sT a)
 have b2:=jc (decide (slv b<l+1)) 91 93 (sT b)
 have ei:((l:Int)+1+1)=(((l+1:Nat):Int)+1):=by omega
 have hw:s.length<=3:=by
  simp only [List.mem_cons,List.not_mem_nil,or_false,Prod.mk.injEq]at hs
  rcases hs with⟨rfl,rfl⟩ | ⟨rfl,rfl⟩<;>decide
 have st:execs ⟨call prog m,prog.cl,prog.con⟩ d_shown_saying.body (fS (.tup [.str s,syD a,syD b]) none none none none) h= .ret (.v (.str (br (decide (slv a<l)) 91 93 (sT a)++(32::(s++32::br (decide (slv b<l+1)) 91 93 (sT b)))))) h:=by
  simp only [d_shown_saying]
  rw [za (τ1:=fS (.tup [.str s,syD a,syD b]) (some (.v (.str s))) none none none) (h1:=h) rfl]
  rw [zb (by
   simp only [List.mem_cons,List.not_mem_nil,or_false,Prod.mk.injEq]at hs
   rcases hs with⟨rfl,rfl⟩ | ⟨rfl,rfl⟩<;>rfl)]
  refine Wa ((if_t (h1:=h) ?_).trans ?_)
  ·simp only [List.mem_cons,List.not_mem_nil,or_false,Prod.mk.injEq]at hs
   rcases hs with⟨rfl,rfl⟩ | ⟨rfl,rfl⟩<;>rfl
  ·rw [za (τ1:=fS (.tup [.str s,syD a,syD b]) (some (.v (.str s))) (some (.v (.int ((l:Int)+1)))) none none) (h1:=h) (by
    simp only [List.mem_cons,List.not_mem_nil,or_false,Prod.mk.injEq]at hs
    rcases hs with⟨rfl,rfl⟩ | ⟨rfl,rfl⟩<;>rfl)]
   rw [za (τ1:=fS (.tup [.str s,syD a,syD b]) (some (.v (.str s))) (some (.v (.int ((l:Int)+1)))) (some (.v (.str (br (decide (slv a<l)) 91 93 (sT a))))) none) (h1:=h) (by simp_all [ix_tup,Jc,e1])]
   rw [za (τ1:=fS (.tup [.str s,syD a,syD b]) (some (.v (.str s))) (some (.v (.int ((l:Int)+1)))) (some (.v (.str (br (decide (slv a<l)) 91 93 (sT a))))) (some (.v (.str (br (decide (slv b<l+1)) 91 93 (sT b)))))) (h1:=h) (by simp_all [ix_tup,Zq,int_add,ei,e2])]
   refine Wa (xf rfl (Zp ?_ (by simp;omega)))
   simp only [fmtP_c,fmtP_v,fmtP_nil,getS,Option.bind_some,fmtW_str,Option.map_some,List.append_nil,List.cons_append,List.nil_append]
 rw [call_of (d:=d_shown_saying) rfl _ _ _ rfl]
 show finO _ (execs _ _ (fS (.tup [.str s,syD a,syD b]) none none none none) h)=_
 rw [st,finO_retv _ _ _ rfl]
theorem jad {N:List Tx}(f:Fc) (wf:f.wf N) (e:call prog m "shown_fact" [.v (fcD f)] h= .ok (.v (.str (fT f))) h):call prog (m+1) "shown_saying" [.v (fcD f)] h= .ok (.v (.str (fT f))) h:=by
 obtain⟨s,ds,ef,h1,h2,h3⟩:=ZS f wf
 rw [call_of (d:=d_shown_saying) rfl _ _ _ rfl]
 simp only [d_shown_saying]
 show finO _ (execs _ _ (fS (fcD f) none none none none) h)=_
 rw [za (τ1:=fS (fcD f) (some (.v (.str s))) none none none) (h1:=h) (by rw [ef];simp_all [ix_tup,jf])]
 rw [zb (by simp only [tstE,eval,readS,getS,R.bind_ok,qH,R.of_some,tru_bl];rw [h1])]
 rw [zb (by
  have z:cmpD .mem (.v (.str s)) (.v (.tup [.str t_and,.str t_or])) h=some false:=by
   have this:cmpD .mem (.v (.str s)) (.v (.tup [.str t_and,.str t_or])) h=some (decide (s∈ [t_and,t_or])):=Zg s [t_and,t_or] (.v (.tup [.str t_and,.str t_or])) h rfl rfl
   rw [this]
   congr 1
   rw [decide_eq_false_iff_not]
   intro q
   simp only [List.mem_cons,List.not_mem_nil,or_false]at q
   rcases q with rfl | rfl
   ·cases h2
   ·cases h3
  simp_all [z])]
 rw [Wa (w:= .v (.str (fT f))) (h1:=h) (xf rfl (by simp_all [e])),finO_retv _ _ _ rfl]
end
theorem zas (h:AH){N:List Tx}: ∀(s:Sy),s.wf N->(sT s).length<=600000-> ∀m,2*s.dp+3<=m->call prog (m+1) "shown_saying" [.v (syD s)] h= .ok (.v (.str (sT s))) h:=by
 intro s
 induction s with
 | fact f=>
  intro wf hl m hm
  simp only [Sy.dp]at hm
  obtain⟨n,rfl⟩: ∃n,m=n+1:=⟨m-1,by omega⟩
  exact jad f wf (zai h f wf hl n (by omega))
 | neg a ih=>
  intro wf hl m hm
  simp only [Sy.dp]at hm
  have b3:=Zc (decide (slv a<2)) 91 93 (sT a)
  simp only [sT,List.length_cons]at hl
  obtain⟨n,rfl⟩: ∃n,m=n+2:=⟨m-2,by omega⟩
  exact jaD (by omega) fun l=>qo wf (by omega) (ih wf (by omega) n (by omega))
 | conj a b ia ib=>
  intro wf hl m hm
  simp only [Sy.dp]at hm
  have b1:=Zc (decide (slv a<1)) 91 93 (sT a)
  have b2:=Zc (decide (slv b<2)) 91 93 (sT b)
  simp only [sT,List.length_append,List.length_cons]at hl
  obtain⟨n,rfl⟩: ∃n,m=n+2:=⟨m-2,by omega⟩
  exact Q7 t_and 1 (by decide) (by omega) (fun l=>qo wf.1 (by omega) (ia wf.1 (by omega) n (by omega))) fun l=>qo wf.2 (by omega) (ib wf.2 (by omega) n (by omega))
 | disj a b ia ib=>
  intro wf hl m hm
  simp only [Sy.dp]at hm
  have b1:=Zc (decide (slv a<0)) 91 93 (sT a)
  have b2:=Zc (decide (slv b<1)) 91 93 (sT b)
  simp only [sT,List.length_append,List.length_cons]at hl
  obtain⟨n,rfl⟩: ∃n,m=n+2:=⟨m-2,by omega⟩
  exact Q7 t_or 0 (by decide) (by omega) (fun l=>qo wf.1 (by omega) (ia wf.1 (by omega) n (by omega))) fun l=>qo wf.2 (by omega) (ib wf.2 (by omega) n (by omega))
theorem QE (m:Nat) (h:AH){N:List Tx}(s:Sy) (wf:s.wf N):call prog (m+1) "_law_saying_level" [.v (syD s)] h= .ok (.v (.int (slv s:Nat))) h:=by
 obtain⟨hd,ds,ed,_,el⟩:=qK s wf
 rw [call_of (d:=d_law_saying_level) rfl _ _ _ rfl]
 simp only [d_law_saying_level]
 show finO _ (execs _ _ [some (.v (syD s))] h)=_
 have bi: ∀b:Bool,biD .int [.v (.bl b)] h= .ok (.v (.int (if b then 1 else 0))) h:=fun b=>by cases b<;>rfl
 rw [Wa (w:= .v (.int (slv s:Nat))) (h1:=h) (xf rfl ?_),finO_retv _ _ _ rfl]
 rw [ed,el]
 simp_all [ix_tup,jf,qH,bi,int_sub,wm 2 _ (by decide)]
abbrev uS (d:D) (l:Nat) (x2 x3 x4 x5:Option W):Sl:= [some (.v d),some (.v (.int (l:Int))),x2,x3,x4,x5]
def uEnd:Ss:= .cons (.iff (.cmp .lt (.call "_law_saying_level" (.cons (.var 0) .nil)) (.var 1)) (.cons (.ret (.bin .add (.bin .add (.str [91]) (.var 4)) (.str [93]))) .nil) .nil) (.cons (.ret (.var 4)) .nil)
theorem jaL {N:List Tx}{m l:Nat}{h:AH}{e:Sy}{x2 x3 x5:Option W}{t:Tx}(wf:e.wf N) (ht:t.length<=900000):execs ⟨call prog (m+1),prog.cl,prog.con⟩ uEnd (uS (syD e) l x2 x3 (some (.v (.str t))) x5) h= .ret (.v (.str (br (decide (slv e<l)) 91 93 t))) h:=by
 have tt:tstE ⟨call prog (m+1),prog.cl,prog.con⟩ (.cmp .lt (.call "_law_saying_level" (.cons (.var 0) .nil)) (.var 1)) (uS (syD e) l x2 x3 (some (.v (.str t))) x5) h= .ok (decide (slv e<l)) h:=by
  simp_all [QE m h e wf,Wr]
 unfold uEnd
 cases q:decide (slv e<l)with
 | true=>
  rw [q]at tt
  refine jw tt (xf rfl ?_)
  simp_all [bin_strs]
  rw [if_pos (by rw [LIM_eq];simp;omega)]
  simp only [R.bind_ok,bin_strs]
  rw [if_pos (by rw [LIM_eq];simp;omega)]
  rfl
 | false=>
  rw [q]at tt
  rw [zb tt]
  rfl
theorem br0 (e:Ex):br (decide (lvl e<0)) 40 41 (bT e)=bT e:=by simp [br]
theorem add2 (s t:Tx) (h:AH) (hl:s.length+t.length<=900000):binD .add (.v (.str s)) (.v (.str t)) h= .ok (.v (.str (s++t))) h:=by
 rw [bin_strs,if_pos (by rw [LIM_eq];omega)]
end M
namespace M
def uBig:S:= .iff (.cmp .mem (.var 2) (.tup (.cons (.str [97,110,100]) (.cons (.str [111,114]) .nil)))) (.cons (.setf 3 (.call "_law_saying_level" (.cons (.var 0) .nil))) (.cons (.setf 4 (.bin .add (.bin .add (.bin .add (.bin .add (.call "_law_saying_text" (.cons (.ix (.var 0) (.int 1)) (.cons (.var 3) .nil))) (.str [32])) (.var 2)) (.str [32])) (.call "_law_saying_text" (.cons (.ix (.var 0) (.int 2)) (.cons (.bin .add (.var 3) (.int 1)) .nil))))) .nil)) (.cons (.iff (.cmp .eq (.var 2) (.str [110,111,116])) (.cons (.setf 4 (.bin .add (.str [110,111,116,32]) (.call "_law_saying_text" (.cons (.ix (.var 0) (.int 1)) (.cons (.int 2) .nil))))) .nil) (.cons (.iff (.cmp .mem (.var 2) (.tup (.cons (.str [105,110]) (.cons (.str [101,113,117,97,108]) .nil)))) (.cons (.setf 5 (.ix (.lst (.cons (.str [32,61,32]) (.cons (.str [32,105,110,32]) .nil))) (.bi .int (.cons (.cmp .eq (.var 2) (.str [105,110])) .nil)))) (.cons (.setf 4 (.bin .add (.bin .add (.call "_law_text" (.cons (.ix (.var 0) (.int 1)) (.cons (.int 0) .nil))) (.var 5)) (.call "_law_text" (.cons (.ix (.var 0) (.int 2)) (.cons (.int 0) .nil))))) .nil)) (.cons (.iff (.cmp .mem (.var 2) (.tup (.cons (.str [115,111,109,101]) (.cons (.str [110,111]) .nil)))) (.cons (.setf 4 (.bin .add (.bin .add (.var 2) (.str [32])) (.call "_law_text" (.cons (.ix (.var 0) (.int 1)) (.cons (.int 0) .nil))))) .nil) (.cons (.setf 2 (.dlit [([108,101,97,115,116],[108,101,97,115,116,32]),([109,111,115,116],[109,111,115,116,32]),([101,97,99,104,108,101,97,115,116],[101,97,99,104,32,108,101,97,115,116,32]),([101,97,99,104,109,111,115,116],[101,97,99,104,32,109,111,115,116,32])] 2)) (.cons (.setf 4 (.bin .add (.bin .add (.bin .add (.var 2) (.strI (.ix (.var 0) (.int 1)))) (.str [32])) (.call "_law_text" (.cons (.ix (.var 0) (.int 2)) (.cons (.int 0) .nil))))) .nil))) .nil)) .nil)) .nil)
theorem zaz:d_law_saying_text.body= .cons (.setf 2 (.ix (.var 0) (.int 0))) (.cons uBig uEnd):=rfl
theorem Xa {F:Fx}{s:S}{τ τ1:Sl}{h h1:AH}(e:exec F s τ h= .next τ1 h1):execs F (.cons s .nil) τ h= .next τ1 h1:=by rw [execs,e];rfl
theorem u_go {N:List Tx}{m l:Nat}{h:AH}{e:Sy}{hd:Tx}{ds:List D}{x2 x3 x5:Option W}{t:Tx}(wf:e.wf N) (ed:syD e= .tup (.str hd::ds)) (ht:t.length<=900000)
 (q:exec ⟨call prog (m+1),prog.cl,prog.con⟩ uBig (uS (syD e) l (some (.v (.str hd))) none none none) h= .next (uS (syD e) l x2 x3 (some (.v (.str t))) x5) h):call prog (m+2) "_law_saying_text" [.v (syD e),.v (.int (l:Int))] h= .ok (.v (.str (br (decide (slv e<l)) 91 93 t))) h:=by
 rw [call_of (d:=d_law_saying_text) rfl _ _ _ rfl,zaz]
 show finO _ (execs _ _ (uS (syD e) l none none none none) h)=_
 rw [za (τ1:=uS (syD e) l (some (.v (.str hd))) none none none) (h1:=h) (by rw [ed];simp_all [ix_tup,jf]),za q,jaL wf ht,finO_retv _ _ _ rfl]
section
variable {m l:Nat}{h:AH}{N:List Tx}
theorem W7 {a b:Ex}(s w:Tx) (f:Fc) (wf:f.wf N) (ef:fcD f= .tup [.str s,exD a,exD b]) (hs:(s,w)∈ [(t_in,([32,105,110,32]:Tx)),(t_equal,[32,61,32])]) (hl:(bT a).length+(bT b).length<=800000)
 (ea:call prog (m+1) "_law_text" [.v (exD a),.v (.int 0)] h= .ok (.v (.str (bT a))) h) (eb:call prog (m+1) "_law_text" [.v (exD b),.v (.int 0)] h= .ok (.v (.str (bT b))) h):
 call prog (m+2) "_law_saying_text" [.v (fcD f),.v (.int (l:Int))] h= .ok (.v (.str (br (decide (2<l)) 91 93 (bT a++w++bT b)))) h:=by
 have hw:w.length<=4:=by
  simp only [List.mem_cons,List.not_mem_nil,or_false,Prod.mk.injEq]at hs
  rcases hs with⟨rfl,rfl⟩ | ⟨rfl,rfl⟩<;>decide
 refine u_go (e:= .fact f) (x2:=some (.v (.str s))) (x3:=none) (x5:=some (.v (.str w))) wf ef (by simp;omega) ?_
 show exec _ uBig (uS (fcD f) l (some (.v (.str s))) none none none) h= .next (uS (fcD f) l (some (.v (.str s))) none (some (.v (.str (bT a++w++bT b)))) (some (.v (.str w)))) h
 have h5:execs ⟨call prog (m+1),prog.cl,prog.con⟩ (.cons (.setf 5 (.ix (.lst (.cons (.str [32,61,32]) (.cons (.str [32,105,110,32]) .nil))) (.bi .int (.cons (.cmp .eq (.var 2) (.str [105,110])) .nil)))) (.cons (.setf 4 (.bin .add (.bin .add (.call "_law_text" (.cons (.ix (.var 0) (.int 1)) (.cons (.int 0) .nil))) (.var 5)) (.call "_law_text" (.cons (.ix (.var 0) (.int 2)) (.cons (.int 0) .nil))))) .nil)) (uS (fcD f) l (some (.v (.str s))) none none none) h
  = .next (uS (fcD f) l (some (.v (.str s))) none (some (.v (.str (bT a++w++bT b)))) (some (.v (.str w)))) h:=by
  rw [za (τ1:=uS (fcD f) l (some (.v (.str s))) none none (some (.v (.str w)))) (h1:=h) (by
   simp only [List.mem_cons,List.not_mem_nil,or_false,Prod.mk.injEq]at hs
   rcases hs with⟨rfl,rfl⟩ | ⟨rfl,rfl⟩<;>rfl)]
  refine Xa ?_
  rw [ef]
  simp_all [ix_tup,Jc,Zq,ea,add2 (bT a) w h (by omega),eb,add2 (bT a++w) (bT b) h (by simp;omega)]
 simp only [List.mem_cons,List.not_mem_nil,or_false,Prod.mk.injEq]at hs
 rcases hs with⟨rfl,rfl⟩ | ⟨rfl,rfl⟩
 ·exact(if_f (h1:=h) rfl).trans (Xa ((if_f (h1:=h) rfl).trans (Xa ((if_t (h1:=h) rfl).trans h5))))
 ·exact(if_f (h1:=h) rfl).trans (Xa ((if_f (h1:=h) rfl).trans (Xa ((if_t (h1:=h) rfl).trans h5))))
theorem Q5 {a:Ex}(s:Tx) (f:Fc) (wf:f.wf N) (ef:fcD f= .tup [.str s,exD a]) (hs:s∈ [t_some,t_no]) (hl:(bT a).length<=800000) (ea:call prog (m+1) "_law_text" [.v (exD a),.v (.int 0)] h= .ok (.v (.str (bT a))) h):
 call prog (m+2) "_law_saying_text" [.v (fcD f),.v (.int (l:Int))] h= .ok (.v (.str (br (decide (2<l)) 91 93 (s++ [32]++bT a)))) h:=by
 have hw:s.length<=4:=by
  simp only [List.mem_cons,List.not_mem_nil,or_false]at hs
  rcases hs with rfl | rfl<;>decide
 refine u_go (e:= .fact f) (x2:=some (.v (.str s))) (x3:=none) (x5:=none) wf ef (by simp;omega) ?_
 show exec _ uBig (uS (fcD f) l (some (.v (.str s))) none none none) h= .next (uS (fcD f) l (some (.v (.str s))) none (some (.v (.str (s++ [32]++bT a)))) none) h
 have h5:execs ⟨call prog (m+1),prog.cl,prog.con⟩ (.cons (.setf 4 (.bin .add (.bin .add (.var 2) (.str [32])) (.call "_law_text" (.cons (.ix (.var 0) (.int 1)) (.cons (.int 0) .nil))))) .nil) (uS (fcD f) l (some (.v (.str s))) none none none) h
  = .next (uS (fcD f) l (some (.v (.str s))) none (some (.v (.str (s++ [32]++bT a)))) none) h:=by
  refine Xa ?_
  rw [ef]
  simp_all [ix_tup,Jc,ea,add2 s [32] h (by simp;omega),add2 (s++ [32]) (bT a) h (by simp;omega)]
 simp only [List.mem_cons,List.not_mem_nil,or_false]at hs
 rcases hs with rfl | rfl
 ·rw [ef]at h5 ⊢;exact(if_f (h1:=h) rfl).trans (Xa ((if_f (h1:=h) rfl).trans (Xa ((if_f (h1:=h) rfl).trans (Xa ((if_t (h1:=h) rfl).trans h5))))))
 ·rw [ef]at h5 ⊢;exact(if_f (h1:=h) rfl).trans (Xa ((if_f (h1:=h) rfl).trans (Xa ((if_f (h1:=h) rfl).trans (Xa ((if_t (h1:=h) rfl).trans h5))))))
theorem xaB {a:Ex}(s:Tx) (k:Nat) (hk:k<1000) (f:Fc) (wf:f.wf N) (ef:fcD f= .tup [.str s,.int (k:Int),exD a]) (hs:s∈ [t_least,t_most,t_eleast,t_emost]) (hl:(wd s).length+(intT k).length+(bT a).length<=800000) (ea:call prog (m+1) "_law_text" [.v (exD a),.v (.int 0)] h= .ok (.v (.str (bT a))) h):
 call prog (m+2) "_law_saying_text" [.v (fcD f),.v (.int (l:Int))] h= .ok (.v (.str (br (decide (2<l)) 91 93 (wd s++ [32]++intT k++ [32]++bT a)))) h:=by
 refine u_go (e:= .fact f) (x2:=some (.v (.str (wd s++ [32])))) (x3:=none) (x5:=none) wf ef (by simp;omega) ?_
 show exec _ uBig (uS (fcD f) l (some (.v (.str s))) none none none) h= .next (uS (fcD f) l (some (.v (.str (wd s++ [32])))) none (some (.v (.str (wd s++ [32]++intT k++ [32]++bT a)))) none) h
 have hk':(0:Int)<=(k:Int)/\(k:Int)<1000:=by omega
 have h5:execs ⟨call prog (m+1),prog.cl,prog.con⟩ (.cons (.setf 2 (.dlit [([108,101,97,115,116],[108,101,97,115,116,32]),([109,111,115,116],[109,111,115,116,32]),([101,97,99,104,108,101,97,115,116],[101,97,99,104,32,108,101,97,115,116,32]),([101,97,99,104,109,111,115,116],[101,97,99,104,32,109,111,115,116,32])] 2)) (.cons (.setf 4 (.bin .add (.bin .add (.bin .add (.var 2) (.strI (.ix (.var 0) (.int 1)))) (.str [32])) (.call "_law_text" (.cons (.ix (.var 0) (.int 2)) (.cons (.int 0) .nil))))) .nil)) (uS (fcD f) l (some (.v (.str s))) none none none) h
  = .next (uS (fcD f) l (some (.v (.str (wd s++ [32])))) none (some (.v (.str (wd s++ [32]++intT k++ [32]++bT a)))) none) h:=by
  rw [za (τ1:=uS (fcD f) l (some (.v (.str (wd s++ [32])))) none none none) (h1:=h) (by
   simp only [List.mem_cons,List.not_mem_nil,or_false]at hs
   rcases hs with rfl | rfl | rfl | rfl<;>rfl)]
  refine Xa ?_
  rw [ef]
  simp_all [ix_tup,Jc,Zq,strD_int,if_pos hk',add2 (wd s++ [32]) (intT k) h (by simp;omega),add2 (wd s++ [32]++intT k) [32] h (by simp;omega),ea,add2 (wd s++ [32]++intT k++ [32]) (bT a) h (by simp;omega)]
 rw [ef]at h5 ⊢
 simp only [List.mem_cons,List.not_mem_nil,or_false]at hs
 rcases hs with rfl | rfl | rfl | rfl
 ·exact(if_f (h1:=h) rfl).trans (Xa ((if_f (h1:=h) rfl).trans (Xa ((if_f (h1:=h) rfl).trans (Xa ((if_f (h1:=h) rfl).trans h5))))))
 ·exact(if_f (h1:=h) rfl).trans (Xa ((if_f (h1:=h) rfl).trans (Xa ((if_f (h1:=h) rfl).trans (Xa ((if_f (h1:=h) rfl).trans h5))))))
 ·exact(if_f (h1:=h) rfl).trans (Xa ((if_f (h1:=h) rfl).trans (Xa ((if_f (h1:=h) rfl).trans (Xa ((if_f (h1:=h) rfl).trans h5))))))
 ·exact(if_f (h1:=h) rfl).trans (Xa ((if_f (h1:=h) rfl).trans (Xa ((if_f (h1:=h) rfl).trans (Xa ((if_f (h1:=h) rfl).trans h5))))))
theorem xaw {a:Sy}(wf:a.wf N) (hl:(sT a).length<=700000) (ea: ∀l:Nat,call prog (m+1) "_law_saying_text" [.v (syD a),.v (.int (l:Int))] h= .ok (.v (.str (br (decide (slv a<l)) 91 93 (sT a)))) h):
 call prog (m+2) "_law_saying_text" [.v (syD (.neg a)),.v (.int (l:Int))] h= .ok (.v (.str (br (decide (slv (.neg a)<l)) 91 93 (sT (.neg a))))) h:=by
 have b3:=jc (decide (slv a<2)) 91 93 (sT a)
 have e2:call prog (m+1) "_law_saying_text" [.v (syD a),.v (.int 2)] h= .ok (.v (.str (br (decide (slv a<2)) 91 93 (sT a)))) h:=ea 2
 refine u_go (e:= .neg a) (hd:=t_not) (ds:= [syD a]) (x2:=some (.v (.str t_not))) (x3:=none) (x5:=none) wf rfl (by simp only [sT,List.length_cons];omega) ?_
 refine(if_f (h1:=h) rfl).trans (Xa ((if_t (h1:=h) rfl).trans (Xa ?_)))
 simp only [syD]
 simp_all [ix_tup,Jc,e2,add2 [110,111,116,32] (br (decide (slv a<2)) 91 93 (sT a)) h (by simp;omega)]
 rfl
theorem J8 {a b:Sy}(s:Tx) (k:Nat) (e:Sy) (we:e.wf N) (ee:syD e= .tup [.str s,syD a,syD b]) (hk:slv e=k) (hs:(s,k)∈ [(t_and,1),(t_or,0)]) (hl:(sT a).length+(sT b).length<=700000) (ea: ∀l:Nat,call prog (m+1) "_law_saying_text" [.v (syD a),.v (.int (l:Int))] h= .ok (.v (.str (br (decide (slv a<l)) 91 93 (sT a)))) h) (eb: ∀l:Nat,call prog (m+1) "_law_saying_text" [.v (syD b),.v (.int (l:Int))] h= .ok (.v (.str (br (decide (slv b<l)) 91 93 (sT b)))) h):
 call prog (m+2) "_law_saying_text" [.v (syD e),.v (.int (l:Int))] h= .ok (.v (.str (br (decide (slv e<l)) 91 93 (br (decide (slv a<k)) 91 93 (sT a)++ [32]++s++ [32]++br (decide (slv b<k+1)) 91 93 (sT b))))) h:=by
 have b1:=jc (decide (slv a<k)) 91 93 (sT a)
 have b2:=jc (decide (slv b<k+1)) 91 93 (sT b)
 have hw:s.length<=3:=by
  simp only [List.mem_cons,List.not_mem_nil,or_false,Prod.mk.injEq]at hs
  rcases hs with⟨rfl,rfl⟩ | ⟨rfl,rfl⟩<;>decide
 have e1:=ea k
 have e2:=eb (k+1)
 have ei:((k:Int)+1)=((k+1:Nat):Int):=by omega
 refine u_go (e:=e) (x2:=some (.v (.str s))) (x3:=some (.v (.int (k:Int)))) (x5:=none) we ee (by simp;omega) ?_
 have h5:execs ⟨call prog (m+1),prog.cl,prog.con⟩ (.cons (.setf 3 (.call "_law_saying_level" (.cons (.var 0) .nil))) (.cons (.setf 4 (.bin .add (.bin .add (.bin .add (.bin .add (.call "_law_saying_text" (.cons (.ix (.var 0) (.int 1)) (.cons (.var 3) .nil))) (.str [32])) (.var 2)) (.str [32])) (.call "_law_saying_text" (.cons (.ix (.var 0) (.int 2)) (.cons (.bin .add (.var 3) (.int 1)) .nil))))) .nil)) (uS (syD e) l (some (.v (.str s))) none none none) h
  = .next (uS (syD e) l (some (.v (.str s))) (some (.v (.int (k:Int)))) (some (.v (.str (br (decide (slv a<k)) 91 93 (sT a)++ [32]++s++ [32]++br (decide (slv b<k+1)) 91 93 (sT b))))) none) h:=by
  rw [za (τ1:=uS (syD e) l (some (.v (.str s))) (some (.v (.int (k:Int)))) none none) (h1:=h) (by simp_all [QE m h e we,hk])]
  refine Xa ?_
  rw [ee]
  simp_all [ix_tup,Jc,Zq,e1,int_add,ei,e2,add2 (br (decide (slv a<k)) 91 93 (sT a)) [32] h (by simp;omega),add2 (br (decide (slv a<k)) 91 93 (sT a)++ [32]) s h (by simp;omega),add2 (br (decide (slv a<k)) 91 93 (sT a)++ [32]++s) [32] h (by simp;omega),add2 (br (decide (slv a<k)) 91 93 (sT a)++ [32]++s++ [32]) (br (decide (slv b<k+1)) 91 93 (sT b)) h (by simp;omega)]
 simp only [List.mem_cons,List.not_mem_nil,or_false,Prod.mk.injEq]at hs
 rcases hs with⟨rfl,rfl⟩ | ⟨rfl,rfl⟩
 ·exact(if_t (h1:=h) rfl).trans h5
 ·exact(if_t (h1:=h) rfl).trans h5
end
theorem jaJ (h:AH){N:List Tx}: ∀(s:Sy),s.wf N->(sT s).length<=600000-> ∀m,s.dp+3<=m-> ∀l:Nat,call prog (m+1) "_law_saying_text" [.v (syD s),.v (.int (l:Int))] h= .ok (.v (.str (br (decide (slv s<l)) 91 93 (sT s)))) h:=by
 intro s
 induction s with
 | fact f=>
  intro wf hl m hm l
  simp only [Sy.dp]at hm
  obtain⟨n,rfl⟩: ∃n,m=n+1:=⟨m-1,by omega⟩
  have ct: ∀e:Ex,(bT e).length<=700000->e.dp+1<=n->call prog (n+1) "_law_text" [.v (exD e),.v (.int 0)] h= .ok (.v (.str (bT e))) h:=fun e h1 h2=>by
   have:=Q9 h e h1 n h2 0
   rw [br0]at this
   exact this
  cases f with
  | inn a b=>
   simp only [sT,fT,List.length_append,List.length_cons]at hl
   simp only [Fc.dp]at hm
   have:=W7 (l:=l) t_in [32,105,110,32] (.inn a b) wf rfl (by decide) (by omega) (ct a (by omega) (by omega)) (ct b (by omega) (by omega))
   simp only [List.append_assoc]at this
   exact this
  | equ a b=>
   simp only [sT,fT,List.length_append,List.length_cons]at hl
   simp only [Fc.dp]at hm
   have:=W7 (l:=l) t_equal [32,61,32] (.equ a b) wf rfl (by decide) (by omega) (ct a (by omega) (by omega)) (ct b (by omega) (by omega))
   simp only [List.append_assoc]at this
   exact this
  | som a=>
   simp only [sT,fT,List.length_append,List.length_cons]at hl
   simp only [Fc.dp]at hm
   have:=Q5 (l:=l) t_some (.som a) wf rfl (by decide) (by omega) (ct a (by omega) (by omega))
   simp only [List.append_assoc]at this
   exact this
  | non a=>
   simp only [sT,fT,List.length_append,List.length_cons]at hl
   simp only [Fc.dp]at hm
   have:=Q5 (l:=l) t_no (.non a) wf rfl (by decide) (by omega) (ct a (by omega) (by omega))
   simp only [List.append_assoc]at this
   exact this
  | cnt s k a=>
   simp only [sT,fT,List.length_append,List.length_cons]at hl
   simp only [Fc.dp]at hm
   have:=xaB (l:=l) s k wf.1.2 (.cnt s k a) wf rfl wf.1.1 (by omega) (ct a (by omega) (by omega))
   simp only [List.append_assoc]at this
   exact this
 | neg a ih=>
  intro wf hl m hm l
  simp only [Sy.dp]at hm
  have b3:=Zc (decide (slv a<2)) 91 93 (sT a)
  simp only [sT,List.length_cons]at hl
  obtain⟨n,rfl⟩: ∃n,m=n+1:=⟨m-1,by omega⟩
  exact xaw wf (by omega) (ih wf (by omega) n (by omega))
 | conj a b ia ib=>
  intro wf hl m hm l
  simp only [Sy.dp]at hm
  have b1:=Zc (decide (slv a<1)) 91 93 (sT a)
  have b2:=Zc (decide (slv b<2)) 91 93 (sT b)
  simp only [sT,List.length_append,List.length_cons]at hl
  obtain⟨n,rfl⟩: ∃n,m=n+1:=⟨m-1,by omega⟩
  have:=J8 (l:=l) t_and 1 (.conj a b) wf rfl rfl (by decide) (by omega) (ia wf.1 (by omega) n (by omega)) (ib wf.2 (by omega) n (by omega))
  simpa [sT]using this
 | disj a b ia ib=>
  intro wf hl m hm l
  simp only [Sy.dp]at hm
  have b1:=Zc (decide (slv a<0)) 91 93 (sT a)
  have b2:=Zc (decide (slv b<1)) 91 93 (sT b)
  simp only [sT,List.length_append,List.length_cons]at hl
  obtain⟨n,rfl⟩: ∃n,m=n+1:=⟨m-1,by omega⟩
  have:=J8 (l:=l) t_or 0 (.disj a b) wf rfl rfl (by decide) (by omega) (ia wf.1 (by omega) n (by omega)) (ib wf.2 (by omega) n (by omega))
  simpa [sT]using this
end M
namespace M
def fx:Fc->List Ex
 | .inn a b=> [a,b]
 | .equ a b=> [a,b]
 | .som a=> [a]
 | .non a=> [a]
 | .cnt _ _ a=> [a]
def px:Sy->List Ex
 | .fact f=>fx f
 | .neg a=>px a
 | .conj a _=>px a
 | .disj a _=>px a
def tupO:D->Option D
 | .tup xs=>some (.tup xs)
 | _=>none
theorem Xj (e:Ex):tupO (exD e)=some (exD e):=by cases e<;>rfl
theorem zax (e:Ex):isT .tuple (.v (exD e))=some true:=by cases e<;>rfl
theorem zaS {F:Fx}{d:D}{hd:D}{ds:List D}{h:AH}(ed:d= .tup (hd::ds)) (hl:ds.length<=100) (ok: ∀x∈ds,(∃ e,x=exD e)\/ ∃i,x= .int i):eval F e_law_parts_1 [some (.v d)] h= .ok (.own (ds.filterMap tupO)) h:=by
 rw [e_law_parts_1]
 refine zU tupO (ds:=ds) ?_ (by rw [LIM_eq];omega) ?_
 ·rw [ed]
  have e:cut (hd::ds) (some 1) none=ds:=xG (hd::ds) 1
  refine t_it ?_
  simp only [eval,readS,getS,R.bind_ok,int?_int,R.of_some]
  show R.ok (W.v (D.tup (cut (hd::ds) (some 1) none))) h=_
  rw [e]
 ·intro x hx
  rcases ok x hx with⟨e,rfl⟩ | ⟨i,rfl⟩
  ·exact⟨[some (.v (exD e))],true,rfl,by simp_all [zax],by rw [if_pos rfl];exact⟨.v (exD e),exD e,rfl,rfl,Xj e⟩⟩
  ·exact⟨[some (.v (.int i))],false,rfl,rfl,rfl⟩
theorem zaa (h:AH){N:List Tx}: ∀(s:Sy),s.wf N-> ∀m,s.dp<=m->call prog (m+1) "_law_parts" [.v (syD s)] h= .ok (.own ((px s).map exD)) h:=by
 have pass: ∀(t:Tx) (d:D) (r:List D) (xs:List D) (m:Nat),t∈ [t_not,t_and,t_or]->call prog m "_law_parts" [.v d] h= .ok (.own xs) h->call prog (m+1) "_law_parts" [.v (.tup (.str t::d::r))] h= .ok (.own xs) h:=fun t d r xs m ht e=>by
  rw [call_of (d:=d_law_parts) rfl _ _ _ rfl]
  simp only [d_law_parts]
  show finO _ (execs _ _ [some (.v (.tup (.str t::d::r)))] h)=_
  have tt:tstE ⟨call prog m,prog.cl,prog.con⟩ (.cmp .mem (.ix (.var 0) (.int 0)) (.tup (.cons (.str [110,111,116]) (.cons (.str [97,110,100]) (.cons (.str [111,114]) .nil))))) [some (.v (.tup (.str t::d::r)))] h= .ok true h:=by
   have z:cmpD .mem (.v (.str t)) (.v (.tup [.str t_not,.str t_and,.str t_or])) h=some true:=by
    have this:cmpD .mem (.v (.str t)) (.v (.tup [.str t_not,.str t_and,.str t_or])) h=some (decide (t∈ [t_not,t_and,t_or])):=Zg t [t_not,t_and,t_or] (.v (.tup [.str t_not,.str t_and,.str t_or])) h rfl rfl
    rw [this,decide_eq_true ht]
   simp_all [ix_tup,jf,z]
  rw [Wa (w:= .own xs) (h1:=h) ((if_t tt).trans (Wa (zi rfl (by simp_all [ix_tup,Jc,e])))),finO_reto _ _ _ rfl]
 intro s
 induction s with
 | fact f=>
  intro wf m hm
  obtain⟨hd,ds,ef,h1,h2,h3⟩:=ZS f wf
  obtain⟨ok,hl,ex⟩:(∀ x∈ds,(∃ e,x=exD e)\/ ∃i,x= .int i)/\ds.length<=100/\ds.filterMap tupO=(fx f).map exD:=by
   cases f with
   | inn a b=>cases ef;exact⟨by simp only [List.mem_cons,List.not_mem_nil,or_false];rintro x (rfl | rfl)<;>exact .inl ⟨_,rfl⟩,by simp,by simp [Xj,fx]⟩
   | equ a b=>cases ef;exact⟨by simp only [List.mem_cons,List.not_mem_nil,or_false];rintro x (rfl | rfl)<;>exact .inl ⟨_,rfl⟩,by simp,by simp [Xj,fx]⟩
   | som a=>cases ef;exact⟨by simp only [List.mem_cons,List.not_mem_nil,or_false];rintro x rfl;exact .inl ⟨_,rfl⟩,by simp,by simp [Xj,fx]⟩
   | non a=>cases ef;exact⟨by simp only [List.mem_cons,List.not_mem_nil,or_false];rintro x rfl;exact .inl ⟨_,rfl⟩,by simp,by simp [Xj,fx]⟩
   | cnt s k a=>cases ef;exact⟨by simp only [List.mem_cons,List.not_mem_nil,or_false];rintro x (rfl | rfl);exact .inr ⟨_,rfl⟩;exact .inl ⟨_,rfl⟩,by simp,by rw [List.filterMap_cons_none rfl,List.filterMap_cons_some (Xj a)];rfl⟩
  rw [call_of (d:=d_law_parts) rfl _ _ _ rfl]
  simp only [d_law_parts]
  show finO _ (execs _ _ [some (.v (fcD f))] h)=_
  have tt:tstE ⟨call prog m,prog.cl,prog.con⟩ (.cmp .mem (.ix (.var 0) (.int 0)) (.tup (.cons (.str [110,111,116]) (.cons (.str [97,110,100]) (.cons (.str [111,114]) .nil))))) [some (.v (fcD f))] h= .ok false h:=by
   have z:cmpD .mem (.v (.str hd)) (.v (.tup [.str t_not,.str t_and,.str t_or])) h=some false:=by
    have this:cmpD .mem (.v (.str hd)) (.v (.tup [.str t_not,.str t_and,.str t_or])) h=some (decide (hd∈ [t_not,t_and,t_or])):=Zg hd [t_not,t_and,t_or] (.v (.tup [.str t_not,.str t_and,.str t_or])) h rfl rfl
    rw [this]
    congr 1
    rw [decide_eq_false_iff_not]
    intro q
    simp only [List.mem_cons,List.not_mem_nil,or_false]at q
    rcases q with rfl | rfl | rfl
    ·cases h1
    ·cases h2
    ·cases h3
   rw [ef]
   simp_all [ix_tup,jf,z]
  rw [zb tt,Wa (w:= .own (ds.filterMap tupO)) (h1:=h) (zi rfl (zaS ef hl ok)),finO_reto _ _ _ rfl,ex]
  rfl
 | neg a ih=>
  intro wf m hm
  simp only [Sy.dp]at hm
  obtain⟨n,rfl⟩: ∃n,m=n+1:=⟨m-1,by omega⟩
  exact pass t_not (syD a) [] _ _ (by decide) (ih wf n (by omega))
 | conj a b ia ib=>
  intro wf m hm
  simp only [Sy.dp]at hm
  obtain⟨n,rfl⟩: ∃n,m=n+1:=⟨m-1,by omega⟩
  exact pass t_and (syD a) [syD b] _ _ (by decide) (ia wf.1 n (by omega))
 | disj a b ia ib=>
  intro wf m hm
  simp only [Sy.dp]at hm
  obtain⟨n,rfl⟩: ∃n,m=n+1:=⟨m-1,by omega⟩
  exact pass t_or (syD a) [syD b] _ _ (by decide) (ia wf.1 n (by omega))
theorem Xk {N:List Tx}(hN: ∀t∈N,t.length<=8): ∀(e:Ex),e.wf N->(bT e).length+7<=16*2 ^ e.dp:=by
 intro e
 have dbl: ∀a b c:Nat,a+7<=16*2 ^ b->b<=c->a+7<=16*2 ^ c:=fun a b c h1 h2=>Nat.le_trans h1 (Nat.mul_le_mul_left _ (Nat.pow_le_pow_right (by decide) h2))
 induction e with
 | name t=>intro wf;have:=hN t wf;simp only [bT,Ex.dp];omega
 | same=>intro _;decide
 | all=>intro _;decide
 | none=>intro _;decide
 | turned a ih=>intro wf;have:=ih wf;have b:=jc (decide (lvl a<3)) 40 41 (bT a);simp only [bT,Ex.dp,List.length_cons,Nat.pow_succ];omega
 | closed a ih=>intro wf;have:=ih wf;have b:=jc (decide (lvl a<3)) 40 41 (bT a);simp only [bT,Ex.dp,List.length_cons,Nat.pow_succ];omega
 | plus a b ia ib=>intro wf;have h1:=dbl _ _ (max a.dp b.dp) (ia wf.1) (by omega);have h2:=dbl _ _ (max a.dp b.dp) (ib wf.2) (by omega);have b1:=jc (decide (lvl a<0)) 40 41 (bT a);have b2:=jc (decide (lvl b<1)) 40 41 (bT b);simp only [bT,Ex.dp,List.length_append,List.length_cons,Nat.pow_succ];omega
 | less a b ia ib=>intro wf;have h1:=dbl _ _ (max a.dp b.dp) (ia wf.1) (by omega);have h2:=dbl _ _ (max a.dp b.dp) (ib wf.2) (by omega);have b1:=jc (decide (lvl a<0)) 40 41 (bT a);have b2:=jc (decide (lvl b<1)) 40 41 (bT b);simp only [bT,Ex.dp,List.length_append,List.length_cons,Nat.pow_succ];omega
 | both a b ia ib=>intro wf;have h1:=dbl _ _ (max a.dp b.dp) (ia wf.1) (by omega);have h2:=dbl _ _ (max a.dp b.dp) (ib wf.2) (by omega);have b1:=jc (decide (lvl a<1)) 40 41 (bT a);have b2:=jc (decide (lvl b<2)) 40 41 (bT b);simp only [bT,Ex.dp,List.length_append,List.length_cons,Nat.pow_succ];omega
 | joined a b ia ib=>intro wf;have h1:=dbl _ _ (max a.dp b.dp) (ia wf.1) (by omega);have h2:=dbl _ _ (max a.dp b.dp) (ib wf.2) (by omega);have b1:=jc (decide (lvl a<2)) 40 41 (bT a);have b2:=jc (decide (lvl b<3)) 40 41 (bT b);simp only [bT,Ex.dp,List.length_append,List.length_cons,Nat.pow_succ];omega
theorem jaa: ∀k:Nat,k<1000->(intT (k:Int)).length<=20:=by
 intro k hk
 have h:(toString (k:Int))=Nat.repr k:=rfl
 unfold intT
 rw [h,List.length_map,String.length_toList]
 exact Nat.le_trans ((Nat.length_repr_le_iff (n:=k) (by decide:0<20)).mpr (Nat.lt_trans hk (by decide))) (Nat.le_refl _)
theorem xaD {N:List Tx}(hN: ∀t∈N,t.length<=8) (f:Fc) (wf:f.wf N):(fT f).length+9<=100*2 ^ f.dp:=by
 have dbl: ∀a b c:Nat,a+7<=16*2 ^ b->b<=c->a+7<=16*2 ^ c:=fun a b c h1 h2=>Nat.le_trans h1 (Nat.mul_le_mul_left _ (Nat.pow_le_pow_right (by decide) h2))
 cases f with
 | inn a b=>have h1:=dbl _ _ (max a.dp b.dp) (Xk hN a wf.1) (by omega);have h2:=dbl _ _ (max a.dp b.dp) (Xk hN b wf.2) (by omega);simp only [fT,Fc.dp,List.length_append,List.length_cons];omega
 | equ a b=>have h1:=dbl _ _ (max a.dp b.dp) (Xk hN a wf.1) (by omega);have h2:=dbl _ _ (max a.dp b.dp) (Xk hN b wf.2) (by omega);simp only [fT,Fc.dp,List.length_append,List.length_cons];omega
 | som a=>have h1:=Xk hN a wf;simp only [fT,Fc.dp,List.length_append,List.length_cons,List.length_nil];omega
 | non a=>have h1:=Xk hN a wf;simp only [fT,Fc.dp,List.length_append,List.length_cons,List.length_nil];omega
 | cnt s k a=>
  have h1:=Xk hN a wf.2
  have h2:=jaa k wf.1.2
  have h4:0<2 ^ a.dp:=Nat.pow_pos (by decide)
  have h3:(wd s).length<=10:=by
   have hs:=wf.1.1
   simp only [List.mem_cons,List.not_mem_nil,or_false]at hs
   rcases hs with rfl | rfl | rfl | rfl<;>decide
  simp only [fT,Fc.dp,List.length_append,List.length_cons];omega
theorem jas {N:List Tx}(hN: ∀t∈N,t.length<=8): ∀(s:Sy),s.wf N->(sT s).length+9<=100*2 ^ s.dp:=by
 have dbl: ∀a b c:Nat,a+9<=100*2 ^ b->b<=c->a+9<=100*2 ^ c:=fun a b c h1 h2=>Nat.le_trans h1 (Nat.mul_le_mul_left _ (Nat.pow_le_pow_right (by decide) h2))
 intro s
 induction s with
 | fact f=>exact xaD hN f
 | neg a ih=>intro wf;have:=ih wf;have b:=jc (decide (slv a<2)) 91 93 (sT a);simp only [sT,Sy.dp,List.length_cons,Nat.pow_succ];omega
 | conj a b ia ib=>intro wf;have h1:=dbl _ _ (max a.dp b.dp) (ia wf.1) (by omega);have h2:=dbl _ _ (max a.dp b.dp) (ib wf.2) (by omega);have b1:=jc (decide (slv a<1)) 91 93 (sT a);have b2:=jc (decide (slv b<2)) 91 93 (sT b);simp only [sT,Sy.dp,List.length_append,List.length_cons,List.length_nil,Nat.pow_succ];omega
 | disj a b ia ib=>intro wf;have h1:=dbl _ _ (max a.dp b.dp) (ia wf.1) (by omega);have h2:=dbl _ _ (max a.dp b.dp) (ib wf.2) (by omega);have b1:=jc (decide (slv a<0)) 91 93 (sT a);have b2:=jc (decide (slv b<1)) 91 93 (sT b);simp only [sT,Sy.dp,List.length_append,List.length_cons,List.length_nil,Nat.pow_succ];omega
theorem xau {N:List Tx}: ∀(s:Sy),s.wf N-> ∀e∈px s,e.wf N/\e.dp<=s.dp:=by
 intro s
 induction s with
 | fact f=>
  intro wf e he
  cases f with
  | inn a b=>
   simp only [px,fx,List.mem_cons,List.not_mem_nil,or_false]at he
   rcases he with rfl | rfl
   ·exact⟨wf.1,by simp only [Sy.dp,Fc.dp];omega⟩
   ·exact⟨wf.2,by simp only [Sy.dp,Fc.dp];omega⟩
  | equ a b=>
   simp only [px,fx,List.mem_cons,List.not_mem_nil,or_false]at he
   rcases he with rfl | rfl
   ·exact⟨wf.1,by simp only [Sy.dp,Fc.dp];omega⟩
   ·exact⟨wf.2,by simp only [Sy.dp,Fc.dp];omega⟩
  | som a=>simp only [px,fx,List.mem_cons,List.not_mem_nil,or_false]at he;subst he;exact⟨wf,Nat.le_refl _⟩
  | non a=>simp only [px,fx,List.mem_cons,List.not_mem_nil,or_false]at he;subst he;exact⟨wf,Nat.le_refl _⟩
  | cnt s k a=>simp only [px,fx,List.mem_cons,List.not_mem_nil,or_false]at he;subst he;exact⟨wf.2,Nat.le_refl _⟩
 | neg a ih=>intro wf e he;have:=ih wf e he;exact⟨this.1,by simp only [Sy.dp];omega⟩
 | conj a b ia ib=>intro wf e he;have:=ia wf.1 e he;exact⟨this.1,by simp only [Sy.dp];omega⟩
 | disj a b ia ib=>intro wf e he;have:=ia wf.1 e he;exact⟨this.1,by simp only [Sy.dp];omega⟩
theorem JQ (s:Tx) (h:AH):cmpD .ne (.v (.str s)) (.v (.str s)) h=some false:=by simp [eqOk]
abbrev laS (ns:List Int) (K T:List Tx) (x2 x3 x4 x5 x6:Option W):Sl:= [some (scD ns),some (.v (wD K T)),x2,x3,x4,x5,x6]
theorem XS {m:Nat}(hm:17<=m){ns:List Int}{K T:List Tx}(hN: ∀t∈K++T,t.length<=8){x2 x3 x4 x5:Option W}{e:Ex}(we:e.wf (K++T)) (de:e.dp<=8) (h:AH):execs ⟨call prog (m+1),prog.cl,prog.con⟩ b_law_1 (laS ns K T x2 x3 x4 x5 (some (.v (exD e)))) h= .next (laS ns K T x2 x3 x4 (some (.v (.str (bT e)))) (some (.v (exD e)))) h:=by
 have hl:=Xk hN e we
 have hp:16*2 ^ e.dp<=16*2 ^ 8:=Nat.mul_le_mul_left _ (Nat.pow_le_pow_right (by decide) de)
 have e1:=xg h e (by omega) m (by omega)
 have e2:=Q9 h e (by omega) m (by omega) 0
 rw [br0]at e2
 have e2:call prog (m+1) "_law_text" [.v (exD e),.v (.int 0)] h= .ok (.v (.str (bT e))) h:=e2
 simp only [b_law_1]
 rw [za (τ1:=laS ns K T x2 x3 x4 (some (.v (.str (bT e)))) (some (.v (exD e)))) (h1:=h) (by simp_all [e1])]
 rw [zb (by simp_all [isT_str,Ty.le_self,e2,JQ])]
 rfl
theorem zK {m:Nat}(hm:17<=m){ns:List Int}{K T:List Tx}(hN: ∀t∈K++T,t.length<=8){x2 x3 x4:Option W}(h:AH): ∀(es:List Ex),(∀ e∈es,e.wf (K++T)/\e.dp<=8)-> ∀x5 x6,∃y5 y6,
 forGo (bindT [6] true) (fun τ h=>execs ⟨call prog (m+1),prog.cl,prog.con⟩ b_law_1 τ h) (es.map exD) (laS ns K T x2 x3 x4 x5 x6) h= .next (laS ns K T x2 x3 x4 y5 y6) h
 | [],_,x5,x6=>⟨x5,x6,rfl⟩
 | e::es,ok,x5,x6=>by
  have b1:=XS (m:=m) hm (ns:=ns) hN (x2:=x2) (x3:=x3) (x4:=x4) (x5:=x5) (ok e List.mem_cons_self).1 (ok e List.mem_cons_self).2 h
  obtain⟨y5,y6,q⟩:=zK hm (ns:=ns) hN (x2:=x2) (x3:=x3) (x4:=x4) h es (fun e he=>ok e (List.mem_cons_of_mem _ he)) (some (.v (.str (bT e)))) (some (.v (exD e)))
  exact⟨y5,y6,by rw [List.map_cons,Qj (τ1:=laS ns K T x2 x3 x4 x5 (some (.v (exD e)))) rfl b1,q]⟩
theorem zT {k:Nat}(hk:12<=k){ns:List Int}(hs:ns.length<=63){K T:List Tx}(hN: ∀t∈K++T,t.length<=8) (hl:(K++T).length<=100){j:Nat}{x3 x4 x5 x6:Option W}{h:AH}(P:PH h):
 ∃y3 y4 y5 y6 h',PH h'/\execs ⟨call prog (k+12),prog.cl,prog.con⟩ b_law_2 (laS ns K T (some (.v (.int (j:Int)))) x3 x4 x5 x6) h= .next (laS ns K T (some (.v (.int (j:Int)))) y3 y4 y5 y6) h':=by
 obtain⟨a1,f1,g1,e1⟩:=Js (k+10) ns hs j h
 have P1:=P.app a1 f1 g1
 have l1:(h++ [Cell.lst [D.int a1,D.int f1,D.int g1]]).length=h.length+1:=by simp
 obtain⟨v,h2,hv,P2,l2,e2⟩:=Wd (k+11) P1 (show h.length<(h++ [Cell.lst [D.int a1,D.int f1,D.int g1]]).length by omega) (show 0<5 by decide) (by decide)
 have e2:call prog (k+12) "_law_next" [.v (.ref h.length),.v (.int 5)] (h++ [Cell.lst [D.int a1,D.int f1,D.int g1]])= .ok (.v (.int (v:Int))) h2:=e2
 obtain⟨s,h3,ws,ds,P3,l3,e3⟩:=Xs h.length (K++T) hl v (k+4-v) h2 P2 (by omega)
 rw [show k+4-v+v+8=k+12 by omega]at e3
 have hs8:s.dp<=8:=by omega
 have sl:=jas hN s ws
 have hp:100*2 ^ s.dp<=100*2 ^ 8:=Nat.mul_le_mul_left _ (Nat.pow_le_pow_right (by decide) hs8)
 have e4:=zas h3 s ws (by omega) (k+11) (by omega)
 have e5:=jaJ h3 s ws (by omega) (k+11) (by omega) 0
 have e5:call prog (k+12) "_law_saying_text" [.v (syD s),.v (.int 0)] h3= .ok (.v (.str (sT s))) h3:=by
  rw [show br (decide (slv s<0)) 91 93 (sT s)=sT s by simp [br]]at e5
  exact e5
 have e6:=zaa h3 s ws (k+11) (by omega)
 have p1:=zh (F:=⟨call prog (k+12),prog.cl,prog.con⟩) (f:= "_law_purse") (es:= .cons (.var 0) (.cons (.var 2) .nil)) (τ:=laS ns K T (some (.v (.int (j:Int)))) x3 x4 x5 x6) (h:=h) (ws:= [scD ns,.v (.int (j:Int))]) (xs:= [D.int a1,D.int f1,D.int g1]) rfl e1 rfl
 have ct: ∀h,binD .add (.v (tsD K)) (.v (tsD T)) h= .ok (.v (tsD (K++T))) h:=fun h=>by
  rw [bin_tups,if_pos (by rw [LIM_eq];simp at hl ⊢;omega),←List.map_append]
 obtain⟨y5,y6,e7⟩:=zK (m:=k+11) (by omega) (ns:=ns) hN (x2:=some (.v (.int (j:Int)))) (x3:=some (.v (.ref h.length))) (x4:=some (.v (syD s))) h3 (px s) (fun e he=>⟨(xau s ws e he).1,by have:=(xau s ws e he).2;omega⟩) (some (.v (.str (sT s)))) x6
 refine⟨some (.v (.ref h.length)),some (.v (syD s)),y5,y6,h3,P3,?_⟩
 simp only [b_law_2]
 rw [za (τ1:=laS ns K T (some (.v (.int (j:Int)))) (some (.v (.ref h.length))) x4 x5 x6) (h1:=h++ [Cell.lst [D.int a1,D.int f1,D.int g1]]) (by rw [exec,p1];rfl)]
 rw [za (τ1:=laS ns K T (some (.v (.int (j:Int)))) (some (.v (.ref h.length))) (some (.v (syD s))) x5 x6) (h1:=h3) (by simp_all [e2,ix_tup,jaP,xaQ,ct,e3])]
 rw [za (τ1:=laS ns K T (some (.v (.int (j:Int)))) (some (.v (.ref h.length))) (some (.v (syD s))) (some (.v (.str (sT s)))) x6) (h1:=h3) (by simp_all [e4])]
 rw [zb (by simp_all [isT_str,Ty.le_self,e5,JQ])]
 rw [Xa (τ1:=laS ns K T (some (.v (.int (j:Int)))) (some (.v (.ref h.length))) (some (.v (syD s))) y5 y6) (h1:=h3)]
 rw [exec]
 have lp:evalLp ⟨call prog (k+12),prog.cl,prog.con⟩ (.seq (.call "_law_parts" (.cons (.var 4) .nil))) (laS ns K T (some (.v (.int (j:Int)))) (some (.v (.ref h.length))) (some (.v (syD s))) (some (.v (.str (sT s)))) x6) h3= .ok ((px s).map exD) h3:=by
  simp_all [e6]
 rw [lp,R.toO_ok]
 exact e7
theorem WP {k:Nat}(hk:12<=k){ns:List Int}(hs:ns.length<=63){K T:List Tx}(hN: ∀t∈K++T,t.length<=8) (hl:(K++T).length<=100): ∀(js:List Nat) (x2 x3 x4 x5 x6:Option W) (h:AH),PH h-> ∃y2 y3 y4 y5 y6 h',PH h' ∧
 forGo (bindT [2] true) (fun τ h=>execs ⟨call prog (k+12),prog.cl,prog.con⟩ b_law_2 τ h) (js.map fun(j:Nat)=> .int (j:Int)) (laS ns K T x2 x3 x4 x5 x6) h= .next (laS ns K T y2 y3 y4 y5 y6) h'
 | [],x2,x3,x4,x5,x6,h,P=>⟨x2,x3,x4,x5,x6,h,P,rfl⟩
 | j::js,x2,x3,x4,x5,x6,h,P=>by
  obtain⟨y3,y4,y5,y6,h1,P1,e1⟩:=zT (k:=k) hk hs hN hl (j:=j) (x3:=x3) (x4:=x4) (x5:=x5) (x6:=x6) P
  obtain⟨z2,z3,z4,z5,z6,h2,P2,e2⟩:=WP hk hs hN hl js (some (.v (.int (j:Int)))) y3 y4 y5 y6 h1 P1
  refine⟨z2,z3,z4,z5,z6,h2,P2,?_⟩
  rw [List.map_cons,Qj (τ1:=laS ns K T (some (.v (.int (j:Int)))) x3 x4 x5 x6) rfl e1,e2]
theorem hlaw (ns:List Int) (hl:ns.length<=63): ∃h',call prog 40 "law" [.v (.lst (ns.map .int))] []= .ok (.v (.bl true)) h':=by
 obtain⟨K,T,h0,hK,hT,nm,P0,l0,e0⟩:=qad 35 ns hl [] PH.nil
 have hN: ∀t∈K++T,t.length<=8:=fun t ht=>(nm.good t ht).hi
 have hN2:(K++T).length<=100:=by simp;omega
 obtain⟨m,hm,em⟩: ∃m:Nat,4<=m/\m<=23/\ ∀h,(biD .min [.v (.int 23),.v (.int (ns.length:Int))] h).bind (fun x h=>biD .max [.v (.int 4),x] h)= .ok (.v (.int (m:Int))) h:=by
  by_cases q:(ns.length:Int)<23
  ·by_cases q2:ns.length>4
   ·exact⟨ns.length,by omega,by omega,fun h=>by rw [min_ints,if_pos q,R.bind_ok,max_ints,if_pos (by omega)]⟩
   ·exact⟨4,by omega,by omega,fun h=>by rw [min_ints,if_pos q,R.bind_ok,max_ints,if_neg (by omega)];rfl⟩
  ·exact⟨23,by omega,by omega,fun h=>by rw [min_ints,if_neg q,R.bind_ok,max_ints,if_pos (by decide)];rfl⟩
 obtain⟨y2,y3,y4,y5,y6,h7,P7,e7⟩:=WP (k:=27) (by decide) hl hN hN2 ((List.range (m-3)).map (3+ ·)) none none none none none h0 P0
 obtain⟨h8,e9,_⟩:=xaA (d:= .bl true) (n:=0) (h:=h7) rfl (Nat.zero_le _)
 refine⟨h8,?_⟩
 rw [call_of (d:=d_law) rfl _ _ _ rfl]
 simp only [d_law]
 show finO 0 (execs _ _ [some (scD ns),none,none,none,none,none,none] [])=_
 rw [za (τ1:=laS ns K T none none none none none) (h1:=h0) (by simp only [scD]at e0;simp_all [e0])]
 rw [za (τ1:=laS ns K T y2 y3 y4 y5 y6) (h1:=h7) ?_]
 ·rw [Wa (w:= .v (.bl true)) (h1:=h7) (xf rfl rfl),e9]
 ·rw [exec]
  have eb:=em.2 h0
  have ln:biD .len [scD ns] h0= .ok (.v (.int (ns.length:Int))) h0:=by rw [len_lst];simp
  rw [qS]
  have hb: ∀m:Nat,m<=23->(-(B62)<=(3:Int)/\(3:Int)<B62)/\(-(B62)<=(m:Int)/\(m:Int)<B62):=fun m hm=>by rw [B62_eq];omega
  have ev:eval ⟨call prog 39,prog.cl,prog.con⟩ (.bi .max (.cons (.int 4) (.cons (.bi .min (.cons (.int 23) (.cons (.bi .len (.cons (.var 0) .nil)) .nil))) .nil))) (laS ns K T none none none none none) h0= .ok (.v (.int (m:Int))) h0:=by
   simp only [eval,evalWs,readS,getS,R.bind_ok,ln]
   rw [← eb]
   cases biD .min [.v (.int 23),.v (.int (ns.length:Int))] h0<;>rfl
  rw [evalIt]
  rw [show eval ⟨call prog 39,prog.cl,prog.con⟩ (.int 3) (laS ns K T none none none none none) h0= .ok (.v (.int 3)) h0 from rfl,R.bind_ok,int?_int,R.of_some,R.bind_ok,ev,R.bind_ok,int?_int,R.of_some,R.bind_ok,if_pos (hb m em.1),R.toO_ok]
  have hr:((List.range ((m:Int)-3).toNat).map fun(k:Nat)=>D.int (3+(k:Int)))=((List.range (m-3)).map (3+ ·)).map fun(j:Nat)=>D.int (j:Int):=by
   rw [List.map_map,show((m:Int)-3).toNat=m-3 by omega]
   rfl
  rw [hr]
  exact e7
end M
namespace L2.MS
open PySem PyProof.Rows
def top (i:Nat):Stmt:=PySem.Challenge.pw_worldfind_k14_texts_shown.main.body.getD i (.Pass ⟨0,0,0,0⟩)
def fnsL:List String:= ["expression_of_rank", "shown_expression", "saying_of_rank", "shown_fact", "shown_saying", "_law_cell", "_law_purse", "_law_next", "_law_family", "_law_any_names", "_law_words", "_law_leaf", "_law_expression", "_law_fact", "_law_saying", "_law_level", "_law_text", "_law_saying_level", "_law_saying_text", "_law_parts", "law"]
def ownL:List String:= []
def raiL:List String:= []
def hndL:List String:= []
abbrev CF (s:Stmt) (N:List Str):Cf:=⟨defScope s,N,fnsL,ownL,raiL,hndL⟩
abbrev s_expression_of_rank:Stmt:=top 7
abbrev n_expression_of_rank:List Str:= ["expression", "least_rank", "text"]
theorem Qf:FnScope n_expression_of_rank ["expression", "least_rank"] (defScope s_expression_of_rank):=by constructor<;>first | rfl | decide +kernel
theorem jh:chkSs (CF s_expression_of_rank n_expression_of_rank) M.d_expression_of_rank.body (defBody s_expression_of_rank)=true:=by decide +kernel
abbrev s_shown_expression:Stmt:=top 8
abbrev n_shown_expression:List Str:= ["expression", "sort", "sign", "rank", "left", "right"]
theorem xi:FnScope n_shown_expression ["expression"] (defScope s_shown_expression):=by constructor<;>first | rfl | decide +kernel
theorem Wi:chkSs (CF s_shown_expression n_shown_expression) M.d_shown_expression.body (defBody s_shown_expression)=true:=by decide +kernel
abbrev s_saying_of_rank:Stmt:=top 9
abbrev n_saying_of_rank:List Str:= ["saying", "least_rank", "text"]
theorem wk:FnScope n_saying_of_rank ["saying", "least_rank"] (defScope s_saying_of_rank):=by constructor<;>first | rfl | decide +kernel
theorem ql:chkSs (CF s_saying_of_rank n_saying_of_rank) M.d_saying_of_rank.body (defBody s_saying_of_rank)=true:=by decide +kernel
abbrev s_shown_fact:Stmt:=top 10
abbrev n_shown_fact:List Str:= ["fact", "word", "last", "first", "limit"]
theorem Wt:FnScope n_shown_fact ["fact"] (defScope s_shown_fact):=by constructor<;>first | rfl | decide +kernel
theorem Xw:chkSs (CF s_shown_fact n_shown_fact) M.d_shown_fact.body (defBody s_shown_fact)=true:=by decide +kernel
abbrev s_shown_saying:Stmt:=top 11
abbrev n_shown_saying:List Str:= ["saying", "sort", "rank", "left", "right"]
theorem zo:FnScope n_shown_saying ["saying"] (defScope s_shown_saying):=by constructor<;>first | rfl | decide +kernel
theorem Wp:chkSs (CF s_shown_saying n_shown_saying) M.d_shown_saying.body (defBody s_shown_saying)=true:=by decide +kernel
abbrev s_law_cell:Stmt:=top 13
abbrev n_law_cell:List Str:= ["_law_script", "_law_k"]
theorem zC:FnScope n_law_cell ["_law_script", "_law_k"] (defScope s_law_cell):=by constructor<;>first | rfl | decide +kernel
theorem QI:chkSs (CF s_law_cell n_law_cell) M.d_law_cell.body (defBody s_law_cell)=true:=by decide +kernel
abbrev s_law_purse:Stmt:=top 14
abbrev n_law_purse:List Str:= ["_law_script", "_law_k", "_law_cell_here"]
theorem qx:FnScope n_law_purse ["_law_script", "_law_k"] (defScope s_law_purse):=by constructor<;>first | rfl | decide +kernel
theorem QD:chkSs (CF s_law_purse n_law_purse) M.d_law_purse.body (defBody s_law_purse)=true:=by decide +kernel
abbrev s_law_next:Stmt:=top 15
abbrev n_law_next:List Str:= ["_law_purse_here", "_law_many", "_law_answer", "_law_other"]
theorem WC:FnScope n_law_next ["_law_purse_here", "_law_many"] (defScope s_law_next):=by constructor<;>first | rfl | decide +kernel
theorem JH:chkSs (CF s_law_next n_law_next) M.d_law_next.body (defBody s_law_next)=true:=by decide +kernel
abbrev s_law_family:Stmt:=top 16
abbrev n_law_family:List Str:= ["_law_cell_here", "_law_many", "_law_letters", "_law_first", "_law_near", "_law_stem", "_law_at"]
theorem xu:FnScope n_law_family ["_law_cell_here", "_law_many"] (defScope s_law_family):=by constructor<;>first | rfl | decide +kernel
theorem xy:chkSs (CF s_law_family n_law_family) M.d_law_family.body (defBody s_law_family)=true:=by decide +kernel
abbrev s_law_any_names:Stmt:=top 17
abbrev n_law_any_names:List Str:= ["_law_script", "_law_kinds", "_law_ties", "_law_letters", "_law_taken", "_law_answer", "_law_purse_here", "_law_size", "_law_name", "_law_some"]
theorem Wk:FnScope n_law_any_names ["_law_script", "_law_kinds", "_law_ties"] (defScope s_law_any_names):=by constructor<;>first | rfl | decide +kernel
theorem Jn:chkSs (CF s_law_any_names n_law_any_names) M.d_law_any_names.body (defBody s_law_any_names)=true:=by decide +kernel
abbrev s_law_words:Stmt:=top 18
abbrev n_law_words:List Str:= ["_law_script", "_law_purse_here", "_law_kinds", "_law_ties", "_law_number", "_law_names"]
theorem ZA:FnScope n_law_words ["_law_script"] (defScope s_law_words):=by constructor<;>first | rfl | decide +kernel
theorem xC:chkSs (CF s_law_words n_law_words) M.d_law_words.body (defBody s_law_words)=true:=by decide +kernel
abbrev s_law_leaf:Stmt:=top 19
abbrev n_law_leaf:List Str:= ["_law_purse_here", "_law_names", "_law_some"]
theorem zB:FnScope n_law_leaf ["_law_purse_here", "_law_names"] (defScope s_law_leaf):=by constructor<;>first | rfl | decide +kernel
theorem WI:chkSs (CF s_law_leaf n_law_leaf) M.d_law_leaf.body (defBody s_law_leaf)=true:=by decide +kernel
abbrev s_law_expression:Stmt:=top 20
abbrev n_law_expression:List Str:= ["_law_purse_here", "_law_depth", "_law_names", "_law_style", "_law_one", "_law_other"]
theorem Zj:FnScope n_law_expression ["_law_purse_here", "_law_depth", "_law_names"] (defScope s_law_expression):=by constructor<;>first | rfl | decide +kernel
theorem zl:chkSs (CF s_law_expression n_law_expression) M.d_law_expression.body (defBody s_law_expression)=true:=by decide +kernel
abbrev s_law_fact:Stmt:=top 21
abbrev n_law_fact:List Str:= ["_law_purse_here", "_law_names", "_law_style", "_law_one", "_law_many"]
theorem QB:FnScope n_law_fact ["_law_purse_here", "_law_names"] (defScope s_law_fact):=by constructor<;>first | rfl | decide +kernel
theorem ZJ:chkSs (CF s_law_fact n_law_fact) M.d_law_fact.body (defBody s_law_fact)=true:=by decide +kernel
abbrev s_law_saying:Stmt:=top 22
abbrev n_law_saying:List Str:= ["_law_purse_here", "_law_depth", "_law_names", "_law_style", "_law_one"]
theorem Zs:FnScope n_law_saying ["_law_purse_here", "_law_depth", "_law_names"] (defScope s_law_saying):=by constructor<;>first | rfl | decide +kernel
theorem Zw:chkSs (CF s_law_saying n_law_saying) M.d_law_saying.body (defBody s_law_saying)=true:=by decide +kernel
abbrev s_law_level:Stmt:=top 23
abbrev n_law_level:List Str:= ["_law_expression_here"]
theorem jx:FnScope n_law_level ["_law_expression_here"] (defScope s_law_level):=by constructor<;>first | rfl | decide +kernel
theorem QC:chkSs (CF s_law_level n_law_level) M.d_law_level.body (defBody s_law_level)=true:=by decide +kernel
abbrev s_law_text:Stmt:=top 24
abbrev n_law_text:List Str:= ["_law_expression_here", "_law_level_here", "_law_word", "_law_text_here", "_law_sign", "_law_here"]
theorem XB:FnScope n_law_text ["_law_expression_here", "_law_level_here"] (defScope s_law_text):=by constructor<;>first | rfl | decide +kernel
theorem WH:chkSs (CF s_law_text n_law_text) M.d_law_text.body (defBody s_law_text)=true:=by decide +kernel
abbrev s_law_saying_level:Stmt:=top 25
abbrev n_law_saying_level:List Str:= ["_law_saying_here"]
theorem Xh:FnScope n_law_saying_level ["_law_saying_here"] (defScope s_law_saying_level):=by constructor<;>first | rfl | decide +kernel
theorem jj:chkSs (CF s_law_saying_level n_law_saying_level) M.d_law_saying_level.body (defBody s_law_saying_level)=true:=by decide +kernel
abbrev s_law_saying_text:Stmt:=top 26
abbrev n_law_saying_text:List Str:= ["_law_saying_here", "_law_level_here", "_law_word", "_law_here", "_law_text_here", "_law_sign"]
theorem Zi:FnScope n_law_saying_text ["_law_saying_here", "_law_level_here"] (defScope s_law_saying_text):=by constructor<;>first | rfl | decide +kernel
theorem Wj:chkSs (CF s_law_saying_text n_law_saying_text) M.d_law_saying_text.body (defBody s_law_saying_text)=true:=by decide +kernel
abbrev s_law_parts:Stmt:=top 27
abbrev n_law_parts:List Str:= ["_law_saying_here"]
theorem qv:FnScope n_law_parts ["_law_saying_here"] (defScope s_law_parts):=by constructor<;>first | rfl | decide +kernel
theorem wB:chkSs (CF s_law_parts n_law_parts) M.d_law_parts.body (defBody s_law_parts)=true:=by decide +kernel
abbrev s_law:Stmt:=top 28
abbrev n_law:List Str:= ["_law_script", "_law_words_here", "_law_k", "_law_purse_here", "_law_saying_here", "_law_text_here", "_law_expression_here"]
theorem j7:FnScope n_law ["_law_script"] (defScope s_law):=by constructor<;>first | rfl | decide +kernel
theorem zaG:chkSs (CF s_law n_law) M.d_law.body (defBody s_law)=true:=by decide +kernel
end L2.MS
namespace L2.MS
open PySem PyProof.Rows
structure FP (K:PySem.W.Frag) (n:Str) (s:Stmt) (f:Addr) (oc:Value) (od an:Option Addr) (sl:Array (Option Value)) (kV dc pm cd ct:Value):Prop where
 a:PySem.W.nsIn K mainGlobals n=some (some (.ref f))
 l:K.lookup f=some ⟨oc,od,.func (PySem.W.fnOf n n (defArgs s) (defBody s) (defScope s) .none kV dc pm an cd ct),sl⟩
 c:PySem.W.codeIn K cd n=true
 k:PySem.W.keepIn K (.ref f)=true
theorem mkf {K:PySem.W.Frag}{mg:Str->Option Value}{h:Heap}(X:K.In h) (G:h.Ns mainGlobals mg){f:String}{st:Stmt}{fa:Addr}{oc:Value}{od an:Option Addr}{sl:Array (Option Value)}{kV dc pm cd ct:Value}(p:FP K (strS f) st fa oc od an sl kV dc pm cd ct){N ps:List Str}{d:M.Fn}(sc:FnScope N ps (defScope st)) (ck:chkSs (CF st N) d.body (defBody st)=true) (hd:M.prog.fns.lookup f=some d) (n:N.length=d.n) (q:ps.length=d.ps) (le:d.ps<=d.n) (hb: ∀(kV doc pm:Value) (an:Option Addr) (cdv ct:Value) (us:List Value),us.length=ps.length->bindArgs (PySem.W.fnOf (strS f) (strS f) (defArgs st) (defBody st) (defScope st) .none kV doc pm an cdv ct) ⟨us,[]⟩=pure (ps.zip us)): ∃d,M.prog.fns.lookup f=some d/\ ∃t:Txt K mg f,TxtOk t d fnsL ownL raiL hndL:=
 have F:=j8 (st:=st) p.l p.c p.k
 ⟨d,hd,⟨st,fa,_,N,ps⟩,⟨F,F.binds hb,p.k,PySem.W.mg_of X G p.a,sc,n,q,le,ck⟩⟩
theorem Z4 {α:Type}: ∀ {l:List (String×α)}{x:String}{d:α},l.lookup x=some d->(x,d)∈l
 | (k,v)::l,x,d,h=>by
  rw [List.lookup_cons]at h
  by_cases q:(x==k)=true
  ·rw [q]at h;cases h;rw [eq_of_beq q];exact List.mem_cons_self
  ·rw [eq_false_of_ne_true q]at h;exact List.mem_cons_of_mem _ (Z4 h)
theorem all_mk {l:PySem.W.OpenLaw}{w:World}{K:PySem.W.Frag}{h:Heap}{mg:Str->Option Value}{fa:Addr}(X:K.In h) (G:h.Ns mainGlobals mg) (hfa:mg "law" =some (.ref fa))
 {f0 f1 f2 f3 f4 f5 f6 f7 f8 f9 f10 f11 f12 f13 f14 f15 f16 f17 f18 f19 f20:Addr}
 (p0:FP K "expression_of_rank" s_expression_of_rank f0 oc0 od0 an0 sl0 kV0 dc0 pm0 cd0 ct0)
 (p1:FP K "shown_expression" s_shown_expression f1 oc1 od1 an1 sl1 kV1 dc1 pm1 cd1 ct1)
 (p2:FP K "saying_of_rank" s_saying_of_rank f2 oc2 od2 an2 sl2 kV2 dc2 pm2 cd2 ct2)
 (p3:FP K "shown_fact" s_shown_fact f3 oc3 od3 an3 sl3 kV3 dc3 pm3 cd3 ct3)
 (p4:FP K "shown_saying" s_shown_saying f4 oc4 od4 an4 sl4 kV4 dc4 pm4 cd4 ct4)
 (p5:FP K "_law_cell" s_law_cell f5 oc5 od5 an5 sl5 kV5 dc5 pm5 cd5 ct5)
 (p6:FP K "_law_purse" s_law_purse f6 oc6 od6 an6 sl6 kV6 dc6 pm6 cd6 ct6)
 (p7:FP K "_law_next" s_law_next f7 oc7 od7 an7 sl7 kV7 dc7 pm7 cd7 ct7)
 (p8:FP K "_law_family" s_law_family f8 oc8 od8 an8 sl8 kV8 dc8 pm8 cd8 ct8)
 (p9:FP K "_law_any_names" s_law_any_names f9 oc9 od9 an9 sl9 kV9 dc9 pm9 cd9 ct9)
 (p10:FP K "_law_words" s_law_words f10 oc10 od10 an10 sl10 kV10 dc10 pm10 cd10 ct10)
 (p11:FP K "_law_leaf" s_law_leaf f11 oc11 od11 an11 sl11 kV11 dc11 pm11 cd11 ct11)
 (p12:FP K "_law_expression" s_law_expression f12 oc12 od12 an12 sl12 kV12 dc12 pm12 cd12 ct12)
 (p13:FP K "_law_fact" s_law_fact f13 oc13 od13 an13 sl13 kV13 dc13 pm13 cd13 ct13)
 (p14:FP K "_law_saying" s_law_saying f14 oc14 od14 an14 sl14 kV14 dc14 pm14 cd14 ct14)
 (p15:FP K "_law_level" s_law_level f15 oc15 od15 an15 sl15 kV15 dc15 pm15 cd15 ct15)
 (p16:FP K "_law_text" s_law_text f16 oc16 od16 an16 sl16 kV16 dc16 pm16 cd16 ct16)
 (p17:FP K "_law_saying_level" s_law_saying_level f17 oc17 od17 an17 sl17 kV17 dc17 pm17 cd17 ct17)
 (p18:FP K "_law_saying_text" s_law_saying_text f18 oc18 od18 an18 sl18 kV18 dc18 pm18 cd18 ct18)
 (p19:FP K "_law_parts" s_law_parts f19 oc19 od19 an19 sl19 kV19 dc19 pm19 cd19 ct19)
 (p20:FP K "law" s_law f20 oc20 od20 an20 sl20 kV20 dc20 pm20 cd20 ct20)
 (z0:PySem.W.nsIn K mainGlobals "len" =some none)
 (z1:PySem.W.nsIn K mainGlobals "int" =some none)
 (z2:PySem.W.nsIn K mainGlobals "list" =some none)
 (z3:PySem.W.nsIn K mainGlobals "tuple" =some none)
 (z4:PySem.W.nsIn K mainGlobals "sum" =some none)
 (z5:PySem.W.nsIn K mainGlobals "all" =some none)
 (z6:PySem.W.nsIn K mainGlobals "any" =some none)
 (z7:PySem.W.nsIn K mainGlobals "sorted" =some none)
 (z8:PySem.W.nsIn K mainGlobals "divmod" =some none)
 (z9:PySem.W.nsIn K mainGlobals "str" =some none)
 (z10:PySem.W.nsIn K mainGlobals "min" =some none)
 (z11:PySem.W.nsIn K mainGlobals "max" =some none)
 (z12:PySem.W.nsIn K mainGlobals "abs" =some none)
 (z13:PySem.W.nsIn K mainGlobals "isinstance" =some none)
 (z14:PySem.W.nsIn K mainGlobals "bool" =some none)
 (z15:PySem.W.nsIn K mainGlobals "range" =some none)
 (z16:PySem.W.nsIn K mainGlobals "reversed" =some none)
 (z17:PySem.W.nsIn K mainGlobals "zip" =some none)
 (z18:PySem.W.nsIn K mainGlobals "enumerate" =some none)
 (z19:PySem.W.nsIn K mainGlobals "set" =some none)
 (z20:PySem.W.nsIn K mainGlobals "ValueError" =some none)
 {ck0:Tok}(cn0:PySem.W.nsIn K mainGlobals "ATOM_RANK" =some (some (.int 4 ck0)))
 {ka1:Addr}(cn1:PySem.W.nsIn K mainGlobals "EXPRESSION_RANKS" =some (some (.ref ka1)))
 {ch1_0 ch1_1 ch1_2 ch1_3:Int}{ck1_0 cv1_0 ck1_1 cv1_1 ck1_2 cv1_2 ck1_3 cv1_3:Tok}{cm1:Nat}(cl1:K.lookup ka1=some ⟨.type "dict",none,.dict #[⟨ch1_0,.str "plus" ck1_0,.int 1 cv1_0⟩,⟨ch1_1,.str "less" ck1_1,.int 1 cv1_1⟩,⟨ch1_2,.str "both" ck1_2,.int 2 cv1_2⟩,⟨ch1_3,.str "joined" ck1_3,.int 3 cv1_3⟩] cm1, #[]⟩)
 (cy1:(ka1==sysModules)=false)
 {ka2:Addr}(cn2:PySem.W.nsIn K mainGlobals "SIGNS" =some (some (.ref ka2)))
 {ch2_0 ch2_1 ch2_2 ch2_3 ch2_4 ch2_5:Int}{ck2_0 cv2_0 ck2_1 cv2_1 ck2_2 cv2_2 ck2_3 cv2_3 ck2_4 cv2_4 ck2_5 cv2_5:Tok}{cm2:Nat}(cl2:K.lookup ka2=some ⟨.type "dict",none,.dict #[⟨ch2_0,.str "plus" ck2_0,.str "+" cv2_0⟩,⟨ch2_1,.str "less" ck2_1,.str "-" cv2_1⟩,⟨ch2_2,.str "both" ck2_2,.str "&" cv2_2⟩,⟨ch2_3,.str "joined" ck2_3,.str "." cv2_3⟩,⟨ch2_4,.str "turned" ck2_4,.str "~" cv2_4⟩,⟨ch2_5,.str "closed" ck2_5,.str "^" cv2_5⟩] cm2, #[]⟩)
 (cy2:(ka2==sysModules)=false)
 {ck3:Tok}(cn3:PySem.W.nsIn K mainGlobals "UNIT_RANK" =some (some (.int 3 ck3)))
 {ka4:Addr}(cn4:PySem.W.nsIn K mainGlobals "SAYING_RANKS" =some (some (.ref ka4)))
 {ch4_0 ch4_1:Int}{ck4_0 cv4_0 ck4_1 cv4_1:Tok}{cm4:Nat}(cl4:K.lookup ka4=some ⟨.type "dict",none,.dict #[⟨ch4_0,.str "or" ck4_0,.int 1 cv4_0⟩,⟨ch4_1,.str "and" ck4_1,.int 2 cv4_1⟩] cm4, #[]⟩)
 (cy4:(ka4==sysModules)=false)
 {ka5:Addr}(cn5:PySem.W.nsIn K mainGlobals "WORDS" =some (some (.ref ka5)))
 {ch5_0 ch5_1 ch5_2 ch5_3 ch5_4 ch5_5 ch5_6 ch5_7:Int}{ck5_0 cv5_0 ck5_1 cv5_1 ck5_2 cv5_2 ck5_3 cv5_3 ck5_4 cv5_4 ck5_5 cv5_5 ck5_6 cv5_6 ck5_7 cv5_7:Tok}{cm5:Nat}(cl5:K.lookup ka5=some ⟨.type "dict",none,.dict #[⟨ch5_0,.str "in" ck5_0,.str "in" cv5_0⟩,⟨ch5_1,.str "equal" ck5_1,.str "=" cv5_1⟩,⟨ch5_2,.str "some" ck5_2,.str "some" cv5_2⟩,⟨ch5_3,.str "no" ck5_3,.str "no" cv5_3⟩,⟨ch5_4,.str "least" ck5_4,.str "least" cv5_4⟩,⟨ch5_5,.str "most" ck5_5,.str "most" cv5_5⟩,⟨ch5_6,.str "eachleast" ck5_6,.str "each least" cv5_6⟩,⟨ch5_7,.str "eachmost" ck5_7,.str "each most" cv5_7⟩] cm5, #[]⟩)
 (cy5:(ka5==sysModules)=false)
 : ∃fd:FuncData,(∀ (s:Shared) (v:Value),BindsTo s fd ⟨[v],[]⟩ [("_law_script",v)])/\ ∀base:Heap,K.In base->base.Ns mainGlobals mg->FnOk l.prog w K mg base CX0 40 fa fd ["_law_script"] (spLaw K):=by
 have e:=hfa.symm.trans (PySem.W.mg_of X G p20.a)
 cases e
 let Γ:Ge:=⟨K,fun c=>([].lookup c).getD 0,M.prog.cl,ownL⟩
 have pr:PrOk Γ M.prog mg ownL raiL hndL:=by
  refine⟨rfl,rfl,?_,?_,?_,?_,?_⟩
  ·intro x hx
   simp only [bltN,List.mem_cons,List.not_mem_nil,or_false]at hx
   rcases hx with rfl | rfl | rfl | rfl | rfl | rfl | rfl | rfl | rfl | rfl | rfl | rfl | rfl | rfl | rfl | rfl | rfl | rfl | rfl | rfl | rfl
   ·exact PySem.W.mg_none_of X G z0
   ·exact PySem.W.mg_none_of X G z1
   ·exact PySem.W.mg_none_of X G z2
   ·exact PySem.W.mg_none_of X G z3
   ·exact PySem.W.mg_none_of X G z4
   ·exact PySem.W.mg_none_of X G z5
   ·exact PySem.W.mg_none_of X G z6
   ·exact PySem.W.mg_none_of X G z7
   ·exact PySem.W.mg_none_of X G z8
   ·exact PySem.W.mg_none_of X G z9
   ·exact PySem.W.mg_none_of X G z10
   ·exact PySem.W.mg_none_of X G z11
   ·exact PySem.W.mg_none_of X G z12
   ·exact PySem.W.mg_none_of X G z13
   ·exact PySem.W.mg_none_of X G z14
   ·exact PySem.W.mg_none_of X G z15
   ·exact PySem.W.mg_none_of X G z16
   ·exact PySem.W.mg_none_of X G z17
   ·exact PySem.W.mg_none_of X G z18
   ·exact PySem.W.mg_none_of X G z19
   ·exact PySem.W.mg_none_of X G z20
  ·intro x d hd
   have hm:=Z4 hd
   simp only [M.prog,List.mem_cons,List.not_mem_nil,or_false,Prod.mk.injEq]at hm
   rcases hm with⟨rfl,rfl⟩ | ⟨rfl,rfl⟩ | ⟨rfl,rfl⟩ | ⟨rfl,rfl⟩ | ⟨rfl,rfl⟩ | ⟨rfl,rfl⟩
   ·exact⟨_,.int 4,PySem.W.mg_of X G cn0,⟨_,rfl⟩,fun _ _=>rfl⟩
   ·exact⟨_,.ref ka1,PySem.W.mg_of X G cn1,rfl,fun _ _=> .inr ⟨List.cons_ne_nil _ _,ka1,rfl,by show TabK K ka1 _;unfold TabK KTD.tabLook;dsimp only;rw [cy1,cl1];rfl⟩⟩
   ·exact⟨_,.ref ka2,PySem.W.mg_of X G cn2,rfl,fun _ _=> .inr ⟨List.cons_ne_nil _ _,ka2,rfl,by show TabK K ka2 _;unfold TabK KTD.tabLook;dsimp only;rw [cy2,cl2];rfl⟩⟩
   ·exact⟨_,.int 3,PySem.W.mg_of X G cn3,⟨_,rfl⟩,fun _ _=>rfl⟩
   ·exact⟨_,.ref ka4,PySem.W.mg_of X G cn4,rfl,fun _ _=> .inr ⟨List.cons_ne_nil _ _,ka4,rfl,by show TabK K ka4 _;unfold TabK KTD.tabLook;dsimp only;rw [cy4,cl4];rfl⟩⟩
   ·exact⟨_,.ref ka5,PySem.W.mg_of X G cn5,rfl,fun _ _=> .inr ⟨List.cons_ne_nil _ _,ka5,rfl,by show TabK K ka5 _;unfold TabK KTD.tabLook;dsimp only;rw [cy5,cl5];rfl⟩⟩
  ·intro c hc
   simp only [ownL,List.contains_eq_mem,List.mem_cons,List.not_mem_nil,or_false,decide_eq_true_eq]at hc
  ·intro c hc
   simp only [raiL,List.contains_eq_mem,List.mem_cons,List.not_mem_nil,or_false,decide_eq_true_eq]at hc
  ·intro c hc
   simp only [hndL,List.contains_eq_mem,List.mem_cons,List.not_mem_nil,or_false,decide_eq_true_eq]at hc
 have all: ∀f,fnsL.contains f=true-> ∃d,M.prog.fns.lookup f=some d/\ ∃t:Txt Γ.K mg f,TxtOk t d fnsL ownL raiL hndL:=by
  intro f hf
  simp only [fnsL,List.contains_eq_mem,List.mem_cons,List.not_mem_nil,or_false,decide_eq_true_eq]at hf
  rcases hf with rfl | rfl | rfl | rfl | rfl | rfl | rfl | rfl | rfl | rfl | rfl | rfl | rfl | rfl | rfl | rfl | rfl | rfl | rfl | rfl | rfl
  ·exact mkf X G p0 Qf jh rfl rfl rfl (by decide) fun _ _ _ _ _ _ us hl=>match us,hl with | [_,_],_=>rfl
  ·exact mkf X G p1 xi Wi rfl rfl rfl (by decide) fun _ _ _ _ _ _ us hl=>match us,hl with | [_],_=>rfl
  ·exact mkf X G p2 wk ql rfl rfl rfl (by decide) fun _ _ _ _ _ _ us hl=>match us,hl with | [_,_],_=>rfl
  ·exact mkf X G p3 Wt Xw rfl rfl rfl (by decide) fun _ _ _ _ _ _ us hl=>match us,hl with | [_],_=>rfl
  ·exact mkf X G p4 zo Wp rfl rfl rfl (by decide) fun _ _ _ _ _ _ us hl=>match us,hl with | [_],_=>rfl
  ·exact mkf X G p5 zC QI rfl rfl rfl (by decide) fun _ _ _ _ _ _ us hl=>match us,hl with | [_,_],_=>rfl
  ·exact mkf X G p6 qx QD rfl rfl rfl (by decide) fun _ _ _ _ _ _ us hl=>match us,hl with | [_,_],_=>rfl
  ·exact mkf X G p7 WC JH rfl rfl rfl (by decide) fun _ _ _ _ _ _ us hl=>match us,hl with | [_,_],_=>rfl
  ·exact mkf X G p8 xu xy rfl rfl rfl (by decide) fun _ _ _ _ _ _ us hl=>match us,hl with | [_,_],_=>rfl
  ·exact mkf X G p9 Wk Jn rfl rfl rfl (by decide) fun _ _ _ _ _ _ us hl=>match us,hl with | [_,_,_],_=>rfl
  ·exact mkf X G p10 ZA xC rfl rfl rfl (by decide) fun _ _ _ _ _ _ us hl=>match us,hl with | [_],_=>rfl
  ·exact mkf X G p11 zB WI rfl rfl rfl (by decide) fun _ _ _ _ _ _ us hl=>match us,hl with | [_,_],_=>rfl
  ·exact mkf X G p12 Zj zl rfl rfl rfl (by decide) fun _ _ _ _ _ _ us hl=>match us,hl with | [_,_,_],_=>rfl
  ·exact mkf X G p13 QB ZJ rfl rfl rfl (by decide) fun _ _ _ _ _ _ us hl=>match us,hl with | [_,_],_=>rfl
  ·exact mkf X G p14 Zs Zw rfl rfl rfl (by decide) fun _ _ _ _ _ _ us hl=>match us,hl with | [_,_,_],_=>rfl
  ·exact mkf X G p15 jx QC rfl rfl rfl (by decide) fun _ _ _ _ _ _ us hl=>match us,hl with | [_],_=>rfl
  ·exact mkf X G p16 XB WH rfl rfl rfl (by decide) fun _ _ _ _ _ _ us hl=>match us,hl with | [_,_],_=>rfl
  ·exact mkf X G p17 Xh jj rfl rfl rfl (by decide) fun _ _ _ _ _ _ us hl=>match us,hl with | [_],_=>rfl
  ·exact mkf X G p18 Zi Wj rfl rfl rfl (by decide) fun _ _ _ _ _ _ us hl=>match us,hl with | [_,_],_=>rfl
  ·exact mkf X G p19 qv wB rfl rfl rfl (by decide) fun _ _ _ _ _ _ us hl=>match us,hl with | [_],_=>rfl
  ·exact mkf X G p20 j7 zaG rfl rfl rfl (by decide) fun _ _ _ _ _ _ us hl=>match us,hl with | [_],_=>rfl
 refine⟨PySem.W.fnOf "law" "law" (defArgs s_law) (defBody s_law) (defScope s_law) .none kV20 dc20 pm20 an20 cd20 ct20,fun s v=> .of_eq rfl,fun base _ _=> ?_⟩
 have F:=j8 (st:=s_law) p20.l p20.c p20.k
 have z:FnOk l.prog w K mg base (CX1 l.prog w) 40 fa _ ["_law_script"] (spW Γ (M.call M.prog 40 "law")):=zaw (t:=⟨s_law,fa,_,["_law_script", "_law_words_here", "_law_k", "_law_purse_here", "_law_saying_here", "_law_text_here", "_law_expression_here"],["_law_script"]⟩) pr ⟨F,F.binds (fun _ _ _ _ _ _ us hl=>match us,hl with | [_],_=>rfl),p20.k,PySem.W.mg_of X G p20.a,j7,rfl,rfl,by decide,zaG⟩ rfl 39 (fun g hg=>xaE pr all 39 g hg)
 exact jaG (Γ:=Γ) z M.hlaw
end L2.MS
theorem PySem.W.Fast.tw14987526282567799038 : True := trivial
theorem PySem.W.Fast.tw1771238401765292357 : True := trivial
theorem PySem.W.Fast.tw3377120648900253306 : True := trivial
theorem PySem.W.Fast.tw3485602201817735804 : True := trivial
theorem PySem.W.Fast.tw6202176789719845710 : True := trivial
theorem PySem.W.Fast.tw2780694130984855660 : True := trivial
theorem PySem.W.Fast.tw8268337584953037117 : True := trivial
theorem PySem.W.Fast.tw6526230259258922828 : True := trivial
theorem PySem.W.Fast.tw9006006639554723537 : True := trivial
theorem PySem.W.Fast.tw3698032783588428934 : True := trivial
theorem PySem.W.Fast.tw12719569823704737634 : True := trivial
theorem PySem.W.Fast.tw13227988939572713371 : True := trivial
theorem PySem.W.Fast.tw11336842730511142209 : True := trivial
theorem PySem.W.Fast.tw10160687307715532522 : True := trivial
theorem PySem.W.Fast.tw11833123062209884688 : True := trivial
theorem PySem.W.Fast.tw13602230352774870709 : True := trivial
theorem PySem.W.Fast.tw3861368779507632463 : True := trivial
theorem PySem.W.Fast.tw1647613886881897220 : True := trivial
theorem PySem.W.Fast.tw1516258202077473592 : True := trivial
theorem PySem.W.Fast.tw2816226101610203341 : True := trivial
theorem PySem.W.Fast.tw35213096458106077 : True := trivial
theorem PySem.W.Fast.tw17909061317502702456 : True := trivial
theorem PySem.W.Fast.tw5884697481371833426 : True := trivial
theorem PySem.W.Fast.tw7366259480923924108 : True := trivial
theorem PySem.W.Fast.tw13083063741588522697 : True := trivial
theorem PySem.W.Fast.tw11404964077090922655 : True := trivial
theorem PySem.W.Fast.tw6897580801495528050 : True := trivial
theorem PySem.W.Fast.tw4579870945724698145 : True := trivial
theorem PySem.W.Fast.tw14926262997021978462 : True := trivial
theorem PySem.W.Fast.tw15309051890270486064 : True := trivial
theorem PySem.W.Fast.tw9880402839604189910 : True := trivial
theorem PySem.W.Fast.tw17384765097662785651 : True := trivial
theorem PySem.W.Fast.tw15962721719454788692 : True := trivial
theorem PySem.W.Fast.tw1545406139436632911 : True := trivial
theorem PySem.W.Fast.tw10117700565326264796 : True := trivial
theorem PySem.W.Fast.tw1865636338929747795 : True := trivial
theorem PySem.W.Fast.tw10506782370064558117 : True := trivial
theorem PySem.W.Fast.tw1743400544048306617 : True := trivial
theorem PySem.W.Fast.tw18415918589339199693 : True := trivial
theorem PySem.W.Fast.tw18121392589627521540 : True := trivial
theorem PySem.W.Fast.tw12260506933161983745 : True := trivial
theorem PySem.W.Fast.tw2755254552987948873 : True := trivial
theorem PySem.W.Fast.tw8924190374843168810 : True := trivial
theorem PySem.W.Fast.tw2584663505522989930 : True := trivial
theorem PySem.W.Fast.tw13664757541324104400 : True := trivial
theorem PySem.W.Fast.tw16314935042893686621 : True := trivial
theorem PySem.W.Fast.tw2976867887737891892 : True := trivial
theorem PySem.W.Fast.tw328677712960486255 : True := trivial
theorem PySem.W.Fast.tw13141906941181642105 : True := trivial
theorem PySem.W.Fast.tw12083217941272182900 : True := trivial
theorem PySem.W.Fast.tw12869738500893483157 : True := trivial
theorem PySem.W.Fast.tw12971777521712418199 : True := trivial
theorem PySem.W.Fast.tw825168838018649942 : True := trivial
theorem PySem.W.Fast.tw3267782450095143388 : True := trivial
theorem PySem.W.Fast.tw7522003811554838417 : True := trivial
open PySem PySem.W PyProof.Rows
set_option maxRecDepth 100000 in
set_option maxHeartbeats 0 in
theorem PySem.Challenge.cw_worldfind_k14_texts_shown_holds : PySem.Challenge.rw_worldfind_k14_texts_shown.Holds := by
 w_on;o_law;k_head;(case hw=>w_witness2)
 k_fill
 refine L2.MS.walk (l:=PySem.Challenge.rw_worldfind_k14_texts_shown) (x:= "_law_script") 40 ⟨rfl,by decide,by decide⟩ rfl rfl (fun w h Y=>PySem.W.kIn_of Y) ?F
 case F=>
  intro w mg fa h KX G hmg
  refine' L2.MS.all_mk KX G hmg ?p0 ?p1 ?p2 ?p3 ?p4 ?p5 ?p6 ?p7 ?p8 ?p9 ?p10 ?p11 ?p12 ?p13 ?p14 ?p15 ?p16 ?p17 ?p18 ?p19 ?p20 ?z0 ?z1 ?z2 ?z3 ?z4 ?z5 ?z6 ?z7 ?z8 ?z9 ?z10 ?z11 ?z12 ?z13 ?z14 ?z15 ?z16 ?z17 ?z18 ?z19 ?z20 ?cn0 ?cn1 ?cl1 ?cy1 ?cn2 ?cl2 ?cy2 ?cn3 ?cn4 ?cl4 ?cy4 ?cn5 ?cl5 ?cy5
  (case p0=>constructor<;>k_is)
  (case p1=>constructor<;>k_is)
  (case p2=>constructor<;>k_is)
  (case p3=>constructor<;>k_is)
  (case p4=>constructor<;>k_is)
  (case p5=>constructor<;>k_is)
  (case p6=>constructor<;>k_is)
  (case p7=>constructor<;>k_is)
  (case p8=>constructor<;>k_is)
  (case p9=>constructor<;>k_is)
  (case p10=>constructor<;>k_is)
  (case p11=>constructor<;>k_is)
  (case p12=>constructor<;>k_is)
  (case p13=>constructor<;>k_is)
  (case p14=>constructor<;>k_is)
  (case p15=>constructor<;>k_is)
  (case p16=>constructor<;>k_is)
  (case p17=>constructor<;>k_is)
  (case p18=>constructor<;>k_is)
  (case p19=>constructor<;>k_is)
  (case p20=>constructor<;>k_is)
  (case z0=>k_is)
  (case z1=>k_is)
  (case z2=>k_is)
  (case z3=>k_is)
  (case z4=>k_is)
  (case z5=>k_is)
  (case z6=>k_is)
  (case z7=>k_is)
  (case z8=>k_is)
  (case z9=>k_is)
  (case z10=>k_is)
  (case z11=>k_is)
  (case z12=>k_is)
  (case z13=>k_is)
  (case z14=>k_is)
  (case z15=>k_is)
  (case z16=>k_is)
  (case z17=>k_is)
  (case z18=>k_is)
  (case z19=>k_is)
  (case z20=>k_is)
  (case cn0=>k_is)
  (case cn1=>k_is)
  (case cl1=>k_is)
  (case cy1=>decide)
  (case cn2=>k_is)
  (case cl2=>k_is)
  (case cy2=>decide)
  (case cn3=>k_is)
  (case cn4=>k_is)
  (case cl4=>k_is)
  (case cy4=>decide)
  (case cn5=>k_is)
  (case cl5=>k_is)
  (case cy5=>decide)
