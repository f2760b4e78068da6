import PyProof.Rows.All
import Wide.All
import OpenK.AllK
import Wide.FinOn
import Lean
import PyProof.EqAt
import PyProof.EqKinds
import PyProof.TupleCall
import PyProof.NeKinds
import PyProof.NsDelKeeps
import KE.KRevSl
import PyProof.StrWalks
import PyProof.ConsumeWalk
import PyProof.SumWalk
import PyProof.Rows.SortStr
import PyProof.SumWalkG
import PyProof.StrCalls2
import PyProof.StrLawsIdx
import PyProof.WalkInts
import PyProof.StrOps2
import PyProof.SliceStr2
import PyProof.Draws
import PyProof.EnumMake
import PyProof.Rows.SetFrom
import PyProof.SetRoads
import PyProof.WalksMore
import PyProof.ListRange
import PyProof.TupleOfSeq
import PyProof.TupleOfGen
import PyProof.Rows.SortShell
import PyProof.ZipIter
import PyProof.DictStraight
import PyProof.TupleKey
import PyProof.DictRoadsH
import PyProof.DictTruth
import PyProof.Rows.TupTab
import KE.KTabLook
import PyProof.FString
import PyProof.CallStr
import KE.KIntText
import PyProof.Rows.Range3
import PyProof.DictRoads
import PyProof.Rows.StrNews2
import KE.KDictOf
import KE.KMinKey
import PySem.Challenge.RW_worldfind_k65_asked_and_refused
set_option Elab.async false
set_option linter.all false
set_option maxRecDepth 100000
set_option compiler.extract_closed false
local macro_rules | `(tactic| omega) => `(tactic| lia)
set_option bootstrap.genMatcherCode false
noncomputable section
open List renaming replicate → Aa, length_map → Aa0, mem_cons_of_mem → Aa5, range → Aa7, mem_cons_self → Aa8, size_toArray → Aa9, getElem?_eq_some_iff → Ab, length_cons → Ab0, getElem?_eq_getElem → Ab2, mem_append_right → Ab4, length_append → Ab5, mem_cons → Ab7, length_replicate → Ab8, lookup_cons → Ac, getElem?_set_self → Ac1, append_nil → Ac2, replicate_succ → Ac3, map_cons → Ac4, getElem?_set_ne → Ac6, length_nil → Ac7, length_set → Ac9, length_take → Ad, getElem?_append_right → Ad0, mem_singleton → Ad1, getElem?_append_left → Ad2, flatten_cons → Ad4, isEmpty_iff → Ad6, getElem?_map → Ad9, filterMap_cons → Ae, eq_nil_of_length_eq_zero → Ae0, getD_eq_getElem?_getD → Ae2, length_drop → Ae4, any_cons → Ae7, length_range → Af, set_set → Af0, mem_map → Af1, map_map → Af2, lookup → Af4, nodup_cons → Af8, nil_append → Af9, contains_iff_mem → Ag, mem_append_left → Ag3, mem_range → Ag4, all_eq_true → Ag8, pairwise_cons → Ah, mem_append → Ah0, foldl_cons → Ah1, all_cons → Ah2, range_succ_eq_map → Ah4, append_assoc → Ah6, mem_of_getElem? → Ah8, mem_replicate → Ai0, getElem?_replicate → Aj, take_of_length_le → Aj0, drop_of_length_le → Aj1, map_nil → Aj4, mem_filterMap → Ak5, map_replicate → Ak6, foldl → Ak8, flatMap_cons → Ak9, take_length → Al2, not_mem_nil → Al3, cons_append → Al4
open Bool renaming and_eq_true → Aa1, false_ne_true → Aa4, false_eq_true → Ad5, true_and → Af5, false_and → Ag6, eq_false_iff → Ah7, or_eq_true → Ah9, not_eq_false' → Ai4, not_eq_true' → Ai7, and_false → Ak1, noConfusion → Al5
open PySem.Heap renaming get?_push_of_some → Aa2, lt_size → Ab1, get?_push_size → Ab6, get?_update_self → Ag0, SameBut → Ag1, size_push → Ag5, get?_update_other → Ah5, FlyingW → Ai2, get?_update_ne → Ak2
open PySem.W renaming Frag → Aa3, kia_one → Ac8, emptyDict → Ad7, keepIn → Ae3, instObj → Ae9, findIn → Ah3, plainGet → Ai6, cellsFrom_some → Ai8, lookIn → Aj2, kitOne → Aj3, plainGet_of → Aj5, callWith_K → Ak0, methodObj → Ak3, kitx_list → Ak4
open Nat renaming le_refl → Aa6, lt_of_lt_of_le → Ab3, ne_of_lt → Ab9, le_trans → Ac0, le_succ → Ad3, lt_succ_self → Ae6, le_of_lt → Ae8, lt_irrefl → Af6, mul_le_mul → Ag7, zero_le → Ai, two_pow_pos → Aj6, min_eq_left → Aj7, div_add_mod → Aj8, not_le → Al, ne_of_gt → Al0, le_of_eq → Al1
open Int renaming toNat_natCast → Ac5, toNat_of_nonneg → Af7, fdiv_eq_ediv_of_nonneg → Ai1, natCast_nonneg → Ai5, natCast_mul → Aj9, emod_nonneg → Ak, emod_lt_of_pos → Ak7
open Option renaming some → Ad8, isNone_iff_eq_none → Ae5, bind_eq_some_iff → Ag9, map_eq_some_iff → Ai9
open Classical renaming choose_spec → Ae1, choose → Ag2, propDecidable → Ai3
open Array renaming length_toList → Af3
open Decidable renaming decide → u9
open Option renaming some → y0, none → u0
open Bool renaming true → k9, false → y9
namespace L2
open PySem PySem.Spec PyProof.Rows
abbrev cV:=Sum Int Str
def nk:cV->Value->Bool
 | .inl k,v=>Value.isInt k v
 | .inr x,v=>Value.isStrOf x v
def AQ (w:World):cV->Int
 | .inl k=>hashInt k
 | .inr x=>hashStr w x
def jc: ∀ {k:cV}{v:Value},nk k v=k9->(∃ i t,k=Sum.inl i/\v=Value.int i t)\/(∃ x t,k=Sum.inr x/\v=Value.str x t)
 | .inl i,v,h=>by
  obtain⟨t,e⟩:=Value.isInt_shape (k:=i) (v:=v) h
  exact .inl ⟨i,t,rfl,e⟩
 | .inr x,v,h=>by
  obtain⟨t,e⟩:=Value.isStrOf_shape (x:=x) (v:=v) h
  exact .inr ⟨x,t,rfl,e⟩
def tI (a b:Int):u9 ((Sum.inl a:cV)=Sum.inl b)=(a==b):=by
 by_cases e:a=b
 .subst e;simp
 .have h: ¬(Sum.inl a:cV)=Sum.inl b:=λq=>e (Sum.inl.inj q)
  rw [decide_eq_false h]
  exact(beq_eq_false_iff_ne.mpr e).symm
def A7 (a b:Str):u9 ((Sum.inr a:cV)=Sum.inr b)=u9 (a=b):=by
 by_cases e:a=b
 .subst e;simp
 .have h: ¬(Sum.inr a:cV)=Sum.inr b:=λq=>e (Sum.inr.inj q)
  rw [decide_eq_false h,decide_eq_false e]
def yL (a:Int) (b:Str):u9 ((Sum.inl a:cV)=Sum.inr b)=false:=decide_eq_false (λq=>nomatch q)
def yq (a:Str) (b:Int):u9 ((Sum.inr a:cV)=Sum.inl b)=false:=decide_eq_false (λq=>nomatch q)
noncomputable def QN (prog:Program) (w:World):PySem.KeyKind prog w cV where
 is:=nk
 hash:=AQ w
 inj:=λv a b f d=>by
  rcases jc f with⟨i,t,rfl,rfl⟩ | ⟨x,t,rfl,rfl⟩
  .rcases jc d with⟨j,u,rfl,e⟩ | ⟨y,u,rfl,e⟩
   .injection e with e1 _;rw [e1]
   .exact nomatch e
  .rcases jc d with⟨j,u,rfl,e⟩ | ⟨y,u,rfl,e⟩
   .exact nomatch e
   .injection e with e1 _;rw [e1]
 byValue:=λk v h=>by
  rcases jc h with⟨i,t,rfl,rfl⟩ | ⟨x,t,rfl,rfl⟩<;>rfl
 pyHash:=λc h=>by
  rcases jc c with⟨i,t,rfl,rfl⟩ | ⟨x,t,rfl,rfl⟩
  .exact wpAny_pyHash_int h
  .exact wpAny_pyHash_str h
 eqBool:=λg c h=>by
  rcases jc g with⟨i,t,rfl,rfl⟩ | ⟨x,t,rfl,rfl⟩
  .rcases jc c with⟨j,u,rfl,rfl⟩ | ⟨y,u,rfl,rfl⟩
   .rw [tI]at h;exact wpAny_eqBool_int h
   .rw [yL]at h;exact SeqAt.EqAt.int_str i t y u _ _ _ _ h
  .rcases jc c with⟨j,u,rfl,rfl⟩ | ⟨y,u,rfl,rfl⟩
   .rw [yq]at h;exact SeqAt.EqAt.str_int x t j u _ _ _ _ h
   .rw [A7]at h;exact wpAny_eqBool_str h
 «strs» :=λk x t v h=>by
  rcases jc h with⟨i,u,rfl,e⟩ | ⟨y,u,rfl,e⟩
  .exact nomatch e
  .injection e with e1 _
   subst e1
   cases v<;>rfl
inductive V where
 | ai | bl (b:Bool) | int (i:Int) | str (x:Str) | f6 (b:Array UInt8) | fQ (b:UInt64) | ref (a:Addr) | ty (n:String)
 deriving DecidableEq
def RelV:V->Value->Prop
 | .ai,u=>u=Value.none
 | .bl b,u=>u=Value.bool b
 | .int i,u=> ∃t,u=Value.int i t
 | .str x,u=> ∃t,u=Value.str x t
 | .f6 b,u=> ∃t,u=Value.bytes b t
 | .fQ b,u=> ∃t,u=Value.float b t
 | .ref a,u=>u=Value.ref a
 | .ty n,u=>u=Value.type n
abbrev Vals:List V->List Value->Prop:=Paired RelV
theorem Vals.length {xs:List V}{us:List Value}(r:Vals xs us):xs.length=us.length:=Paired.length r
theorem Vals.get: ∀ {xs:List V}{us:List Value}{i:Nat}{x:V},Vals xs us->xs[i]? =y0 x-> ∃u,us[i]? =y0 u/\RelV x u
 | _,_,_,_,.nil,e=>by simp at e
 | _,_,0,_,.cons r _,e=>by simp at e;subst e;exact⟨_,rfl,r⟩
 | _,_,i+1,x,.cons _ t,e=>by
  obtain⟨u,b,a⟩:=Vals.get (i:=i) (x:=x) t (by simpa using e)
  exact⟨u,by simpa using b,a⟩
theorem Vals.set {x:V}{u:Value}(r:RelV x u): ∀ {xs:List V}{us:List Value}(i:Nat),Vals xs us->Vals (xs.set i x) (us.set i u)
 | _,_,_,.nil=> .nil
 | _,_,0,.cons _ t=> .cons r t
 | _,_,i+1,.cons q t=> .cons q (Vals.set r i t)
theorem Vals.append: ∀ {xs a:List V}{us ws:List Value},Vals xs us->Vals a ws->Vals (xs++a) (us++ws)
 | _,_,_,_,.nil,s=>s
 | _,_,_,_,.cons r t,s=> .cons r (Vals.append t s)
theorem Vals.take: ∀ {xs:List V}{us:List Value}(n:Nat),Vals xs us->Vals (xs.take n) (us.take n)
 | _,_,0,_=> .nil
 | _,_,_+1,.nil=> .nil
 | _,_,n+1,.cons r t=> .cons r (Vals.take n t)
theorem Vals.drop: ∀ {xs:List V}{us:List Value}(n:Nat),Vals xs us->Vals (xs.drop n) (us.drop n)
 | _,_,0,r=>r
 | _,_,_+1,.nil=> .nil
 | _,_,n+1,.cons _ t=>Vals.drop n t
def bQ:Option V->Option Value->Prop
 | some v,y0 u=>RelV v u
 | none,none=>True
 | _,_=>False
def KV {a:Type}:List (a×V)->List (a×Value)->Prop:=Paired λ(p:a×V) (q:a×Value)=>p.1=q.1/\RelV p.2 q.2
def kV:cV->V
 | .inl i=> .int i
 | .inr x=> .str x
inductive HO where
 | lst (xs:List V)
 | tup (xs:List V)
 | dK (kvs:List (cV×V)) | dT (kvs:List (List cV×V))
 | set (S:Int->Bool) (n:Nat)
 | ins (C dx:Addr) (fs:List (Str×V))
 | own (x:Addr)
 | xd (fs:List (Str×V))
 | met (f x:Addr)
 | fv (lo hi:Int)
 | di (o:Obj) (u:HO)
 | fP (ps:Array Value)
 | ext (φ:Heap->Prop)
abbrev Hp:=Addr->Option HO
def ax (H:Hp) (a:Addr) (o:HO):Hp:=λb=>if b=a then y0 o else H b
def Qa {H:Hp}{a:Addr}{o:HO}:ax H a o a=y0 o:=by unfold ax;rw [if_pos rfl]
def qa {H:Hp}{a b:Addr}{o:HO}(h:b≠a):ax H a o b=H b:=by unfold ax;rw [if_neg h]
def ja {H:Hp}{a b:Addr}{o:HO}(h:H a=y0 o) (h':H b=u0):a≠b:=by
 intro e;subst e;rw [h]at h';cases h'
def cA (h:Heap) (a:Addr) (b:Array Value):Prop:= ∃o,h.get? a=some o/\o.cls= .type "tuple" /\o.dict=none/\ ∃n,o.data= .seq b n
def cA.is {h:Heap}{a:Addr}{b:Array Value}(p:cA h a b):IsTup h a b:=let ⟨o,e,c,_,n,d⟩:=p; ⟨o,e,c,n,d⟩
theorem cA.lt {h:Heap}{a:Addr}{b:Array Value}(p:cA h a b):a<h.objs.size:=p.is.lt
def cA.new (h:Heap) (a:Array Value):cA (h.push { cls:= .type "tuple",data:= .seq a }) h.objs.size a:=⟨_,Heap.get?_push_size _ rfl,rfl,rfl,_,rfl⟩
section
variable (P:Program) (w:World)
def aI (H:Hp) (h:Heap) (a:Addr):HO->Prop
 | .lst xs=>xs.length<=sizeLine/\ ∃(b:List Value) (n:Nat),Vals xs b/\h.get? a=y0 { cls:= .type "list",data:= .seq b.toArray n }
 | .tup xs=>xs.length<=sizeLine/\ ∃b:List Value,Vals xs b/\cA h a b.toArray
 | .dK kvs=>kvs.length<=sizeLine/\(a==sysModules)=y9/\ ∃d,KV kvs d/\h.DictOf (QN P w) a d
 | .dT kvs=>kvs.length<=sizeLine/\(a==sysModules)=y9/\ ∃xs:List (List cV×Addr×Value),
  Paired (λ(p:List cV×V) (q:List cV×Addr×Value)=>p.1=q.1/\H q.2.1=y0 (.tup (p.1.map kV))/\RelV p.2 q.2.2) kvs xs ∧
  ∃o es e,h.get? a=y0 o/\o.ExactDict/\o.data= .dict es e/\es.toList=xs.map (entryOfKey (tupleKind (QN P w)))/\(xs.map (·.1)).Nodup
 | .set S n=>h.SetOf (intKind P w) a S n
 | .ins C dx fs=>H dx=y0 (.own a)/\fs.length<=1000/\dx≠a/\h.get? a=y0 (Ae9 C dx) ∧
  ∃mA,h.Ns1 dx mA/\(∀ f,bQ (fs.lookup f) (mA f))/\PySem.Within mA (fs.map (·.1))
 | .own _=> ∃o,h.get? a=y0 o
 | .xd fs=> ∃mA,h.Ns1 a mA/\ ∀f,bQ (fs.lookup f) (mA f)
 | .fv lo hi=> ∃t u v,h.get? a=y0 { cls:= .type "range",data:= .fields #[.int lo t,.int hi u,.int 1 v] }
 | .di o u=>h.get? a=y0 o/\aI H h a u
 | .fP ps=>h.get? a=y0 { cls:= .none,data:= .fields ps }
 | .met f x=>h.get? a=y0 (Ak3 (.ref f) (.ref x))
 | .ext c=>c h/\(∃ o,h.get? a=y0 o)/\ ∀h1 h2:Heap,c h1->(∀ o,h1.get? a=y0 o->h2.get? a=y0 o)->c h2
def cj (H:Hp) (h:Heap):Prop:= ∀a o,H a=y0 o->aI P w H h a o
end
section
variable {P:Program}{w:World}{H H':Hp}{h h':Heap}{a:Addr}{o:HO}
theorem aI.lt (x:aI P w H h a o):a<h.objs.size:=by
 cases o with
 | lst c=>obtain⟨_,_,_,_,e⟩:=x;exact Ab1 e
 | tup c=>obtain⟨_,_,_,p⟩:=x;exact p.lt
 | dK b=>obtain⟨_,_,_,_,o,_,_,e,_⟩:=x;exact Ab1 e
 | dT b=>obtain⟨_,_,_,_,o,_,_,e,_⟩:=x;exact Ab1 e
 | set S n=>obtain⟨o,_,_,_,e,_⟩:=x;exact Ab1 e
 | ins C d fs=>obtain⟨_,_,_,e,_⟩:=x;exact Ab1 e
 | own y=>obtain⟨_,e⟩:=x;exact Ab1 e
 | xd fs=>obtain⟨_,⟨_,_,_,e,_⟩,_⟩:=x;exact Ab1 e
 | fv i k=>obtain⟨_,_,_,e⟩:=x;exact Ab1 e
 | di g u=>obtain⟨e,_⟩:=x;exact Ab1 e
 | fP j=>exact Ab1 (show h.get? a=y0 _ from x)
 | met f y=>exact Ab1 (show h.get? a=y0 _ from x)
 | ext l=>obtain⟨_,⟨_,e⟩,_⟩:=x;exact Ab1 e
theorem Paired.ik {e g:Type}{F G:e->g->Prop}: ∀ {c:List e}{d:List g},Paired F c d->(∀ a b,F a b->G a b)->Paired G c d
 | _,_,.nil,_=> .nil
 | _,_,.cons r t,f=> .cons (f _ _ r) (Paired.ik t f)
def aI.b8 (x:aI P w H h a o) (k: ∀b u,(b=a\/H b=y0 (.own a))->h.get? b=y0 u->h'.get? b=y0 u)
 (E: ∀b,H b=y0 (.own a)->H' b=y0 (.own a)) (G: ∀b xs,H b=y0 (.tup xs)->H' b=y0 (.tup xs)):aI P w H' h' a o:=by
 induction o with
 | lst xs=>obtain⟨z,l,n,r,e⟩:=x;exact⟨z,l,n,r,k _ _ (.inl rfl) e⟩
 | tup xs=>obtain⟨z,l,r,g,e,c⟩:=x;exact⟨z,l,r,g,k _ _ (.inl rfl) e,c⟩
 | dK m=>obtain⟨z,y,I,r,g,j,i,e,c⟩:=x;exact⟨z,y,I,r,g,j,i,k _ _ (.inl rfl) e,c⟩
 | dT m=>
  obtain⟨z,y,xs,r,g,j,i,e,c⟩:=x
  exact⟨z,y,xs,Paired.ik r λp q z=>⟨z.1,G _ _ z.2.1,z.2.2⟩,g,j,i,k _ _ (.inl rfl) e,c⟩
 | set S n=>obtain⟨g,j,i,t,e,c⟩:=x;exact⟨g,j,i,t,k _ _ (.inl rfl) e,c⟩
 | ins C J fs=>
  obtain⟨d,z,ne,e,s,⟨A,j,i,e2,c⟩,r⟩:=x
  exact⟨E _ d,z,ne,k _ _ (.inl rfl) e,s,⟨A,j,i,k _ _ (.inr d) e2,c⟩,r⟩
 | own y=>obtain⟨g,e⟩:=x;exact⟨g,k _ _ (.inl rfl) e⟩
 | xd fs=>obtain⟨s,⟨A,j,i,e,c⟩,r⟩:=x;exact⟨s,⟨A,j,i,k _ _ (.inl rfl) e,c⟩,r⟩
 | fv K L=>obtain⟨t,u,v,e⟩:=x;exact⟨t,u,v,k _ _ (.inl rfl) e⟩
 | di g u F=>obtain⟨e,q⟩:=x;exact⟨k _ _ (.inl rfl) e,F q⟩
 | fP D=>
  have e:h.get? a=y0 { cls:= .none,data:= .fields D }:=x
  show h'.get? a=y0 { cls:= .none,data:= .fields D }
  exact k a _ (.inl rfl) e
 | met f y=>
  have e:h.get? a=y0 (Ak3 (.ref f) (.ref y)):=x
  show h'.get? a=y0 (Ak3 (.ref f) (.ref y))
  exact k a _ (.inl rfl) e
 | ext M=>obtain⟨p,⟨o,e⟩,B⟩:=x;exact⟨B _ _ p λo q=>k _ _ (.inl rfl) q,⟨o,k _ _ (.inl rfl) e⟩,B⟩
theorem cj.lt (x:cj P w H h) (e:H a=y0 o):a<h.objs.size:=(x a o e).lt
def cj.fresh (x:cj P w H h) (e:h.objs.size<=a):H a=none:=by
 cases q:H a with
 | none=>rfl
 | some u=>exact absurd (Ab3 (x.lt q) e) (Af6 _)
def cj.kept (x:cj P w H h) (k: ∀b u,h.get? b=y0 u->h'.get? b=y0 u):cj P w H h':=λa o e=>
 (x a o e).b8 (λb u _ q=>k b u q) (λ_ q=>q) λ_ _ q=>q
def cj.laid (x:cj P w H h) (k: ∀b u,h.get? b=y0 u->h'.get? b=y0 u) (g:h.objs.size<=a) (new:aI P w (ax H a o) h' a o):cj P w (ax H a o) h':=λb u e=>by
 have d:=x.fresh g
 by_cases f:b=a
 .subst f;rw [Qa]at e;cases e;exact new
 .rw [qa f]at e
  exact(x b u e).b8 (λc v _ q=>k c v q) (λc q=>by rw [qa (ja q d)];exact q) λc i q=>by rw [qa (ja q d)];exact q
end
def Rd (H:Hp) (a:Addr) (u:HO):Prop:=H a=y0 u\/ ∃o,H a=y0 (.di o u)
def Rd.ok {P:Program}{w:World}{H:Hp}{h:Heap}{a:Addr}{u:HO}(r:Rd H a u) (x:cj P w H h):aI P w H h a u:=by
 rcases r with r | ⟨o,r⟩
 .exact x a u r
 .obtain⟨_,q⟩:=x a _ r
  exact q
def iL:Option HO->Prop
 | some (.lst _)=>True
 | some (.dK _)=>True
 | some (.dT _)=>True
 | some (.set _ _)=>True
 | some (.ins _ _ _)=>True
 | some (.ext _)=>True
 | _=>False
section
variable {P:Program}{w:World}{H:Hp}{h h':Heap}{x e:Addr}{o':HO}
def cj.write (ok:cj P w H h) (i:iL (H x)) (o:e=x\/H e=y0 (.own x)) (k: ∀b u,b≠e->h.get? b=y0 u->h'.get? b=y0 u) (m: ∃u,h'.get? e=y0 u)
 (new:aI P w (ax H x o') h' x o'):cj P w (ax H x o') h':=λb u q=>by
 have d: ∀c y,H c=y0 (.own y)->c≠x:=λc y r z=>by subst z;rw [r]at i;exact i
 have f: ∀c l,H c=y0 (.tup l)->c≠x:=λc l r z=>by subst z;rw [r]at i;exact i
 by_cases g:b=x
 .subst g;rw [Qa]at q;cases q;exact new
 .rw [qa g]at q
  by_cases a:b=e
  .have n:H b=y0 (.own x):=by
    rcases o with z | z
    .exact absurd (a.trans z) g
    .rw [a];exact z
   rw [q]at n;cases n
   obtain⟨v,p⟩:=m
   exact⟨v,by rw [a];exact p⟩
  .refine(ok b u q).b8 (λc v j r=>k c v ?_ r) (λc r=>by rw [qa (d c b r)];exact r) λc l r=>by rw [qa (f c l r)];exact r
   rcases j with rfl | j
   .exact a
   .rintro rfl
    rcases o with z | z
    .exact d c b j z
    .rw [j]at z;cases z;exact g rfl
end
structure Un (fs ex:List Addr) (H H':Hp) (h h':Heap):Prop where
 keep: ∀b o,h.get? b=y0 o->H b=u0->b∉fs->b∉ex->h'.get? b=y0 o
 slot: ∀b o,h.get? b=y0 o->H b=u0->b∈fs->b∉ex-> ∃sl,h'.get? b=y0 { o with slots:=sl }
 free: ∀b o,h.get? b=y0 o->H b=u0->b∉ex->H' b=u0
 there: ∀b o,h.get? b=y0 o->b∉ex-> ∃o',h'.get? b=y0 o'
 b3: ∀b xs,H b=y0 (.tup xs)->H' b=y0 (.tup xs)
 bT: ∀b o u,H b=y0 (.di o u)->H' b=y0 (.di o u)
 b9: ∀b ps,H b=y0 (.fP ps)-> ∃more,H' b=y0 (.fP (ps++more))
section
variable {fs fs' ex ex':List Addr}{H H1 H2:Hp}{h h1 h2 h':Heap}{a x e:Addr}{o:HO}
def Un.any (u:Un fs ex H H1 h h1){b:Addr}{a:Obj}(q:h.get? b=y0 a) (n:H b=u0) (c:b∉ex): ∃i,h1.get? b=y0 { a with slots:=i }:=by
 by_cases d:b∈fs
 .exact u.slot b a q n d c
 .exact⟨a.slots,u.keep b a q n d c⟩
def Un.kept (k: ∀b u,h.get? b=y0 u->h'.get? b=y0 u):Un fs ex H H h h':=
 ⟨λb a q _ _ _=>k b a q,λb a q _ _ _=>⟨a.slots,k b a q⟩,λ_ _ _ n _=>n,λb a q _=>⟨a,k b a q⟩,λ_ _ q=>q,λ_ _ _ q=>q,λ_ c q=>⟨#[],by rw [q];simp⟩⟩
def Un.refl:Un fs ex H H h h:=Un.kept λ_ _ q=>q
def Un.laid (k: ∀b u,h.get? b=y0 u->h'.get? b=y0 u) (d:h.objs.size<=a) (c:H a=u0):Un fs ex H (ax H a o) h h' where
 keep:=λb u q _ _ _=>k b u q
 slot:=λb u q _ _ _=>⟨u.slots,k b u q⟩
 free:=λb u q n _=>by rw [qa (Ab9 (Ab3 (Ab1 q) d))];exact n
 there:=λb u q _=>⟨u,k b u q⟩
 b3:=λb e q=>by rw [qa (ja q c)];exact q
 bT:=λb u e q=>by rw [qa (ja q c)];exact q
 b9:=λb f q=>⟨#[],by rw [qa (ja q c),q];simp⟩
def Un.write (c:iL (H x)) (l:e=x\/H e=y0 (.own x)) (k: ∀b u,b≠e->h.get? b=y0 u->h'.get? b=y0 u) (f: ∃u,h'.get? e=y0 u):Un fs ex H (ax H x o) h h':=by
 have g: ∀b,H b=u0->b≠x:=λb n z=>by subst z;rw [n]at c;exact c
 have i: ∀b,H b=u0->b≠e:=λb n z=>by
  subst z
  rcases l with r | r
  .exact g b n r
  .rw [n]at r;cases r
 have d: ∀b u,H b=y0 u-> ¬iL (y0 u)->b≠x:=λb u q j z=>by subst z;rw [q]at c;exact j c
 refine⟨λb u q n _ _=>k b u (i b n) q,λb u q n _ _=>⟨u.slots,k b u (i b n) q⟩,λb u q n _=>by rw [qa (g b n)];exact n,λb u q _=> ?_,
  λb m q=>by rw [qa (d b _ q λz=>z)];exact q,λb u m q=>by rw [qa (d b _ q λz=>z)];exact q,λb p q=>⟨#[],by rw [qa (d b _ q λz=>z),q];simp⟩⟩
 by_cases a:b=e
 .subst a;exact f
 .exact⟨u,k b u a q⟩
end
def c8 (h:Heap) (H:Hp):List Addr:=(Aa7 h.objs.size).filter λa=>(H a).isSome
def fb (h:Heap) (H:Hp):Heap:=PySem.W.hideAll h (c8 h H)
def rT (h:Heap) (H:Hp):(fb h H).objs.size=h.objs.size:=PySem.W.hideAll_size _ _
def yD {h:Heap}{H:Hp}{b:Addr}{o:Obj}(e:h.get? b=y0 o) (n:H b=u0):(fb h H).get? b=y0 o:=
 PySem.W.hideAll_get _ e λa=>by
  have q:(H b).isSome=true:=(List.mem_filter.mp a).2
  rw [n]at q;simp at q
def yP {h:Heap}{H:Hp}{b:Addr}{o:Obj}(e:(fb h H).get? b=y0 o):h.get? b=y0 o/\H b=none:=by
 have a:h.get? b=y0 o:=PySem.W.of_hideAll (c8 h H) e
 refine⟨a,?_⟩
 cases q:H b with
 | none=>rfl
 | some x=>
  have c:b∈c8 h H:=List.mem_filter.mpr ⟨Ag4.mpr (Ab1 a),by simp [q]⟩
  have z:(fb h H).get? b=none:=PySem.W.hideAll_none (c8 h H) c
  rw [z]at e;cases e
noncomputable def yI (g h:Heap) (L:Addr):List (Addr×Obj):=(Aa7 h.objs.size).filterMap λa=>if a=L\/(g.get? a).isSome=k9 then u0 else(h.get? a).map λo=>(a,o)
def rest (g h:Heap) (L d:Addr):List (Addr×Obj):=(yI g h L).filter λp=>u9 (p.1≠d)
structure Mod (K:Aa3) (mg:Str->Option Value) (base:Heap):Prop where
 fJ:K.In base
 glob:base.Ns mainGlobals mg
 blt: ∃mb,base.Ns builtinsNs mb/\ ∀x:Str,x≠ "__name__" ->mb x=bootBuiltins x
 nolimit:base.NoLimit
structure Cx where
 prog:Program
 w:World
 K:Aa3
 mg:Str->Option Value
 base:Heap
 A:Around
 N:List Str
 s₀:Shared
 H₀:Hp
 env:Env
 outer:List Env
 stack:List Env
 ex:List Addr
 fn:Str->Bool
 calm:Bool
 pn:List (Addr×Obj)
 xe:Value->Shared->Prop
def bg (l:List Env):List Addr:=l.filterMap (·.frame)
abbrev Cx.fs (X:Cx):List Addr:=bg X.outer
def gw (a:Scope) (x:Str):Prop:=a.names.lookup x=y0 .local\/a.names.lookup x=y0 .cell\/a.names.lookup x=y0 .free
def hI (a:Scope) (x:Str):Prop:=a.names.lookup x=y0 .local\/a.names.lookup x=y0 .cell
def n8 (env:Env) (h:Heap) (m:Str->Option Value) (x:Str) (u:Value):Prop:=
 (env.kindOf x=y0 .local/\m x=y0 u)\/((env.kindOf x=y0 .cell\/env.kindOf x=y0 .free)/\ ∃c,env.cells.lookup x=y0 c/\h.IsCell c (y0 u))
structure Cx.Ok (X:Cx):Prop where
 mod:Mod X.K X.mg X.base
 kind:X.env.scope.kind= .function
 glob:X.env.globals=mainGlobals
 blt:X.env.builtins=builtinsNs
 above:X.s₀.heap.objs.size<=X.env.locals
 inj: ∀x y c,X.env.cells.lookup x=y0 c->X.env.cells.lookup y=y0 c->x=y
 has: ∀x,(X.env.kindOf x=y0 .cell\/X.env.kindOf x=y0 .free)-> ∃c,X.env.cells.lookup x=y0 c
 gX: ∀x c,X.fn x=k9->X.env.cells.lookup x=y0 c->X.s₀.heap.objs.size<=c
 hd:X.calm=k9->X.A.handled=u0
 frames:X.A.frames=y0 X.stack
 eL:X.stack=X.outer\/(X.stack=X.env::X.outer/\X.env.frame=y0 X.env.locals)
 iA: ∀b∈X.ex,b≠X.env.locals/\ ∀x c,X.env.cells.lookup x=y0 c->c≠b
 bs: ∀b o,X.base.get? b=y0 o->X.s₀.heap.get? b=y0 o/\X.H₀ b=u0
 ez:X.base.objs.size<=X.s₀.heap.objs.size
 dN: ∀b o,X.base.get? b=y0 o->b∉X.ex
 dO: ∀b∈X.ex,b∉X.fs
 b7:X.s₀.heap.FunFrames X.base X.outer
 fW: ∀b∈X.fs,X.H₀ b=u0
structure Inv (X:Cx) (y8:List (Addr×Obj)) (Y:List (Option V)) (H:Hp) (s:Shared):Prop where
 ok:X.Ok
 os:s.os=X.s₀.os
 bare:AllBare s.gens
 base:Un X.fs X.ex X.H₀ H X.s₀.heap s.heap
 loc: ∃m,s.heap.Ns X.env.locals m/\ ∀(i:Nat) (x:Str) (v:V),X.N[i]? =y0 x->Y[i]? =y0 (y0 v)->gw X.env.scope x-> ∃u,RelV v u/\n8 X.env s.heap m x u
 cell: ∀x c,X.env.cells.lookup x=y0 c-> ∃v,s.heap.IsCell c v
 free:H X.env.locals=u0
 aZ: ∀x c,X.env.cells.lookup x=y0 c->H c=u0
 pin: ∀p∈X.pn++y8,s.heap.get? p.1=y0 p.2/\H p.1=u0/\p.1≠X.env.locals/\p.1∉X.fs/\ ∀v,p.2.data≠ .cell v
 aD:cj X.prog X.w H s.heap
 len:Y.length=X.N.length
section
variable {X:Cx}{y8:List (Addr×Obj)}{Y:List (Option V)}{H H':Hp}{s:Shared}{h':Heap}
def Cx.Ok.kL (ok:X.Ok){b:Addr}{o:Obj}(e:X.base.get? b=y0 o):b∉X.fs:=λa=>by
 have:=(ok.b7.mem a).1
 rw [e]at this;cases this
theorem Inv.bs (I:Inv X y8 Y H s): ∀b o,X.base.get? b=y0 o->s.heap.get? b=y0 o/\H b=none:=λb o e=>
 ⟨I.base.keep b o (I.ok.bs b o e).1 (I.ok.bs b o e).2 (I.ok.kL e) (I.ok.dN b o e),I.base.free b o (I.ok.bs b o e).1 (I.ok.bs b o e).2 (I.ok.dN b o e)⟩
def Inv.bk (I:Inv X y8 Y H s): ∀b o,X.base.get? b=y0 o->s.heap.get? b=y0 o:=λb o e=>(I.bs b o e).1
theorem Inv.mod (I:Inv X y8 Y H s):Mod X.K X.mg X.base:=I.ok.mod
def Inv.bj (I:Inv X y8 Y H s):X.K.In s.heap:=I.ok.mod.fJ.keeps I.bk
theorem Inv.lt (I:Inv X y8 Y H s):X.env.locals<s.heap.objs.size:=let ⟨_,a,_⟩:=I.loc;a.lt
def Inv.sz (I:Inv X y8 Y H s):X.s₀.heap.objs.size<=s.heap.objs.size:=Ac0 I.ok.above (Ae8 I.lt)
def Inv.lb (I:Inv X y8 Y H s){a:Addr}(h:s.heap.objs.size<=a):a∉X.fs:=λb=>by
 obtain⟨_,o,c,_⟩:=I.ok.b7.mem b
 exact absurd (Ab3 (Ab1 c) (Ac0 I.sz h)) (Af6 _)
def Inv.eY (I:Inv X y8 Y H s): ∀x c,X.env.cells.lookup x=y0 c->c≠X.env.locals:=λx c e z=>by
 obtain⟨v,o,f,d⟩:=I.cell x c e
 obtain⟨m,⟨i,h,g,b,a,_⟩,_⟩:=I.loc
 rw [z,b]at f;cases f;rw [a]at d;cases d
theorem Inv.b7 (I:Inv X y8 Y H s):s.heap.FunFrames X.base X.outer:=by
 have all: ∀(l:List Env),(∀ b∈bg l,b∈X.fs)->X.s₀.heap.FunFrames X.base l->s.heap.FunFrames X.base l:=by
  intro l
  induction l with
  | nil=>intro _ _;trivial
  | cons p r i=>
   intro f n
   obtain⟨h,⟨L,o,c,k,g,j⟩,m⟩:=n
   have d:L∈X.fs:=f L (by unfold bg;rw [Ae,c];exact Aa8)
   obtain⟨q,e⟩:=I.base.slot L o g (I.ok.fW L d) d λz=>I.ok.dO L z d
   exact⟨h,⟨L,_,c,k,e,j⟩,i (λb a=>f b (by unfold bg;rw [Ae,c];exact Aa5 _ a)) m⟩
 exact all X.outer (λ_ a=>a) I.ok.b7
theorem Inv.stack (I:Inv X y8 Y H s):s.heap.FunFrames X.base X.stack:=by
 rcases I.ok.eL with e | ⟨e,a⟩
 .rw [e];exact I.b7
 .rw [e]
  obtain⟨m,b,_⟩:=I.loc
  refine .cons (by rw [I.ok.kind];decide) a b ?_ I.b7
  exact Heap.get?_none_of_le (Ac0 I.ok.ez I.ok.above)
def Inv.cP (I:Inv X y8 Y H s): ∀b∈bg X.stack,b∈X.env.locals::X.fs:=λb a=>by
 rcases I.ok.eL with e | ⟨e,c⟩
 .rw [e]at a;exact Aa5 _ a
 .rw [e]at a
  unfold bg at a
  rw [Ae,c]at a
  exact a
def Inv.bV (I:Inv X y8 Y H s): ∀b∈bg X.stack,H b=none:=λb a=>by
 rcases Ab7.mp (I.cP b a)with e | a
 .rw [e];exact I.free
 .obtain⟨_,o,c,_⟩:=I.ok.b7.mem a
  exact I.base.free b o c (I.ok.fW b a) λz=>I.ok.dO b z a
def Inv.step {g':Array GenState}{t':Nat}{d':Drawn}{ch:List Addr}(I:Inv X y8 Y H s)
 (j: ∀b∈ch,(b∈X.ex\/X.s₀.heap.objs.size<=b)/\b≠X.env.locals/\(∀ x c,X.env.cells.lookup x=y0 c->c≠b)/\ ∀p∈X.pn++y8,p.1≠b)
 (keep: ∀b o,b≠X.env.locals->b∉X.fs->b∉ch->s.heap.get? b=y0 o->H b=u0->h'.get? b=y0 o)
 (w: ∀b o,b≠X.env.locals->b∈X.fs->b∉ch->s.heap.get? b=y0 o->H b=u0-> ∃L,h'.get? b=y0 { o with slots:=L }) (f: ∀b o,b∉ch->s.heap.get? b=y0 o->H b=u0->H' b=u0)
 (there: ∀b o,b∉ch->s.heap.get? b=y0 o-> ∃o',h'.get? b=y0 o')
 (C: ∀b xs,H b=y0 (.tup xs)->H' b=y0 (.tup xs)) (E: ∀b o u,H b=y0 (.di o u)->H' b=y0 (.di o u)) (D: ∀b ps,H b=y0 (.fP ps)-> ∃more,H' b=y0 (.fP (ps++more)))
 (ns: ∀m,s.heap.Ns X.env.locals m->h'.Ns X.env.locals m) (J:cj X.prog X.w H' h') (O:AllBare g'):
 Inv X y8 Y H' { s with heap:=h',gens:=g',drawn:=d',toks:=t' }:=by
 have B: ∀b o,X.s₀.heap.get? b=y0 o->b≠X.env.locals:=λb o e=>Ab9 (Ab3 (Ab1 e) I.ok.above)
 have t: ∀b o,X.s₀.heap.get? b=y0 o->b∉X.ex->b∉ch:=λb o e a y=>by
  rcases (j b y).1 with z | z
  .exact a z
  .exact absurd (Ab3 (Ab1 e) z) (Af6 _)
 have g: ∀x c,X.env.cells.lookup x=y0 c-> ∀v,s.heap.IsCell c v->h'.IsCell c v:=by
  rintro x c e v ⟨o,A,F⟩
  have h:c∉ch:=λz=>(j c z).2.2.1 x c e rfl
  by_cases N:c∈X.fs
  .obtain⟨L,q⟩:=w c o (I.eY x c e) N h A (I.aZ x c e)
   exact⟨_,q,F⟩
  .exact⟨o,keep c o (I.eY x c e) N h A (I.aZ x c e),F⟩
 refine⟨I.ok,I.os,O,⟨λb o e n y a=> ?_,λb o e n y a=> ?_,λb o e n a=> ?_,λb o e a=> ?_,λb xs e=>C b xs (I.base.b3 b xs e),λb o xs e=>E b o xs (I.base.bT b o xs e),λb ps e=> ?_⟩,?_,λx c e=> ?_,?_,λx c e=> ?_,λp K=> ?_,J,I.len⟩
 .exact keep b o (B b o e) y (t b o e a) (I.base.keep b o e n y a) (I.base.free b o e n a)
 .obtain⟨L,e1⟩:=I.base.slot b o e n y a
  obtain⟨G,e2⟩:=w b _ (B b o e) y (t b o e a) e1 (I.base.free b o e n a)
  exact⟨G,e2⟩
 .obtain⟨o',e1⟩:=I.base.there b o e a
  exact f b o' (t b o e a) e1 (I.base.free b o e n a)
 .obtain⟨o',e1⟩:=I.base.there b o e a
  exact there b o' (t b o e a) e1
 .obtain⟨P,e1⟩:=I.base.b9 b ps e
  obtain⟨R,e2⟩:=D b _ e1
  exact⟨P++R,by rw [e2,Array.append_assoc]⟩
 .obtain⟨m,Q,T⟩:=I.loc
  refine⟨m,ns m Q,λi x v e1 e2 S=> ?_⟩
  obtain⟨u,r,l⟩:=T i x v e1 e2 S
  refine⟨u,r,?_⟩
  rcases l with l | ⟨k,c,e,z⟩
  .exact .inl l
  .exact .inr ⟨k,c,e,g x c e _ z⟩
 .obtain⟨v,z⟩:=I.cell x c e
  exact⟨v,g x c e v z⟩
 .obtain⟨m,⟨o,_,_,A,_⟩,_⟩:=I.loc
  exact f _ o (λz=>(j _ z).2.1 rfl) A I.free
 .obtain⟨v,o,A,F⟩:=I.cell x c e
  exact f c o (λz=>(j c z).2.2.1 x c e rfl) A (I.aZ x c e)
 .obtain⟨e,n,ne,M,d⟩:=I.pin p K
  have h:p.1∉ch:=λz=>(j p.1 z).2.2.2 p K rfl
  exact⟨keep p.1 p.2 ne M h e n,f p.1 p.2 h e n,ne,M,d⟩
def Inv.un {t':Nat}(I:Inv X y8 Y H s) (u:Un X.fs [] H H' s.heap h') (d:cj X.prog X.w H' h'):Inv X y8 Y H' { s with heap:=h',toks:=t' }:=by
 obtain⟨m,⟨o,t,l,h,r⟩,_⟩:=id I.loc
 obtain⟨p,k⟩:=u.any h I.free (by simp)
 exact I.step (g':=s.gens) (d':=s.drawn) (ch:= []) (λ_ z=>nomatch z) (λb o _ c _ e n=>u.keep b o e n c (by simp)) (λb o _ c _ e n=>u.slot b o e n c (by simp)) (λb o _ e n=>u.free b o e n (by simp)) (λb o _ e=>u.there b o e (by simp)) u.b3 u.bT u.b9 (λq i=>by
  obtain⟨v,g,f,a,j⟩:=i
  rw [h]at a;cases a
  exact⟨_,g,f,k,j⟩) d I.bare
def Inv.call {g':Array GenState}{t':Nat}{d':Drawn}{ch:List Addr}(I:Inv X y8 Y H s) (u:Un (bg X.stack) ch H H' s.heap h') (g:cj X.prog X.w H' h') (l:AllBare g')
 (f: ∀b∈ch,(b∈X.ex\/X.s₀.heap.objs.size<=b)/\b≠X.env.locals/\(∀ x c,X.env.cells.lookup x=y0 c->c≠b)/\ ∀p∈X.pn++y8,p.1≠b):
 Inv X y8 Y H' { s with heap:=h',gens:=g',drawn:=d',toks:=t' }:=by
 obtain⟨m,⟨o,B,w,k,r⟩,_⟩:=id I.loc
 obtain⟨y,h⟩:=u.any k I.free λz=>(f _ z).2.1 rfl
 exact I.step (ch:=ch) f (λb o h q a e n=>u.keep b o e n (λz=>(Ab7.mp (I.cP b z)).elim h q) a) (λb o _ _ a e n=>u.any e n a) (λb o a e n=>u.free b o e n a) (λb o a e=>u.there b o e a) u.b3 u.bT u.b9 (λA t=>by
  obtain⟨C,j,i,d,v⟩:=t
  rw [k]at d;cases d
  exact⟨_,j,i,h,v⟩) g l
def Inv.turned {t':Nat}{it:Addr}(I:Inv X y8 Y H s) (k: ∀b o,b≠it->s.heap.get? b=y0 o->h'.get? b=y0 o) (t:H it=u0) (f:it≠X.env.locals)
 (h1:it∈X.ex\/X.s₀.heap.objs.size<=it) (h2: ∀x c,X.env.cells.lookup x=y0 c->c≠it) (l: ∀p∈X.pn++y8,p.1≠it):Inv X y8 Y H { s with heap:=h',toks:=t' }:=by
 have d: ∀b u,H b=y0 u->b≠it:=λb u e z=>by rw [z,t]at e;cases e
 refine I.step (g':=s.gens) (d':=s.drawn) (ch:= [it]) (λb h=> ?_) (λb o _ _ a e _=>k b o (λz=>a (by simp [z])) e) (λb o _ _ a e _=>⟨o.slots,k b o (λz=>a (by simp [z])) e⟩) (λ_ _ _ _ n=>n)
  (λb o a e=>⟨o,k b o (λz=>a (by simp [z])) e⟩) (λ_ _ e=>e) (λ_ _ _ e=>e) (λb y e=>⟨#[],by rw [e];simp⟩) (λm j=> ?_) (λb u e=> ?_) I.bare
 .have e:b=it:=by simpa using h
  subst e
  exact⟨h1,f,h2,l⟩
 .obtain⟨o,w,g,i,r⟩:=j
  exact⟨o,w,g,k _ o (Ne.symm f) i,r⟩
 .refine(I.aD b u e).b8 (λc v a q=>k c v ?_ q) (λ_ q=>q) λ_ _ q=>q
  rcases a with z | z
  .rw [z];exact d b u e
  .exact d c _ z
def Inv.tok (I:Inv X y8 Y H s) (t:Nat):Inv X y8 Y H { s with toks:=t }:=I.un (h':=s.heap) (t':=t) Un.refl I.aD
theorem Inv.kept {t':Nat}(I:Inv X y8 Y H s) (k: ∀b u,s.heap.get? b=y0 u->h'.get? b=y0 u):Inv X y8 Y H { s with heap:=h',toks:=t' }:=I.un (Un.kept k) (I.aD.kept k)
theorem Inv.laid {a:Addr}{o:HO}{t':Nat}(I:Inv X y8 Y H s) (k: ∀b u,s.heap.get? b=y0 u->h'.get? b=y0 u) (c:s.heap.objs.size<=a) (new:aI X.prog X.w (ax H a o) h' a o):
 Inv X y8 Y (ax H a o) { s with heap:=h',toks:=t' }:=I.un (Un.laid k c (I.aD.fresh c)) (I.aD.laid k c new)
theorem Inv.write {x e:Addr}{o:HO}{t':Nat}(I:Inv X y8 Y H s) (c:iL (H x)) (d:e=x\/H e=y0 (.own x)) (k: ∀b u,b≠e->s.heap.get? b=y0 u->h'.get? b=y0 u) (a: ∃u,h'.get? e=y0 u)
 (new:aI X.prog X.w (ax H x o) h' x o):Inv X y8 Y (ax H x o) { s with heap:=h',toks:=t' }:=I.un (Un.write c d k a) (I.aD.write c d k a new)
def Inv.bz {a:List (Addr×Obj)}(I:Inv X y8 Y H s) (h: ∀p∈a,s.heap.get? p.1=y0 p.2/\H p.1=u0/\p.1≠X.env.locals/\p.1∉X.fs/\ ∀v,p.2.data≠ .cell v):Inv X a Y H s:=
 ⟨I.ok,I.os,I.bare,I.base,I.loc,I.cell,I.free,I.aZ,λp b=>(Ah0.mp b).elim (λz=>I.pin p (Ag3 _ z)) (h p),I.aD,I.len⟩
def jD {N:List Str}(c:N.Nodup){i j:Nat}{x:Str}(a:N[i]? =y0 x) (b:N[j]? =y0 x):i=j:=by
 obtain⟨e,e1⟩:=Ab.mp a
 obtain⟨d,e2⟩:=Ab.mp b
 exact(List.getElem_inj c).mp (e1.trans e2.symm)
def j9 {M:Model}{A:Around}{E:Value->Shared->Prop}{i:Nat}{x:Str}{v:V}{u:Value}{Q:Unit->Shared->Prop}(I:Inv X y8 Y H s) (hN:X.N.Nodup) (R:X.N[i]? =y0 x) (t:hI X.env.scope x) (r:RelV v u)
 (h: ∀s',Inv X y8 (Y.set i (y0 v)) H s'->(∃ a,Ag1 a s.heap s'.heap/\(a=X.env.locals\/X.env.cells.lookup x=y0 a))->Q () s') (hf:X.fn x=k9\/X.env.scope.names.lookup x=y0 .local:=by first | exact .inl rfl | exact .inr rfl | assumption):wpAny M A (storeName X.env x u) Q E s:=by
 obtain⟨m,hn,hl⟩:=id I.loc
 have P:(X.env.scope.kind== .class||(X.env.scope.kind== .module&&X.env.locals != X.env.globals))=false:=by rw [I.ok.kind];rfl
 have N:i<Y.length:=by rw [I.len];exact(Ab.mp R).1
 have eY:=I.eY
 have g: ∀ {a:Addr}{G:Heap},(∃ o,s.heap.get? a=y0 o/\H a=u0)->Ag1 a s.heap G->cj X.prog X.w H G:=λ{a G} ha f b ob e=>by
  obtain⟨_,_,w⟩:=ha
  refine(I.aD b ob e).b8 (λc S l q=>(f.2 c ?_).trans q) (λ_ q=>q) λ_ _ q=>q
  rintro rfl
  rcases l with rfl | l
  .rw [w]at e;cases e
  .rw [w]at l;cases l
 rcases t with B | B
 .refine wpAny_storeName_local B hn (λG W f=> ?_) P
  obtain⟨oL,_,_,Z,_⟩:=id hn
  refine h _ ⟨I.ok,I.os,I.bare,⟨λb o e n C t=> ?_,λb o e n C t=> ?_,I.base.free,λb o e t=> ?_,I.base.b3,I.base.bT,I.base.b9⟩,⟨_,W,λj y v' e1 e2 e3=> ?_⟩,λy c e=> ?_,I.free,I.aZ,λp hp=> ?_,g ⟨oL,Z,I.free⟩ f,by simpa using I.len⟩ ⟨_,f,.inl rfl⟩
  .exact(f.2 b (Ab9 (Ab3 (Ab1 e) I.ok.above))).trans (I.base.keep b o e n C t)
  .obtain⟨sl,e1⟩:=I.base.slot b o e n C t
   exact⟨sl,(f.2 b (Ab9 (Ab3 (Ab1 e) I.ok.above))).trans e1⟩
  .obtain⟨o',e1⟩:=I.base.there b o e t
   exact⟨o',(f.2 b (Ab9 (Ab3 (Ab1 e) I.ok.above))).trans e1⟩
  .by_cases F:j=i
   .subst F
    rw [R]at e1;cases e1
    rw [Ac1 N]at e2
    cases e2
    exact⟨u,r,.inl ⟨B,by simp⟩⟩
   .rw [Ac6 (Ne.symm F)]at e2
    obtain⟨U,r',q⟩:=hl j y v' e1 e2 e3
    refine⟨U,r',?_⟩
    rcases q with⟨k,e⟩ | ⟨k,c,e,z⟩
    .refine .inl ⟨k,?_⟩
     have:y≠x:=λe=>F (jD hN e1 (e▸R))
     simp [this,e]
    .exact .inr ⟨k,c,e,z.sameBut f (eY y c e)⟩
  .obtain⟨S,z⟩:=I.cell y c e
   exact⟨S,z.sameBut f (eY y c e)⟩
  .obtain⟨e,n,ne,nf,d⟩:=I.pin p hp
   exact⟨(f.2 p.1 ne).trans e,n,ne,nf,d⟩
 .have D:X.fn x=true:=by
   rcases hf with z | z
   .exact z
   .rw [z]at B;cases B
  obtain⟨c,l⟩:=I.ok.has x (.inl B)
  obtain⟨S,z⟩:=I.cell x c l
  refine wpAny_storeName_cell I.ok.kind B l z (λG J f=> ?_)
  obtain⟨oc,L,O⟩:=id z
  refine h { s with heap:=G } ⟨I.ok,I.os,I.bare,⟨λb o e n C t=> ?_,λb o e n C t=> ?_,I.base.free,λb o e t=> ?_,I.base.b3,I.base.bT,I.base.b9⟩,⟨m,hn.sameBut f (Ne.symm (eY x c l)),λj y v' e1 e2 e3=> ?_⟩,λy T e=> ?_,I.free,I.aZ,λp hp=> ?_,g ⟨oc,L,I.aZ x c l⟩ f,by simpa using I.len⟩ ⟨c,f,.inr l⟩
  .exact(f.2 b (Ab9 (Ab3 (Ab1 e) (I.ok.gX x c D l)))).trans (I.base.keep b o e n C t)
  .obtain⟨sl,e1⟩:=I.base.slot b o e n C t
   exact⟨sl,(f.2 b (Ab9 (Ab3 (Ab1 e) (I.ok.gX x c D l)))).trans e1⟩
  .obtain⟨o',e1⟩:=I.base.there b o e t
   exact⟨o',(f.2 b (Ab9 (Ab3 (Ab1 e) (I.ok.gX x c D l)))).trans e1⟩
  .by_cases F:j=i
   .subst F
    rw [R]at e1;cases e1
    rw [Ac1 N]at e2
    cases e2
    exact⟨u,r,.inr ⟨.inl B,c,l,J⟩⟩
   .rw [Ac6 (Ne.symm F)]at e2
    obtain⟨U,r',q⟩:=hl j y v' e1 e2 e3
    refine⟨U,r',?_⟩
    rcases q with q | ⟨k,T,e,z'⟩
    .exact .inl q
    .refine .inr ⟨k,T,e,z'.sameBut f ?_⟩
     rintro rfl
     exact F (jD hN e1 (I.ok.inj _ _ _ e l▸R))
  .by_cases K:T=c
   .subst K;exact⟨_,J⟩
   .obtain⟨w2,z2⟩:=I.cell y T e
    exact⟨w2,z2.sameBut f K⟩
  .obtain⟨e,n,ne,nf,d⟩:=I.pin p hp
   refine⟨(f.2 p.1 ?_).trans e,n,ne,nf,d⟩
   intro q
   rw [q,L]at e
   have q':oc=p.2:=Ad8.inj e
   exact d S (by rw [← q'];exact O)
def Ql {M:Model}{A:Around}{E:Value->Shared->Prop}{i:Nat}{x:Str}{v:V}{u:Value}{Q:Unit->Shared->Prop}(I:Inv X y8 Y H s) (d:X.N.Nodup) (e:X.N[i]? =y0 x) (a:hI X.env.scope x) (r:RelV v u)
 (h: ∀s',Inv X y8 (Y.set i (y0 v)) H s'->Q () s') (b:X.fn x=k9\/X.env.scope.names.lookup x=y0 .local:=by first | exact .inl rfl | exact .inr rfl | assumption):wpAny M A (storeName X.env x u) Q E s:=
 j9 I d e a r (λs' c _=>h s' c) b
def Inv.fK {s':Shared}{ch:List Addr}(I:Inv X y8 Y H s) (k:s'.os=s.os) (u:Un (bg X.stack) ch H H' s.heap s'.heap) (a:cj X.prog X.w H' s'.heap) (i:AllBare s'.gens)
 (d: ∀b∈ch,(b∈X.ex\/X.s₀.heap.objs.size<=b)/\b≠X.env.locals/\(∀ x c,X.env.cells.lookup x=y0 c->c≠b)/\ ∀p∈X.pn++y8,p.1≠b):Inv X y8 Y H' s':=by
 obtain⟨l,f,h,g,j⟩:=s'
 have e:j=s.os:=k
 subst e
 exact I.call (g':=f) (t':=g) (d':=h) u a i d
end
abbrev XK:=Value->Option Addr->Hp->Prop
abbrev St:=List (Option V)
abbrev VK:=V->Hp->Prop
abbrev TE:=St->Hp->VK->Prop
abbrev TT:=St->Hp->(Bool->Hp->Prop)->Prop
abbrev TA:=St->Hp->(List V->Hp->Prop)->Prop
structure XJ where
 nx:St->Hp->Prop
 rt:VK
 bk:St->Hp->Prop:=λ_ _=>False
 ct:St->Hp->Prop:=λ_ _=>False
abbrev TS:=XJ->St->Hp->Prop
def EP (X:Cx) (a:List (Addr×Obj)) (Y:St) (Q:VK) (u:Value) (s':Shared):Prop:= ∃v H',Inv X a Y H' s'/\RelV v u/\Q v H'
def TP (X:Cx) (a:List (Addr×Obj)) (Y:St) (Q:Bool->Hp->Prop) (b:Bool) (s':Shared):Prop:= ∃H',Inv X a Y H' s'/\Q b H'
def AP (X:Cx) (a:List (Addr×Obj)) (Y:St) (Q:List V->Hp->Prop) (us:List Value) (s':Shared):Prop:= ∃b H',Inv X a Y H' s'/\Vals b us/\Q b H'
def SP (X:Cx) (a:List (Addr×Obj)) (D:XJ) (f:Flow) (s':Shared):Prop:=
 match f with
 | .next=> ∃b H',Inv X a b H' s'/\D.nx b H'
 | .brk=> ∃b H',Inv X a b H' s'/\D.bk b H'
 | .cont=> ∃b H',Inv X a b H' s'/\D.ct b H'
 | .ret u=> ∃v b H',Inv X a b H' s'/\RelV v u/\D.rt v H'
def PE (X:Cx) (e:Expr) (t:TE):Prop:=
 ∀(y8:List (Addr×Obj)) (s:Shared) (Y:St) (H:Hp) (Q:VK),Inv X y8 Y H s->t Y H Q->wpAny (model X.prog X.w) X.A (eval e X.env) (EP X y8 Y Q) X.xe s
def PT (X:Cx) (e:Expr) (t:TT):Prop:=
 ∀(y8:List (Addr×Obj)) (s:Shared) (Y:St) (H:Hp) (Q:Bool->Hp->Prop),Inv X y8 Y H s->t Y H Q->wpAny (model X.prog X.w) X.A (isTrue e X.env (eval e X.env)) (TP X y8 Y Q) X.xe s
def PW (X:Cx) (e:Expr) (t:TT):Prop:=
 ∀(a:Sem Value) (y8:List (Addr×Obj)) (s:Shared) (Y:St) (H:Hp) (Q:Bool->Hp->Prop),Inv X y8 Y H s->t Y H Q->wpAny (model X.prog X.w) X.A (isTrue e X.env a) (TP X y8 Y Q) X.xe s
def PW.pt {X:Cx}{e:Expr}{t:TT}(h:PW X e t):PT X e t:=h _
def PA (X:Cx) (es:List Expr) (t:TA):Prop:=
 ∀(pos:Pos) (y8:List (Addr×Obj)) (s:Shared) (Y:St) (H:Hp) (Q:List V->Hp->Prop),Inv X y8 Y H s->t Y H Q->wpAny (model X.prog X.w) X.A (spliced (backTo pos (starEach es X.env))) (AP X y8 Y Q) X.xe s
def PS (X:Cx) (st:Stmt) (t:TS):Prop:=
 ∀(y8:List (Addr×Obj)) (s:Shared) (Y:St) (H:Hp) (D:XJ),Inv X y8 Y H s->t D Y H->wpAny (model X.prog X.w) X.A (exec st X.env) (SP X y8 D) X.xe s
def cD (X:Cx) (st:List Stmt) (t:TS):Prop:=
 ∀(y8:List (Addr×Obj)) (s:Shared) (Y:St) (H:Hp) (D:XJ),Inv X y8 Y H s->t D Y H->wpAny (model X.prog X.w) X.A (execs st X.env) (SP X y8 D) X.xe s
def aE {b:Type}{t:Sem b}{Q Q':b->Shared->Prop}{M:Model}{A:Around}{E:Value->Shared->Prop}{s:Shared}(h:wpAny M A t Q E s) (c: ∀a s,Q a s->Q' a s):wpAny M A t Q' E s:=wpAny_mono h c λ_ _ x=>x
section
variable {X:Cx}
def bin {a b:Expr}{d tb:TE}(m:PE X a d) (hb:PE X b tb){c:List (Addr×Obj)}{s:Shared}{Y:St}{H:Hp}{R:V->V->Hp->Prop}(I:Inv X c Y H s) (h:d Y H λx H1=>tb Y H1 λy H2=>R x y H2)
 {e:Type}{Q:e->Shared->Prop}{f:Value->Value->Sem e}
 (p: ∀v u L x y H2,Inv X c Y H2 L->RelV x v->RelV y u->R x y H2->wpAny (model X.prog X.w) X.A (f v u) Q X.xe L):
 wpAny (model X.prog X.w) X.A (eval a X.env) (λv i=>wpAny (model X.prog X.w) X.A (eval b X.env) (λu j=>wpAny (model X.prog X.w) X.A (f v u) Q X.xe j) X.xe i) X.xe s:=by
 refine aE (m c s Y H _ I h) ?_
 rintro v k ⟨x,H1,r,q,l⟩
 refine aE (hb c k Y H1 _ r l) ?_
 rintro u L ⟨y,H2,o,n,g⟩
 exact p v u L x y H2 o q n g
def kb (i:Nat):TE:=λY H Q=> ∃v,Y[i]? =y0 (y0 v)/\Q v H
def tC (v:V):TE:=λ_ H Q=>Q v H
def jo {i:Nat}{x:Str}{pos:Pos}(n:X.N[i]? =some x) (p:gw X.env.scope x) (g:(x==("__debug__" :Str))=false:=by decide) (f:(x==("__classdict__" :Str))=false:=by decide):PE X (.Name x pos) (kb i):=by
 intro d s Y H Q I h
 obtain⟨v,e,h⟩:=h
 obtain⟨m,o,q⟩:=I.loc
 obtain⟨u,r,l⟩:=q i x v n e p
 have fin:EP X d Y Q u s:=⟨v,H,I,r,h⟩
 rcases l with⟨b,k⟩ | ⟨b,c,j,a⟩
 .exact wpAny_Name (wpAny_loadName_local I.ok.kind b o k fin) g
 .rcases b with b | b
  .exact wpAny_Name (wpAny_loadName_cell I.ok.kind b j a fin) g
  .exact wpAny_Name (wpAny_loadName_free I.ok.kind b j a fin f) g
def Bp {i j pos}:PE X (.Constant (.int i) j pos) (tC (.int i)):=λ_ _ _ H _ I h=>wpAny_Constant_int ⟨.int i,H,I.tok _,⟨_,rfl⟩,h⟩
def vk {b j pos}:PE X (.Constant (.bool b) j pos) (tC (.bl b)):=λ_ _ _ H _ I h=>Constant_bool ⟨.bl b,H,I,rfl,h⟩
def yw {j pos}:PE X (.Constant .none j pos) (tC .ai):=λ_ _ _ H _ I h=>Constant_none ⟨.ai,H,I,rfl,h⟩
def mu {x j pos}:PE X (.Constant (.str x) j pos) (tC (.str x)):=λ_ _ _ H _ I h=>Calls.Constant_str ⟨.str x,H,I.tok _,⟨_,rfl⟩,h⟩
def Gl (X:Cx) (x:Str):Prop:=X.env.kindOf x=y0 .globalImplicit
def Zm {E:Value->Shared->Prop}{a:List (Addr×Obj)}{s:Shared}{Y:St}{H:Hp}{x:Str}{u:Value}{pos:Pos}{Q:Value->Shared->Prop}(I:Inv X a Y H s) (b:Gl X x) (c:X.mg x=y0 u) (h:Q u s)
 (d:(x==("__debug__" :Str))=false:=by decide):wpAny (model X.prog X.w) X.A (eval (.Name x pos) X.env) Q E s:=
 Calls.Name_function_global I.ok.kind b (Calls.loadGlobal_global (by rw [I.ok.glob];exact I.mod.glob.keeps I.bk) c h) d
def js {E:Value->Shared->Prop}{a:List (Addr×Obj)}{s:Shared}{Y:St}{H:Hp}{x:Str}{u:Value}{pos:Pos}{Q:Value->Shared->Prop}(I:Inv X a Y H s) (b:Gl X x) (c:X.mg x=u0) (i:bootBuiltins x=y0 u) (h:Q u s)
 (g:x≠ "__name__" :=by decide) (e:(x==("__debug__" :Str))=false:=by decide):wpAny (model X.prog X.w) X.A (eval (.Name x pos) X.env) Q E s:=by
 obtain⟨j,f,d⟩:=I.mod.blt
 exact Calls.Name_function_global I.ok.kind b (Calls.loadGlobal_builtin (by rw [I.ok.glob];exact I.mod.glob.keeps I.bk) c (by rw [I.ok.blt];exact f.keeps I.bk) ((d x g).trans i) h) e
def XM {x:Str}{v:V}{u:Value}{pos:Pos}(a:Gl X x) (b:X.mg x=some u) (r:RelV v u) (c:(x==("__debug__" :Str))=false:=by decide):PE X (.Name x pos) (tC v):=
 λ_ _ _ H _ I h=>Zm I a b ⟨v,H,I,r,h⟩ c
def z9 {x:Str}{v:V}{u:Value}{pos:Pos}(a:Gl X x) (b:X.mg x=none) (e:bootBuiltins x=some u) (r:RelV v u) (d:x≠ "__name__" :=by decide) (c:(x==("__debug__" :Str))=false:=by decide):PE X (.Name x pos) (tC v):=
 λ_ _ _ H _ I h=>js I a b e ⟨v,H,I,r,h⟩ d c
variable {a b:Expr}{ta tb:TE}{pos:Pos}
def PC (X:Cx) (e:CmpOp) (a b:Expr) (t:TE):Prop:=
 ∀(y8:List (Addr×Obj)) (s:Shared) (Y:St) (H:Hp) (Q:VK),Inv X y8 Y H s->t Y H Q →
  wpAny (model X.prog X.w) X.A (eval a X.env) (λv c=>wpAny (model X.prog X.w) X.A (eval b X.env) (λu d=>wpAny (model X.prog X.w) X.A (compareOp e v u) (EP X y8 Y Q) X.xe d) X.xe c) X.xe s
def JU (b:Expr){a:CmpOp}(h:a≠ .In) (h2:a≠ .NotIn):behindInMarks a b=false:=by
 have e1:(a==CmpOp.In)=false:=by cases a<;>first | rfl | exact absurd rfl h
 have e2:(a==CmpOp.NotIn)=false:=by cases a<;>first | rfl | exact absurd rfl h2
 cases b<;>simp [behindInMarks,e1,e2]
def BH (a:TE):TE:=λY H Q=>a Y H λx H1=>Q (.bl (u9 (x= .ai))) H1
def vz (a:TE):TE:=λY H Q=>a Y H λx H1=>Q (.bl (!u9 (x= .ai))) H1
def RelV.da {x:V}{v:Value}(r:RelV x v):(v==Value.none)=u9 (x= .ai):=by
 cases x with
 | ai=>cases r;rfl
 | bl _=>cases r;rfl
 | int _=>obtain⟨t,rfl⟩:=r;rfl
 | str _=>obtain⟨t,rfl⟩:=r;rfl
 | f6 _=>obtain⟨t,rfl⟩:=r;rfl
 | fQ _=>obtain⟨t,rfl⟩:=r;rfl
 | ref _=>cases r;rfl
 | ty _=>cases r;rfl
def nh {j pos'}(g:PE X a ta):PC X .Is a (.Constant .none j pos') (BH ta):=by
 intro b s Y H Q I h
 refine aE (g b s Y H _ I h) ?_
 rintro v i ⟨x,c,e,d,f⟩
 exact Constant_none (is_none_gen ⟨.bl _,c,e,by rw [d.da];rfl,f⟩)
def X0 {j pos'}(g:PE X a ta):PC X .IsNot a (.Constant .none j pos') (vz ta):=by
 intro b s Y H Q I h
 refine aE (g b s Y H _ I h) ?_
 rintro v i ⟨x,c,e,d,f⟩
 exact Constant_none (isnot_none_gen ⟨.bl _,c,e,by rw [d.da];rfl,f⟩)
def tB (t:TE):TT:=λY H Q=>t Y H λx H1=> ∃c,x= .bl c/\Q c H1
def om {d:CmpOp}{t:TE}(h:PC X d a b t) (h1:behindInMarks d b=false:=by first | exact JU _ (by decide) (by decide) | rfl):PE X (.Compare a [d] [b] pos) t:=λc s Y H Q I e=>wpAny_Compare1 (h c s Y H Q I e) h1
def oF {f:CmpOp}{t:TE}(h:PC X f a b t) (h1:behindInMarks f b=false:=by first | exact JU _ (by decide) (by decide) | rfl):PT X (.Compare a [f] [b] pos) (tB t):=by
 intro e s Y H Q I k
 refine wpAny_isTrue_Compare1 (aE (h e s Y H _ I k) λv p h1=>aE h1 λu o i=>aE i λc n ⟨x,g,m,l,j⟩=> ?_) h1
 obtain⟨d,rfl,q⟩:=j
 cases l
 exact wpAny_truthy_bool ⟨g,m,q⟩
variable {tA tB':TT}{rest:List Expr}
def AD (t u:TT):TT:=λY H Q=>t Y H λc H1=>if c=k9 then u Y H1 Q else Q y9 H1
def sD (t u:TT):TT:=λY H Q=>t Y H λc H1=>if c=k9 then Q k9 H1 else u Y H1 Q
def yn (t:TT):TT:=λY H Q=>t Y H λc H1=>Q (!c) H1
def Aw (d:PT X a tA):PW X (.BoolOp .And [a] pos) tA:=by
 intro g b s Y H Q I h
 refine isTrue_and (aE (d b s Y H Q I h) λc f e=> ?_)
 cases c with
 | true=>exact isTrue_and_nil e
 | false=>exact e
def A6 (d:PT X a tA):PW X (.BoolOp .Or [a] pos) tA:=by
 intro g b s Y H Q I h
 refine isTrue_or (aE (d b s Y H Q I h) λc f e=> ?_)
 cases c with
 | false=>exact isTrue_or_nil e
 | true=>exact e
def px (j:PT X a tA) (hb:PW X (.BoolOp .And (b::rest) pos) tB'):PW X (.BoolOp .And (a::b::rest) pos) (AD tA tB'):=by
 intro k d s Y H Q I h
 refine isTrue_and (aE (j d s Y H _ I h) ?_)
 rintro c i ⟨e,g,f⟩
 cases c with
 | true=>exact hb k d i Y e Q g f
 | false=>exact⟨e,g,f⟩
def AO (j:PT X a tA) (hb:PW X (.BoolOp .Or (b::rest) pos) tB'):PW X (.BoolOp .Or (a::b::rest) pos) (sD tA tB'):=by
 intro k d s Y H Q I h
 refine isTrue_or (aE (j d s Y H _ I h) ?_)
 rintro c i ⟨e,g,f⟩
 cases c with
 | true=>exact⟨e,g,f⟩
 | false=>exact hb k d i Y e Q g f
def AM (e:PT X a tA):PT X (.UnaryOp .Not a pos) (yn tA):=by
 intro b s Y H Q I h
 exact isTrue_not (e b s Y H (λc d=>Q (!c) d) I h)
def nK {op}{t:TE}(h:PE X a t):PE X (.BoolOp op [a] pos) t:=λb s Y H Q I c=>BoolOp_one (h b s Y H Q I c)
end
def aY (K:Aa3) (H:Hp) (a:Addr) (xs:List V):Prop:=
 Rd H a (.lst xs) ∨
  ∃(o:Obj) (b:Array Value) (n:Nat),K.lookup a=some o/\o.cls= .type "list" /\o.dict=none/\o.data= .seq b n/\b.size<=sizeLine/\Vals xs b.toList
def bK (K:Aa3) (H:Hp) (a:Addr) (xs:List V):Prop:=
 Rd H a (.tup xs) ∨
  ∃(o:Obj) (b:Array Value) (n:Nat),K.lookup a=y0 o/\o.cls= .type "tuple" /\o.data= .seq b n/\b.size<=sizeLine/\Vals xs b.toList
noncomputable def yt:Value->Option V
 | .none=>y0 .ai
 | .bool b=>y0 (.bl b)
 | .int i _=>y0 (.int i)
 | .str x _=>y0 (.str x)
 | .bytes b _=>y0 (.f6 b)
 | .float b _=>y0 (.fQ b)
 | .ref a=>y0 (.ref a)
 | .type n=>y0 (.ty n)
 | _=>u0
def RelV.abs {x:V}{u:Value}(r:RelV x u):yt u=y0 x:=by
 cases x with
 | ai=>cases r;rfl
 | bl _=>cases r;rfl
 | int _=>obtain⟨t,rfl⟩:=r;rfl
 | str _=>obtain⟨t,rfl⟩:=r;rfl
 | f6 _=>obtain⟨t,rfl⟩:=r;rfl
 | fQ _=>obtain⟨t,rfl⟩:=r;rfl
 | ref _=>cases r;rfl
 | ty _=>cases r;rfl
theorem RelV.inj {x y:V}{u:Value}(r:RelV x u) (q:RelV y u):x=y:=Ad8.inj (r.abs.symm.trans q.abs)
theorem Vals.inj: ∀ {xs a:List V}{us:List Value},Vals xs us->Vals a us->xs=a
 | _,_,_,.nil,.nil=>rfl
 | _,_,_,.cons r t,.cons c b=>by rw [r.inj c,Vals.inj t b]
section
variable {X:Cx}{y8:List (Addr×Obj)}{Y:St}{H:Hp}{s:Shared}{a:Addr}{xs ys:List V}
def aY.of {K:Aa3}(h:H a=y0 (.lst xs)):aY K H a xs:= .inl (.inl h)
def Inv.list (I:Inv X y8 Y H s) (h:aY X.K H a xs): ∃i:List Value,Vals xs i/\PlainL s.heap a i.toArray/\xs.length<=sizeLine:=by
 rcases h with h | ⟨o,i,n,d,f,c,b,g,r⟩
 .obtain⟨z,i,n,r,e⟩:=h.ok I.aD
  exact⟨i,r,⟨_,n,e,rfl,rfl,rfl⟩,z⟩
 .refine⟨i.toList,r,⟨o,n,I.bj a o d,f,c,by simpa using b⟩,?_⟩
  have e:=r.length
  simp only [Af3]at e
  omega
def Inv.tuple (I:Inv X y8 Y H s) (h:bK X.K H a xs): ∃i:List Value,Vals xs i/\IsTup s.heap a i.toArray/\xs.length<=sizeLine:=by
 rcases h with h | ⟨o,i,n,c,d,b,f,r⟩
 .obtain⟨z,i,r,p⟩:=h.ok I.aD
  exact⟨i,r,p.is,z⟩
 .refine⟨i.toList,r,⟨o,I.bj a o c,d,n,by simpa using b⟩,?_⟩
  have e:=r.length
  simp only [Af3]at e
  omega
def Inv.c3 (I:Inv X y8 Y H s) (h:aY X.K H a xs) (h':aY X.K H a ys):xs=ys:=by
 obtain⟨c,r,⟨o,n,e,_,_,d⟩,_⟩:=I.list h
 obtain⟨b,j,⟨l,k,g,_,_,f⟩,_⟩:=I.list h'
 rw [e]at g;cases g
 rw [d]at f
 injection f with i _
 have:c=b:=by simpa using congrArg Array.toList i
 subst this
 exact r.inj j
def Inv.cK (I:Inv X y8 Y H s) (h:bK X.K H a xs) (h':bK X.K H a ys):xs=ys:=by
 obtain⟨c,r,⟨o,e,_,n,d⟩,_⟩:=I.tuple h
 obtain⟨b,j,⟨l,g,_,k,f⟩,_⟩:=I.tuple h'
 rw [e]at g;cases g
 rw [d]at f
 injection f with i _
 have:c=b:=by simpa using congrArg Array.toList i
 subst this
 exact r.inj j
end
abbrev Cx.cH (X:Cx) (E:Value->Shared->Prop):Cx:= { X with xe:=E }
abbrev Cx.cE (X:Cx):Cx:=X.cH λ_ _=>False
theorem Cx.Ok.cH {X:Cx}(ok:X.Ok) (E:Value->Shared->Prop):(X.cH E).Ok:=
 ⟨ok.mod,ok.kind,ok.glob,ok.blt,ok.above,ok.inj,ok.has,ok.gX,ok.hd,ok.frames,ok.eL,ok.iA,ok.bs,ok.ez,ok.dN,ok.dO,ok.b7,ok.fW⟩
def Cx.Ok.bF {X:Cx}{E:Value->Shared->Prop}(ok:(X.cH E).Ok):X.Ok:=
 ⟨ok.mod,ok.kind,ok.glob,ok.blt,ok.above,ok.inj,ok.has,ok.gX,ok.hd,ok.frames,ok.eL,ok.iA,ok.bs,ok.ez,ok.dN,ok.dO,ok.b7,ok.fW⟩
section
variable {X:Cx}{y8:List (Addr×Obj)}{Y:St}{H:Hp}{s:Shared}{E:Value->Shared->Prop}
theorem Inv.cH (I:Inv X y8 Y H s) (E:Value->Shared->Prop):Inv (X.cH E) y8 Y H s:=⟨I.ok.cH E,I.os,I.bare,I.base,I.loc,I.cell,I.free,I.aZ,I.pin,I.aD,I.len⟩
theorem Inv.bF (I:Inv (X.cH E) y8 Y H s):Inv X y8 Y H s:=⟨I.ok.bF,I.os,I.bare,I.base,I.loc,I.cell,I.free,I.aZ,I.pin,I.aD,I.len⟩
theorem SP.bF {D:XJ}{f:Flow}{s':Shared}(h:SP (X.cH E) y8 D f s'):SP X y8 D f s':=by
 cases f with
 | next=>obtain⟨b,a,I,q⟩:=h;exact⟨b,a,I.bF,q⟩
 | brk=>obtain⟨b,a,I,q⟩:=h;exact⟨b,a,I.bF,q⟩
 | cont=>obtain⟨b,a,I,q⟩:=h;exact⟨b,a,I.bF,q⟩
 | ret u=>obtain⟨v,b,a,I,r,q⟩:=h;exact⟨v,b,a,I.bF,r,q⟩
end
section
variable {X:Cx}{st:Stmt}{rest:List Stmt}{t u:TS}{e:Expr}{te:TE}{pos:Pos}
def vW:TS:=λD Y H=>D.nx Y H
def Ap (t u:TS):TS:=λD Y H=>t { D with nx:=u D } Y H
def uR:cD X [] vW:=λ_ _ Y H _ I h=>wpAny_execs_nil ⟨Y,H,I,h⟩
def pP (h1:PS X st t) (h2:cD X rest u):cD X (st::rest) (Ap t u):=by
 intro a s Y H D I h
 refine wpAny_execs_cons (aE (h1 a s Y H { D with nx:=u D } I h) λf b q=> ?_)
 cases f with
 | next=>
  obtain⟨e,c,d,q⟩:=q
  exact h2 a b e c D d q
 | ret v=>exact q
 | brk=>exact q
 | cont=>exact q
def vJ (h1:PS X st t):cD X [st] t:=by
 intro a s Y H D I h
 refine wpAny_execs_cons (aE (h1 a s Y H D I h) λf b q=> ?_)
 cases f with
 | next=>exact wpAny_execs_nil q
 | ret v=>exact q
 | brk=>exact q
 | cont=>exact q
def Inv.quiet {a:List (Addr×Obj)}{Y:St}{H:Hp}{s:Shared}(I:Inv X a Y H s):interactive X.env=false:=by simp [interactive,I.ok.kind]
def yc (a:TE):TS:=λD Y H=>a Y H λ_ H1=>D.nx Y H1
def ZC (c:PE X e te) (d:swapsWith e u0 pos.line X.env=pure false:=by rfl):PS X (.Expr e pos) (yc te):=by
 intro a s Y H D I h
 exact wpAny_Expr_any (aE (c a s Y H _ I h) λv i ⟨x,b,f,j,g⟩=>⟨Y,b,f,g⟩) I.quiet d
def pH (a:TE):TS:=λD Y H=>a Y H D.rt
def oW (d:PE X e te):PS X (.Return (y0 e) pos) (pH te):=by
 intro a s Y H D I h
 exact wpAny_Return_some (aE (d a s Y H _ I h) λv i ⟨x,b,f,c,g⟩=>⟨x,Y,b,f,c,g⟩)
def sR (c:TT) (t u:TS):TS:=λD Y H=>c Y H λb H1=>if b=k9 then t D Y H1 else u D Y H1
def Bx {c:Expr}{a b:List Stmt}{k:TT}(m:PT X c k) (l:cD X a t) (hb:cD X b u):PS X (.If c a b pos) (sR k t u):=by
 intro e s Y H D I h
 refine wpAny_If (aE (m e s Y H _ I h) ?_)
 rintro d i ⟨f,g,j⟩
 cases d with
 | true=>exact l e i Y f D g j
 | false=>exact hb e i Y f D g j
end
abbrev TG:=V->St->Hp->(St->Hp->Prop)->Prop
abbrev gD:=List V->St->Hp->(St->Hp->Prop)->Prop
def PG (X:Cx) (a:Expr) (t:TG):Prop:=
 ∀(y8:List (Addr×Obj)) (s:Shared) (Y:St) (H:Hp) (v:V) (u:Value) (Q:St->Hp->Prop),Inv X y8 Y H s->RelV v u->t v Y H Q →
  wpAny (model X.prog X.w) X.A (assign a X.env u) (λ_ s'=> ∃b H',Inv X y8 b H' s'/\Q b H') X.xe s
def iz (X:Cx) (d:List Expr) (t:gD):Prop:=
 ∀(y8:List (Addr×Obj)) (s:Shared) (Y:St) (H:Hp) (c:List V) (b:List Value) (Q:St->Hp->Prop),Inv X y8 Y H s->Vals c b->t c Y H Q →
  wpAny (model X.prog X.w) X.A (assignInOrder ((assignEach d X.env).map (·.2)) b) (λ_ s'=> ∃a H',Inv X y8 a H' s'/\Q a H') X.xe s
abbrev lq:=V->V->V->Hp->(Hp->Prop)->Prop
def oY (X:Cx) (t:lq):Prop:=
 ∀(y8:List (Addr×Obj)) (s:Shared) (Y:St) (H:Hp) (o i v:V) (a b u:Value) (Q:Hp->Prop),Inv X y8 Y H s->RelV o a->RelV i b->RelV v u->t o i v H Q →
  wpAny (model X.prog X.w) X.A (setItem a b u) (λ_ s'=> ∃H',Inv X y8 Y H' s'/\Q H') X.xe s
section
variable {X:Cx}{pos:Pos}
def wL (i:Nat):TG:=λv Y H Q=>Q (Y.set i (y0 v)) H
def WL {i:Nat}{x:Str}(f:X.N.Nodup) (e:X.N[i]? =y0 x) (b:hI X.env.scope x) (c:X.fn x=k9\/X.env.scope.names.lookup x=y0 .local:=by first | exact .inl rfl | exact .inr rfl | assumption):PG X (.Name x pos) (wL i):=by
 intro a s Y H v u Q I r h
 exact wpAny_assign_Name (Ql I f e b r (λg d=>⟨_,H,d,h⟩) c)
def rE:gD:=λa Y H Q=>a= []/\Q Y H
def rL (t:TG) (u:gD):gD:=λb Y H Q=> ∃v r,b=v::r/\t v Y H λa H'=>u r a H' Q
def J5:iz X [] rE:=by
 intro a s Y H c b Q I r h
 obtain⟨e,h⟩:=h
 subst e
 cases r
 exact assignInOrder_nil ⟨Y,H,I,h⟩
def jC {e:Expr}{es:List Expr}{t:TG}{u:gD}(h1:PG X e t) (h2:iz X es u)
 (g:(assignEach (e::es) X.env).map (·.2)=assign e X.env::(assignEach es X.env).map (·.2):=by rfl):iz X (e::es) (rL t u):=by
 intro a s Y H m l Q I r h
 obtain⟨v,k,e1,h⟩:=h
 subst e1
 cases r with
 | cons r c=>
  rw [g]
  refine assignInOrder_cons (aE (h1 a s Y H _ _ _ I r h) ?_)
  rintro _ d ⟨i,b,j,f⟩
  exact h2 a d i b _ _ Q j c f
def BG (K:Aa3) (n:Nat) (t:gD):TG:=λv Y H Q=> ∃a xs,v= .ref a/\bK K H a xs/\xs.length=n/\t xs Y H Q
def nE {es:List Expr}{k:Nat}{t:gD}{n:Nat}(y:X.calm=k9) (h:iz X es t)
 (m:(assignEach es X.env).length=n:=by rfl) (f:(assignEach es X.env).findIdx? (·.1)=none:=by rfl):PG X (.Tuple es k pos) (BG X.K n t):=by
 intro c s Y H v u Q I r d
 obtain⟨a,p,e1,l,x,d⟩:=d
 subst e1
 cases r
 obtain⟨i,rv,q,z⟩:=I.tuple l
 refine assign_Tuple_tuple (I.ok.hd y) q (by simp [m,←x,rv.length]) f λj w=> ?_
 have g:Inv X c Y H { s with heap:=j }:=I.kept (t':=s.toks) λb o e=>w b o (Ab9 (Ab1 e)) e
 exact h c _ Y H p _ Q g (by simpa using rv) d
def ur (b c:TE) (t:lq):TG:=λv Y H Q=>b Y H λo H1=>c Y H1 λi H2=>t o i v H2 λa=>Q Y a
def lG {o i:Expr}{c b:TE}{t:lq}(f:PE X o c) (D:PE X i b) (q:oY X t)
 (p: ∀v,assign (.Subscript o i pos) X.env v=(do
   let j ←holding [v] (eval o X.env)
   let L ←holding [v,j] (eval i X.env)
   standAt pos
   holding [v,j,L] (setItem j L v)
   release [v,j,L] []):=by intro _;rfl):PG X (.Subscript o i pos) (ur c b t):=by
 intro a s Y H v u Q I r h
 rw [p]
 refine wpAny_bind (wpAny_holding (aE (f a s Y H _ I h) ?_))
 rintro j l ⟨x,d,E,C,n⟩
 refine wpAny_bind (wpAny_holding (aE (D a l Y d _ E n) ?_))
 rintro L k ⟨y,A,z,w,g⟩
 refine wpAny_bind (wpAny_standAt (wpAny_bind (wpAny_holding (aE (q a k Y A x y v j L u _ z C w r g) ?_))))
 rintro _ F ⟨m,B,e⟩
 exact wpAny_release ⟨Y,m,B,e⟩
def fL (a:TE) (g:TG):TS:=λD Y H=>a Y H λx H1=>g x Y H1 D.nx
def QQ {tg e:Expr}{b:TE}{g:TG}(j:PE X e b) (d:PG X tg g) (l:swapsWithSole [tg] e pos.line X.env=pure false:=by rfl) (n:swappedStores [tg] e X.env=pure none:=by rfl)
 (h1:(assignEach [tg] X.env).map (·.2)= [assign tg X.env]:=by rfl):PS X (.Assign [tg] e pos) (fL b g):=by
 intro a s Y H D I h
 refine wpAny_Assign_stores (aE (j a s Y H _ I h) λv i ⟨x,c,f,m,k⟩=> ?_) l n
 rw [h1]
 exact aE (d a i Y c x v _ f m k) λ_ o q=>q
def yg {i:Nat}{x:Str}{e:Expr}{b:TE}{pos':Pos}(j:X.N.Nodup) (o:X.N[i]? =y0 x) (l:hI X.env.scope x) (d:PE X e b) (g:swapsWith e (y0 (.Name x pos')) pos.line X.env=pure false:=by rfl) (m:X.fn x=k9\/X.env.scope.names.lookup x=y0 .local:=by first | exact .inl rfl | exact .inr rfl | assumption):
 PS X (.Assign [.Name x pos'] e pos) (fL b (wL i)):=by
 intro a s Y H D I h
 refine wpAny_Assign_Name (aE (d a s Y H _ I h) λv r ⟨y,c,p,n,f⟩=> ?_) g
 exact Ql p j o l n (λq k=>⟨_,c,k,f⟩) m
end
structure It where
 go:Nat->Hp->Prop
 dH:Nat->Hp->V->Hp->Prop
 stop:Nat->Hp->Prop
def zX (X:Cx) (a:List (Addr×Obj)) (H:Hp) (b:Addr):Prop:=
 H b=u0/\b≠X.env.locals/\b∉X.fs/\(b∈X.ex\/X.s₀.heap.objs.size<=b)/\(∀ x c,X.env.cells.lookup x=y0 c->c≠b)/\ ∀p∈X.pn++a,p.1≠b
def Inv.cC {X:Cx}{a:List (Addr×Obj)}{Y:St}{H H':Hp}{s:Shared}{b:Addr}(I:Inv X a Y H s) (hb:s.heap.objs.size<=b) (f:H' b=u0):zX X a H' b:=by
 refine⟨f,Al0 (Ab3 I.lt hb),I.lb hb,.inr (Ac0 I.sz hb),λx c e z=> ?_,λp d z=> ?_⟩
 .obtain⟨v,q⟩:=I.cell x c e
  exact absurd (Ab3 q.lt (by rw [z];exact hb)) (Af6 _)
 .exact absurd (Ab3 (Ab1 (I.pin p d).1) (by rw [z];exact hb)) (Af6 _)
structure fH (P:Program) (w:World) (K:Aa3) (tg:Expr) (J:It) (fp:List Addr) (it:Addr) (tn:Nat->Heap->Prop):Prop where
 mem:it∈fp
 obj: ∀i h,tn i h-> ∀b∈fp,∃o,h.get? b=y0 o/\ ∀v,o.data≠ .cell v
 keep: ∀i h h',tn i h->(∀ b∈fp,∀o,h.get? b=y0 o->h'.get? b=y0 o)->tn i h'
 item: ∀(X:Cx),X.prog=P->X.w=w->X.K=K->X.calm=k9-> ∀(i:Nat) (y8:List (Addr×Obj)) (s:Shared) (Y:St) (H:Hp) (E:Value->Shared->Prop),Inv X y8 Y H s->(∀ b∈fp,zX X y8 H b)->tn i s.heap->J.go i H →
  wpAny (model P w) X.A (pyNext (.ref it)) (λr s1=> ∃u,r=y0 u ∧
   wpAny (model P w) X.A (letOwnedTupleGo tg (.ref it) u) (λ_ s2=> ∃x H',Inv X y8 Y H' s2/\RelV x u/\J.dH i H x H'/\tn (i+1) s2.heap/\ ∀b∈fp,H' b=u0) E s1) E s
 done: ∀(X:Cx),X.prog=P->X.w=w->X.K=K->X.calm=k9-> ∀(i:Nat) (y8:List (Addr×Obj)) (s:Shared) (Y:St) (H:Hp) (E:Value->Shared->Prop),Inv X y8 Y H s->(∀ b∈fp,zX X y8 H b)->tn i s.heap->J.stop i H →
  wpAny (model P w) X.A (pyNext (.ref it)) (λr s1=>r=u0/\Inv X y8 Y H s1) E s
 self: ∀(A:Around) (i:Nat) (s:Shared) (Q:Value->Shared->Prop) (E:Value->Shared->Prop),tn i s.heap->Q (.ref it) s->wpAny (model P w) A (pyIter (.ref it)) Q E s
abbrev TI:=St->Hp->(It->Hp->Prop)->Prop
def ny (X:Cx) (a:List (Addr×Obj)) (Y:St) (tg:Expr) (R:It->Hp->Prop) (c:Value) (f:Shared):Prop:=
 ∃(e:Addr) (fp:List Addr) (d:Nat->Heap->Prop) (J:It) (H':Hp),c= .ref e/\Inv X a Y H' f/\fH X.prog X.w X.K tg J fp e d/\d 0 f.heap/\(∀ b∈fp,zX X a H' b)/\R J H'
def PI (X:Cx) (tg a:Expr) (b:TI):Prop:=
 ∀(y8:List (Addr×Obj)) (s:Shared) (Y:St) (H:Hp) (R:It->Hp->Prop),Inv X y8 Y H s->b Y H R →
  wpAny (model X.prog X.w) X.A (eval a X.env) (λv c=>wpAny (model X.prog X.w) X.A (pyIter v) (ny X y8 Y tg R) X.xe c) X.xe s
def W4 {M:Model}{A:Around}{E:Value->Shared->Prop}{s:Shared}{tg:Expr}{it:Addr}{u:Value}{o:Obj}{n:String}{vs:Array Value}{Q:Unit->Shared->Prop}(d:s.heap.get? it=y0 o) (b:o.cls= .type n) (c:o.data= .fields vs)
 (e: ["enumerate", "zip", "dict_itemiterator", "dict_reverseitemiterator", "odict_iterator", "itertools.zip_longest", "itertools.pairwise"].contains n=false) (a:Q () s):wpAny M A (letOwnedTupleGo tg (.ref it) u) Q E s:=by
 unfold letOwnedTupleGo
 cases tg<;>first
  | exact wpAny_pure a
  | (cases u<;>first
      | exact wpAny_pure a
      | (refine wpAny_bind (wpAny_load d ?_)
         rw [b,c]
         show wpAny M A (if (["enumerate", "zip", "dict_itemiterator", "dict_reverseitemiterator", "odict_iterator", "itertools.zip_longest", "itertools.pairwise"].contains n&&vs[0]? ==some (rawInt _))=true then _ else _) Q E s
         rw [if_neg (by intro h;rw [e,Ag6]at h;cases h)]
         exact wpAny_pure a))
noncomputable def gO (K:Aa3) (a:Addr):It:=
 ⟨λi H=> ∃xs x,aY K H a xs/\xs[i]? =y0 x,λi H x H'=>H'=H/\ ∀xs,aY K H a xs->xs[i]? =y0 x,λi H=> ∃xs,aY K H a xs/\xs.length<=i⟩
noncomputable def gT (K:Aa3) (a:Addr):It:=
 ⟨λi H=> ∃xs x,bK K H a xs/\xs[i]? =y0 x,λi H x H'=>H'=H/\ ∀xs,bK K H a xs->xs[i]? =y0 x,λi H=> ∃xs,bK K H a xs/\xs.length<=i⟩
def km (a:Int) (n:Nat):It:=⟨λi _=>i<n,λi H x H'=>H'=H/\x= .int (a+i),λi _=>n<=i⟩
def q3 {P:Program}{w:World}{K:Aa3}{tg:Expr}(a it:Addr):fH P w K tg (gO K a) [it] it (λi h=>h.IsListIter it a i) where
 mem:=by simp
 obj:=λi h f b j=>by
  have e:b=it:=by simpa using j
  subst e
  obtain⟨o,e,c,d⟩:=f
  exact⟨o,e,λv z=>by rw [d]at z;cases z⟩
 keep:=λi h m f k=>f.at λo e=>k it (by simp) o e
 item:=by
  intro X D J L M i g s Y H E I q f r
  subst D J L
  obtain⟨U,x,n,G⟩:=r
  obtain⟨y,rv,p,V⟩:=I.list n
  obtain⟨u,W,T⟩:=rv.get G
  obtain⟨C,t,R,A,B,F⟩:=q it (by simp)
  refine wpAny_pyNext_list_item f p.isList (x:=u) (by simpa using W) λm l S=> ?_
  have O:Inv X g Y H { s with heap:=m }:=I.turned (t':=s.toks) (λb o j e=>(S.2 b j).trans e) C t A B F
  obtain⟨o,e,c,d⟩:=id l
  exact⟨u,rfl,W4 (s:= { s with heap:=m }) e c d (by decide) ⟨x,H,O,T,⟨rfl,λZ Q=>by rw [I.c3 Q n];exact G⟩,l,λb j=>(q b j).1⟩⟩
 done:=by
  intro X D J L M i g s Y H E I q f r
  subst D J L
  obtain⟨U,n,G⟩:=r
  obtain⟨y,rv,p,V⟩:=I.list n
  obtain⟨C,t,R,A,B,F⟩:=q it (by simp)
  have hl:=rv.length
  exact wpAny_pyNext_list_end (I.ok.hd M) f p.isList (by simp;omega) λm N=>⟨rfl,I.turned (t':=s.toks) (λb o j e=>N b o j e) C t A B F⟩
 self:=λ_ _ _ _ _ f h=>wpAny_pyIter_listiter f h
def QX {P:Program}{w:World}{K:Aa3}{tg:Expr}(a it:Addr):fH P w K tg (gT K a) [it] it (λi h=>h.IsTupleIter it a i) where
 mem:=by simp
 obj:=λi h f b j=>by
  have e:b=it:=by simpa using j
  subst e
  obtain⟨o,e,c,d⟩:=f
  exact⟨o,e,λv z=>by rw [d]at z;cases z⟩
 keep:=λi h n f k=>f.at λo e=>k it (by simp) o e
 item:=by
  intro X D J L M i g s Y H E I r f t
  subst D J L
  obtain⟨U,x,q,G⟩:=t
  obtain⟨l,rv,p,V⟩:=I.tuple q
  obtain⟨u,W,T⟩:=rv.get G
  obtain⟨C,y,R,A,B,F⟩:=r it (by simp)
  refine wpAny_pyNext_tuple_item f (show s.heap.IsTuple a l.toArray from p) (x:=u) (by simpa using W) λn m S=> ?_
  have O:Inv X g Y H { s with heap:=n }:=I.turned (t':=s.toks) (λb o j e=>(S.2 b j).trans e) C y A B F
  obtain⟨o,e,c,d⟩:=id m
  exact⟨u,rfl,W4 (s:= { s with heap:=n }) e c d (by decide) ⟨x,H,O,T,⟨rfl,λZ Q=>by rw [I.cK Q q];exact G⟩,m,λb j=>(r b j).1⟩⟩
 done:=by
  intro X D J L M i g s Y H E I r f t
  subst D J L
  obtain⟨U,q,G⟩:=t
  obtain⟨l,rv,p,V⟩:=I.tuple q
  obtain⟨C,y,R,A,B,F⟩:=r it (by simp)
  have hl:=rv.length
  exact wpAny_pyNext_tuple_end (I.ok.hd M) f (show s.heap.IsTuple a l.toArray from p) (by simp;omega) λn N=>⟨rfl,I.turned (t':=s.toks) (λb o j e=>N b o j e) C y A B F⟩
 self:=λ_ _ _ _ _ f h=>wpAny_pyIter_tupleiter f h
def WW {P:Program}{w:World}{K:Aa3}{tg:Expr}(it:Addr) (j:Int) (n:Nat):fH P w K tg (km j n) [it] it (λi h=>IsRangeIter h it (j+(i:Nat)*1) ((n:Int)-(i:Nat)) 1) where
 mem:=by simp
 obj:=λi h a b d=>by
  have e:b=it:=by simpa using d
  subst e
  exact⟨_,a,λv z=>by
   have M:Data.fields _=Data.cell v:=z
   cases M⟩
 keep:=λi h g a k=>k it (by simp) _ a
 item:=by
  intro X x B C A i c s Y H E I l a m
  subst x B C
  obtain⟨u,p,J,q,r,y⟩:=l it (by simp)
  have W:=Walks.range (prog:=X.prog) (w:=X.w) (I.ok.hd A) it j 1 n
  refine W.item i s _ _ m a λv g D N f L=> ?_
  obtain⟨t,rfl⟩:=N
  have G:Inv X c Y H { s with heap:=g,toks:=D }:=I.turned (λb o d e=>L b o (by simpa using d) e) u p q r y
  refine⟨_,rfl,W4 (s:= { s with heap:=g,toks:=D }) (n:= "range_iterator") f rfl rfl (by decide) ⟨.int (j+i),H,G,⟨t,?_⟩,⟨rfl,rfl⟩,f,fun b d=>(l b d).1⟩⟩
  rw [Int.mul_one]
 done:=by
  intro X x B C A i c s Y H E I l a m
  subst x B C
  obtain⟨u,p,J,q,r,y⟩:=l it (by simp)
  exact wpAny_pyNext_range_end (I.ok.hd A) a (by have:n<=i:=m;omega) λg F=>⟨rfl,I.turned (t':=s.toks) (λb o d e=>F b o d e) u p q r y⟩
 self:=λ_ _ _ _ _ a h=>wpAny_pyIter_rangeiter a h
section
variable {X:Cx}{tg:Expr}
def vu {d:List (Addr×Obj)}{Y:St}{H:Hp}{s:Shared}{R:It->Hp->Prop}{E:Value->Shared->Prop}{a c:Int}{t u v:Tok}{f:Nat}(I:Inv X d Y H s) (h1: -(2 ^ 62)<=a) (h2:a<2 ^ 62) (j: -(2 ^ 62)<=c) (h:c<2 ^ 62)
 (q:R (km a (c-a).toNat) H):wpAny (model X.prog X.w) X.A (pyIter (.ref s.heap.objs.size)) (ny X d Y tg R) E { s with heap:=s.heap.push { cls:= .type "range",data:= .fields #[.int a t,.int c u,.int 1 v] },toks:=f }:=by
 refine wpAny_pyIter_range (IsRange.new ..) (small_one h1 h2 j h) ?_
 have g:Inv X d Y H { s with heap:=s.heap.push { cls:= .type "range",data:= .fields #[.int a t,.int c u,.int 1 v] },toks:=f }:=I.kept fun b o e=>Heap.get?_push_of_some _ e
 refine⟨(s.heap.push { cls:= .type "range",data:= .fields #[.int a t,.int c u,.int 1 v] }).objs.size,[(s.heap.push { cls:= .type "range",data:= .fields #[.int a t,.int c u,.int 1 v] }).objs.size],_,_,H,rfl,
  g.kept (t':=f) λb o e=>Aa2 _ e,WW _ a (c-a).toNat,?_,λb i=> ?_,q⟩
 .have e1:a+((0:Nat):Int)*1=a:=by simp
  have e2:(((c-a).toNat:Nat):Int)-((0:Nat):Int)=Builtin.Range.rangeSize a c 1:=by rw [rangeSize_one];split<;>omega
  show IsRangeIter _ _ (a+((0:Nat):Int)*1) ((((c-a).toNat:Nat):Int)-((0:Nat):Int)) 1
  rw [e1,e2]
  exact Ab6 _ rfl
 .have e:b=(s.heap.push { cls:= .type "range",data:= .fields #[.int a t,.int c u,.int 1 v] }).objs.size:=by simpa using i
  subst e
  exact g.cC (Aa6 _) (g.aD.fresh (Aa6 _))
def sV (a:TA):TI:=λY H R=>a Y H λb H1=> ∃j:Int,b= [.int j]/\ -(2 ^ 62)<=j/\j<2 ^ 62/\R (km 0 j.toNat) H1
def pq {a:Expr}{d:TA}{p pos:Pos}(f:Gl X "range") (k:X.mg "range" =none) (l:PA X [a] d) (m:starEach [a] X.env= [(false,eval a X.env)]:=by rfl):PI X tg (.Call (.Name "range" p) [a] [] pos) (sV d):=by
 intro b s Y H R I h
 refine Call_ (js I f k boot_range (PyProof.Rows.callWith_type1 (aE (l pos b s Y H _ I h) λw v ⟨x,u,o,n,c⟩=> ?_) m rfl))
 obtain⟨j,e,c,i,q⟩:=c
 subst e
 cases n with
 | cons r g=>
  cases g
  obtain⟨t,rfl⟩:=r
  exact call_range_1 (vu o (by omega) (by omega) c i (by simpa using q))
def uq (c:TI) (g:TG) (tb:TS):TS:=λD Y H=>c Y H λJ H1=> ∃W:Nat->Nat->St->Hp->Prop,(∃ m,W 0 m Y H1)/\ ∀i m Y H,W i m Y H →
 (J.stop i H/\D.nx Y H)\/(J.go i H/\ ∃N:St->Hp->Prop,(∀ a H',N a H'-> ∃b,b<m/\W (i+1) b a H')/\ ∀x H',J.dH i H x H'->g x Y H' λd H2=>tb { D with nx:=N,ct:=N,bk:=D.nx } d H2)
def ju (a:List Addr) (h:Heap):List (Addr×Obj):=a.filterMap λb=>(h.get? b).map λo=>(b,o)
def zh {a:List Addr}{h:Heap}{b:Addr}{o:Obj}(hb:b∈a) (e:h.get? b=y0 o):(b,o)∈ju a h:=Ak5.mpr ⟨b,hb,by rw [e];rfl⟩
def XI {a:List Addr}{h:Heap}{p:Addr×Obj}(c:p∈ju a h):p.1∈a/\h.get? p.1=y0 p.2:=by
 obtain⟨b,f,e⟩:=Ak5.mp c
 cases q:h.get? b with
 | none=>rw [q]at e;cases e
 | some o=>
  rw [q]at e
  have d:(b,o)=p:=Ad8.inj e
  subst d
  exact⟨f,q⟩
def Inv.pinned {a:List (Addr×Obj)}{Y:St}{H:Hp}{s:Shared}{c:List Addr}(I:Inv X a Y H s) (m: ∀b∈c,zX X a H b) (i: ∀b∈c,∃o,s.heap.get? b=y0 o/\ ∀v,o.data≠ .cell v):Inv X (a++ju c s.heap) Y H s:=
 I.bz λp l=>(Ah0.mp l).elim (λz=>I.pin p (Ab4 _ z)) λz=>by
  obtain⟨g,e⟩:=XI z
  obtain⟨k,h,j,_⟩:=m p.1 g
  obtain⟨o,f,d⟩:=i p.1 g
  rw [e]at f;cases f
  exact⟨e,k,h,j,d⟩
def Inv.bG {a pl:List (Addr×Obj)}{Y:St}{H:Hp}{s:Shared}(I:Inv X (a++pl) Y H s):Inv X a Y H s:=I.bz λp b=>I.pin p (Ab4 _ (Ag3 _ b))
def vM {k:Expr}{body:List Stmt}{U:TI}{g:TG}{tb:TS}{pos:Pos}(A:PassesOwn (model X.prog X.w) X.A X.env X.xe) (hc:X.calm=k9) (hi:PI X tg k U) (hg:PG X tg g) (hb:cD X body tb)
 (hs: ∀x,foldedSetIterable k X.env x=pure x:=by intro _;rfl):PS X (.For tg k body [] pos) (uq U g tb):=by
 intro a s Y H D I h
 refine wpAny_For (aE (hi a s Y H _ I h) λv s1 h1=>aE h1 λitv s2 h2=> ?_) hs
 obtain⟨it,G,S,J,H2,e,I2,T,R,f2,W,⟨m0,w0⟩,C⟩:=h2
 subst e
 have j: ∀ {t:Hp},(∀ b∈G,t b=u0)-> ∀b∈G,zX X a t b:=λhn b hb=>⟨hn b hb,(f2 b hb).2⟩
 refine codeAny_forLoop_any (λn s'=> ∃i B t,Inv X a B t s'/\S i s'.heap/\(∀ b∈G,t b=u0)/\W i n B t) ?_ m0 ⟨0,Y,H2,I2,R,λb hb=>(f2 b hb).1,w0⟩
 rintro n Z ⟨i,E,L,V,z,K,w3⟩
 rcases C i n E L w3 with⟨stop,qn⟩ | ⟨go,N,hN,step⟩
 .refine wpAny_passesOwn A (aE (T.done X rfl rfl rfl hc i a Z E L X.xe V (j K) z stop) ?_)
  rintro r s4 ⟨M,I4⟩
  subst M
  exact wpAny_execs_nil ⟨E,L,I4,qn⟩
 .refine wpAny_passesOwn A (aE (T.item X rfl rfl rfl hc i a Z E L X.xe V (j K) z go) ?_)
  rintro r s4 ⟨u,M,h4⟩
  subst M
  refine wpAny_passesOwn A (aE h4 ?_)
  rintro _ s5 ⟨x,H5,I5,r5,y5,y,Q⟩
  have P:=I5.pinned (j Q) (T.obj _ _ y)
  refine wpAny_passesOwn A (aE (hg _ s5 E H5 x u _ P r5 (step x H5 y5)) ?_)
  rintro _ s6 ⟨Y6,H6,I6,q6⟩
  refine wpAny_passesOwn A (aE (hb _ s6 Y6 H6 _ I6 q6) λf O w=> ?_)
  have q: ∀ {p:St}{l:Hp},Inv X (a++ju G s5.heap) p l O->N p l-> ∃m,m<n/\ ∃i B t,Inv X a B t O/\S i O.heap/\(∀ b∈G,t b=u0)/\W i m B t:=λ{p l} c F=>by
   obtain⟨m',hm,w7⟩:=hN p l F
   refine⟨m',hm,i+1,p,l,c.bG,T.keep _ _ _ y λb hb o e=>(c.pin (b,o) (Ab4 _ (Ab4 _ (zh hb e)))).1,λb hb=> ?_,w7⟩
   obtain⟨o,e,d⟩:=T.obj _ _ y b hb
   exact(c.pin (b,o) (Ab4 _ (Ab4 _ (zh hb e)))).2.1
  cases f with
  | next=>obtain⟨p,l,c,F⟩:=w;exact q c F
  | cont=>obtain⟨p,l,c,F⟩:=w;exact q c F
  | brk=>obtain⟨p,l,c,w⟩:=w;exact⟨p,l,c.bG,w⟩
  | ret v=>obtain⟨x7,p,l,c,r7,w⟩:=w;exact⟨x7,p,l,c.bG,r7,w⟩
end
abbrev R2:=V->V->Hp->VK->Prop
def br (X:Cx) (f:Value->Value->Sem Value) (r:R2):Prop:=
 ∀(y8:List (Addr×Obj)) (s:Shared) (Y:St) (H:Hp) (x y:V) (v u:Value) (Q:VK),Inv X y8 Y H s->RelV x v->RelV y u->r x y H Q →
  wpAny (model X.prog X.w) X.A (f v u) (EP X y8 Y Q) X.xe s
def lS (X:Cx) (f:Value->Sem Value) (r:V->Hp->VK->Prop):Prop:=
 ∀(y8:List (Addr×Obj)) (s:Shared) (Y:St) (H:Hp) (x:V) (v:Value) (Q:VK),Inv X y8 Y H s->RelV x v->r x H Q →
  wpAny (model X.prog X.w) X.A (f v) (EP X y8 Y Q) X.xe s
def Wn (X:Cx) (f:Value) (r:List V->Hp->VK->Prop):Prop:=
 ∀(y8:List (Addr×Obj)) (s:Shared) (Y:St) (H:Hp) (xs:List V) (a:List Value) (Q:VK),Inv X y8 Y H s->Vals xs a->r xs H Q →
  wpAny (model X.prog X.w) X.A (call f a) (EP X y8 Y Q) X.xe s
def sY (X:Cx) (r:V->Hp->(Bool->Hp->Prop)->Prop):Prop:=
 ∀(y8:List (Addr×Obj)) (s:Shared) (Y:St) (H:Hp) (x:V) (v:Value) (Q:Bool->Hp->Prop),Inv X y8 Y H s->RelV x v->r x H Q →
  wpAny (model X.prog X.w) X.A (truthy v) (TP X y8 Y Q) X.xe s
def ij (r:R2) (a tb:TE):TE:=λY H Q=>a Y H λx H1=>tb Y H1 λy H2=>r x y H2 Q
def BX (r:V->Hp->VK->Prop) (a:TE):TE:=λY H Q=>a Y H λx H1=>r x H1 Q
def rI (C:Int->Int->Prop) (g:Int->Int->V):R2:=λx y H Q=> ∃i j,x= .int i/\y= .int j/\C i j/\Q (g i j) H
def eO (g:Int->Int->V):R2:=λx y H Q=> ∃i j,x= .int i/\y= .int j/\Q (g i j) H
def rU (g:Int->V):V->Hp->VK->Prop:=λx H Q=> ∃i,x= .int i/\Q (g i) H
section
variable {X:Cx}{a b c:Expr}{ta tb tc:TE}{pos:Pos}
def lD (k:PE X a ta) (hb:PE X b tb){c:List (Addr×Obj)}{s:Shared}{Y:St}{H:Hp}{R:V->V->Hp->Prop}(I:Inv X c Y H s)
 (h:ta Y H λx H1=>tb Y H1 λy H2=>R x y H2){Q:Value->Shared->Prop}{f:Value->Value->Sem Value}
 (n: ∀v u L x y H2,Inv X c Y H2 L->RelV x v->RelV y u->R x y H2->wpAny (model X.prog X.w) X.A (f v u) Q X.xe L):
 wpAny (model X.prog X.w) X.A (eval a X.env) (λv i=>wpAny (model X.prog X.w) X.A (eval b X.env) (λu j=>wpAny (model X.prog X.w) X.A (f v u) Q X.xe j) X.xe i) X.xe s:=by
 refine aE (k c s Y H _ I h) ?_
 rintro v e ⟨x,H1,p,o,g⟩
 refine aE (hb c e Y H1 _ p g) ?_
 rintro u L ⟨y,H2,m,l,d⟩
 exact n v u L x y H2 m o l d
def vl {d:Operator}{r:R2}(e:br X (binaryOp d) r) (g:PE X a ta) (hb:PE X b tb):PE X (.BinOp a d b pos) (ij r ta tb):=by
 intro c s Y H Q I h
 exact wpAny_BinOp (lD g hb I h λv u f x y l i k j q=>e c f Y l x y v u Q i k j q)
def uZ {c:UnaryOp}{r:V->Hp->VK->Prop}(j:lS X (unaryOp c) r) (k:PE X a ta):PE X (.UnaryOp c a pos) (BX r ta):=by
 intro b s Y H Q I h
 exact UnaryOp_ (aE (k b s Y H _ I h) λv e ⟨x,d,g,f,i⟩=>j b e Y d x v Q g f i)
def hB {f:Value->Value->Sem Value}{C:Int->Int->Prop}{g:Int->Int->Int}
 (a: ∀(i j:Int) (t u:Tok) (s:Shared) (Q:Value->Shared->Prop) (E:Value->Shared->Prop),C i j->Q (.int (g i j) s.toks) { s with toks:=s.toks+1 }->wpAny (model X.prog X.w) X.A (f (.int i t) (.int j u)) Q E s):
 br X f (rI C λi j=> .int (g i j)):=by
 intro b s Y H x y v u Q I e d h
 obtain⟨i,j,rfl,rfl,c,q⟩:=h
 obtain⟨t,rfl⟩:=e
 obtain⟨k,rfl⟩:=d
 exact a i j t k s _ _ c ⟨.int (g i j),H,I.tok _,⟨_,rfl⟩,q⟩
def mm {f:Value->Value->Sem Value}{g:Int->Int->Int}
 (a: ∀(i j:Int) (t u:Tok) (s:Shared) (Q:Value->Shared->Prop) (E:Value->Shared->Prop),Q (.int (g i j) s.toks) { s with toks:=s.toks+1 }->wpAny (model X.prog X.w) X.A (f (.int i t) (.int j u)) Q E s):
 br X f (eO λi j=> .int (g i j)):=by
 intro b s Y H x y v u Q I d c h
 obtain⟨i,j,rfl,rfl,q⟩:=h
 obtain⟨t,rfl⟩:=d
 obtain⟨e,rfl⟩:=c
 exact a i j t e s _ _ ⟨.int (g i j),H,I.tok _,⟨_,rfl⟩,q⟩
def i8 {f:Value->Value->Sem Value}{g:Int->Int->Bool}
 (a: ∀(i j:Int) (t u:Tok) (s:Shared) (Q:Value->Shared->Prop) (E:Value->Shared->Prop),Q (.bool (g i j)) s->wpAny (model X.prog X.w) X.A (f (.int i t) (.int j u)) Q E s):
 br X f (eO λi j=> .bl (g i j)):=by
 intro b s Y H x y v u Q I d c h
 obtain⟨i,j,rfl,rfl,q⟩:=h
 obtain⟨t,rfl⟩:=d
 obtain⟨e,rfl⟩:=c
 exact a i j t e s _ _ ⟨.bl (g i j),H,I,rfl,q⟩
def oQ (i j:Int):Prop:=0<j/\j<1073741824
def oN (i j:Int):Prop:=0<=j/\j<=1000000/\i.natAbs<2 ^ 64
def gs (i j:Int):Prop:=(-(2 ^ 64)<i/\i<2 ^ 64)\/(-(2 ^ 64)<j/\j<2 ^ 64)
def gs.ok {i j:Int}(h:gs i j):IntMulOk i j:=by
 rcases h with⟨b,a⟩ | ⟨b,a⟩
 .exact .of_left (intBits_le_64 b a)
 .exact .of_right (intBits_le_64 b a)
def xZ (k:Nat):(0:Int)<=2 ^ k:=by
 rw [two_pow_cast]
 exact Ai5 _
def uT:br X (binaryOp .Add) (eO λi j=> .int (i+j)):=mm λ_ _ _ _ _ _ _ q=>add_int q
def AV:br X (binaryOp .Sub) (eO λi j=> .int (i-j)):=mm λ_ _ _ _ _ _ _ q=>sub_int q
def uc:br X (binaryOp .Mult) (rI gs λi j=> .int (i*j)):=hB λ_ _ _ _ _ _ _ a q=>mul_int q a.ok
def sT:br X (binaryOp .FloorDiv) (rI oQ λi j=> .int (i / j)):=hB λi j _ _ _ _ _ a q=>by
 have c:(0:Int)<j:=a.1
 have b:j<1073741824:=a.2
 exact floordiv_int (by omega) (by rw [Ai1 i (by omega)];exact q) (.inl (PyProof.noPylong_small (by omega)))
def uz:br X (binaryOp .Mod) (rI (λ_ j=>0<j) λi j=> .int (i % j)):=hB λi j _ _ _ _ _ a q=>by
 have b:(0:Int)<j:=a
 exact mod_int' (by omega) (by rw [Int.fmod_eq_emod_of_nonneg i (by omega)];exact q)
def tu:br X (binaryOp .Pow) (rI oN λi j=> .int (i ^ j.toNat)):=hB λ_ _ _ _ _ _ _ a q=>pow_int_small a.1 a.2.1 a.2.2 q
def vR:br X (binaryOp .LShift) (rI oN λi j=> .int (i*2 ^ j.toNat)):=hB λ_ _ _ _ _ _ _ a q=>lshift_int_small a.1 a.2.1 a.2.2 q
def BV:br X (binaryOp .RShift) (rI (λ_ j=>0<=j) λi j=> .int (i / 2 ^ j.toNat)):=hB λi j _ _ _ _ _ a q=>
 rshift_int a (by rw [Ai1 i (xZ _)];exact q)
def vI:br X (binaryOp .BitAnd) (eO λi j=> .int (Builtin.bitAnd i j)):=mm λ_ _ _ _ _ _ _ q=>and_int q
def sL {f:Value->Sem Value}{g:Int->Int}
 (a: ∀(i:Int) (t:Tok) (s:Shared) (Q:Value->Shared->Prop) (E:Value->Shared->Prop),Q (.int (g i) s.toks) { s with toks:=s.toks+1 }->wpAny (model X.prog X.w) X.A (f (.int i t)) Q E s):
 lS X f (rU λi=> .int (g i)):=by
 intro b s Y H x v Q I c h
 obtain⟨i,rfl,q⟩:=h
 obtain⟨t,rfl⟩:=c
 exact a i t s _ _ ⟨.int (g i),H,I.tok _,⟨_,rfl⟩,q⟩
def A1:lS X (unaryOp .USub) (rU λi=> .int (-i)):=sL λ_ _ _ _ _ q=>neg_int q
end
section
variable {X:Cx}{a b c:Expr}{ta tb tc:TE}{pos:Pos}
def Wu {a:List (Addr×Obj)}{Y:St}{H:Hp}{s:Shared}{Q:VK}{k b:Bool}(I:Inv X a Y H s) (q:Q (.bl k) H) (e:k=b):EP X a Y Q (.bool b) s:=by
 subst e
 exact⟨.bl k,H,I,rfl,q⟩
def B8:br X (compareOp .Lt) (eO λi j=> .bl (u9 (i<j))):=i8 λ_ _ _ _ _ _ _ q=>lt_int q
def BS:br X (compareOp .LtE) (eO λi j=> .bl (u9 (i<=j))):=i8 λ_ _ _ _ _ _ _ q=>le_int q
def Ar:br X (compareOp .Gt) (eO λi j=> .bl (u9 (j<i))):=i8 λ_ _ _ _ _ _ _ q=>gt_int q
def Bf:br X (compareOp .GtE) (eO λi j=> .bl (u9 (j<=i))):=i8 λ_ _ _ _ _ _ _ q=>ge_int q
def q9:br X (compareOp .Lt) (λx y H Q=> ∃i j,x= .str i/\y= .str j/\Q (.bl (u9 (i.cps.toList<j.cps.toList))) H):=by
 intro a s Y H x y v u Q I c b h
 obtain⟨i,j,rfl,rfl,q⟩:=h
 obtain⟨t,rfl⟩:=c
 obtain⟨d,rfl⟩:=b
 exact lt_str (Wu I q rfl)
def u2:br X (compareOp .In) (λx y H Q=> ∃i j,x= .str i/\y= .str j/\Q (.bl (!(Builtin.Str.occurrences j i 0 j.length 1).isEmpty)) H):=by
 intro a s Y H x y v u Q I c b h
 obtain⟨i,j,rfl,rfl,q⟩:=h
 obtain⟨t,rfl⟩:=c
 obtain⟨d,rfl⟩:=b
 exact in_str (Wu I q rfl)
def r0 {d:CmpOp}{r:R2}(e:br X (compareOp d) r) (i:PE X a ta) (hb:PE X b tb) (g:behindInMarks d b=y9):PE X (.Compare a [d] [b] pos) (ij r ta tb):=by
 intro c s Y H Q I h
 exact wpAny_Compare1 (lD i hb I h λv u f x y m j l k q=>e c f Y m x y v u Q j l k q) g
def oy (t:TE):TT:=λY H Q=>t Y H λx H'=> ∃k,x= .bl k/\Q k H'
def AL {f:CmpOp}{r:R2}(j:br X (compareOp f) r) (w:PE X a ta) (hb:PE X b tb) (n:behindInMarks f b=y9):PT X (.Compare a [f] [b] pos) (oy (ij r ta tb)):=by
 intro d s Y H Q I h
 refine wpAny_isTrue_Compare1 (aE (w d s Y H _ I h) λv o ⟨x,g,F,E,t⟩=>aE (hb d o Y g _ F t) λu m ⟨y,C,B,A,l⟩=>
  aE (j d m Y C x y v u _ B E A l) λc G ⟨z,p,D,q,k,e,i⟩=> ?_) n
 subst e
 cases q
 exact wpAny_truthy_bool ⟨p,D,i⟩
def kK (r f:R2) (d tb e:TE):TE:=λY H Q=>d Y H λx H1=>tb Y H1 λy H2=>r x y H2 λz a=> ∃k,z= .bl k ∧
 (if k=k9 then e Y a λc b=>f y c b Q else Q (.bl y9) a)
def A9 {j g:CmpOp}{r o:R2}(B:br X (compareOp j) r) (i:br X (compareOp g) o) (N:PE X a ta) (hb:PE X b tb) (O:PE X c tc)
 (F:lastMarks [j,g] [b,c]=false:=by with_unfolding_all rfl):PE X (.Compare a [j,g] [b,c] pos) (kK r o ta tb tc):=by
 intro f s Y H Q I h
 refine Compare_chain (aE (N f s Y H _ I h) λv G ⟨x,q,V,T,L⟩=>chain_link (aE (hb f G Y q _ V L) λu E ⟨y,S,P,n,C⟩=>
  aE (B f E Y S x y v u _ P T n C) λd D ⟨z,m,p,K,k,e,l⟩=> ?_)) F
 subst e
 cases K
 refine wpAny_truthy_bool ?_
 cases k with
 | false=>exact ite_ff ⟨.bl y9,m,p,rfl,l⟩
 | true=>exact ite_tt (chain_last (aE (O f D Y m _ p l) λw M ⟨J,t,U,R,A⟩=>i f M Y t y J u w Q U n R A))
def pJ {j g:CmpOp}{r o:R2}(C:br X (compareOp j) r) (i:br X (compareOp g) o) (R:PE X a ta) (hb:PE X b tb) (T:PE X c tc)
 (G:lastMarks [j,g] [b,c]=false:=by with_unfolding_all rfl):PT X (.Compare a [j,g] [b,c] pos) (oy (kK r o ta tb tc)):=by
 intro f s Y H Q I h
 refine isTrue_chain (aE (R f s Y H _ I h) λv J ⟨x,q,I1,Z,O⟩=>test_link (aE (hb f J Y q _ I1 O) λu F ⟨y,W,U,n,D⟩=>
  aE (C f F Y W x y v u _ U Z n D) λd E ⟨z,m,p,N,k,e,l⟩=> ?_)) G
 subst e
 cases N
 refine wpAny_truthy_bool ?_
 cases k with
 | false=>
  obtain⟨k',B,K⟩:=l
  cases B
  exact ite_ff ⟨m,p,K⟩
 | true=>
  refine ite_tt (test_last (aE (T f E Y m _ p l) λw P ⟨L,t,I4,V,A⟩=>aE (i f P Y t y L u w _ I4 n V A) ?_))
  rintro d' s5 ⟨z2,H5,S,M,k2,e2,q5⟩
  subst e2
  cases M
  exact wpAny_truthy_bool ⟨H5,S,q5⟩
def gE (K:Aa3) (x:V) (H:Hp) (k:Bool):Prop:=
 match x with
 | .ai=>k=y9
 | .bl b=>k=b
 | .int i=>k=(i != 0)
 | .str y=>y.length<=sizeLine/\k=((y.length:Int) != 0)
 | .f6 y=>y.size<=sizeLine/\k=((y.size:Int) != 0)
 | .ref p=>(∃ xs,aY K H p xs/\k= !xs.isEmpty)\/(∃ xs,bK K H p xs/\k= !xs.isEmpty)\/ ∃kvs,H p=y0 (.dK kvs)/\k= !kvs.isEmpty
 | _=>False
def JW {b:Type}{a:List (b×V)}{vs:List (b×Value)}(r:KV a vs):(!vs.isEmpty)= !a.isEmpty:=by
 cases r<;>rfl
def zB {xs:List V}{a:List Value}(r:Vals xs a):(!a.toArray.isEmpty)= !xs.isEmpty:=by
 cases r<;>simp
def Wt:(sizeLine:Nat)<2 ^ 63:=by rw [sizeLine_eq];decide
def WQ:sY X (λx H Q=> ∃k,gE X.K x H k/\Q k H):=by
 intro u s Y H x v Q I g h
 obtain⟨k,e,q⟩:=h
 have C:=Wt
 have B:sizeLine=16777216:=sizeLine_eq
 cases x with
 | ai=>
  cases g
  have a:k=false:=e
  subst a
  exact truthy_none ⟨H,I,q⟩
 | bl b=>
  cases g
  have a:k=b:=e
  subst a
  exact wpAny_truthy_bool ⟨H,I,q⟩
 | int i=>
  obtain⟨t,rfl⟩:=g
  have a:k=(i != 0):=e
  subst a
  exact PySem.P.truthy_int ⟨H,I,q⟩
 | str y=>
  obtain⟨t,rfl⟩:=g
  obtain⟨A,a⟩:y.length<=sizeLine/\k=((y.length:Int) != 0):=e
  subst a
  exact PySem.P.truthy_str (by omega) ⟨H,I.tok _,q⟩
 | f6 y=>
  obtain⟨t,rfl⟩:=g
  obtain⟨A,a⟩:y.size<=sizeLine/\k=((y.size:Int) != 0):=e
  subst a
  exact PySem.W.truthy_bytes (by omega) ⟨H,I.tok _,q⟩
 | ref p=>
  cases g
  have a:(∃ f,aY X.K H p f/\k= !f.isEmpty)\/(∃ f,bK X.K H p f/\k= !f.isEmpty)\/ ∃c,H p=y0 (.dK c)/\k= !c.isEmpty:=e
  rcases a with⟨f,j,a⟩ | ⟨f,j,a⟩ | ⟨c,j,a⟩
  .subst a
   obtain⟨o,r,n,w⟩:=I.list j
   have d:=r.length
   exact wpAny_truthy_list n.isList (by simp only [Aa9];omega) ⟨H,I.tok _,by rw [zB r];exact q⟩
  .subst a
   obtain⟨o,r,n,w⟩:=I.tuple j
   have d:=r.length
   exact truthy_tuple n (by simp only [Aa9];omega) ⟨H,I.tok _,by rw [zB r];exact q⟩
  .subst a
   obtain⟨w,z,l,r,m⟩:c.length<=sizeLine/\(p==sysModules)=y9/\ ∃l,KV c l/\s.heap.DictOf (QN X.prog X.w) p l:=I.aD p _ j
   have d:c.length=l.length:=Paired.length r
   exact wpAny_truthy_dict z m (by omega) ⟨H,I.tok _,by rw [JW r];exact q⟩
 | _=>exact(show False from e).elim
def y4 (g:PE X a ta) (e: ∀i,isTrue a X.env i=(do let v ←i;standAt a.pos;holding [v] (truthy v))):
 PT X a (λY H Q=>ta Y H λx H'=> ∃k,gE X.K x H' k/\Q k H'):=by
 intro b s Y H Q I h
 exact isTrue_plain (aE (g b s Y H _ I h) λv d ⟨x,c,l,j,f⟩=>WQ b d Y c x v Q l j f) (e _)
def WX:br X (binaryOp .Add) (λx y H Q=> ∃i j,x= .str i/\y= .str j/\i.length+j.length<=sizeLine/\Q (.str (i++j)) H):=by
 intro a s Y H x y v u Q I c b h
 obtain⟨i,j,rfl,rfl,e,q⟩:=h
 obtain⟨t,rfl⟩:=c
 obtain⟨d,rfl⟩:=b
 exact add_str (λd f=>⟨.str (i++j),H,I.tok _,⟨_,rfl⟩,q⟩) e
def qN {x:V}{us:List Value}(r:Vals [x] us): ∃u,us= [u]/\RelV x u:=by
 cases r with
 | cons a b=>cases b;exact⟨_,rfl,a⟩
def hJ {x y:V}{us:List Value}(r:Vals [x,y] us): ∃u i,us= [u,i]/\RelV x u/\RelV y i:=by
 cases r with
 | cons a b=>
  cases b with
  | cons c d=>cases d;exact⟨_,_,rfl,a,c⟩
def zN:Wn X (.builtin "divmod") (fun xs H Q=> ∃i j,xs= [.int i,.int j]/\oQ i j/\ ∀p,H p=none->Q (.ref p) (ax H p (.tup [.int (i / j),.int (i % j)]))):=by
 intro a s Y H xs k Q I r h
 obtain⟨i,j,rfl,⟨g,f⟩,q⟩:=h
 obtain⟨u,d,rfl,⟨t,rfl⟩,⟨l,rfl⟩⟩:=hJ r
 refine divmod_int (by omega) ?_ (.inl (PyProof.noPylong_small (by omega)))
 rw [Ai1 i (by omega),Int.fmod_eq_emod_of_nonneg i (by omega)]
 have c:H s.heap.objs.size=none:=I.aD.fresh (Aa6 _)
 refine⟨.ref s.heap.objs.size,_,?_,rfl,q _ c⟩
 refine I.laid (λb o e=>Aa2 _ e) (Aa6 _) ⟨by simp only [Ab0,Ac7];rw [sizeLine_eq];decide,[.int (i / j) s.toks,.int (i % j) (s.toks+1)],.cons ⟨_,rfl⟩ (.cons ⟨_,rfl⟩ .nil),?_⟩
 exact⟨_,Ab6 s.heap rfl,rfl,rfl,0,rfl⟩
end
structure du (h:Heap) (x dx C:Addr) (mA:Str->Option Value):Prop where
 obj:h.get? x=y0 (Ae9 C dx)
 ns:h.Ns1 dx mA
 ne:dx≠x
def wI {h:Heap}{c:Addr}{d:Str->Option Value}(n:h.Ns1 c d): ∃i,h.get? c=y0 i/\ ∀name,Aj2 name i=y0 (d name):=by
 obtain⟨o,f,r,j,p,k,_,m⟩:=n
 refine⟨o,j,λname=> ?_⟩
 have e:=m name
 unfold nsFind findBy at e
 rw [← Array.find?_toList]at e
 unfold Aj2
 rw [p]
 dsimp only
 split
 .rename_i y q
  rw [q]at e
  exact congrArg y0 e
 .rename_i q
  rw [q]at e
  have a:f.toList.any (·.refKey)=false:=by
   rw [List.any_eq_false]
   intro y l
   obtain⟨z,t,b⟩:=k y (Array.mem_toList_iff.mp l)
   simp [DictEntry.refKey,b]
  have g: ¬f.toList.any (·.refKey)=true:=by rw [a];exact Aa4
  rw [if_neg g]
  exact congrArg y0 e
def du.look {h:Heap}{x a C:Addr}{b:Str->Option Value}(I:du h x a C b): ∃i,PySem.W.InstAt h x (Ae9 C a) C (y0 i)/\ ∀name,Aj2 name i=y0 (b name):=
 let ⟨i,d,c⟩:=wI I.ns
 ⟨i,⟨I.obj,rfl,rfl,d⟩,c⟩
section
variable {prog:Program}{w:World}{A:Around}{E:Value->Shared->Prop}{s:Shared}{K:Aa3}{x dx C f:Addr}{mA:Str->Option Value}{name:Str}{v:Value}
def pV {a:Bool}{Q:Value->Shared->Prop}(X:K.In s.heap) (I:du s.heap x dx C mA) (c:Ai6 K C name=k9) (e:PySem.W.hasDictIn K C=k9)
 (f:Ah3 K (.ref C) name=y0 u0) (g:mA name=y0 v) (b:PySem.W.handedIn v=k9) (h:Q v { s with toks:=s.toks+1 }):
 wpAny (model prog w) A (getAttr (.ref x) name a) Q E s:=by
 obtain⟨i,J,d⟩:=I.look
 exact PySem.W.get_value X J (Aj5 c).1 (PySem.W.findObj_own e f rfl (by rw [d,g])) b h
def Be {pl:Sem Bool}{Q:Value×List Value->Shared->Prop}(X:K.In s.heap) (I:du s.heap x dx C mA) (a:Ai6 K C name=k9)
 (b:Ah3 K (.ref C) name=y0 (y0 (.ref f))) (d:PySem.W.isFn K (.ref f)=k9) (g:mA name=u0) (h:Q (.ref f,[.ref x]) s):
 wpAny (model prog w) A (getMethod (.ref x) name pl) Q E s:=by
 obtain⟨e,J,c⟩:=I.look
 exact PySem.W.method_fn X J (Aj5 a).1 (Aj5 a).2 b (beq_iff_eq.mp d) (by show(Aj2 name e).map (·.isSome)=y0 y9;rw [c,g];rfl) h
def sX {ns:List Str}{Q:Unit->Shared->Prop}(X:K.In s.heap) (I:du s.heap x dx C mA)
 (m:PySem.W.findIn K (.ref C) "__setattr__" =some (some (.builtin "object.__setattr__"))) (n:PySem.W.plainOver K C=true) (p:PySem.W.takerIn K C name=some none) (l:PySem.W.hasDictIn K C=true)
 (u:PySem.Within mA ns) (t:ns.length<=sizeLine)
 (h: ∀h',du h' x dx C (λy=>if y=name then y0 v else mA y)->Ag1 dx s.heap h'->Q () { s with heap:=h',toks:=s.toks+2 }):
 wpAny (model prog w) A (setAttr (.ref x) name v) Q E s:=by
 obtain⟨B,J,D⟩:=I.look
 refine PySem.W.set_plain X J m (PySem.W.osa_open (s:= { s with toks:=s.toks+1 }) (r:=u0) X J n p λb=> ?_)
 obtain⟨cd,o,e⟩:=PySem.W.any_some l
 have q:s.heap.get? x=y0 ⟨.ref C,y0 dx,.plain, #[]⟩:=I.obj
 refine wpAny_bind (wpAny_pure (wpAny_bind (wpAny_bind (wpAny_loadPart q (wpAny_bind (PySem.W.Looks.here (s:= { s with toks:=s.toks+1 }) (PySem.W.looks_clsIn X o) ?_))))))
 rw [e]
 refine wpAny_pure (a:=y0 dx) (wpAny_bind (wpAny_pure (wpAny_bind ?_)))
 refine wpAny_nsSet1 (s:= { s with toks:=s.toks+1 }) I.ns λh' c d=> ?_
 obtain⟨z,k,j,g,i,f⟩:=c.count (PySem.Within.cons name v u)
 refine wpAny_bind (wpAny_lookBehind g (by rw [i];exact pastItsLine_dict (Ac0 f (by rw [Ab0];omega))) ?_)
 exact wpAny_pure (h _ ⟨(d.2 _ (Ne.symm I.ne)).trans I.obj,c,I.ne⟩ d)
def uI {R:Result->Shared->Prop}{vs:List Value}{b:List (Str×Value)}(X:K.In s.heap) (c:PySem.W.makesIn K C=k9)
 (i:PySem.W.findIn K (.ref C) "__init__" =some (some (.ref f))) (e:PySem.W.typeIn K (.ref f)=some (.type "function"))
 (h:codeAny (model prog w) (A.under (.builtin "type.__call__" ⟨.ref C::vs,b⟩)) (.call (.ref f) ⟨.ref (s.heap.objs.size+1)::vs,b⟩) (PySem.W.InitBack (s.heap.objs.size+1) R)
   { s with heap:=(s.heap.push Ad7).push (Ae9 C s.heap.objs.size) }):
 codeAny (model prog w) A (.call (.ref C) ⟨vs,b⟩) R s:=by
 obtain⟨k,g,d,t,j⟩:=s
 exact PySem.W.make_core (PySem.W.makes_of X c) (PySem.W.looks_findIn X i) (λa=>PySem.W.bind_fn X a e) (.inl rfl) h
end
noncomputable def aJ (f:Str) (v:V):List (Str×V)->List (Str×V)
 | []=> [(f,v)]
 | (g,x)::r=>if g=f then(g,v)::r else(g,x)::aJ f v r
theorem jw (f g:Str) (v:V): ∀fs:List (Str×V),(aJ f v fs).lookup g=if g=f then y0 v else fs.lookup g
 | []=>by
  show Af4 g [(f,v)]=_
  by_cases h:g=f
  .have a:(g==f)=true:=beq_iff_eq.mpr h
   simp only [Af4,a,if_pos h]
  .have a:(g==f)=false:=beq_eq_false_iff_ne.mpr h
   simp only [Af4,a,if_neg h]
 | (k,x)::r=>by
  have c:=jw f g v r
  rw [show aJ f v ((k,x)::r)=(if k=f then(k,v)::r else(k,x)::aJ f v r)from rfl]
  by_cases b:k=f
  .rw [if_pos b]
   by_cases h:g=k
   .have a:(g==k)=true:=beq_iff_eq.mpr h
    simp only [Af4,a,if_pos (h.trans b)]
   .have a:(g==k)=false:=beq_eq_false_iff_ne.mpr h
    simp only [Af4,a,if_neg (λe:g=f=>h (e.trans b.symm))]
  .rw [if_neg b]
   by_cases h:g=k
   .have a:(g==k)=true:=beq_iff_eq.mpr h
    simp only [Af4,a,if_neg (λe:g=f=>b (h.symm.trans e))]
   .have a:(g==k)=false:=beq_eq_false_iff_ne.mpr h
    simp only [Af4,a]
    exact c
theorem Zu (f:Str) (v:V): ∀fs:List (Str×V),f∈(aJ f v fs).map (·.1)/\ ∀g,g∈fs.map (·.1)->g∈(aJ f v fs).map (·.1)
 | []=>⟨by simp [aJ],λg h=>by simp at h⟩
 | (k,x)::r=>by
  obtain⟨i1,i2⟩:=Zu f v r
  rw [show aJ f v ((k,x)::r)=(if k=f then(k,v)::r else(k,x)::aJ f v r)from rfl]
  by_cases a:k=f
  .rw [if_pos a]
   subst a
   exact⟨by simp,λg h=>by simpa using h⟩
  .rw [if_neg a]
   refine⟨?_,λg h=> ?_⟩
   .rw [Ac4]
    exact Aa5 _ i1
   .rw [Ac4]at h ⊢
    rcases Ab7.mp h with e | e
    .exact Ab7.mpr (.inl e)
    .exact Aa5 _ (i2 g e)
theorem qy (f:Str) (v:V): ∀fs:List (Str×V),(aJ f v fs).length<=fs.length+1
 | []=>by simp [aJ]
 | (k,x)::r=>by
  have b:=qy f v r
  rw [show aJ f v ((k,x)::r)=(if k=f then(k,v)::r else(k,x)::aJ f v r)from rfl]
  by_cases a:k=f
  .rw [if_pos a,Ab0,Ab0];omega
  .rw [if_neg a,Ab0,Ab0];omega
def bQ.some_of {v:V}{o:Option Value}(r:bQ (y0 v) o): ∃u,o=y0 u/\RelV v u:=by
 cases o with
 | none=>exact(show False from r).elim
 | some u=>exact⟨u,rfl,r⟩
def bQ.none_of {o:Option Value}(r:bQ u0 o):o=none:=by
 cases o with
 | none=>rfl
 | some u=>exact(show False from r).elim
def QG {v:V}{u:Value}(r:RelV v u):PySem.W.handedIn u=true:=by
 cases v with
 | ai=>cases (show u=Value.none from r);rfl
 | bl b=>cases (show u=Value.bool b from r);rfl
 | int i=>obtain⟨t,e⟩:=(show ∃t,u=Value.int i t from r);cases e;rfl
 | str x=>obtain⟨t,e⟩:=(show ∃t,u=Value.str x t from r);cases e;rfl
 | f6 b=>obtain⟨t,e⟩:=(show ∃t,u=Value.bytes b t from r);cases e;rfl
 | fQ b=>obtain⟨t,e⟩:=(show ∃t,u=Value.float b t from r);cases e;rfl
 | ref a=>cases (show u=Value.ref a from r);rfl
 | ty n=>cases (show u=Value.type n from r);rfl
section
variable {P:Program}{w:World}{H H':Hp}{h h':Heap}{a C dx:Addr}{fs fs':List (Str×V)}
def WB (b:cj P w H h) (e:H a=y0 (.ins C dx fs)): ∃mA,du h a dx C mA/\(∀ f,bQ (fs.lookup f) (mA f))/\PySem.Within mA (fs.map (·.1))/\fs.length<=1000/\H dx=y0 (.own a):=by
 obtain⟨d,z,ne,c,mA,n,r,q⟩:=(show aI P w H h a (.ins C dx fs)from b a _ e)
 exact⟨mA,⟨c,n,ne⟩,r,q,z,d⟩
end
structure cu (K:Aa3) (C:Addr):Prop where
 pg:Ai6 K C Str.empty=k9
 hd:PySem.W.hasDictIn K C=k9
 po:PySem.W.plainOver K C=k9
 sa:PySem.W.findIn K (.ref C) "__setattr__" =some (some (.builtin "object.__setattr__"))
def cu.get {K:Aa3}{C:Addr}(c:cu K C) (f:Str):Ai6 K C f=true:=c.pg
def bH (K:Aa3) (C:Addr) (f:Str):Prop:=Ah3 K (.ref C) f=y0 u0
def bH.ir {K:Aa3}{C:Addr}{f:Str}(n:bH K C f):PySem.W.takerIn K C f=y0 none:=by
 unfold PySem.W.takerIn
 rw [show Ah3 K (.ref C) f=y0 u0 from n]
 rfl
structure CF (K:Aa3) (C:Addr) (f:Str) (v:V) (u:Value):Prop where
 at_:Ah3 K (.ref C) f=y0 (y0 u)
 rel:RelV v u
 get:PySem.W.specialIn K u "__get__" =some none
 cp:PySem.W.copiedNames.contains f=y9
structure kl (K:Aa3) (C:Addr) (m:Str) (f:Addr):Prop where
 at_:Ah3 K (.ref C) m=y0 (y0 (.ref f))
 fn:PySem.W.isFn K (.ref f)=k9
 kp:Ae3 K (.ref f)=k9
section
variable {X:Cx}{y8:List (Addr×Obj)}{Y:St}{H:Hp}{s:Shared}{a C dx:Addr}{fs:List (Str×V)}{f:Str}{v:V}{A:Around}{E:Value->Shared->Prop}
def qZ {b:Bool}{Q:Value->Shared->Prop}(I:Inv X y8 Y H s) (e:H a=y0 (.ins C dx fs)) (c:cu X.K C) (n:bH X.K C f) (l:fs.lookup f=y0 v)
 (h: ∀u s',Inv X y8 Y H s'->RelV v u->Q u s'):wpAny (model X.prog X.w) A (getAttr (.ref a) f b) Q E s:=by
 obtain⟨i,O,r,_,_,_⟩:=WB I.aD e
 obtain⟨u,g,d⟩:=bQ.some_of (v:=v) (o:=i f) (by rw [← l];exact r f)
 exact pV I.bj O (c.get f) c.hd n g (QG d) (h u _ (I.tok _) d)
def xV {m:Str}{g:Addr}{pl:Sem Bool}{Q:Value×List Value->Shared->Prop}(I:Inv X y8 Y H s) (e:H a=y0 (.ins C dx fs)) (c:cu X.K C) (k:kl X.K C m g) (l:fs.lookup m=u0)
 (h:Q (.ref g,[.ref a]) s):wpAny (model X.prog X.w) A (getMethod (.ref a) m pl) Q E s:=by
 obtain⟨d,O,r,_,_,_⟩:=WB I.aD e
 have b:d m=none:=bQ.none_of (by rw [← l];exact r m)
 exact Be I.bj O (c.get m) k.at_ k.fn b h
def QV {y:V}{u:Value}{Q:Unit->Shared->Prop}(I:Inv X y8 Y H s) (e:H a=y0 (.ins C dx fs)) (c:cu X.K C) (n:bH X.K C f) (F:fs.length<1000) (B:RelV y u)
 (h: ∀s',Inv X y8 Y (ax H a (.ins C dx (aJ f y fs))) s'->Q () s'):wpAny (model X.prog X.w) A (setAttr (.ref a) f u) Q E s:=by
 obtain⟨j,O,r,k,_,i⟩:=WB I.aD e
 have D:(fs.map (·.1)).length<=sizeLine:=by rw [Aa0,sizeLine_eq];omega
 refine sX I.bj O c.sa c.po n.ir c.hd k D λt d v=>h _ ?_
 have w: ∃o,t.get? dx=y0 o:=let ⟨o,_,_,m,_⟩:=d.ns; ⟨o,m⟩
 refine I.write (x:=a) (e:=dx) (by rw [e];exact True.intro) (.inr i) (λb q p z=>(v.2 b p).trans z) w ?_
 refine⟨by rw [qa O.ne];exact i,?_,O.ne,d.obj,_,d.ns,λg=> ?_,λg l=> ?_⟩
 .have:=qy f y fs;omega
 .show bQ ((aJ f y fs).lookup g) (if g=f then y0 u else j g)
  rw [jw]
  by_cases q:g=f
  .rw [if_pos q,if_pos q];exact B
  .rw [if_neg q,if_neg q];exact r g
 .by_cases q:g=f
  .rw [q];exact(Zu f y fs).1
  .refine(Zu f y fs).2 g (k g λz=>l ?_)
   show(if g=f then y0 u else j g)=u0
   rw [if_neg q];exact z
def Inv.made (I:Inv X y8 Y H s):Inv X y8 Y (ax (ax H s.heap.objs.size (.own (s.heap.objs.size+1))) (s.heap.objs.size+1) (.ins C s.heap.objs.size []))
 { s with heap:=(s.heap.push Ad7).push (Ae9 C s.heap.objs.size) }:=by
 have e1:(s.heap.push Ad7).get? s.heap.objs.size=y0 Ad7:=Ab6 s.heap rfl
 have e2:((s.heap.push Ad7).push (Ae9 C s.heap.objs.size)).get? (s.heap.objs.size+1)=y0 (Ae9 C s.heap.objs.size):=by
  have:=Ab6 (s.heap.push Ad7) (o:=Ae9 C s.heap.objs.size) rfl
  rwa [Ag5]at this
 have f:(s.heap.push Ad7).Ns s.heap.objs.size (λ_=>u0):=⟨Ad7, #[],_,e1,rfl,(λe c=>absurd c (by simp)),λ_=>rfl⟩
 have d:=I.laid (a:=s.heap.objs.size) (o:= .own (s.heap.objs.size+1)) (h':=s.heap.push Ad7) (t':=s.toks) (λb u q=>Aa2 _ q) (Aa6 _) ⟨_,e1⟩
 refine d.laid (a:=s.heap.objs.size+1) (o:= .ins C s.heap.objs.size []) (t':=s.toks) (λb u q=>Aa2 _ q) (Al1 (Ag5 _ _)) ?_
 have ne:s.heap.objs.size≠s.heap.objs.size+1:=Ab9 (Ae6 _)
 refine⟨by rw [qa ne,Qa],Ai _,ne,e2,λ_=>u0,(Heap.Ns1.of_empty f).at λo q=>Aa2 _ q,λ_=>True.intro,λy g=>absurd rfl g⟩
def Q5 {prog:Program}{w:World}{env:Env}{e:Expr}{f:Str}{pos:Pos}{s:Shared}{Q:Value->Shared->Prop}(hb:attributeBase e f env (eval e env)=eval e env)
 (h:wpAny (model prog w) A (eval e env) (λo i=>wpAny (model prog w) A (getAttr o f k9) Q E i) E s):wpAny (model prog w) A (eval (.Attribute e f pos) env) Q E s:=
 Attribute_any_ h (by rw [arm_eval_Attribute,hb])
end
def y3 (K:Aa3) (b:TE) (f:Str):TE:=λY H Q=>b Y H λx H1=> ∃a C dx fs v,x= .ref a/\H1 a=y0 (.ins C dx fs)/\cu K C/\bH K C f/\fs.lookup f=y0 v/\Q v H1
def t9 (K:Aa3) (c b:TE) (f:Str):TS:=λD Y H=>b Y H λy H1=>c Y H1 λx H2=> ∃a C dx fs,x= .ref a/\H2 a=y0 (.ins C dx fs)/\cu K C/\bH K C f/\fs.length<1000 ∧
 D.nx Y (ax H2 a (.ins C dx (aJ f y fs)))
section
variable {X:Cx}{o e value:Expr}{f:Str}{pos pos' tpos:Pos}{ta tv:TE}
def rm (g:PE X e ta) (hb:attributeBase e f X.env (eval e X.env)=eval e X.env):PE X (.Attribute e f pos) (y3 X.K ta f):=by
 intro b s Y H Q I h
 refine Q5 hb (aE (g b s Y H _ I h) ?_)
 rintro u w ⟨x,d,o,k,a,C,r,fs,v,ex,m,c,n,l,q⟩
 subst ex
 obtain rfl:u=Value.ref a:=k
 exact qZ o m c n l λp t j i=>⟨v,d,j,i,q⟩
def nZ (i:PE X o ta) (v:PE X value tv) (j:swapsWith value (y0 (.Attribute o f pos')) pos.line X.env=pure y9):PS X (.Assign [.Attribute o f pos'] value pos) (t9 X.K ta tv f):=by
 intro b s Y H D I h
 refine plainObj_wpAny_Assign_Attribute (aE (v b s Y H _ I h) λu g ⟨y,d,z,m,q⟩=>aE (i b g Y d _ z q) λp E ⟨x,F,k,r,a,C,A,fs,ex,t,c,n,l,e⟩=> ?_) j
 subst ex
 obtain rfl:p=Value.ref a:=r
 exact QV k t c n l m λB w=>⟨Y,_,w,e⟩
end
section
variable {X:Cx}{y8:List (Addr×Obj)}{Y:St}{H:Hp}{s:Shared}{A:Around}{E:Value->Shared->Prop}{Q:Value->Shared->Prop}{c:Value}{b:Bool}
inductive QZ (K:Aa3) (H:Hp):V->Value->Prop where
 | ai:QZ K H .ai (.type "NoneType")
 | bl (x:Bool):QZ K H (.bl x) (.type "bool")
 | int (i:Int):QZ K H (.int i) (.type "int")
 | str (x:Str):QZ K H (.str x) (.type "str")
 | fQ (x:UInt64):QZ K H (.fQ x) (.type "float")
 | lst {a:Addr}{xs:List V}(e:H a=y0 (.lst xs)):QZ K H (.ref a) (.type "list")
 | di {a:Addr}{o:Obj}{xs:List V}(e:H a=y0 (.di o (.lst xs))):QZ K H (.ref a) (.type "list")
 | tup {a:Addr}{xs:List V}(e:H a=y0 (.tup xs)):QZ K H (.ref a) (.type "tuple")
 | dK {a:Addr}{kvs:List (cV×V)}(e:H a=y0 (.dK kvs)):QZ K H (.ref a) (.type "dict")
 | dT {a:Addr}{kvs:List (List cV×V)}(e:H a=y0 (.dT kvs)):QZ K H (.ref a) (.type "dict")
 | ins {a C dx:Addr}{fs:List (Str×V)}(e:H a=some (.ins C dx fs)) (cl:cu K C) (ha:PySem.W.findIn K (.ref C) "__class__" =some (some (.builtin "object.__class__")))
  (hn:PySem.W.specialIn K (.builtin "object.__class__") "__get__" =some (some (.builtin "getset_descriptor.__get__"))) (htk:PySem.W.takesIn K (.builtin "object.__class__")=some true)
  (hm:PySem.W.mroIn K C (.type "object")=some true):QZ K H (.ref a) (.ref C)
def Qh {x:V}{u t:Value}(I:Inv X y8 Y H s) (d:RelV x u) (ty:QZ X.K H x t) (e:Aj3 X.K t c=y0 b) (h: ∀tk,Q (.bool b) { s with toks:=tk }):
 wpAny (model X.prog X.w) A (call (.builtin "isinstance") [u,c]) Q E s:=by
 cases ty with
 | ai=>cases (show u=Value.none from d);exact Ac8 PySem.W.kitx_none I.bj True.intro e (λz=>nomatch z) h
 | bl y=>cases (show u=Value.bool y from d);exact Ac8 PySem.W.kitx_bool I.bj True.intro e (λz=>nomatch z) h
 | int i=>obtain⟨t,q⟩:=(show ∃t,u=Value.int i t from d);cases q;exact Ac8 PySem.W.kitx_int I.bj True.intro e (λz=>nomatch z) h
 | str y=>obtain⟨t,q⟩:=(show ∃t,u=Value.str y t from d);cases q;exact Ac8 PySem.W.kitx_str I.bj True.intro e (λz=>nomatch z) h
 | fQ y=>obtain⟨t,q⟩:=(show ∃t,u=Value.float y t from d);cases q;exact Ac8 PySem.W.kitx_float I.bj True.intro e (λz=>nomatch z) h
 | @lst a k f=>
  cases (show u=Value.ref a from d)
  obtain⟨_,_,n,_,g⟩:=(show aI X.prog X.w H s.heap a (.lst k)from I.aD a _ f)
  exact Ac8 Ak4 I.bj ⟨_,g,rfl⟩ e (λz=>nomatch z) h
 | @di a B k f=>
  cases (show u=Value.ref a from d)
  obtain⟨_,_,_,n,_,g⟩:=(show aI X.prog X.w H s.heap a (.di B (.lst k))from I.aD a _ f)
  exact Ac8 Ak4 I.bj ⟨_,g,rfl⟩ e (λz=>nomatch z) h
 | @tup a k f=>
  cases (show u=Value.ref a from d)
  obtain⟨_,_,_,p⟩:=(show aI X.prog X.w H s.heap a (.tup k)from I.aD a _ f)
  obtain⟨o,g,l,_⟩:=p
  exact Ac8 PySem.W.kitx_tuple I.bj ⟨o,g,l⟩ e (λz=>nomatch z) h
 | @dK a j f=>
  cases (show u=Value.ref a from d)
  obtain⟨_,_,N,_,p⟩:=(show aI X.prog X.w H s.heap a (.dK j)from I.aD a _ f)
  obtain⟨o,G,v,g,l,_⟩:=p
  exact Ac8 PySem.W.kitx_dict I.bj ⟨o,g,l.1⟩ e (λz=>nomatch z) h
 | @dT a j f=>
  cases (show u=Value.ref a from d)
  obtain⟨_,_,k,_,o,G,v,g,l,_⟩:=(show aI X.prog X.w H s.heap a (.dT j)from I.aD a _ f)
  exact Ac8 PySem.W.kitx_dict I.bj ⟨o,g,l.1⟩ e (λz=>nomatch z) h
 | @ins a C K fs f r D F m w=>
  cases (show u=Value.ref a from d)
  obtain⟨L,O,_⟩:=WB I.aD f
  obtain⟨M,J,_⟩:=O.look
  exact Ac8 (PySem.W.kitx_own (r.get _) r.hd D F m w) I.bj J e (λz=>nomatch z) h
end
structure aR (k:Nat) (A:Around):Prop where
 hd:4<=k->A.handled=u0
 dp:A.depth+k+5<recursionLimit
 un:A.units+16*k+200<cLine
def aR.mono {j k:Nat}{A:Around}(r:aR k A) (h:j<=k):aR j A:=⟨λq=>r.hd (Ac0 q h),by have:=r.dp;omega,by have:=r.un;omega⟩
theorem aR.deeper {k:Nat}{A:Around}(r:aR (k+1) A) (env:Env):aR k (A.deeper env):=
 ⟨λq=>r.hd (Nat.le_succ_of_le q),by have:=r.dp;show A.depth+1+k+5<_;omega,by have:=r.un;show A.units+3+16*k+200<_;omega⟩
def wZ {A:Around}{C:Addr}{us:List Value}{a:List (Str×Value)}:(A.under (.builtin "type.__call__" ⟨.ref C::us,a⟩)).depth=A.depth+1:=by
 first | rfl | simp [Around.under,Code.weight,Code.isCreation,Code.isGuard,Code.isCaller,Code.frames,Code.isFrame,guardIds]
def zY {A:Around}{C:Addr}{us:List Value}{a:List (Str×Value)}:(A.under (.builtin "type.__call__" ⟨.ref C::us,a⟩)).units=A.units+1:=by
 first | rfl | simp [Around.under,Code.cUnits,Code.frames,Code.isFrame]
def aR.make {k:Nat}{A:Around}(r:aR (k+1) A) (C:Addr) (us:List Value) (a:List (Str×Value)):aR k (A.under (.builtin "type.__call__" ⟨.ref C::us,a⟩)):=
 ⟨λq=>r.hd (Nat.le_succ_of_le q),by have:=r.dp;rw [wZ];omega,by have:=r.un;rw [zY];omega⟩
theorem aR.depth {k:Nat}{A:Around}(r:aR k A):A.depth<recursionLimit:=by have:=r.dp;omega
def mK:TA:=λ_ H Q=>Q [] H
def sE (a:TE) (b:TA):TA:=λY H Q=>a Y H λx H1=>b Y H1 λxs H2=>Q (x::xs) H2
section
variable {X:Cx}{e:Expr}{es:List Expr}{te:TE}{t:TA}{pos:Pos}
def ji:PA X [] mK:=λ_ _ _ _ H Q I h=>Calls.spliced_nil ⟨[],H,I,.nil,h⟩
def zd (i:PE X e te) (p:PA X es t) (j:starEach (e::es) X.env=(y9,eval e X.env)::starEach es X.env:=by rfl):PA X (e::es) (sE te t):=by
 intro b a s Y H Q I h
 rw [j]
 show wpAny _ _ (spliced ((y9,eval e X.env)::backTo b (starEach es X.env))) _ _ s
 refine Calls.spliced_cons (aE (i a s Y H _ I h) ?_)
 rintro u f ⟨x,c,q,o,g⟩
 exact aE (p b a f Y c _ q g) λv r ⟨m,n,l,k,d⟩=>⟨x::m,n,l,.cons o k,d⟩
def tV (t:TA):TE:=λY H Q=>t Y H λxs H1=>xs.length<=sizeLine/\ ∀p,H1 p=u0->Q (.ref p) (ax H1 p (.tup xs))
def yh (t:TA):TE:=λY H Q=>t Y H λxs H1=>xs.length<=sizeLine/\ ∀p,H1 p=u0->Q (.ref p) (ax H1 p (.lst xs))
def nj {x1}(h:PA X es t):PE X (.Tuple es x1 pos) (tV t):=by
 intro a s Y H Q I g
 refine wpAny_Tuple_spliced (aE (h pos a s Y H _ I g) λi c ⟨j,d,f,r,z,q⟩=>⟨by rw [← r.length];exact z,?_⟩)
 have k:d c.heap.objs.size=none:=f.aD.fresh (Aa6 _)
 refine⟨.ref c.heap.objs.size,ax d c.heap.objs.size (.tup j),f.laid (t':=c.toks) (λb u e=>Aa2 _ e) (Aa6 _) ?_,rfl,q _ k⟩
 exact⟨z,i,r,⟨_,Ab6 _ rfl,rfl,rfl,_,rfl⟩⟩
def By (h:PA X es t):PE X (.List es pos) (yh t):=by
 intro a s Y H Q I g
 refine wpAny_List_spliced (aE (h pos a s Y H _ I g) λi c ⟨j,d,f,r,z,q⟩=>⟨by rw [← r.length];exact z,?_⟩)
 have k:d c.heap.objs.size=none:=f.aD.fresh (Aa6 _)
 refine⟨.ref c.heap.objs.size,ax d c.heap.objs.size (.lst j),f.laid (t':=c.toks) (λb u e=>Aa2 _ e) (Aa6 _) ?_,rfl,q _ k⟩
 exact⟨z,i,0,r,Ab6 _ rfl⟩
end
abbrev Sp:=List V->Hp->VK->XK->Prop
abbrev dW:=List Env->Hp->Shared->XK->Value->Shared->Prop
structure dr (P:Program) (w:World) (K:Aa3) (mg:Str->Option Value) (base:Heap) (A:Around) (outer:List Env) (s:Shared) (H:Hp):Prop where
 frames:A.frames=y0 outer
 mod:Mod K mg base
 bs: ∀b o,base.get? b=y0 o->s.heap.get? b=y0 o/\H b=u0
 ez:base.objs.size<=s.heap.objs.size
 b7:s.heap.FunFrames base outer
 fW: ∀b∈bg outer,H b=u0
 aD:cj P w H s.heap
 bare:AllBare s.gens
def CE (a:List Env) (P:Program) (w:World) (H:Hp) (s:Shared) (Q:VK) (u:Value) (s':Shared):Prop:=
 ∃v H',s'.os=s.os/\AllBare s'.gens/\Un (bg a) [] H H' s.heap s'.heap/\cj P w H' s'.heap/\RelV v u/\Q v H'
def CR (CX:dW) (a:List Env) (P:Program) (w:World) (H:Hp) (s:Shared) (Q:VK) (E:XK) (r:Result) (s':Shared):Prop:=
 match r with
 | .ok (.ret u)=>CE a P w H s Q u s'
 | .ok _=>False
 | .error e=>CX a H s E e s'
structure aW (P:Program) (w:World) (K:Aa3) (mg:Str->Option Value) (base:Heap) (CX:dW) (k:Nat) (f:Addr) (fd:FuncData) (ps:List Str) (sp:Sp):Prop where
 len: ∀vs H Q E,sp vs H Q E->vs.length=ps.length
 run: ∀(A:Around) (outer:List Env) (s:Shared) (H:Hp) (args:Args) (us:List Value) (vs:List V) (Q:VK) (E:XK),aR k A->dr P w K mg base A outer s H->BindsTo s fd args (ps.zip us)->Vals vs us->sp vs H Q E →
  codeAny (model P w) A (.call (.ref f) args) (CR CX outer P w H s Q E) s
def dr.make {P:Program}{w:World}{K:Aa3}{mg:Str->Option Value}{base:Heap}{A:Around}{a:List Env}{s:Shared}{H:Hp}(e:dr P w K mg base A a s H) (C:Addr) (us:List Value) (b:List (Str×Value)):
 dr P w K mg base (A.under (.builtin "type.__call__" ⟨.ref C::us,b⟩)) a s H:=⟨by first | exact e.frames | (simpa [Around.under,Code.envs,Code.isFrame,pushEnvs]using e.frames),e.mod,e.bs,e.ez,e.b7,e.fW,e.aD,e.bare⟩
section
variable {X:Cx}{y8:List (Addr×Obj)}{Y:St}{H:Hp}{s s':Shared}
def Inv.eP (I:Inv X y8 Y H s):dr X.prog X.w X.K X.mg X.base X.A X.stack s H:=
 ⟨I.ok.frames,I.ok.mod,I.bs,Ac0 I.ok.ez I.sz,I.stack,I.bV,I.aD,I.bare⟩
def Inv.after {Q:VK}{u:Value}(I:Inv X y8 Y H s) (h:CE X.stack X.prog X.w H s Q u s'):EP X y8 Y Q u s':=by
 obtain⟨v,f,j,a,un,e,r,q⟩:=h
 obtain⟨i,g,d,t,c⟩:=s'
 obtain rfl:c=s.os:=j
 exact⟨v,f,I.call (h':=i) (g':=g) (d':=d) (t':=t) (ch:= []) un e a (λb z=>absurd z (by simp)),r,q⟩
end
def oG (sp:Sp) (a:List V) (E:XK) (t:TA):TE:=λY H Q=>t Y H λb H1=>sp (b++a) H1 Q E
def Bk (C:Addr) (m:Str) (sp:Sp) (b:List V) (E:XK) (c:TE) (t:TA):TE:=λY H Q=>c Y H λx H1=> ∃a dx fs,x= .ref a/\H1 a=y0 (.ins C dx fs)/\fs.lookup m=u0 ∧
 t Y H1 λd H2=>sp (x::(d++b)) H2 Q E
def vE (C:Addr) (sp:Sp) (a:List V) (E:XK) (t:TA):TE:=λY H Q=>t Y H λb H1=> ∀x dx,H1 x=u0->H1 dx=u0->dx≠x →
 sp (.ref x::(b++a)) (ax (ax H1 dx (.own x)) x (.ins C dx [])) (λv H2=>v= .ai/\Q (.ref x) H2) E
def Binds (K:Aa3) (c:FuncData) (b:List Str) (ds:List Value):Prop:=
 ∀(s:Shared) (a:List Value),K.In s.heap->(a++ds).length=b.length->BindsTo s c ⟨a,[]⟩ (b.zip (a++ds))
def Binds.all {K:Aa3}{b:FuncData}{a:List Str}(h: ∀us:List Value,us.length=a.length->bindArgs b ⟨us,[]⟩=pure (a.zip us)):Binds K b a []:=λs us _ c=>by
 rw [Ac2]at c ⊢
 exact .of_eq (h us c)
def Xs (CX:dW) (X:Cx) (E:XK):Prop:= ∀(y8:List (Addr×Obj)) (Y:St) (H:Hp) (s:Shared) (e:Value) (s':Shared),Inv X y8 Y H s->CX X.stack H s E e s'->X.xe e s'
section
variable {X:Cx}{CX:dW}{k:Nat}{f C:Addr}{fd:FuncData}{ps:List Str}{sp:Sp}{dvs:List V}{ds:List Value}{E:XK}{x m:Str}{p pos apos:Pos}{e o:Expr}{es:List Expr}{ta:TE}{t:TA}
def lu {a:List (Addr×Obj)}{Y:St}{H:Hp}{s:Shared}{Q:VK}{us:List Value}{vs:List V}(F:aW X.prog X.w X.K X.mg X.base CX k f fd ps sp) (j:aR k X.A) (hb:Binds X.K fd ps ds) (g:Vals dvs ds) (i:Xs CX X E)
 (I:Inv X a Y H s) (r:Vals vs us) (h:sp (vs++dvs) H Q E):wpAny (model X.prog X.w) X.A (call (.ref f) us) (EP X a Y Q) X.xe s:=by
 have c:Vals (vs++dvs) (us++ds):=r.append g
 have l:(us++ds).length=ps.length:=by rw [← c.length];exact F.len _ _ _ _ h
 refine wpAny_call (codeAny_mono (F.run X.A X.stack s H ⟨us,[]⟩ (us++ds) (vs++dvs) Q E j I.eP (hb s us I.bj l) c h) λr d b=> ?_)
 cases r with
 | error e=>exact i a Y H s e d I b
 | ok m=>
  cases m with
  | ret u=>exact I.after b
  | next=>exact False.elim b
  | brk=>exact False.elim b
  | cont=>exact False.elim b
def pT (F:aW X.prog X.w X.K X.mg X.base CX k f fd ps sp) (u:aR k X.A) (g:Gl X x) (j:X.mg x=y0 (.ref f)) (i:Ae3 X.K (.ref f)=k9) (hb:Binds X.K fd ps ds) (m:Vals dvs ds) (o:Xs CX X E)
 (n:PA X (e::es) t) (b:(x==("__debug__" :Str))=false:=by decide) (l:starEach (e::es) X.env=(false,eval e X.env)::starEach es X.env:=by rfl) (c:(backTo pos (starEach es X.env)).any (·.1)=false:=by rfl):
 PE X (.Call (.Name x p) (e::es) [] pos) (oG sp dvs E t):=by
 intro a s Y H Q I h
 refine wpAny_Call_Name_kw (Zm I g j ?_ b)
 refine Ak0 (h₀:=X.base) I.ok.mod.fJ i (aE (n pos a s Y H _ I h) λy w ⟨z,v,d,r,q⟩=>⟨d.bj,?_⟩) l c
 exact lu F u hb m o d r q
def vx (F:aW X.prog X.w X.K X.mg X.base CX k f fd ps sp) (g:aR k X.A) (e:Gl X x) (d:X.mg x=y0 (.ref f)) (j:Ae3 X.K (.ref f)=k9) (hb:Binds X.K fd ps ds) (i:Vals dvs ds) (c:Xs CX X E)
 (a:(x==("__debug__" :Str))=false:=by decide):PE X (.Call (.Name x p) [] [] pos) (oG sp dvs E mK):=by
 intro b s Y H Q I h
 refine wpAny_Call_Name_kw (Zm I e d ?_ a)
 exact PySem.W.callWith_K0 I.bj j (lu (us:= []) F g hb i c I .nil h)
def vT {pl:Sem Bool}(A:PE X o ta) (c:cu X.K C) (i:kl X.K C m f) (F:aW X.prog X.w X.K X.mg X.base CX k f fd ps sp) (N:aR k X.A) (hb:Binds X.K fd ps ds) (B:Vals dvs ds) (M:Xs CX X E) (D:PA X (e::es) t)
 (g:starEach (e::es) X.env=(y9,eval e X.env)::starEach es X.env:=by rfl) (d:(backTo pos (starEach es X.env)).any (·.1)=false:=by rfl)
 (K:eval (.Call (.Attribute o m apos) (e::es) [] pos) X.env=(do
   let L ←eval o X.env
   standAt apos.atName
   let (f,first) ←holding [L] (getMethod L m pl)
   callWith pos f first (backTo pos (starEach (e::es) X.env)) (backToKw pos (keywordEach [] X.env))):=by rfl):
 PE X (.Call (.Attribute o m apos) (e::es) [] pos) (Bk C m sp dvs E ta t):=by
 intro b s Y H Q I h
 refine PySem.W.methodCall_KW (pl:=pl) (aE (A b s Y H _ I h) λu z ⟨x,w,p,G,a,O,fs,ex,J,l,q⟩=> ?_) K
 subst ex
 obtain rfl:u=Value.ref a:=G
 refine xV p J c i l ?_
 refine Ak0 (first:= [.ref a]) (h₀:=X.base) I.ok.mod.fJ i.kp (aE (D pos b z Y w _ p q) λn P ⟨v,R,j,r,y⟩=>⟨j.bj,?_⟩) g d
 exact lu (us:= .ref a::n) (vs:= .ref a::v) F N hb B M j (.cons rfl r) y
structure Mk (K:Aa3) (C f:Addr):Prop where
 makes:PySem.W.makesIn K C=k9
 init:PySem.W.findIn K (.ref C) "__init__" =some (some (.ref f))
 fn:PySem.W.isFn K (.ref f)=k9
 kp:Ae3 K (.ref C)=k9
def vG {b:List (Addr×Obj)}{Y:St}{H:Hp}{s:Shared}{Q:VK}{us:List Value}{vs:List V}(M:Mk X.K C f) (F:aW X.prog X.w X.K X.mg X.base CX k f fd ps sp) (q:aR (k+1) X.A) (hb:Binds X.K fd ps ds) (n:Vals dvs ds)
 (o:Xs CX X E) (I:Inv X b Y H s) (r:Vals vs us)
 (h: ∀x dx,H x=u0->H dx=u0->dx≠x->sp (.ref x::(vs++dvs)) (ax (ax H dx (.own x)) x (.ins C dx [])) (λv H2=>v= .ai/\Q (.ref x) H2) E):
 wpAny (model X.prog X.w) X.A (call (.ref C) us) (EP X b Y Q) X.xe s:=by
 have d:=h (s.heap.objs.size+1) s.heap.objs.size (I.aD.fresh (Ad3 _)) (I.aD.fresh (Aa6 _)) (Ab9 (Ae6 _))
 have c:=Inv.made (C:=C) I
 have g:Vals (V.ref (s.heap.objs.size+1)::(vs++dvs)) (Value.ref (s.heap.objs.size+1)::(us++ds)):= .cons rfl (r.append n)
 have t:(Value.ref (s.heap.objs.size+1)::us++ds).length=ps.length:=by
  have e:=g.length
  rw [F.len _ _ _ _ d]at e
  exact e.symm
 refine wpAny_call (uI (f:=f) I.bj M.makes M.init (beq_iff_eq.mp M.fn) (codeAny_mono (F.run _ X.stack _ _ ⟨Value.ref (s.heap.objs.size+1)::us,[]⟩ (Value.ref (s.heap.objs.size+1)::(us++ds)) _ _ E (q.make C us [])
  (c.eP.make C us []) (hb _ (Value.ref (s.heap.objs.size+1)::us) c.bj t) g d) λr l a=> ?_))
 cases r with
 | error e=>exact o b Y _ _ e l c a
 | ok w=>
  cases w with
  | ret u=>
   obtain⟨v,i,p,rv,m,j⟩:=c.after a
   subst m
   exact⟨rv,⟨V.ref (s.heap.objs.size+1),i,p,rfl,j⟩⟩
  | next=>exact False.elim a
  | brk=>exact False.elim a
  | cont=>exact False.elim a
def ym (M:Mk X.K C f) (F:aW X.prog X.w X.K X.mg X.base CX k f fd ps sp) (o:aR (k+1) X.A) (g:Gl X x) (i:X.mg x=y0 (.ref C)) (hb:Binds X.K fd ps ds) (l:Vals dvs ds) (n:Xs CX X E)
 (m:PA X (e::es) t) (b:(x==("__debug__" :Str))=false:=by decide) (j:starEach (e::es) X.env=(false,eval e X.env)::starEach es X.env:=by rfl) (c:(backTo pos (starEach es X.env)).any (·.1)=false:=by rfl):
 PE X (.Call (.Name x p) (e::es) [] pos) (vE C sp dvs E t):=by
 intro a s Y H Q I h
 refine wpAny_Call_Name_kw (Zm I g i ?_ b)
 refine Ak0 (h₀:=X.base) I.ok.mod.fJ M.kp (aE (m pos a s Y H _ I h) λw v ⟨y,u,d,r,q⟩=>⟨d.bj,?_⟩) j c
 exact vG M F o hb l n d r q
end
section
variable {X:Cx}{CX:dW}{k:Nat}{f C:Addr}{fd:FuncData}{ps ks:List Str}{sp:Sp}{E:XK}{x m:Str}{p pos apos kpos:Pos}{e o:Expr}{es:List Expr}{kws:List Keyword}{te ta:TE}{t tk:TA}{nm:Option Str}
structure CH (K:Aa3) (fd:FuncData) (ps ks:List Str) (g:List Value->List Value->List Value) (gV:List V->List V->List V):Prop where
 to: ∀(s:Shared) (us ws:List Value),K.In s.heap->(g us ws).length=ps.length->BindsTo s fd ⟨us,ks.zip ws⟩ (ps.zip (g us ws))
 rel: ∀ {vs:List V}{us:List Value}{zs:List V}{ws:List Value},Vals vs us->Vals zs ws->Vals (gV vs zs) (g us ws)
variable {g:List Value->List Value->List Value}{gV:List V->List V->List V}
end
structure Zq (N P:List Str) (sc:Scope):Prop where
 kind:sc.kind= .function
 co:sc.isCoroutine=y9
 gen:sc.isGenerator=y9
 nd:N.Nodup
 pre:N.take P.length=P
 par: ∀x∈P,sc.names.lookup x=y0 .local\/sc.names.lookup x=y0 .cell
 gI: ∀y∈sc.names,y.2≠ .free
theorem QI {b:Str->Option NameKind}{x:Str}: ∀ {a:List (Str×Value)}{m:Str->Option Value},(∀ v,(x,v)∉a)->bindL b a m x=m x
 | [],_,_=>rfl
 | (n,v)::r,m,h=>by
  unfold bindL
  rw [QI λw c=>h w (Aa5 _ c)]
  split
  .have:x≠n:=by rintro rfl;exact h v Aa8
   simp [this]
  .rfl
theorem qH {b:Str->Option NameKind}{x:Str}: ∀ {a:List (Str×Value)}{m:Str->Option Value},(∀ v,(x,v)∉a)->bindC b a m x=m x
 | [],_,_=>rfl
 | (n,v)::r,m,h=>by
  unfold bindC
  rw [qH λw c=>h w (Aa5 _ c)]
  split
  .rfl
  .have:x≠n:=by rintro rfl;exact h v Aa8
   simp [this]
theorem ZH {a:Str->Option NameKind}{x:Str}{v:Value}: ∀ {P:List Str}{vs:List Value}{i:Nat}{m:Str->Option Value},P.Nodup->P[i]? =y0 x->vs[i]? =y0 v->a x=y0 .local →
 bindL a (P.zip vs) m x=y0 v
 | [],_,_,_,_,h,_,_=>by simp at h
 | _::_,[],_,_,_,_,h,_=>by simp at h
 | p::P,w::vs,0,m,e,c,b,d=>by
  simp at c b;subst c;subst b
  show bindL a ((p,w)::P.zip vs) m p=_
  unfold bindL
  rw [QI λv f=>(Af8.mp e).1 (List.of_mem_zip f).1,if_pos d]
  simp
 | p::P,w::vs,i+1,m,e,c,b,d=>by
  show bindL a ((p,w)::P.zip vs) m x=_
  unfold bindL
  exact ZH (i:=i) (Af8.mp e).2 (by simpa using c) (by simpa using b) d
theorem JJ {a:Str->Option NameKind}{x:Str}{v:Value}: ∀ {P:List Str}{vs:List Value}{i:Nat}{m:Str->Option Value},P.Nodup->P[i]? =y0 x->vs[i]? =y0 v->a x≠y0 .local →
 bindC a (P.zip vs) m x=y0 v
 | [],_,_,_,_,h,_,_=>by simp at h
 | _::_,[],_,_,_,_,h,_=>by simp at h
 | p::P,w::vs,0,m,e,c,b,d=>by
  simp at c b;subst c;subst b
  show bindC a ((p,w)::P.zip vs) m p=_
  unfold bindC
  rw [qH λv f=>(Af8.mp e).1 (List.of_mem_zip f).1,if_neg d]
  simp
 | p::P,w::vs,i+1,m,e,c,b,d=>by
  show bindC a ((p,w)::P.zip vs) m x=_
  unfold bindC
  exact JJ (i:=i) (Af8.mp e).2 (by simpa using c) (by simpa using b) d
def Ww (N:List Str) (vs:List V):St:=vs.map y0++Aa (N.length-vs.length) u0
noncomputable def qD (CX:dW) (P:Program) (w:World) (K:Aa3) (mg:Str->Option Value) (base:Heap) (N:List Str) (k7:Str) (scope:Scope) (f:Addr) (cd:Value) (A:Around) (outer:List Env) (s:Shared) (H:Hp) (E:XK):Cx where
 prog:=P
 w:=w
 K:=K
 mg:=mg
 base:=base
 A:=A.deeper (envOfC k7 scope s.heap.objs.size f cd)
 N:=N
 s₀:=s
 H₀:=H
 env:=envOfC k7 scope s.heap.objs.size f cd
 outer:=outer
 stack:=envOfC k7 scope s.heap.objs.size f cd::outer
 ex:= []
 calm:=A.handled.isNone
 fn:=λ_=>k9
 pn:= []
 xe:=λe s'=>wpAny (model P w) (A.deeper (envOfC k7 scope s.heap.objs.size f cd)) (leaving (envOfC k7 scope s.heap.objs.size f cd) e) (λ_ s''=>CX outer H s E e s'') (λe' s''=>CX outer H s E e' s'') s'
def JR {a:Scope}{n:Nat}{x:Str}(h:a.names.lookup x=y0 .cell): ∃c,(cellsFrom n a.names []).lookup x=y0 c:=by
 have q:=Ai8 a.names n [] (.inl h)
 exact Option.isSome_iff_exists.mp q
def J7 {CX:dW}{P:Program}{w:World}{K:Aa3}{mg:Str->Option Value}{base:Heap}{N ps:List Str}{k7:Str}{scope:Scope}{f:Addr}{cd:Value}{A:Around}{outer:List Env}{s s1:Shared}{H:Hp}{E:XK}{us:List Value}{vs:List V}
 (S:Zq N ps scope) (e0:dr P w K mg base A outer s H) (hl:vs.length=ps.length) (r:Vals vs us)
 (x:InCallC s s.heap.objs.size (bindL (envOfC k7 scope s.heap.objs.size f cd).kindOf (ps.zip us) λ_=>u0) (cellsFrom (s.heap.objs.size+1) scope.names []) (bindC (envOfC k7 scope s.heap.objs.size f cd).kindOf (ps.zip us) λ_=>u0) s1):
 Inv (qD CX P w K mg base N k7 scope f cd A outer s H E) [] (Ww N vs) H s1:=by
 have hpl:ps.length<=N.length:=by have:=congrArg List.length S.pre;rw [Ad]at this;omega
 obtain⟨h1,tk,rfl,hk⟩:=x.done
 have noA: ∀b:Addr,b∉(qD CX P w K mg base N k7 scope f cd A outer s H E).ex:=λb z=>absurd (show b∈([]:List Addr)from z) (by simp)
 refine⟨⟨e0.mod,S.kind,rfl,rfl,Aa6 _,λy z c h1 h2=> ?_,λy hy=> ?_,λy c _ h=> ?_,λq=>Ae5.mp q,Around.frames_deeper e0.frames,.inr ⟨rfl,rfl⟩,λb z=>absurd z (noA b),e0.bs,e0.ez,λb _ _=>noA b,λb z=>absurd z (noA b),e0.b7,e0.fW⟩,
  rfl,e0.bare,Un.kept hk,⟨_,x.toInCall.ns,λi y v h1 h2 h3=> ?_⟩,λy c h=>⟨_,x.cell y c h⟩,e0.aD.fresh (Aa6 _),λy c h=> ?_,λp hp=>absurd (show p∈([]:List (Addr×Obj))from hp) (by simp),e0.aD.kept hk,?_⟩
 .exact name_of_addr x.apart (PySem.mem_of_lookup h1) (PySem.mem_of_lookup h2)
 .have hy:scope.names.lookup y=y0 .cell\/scope.names.lookup y=y0 .free:=hy
  rcases hy with hy | hy
  .exact JR hy
  .exact absurd rfl (S.gI _ (PySem.mem_of_lookup hy))
 .exact Ae8 (x.above y c (PySem.mem_of_lookup h))
 .have hi:i<vs.length:=by
   unfold Ww at h2
   by_cases hi:i<vs.length
   .exact hi
   .rw [Ad0 (by simpa using hi)]at h2
    rw [Aj]at h2
    split at h2<;>cases h2
  have ha:vs[i]? =y0 v:=by
   unfold Ww at h2
   rw [Ad2 (by simpa using hi),Ad9]at h2
   cases e:vs[i]? with
   | none=>rw [e]at h2;cases h2
   | some a=>rw [e]at h2;cases h2;rfl
  obtain⟨u,hu,rv⟩:=r.get ha
  have hp:ps[i]? =y0 y:=by
   rw [← S.pre,List.getElem?_take_of_lt (by omega)];exact h1
  have ndP:ps.Nodup:=by rw [← S.pre];exact S.nd.sublist (List.take_sublist _ _)
  refine⟨u,rv,?_⟩
  rcases S.par y (Ah8 hp)with k | k
  .exact .inl ⟨k,ZH ndP hp hu k⟩
  .obtain⟨c,e⟩:=JR (n:=s.heap.objs.size+1) k
   refine .inr ⟨.inl k,c,e,?_⟩
   have q:=x.cell y c e
   rw [JJ ndP hp hu (by show scope.names.lookup y≠_;rw [k];decide)]at q
   exact q
 .exact e0.aD.fresh (Ae8 (x.above y c (PySem.mem_of_lookup h)))
 .unfold Ww
  show _=N.length
  rw [Ab5,Aa0,Ab8]
  omega
def u4 {CX:dW}{P:Program}{w:World}{K:Aa3}{mg:Str->Option Value}{base:Heap}{k:Nat}{f:Addr}{name k7:Str}{params:Arguments}{body:List Stmt}{scope:Scope}{dV kV doc pm cdv ct oc:Value}{an od:Option Addr}
 {osl:Array (Option Value)}{N ps:List Str}{sp:Sp}(lk:K.lookup f=y0 ⟨oc,od,.func (PySem.W.fnOf name k7 params body scope dV kV doc pm an cdv ct),osl⟩) (hcd:PySem.W.codeIn K cdv k7=k9) (S:Zq N ps scope)
 (len: ∀vs H Q E,sp vs H Q E->vs.length=ps.length)
 (hbody: ∀(A:Around) (outer:List Env) (s:Shared) (H:Hp) (vs:List V) (Q:VK) (E:XK),aR k (A.deeper (envOfC k7 scope s.heap.objs.size f cdv))->sp vs H Q E →
   ∃t,cD (qD CX P w K mg base N k7 scope f cdv A outer s H E) body t/\t { nx:=λ_ H'=>Q .ai H',rt:=Q } (Ww N vs) H):
 aW P w K mg base CX (k+1) f (PySem.W.fnOf name k7 params body scope dV kV doc pm an cdv ct) ps sp:=by
 refine⟨len,λA outer s H args us vs Q E hr e0 hb r hsp=> ?_⟩
 have hl:=len _ _ _ _ hsp
 have KX:K.In s.heap:=e0.mod.fJ.keeps λb o e=>(e0.bs b o e).1
 have lim:s.heap.NoLimit:=e0.mod.nolimit.keeps λb o e=>(e0.bs b o e).1
 have hkind: ∀y∈ps.zip us,scope.names.lookup y.1=y0 .local\/(scope.names.lookup y.1=y0 .cell/\((cellsFrom (s.heap.objs.size+1) scope.names []).lookup y.1).isSome=k9):=by
  rintro ⟨n,v⟩ hy
  rcases S.par n (List.of_mem_zip hy).1 with q | q
  .exact .inl q
  .exact .inr ⟨q,Ai8 _ _ _ (.inl q)⟩
 refine codeAny_call_function hr.depth (KX _ _ lk) rfl S.co S.gen rfl (PySem.W.codeRec_of KX hcd) (hb _ _ _ _ ?_)
 refine wpAny_newFunctionEnv_cells S.kind hkind λenv he s1 x=> ?_
 subst he
 refine⟨lim.keeps x.toInCall.keep,codeAny_func ?_⟩
 obtain⟨t,ht,hq⟩:=hbody A outer s H vs Q E (hr.deeper _) hsp
 have I:Inv (qD CX P w K mg base N k7 scope f cdv A outer s H E) [] (Ww N vs) H s1:=J7 S e0 hl r x
 refine wpAny_mono (ht [] s1 (Ww N vs) H _ I hq) (λfl s' hs=> ?_) λe s' hs=>hs
 have fin: ∀ {Y':St}{H':Hp}{v:V}{u:Value},Inv (qD CX P w K mg base N k7 scope f cdv A outer s H E) [] Y' H' s'->RelV v u->Q v H'->CE outer P w H s Q u s':=
  λ{Y' H' v u} J rv q=>⟨v,H',J.os,J.bare,J.base,J.aD,rv,q⟩
 cases fl with
 | ret u=>
  obtain⟨v,Y',H',J,rv,q⟩:=hs
  exact fin J rv q
 | next=>
  obtain⟨Y',H',J,q⟩:=hs
  exact fin (v:=V.ai) (u:=Value.none) J rfl q
 | brk=>
  obtain⟨_,_,_,q⟩:=hs
  exact False.elim q
 | cont=>
  obtain⟨_,_,_,q⟩:=hs
  exact False.elim q
section
variable {X:Cx}{x:Str}{p pos:Pos}{e:Expr}{es:List Expr}{t:TA}{id T:String}{r:List V->Hp->VK->Prop}
def lj (r:List V->Hp->VK->Prop) (t:TA):TE:=λY H Q=>t Y H λa H1=>r a H1 Q
def Zg (v:Wn X (.builtin id) r) (f:Gl X x) (i:X.mg x=none) (o:bootBuiltins x=some (.builtin id)) (m:PA X (e::es) t) (n:x≠ "__name__" :=by decide) (b:(x==("__debug__" :Str))=false:=by decide)
 (k:starEach (e::es) X.env=(y9,eval e X.env)::starEach es X.env:=by rfl) (c:(backTo pos (starEach es X.env)).any (·.1)=false:=by rfl):PE X (.Call (.Name x p) (e::es) [] pos) (lj r t):=by
 intro a s Y H Q I h
 refine wpAny_Call_Name_kw (js I f i o ?_ n b)
 exact PyProof.Rows.callWith_builtin1 (aE (m pos a s Y H _ I h) λq j ⟨w,d,g,u,l⟩=>v a j Y d w q Q g u l) k c
def pB (v:Wn X (.type T) r) (f:Gl X x) (i:X.mg x=none) (o:bootBuiltins x=some (.type T)) (m:PA X (e::es) t) (n:x≠ "__name__" :=by decide) (b:(x==("__debug__" :Str))=false:=by decide)
 (k:starEach (e::es) X.env=(y9,eval e X.env)::starEach es X.env:=by rfl) (c:(backTo pos (starEach es X.env)).any (·.1)=false:=by rfl):PE X (.Call (.Name x p) (e::es) [] pos) (lj r t):=by
 intro a s Y H Q I h
 refine wpAny_Call_Name_kw (js I f i o ?_ n b)
 exact PyProof.Rows.callWith_type1 (aE (m pos a s Y H _ I h) λq j ⟨w,d,g,u,l⟩=>v a j Y d w q Q g u l) k c
end
end L2
namespace HT
open PySem PyProof.Rows
section
variable {prog:Program}{w:World}{A:Around}{E:Value->Shared->Prop}{s:Shared}
def eW {t b:Addr}{vs ws:List Value}{Q:Value->Shared->Prop}(v:IsTup s.heap t vs.toArray) (hb:IsTup s.heap b ws.toArray) (q:vs≠ [])
 (h1:ws= []->Q (.ref t) s) (h2:ws≠ []->Q (.ref s.heap.objs.size) { s with heap:=s.heap.push { cls:= .type "tuple",data:= .seq (vs++ws).toArray } })
 (l:vs.length+ws.length<=sizeLine):wpAny (model prog w) A (binaryOp .Add (.ref t) (.ref b)) Q E s:=by
 obtain⟨⟨L,dd,i,p⟩,h,u,n,o⟩:=id v
 obtain⟨⟨r,g,k,f⟩,a,d,m,c⟩:=id hb
 simp only at u o d c
 subst u o d c
 have e:vs.toArray++ws.toArray=(vs++ws).toArray:=by simp
 by_cases j:ws= []
 .exact concat_meets ⟨_,h,rfl⟩ ⟨_,a,rfl⟩ noFill_tuple_add seq_tuple_add PySem.F.slot_tuple_add PySem.F.entry_tuple_add (PySem.F.args_tuple_add_2 _ _)
   (tuple_addW1 t b vs.toArray ws.toArray n m dd g p f (by simpa using q) (by simp [j])) ⟨h,a,h1 j⟩
 .refine concat_meets ⟨_,h,rfl⟩ ⟨_,a,rfl⟩ noFill_tuple_add seq_tuple_add PySem.F.slot_tuple_add PySem.F.entry_tuple_add (PySem.F.args_tuple_add_2 _ _)
   (tuple_addW2 t b vs.toArray ws.toArray n m dd g p f (by simpa using q) (by simpa using j) (by rw [Aa9,Aa9];exact l)) ⟨h,a,?_⟩
  rw [e]
  exact h2 j
def aC (n d:Nat):Option Int->Nat
 | none=>d
 | some v=>if v<0 then(v+(n:Int)).toNat else min v.toNat n
def B0 (n d:Nat) (b:d<=n) (o:Option Int):aC n d o<=n:=by
 cases o with
 | none=>exact b
 | some v=>
  show(if v<0 then(v+(n:Int)).toNat else min v.toNat n)<=n
  by_cases a:v<0
  .rw [if_pos a];omega
  .rw [if_neg a];exact Nat.min_le_right _ _
def X6 (v:Int) (n d:Nat):(if v<0 then max (v+(n:Int)) 0 else min v (n:Int))=((aC n d (y0 v):Nat):Int):=by
 show(if v<0 then max (v+(n:Int)) 0 else min v (n:Int))=(((if v<0 then(v+(n:Int)).toNat else min v.toNat n):Nat):Int)
 by_cases a:v<0
 .simp only [if_pos a];omega
 .simp only [if_neg a];omega
def jZ (b a:Option Int) (n:Nat):Builtin.Slice.sliceAdjust b a 1 (n:Int)=(((aC n 0 b:Nat):Int),((aC n n a:Nat):Int)):=by
 have c: ¬((1:Int)<0):=by omega
 unfold Builtin.Slice.sliceAdjust
 simp only [c,if_false]
 refine Prod.ext ?_ ?_
 .cases b with
  | none=>rfl
  | some v=>exact X6 v n 0
 .cases a with
  | none=>rfl
  | some v=>exact X6 v n n
def XY (i j:Nat):Builtin.Slice.slicePlaces (i:Int) (j:Int) 1=j-i:=by
 unfold Builtin.Slice.slicePlaces
 have a:(1:Int)>0:=by omega
 simp only [a,if_true,Int.ediv_one]
 split<;>omega
def qB {v:Value}{o:Option Int}{Q:Option Int->Shared->Prop}(p:IsPart v o) (h:Q o s):wpAny (model prog w) A (Builtin.Slice.slicePartIndex v) Q E s:=by
 cases p with
 | none=>exact slicePart_none h
 | int i t=>exact slicePart_int h
def bp {g:Addr}{e f:Value}{a b:Option Int}{n:Nat}{Q:Int×Int×Nat->Shared->Prop}(i:s.heap.IsSliceOf g e f .none) (pl:IsPart e a) (j:IsPart f b)
 (h:Q (((aC n 0 a:Nat):Int),1,aC n n b-aC n 0 a) s):wpAny (model prog w) A (Builtin.Slice.sliceApplied (.ref g) (pure (n:Int))) Q E s:=by
 obtain⟨l,c,k,d⟩:=id i
 unfold Builtin.Slice.sliceApplied Builtin.Slice.sliceFields
 refine wpAny_bind (wpAny_bind (wpAny_field c d (x:=e) rfl (wpAny_bind (wpAny_field c d (x:=f) rfl (wpAny_bind (wpAny_field c d (x:= .none) rfl (wpAny_pure ?_)))))))
 refine wpAny_bind (slicePart_none ?_)
 show wpAny _ _ (if ((1:Int)==0)=k9 then _ else _) _ _ s
 rw [if_neg (by decide)]
 refine wpAny_bind (qB pl (wpAny_bind (qB j (wpAny_bind (wpAny_pure ?_)))))
 show wpAny _ _ (match Builtin.Slice.sliceAdjust a b 1 (n:Int)with | (a,b)=>pure (a,(1:Int),Builtin.Slice.slicePlaces a b 1)) _ _ s
 rw [jZ a b n]
 show wpAny _ _ (pure (((aC n 0 a:Nat):Int),(1:Int),Builtin.Slice.slicePlaces ((aC n 0 a:Nat):Int) ((aC n n b:Nat):Int) 1)) _ _ s
 rw [XY]
 exact wpAny_pure h
def BA (xs:Array Value) (i k:Nat):((Aa7 k).filterMap λ(m:Nat)=>xs[((i:Int)+(m:Int)*1).toNat]?).toArray=((xs.toList.drop i).take k).toArray:=by
 have e:(λ(m:Nat)=>xs[((i:Int)+(m:Int)*1).toNat]?)=λm=>xs[i+m]? :=by
  funext m
  have:((i:Int)+(m:Int)*1).toNat=i+m:=by omega
  rw [this]
 rw [e]
 have:=pick_run xs i k
 rw [List.filterMap_map]at this
 have e2:((λx=>xs[x]?)∘λx=>i+x)=λm=>xs[i+m]? :=rfl
 rw [e2]at this
 rw [this]
def bS {t k:Addr}{a:Array Value}{o l:Value}{c d:Option Int}{Q:Value->Shared->Prop}(e:IsTup s.heap t a) (n:s.heap.IsSliceOf k o l .none) (pl:IsPart o c) (p:IsPart l d)
 (x: ¬(aC a.size 0 c=0/\aC a.size a.size d=a.size))
 (h:Q (.ref s.heap.objs.size) { s with heap:=s.heap.push { cls:= .type "tuple",data:= .seq ((a.toList.drop (aC a.size 0 c)).take (aC a.size a.size d-aC a.size 0 c)).toArray } })
 (v:a.size<=sizeLine):wpAny (model prog w) A (getItem (.ref t) (.ref k)) Q E s:=by
 have b:sizeOk (.seq ((a.toList.drop (aC a.size 0 c)).take (aC a.size a.size d-aC a.size 0 c)).toArray):=by
  show((a.toList.drop (aC a.size 0 c)).take (aC a.size a.size d-aC a.size 0 c)).toArray.size<=sizeLine
  rw [Aa9,Ad,Ae4,Af3]
  omega
 have B:aC a.size a.size d<=a.size:=B0 _ _ (Aa6 _) d
 obtain⟨u,g,j,r⟩:=id n
 have f:s.TypeIs (.ref k) "slice" :=⟨u,g,j⟩
 unfold getItem
 try with_reducible refine wpAny_holding ?_
 first | refine wpAny_bind (wpAny_pure ?_) | skip
 refine wpAny_bind (wpAny_sequenceKey e.typeIs (by decide) ?_)
 refine wpAny_bind (wpAny_callSpecial?_slot (name:=Str.ofString "__getitem__") e.typeIs PyProof.Rows.slot_tuple_getitem
  (wpAny_call_entry PyProof.Rows.slot_tuple_getitem e.typeIs entry_tuple_getitem ?_ (args_tuple_getitem _ _)))
 show wpAny _ _ (Builtin.Tuple.tupleItemsOf (.ref t) >>= _) _ _ s
 refine wpAny_bind (tupleItemsOf_ e ?_)
 refine wpAny_bind (wpAny_typeOf f ?_)
 rw [if_pos (by decide)]
 refine wpAny_bind (bp n pl p ?_)
 have i: ¬((((aC a.size 0 c:Nat):Int)==0&&(1:Int)==1&&(aC a.size a.size d-aC a.size 0 c)==a.size)=k9):=by
  intro q
  rw [Aa1,Aa1]at q
  have z:((aC a.size 0 c:Nat):Int)=0:=eq_of_beq q.1.1
  have y:aC a.size a.size d-aC a.size 0 c=a.size:=eq_of_beq q.2
  exact x ⟨by omega,by omega⟩
 show wpAny _ _ (if (((aC a.size 0 c:Nat):Int)==0&&(1:Int)==1&&(aC a.size a.size d-aC a.size 0 c)==a.size)=k9 then _ else _) _ _ s
 rw [if_neg i,BA]
 first
  | exact wpAny_bind (m:=Builtin.Tuple.tupleExact _) (wpAny_newObj_type (wpAny_pure ⟨_,rfl,wpAny_pure h⟩) b)
  | exact wpAny_bind (m:=Builtin.Tuple.tupleExact _) (wpAny_newObj_type (wpAny_bind (wpAny_pure (wpAny_pure ⟨_,rfl,wpAny_pure h⟩))) b)
  | exact wpAny_bind (wpAny_bind (m:=Builtin.Tuple.tupleExact _) (wpAny_newObj_type (wpAny_pure (wpAny_pure ⟨_,rfl,wpAny_pure h⟩)) b))
  | exact wpAny_bind (wpAny_bind (m:=Builtin.Tuple.tupleExact _) (wpAny_newObj_type (wpAny_pure ⟨_,rfl,wpAny_pure h⟩) b))
end
end HT
namespace L2
open PySem PySem.Spec PyProof.Rows
abbrev TO:=St->Hp->(Option Int->Hp->Prop)->Prop
def PO (X:Cx) (e:Option Expr) (t:TO):Prop:=
 ∀(y8:List (Addr×Obj)) (s:Shared) (Y:St) (H:Hp) (Q:Option Int->Hp->Prop),Inv X y8 Y H s->t Y H Q →
  wpAny (model X.prog X.w) X.A (evalPart e X.env) (λu s'=> ∃o H',Inv X y8 Y H' s'/\IsPart u o/\Q o H') X.xe s
def Aq:TO:=λ_ H Q=>Q u0 H
def vK (t:TE):TO:=λY H Q=>t Y H λx H1=> ∃i,x= .int i/\Q (y0 i) H1
section
variable {X:Cx}{e:Expr}{te:TE}{lo hi:Option Expr}{tl th:TO}{pos p2:Pos}
def j3:PO X u0 Aq:=by
 intro a s Y H Q I h
 rw [evalPart_none]
 exact wpAny_pure ⟨u0,H,I,.none,h⟩
def o9 (h:PE X e te):PO X (y0 e) (vK te):=by
 intro a s Y H Q I g
 rw [evalPart_some]
 refine aE (h a s Y H _ I g) ?_
 rintro u j ⟨x,b,c,f,d⟩
 obtain⟨i,rfl,q⟩:=d
 obtain⟨t,rfl⟩:=f
 exact⟨y0 i,b,c,.int i t,q⟩
def eB (X:Cx) (r:V->Option Int->Option Int->Hp->VK->Prop):Prop:=
 ∀(y8:List (Addr×Obj)) (s:Shared) (Y:St) (H:Hp) (x:V) (v b c:Value) (lo hi:Option Int) (a:Addr) (Q:VK),Inv X y8 Y H s->RelV x v->s.heap.IsSliceOf a b c .none->IsPart b lo->IsPart c hi->r x lo hi H Q →
  ∃T id,typeLookup (.type T) "__getitem__" =pure (some (.builtin id))/\s.TypeIs v T/\wpAny (model X.prog X.w) X.A (getItem v (.ref a)) (EP X y8 Y Q) X.xe s
def eB.or {r g:V->Option Int->Option Int->Hp->VK->Prop}(h:eB X r) (h':eB X g):eB X (λx lo hi H Q=>r x lo hi H Q\/g x lo hi H Q):=by
 intro a s Y H x v j d lo hi e Q I i f b c q
 rcases q with q | q
 .exact h a s Y H x v j d lo hi e Q I i f b c q
 .exact h' a s Y H x v j d lo hi e Q I i f b c q
def Ce (r:V->Option Int->Option Int->Hp->VK->Prop) (c:TE) (tl b:TO):TE:=λY H Q=>c Y H λx H1=>tl Y H1 λl H2=>b Y H2 λu a=>r x l u a Q
def jQ {r:V->Option Int->Option Int->Hp->VK->Prop}(J:eB X r) (w:PE X e te) (K:PO X lo tl) (E:PO X hi th):PE X (.Subscript e (.Slice lo hi u0 p2) pos) (Ce r te tl th):=by
 intro a s Y H Q I h
 refine Subscript_ (aE (w a s Y H _ I h) ?_)
 rintro v t ⟨x,i,L,G,z⟩
 refine wpAny_Slice (aE (K a t Y i _ L z) λf o ⟨l,D,B,k,n⟩=>aE (E a o Y D _ B n) ?_)
 rintro d c ⟨u,g,F,y,m⟩
 rw [evalPart_none]
 refine wpAny_pure ?_
 have A:Inv X a Y g { c with heap:=c.heap.push { cls:= .type "slice",data:= .fields #[f,d,.none] } }:=F.kept (t':=c.toks) fun b M q=>Heap.get?_push_of_some _ q
 obtain⟨T,id,p,C,j⟩:=J a { c with heap:=c.heap.push { cls:= .type "slice",data:= .fields #[f,d,.none] } } Y g x v f d l u c.heap.objs.size Q A G (Heap.IsSliceOf.new ..) k y m
 show wpAny (model X.prog X.w) X.A (subscriptTail e (.Slice lo hi none p2) v (.ref c.heap.objs.size)) (EP X a Y Q) X.xe { c with heap:=c.heap.push { cls:= .type "slice",data:= .fields #[f,d,.none] } }
 exact tail_any (ops:= [.ref c.heap.objs.size,v]) C p j (by with_unfolding_all rfl)
noncomputable def fM (xs:List V) (a b:Option Int):List V:=(xs.drop (HT.aC xs.length 0 a)).take (HT.aC xs.length xs.length b-HT.aC xs.length 0 a)
def Zv (xs:List V) (a b:Option Int):(fM xs a b).length<=xs.length:=by
 unfold fM
 rw [Ad,Ae4]
 omega
def kI (K:Aa3):V->Option Int->Option Int->Hp->VK->Prop:=λx lo hi H Q=> ∃a xs,x= .ref a/\bK K H a xs ∧
 ¬(HT.aC xs.length 0 lo=0/\HT.aC xs.length xs.length hi=xs.length)/\ ∀p,H p=u0->Q (.ref p) (ax H p (.tup (fM xs lo hi)))
def uO:eB X (kI X.K):=by
 intro j s Y H x v A y e g z Q I p n l m h
 obtain⟨a,d,rfl,t,u,q⟩:=h
 cases p
 obtain⟨f,r,i,k⟩:=I.tuple t
 have c:f.toArray.size=d.length:=by rw [Aa9];exact r.length.symm
 refine⟨"tuple",_,PyProof.Rows.slot_tuple_getitem.lookup,i.typeIs,?_⟩
 refine HT.bS i n l m (by rw [c];exact u) ?_ (by rw [c];exact k)
 rw [c]
 refine⟨.ref s.heap.objs.size,_,I.laid (t':=s.toks) (o:= .tup (fM d e g)) (λb w q=>Aa2 _ q) (Aa6 _) ?_,rfl,q _ (I.aD.fresh (Aa6 _))⟩
 exact⟨Ac0 (Zv d e g) k,_,(r.drop (HT.aC d.length 0 e)).take (HT.aC d.length d.length g-HT.aC d.length 0 e),cA.new _ _⟩
def uC (K:Aa3):R2:=λx y H Q=> ∃a b xs ys,x= .ref a/\y= .ref b/\bK K H a xs/\bK K H b ys/\xs≠ []/\xs.length+ys.length<=sizeLine ∧
 (ys= []->Q (.ref a) H)/\(ys≠ []-> ∀p,H p=u0->Q (.ref p) (ax H p (.tup (xs++ys))))
def Vals.cn {xs:List V}{us:List Value}(r:Vals xs us):us= []↔xs= []:=by
 cases r with
 | nil=>simp
 | cons _ _=>simp
def vt:br X (binaryOp .Add) (uC X.K):=by
 intro f s Y H x y v u Q I t r h
 obtain⟨a,b,A,n,rfl,rfl,p,i,B,g,m,k⟩:=h
 cases t
 cases r
 obtain⟨j,d,l,_⟩:=I.tuple p
 obtain⟨e,c,C,_⟩:=I.tuple i
 refine HT.eW l C (λz=>B (d.cn.mp z)) (λz=>⟨.ref a,H,I,rfl,m (c.cn.mp z)⟩) (λz=> ?_) (by rw [← d.length,←c.length];exact g)
 refine⟨.ref s.heap.objs.size,_,I.laid (t':=s.toks) (o:= .tup (A++n)) (λb D q=>Aa2 _ q) (Aa6 _) ?_,rfl,k (λw=>z (c.cn.mpr w)) _ (I.aD.fresh (Aa6 _))⟩
 exact⟨by rw [Ab5];exact g,_,d.append c,cA.new _ _⟩
end
noncomputable def cX (n:Nat) (i:Int):Option Nat:=if 0<=i then(if i<n then y0 i.toNat else u0)else if -(n:Int)<=i then y0 (i+n).toNat else u0
def bq {a:Type}(xs:List a) (i:Int):Option a:=(cX xs.length i).bind λj=>xs[j]?
def mZ {n:Nat}{i:Int}{j:Nat}(h:cX n i=y0 j):seqIndex? i n=y0 j/\j<n/\ -(n:Int)<=i/\i<n:=by
 unfold cX at h
 by_cases b:0<=i
 .rw [if_pos b]at h
  by_cases a:i<n
  .rw [if_pos a]at h
   have e:i.toNat=j:=Ad8.inj h
   exact⟨by rw [seqIndex_of b a,e],by omega,by omega,a⟩
  .rw [if_neg a]at h;cases h
 .rw [if_neg b]at h
  by_cases a: -(n:Int)<=i
  .rw [if_pos a]at h
   have e:(i+n).toNat=j:=Ad8.inj h
   exact⟨by rw [seqIndex_neg (by omega) a,e],by omega,a,by omega⟩
  .rw [if_neg a]at h;cases h
def ZM {a:Type}{xs:List a}{i:Int}{v:a}(h:bq xs i=y0 v): ∃j,seqIndex? i xs.length=y0 j/\xs[j]? =y0 v/\j<xs.length/\ -(xs.length:Int)<=i/\i<xs.length:=by
 unfold bq at h
 cases e:cX xs.length i with
 | none=>rw [e]at h;cases h
 | some j=>
  rw [e]at h
  obtain⟨f,b,d,c⟩:=mZ e
  exact⟨j,f,h,b,d,c⟩
def XE {a:Type}{xs:List a}{j:Nat}{v:a}(h:xs[j]? =y0 v):bq xs (j:Int)=y0 v:=by
 have b:j<xs.length:=(Ab.mp h).1
 have e:cX xs.length (j:Int)=y0 j:=by
  unfold cX
  rw [if_pos (by omega),if_pos (by omega)];simp
 unfold bq;rw [e];exact h
def Q7 (b:Expr):Prop:= ∀o i,subscripted b y9 o i=operate [o,i] (getItem o i)
def fA (X:Cx) (r:R2):Prop:=
 ∀(value a:Expr) (y8:List (Addr×Obj)) (s:Shared) (Y:St) (H:Hp) (x y:V) (v u:Value) (Q:VK),Inv X y8 Y H s->RelV x v->RelV y u->r x y H Q →
  subscripted a y9 v u=operate [v,u] (getItem v u)->wpAny (model X.prog X.w) X.A (subscriptTail value a v u) (EP X y8 Y Q) X.xe s
def B1 (X:Cx) (id:String) (r:V->List V->Hp->VK->Prop):Prop:=
 ∀(y8:List (Addr×Obj)) (s:Shared) (Y:St) (H:Hp) (x:V) (xs:List V) (v:Value) (a:List Value) (Q:VK),Inv X y8 Y H s->RelV x v->Vals xs a->r x xs H Q →
  wpAny (model X.prog X.w) X.A (call (.builtin id) (v::a)) (EP X y8 Y Q) X.xe s
section
variable {X:Cx}{a b:Expr}{ta tb:TE}{pos:Pos}
def fA.or {r e:R2}(h:fA X r) (h':fA X e):fA X (λx y H Q=>r x y H Q\/e x y H Q):=by
 intro a b c s Y H x y v u Q I g f q d
 rcases q with q | q
 .exact h a b c s Y H x y v u Q I g f q d
 .exact h' a b c s Y H x y v u Q I g f q d
def As {r:R2}(l:fA X r) (e:PE X a ta) (hb:PE X b tb) (f:Q7 b):PE X (.Subscript a b pos) (ij r ta tb):=by
 intro c s Y H Q I h
 exact Subscript_ (lD e hb I h λv u d x y k g j i q=>l a b c d Y k x y v u Q g j i q (f _ _))
def mR (K:Aa3):R2:=λx y H Q=> ∃p xs i v,x= .ref p/\y= .int i/\aY K H p xs/\bq xs i=y0 v/\Q v H
def nP (K:Aa3):R2:=λx y H Q=> ∃p xs i v,x= .ref p/\y= .int i/\bK K H p xs/\bq xs i=y0 v/\Q v H
def m9:R2:=λx y H Q=> ∃z i c,x= .str z/\y= .int i/\z.length<=sizeLine/\bq z.cps.toList i=y0 c/\Q (.str ⟨#[c]⟩) H
def eU:fA X (mR X.K):=by
 intro d f a s Y H x y v u Q I F E h m
 obtain⟨p,L,i,z,rfl,rfl,D,C,q⟩:=h
 cases F
 obtain⟨t,rfl⟩:=E
 obtain⟨e,r,c,N⟩:=I.list D
 obtain⟨j,b,B,K,o,G⟩:=ZM C
 obtain⟨w,n,k⟩:=r.get B
 have J:=r.length
 have M:=Wt
 have fin:EP X a Y Q w s:=⟨z,H,I,k,q⟩
 by_cases l:0<=i
 .have g:i.toNat=j:=by
   rw [seqIndex_of l G]at b
   exact Ad8.inj b
  exact item_listR c.isList l (by omega) (by rw [g];simpa using n) fin m
 .have g:(i+(e.toArray.size:Int)).toNat=j:=by
   rw [seqIndex_neg (by omega) o]at b
   rw [Aa9,←J]
   exact Ad8.inj b
  exact subscriptTail_builtinR (x:=w) c.isList.typeIs slot_list_getitem.lookup
   (wpAny_getItem_list_neg (Q:=λr A=>r=w/\EP X a Y Q r A) c.isList (by omega) (by rw [Aa9]<;>omega) (by omega) (by rw [g];simpa using n) ⟨rfl,fin⟩) m
def ag:fA X (nP X.K):=by
 intro b c a s Y H x y v u Q I B A h n
 obtain⟨p,J,i,z,rfl,rfl,m,l,q⟩:=h
 cases B
 obtain⟨t,rfl⟩:=A
 obtain⟨g,r,e,L⟩:=I.tuple m
 obtain⟨j,o,k,F,E,G⟩:=ZM l
 obtain⟨w,C,d⟩:=r.get k
 have D:=r.length
 have K:=Wt
 have fin:EP X a Y Q w s:=⟨z,H,I,d,q⟩
 exact subscriptTail_builtinR (x:=w) e.typeIs slot_tuple_getitem.lookup
  (getItem_tuple (j:=j) (Q:=λr f=>r=w/\EP X a Y Q r f) e (by omega) (by omega) (by rw [Aa9,←D];exact o) (by simpa using C) ⟨rfl,fin⟩) n
def lH:fA X m9:=by
 intro a b e s Y H x y v u Q I n m h l
 obtain⟨z,i,c,rfl,rfl,B,k,q⟩:=h
 obtain⟨t,rfl⟩:=n
 obtain⟨A,rfl⟩:=m
 obtain⟨j,d,g,r,f,o⟩:=ZM k
 have p:z.cps.toList.length=z.length:=by simp [Str.length]
 rw [p]at d f o
 have w:=Wt
 exact tail_any (typeIs_str s z t) slot_str_getitem.lookup (getItem_str (c:=c) (by
  have e1:u9 (i< -(2 ^ 63:Int))=false:=decide_eq_false (by omega)
  have e2:u9 (i>=2 ^ 63)=false:=decide_eq_false (by omega)
  rw [e1,e2,Bool.or_false]) (by rw [d];simpa using g) ⟨.str ⟨#[c]⟩,H,I.tok _,⟨_,rfl⟩,q⟩) l
def yV (K:Aa3):R2:=λx y H Q=>mR K x y H Q\/nP K x y H Q\/m9 x y H Q
def tS:fA X (yV X.K):=eU.or (ag.or lH)
def xX (a:List Value) (n j:Nat) (u:Value):Obj.mapSeq (·.setIfInBounds j u) { cls:= .type "list",data:= .seq a.toArray n }= { cls:= .type "list",data:= .seq (a.set j u).toArray n }:=by
 simp [Obj.mapSeq]
theorem Inv.lst {b:List (Addr×Obj)}{Y:St}{H:Hp}{s:Shared}{p:Addr}{xs:List V}(I:Inv X b Y H s) (h:H p=y0 (.lst xs)):
 ∃(a:List Value) (n:Nat),Vals xs a/\s.heap.get? p=y0 { cls:= .type "list",data:= .seq a.toArray n }/\xs.length<=sizeLine:=by
 obtain⟨z,a,n,r,e⟩:=I.aD p _ h
 exact⟨a,n,r,e,z⟩
def Inv.gu {a:List (Addr×Obj)}{Y:St}{H:Hp}{s:Shared}{p:Addr}{xs d:List V}{c its':List Value}{n g:Nat}{f:Obj->Obj}(I:Inv X a Y H s) (h:H p=y0 (.lst xs))
 (k:s.heap.get? p=y0 { cls:= .type "list",data:= .seq c.toArray n }) (i:f { cls:= .type "list",data:= .seq c.toArray n }= { cls:= .type "list",data:= .seq its'.toArray g }) (r:Vals d its') (l:d.length<=sizeLine) (t:Nat):
 Inv X a Y (ax H p (.lst d)) { s with heap:=s.heap.update p f,toks:=t }:=by
 have e:(s.heap.update p f).get? p=y0 { cls:= .type "list",data:= .seq its'.toArray g }:=by
  rw [Ag0 f k (by rw [i]<;>rfl),i]
 refine I.write (x:=p) (e:=p) (by rw [h];trivial) (.inl rfl) (λb u j q=>(Ah5 _ _ (Ne.symm j)).trans q) ⟨_,e⟩ ?_
 exact⟨l,its',g,r,e⟩
def yA:V->V->V->Hp->(Hp->Prop)->Prop:=λo i v H Q=> ∃p xs k j,o= .ref p/\i= .int k/\H p=y0 (.lst xs)/\cX xs.length k=y0 j/\Q (ax H p (.lst (xs.set j v)))
def QC:oY X yA:=by
 intro b s Y H o i v F E u Q I y A rv h
 obtain⟨p,B,k,j,rfl,rfl,w,z,q⟩:=h
 cases y
 obtain⟨t,rfl⟩:=A
 obtain⟨a,n,r,d,C⟩:=I.lst w
 obtain⟨c,D,l,g⟩:=mZ z
 have f:=r.length
 have G:=Wt
 have x:Inv X b Y (ax H p (.lst (B.set j v))) { s with heap:=s.heap.update p (Obj.mapSeq (·.setIfInBounds j u)) }:=
  I.gu w d (xX a n j u) (r.set rv j) (by rw [Ac9];exact C) s.toks
 by_cases m:0<=k
 .have e:k.toNat=j:=by
   rw [seqIndex_of m g]at c
   exact Ad8.inj c
  exact PySem.W.ki_setAt d m (by omega) (by rw [Aa9,←f];exact g) (by rw [e];exact⟨_,x,q⟩)
 .have e:(k+(a.toArray.size:Int)).toNat=j:=by
   rw [seqIndex_neg (by omega) l]at c
   rw [Aa9,←f]
   exact Ad8.inj c
  exact PySem.W.ki_setBack d (by omega) (by rw [Aa9,←f];exact l) (by omega) (by rw [e];exact⟨_,x,q⟩)
def WJ (b a:Option Int) (n:Nat):(sliceBounds b a u0 n).1=((HT.aC n 0 b:Nat):Int)/\(sliceBounds b a u0 n).2.1=((HT.aC n n a:Nat):Int)/\(sliceBounds b a u0 n).2.2=1:=by
 refine⟨?_,?_,rfl⟩
 .cases b with
  | none=>simp [sliceBounds,HT.aC]
  | some i=>
   simp only [sliceBounds,HT.aC,Option.getD_none,show(1:Int)>0 by decide,if_true]
   by_cases h:i<0
   .simp only [h,if_true]<;>omega
   .simp only [h,if_false]<;>omega
 .cases a with
  | none=>simp [sliceBounds,HT.aC]
  | some i=>
   simp only [sliceBounds,HT.aC,Option.getD_none,show(1:Int)>0 by decide,if_true]
   by_cases h:i<0
   .simp only [h,if_true]<;>omega
   .simp only [h,if_false]<;>omega
def xE (a:List Value) (b c:Option Int):slicePick a.toArray b c u0=((a.drop (HT.aC a.length 0 b)).take (HT.aC a.length a.length c-HT.aC a.length 0 b)).toArray:=by
 obtain⟨f,d,e⟩:=WJ b c a.toArray.size
 unfold slicePick
 rw [f,d,e]
 simp only [sliceRange_one,pick_run,Aa9]<;>rfl
def kP (K:Aa3):V->Option Int->Option Int->Hp->VK->Prop:=λx lo hi H Q=> ∃a xs,x= .ref a/\aY K H a xs/\ ∀p,H p=u0->Q (.ref p) (ax H p (.lst (fM xs lo hi)))
def eS:eB X (kP X.K):=by
 intro i s Y H x v z w e f y Q I n m j l h
 obtain⟨a,c,rfl,p,q⟩:=h
 cases n
 obtain⟨k,r,g,t⟩:=I.list p
 have d:=r.length
 refine⟨"list",_,slot_list_getitem.lookup,g.isList.typeIs,?_⟩
 refine wpAny_getItem_list_slice g.isList m j l .none (by simp) ?_ (by rw [Aa9]<;>omega)
 rw [xE,←d]
 refine⟨.ref s.heap.objs.size,_,I.laid (t':=s.toks) (o:= .lst (fM c e f)) (λb u q=>Aa2 _ q) (Aa6 _) ?_,rfl,q _ (I.aD.fresh (Aa6 _))⟩
 exact⟨Ac0 (Zv c e f) t,_,0,(r.drop (HT.aC c.length 0 e)).take (HT.aC c.length c.length f-HT.aC c.length 0 e),Ab6 _ rfl⟩
def Xy:V->Bool
 | .ai=>k9
 | .bl _=>k9
 | .int _=>k9
 | .str _=>k9
 | _=>y9
noncomputable def eN:V->V->Bool
 | .ai,.ai=>k9
 | .bl a,.bl b=>a==b
 | .bl a,.int b=>(if a then 1 else 0)==b
 | .int a,.bl b=>a==(if b then 1 else 0)
 | .int a,.int b=>a==b
 | .str a,.str b=>a==b
 | _,_=>y9
def uS {A:Around}{s:Shared}{y x:V}{u v:Value}(e:RelV y u) (c:RelV x v) (f:Xy y=k9) (fx:Xy x=k9):SeqAt.EqAt A s u v (eN y x):=by
 cases y with
 | ai=>
  cases e
  cases x with
  | ai=>cases c;exact SeqAt.EqAt.same _
  | bl b=>cases c;exact SeqAt.EqAt.none_bool b
  | int b=>obtain⟨t,rfl⟩:=c;exact SeqAt.EqAt.none_int b t
  | str b=>obtain⟨t,rfl⟩:=c;exact SeqAt.EqAt.none_str b t
  | _=>exact absurd (show y9=k9 from fx) Aa4
 | bl a=>
  cases e
  cases x with
  | ai=>cases c;exact SeqAt.EqAt.bool_none a
  | bl b=>cases c;exact SeqAt.EqAt.bool_bool a b
  | int b=>obtain⟨t,rfl⟩:=c;exact SeqAt.EqAt.bool_int a b t
  | str b=>obtain⟨t,rfl⟩:=c;exact SeqAt.EqAt.bool_str a b t
  | _=>exact absurd (show y9=k9 from fx) Aa4
 | int a=>
  obtain⟨d,rfl⟩:=e
  cases x with
  | ai=>cases c;exact SeqAt.EqAt.int_none a d
  | bl b=>cases c;exact SeqAt.EqAt.int_bool a d b
  | int b=>obtain⟨t,rfl⟩:=c;exact SeqAt.EqAt.int_int a d b t
  | str b=>obtain⟨t,rfl⟩:=c;exact SeqAt.EqAt.int_str a d b t
  | _=>exact absurd (show y9=k9 from fx) Aa4
 | str a=>
  obtain⟨d,rfl⟩:=e
  cases x with
  | ai=>cases c;exact SeqAt.EqAt.str_none a d
  | bl b=>cases c;exact SeqAt.EqAt.str_bool a d b
  | int b=>obtain⟨t,rfl⟩:=c;exact SeqAt.EqAt.str_int a d b t
  | str b=>obtain⟨t,rfl⟩:=c;exact SeqAt.EqAt.str_str a d b t
  | _=>exact absurd (show y9=k9 from fx) Aa4
 | _=>exact absurd (show y9=k9 from f) Aa4
def dn (x:V) (u:Value):Bool:=match u with
 | .none=>eN .ai x
 | .bool b=>eN (.bl b) x
 | .int i _=>eN (.int i) x
 | .str z _=>eN (.str z) x
 | _=>y9
def nq {x y:V}{u:Value}(r:RelV y u) (f:Xy y=k9):dn x u=eN y x:=by
 cases y with
 | ai=>cases r;rfl
 | bl b=>cases r;rfl
 | int i=>obtain⟨t,rfl⟩:=r;rfl
 | str z=>obtain⟨t,rfl⟩:=r;rfl
 | _=>exact absurd (show y9=k9 from f) Aa4
theorem Zw {x:V}: ∀ {xs:List V}{us:List Value},Vals xs us->xs.all Xy=k9->us.any (dn x)=xs.any λy=>eN y x
 | _,_,.nil,_=>rfl
 | y::xs,u::us,.cons r t,f=>by
  rw [Ah2,Aa1]at f
  rw [Ae7,Ae7,nq r f.1,Zw t f.2]
theorem Jo {A:Around}{s:Shared}{x:V}{v:Value}(b:RelV x v) (fx:Xy x=k9): ∀ {xs:List V}{us:List Value},Vals xs us->xs.all Xy=k9-> ∀u∈us,SeqAt.EqAt A s u v (dn x u)
 | _,_,.nil,_=>λu a=>by cases a
 | y::xs,u::us,.cons r t,f=>λc a=>by
  rw [Ah2,Aa1]at f
  rcases Ab7.mp a with rfl | a
  .rw [nq r f.1];exact uS r b f.1 fx
  .exact Jo b fx t f.2 c a
def gF (x:V) (xs:List V):Bool:=xs.any λy=>eN y x
def o3 (K:Aa3) (neg:Bool):R2:=λx y H Q=> ∃p xs,y= .ref p/\(aY K H p xs\/bK K H p xs)/\Xy x=k9/\xs.all Xy=k9/\Q (.bl (if neg then !gF x xs else gF x xs)) H
def w9:br X (compareOp .In) (o3 X.K y9):=by
 intro f s Y H x y v u Q I e g h
 obtain⟨p,j,rfl,b,fx,fs,q⟩:=h
 cases g
 rcases b with b | b
 .obtain⟨a,r,c,i⟩:=I.list b
  refine SeqAt.in_listAt (dn x) c.isList (λw d=>Jo e fx r fs w (by simpa using d)) ⟨.bl _,H,I,rfl,?_⟩
  rw [show a.toArray.any (dn x)=a.any (dn x)by simp,Zw r fs]
  exact q
 .obtain⟨a,r,c,i⟩:=I.tuple b
  refine SeqAt.in_tupleAt (dn x) c (λw d=>Jo e fx r fs w (by simpa using d)) ⟨.bl _,H,I,rfl,?_⟩
  rw [show a.toArray.any (dn x)=a.any (dn x)by simp,Zw r fs]
  exact q
def ZF:br X (compareOp .NotIn) (o3 X.K k9):=by
 intro f s Y H x y v u Q I e g h
 obtain⟨p,j,rfl,b,fx,fs,q⟩:=h
 cases g
 rcases b with b | b
 .obtain⟨a,r,c,i⟩:=I.list b
  refine SeqAt.notIn_listAt (dn x) c.isList (λw d=>Jo e fx r fs w (by simpa using d)) ⟨.bl _,H,I,rfl,?_⟩
  rw [show a.toArray.any (dn x)=a.any (dn x)by simp,Zw r fs]
  exact q
 .obtain⟨a,r,c,i⟩:=I.tuple b
  refine SeqAt.notIn_tupleAt (dn x) c (λw d=>Jo e fx r fs w (by simpa using d)) ⟨.bl _,H,I,rfl,?_⟩
  rw [show a.toArray.any (dn x)=a.any (dn x)by simp,Zw r fs]
  exact q
def jK:br X (compareOp .NotIn) (λx y H Q=> ∃i j,x= .str i/\y= .str j/\Q (.bl (!(!(Builtin.Str.occurrences j i 0 j.length 1).isEmpty))) H):=by
 intro a s Y H x y v u Q I c b h
 obtain⟨i,j,rfl,rfl,q⟩:=h
 obtain⟨t,rfl⟩:=c
 obtain⟨d,rfl⟩:=b
 exact notIn_str ⟨.bl _,H,I,rfl,q⟩
def qL:Wn X (.builtin "len") (fun xs H Q=> ∃p ys,xs= [.ref p]/\(aY X.K H p ys\/bK X.K H p ys)/\Q (.int ys.length) H):=by
 intro f s Y H xs k Q I r h
 obtain⟨p,ys,rfl,b,q⟩:=h
 obtain⟨u,rfl,g⟩:=qN r
 cases g
 have j:=Wt
 rcases b with b | b
 .obtain⟨d,e,c,i⟩:=I.list b
  have a:=e.length
  exact Calls.call_len_list c.isList (by simp only [Aa9]<;>omega) ⟨.int ys.length,H,I.tok _,⟨s.toks+1,by rw [Aa9,a]⟩,q⟩
 .obtain⟨d,e,c,i⟩:=I.tuple b
  have a:=e.length
  exact len_tuple c (by simp only [Aa9]<;>omega) ⟨.int ys.length,H,I.tok _,⟨s.toks+1,by rw [Aa9,a]⟩,q⟩
def ZL:Wn X (.builtin "len") (fun xs H Q=> ∃z,xs= [.str z]/\z.length<=sizeLine/\Q (.int z.length) H):=by
 intro a s Y H xs d Q I r h
 obtain⟨z,rfl,b,q⟩:=h
 obtain⟨u,rfl,t,rfl⟩:=qN r
 have c:=Wt
 exact len_str (by omega) ⟨.int z.length,H,I.tok _,⟨_,rfl⟩,q⟩
def Ze:Wn X (.type "tuple") (fun xs H Q=> ∃p ys,xs= [.ref p]/\((aY X.K H p ys/\ ∀l,H l=none->Q (.ref l) (ax H l (.tup ys)))\/(bK X.K H p ys/\Q (.ref p) H))):=by
 intro a s Y H xs w Q I r h
 obtain⟨p,ys,rfl,h⟩:=h
 obtain⟨u,rfl,v⟩:=qN r
 cases v
 rcases h with⟨g,q⟩ | ⟨g,q⟩
 .obtain⟨c,i,f,m⟩:=I.list g
  have k:=i.length
  refine call_tuple_list f.isList (λd n=> ?_) (by simp only [Aa9]<;>omega)
  have j:Inv X a Y H { s with heap:=d }:=I.kept (t':=s.toks) n
  have t:Inv X a Y (ax H d.objs.size (.tup ys)) { s with heap:=d.push { cls:= .type "tuple",data:= .seq c.toArray } }:=
   j.laid (t':=s.toks) (λb o e=>Aa2 _ e) (Aa6 _) (show aI X.prog X.w _ _ _ (.tup ys)from⟨m,c,i,cA.new _ _⟩)
  exact⟨.ref d.objs.size,_,t,rfl,q _ (j.aD.fresh (Aa6 _))⟩
 .obtain⟨c,i,f,m⟩:=I.tuple g
  exact call_tuple_same f ⟨.ref p,H,I,rfl,q⟩
def oZ (K:Aa3) (T:String) (x:V) (H:Hp):Prop:=match x with
 | .str _=>T= "str"
 | .int _=>T= "int"
 | .ref p=>(T= "list" /\ ∃xs,aY K H p xs)\/(T= "tuple" /\ ∃o,K.lookup p=some o/\o.cls= .type "tuple" /\o.dict=none) ∨
  (T= "dict" /\((∃ kvs,H p=some (.dK kvs))\/ ∃kvs,H p=some (.dT kvs)))\/(T= "set" /\ ∃S n,H p=some (.set S n))
 | _=>False
def vN {d:List (Addr×Obj)}{Y:St}{H:Hp}{s:Shared}{T:String}{x:V}{v:Value}(I:Inv X d Y H s) (r:RelV x v) (ty:oZ X.K T x H):
 s.TypeIs v T/\ ∀a,v= .ref a-> ∃j,s.heap.get? a=y0 j/\j.dict=none:=by
 cases x with
 | str z=>
  obtain⟨t,rfl⟩:=r
  cases (show T= "str" from ty)
  exact⟨typeIs_str s z t,λ_ e=>nomatch e⟩
 | int i=>
  obtain⟨t,rfl⟩:=r
  cases (show T= "int" from ty)
  exact⟨typeIs_int s i t,λ_ e=>nomatch e⟩
 | ref p=>
  cases r
  rcases ty with⟨rfl,q,l⟩ | ⟨rfl,o,b,m,f⟩ | ⟨rfl,b⟩ | ⟨rfl,S,n,b⟩
  .obtain⟨k,_,h,_⟩:=I.list l
   refine⟨h.isList.typeIs,λa e=> ?_⟩
   cases e
   obtain⟨o,n,e,c,f,_⟩:=h
   exact⟨o,e,f⟩
  .refine⟨⟨o,I.bj p o b,m⟩,λa e=> ?_⟩
   cases e
   exact⟨o,I.bj _ o b,f⟩
  .have z: ∃o,s.heap.get? p=y0 o/\o.ExactDict:=by
    rcases b with⟨g,b⟩ | ⟨g,b⟩
    .obtain⟨_,_,_,_,o,_,_,e,ex,_⟩:=I.aD p _ b
     exact⟨o,e,ex⟩
    .obtain⟨_,_,_,_,o,_,_,e,ex,_⟩:=I.aD p _ b
     exact⟨o,e,ex⟩
   obtain⟨o,e,ex⟩:=z
   refine⟨⟨o,e,ex.1⟩,λa e2=> ?_⟩
   cases e2
   exact⟨o,e,ex.2.1⟩
  .obtain⟨o,_,_,_,e,ex,_⟩:=I.aD p _ b
   refine⟨⟨o,e,ex.1⟩,λa e2=> ?_⟩
   cases e2
   exact⟨o,e,ex.2.1⟩
 | _=>exact False.elim ty
def BE (K:Aa3) (T:String) (r:V->List V->Hp->VK->Prop) (a:TE) (t:TA):TE:=λY H Q=>a Y H λx H1=>oZ K T x H1/\t Y H1 λxs H2=>r x xs H2 Q
variable {o e:Expr}{es:List Expr}{to:TE}{t:TA}{name:Str}{apos u7:Pos}{T id:String}{r:V->List V->Hp->VK->Prop}
def l6 (p:PlainAttrs T) (g:Slot T name id) (i:typeOf (.builtin id)=pure (.type "method_descriptor")) (w:B1 X id r) (n:PE X o to) (B:PA X (e::es) t)
 (d:attributeBase o name X.env (eval o X.env)=eval o X.env:=by rfl)
 (f:((backTo u7 (starEach (e::es) X.env)).all (λx=> !x.1)&&(backToKw u7 (keywordEach [] X.env)).all (λx=>x.1.isSome)
   &&u9 ((e::es).length+([]:List Keyword).length+(if ([]:List Keyword).isEmpty then 0 else 1)<30))=true:=by rfl)
 (c:(apos.endLine==u7.line)=true:=by rfl) (C:starEach (e::es) X.env=(y9,eval e X.env)::starEach es X.env:=by rfl) (b:(backTo u7 (starEach es X.env)).any (·.1)=false:=by rfl):
 PE X (.Call (.Attribute o name apos) (e::es) [] u7) (BE X.K T r to t):=by
 intro a s Y H Q I h
 refine wpAny_Call_method_late d f c rfl (aE (n a s Y H _ I h) ?_)
 rintro v z ⟨x,m,l,j,ty,A⟩
 obtain⟨E,y⟩:=vN l j ty
 refine⟨T,id,p,g,i,E,y,?_⟩
 have k:=B u7 a z Y m _ l A
 rw [C]at k ⊢
 refine Calls.callWith_builtin (by show(y9||(backTo u7 (starEach es X.env)).any (·.1))=y9;rw [b]<;>rfl) (Calls.evalArgs_plain ?_)
 exact aE k λG u ⟨K,J,F,D,q⟩=>w a u Y J x K v G Q F j D q
end
def iS (X:Cx) (id:String) (r:V->List V->Hp->VK->Prop):Prop:=
 ∀(y8:List (Addr×Obj)) (s:Shared) (Y:St) (H:Hp) (x:V) (xs:List V) (v:Value) (a:List Value) (Q:VK),Inv X y8 Y H s->RelV x v->Vals xs a->r x xs H Q →
  wpAny (model X.prog X.w) X.A (call (.builtin id) (v::a)) (EP X y8 Y Q) X.xe s
def Vals.one: ∀ {x:V}{us:List Value},Vals [x] us-> ∃u,us= [u]/\RelV x u
 | _,_,.cons r .nil=>⟨_,rfl,r⟩
theorem Vals.rep {xs:List V}{us:List Value}(h:Vals xs us): ∀k:Nat,Vals (Aa k xs).flatten (Aa k us).flatten
 | 0=> .nil
 | k+1=>by
  rw [Ac3,Ac3,Ad4,Ad4]
  exact Vals.append h (Vals.rep h k)
theorem XH (b:List Value): ∀(k:Nat) (a:List Value),
 Ak8 (λx1 x2=>x1++x2) a.toArray (Aa k b.toArray)=(a++(Aa k b).flatten).toArray
 | 0,a=>by simp
 | k+1,a=>by
  have e:a.toArray++b.toArray=(a++b).toArray:=by simp
  have e2:(a++b)++(Aa k b).flatten=a++(Aa (k+1) b).flatten:=by
   rw [Ac3,Ad4,Ah6]
  rw [← e2,←XH b k (a++b),←e,Ac3,Ah1]
section
variable {X:Cx}{y8:List (Addr×Obj)}{Y:St}{H:Hp}{s:Shared}{l b:Addr}{xs ys zs:List V}
def Inv.ia {a its':List Value}{n:Nat}{f:Array Value->Array Value}{t':Nat}(I:Inv X y8 Y H s) (h:H l=y0 (.lst xs))
 (e:s.heap.get? l=y0 { cls:= .type "list",data:= .seq a.toArray n }) (c:f a.toArray=its'.toArray) (i:Vals ys its') (d:ys.length<=sizeLine):
 Inv X y8 Y (ax H l (.lst ys)) { s with heap:=s.heap.update l (Obj.mapSeq f),toks:=t' }:=by
 have q:=PySem.IsL.update e f
 rw [c]at q
 refine I.write (x:=l) (e:=l) (by rw [h];exact trivial) (.inl rfl) (λj u g b=>(Ah5 s.heap (Obj.mapSeq f) (Ne.symm g)).trans b) ⟨_,q⟩ ?_
 exact⟨d,its',_,i,q⟩
def Inv.iH {a:List Value}{t':Nat}(I:Inv X y8 Y H s) (c:Vals ys a) (b:ys.length<=sizeLine):
 Inv X y8 Y (ax H s.heap.objs.size (.lst ys)) { s with heap:=s.heap.push { cls:= .type "list",data:= .seq a.toArray },toks:=t' }:=
 I.laid (λ_ _ q=>Aa2 _ q) (Aa6 _) ⟨b,a,0,c,Ab6 _ rfl⟩
theorem Inv.fresh (I:Inv X y8 Y H s):H s.heap.objs.size=none:=I.aD.fresh (Aa6 _)
def Inv.gx (I:Inv X y8 Y H s) (b:H l=y0 (.lst xs)):xs.length<=sizeLine/\ ∃(a:List Value) (n:Nat),Vals xs a/\xs.length=a.length/\s.heap.get? l=y0 { cls:= .type "list",data:= .seq a.toArray n }:=by
 obtain⟨z,a,n,r,e⟩:=I.aD l _ b
 exact⟨z,a,n,r,r.length,e⟩
def jT {n:Nat}(h:n<=sizeLine):Builtin.List.listTooLong n=false:=by
 unfold Builtin.List.listTooLong
 exact decide_eq_false (by omega)
end
section
variable {X:Cx}
def pk:V->List V->Hp->VK->Prop:=λx a H Q=> ∃l xs y,x= .ref l/\a= [y]/\H l=y0 (.lst xs)/\xs.length<sizeLine/\Q .ai (ax H l (.lst (xs++ [y])))
def zK:iS X "list.append" pk:=by
 intro b s Y H x m v g Q I f rv h
 obtain⟨l,i,y,rfl,rfl,c,j,q⟩:=h
 cases f
 obtain⟨u,rfl,d⟩:=rv.one
 obtain⟨z,a,n,r,k,e⟩:=I.gx c
 refine call_meets F.slot_list_append ⟨_,e,rfl⟩ F.entry_list_append (F.args_list_append_2 _ _) (PySem.list_append l a.toArray n u (by rw [Aa9];omega)) ⟨e,?_⟩
 refine⟨.ai,_,I.ia (its':=a++ [u]) c e (by simp) (r.append (.cons d .nil)) ?_,rfl,q⟩
 rw [Ab5,List.length_singleton]
 omega
def BW:V->List V->Hp->VK->Prop:=λx a H Q=> ∃l b xs zs,x= .ref l/\a= [.ref b]/\H l=y0 (.lst xs)/\H b=y0 (.lst zs)/\xs.length+zs.length<=sizeLine/\Q .ai (ax H l (.lst (xs++zs)))
def AY:iS X "list.extend" BW:=by
 intro g s Y H x E v y Q I p rv h
 obtain⟨l,b,A,w,rfl,rfl,i,k,B,q⟩:=h
 cases p
 obtain⟨u,rfl,m⟩:=rv.one
 cases m
 obtain⟨z,c,n,r,D,e⟩:=I.gx i
 obtain⟨C,a,j,o,t,e2⟩:=I.gx k
 have f:c.toArray.size+a.toArray.size<=sizeLine:=by rw [Aa9,Aa9];omega
 have d: ¬(!c.toArray.isEmpty&&Builtin.List.listTooLong (c.toArray.size+a.toArray.size))=true:=by
  rw [jT f,Ak1]
  exact Aa4
 refine call_meets F.slot_list_extend ⟨_,e,rfl⟩ F.entry_list_extend (F.args_list_extend_2 _ _)
  (AutoSeq1.list_extend_list_list_0 l c.toArray n b a.toArray j d (by rw [Aa9];omega) (by omega)) ⟨e,e2,?_⟩
 refine⟨.ai,_,I.ia (its':=c++a) i e (by simp) (r.append o) ?_,rfl,q⟩
 rw [Ab5]
 omega
def tU {a:Type}(xs:List a) (k:Nat):(Aa k xs).flatten.length=k*xs.length:=by
 induction k with
 | zero=>simp
 | succ k b=>rw [Ac3,Ad4,Ab5,b,Nat.succ_mul,Nat.add_comm]
end
end L2
namespace Att
open PySem PySem.W PySem.Calls PyProof.Rows
def Wv {P:Params}{h:Heap}: ∀(ns:List Int) (vs:List Value),WellAll P h vs (ns.map WData.int)->IntsAre vs ns:=by
 intro ns
 induction ns with
 | nil=>
  intro vs w
  rw [Aj4]at w
  cases w
  exact .nil
 | cons n ns c=>
  intro vs w
  rw [Ac4]at w
  cases w with
  | cons a b=>
   cases a
   exact .cons _ _ (c _ b)
def u6 {l:OpenLaw}{n:Nat}(x:l.most=y0 n){P:Params}{h:Heap}{b:List WData}{e:List Value}
 (c:l.row.toRowW.claim.pre b=k9) (k:WellAll P h e b):
 ∃a vs ns,e= [Value.ref a]/\b= [WData.list (ns.map WData.int)]/\h.get? a=y0 { cls:= .type "list",data:= .seq vs.toArray }/\IntsAre vs ns/\ns.length<=n:=by
 have m:WShape.hasAll [] b [.list .int]=true:=(pre_splitW c).1
 have o:l.pre.holds [] { args:=b }=true:=(pre_splitW c).2
 obtain⟨d,r,rfl,w,s⟩:=hasAllW_cons m
 obtain rfl:=hasAllW_nil s
 obtain⟨z,rfl,u⟩:=hasW_list w
 obtain⟨ns,rfl⟩:=items_int u
 have g:ns.length<=n:=by
  unfold OpenLaw.pre at o
  have i:(WTm.not (.lt (.lit (.int (n:Int))) (.len (.arg 0)))).holds [] { args:= [.list (ns.map .int)] }=true:=by
   have i:=(holds_andW o).1
   rw [x]at i
   exact i
  have j:=condW_of i (w_not (w_lt w_lit (w_len_list (w_arg rfl))))
  rw [Aa0]at j
  refine Nat.le_of_not_lt λq=> ?_
  have t:(n:Int)<((ns.length:Nat):Int):=by omega
  first
   | (rw [decide_eq_true t]at j;exact absurd j (by decide))
   | (simp at j;omega)
 cases k with
 | cons y v=>
  cases v
  cases y with
  | list p f=>exact⟨_,_,ns,rfl,rfl,p,Wv ns _ f,g⟩
def yM (l:OpenLaw) (a:List WData):l.row.toRowW.claim.post a (.bool k9) a=true:=
 postW_of (r:=l.row.toRowW) (X:=(k9==k9))
  (show WShape.has [] (.bool k9) .bool=k9 by first | rfl | decide | simp [WShape.has,WShape.arms,WShape.armsAll])
  (show (WTm.eq .res (.lit (.bool k9))).value [] { args:=a,res:=y0 (.bool k9),after:=a }=y0 (.bool (k9==k9))from w_eq_bool (w_res rfl) w_lit) rfl
def c4 {l:OpenLaw}{n:Nat}{q:Program}{c:List Str}{XP:(Str->Option Value)->Heap->Prop}{A:World->Heap->Prop}{d:DefRec}
 (P:l.most=y0 n) (x:d.params.defaults= [])
 (call: ∀(w:World) (e b:Shared) (mg t:Str->Option Value) (m:Addr) (o:Obj) (s cd g:Value) (a:Addr) (vs:List Value) (ns:List Int),
   Ground q c [] XP w e mg t b.heap->A w b.heap →
   b.heap.get? m=y0 o->o.data= .func (docDef d.name d.params d.body d.scope s cd g)->b.heap.CodeRec cd d.name->mg d.name=y0 (.ref m) →
   b.heap.get? a=y0 { cls:= .type "list",data:= .seq vs.toArray }->IntsAre vs ns->ns.length<=n->b.gens= #[] →
   codeAny (model l.prog w) callerA (.call (.ref m) ⟨[.ref a],[]⟩) (λr s'=>r= .ok (.ret (.bool k9))/\OldK b.heap s'.heap/\s'.os=b.os/\AllBare s'.gens) b):
 WalkO q c XP A l.row.toRowW d [] (λf vs=>PySem.call f vs):=by
 intro w e b mg t G Y m o s cd g M kV F K p y v D z C Q k B O u N
 obtain rfl:M= .none:=Dflts.none y x
 obtain rfl:kV= .none:=Dflts.noKw y
 obtain⟨a,vs,ns,rfl,rfl,i,h,j⟩:=u6 P k u
 refine enter_call (codeAny_mono (call w e b mg t m o s cd g a vs ns G Y F (fd_plain K) p v i h j D) λr s' L=> ?_)
 obtain⟨rfl,I,J,E⟩:=L
 exact⟨.inl ⟨.bool k9,.bool k9,[],rfl,λ_=>rfl,.bool k9,yM l _,λ_=>⟨List.Pairwise.nil,λ_ H=>(nomatch H)⟩⟩,I,J,E⟩
end Att
namespace L2
open PySem PySem.Spec PyProof.Rows
theorem wJ: ∀ {vs:List Value}{ns:List Int},IntsAre vs ns->Vals (ns.map V.int) vs
 | _,_,.nil=> .nil
 | _,_,.cons n t h=> .cons ⟨t,rfl⟩ (wJ h)
def mv (H:Hp):Prop:= ∀b,H b=u0\/ ∃o xs,H b=y0 (.di o (.lst xs))
def sG {P:Program}{w:World}{K:Aa3}{mg I:Str->Option Value}{CX:dW}{k:Nat}{R a:Addr}{T:FuncData}{x:Str}{sp:Sp}{c:Shared}{vs:List Value}{ns:List Int}
 (S:K.In c.heap) (C:c.heap.Ns mainGlobals mg) (hb:c.heap.Ns builtinsNs I) (O: ∀x:Str,x≠ "__name__" ->I x=bootBuiltins x) (D:c.heap.NoLimit) (hg:c.gens= #[])
 (G:c.heap.get? a=y0 { cls:= .type "list",data:= .seq vs.toArray }) (W:IntsAre vs ns) (X:ns.length<=sizeLine) (hr:aR k callerA)
 (F: ∀base:Heap,K.In base->base.Ns mainGlobals mg->aW P w K mg base CX k R T [x] sp) (i: ∀(s:Shared) (u:Value),BindsTo s T ⟨[u],[]⟩ [(x,u)])
 (N: ∀H:Hp,mv H->aY K H a (ns.map V.int)->sp [.ref a] H (λv _=>v= .bl k9) λ_ _ _=>False)
 (Q: ∀H e s',CX [] H c (λ_ _ _=>False) e s'->False):
 codeAny (model P w) callerA (.call (.ref R) ⟨[.ref a],[]⟩) (λr s'=>r= .ok (.ret (.bool k9))/\OldK c.heap s'.heap/\s'.os=c.os/\AllBare s'.gens) c:=by
 have rv:=wJ W
 have B:=W.length
 have g: ∀H:Hp,mv H->aY K H a (ns.map V.int)->cj P w H c.heap->(∀ b,H b≠u0->b=a)->(H a≠u0->K.lookup a=u0) →
  codeAny (model P w) callerA (.call (.ref R) ⟨[.ref a],[]⟩) (λr s'=>r= .ok (.ret (.bool k9))/\OldK c.heap s'.heap/\s'.os=c.os/\AllBare s'.gens) c:=by
  intro H Y Z y U hK
  have bX: ∀ {b:Addr}{o:Obj},c.heap.get? b=y0 o->H b=u0->(fb c.heap H).get? b=y0 o:=λe n=>yD e n
  have L: ∀ {b:Addr}{o:Obj}{E:Array DictEntry}{t:Nat},c.heap.get? b=y0 o->o.data= .dict E t->H b=none:=λ{b o E t} e d=>by
   cases q:H b with
   | none=>rfl
   | some u=>
    have M:b=a:=U b (by rw [q];simp)
    subst M
    rw [G]at e;cases e
    have d':Data.seq vs.toArray _=Data.dict E t:=d
    cases d'
  have f: ∀ {b:Addr}{m:Str->Option Value},c.heap.Ns b m->(fb c.heap H).Ns b m:=λ{b m} ⟨o,E,t,e,d,r⟩=>⟨o,E,t,bX e (L e d),d,r⟩
  have p:K.In (fb c.heap H):=λb o e=>bX (S b o e) (by
   cases q:H b with
   | none=>rfl
   | some u=>
    have M:b=a:=U b (by rw [q];simp)
    subst M
    rw [hK (by rw [q];simp)]at e;cases e)
  have hM:Mod K mg (fb c.heap H):=⟨p,f C,⟨I,f hb,O⟩,let ⟨mc,h1,h2⟩:=D; ⟨mc,f h1,h2⟩⟩
  have e0:dr P w K mg (fb c.heap H) callerA [] c H:=⟨rfl,hM,λb o e=>yP e,Al1 (rT _ _),trivial,λb hb=>absurd (show b∈([]:List Addr)from hb) (by simp),y,.of_eq hg⟩
  refine codeAny_mono ((F _ p (f C)).run callerA [] c H ⟨[.ref a],[]⟩ [.ref a] [.ref a] _ _ hr e0 (i c (.ref a)) (.cons rfl .nil) (N H Y Z)) λr s' h=> ?_
  cases r with
  | error e=>exact(Q H e s' h).elim
  | ok fl=>
   cases fl with
   | next=>exact False.elim h
   | brk=>exact False.elim h
   | cont=>exact False.elim h
   | ret u=>
    obtain⟨v,H',os,j,un,l,r',q⟩:=h
    have q':v= .bl true:=q
    subst q'
    obtain rfl:u=Value.bool true:=r'
    refine⟨rfl,OldK.of_keep λb o e=> ?_,os,j⟩
    cases q:H b with
    | none=>exact un.keep b o e q (by intro z;exact absurd (show b∈([]:List Addr)from z) (by simp)) (by simp)
    | some u=>
     rcases Y b with z | ⟨ob,xs,z⟩
     .rw [q]at z;cases z
     .have z2:=un.bT b ob _ z
      obtain⟨e1,_⟩:=y b _ z
      obtain⟨e2,_⟩:=l b _ z2
      rw [e]at e1;cases e1
      exact e2
 cases J:K.lookup a with
 | some o=>
  have e:=S a o J
  rw [G]at e
  cases e
  refine g (λ_=>u0) (λ_=> .inl rfl) (.inr ⟨_,vs.toArray,_,J,rfl,rfl,rfl,by rw [Aa9,B];exact X,by simpa using rv⟩) (λb u z=>by have A:(none:Option HO)=y0 u:=z;cases A) (λb z=>absurd rfl z) λz=>absurd rfl z
 | none=>
  refine g (fun b=>if b=a then some (.di { cls:= .type "list",data:= .seq vs.toArray } (.lst (ns.map V.int)))else none) (fun b=> ?_) (.inl (.inr ⟨{ cls:= .type "list",data:= .seq vs.toArray },if_pos rfl⟩)) (fun b u z=> ?_) (fun b z=> ?_) fun _=>J
  .by_cases hb:b=a
   .exact .inr ⟨_,_,if_pos hb⟩
   .exact .inl (if_neg hb)
  .by_cases hb:b=a
   .have A:=(if_pos hb).symm.trans z
    cases A
    subst hb
    exact⟨G,by rw [Aa0];exact X,vs,_,rv,G⟩
   .have A:=(if_neg hb).symm.trans z
    cases A
  .by_cases hb:b=a
   .exact hb
   .exact absurd (if_neg hb) z
abbrev CG {K:Aa3}{h:Heap}(_:K.In h):Aa3:=K
def fi {l:PySem.W.OpenLaw}{n k:Nat}{q:Program}{c:List Str}{XP:(Str->Option Value)->Heap->Prop}{B:World->Heap->Prop}{d:DefRec}{K:Params->Aa3}{CX:World->dW}{sp:World->Sp}{x:Str}
 (N:l.most=y0 n) (t:n<=sizeLine) (z:d.params.defaults= []) (Q:aR k callerA)
 (L: ∀(w:World) (h:Heap),B w h->(K w.params).In h)
 (F: ∀(w:World) (mg:Str->Option Value) (m:Addr) (h:Heap),(K w.params).In h->h.Ns mainGlobals mg->mg d.name=y0 (.ref m) →
   ∃fd:FuncData,(∀ (s:Shared) (u:Value),BindsTo s fd ⟨[u],[]⟩ [(x,u)]) ∧
    ∀base:Heap,(K w.params).In base->base.Ns mainGlobals mg->aW l.prog w (K w.params) mg base (CX w) k m fd [x] (sp w))
 (r: ∀(w:World) (H:Hp) (a:Addr) (ns:List Int),ns.length<=n->mv H->aY (K w.params) H a (ns.map V.int)->sp w [.ref a] H (λv _=>v= .bl k9) λ_ _ _=>False)
 (p: ∀(w:World) (H:Hp) (s:Shared) (e:Value) (s':Shared),CX w [] H s (λ_ _ _=>False) e s'->False):
 PySem.W.WalkO q c XP B l.row.toRowW d [] (λf vs=>PySem.call f vs):=by
 refine Att.c4 N z λw C j mg U m o T cd O a vs ns G Y R S J y i g b D=> ?_
 have A:=L w _ Y
 obtain⟨fd,I,M⟩:=F w mg m _ A G.T.g y
 exact sG A G.T.g G.T.b G.T.builtins G.T.nolimit D i g (Ac0 b t) Q M I (λH P E=>r w H a ns b P E) λH e s'=>p w H j e s'
noncomputable def Cn (s:Stmt):Arguments:=match s with
 | .FunctionDef _ a _ _ _ _ _ _ _ _=>a
 | _=> { posonlyargs:= [],args:= [],vararg:=u0,kwonlyargs:= [],kw_defaults:= [],kwarg:=u0,defaults:= [] }
def Ju (s:Stmt):List Stmt:=match s with
 | .FunctionDef _ _ b _ _ _ _ _ _ _=>b
 | _=> []
noncomputable def jf (s:Stmt):Scope:=match s with
 | .FunctionDef _ _ _ _ _ _ a _ _ _=>a
 | _=> { kind:= .function,names:= [],isGenerator:=y9,isCoroutine:=y9 }
abbrev gS:dW:=λ_ _ _ _ _ _=>False
abbrev E0:XK:=λ_ _ _=>False
structure gK (K:Aa3) (x k7:Str) (st:Stmt) (f:Addr) (fd:FuncData):Prop where
 ex: ∃(oc:Value) (od:Option Addr) (kV doc pm:Value) (an:Option Addr) (cdv ct:Value) (osl:Array (Option Value)),
  fd=PySem.W.fnOf x k7 (Cn st) (Ju st) (jf st) .none kV doc pm an cdv ct/\K.lookup f=y0 ⟨oc,od,.func fd,osl⟩/\PySem.W.codeIn K cdv k7=k9
 kp:Ae3 K (.ref f)=k9
def Zh {n:Nat}(h:n<=1000):n<sizeLine:=Nat.lt_of_le_of_lt h (by decide)
section
variable {X:Cx}
def pv (i:Nat){x:Str}{pos:Pos}(c:X.N[i]? =some x:=by rfl) (d:gw X.env.scope x:=by first | exact Or.inl rfl | exact Or.inr (Or.inl rfl) | exact Or.inr (Or.inr rfl)) (b:(x==("__debug__" :Str))=false:=by decide)
 (a:(x==("__classdict__" :Str))=false:=by decide):PE X (.Name x pos) (kb i):=jo c d b a
end
def kQ {A B:Prop}(h:B):if y9=k9 then A else B:=by
 rw [if_neg Aa4]
 exact h
def kH {A B:Prop}(h:A):if k9=k9 then A else B:=by
 rw [if_pos rfl]
 exact h
end L2
set_option maxHeartbeats 4000000
namespace L2
open PySem PySem.Spec PyProof.Rows
noncomputable def wd (env:Env) (a:List (Str×Addr)) (y:Str×NameKind):List (Str×Addr):=
 if y.2== .free then(match env.cells.lookup y.1 with | some c=>(y.1,c)::a | none=>a)else a
def Jp (a:Scope) (env:Env):List (Str×Addr):=a.names.foldl (wd env) []
theorem oB {env:Env}: ∀(b:List (Str×NameKind)) (a:List (Str×Addr)),(∀ y∈b,y.2= .free-> ∃c,env.cells.lookup y.1=y0 c) →
 (do
   let mut i:=a
   for (name,kind) in b do
    if kind== .free then i:=(name,←cellOf env name)::i
   return i:Sem (List (Str×Addr)))=pure (b.foldl (wd env) a)
 | [],a,_=>by simp
 | (n,k)::r,a,h=>by
  have g:=λi=>oB (env:=env) r i λy l=>h y (Aa5 _ l)
  by_cases f:k= .free
  .subst f
   obtain⟨c,d⟩:=h (n,.free) Aa8 rfl
   have d:env.cells.lookup n=y0 c:=d
   have e:wd env a (n,.free)=(n,c)::a:=by
    show(if (NameKind.free==NameKind.free)=k9 then(match env.cells.lookup n with | some c=>(n,c)::a | none=>a)else a)=_
    rw [if_pos (show (NameKind.free==NameKind.free)=k9 from rfl),d]
   rw [Ah1,e,←g]
   simp [List.forIn_cons,cellOf,d]
  .have j:(k==NameKind.free)=false:=by simpa using f
   have e:wd env a (n,k)=a:=by
    show(if (k==NameKind.free)=k9 then _ else a)=_
    rw [j,if_neg Aa4]
   rw [Ah1,e,←g]
   simp [List.forIn_cons,f]
def WD {a:Scope}{env:Env}(h: ∀y∈a.names,y.2= .free-> ∃c,env.cells.lookup y.1=y0 c):closureFor a env=pure (Jp a env):=
 oB a.names [] h
theorem jy {env:Env}: ∀(a:List (Str×NameKind)) (b:List (Str×Addr)),(∀ x c,b.lookup x=y0 c->env.cells.lookup x=y0 c)-> ∀x c,(a.foldl (wd env) b).lookup x=y0 c->env.cells.lookup x=y0 c
 | [],_,h=>h
 | (n,k)::r,b,h=>by
  refine jy r (wd env b (n,k)) λx c e=> ?_
  unfold wd at e
  split at e
  .split at e
   .rename_i g f
    rw [Ac]at e
    cases d:x==n with
    | true=>
     rw [d]at e
     have:x=n:=by simpa using d
     subst this
     cases e
     exact f
    | false=>rw [d]at e;exact h x c e
   .exact h x c e
  .exact h x c e
theorem zL {env:Env}{x:Str}{c:Addr}(f:env.cells.lookup x=y0 c): ∀(a:List (Str×NameKind)) (b:List (Str×Addr)),((x,.free)∈a\/ ∃i,b.lookup x=y0 i)-> ∃i,(a.foldl (wd env) b).lookup x=y0 i
 | [],b,h=>h.elim (λz=>absurd z (by simp)) id
 | (n,k)::r,b,h=>by
  refine zL f r (wd env b (n,k)) ?_
  have d:(∃ i,b.lookup x=y0 i)-> ∃i,(wd env b (n,k)).lookup x=y0 i:=by
   rintro ⟨i,e⟩
   unfold wd
   split
   .split
    .rw [Ac]
     cases x==n with
     | true=>exact⟨_,rfl⟩
     | false=>exact⟨i,e⟩
    .exact⟨i,e⟩
   .exact⟨i,e⟩
  rcases h with h | h
  .rcases Ab7.mp h with h | h
   .cases h
    refine .inr ⟨c,?_⟩
    show Af4 x (if (NameKind.free==NameKind.free)=k9 then(match env.cells.lookup x with | some c=>(x,c)::b | none=>b)else b)=_
    rw [if_pos (show (NameKind.free==NameKind.free)=k9 from rfl),f]
    simp
   .exact .inl h
  .exact .inr (d h)
def xI {prog:Program}{w:World}{A:Around}{p tg d:Expr}{o:List Expr}{b:Scope}{pos:Pos}{it k:Value}{env:Env}{R:Result->Shared->Prop}{s:Shared}(I:Nat->Shared->Prop)
 (u: ∀n s,I n s->wpAny (model prog w) A (pyNext it) (λr L=>match r with
   | none=>R (.ok .next) L
   | some v=>wpAny (model prog w) A (letOwnedTupleGo tg it v) (λ_ j=>wpAny (model prog w) A (assign tg env v) (λ_ V=>
    wpAny (model prog w) A (forIn o k9 λc r=>if r=k9 then do let ok ←isTrue c env (eval c env);pure (ForInStep.yield ok)else pure (ForInStep.yield r)) (λok i=>
     if ok=k9 then wpAny (model prog w) A (eval p env) (λx M=>
      wpAny (model prog w) A (call (.builtin "list.append") [k,x]) (fun _ O=> ∃m,m<n/\I m O) (notedBy (model prog w) A env fun e s'=>R (.error e) s') M) (notedBy (model prog w) A env fun e s'=>R (.error e) s') i
     else ∃m,m<n/\I m i) (notedBy (model prog w) A env λe s'=>R (.error e) s') V) (notedBy (model prog w) A env λe s'=>R (.error e) s') j) (notedBy (model prog w) A env λe s'=>R (.error e) s') L) (notedBy (model prog w) A env λe s'=>R (.error e) s') s)
 (n:Nat) (h:I n s):codeAny (model prog w) A (.compLoop (.ListComp p [⟨tg,d,o,0⟩] b pos) 0 it k env) R s:=by
 refine codeAny_loop rfl I (λn s z=> ?_) n h
 show wpAny _ A ((compTurn (.ListComp p [⟨tg,d,o,0⟩] b pos) 0 it k env).onRaise (λx=>do noteFrame x env;theTreesLotGoes x)) _ _ s
 refine wpAny_noted ?_
 rw [compTurn_list]
 refine wpAny_bind (wpAny_standAt (wpAny_bind (wpAny_mono (u n s z) (λr L g=> ?_) λ_ _ a=>a)))
 cases r with
 | none=>exact wpAny_pure g
 | some v=>
  refine wpAny_bind (wpAny_mono g (λ_ j l=> ?_) λ_ _ a=>a)
  refine wpAny_bind (wpAny_mono l (λ_ V y=>wpAny_bind (wpAny_mono y (λok i f=> ?_) λ_ _ a=>a)) λ_ _ a=>a)
  cases ok with
  | false=>exact wpAny_pure ⟨rfl,f⟩
  | true=>
   exact wpAny_bind (wpAny_bind (wpAny_mono f (λx M q=>wpAny_bind (wpAny_mono q (λ_ O t=>wpAny_pure (wpAny_pure ⟨rfl,t⟩)) λ_ _ a=>a)) λ_ _ a=>a))
theorem wP {x:Str}: ∀(a:List (Str×NameKind)) (n:Nat) (b:List (Str×Addr)),(x,NameKind.cell)∉a->(cellsFrom n a b).lookup x=b.lookup x
 | [],_,_,_=>rfl
 | (y,k)::r,n,b,h=>by
  unfold cellsFrom
  split
  .rename_i c
   have c:k= .cell:=by simpa using c
   subst c
   rw [wP r (n+1) _ λz=>h (Aa5 _ z),Ac]
   cases d:x==y with
   | true=>
    have:x=y:=by simpa using d
    subst this
    exact absurd Aa8 h
   | false=>rfl
  .exact wP r n b λz=>h (Aa5 _ z)
theorem zO {x:Str}{c:Addr}: ∀(a:List (Str×NameKind)) (h:Heap) (d:List (Str×Addr)) (f:Prop),(d.lookup x=y0 c->f\/(h.IsCell c u0/\(x,NameKind.cell)∈a\/h.IsCell c u0/\f))-> ∀lo,lo<=h.objs.size →
 (cellsFrom h.objs.size a d).lookup x=y0 c->d.lookup x=y0 c\/(lo<=c/\(x,NameKind.cell)∈a/\(pushCells h a).IsCell c u0)
 | [],_,_,_,_,_,_,e=> .inl e
 | (y,k)::r,h,d,f,p,lo,i,e=>by
  unfold cellsFrom at e
  unfold pushCells
  split at e
  .rename_i g
   rw [if_pos g]
   have g:k= .cell:=by simpa using g
   subst g
   have e:(cellsFrom (h.push { cls:= .type "cell",data:= .cell none }).objs.size r ((y,h.objs.size)::d)).lookup x=some c:=by rw [Heap.size_push];exact e
   rcases zO r (h.push { cls:= .type "cell",data:= .cell none }) _ True (fun _=> .inl trivial) lo (by rw [Heap.size_push];omega) e with q | ⟨m,l,j⟩
   .rw [Ac]at q
    cases n:x==y with
    | true=>
     rw [n]at q
     have:x=y:=by simpa using n
     subst this
     cases q
     exact .inr ⟨i,List.mem_cons_self,(show (h.push { cls:= .type "cell",data:= .cell none }).IsCell h.objs.size none from⟨_,Heap.get?_push_size _ rfl,rfl⟩).keeps fun b o e=>pushCells_keeps r _ b o e⟩
    | false=>
     rw [n]at q
     exact .inl q
   .exact .inr ⟨m,Aa5 _ l,j⟩
  .rename_i g
   rw [if_neg g]
   rcases zO r h d True (λ_=> .inl trivial) lo i e with q | ⟨m,l,j⟩
   .exact .inl q
   .exact .inr ⟨m,Aa5 _ l,j⟩
theorem X8: ∀(b:List (Str×NameKind)) (n:Nat) (a:List (Str×Addr)),(∀ x c,a.lookup x=y0 c->c<n)->(∀ x y c,a.lookup x=y0 c->a.lookup y=y0 c->x=y) →
 ∀x y c,(cellsFrom n b a).lookup x=y0 c->(cellsFrom n b a).lookup y=y0 c->x=y
 | [],_,_,_,d=>d
 | (z,k)::r,n,a,f,d=>by
  unfold cellsFrom
  split
  .have look: ∀x c,((z,n)::a).lookup x=y0 c->(x=z/\c=n)\/(a.lookup x=y0 c):=λx c e=>by
    rw [Ac]at e
    cases g:x==z with
    | true=>
     rw [g]at e
     cases e
     exact .inl ⟨by simpa using g,rfl⟩
    | false=>
     rw [g]at e
     exact .inr e
   refine X8 r (n+1) _ (λx c e=> ?_) λx y c e1 e2=> ?_
   .rcases look x c e with⟨_,q⟩ | q
    .exact q▸Ae6 n
    .exact Nat.lt_succ_of_lt (f x c q)
   .rcases look x c e1 with⟨i,l⟩ | p<;>rcases look y c e2 with⟨j,h⟩ | q
    .rw [i,j]
    .exact absurd (l▸f y c q) (Af6 _)
    .exact absurd (h▸f x c p) (Af6 _)
    .exact d x y c p q
  .exact X8 r n a f d
theorem jB {env:Env}{x:Str}{c:Addr}: ∀(a:List (Str×NameKind)) (b:List (Str×Addr)),(a.foldl (wd env) b).lookup x=y0 c->b.lookup x=y0 c\/(x,NameKind.free)∈a
 | [],_,h=> .inl h
 | (y,k)::r,b,h=>by
  rw [Ah1]at h
  rcases jB r _ h with q | q
  .unfold wd at q
   split at q
   .rename_i d
    have d:k= .free:=by simpa using d
    subst d
    split at q
    .rw [Ac]at q
     cases e:x==y with
     | true=>
      have:x=y:=by simpa using e
      subst this
      exact .inr Aa8
     | false=>
      rw [e]at q
      exact .inl q
    .exact .inl q
   .exact .inl q
  .exact .inr (Aa5 _ q)
theorem qK {env:Env}: ∀ {b:List (Str×NameKind)}{x:Str},
 ((b.map λ(n,k)=>if(k==NameKind.free&&env.scope.kind== .function&&env.kindOf n==y0 .cell)then(n,NameKind.cell)else(n,k)).lookup x=y0 .cell ∨
   (b.map λ(n,k)=>if(k==NameKind.free&&env.scope.kind== .function&&env.kindOf n==y0 .cell)then(n,NameKind.cell)else(n,k)).lookup x=y0 .free)->(x,.free)∈b\/(x,.cell)∈b
 | [],_,h=>by simp at h
 | (n,k)::r,x,h=>by
  have e:= @qK env r x
  rw [Ac4]at h
  by_cases a:(k==NameKind.free&&env.scope.kind== .function&&env.kindOf n==y0 .cell)=k9
  .have f:k= .free:=by
    rw [Aa1,Aa1]at a
    simpa using a.1.1
   subst f
   simp only [a,if_true,Ac]at h
   cases c:x==n with
   | true=>
    have:x=n:=by simpa using c
    subst this
    exact .inl Aa8
   | false=>
    rw [c]at h
    exact(e h).imp (Aa5 _) (Aa5 _)
  .have d:=Ah7.mpr a
   simp only [d,Ad5,if_false,Ac]at h
   cases c:x==n with
   | true=>
    have:x=n:=by simpa using c
    subst this
    rw [c]at h
    rcases h with h | h
    .have:k= .cell:=by simpa using h
     subst this
     exact .inr Aa8
    .have:k= .free:=by simpa using h
     subst this
     exact .inl Aa8
   | false=>
    rw [c]at h
    exact(e (by simpa using h)).imp (Aa5 _) (Aa5 _)
theorem nO: ∀ {a:List (Str×NameKind)}{x:Str}{k c:NameKind},(a.map Prod.fst).Nodup->(x,k)∈a->(x,c)∈a->k=c
 | (y,j)::r,x,k,c,b,e,d=>by
  rw [Ac4,Af8]at b
  rcases Ab7.mp e with e1 | e1<;>rcases Ab7.mp d with e2 | e2
  .cases e1;cases e2;rfl
  .cases e1;exact absurd (Af1.mpr ⟨_,e2,rfl⟩) b.1
  .cases e2;exact absurd (Af1.mpr ⟨_,e1,rfl⟩) b.1
  .exact nO b.2 e1 e2
theorem qM: ∀ {a:List (Str×NameKind)}{x:Str}{k:NameKind},(a.map Prod.fst).Nodup->(x,k)∈a->a.lookup x=y0 k
 | (y,j)::r,x,k,b,h=>by
  rw [Ac4,Af8]at b
  rw [Ac]
  rcases Ab7.mp h with e | e
  .cases e;simp
  .have:(x==y)=false:=by
    cases c:x==y with
    | false=>rfl
    | true=>
     have:x=y:=by simpa using c
     subst this
     exact absurd (Af1.mpr ⟨_,e,rfl⟩) b.1
   rw [this]
   exact qM b.2 e
def fV (a:Scope) (C:Addr) (env:Env):List (Str×Addr):=cellsFrom (C+1) a.names (Jp a env)
def Qp {M:Model}{A:Around}{E:Value->Shared->Prop}{s:Shared}{a:Scope}{b:Addr}{g:List (Str×Addr)}{c:Str}{env:Env}{Q:Env->Shared->Prop}
 (h:Q (newEnv a s.heap.objs.size b (cellsFrom (s.heap.objs.size+1) a.names g) c u0 .none (y0 env) builtinsNs) { s with heap:=pushCells (s.heap.push { cls:= .type "dict",data:= .dict #[] }) a.names }):
 wpAny M A (newFunctionEnv a b g [] c u0 .none (y0 env)) Q E s:=by
 simp only [newFunctionEnv,Option.isSome_some,if_true]
 refine wpAny_bind (wpAny_alloc ?_)
 refine wpAny_bind (wpAny_layCells _ (λname d e=>by cases f:d==NameKind.cell<;>simp [f]) _ _ _ _ ?_)
 rw [show ({ s with heap:=s.heap.push { cls:= .type "dict",data:= .dict #[] } }:Shared).heap.objs.size=s.heap.objs.size+1 from Heap.size_push ..]
 refine wpAny_bind ?_
 rw [List.forIn_nil]
 exact wpAny_pure (wpAny_pure h)
noncomputable def xc (X:Cx) (N:List Str) (a:Scope) (C:Addr) (b:List Addr) (s:Shared) (H:Hp):Cx where
 prog:=X.prog
 w:=X.w
 K:=X.K
 mg:=X.mg
 base:=X.base
 A:=X.A
 N:=N
 s₀:=s
 H₀:=H
 env:=compEnvC a (fV a C X.env) C X.env
 outer:=X.stack
 stack:=X.stack
 ex:=b
 fn:=λx=>u9 (a.names.lookup x=y0 .cell)
 calm:=X.calm
 pn:= []
 xe:=λ_ _=>False
def bW (X:Cx):List Nat->List Str->Prop
 | [],[]=>True
 | j::a,x::xs=>X.N[j]? =y0 x/\(X.env.kindOf x=y0 .cell\/X.env.kindOf x=y0 .free)/\bW X a xs
 | _,_=>False
theorem bW.get {X:Cx}{Y:St}: ∀ {a:List Nat}{xs:List Str}{i:Nat}{x:Str}{v:V},bW X a xs->xs[i]? =y0 x->(a.map λ(j:Nat)=>(Y[j]?).join)[i]? =y0 (y0 v) →
 ∃j:Nat,X.N[j]? =y0 x/\Y[j]? =y0 (y0 v)/\(X.env.kindOf x=y0 .cell\/X.env.kindOf x=y0 .free)
 | [],[],_,_,_,_,e,_=>by simp at e
 | [],_::_,_,_,_,h,_,_=>h.elim
 | _::_,[],_,_,_,h,_,_=>h.elim
 | j::f,d::xs,0,x,v,h,e1,e2=>by
  obtain⟨c,b,_⟩:=h
  simp at e1
  subst e1
  refine⟨j,c,?_,b⟩
  have e2:y0 ((Y[j]?).join)=y0 (y0 v):=by simpa using e2
  have e2:(Y[j]?).join=y0 v:=Ad8.inj e2
  cases q:Y[j]? with
  | none=>rw [q]at e2;cases e2
  | some z=>rw [q]at e2;have:z=y0 v:=e2;rw [this]
 | j::f,d::xs,i+1,x,v,h,e1,e2=>bW.get (i:=i) h.2.2 (by simpa using e1) (by simpa using e2)
theorem bW.length {X:Cx}: ∀ {a:List Nat}{xs:List Str},bW X a xs->a.length=xs.length
 | [],[],_=>rfl
 | [],_::_,h=>h.elim
 | _::_,[],h=>h.elim
 | _::_,_::_,h=>congrArg (· +1) (bW.length h.2.2)
def X2 (k:Nat) (a:List Nat) (Y:St):St:=Aa k u0++a.map λ(j:Nat)=>(Y[j]?).join
def fg (X:Cx) (a:List Expr) (t:TT):Prop:=
 ∀(y8:List (Addr×Obj)) (s:Shared) (Y:St) (H:Hp) (Q:Bool->Hp->Prop),Inv X y8 Y H s->t Y H Q →
  wpAny (model X.prog X.w) X.A (forIn a k9 λc r=>if r=k9 then do let ok ←isTrue c X.env (eval c X.env);pure (ForInStep.yield ok)else pure (ForInStep.yield r)) (TP X y8 Y Q) X.xe s
def r6:TT:=λ_ H Q=>Q k9 H
def o7 {X:Cx}:fg X [] r6:=λ_ _ _ H _ I h=>wpAny_tests_nil ⟨H,I,h⟩
def J3 {X:Cx}{c:Expr}{t:TT}(h:PT X c t):fg X [c] t:=λa s Y H Q I b=>wpAny_tests_one (h a s Y H Q I b)
def Bc (J:It) (g:TG) (n:TT) (k:TE) (l:St) (h:Hp) (Q:VK):Prop:= ∃W:Nat->Nat->List V->St->Hp->Prop,(∃ m,W 0 m [] l h)/\ ∀i m ys U H,W i m ys U H →
 (J.stop i H/\ys.length<=sizeLine/\ ∀D,H D=u0->Q (.ref D) (ax H D (.lst ys))) ∨
 (J.go i H/\ys.length<sizeLine/\ ∃N:List V->St->Hp->Prop,(∀ a d H',N a d H'-> ∃f,f<m/\W (i+1) f a d H') ∧
   ∀x H',J.dH i H x H'->g x U H' λc H2=>n c H2 λb e=>if b=k9 then k c e λy j=>N (ys++ [y]) c j else N ys c e)
abbrev gN (a:Type):=Addr->List Addr->Shared->Hp->a
def iY (k:Nat) (a:List Nat) (b:TI) (g:gN TG) (c:gN TT) (d:gN TE):TE:=λY H Q=>b Y H λJ H1=> ∀C fp s,Bc J (g C fp s H1) (c C fp s H1) (d C fp s H1) (X2 k a Y) H1 Q
def Inv.adopt {X:Cx}{a:List (Addr×Obj)}{Y:St}{H:Hp}{s:Shared}{D:Addr}{g:List V}{d:List Value}{n:Nat}(I:Inv X a Y H s) (w:zX X a H D) (B:X.s₀.heap.objs.size<=D)
 (e:s.heap.get? D=y0 { cls:= .type "list",data:= .seq d.toArray n }) (r:Vals g d) (J:g.length<=sizeLine):Inv X a Y (ax H D (.lst g)) s:=by
 obtain⟨A,C,K,L,m,F⟩:=w
 have f: ∀b o,H b=y0 o->ax H D (.lst g) b=y0 o:=λb o q=>by rw [qa (ja q A)];exact q
 have h: ∀b o,X.s₀.heap.get? b=y0 o->b≠D:=λb o q z=>by rw [z]at q;exact absurd (Ab3 (Ab1 q) B) (Af6 _)
 refine⟨I.ok,I.os,I.bare,⟨I.base.keep,I.base.slot,λb o i y G=> ?_,I.base.there,λb l q=>f b _ (I.base.b3 b l q),λb o u q=>f b _ (I.base.bT b o u q),λb E q=> ?_⟩,I.loc,I.cell,?_,λx c q=> ?_,λp k=> ?_,λb u q=> ?_,I.len⟩
 .rw [qa (h b o i)];exact I.base.free b o i y G
 .obtain⟨more,v⟩:=I.base.b9 b E q
  exact⟨more,f b _ v⟩
 .rw [qa (Ne.symm C)];exact I.free
 .rw [qa (m x c q)];exact I.aZ x c q
 .obtain⟨t,a2,a3⟩:=I.pin p k
  exact⟨t,by rw [qa (F p k)];exact a2,a3⟩
 .by_cases j:b=D
  .subst j
   rw [Qa]at q
   cases q
   exact⟨J,d,n,r,e⟩
  .rw [qa j]at q
   exact(I.aD b u q).b8 (λ_ _ _ z=>z) (λc z=>f c _ z) λc l z=>f c _ z
theorem Qg {env:Env}: ∀ {b:List (Str×NameKind)}{x:Str},b.lookup x=y0 .free →
 ((b.map λ(n,k)=>if(k==NameKind.free&&env.scope.kind== .function&&env.kindOf n==y0 .cell)then(n,NameKind.cell)else(n,k)).lookup x=y0 .cell ∨
   (b.map λ(n,k)=>if(k==NameKind.free&&env.scope.kind== .function&&env.kindOf n==y0 .cell)then(n,NameKind.cell)else(n,k)).lookup x=y0 .free)
 | [],_,h=>by simp at h
 | (n,k)::r,x,h=>by
  have f:= @Qg env r x
  rw [Ac4]
  rw [Ac]at h
  cases d:x==n with
  | true=>
   rw [d]at h
   have e:k= .free:=by simpa using h
   subst e
   by_cases a:(NameKind.free==NameKind.free&&env.scope.kind== .function&&env.kindOf n==y0 .cell)=k9
   .simp only [a,if_true,Ac,d]
    first | exact .inl rfl | exact .inl trivial | simp
   .have c:=Ah7.mpr a
    simp only [c,Ad5,if_false,Ac,d]
    first | exact .inr rfl | exact .inr trivial | simp
  | false=>
   rw [d]at h
   have q:=f h
   by_cases a:(k==NameKind.free&&env.scope.kind== .function&&env.kindOf n==y0 .cell)=k9
   .simp only [a,if_true,Ac,d]
    exact q
   .have c:=Ah7.mpr a
    simp only [c,Ad5,if_false,Ac,d]
    exact q
structure wH (X:Cx) (scope:Scope) (N:List Str) (k:Nat) (bI:List Nat):Prop where
 kind:scope.kind= .function
 nd:(scope.names.map Prod.fst).Nodup
 names: ∀y∈scope.names,y.2= .local->scope.names.lookup y.1=y0 .local
 free: ∀y∈scope.names,y.2= .free->X.env.kindOf y.1=y0 .cell\/X.env.kindOf y.1=y0 .free
 ft: ∀x∈N.drop k,scope.names.lookup x=y0 .free
 bI:bW X bI (N.drop k)
 le:k<=N.length
structure Cs (sc scope:Scope) (N:List Str) (k:Nat):Prop where
 kind:scope.kind= .function
 nd:(scope.names.map Prod.fst).Nodup
 names: ∀y∈scope.names,y.2= .local->scope.names.lookup y.1=y0 .local
 free: ∀y∈scope.names,y.2= .free->sc.names.lookup y.1=y0 .cell\/sc.names.lookup y.1=y0 .free
 ft: ∀x∈N.drop k,scope.names.lookup x=y0 .free
 le:k<=N.length
section
variable {X:Cx}{elt tg iter:Expr}{ifs:List Expr}{scope:Scope}{pos p0:Pos}{N:List Str}{k:Nat}{bI:List Nat}{wi:TI}{g:gN TG}{tc:gN TT}{te:gN TE}
def ZV {t:List (Addr×Obj)}{B:Shared}{Y:St}{M:Hp}{tk:Nat}{R:List Addr}{C:Addr}{f:Heap}{m:Str->Option Value}(ok:wH X scope N k bI) (a:Inv X t Y M B) (J: ∀b∈R,zX X t M b) (T: ∀b∈R,b<B.heap.objs.size)
 (w:B.heap.objs.size<=C) (S:f.Ns C m) (h: ∀b o,B.heap.get? b=y0 o->f.get? b=y0 o)
 (d: ∀x c,(fV scope C X.env).lookup x=y0 c->(Jp scope X.env).lookup x=y0 c\/(C+1<=c/\(x,NameKind.cell)∈scope.names/\f.IsCell c u0)):
 Inv (xc X N scope C R B M) [] (X2 k bI Y) M { B with heap:=f,toks:=tk }:=by
 have sub: ∀x c,(Jp scope X.env).lookup x=y0 c->X.env.cells.lookup x=y0 c:=jy scope.names [] λx c e=>by simp at e
 have G: ∀x,(x,NameKind.free)∈scope.names-> ∃c,(Jp scope X.env).lookup x=y0 c:=λx K=>by
  obtain⟨c,D⟩:=a.ok.has x (ok.free _ K rfl)
  exact zL D scope.names [] (.inl K)
 have lt: ∀x c,(Jp scope X.env).lookup x=y0 c->c<C+1:=λx c e=>by
  obtain⟨v,o,F,_⟩:=a.cell x c (sub x c e)
  exact Nat.lt_succ_of_le (Ac0 (Ae8 (Ab1 F)) w)
 have inj:=X8 scope.names (C+1) (Jp scope X.env) lt λx y c H L=>a.ok.inj x y c (sub x c H) (sub y c L)
 have keep: ∀x c,(x,NameKind.free)∈scope.names->(Jp scope X.env).lookup x=y0 c->(fV scope C X.env).lookup x=y0 c:=λx c K e=>by
  unfold fV
  rw [wP scope.names (C+1) _ λz=>by cases nO ok.nd K z]
  exact e
 have I: ∀x,(x,NameKind.free)∈scope.names\/(x,NameKind.cell)∈scope.names-> ∃c,(fV scope C X.env).lookup x=y0 c:=λx s=>by
  rcases s with s | s
  .obtain⟨c,D⟩:=G x s
   exact⟨c,keep x c s D⟩
  .exact Option.isSome_iff_exists.mp (Ai8 scope.names (C+1) (Jp scope X.env) (.inl (qM ok.nd s)))
 refine⟨⟨a.ok.mod,ok.kind,a.ok.glob,a.ok.blt,w,inj,λx s=>I x (qK s),λx c A e=> ?_,a.ok.hd,a.ok.frames,.inl rfl,λb n=>⟨?_,λx c e=> ?_⟩,
  λb o e=>a.bs b o e,Ac0 a.ok.ez a.sz,λb o e n=> ?_,λb n z=>(Ab7.mp (a.cP b z)).elim (J b n).2.1 (J b n).2.2.1,a.stack,a.bV⟩,
  rfl,a.bare,Un.kept h,⟨m,S,λi x v e1 e2 e3=> ?_⟩,λx c e=> ?_,a.aD.fresh w,λx c e=> ?_,λp Z=>absurd (show p∈([]:List (Addr×Obj))from Z) (by simp),a.aD.kept h,?_⟩
 .have A:=of_decide_eq_true A
  rcases d x c e with q | q
  .rcases jB scope.names [] q with z | z
   .simp at z
   .have:=qM ok.nd z
    rw [A]at this
    cases this
  .exact Ac0 w (Ac0 (Ad3 C) q.1)
 .show b≠C
  exact Ab9 (Ab3 (T b n) w)
 .rcases d x c e with q | q
  .exact(J b n).2.2.2.2.1 x c (sub x c q)
  .exact Ne.symm (Ab9 (Ab3 (T b n) (Ac0 w (Ac0 (Ad3 C) q.1))))
 .rcases (J b n).2.2.2.1 with z | z
  .exact a.ok.dN b o e z
  .have H:=Ab1 e
   have L:=a.ok.ez
   exact absurd (Ab3 H (Ac0 L z)) (Af6 _)
 .have g:k<=i:=by
   by_cases g:i<k
   .have e2:(Aa k u0++bI.map λ(j:Nat)=>(Y[j]?).join)[i]? =y0 (y0 v):=e2
    rw [Ad2 (by simpa using g),Aj,if_pos g]at e2
    cases e2
   .omega
  have E:(N.drop k)[i-k]? =y0 x:=by
   rw [List.getElem?_drop,show k+(i-k)=i by omega];exact e1
  have P:(bI.map λ(j:Nat)=>(Y[j]?).join)[i-k]? =y0 (y0 v):=by
   have e2:(Aa k u0++bI.map λ(j:Nat)=>(Y[j]?).join)[i]? =y0 (y0 v):=e2
   rw [Ad0 (by simpa using g),Ab8]at e2
   exact e2
  obtain⟨j,j1,W,U⟩:=ok.bI.get (Y:=Y) E P
  obtain⟨m2,hn,hl⟩:=a.loc
  obtain⟨u,r,l⟩:=hl j x v j1 W (.inr (U.elim (λz=> .inl z) λz=> .inr z))
  refine⟨u,r,.inr ?_⟩
  have A:=ok.ft x (Ah8 E)
  refine⟨Qg A,?_⟩
  obtain⟨c,D⟩:=G x (PySem.mem_of_lookup A)
  refine⟨c,keep x c (PySem.mem_of_lookup A) D,?_⟩
  rcases l with⟨V,_⟩ | ⟨_,c',O,o,F,Q⟩
  .rcases U with z | z<;>(rw [V]at z;cases z)
  .have d:=sub x c D
   rw [O]at d
   cases d
   exact⟨o,h _ o F,Q⟩
 .rcases d x c e with q | q
  .obtain⟨v,o,F,Q⟩:=a.cell x c (sub x c q)
   exact⟨v,o,h c o F,Q⟩
  .exact⟨u0,q.2.2⟩
 .rcases d x c e with q | q
  .exact a.aZ x c (sub x c q)
  .exact a.aD.fresh (Ac0 w (Ac0 (Ad3 C) q.1))
 .show(Aa k u0++bI.map λ(j:Nat)=>(Y[j]?).join).length=N.length
  have H:=ok.bI.length
  have L:=ok.le
  rw [Ab5,Ab8,Aa0,H,Ae4]
  omega
def zH (use:Option (Value->Sem Unit)) (hc:X.calm=k9) (ok:wH X scope N k bI) (hi:PI X tg iter wi)
 (hg: ∀C fp s H,PG (xc X N scope C fp s H) tg (g C fp s H)) (ht: ∀C fp s H,fg (xc X N scope C fp s H) ifs (tc C fp s H)) (he: ∀C fp s H,PE (xc X N scope C fp s H) elt (te C fp s H))
 (hs: ∀x,foldedSetIterable iter X.env x=pure x)
 {y8:List (Addr×Obj)}{s:Shared}{Y:St}{H:Hp}{Q:VK}{Q':Value->Shared->Prop}(I:Inv X y8 Y H s) (h:iY k bI wi g tc te Y H Q)
 (fin: ∀(D C:Addr) (oC:Obj) (m:Str->Option Value) (H4:Hp) (s4:Shared),Inv X (y8++ [(C,oC)]) Y H4 s4->zX X y8 H4 C->Q (.ref D) H4->(∀ h:Heap,h.get? C=y0 oC->h.Ns C m) →
   compPost (model X.prog X.w) X.A X.xe use Q' (.ref D) C (.ok .next) s4):
 wpAny (model X.prog X.w) X.A (comprehension (.ListComp elt [⟨tg,iter,ifs,0⟩] scope pos) scope X.env p0 (newList []) y9 (eval iter X.env) use) Q' X.xe s:=by
 have hcl:closureFor scope X.env=pure (Jp scope X.env):=WD λy hy hf=>I.ok.has y.1 (ok.free y hy hf)
 refine wpAny_comprehension_free (use:=use) rfl hs hcl ok.kind ok.names (aE (hi y8 s Y H _ I h) λv s1 h1=>aE h1 λitv s2 h2=> ?_)
 obtain⟨it,fp,tn,J,H2,e,I2,T,st2,f2,hW⟩:=h2
 subst e
 refine wpAny_newObj_type (Qp ?_)
 dsimp only
 generalize hHp:s2.heap.push { cls:= .type "list",dict:=none,data:= .seq ([]:List Value).toArray }=HP
 have hCs:HP.objs.size=s2.heap.objs.size+1:=by rw [← hHp,Ag5]
 generalize hDD:s2.heap.objs.size=D at hCs ⊢
 have hns0:(HP.push { cls:= .type "dict",data:= .dict #[] }).Ns HP.objs.size fun _=>none:=Heap.Ns.new HP (.type "dict")
 have hlk: ∀x c,(fV scope HP.objs.size X.env).lookup x=some c->(Jp scope X.env).lookup x=some c\/(HP.objs.size+1<=c/\(x,NameKind.cell)∈scope.names/\(pushCells (HP.push { cls:= .type "dict",data:= .dict #[] }) scope.names).IsCell c none):=fun x c e=>by
  refine zO scope.names (HP.push { cls:= .type "dict",data:= .dict #[] }) (Jp scope X.env) True (fun _=> .inl trivial) (HP.objs.size+1) (by rw [Heap.size_push];exact Nat.le_refl _) ?_
  rw [Ag5]
  exact e
 generalize hh1:pushCells (HP.push { cls:= .type "dict",data:= .dict #[] }) scope.names=h₁ at hlk ⊢
 have hns₁:h₁.Ns HP.objs.size λ_=>none:=by rw [← hh1];exact hns0.keeps (pushCells_keeps _ _)
 have hk1: ∀b o,HP.get? b=y0 o->h₁.get? b=y0 o:=λb o e=>by
  rw [← hh1]
  exact pushCells_keeps _ _ b o (Aa2 _ e)
 generalize hCC:HP.objs.size=C at hCs hns₁ hlk ⊢
 have hDC:D≠C:=by rw [hCs];exact Ab9 (Ae6 _)
 have hle:s2.heap.objs.size<=C:=by rw [hDD,hCs];exact Ad3 _
 have hleD:s2.heap.objs.size<=D:=Al1 hDD
 have fo: ∀b∈fp,b<D:=λb hb=>by
  obtain⟨o,eo,_⟩:=T.obj _ _ st2 b hb
  rw [← hDD]
  exact Ab1 eo
 have old: ∀b o,s2.heap.get? b=y0 o->h₁.get? b=y0 o:=λb o e=>by
  exact hk1 b o (hHp▸Aa2 _ e)
 have hacc:h₁.get? D=y0 { cls:= .type "list",data:= .seq ([]:List Value).toArray }:=by
  refine hk1 _ _ ?_
  rw [← hHp,←hDD]
  exact Ab6 _ rfl
 obtain⟨W,⟨m0,w0⟩,turn⟩:=hW C fp s2
 have I3:Inv (xc X N scope C fp s2 H2) [] (X2 k bI Y) H2 { s2 with heap:=h₁,toks:=s2.toks }:=
  ZV ok I2 f2 (λb hb=>by rw [hDD];exact fo b hb) hle hns₁ old hlk
 have st3:tn 0 h₁:=T.keep _ _ _ st2 λb _ o e=>old b o e
 have hch: ∀b∈fp,(b∈X.ex\/X.s₀.heap.objs.size<=b)/\b≠X.env.locals/\(∀ x c,X.env.cells.lookup x=y0 c->c≠b)/\ ∀p∈X.pn++y8,p.1≠b:=λb hb=>⟨(f2 b hb).2.2.2.1,(f2 b hb).2.1,(f2 b hb).2.2.2.2.1,(f2 b hb).2.2.2.2.2⟩
 have FD: ∀ {H':Hp},H' D=u0->zX X y8 H' D:=λhn=>I2.cC hleD hn
 have FC: ∀ {H':Hp},H' C=u0->zX X y8 H' C:=λhn=>I2.cC hle hn
 have sub: ∀x c,(Jp scope X.env).lookup x=y0 c->X.env.cells.lookup x=y0 c:=jy scope.names [] λx c e=>by simp at e
 have hDst:D∉bg X.stack:=λz=>(Ab7.mp (I2.cP D z)).elim (FD (H':=λ_=>u0) rfl).2.1 (FD (H':=λ_=>u0) rfl).2.2.1
 have hDc: ∀x c,(fV scope C X.env).lookup x=y0 c->c≠D:=λx c e=>by
  rcases hlk x c e with q | q
  .exact(FD (H':=λ_=>u0) rfl).2.2.2.2.1 x c (sub x c q)
  .exact Ne.symm (Ab9 (Ab3 (by rw [hCs];exact Nat.lt_succ_of_lt (Ae6 _)) q.1))
 have loop: ∀s₃:Shared,s₃= { s2 with heap:=h₁,toks:=s2.toks } →
  codeAny (model X.prog X.w) X.A (.compLoop (.ListComp elt [⟨tg,iter,ifs,0⟩] scope pos) 0 (.ref it) (.ref D) (compEnvC scope (fV scope C X.env) C X.env))
   (compPost (model X.prog X.w) X.A X.xe use Q' (.ref D) C) s₃:=by
  rintro s₃ rfl
  refine xI (λn s'=> ∃i ys its kk U H',Inv (xc X N scope C fp s2 H2) [] U H' s'/\tn i s'.heap/\(∀ b∈fp,H' b=u0)/\H' D=u0/\s'.heap.get? D=y0 { cls:= .type "list",data:= .seq (its:List Value).toArray kk }/\Vals ys its/\W i n ys U H')
   ?_ m0 ⟨0,[],[],0,_,H2,I3,st3,λb hb=>(f2 b hb).1,I2.aD.fresh hleD,hacc,.nil,w0⟩
  rintro n s3 ⟨i,ys,its,kk,U,H3,I3,st3,fr3,hD3,eD3,rv3,w3⟩
  have IP:Inv (xc X N scope C fp s2 H2) [(D,{ cls:= .type "list",data:= .seq its.toArray kk })] U H3 s3:=I3.bz fun p hp=>by
   have e:p=(D,{ cls:= .type "list",data:= .seq its.toArray kk }):=by simpa using hp
   subst e
   exact⟨eD3,hD3,hDC,hDst,λv z=>by cases z⟩
  have fpok: ∀ {H':Hp},(∀ b∈fp,H' b=u0)-> ∀b∈fp,zX (xc X N scope C fp s2 H2) [(D,{ cls:= .type "list",data:= .seq its.toArray kk })] H' b:=fun {H'} hn b hb=>by
   refine⟨hn b hb,I3.ok.iA b hb |>.1,I3.ok.dO b hb,.inl hb,I3.ok.iA b hb |>.2,λp hp=> ?_⟩
   have e:p=(D,{ cls:= .type "list",data:= .seq its.toArray kk }):=by
    have hp:p∈([]:List (Addr×Obj))++ [(D,{ cls:= .type "list",data:= .seq its.toArray kk })]:=hp
    simpa using hp
   rw [e]
   exact Ne.symm (Ab9 (fo b hb))
  rcases turn i n ys U H3 w3 with⟨stop,hz,q⟩ | ⟨go,hz,NN,hN,step⟩
  .refine aE (T.done (xc X N scope C fp s2 H2) rfl rfl rfl hc i _ s3 U H3 _ IP (fpok fr3) st3 stop) ?_
   rintro r s4 ⟨hr,I4⟩
   subst hr
   have eD4:=(I4.pin _ (Ab4 _ Aa8)).1
   have I5:Inv X y8 Y H3 s4:=I2.fK (ch:=fp) I4.os I4.base I4.aD I4.bare hch
   have I6:=I5.adopt (FD hD3) (Ac0 I2.sz hleD) eD4 rv3 hz
   obtain⟨m,⟨oC,es,ep,hoC,hdC,hr⟩,_⟩:=I4.loc
   have fC:zX X y8 (ax H3 D (.lst ys)) C:=FC (by rw [qa (Ne.symm hDC)];exact I4.free)
   have I7:Inv X (y8++ [(C,oC)]) Y (ax H3 D (.lst ys)) s4:=I6.bz λp hp=>(Ah0.mp hp).elim (λz=>I6.pin p (Ab4 _ z)) λz=>by
    have e:p=(C,oC):=by simpa using z
    subst e
    exact⟨hoC,fC.1,fC.2.1,fC.2.2.1,λv z=>by rw [hdC]at z;cases z⟩
   exact fin D C oC m _ s4 I7 fC (q D hD3) λh e=>⟨oC,es,ep,e,hdC,hr⟩
  .refine aE (T.item (xc X N scope C fp s2 H2) rfl rfl rfl hc i _ s3 U H3 _ IP (fpok fr3) st3 go) ?_
   rintro r s4 ⟨u,hr,h4⟩
   subst hr
   refine aE h4 ?_
   rintro _ s5 ⟨x,H5,I5,r5,y5,st5,fr5⟩
   have I5':=I5.pinned (fpok fr5) (T.obj _ _ st5)
   refine wpAny_mono (hg C fp s2 H2 _ s5 U H5 x u _ I5' r5 (step x H5 y5)) (λ_ s6 ⟨Y6,H6,I6,q6⟩=> ?_) λ_ _ z=>False.elim z
   refine wpAny_mono (ht C fp s2 H2 _ s6 Y6 H6 _ I6 q6) (λb s7 ⟨H7,I7,q7⟩=> ?_) λ_ _ z=>False.elim z
   have hp5: ∀b∈fp,∃o,s5.heap.get? b=y0 o:=λb hb=>let ⟨o,e,_⟩:=T.obj _ _ st5 b hb; ⟨o,e⟩
   cases b with
   | false=>
    rw [if_neg Aa4]at q7 ⊢
    obtain⟨m',hm,w7⟩:=hN _ _ _ q7
    refine⟨m',hm,i+1,ys,its,kk,Y6,H7,I7.bz λp hp=>absurd hp (by simp),T.keep _ _ _ st5 λb hb o e=>(I7.pin (b,o) (Ab4 _ (Ab4 _ (zh hb e)))).1,λb hb=> ?_,?_,?_,rv3,w7⟩
    .obtain⟨o,e⟩:=hp5 b hb
     exact(I7.pin (b,o) (Ab4 _ (Ab4 _ (zh hb e)))).2.1
    .exact(I7.pin _ (Ab4 _ (Ag3 _ Aa8))).2.1
    .exact(I7.pin _ (Ab4 _ (Ag3 _ Aa8))).1
   | true=>
    rw [if_pos rfl]at q7 ⊢
    refine wpAny_mono (he C fp s2 H2 _ s7 Y6 H7 _ I7 q7) (λy s8 ⟨yv,H8,I8,r8,q8⟩=> ?_) λ_ _ z=>False.elim z
    have pD:=I8.pin _ (Ab4 _ (Ag3 _ Aa8))
    have eD8:s8.heap.get? D=y0 { cls:= .type "list",data:= .seq its.toArray kk }:=pD.1
    have hD8:H8 D=none:=pD.2.1
    have y7:=rv3.length
    refine call_meets F.slot_list_append ⟨_,eD8,rfl⟩ F.entry_list_append (F.args_list_append_2 _ _) (PySem.list_append D its.toArray kk y (by rw [Aa9];omega)) ⟨eD8,?_⟩
    obtain⟨m',hm,w8⟩:=hN _ _ _ q8
    have IQ:Inv (xc X N scope C fp s2 H2) (ju fp s5.heap) Y6 H8 s8:=I8.bz λp hp=>I8.pin p (Ab4 _ (Ab4 _ hp))
    have e9:=PySem.IsL.update eD8 (·.push y)
    rw [show its.toArray.push y=(its++ [y]).toArray by simp]at e9
    have I9:Inv (xc X N scope C fp s2 H2) (ju fp s5.heap) Y6 H8 { s8 with heap:=s8.heap.update D (Obj.mapSeq (·.push y)),toks:=s8.toks }:=
     IQ.turned (it:=D) (λb o hb e=>(Ah5 s8.heap (Obj.mapSeq (·.push y)) (Ne.symm hb)).trans e) hD8 hDC (.inr hleD) hDc λp hp=>by
      have hp:p∈([]:List (Addr×Obj))++ju fp s5.heap:=hp
      have:=fo p.1 (XI (by simpa using hp)).1
      exact Ab9 this
    refine⟨m',hm,i+1,ys++ [yv],its++ [y],_,Y6,H8,I9.bz λp hp=>absurd hp (by simp),T.keep _ _ _ st5 λb hb o e=>(I9.pin (b,o) (Ab4 _ (zh hb e))).1,λb hb=> ?_,hD8,e9,rv3.append (.cons r8 .nil),w8⟩
    obtain⟨o,e⟩:=hp5 b hb
    exact(I9.pin (b,o) (Ab4 _ (zh hb e))).2.1
 exact codeAny_compStart_list (loop _ rfl) (T.self _ 0 _ _ _ st3 (loop _ rfl))
def tT (ok:wH X scope N k bI) (y:PI X tg iter wi)
 (j: ∀C fp s H,PG (xc X N scope C fp s H) tg (g C fp s H)) (w: ∀C fp s H,fg (xc X N scope C fp s H) ifs (tc C fp s H)) (r: ∀C fp s H,PE (xc X N scope C fp s H) elt (te C fp s H))
 (z:X.calm=true:=by rfl) (u: ∀x,foldedSetIterable iter X.env x=pure x:=by intro _;rfl):PE X (.ListComp elt [⟨tg,iter,ifs,0⟩] scope pos) (iY k bI wi g tc te):=by
 intro f s Y H Q I h
 rw [eval_ListComp]
 refine zH u0 z ok y j w r u I h λD C p m l t i a q c=> ?_
 have v:=i.pin (C,p) (Ab4 _ (Ab4 _ Aa8))
 refine⟨m,c _ v.1,λA d=>⟨.ref D,l,?_,rfl,q⟩⟩
 exact(i.bG).turned (t':=t.toks) (λb o n e=>d.extBut b o n e) a.1 a.2.1 a.2.2.2.1 a.2.2.2.2.1 a.2.2.2.2.2
def wY {i:Nat}{x:Str}{pos':Pos}(G:X.N.Nodup) (d:X.N[i]? =y0 x) (K:hI X.env.scope x) (ok:wH X scope N k bI) (M:PI X tg iter wi)
 (t: ∀C fp s H,PG (xc X N scope C fp s H) tg (g C fp s H)) (J: ∀C fp s H,fg (xc X N scope C fp s H) ifs (tc C fp s H)) (z: ∀C fp s H,PE (xc X N scope C fp s H) elt (te C fp s H))
 (j:swapsWith (.ListComp elt [⟨tg,iter,ifs,0⟩] scope p0) (y0 (.Name x pos')) pos.line X.env=pure true:=by rfl)
 (P:X.calm=true:=by rfl) (E: ∀x,foldedSetIterable iter X.env x=pure x:=by intro _;rfl) (L:X.fn x=k9\/X.env.scope.names.lookup x=y0 .local:=by first | exact .inl rfl | exact .inr rfl | assumption):
 PS X (.Assign [.Name x pos'] (.ListComp elt [⟨tg,iter,ifs,0⟩] scope p0) pos) (fL (iY k bI wi g tc te) (wL i)):=by
 intro c s Y H D I h
 rw [exec_Assign_Name_used _ _ _ _ j]
 refine wpAny_bind (wpAny_standAt (wpAny_bind ?_))
 show wpAny _ X.A (do let _ ←comprehension (.ListComp elt [⟨tg,iter,ifs,0⟩] scope p0) scope X.env _ (newList []) y9 (eval iter X.env) (y0 (assign (.Name x pos') X.env))) _ _ s
 refine wpAny_bind (wpAny_mono (zH (Q':=λ_ n=>SP X c D .next n) (y0 (assign (.Name x pos') X.env)) P ok M t J z E I h λr C y m u R O a q f=> ?_) (λ_ n B=>wpAny_pure (wpAny_pure B)) λ_ _ e=>e)
 show wpAny _ X.A (assign (.Name x pos') X.env (.ref r)) _ _ _
 refine wpAny_assign_Name (Ql O G d K (v:= .ref r) rfl (λA p=> ?_) L)
 have F:=p.pin (C,y) (Ab4 _ (Ab4 _ Aa8))
 refine⟨m,f _ F.1,λQ l=>⟨_,u,?_,q⟩⟩
 exact(p.bG).turned (t':=A.toks) (λb o w e=>l.extBut b o w e) a.1 a.2.1 a.2.2.2.1 a.2.2.2.2.1 a.2.2.2.2.2
end
structure CC (P:Program) (w:World) (K:Aa3) (mg:Str->Option Value) (base:Heap) (k:Nat) (x:Str) (ps:List Str) (sp:Sp):Prop where
 ex: ∃f fd,aW P w K mg base gS k f fd ps sp/\Binds K fd ps []/\Ae3 K (.ref f)=k9/\mg x=y0 (.ref f)
open PySem PySem.Spec PySem.Calls PySem.W PyProof.Rows
structure g8 (K:Frag) (C:Addr):Prop where
 ga:findIn K (.ref C) "__getattribute__" =some (some (.builtin "BaseException.__getattribute__"))
 gn:findIn K (.ref C) "__getattr__" =some none
 cl:findIn K (.ref C) "__class__" =some (some (.builtin "object.__class__"))
 get:specialIn K (.builtin "object.__class__") "__get__" =some (some (.builtin "getset_descriptor.__get__"))
 set:takesIn K (.builtin "object.__class__")=some true
 obj:mroIn K C (.type "object")=some true
 bas:mroIn K C (.type "BaseException")=some true
 slf:kitCls K (.ref C) (.ref C)=y0 k9
 cls:(clsIn K C).isSome=k9
def ExcAt (h:Heap) (x C:Addr):Prop:= ∃o,h.get? x=y0 o/\o.cls= .ref C
def ExcAt.type {M:Model}{h:Heap}{x C:Addr}(e:ExcAt h x C):Looks M h (typeOf (.ref x)) (.ref C):=by
 obtain⟨o,b,a⟩:=e
 rw [← a]
 exact(Looks.ld b).andThen Looks.now
section
variable {prog:Program}{w:World}{A:Around}{E:Value->Shared->Prop}{s:Shared}{K:Frag}{x C:Addr}
def ZP {R:Result->Shared->Prop}{b:Value}(X:K.In s.heap) (I:ExcAt s.heap x C) (Z:g8 K C) (a:R (.ok (.ret (.ref C))) s):
 codeAny (model prog w) A (.call (.builtin "getset_descriptor.__get__") ⟨[.builtin "object.__class__",.ref x,b],[]⟩) R s:=by
 obtain⟨d,c,dd,g,h⟩:=s
 have f:=I.type (M:=model prog w)
 have e:=looks_mroIn (M:=model prog w) X Z.obj
 refine codeAny_call_builtin KF.slot_gs.plain KF.entry_gs (KF.slot_gs.check _ _ _ _ _ _ _ _ KF.type_class (KF.args_gs _ _ _) ?_)
 unfold Builtin.«getset_descriptor.__get__» Builtin.Getset_descriptor.descrGet
 rw [dga_obj]
 refine wpAny_bind (wpAny_pure ?_)
 unfold Builtin.Getset_descriptor.descrGetter Builtin.Getset_descriptor.descrCheckInstance Builtin.Getset_descriptor.descrNameAndClass isInstance
 simp only [KF.owner_class]
 repeat lk
 refine⟨Code.quiet_builtin _ (by decide +kernel),codeAny_builtin KF.entry_class ?_⟩
 unfold Builtin.«object.__class__» shownTypeOf
 repeat lk
 exact a
def QK {Q:Option Value->Shared->Prop}(X:K.In s.heap) (I:ExcAt s.heap x C) (Z:g8 K C) (p:Q (y0 (.ref C)) { s with toks:=s.toks+1 }):
 wpAny (model prog w) A (getAttr? (.ref x) "__class__") Q E s:=by
 obtain⟨c,d,dd,y,e⟩:=s
 have k:=I.type (M:=model prog w)
 have l:=looks_findIn (M:=model prog w) X Z.ga
 have u:=looks_findIn (M:=model prog w) X Z.gn
 have m:=looks_findIn (M:=model prog w) X Z.cl
 have Le:=looks_specialIn (M:=model prog w) X Z.get
 have n:=looks_takesIn (M:=model prog w) X Z.set
 have r:=looks_mroIn (M:=model prog w) X Z.bas
 have b:Looks (model prog w) c (Builtin.ObjectAttr.find (.ref x) (.ref C) "__class__") (.bind (.builtin "getset_descriptor.__get__") (.builtin "object.__class__")):=by
  unfold Builtin.ObjectAttr.find
  refine m.andThen ?_
  refine Looks.andThen (show Looks (model prog w) c (Builtin.ObjectAttr.getOf (some (.builtin "object.__class__"))) (some (.builtin "getset_descriptor.__get__"))from Le) ?_
  unfold Builtin.ObjectAttr.dataDescriptor?
  refine Looks.andThen (a:=y0 (.builtin "getset_descriptor.__get__",.builtin "object.__class__")) (n.andThen ?_) (Looks.tag Looks.now)
  exact Looks.now
 have i: ∀(A:Around) (j:Tok) (Q:Fin->Shared->Prop) (E:Value->Shared->Prop) (t:Nat),Q (.done (.ret (.ref C))) ⟨c,d,dd,t,e⟩ →
  wpAny (model prog w) A (Builtin.«object.__getattribute__» ⟨[.ref x,.str "__class__" j],[]⟩) Q E ⟨c,d,dd,t,e⟩:=fun A j Q E t h=>by
  unfold Builtin.«object.__getattribute__»
  refine wpAny_bind (wpAny_of_eq (a:=(Value.ref x,[Value.str "__class__" j])) rfl ?_)
  dsimp only
  refine wpAny_bind (wpAny_of_eq (a:=("__class__" :Str)) rfl ?_)
  refine wpAny_bind (k.at (wpAny_bind (b.at ?_)))
  show wpAny _ _ (Builtin.ObjectAttr.bindTo _ _ _ _) _ _ _
  unfold Builtin.ObjectAttr.bindTo
  dsimp only
  exact wpAny_bind (wpAny_holding (wpAny_call (ZP X I Z (wpAny_pure h))))
 have g: ∀(A:Around) (f:Value) (Q:Unit->Shared->Prop) (E:Value->Shared->Prop) (t:Nat),Q () ⟨c,d,dd,t,e⟩ →
  wpAny (model prog w) A (checkBuiltinCall "BaseException.__getattribute__" ⟨[.ref x,f],[]⟩) Q E ⟨c,d,dd,t,e⟩:=fun A f Q E t h=>by
  have q:builtinKind "BaseException.__getattribute__" =some .slot:=by decide +kernel
  have o:splitId "BaseException.__getattribute__" =some ("BaseException", "__getattribute__"):=by decide +kernel
  have v:=F.args_bexc_ga (.ref x) f
  simp only [checkBuiltinCall,q,o]
  refine wpAny_bind ((k.andThen r:Looks (model prog w) c (isInstance (.ref x) (.type "BaseException")) true).at ?_)
  rw [if_neg (by decide)]
  exact wpAny_of_eq v h
 unfold getAttr? getAttrBy? getAttrBy
 refine wpAny_bind (wpAny_mkText (wpAny_bind (wpAny_attempt (wpAny_holding (wpAny_bind (k.at (wpAny_bind (l.at ?_))))))))
 show wpAny _ _ (getAttrByItsOwn _ _ _ _ _ _) _ _ _
 unfold getAttrByItsOwn hookBefore
 refine wpAny_bind (u.at ?_)
 refine wpAny_bind (wpAny_attempt (wpAny_holding ?_))
 show wpAny _ _ (boundAndCalled (.builtin "BaseException.__getattribute__") (.ref x) _) _ _ _
 unfold boundAndCalled
 refine wpAny_bind (wpAny_of_eq (F.excAttr_ValueError.ga.bind _) ?_)
 refine wpAny_call (codeAny_call_builtin F.excAttr_ValueError.ga.plain F.entry_bexc_ga (g _ _ _ _ _ (i _ _ _ _ _ ?_)))
 show wpAny _ _ (handedOut (.ref C)) _ _ _
 exact handed_on rfl (wpAny_pure p)
end
def XD {K:Frag}{x C:Addr}(Z:g8 K C):KitX K (.ref x) (.ref C) (λh=>ExcAt h x C) where
 ty:=λ_ _ _ I=>I.type
 it:=λM h X _=>(kit_cls (M:=M) X Z.slf).2.1
 ne:=λh f dd d n g X a=>by
  rw [Ah7]
  intro q
  have e:C=f:=Value.ref.inj (beq_iff_eq.mp q)
  subst e
  have z:=Z.cls
  cases b:K.lookup C with
  | none=>simp [clsIn,b]at z
  | some o=>
   have c:=X C o b
   rw [a]at c
   cases c
   simp [clsIn,b]at z
 ca:=λX I k=>QK X I Z k
noncomputable def WZ (x C:Addr) (a:Option Addr):HO:= .ext λh=> ∃o,h.get? x=y0 o/\o.cls= .ref C/\notCls o=k9/\ ∀dx,a=y0 dx->o.dict=y0 dx
def sM {P:Program}{w:World}{H:Hp}{h:Heap}{x C:Addr}{c:Option Addr}{o:Obj}(e:h.get? x=y0 o) (d:o.cls= .ref C) (g:notCls o=k9) (f: ∀dx,c=y0 dx->o.dict=y0 dx):aI P w H h x (WZ x C c):=
 ⟨⟨o,e,d,g,f⟩,⟨o,e⟩,λj i ⟨o,a,b⟩ k=>⟨o,k o a,b⟩⟩
def ot (K:Frag):List V->Hp->VK->Prop:=λxs H Q=> ∃x C a b,g8 K C/\H x=y0 (WZ x C a) ∧
 ((∃ (D:Addr),xs= [.ref x,.ref D]/\kitOne K (.ref C) (.ref D)=y0 b)\/(∃ (T:String),xs= [.ref x,.ty T]/\kitOne K (.ref C) (.type T)=y0 b) ∨
   ∃(t:Addr) (ds:List Addr),xs= [.ref x,.ref t]/\H t=y0 (.tup (ds.map V.ref))/\kitAny K (.ref C) (ds.map Value.ref)=y0 b)/\Q (.bl b) H
theorem ZK: ∀ {ds:List Addr}{us:List Value},Vals (ds.map V.ref) us->us=ds.map Value.ref
 | [],_,.nil=>rfl
 | _::_,_,.cons r t=>by
  cases r
  rw [ZK t]
  rfl
def ZR {X:Cx}:Wn X (.builtin "isinstance") (ot X.K):=by
 intro k s Y H G F Q I r h
 obtain⟨x,C,E,b,Z,v,w,q⟩:=h
 have ex:ExcAt s.heap x C:=let ⟨o,a,b,_⟩:=(I.aD x _ v).1; ⟨o,a,b⟩
 rcases w with⟨D,rfl,e⟩ | ⟨T,rfl,e⟩ | ⟨t,A,rfl,p,e⟩
 .obtain⟨u,i,rfl,d,c⟩:=hJ r
  cases d
  cases c
  exact kia_one (XD Z) I.bj ex e (λz=>nomatch z) λf=>⟨.bl b,H,I.tok f,rfl,q⟩
 .obtain⟨u,i,rfl,d,c⟩:=hJ r
  cases d
  cases c
  exact kia_one (XD Z) I.bj ex e (λz=>nomatch z) λf=>⟨.bl b,H,I.tok f,rfl,q⟩
 .obtain⟨u,i,rfl,d,c⟩:=hJ r
  cases d
  cases c
  obtain⟨_,l,rv,o,m,j,_,n,g⟩:=I.aD t _ p
  rw [ZK rv]at g
  obtain⟨J,y,K,B⟩:=o
  simp only at j g
  subst j g
  exact kia_tup (XD Z) I.bj ex m e (λz=>nomatch z) λf=>⟨.bl b,H,I.tok f,rfl,q⟩
def DK (h h':Heap):Prop:= ∀b o,h.get? b=y0 o-> ∃o',h'.get? b=y0 o'/\o'.dict=o.dict
def DK.refl (h:Heap):DK h h:=λ_ o e=>⟨o,e,rfl⟩
theorem DK.trans {a b c:Heap}(x:DK a b) (y:DK b c):DK a c:=λi o e=>
 let ⟨d,e1,h⟩:=x i o e
 let ⟨f,e2,g⟩:=y i d e1
 ⟨f,e2,g.trans h⟩
def KD {b:Type}:Sem b->Prop
 | .pure _=>True
 | .raise _=>True
 | .unsupported _=>True
 | .finish _=>True
 | .register _ _=>True
 | .rule _ k=>KD (k ())
 | .at _ k=>KD (k ())
 | .load _ _ k=> ∀o,KD (k o)
 | .update _ _ f k=>(∀ o,(f o).dict=o.dict/\(o.isFreed=y9->(f o).isFreed=y9))/\KD (k ())
 | .alloc _ k=> ∀a,KD (k a)
 | .loadIfAlive _ k=> ∀o,KD (k o)
 | .point _ k=>KD (k ())
 | .fresh k=> ∀t,KD (k t)
 | .ask k=> ∀t,KD (k t)
 | .handled _ k=> ∀t,KD (k t)
 | .stack k=> ∀t,KD (k t)
 | .thread k=> ∀t,KD (k t)
 | _=>False
theorem KD.bind {c e:Type}{f:c->Sem e}(d: ∀a,KD (f a)){m:Sem c}(h:KD m):KD (m.bind f):=by
 induction m with
 | pure a=>exact d a
 | raise _=>exact trivial
 | unsupported _=>exact trivial
 | finish _=>exact trivial
 | register _ _=>exact trivial
 | rule _ k b=>exact b () h
 | «at» _ k b=>exact b () h
 | load _ _ k b=>exact λo=>b o (h o)
 | update _ _ _ k b=>exact⟨h.1,b () h.2⟩
 | alloc _ k b=>exact λo=>b o (h o)
 | loadIfAlive _ k b=>exact λo=>b o (h o)
 | point _ k b=>exact b () h
 | fresh k b=>exact λo=>b o (h o)
 | ask k b=>exact λo=>b o (h o)
 | handled _ k b=>exact λo=>b o (h o)
 | stack k b=>exact λo=>b o (h o)
 | thread k b=>exact λo=>b o (h o)
 | _=>exact False.elim h
theorem DK.push (h:Heap) (o:Obj):DK h (h.push o):=λb u e=>⟨u,Aa2 _ e,rfl⟩
theorem DK.update (h:Heap) (a:Addr){f:Obj->Obj}(c: ∀o,(f o).dict=o.dict/\(o.isFreed=y9->(f o).isFreed=y9)):DK h (h.update a f):=λb u e=>by
 by_cases q:a=b
 .subst q
  exact⟨f u,Ag0 f e ((c u).2 (Heap.get?_some_iff.mp e).2),(c u).1⟩
 .exact⟨u,by rw [Ah5 _ _ q];exact e,rfl⟩
def BM {g:Type}{M:Model}{Γ:PySem.Ctx}{Q:g->Pos->Shared->Prop}{E:Value->Pos->Shared->Prop}{c:Heap}{t:Sem g}: ∀ {p:Pos}{s:Shared},KD t->DK c s.heap->Sem.wp M Γ t Q E p s →
 Sem.wp M Γ t (λa p s'=>Q a p s'/\DK c s'.heap) (λe p s'=>E e p s'/\DK c s'.heap) p s:=by
 induction t with
 | pure a=>exact λk d h=>⟨h,d⟩
 | raise _=>exact λk d h=>⟨h,d⟩
 | unsupported _=>exact λk d h=>h
 | finish _=>exact λk d h=>h
 | register _ _=>exact λk d h=>h
 | rule _ t b=>exact λk d h=>b () k d h
 | «at» _ t b=>exact λk d h=>b () k d h
 | load _ _ t b=>exact λk d ⟨o,e,h⟩=>⟨o,e,b o (k o) d h⟩
 | update a _ f t b=>exact λk d ⟨e,h⟩=>⟨e,b () k.2 (d.trans (DK.update _ _ k.1)) h⟩
 | alloc o t b=>exact λk d h=>b _ (k _) (d.trans (DK.push _ _)) h
 | loadIfAlive _ t b=>exact λk d h=>b _ (k _) d h
 | point _ t b=>exact λk d h=>b () k d h
 | fresh t b=>exact λk d h=>b _ (k _) d h
 | ask t b=>exact λk d h=>b _ (k _) d h
 | handled _ t b=>exact λk d h=>b _ (k _) d h
 | stack t b=>exact λk d h=>b _ (k _) d h
 | thread t b=>exact λk d h=>b _ (k _) d h
 | _=>exact λk=>False.elim k
def JD {c:Type}{M:Model}{A:Around}{t:Sem c}{Q:c->Shared->Prop}{E:Value->Shared->Prop}{s:Shared}(k:KD t) (h:wpAny M A t Q E s):
 wpAny M A t (λa s'=>Q a s'/\DK s.heap s'.heap) (λe s'=>E e s'/\DK s.heap s'.heap) s:=λd p b=>BM k (DK.refl _) (h d p b)
def jP (v:Value):KD (fieldsOf v):=by
 unfold fieldsOf
 cases v<;>first | exact trivial | skip
 refine KD.bind (λo=> ?_) (m:=load _) λ_=>trivial
 split<;>exact trivial
def qt (v:Value) (i:Nat):KD (field v i):=by
 unfold field
 refine KD.bind (λo=> ?_) (jP v)
 split<;>exact trivial
def jM {d:Type}{c:Bool}{a b:Sem d}(e:KD a) (hb:KD b):KD (if c then a else b):=by cases c<;>assumption
def xn (v:Value) (i:Nat) (x:Value):KD (setField v i x):=by
 unfold setField updateField
 cases v<;>first | exact trivial | skip
 refine KD.bind (λo=> ?_) (m:=load _) λ_=>trivial
 split
 .split
  .refine⟨λo=> ?_,trivial⟩
   obtain⟨c,d,a,b⟩:=o
   cases a<;>exact⟨rfl,λz=>z⟩
  .exact trivial
 .exact trivial
def JC (f:Addr) (b:Bool):KD (entryPlaceOf f b):=by
 unfold entryPlaceOf
 refine KD.bind (λo=> ?_) (m:=stack) λ_=>trivial
 split<;>exact trivial
def wM (a b c d e:Value) (p:List Value):KD (EntryCells.newEntry a b c d e p):=by
 unfold EntryCells.newEntry newFields newObj
 have g: ∀f:Array Value,KD (if f.size>sizeLine+2 then do
  unsupported "record:memory"
  newObjAsIs (Value.type "traceback") (Data.fields f)
  else newObjAsIs (Value.type "traceback") (Data.fields f)):=fun f=>by
  split
  .exact trivial
  .unfold newObjAsIs
   exact λ_=>trivial
 exact g _
theorem xU: ∀l:List Env,KD (readyFrames l)
 | []=>trivial
 | env::outer=>by
  unfold readyFrames
  split
  .refine KD.bind (λo=> ?_) (m:=load _) λ_=>trivial
   refine jM trivial ?_
   refine KD.bind (λi=> ?_) ?_
   .refine KD.bind (λb=> ?_) ?_
    .refine KD.bind (λ_=>xU outer) (m:=update _ _) ⟨λo=>⟨rfl,λz=> ?_⟩,trivial⟩
     obtain⟨c,d,a,e⟩:=o
     cases a<;>exact z
    .unfold keptBack
     split
     .refine jM trivial ?_
      refine KD.bind (λ_=>by exact trivial) ?_
      unfold underTheClaimsCaller
      exact λ_=>trivial
     .exact trivial
   .unfold behindIsImport
    refine jM trivial (jM trivial ?_)
    exact KD.bind (λ_=>by exact trivial) (qt _ _)
  .exact trivial
def JV (env:Env):KD (PySem.frameOf env):=by
 unfold PySem.frameOf
 refine KD.bind (λl=> ?_) (m:=frameEnvs) λ_=>trivial
 refine KD.bind (λo=> ?_) ?_
 .split<;>exact trivial
 .unfold frameObject
  split
  .exact trivial
  .exact KD.bind (λ_=>by exact trivial) (xU _)
def Z3 (e:Value) (env:Env):KD (noteFrame e env):=by
 unfold noteFrame
 split
 .refine KD.bind (λf=> ?_) (qt _ _)
  have d:KD (do setField e 1 (← EntryCells.newEntry f (← PySem.frameOf env) .none (rawInt ‹Addr›) .none (← entryPlaceOf ‹Addr› (f != .none)))):=
   KD.bind (λa=>KD.bind (λb=>KD.bind (λc=>xn _ _ _) (wM _ _ _ _ _ _)) (JC _ _)) (JV env)
  refine jM ?_ d
  refine KD.bind (λx=> ?_) (qt _ _)
  refine jM trivial ?_
  exact KD.bind (λ_=>d) (xn _ _ _)
 .exact trivial
def zy (e:Value) (f:Option Addr):KD (setFlight e f):=by
 unfold setFlight
 refine KD.bind (λx=> ?_) (qt _ _)
 exact jM (xn _ _ _) trivial
def WA (env:Env) (e:Value):KD (leaving env e):=KD.bind (λ_=>zy e u0) (Z3 e env)
def aI.there {P:Program}{w:World}{H:Hp}{h:Heap}{a:Addr}{o:HO}(x:aI P w H h a o): ∃u,h.get? a=y0 u:=by
 cases o with
 | lst c=>exact⟨_,x.2.choose_spec.choose_spec.2⟩
 | tup c=>obtain⟨_,_,_,u,e,_⟩:=x;exact⟨u,e⟩
 | dK b=>obtain⟨_,_,_,_,u,_,_,e,_⟩:=x;exact⟨u,e⟩
 | dT b=>obtain⟨_,_,_,_,u,_,_,e,_⟩:=x;exact⟨u,e⟩
 | set S n=>obtain⟨u,_,_,_,e,_⟩:=x;exact⟨u,e⟩
 | ins C d fs=>obtain⟨_,_,_,e,_⟩:=x;exact⟨_,e⟩
 | own y=>exact x
 | xd fs=>obtain⟨_,⟨u,_,_,e,_⟩,_⟩:=x;exact⟨u,e⟩
 | fv i k=>obtain⟨_,_,_,e⟩:=x;exact⟨_,e⟩
 | di g u=>exact⟨_,x.1⟩
 | fP j=>exact⟨_,show h.get? a=y0 _ from x⟩
 | met f y=>exact⟨_,show h.get? a=y0 _ from x⟩
 | ext l=>exact x.2.1
def bJ (P:Program) (w:World):dW:=λouter H s E e s'=> ∃(x C t:Addr) (B:Heap) (H':Hp) (a:Option Addr),e= .ref x/\s'.os=s.os/\AllBare s'.gens ∧
 Ai2 B outer x (.ref C) (.ref t) s'.heap/\Un (bg outer) [] H H' s.heap s'.heap/\cj P w H' s'.heap ∧
 (∀ b o,s'.heap.get? b=y0 o->((∃ u,H' b=y0 u)\/ ∃u,s.heap.get? b=y0 u)->b∉bg outer->B.get? b=y0 o)/\s.heap.get? x=u0/\(∀ dx,a=y0 dx-> ∃o,s'.heap.get? x=y0 o/\o.dict=y0 dx)/\E (.ref C) a H'
noncomputable def wF (C t:Addr) (a:Option Addr):Obj:= { cls:= .ref C,dict:=a,data:= .fields #[.ref t,.none,.none,.none,.bool y9,.none] }
section
variable {P:Program}{w:World}{K:Frag}{mg:Str->Option Value}{base:Heap}{N:List Str}{k7:Str}{scope:Scope}{f:Addr}{cd:Value}{A:Around}{outer:List Env}{s:Shared}{H:Hp}{E:XK}
def wB {y8:List (Addr×Obj)}{Y:St}{H1:Hp}{s2:Shared}{e C t:Addr}{od:Option Addr}(I:Inv (qD (bJ P w) P w K mg base N k7 scope f cd A outer s H E) y8 Y H1 s2)
 (he:s2.heap.get? e=y0 (wF C t od)) (new:s.heap.get? e=u0) (h0:H1 e=u0) (q:E (.ref C) od H1):(qD (bJ P w) P w K mg base N k7 scope f cd A outer s H E).xe (.ref e) s2:=by
 have ff:s2.heap.FunFrames base (envOfC k7 scope s.heap.objs.size f cd::outer):=I.stack
 have fb0:=funFrames_hide (as:=e::bg (envOfC k7 scope s.heap.objs.size f cd::outer)) ff λenv he a ha=>Aa5 _ (Ak5.mpr ⟨env,he,ha⟩)
 have free: ∀b∈bg (envOfC k7 scope s.heap.objs.size f cd::outer),H1 b=none:=I.bV
 have fe:e∉bg (envOfC k7 scope s.heap.objs.size f cd::outer):=λhm=>by
  obtain⟨_,o,ho,nf⟩:=ff.mem hm
  rw [he]at ho
  cases ho
  exact nf _ rfl
 refine wpAny_mono (JD (WA _ _) (wpAny_leaving_firstW (M:=model P w) (E:=λ_ _=>False)
  (Q:=λ_ s'=>Heap.LeftW (hideAll s2.heap (e::bg (envOfC k7 scope s.heap.objs.size f cd::outer))) (envOfC k7 scope s.heap.objs.size f cd::outer) e (.ref C) (.ref t) s2.heap s'.heap/\s'= { s2 with heap:=s'.heap })
  (a0:= .ref t) (L:=s.heap.objs.size) I.ok.frames fb0 rfl he (λb o z=>of_hideAll _ z) (hideAll_none _ (Aa8 ..)) rfl rfl rfl λh' hL=>⟨hL,rfl⟩)) (λ_ s' ⟨⟨hL,hs⟩,dk⟩=> ?_) (λ_ _ z=>z.1.elim)
 obtain⟨k1,k2,k3,x4⟩:=hL
 obtain⟨h2,g2,d2,t2,o2⟩:=s'
 simp only [Shared.mk.injEq]at hs
 obtain⟨-,rfl,rfl,rfl,rfl⟩:=hs
 have lK: ∀b o,s2.heap.get? b=y0 o->b≠e->b∉bg (envOfC k7 scope s.heap.objs.size f cd::outer)->(hideAll s2.heap (e::bg (envOfC k7 scope s.heap.objs.size f cd::outer))).get? b=y0 o:=λb o z ne n=>hideAll_get _ z (by rw [Ab7];exact λq=>q.elim ne n)
 have toH: ∀b o,s2.heap.get? b=y0 o->b≠e->b∉bg (envOfC k7 scope s.heap.objs.size f cd::outer)->h2.get? b=y0 o:=λb o z ne n=>k1 b o (lK b o z ne n)
 have slotH: ∀b o,b∈bg (envOfC k7 scope s.heap.objs.size f cd::outer)->s2.heap.get? b=y0 o-> ∃sl,h2.get? b=y0 { o with slots:=sl }:=λb o hb z=>by
  obtain⟨_,o',z',nf⟩:=ff.mem hb
  rw [z]at z'
  cases z'
  exact x4 b o z nf
 have cut: ∀b,b∉bg outer->b≠s.heap.objs.size->b∉bg (envOfC k7 scope s.heap.objs.size f cd::outer):=λb n1 n2 hb=>by
  rcases Ab7.mp (show b∈s.heap.objs.size::bg outer from hb)with z | z
  .exact n2 z
  .exact n1 z
 have old: ∀b o,s.heap.get? b=y0 o->b≠s.heap.objs.size:=λb o z=>Ab9 (Ab1 z)
 have olde: ∀b o,s.heap.get? b=y0 o->b≠e:=λb o z q=>by rw [q,new]at z;cases z
 have c8: ∀b u,H1 b=y0 u->b≠e/\b∉bg (envOfC k7 scope s.heap.objs.size f cd::outer):=λb u z=>⟨λq=>(by rw [q,h0]at z;cases z),λhb=>(by rw [free b hb]at z;cases z)⟩
 refine⟨e,C,t,_,H1,od,rfl,I.os,I.bare,⟨k1,hideAll_none _ (Aa8 ..),k2.2.2,k3⟩,⟨λb o z n hb hx=> ?_,λb o z n hb hx=> ?_,I.base.free,λb o z hx=> ?_,I.base.b3,I.base.bT,I.base.b9⟩,λb u z=> ?_,λb o z hc hb=> ?_,new,λdx z=> ?_,q⟩
 .exact toH b o (I.base.keep b o z n hb hx) (olde b o z) (cut b hb (old b o z))
 .obtain⟨sl,z1⟩:=I.base.slot b o z n hb hx
  obtain⟨sl2,z2⟩:=slotH b _ (Aa5 _ hb) z1
  exact⟨sl2,z2⟩
 .obtain⟨o',z1⟩:=I.base.there b o z hx
  by_cases hb:b∈bg (envOfC k7 scope s.heap.objs.size f cd::outer)
  .obtain⟨sl,z2⟩:=slotH b o' hb z1
   exact⟨_,z2⟩
  .exact⟨o',toH b o' z1 (olde b o z) hb⟩
 .refine(I.aD b u z).b8 (λc v hc z1=> ?_) (λ_ z1=>z1) λ_ _ z1=>z1
  rcases hc with rfl | hc
  .exact toH c v z1 (c8 c u z).1 (c8 c u z).2
  .exact toH c v z1 (c8 c _ hc).1 (c8 c _ hc).2
 .have two: ∃o2,s2.heap.get? b=y0 o2/\b≠e/\b∉bg (envOfC k7 scope s.heap.objs.size f cd::outer):=by
   rcases hc with⟨u,hu⟩ | ⟨u,hu⟩
   .obtain⟨o2,z2⟩:=(I.aD b u hu).there
    exact⟨o2,z2,c8 b u hu⟩
   .obtain⟨o2,z2⟩:=I.base.there b u hu (by show b∉([]:List Addr);simp)
    exact⟨o2,z2,olde b u hu,cut b hb (old b u hu)⟩
  obtain⟨o2,z2,nb⟩:=two
  have z3:=toH b o2 z2 nb.1 nb.2
  rw [show h2.get? b=y0 o from z]at z3
  cases z3
  exact lK b _ z2 nb.1 nb.2
 .obtain⟨o',e1,e2⟩:=dk e _ he
  exact⟨o',e1,e2.trans z⟩
def JO {b:List (Addr×Obj)}{Y:St}{g:Hp}{d:Shared}{h':Heap}{e C:Addr}{vs:List Value}(I:Inv (qD (bJ P w) P w K mg base N k7 scope f cd A outer s H E) b Y g d)
 (c:Heap.MadeExcOf d.heap h' e (.ref C) vs) (q:E (.ref C) u0 g):(qD (bJ P w) P w K mg base N k7 scope f cd A outer s H E).xe (.ref e) { d with heap:=h' }:=by
 obtain⟨t,h,_⟩:=c.there
 refine wB (I.kept (t':=d.toks) c.keeps) h ?_ ?_ q
 .cases z:s.heap.get? e with
  | none=>rfl
  | some u=>
   obtain⟨i,a⟩:=I.base.there e u z (by show e∉([]:List Addr);simp)
   rw [c.new]at a
   cases a
 .cases z:g e with
  | none=>rfl
  | some u=>
   obtain⟨i,a⟩:=(I.aD e u z).there
   rw [c.new]at a
   cases a
end
def uk {K:Frag}{h:Heap}{C:Addr}{b:List Value}{a:String}(X:K.In h) (q:excIn K C b a=k9):
 ∃bm L nm j bs i sn sub ab col dd k0 k1 k2 k3 k5 mN,h.get? C=some (excClassObj nm j C L bs bm i sn sub ab col dd k0 k1 k2 k3 k5 a)/\h.Ns L mN/\mN "__init__" =none/\OwnTail h b bm:=by
 unfold excIn at q
 split at q
 next dd cd k r=>
  split at q
  next s o k0 k1 k2 k3 nn k5 f p=>
   simp only [Aa1,beq_iff_eq,Ai7]at q
   obtain⟨⟨⟨⟨⟨rfl,rfl⟩,e1⟩,e2⟩,e⟩,g⟩:=q
   obtain⟨nm,bs,m,c,j,i,sn,sub,ab,col,n⟩:=cd
   dsimp only at f e1 e g
   subst f e1
   have d:k= #[k0,k1,k2,k3,y0 (.builtin nn),k5]:=by
    cases k with
    | mk l=>exact congrArg Array.mk p
   subst d
   exact⟨o,c,nm,j,bs,i,sn,sub,ab,col,dd,k0,k1,k2,k3,k5,_,X _ _ r,.of_isNs (isNs_of_in X e),nsMap_none_of_in X e g,tail_of_in X e2⟩
  next=>cases q
 next=>cases q
section
variable {P:Program}{w:World}{K:Frag}{mg:Str->Option Value}{base:Heap}{N:List Str}{k7:Str}{scope:Scope}{f:Addr}{cd:Value}{A:Around}{outer:List Env}{s:Shared}{H:Hp}{E:XK}
abbrev jv:List Value:= [.type "ValueError",.type "Exception",.type "BaseException",.type "object"]
def oI (C:Addr) (E:XK) (t:TA):TS:=λ_ Y H=>t Y H λa H1=>a.length<=sizeLine/\E (.ref C) u0 H1
def sP {x:Str}{V b pos:Pos}{e:Expr}{es:List Expr}{t:TA}{C:Addr}(Z:A.handled=none) (X:excIn K C jv "ValueError.__new__" =true) (R:mg x=some (.ref C)) (O:Gl (qD (bJ P w) P w K mg base N k7 scope f cd A outer s H E) x)
 (W:PA (qD (bJ P w) P w K mg base N k7 scope f cd A outer s H E) (e::es) t)
 (v:starEach (e::es) (envOfC k7 scope s.heap.objs.size f cd)=(y9,eval e (envOfC k7 scope s.heap.objs.size f cd))::starEach es (envOfC k7 scope s.heap.objs.size f cd):=by rfl)
 (n:(backTo b (starEach es (envOfC k7 scope s.heap.objs.size f cd))).any (·.1)=false:=by rfl) (U:(x==("__debug__" :Str))=false:=by decide):
 PS (qD (bJ P w) P w K mg base N k7 scope f cd A outer s H E) (.Raise (y0 (.Call (.Name x V) (e::es) [] b)) u0 pos) (oI C E t):=by
 intro g k Y M D I h
 obtain⟨F,Na,p,qn,bs,j,G,sub,y,d,dd,o,J,B,L,r,u,S,hN,m,T⟩:=uk I.mod.fJ X
 refine wpAny_Raise_call_subT (C:=C) (nm:=p) (q:=qn) (N:=Na) (bs:=bs) (bm:=F) (hdct:=j) (sn:=G) (sub:=sub) (ab:=y) (col:=d) (dd:=dd) (k0:=o) (k1:=J) (k2:=B) (k3:=L) (k5:=r)
  PySem.F.excBase_ValueError (mN:=u) (T.hasType PySem.F.excBase_ValueError.hasBase) Z ?_ m (Zm I O R ⟨rfl,?_⟩ U)
 .show(backTo b (starEach (e::es) (envOfC k7 scope s.heap.objs.size f cd))).any (·.1)=y9
  rw [v]
  show(y9||(backTo b (starEach es (envOfC k7 scope s.heap.objs.size f cd))).any (·.1))=y9
  rw [n]
  rfl
 .have hA:=W b g k Y M _ I h
  show wpAny (model P w) _ (evalArgs (.ref C) k9 (backTo b (starEach (e::es) (envOfC k7 scope s.heap.objs.size f cd))) []) _ _ k
  have c:wpAny (model P w) (A.deeper (envOfC k7 scope s.heap.objs.size f cd)) (spliced (backTo b (starEach (e::es) (envOfC k7 scope s.heap.objs.size f cd)))) _ _ k:=hA
  rw [v]at c ⊢
  exact Calls.evalArgs_plain (aE c λus s2 ⟨vs,H2,i,r2,z,Q⟩=>⟨rfl,by show us.length<=sizeLine;rw [← r2.length];exact z,i.bk _ _ S,hN.keeps i.bk,T.keeps i.bk,λh' a l=>JO i l Q⟩)
def gK.oa {P:Program}{w:World}{K:Frag}{mg:Str->Option Value}{base:Heap}{x b:Str}{st:Stmt}{f:Addr}{i:FuncData}{N h:List Str}{k:Nat}{sp:Sp}(F:gK K x b st f i) (S:Zq N h (jf st)) (len: ∀vs H Q E,sp vs H Q E->vs.length=h.length)
 (d: ∀(c:Value) (A:Around) (a:List Env) (s:Shared) (H:Hp) (vs:List V) (Q:VK) (E:XK),aR k (A.deeper (envOfC b (jf st) s.heap.objs.size f c))->sp vs H Q E →
   ∃t,cD (qD (bJ P w) P w K mg base N b (jf st) f c A a s H E) (Ju st) t/\t { nx:=λ_ H'=>Q .ai H',rt:=Q } (Ww N vs) H):aW P w K mg base (bJ P w) (k+1) f i h sp:=by
 obtain⟨o,q,kV,m,p,u,c,r,l,rfl,j,e⟩:=F.ex
 exact u4 j e S len λA a s H vs Q E n g=>d c A a s H vs Q E n g
def Bw:PassesOwn (model P w) (A.deeper (envOfC k7 scope s.heap.objs.size f cd)) (envOfC k7 scope s.heap.objs.size f cd) (qD (bJ P w) P w K mg base N k7 scope f cd A outer s H E).xe:=
 PassesOwn.leaving (M:=model P w) (A:=A.deeper (envOfC k7 scope s.heap.objs.size f cd)) (env:=envOfC k7 scope s.heap.objs.size f cd) (Q₁:=λe a=>bJ P w outer H s E e a) (E₁:=λb a=>bJ P w outer H s E b a)
end
section
variable {X:Cx}{y8:List (Addr×Obj)}{Y:St}{H:Hp}{s:Shared}
def Inv.fh {k:St}{h':Heap}{l:Str->Option Value}{t':Nat}(I:Inv X y8 Y H s) (d:Ag1 X.env.locals s.heap h') (t:h'.Ns X.env.locals l)
 (A: ∀(i:Nat) (x:Str) (v:V),X.N[i]? =y0 x->k[i]? =y0 (y0 v)->gw X.env.scope x-> ∃u,RelV v u/\n8 X.env h' l x u) (len:k.length=X.N.length):Inv X y8 k H { s with heap:=h',toks:=t' }:=by
 have a: ∀b o,X.s₀.heap.get? b=y0 o->b≠X.env.locals:=λb o e=>Ab9 (Ab3 (Ab1 e) I.ok.above)
 refine⟨I.ok,I.os,I.bare,⟨λb o e n j h=>(d.2 b (a b o e)).trans (I.base.keep b o e n j h),λb o e n j h=> ?_,I.base.free,λb o e h=> ?_,I.base.b3,I.base.bT,I.base.b9⟩,⟨l,t,A⟩,λy c e=> ?_,I.free,I.aZ,λp q=> ?_,λb u e=> ?_,len⟩
 .obtain⟨m,e1⟩:=I.base.slot b o e n j h
  exact⟨m,(d.2 b (a b o e)).trans e1⟩
 .obtain⟨w,e1⟩:=I.base.there b o e h
  exact⟨w,(d.2 b (a b o e)).trans e1⟩
 .obtain⟨v,z⟩:=I.cell y c e
  exact⟨v,z.sameBut d (I.eY y c e)⟩
 .obtain⟨e,n,ne,r⟩:=I.pin p q
  exact⟨(d.2 p.1 ne).trans e,n,ne,r⟩
 .refine(I.aD b u e).b8 (λc v f z=>(d.2 c ?_).trans z) (λ_ z=>z) λ_ _ z=>z
  intro g
  rcases f with f | f
  .rw [← f,g,I.free]at e;cases e
  .rw [g,I.free]at f;cases f
def Inv.gq {D:Addr}{o:HO}(I:Inv X y8 Y H s) (l:H D=u0) (h1:D≠X.env.locals) (i: ∀x c,X.env.cells.lookup x=y0 c->c≠D) (r: ∀p∈X.pn++y8,p.1≠D) (d: ∀b u,X.s₀.heap.get? b=y0 u->b≠D)
 (new:aI X.prog X.w (ax H D o) s.heap D o):Inv X y8 Y (ax H D o) s:=by
 have a: ∀b u,H b=y0 u->ax H D o b=y0 u:=λb u q=>by rw [qa (ja q l)];exact q
 refine⟨I.ok,I.os,I.bare,⟨I.base.keep,I.base.slot,λb u e n t=> ?_,I.base.there,λb h q=>a b _ (I.base.b3 b h q),λb u v q=>a b _ (I.base.bT b u v q),λb m q=> ?_⟩,I.loc,I.cell,?_,λx c q=> ?_,λp g=> ?_,λb u q=> ?_,I.len⟩
 .rw [qa (d b u e)];exact I.base.free b u e n t
 .obtain⟨more,k⟩:=I.base.b9 b m q
  exact⟨more,a b _ k⟩
 .rw [qa (Ne.symm h1)];exact I.free
 .rw [qa (i x c q)];exact I.aZ x c q
 .obtain⟨j,a2,a3⟩:=I.pin p g
  exact⟨j,by rw [qa (r p g)];exact a2,a3⟩
 .by_cases f:b=D
  .subst f
   rw [Qa]at q
   cases q
   exact new
  .rw [qa f]at q
   exact(I.aD b u q).b8 (λ_ _ _ z=>z) (λc z=>a c _ z) λc h z=>a c _ z
def tm {M:Model}{A:Around}{E:Value->Shared->Prop}{Q:Unit->Shared->Prop}{i:Nat}{n:Str}{D:Pos}(I:Inv X y8 Y H s) (B:X.N.Nodup) (p:X.N[i]? =y0 n) (q:X.env.scope.names.lookup n=y0 .local)
 (h: ∀s',Inv X y8 (Y.set i u0) H s'->Q () s'):wpAny M A (do bindName X.env n .none;unbindBehindTheSuite X.env n D) Q E s:=by
 have g:(X.env.scope.kind== .class||(X.env.scope.kind== .module&&X.env.locals != X.env.globals))=false:=by rw [I.ok.kind];rfl
 have x:X.env.kindOf n=y0 .local:=q
 have f:i<Y.length:=by rw [I.len];exact(Ab.mp p).1
 refine wpAny_bind (wpAny_bindName (Ql I B p (.inl q) (v:= .ai) rfl (λC w=> ?_) (.inr q)))
 obtain⟨m,F,a⟩:=w.loc
 have d:(m n).isSome=true:=by
  obtain⟨u,_,l⟩:=a i n .ai p (Ac1 f) (.inl q)
  rcases l with⟨_,e⟩ | ⟨z,_⟩
  .rw [e];rfl
  .rcases z with z | z<;>(rw [x]at z;cases z)
 unfold unbindBehindTheSuite
 refine wpAny_onRaise ?_
 unfold unbindName
 refine wpAny_bind (wpAny_point (wpAny_bind ?_))
 unfold deleteName
 simp only [x,g]
 rw [if_neg (by decide)]
 refine wpAny_bind (wpAny_nsDel_keeps F λK v t o=> ?_)
 rw [d]
 refine wpAny_pure (wpAny_point (h _ ?_))
 refine w.fh (t':=C.toks) o t (λj y G e1 e2 J=> ?_) (by rw [Ac9];exact I.len)
 have b:j≠i:=λz=>by
  subst z
  rw [Ac1 f]at e2
  cases e2
 rw [Ac6 (Ne.symm b)]at e2
 obtain⟨u,r,l⟩:=a j y G e1 (by rw [Ac6 (Ne.symm b)];exact e2) J
 refine⟨u,r,?_⟩
 rcases l with⟨k,e⟩ | ⟨k,c,e,z⟩
 .refine .inl ⟨k,?_⟩
  have:y≠n:=λe=>b (jD B e1 (e▸p))
  simp [this,e]
 .exact .inr ⟨k,c,e,z.sameBut o (w.eY y c e)⟩
end
def XN {prog:Program}{w:World}{A:Around}{E:Value->Shared->Prop}{s:Shared}{K:Frag}{x C W:Addr}{Q:Bool->Shared->Prop}(X:K.In s.heap) (I:ExcAt s.heap x C) (z:kitCls K (.ref C) (.ref W)=some true) (hb:mroIn K W (.type "BaseException")=some true) (d:Q true s):
 wpAny (model prog w) A (excMatches (.ref x) (.ref W)) Q E s:=by
 obtain⟨a,h,dd,f,k⟩:=s
 obtain⟨e,b,j⟩:=kit_cls (M:=model prog w) X z
 have c:=looks_mroIn (M:=model prog w) X hb
 have Le:=I.type (M:=model prog w)
 have g:Looks (model prog w) a (isInstance (.ref W) (.type "tuple")) false:=e.andThen (Looks.of_pure tc_notTuple)
 have i:Looks (model prog w) a (isExcClass (.ref W)) true:=b.andThen c
 unfold excMatches
 repeat lk
 exact d
def qP {X:Cx}{d:List (Addr×Obj)}{Y:St}{q H':Hp}{k s':Shared}{B h6:Heap}{x C t:Addr}(j:Inv X d Y q k) (y:s'.os=k.os) (h:AllBare s'.gens) (un:Un (bg X.stack) [] q H' k.heap s'.heap) (m:cj X.prog X.w H' s'.heap)
 (comp: ∀b o,s'.heap.get? b=y0 o->((∃ u,H' b=y0 u)\/ ∃u,k.heap.get? b=y0 u)->b∉bg X.stack->B.get? b=y0 o) (g:Ai2 B X.stack x (.ref C) (.ref t) h6) (s:s'.heap.UpToSlots h6):Inv X d Y H' { s' with heap:=h6 }:=by
 have c8: ∀c u,H' c=y0 u->c∉bg X.stack:=λc u z f=>by
  obtain⟨_,o,e,_⟩:=j.stack.mem f
  have:=un.free c o e (j.bV c f) (by simp)
  rw [this]at z
  cases z
 refine j.fK (s':= { s' with heap:=h6 }) (ch:= []) y ⟨λb o e n a i=> ?_,λb o e n a i=> ?_,un.free,λb o e i=> ?_,un.b3,un.bT,un.b9⟩ (λb u e=> ?_) h λb a=>absurd a (by simp)
 .exact g.1 b o (comp b o (un.keep b o e n a i) (.inr ⟨o,e⟩) a)
 .obtain⟨D,e1⟩:=un.slot b o e n a i
  obtain⟨_,l,e2,r⟩:=j.stack.mem a
  rw [e]at e2
  cases e2
  obtain⟨p,A⟩:=s b _ e1 r
  exact⟨p,A⟩
 .obtain⟨l,e1⟩:=un.there b o e i
  by_cases a:b∈bg X.stack
  .obtain⟨_,w,e2,_⟩:=g.2.2.1.mem a
   exact⟨w,e2⟩
  .exact⟨l,g.1 b l (comp b l e1 (.inr ⟨o,e⟩) a)⟩
 .refine(m b u e).b8 (λc v f z=> ?_) (λ_ z=>z) λ_ _ z=>z
  rcases f with rfl | f
  .exact g.1 c v (comp c v z (.inl ⟨u,e⟩) (c8 c u e))
  .exact g.1 c v (comp c v z (.inl ⟨_,f⟩) (c8 c _ f))
def xN {M:Model}{A:Around}{E:Value->Shared->Prop}{s:Shared}{t:Sem Unit}{R:Heap->Prop}{Q:Unit->Shared->Prop}(k:KD t) (h: ∀Q':Unit->Shared->Prop,(∀ h',R h'->Q' () { s with heap:=h' })->wpAny M A t Q' E s) (g: ∀h',R h'->DK s.heap h'->Q () { s with heap:=h' }):wpAny M A t Q E s:=
 wpAny_mono (JD k (h (λ_ a=> ∃h',a= { s with heap:=h' }/\R h') λh' r=>⟨h',rfl,r⟩)) (λ_ a ⟨⟨h',e,r⟩,b⟩=>by subst e;exact g h' r b) (λ_ _ z=>z.1)
def aW.calm {P:Program}{w:World}{K:Frag}{mg:Str->Option Value}{base:Heap}{k:Nat}{f:Addr}{g:FuncData}{e:List Str}{sp d:Sp}(F:aW P w K mg base (bJ P w) k f g e sp)
 (h: ∀vs H Q E,d vs H Q E->sp vs H Q (λ_ _ _=>False)):aW P w K mg base gS k f g e d:=by
 refine⟨λvs H Q E q=>F.len vs H Q _ (h _ _ _ _ q),λA a s H b o vs Q E p l i n m=>codeAny_mono (F.run A a s H b o vs Q _ p l i n (h _ _ _ _ m)) λres y c=> ?_⟩
 cases res with
 | ok r=>
  cases r with
  | ret u=>exact c
  | next=>exact c
  | brk=>exact c
  | cont=>exact c
 | error z=>
  obtain⟨x,C,t,B,v,_,_,_,_,_,_,_,_,_,_,j⟩:=c
  exact j
def B6:bootBuiltins "ValueError" =some (.type "ValueError"):=by decide +kernel
noncomputable def gj (x:Str):It:=⟨λi _=> ∃c,x.cps[i]? =y0 c,λi H y H'=>H'=H/\ ∃c,x.cps[i]? =y0 c/\y= .str ⟨#[c]⟩,λi _=>x.cps[i]? =u0⟩
def XV {P:Program}{w:World}{K:PySem.W.Frag}{tg:Expr}(it:Addr) (x:Str) (t:Tok):fH P w K tg (gj x) [it] it (λi h=>h.IsStrIter it "str_ascii_iterator" x t i) where
 mem:=by simp
 obj:=λi h a b g=>by
  have e:b=it:=by simpa using g
  subst e
  obtain⟨o,e,c,d⟩:=a
  exact⟨o,e,λv z=>by rw [d]at z;cases z⟩
 keep:=λi h l a k=>by
  obtain⟨o,e,c,d⟩:=a
  exact⟨o,k it (by simp) o e,c,d⟩
 item:=by
  intro X y B C D i f s Y H E I m a n
  subst y B C
  obtain⟨c,F⟩:=n
  obtain⟨u,p,L,q,r,A⟩:=m it (by simp)
  refine wpAny_pyNext_ascii_item a F λl j M=> ?_
  have J:Inv X f Y H { s with heap:=l,toks:=s.toks+1 }:=I.turned (t':=s.toks+1) (λb o g e=>(M.2 b g).trans e) u p q r A
  obtain⟨o,e,N,d⟩:=id j
  exact⟨_,rfl,W4 (s:= { s with heap:=l,toks:=s.toks+1 }) e N d (by decide) ⟨.str ⟨#[c]⟩,H,J,⟨_,rfl⟩,⟨rfl,c,F,rfl⟩,j,λb g=>(m b g).1⟩⟩
 done:=by
  intro X y B C D i f s Y H E I m a n
  subst y B C
  obtain⟨u,p,L,q,r,A⟩:=m it (by simp)
  exact wpAny_pyNext_ascii_end (I.ok.hd D) a n λl G=>⟨rfl,I.turned (t':=s.toks) (λb o g e=>G b o g e) u p q r A⟩
 self:=λ_ _ _ _ _ a h=>wpAny_pyIter_striter_ascii a h
def q0 {P:Program}{w:World}{K:PySem.W.Frag}{tg:Expr}(it:Addr) (x:Str) (t:Tok):fH P w K tg (gj x) [it] it (λi h=>h.IsStrIter it "str_iterator" x t i) where
 mem:=by simp
 obj:=λi h a b g=>by
  have e:b=it:=by simpa using g
  subst e
  obtain⟨o,e,c,d⟩:=a
  exact⟨o,e,λv z=>by rw [d]at z;cases z⟩
 keep:=λi h l a k=>by
  obtain⟨o,e,c,d⟩:=a
  exact⟨o,k it (by simp) o e,c,d⟩
 item:=by
  intro X y B C D i f s Y H E I m a n
  subst y B C
  obtain⟨c,F⟩:=n
  obtain⟨u,p,L,q,r,A⟩:=m it (by simp)
  refine wpAny_pyNext_wide_item a F λl j M=> ?_
  have J:Inv X f Y H { s with heap:=l,toks:=s.toks+1 }:=I.turned (t':=s.toks+1) (λb o g e=>(M.2 b g).trans e) u p q r A
  obtain⟨o,e,N,d⟩:=id j
  exact⟨_,rfl,W4 (s:= { s with heap:=l,toks:=s.toks+1 }) e N d (by decide) ⟨.str ⟨#[c]⟩,H,J,⟨_,rfl⟩,⟨rfl,c,F,rfl⟩,j,λb g=>(m b g).1⟩⟩
 done:=by
  intro X y B C D i f s Y H E I m a n
  subst y B C
  obtain⟨u,p,L,q,r,A⟩:=m it (by simp)
  exact wpAny_pyNext_wide_end (I.ok.hd D) a n λl G=>⟨rfl,I.turned (t':=s.toks) (λb o g e=>G b o g e) u p q r A⟩
 self:=λ_ _ _ _ _ a h=>wpAny_pyIter_striter_wide a h
def tj (K:Aa3) (tl:TE):TI:=λY H R=>tl Y H λx H1=>(∃ a,x= .ref a/\(∃ xs,aY K H1 a xs)/\R (gO K a) H1)\/(∃ a,x= .ref a/\(∃ xs,bK K H1 a xs)/\R (gT K a) H1)\/ ∃z,x= .str z/\R (gj z) H1
def lx {X:Cx}{tg l:Expr}{tl:TE}(y:PE X l tl):PI X tg l (tj X.K tl):=by
 intro i s Y H R I h
 refine aE (y i s Y H _ I h) ?_
 rintro v c ⟨x,j,d,m,r⟩
 rcases r with⟨a,e,⟨u,k⟩,q⟩ | ⟨a,e,⟨u,k⟩,q⟩ | ⟨z,e,q⟩
 .subst e
  cases m
  obtain⟨g,rv,p,w⟩:=d.list k
  refine wpAny_pyIter_list p.isList ?_
  refine⟨c.heap.objs.size,[c.heap.objs.size],_,_,j,rfl,d.kept (t':=c.toks) λb o e=>Aa2 _ e,q3 a _,⟨_,Ab6 _ rfl,rfl,rfl⟩,λb f=> ?_,q⟩
  have e:b=c.heap.objs.size:=by simpa using f
  subst e
  exact d.cC (Aa6 _) (d.aD.fresh (Aa6 _))
 .subst e
  cases m
  obtain⟨g,rv,p,w⟩:=d.tuple k
  refine wpAny_pyIter_tuple (show c.heap.IsTuple a g.toArray from p) ?_
  refine⟨c.heap.objs.size,[c.heap.objs.size],_,_,j,rfl,d.kept (t':=c.toks) λb o e=>Aa2 _ e,QX a _,⟨_,Ab6 _ rfl,rfl,rfl⟩,λb f=> ?_,q⟩
  have e:b=c.heap.objs.size:=by simpa using f
  subst e
  exact d.cC (Aa6 _) (d.aD.fresh (Aa6 _))
 .subst e
  obtain⟨t,rfl⟩:=m
  cases n:z.cps.all (· <128)with
  | true=>
   refine wpAny_pyIter_ascii n ?_
   refine⟨c.heap.objs.size,[c.heap.objs.size],_,_,j,rfl,d.kept (t':=c.toks) λb o e=>Aa2 _ e,XV _ z t,⟨_,Ab6 _ rfl,rfl,rfl⟩,λb f=> ?_,q⟩
   have e:b=c.heap.objs.size:=by simpa using f
   subst e
   exact d.cC (Aa6 _) (d.aD.fresh (Aa6 _))
  | false=>
   refine wpAny_pyIter_wide n ?_
   refine⟨c.heap.objs.size,[c.heap.objs.size],_,_,j,rfl,d.kept (t':=c.toks) λb o e=>Aa2 _ e,q0 _ z t,⟨_,Ab6 _ rfl,rfl,rfl⟩,λb f=> ?_,q⟩
   have e:b=c.heap.objs.size:=by simpa using f
   subst e
   exact d.cC (Aa6 _) (d.aD.fresh (Aa6 _))
section
variable {X:Cx}
def Vals.iE {xs:List V}{us:List Value}(r:Vals xs us){i:Nat}{u:Value}(h:us[i]? =y0 u): ∃x,xs[i]? =y0 x/\RelV x u:=by
 have d:=r.length
 have e:i<us.length:=(Ab.mp h).1
 have a:i<xs.length:=by omega
 obtain⟨f,b,c⟩:=r.get (Ab2 a)
 rw [h]at b
 cases b
 exact⟨_,Ab2 a,c⟩
def Q2 (bs:List Bool):(Aa7 bs.length).all (λi=>bs.getD i y9)=bs.all id:=by
 induction bs with
 | nil=>rfl
 | cons b bs a=>
  rw [Ab0,Ah4,Ah2,List.all_map,Ah2,←a]
  rfl
def Q1 (bs:List Bool):(Aa7 bs.length).any (λi=>bs.getD i y9)=bs.any id:=by
 induction bs with
 | nil=>rfl
 | cons b bs a=>
  rw [Ab0,Ah4,Ae7,List.any_map,Ae7,←a]
  rfl
def qJ {P:Program}{w:World}{A:Around}{bs:List Bool}{a:List Value}(r:Vals (bs.map V.bl) a):TruthOf P w A (λi v=>a.toArray[i]? =y0 v) (λi=>bs.getD i y9):=by
 intro i v s Q E g h
 obtain⟨x,c,f⟩:=r.iE (by simpa using g)
 rw [Ad9]at c
 cases d:bs[i]? with
 | none=>rw [d]at c;cases c
 | some b=>
  rw [d]at c
  cases c
  cases f
  refine wpAny_truthy_bool ?_
  have e:bs.getD i y9=b:=by rw [Ae2,d];rfl
  rw [← e]
  exact h
def J4 (w:X.calm=k9):Wn X (.builtin "all") (fun xs H Q=> ∃p,∃bs:List Bool,xs= [.ref p]/\aY X.K H p (bs.map V.bl)/\Q (.bl (bs.all id)) H):=by
 intro c s Y H xs x Q I r h
 obtain⟨p,bs,rfl,t,q⟩:=h
 obtain⟨u,rfl,v⟩:=qN r
 cases v
 obtain⟨g,rv,f,y⟩:=I.list t
 have a:=rv.length
 rw [Aa0]at a
 refine call_all_walk (wpAny_pyIter_list f.isList ?_)
 have d:p≠s.heap.objs.size:=by
  obtain⟨o,l,_⟩:=f.isList
  exact Ab9 (Ab1 l)
 refine⟨s.heap.objs.size,_,_,_,_,_,λi=>bs.getD i y9,rfl,Walks.list (A:=X.A.in1) (I.ok.hd w) _ p d g.toArray,⟨⟨_,Ab6 _ rfl,rfl,rfl⟩,f.isList.at λo e=>Aa2 _ e⟩,qJ rv,λn j m=> ?_⟩
 have k:Inv X c Y H { s with heap:=n,toks:=j }:=I.kept (t':=j) λb o e=>m b o (by simp;exact Ab9 (Ab1 e)) (Aa2 _ e)
 refine⟨.bl _,H,k,?_,q⟩
 show _=_
 rw [Aa9,←a,Q2]
def Z5 (w:X.calm=k9):Wn X (.builtin "any") (fun xs H Q=> ∃p,∃bs:List Bool,xs= [.ref p]/\aY X.K H p (bs.map V.bl)/\Q (.bl (bs.any id)) H):=by
 intro c s Y H xs x Q I r h
 obtain⟨p,bs,rfl,t,q⟩:=h
 obtain⟨u,rfl,v⟩:=qN r
 cases v
 obtain⟨g,rv,f,y⟩:=I.list t
 have a:=rv.length
 rw [Aa0]at a
 refine call_any_walk (wpAny_pyIter_list f.isList ?_)
 have d:p≠s.heap.objs.size:=by
  obtain⟨o,l,_⟩:=f.isList
  exact Ab9 (Ab1 l)
 refine⟨s.heap.objs.size,_,_,_,_,_,λi=>bs.getD i y9,rfl,Walks.list (A:=X.A.in1) (I.ok.hd w) _ p d g.toArray,⟨⟨_,Ab6 _ rfl,rfl,rfl⟩,f.isList.at λo e=>Aa2 _ e⟩,qJ rv,λn j m=> ?_⟩
 have k:Inv X c Y H { s with heap:=n,toks:=j }:=I.kept (t':=j) λb o e=>m b o (by simp;exact Ab9 (Ab1 e)) (Aa2 _ e)
 refine⟨.bl _,H,k,?_,q⟩
 show _=_
 rw [Aa9,←a,Q1]
def et:List Int->Int
 | []=>0
 | i::r=>i+et r
theorem wK: ∀(xs:List Int) (x:Int),et (xs++ [x])=et xs+x
 | [],x=>by simp [et]
 | y::a,x=>by
  show y+et (a++ [x])=y+et a+x
  rw [wK a x];omega
theorem zw (ns:List Int): ∀j,j<=ns.length->preSum (λi=>ns.getD i 0) j=et (ns.take j)
 | 0,_=>rfl
 | j+1,h=>by
  rw [preSum,zw ns j (by omega),List.take_succ,Ab2 (by omega)]
  show _=et (ns.take j++ [ns[j]])
  rw [wK,Ae2,Ab2 (by omega)]
  rfl
end
section
variable {X:Cx}
theorem Jx: ∀ {a:List Str}{us:List Value},Vals (a.map V.str) us->StrsAre us a
 | [],us,r=>by cases r;exact .nil
 | z::a,us,r=>by
  cases r with
  | cons h t=>
   obtain⟨k,rfl⟩:=h
   exact .cons _ _ (Jx t)
theorem pb: ∀ {us:List Value}{a:List Str},StrsAre us a->Vals (a.map V.str) us
 | _,_,.nil=> .nil
 | _,_,.cons _ _ h=> .cons ⟨_,rfl⟩ (pb h)
def jH:Wn X (.builtin "sorted") (fun xs H Q=> ∃p,∃j:List Str,xs= [.ref p]/\aY X.K H p (j.map V.str)/\j.length<64/\ ∀i,i.Perm j->sortedS i=true-> ∀l,H l=none->Q (.ref l) (ax H l (.lst (i.map V.str)))):=by
 intro f s Y H xs y Q I r h
 obtain⟨p,j,rfl,t,x,q⟩:=h
 obtain⟨u,rfl,v⟩:=qN r
 cases v
 obtain⟨d,rv,k,g⟩:=I.list t
 have c:=rv.length
 rw [Aa0]at c
 refine sorted_strs k.isList (Jx rv) (by omega) λa i m a2 a3=> ?_
 obtain⟨e,n⟩:=sortedAll_at s.heap d a
 have w:i.length<=sizeLine:=by rw [a2.length_eq];rw [Aa0]at g;exact g
 refine⟨.ref (s.heap.objs.size+1),_,I.laid (t':=s.toks) (λb o e=>sortedAll_old e) (Ad3 _) (show aI X.prog X.w _ _ _ (.lst (i.map V.str))from⟨by rw [Aa0];exact w,a.toList,e,pb m,by simpa [seqObj]using n⟩),rfl,q i a2 a3 _ (I.aD.fresh (Ad3 _))⟩
end
section
variable {X:Cx}
def eE (x:Str) (n:Nat):Str:=⟨(Aa n x.cps).foldl (· ++ ·) #[]⟩
theorem QL {c:Type}: ∀(n:Nat) (a b:Array c),((Aa n a).foldl (· ++ ·) b).toList=b.toList++(Aa n a.toList).flatten
 | 0,a,b=>by simp
 | n+1,a,b=>by
  rw [Ac3,Ah1,QL n,Ac3,Ad4]
  simp
def Zx (x:Str) (n:Nat):(eE x n).cps.toList=(Aa n x.cps.toList).flatten:=by
 unfold eE
 rw [QL]
 simp
def tY (x:Str) (n:Nat):(eE x n).length=x.length*n:=by
 show(eE x n).cps.size=x.cps.size*n
 rw [← Af3,Zx]
 simp [Nat.mul_comm]
def n5 {a b:Str}(h:a.cps.toList=b.cps.toList):a=b:=by
 cases a;cases b
 simp only [Str.mk.injEq]
 exact Array.toList_inj.mp h
def sd:br X (binaryOp .Mult) (λx y H Q=> ∃z k,x= .str z/\y= .int k/\0<=k/\k<=1000/\z.length*k.toNat<=1000000/\Q (.str (eE z k.toNat)) H):=by
 intro y8 s Y H x y v u Q I rx ry h
 obtain⟨z,k,rfl,rfl,h0,h1,hl,q⟩:=h
 obtain⟨t,rfl⟩:=rx
 obtain⟨t',rfl⟩:=ry
 have hsz:(eE z k.toNat).length<=sizeLine:=by rw [tY];exact Ac0 hl (by decide)
 refine P.mul_str (by
  have a: ¬k< -(2 ^ 63:Int):=by omega
  have b: ¬k>=2 ^ 63:=by omega
  rw [decide_eq_false a,decide_eq_false b];rfl) (λc1 c2=> ?_) (λc1 c2=> ?_) ?_
 .have hk:1<=k:=by omega
  have:(2:Int) ^ 63-1>=(z.length:Int)*k:=by
   have e:((z.length*k.toNat:Nat):Int)=(z.length:Int)*k:=by rw [Aj9,Af7 h0]
   have:=hl
   omega
  have:=Int.le_ediv_of_mul_le (a:=(z.length:Int)) (b:=2 ^ 63-1) (c:=k) (by omega) (by omega)
  omega
 .unfold Builtin.Str.tooLong
  exact decide_eq_false (by have:sizeLine>=1000000:=by decide
                            omega)
 .by_cases c1:k<1
  .have hk:k=0:=by omega
   subst hk
   rw [if_pos c1]
   exact⟨by decide,.str (eE z 0),H,I.kept (t':=s.toks+1) λb o e=>e,⟨_,rfl⟩,q⟩
  .rw [if_neg c1]
   by_cases c2:(k==1||z.length==0)=k9
   .rw [if_pos c2]
    have e:eE z k.toNat=z:=by
     apply n5
     rw [Zx]
     rcases Bool.or_eq_true_iff.mp c2 with c | c
     .have:k=1:=by simpa using c
      subst this
      simp
     .have:z.cps.toList= []:=by
       have c:z.length=0:=by simpa using c
       have c:z.cps.size=0:=c
       rw [← Af3]at c
       exact Ae0 c
      rw [this]
      simp
    rw [e]at q
    exact⟨.str z,H,I,⟨t,rfl⟩,q⟩
   .rw [if_neg c2]
    exact⟨hsz,.str (eE z k.toNat),H,I.kept (t':=s.toks+1) λb o e=>e,⟨_,rfl⟩,q⟩
def vL:br X (binaryOp .Add) (λx y H Q=> ∃a b ys,x= .ref a/\y= .ref b/\bK X.K H a []/\bK X.K H b ys/\Q (.ref b) H):=by
 intro p s Y H x y v u Q I F E h
 obtain⟨a,b,ys,rfl,rfl,B,t,q⟩:=h
 cases F
 cases E
 obtain⟨w,G,A,_⟩:=I.tuple B
 obtain⟨e,K,J,_⟩:=I.tuple t
 cases G
 obtain⟨⟨C,dd,r,D⟩,k,m,n,l⟩:=id A
 obtain⟨⟨o,j,g,i⟩,f,d,z,c⟩:=id J
 simp only at m l d c
 subst m l d c
 exact concat_meets ⟨_,k,rfl⟩ ⟨_,f,rfl⟩ noFill_tuple_add seq_tuple_add PySem.F.slot_tuple_add PySem.F.entry_tuple_add (PySem.F.args_tuple_add_2 _ _)
  (tuple_addW0 a b _ e.toArray n z dd j D i (by simp)) ⟨k,f,.ref b,H,I,rfl,q⟩
def Z2 (G:X.calm=k9):Wn X (.builtin "sum") (fun xs H Q=> ∃p,∃ns:List Int,xs= [.ref p]/\aY X.K H p (ns.map V.int)/\Q (.int (et ns)) H):=by
 intro g s Y H xs J Q I r h
 obtain⟨p,ns,rfl,D,q⟩:=h
 obtain⟨u,rfl,E⟩:=qN r
 cases E
 obtain⟨l,rv,k,K⟩:=I.list D
 have a:=rv.length
 rw [Aa0]at a
 refine call_sum_walkG (wpAny_pyIter_list k.isList ?_)
 have d:p<s.heap.objs.size:=by
  obtain⟨o,y,_⟩:=k.isList
  exact Ab1 y
 have j:s.heap.objs.size<(s.heap.push { cls:= .type "list_iterator",data:= .fields #[.ref p,.int 0 0] }).objs.size:=Heap.lt_size (Heap.get?_push_size _ rfl)
 refine⟨s.heap.objs.size,_,_,_,_,_,λi=>ns.getD i 0,rfl,Walks.list (A:=X.A.in1) (I.ok.hd G) _ p (Ab9 d) l.toArray,⟨⟨_,Ab6 _ rfl,rfl,rfl⟩,k.isList.at λo e=>Aa2 _ e⟩,λb c=> ?_,λi v F=> ?_,λC m n z=> ?_⟩
 .simp only [Ab7,Al3,or_false]at c
  rcases c with rfl | rfl
  .exact j
  .exact Nat.lt_trans d j
 .obtain⟨x,f,B⟩:=rv.iE (by simpa using F)
  rw [Ad9]at f
  cases c:ns[i]? with
  | none=>rw [c]at f;cases f
  | some b=>
   rw [c]at f
   cases f
   obtain⟨t,rfl⟩:=B
   exact⟨t,by show Value.int b t=Value.int (ns.getD i 0) t;rw [Ae2,c];rfl⟩
 .have w:Inv X g Y H { s with heap:=C,toks:=m }:=I.kept (t':=m) λb o e=>z b o (by simp;exact Ab9 (Ab1 e)) (Aa2 _ e)
  refine⟨.int (et ns),H,w,⟨n,?_⟩,q⟩
  rw [Aa9,←a,zw ns _ (Aa6 _),Al2]
def zt (a:Option Int) (d n:Nat) (b:d<=n):(match a with | none=>(d:Int) | some i=>max 0 (min (if i<0 then i+n else i) n))=((HT.aC n d a:Nat):Int)/\HT.aC n d a<=n:=by
 cases a with
 | none=>exact⟨rfl,b⟩
 | some i=>
  by_cases q:i<0
  .simp only [HT.aC,q,if_true];omega
  .simp only [HT.aC,q,if_false];omega
def QJ (x:Str) (a b:Option Int):Builtin.Str.strSliceIndices a b 1 x.length=(Aa7 (HT.aC x.length x.length b-HT.aC x.length 0 a)).map λk=>HT.aC x.length 0 a+k:=by
 have d:=zt a 0 x.length (Ai _)
 have c:=zt b x.length x.length (Aa6 _)
 have e:Builtin.Str.strSliceIndices a b 1 x.length=sliceRange ((HT.aC x.length 0 a:Nat):Int) ((HT.aC x.length x.length b:Nat):Int) 1:=by
  unfold Builtin.Str.strSliceIndices
  simp only [show (1:Int)>0 by decide,if_true]
  rw [← d.1,←c.1]
  cases a<;>cases b<;>rfl
 rw [e]
 unfold sliceRange
 simp only [show (1:Int)>0 by decide,if_true,Int.ediv_one,Int.one_mul]
 have e2:(if ((HT.aC x.length 0 a:Nat):Int)<((HT.aC x.length x.length b:Nat):Int)then((HT.aC x.length x.length b:Nat):Int)-((HT.aC x.length 0 a:Nat):Int)+1-1 else 0).toNat=HT.aC x.length x.length b-HT.aC x.length 0 a:=by
  split<;>omega
 rw [e2]
 refine List.map_congr_left λk _=> ?_
 omega
noncomputable def gf (x:Str) (a b:Option Int):Str:=⟨((x.cps.toList.drop (HT.aC x.length 0 a)).take (HT.aC x.length x.length b-HT.aC x.length 0 a)).toArray⟩
def X9 (x:Str) (a b:Option Int):Txt.slice x a b=gf x a b:=by
 have f:=(zt a 0 x.length (Ai _)).2
 have c:=(zt b x.length x.length (Aa6 _)).2
 by_cases q:HT.aC x.length 0 a<=HT.aC x.length x.length b
 .have e:=StrLaws.sliceText_nat x q c
  rw [show gf x a b=⟨((x.cps.toList.drop (HT.aC x.length 0 a)).take (HT.aC x.length x.length b-HT.aC x.length 0 a)).toArray⟩from rfl,←e]
  unfold Txt.slice StrLaws.sliceText
  rw [QJ x a b,StrLaws.strSliceIndices_plain q c]
 .have d:HT.aC x.length x.length b-HT.aC x.length 0 a=0:=by omega
  unfold Txt.slice gf
  rw [QJ x a b,d]
  rw [if_neg (by simp;omega)]
  simp
def mw:V->Option Int->Option Int->Hp->VK->Prop:=λx lo hi H Q=> ∃z,x= .str z/\z.length<=sizeLine/\Q (.str (gf z lo hi)) H
def l5:eB X mw:=by
 intro a s Y H x v y r f i w Q I n c j m h
 obtain⟨z,rfl,p,q⟩:=h
 obtain⟨t,rfl⟩:=n
 refine⟨"str",_,F.slot_str_getitem.lookup,typeIs_str _ _ _,?_⟩
 have fin: ∀g k,EP X a Y Q (.str (Txt.slice z f i) g) { s with toks:=k }:=λg k=>by
  rw [X9]
  exact⟨.str (gf z f i),H,I.kept (t':=k) λb o e=>e,⟨_,rfl⟩,q⟩
 have d:(Txt.slice z f i).length<=sizeLine:=Ac0 (Txt.slice_le z _ _) p
 cases j<;>cases m
 .exact wpAny_getItem_str_slice (l:=u0) (u:=u0) (st:=u0) c rfl (post_val_or_str ⟨d,fin⟩)
 .exact wpAny_getItem_str_slice (l:=u0) (u:=y0 (_,_)) (st:=u0) c rfl (post_val_or_str ⟨d,fin⟩)
 .exact wpAny_getItem_str_slice (l:=y0 (_,_)) (u:=u0) (st:=u0) c rfl (post_val_or_str ⟨d,fin⟩)
 .exact wpAny_getItem_str_slice (l:=y0 (_,_)) (u:=y0 (_,_)) (st:=u0) c rfl (post_val_or_str ⟨d,fin⟩)
end
open PySem PySem.Spec PyProof.Rows PySem.MeetsSeq
section
variable {X:Cx}
abbrev lZ:=V->Hp->Prop
def oo (X:Cx) (T:String) (ty:lZ):Prop:= ∀(y8:List (Addr×Obj)) (s:Shared) (Y:St) (H:Hp) (x:V) (v:Value),Inv X y8 Y H s->RelV x v->ty x H->s.TypeIs v T/\ ∀a,v= .ref a-> ∃b,s.heap.get? a=y0 b/\b.dict=u0
def rV (ty:lZ) (r:V->List V->Hp->VK->Prop) (a:TE) (t:TA):TE:=λY H Q=>a Y H λx H1=>ty x H1/\t Y H1 λxs H2=>r x xs H2 Q
def Am {T id:String}{name:Str}{ty:lZ}{r:V->List V->Hp->VK->Prop}{o e:Expr}{es:List Expr}{n:TE}{t:TA}{d a:Pos}(y:PlainAttrs T) (j:Slot T name id) (k:typeOf (.builtin id)=pure (.type "method_descriptor")) (M:oo X T ty) (B:iS X id r) (w:PE X o n) (E:PA X (e::es) t)
 (g:attributeBase o name X.env (eval o X.env)=eval o X.env)
 (i:((backTo a (starEach (e::es) X.env)).all (λx=> !x.1)&&(backToKw a (keywordEach [] X.env)).all (λx=>x.1.isSome)
   &&u9 ((e::es).length+([]:List Keyword).length+(if ([]:List Keyword).isEmpty then 0 else 1)<30))=k9)
 (f:(d.endLine==a.line)=k9) (F:starEach (e::es) X.env=(y9,eval e X.env)::starEach es X.env) (c:(backTo a (starEach es X.env)).any (·.1)=y9):
 PE X (.Call (.Attribute o name d) (e::es) [] a) (rV ty r n t):=by
 intro b s Y H Q I h
 refine wpAny_Call_method_late g i f rfl (aE (w b s Y H _ I h) ?_)
 rintro v m ⟨x,l,u,p,O,D⟩
 obtain⟨J,C⟩:=M b m Y l x v u p O
 refine⟨T,id,y,j,k,J,C,?_⟩
 have q:=E a b m Y l _ u D
 rw [F]at q ⊢
 refine Calls.callWith_builtin (by show(y9||(backTo a (starEach es X.env)).any (·.1))=y9;rw [c]<;>rfl) (Calls.evalArgs_plain ?_)
 exact aE q λL A ⟨P,N,K,G,z⟩=>B b A Y N x P v L Q K p G z
def pW:oo X "str" (fun x _=> ∃z,x= .str z):=by
 intro a s Y H x v I r h
 obtain⟨z,rfl⟩:=h
 obtain⟨t,rfl⟩:=r
 exact⟨typeIs_str s z t,λ_ e=>nomatch e⟩
end
section
variable {prog:Program}{w:World}{A:Around}{E:Value->Shared->Prop}{s:Shared}
def ww {it t:Addr}{i:Nat}{a:Array Value}{x:Value}{Q:Value->Shared->Prop}(b:s.heap.IsTupleIter it t i) (j:s.heap.IsTuple t a) (k:a[i]? =y0 x)
 (g: ∀h',h'.IsTupleIter it t (i+1)->Ag1 it s.heap h'->Q x { s with heap:=h' }):wpAny (model prog w) A (Builtin.SmallTypes.nextOf (.ref it)) Q E s:=by
 obtain⟨o,d,h,c⟩:=id b
 obtain⟨m,e,_,l,f⟩:=j
 unfold Builtin.SmallTypes.nextOf
 refine wpAny_bind (wpAny_callSpecial?_slot (name:=Str.ofString "__next__") b.typeIs F.slot_tuple_iterator_next
  (wpAny_call_entry F.slot_tuple_iterator_next b.typeIs F.entry_tuple_iterator_next ?_ (F.args_tuple_iterator_next_1 _)))
 show wpAny _ _ (field (.ref it) 0 >>= _) _ _ s
 refine wpAny_bind (wpAny_field d c (x:= .ref t) rfl ?_)
 show wpAny _ _ (if (Value.ref t==Value.none)=k9 then _ else _) _ _ s
 rw [if_neg (show ¬((Value.ref t==Value.none)=k9)from Aa4)]
 show wpAny _ _ (field (.ref it) 1 >>= _) _ _ s
 refine wpAny_bind (wpAny_field d c (x:= .int i 0) rfl ?_)
 show wpAny _ _ (seqItems? (.ref t) >>= _) _ _ s
 refine wpAny_bind (wpAny_seqItems e f ?_)
 simp only [Ac5,k]
 refine wpAny_bind (wpAny_setField d c (by simp) (wpAny_pure ⟨x,rfl,wpAny_pure (g _ ?_ (Ag1.update ..))⟩))
 exact⟨_,Ag0 _ d (Obj.isFreed_of_fields (Obj.data_mapFields c _)),(Obj.cls_mapFields ..).trans h,by
  rw [Obj.data_mapFields c];simp [rawInt]⟩
def Qy {it t:Addr}{i:Nat}{b:Array Value}{Q:Value->Shared->Prop}(j:A.handled=u0) (c:s.heap.IsTupleIter it t i) (l:s.heap.IsTuple t b) (n:b[i]? =u0)
 (k: ∀h' e,Heap.ExtBut it s.heap h'->(∃ o,h'.get? e=y0 o/\o.cls= .type "StopIteration")->E (.ref e) { s with heap:=h' }):wpAny (model prog w) A (Builtin.SmallTypes.nextOf (.ref it)) Q E s:=by
 obtain⟨o,d,q,g⟩:=id c
 obtain⟨r,f,_,p,h⟩:=l
 unfold Builtin.SmallTypes.nextOf
 refine wpAny_bind (wpAny_callSpecial?_slot (name:=Str.ofString "__next__") c.typeIs F.slot_tuple_iterator_next
  (wpAny_call_entry F.slot_tuple_iterator_next c.typeIs F.entry_tuple_iterator_next ?_ (F.args_tuple_iterator_next_1 _)))
 show wpAny _ _ (field (.ref it) 0 >>= _) _ _ s
 refine wpAny_bind (wpAny_field d g (x:= .ref t) rfl ?_)
 show wpAny _ _ (if (Value.ref t==Value.none)=k9 then _ else _) _ _ s
 rw [if_neg (show ¬((Value.ref t==Value.none)=k9)from Aa4)]
 show wpAny _ _ (field (.ref it) 1 >>= _) _ _ s
 refine wpAny_bind (wpAny_field d g (x:= .int i 0) rfl ?_)
 show wpAny _ _ (seqItems? (.ref t) >>= _) _ _ s
 refine wpAny_bind (wpAny_seqItems f h ?_)
 simp only [Ac5,n]
 refine wpAny_bind (wpAny_rule (wpAny_bind (wpAny_setField d g (by simp) ?_)))
 show wpAny _ _ (newExc (.type "StopIteration") [] >>= _) _ _ _
 refine wpAny_bind ?_
 simp only [newExc,newTuple]
 refine wpAny_bind (wpAny_newObj_type ?_ (by size_fits))
 refine wpAny_bind (m:=firstArgMember _ _) (wpAny_of_eq (a:=Value.none) (by first | rfl | (simp only [firstArgMember];rfl)) ?_)
 refine wpAny_newObj_type ?_ (by size_fits)
 simp only [raiseNew]
 refine wpAny_bind (wpAny_handled ?_)
 first | rw [show A.in1.handled=u0 from j] | rw [j]
 refine wpAny_bind (wpAny_pure (wpAny_throw ?_))
 exact k _ _ (((Ag1.update ..).extBut.push _).push _) ⟨_,Ab6 _ rfl,rfl⟩
def zJ (m:A.handled=u0) (it t:Addr) (a:Array Value) (d:t≠it):Draws prog w A it [it,t] a.size (λi x=>a[i]? =y0 x) (λi h=>h.IsTupleIter it t i/\h.IsTuple t a) where
 live:=λi h b=>let ⟨o,e,_⟩:=b.1; ⟨o,e⟩
 frame:=λi h f b k=>⟨let ⟨o,e,r⟩:=b.1; ⟨o,k it (by simp) o e,r⟩,let ⟨o,e,r⟩:=b.2; ⟨o,k t (by simp) o e,r⟩⟩
 item:=λi s Q E j b n=>ww b.1 b.2 (x:=a[i]) (by simp [j]) λf c g=>n _ f s.toks (by simp [j]) ⟨c,b.2.extBut g.extBut d⟩ g
 done:=λs Q E b l=>Qy m b.1 b.2 (by simp) l
open PySem.AutoSeq1 (wpAny_loadPart') in
theorem zm (l:Addr) (a:Array Value) (n:Nat) (e:Option Addr) (j:Array (Option Value)):
 Meets (Builtin.«enumerate.__new__» ⟨[.type "enumerate",.ref l],[]⟩) (fun _ R s=>s.heap.get? l=some { cls:= .type "tuple",dict:=e,data:= .seq a n,slots:=j } ∧
  R (.ok (.ret (.ref (s.heap.push { cls:= .type "tuple_iterator",data:= .fields #[.ref l,.int 0 0] }).objs.size)))
   { s with heap:=(s.heap.push { cls:= .type "tuple_iterator",data:= .fields #[.ref l,.int 0 0] }).push { cls:= .type "enumerate",data:= .fields #[.none,.bool false,.ref s.heap.objs.size,rawInt 0,.none,.none] } }):=
 .of_wp λprog w A R s h=>by
  obtain⟨k,g,d,m,o⟩:=s;obtain⟨b,h⟩:=h
  have i:=sub_enumerate
  have f:Heap.IsTuple (Shared.heap ⟨k,g,d,m,o⟩) l a:=⟨_,b,rfl,n,rfl⟩
  wp_walk using wpAny_loadPart' b
  refine wpAny_stack_any λp=>wpAny_pure ?_
  split
  .rename_i c _ _ _ _ _
   cases (c==Value.type "enumerate")
   .wp_walk using wpAny_loadPart' b,wpAny_pyIter_tuple f
    exact⟨_,rfl,h⟩
   .wp_walk using wpAny_loadPart' b,wpAny_pyIter_tuple f
    exact⟨_,rfl,h⟩
  .wp_walk using wpAny_loadPart' b,wpAny_pyIter_tuple f
   exact⟨_,rfl,h⟩
def xo {l:Addr}{a:Array Value}{Q:Value->Shared->Prop}(k:s.heap.IsTuple l a)
 (h: ∀h',IsEnum h' (s.heap.objs.size+1) s.heap.objs.size 0 .none->h'.IsTupleIter s.heap.objs.size l 0->h'.objs.size=s.heap.objs.size+2 →
   (∀ b o,s.heap.get? b=y0 o->h'.get? b=y0 o)->Q (.ref (s.heap.objs.size+1)) { s with heap:=h' }):
 wpAny (model prog w) A (call (.type "enumerate") [.ref l]) Q E s:=by
 obtain⟨⟨c,f,m,j⟩,p,e,n,d⟩:=k
 replace e:c= .type "tuple" :=e
 replace d:m= .seq a n:=d
 subst e d
 refine callType_new F.called_enumerate (by decide) (F.typeCall_enumerate_1 _) (F.newCall_enumerate_1 _) (λobj=>F.args_object_init_2 obj _) F.entry_enumerate_new
  (zm l a n f j) ⟨p,?_⟩
 have g:(s.heap.push { cls:= .type "tuple_iterator",data:= .fields #[.ref l,.int 0 0] }).objs.size=s.heap.objs.size+1:=Heap.size_push ..
 show _/\_
 rw [g]
 have i:IsEnum ((s.heap.push { cls:= .type "tuple_iterator",data:= .fields #[.ref l,.int 0 0] }).push
  { cls:= .type "enumerate",data:= .fields #[.none,.bool false,.ref s.heap.objs.size,rawInt 0,.none,.none] }) (s.heap.objs.size+1) s.heap.objs.size 0 .none:=by
  have:=Heap.get?_push_size (s.heap.push { cls:= .type "tuple_iterator",data:= .fields #[.ref l,.int 0 0] })
   (o:= { cls:= .type "enumerate",data:= .fields #[.none,.bool false,.ref s.heap.objs.size,rawInt 0,.none,.none] }) rfl
  rw [g]at this;exact this
 refine⟨⟨_,i,rfl⟩,h _ i ⟨_,Aa2 _ (Ab6 _ rfl),rfl,rfl⟩ (by rw [Ag5,g]) λb o x=>Aa2 _ (Aa2 _ x)⟩
end
section
variable {X:Cx}{y8:List (Addr×Obj)}{Y:St}{H:Hp}{s:Shared}{h':Heap}
def Inv.dE {t':Nat}{it e:Addr}(I:Inv X y8 Y H s) (k: ∀b o,b≠e->b≠it->s.heap.get? b=y0 o->h'.get? b=y0 o) (E:H it=u0) (g:H e=u0) (t:it≠X.env.locals) (f:e≠X.env.locals)
 (h1:it∈X.ex\/X.s₀.heap.objs.size<=it) (i:e∈X.ex\/X.s₀.heap.objs.size<=e) (h2: ∀x c,X.env.cells.lookup x=y0 c->c≠it) (j: ∀x c,X.env.cells.lookup x=y0 c->c≠e) (D: ∀p∈X.pn++y8,p.1≠it) (l: ∀p∈X.pn++y8,p.1≠e):Inv X y8 Y H { s with heap:=h',toks:=t' }:=by
 have d: ∀b u,H b=y0 u->b≠e/\b≠it:=λb u q=>⟨λz=>(by rw [z,g]at q;cases q),λz=>(by rw [z,E]at q;cases q)⟩
 have h: ∀b o,b∉ [e,it]->s.heap.get? b=y0 o->h'.get? b=y0 o:=λb o a q=>k b o (λz=>a (by simp [z])) (λz=>a (by simp [z])) q
 refine I.step (g':=s.gens) (d':=s.drawn) (ch:= [e,it]) (λb y=> ?_) (λb o _ _ a e _=>h b o a e) (λb o _ _ a e _=>⟨o.slots,h b o a e⟩) (λ_ _ _ _ n=>n)
  (λb o a e=>⟨o,h b o a e⟩) (λ_ _ e=>e) (λ_ _ _ e=>e) (λb G e=>⟨#[],by rw [e];simp⟩) (λm B=> ?_) (λb u q=> ?_) I.bare
 .rcases Ab7.mp y with z | z
  .rw [z];exact⟨i,f,j,l⟩
  .rw [Ad1.mp z];exact⟨h1,t,h2,D⟩
 .obtain⟨o,F,w,A,r⟩:=B
  exact⟨o,F,w,k _ o (Ne.symm f) (Ne.symm t) A,r⟩
 .refine(I.aD b u q).b8 (λc v a C=>k c v ?_ ?_ C) (λ_ q=>q) λ_ _ q=>q
  .rcases a with z | z
   .rw [z];exact(d b u q).1
   .exact(d c _ z).1
  .rcases a with z | z
   .rw [z];exact(d b u q).2
   .exact(d c _ z).2
end
noncomputable def lT (K:Aa3) (a:Addr):It:=
 ⟨λi H=> ∃xs x,bK K H a xs/\xs[i]? =y0 x,λi H x H'=> ∃p y,H p=u0/\x= .ref p/\H'=ax H p (.tup [.int (i:Int),y])/\ ∀xs,bK K H a xs->xs[i]? =y0 y,λi H=> ∃xs,bK K H a xs/\xs.length=i⟩
def uL {P:Program}{w:World}{K:Aa3}{J:List Expr}{x1:Nat}{tp:Pos}(a it e:Addr) (t:e≠it):fH P w K (.Tuple J x1 tp) (lT K a) [e,it] e (λi h=>(∃ j,IsEnum h e it (i:Int) j)/\h.IsTupleIter it a i) where
 mem:=by simp
 obj:=λi h l b M=>by
  obtain⟨⟨j,q⟩,⟨o,q2,c,d⟩⟩:=l
  rcases Ab7.mp M with z | z
  .subst z
   exact⟨_,q,λv z=>by cases z⟩
  .rw [Ad1.mp z]
   exact⟨o,q2,λv z=>by rw [d]at z;cases z⟩
 keep:=λi h h' l k=>⟨let ⟨j,q⟩:=l.1; ⟨j,k e (by simp) _ q⟩,let ⟨o,q,r⟩:=l.2; ⟨o,k it (by simp) o q,r⟩⟩
 item:=by
  intro X hP W V hc i m s Y H E I Q l Z
  subst hP W V
  obtain⟨⟨j,D⟩,g⟩:=l
  obtain⟨xs,x,R,hx⟩:=Z
  obtain⟨f,rv,p,hz⟩:=I.tuple R
  obtain⟨u,hu,ru⟩:=rv.get hx
  have C:s.heap.IsTuple a f.toArray:=p
  have B:a≠it:=λz=>by
   obtain⟨o,q,c,_⟩:=C
   obtain⟨o',q',L,_⟩:=g
   rw [z,q']at q;cases q
   rw [c]at L;exact absurd L (by decide)
  have hae:a≠e:=λz=>by
   obtain⟨o,q,c,_⟩:=C
   rw [z,D]at q;cases q
   exact absurd (show Value.type "enumerate" =Value.type "tuple" from c) (by decide)
  obtain⟨f0,f1,f2,f3,f4,f5⟩:=Q e (by simp)
  obtain⟨S,g1,g2,g3,g4,U⟩:=Q it (by simp)
  have T:i<f.toArray.size:=by
   have:=Ab.mp hu
   simpa using this.1
  have n:X.A.in1.handled=none:=I.ok.hd hc
  refine wpAny_pyNext_enum_itemD (zJ (A:=X.A.in1) n it a f.toArray B) D ⟨g,C⟩ T t (by simp [t,Ne.symm hae]) λy h1 F N ho hs' hT hsz hk=> ?_
  have ey:y=u:=by
   rw [List.getElem?_toArray]at N
   rw [hu]at N;cases N;rfl
  subst ey
  refine⟨_,rfl,wpAny_letOwnedTupleGo_enum (s:= { s with heap:=h1,toks:=F+1 }) ho λh2 he2 O=> ?_⟩
  have O:Ag1 e h1 h2:=O
  have hep:s.heap.objs.size≠e:=Al0 (Ab1 D)
  have hn:H s.heap.objs.size=none:=I.aD.fresh (Aa6 _)
  have I1:Inv X m Y (ax H s.heap.objs.size (.tup [.int (i:Int),x])) { s with heap:=s.heap.push { cls:= .type "tuple",data:= .seq #[.int i F,y] },toks:=F+1 }:=by
   refine I.laid (λb o q=>Aa2 _ q) (Aa6 _) ⟨by simp only [Ab0,Ac7];rw [sizeLine_eq];decide,[.int i F,y],.cons ⟨_,rfl⟩ (.cons ru .nil),?_⟩
   exact⟨_,Ab6 s.heap rfl,rfl,rfl,_,rfl⟩
  have G:it<s.heap.objs.size:=by obtain⟨o,q,_⟩:=g;exact Ab1 q
  have ee:e<s.heap.objs.size:=Ab1 D
  have I2:=I1.dE (t':=F+1) (h':=h2) (it:=it) (e:=e) (λb o b1 b2 q=>by
   refine(O.2 b b1).trans ?_
   rcases Heap.get?_push_cases (h:=s.heap) (show (s.heap.push { cls:= .type "tuple",data:= .seq #[.int i F,y] }).get? b=some o from q)with⟨z,z2⟩ | z
   .rw [z,z2];exact hT
   .exact hk b o b1 b2 z) (by rw [qa (Ab9 G)];exact S) (by rw [qa (Ab9 ee)];exact f0) g1 f1 g3 f3 g4 f4 U f5
  refine⟨.ref s.heap.objs.size,_,I2,rfl,⟨s.heap.objs.size,x,hn,rfl,rfl,λys N=>by rw [I.cK N R];exact hx⟩,⟨⟨y,by simpa using he2⟩,?_⟩,λb M=> ?_⟩
  .obtain⟨o,q,r⟩:=hs'.1
   exact⟨o,(O.2 it (Ne.symm t)).trans q,r⟩
  .rcases Ab7.mp M with z | z
   .rw [z,qa (Ab9 ee)];exact f0
   .rw [Ad1.mp z,qa (Ab9 G)];exact S
 done:=by
  intro X hP W V hc i m s Y H E I Q l Z
  subst hP W V
  obtain⟨⟨j,D⟩,g⟩:=l
  obtain⟨xs,R,hx⟩:=Z
  obtain⟨f,rv,p,hz⟩:=I.tuple R
  have C:s.heap.IsTuple a f.toArray:=p
  have B:a≠it:=λz=>by
   obtain⟨o,q,c,_⟩:=C
   obtain⟨o',q',L,_⟩:=g
   rw [z,q']at q;cases q
   rw [c]at L;exact absurd L (by decide)
  obtain⟨S,g1,g2,g3,g4,U⟩:=Q it (by simp)
  have hl:=rv.length
  have n:X.A.in1.handled=none:=I.ok.hd hc
  have hi:i=f.toArray.size:=by simp;omega
  subst hi
  exact wpAny_pyNext_enum_endD (zJ (A:=X.A.in1) n it a f.toArray B) D ⟨g,C⟩ λh' eb=>⟨rfl,I.turned (t':=s.toks) (λb o M q=>eb b o M q) S g1 g3 g4 U⟩
 self:=λ_ _ _ _ _ l h=>wpAny_pyIter_enum l.1.choose_spec h
def pQ (K:Aa3) (b:TA):TI:=λY H R=>b Y H λc H1=> ∃a xs,c= [.ref a]/\bK K H1 a xs/\R (lT K a) H1
def xm:bootBuiltins "enumerate" =some (.type "enumerate"):=by decide +kernel
def yx {X:Cx}{i:List Expr}{x1:Nat}{E:Pos}{a:Expr}{l:TA}{p pos:Pos}(o:Gl X "enumerate") (x:X.mg "enumerate" =none) (B:PA X [a] l) (D:starEach [a] X.env= [(false,eval a X.env)]:=by rfl):PI X (.Tuple i x1 E) (.Call (.Name "enumerate" p) [a] [] pos) (pQ X.K l):=by
 intro g s Y H R I h
 refine Call_ (js I o x xm (PyProof.Rows.callWith_type1 (aE (B pos g s Y H _ I h) λJ d ⟨M,n,f,F,A⟩=> ?_) D rfl))
 obtain⟨b,K,e,C,q⟩:=A
 subst e
 cases F with
 | cons r u=>
  cases u
  cases r
  obtain⟨k,rv,t,L⟩:=f.tuple C
  refine xo (show d.heap.IsTuple b k.toArray from t) λy m j G w=> ?_
  refine wpAny_pyIter_enum (s:= { d with heap:=y }) m ?_
  refine⟨d.heap.objs.size+1,[d.heap.objs.size+1,d.heap.objs.size],_,_,n,rfl,f.kept (t':=d.toks) w,uL b d.heap.objs.size (d.heap.objs.size+1) (Nat.succ_ne_self _),⟨⟨_,by simpa using m⟩,j⟩,λc v=> ?_,q⟩
  rcases Ab7.mp v with z | z
  .rw [z];exact f.cC (Ad3 _) (f.aD.fresh (Ad3 _))
  .rw [Ad1.mp z];exact f.cC (Aa6 _) (f.aD.fresh (Aa6 _))
def ZX {n:Nat}{a:Array Value}(h:ItemsOf (λi v=> ∃t,v=Value.int (0+(i:Int)*1) t) a n):Vals ((Aa7 n).map λ(i:Nat)=>V.int (i:Int)) a.toList:=by
 have g: ∀(b:List Value) (k m:Nat),b.length=m->(∀ j v,b[j]? =y0 v-> ∃t,v=Value.int ((k+j:Nat):Int) t)->Vals ((List.range' k m).map λ(i:Nat)=>V.int (i:Int)) b:=by
  intro b
  induction b with
  | nil=>intro k m c _;cases c;exact .nil
  | cons x b l=>
   intro k m c f
   cases c
   rw [Ab0,List.range'_succ,Ac4]
   refine .cons (f 0 x rfl) (l (k+1) _ rfl λj v d=> ?_)
   obtain⟨t,e⟩:=f (j+1) v (by simpa using d)
   exact⟨t,by rw [e];congr 1;omega⟩
 rw [List.range_eq_range']
 refine g a.toList 0 n (by rw [Af3];exact h.1) λj v d=> ?_
 obtain⟨t,e⟩:=h.2 j v (by rw [← Array.getElem?_toList];exact d)
 exact⟨t,by rw [e];congr 1;omega⟩
section
variable {X:Cx}
def uh:bootBuiltins "range" =some (.type "range"):=by decide +kernel
end
def Qu {prog:Program}{w:World}{A:Around}{E:Value->Shared->Prop}{s:Shared}{t f:Addr}{vs:Array Value}{k i:Value}{b g:Option Int}{Q:Value->Shared->Prop}(a:IsTup s.heap t vs) (j:s.heap.IsSliceOf f k i .none) (pl:IsPart k b) (l:IsPart i g)
 (n:HT.aC vs.size 0 b=0) (h1:HT.aC vs.size vs.size g=vs.size) (h:Q (.ref t) s):wpAny (model prog w) A (getItem (.ref t) (.ref f)) Q E s:=by
 obtain⟨o,d,e,m⟩:=id j
 have c:s.TypeIs (.ref f) "slice" :=⟨o,d,e⟩
 unfold getItem
 try with_reducible refine wpAny_holding ?_
 first | refine wpAny_bind (wpAny_pure ?_) | skip
 refine wpAny_bind (wpAny_sequenceKey a.typeIs (by decide) (wpAny_bind (wpAny_callSpecial?_slot (name:=Str.ofString "__getitem__") a.typeIs PyProof.Rows.slot_tuple_getitem
  (wpAny_call_entry PyProof.Rows.slot_tuple_getitem a.typeIs PyProof.Rows.entry_tuple_getitem ?_ (PyProof.Rows.args_tuple_getitem _ _)))))
 show wpAny _ _ (Builtin.Tuple.tupleItemsOf (.ref t) >>= _) _ _ s
 refine wpAny_bind (tupleItemsOf_ a (wpAny_bind (wpAny_typeOf c ?_)))
 rw [if_pos (by decide)]
 refine wpAny_bind (HT.bp j pl l ?_)
 show wpAny _ _ (if (((HT.aC vs.size 0 b:Nat):Int)==0&&(1:Int)==1&&(HT.aC vs.size vs.size g-HT.aC vs.size 0 b)==vs.size)=k9 then _ else _) _ _ s
 rw [if_pos (by rw [n,h1];simp)]
 unfold Builtin.Tuple.tupleIsExact
 refine wpAny_bind (wpAny_bind (wpAny_typeOf a.typeIs (wpAny_pure ?_)))
 rw [if_pos (by decide)]
 exact wpAny_bind (wpAny_rule (wpAny_pure ⟨_,rfl,wpAny_pure h⟩))
section
variable {X:Cx}
def kG (K:Aa3):V->Option Int->Option Int->Hp->VK->Prop:=λx lo hi H Q=> ∃a xs,x= .ref a/\bK K H a xs/\HT.aC xs.length 0 lo=0/\HT.aC xs.length xs.length hi=xs.length/\Q (.ref a) H
def sm:eB X (kG X.K):=by
 intro e s Y H x v y o p w t Q I l j f g h
 obtain⟨a,m,rfl,n,i,k,q⟩:=h
 cases l
 obtain⟨c,r,d,u⟩:=I.tuple n
 have b:c.toArray.size=m.length:=by rw [Aa9];exact r.length.symm
 refine⟨"tuple",_,PyProof.Rows.slot_tuple_getitem.lookup,d.typeIs,?_⟩
 exact Qu d j f g (by rw [b];exact i) (by rw [b];exact k) ⟨.ref a,H,I,rfl,q⟩
end
section
variable {X:Cx}
def yR:bootBuiltins "list" =some (.type "list"):=by decide +kernel
def Bu (a:TA):TE:=λY H Q=>a Y H λb H1=> ∃n:Nat,b= [.int (n:Int)]/\n<=1000/\ ∀l,H1 l=u0->Q (.ref l) (ax H1 l (.lst ((Aa7 n).map λ(i:Nat)=>V.int (i:Int))))
def yO {a:Expr}{v:TA}{p M pos c:Pos}(G:X.calm=true) (x:Gl X "list") (C:X.mg "list" =none) (m:Gl X "range") (k:X.mg "range" =none) (E:PA X [a] v) (F:starEach [a] X.env= [(false,eval a X.env)]):
 PE X (.Call (.Name "list" p) [.Call (.Name "range" M) [a] [] c] [] pos) (Bu v):=by
 intro f s Y H Q I h
 refine Call_ (js I x C yR (PyProof.Rows.callWith_type1 (Calls.spliced_cons (Call_ (js I m k uh (PyProof.Rows.callWith_type1 (aE (E c f s Y H _ I h) λS w ⟨T,O,u,L,D⟩=> ?_) F rfl)))) rfl rfl))
 obtain⟨n,e,R,q⟩:=D
 subst e
 cases L with
 | cons r y=>
  cases y
  obtain⟨t,rfl⟩:=r
  refine call_range_1 (Calls.spliced_nil ?_)
  have l:Builtin.Range.rangeSize 0 (n:Int) 1=(n:Int):=by
   unfold Builtin.Range.rangeSize
   simp
   omega
  refine call_list_range (n:=n) (u.ok.hd G) (IsRange.new ..) (small_one (by decide) (by decide) (by omega) (by omega)) l (by omega) λP K j N B A d=> ?_
  have J:=ZX d
  have g: ∀o:Obj,w.heap.objs.size<=(w.heap.push o).objs.size:=λo=>by rw [Ag5];exact Ad3 _
  refine⟨.ref _,_,u.laid (t':=K) (o:= .lst ((Aa7 n).map λ(i:Nat)=>V.int (i:Int))) (λb o z=>B b o (Aa2 _ z)) (g _) ⟨by rw [Aa0,Af,sizeLine_eq];omega,j.toList,N,J,by simpa using A⟩,rfl,q _ (u.aD.fresh (g _))⟩
end
end L2
set_option maxHeartbeats 8000000
namespace L2
open PySem PySem.Spec PyProof.Rows
open Sem (wp)
abbrev K2:=List (Int ⊕ List Int)
section
variable (prog:Program) (w:World)
inductive jL (h:Heap):K2->List Value->Prop
 | nil:jL h [] []
 | int {i:Int}{t:Tok}{ks:K2}{vs:List Value}:jL h ks vs->jL h (.inl i::ks) (.int i t::vs)
 | tup {l:List Int}{a:Addr}{ks:K2}{vs:List Value}:IsTupleKey (intKind prog w) h l a->jL h ks vs->jL h (.inr l::ks) (.ref a::vs)
end
abbrev WK:=Int×List Int×List Int
open PySem.AutoSeq1 (wpAny_loadPart')
open MeetsSeq MeetsSeq2 MeetsSeq3 SeqRoads2 PySem.SeqAt
open PySem PySem.Spec PyProof.Rows PyProof.Rows.KTD PyProof.V
def rX (K:Aa3) (a:Addr) (T:List (Str×PyData)):Prop:=tabLook flatLooks (λb=>K.lookup b) a T=k9
noncomputable def lg (K:Aa3) (a:Addr):It:=
 ⟨λi H=> ∃xs x,aY K H a xs/\xs[i]? =y0 x,λi H x H'=> ∃p y,H p=u0/\x= .ref p/\H'=ax H p (.tup [.int (i:Int),y])/\ ∀xs,aY K H a xs->xs[i]? =y0 y,λi H=> ∃xs,aY K H a xs/\xs.length=i⟩
def wX {P:Program}{w:World}{K:Aa3}{J:List Expr}{x1:Nat}{tp:Pos}(a it e:Addr) (t:e≠it):fH P w K (.Tuple J x1 tp) (lg K a) [e,it] e (λi h=>(∃ j,IsEnum h e it (i:Int) j)/\h.IsListIter it a i) where
 mem:=by simp
 obj:=λi h l b M=>by
  obtain⟨⟨j,q⟩,⟨o,q2,c,d⟩⟩:=l
  rcases Ab7.mp M with z | z
  .subst z
   exact⟨_,q,λv z=>by cases z⟩
  .rw [Ad1.mp z]
   exact⟨o,q2,λv z=>by rw [d]at z;cases z⟩
 keep:=λi h h' l k=>⟨let ⟨j,q⟩:=l.1; ⟨j,k e (by simp) _ q⟩,let ⟨o,q,r⟩:=l.2; ⟨o,k it (by simp) o q,r⟩⟩
 item:=by
  intro X hP W V hc i m s Y H E I Q l Z
  subst hP W V
  obtain⟨⟨j,D⟩,g⟩:=l
  obtain⟨xs,x,R,hx⟩:=Z
  obtain⟨f,rv,p,hz⟩:=I.list R
  obtain⟨u,hu,ru⟩:=rv.get hx
  have C:s.heap.IsList a f.toArray:=p.isList
  have B:a≠it:=λz=>by
   obtain⟨o,q,c,_⟩:=C
   obtain⟨o',q',L,_⟩:=g
   rw [z,q']at q;cases q
   rw [c]at L;exact absurd L (by decide)
  have hae:a≠e:=λz=>by
   obtain⟨o,q,c,_⟩:=C
   rw [z,D]at q;cases q
   exact absurd (show Value.type "enumerate" =Value.type "list" from c) (by decide)
  obtain⟨f0,f1,f2,f3,f4,f5⟩:=Q e (by simp)
  obtain⟨S,g1,g2,g3,g4,U⟩:=Q it (by simp)
  have T:i<f.toArray.size:=by
   have:=Ab.mp hu
   simpa using this.1
  have n:X.A.in1.handled=none:=I.ok.hd hc
  refine wpAny_pyNext_enum_itemD (Draws.list (A:=X.A.in1) n it a B f.toArray) D ⟨g,C⟩ T t (by simp [t,Ne.symm hae]) λy h1 F N ho hs' hT hsz hk=> ?_
  have ey:y=u:=by
   rw [List.getElem?_toArray]at N
   rw [hu]at N;cases N;rfl
  subst ey
  refine⟨_,rfl,wpAny_letOwnedTupleGo_enum (s:= { s with heap:=h1,toks:=F+1 }) ho λh2 he2 O=> ?_⟩
  have O:Ag1 e h1 h2:=O
  have hep:s.heap.objs.size≠e:=Al0 (Ab1 D)
  have hn:H s.heap.objs.size=none:=I.aD.fresh (Aa6 _)
  have I1:Inv X m Y (ax H s.heap.objs.size (.tup [.int (i:Int),x])) { s with heap:=s.heap.push { cls:= .type "tuple",data:= .seq #[.int i F,y] },toks:=F+1 }:=by
   refine I.laid (λb o q=>Aa2 _ q) (Aa6 _) ⟨by simp only [Ab0,Ac7];rw [sizeLine_eq];decide,[.int i F,y],.cons ⟨_,rfl⟩ (.cons ru .nil),?_⟩
   exact⟨_,Ab6 s.heap rfl,rfl,rfl,_,rfl⟩
  have G:it<s.heap.objs.size:=by obtain⟨o,q,_⟩:=g;exact Ab1 q
  have ee:e<s.heap.objs.size:=Ab1 D
  have I2:=I1.dE (t':=F+1) (h':=h2) (it:=it) (e:=e) (λb o b1 b2 q=>by
   refine(O.2 b b1).trans ?_
   rcases Heap.get?_push_cases (h:=s.heap) (show (s.heap.push { cls:= .type "tuple",data:= .seq #[.int i F,y] }).get? b=some o from q)with⟨z,z2⟩ | z
   .rw [z,z2];exact hT
   .exact hk b o b1 b2 z) (by rw [qa (Ab9 G)];exact S) (by rw [qa (Ab9 ee)];exact f0) g1 f1 g3 f3 g4 f4 U f5
  refine⟨.ref s.heap.objs.size,_,I2,rfl,⟨s.heap.objs.size,x,hn,rfl,rfl,λys N=>by rw [I.c3 N R];exact hx⟩,⟨⟨y,by simpa using he2⟩,?_⟩,λb M=> ?_⟩
  .obtain⟨o,q,r⟩:=hs'.1
   exact⟨o,(O.2 it (Ne.symm t)).trans q,r⟩
  .rcases Ab7.mp M with z | z
   .rw [z,qa (Ab9 ee)];exact f0
   .rw [Ad1.mp z,qa (Ab9 G)];exact S
 done:=by
  intro X hP W V hc i m s Y H E I Q l Z
  subst hP W V
  obtain⟨⟨j,D⟩,g⟩:=l
  obtain⟨xs,R,hx⟩:=Z
  obtain⟨f,rv,p,hz⟩:=I.list R
  have C:s.heap.IsList a f.toArray:=p.isList
  have B:a≠it:=λz=>by
   obtain⟨o,q,c,_⟩:=C
   obtain⟨o',q',L,_⟩:=g
   rw [z,q']at q;cases q
   rw [c]at L;exact absurd L (by decide)
  obtain⟨S,g1,g2,g3,g4,U⟩:=Q it (by simp)
  have hl:=rv.length
  have n:X.A.in1.handled=none:=I.ok.hd hc
  have hi:i=f.toArray.size:=by simp;omega
  subst hi
  exact wpAny_pyNext_enum_endD (Draws.list (A:=X.A.in1) n it a B f.toArray) D ⟨g,C⟩ λh' eb=>⟨rfl,I.turned (t':=s.toks) (λb o M q=>eb b o M q) S g1 g3 g4 U⟩
 self:=λ_ _ _ _ _ l h=>wpAny_pyIter_enum l.1.choose_spec h
def yd (K:Aa3) (b:TA):TI:=λY H R=>b Y H λc H1=> ∃a xs,c= [.ref a]/\aY K H1 a xs/\R (lg K a) H1
def AU {X:Cx}{i:List Expr}{x1:Nat}{E:Pos}{a:Expr}{k:TA}{p pos:Pos}(n:Gl X "enumerate") (x:X.mg "enumerate" =none) (B:PA X [a] k) (D:starEach [a] X.env= [(false,eval a X.env)]:=by rfl):PI X (.Tuple i x1 E) (.Call (.Name "enumerate" p) [a] [] pos) (yd X.K k):=by
 intro g s Y H R I h
 refine Call_ (js I n x xm (PyProof.Rows.callWith_type1 (aE (B pos g s Y H _ I h) λJ d ⟨M,m,f,F,A⟩=> ?_) D rfl))
 obtain⟨b,K,e,C,q⟩:=A
 subst e
 cases F with
 | cons r t=>
  cases t
  cases r
  obtain⟨v,rv,o,L⟩:=f.list C
  refine call_enumerate_list o.isList λy l j G w=> ?_
  refine wpAny_pyIter_enum (s:= { d with heap:=y }) l ?_
  refine⟨d.heap.objs.size+1,[d.heap.objs.size+1,d.heap.objs.size],_,_,m,rfl,f.kept (t':=d.toks) w,wX b d.heap.objs.size (d.heap.objs.size+1) (Nat.succ_ne_self _),⟨⟨_,by simpa using l⟩,j⟩,λc u=> ?_,q⟩
  rcases Ab7.mp u with z | z
  .rw [z];exact f.cC (Ad3 _) (f.aD.fresh (Ad3 _))
  .rw [Ad1.mp z];exact f.cC (Aa6 _) (f.aD.fresh (Aa6 _))
open PySem PySem.Spec PySem.Calls PySem.W PyProof.Rows
def QB:List Value->Bool
 | []=>y9
 | x::r=>match x with
  | .ref _=>QB r
  | _=>x::r==jv
theorem ql {P:List Value->Prop}(a:P jv) (h1: ∀c r,P r->P (.ref c::r)): ∀ {l:List Value},QB l=k9->P l
 | [],e=>by cases e
 | x::r,e=>by
  unfold QB at e
  split at e
  .exact h1 _ _ (ql a h1 e)
  .rw [beq_iff_eq.mp e];exact a
def zG (a:Value){l:List Value}(e:QB l=k9):refuseLoop a "__setattr__" l=pure ():=
 ql (P:=fun l=>refuseLoop a "__setattr__" l=pure ()) (PySem.F.store_ValueError.passes a) (fun c r h=>by rw [refuseLoop_ref];exact h) e
def JF {l:List Value}(e:QB l=true):l.contains (.type "object")=true:=
 ql (P:=fun l=>l.contains (.type "object")=true) (by decide +kernel) (fun c r h=>by rw [List.contains_cons,h,Bool.or_true]) e
def qX {l:List Value}(e:QB l=true):l.contains (.type "BaseException")=true:=
 ql (P:=fun l=>l.contains (.type "BaseException")=true) (by decide +kernel) (fun c r h=>by rw [List.contains_cons,h,Bool.or_true]) e
def xQ {l:List Value}(e:QB l=k9):l.isEmpty=false:=
 ql (P:=λl=>l.isEmpty=y9) rfl (λc r h=>rfl) e
def g6 (K:Frag) (C:Addr):Bool:=(clsIn K C).any λcd=>QB cd.mro&&cd.hasDict
def nU {K:Frag}{C:Addr}(h:g6 K C=k9): ∃cd,clsIn K C=y0 cd/\QB cd.mro=k9/\cd.hasDict=true:=by
 obtain⟨cd,b,a⟩:=PySem.W.any_some h
 rw [Aa1]at a
 exact⟨cd,b,a.1,a.2⟩
section
variable {prog:Program}{w:World}{A:Around}{E:Value->Shared->Prop}{s:Shared}{K:Frag}{x C t:Addr}{f:Str}{u:Value}
def Q0 {Q:Unit->Shared->Prop}(X:K.In s.heap) (j:s.heap.get? x=some (wF C t none)) (B:g6 K C=true) (L:findIn K (.ref C) "__setattr__" =some (some (.builtin "object.__setattr__"))) (N:findIn K (.ref C) f=some none)
 (h: ∀h',(∀ b o,b≠x->s.heap.get? b=y0 o->h'.get? b=y0 o)->h'.get? x=y0 (wF C t (y0 s.heap.objs.size))->h'.Ns1 s.heap.objs.size (λy=>if y=f then y0 u else u0)->Q () { s with heap:=h',toks:=s.toks+2 }):
 wpAny (model prog w) A (setAttr (.ref x) f u) Q E s:=by
 obtain⟨cd,r,l,H⟩:=nU B
 have I:PySem.W.InstAt s.heap x (wF C t u0) C none:=⟨j,rfl,rfl,trivial⟩
 refine PySem.W.set_plain X I L ?_
 have d:=PySem.F.store_object
 have sub:Looks (model prog w) s.heap (isInstance (.ref x) (.type "object")) true:=I.type.andThen (looks_mroIn X (by unfold mroIn;rw [r,Option.bind_some,if_neg (by rw [xQ l];decide),JF l]))
 have D:Looks (model prog w) s.heap (mroOf (.ref C)) cd.mro:=(looks_clsIn X r).andThen .now
 have v:=looks_findIn (M:=model prog w) X N
 refine codeAny_call_builtin d.slot.plain d.entry (@check_slot (model prog w) _ _ { s with toks:=s.toks+1 } "object.__setattr__" "object" "__setattr__" (.ref x) [.str f s.toks,u] [] _ d.kind d.split sub (d.args (.ref x) (.str f s.toks) u) ?_)
 rw [osa_eq,refuse_eq]
 refine wpAny_bind (wpAny_bind (I.type.here (s:= { s with toks:=s.toks+1 }) (wpAny_bind (D.here (s:= { s with toks:=s.toks+1 }) ?_))))
 rw [zG _ l]
 refine wpAny_pure (wpAny_bind (I.type.here (s:= { s with toks:=s.toks+1 }) (wpAny_bind (v.here (s:= { s with toks:=s.toks+1 }) (wpAny_bind (wpAny_pure ?_))))))
 have a:(s.heap.push { cls:= .type "dict",data:= .dict #[] }).get? x=some (wF C t none):=Heap.get?_push_of_some _ j
 have g:x≠s.heap.objs.size:=Ab9 (Ab1 j)
 refine wpAny_bind (wpAny_pure (wpAny_bind (wpAny_bind (wpAny_loadPart j (wpAny_bind (PySem.W.Looks.here (s:= { s with toks:=s.toks+1 }) (PySem.W.looks_clsIn X r) ?_))))))
 rw [H]
 have m:((s.heap.push { cls:= .type "dict",data:= .dict #[] }).update x fun o=> { o with dict:=some s.heap.objs.size }).get? s.heap.objs.size=some { cls:= .type "dict",data:= .dict #[] }:=
  (Ak2 _ _ _ _ g.symm).trans (Ab6 _ rfl)
 have k:((s.heap.push { cls:= .type "dict",data:= .dict #[] }).update x fun o=> { o with dict:=some s.heap.objs.size }).Ns s.heap.objs.size (fun _=>none):=
  ⟨_, #[],_,m,rfl,λe G=>absurd G (by simp),λ_=>rfl⟩
 refine wpAny_bind (wpAny_alloc (wpAny_bind (wpAny_update a (wpAny_pure ?_))))
 refine wpAny_bind (wpAny_pure (wpAny_bind (wpAny_nsSet1 (Heap.Ns1.of_empty k) λh' c i=> ?_)))
 obtain⟨O,J,F,p,q,n⟩:=c.count (PySem.Within.cons f u PySem.Within.nil)
 refine wpAny_bind (wpAny_lookBehind p (by rw [q];exact pastItsLine_dict (Ac0 n (by rw [Ab0,Ac7,sizeLine_eq];omega))) ?_)
 refine wpAny_pure (h h' (λb o z e=> ?_) ?_ c)
 .exact(i.2 b (Ab9 (Ab1 e))).trans ((Ak2 _ _ _ _ z).trans (Aa2 _ e))
 .exact(i.2 x g).trans (Ag0 _ a rfl)
end
noncomputable def Xz (K:Frag) (C:Addr):Bool:=match K.lookup C with
 | some ⟨.type "type",_,.cls cd,a⟩=>(match cd.mro,a.toList with
  | .ref c::b,[_,_,_,_,y0 (.builtin n),_]=>c==C&&(n== "ValueError.__new__" &&(!cd.hasDel&&(tailIn K jv b&&nsOkIn K cd.ns)))
  | _,_=>y9)
 | _=>y9
def jx {K:Frag}{h:Heap}{C:Addr}(X:K.In h) (q:Xz K C=k9):
 ∃bm L nm j bs i sn sub ab col dd k0 k1 k2 k3 k5 mN,h.get? C=y0 (excClassObj nm j C L bs bm i sn sub ab col dd k0 k1 k2 k3 k5 "ValueError.__new__")/\h.Ns L mN/\OwnTail h jv bm:=by
 unfold Xz at q
 split at q
 next dd cd d n=>
  split at q
  next o k k0 k1 k2 k3 nn k5 c m=>
   simp only [Aa1,beq_iff_eq,Ai7]at q
   obtain⟨rfl,rfl,e1,e2,e⟩:=q
   obtain⟨nm,bs,f,a,j,i,sn,sub,ab,col,g⟩:=cd
   dsimp only at c e1 e
   subst c e1
   have b:d= #[k0,k1,k2,k3,y0 (.builtin "ValueError.__new__"),k5]:=by
    cases d with
    | mk l=>exact congrArg Array.mk m
   subst b
   exact⟨k,a,nm,j,bs,i,sn,sub,ab,col,dd,k0,k1,k2,k3,k5,_,X _ _ n,.of_isNs (isNs_of_in X e),tail_of_in X e2⟩
  next=>cases q
 next=>cases q
section
variable {prog:Program}{w:World}{A:Around}{E:Value->Shared->Prop}{h:Heap}{g:Array GenState}{d:Drawn}{t:Nat}{os:OsState}{K:Frag}{C fI:Addr}
def zI (h:Heap) (C:Addr) (rest:List Value):Heap:=(h.push { cls:= .type "tuple",data:= .seq rest.toArray }).push (wF C h.objs.size none)
def xq {b:Addr}{o:Obj}{rest:List Value}(e:h.get? b=y0 o):(zI h C rest).get? b=y0 o:=Aa2 _ (Aa2 _ e)
def wQ {rest:List Value}:(zI h C rest).get? (h.objs.size+1)=y0 (wF C h.objs.size u0):=by
 have:=Heap.get?_push_size (h.push { cls:= .type "tuple",data:= .seq rest.toArray }) (o:=wF C h.objs.size none) rfl
 rwa [Ag5]at this
def vU {rest:List Value}{Q:Value->Shared->Prop}(X:K.In h) (y:Xz K C=true) (v:findIn K (.ref C) "__init__" =some (some (.ref fI))) (s:typeIn K (.ref fI)=some (.type "function")) (c:rest.length<=sizeLine)
 (n:wpAny (model prog w) (A.under (.builtin "type.__call__" ⟨.ref C::rest,[]⟩)) (call (.ref fI) (.ref (h.objs.size+1)::rest)) (fun r s'=>r= .none/\Q (.ref (h.objs.size+1)) s') E ⟨zI h C rest,g,d,t,os⟩):
 wpAny (model prog w) A (call (.ref C) rest) Q E ⟨h,g,d,t,os⟩:=by
 obtain⟨m,V,B,S,bs,l,O,sub,L,p,dd,z,P,N,U,G,J,a,R,T⟩:=jx X y
 have F:=PySem.F.excBase_ValueError
 have D:=tc_lookup
 have H:=tc_bind (.ref C)
 have I:(⟨h,g,d,t,os⟩:Shared).TypeIs (.ref C) "type" :=⟨_,a,rfl⟩
 refine wpAny_call (codeAny_of_tree ?_)
 show wpAny _ _ (callAny (.ref C) _) _ _ _
 repeat (any_goals (first | assumption | with_reducible refine wpAny_loadPart_at a ?_ | wp_step))
 refine⟨rfl,codeAny_call_builtin_at (Code.quiet_builtin _ (by decide +kernel)) entry_typeCall (wpAny_check_type_call_sub a ?_)⟩
 repeat (first | with_reducible refine wpAny_loadPart_at a ?_ | with_reducible refine wpAny_madeBy_exc a ?_ | wp_step)
 refine codeAny_call_builtin_code (Code.quiet_builtin _ F.quiet) (wpAny_check_new_subT F T a (codeAny_exc_new_subT F T a ?_ c))
 show wpAny _ _ _ _ _ ⟨zI h C rest,g,d,t,os⟩
 have k:K.In (zI h C rest):=λb o e=>xq (X b o e)
 have j:=xq (C:=C) (rest:=rest) a
 have f:(zI h C rest).get? (h.objs.size+1)=y0 { cls:= .ref C,data:= .fields #[.ref h.objs.size,.none,.none,.none,.bool y9,.none] }:=wQ
 have i:(Value.ref C::m).contains (.ref C)=true:=by simp
 unfold isInstance
 repeat (first | with_reducible refine wpAny_loadPart_at f ?_ | (with_reducible refine wpAny_isSubtype_exc j ?_;rw [i]) | wp_step)
 show wpAny _ _ (typeLookup (.ref C) _) _ _ _
 refine(looks_findIn (M:=model prog w) k v).at ?_
 refine wpAny_holding (wpAny_bind ((bind_fn (M:=model prog w) k (.ref (h.objs.size+1)) s).at ?_))
 refine wpAny_bind (wpAny_mono n (λr s' u=> ?_) λ_ _ x=>x)
 obtain⟨rfl,q⟩:=u
 wp_walk
 exact q
end
def JZ (x C t:Addr) (a:Option Addr):HO:= .ext λh=>h.get? x=y0 (wF C t a)
def q4 {P:Program}{w:World}{H:Hp}{h:Heap}{x C t:Addr}{a:Option Addr}(e:h.get? x=y0 (wF C t a)):aI P w H h x (JZ x C t a):=⟨e,⟨_,e⟩,λ_ _ z k=>k _ z⟩
def gJ (H:Hp) (x:Addr):Hp:=λb=>if b=x then u0 else H b
def Q3 {H:Hp}{x b:Addr}(h:b≠x):gJ H x b=H b:=if_neg h
def zR {H:Hp}{x:Addr}:gJ H x x=none:=if_pos rfl
section
variable {X:Cx}{y8:List (Addr×Obj)}{Y:St}{H:Hp}{s:Shared}
def Inv.forget {x:Addr}{d:Heap->Prop}(I:Inv X y8 Y H s) (a:H x=y0 (.ext d)):Inv X y8 Y (gJ H x) s:=by
 have ne: ∀b o,H b=y0 o->(∀ d,o≠ .ext d)->gJ H x b=y0 o:=λb o q n=>by
  rw [Q3 (λe=>by rw [e,a]at q;cases q;exact n _ rfl)];exact q
 have nn: ∀b,H b=u0->gJ H x b=none:=λb q=>by
  unfold gJ
  split
  .rfl
  .exact q
 refine⟨I.ok,I.os,I.bare,⟨I.base.keep,I.base.slot,λb u e n a=>nn b (I.base.free b u e n a),I.base.there,λb g q=>ne b _ (I.base.b3 b g q) (λ_ z=>by cases z),λb u v q=>ne b _ (I.base.bT b u v q) (λ_ z=>by cases z),λb k q=> ?_⟩,
  I.loc,I.cell,nn _ I.free,λy c q=>nn _ (I.aZ y c q),λp j=> ?_,λb u q=> ?_,I.len⟩
 .obtain⟨more,i⟩:=I.base.b9 b k q
  exact⟨more,ne b _ i (λ_ z=>by cases z)⟩
 .obtain⟨h,a2,a3⟩:=I.pin p j
  exact⟨h,nn _ a2,a3⟩
 .by_cases f:b=x
  .rw [f,zR]at q;cases q
  .rw [Q3 f]at q
   exact(I.aD b u q).b8 (λ_ _ _ z=>z) (λc z=>ne c _ z (λ_ z=>by cases z)) λc g z=>ne c _ z (λ_ z=>by cases z)
def Inv.stored {x C t:Addr}{f:Str}{y:V}{u:Value}{h':Heap}{t':Nat}(I:Inv X y8 Y H s) (l:H x=y0 (JZ x C t u0)) (n:RelV y u) (k: ∀b o,b≠x->s.heap.get? b=y0 o->h'.get? b=y0 o)
 (e:h'.get? x=y0 (wF C t (y0 s.heap.objs.size))) (p:h'.Ns1 s.heap.objs.size (λz=>if z=f then y0 u else u0)):
 Inv X y8 Y (ax (ax H s.heap.objs.size (.xd [(f,y)])) x (JZ x C t (y0 s.heap.objs.size))) { s with heap:=h',toks:=t' }:=by
 have h:s.heap.get? x=y0 (wF C t u0):=(I.aD x _ l).1
 have d:x≠s.heap.objs.size:=Ab9 (Ab1 h)
 have m:(h'.update x λ_=>wF C t u0).get? x=y0 (wF C t u0):=Ag0 _ e rfl
 have j: ∀b,b≠x->(h'.update x λ_=>wF C t u0).get? b=h'.get? b:=λb c=>Ak2 _ _ _ _ c
 have r:=I.laid (a:=s.heap.objs.size) (o:= .xd [(f,y)]) (h':=h'.update x λ_=>wF C t u0) (t':=t') (λb o q=>by
  by_cases c:b=x
  .subst c;rw [h]at q;cases q;exact m
  .rw [j b c];exact k b o c q) (Aa6 _) ⟨_,p.at λo q=>(by rw [j _ d.symm];exact q),λg=>by
   by_cases i:g=f
   .rw [if_pos i]
    subst i
    show bQ (match g==g with | true=>y0 y | false=>u0) _
    rw [beq_self_eq_true]
    exact n
   .rw [if_neg i]
    show bQ (match g==f with | true=>y0 y | false=>u0) _
    rw [beq_eq_false_iff_ne.mpr i]
    exact trivial⟩
 refine r.write (x:=x) (e:=x) (by rw [qa d,l];exact True.intro) (.inl rfl) (λb o c q=> ?_) ⟨_,e⟩ (q4 e)
 exact(j b c).symm.trans q
end
structure i7 (K:Frag) (C:Addr) (f:Str):Prop where
 cls:Xz K C=k9
 ov:g6 K C=k9
 sa:findIn K (.ref C) "__setattr__" =some (some (.builtin "object.__setattr__"))
 no:findIn K (.ref C) f=y0 u0
 kp:keepIn K (.ref C)=k9
def AZ (K:Frag) (c b:TE) (f:Str):TS:=λD Y H=>b Y H λy H1=>c Y H1 λx H2=> ∃a C t,x= .ref a/\H2 a=y0 (JZ a C t u0)/\i7 K C f/\ ∀dx,H2 dx=u0->dx≠a->D.nx Y (ax (ax H2 dx (.xd [(f,y)])) a (JZ a C t (y0 dx)))
def vv {X:Cx}{o b:Expr}{f:Str}{pos pos':Pos}{l j:TE}(w:PE X o l) (G:PE X b j) (z:swapsWith b (y0 (.Attribute o f pos')) pos.line X.env=pure y9):PS X (.Assign [.Attribute o f pos'] b pos) (AZ X.K l j f):=by
 intro d s Y H D I h
 refine plainObj_wpAny_Assign_Attribute (aE (G d s Y H _ I h) λu v ⟨y,n,J,A,q⟩=>aE (w d v Y n _ J q) λB r ⟨x,L,i,E,a,C,t,ex,m,c,p⟩=> ?_) z
 subst ex
 obtain rfl:B=Value.ref a:=E
 have g:r.heap.get? a=y0 (wF C t u0):=(i.aD a _ m).1
 exact Q0 i.bj g c.ov c.sa c.no λK k e F=>⟨Y,_,i.stored m A k e F,p _ (i.aD.fresh (Aa6 _)) (Al0 (Ab1 g))⟩
def yb (K:Frag) (f:Str):Sp:=λb H Q _=> ∃a v C t,b= [.ref a,v]/\H a=y0 (JZ a C t u0)/\i7 K C f/\ ∀dx,H dx=u0->dx≠a->Q .ai (ax (ax H dx (.xd [(f,v)])) a (JZ a C t (y0 dx)))
structure XT (K:Frag) (f:Str) (fI:Addr) (fd:FuncData) (ps:List Str):Prop where
 ex: ∃x k7 st N n1 n2 p1 p2 p3 p4,gK K x k7 st fI fd/\ps= [n1,n2]/\N= [n1,n2]/\Zq N ps (jf st)/\Ju st= [.Assign [.Attribute (.Name n1 p1) f p2] (.Name n2 p3) p4]/\(n1==("__debug__" :Str))=false/\(n2==("__debug__" :Str))=false ∧
  (n1==("__classdict__" :Str))=false/\(n2==("__classdict__" :Str))=false
 bd:Binds K fd ps []
 fn:typeIn K (.ref fI)=y0 (.type "function")
def pz {P:Program}{w:World}{K:Frag}{mg:Str->Option Value}{base:Heap}{f:Str}{j:Addr}{o:FuncData}{n:List Str}(Z:XT K f j o n):aW P w K mg base (bJ P w) 1 j o n (yb K f):=by
 obtain⟨x,h,d,N,l,g,J,L,M,O,F,rfl,rfl,S,p,G,D,y,r⟩:=Z.ex
 refine gK.oa (k:=0) F S (λI H Q E ⟨a,v,C,t,e,_⟩=>by subst e;rfl) ?_
 rintro u A b s H I Q E m ⟨a,v,C,t,e,B,c,q⟩
 subst e
 rw [p]
 have v1:gw (jf d) l:=(S.par l (by simp)).elim .inl λz=> .inr (.inl z)
 have v2:gw (jf d) g:=(S.par g (by simp)).elim .inl λz=> .inr (.inl z)
 refine⟨_,vJ (vv (jo (i:=0) rfl v1 G y) (jo (i:=1) rfl v2 D r) (by rfl)),?_⟩
 exact⟨v,rfl,.ref a,rfl,a,C,t,rfl,B,c,q⟩
def pR {M:Model}{A:Around}{E:Value->Shared->Prop}{s:Shared}{env:Env}{v:Sem Value}{K:Frag}{C:Addr}{Q:Flow->Shared->Prop}(q:Xz K C=k9) (n:A.handled=u0)
 (h:wpAny M A v (λv i=> ∃e t j,v= .ref e/\K.In i.heap/\i.heap.get? e=y0 (wF C t j)/\E (.ref e) i) E s):wpAny M A (raiseStmt env (y0 v) u0) Q E s:=by
 unfold raiseStmt
 refine wpAny_bind (wpAny_mono h (λv i p=> ?_) λ_ _ x=>x)
 obtain⟨e,t,j,rfl,X,l,k⟩:=p
 obtain⟨m,O,u,L,bs,f,D,sub,z,o,dd,r,F,B,N,w,y,c,H,T⟩:=jx X q
 have a:(Value.ref C::m).contains (.type "BaseException")=true:=by rw [List.contains_cons,T.hasType PySem.F.excBase_ValueError.hasBase,Bool.or_true]
 have b:i.heap.get? e=y0 { cls:= .ref C,dict:=j,data:= .fields #[.ref t,.none,.none,.none,.bool y9,.none] }:=l
 obtain⟨G,g,d,I,J⟩:=i
 repeat (first | with_reducible refine wpAny_loadPart_at b ?_ | with_reducible refine wpAny_loadPart_at c ?_ | (with_reducible refine wpAny_isSubtype_exc c ?_;rw [a]) | wp_step)
 exact wpAny_raiseNew_none n k
section
variable {P:Program}{w:World}{K:Frag}{mg:Str->Option Value}{base:Heap}{N:List Str}{k7:Str}{scope:Scope}{f:Addr}{cd:Value}{A:Around}{outer:List Env}{s:Shared}{H:Hp}{E:XK}
def Q8 (C:Addr) (a:Str) (E:XK) (t:TA):TS:=λ_ Y H=>t Y H λb H1=> ∃v,b= [v]/\ ∀dx,H1 dx=u0->E (.ref C) (y0 dx) (ax H1 dx (.xd [(a,v)]))
def Z1 {x k:Str}{np i pos:Pos}{e:Expr}{t:TA}{C R:Addr}{fd:FuncData}{T:List Str}(hh:A.handled=none) (B:i7 K C k) (hi:findIn K (.ref C) "__init__" =some (some (.ref R))) (Z:XT K k R fd T) (hm:mg x=some (.ref C)) (X:Gl (qD (bJ P w) P w K mg base N k7 scope f cd A outer s H E) x)
 (hr:aR 2 (A.deeper (envOfC k7 scope s.heap.objs.size f cd))) (ha:PA (qD (bJ P w) P w K mg base N k7 scope f cd A outer s H E) [e] t)
 (he:starEach [e] (envOfC k7 scope s.heap.objs.size f cd)=(false,eval e (envOfC k7 scope s.heap.objs.size f cd))::starEach [] (envOfC k7 scope s.heap.objs.size f cd):=by rfl) (hd:(x==("__debug__" :Str))=false:=by decide):
 PS (qD (bJ P w) P w K mg base N k7 scope f cd A outer s H E) (.Raise (y0 (.Call (.Name x np) [e] [] i)) u0 pos) (Q8 C k E t):=by
 intro p s1 Y W D I h
 rw [arm_exec_Raise]
 refine wpAny_bind (wpAny_standAt (pR B.cls hh ?_))
 refine wpAny_bind (wpAny_mono (wpAny_Call_Name_kw (Zm I X hm ?_ hd)) (λv s3 h3=>wpAny_bind (wpAny_standAt (wpAny_pure h3))) λ_ _ x=>x)
 refine callWith_K (h₀:=base) I.ok.mod.fJ B.kp (aE (ha i p s1 Y W _ I h) λus c ⟨vs,n,m,r,v,Q,q⟩=>⟨m.bj,?_⟩) he rfl
 subst Q
 obtain⟨u,rfl,M⟩: ∃u,us= [u]/\RelV v u:=by
  cases r with
  | cons M r2=>cases r2;exact⟨_,rfl,M⟩
 have L:=m.laid (a:=c.heap.objs.size+1) (o:=JZ (c.heap.objs.size+1) C c.heap.objs.size u0) (h':=zI c.heap C [u]) (t':=c.toks) (λb o z=>xq z) (Ad3 _) (q4 wQ)
 have g:n (c.heap.objs.size+1)=none:=m.aD.fresh (Ad3 _)
 refine vU m.bj B.cls hi Z.fn (show 1<=sizeLine by rw [sizeLine_eq];decide) ?_
 have F:=pz (P:=P) (w:=w) (mg:=mg) (base:=base) Z
 have hl:T.length=2:=by obtain⟨_,_,_,_,_,_,_,_,_,_,_,rfl,_⟩:=Z.ex;rfl
 refine wpAny_call (codeAny_mono (F.run _ (envOfC k7 scope s.heap.objs.size f cd::outer) _ _ ⟨[.ref (c.heap.objs.size+1),u],[]⟩ [.ref (c.heap.objs.size+1),u] [.ref (c.heap.objs.size+1),v]
  (λU O=>U= .ai/\ ∃d,n d=u0/\d≠c.heap.objs.size+1/\O=ax (ax (ax n (c.heap.objs.size+1) (JZ (c.heap.objs.size+1) C c.heap.objs.size u0)) d (.xd [(k,v)])) (c.heap.objs.size+1) (JZ (c.heap.objs.size+1) C c.heap.objs.size (y0 d)))
  (λ_ _ _=>False) (hr.make C [u] []) (L.eP.make C [u] []) (by
    have:=Z.bd ⟨zI c.heap C [u],c.gens,c.drawn,c.toks,c.os⟩ [.ref (c.heap.objs.size+1),u] L.bj (by rw [Ac2,hl];rfl)
    rwa [Ac2]at this) (.cons rfl (.cons M .nil)) ⟨_,v,C,c.heap.objs.size,rfl,Qa,B,λd z ne=>⟨rfl,d,by rw [qa ne]at z;exact z,ne,rfl⟩⟩) λres s' l=> ?_)
 cases res with
 | error Q=>
  obtain⟨_,_,_,_,_,_,_,_,_,_,_,_,_,_,_,z⟩:=l
  exact z.elim
 | ok J=>
  cases J with
  | ret u'=>
   obtain⟨U,O,G,rv,rfl,d,z1,V,rfl⟩:=L.after l
   refine⟨rv,_,c.heap.objs.size,y0 d,rfl,G.bj,(G.aD _ _ Qa).1,?_⟩
   have S:=G.forget Qa
   have eH:gJ (ax (ax (ax n (c.heap.objs.size+1) (JZ (c.heap.objs.size+1) C c.heap.objs.size u0)) d (.xd [(k,v)])) (c.heap.objs.size+1) (JZ (c.heap.objs.size+1) C c.heap.objs.size (y0 d))) (c.heap.objs.size+1)=ax n d (.xd [(k,v)]):=by
    funext b
    by_cases y:b=c.heap.objs.size+1
    .rw [y,zR,qa (Ne.symm V),g]
    .rw [Q3 y,qa y]
     by_cases j:b=d
     .rw [j,Qa,Qa]
     .rw [qa j,qa j,qa y]
   rw [eH]at S
   refine wB S (G.aD _ _ Qa).1 (Heap.get?_none_of_le (Ac0 m.sz (Ad3 _))) ?_ (q d z1)
   rw [qa (Ne.symm V),g]
  | next=>exact False.elim l
  | brk=>exact False.elim l
  | cont=>exact False.elim l
end
section
variable {prog:Program}{w:World}{A:Around}{E:Value->Shared->Prop}{s:Shared}{K:Frag}{x C dx:Addr}{fl:Str}{u:Value}{ox:Obj}{mA:Str->Option Value}
def sF {b:Bool}{Q:Value->Shared->Prop}(X:K.In s.heap) (v:s.heap.get? x=y0 ox) (P:ox.cls= .ref C) (J:notCls ox=k9) (F:ox.dict=y0 dx) (o:s.heap.Ns1 dx mA) (L:mA fl=y0 u) (H:handedIn u=k9) (z:g6 K C=k9) (N:findIn K (.ref C) fl=y0 u0)
 (l:findIn K (.ref C) "__getattribute__" =some (some (.builtin "BaseException.__getattribute__"))) (B:findIn K (.ref C) "__getattr__" =some none)
 (h:Q u { s with toks:=s.toks+1 }):wpAny (model prog w) A (getAttr (.ref x) fl b) Q E s:=by
 obtain⟨cd,c,a,e⟩:=nU z
 obtain⟨j,g,d,t,O⟩:=s
 dsimp only at X v o h
 obtain⟨q,i,m⟩:=wI o
 have I:PySem.W.InstAt j x ox C (y0 q):=⟨v,P,J,by rw [F];exact i⟩
 have f:findObj K C (y0 q) fl=y0 (.value u):=PySem.W.findObj_own (by unfold hasDictIn;rw [c];exact e) N rfl (by rw [m,L])
 have r:=I.type (M:=model prog w)
 have D:=looks_findIn (M:=model prog w) X l
 have y:=looks_findIn (M:=model prog w) X B
 have G:=looks_find (M:=model prog w) X I f
 have sub:Looks (model prog w) j (isInstance (.ref x) (.type "BaseException")) true:=I.type.andThen (looks_mroIn X (by unfold mroIn;rw [c,Option.bind_some,if_neg (by rw [xQ a];decide),qX a]))
 have p:=PySem.F.attrBase_ValueError
 have R:=p.ga.bind (.ref x)
 have n:(b&&onTheHeap (Value.builtin "BaseException.__getattribute__"))=false:=by cases b<;>rfl
 unfold getAttr getAttrBy
 refine wpAny_bind (wpAny_mkText (wpAny_holding (wpAny_bind (r.at (wpAny_bind (D.at ?_))))))
 have k:(Value.builtin "BaseException.__getattribute__" ==Value.builtin "object.__getattribute__")=false:=by decide +kernel
 dsimp only
 rw [k,Ak1,if_neg (by decide)]
 unfold getAttrByItsOwn hookBefore
 refine wpAny_bind (y.at (wpAny_bind (wpAny_attempt (wpAny_holding ?_))))
 unfold callGetattribute
 rw [n,if_neg (by decide)]
 repeat (any_goals (first | assumption | wp_step))
 refine codeAny_call_builtin p.ga.plain PySem.F.entry_bexc_ga (@check_slot (model prog w) _ _ ⟨j,g,d,t+1,O⟩ "BaseException.__getattribute__" "BaseException" "__getattribute__" (.ref x) [.str fl t] [] _ (by decide +kernel) (by decide +kernel) sub (PySem.F.args_bexc_ga (.ref x) (.str fl t)) ?_)
 refine wpAny_bind (wpAny_pure (wpAny_bind (wpAny_pure (wpAny_bind (r.at (wpAny_bind (G.at ?_)))))))
 refine wpAny_pure ?_
 show wpAny _ _ (handedOut u) _ _ _
 rw [handedOut_of H]
 exact wpAny_pure h
end
structure h9 (K:Frag) (C:Addr) (f:Str):Prop where
 ov:g6 K C=k9
 no:findIn K (.ref C) f=y0 u0
 ga:findIn K (.ref C) "__getattribute__" =some (some (.builtin "BaseException.__getattribute__"))
 gh:findIn K (.ref C) "__getattr__" =some none
def tQ (K:Frag) (b:TE) (f:Str):TE:=λY H Q=>b Y H λx H1=> ∃a C dx v,x= .ref a/\H1 a=y0 (WZ a C (y0 dx))/\H1 dx=y0 (.xd [(f,v)])/\h9 K C f/\Q v H1
def ui {X:Cx}{e:Expr}{f:Str}{pos:Pos}{k:TE}(y:PE X e k) (hb:attributeBase e f X.env (eval e X.env)=eval e X.env):PE X (.Attribute e f pos) (tQ X.K k f):=by
 intro b s Y H Q I h
 refine Q5 hb (aE (y b s Y H _ I h) ?_)
 rintro u w ⟨x,n,d,D,a,C,i,v,ex,F,B,c,q⟩
 subst ex
 obtain rfl:u=Value.ref a:=D
 obtain⟨o,p,A,E,z⟩:=(d.aD a _ F).1
 obtain⟨j,t,r⟩: ∃j,w.heap.Ns1 i j/\ ∀g,bQ (Af4 g [(f,v)]) (j g):=d.aD i _ B
 have l:=r f
 rw [show Af4 f [(f,v)]=y0 v by simp [Af4]]at l
 obtain⟨J,G,m⟩:=bQ.some_of l
 exact sF d.bj p A E (z i rfl) t G (QG m) c.ov c.no c.ga c.gh ⟨v,n,d.tok _,m,q⟩
def AJ (a:TT) (t u:TS):TS:=λD Y H=>a Y H λb H1=>if b then t D Y H1 else u D Y H1
end L2
namespace L2
open PySem PySem.Spec PyProof.Rows PySem.Builtin.Str
def bA:Str:=⟨#[32]⟩
noncomputable def kn (z:Str) (a:List Str):Bool:= !(u9 (z.length<bA.length)||u9 (strKind z<strKind bA))&& !(occurrences z bA 0 z.length (z.length+1)).isEmpty&&u9 (z.length<=1000)&&u9 (partsBetween z (occurrences z bA 0 z.length (z.length+1)) bA.length=a)&&u9 (a.length<=1000)
section
variable {X:Cx}
theorem JK: ∀(a:List Str) (t:Tok),Vals (a.map V.str) (strsFrom t a)
 | [],_=> .nil
 | p::a,t=> .cons ⟨_,rfl⟩ (JK a (t+1))
def sU:iS X "str.split" (fun x vs H Q=> ∃(z:Str) (a:List Str),x= .str z/\vs= [.str bA]/\kn z a=true/\ ∀p,H p=none->Q (.ref p) (ax H p (.lst (a.map V.str)))):=by
 intro g s Y H x vs v w Q I m rv h
 obtain⟨z,a,rfl,rfl,c,q⟩:=h
 obtain⟨t,rfl⟩:=m
 obtain⟨u,rfl,k⟩:=rv.one
 obtain⟨r,rfl⟩:=k
 unfold kn at c
 simp only [Aa1,Ai7,decide_eq_true_eq]at c
 obtain⟨⟨⟨⟨l,i⟩,j⟩,d⟩,f⟩:=c
 refine call_meets PySem.F.slot_str_split (typeIs_str _ _ _) PySem.F.entry_str_split (PySem.F.args_str_split_2 _ _) (meets_str_split_sep z bA t r l rfl i (Ae8 (Zh j)) (by rw [d];exact(Ae8 (Zh f)))) ?_
 rw [d]
 have n:H s.heap.objs.size=none:=I.aD.fresh (Aa6 _)
 refine⟨.ref s.heap.objs.size,_,?_,rfl,q _ n⟩
 exact I.laid (λb o e=>Aa2 _ e) (Aa6 _) (show aI X.prog X.w _ _ _ (.lst (a.map V.str))from⟨by rw [Aa0];exact(Ae8 (Zh f)),strsFrom s.toks a,0,JK a s.toks,Ab6 s.heap rfl⟩)
end
open PySem PySem.Spec PyProof.Rows
def dS (a:List (Str×V)):HO:= .dK (a.map λp=>(.inr p.1,p.2))
open PySem PySem.Spec PySem.Calls PySem.W PyProof.Rows
open PySem PySem.Spec PySem.Calls PyProof.Rows
def Cx.fc (X:Cx) (x:Addr):Cx:= { X with A:=X.A.mark (y0 (.ref x)),calm:=y9,xe:=λ_ _=>False }
section
variable {X:Cx}{y8:List (Addr×Obj)}{Y:St}{H:Hp}{s:Shared}{x:Addr}
theorem Inv.fc (I:Inv X y8 Y H s) (x:Addr):Inv (X.fc x) y8 Y H s:=
 ⟨⟨I.ok.mod,I.ok.kind,I.ok.glob,I.ok.blt,I.ok.above,I.ok.inj,I.ok.has,I.ok.gX,(λz=>nomatch z),I.ok.frames,I.ok.eL,I.ok.iA,I.ok.bs,I.ok.ez,I.ok.dN,I.ok.dO,I.ok.b7,I.ok.fW⟩,I.os,I.bare,I.base,I.loc,I.cell,I.free,I.aZ,I.pin,I.aD,I.len⟩
def Inv.hZ (ok:X.Ok) (I:Inv (X.fc x) y8 Y H s):Inv X y8 Y H s:=⟨ok,I.os,I.bare,I.base,I.loc,I.cell,I.free,I.aZ,I.pin,I.aD,I.len⟩
end
def gr (K:Frag) (W:Addr) (b:Nat) (e:TS) (D:XJ) (Y:St):XK:=λa d H2=> ∃C,a= .ref C/\g8 K C/\kitCls K (.ref C) (.ref W)=y0 k9 ∧
 ∀x,H2 x=u0->e { nx:=λc H'=>D.nx (c.set b u0) H',rt:=λ_ _=>False } (Y.set b (y0 (.ref x))) (ax H2 x (WZ x C d))
def qY (X:Cx) (a:List (Addr×Obj)) (D:XJ) (c:List ExceptHandler) (b:Value) (s':Shared):Prop:=
 wpAny (model X.prog X.w) X.A (noteFrame b X.env) (λ_ e=>wpAny (model X.prog X.w) X.A (setFlight b u0) (λ_ d=>wpAny (model X.prog X.w) X.A (handleBy b X.env c) (SP X a D) X.xe d) X.xe e) X.xe s'
def Z4 {X:Cx}{f:List (Addr×Obj)}{W:Addr}{O n:Str}{ie:Nat}{wq U:Pos}{b:List Stmt}{th:TS}{Y:St}{H1:Hp}{S s':Shared}{ev:Value}{D:XJ}
 (g:X.stack=X.env::X.outer) (hf:X.env.frame=some X.env.locals) (hex:X.ex= []) (hW:Gl X O) (hmW:X.mg O=some (.ref W)) (hbW:mroIn X.K W (.type "BaseException")=some true) (hN:X.N.Nodup) (G:X.N[ie]? =some n) (s:X.env.scope.names.lookup n=some .local)
 (hdW:(O==("__debug__" :Str))=false) (hb:b≠ []) (hS: ∀x,cD (X.fc x) b th)
 (i:Inv X f Y H1 S) (hq:bJ X.prog X.w X.stack H1 S (gr X.K W ie th D Y) ev s'):qY X f D [.ExceptHandler (y0 (.Name O wq)) (y0 n) b U] ev s':=by
 obtain⟨b0,b,rfl⟩:=List.exists_cons_of_ne_nil hb
 obtain⟨x,t,N,B,Q,od,rfl,os,h,P,un,l,comp,new,T,C,hC,Z,kc,q2⟩:=hq
 cases hC
 have V:X.A.frames=y0 (X.env::X.outer):=by rw [← g];exact i.ok.frames
 have fl0:Ai2 B (X.env::X.outer) x (.ref t) (.ref N) s'.heap:=by rw [← g];exact P
 refine xN (R:=λw=>Heap.HeldW B (X.env::X.outer) x (.ref t) (.ref N) X.env.locals w/\s'.heap.UpToSlots w) (Z3 _ _) (λQ' k=>wpAny_looks_onW V hf fl0 λw a b=>k w ⟨a,b⟩) ?_
 rintro w ⟨H,F⟩ dk4
 refine xN (R:=λr=>Ai2 B (X.env::X.outer) x (.ref t) (.ref N) r/\w.UpToSlots r) (zy _ _) (λQ' k=>wpAny_landsW H λr a b=>k r ⟨a,b⟩) ?_
 rintro r ⟨j,L⟩ dk5
 have E:=qP i os h un l comp (by rw [g];exact j) (F.trans L)
 have ex5:ExcAt r x t:=j.there
 refine wpAny_handleBy_cons (codeAny_handlers_test (Calls.Name_function_global E.ok.kind hW (Calls.loadGlobal_global (by rw [E.ok.glob];exact E.mod.glob.keeps E.bk) hmW ?_) hdW)) (λz=>nomatch z)
 refine XN E.bj ex5 kc hbW ?_
 refine codeAny_handlers_suite_as ?_
 refine xN (R:=λA=>Ai2 B (X.env::X.outer) x (.ref t) (.ref N) A/\r.UpToSlots A) (zy _ _) (λQ' k=>lands_againW j λA a b=>k A ⟨a,b⟩) ?_
 rintro A ⟨I,sm6⟩ dk6
 have I6:=qP i os h un l comp (by rw [g];exact I) ((F.trans L).trans sm6)
 have M:Q x=none:=by
  cases z:Q x with
  | none=>rfl
  | some u=>
   obtain⟨o,e1⟩:=(l x u z).there
   have nf:x∉bg X.stack:=λhx=>by
    obtain⟨_,o2,e2,_⟩:=i.stack.mem hx
    rw [new]at e2
    cases e2
   have e3:=comp x o e1 (.inl ⟨u,z⟩) nf
   rw [P.2.1]at e3
   cases e3
 have d: ∀b o,S.heap.get? b=y0 o->b≠x:=λb o z e=>by rw [e,new]at z;cases z
 obtain⟨o6,vs6,e6,c6,d6,_⟩:=I.first
 have I7:Inv X f Y (ax Q x (WZ x t od)) { s' with heap:=A }:=by
  refine I6.gq M (λz=> ?_) (λy c z=> ?_) (λp U=> ?_) (λb u z=> ?_) (sM e6 c6 (by unfold notCls;rw [d6]) λdx z=> ?_)
  .obtain⟨m,⟨o,_,_,K,_⟩,_⟩:=i.loc
   exact d _ o K z.symm
  .obtain⟨_,o,K,_⟩:=i.cell y c z
   exact d c o K
  .exact d p.1 _ (i.pin p U).1
  .obtain⟨o,K⟩:=i.base.there b u z (by rw [hex];simp)
   exact d b o K
  .obtain⟨o,e0,d0⟩:=T dx z
   obtain⟨o',e1,d1⟩:=((dk4.trans dk5).trans dk6) x o e0
   have:=e6.symm.trans e1
   cases this
   exact d1.trans d0
 refine Ql I7 hN G (.inl s) (v:= .ref x) rfl (λs8 I8=> ?_) (.inr s)
 refine wpAny_mono (hS x f s8 _ _ _ (I8.fc x) (q2 x M)) (λP s9 z=> ?_) λ_ _ z=>False.elim z
 cases P with
 | next=>
  obtain⟨Y',Q,J,q⟩:=z
  exact tm (J.hZ I8.ok) hN G s λs10 I10=>⟨_,_,I10,q⟩
 | ret u=>
  obtain⟨_,_,_,_,_,q⟩:=z
  exact q.elim
 | brk=>
  obtain⟨_,_,_,q⟩:=z
  exact q.elim
 | cont=>
  obtain⟨_,_,_,q⟩:=z
  exact q.elim
def cx (X:Cx) (d:List ExceptHandler) (a:List Stmt) (t:TS):Prop:=
 ∀(y8:List (Addr×Obj)) (s:Shared) (Y:St) (H:Hp) (D:XJ) (b:Flow->Shared->Prop),Inv X y8 Y H s->t D Y H->(∀ s c H',Inv X y8 c H' s->D.nx c H'->b .next s) →
  wpAny (model X.prog X.w) X.A (execs a X.env) b (qY X y8 D d) s
def cx.imp {X:Cx}{b:List ExceptHandler}{st:List Stmt}{t t':TS}(h:cx X b st t) (k: ∀D Y H,t' D Y H->t D Y H):cx X b st t':=λa s Y H D c I q d=>h a s Y H D c I (k _ _ _ q) d
def um (K:Frag) (W:Addr) (a:Nat) (b:TS) (sp:Sp) (t:TA) (o:Option Nat):TS:=λD Y H=>t Y H λc H1=>sp c H1 (λy H2=>D.nx (match o with | none=>Y | some i=>Y.set i (y0 y)) H2) (gr K W a b D Y)
def cg (X:Cx) (c:List ExceptHandler) (o:Option Nat) (e:Expr) (t:TS):Prop:=
 ∀(y8:List (Addr×Obj)) (s:Shared) (Y:St) (H:Hp) (D:XJ) (a:Value->Shared->Prop),Inv X y8 Y H s->t D Y H->(∀ u b y H2,Inv X y8 Y H2 b->RelV y u->D.nx (match o with | none=>Y | some i=>Y.set i (y0 y)) H2->a u b) →
  wpAny (model X.prog X.w) X.A (eval e X.env) a (qY X y8 D c) s
def cg.imp {X:Cx}{b:List ExceptHandler}{o:Option Nat}{e:Expr}{t t':TS}(h:cg X b o e t) (k: ∀D Y H,t' D Y H->t D Y H):cg X b o e t':=λa s Y H D d I q c=>h a s Y H D d I (k _ _ _ q) c
def Ba {X:Cx}{k:Nat}{f W:Addr}{C:FuncData}{x:List Str}{sp:Sp}{fx:Str}{A:Nat}{p n:Pos}{e:Expr}{es:List Expr}{t:TA}{E:TS}{B:List ExceptHandler}{o:Option Nat}
 (J: ∀a b, ¬X.xe a b) (T: ∀ {c:List (Addr×Obj)}{D:XJ}{Y:St}{j:Hp}{d s':Shared}{m:Value},Inv X c Y j d->bJ X.prog X.w X.stack j d (gr X.K W A E D Y) m s'->qY X c D B m s')
 (F:aW X.prog X.w X.K X.mg X.base (bJ X.prog X.w) k f C x sp) (U:aR k X.A) (G:Gl X fx) (M:X.mg fx=y0 (.ref f))
 (L:keepIn X.K (.ref f)=true) (hb:Binds X.K C x []) (O:PA X (e::es) t) (v:(fx==("__debug__" :Str))=false) (N:starEach (e::es) X.env=(false,eval e X.env)::starEach es X.env) (w:(backTo n (starEach es X.env)).any (·.1)=false):
 cg X B o (.Call (.Name fx p) (e::es) [] n) (um X.K W A E sp t o):=by
 intro c s Y H D Qv I h Q
 refine wpAny_Call_Name_kw (Zm I G M ?_ v)
 refine callWith_K (h₀:=X.base) I.ok.mod.fJ L (wpAny_mono (O n c s Y H _ I h) (λl d ⟨Z,j,i,r,q⟩=>⟨i.bj,?_⟩) λ_ _ z=>(J _ _ z).elim) N w
 have V:(l++ []).length=x.length:=by rw [Ac2,←r.length];exact F.len _ _ _ _ q
 refine wpAny_call (codeAny_mono (F.run X.A X.stack d j ⟨l,[]⟩ (l++ []) Z _ _ U i.eP (hb d l i.bj V) (by rw [Ac2];exact r) q) λres s' g=> ?_)
 cases res with
 | ok P=>
  cases P with
  | ret u=>
   obtain⟨y,H2,R,S,K⟩:=i.after g
   exact Q _ _ _ _ R S K
  | next=>exact False.elim g
  | brk=>exact False.elim g
  | cont=>exact False.elim g
 | error m=>exact T i g
def vX {X:Cx}{c:List ExceptHandler}{e:Expr}{b:Pos}{t:TS}(h:cg X c u0 e t) (f:swapsWith e u0 b.line X.env=pure y9):cx X c [.Expr e b] t:=λa s Y H D j I q g=>
 wpAny_execs_cons (wpAny_Expr_any (h a s Y H D _ I q λu k y m i l d=>wpAny_execs_nil (g _ _ _ i d)) I.quiet f)
def vn {X:Cx}{f:List ExceptHandler}{e:Expr}{i:Nat}{c:Str}{g d:Pos}{t:TS}(h:cg X f (y0 i) e t) (m:X.N.Nodup) (p:X.N[i]? =y0 c) (a:X.env.scope.names.lookup c=y0 .local) (k:swapsWith e (y0 (.Name c g)) d.line X.env=pure y9):cx X f [.Assign [.Name c g] e d] t:=λb s Y H D v I q l=>
 wpAny_execs_cons (wpAny_Assign_Name (h b s Y H D _ I q λu w y x n o j=>Ql n m p (.inl a) o (λz r=>wpAny_execs_nil (l _ _ _ r j)) (.inr a)) k)
def pN {X:Cx}{f:List ExceptHandler}{v:Pos}{c:Expr}{a b:List Stmt}{m:TT}{t u:TS}(r: ∀a b, ¬X.xe a b) (x:PT X c m) (h1:cx X f a t) (h2:cx X f b u):cx X f [.If c a b v] (AJ m t u):=by
 intro e s Y H D y I h l
 refine wpAny_execs_cons (wpAny_If (wpAny_mono (x e s Y H _ I h) (λd j ⟨i,n,k⟩=> ?_) λ_ _ z=>(r _ _ z).elim))
 cases d with
 | true=>exact h1 e j Y i D _ n k λp w o g q=>wpAny_execs_nil (l _ _ _ g q)
 | false=>exact h2 e j Y i D _ n k λp w o g q=>wpAny_execs_nil (l _ _ _ g q)
def BN {X:Cx}{c:ExceptHandler}{d:List ExceptHandler}{a:List Stmt}{pos:Pos}{t:TS}(h1:cx X (c::d) a t):PS X (.Try a (c::d) [] [] pos) t:=by
 intro b s Y H D I h
 exact wpAny_Try_except (h1 b s Y H D _ I h λi g e f q=>wpAny_execs_nil ⟨g,e,f,q⟩)
open PySem PySem.Spec PySem.Calls PySem.W PyProof.Rows Builtin
def Wy:fillsNumberSlot (.type "tuple") "mul" =pure false:=
 PySem.fillsNumberSlot_seq (id:= "tuple.__mul__") (r:=some (.builtin "tuple.__rmul__")) PySem.F.slot_tuple_mul.lookup (by decide +kernel) PySem.F.slot_tuple_rmul.lookup (by decide +kernel)
def jW:seqRepeat? (.type "tuple")=pure (some (.builtin "tuple.__mul__")):=by
 unfold seqRepeat?
 rw [PySem.seqSlot_of (T:= "tuple") (name:= "__mul__") (id:= "tuple.__mul__") PySem.F.slot_tuple_mul.lookup (by decide +kernel),PySem.seqSlot_of (T:= "tuple") (name:= "__rmul__") (id:= "tuple.__rmul__") PySem.F.slot_tuple_rmul.lookup (by decide +kernel)]
 rfl
def pZ (a:Int) (t:Tok) (l:Addr) (b:Array Value) (n:Nat) (d:Option Addr) (c:Array (Option Value)):
 Meets (Builtin.«int.__rmul__» ⟨[.int a t,.ref l],[]⟩) (λ_ R s=>s.heap.get? l=y0 { cls:= .type "tuple",dict:=d,data:= .seq b n,slots:=c }/\R (.ok (.ret Value.notImplemented)) s):=
 .of_wp λprog w A R s h=>by obtain⟨e,g,d,f,i⟩:=s;obtain⟨j,h⟩:=h;wp_walk;exact⟨_,rfl,h⟩
def AW (l:Addr) (a:Array Value) (n:Nat) (d:Option Addr) (b:Array (Option Value)) (u:Tok):
 Meets (Builtin.«tuple.__mul__» ⟨[.ref l,.int 1 u],[]⟩) (λ_ R s=>s.heap.get? l=y0 { cls:= .type "tuple",dict:=d,data:= .seq a n,slots:=b }/\R (.ok (.ret (.ref l))) s):=
 .of_wp λprog w A R s h=>by obtain⟨e,g,d,i,c⟩:=s;obtain⟨f,h⟩:=h;wp_walk;exact⟨_,rfl,h⟩
def pA (l:Addr) (a:Array Value) (n:Nat) (d:Option Addr) (m:Array (Option Value)) (x:Int) (u:Tok) (h1:1<x) (h2:x<1001) (c:a.isEmpty=y9) (y:a.size*x.toNat<=sizeLine){b:Array Value}(j:Ak8 (λx1 x2=>x1++x2) #[] (Aa x.toNat a)=b) (q:b.size<=sizeLine):
 Meets (Builtin.«tuple.__mul__» ⟨[.ref l,.int x u],[]⟩) (λ_ R s=>s.heap.get? l=y0 { cls:= .type "tuple",dict:=d,data:= .seq a n,slots:=m }/\R (.ok (.ret (Value.ref s.heap.objs.size))) { s with heap:=s.heap.push { cls:=Value.type "tuple",data:=Data.seq b },toks:=s.toks }):=
 .of_wp λprog w A R s h=>by
  obtain⟨r,g,d,t,v⟩:=s;obtain⟨z,h⟩:=h
  have o:(u9 (x< -(2 ^ 63))||u9 (x>=2 ^ 63))=false:=by rw [Bool.or_eq_false_iff];constructor<;>(apply decide_eq_false;omega)
  have k:(a.isEmpty||x==1)=false:=by rw [c,Bool.false_or];apply beq_eq_false_iff_ne.mpr;omega
  have i:(u9 (x<=0)||a.isEmpty)=false:=by rw [c,Bool.or_false];apply decide_eq_false;omega
  have p: ¬((a.size:Int)*x>(2 ^ 63-1) / 8):=by
   have e:((a.size*x.toNat:Nat):Int)=(a.size:Int)*x:=by rw [Aj9,Af7 (by omega)]
   have:sizeLine<=(2 ^ 63-1) / 8:=by decide
   omega
  have f:Tuple.tupleTooMany ((a.size:Int)*x)=false:=by
   unfold Tuple.tupleTooMany
   have e:((a.size*x.toNat:Nat):Int)=(a.size:Int)*x:=by rw [Aj9,Af7 (by omega)]
   apply decide_eq_false;omega
  wp_walk
  rw [if_neg (by rw [o];exact Aa4)]
  wp_walk
  rw [if_neg (by rw [k];exact Aa4),if_neg (by rw [i];exact Aa4),if_neg p,if_neg (by rw [f];exact Aa4)]
  rw [j]
  wp_walk
  exact⟨_,rfl,h⟩
def BK (K:Frag):R2:=λx y H Q=> ∃l k xs,x= .ref l/\y= .int k/\bK K H l xs/\xs≠ []/\1<=k/\k<1001/\xs.length*k.toNat<=sizeLine/\(k=1->Q (.ref l) H)/\(1<k-> ∀p,H p=u0->Q (.ref p) (ax H p (.tup (Aa k.toNat xs).flatten)))
theorem QS (b:List Value): ∀(m:Nat) (a:List Value),Ak8 (λx1 x2=>x1++x2) a.toArray (Aa m b.toArray)=(a++(Aa m b).flatten).toArray
 | 0,a=>by simp
 | m+1,a=>by
  rw [Ac3,Ah1,List.append_toArray,QS b m,Ac3,Ad4,Ah6]
theorem wU {xs:List V}{us:List Value}(r:Vals xs us): ∀m:Nat,Vals (Aa m xs).flatten (Aa m us).flatten
 | 0=> .nil
 | m+1=>by
  rw [Ac3,Ad4,Ac3,Ad4]
  exact r.append (wU r m)
def uF {X:Cx}:br X (binaryOp .Mult) (BK X.K):=by
 intro w s Y H x y v u Q I K J h
 obtain⟨l,k,g,rfl,rfl,M,L,P,D,i,F,B⟩:=h
 cases K
 obtain⟨t,rfl⟩:=J
 obtain⟨a,r,E,_⟩:=I.tuple M
 obtain⟨⟨G,dd,z,f⟩,d,p,n,m⟩:=id E
 simp only at p m
 subst p m
 have N:=r.length
 refine wpAny_binaryOp_repeat_ref (T:= "tuple") (U:= "int") (by decide) ⟨_,d,rfl⟩ (fun A=>typeIs_int A k t) Wy PySem.F.fills_int_mul PySem.F.slot_int_rmul jW PySem.F.slot_int_index.lookup
  (call_meets PySem.F.slot_int_rmul (typeIs_int s k t) PySem.F.entry_int_rmul (PySem.F.args_int_rmul_2 _ _) (pZ k t l a.toArray n dd f) ⟨d,rfl,⟨_,d,rfl⟩,?_⟩)
 by_cases C:k=1
 .subst C
  exact call_meets PySem.F.slot_tuple_mul ⟨_,d,rfl⟩ PySem.F.entry_tuple_mul (PySem.F.args_tuple_mul_2 _ _) (AW l a.toArray n dd f t) ⟨d,.ref l,H,I,rfl,F rfl⟩
 .have e:=QS a k.toNat []
  rw [Af9]at e
  have j:=wU r k.toNat
  have c:(Aa k.toNat g).flatten.length=g.length*k.toNat:=by simp [List.length_flatten,Nat.mul_comm]
  refine call_meets PySem.F.slot_tuple_mul ⟨_,d,rfl⟩ PySem.F.entry_tuple_mul (PySem.F.args_tuple_mul_2 _ _) (pA l a.toArray n dd f k t (by omega) D ?_ (by rw [Aa9,←N];exact i) e (by rw [Aa9,←j.length,c];exact i)) ⟨d,?_⟩
  .cases a with
   | nil=>exact absurd (r.cn.mp rfl) L
   | cons _ _=>rfl
  .refine⟨.ref s.heap.objs.size,_,I.laid (t':=s.toks) (o:= .tup (Aa k.toNat g).flatten) (λb O q=>Aa2 _ q) (Aa6 _) ?_,rfl,B (by omega) _ (I.aD.fresh (Aa6 _))⟩
   exact⟨by rw [c];exact i,_,j,cA.new _ _⟩
end L2
set_option genSizeOfSpec false
namespace M
abbrev Tx:=List Nat
def nW: ∃n:Nat,n=1000000:=⟨_,rfl⟩
noncomputable def aX:Nat:=Ag2 nW
def Gi:aX=1000000:=Ae1 nW
def nL: ∃n:Int,n=1073741824:=⟨_,rfl⟩
noncomputable def gU:Int:=Ag2 nL
def GA:gU=1073741824:=Ae1 nL
def nt: ∃n:Int,n=2 ^ 62:=⟨_,rfl⟩
noncomputable def gg:Int:=Ag2 nt
def G9:gg=2 ^ 62:=Ae1 nt
def oP: ∃n:Int,n=2 ^ 64:=⟨_,rfl⟩
noncomputable def dF:Int:=Ag2 oP
def GH:dF=2 ^ 64:=Ae1 oP
def n3: ∃n:Int,n=1000000:=⟨_,rfl⟩
noncomputable def BP:Int:=Ag2 n3
def GM:BP=1000000:=Ae1 n3
def oX: ∃n:Nat,n=2 ^ 64:=⟨_,rfl⟩
noncomputable def gZ:Nat:=Ag2 oX
def GB:gZ=2 ^ 64:=Ae1 oX
inductive D where
 | ai
 | bl (b:Bool)
 | int (i:Int)
 | str (s:Tx)
 | tup (xs:List D)
 | lst (xs:List D)
 | ref (r:Nat)
 | exc (c:String) (fs:List (Tx×D))
 | err (c f:String) (d:D)
inductive W where
 | v (d:D)
 | own (xs:List D)
 | bor (xs:List D)
abbrev WK:=Int×List Int×List Int
inductive Cell where
 | lst (xs:List D)
 | fR (kvs:List (Tx×D))
 | obj (c:String) (fs:List (String×D))
abbrev AH:=List Cell
abbrev Sl:=List (Option W)
inductive R (α:Type) where
 | ok (a:α) (h:AH)
 | exc (d:D) (h:AH)
 | fail
def R.bind {b c:Type}:R b->(b->AH->R c)->R c
 | .ok a h,f=>f a h
 | .exc d h,_=> .exc d h
 | .fail,_=> .fail
inductive O where
 | next (U:Sl) (h:AH)
 | ret (w:W) (h:AH)
 | brk (U:Sl) (h:AH)
 | cont (U:Sl) (h:AH)
 | exc (d:D) (h:AH)
 | fail
def O.seq:O->(Sl->AH->O)->O
 | .next U h,f=>f U h
 | o,_=>o
def R.bZ {b:Type}:R b->(b->AH->O)->O
 | .ok a h,f=>f a h
 | .exc d h,_=> .exc d h
 | .fail,_=> .fail
section
variable {α β:Type}
@[simp] theorem R.af (a:α) (h:AH) (f:α->AH->R β):(R.ok a h).bind f=f a h:=rfl
@[simp] theorem R.aA (a:α) (h:AH) (f:α->AH->O):(R.ok a h).bZ f=f a h:=rfl
@[simp] theorem O.cY (U:Sl) (h:AH) (f:Sl->AH->O):(O.next U h).seq f=f U h:=rfl
@[simp] theorem O.dC (w:W) (h:AH) (f:Sl->AH->O):(O.ret w h).seq f= .ret w h:=rfl
@[simp] theorem O.fk (d:D) (h:AH) (f:Sl->AH->O):(O.exc d h).seq f= .exc d h:=rfl
end
inductive Op where
 | add | sub | mul | fdiv | mod | pow | shl | shr | band | bor | bxor
 deriving DecidableEq
inductive Cp where
 | eq | ne | lt | le | gt | ge | mem | fD | fy | gv
 deriving DecidableEq
inductive Ty where
 | ai | bool | int | str | list | tuple
 deriving DecidableEq
inductive Mt where
 | index | join | count | kF | starts | mh | part
 deriving DecidableEq
inductive Bi where
 | len | int | list | tuple | sum | all | any | sorted | divmod | str | min | max | abs
 deriving DecidableEq
set_option genInjectivity false
mutual
inductive E where
 | var (i:Nat)
 | con (x:String)
 | int (i:Int)
 | bl (b:Bool)
 | ai
 | str (s:Tx)
 | tup (es:Es)
 | lst (es:Es)
 | bin (o:Op) (a b:E)
 | cmp (o:Cp) (a b:E)
 | chain (o p:Cp) (a b c:E)
 | dZ (neg:Bool) (a:E)
 | neg (a:E)
 | not (a:E)
 | and (a b:E)
 | or (a b:E)
 | call (f:String) (es:Es)
 | bi (b:Bi) (es:Es)
 | cT (a:E) (t:Ty)
 | bc (a:E) (one:Bool) (ts:List String)
 | ix (a b:E)
 | dG (a lo:E)
 | d7 (a hi:E)
 | comp (tg:List Nat) (one:Bool) (k:Nat) (bI:List Nat) (it:It) (k6:Bool) (c elt:E)
 | share (a:E)
 | bx (a:E)
 | gb (s:Tx) (ts:List Tx)
 | xf (i:Nat) (f:String)
 | make (c q:String) (es:Es)
 | aU (a:E) (c f:String)
 | cG (a:E) (c m q:String) (es:Es)
inductive Es where
 | nil
 | cons (e:E) (es:Es)
inductive It where
 | seq (e:E)
 | aB (a:E)
 | enum (e:E)
 | bO (e:E)
end
set_option genInjectivity true
inductive Tb where
 | ex (f:String) (es:Es)
 | sv (i:Nat) (f:String) (es:Es)
 | iff (c:E) (a b:Tb)
mutual
inductive S where
 | set (i:Nat) (e:E)
 | av (i:Nat) (e:E)
 | eV (is:List Nat) (e:E)
 | b4 (o k e:E)
 | app (i:Nat) (e:E)
 | ext (i:Nat) (e:E)
 | c5 (i:Nat) (k e:E)
 | bB (i:Nat) (c f:String) (e:E)
 | dY (a e:E)
 | ex (e:E)
 | ret (e:E)
 | iff (c:E) (a b:Ss)
 | for (tg:List Nat) (one:Bool) (it:It) (b:Ss)
 | raise (c:String) (es:Es)
 | eg (o k:E) (j:Nat) (e:E)
 | dJ (b:Tb) (c:String) (nm:Nat) (hb:Ss)
 | bf (i:Nat) (c f:String) (e:E)
 | cN (c f:String) (e:E)
 | aS
inductive Ss where
 | nil
 | cons (s:S) (ss:Ss)
end
noncomputable section
mutual
@[simp,reducible] noncomputable def Gb:D->Bool
 | .ref _=>y9
 | .tup xs=>Gd xs
 | .lst xs=>Gd xs
 | .exc _ _=>y9
 | .err _ _ _=>y9
 | _=>k9
@[simp,reducible] noncomputable def Gd:List D->Bool
 | []=>k9
 | x::xs=>Gb x&&Gd xs
end
mutual
@[simp,reducible] noncomputable def dep:D->Nat
 | .tup xs=>GE xs+1
 | .lst xs=>GE xs+1
 | _=>0
@[simp,reducible] noncomputable def GE:List D->Nat
 | []=>0
 | x::xs=>max (dep x) (GE xs)
end
def Cell.pure:Cell->Bool
 | .obj _ fs=>Gd (fs.map (·.2))
 | _=>k9
def Gw (h:AH):Bool:=h.all Cell.pure
@[reducible] def GZ (a b:D):Bool:=Gb a&&Gb b&&u9 (dep a<150)
mutual
@[simp] noncomputable def res (h:AH):D->D
 | .ref r=>match h[r]? with
  | some (.lst xs)=> .lst xs
  | _=> .ref r
 | .tup xs=> .tup (GX h xs)
 | .lst xs=> .lst (GX h xs)
 | d=>d
@[simp] noncomputable def GX (h:AH):List D->List D
 | []=> []
 | x::xs=>res h x::GX h xs
end
mutual
@[simp] noncomputable def bR:D->D->Bool
 | .ai,.ai=>k9
 | .bl a,.bl b=>a==b
 | .int i,.int j=>i==j
 | .bl a,.int j=>(a.toNat:Int)==j
 | .int i,.bl b=>i==(b.toNat:Int)
 | .str s,.str t=>s==t
 | .tup xs,.tup ys=>GF xs ys
 | .lst xs,.lst ys=>GF xs ys
 | _,_=>y9
@[simp] noncomputable def GF:List D->List D->Bool
 | [],[]=>k9
 | x::xs,y::ys=>bR x y&&GF xs ys
 | _,_=>y9
end
def fS (s:Tx):List D:=s.map λc=> .str [c]
def W.d:W->Option D
 | .v d=>y0 d
 | .own xs=>y0 (.lst xs)
 | .bor _=>u0
def W.arg:W->W
 | .own xs=> .bor xs
 | w=>w
@[simp] theorem W.ek (d:D):(W.v d).arg= .v d:=rfl
@[simp] theorem W.eZ (xs:List D):(W.own xs).arg= .bor xs:=rfl
@[simp] theorem W.fj (xs:List D):(W.bor xs).arg= .bor xs:=rfl
def W.dd (h:AH):W->D
 | .v d=>res h d
 | .own xs=> .lst (GX h xs)
 | .bor xs=> .lst (GX h xs)
noncomputable def W.cy (h:AH):W->Option (List D)
 | .v (.lst xs)=>y0 xs
 | .own xs=>y0 xs
 | .bor xs=>y0 xs
 | .v (.ref r)=>match h[r]? with
  | some (.lst xs)=>y0 xs
  | _=>u0
 | _=>u0
noncomputable def W.seq? (h:AH):W->Option (List D)
 | .v (.tup xs)=>y0 xs
 | .v (.lst xs)=>y0 xs
 | .own xs=>y0 xs
 | .bor xs=>y0 xs
 | .v (.ref r)=>match h[r]? with
  | some (.lst xs)=>y0 xs
  | _=>u0
 | _=>u0
def R.of {b:Type}(h:AH):Option b->R b
 | some a=> .ok a h
 | none=> .fail
@[simp] abbrev aw (d:D) (h:AH):R W:= .ok (.v d) h
def GV (h:AH):W->Option Bool
 | .v .ai=>y0 y9
 | .v (.bl b)=>y0 b
 | .v (.int i)=>y0 (i != 0)
 | .v (.str s)=>if s.length<=aX then y0 (!s.isEmpty)else u0
 | .v (.tup xs)=>y0 (!xs.isEmpty)
 | .v (.lst xs)=>y0 (!xs.isEmpty)
 | .own xs=>y0 (!xs.isEmpty)
 | .bor xs=>y0 (!xs.isEmpty)
 | _=>u0
@[simp] theorem R.aM {b:Type}(h:AH) (a:b):R.of h (y0 a)= .ok a h:=rfl
@[simp] theorem W.iM (d:D):(W.v d).d=y0 d:=rfl
@[simp] theorem W.ew (xs:List D):(W.own xs).d=y0 (.lst xs):=rfl
@[simp] theorem W.rF (h:AH) (d:D):(W.v d).dd h=res h d:=rfl
@[simp] theorem W.kW (h:AH) (xs:List D):(W.own xs).dd h= .lst (GX h xs):=rfl
@[simp] theorem W.ll (h:AH) (xs:List D):(W.bor xs).dd h= .lst (GX h xs):=rfl
@[simp] theorem GK (h:AH) (b:Bool):GV h (.v (.bl b))=y0 b:=rfl
@[simp] theorem vh (h:AH) (i:Int):GV h (.v (.int i))=y0 (i != 0):=rfl
noncomputable def Km (i j:Int):Option Int:=
 if 0<=i then(if 0<=j then y0 ((i.toNat &&& j.toNat:Nat):Int)else y0 ((i.toNat-(i.toNat &&& (-j-1).toNat):Nat):Int))else u0
def rP (i j:Int):Option Int:=if 0<=i/\0<=j then y0 ((i.toNat ||| j.toNat:Nat):Int)else u0
def Ao (i j:Int):Option Int:=if 0<=i/\0<=j then y0 ((i.toNat ^^^ j.toNat:Nat):Int)else u0
def Gg (o:Op) (i j:Int):Option Int:=match o with
 | .add=>y0 (i+j)
 | .sub=>y0 (i-j)
 | .mul=>if(-(dF)<i/\i<dF)\/(-(dF)<j/\j<dF)then y0 (i*j)else u0
 | .fdiv=>if 0<j/\j<gU then y0 (i / j)else u0
 | .mod=>if 0<j then y0 (i % j)else u0
 | .pow=>if 0<=j/\j<=BP/\i.natAbs<gZ then y0 (i ^ j.toNat)else u0
 | .shl=>if 0<=j/\j<=BP/\i.natAbs<gZ then y0 (i*2 ^ j.toNat)else u0
 | .shr=>if 0<=j then y0 (i / 2 ^ j.toNat)else u0
 | .band=>Km i j
 | .bor=>rP i j
 | .bxor=>Ao i j
def W.int? :W->Option Int
 | .v (.int i)=>y0 i
 | _=>u0
def W.bh :W->Option Tx
 | .v (.str s)=>y0 s
 | _=>u0
def W.ea :W->Option (List D)
 | .v (.tup s)=>y0 s
 | _=>u0
def Kt (xs a:List D) (h:AH):R W:=if xs.length+a.length<=aX then .ok (.own (xs++a)) h else .fail
def Ku (xs:List D) (j:Int) (h:AH):R W:=if -1000<=j/\j<=1000/\xs.length*j.toNat<=aX then .ok (.own (Aa j.toNat xs).flatten) h else .fail
def Kw (a b:W) (h:AH):R W:=match a.bh,b.bh with
 | some s,y0 t=>if s.length+t.length<=aX then aw (.str (s++t)) h else .fail
 | _,_=>match a.ea,b.ea with
  | some xs,y0 ys=>if xs.length+ys.length<=aX then aw (.tup (xs++ys)) h else .fail
  | _,_=>match a.cy h,b.cy h with
   | some xs,y0 ys=>Kt xs ys h
   | _,_=> .fail
noncomputable def W.fU (h:AH):W->Option (List D)
 | .own xs=>y0 xs
 | .bor xs=>y0 xs
 | .v (.ref r)=>match h[r]? with
  | some (.lst xs)=>y0 xs
  | _=>u0
 | _=>u0
def Kx (a b:W) (h:AH):R W:=match a.bh,b.int? with
 | some s,y0 j=>if 0<=j/\j<=1000/\s.length*j.toNat<=aX then aw (.str (Aa j.toNat s).flatten) h else .fail
 | _,_=>match a.fU h,b.int? with
  | some xs,y0 j=>Ku xs j h
  | _,_=>match a.ea,b.int? with
   | some xs,y0 j=>if xs≠ []/\1<=j/\j<1001/\xs.length*j.toNat<=aX then aw (.tup (Aa j.toNat xs).flatten) h else .fail
   | _,_=> .fail
def GY (o:Op) (a b:W) (h:AH):R W:=match a.int?,b.int? with
 | some i,y0 j=>(R.of h (Gg o i j)).bind λk h=>aw (.int k) h
 | _,_=>match o with
  | .add=>Kw a b h
  | .mul=>Kx a b h
  | _=> .fail
def inD (x:D) (xs:List D):Bool:=xs.any λy=>bR y x
@[simp,reducible] def GO:D->Bool
 | .ai=>k9
 | .bl _=>k9
 | .int _=>k9
 | .str _=>k9
 | _=>y9
def Kv (a b:W) (h:AH):Option Bool:=match b.dd h with
 | .lst ys=>if Gb (a.dd h)&&Gd ys&&u9 (GE ys<140)then y0 (inD (a.dd h) ys)else u0
 | _=>u0
def Kf (a b:W) (h:AH):Option Bool:=match a.bh,b.bh with
 | some s,y0 t=>match s with
  | [c]=>y0 (t.contains c)
  | _=>u0
 | _,_=>match a.d,b.seq? h with
  | some d,y0 xs=>if GO d&&xs.all GO then y0 (inD d xs)else Kv a b h
  | _,_=>u0
noncomputable def Kp (o:Cp) (i j:Int):Option Bool:=match o with
 | .lt=>y0 (u9 (i<j))
 | .le=>y0 (u9 (i<=j))
 | .gt=>y0 (u9 (j<i))
 | .ge=>y0 (u9 (j<=i))
 | _=>u0
def Ks (o:Cp) (i j:Tx):Option Bool:=match o with
 | .lt=>y0 (u9 (i<j))
 | .ge=>y0 (!u9 (i<j))
 | _=>u0
def Ki:W->W->Option Bool
 | .v .ai,.v (.bl _)=>y0 y9
 | .v (.bl b),.v (.bl c)=>y0 (b==c)
 | _,_=>u0
def Gy (o:Cp) (a b:W) (h:AH):Option Bool:=match o with
 | .eq=>if GZ (a.dd h) (b.dd h)then y0 (bR (a.dd h) (b.dd h))else u0
 | .ne=>if GZ (a.dd h) (b.dd h)then y0 (!bR (a.dd h) (b.dd h))else u0
 | .mem=>Kf a b h
 | .fD=>(Kf a b h).map (!·)
 | .fy=>Ki a b
 | .gv=>(Ki a b).map (!·)
 | o=>match a.int?,b.int? with
  | some i,y0 j=>Kp o i j
  | _,_=>match a.bh,b.bh with
   | some s,y0 t=>Ks o s t
   | _,_=>u0
noncomputable def cX (n:Nat) (i:Int):Option Nat:=if 0<=i then(if i<n then y0 i.toNat else u0)else if -(n:Int)<=i then y0 (i+n).toNat else u0
def bq {a:Type}(xs:List a) (i:Int):Option a:=(cX xs.length i).bind λj=>xs[j]?
def dm (a b:W) (h:AH):Option D:=match b.int? with
 | some i=>match a.bh with
  | some s=>if s.length<=aX then(bq s i).map λc=> .str [c]else u0
  | none=>(a.seq? h).bind λxs=>bq xs i
 | none=>u0
def aC (n d:Nat):Option Int->Nat
 | none=>d
 | some v=>if v<0 then(v+n).toNat else min v.toNat n
noncomputable def cut {a:Type}(xs:List a) (b c:Option Int):List a:=(xs.drop (aC xs.length 0 b)).take (aC xs.length xs.length c-aC xs.length 0 b)
def eJ (a:W) (c b:Option Int) (h:AH):R W:=match a.bh with
 | some s=>if s.length<=aX then aw (.str (cut s c b)) h else .fail
 | none=>match a.ea with
  | some xs=>aw (.tup (cut xs c b)) h
  | none=>match a.cy h with
   | some xs=> .ok (.own (cut xs c b)) h
   | none=> .fail
def Kc:List D->Option Int
 | []=>y0 0
 | .int i::r=>(Kc r).map (i+ ·)
 | _::_=>u0
def lr:List D->Option (List Int)
 | []=>y0 []
 | .int i::r=>(lr r).map (i:: ·)
 | _::_=>u0
def GR:List D->Option (List Tx)
 | []=>y0 []
 | .str s::r=>(GR r).map (s:: ·)
 | _::_=>u0
def ud:List Int->Option Int
 | []=>u0
 | i::r=>y0 (r.foldl (λa b=>if b>a then b else a) i)
def sA:List Int->Option Int
 | []=>u0
 | i::r=>y0 (r.foldl (λa b=>if b<a then b else a) i)
def G6 (x:Tx):List Tx->List Tx
 | []=> [x]
 | y::ys=>if y<x then y::G6 x ys else x::y::ys
def GD:List Tx->List Tx
 | []=> []
 | x::xs=>G6 x (GD xs)
def n6 (x:Tx):List Tx->Option Nat
 | []=>u0
 | y::ys=>if y=x then y0 0 else(n6 x ys).map (· +1)
def Kd:List D->Option (List Bool)
 | []=>y0 []
 | .bl b::r=>(Kd r).map (b:: ·)
 | _::_=>u0
def fX (b:Bi) (w:W) (h:AH):R W:=match b with
 | .len=>match w.bh with
  | some s=>if s.length<=aX then aw (.int s.length) h else .fail
  | none=>(R.of h (w.seq? h)).bind λxs h=>aw (.int xs.length) h
 | .int=>match w with
  | .v (.int i)=>aw (.int i) h
  | .v (.bl b)=>aw (.int (b.toNat:Int)) h
  | _=> .fail
 | .list=>(R.of h (w.seq? h)).bind λxs h=> .ok (.own xs) h
 | .tuple=>(R.of h (w.seq? h)).bind λxs h=>aw (.tup xs) h
 | .sum=>(R.of h ((w.cy h).bind λxs=>if xs.length<=aX then Kc xs else u0)).bind λi h=>aw (.int i) h
 | .all=>(R.of h ((w.cy h).bind Kd)).bind λbs h=>aw (.bl (bs.all id)) h
 | .any=>(R.of h ((w.cy h).bind Kd)).bind λbs h=>aw (.bl (bs.any id)) h
 | .max=>(R.of h (((w.cy h).bind lr).bind ud)).bind λi h=>aw (.int i) h
 | .min=>(R.of h (((w.cy h).bind lr).bind sA)).bind λi h=>aw (.int i) h
 | .sorted=>(R.of h ((w.cy h).bind GR)).bind λa h=>if a.length<64 then .ok (.own ((GD a).map .str)) h else .fail
 | _=> .fail
def GL:Nat->List D->List D
 | _,[]=> []
 | i,d::ds=> .tup [.int (i:Int),d]::GL (i+1) ds
def m4 (b:Bi) (i j:Int) (h:AH):R W:=match b with
 | .divmod=>if 0<j/\j<gU then aw (.tup [.int (i / j),.int (i % j)]) h else .fail
 | .min=>aw (.int (if j<i then j else i)) h
 | .max=>aw (.int (if j>i then j else i)) h
 | _=> .fail
def dz (b:Bi) (ws:List W) (h:AH):R W:=match ws with
 | [w]=>fX b w h
 | [v,w]=>(R.of h v.int?).bind λi h=>(R.of h w.int?).bind λj h=>m4 b i j h
 | _=> .fail
@[simp] theorem GW (o:Op) (i j:Int) (h:AH):GY o (.v (.int i)) (.v (.int j)) h=(R.of h (Gg o i j)).bind λk h=>aw (.int k) h:=rfl
@[simp] theorem zf (i j:Int):Gg .add i j=y0 (i+j):=rfl
@[simp] theorem Wp (i j:Int):Gg .sub i j=y0 (i-j):=rfl
@[simp] theorem sH (s u:Tx) (h:AH):GY .add (.v (.str s)) (.v (.str u)) h=if s.length+u.length<=aX then aw (.str (s++u)) h else .fail:=rfl
@[simp] theorem A3 (s u:List D) (h:AH):GY .add (.v (.tup s)) (.v (.tup u)) h=if s.length+u.length<=aX then aw (.tup (s++u)) h else .fail:=rfl
@[simp] theorem B3 (s u:List D) (h:AH):GY .add (.own s) (.own u) h=if s.length+u.length<=aX then .ok (.own (s++u)) h else .fail:=rfl
@[simp] theorem lJ (i j:Int) (h:AH):Gy .lt (.v (.int i)) (.v (.int j)) h=y0 (u9 (i<j)):=rfl
@[simp] theorem WI (i j:Int) (h:AH):Gy .le (.v (.int i)) (.v (.int j)) h=y0 (u9 (i<=j)):=rfl
@[simp] theorem n0 (i j:Int) (h:AH):Gy .gt (.v (.int i)) (.v (.int j)) h=y0 (u9 (j<i)):=rfl
@[simp] theorem rh (i j:Int) (h:AH):Gy .ge (.v (.int i)) (.v (.int j)) h=y0 (u9 (j<=i)):=rfl
@[simp] theorem Cz (a b:W) (h:AH):Gy .eq a b h=if GZ (a.dd h) (b.dd h)then y0 (bR (a.dd h) (b.dd h))else none:=rfl
@[simp] theorem CA (a b:W) (h:AH):Gy .ne a b h=if GZ (a.dd h) (b.dd h)then y0 (!bR (a.dd h) (b.dd h))else none:=rfl
@[simp] theorem int?_int (i:Int):(W.v (.int i)).int? =y0 i:=rfl
@[simp] theorem len_str (s:Tx) (h:AH):dz .len [.v (.str s)] h=if s.length<=aX then aw (.int s.length) h else .fail:=rfl
@[simp] theorem zi (s:List D) (h:AH):dz .len [.v (.tup s)] h=aw (.int s.length) h:=rfl
@[simp] theorem jO (s:List D) (h:AH):dz .len [.v (.lst s)] h=aw (.int s.length) h:=rfl
@[simp] theorem int_int (i:Int) (h:AH):dz .int [.v (.int i)] h=aw (.int i) h:=rfl
@[simp] theorem jI (s:List D) (h:AH):dz .tuple [.own s] h=aw (.tup s) h:=rfl
@[simp] theorem yB (s:List D) (h:AH):dz .all [.own s] h=(R.of h (Kd s)).bind λbs h=>aw (.bl (bs.all id)) h:=rfl
@[simp] theorem yo (s:List D) (h:AH):dz .any [.own s] h=(R.of h (Kd s)).bind λbs h=>aw (.bl (bs.any id)) h:=rfl
@[simp] theorem m7 (s:List D) (h:AH):dz .sum [.own s] h=(R.of h (if s.length<=aX then Kc s else u0)).bind λi h=>aw (.int i) h:=rfl
@[simp] theorem qO (i j:Int) (h:AH):dz .divmod [.v (.int i),.v (.int j)] h=if 0<j/\j<gU then aw (.tup [.int (i / j),.int (i % j)]) h else .fail:=rfl
@[simp] theorem lH (s:Tx) (i:Int) (h:AH):dm (.v (.str s)) (.v (.int i)) h=if s.length<=aX then(bq s i).map λc=> .str [c]else none:=rfl
@[simp] theorem ag (s:List D) (i:Int) (h:AH):dm (.v (.tup s)) (.v (.int i)) h=bq s i:=rfl
@[simp] theorem sO (s:List D) (i:Int) (h:AH):dm (.v (.lst s)) (.v (.int i)) h=bq s i:=rfl
@[simp] theorem BR (s:List D) (i:Int) (h:AH):dm (.own s) (.v (.int i)) h=bq s i:=rfl
@[simp] theorem nI (s:List D) (i:Int) (h:AH):dm (.bor s) (.v (.int i)) h=bq s i:=rfl
@[simp] theorem mz (s:List D) (a b:Option Int) (h:AH):eJ (.v (.lst s)) a b h= .ok (.own (cut s a b)) h:=rfl
@[simp] theorem AX (s:List D) (a b:Option Int) (h:AH):eJ (.bor s) a b h= .ok (.own (cut s a b)) h:=rfl
abbrev cu:=List (String×String)
noncomputable def GQ (a:cu):Nat->String->List String
 | 0,_=> []
 | n+1,c=>c::match a.lookup c with
  | some b=>GQ a n b
  | none=> []
noncomputable def Bv:W->Option Ty
 | .v .ai=>y0 .ai
 | .v (.bl _)=>y0 .bool
 | .v (.int _)=>y0 .int
 | .v (.str _)=>y0 .str
 | .v (.tup _)=>y0 .tuple
 | .v (.lst _)=>y0 .list
 | .own _=>y0 .list
 | .bor _=>y0 .list
 | .v (.ref _)=>u0
 | .v (.exc _ _)=>u0
 | .v (.err _ _ _)=>u0
def Ty.le:Ty->Ty->Bool
 | .bool,.int=>k9
 | a,b=>u9 (a=b)
def cT (t:Ty) (w:W):Option Bool:=(Bv w).map λu=>u.le t
@[simp] theorem BQ (t:Ty) (i:Int):cT t (.v (.int i))=y0 (Ty.le .int t):=rfl
@[simp] theorem pM (t:Ty) (s:List D):cT t (.v (.tup s))=y0 (Ty.le .tuple t):=rfl
def bc (a:cu) (w:W) (b:List String):Option Bool:=match w with
 | .v (.exc c [])=>y0 (b.any (GQ a 8 c).contains)
 | .v (.err c _ _)=>y0 (b.any (GQ a 8 c).contains)
 | _=>u0
@[simp] def Gp:Sl->Nat->Option W
 | [],_=>u0
 | x::_,0=>x
 | _::r,n+1=>Gp r n
@[simp] def GG:Sl->Nat->W->Sl
 | [],_,_=> []
 | _::r,0,w=>y0 w::r
 | x::r,n+1,w=>x::GG r n w
def Gm (U:Sl) (i:Nat):Option W:=match Gp U i with
 | some (.own xs)=>y0 (.bor xs)
 | o=>o
@[simp] theorem G7 {U:Sl}{i:Nat}{xs:List D}(e:Gp U i=y0 (.own xs)):Gm U i=y0 (.bor xs):=by simp [Gm,e]
@[simp] theorem Kn {U:Sl}{i:Nat}{d:D}(e:Gp U i=y0 (.v d)):Gm U i=y0 (.v d):=by simp [Gm,e]
@[simp] theorem G8 {U:Sl}{i:Nat}{xs:List D}(e:Gp U i=y0 (.bor xs)):Gm U i=y0 (.bor xs):=by simp [Gm,e]
@[simp] noncomputable def aG:List Nat->List D->Sl->Option Sl
 | [],[],U=>y0 U
 | i::is,d::ds,U=>aG is ds (GG U i (.v d))
 | _,_,_=>u0
def Gn (tg:List Nat) (one:Bool) (d:D) (U:Sl):Option Sl:=match one with
 | true=>match tg with
  | [i]=>y0 (GG U i (.v d))
  | _=>u0
 | false=>match d with
  | .tup ds=>aG tg ds U
  | _=>u0
noncomputable def Gx (step:D->AH->R (Option D)):List D->AH->R (List D)
 | [],h=> .ok [] h
 | d::ds,h=>match step d h with
  | .ok o h1=>match Gx step ds h1 with
   | .ok r h2=> .ok (match o with | some x=>x::r | none=>r) h2
   | _=> .fail
  | _=> .fail
structure Fx where
 call:String->List W->AH->R W
 cl:cu
 con:List (String×D)
noncomputable def GT (h:AH):Option W->Option (Nat×List D)
 | some (.v (.ref r))=>match h[r]? with
  | some (.lst xs)=>y0 (r,xs)
  | _=>u0
 | _=>u0
noncomputable def GU (h:AH):Option W->Option (Nat×String×List (String×D))
 | some (.v (.ref r))=>match h[r]? with
  | some (.obj c fs)=>y0 (r,c,fs)
  | _=>u0
 | _=>u0
noncomputable def aJ (f:String) (d:D):List (String×D)->List (String×D)
 | []=> [(f,d)]
 | (g,x)::r=>if g=f then(g,d)::r else(g,x)::aJ f d r
def lU:W->Option (List D)
 | .v (.lst xs)=>y0 xs
 | .own xs=>y0 xs
 | _=>u0
mutual
@[simp] noncomputable def eval (F:Fx):E->Sl->AH->R W
 | .var i,U,h=>match Gm U i with
  | some w=> .ok w h
  | none=> .fail
 | .con x,_,h=>match F.con.lookup x with
  | some d=>aw d h
  | none=> .fail
 | .int i,_,h=>aw (.int i) h
 | .bl b,_,h=>aw (.bl b) h
 | .ai,_,h=>aw .ai h
 | .str s,_,h=>aw (.str s) h
 | .tup es,U,h=>(Gq F es U h).bind λds h=>aw (.tup ds) h
 | .lst es,U,h=>(Gq F es U h).bind λds h=> .ok (.own ds) h
 | .bin o a b,U,h=>(eval F a U h).bind λx h=>(eval F b U h).bind λy h=>GY o x y h
 | .cmp o a b,U,h=>(eval F a U h).bind λx h=>(eval F b U h).bind λy h=>(R.of h (Gy o x y h)).bind λc h=>aw (.bl c) h
 | .chain o p a b c,U,h=>(eval F a U h).bind λx h=>(eval F b U h).bind λy h=>(R.of h (Gy o x y h)).bind λt h=>match t with
  | true=>(eval F c U h).bind λz h=>(R.of h (Gy p y z h)).bind λc h=>aw (.bl c) h
  | false=>aw (.bl y9) h
 | .dZ neg a,U,h=>(eval F a U h).bind λx h=>match x with
  | .v .ai=>aw (.bl (!neg)) h
  | _=>aw (.bl neg) h
 | .neg a,U,h=>(eval F a U h).bind λx h=>(R.of h x.int?).bind λi h=>aw (.int (-i)) h
 | .not a,U,h=>(eval F a U h).bind λx h=>(R.of h (GV h x)).bind λc h=>aw (.bl (!c)) h
 | .and a b,U,h=>(eval F a U h).bind λx h=>(R.of h (GV h x)).bind λc h=>match c with
  | true=>eval F b U h
  | false=> .ok x h
 | .or a b,U,h=>(eval F a U h).bind λx h=>(R.of h (GV h x)).bind λc h=>match c with
  | true=> .ok x h
  | false=>eval F b U h
 | .call f es,U,h=>(Gf F es U h).bind λws h=>F.call f (ws.map W.arg) h
 | .bi b es,U,h=>(Gf F es U h).bind λws h=>dz b ws h
 | .cT a t,U,h=>(eval F a U h).bind λx h=>(R.of h (cT t x)).bind λc h=>aw (.bl c) h
 | .bc a _ ts,U,h=>(eval F a U h).bind λx h=>(R.of h (bc F.cl x ts)).bind λc h=>aw (.bl c) h
 | .ix a b,U,h=>(eval F a U h).bind λx h=>(eval F b U h).bind λy h=>(R.of h (dm x y h)).bind λd h=>aw d h
 | .dG a lo,U,h=>(eval F a U h).bind λx h=>(eval F lo U h).bind λl h=>(R.of h l.int?).bind λl h=>eJ x (y0 l) u0 h
 | .d7 a hi,U,h=>(eval F a U h).bind λx h=>(eval F hi U h).bind λu h=>(R.of h u.int?).bind λu h=>eJ x u0 (y0 u) h
 | .comp tg one k bI it k6 c elt,U,h=>(Gk F it U h).bind λds h=>
  if ds.length<=aX then
   (Gx (λd h=>match Gn tg one d (Aa k u0++bI.map λj=>Gm U j)with
     | none=> .fail
     | some U'=>(if k6 then(eval F c U' h).bind λx h=>R.of h (GV h x)else .ok k9 h).bind λb h=>match b with
      | true=>(eval F elt U' h).bind λy h=>(R.of h y.d).bind λy h=> .ok (y0 y) h
      | false=> .ok u0 h) ds h).bind λys h=> .ok (.own ys) h
  else .fail
 | .share a,U,h=>(eval F a U h).bind λx h=>match x with
  | .own xs=>if Gd xs then aw (.ref h.length) (h++ [.lst xs])else .fail
  | _=> .fail
 | .bx a,U,h=>(eval F a U h).bind λx h=>(R.of h x.int?).bind λn h=>if 0<=n/\n<=1000 then .ok (.own ((Aa7 n.toNat).map λ(i:Nat)=> .int (i:Int))) h else .fail
 | .gb _ ts,U,h=> .ok (.own (ts.map .str)) h
 | .xf i f,U,h=>match Gp U i with
  | some (.v (.err _ g d))=>if g=f then .ok (.v d) h else .fail
  | _=> .fail
 | .make c q es,U,h=>(Gf F es U h).bind λws h=>(F.call q (.v (.ref h.length)::ws.map W.arg) (h++ [.obj c []])).bind λw h'=>match w with
  | .v .ai=>aw (.ref h.length) h'
  | _=> .fail
 | .aU a c f,U,h=>(eval F a U h).bind λw h=>match GU h (y0 w)with
  | some (_,c',fs)=>if c'=c then(R.of h (fs.lookup f)).bind λd h=>aw d h else .fail
  | none=> .fail
 | .cG a c m q es,U,h=>(eval F a U h).bind λw h=>match GU h (y0 w)with
  | some (r,c',fs)=>if c'=c/\(fs.lookup m).isNone=k9 then(Gf F es U h).bind λws h=>F.call q (.v (.ref r)::ws.map W.arg) h else .fail
  | none=> .fail
@[simp] noncomputable def Gf (F:Fx):Es->Sl->AH->R (List W)
 | .nil,_,h=> .ok [] h
 | .cons e es,U,h=>(eval F e U h).bind λw h=>(Gf F es U h).bind λws h=> .ok (w::ws) h
@[simp] noncomputable def Gq (F:Fx):Es->Sl->AH->R (List D)
 | .nil,_,h=> .ok [] h
 | .cons e es,U,h=>(eval F e U h).bind λw h=>(R.of h w.d).bind λd h=>(Gq F es U h).bind λds h=> .ok (d::ds) h
@[simp] noncomputable def Gk (F:Fx):It->Sl->AH->R (List D)
 | .seq e,U,h=>(eval F e U h).bind λw h=>match w with
  | .v (.str s)=> .ok (fS s) h
  | .v (.tup xs)=> .ok xs h
  | .v (.lst xs)=> .ok xs h
  | .own xs=> .ok xs h
  | .bor xs=> .ok xs h
  | _=> .fail
 | .aB a,U,h=>(eval F a U h).bind λw h=>(R.of h w.int?).bind λn h=>if -(gg)<=n/\n<gg then .ok ((Aa7 n.toNat).map λ(i:Nat)=> .int (i:Int)) h else .fail
 | .bO e,U,h=>(eval F e U h).bind λw h=>(R.of h (lU w)).bind λxs h=> .ok (GL 0 xs) h
 | .enum e,U,h=>(eval F e U h).bind λw h=>match w with
  | .v (.tup xs)=> .ok (GL 0 xs) h
  | _=> .fail
end
noncomputable def hU:W->Option (List D)
 | .v (.str s)=>y0 (fS s)
 | .v (.tup xs)=>y0 xs
 | .v (.lst xs)=>y0 xs
 | .own xs=>y0 xs
 | _=>u0
noncomputable def iG:W->Option (List D)
 | .v (.str s)=>y0 (fS s)
 | .v (.tup xs)=>y0 xs
 | .v (.lst xs)=>y0 xs
 | .bor xs=>y0 xs
 | _=>u0
@[simp] theorem Kk (xs:List D):hU (.v (.tup xs))=y0 xs:=rfl
@[simp] theorem Kj (xs:List D):hU (.v (.lst xs))=y0 xs:=rfl
@[simp] theorem Ka (xs:List D):hU (.own xs)=y0 xs:=rfl
@[simp] theorem Kh (xs:List D):iG (.v (.tup xs))=y0 xs:=rfl
@[simp] theorem Kl (xs:List D):iG (.v (.lst xs))=y0 xs:=rfl
@[simp] theorem Ko (xs:List D):iG (.bor xs)=y0 xs:=rfl
@[simp] def GI:E->Option Nat
 | .var i=>y0 i
 | _=>u0
@[simp] def Gr (F:Fx) (it:It) (U:Sl) (h:AH):R (List D):=match it with
 | .seq e=>match GI e with
  | some i=>R.of h ((Gp U i).bind iG)
  | none=>(eval F e U h).bind λw h=>R.of h (hU w)
 | it=>Gk F it U h
noncomputable def Gv (bnd:D->Sl->Option Sl) (body:Sl->AH->O):List D->Sl->AH->O
 | [],U,h=> .next U h
 | d::ds,U,h=>match bnd d U with
  | none=> .fail
  | some b=>match body b h with
   | .next a h2=>Gv bnd body ds a h2
   | .cont a h2=>Gv bnd body ds a h2
   | .brk a h2=> .next a h2
   | o=>o
def Gu (F:Fx) (e:E) (U:Sl) (h:AH):R Bool:=(eval F e U h).bind λx h=>R.of h (GV h x)
def GN:D->Bool
 | .exc _ _=>k9
 | .err _ _ d=>Gb d
 | _=>y9
def Ke (d:D) (n:Nat) (h:AH):AH:=if GN d&&Gw (h.take n)then h.take n else h
def vQ (w:W) (i:Nat) (U:Sl) (h:AH):O:=match w with
 | .v d=> .next (GG U i (.v d)) h
 | _=> .fail
noncomputable def hF (call:String->List W->AH->R W) (b:Option Nat) (f:String) (U:Sl):R (List W)->O
 | .ok a h=>match call f (a.map W.arg) h with
  | .ok w h=>match b with
   | none=> .next U h
   | some i=>vQ w i U h
  | .exc d h1=> .exc d (Ke d h.length h1)
  | .fail=> .fail
 | _=> .fail
def Kr (b:cu) (c:String) (nm:Nat) (hb:Sl->AH->O) (U:Sl) (d:D) (h:AH):O:=match bc b (.v d) [c]with
 | some true=>match hb (GG U nm (.v d)) h with
  | .next a h'=> .next (a.set nm u0) h'
  | _=> .fail
 | _=> .fail
def Kq (a:cu) (c:String) (nm:Nat) (hb:Sl->AH->O) (U:Sl):O->O
 | .exc d h=>Kr a c nm hb U d h
 | o=>o
def ej :W->Option (D×D)
 | .v (.tup [a,b])=>y0 (a,b)
 | _=>u0
def Kg (w a b:W) (U:Sl) (h:AH):O:=match w,a,b with
 | .v d,.v (.ref r),.v (.int j)=>match h[r]? with
  | some (.lst xs)=>match cX xs.length j with
   | some n=>if GO d then .next U (h.set r (.lst (xs.set n d)))else .fail
   | none=> .fail
  | _=> .fail
 | _,_,_=> .fail
@[simp] def g9 (F:Fx):Tb->Sl->AH->O
 | .ex f es,U,h=>hF F.call u0 f U (Gf F es U h)
 | .sv i f es,U,h=>hF F.call (y0 i) f U (Gf F es U h)
 | .iff c a b,U,h=>match Gu F c U h with
  | .ok k9 h=>g9 F a U h
  | .ok y9 h=>g9 F b U h
  | _=> .fail
mutual
@[simp] noncomputable def exec (F:Fx):S->Sl->AH->O
 | .set i e,U,h=>(eval F e U h).bZ λw h=>match w with
  | .bor _=> .fail
  | w=> .next (GG U i w) h
 | .av i e,U,h=>(eval F e U h).bZ λw h=>match w.d with
  | some d=> .next (GG U i (.v d)) h
  | none=> .fail
 | .eV is e,U,h=>(eval F e U h).bZ λw h=>match w with
  | .v (.tup ds)=>match aG is ds U with
   | some U'=> .next U' h
   | none=> .fail
  | _=> .fail
 | .eg o k j e,U,h=>(eval F e U h).bZ λw h=>match ej w with
  | some (d1,d2)=>(eval F o U h).bZ λow h=>(eval F k U h).bZ λkw h=>if GO d2 then(match Kg (.v d1) ow kw U h with
   | .next U h=> .next (GG U j (.v d2)) h
   | _=> .fail)else .fail
  | none=> .fail
 | .b4 o k e,U,h=>(eval F e U h).bZ λw h=>(eval F o U h).bZ λow h=>(eval F k U h).bZ λkw h=>Kg w ow kw U h
 | .app i e,U,h=>match Gp U i with
  | some (.own xs)=>(eval F e U h).bZ λw h=>match w.d with
   | some d=>if xs.length<aX then .next (GG U i (.own (xs++ [d]))) h else .fail
   | none=> .fail
  | _=> .fail
 | .ext i e,U,h=>match Gp U i with
  | some (.own xs)=>(eval F e U h).bZ λw h=>match w with
   | .own ys=>if xs.length+ys.length<aX then .next (GG U i (.own (xs++ys))) h else .fail
   | _=> .fail
  | _=> .fail
 | .bB i c f e,U,h=>(eval F e U h).bZ λw h=>match w.d with
  | some d=>match GU h (Gp U i)with
   | some (r,c',fs)=>if c'=c/\Gb d=k9/\fs.length<100 then .next U (h.set r (.obj c (aJ f d fs)))else .fail
   | none=> .fail
  | none=> .fail
 | .c5 i k e,U,h=>(eval F e U h).bZ λw h=>match Gp U i with
  | some (.own xs)=>(eval F k U h).bZ λkw h=>match w,kw with
   | .v d,.v (.int j)=>(match cX xs.length j with
    | some n=> .next (GG U i (.own (xs.set n d))) h
    | none=> .fail)
   | _,_=> .fail
  | _=> .fail
 | .dY a e,U,h=>(eval F a U h).bZ λo h=>match GT h (y0 o)with
  | some _=>(eval F e U h).bZ λw h=>match w.d,GT h (y0 o)with
   | some d,y0 (r,xs)=>if xs.length<aX/\Gb d=k9 then .next U (h.set r (.lst (xs++ [d])))else .fail
   | _,_=> .fail
  | none=> .fail
 | .ex e,U,h=>(eval F e U h).bZ λ_ h=> .next U h
 | .ret e,U,h=>match GI e with
  | some i=>match Gp U i with
   | some (.bor _)=> .fail
   | some w=> .ret w h
   | none=> .fail
  | none=>(eval F e U h).bZ λw h=>match w with
   | .bor _=> .fail
   | w=> .ret w h
 | .iff c a b,U,h=>(Gu F c U h).bZ λt h=>match t with
  | true=>execs F a U h
  | false=>execs F b U h
 | .for tg one it b,U,h=>(Gr F it U h).bZ λds h=>Gv (Gn tg one) (λU h=>execs F b U h) ds U h
 | .raise c es,U,h=>(Gf F es U h).bZ λ_ h=> .exc (.exc c []) h
 | .cN c f e,U,h=>(Gq F (.cons e .nil) U h).bZ λds h=>match ds with
  | [d]=> .exc (.err c f d) h
  | _=> .fail
 | .dJ b c nm hb,U,h=>Kq F.cl c nm (λU h=>execs F hb U h) U (g9 F b U h)
 | .bf i c f e,U,h=>(eval F e U h).bZ λw h=>match w with
  | .v d=>match GU h (Gp U i)with
   | some (r,c',fs)=>if c'=c/\fs.length<100 then .next U (h.set r (.obj c (aJ f d fs)))else .fail
   | none=> .fail
  | _=> .fail
 | .aS,_,_=> .fail
@[simp] noncomputable def execs (F:Fx):Ss->Sl->AH->O
 | .nil,U,h=> .next U h
 | .cons s ss,U,h=>(exec F s U h).seq λU h=>execs F ss U h
end
structure Fn where
 ps:Nat
 n:Nat
 body:Ss
structure Prog where
 fns:List (String×Fn)
 cl:cu
 con:List (String×D)
def W.keep:W->Bool
 | .v d=>Gb d
 | .own xs=>Gd xs
 | .bor _=>k9
noncomputable def fin (n:Nat) (w:W) (h:AH):R W:=if h.length=n then .ok w h else if w.keep&&Gw (h.take n)then .ok w (h.take n)else .ok w h
def Gz (n:Nat):O->R W
 | .ret w h=>match w with
  | .bor _=> .fail
  | w=>fin n w h
 | .next _ h=>fin n (.v .ai) h
 | .exc d h=> .exc d h
 | _=> .fail
@[simp] theorem Gc (d:D) (h h':AH) (e:h'.length=h.length):Gz h.length (.ret (.v d) h')= .ok (.v d) h':=by simp [Gz,fin,e]
@[simp] theorem Gs (xs:List D) (h h':AH) (e:h'.length=h.length):Gz h.length (.ret (.own xs) h')= .ok (.own xs) h':=by simp [Gz,fin,e]
@[simp] theorem GC (U:Sl) (h h':AH) (e:h'.length=h.length):Gz h.length (.next U h')= .ok (.v .ai) h':=by simp [Gz,fin,e]
@[simp] theorem Gj (d:D) (n:Nat) (h:AH):Gz n (.exc d h)= .exc d h:=rfl
def run (F:Fx) (d:Fn) (ws:List W) (h:AH):R W:=if ws.length=d.ps then Gz h.length (execs F d.body (ws.map y0++Aa (d.n-d.ps) u0) h)else .fail
def call (p:Prog):Nat->String->List W->AH->R W
 | 0,_,_,_=> .fail
 | k+1,f,a,h=>match p.fns.lookup f with
  | some d=>run ⟨call p k,p.cl,p.con⟩ d a h
  | none=> .fail
def Ga {p:Prog}{f:String}{d:Fn}(e:p.fns.lookup f=y0 d) (k:Nat) (ws:List W) (h:AH) (a:ws.length=d.ps):
 call p (k+1) f ws h=Gz h.length (execs ⟨call p k,p.cl,p.con⟩ d.body (ws.map y0++Aa (d.n-d.ps) u0) h):=by
 rw [call,e]
 simp [run,a]
end
end M
namespace L2.MS
open PySem PySem.Spec
structure Ge where
 K:Aa3
 ca:String->Addr
 cl:M.cu
 own:List String
 ma:String->Addr
structure dD (Γ:Ge) (c:String):Prop where
 k:g8 Γ.K (Γ.ca c)
 own: ∀t∈Γ.own,Aj3 Γ.K (.ref (Γ.ca c)) (.ref (Γ.ca t))=y0 ((M.GQ Γ.cl 8 c).contains t)
 ve:PySem.W.kitOne Γ.K (.ref (Γ.ca c)) (.type "ValueError")=some ((M.GQ Γ.cl 8 c).contains "ValueError")
structure Gh where
 fz:Addr->Prop
 aH:Nat->Addr
 n:Nat
def eD (Γ:Ge) (G:Gh) (H:Hp) (a:Addr) (vs:List V):Prop:=(G.fz a/\H a=y0 (.tup vs)) ∨
 ∃(o:Obj) (b:Array Value) (n:Nat),Γ.K.lookup a=some o/\o.cls= .type "tuple" /\o.dict=none/\o.data= .seq b n/\b.size<=sizeLine/\Vals vs b.toList
def nM (Γ:Ge) (a:Addr) (vs:List V):Prop:= ∃(o:Obj) (b:Array Value) (n:Nat),Γ.K.lookup a=some o/\o.cls= .type "list" /\o.dict=none/\o.data= .seq b n/\b.size<=sizeLine/\Vals vs b.toList
def gm (Γ:Ge) (G:Gh) (H:Hp) (a:Addr) (vs:List V):Prop:=(G.fz a/\Rd H a (.lst vs))\/nM Γ a vs
def eD.sq {Γ:Ge}{G:Gh}{H:Hp}{a:Addr}{vs:List V}(h:eD Γ G H a vs):bK Γ.K H a vs:=h.elim (λz=> .inl (.inl z.2)) λ⟨o,b,n,e,c,_,d⟩=> .inr ⟨o,b,n,e,c,d⟩
def gm.sq {Γ:Ge}{G:Gh}{H:Hp}{a:Addr}{vs:List V}(h:gm Γ G H a vs):aY Γ.K H a vs:=h.elim (λz=> .inl z.2) λz=> .inr z
def aO (s:M.Tx):Str:=⟨s.toArray⟩
def uj:M.D->PyData
 | .int i=> .int i
 | .str s=> .str (aO s)
 | .bl b=> .bool b
 | _=> .none
def m8 (T:List (M.Tx×M.D)):List (Str×PyData):=T.map λp=>(aO p.1,uj p.2)
def tK (Γ:Ge) (a:Addr) (T:List (M.Tx×M.D)):Prop:=rX Γ.K a (m8 T)
mutual
def ao (Γ:Ge) (G:Gh) (H:Hp):M.D->V->Prop
 | .ai,v=>v= .ai
 | .bl b,v=>v= .bl b
 | .int i,v=>v= .int i
 | .str s,v=>v= .str (aO s)
 | .tup ds,v=> ∃a vs,v= .ref a/\eD Γ G H a vs/\aa Γ G H ds vs
 | .lst ds,v=> ∃a vs,v= .ref a/\gm Γ G H a vs/\aa Γ G H ds vs
 | .ref r,v=>r<G.n/\v= .ref (G.aH r)
 | .exc c fs,v=>(fs= []/\ ∃x,v= .ref x/\G.fz x/\H x=y0 (WZ x (Γ.ca c) u0)/\dD Γ c)\/(fs≠ []/\ ∃a,v= .ref a/\tK Γ a fs)
 | .err c f d,v=> ∃x dx u,v= .ref x/\G.fz x/\G.fz dx/\H x=y0 (WZ x (Γ.ca c) (y0 dx))/\H dx=y0 (.xd [(Str.ofString f,u)])/\dD Γ c/\h9 Γ.K (Γ.ca c) (Str.ofString f)/\ao Γ G H d u
def aa (Γ:Ge) (G:Gh) (H:Hp):List M.D->List V->Prop
 | [],vs=>vs= []
 | d::ds,vs=> ∃v r,vs=v::r/\ao Γ G H d v/\aa Γ G H ds r
end
def a8 (Γ:Ge) (G:Gh) (H:Hp) (a:Addr):M.Cell->Prop
 | .lst xs=>M.Gd xs=k9/\ ∃d,H a=y0 (.lst d)/\aa Γ G H xs d
 | .fR ks=>M.Gd (ks.map (·.2))=k9/\ ∃b,H a=y0 (dS ((ks.map λp=>aO p.1).zip b))/\aa Γ G H (ks.map (·.2)) b
 | .obj c fs=> ∃dx b,H a=y0 (.ins (Γ.ca c) dx ((fs.map λp=>Str.ofString p.1).zip b))/\aa Γ G H (fs.map (·.2)) b
structure ae (Γ:Ge) (G:Gh) (h:M.AH) (H:Hp):Prop where
 len:h.length=G.n
 any: ∀r c,h[r]? =y0 c-> ¬G.fz (G.aH r)/\a8 Γ G H (G.aH r) c
 inj: ∀r s,r<G.n->s<G.n->G.aH r=G.aH s->r=s
 live: ∀a,G.fz a-> ∃o,H a=y0 o
def c7 (G:Gh) (a:Addr):Prop:= ∀r,r<G.n->G.aH r≠a
structure Ext (G:Gh) (H:Hp) (G':Gh) (H':Hp):Prop where
 keep: ∀a o,H a=y0 o->c7 G a->H' a=y0 o
 le:G.n<=G'.n
 aH: ∀r,r<G.n->G'.aH r=G.aH r
 new: ∀r,G.n<=r->r<G'.n->H (G'.aH r)=u0
 fz: ∀a,G.fz a->G'.fz a
 old: ∀a,G'.fz a->G.fz a\/H a=u0
 cells: ∀r,r<G.n->(∃ o,H (G.aH r)=y0 o)-> ∃o,H' (G.aH r)=y0 o
def ah (Γ:Ge) (G:Gh) (H:Hp):M.W->V->Prop
 | .v d,v=>ao Γ G H d v
 | .own xs,v=> ∃a b,v= .ref a/\ ¬G.fz a/\c7 G a/\H a=y0 (.lst b)/\aa Γ G H xs b
 | .bor xs,v=> ∃a b,v= .ref a/\c7 G a/\Rd H a (.lst b)/\aa Γ G H xs b
def eG:M.W->Bool
 | .own _=>k9
 | .bor _=>k9
 | _=>y9
structure ak (Γ:Ge) (G:Gh) (U:M.Sl) (h:M.AH) (Y:St) (H:Hp):Prop where
 len:U.length=Y.length
 slot: ∀i w,M.Gp U i=y0 w-> ∃v,Y[i]? =y0 (y0 v)/\ah Γ G H w v
 apart: ∀i j xs w a,i≠j->M.Gp U i=y0 (.own xs)->M.Gp U j=y0 w->eG w=k9->Y[i]? =y0 (y0 (.ref a))->Y[j]? ≠y0 (y0 (.ref a))
 heap:ae Γ G h H
section
variable {Γ:Ge}{G G' G1 G2:Gh}{H H' H1 H2:Hp}{h h':M.AH}{U:M.Sl}{Y:St}
def ae.cell (R:ae Γ G h H) (r:Nat) (xs:List M.D) (e:h[r]? =y0 (M.Cell.lst xs)): ¬G.fz (G.aH r)/\ ∃vs,H (G.aH r)=y0 (.lst vs)/\aa Γ G H xs vs:=⟨(R.any r _ e).1,(R.any r _ e).2.2⟩
def ae.pure (R:ae Γ G h H) (r:Nat) (xs:List M.D) (e:h[r]? =y0 (M.Cell.lst xs)):M.Gd xs=true:=(R.any r _ e).2.1
theorem ae.obj (R:ae Γ G h H) (r:Nat) (c:String) (fs:List (String×M.D)) (e:h[r]? =y0 (M.Cell.obj c fs)): ¬G.fz (G.aH r)/\ ∃dx us,H (G.aH r)=y0 (.ins (Γ.ca c) dx ((fs.map λp=>Str.ofString p.1).zip us))/\aa Γ G H (fs.map (·.2)) us:=R.any r _ e
def ae.lt (R:ae Γ G h H){r:Nat}{c:M.Cell}(e:h[r]? =y0 c):r<G.n:=by rw [← R.len];exact(Ab.mp e).1
def ae.at (R:ae Γ G h H){i:Nat}(a:i<G.n): ∃c,h[i]? =y0 c:=⟨_,Ab2 (by rw [R.len];exact a)⟩
def a8.there {a:Addr}{c:M.Cell}(z:a8 Γ G H a c): ∃o,H a=y0 o:=by
 cases c with
 | lst d=>obtain⟨_,_,z,_⟩:=z;exact⟨_,z⟩
 | fR b=>obtain⟨_,_,z,_⟩:=z;exact⟨_,z⟩
 | obj c fs=>obtain⟨_,_,z,_⟩:=z;exact⟨_,z⟩
def ae.hX (r:ae Γ G h H){i:Nat}(a:i<G.n): ¬G.fz (G.aH i):=let ⟨_,e⟩:=r.at a;(r.any i _ e).1
def ae.off (r:ae Γ G h H){a:Addr}(c:G.fz a):c7 G a:=λi b z=>r.hX b (z▸c)
theorem ae.there (r:ae Γ G h H){i:Nat}(a:i<G.n): ∃o,H (G.aH i)=y0 o:=let ⟨_,e⟩:=r.at a;(r.any i _ e).2.there
def Ext.refl:Ext G H G H:=⟨λ_ _ e _=>e,Aa6 _,λ_ _=>rfl,λr b a=>absurd b (Al.mpr a),λ_ z=>z,λ_ z=> .inl z,λ_ _ z=>z⟩
theorem Ext.none (e:Ext G H G' H') (d:ae Γ G h H){a:Addr}(z:H' a=u0):H a=none:=by
 cases q:H a with
 | none=>rfl
 | some o=>
  by_cases b:c7 G a
  .rw [e.keep a o q b]at z;cases z
  .unfold c7 at b
   have: ∃r,r<G.n/\G.aH r=a:=Classical.byContradiction λg=>b λr d z=>g ⟨r,d,z⟩
   obtain⟨r,c,rfl⟩:=this
   obtain⟨i,f⟩:=e.cells r c ⟨o,q⟩
   rw [z]at f;cases f
def Ext.off (e:Ext G H G' H'){a:Addr}{o:HO}(f:H a=y0 o) (c:c7 G a):c7 G' a:=λr d z=>by
 by_cases b:r<G.n
 .rw [e.aH r b]at z;exact c r b z
 .have:=e.new r (Nat.not_lt.mp b) d
  rw [z,f]at this;cases this
def Ext.trans (b:Ext G H G1 H1) (f:ae Γ G h H) (d:Ext G1 H1 G2 H2):Ext G H G2 H2 where
 keep:=λa o z e=>d.keep a o (b.keep a o z e) (b.off z e)
 le:=Ac0 b.le d.le
 aH:=λr c=>by rw [d.aH r (Ab3 c b.le),b.aH r c]
 new:=λr i g=>by
  by_cases c:r<G1.n
  .rw [d.aH r c];exact b.new r i c
  .exact b.none f (d.new r (Nat.not_lt.mp c) g)
 fz:=λa z=>d.fz a (b.fz a z)
 old:=λa z=>(d.old a z).elim (λz=>b.old a z) λz=> .inr (b.none f z)
 cells:=λr c z=>by
  have:=d.cells r (Ab3 c b.le) (by rw [b.aH r c];exact b.cells r c z)
  rwa [b.aH r c]at this
def Ext.rd (e:Ext G H G' H'){a:Addr}{u:HO}(z:Rd H a u) (b:c7 G a):Rd H' a u:=z.elim (λz=> .inl (e.keep a _ z b)) λ⟨o,z⟩=> .inr ⟨o,e.keep a _ z b⟩
structure Mon (G:Gh) (H:Hp) (G':Gh) (H':Hp):Prop where
 keep: ∀a o,G.fz a->H a=y0 o->H' a=y0 o
 le:G.n<=G'.n
 aH: ∀r,r<G.n->G'.aH r=G.aH r
 fz: ∀a,G.fz a->G'.fz a
def Ext.mon (e:Ext G H G' H') (b:ae Γ G h H):Mon G H G' H':=⟨λa o z q=>e.keep a o q (b.off z),e.le,e.aH,e.fz⟩
def Mon.rd (e:Mon G H G' H'){a:Addr}{u:HO}(z:Rd H a u) (b:G.fz a):Rd H' a u:=z.elim (λz=> .inl (e.keep a _ b z)) λ⟨o,z⟩=> .inr ⟨o,e.keep a _ b z⟩
mutual
theorem ao.mon (e:Mon G H G' H'): ∀ {d:M.D}{v:V},ao Γ G H d v->ao Γ G' H' d v
 | .ai,_,z=>z
 | .bl _,_,z=>z
 | .int _,_,z=>z
 | .str _,_,z=>z
 | .tup _,_,⟨a,vs,z1,z2,z3⟩=>⟨a,vs,z1,z2.elim (λz=> .inl ⟨e.fz a z.1,e.keep a _ z.1 z.2⟩) λz=> .inr z,aa.mon e z3⟩
 | .lst _,_,⟨a,vs,z1,z2,z3⟩=>⟨a,vs,z1,z2.elim (λz=> .inl ⟨e.fz a z.1,e.rd z.2 z.1⟩) .inr,aa.mon e z3⟩
 | .ref r,_,⟨z1,z2⟩=>⟨Ab3 z1 e.le,by rw [e.aH r z1];exact z2⟩
 | .exc c fs,_,z=>z.imp (λ⟨z0,x,z1,z2,z3,z4⟩=>⟨z0,x,z1,e.fz x z2,e.keep x _ z2 z3,z4⟩) id
 | .err c f d,_,⟨x,dx,u,z1,z2,z3,z4,z5,z6,z7,z8⟩=>⟨x,dx,u,z1,e.fz x z2,e.fz dx z3,e.keep x _ z2 z4,e.keep dx _ z3 z5,z6,z7,ao.mon e z8⟩
theorem aa.mon (e:Mon G H G' H'): ∀ {ds:List M.D}{vs:List V},aa Γ G H ds vs->aa Γ G' H' ds vs
 | [],_,z=>z
 | _::_,_,⟨v,r,z1,z2,z3⟩=>⟨v,r,z1,ao.mon e z2,aa.mon e z3⟩
end
theorem a8.mon (e:Mon G H G' H'){a:Addr}{c:M.Cell}(k: ∀o,H a=y0 o->H' a=y0 o) (z:a8 Γ G H a c):a8 Γ G' H' a c:=by
 cases c with
 | lst l=>obtain⟨g,i,b,d⟩:=z;exact⟨g,i,k _ b,d.mon e⟩
 | fR j=>obtain⟨g,f,b,d⟩:=z;exact⟨g,f,k _ b,d.mon e⟩
 | obj c fs=>obtain⟨h,f,b,d⟩:=z;exact⟨h,f,k _ b,d.mon e⟩
def ao.ext (e:Ext G H G' H') (a:ae Γ G h H){d:M.D}{v:V}(z:ao Γ G H d v):ao Γ G' H' d v:=z.mon (e.mon a)
def aa.ext (e:Ext G H G' H') (a:ae Γ G h H){d:List M.D}{v:List V}(z:aa Γ G H d v):aa Γ G' H' d v:=z.mon (e.mon a)
theorem ah.ext (e:Ext G H G' H') (f:ae Γ G h H){w:M.W}{v:V}(z:ah Γ G H w v):ah Γ G' H' w v:=by
 cases w with
 | v d=>exact ao.ext e f z
 | own l=>
  obtain⟨a,j,g,k,c,b,i⟩:=z
  refine⟨a,j,g,λq=> ?_,e.off b c,e.keep a _ b c,aa.ext e f i⟩
  rcases e.old a q with q | q
  .exact k q
  .rw [b]at q;cases q
 | bor l=>
  obtain⟨a,j,g,c,b,i⟩:=z
  refine⟨a,j,g,?_,e.rd b c,aa.ext e f i⟩
  rcases b with b | ⟨o,b⟩
  .exact e.off b c
  .exact e.off b c
theorem ak.ext (s:ak Γ G U h Y H) (e:Ext G H G' H') (a:ae Γ G' h' H'):ak Γ G' U h' Y H' where
 len:=s.len
 slot:=λi w z=>let ⟨v,b,c⟩:=s.slot i w z; ⟨v,b,c.ext e s.heap⟩
 apart:=s.apart
 heap:=a
theorem aa.length: ∀ {ds:List M.D}{vs:List V},aa Γ G H ds vs->ds.length=vs.length
 | [],_,rfl=>rfl
 | _::_,_,⟨_,_,rfl,_,z⟩=>congrArg (· +1) (aa.length z)
theorem aa.get: ∀ {ds:List M.D}{vs:List V}{i:Nat}{d:M.D},aa Γ G H ds vs->ds[i]? =y0 d-> ∃v,vs[i]? =y0 v/\ao Γ G H d v
 | [],_,_,_,_,e=>by simp at e
 | _::_,_,0,_,⟨v,_,rfl,z,_⟩,e=>by simp at e;subst e;exact⟨v,rfl,z⟩
 | _::_,_,i+1,_,⟨_,_,rfl,_,z⟩,e=>by
  obtain⟨v,b,a⟩:=aa.get (i:=i) z (by simpa using e)
  exact⟨v,by simpa using b,a⟩
theorem aa.append: ∀ {ds es:List M.D}{vs us:List V},aa Γ G H ds vs->aa Γ G H es us->aa Γ G H (ds++es) (vs++us)
 | [],_,_,_,rfl,z=>z
 | _::_,_,_,_,⟨v,r,rfl,a,b⟩,z=>⟨v,r++_,rfl,a,aa.append b z⟩
theorem aa.drop: ∀ {ds:List M.D}{vs:List V}(n:Nat),aa Γ G H ds vs->aa Γ G H (ds.drop n) (vs.drop n)
 | _,_,0,z=>z
 | [],_,_+1,rfl=>rfl
 | _::_,_,n+1,⟨_,_,rfl,_,z⟩=>aa.drop n z
theorem aa.take: ∀ {ds:List M.D}{vs:List V}(n:Nat),aa Γ G H ds vs->aa Γ G H (ds.take n) (vs.take n)
 | _,_,0,_=>rfl
 | [],_,_+1,rfl=>rfl
 | _::_,_,n+1,⟨v,r,rfl,a,z⟩=>⟨v,r.take n,rfl,a,aa.take n z⟩
theorem aa.set {d:M.D}{v:V}(z:ao Γ G H d v): ∀ {ds:List M.D}{vs:List V}(i:Nat),aa Γ G H ds vs->aa Γ G H (ds.set i d) (vs.set i v)
 | [],_,_,rfl=>rfl
 | _::_,_,0,⟨_,r,rfl,_,a⟩=>⟨v,r,rfl,z,a⟩
 | _::_,_,i+1,⟨u,r,rfl,b,a⟩=>⟨u,r.set i v,rfl,b,aa.set z i a⟩
def Gh.more (G:Gh) (a:Addr):Gh:= { G with fz:=λb=>G.fz b\/b=a }
def zu {p:Addr}(o:HO) (b:H p=u0):Ext G H G (ax H p o) where
 keep:=λa u z _=>by rw [qa (ja z b)];exact z
 le:=Aa6 _
 aH:=λ_ _=>rfl
 new:=λr d c=>absurd d (Al.mpr c)
 fz:=λ_ z=>z
 old:=λ_ z=> .inl z
 cells:=λr _ ⟨u,z⟩=>⟨u,by rw [qa (ja z b)];exact z⟩
def Qe {p:Addr}(o:HO) (b:H p=u0):Ext G H (G.more p) (ax H p o) where
 keep:=λa u z _=>by rw [qa (ja z b)];exact z
 le:=Aa6 _
 aH:=λ_ _=>rfl
 new:=λr d c=>absurd d (Al.mpr c)
 fz:=λ_ z=> .inl z
 old:=λa z=>z.elim .inl λe=> .inr (e▸b)
 cells:=λr _ ⟨u,z⟩=>⟨u,by rw [qa (ja z b)];exact z⟩
def ae.new (r:ae Γ G h H){p:Addr}(o:HO) (b:H p=u0):ae Γ G h (ax H p o) where
 len:=r.len
 any:=λi c z=>⟨(r.any i c z).1,(r.any i c z).2.mon ((zu o b).mon r) λu q=>by rw [qa (ja q b)];exact q⟩
 inj:=r.inj
 live:=λa z=>let ⟨u,q⟩:=r.live a z; ⟨u,by rw [qa (ja q b)];exact q⟩
def ae.dI (r:ae Γ G h H){p:Addr}(o:HO) (b:H p=u0):ae Γ (G.more p) h (ax H p o) where
 len:=r.len
 any:=λi c z=>by
  obtain⟨f,d⟩:=r.any i c z
  obtain⟨u,g⟩:=d.there
  exact⟨λq=>q.elim f (ja g b),d.mon ((Qe o b).mon r) λu q=>by rw [qa (ja q b)];exact q⟩
 inj:=r.inj
 live:=λa z=>z.elim (λz=>let ⟨u,q⟩:=r.live a z; ⟨u,by rw [qa (ja q b)];exact q⟩) λe=>⟨o,by rw [e];exact Qa⟩
def Zl (a:Addr):Mon G H (G.more a) H:=⟨λ_ _ _ z=>z,Aa6 _,λ_ _=>rfl,λ_ z=> .inl z⟩
theorem Ext.more (e:Ext G H G1 H1){a:Addr}(c:H a=Option.none):Ext G H (G1.more a) H1:=
 ⟨e.keep,e.le,e.aH,e.new,λb z=> .inl (e.fz b z),λb z=>z.elim (λz=>e.old b z) λz=> .inr (z▸c),e.cells⟩
theorem ae.more (r:ae Γ G h H){a:Addr}(d:c7 G a) (f: ∃o,H a=y0 o):ae Γ (G.more a) h H where
 len:=r.len
 any:=λi c z=>⟨λq=>q.elim (r.any i c z).1 λe=>d i (r.lt z) e,(r.any i c z).2.mon (Zl a) λ_ q=>q⟩
 inj:=r.inj
 live:=λb z=>z.elim (λz=>r.live b z) λe=>e▸f
theorem ah.more {w:M.W}{v:V}{a:Addr}(z:ah Γ G H w v) (k:eG w=k9->v≠ .ref a):ah Γ (G.more a) H w v:=by
 cases w with
 | v d=>exact ao.mon (Zl a) z
 | own l=>
  obtain⟨b,i,c,j,g,f,h⟩:=z
  exact⟨b,i,c,λq=>q.elim j λe=>k rfl (e▸c),g,f,h.mon (Zl a)⟩
 | bor l=>
  obtain⟨b,i,c,g,f,h⟩:=z
  exact⟨b,i,c,g,f,h.mon (Zl a)⟩
theorem ak.more (s:ak Γ G U h Y H){a:Addr}(b:c7 G a) (f: ∃o,H a=y0 o) (d: ∀(i:Nat) w,M.Gp U i=y0 w->eG w=k9->Y[i]? ≠y0 (y0 (.ref a))):ak Γ (G.more a) U h Y H where
 len:=s.len
 slot:=λi w z=>by
  obtain⟨v,c,g⟩:=s.slot i w z
  exact⟨v,c,g.more λq e=>d i w z q (e▸c)⟩
 apart:=s.apart
 heap:=s.heap.more b f
def az (U:M.Sl) (Y:St) (H:Hp):M.W->V->Prop
 | .v _,_=>True
 | .own _,v=> ∃a,v= .ref a/\H a=u0
 | .bor _,v=> ∃(i:Nat) (w:M.W),M.Gp U i=y0 w/\eG w=k9/\Y[i]? =y0 (y0 v)
def az.back (e:Ext G H G1 H1) (b:ae Γ G h H){w:M.W}{v:V}(z:az U Y H1 w v):az U Y H w v:=by
 cases w with
 | v d=>trivial
 | own g=>obtain⟨a,c,f⟩:=z;exact⟨a,c,e.none b f⟩
 | bor g=>exact z
def ak.b5 (s:ak Γ G U h Y H){i:Nat}{w:M.W}{a:Addr}(e:M.Gp U i=y0 w) (k:eG w=k9) (q:Y[i]? =y0 (y0 (.ref a))): ∃o,H a=y0 o:=by
 obtain⟨v,f,g⟩:=s.slot i w e
 rw [q]at f
 cases f
 cases w with
 | v d=>cases k
 | own j=>obtain⟨b,l,f,_,_,c,_⟩:=g;cases f;exact⟨_,c⟩
 | bor j=>
  obtain⟨b,l,f,_,c,_⟩:=g
  cases f
  rcases c with c | ⟨o,c⟩
  .exact⟨_,c⟩
  .exact⟨_,c⟩
def lX (Γ:Ge) (E:XK) (d:M.D) (G:Gh) (H:Hp):Prop:=(∀ c,d= .exc c []->dD Γ c->E (.ref (Γ.ca c)) u0 H) ∧
 ∀c f a,d= .err c f a->dD Γ c->h9 Γ.K (Γ.ca c) (Str.ofString f)-> ∀dx u,G.fz dx->H dx=y0 (.xd [(Str.ofString f,u)])->ao Γ G H a u->E (.ref (Γ.ca c)) (y0 dx) H
def aj {b:Type}(Γ:Ge) (E:XK) (G:Gh) (H:Hp) (r:M.R b) (P:b->M.AH->Gh->Hp->Prop):Prop:=match r with
 | .ok a h'=> ∀G' H',Ext G H G' H'->ae Γ G' h' H'->P a h' G' H'
 | .exc d h'=> ∀G' H',Ext G H G' H'->ae Γ G' h' H'->lX Γ E d G' H'
 | .fail=>False
def aj.on {j:Type}{E:XK}{r:M.R j}{P:j->M.AH->Gh->Hp->Prop}(p:aj Γ E G H r P) (e:Ext G H G1 H1) (i:ae Γ G h H):aj Γ E G1 H1 r P:=by
 cases r with
 | ok a k=>exact λg c f b=>p g c (e.trans i f) b
 | exc d k=>exact λg c f b=>p g c (e.trans i f) b
 | fail=>exact p
def tD (Γ:Ge) (E:XK) (m:M.Sl->M.AH->M.R M.W):TE:=λY H Q=> ∃G U h,ak Γ G U h Y H/\aj Γ E G H (m U h) λw h' G' H'=> ∀v,ah Γ G' H' w v->az U Y H w v->Q v H'
def cq (Γ:Ge) (E:XK) (m:M.Sl->M.AH->M.R Bool):TT:=λY H Q=> ∃G U h,ak Γ G U h Y H/\aj Γ E G H (m U h) λb _ _ H'=>Q b H'
def Xa {i:Type}{E:XK}{a:Gh}{b:Hp}{j:M.AH}{m:M.Sl->M.AH->M.R M.W}{f:M.W->M.AH->M.R i}{P:i->M.AH->Gh->Hp->Prop}{Q:VK}(l:ae Γ a j b) (g:Ext a b G H) (s:ak Γ G U h Y H)
 (p:aj Γ E a b ((m U h).bind f) P)
 (k: ∀w v h1 G1 H1,Ext a b G1 H1->Ext G H G1 H1->ak Γ G1 U h1 Y H1->ah Γ G1 H1 w v->az U Y H w v->aj Γ E a b (f w h1) P->Q v H1):tD Γ E m Y H Q:=by
 refine⟨G,U,h,s,?_⟩
 cases q:m U h with
 | ok w h1=>
  rw [q]at p
  exact λG1 H1 e o v t u=>k w v h1 G1 H1 (g.trans l e) e (s.ext e o) t u p
 | exc d h1=>rw [q]at p;exact aj.on (h:=j) (r:=(M.R.exc d h1:M.R M.W)) (P:=λw x n c=> ∀v,ah Γ n c w v->az U Y H w v->Q v c) p g l
 | fail=>rw [q]at p;exact p
def xD {i:Type}{E:XK}{a:Gh}{c:Hp}{j:M.AH}{m:M.Sl->M.AH->M.R Bool}{f:Bool->M.AH->M.R i}{P:i->M.AH->Gh->Hp->Prop}{Q:Bool->Hp->Prop}(l:ae Γ a j c) (g:Ext a c G H) (s:ak Γ G U h Y H)
 (p:aj Γ E a c ((m U h).bind f) P)
 (k: ∀b h1 G1 H1,Ext a c G1 H1->Ext G H G1 H1->ak Γ G1 U h1 Y H1->aj Γ E a c (f b h1) P->Q b H1):cq Γ E m Y H Q:=by
 refine⟨G,U,h,s,?_⟩
 cases q:m U h with
 | ok w h1=>
  rw [q]at p
  exact λG1 H1 e o=>k w h1 G1 H1 (g.trans l e) e (s.ext e o) p
 | exc d h1=>rw [q]at p;exact aj.on (h:=j) (r:=(M.R.exc d h1:M.R Bool)) (P:=λb _ _ n=>Q b n) p g l
 | fail=>rw [q]at p;exact p
def gy (Γ:Ge) (E:XK) (m:M.Sl->M.AH->M.R (List M.D)):TA:=λY H Q=> ∃G U h,ak Γ G U h Y H/\aj Γ E G H (m U h) λds _ G' H'=> ∀a,aa Γ G' H' ds a->Q a H'
def aP (Γ:Ge) (G:Gh) (H:Hp):List M.W->List V->Prop
 | [],a=>a= []
 | w::b,a=> ∃v r,a=v::r/\ah Γ G H w v/\aP Γ G H b r
theorem aP.ext (e:Ext G H G' H') (a:ae Γ G h H): ∀ {ws:List M.W}{vs:List V},aP Γ G H ws vs->aP Γ G' H' ws vs
 | [],_,z=>z
 | _::_,_,⟨v,r,b,d,c⟩=>⟨v,r,b,ah.ext e a d,aP.ext e a c⟩
theorem aP.length: ∀ {ws:List M.W}{vs:List V},aP Γ G H ws vs->ws.length=vs.length
 | [],_,rfl=>rfl
 | _::_,_,⟨_,_,rfl,_,z⟩=>congrArg (· +1) (aP.length z)
def eC (Γ:Ge) (E:XK) (m:M.Sl->M.AH->M.R (List M.W)):TA:=λY H Q=> ∃G U h,ak Γ G U h Y H/\aj Γ E G H (m U h) λb _ G' H'=> ∀a,aP Γ G' H' b a->Q a H'
def QO {i:Type}{E:XK}{a:Gh}{b:Hp}{j:M.AH}{m:M.Sl->M.AH->M.R (List M.D)}{f:List M.D->M.AH->M.R i}{P:i->M.AH->Gh->Hp->Prop}{Q:List V->Hp->Prop}(l:ae Γ a j b) (g:Ext a b G H) (s:ak Γ G U h Y H)
 (p:aj Γ E a b ((m U h).bind f) P)
 (k: ∀ds vs h1 G1 H1,Ext a b G1 H1->Ext G H G1 H1->ak Γ G1 U h1 Y H1->aa Γ G1 H1 ds vs->aj Γ E a b (f ds h1) P->Q vs H1):gy Γ E m Y H Q:=by
 refine⟨G,U,h,s,?_⟩
 cases q:m U h with
 | ok w h1=>
  rw [q]at p
  exact λG1 H1 e o vs z=>k w vs h1 G1 H1 (g.trans l e) e (s.ext e o) z p
 | exc d h1=>rw [q]at p;exact aj.on (h:=j) (r:=(M.R.exc d h1:M.R (List M.D))) (P:=λds _ n c=> ∀vs,aa Γ n c ds vs->Q vs c) p g l
 | fail=>rw [q]at p;exact p
def wv {i:Type}{E:XK}{a:Gh}{b:Hp}{j:M.AH}{m:M.Sl->M.AH->M.R (List M.W)}{f:List M.W->M.AH->M.R i}{P:i->M.AH->Gh->Hp->Prop}{Q:List V->Hp->Prop}(l:ae Γ a j b) (g:Ext a b G H) (s:ak Γ G U h Y H)
 (p:aj Γ E a b ((m U h).bind f) P)
 (k: ∀ds vs h1 G1 H1,Ext a b G1 H1->Ext G H G1 H1->ak Γ G1 U h1 Y H1->aP Γ G1 H1 ds vs->aj Γ E a b (f ds h1) P->Q vs H1):eC Γ E m Y H Q:=by
 refine⟨G,U,h,s,?_⟩
 cases q:m U h with
 | ok w h1=>
  rw [q]at p
  exact λG1 H1 e o vs z=>k w vs h1 G1 H1 (g.trans l e) e (s.ext e o) z p
 | exc d h1=>rw [q]at p;exact aj.on (h:=j) (r:=(M.R.exc d h1:M.R (List M.W))) (P:=λds _ n c=> ∀vs,aP Γ n c ds vs->Q vs c) p g l
 | fail=>rw [q]at p;exact p
theorem aj.of {a c:Type}{E:XK}{o:Option c}{f:c->M.AH->M.R a}{P:a->M.AH->Gh->Hp->Prop}(p:aj Γ E G H ((M.R.of h o).bind f) P): ∃b,o=y0 b/\aj Γ E G H (f b h) P:=by
 cases o with
 | none=>exact p.elim
 | some b=>exact⟨b,rfl,p⟩
def aj.at {b:Type}{E:XK}{a:b}{P:b->M.AH->Gh->Hp->Prop}(p:aj Γ E G H (.ok a h) P) (e:Ext G H G1 H1) (c:ae Γ G1 h H1):P a h G1 H1:=p G1 H1 e c
def lN (e:Ext G H G1 H1) (s:ak Γ G1 U h Y H1) (n:ak Γ G U h' Y H){w:M.W}{v:V}{d:M.D}(r:ah Γ G1 H1 w v) (f:az U Y H w v) (c:w.d=y0 d):
 ∃G2,Ext G H G2 H1/\ak Γ G2 U h Y H1/\ao Γ G2 H1 d v/\Mon G1 H1 G2 H1:=by
 cases w with
 | v y=>cases c;exact⟨G1,e,s,r,⟨λ_ _ _ z=>z,Aa6 _,λ_ _=>rfl,λ_ z=>z⟩⟩
 | own p=>
  cases c
  obtain⟨a,x,rfl,A,t,j,m⟩:=r
  obtain⟨b,l,k⟩:=f
  cases l
  refine⟨G1.more a,e.more k,s.more t ⟨_,j⟩ λi w q u z=> ?_,⟨a,x,rfl,.inl ⟨.inr rfl,.inl j⟩,m.mon (Zl a)⟩,Zl a⟩
  obtain⟨o,g⟩:=n.b5 q u z
  rw [k]at g;cases g
 | bor p=>cases c
end
open PySem PySem.Spec PyProof.Rows
mutual
def RV (hp:Heap):M.D->Value->Prop
 | .ai,u=>u= .none
 | .bl b,u=>u= .bool b
 | .int i,u=> ∃t,u= .int i t
 | .str s,u=> ∃t,u= .str (aO s) t
 | .tup ds,u=> ∃(a:Addr) (its:List Value),u= .ref a/\IsTup hp a its.toArray/\bM hp ds its
 | .lst ds,u=> ∃(a:Addr) (its:List Value),u= .ref a/\hp.IsList a its.toArray/\bM hp ds its
 | .ref _,_=>False
 | .exc _ _,_=>False
 | .err _ _ _,_=>False
def bM (hp:Heap):List M.D->List Value->Prop
 | [],us=>us= []
 | d::ds,us=> ∃u r,us=u::r/\RV hp d u/\bM hp ds r
end
theorem bM.length {a:Heap}: ∀ {ds:List M.D}{us:List Value},bM a ds us->ds.length=us.length
 | [],_,rfl=>rfl
 | _::_,_,⟨_,_,rfl,_,z⟩=>congrArg (· +1) (bM.length z)
theorem bM.get {a:Heap}: ∀ {ds:List M.D}{us:List Value}{j:Nat}{u:Value},bM a ds us->us[j]? =y0 u-> ∃d,ds[j]? =y0 d/\RV a d u
 | [],_,_,_,rfl,e=>by simp at e
 | d::_,_,0,_,⟨v,_,rfl,z,_⟩,e=>by simp at e;subst e;exact⟨d,rfl,z⟩
 | _::_,_,j+1,_,⟨_,_,rfl,_,z⟩,e=>by
  obtain⟨v,c,b⟩:=bM.get (j:=j) z (by simpa using e)
  exact⟨v,by simpa using c,b⟩
section
variable {X:Cx}{Γ:Ge}{G:Gh}{H:Hp}{h:M.AH}{y8:List (Addr×Obj)}{Y:St}{s:Shared}
mutual
theorem ao.gW (I:Inv X y8 Y H s) (hK:X.K=Γ.K): ∀ {d:M.D}{x:V}{u:Value},ao Γ G H d x->RelV x u->M.Gb d=k9->RV s.heap d u
 | .ai,_,_,rfl,r,_=>r
 | .bl _,_,_,rfl,r,_=>r
 | .int _,_,_,rfl,r,_=>r
 | .str _,_,_,rfl,r,_=>r
 | .tup ds,_,_,⟨a,vs,rfl,z2,z3⟩,r,n=>by
  cases r
  obtain⟨its,r1,p1,_⟩:=I.tuple (hK▸z2.sq)
  exact⟨a,its,rfl,p1,aa.gW I hK z3 r1 (by simpa [M.Gb]using n)⟩
 | .lst ds,_,_,⟨a,vs,rfl,z2,z3⟩,r,n=>by
  cases r
  obtain⟨its,r1,p1,_⟩:=I.list (hK▸z2.sq)
  exact⟨a,its,rfl,p1.isList,aa.gW I hK z3 r1 (by simpa [M.Gb]using n)⟩
 | .ref _,_,_,_,_,n=>by simp [M.Gb]at n
 | .exc _ _,_,_,_,_,n=>by simp [M.Gb]at n
 | .err _ _ _,_,_,_,_,n=>by simp [M.Gb]at n
theorem aa.gW (I:Inv X y8 Y H s) (hK:X.K=Γ.K): ∀ {ds:List M.D}{xs:List V}{us:List Value},aa Γ G H ds xs->Vals xs us->M.Gd ds=k9->bM s.heap ds us
 | [],_,_,rfl,.nil,_=>rfl
 | d::ds,_,_,⟨v,r,rfl,z1,z2⟩,.cons r1 r2,n=>by
  have n':M.Gb d=k9/\M.Gd ds=true:=by simpa [M.Gd]using n
  exact⟨_,_,rfl,ao.gW I hK z1 r1 n'.1,aa.gW I hK z2 r2 n'.2⟩
end
mutual
theorem ao.rv (I:Inv X y8 Y H s) (hK:X.K=Γ.K) (hr:ae Γ G h H): ∀ {d:M.D}{x:V}{u:Value},ao Γ G H d x->RelV x u->M.Gb (M.res h d)=k9->RV s.heap (M.res h d) u
 | .ai,_,_,rfl,r,_=>r
 | .bl _,_,_,rfl,r,_=>r
 | .int _,_,_,rfl,r,_=>r
 | .str _,_,_,rfl,r,_=>r
 | .tup ds,_,_,⟨a,vs,rfl,z2,z3⟩,r,n=>by
  cases r
  obtain⟨its,r1,p1,_⟩:=I.tuple (hK▸z2.sq)
  rw [M.res]at n ⊢
  exact⟨a,its,rfl,p1,aa.rv I hK hr z3 r1 (by simpa [M.Gb]using n)⟩
 | .lst ds,_,_,⟨a,vs,rfl,z2,z3⟩,r,n=>by
  cases r
  obtain⟨its,r1,p1,_⟩:=I.list (hK▸z2.sq)
  rw [M.res]at n ⊢
  exact⟨a,its,rfl,p1.isList,aa.rv I hK hr z3 r1 (by simpa [M.Gb]using n)⟩
 | .ref i,_,_,⟨hi,e⟩,r,n=>by
  subst e
  cases r
  rw [M.res]at n ⊢
  cases q:h[i]? with
  | none=>rw [q]at n;simp [M.Gb]at n
  | some c=>
   cases c with
   | lst xs=>
    rw [q]at n
    obtain⟨_,vs,z2,z3⟩:=hr.cell i xs q
    obtain⟨its,r1,p1,_⟩:=I.list (aY.of (K:=X.K) z2)
    exact⟨_,its,rfl,p1.isList,aa.gW I hK z3 r1 (by simpa [M.Gb]using n)⟩
   | obj c fs=>rw [q]at n;simp [M.Gb]at n
   | fR ks=>rw [q]at n;simp [M.Gb]at n
 | .exc _ _,_,_,_,_,n=>by simp [M.res,M.Gb]at n
 | .err _ _ _,_,_,_,_,n=>by simp [M.res,M.Gb]at n
theorem aa.rv (I:Inv X y8 Y H s) (hK:X.K=Γ.K) (hr:ae Γ G h H): ∀ {ds:List M.D}{xs:List V}{us:List Value},aa Γ G H ds xs->Vals xs us->M.Gd (M.GX h ds)=k9->bM s.heap (M.GX h ds) us
 | [],_,_,rfl,.nil,_=>rfl
 | d::ds,_,_,⟨v,r,rfl,z1,z2⟩,.cons r1 r2,n=>by
  rw [M.GX]at n ⊢
  have n':M.Gb (M.res h d)=k9/\M.Gd (M.GX h ds)=true:=by simpa [M.Gd]using n
  exact⟨_,_,rfl,ao.rv I hK hr z1 r1 n'.1,aa.rv I hK hr z2 r2 n'.2⟩
end
theorem ah.rv (I:Inv X y8 Y H s) (j:X.K=Γ.K) (i:ae Γ G h H){w:M.W}{x:V}{u:Value}(z:ah Γ G H w x) (r:RelV x u) (n:M.Gb (w.dd h)=k9):RV s.heap (w.dd h) u:=by
 cases w with
 | v d=>exact ao.rv I j i z r n
 | own l=>
  obtain⟨a,k,rfl,_,_,f,e⟩:=z
  cases r
  obtain⟨b,g,c,_⟩:=I.list (aY.of (K:=X.K) f)
  exact⟨a,b,rfl,c.isList,aa.rv I j i e g (by simpa [M.Gb]using n)⟩
 | bor l=>
  obtain⟨a,k,rfl,_,f,e⟩:=z
  cases r
  obtain⟨b,g,c,_⟩:=I.list (show aY X.K H a k from .inl f)
  exact⟨a,b,rfl,c.isList,aa.rv I j i e g (by simpa [M.Gb]using n)⟩
end
def mL {a b:M.Tx}(h:aO a=aO b):a=b:=by
 have:=congrArg Str.cps h
 simpa [aO]using this
def jG {b:Heap}{a:Addr}{xs c:List Value}(h1:IsTup b a xs.toArray) (h2:IsTup b a c.toArray):xs=c:=by
 obtain⟨o,e1,_,n,e⟩:=h1
 obtain⟨g,e2,_,f,d⟩:=h2
 rw [e1]at e2;cases e2
 rw [e]at d;cases d
 rfl
def wz {b:Heap}{a:Addr}{xs c:List Value}(h1:b.IsList a xs.toArray) (h2:b.IsList a c.toArray):xs=c:=by
 obtain⟨o,e1,_,n,e⟩:=h1
 obtain⟨g,e2,_,f,d⟩:=h2
 rw [e1]at e2;cases e2
 rw [e]at d;cases d
 rfl
def Zs {c:Heap}{a:Addr}{xs e:Array Value}(h1:IsTup c a xs) (h2:c.IsList a e):False:=by
 obtain⟨o,e1,d,_⟩:=h1
 obtain⟨f,e2,b,_⟩:=h2
 rw [e1]at e2;cases e2
 rw [d]at b
 exact absurd b (by decide)
mutual
theorem RV.inj {hp:Heap}: ∀ {d e:M.D}{u:Value},RV hp d u->RV hp e u->d=e
 | .ai,e,_,rfl,q=>by cases e<;>first | rfl | (simp [RV]at q)
 | .bl _,e,_,rfl,q=>by cases e<;>first | (simp [RV]at q;done) | (have q:=q;simp [RV]at q;try rw [q])
 | .int _,e,_,⟨t,rfl⟩,q=>by cases e<;>first | (simp [RV]at q;done) | (have q:=q;simp [RV]at q;try rw [q])
 | .str _,e,_,⟨t,rfl⟩,q=>by
  cases e with
  | str z=>
   obtain⟨t',q⟩:=q
   injection q with q1 q2
   rw [mL q1]
  | _=>simp [RV]at q
 | .tup ds,e,_,⟨a,its,rfl,p,r⟩,q=>by
  cases e with
  | tup es=>
   obtain⟨b,its2,e,p2,r2⟩:=q
   cases e
   cases jG p p2
   rw [bM.inj r r2]
  | lst es=>
   obtain⟨b,its2,e,p2,r2⟩:=q
   cases e
   exact(Zs p p2).elim
  | _=>simp [RV]at q
 | .lst ds,e,_,⟨a,its,rfl,p,r⟩,q=>by
  cases e with
  | lst es=>
   obtain⟨b,its2,e,p2,r2⟩:=q
   cases e
   cases wz p p2
   rw [bM.inj r r2]
  | tup es=>
   obtain⟨b,its2,e,p2,r2⟩:=q
   cases e
   exact(Zs p2 p).elim
  | _=>simp [RV]at q
 | .ref _,_,_,q,_=>q.elim
 | .exc _ _,_,_,q,_=>q.elim
 | .err _ _ _,_,_,q,_=>q.elim
theorem bM.inj {hp:Heap}: ∀ {d e:List M.D}{u:List Value},bM hp d u->bM hp e u->d=e
 | [],e,_,rfl,q=>by
  cases e with
  | nil=>rfl
  | cons a b=>obtain⟨_,_,z,_⟩:=q;cases z
 | d::ds,e,_,⟨u,r,rfl,z1,z2⟩,q=>by
  cases e with
  | nil=>cases (show _::_= []from q)
  | cons a b=>
   obtain⟨_,_,z,y1,y2⟩:=q
   cases z
   rw [RV.inj z1 y1,bM.inj z2 y2]
end
mutual
theorem RV.refl {hp:Heap}: ∀ {d:M.D}{u:Value},RV hp d u->M.bR d d=k9
 | .ai,_,_=>rfl
 | .bl _,_,_=>by simp
 | .int _,_,_=>by simp
 | .str _,_,_=>by simp
 | .tup ds,_,⟨_,_,_,_,r⟩=>by rw [M.bR];exact bM.refl r
 | .lst ds,_,⟨_,_,_,_,r⟩=>by rw [M.bR];exact bM.refl r
 | .ref _,_,q=>q.elim
 | .exc _ _,_,q=>q.elim
 | .err _ _ _,_,q=>q.elim
theorem bM.refl {hp:Heap}: ∀ {d:List M.D}{u:List Value},bM hp d u->M.GF d d=k9
 | [],_,_=>rfl
 | d::ds,_,⟨_,_,_,z1,z2⟩=>by rw [M.GF,RV.refl z1,bM.refl z2];rfl
end
def gi (xs c:List M.D) (j:Nat):Bool:=match xs[j]?,c[j]? with
 | some a,y0 b=>M.bR a b
 | _,_=>k9
def wy (n:Nat) (e:Nat->Bool):(Aa7 (n+1)).all e=(e 0&&(Aa7 n).all λj=>e (j+1)):=by
 rw [Ah4,Ah2,List.all_map];rfl
theorem jN: ∀(xs a:List M.D),xs.length=a.length->(Aa7 xs.length).all (gi xs a)=M.GF xs a
 | [],[],_=>rfl
 | [],_::_,h=>by simp at h
 | _::_,[],h=>by simp at h
 | x::xs,y::a,h=>by
  rw [Ab0,wy,M.GF]
  have b:=jN xs a (by simpa using h)
  rw [← b]
  rfl
theorem XQ: ∀(xs a:List M.D),M.GF xs a=k9->xs.length=a.length
 | [],[],_=>rfl
 | [],_::_,h=>by simp at h
 | _::_,[],h=>by simp at h
 | x::xs,y::a,h=>by
  rw [M.GF,Aa1]at h
  rw [Ab0,Ab0,XQ xs a h.2]
def j7 {xs a:List M.D}(h:xs.length≠a.length):M.GF xs a=false:=by
 cases e:M.GF xs a with
 | false=>rfl
 | true=>exact absurd (XQ xs a e) h
open SeqAt in
structure cQ (A:Around) (s:Shared) (u v:Value) (b:Bool):Prop where
 rc:RcAt A s u v b
 ne:RcNeAt A s u v (!b)
 eq:EqAt A s u v b
section
open SeqAt
variable {A:Around}{s:Shared}
theorem Qt: ∀ {ds:List M.D}{j:Nat}{d:M.D},ds[j]? =y0 d->M.dep d<=M.GE ds
 | [],_,_,e=>by simp at e
 | x::a,0,d,e=>by simp at e;subst e;simp only [M.GE];omega
 | x::a,j+1,d,e=>by
  have:=Qt (ds:=a) (j:=j) (by simpa using e)
  simp only [M.GE]
  omega
def kq (b:Bool):((if b then(1:Int)else 0))=((b.toNat:Nat):Int):=by cases b<;>rfl
def X4 (a b:M.Tx):(aO a==aO b)=(a==b):=by
 by_cases h:a=b
 .subst h;simp
 .have c:aO a≠aO b:=λe=>h (mL e)
  rw [beq_eq_false_iff_ne.mpr h,beq_eq_false_iff_ne.mpr c]
def Q4 {l b:Addr}{f d:List Value}{xs h:List M.D}(k:s.heap.IsList l f.toArray) (hb:s.heap.IsList b d.toArray) (n:bM s.heap xs f) (p:bM s.heap h d) (m:A.units<cLine)
 (z: ∀(j:Nat) a c u v,xs[j]? =y0 a->h[j]? =y0 c->RV s.heap a u->RV s.heap c v->EqAt A.in1 s u v (M.bR a c)):cQ A s (.ref l) (.ref b) (M.GF xs h):=by
 have x: ∀(j:Nat) (q:j<f.toArray.size) (o:j<d.toArray.size),EqAt A.in1 s f.toArray[j] d.toArray[j] (gi xs h j):=λj q o=>by
  obtain⟨a,t,y⟩:=n.get (j:=j) (u:=f.toArray[j]) (by simp at q;simp [q])
  obtain⟨c,r,C⟩:=p.get (j:=j) (u:=d.toArray[j]) (by simp at o;simp [o])
  have:=z j a c _ _ t r y C
  unfold gi
  rw [t,r]
  exact this
 have B:=n.length
 have l2:=p.length
 have two:RcAt A s (.ref l) (.ref b) (M.GF xs h)/\RcNeAt A s (.ref l) (.ref b) (!M.GF xs h):=by
  by_cases w:xs.length=h.length
  .have g:f.toArray.size=d.toArray.size:=by simp;omega
   have e:(Aa7 f.toArray.size).all (gi xs h)=M.GF xs h:=by
    rw [Aa9,←B];exact jN xs h w
   have a:=RcAt.lists k hb g m x
   have c:=RcNeAt.lists k hb g m x
   rw [e]at a c
   exact⟨a,c⟩
  .have g:(f.toArray.size != d.toArray.size)=true:=by simp;omega
   rw [j7 w]
   exact⟨RcAt.lists_lengths k hb g m,RcNeAt.lists_lengths k hb g m⟩
 refine⟨two.1,two.2,?_⟩
 by_cases i:l=b
 .subst i
  cases wz k hb
  cases bM.inj n p
  rw [bM.refl n]
  exact EqAt.same _
 .exact EqAt.of_refs i two.1
def XX {l b:Addr}{f d:List Value}{xs g:List M.D}(p:IsTup s.heap l f.toArray) (hb:IsTup s.heap b d.toArray) (k:bM s.heap xs f) (n:bM s.heap g d) (t:A.units<cLine)
 (y: ∀(j:Nat) a c u v,xs[j]? =y0 a->g[j]? =y0 c->RV s.heap a u->RV s.heap c v->EqAt A.in1 s u v (M.bR a c)):cQ A s (.ref l) (.ref b) (M.GF xs g):=by
 have w: ∀(j:Nat) (o:j<f.toArray.size) (m:j<d.toArray.size),EqAt A.in1 s f.toArray[j] d.toArray[j] (gi xs g j):=λj o m=>by
  obtain⟨a,r,x⟩:=k.get (j:=j) (u:=f.toArray[j]) (by simp at o;simp [o])
  obtain⟨c,q,B⟩:=n.get (j:=j) (u:=d.toArray[j]) (by simp at m;simp [m])
  have:=y j a c _ _ r q x B
  unfold gi
  rw [r,q]
  exact this
 have z:=k.length
 have l2:=n.length
 have e:((Aa7 (min f.toArray.size d.toArray.size)).all (gi xs g)&&f.toArray.size==d.toArray.size)=M.GF xs g:=by
  rw [Aa9,Aa9,←z,←l2]
  by_cases i:xs.length=g.length
  .rw [← i,Nat.min_self,jN xs g i];simp
  .rw [j7 i];simp [i]
 have a:=RcAt.tuples p hb t w
 have c:=RcNeAt.tuples p hb t w
 rw [e]at a c
 refine⟨a,c,?_⟩
 by_cases h:l=b
 .subst h
  cases jG p hb
  cases bM.inj k n
  rw [bM.refl k]
  exact EqAt.same _
 .exact EqAt.of_refs h a
def cQ.of {u v:Value}{b a:Bool}(h:cQ A s u v b) (e:b=a):cQ A s u v a:=e▸h
def ml: ∀(n:Nat) (d e:M.D) (A:Around) (u v:Value),M.dep d<=n->A.units+n<cLine->RV s.heap d u->RV s.heap e v->cQ A s u v (M.bR d e):=by
 intro n
 induction n with
 | zero=>
  intro d e A u v y K m f
  have c:A.units<cLine:=by omega
  cases d with
  | ai=>
   cases (show u= .none from m)
   cases e with
   | ai=>cases (show v= .none from f);exact⟨RcAt.none_none,RcNeAt.none_none,EqAt.same _⟩
   | bl b=>cases (show v= .bool b from f);exact⟨RcAt.none_bool b,RcNeAt.none_bool b,EqAt.none_bool b⟩
   | int i=>obtain⟨t,rfl⟩:=f;exact⟨RcAt.none_int i t,RcNeAt.none_int i t,EqAt.none_int i t⟩
   | str z=>obtain⟨t,rfl⟩:=f;exact⟨RcAt.none_str _ t,RcNeAt.none_str _ t,EqAt.none_str _ t⟩
   | tup o=>obtain⟨a,k,rfl,p,_⟩:=f;exact⟨RcAt.none_tuple p c,RcNeAt.none_tuple p c,EqAt.none_tuple p c⟩
   | lst o=>obtain⟨a,k,rfl,p,_⟩:=f;exact⟨RcAt.none_list p c,RcNeAt.none_list p c,EqAt.none_list p c⟩
   | ref _=>exact f.elim
   | exc _ _=>exact f.elim
   | err _ _ _=>exact f.elim
  | bl x=>
   cases (show u= .bool x from m)
   cases e with
   | ai=>cases (show v= .none from f);exact⟨RcAt.bool_none x,RcNeAt.bool_none x,EqAt.bool_none x⟩
   | bl b=>cases (show v= .bool b from f);exact⟨RcAt.bool_bool x b,RcNeAt.bool_bool x b,EqAt.bool_bool x b⟩
   | int i=>obtain⟨t,rfl⟩:=f;exact(cQ.mk (RcAt.bool_int x i t) (RcNeAt.bool_int x i t) (EqAt.bool_int x i t)).of (by rw [kq];rfl)
   | str z=>obtain⟨t,rfl⟩:=f;exact⟨RcAt.bool_str x _ t,RcNeAt.bool_str x _ t,EqAt.bool_str x _ t⟩
   | tup o=>obtain⟨a,k,rfl,p,_⟩:=f;exact⟨RcAt.bool_tuple x p c,RcNeAt.bool_tuple x p c,EqAt.bool_tuple x p c⟩
   | lst o=>obtain⟨a,k,rfl,p,_⟩:=f;exact⟨RcAt.bool_list x p c,RcNeAt.bool_list x p c,EqAt.bool_list x p c⟩
   | ref _=>exact f.elim
   | exc _ _=>exact f.elim
   | err _ _ _=>exact f.elim
  | int x=>
   obtain⟨g,rfl⟩:=m
   cases e with
   | ai=>cases (show v= .none from f);exact⟨RcAt.int_none x g,RcNeAt.int_none x g,EqAt.int_none x g⟩
   | bl b=>cases (show v= .bool b from f);exact(cQ.mk (RcAt.int_bool x g b) (RcNeAt.int_bool x g b) (EqAt.int_bool x g b)).of (by rw [kq];rfl)
   | int i=>obtain⟨t,rfl⟩:=f;exact⟨RcAt.int_int x g i t,RcNeAt.int_int x g i t,EqAt.int_int x g i t⟩
   | str z=>obtain⟨t,rfl⟩:=f;exact⟨RcAt.int_str x g _ t,RcNeAt.int_str x g _ t,EqAt.int_str x g _ t⟩
   | tup o=>obtain⟨a,k,rfl,p,_⟩:=f;exact⟨RcAt.int_tuple x g p c,RcNeAt.int_tuple x g p c,EqAt.int_tuple x g p c⟩
   | lst o=>obtain⟨a,k,rfl,p,_⟩:=f;exact⟨RcAt.int_list x g p c,RcNeAt.int_list x g p c,EqAt.int_list x g p c⟩
   | ref _=>exact f.elim
   | exc _ _=>exact f.elim
   | err _ _ _=>exact f.elim
  | str x=>
   obtain⟨g,rfl⟩:=m
   cases e with
   | ai=>cases (show v= .none from f);exact⟨RcAt.str_none _ g,RcNeAt.str_none _ g,EqAt.str_none _ g⟩
   | bl b=>cases (show v= .bool b from f);exact⟨RcAt.str_bool _ g b,RcNeAt.str_bool _ g b,EqAt.str_bool _ g b⟩
   | int i=>obtain⟨t,rfl⟩:=f;exact⟨RcAt.str_int _ g i t,RcNeAt.str_int _ g i t,EqAt.str_int _ g i t⟩
   | str z=>obtain⟨t,rfl⟩:=f;exact(cQ.mk (RcAt.str_str _ g _ t) (RcNeAt.str_str _ g _ t) (EqAt.str_str _ g _ t)).of (by rw [X4];rfl)
   | tup o=>obtain⟨a,k,rfl,p,_⟩:=f;exact⟨RcAt.str_tuple _ g p c,RcNeAt.str_tuple _ g p c,EqAt.str_tuple _ g p c⟩
   | lst o=>obtain⟨a,k,rfl,p,_⟩:=f;exact⟨RcAt.str_list _ g p c,RcNeAt.str_list _ g p c,EqAt.str_list _ g p c⟩
   | ref _=>exact f.elim
   | exc _ _=>exact f.elim
   | err _ _ _=>exact f.elim
  | tup C=>simp only [M.dep]at y;omega
  | lst C=>simp only [M.dep]at y;omega
  | ref _=>exact m.elim
  | exc _ _=>exact m.elim
  | err _ _ _=>exact m.elim
 | succ n w=>
  intro d e A u v y K m f
  have c:A.units<cLine:=by omega
  cases d with
  | tup C=>
   obtain⟨l,B,rfl,h,G⟩:=m
   have r:M.GE C<=n:=by simp only [M.dep]at y;omega
   cases e with
   | ai=>cases (show v= .none from f);exact⟨RcAt.tuple_none h c,RcNeAt.tuple_none h c,EqAt.tuple_none h c⟩
   | bl b=>cases (show v= .bool b from f);exact⟨RcAt.tuple_bool b h c,RcNeAt.tuple_bool b h c,EqAt.tuple_bool b h c⟩
   | int i=>obtain⟨t,rfl⟩:=f;exact⟨RcAt.tuple_int i t h c,RcNeAt.tuple_int i t h c,EqAt.tuple_int i t h c⟩
   | str z=>obtain⟨t,rfl⟩:=f;exact⟨RcAt.tuple_str _ t h c,RcNeAt.tuple_str _ t h c,EqAt.tuple_str _ t h c⟩
   | tup o=>
    obtain⟨a,k,rfl,p,q⟩:=f
    rw [M.bR]
    exact XX h p G q c λj D J E I e1 e2 H F=>(w D J A.in1 E I (Ac0 (Qt e1) r) (by show A.units+1+n<cLine;omega) H F).eq
   | lst o=>obtain⟨a,k,rfl,p,_⟩:=f;exact⟨RcAt.tuple_list h p c,RcNeAt.tuple_list h p c,EqAt.tuple_list h p c⟩
   | ref _=>exact f.elim
   | exc _ _=>exact f.elim
   | err _ _ _=>exact f.elim
  | lst C=>
   obtain⟨l,B,rfl,h,G⟩:=m
   have r:M.GE C<=n:=by simp only [M.dep]at y;omega
   cases e with
   | ai=>cases (show v= .none from f);exact⟨RcAt.list_none h c,RcNeAt.list_none h c,EqAt.list_none h c⟩
   | bl b=>cases (show v= .bool b from f);exact⟨RcAt.list_bool b h c,RcNeAt.list_bool b h c,EqAt.list_bool b h c⟩
   | int i=>obtain⟨t,rfl⟩:=f;exact⟨RcAt.list_int i t h c,RcNeAt.list_int i t h c,EqAt.list_int i t h c⟩
   | str z=>obtain⟨t,rfl⟩:=f;exact⟨RcAt.list_str _ t h c,RcNeAt.list_str _ t h c,EqAt.list_str _ t h c⟩
   | lst o=>
    obtain⟨a,k,rfl,p,q⟩:=f
    rw [M.bR]
    exact Q4 h p G q c λj D J E I e1 e2 H F=>(w D J A.in1 E I (Ac0 (Qt e1) r) (by show A.units+1+n<cLine;omega) H F).eq
   | tup o=>obtain⟨a,k,rfl,p,_⟩:=f;exact⟨RcAt.list_tuple h p c,RcNeAt.list_tuple h p c,EqAt.list_tuple h p c⟩
   | ref _=>exact f.elim
   | exc _ _=>exact f.elim
   | err _ _ _=>exact f.elim
  | ai=>exact w .ai e A u v (by simp) (by omega) m f
  | bl x=>exact w (.bl x) e A u v (by simp) (by omega) m f
  | int x=>exact w (.int x) e A u v (by simp) (by omega) m f
  | str x=>exact w (.str x) e A u v (by simp) (by omega) m f
  | ref _=>exact m.elim
  | exc _ _=>exact m.elim
  | err _ _ _=>exact m.elim
end
def ar (Γ:Ge) (E:XK) (G:Gh) (H:Hp) (r:M.R M.W) (Q:VK):Prop:=aj Γ E G H r λw _ G' H'=> ∀v,ah Γ G' H' w v->az [] [] H w v->Q v H'
section
variable {X:Cx}{Γ:Ge}{G:Gh}{H:Hp}{h:M.AH}{y8:List (Addr×Obj)}{Y:St}{s:Shared}{Q:VK}{E:XK}
theorem ar.v {d:M.D}(p:ar Γ E G H (.ok (.v d) h) Q) (a:ae Γ G h H){v:V}(z:ao Γ G H d v):Q v H:=p G H Ext.refl a v z trivial
def ae.iD (b:ae Γ G h H){a:Addr}(c:H a=u0): ¬G.fz a:=λq=>by
 obtain⟨o,z⟩:=b.live a q
 rw [c]at z;cases z
def ae.h8 (b:ae Γ G h H){a:Addr}(c:H a=u0):c7 G a:=λr d e=>by
 obtain⟨o,q⟩:=b.there d
 rw [e,c]at q;cases q
theorem ar.own {xs:List M.D}{vs:List V}(p:ar Γ E G H (.ok (.own xs) h) Q) (c:ae Γ G h H) (z:aa Γ G H xs vs) (a:Addr) (b:H a=u0):Q (.ref a) (ax H a (.lst vs)):=
 p G (ax H a (.lst vs)) (zu _ b) (c.new _ b) (.ref a) ⟨a,vs,rfl,c.iD b,c.h8 b,Qa,z.ext (zu _ b) c⟩ ⟨a,rfl,b⟩
theorem ar.tup {xs:List M.D}{vs:List V}(p:ar Γ E G H (.ok (.v (.tup xs)) h) Q) (c:ae Γ G h H) (z:aa Γ G H xs vs) (a:Addr) (b:H a=u0):Q (.ref a) (ax H a (.tup vs)):=
 p (G.more a) (ax H a (.tup vs)) (Qe _ b) (c.dI _ b) (.ref a) ⟨a,vs,rfl,.inl ⟨.inr rfl,Qa⟩,z.ext (Qe _ b) c⟩ trivial
theorem ar.of {a:Type}{o:Option a}{f:a->M.AH->M.R M.W}(p:ar Γ E G H ((M.R.of h o).bind f) Q): ∃b,o=y0 b/\ar Γ E G H (f b h) Q:=aj.of p
def ar.mk {g:Gh}{c:Hp}{m:M.AH}{U:M.Sl}{Y:St}{r:M.R M.W}(p:aj Γ E g c r λw _ G' H'=> ∀v,ah Γ G' H' w v->az U Y c w v->Q v H') (e:Ext g c G H) (h:ae Γ g m c):ar Γ E G H r Q:=by
 cases r with
 | ok w l=>
  refine λG' H' f b v q k=>p G' H' (e.trans h f) b v q ?_
  cases w with
  | v d=>trivial
  | own o=>obtain⟨a,j,n⟩:=k;exact⟨a,j,e.none h n⟩
  | bor o=>obtain⟨i,w,j,_⟩:=k;simp at j
 | exc d l=>exact λG' H' f b=>p G' H' (e.trans h f) b
 | fail=>exact p
theorem ah.lst (j:ae Γ G h H){w:M.W}{v:V}{xs:List M.D}(z:ah Γ G H w v) (e:w.cy h=y0 xs): ∃a vs,v= .ref a/\aY Γ.K H a vs/\aa Γ G H xs vs:=by
 cases w with
 | v d=>
  cases d with
  | lst i=>cases e;obtain⟨a,vs,b,g,f⟩:=z;exact⟨a,vs,b,g.sq,f⟩
  | ref r=>
   obtain⟨l,b⟩:=z
   have e:(match h[r]? with | some (M.Cell.lst zs)=>y0 zs | _=>u0)=y0 xs:=e
   cases q:h[r]? with
   | none=>rw [q]at e;cases e
   | some c=>
    cases c with
    | lst i=>
     rw [q]at e
     cases e
     obtain⟨_,vs,g,f⟩:=j.cell r _ q
     exact⟨_,vs,b,aY.of g,f⟩
    | obj c fs=>rw [q]at e;cases e
    | fR k=>rw [q]at e;cases e
  | ai=>cases e
  | bl _=>cases e
  | int _=>cases e
  | str _=>cases e
  | tup _=>cases e
  | exc _ _=>cases e
  | err _ _ _=>cases e
 | own i=>cases e;obtain⟨a,vs,b,_,_,g,f⟩:=z;exact⟨a,vs,b,aY.of g,f⟩
 | bor i=>cases e;obtain⟨a,vs,b,_,g,f⟩:=z;exact⟨a,vs,b,.inl g,f⟩
theorem ah.lO (j:ae Γ G h H){w:M.W}{v:V}{xs:List M.D}(z:ah Γ G H w v) (e:w.fU h=y0 xs): ∃a vs,v= .ref a/\Rd H a (.lst vs)/\aa Γ G H xs vs:=by
 cases w with
 | v d=>
  cases d with
  | ref r=>
   obtain⟨l,b⟩:=z
   have e:(match h[r]? with | some (M.Cell.lst zs)=>y0 zs | _=>u0)=y0 xs:=e
   cases q:h[r]? with
   | none=>rw [q]at e;cases e
   | some c=>
    cases c with
    | lst i=>
     rw [q]at e
     cases e
     obtain⟨_,vs,g,f⟩:=j.cell r _ q
     exact⟨_,vs,b,.inl g,f⟩
    | obj c fs=>rw [q]at e;cases e
    | fR k=>rw [q]at e;cases e
  | _=>cases e
 | own i=>cases e;obtain⟨a,vs,b,_,_,g,f⟩:=z;exact⟨a,vs,b,.inl g,f⟩
 | bor i=>cases e;obtain⟨a,vs,b,_,g,f⟩:=z;exact⟨a,vs,b,g,f⟩
theorem ah.seq (j:ae Γ G h H){w:M.W}{v:V}{xs:List M.D}(z:ah Γ G H w v) (e:w.seq? h=y0 xs): ∃a vs,v= .ref a/\(aY Γ.K H a vs\/bK Γ.K H a vs)/\aa Γ G H xs vs:=by
 have b:w.cy h=y0 xs-> ∃a vs,v= .ref a/\(aY Γ.K H a vs\/bK Γ.K H a vs)/\aa Γ G H xs vs:=λe=>by
  obtain⟨a,vs,c,i,f⟩:=z.lst j e
  exact⟨a,vs,c,.inl i,f⟩
 cases w with
 | v d=>
  cases d with
  | tup g=>cases e;obtain⟨a,vs,c,i,f⟩:=z;exact⟨a,vs,c,.inr i.sq,f⟩
  | lst g=>exact b e
  | ref r=>exact b e
  | ai=>cases e
  | bl _=>cases e
  | int _=>cases e
  | str _=>cases e
  | exc _ _=>cases e
  | err _ _ _=>cases e
 | own g=>exact b e
 | bor g=>exact b e
def BL (I:Inv X y8 Y H s){a:Addr}{vs:List V}(r:Rd H a (.lst vs)):vs.length<=sizeLine/\ ∃(b:List Value) (n:Nat),Vals vs b/\vs.length=b.length/\s.heap.get? a=y0 { cls:= .type "list",data:= .seq b.toArray n }:=by
 obtain⟨z,b,n,r,e⟩:=r.ok I.aD
 exact⟨z,b,n,r,r.length,e⟩
def jg:M.aX<=sizeLine:=by rw [M.Gi];decide
def Bq (K:Aa3):R2:=λx y H Q=> ∃l b xs zs,x= .ref l/\y= .ref b/\aY K H l xs/\aY K H b zs/\xs.length+zs.length<=sizeLine/\ ∀p,H p=u0->Q (.ref p) (ax H p (.lst (xs++zs)))
def AB:br X (binaryOp .Add) (Bq X.K):=by
 intro w s Y H x y v u Q I G F h
 obtain⟨l,b,O,M,rfl,rfl,L,B,P,q⟩:=h
 cases G
 cases F
 obtain⟨c,r,C,_⟩:=I.list L
 obtain⟨a,o,K,_⟩:=I.list B
 have N:=r.length
 have l2:=o.length
 have J:c.toArray++a.toArray=(c++a).toArray:=by simp
 obtain⟨⟨D,dd,z,E⟩,k,p,n,m⟩:=id C.isList
 obtain⟨⟨t,j,g,i⟩,f,e,A,d⟩:=id K.isList
 simp only at p m e d
 subst p m e d
 refine concat_meets ⟨_,k,rfl⟩ ⟨_,f,rfl⟩ noFill_list_add seq_list_add PySem.F.slot_list_add PySem.F.entry_list_add (PySem.F.args_list_add_2 _ _) (list_addW l b c.toArray a.toArray n A dd j E i (by rw [Aa9,Aa9];omega)) ⟨k,f,?_⟩
 rw [J]
 exact⟨.ref _,_,I.iH (t':=s.toks) (r.append o) (by rw [Ab5];omega),rfl,q _ I.fresh⟩
def uY:R2:=λx y H Q=> ∃l k xs,x= .ref l/\y= .int k/\Rd H l (.lst xs)/\ -(2 ^ 63)<=k/\k<2 ^ 63/\xs.length*k.toNat<=sizeLine ∧
 ∀p,H p=u0->Q (.ref p) (ax H p (.lst (Aa k.toNat xs).flatten))
def sC:br X (binaryOp .Mult) uY:=by
 intro p s Y H x y v u Q I G E h
 obtain⟨l,k,M,rfl,rfl,J,D,B,w,q⟩:=h
 cases G
 obtain⟨t,rfl⟩:=E
 obtain⟨z,b,n,r,K,e⟩:=BL I J
 have i:b.toArray.size*k.toNat<=sizeLine:=by rw [Aa9,←K];exact w
 have g: ¬b.toArray.size*k.toNat>(2 ^ 63-1) / 8:=by
  have:sizeLine<=(2 ^ 63-1) / 8:=by decide
  omega
 have d: ¬(!Builtin.List.listFitsIndex k)=true:=by
  rw [fitsIndex_both D B]
  exact Aa4
 have c: ¬Builtin.List.listTooLong (b.toArray.size*k.toNat)=true:=by
  rw [jT i]
  exact Aa4
 have f:Ak8 (λj o=>j++o) #[] (Aa (if b.toArray.isEmpty=k9 then 0 else k.toNat) b.toArray)=(Aa k.toNat b).flatten.toArray:=by
  have C: ∀m:Nat,Ak8 (λj o=>j++o) #[] (Aa m b.toArray)=(Aa m b).flatten.toArray:=λm=>by
   have:=XH b m []
   rw [Af9]at this
   exact this
  rw [C]
  cases b with
  | nil=>simp
  | cons a L=>rw [if_neg (by simp)]
 refine wpAny_binaryOp_repeat_ref (T:= "list") (U:= "int") (by decide) ⟨_,e,rfl⟩ (fun A=>typeIs_int A k t) noFill_list_mul F.fills_int_mul F.slot_int_rmul repeat_list F.slot_int_index.lookup
  (call_meets F.slot_int_rmul (typeIs_int s k t) F.entry_int_rmul (F.args_int_rmul_2 _ _) (int___rmul___int_list k t l b.toArray n)
    ⟨e,rfl,⟨_,e,rfl⟩,call_meets F.slot_list_mul ⟨_,e,rfl⟩ F.entry_list_mul (F.args_list_mul_2 _ _) (AutoListH.list___mul___list_int_3 l b.toArray n k t d g c) ⟨e,?_⟩⟩)
 rw [f]
 exact⟨.ref _,_,I.iH (t':=s.toks) (r.rep k.toNat) (by rw [tU,Nat.mul_comm];exact w),rfl,q _ I.fresh⟩
theorem aa.rep {ds:List M.D}{vs:List V}(z:aa Γ G H ds vs): ∀k:Nat,aa Γ G H (Aa k ds).flatten (Aa k vs).flatten
 | 0=>rfl
 | k+1=>by
  rw [Ac3,Ac3,Ad4,Ad4]
  exact z.append (aa.rep z k)
def zD (a b:Nat):Builtin.bitAnd (a:Int) (b:Int)=((a &&& b:Nat):Int):=by
 unfold Builtin.bitAnd
 rw [decide_eq_true (Ai5 a),decide_eq_true (Ai5 b)]
 rfl
def tH (a:Nat) (j:Int) (b: ¬0<=j):Builtin.bitAnd (a:Int) j=((a-(a &&& (-j-1).toNat):Nat):Int):=by
 have e:(Builtin.bitNot j).toNat=(-j-1).toNat:=by unfold Builtin.bitNot;omega
 unfold Builtin.bitAnd
 rw [decide_eq_true (Ai5 a),decide_eq_false b]
 show(a:Int)-((a &&& (Builtin.bitNot j).toNat:Nat):Int)=_
 rw [e]
 have:= @Nat.and_le_left a (-j-1).toNat
 omega
def yX {i j k:Int}(h:M.Km i j=y0 k):Builtin.bitAnd i j=k:=by
 unfold M.Km at h
 split at h
 .rename_i d
  obtain⟨a,rfl⟩:=Int.eq_ofNat_of_zero_le d
  split at h
  .rename_i c
   obtain⟨b,rfl⟩:=Int.eq_ofNat_of_zero_le c
   cases h
   exact zD a b
  .rename_i c
   cases h
   exact tH a j c
 .cases h
noncomputable def i6:M.Op->Operator
 | .add=> .Add | .sub=> .Sub | .mul=> .Mult | .fdiv=> .FloorDiv | .mod=> .Mod | .pow=> .Pow | .shl=> .LShift | .shr=> .RShift | .band=> .BitAnd | .bor=> .BitOr | .bxor=> .BitXor
def uV (Γ:Ge) (E:XK) (o:M.Op):R2:=λx y H Q=> ∃G h b a,ae Γ G h H/\ah Γ G H b x/\ah Γ G H a y/\ar Γ E G H (M.GY o b a h) Q
def wW (s t:M.Tx):aO s++aO t=aO (s++t):=by
 show Str.mk _=Str.mk _
 simp [aO]
def wc (s:M.Tx):(aO s).length=s.length:=by
 show s.toArray.size=s.length
 simp
def kB:M.Op->Bool
 | .bor=>y9
 | .bxor=>y9
 | _=>k9
def Bz {o:M.Op}(d:kB o=k9){i j k:Int}(e:M.Gg o i j=y0 k){v u:Value}(I:Inv X y8 Y H s) (a:RelV (.int i) v) (b:RelV (.int j) u) (q:Q (.int k) H):
 wpAny (model X.prog X.w) X.A (binaryOp (i6 o) v u) (EP X y8 Y Q) X.xe s:=by
 cases o with
 | add=>cases e;exact uT y8 s Y H _ _ v u Q I a b ⟨i,j,rfl,rfl,q⟩
 | sub=>cases e;exact AV y8 s Y H _ _ v u Q I a b ⟨i,j,rfl,rfl,q⟩
 | mul=>
  simp only [M.Gg,M.GH,M.GA,M.GM,M.GB]at e
  split at e
  .rename_i c;cases e;exact uc y8 s Y H _ _ v u Q I a b ⟨i,j,rfl,rfl,c,q⟩
  .cases e
 | fdiv=>
  simp only [M.Gg,M.GH,M.GA,M.GM,M.GB]at e
  split at e
  .rename_i c;cases e;exact sT y8 s Y H _ _ v u Q I a b ⟨i,j,rfl,rfl,c,q⟩
  .cases e
 | mod=>
  simp only [M.Gg,M.GH,M.GA,M.GM,M.GB]at e
  split at e
  .rename_i c;cases e;exact uz y8 s Y H _ _ v u Q I a b ⟨i,j,rfl,rfl,c,q⟩
  .cases e
 | pow=>
  simp only [M.Gg,M.GH,M.GA,M.GM,M.GB]at e
  split at e
  .rename_i c;cases e;exact tu y8 s Y H _ _ v u Q I a b ⟨i,j,rfl,rfl,c,q⟩
  .cases e
 | shl=>
  simp only [M.Gg,M.GH,M.GA,M.GM,M.GB]at e
  split at e
  .rename_i c;cases e;exact vR y8 s Y H _ _ v u Q I a b ⟨i,j,rfl,rfl,c,q⟩
  .cases e
 | shr=>
  simp only [M.Gg,M.GH,M.GA,M.GM,M.GB]at e
  split at e
  .rename_i c;cases e;exact BV y8 s Y H _ _ v u Q I a b ⟨i,j,rfl,rfl,c,q⟩
  .cases e
 | band=>exact vI y8 s Y H _ _ v u Q I a b ⟨i,j,rfl,rfl,by dsimp only;rw [yX e];exact q⟩
 | bor=>cases d
 | bxor=>cases d
theorem ah.int {w:M.W}{v:V}{i:Int}(z:ah Γ G H w v) (e:w.int? =y0 i):v= .int i:=by
 cases w with
 | v d=>
  cases d with
  | int j=>cases e;exact z
  | _=>cases e
 | _=>cases e
theorem ah.str {w:M.W}{v:V}{i:M.Tx}(z:ah Γ G H w v) (e:w.bh =y0 i):v= .str (aO i):=by
 cases w with
 | v d=>
  cases d with
  | str j=>cases e;exact z
  | _=>cases e
 | _=>cases e
theorem ah.tup {w:M.W}{v:V}{xs:List M.D}(z:ah Γ G H w v) (e:w.ea =y0 xs): ∃a vs,v= .ref a/\eD Γ G H a vs/\aa Γ G H xs vs:=by
 cases w with
 | v d=>
  cases d with
  | tup j=>cases e;exact z
  | _=>cases e
 | _=>cases e
def BF (o:M.Op) (N:kB o=k9) (C:X.K=Γ.K):br X (binaryOp (i6 o)) (uV Γ E o):=by
 intro d s Y H x y v u Q I q n ⟨G,h,V,T,f,B,t,p⟩
 have U:=jg
 unfold M.GY at p
 split at p
 .rename_i i j e1 e2
  obtain⟨k,e,p⟩:=p.of
  cases B.int e1
  cases t.int e2
  exact Bz N e I q n (p.v f rfl)
 .split at p
  . -- add
    unfold M.Kw at p
    split at p
    .rename_i a b e1 e2
     cases B.str e1
     cases t.str e2
     split at p
     .rename_i c
      exact WX d s Y H _ _ v u Q I q n ⟨_,_,rfl,rfl,by rw [wc,wc];omega,by rw [wW];exact p.v f rfl⟩
     .exact p.elim
    .split at p
     .rename_i K L e1 e2
      obtain⟨a,m,rfl,l,g⟩:=B.tup e1
      obtain⟨b,J,rfl,F,D⟩:=t.tup e2
      split at p
      .rename_i c
       have w:=g.length
       have l2:=D.length
       by_cases ex:m= []
       .subst ex
        have:K= []:=Ae0 w
        subst this
        rw [Af9]at p
        exact vL d s Y H _ _ v u Q I q n ⟨a,b,J,rfl,rfl,C▸l.sq,C▸F.sq,p.v f ⟨b,J,rfl,F,D⟩⟩
       refine vt d s Y H _ _ v u Q I q n ⟨a,b,m,J,rfl,rfl,C▸l.sq,C▸F.sq,ex,by omega,λe=> ?_,λe A r=>p.tup f (g.append D) A r⟩
       .subst e
        have:L= []:=Ae0 l2
        subst this
        rw [Ac2]at p
        exact p.v f ⟨a,m,rfl,l,g⟩
      .exact p.elim
     .split at p
      .rename_i K L e1 e2
       obtain⟨a,m,rfl,l,g⟩:=B.lst f e1
       obtain⟨b,J,rfl,F,D⟩:=t.lst f e2
       unfold M.Kt at p
       split at p
       .have w:=g.length
        have l2:=D.length
        exact AB d s Y H _ _ v u Q I q n ⟨a,b,m,J,rfl,rfl,C▸l,C▸F,by omega,λA r=>p.own f (g.append D) A r⟩
       .exact p.elim
      .exact p.elim
  . -- mul
    unfold M.Kx at p
    split at p
    .rename_i z j e1 e2
     cases B.str e1
     cases t.int e2
     split at p
     .rename_i c
      rw [M.Gi]at c
      refine sd d s Y H _ _ v u Q I q n ⟨_,j,rfl,rfl,c.1,c.2.1,by rw [wc];exact c.2.2,?_⟩
      have e:eE (aO z) j.toNat=aO (Aa j.toNat z).flatten:=by
       apply n5
       rw [Zx]
       rfl
      rw [e]
      exact p.v f rfl
     .exact p.elim
    split at p
    .rename_i K j e1 e2
     obtain⟨a,m,rfl,l,g⟩:=B.lO f e1
     cases t.int e2
     unfold M.Ku at p
     split at p
     .rename_i c
      have w:=g.length
      exact sC d s Y H _ _ v u Q I q n ⟨a,j,m,rfl,rfl,l,by omega,by omega,by rw [← w];omega,λA r=>p.own f (g.rep j.toNat) A r⟩
     .exact p.elim
    split at p
    .rename_i K j e1 e2
     obtain⟨a,m,rfl,l,g⟩:=B.tup e1
     cases t.int e2
     split at p
     .rename_i c
      obtain⟨S,R,P,O⟩:=c
      rw [M.Gi]at O
      have w:=g.length
      refine uF d s Y H _ _ v u Q I q n ⟨a,j,m,rfl,rfl,C▸l.sq,λe=>S (Ae0 (by rw [w,e];rfl)),R,P,by rw [← w,sizeLine_eq];omega,λe=> ?_,λe A r=>p.tup f (g.rep j.toNat) A r⟩
      subst e
      exact p.v f ⟨a,m,rfl,l,by simpa using g⟩
     .exact p.elim
    .exact p.elim
  .exact p.elim
noncomputable def dU:M.Cp->CmpOp
 | .eq=> .Eq | .ne=> .NotEq | .lt=> .Lt | .le=> .LtE | .gt=> .Gt | .ge=> .GtE | .mem=> .In | .fD=> .NotIn | .fy=> .Is | .gv=> .IsNot
def gA (Γ:Ge) (o:M.Cp):R2:=λx y H Q=> ∃G h c a b,ae Γ G h H/\ah Γ G H c x/\ah Γ G H a y/\M.Gy o c a h=y0 b/\Q (.bl b) H
def Jy:M.Cp->Bool
 | .mem=>k9
 | .fD=>k9
 | _=>k9
def yF {o:M.Cp}{i j:Int}{b:Bool}(e:M.Kp o i j=y0 b){v u:Value}(I:Inv X y8 Y H s) (c:RelV (.int i) v) (a:RelV (.int j) u) (q:Q (.bl b) H):
 wpAny (model X.prog X.w) X.A (compareOp (dU o) v u) (EP X y8 Y Q) X.xe s:=by
 cases o with
 | lt=>cases e;exact B8 y8 s Y H _ _ v u Q I c a ⟨i,j,rfl,rfl,q⟩
 | le=>cases e;exact BS y8 s Y H _ _ v u Q I c a ⟨i,j,rfl,rfl,q⟩
 | gt=>cases e;exact Ar y8 s Y H _ _ v u Q I c a ⟨i,j,rfl,rfl,q⟩
 | ge=>cases e;exact Bf y8 s Y H _ _ v u Q I c a ⟨i,j,rfl,rfl,q⟩
 | _=>cases e
def pK (f:X.K=Γ.K){k:Nat}(p:aR k X.A):br X (compareOp .Eq) (gA Γ .eq):=by
 intro d s Y H x y v u Q I n m ⟨G,h,i,j,b,a,o,l,e,q⟩
 simp only [M.Gy]at e
 split at e
 .rename_i c
  cases e
  have g:(M.Gb (i.dd h)=k9/\M.Gb (j.dd h)=k9)/\M.dep (i.dd h)<150:=by simpa [M.GZ]using c
  exact(ml 150 _ _ X.A v u (by omega) (by have:=p.un;omega) (o.rv I f a n g.1.1) (l.rv I f a m g.1.2)).rc _ _ _ _ ⟨.bl _,H,I,rfl,q⟩
 .cases e
def pC (f:X.K=Γ.K){k:Nat}(p:aR k X.A):br X (compareOp .NotEq) (gA Γ .ne):=by
 intro d s Y H x y v u Q I n m ⟨G,h,i,j,b,a,o,l,e,q⟩
 simp only [M.Gy]at e
 split at e
 .rename_i c
  cases e
  have g:(M.Gb (i.dd h)=k9/\M.Gb (j.dd h)=k9)/\M.dep (i.dd h)<150:=by simpa [M.GZ]using c
  exact(ml 150 _ _ X.A v u (by omega) (by have:=p.un;omega) (o.rv I f a n g.1.1) (l.rv I f a m g.1.2)).ne _ _ _ _ ⟨.bl _,H,I,rfl,q⟩
 .cases e
end
def PE.imp {X:Cx}{e:Expr}{t t':TE}(h:PE X e t) (k: ∀Y H Q,t' Y H Q->t Y H Q):PE X e t':=λa s Y H Q I q=>h a s Y H Q I (k _ _ _ q)
def PT.imp {X:Cx}{e:Expr}{t t':TT}(h:PT X e t) (k: ∀Y H Q,t' Y H Q->t Y H Q):PT X e t':=λa s Y H Q I q=>h a s Y H Q I (k _ _ _ q)
def PA.imp {X:Cx}{e:List Expr}{t t':TA}(h:PA X e t) (k: ∀Y H Q,t' Y H Q->t Y H Q):PA X e t':=λb a s Y H Q I q=>h b a s Y H Q I (k _ _ _ q)
section
variable {X:Cx}{Γ:Ge}{G:Gh}{H:Hp}{h:M.AH}{y8:List (Addr×Obj)}{Y:St}{s:Shared}{Q:VK}{E:XK}
def aP.one {w:M.W}{vs:List V}(z:aP Γ G H [w] vs): ∃v,vs= [v]/\ah Γ G H w v:=by
 obtain⟨v,r,rfl,a,b⟩:=z
 cases (show r= []from b)
 exact⟨v,rfl,a⟩
def aP.two {w a:M.W}{vs:List V}(z:aP Γ G H [w,a] vs): ∃v v',vs= [v,v']/\ah Γ G H w v/\ah Γ G H a v':=by
 obtain⟨v,r,rfl,b,d⟩:=z
 obtain⟨v',rfl,c⟩:=d.one
 exact⟨v,v',rfl,b,c⟩
def lP (Γ:Ge) (E:XK) (b:M.Bi):List V->Hp->VK->Prop:=λxs H Q=> ∃G h a,ae Γ G h H/\aP Γ G H a xs/\ar Γ E G H (M.dz b a h) Q
def lz {K:Aa3}{a:Addr}{vs:List V}(h:aY K H a vs\/bK K H a vs):aY K H a vs\/bK K H a vs:=h
def kr:M.Bi->Bool
 | .len=>k9 | .tuple=>k9 | .divmod=>k9 | .sum=>k9 | .all=>k9 | .any=>k9 | .sorted=>k9
 | _=>y9
noncomputable def kM:M.Bi->Value
 | .len=> .builtin "len" | .int=> .type "int" | .list=> .type "list" | .tuple=> .type "tuple" | .sum=> .builtin "sum" | .all=> .builtin "all" | .any=> .builtin "any"
 | .sorted=> .builtin "sorted" | .divmod=> .builtin "divmod" | .str=> .type "str" | .min=> .builtin "min" | .max=> .builtin "max" | .abs=> .builtin "abs"
def ar.of2 {c d:Type}{o:Option c}{g:Option d}{f:c->d->M.AH->M.R M.W}(p:ar Γ E G H ((M.R.of h o).bind λa h=>(M.R.of h g).bind λb h=>f a b h) Q): ∃a b,o=y0 a/\g=y0 b/\ar Γ E G H (f a b h) Q:=by
 obtain⟨a,e,p⟩:=p.of
 obtain⟨b,i,p⟩:=p.of
 exact⟨a,b,e,i,p⟩
theorem zQ {G:Gh}{H:Hp}: ∀ {xs:List M.D}{vs:List V}{bs:List Bool},M.Kd xs=y0 bs->aa Γ G H xs vs->vs=bs.map V.bl
 | [],_,_,e,z=>by cases e;exact z
 | x::xs,_,bs,e,⟨v,r,a,d,c⟩=>by
  subst a
  cases x with
  | bl b=>
   obtain⟨f,e1,rfl⟩:=Ai9.mp (show (M.Kd xs).map (b:: ·)=y0 bs from e)
   cases (show v= .bl b from d)
   rw [zQ e1 c];rfl
  | _=>cases e
theorem x3 {G:Gh}{H:Hp}: ∀ {xs:List M.D}{vs:List V}{n:Int},M.Kc xs=y0 n->aa Γ G H xs vs-> ∃ns:List Int,vs=ns.map V.int/\n=et ns
 | [],_,_,e,z=>by cases e;exact⟨[],z,rfl⟩
 | x::xs,_,n,e,⟨v,r,c,f,d⟩=>by
  subst c
  cases x with
  | int i=>
   have e:(M.Kc xs).map (i+ ·)=y0 n:=e
   obtain⟨k,e1,rfl⟩:=Ai9.mp e
   obtain⟨ns,b,a⟩:=x3 e1 d
   cases (show v= .int i from f)
   exact⟨i::ns,by rw [b];rfl,by rw [a];rfl⟩
  | _=>cases e
theorem QU {G:Gh}{H:Hp}: ∀ {xs:List M.D}{vs:List V}{ns:List M.Tx},M.GR xs=y0 ns->aa Γ G H xs vs->vs=(ns.map aO).map V.str
 | [],_,_,e,z=>by cases e;exact z
 | x::xs,_,ns,e,⟨v,r,a,d,c⟩=>by
  subst a
  cases x with
  | str b=>
   obtain⟨f,e1,rfl⟩:=Ai9.mp (show (M.GR xs).map (b:: ·)=y0 ns from e)
   cases (show v= .str (aO b)from d)
   rw [QU e1 c];rfl
  | _=>cases e
theorem qE {G:Gh}{H:Hp}: ∀(a:List M.Tx),aa Γ G H (a.map .str) ((a.map aO).map V.str)
 | []=>rfl
 | t::a=>⟨_,_,rfl,rfl,qE a⟩
theorem nJ (x:M.Tx): ∀ {d:List M.Tx},d.Pairwise (λa b=> ¬b<a)->(M.G6 x d).Pairwise (λa b=> ¬b<a)
 | [],_=>List.pairwise_singleton _ _
 | y::d,h=>by
  have f:=Ah.mp h
  unfold M.G6
  split
  .rename_i q
   refine Ah.mpr ⟨λz e=> ?_,nJ x f.2⟩
   have:z=x\/z∈d:=by
    have g: ∀ {x:M.Tx}{d:List M.Tx},z∈M.G6 x d->z=x\/z∈d:=by
     intro x d
     induction d with
     | nil=>intro h;simp [M.G6]at h;exact .inl h
     | cons y d i=>
      intro h
      unfold M.G6 at h
      split at h
      .rcases Ab7.mp h with h | h
       .exact .inr (h▸Aa8)
       .exact(i h).imp id (Aa5 _)
      .rcases Ab7.mp h with h | h
       .exact .inl h
       .exact .inr h
    exact g e
   rcases this with rfl | e
   .exact λc=>List.lt_irrefl _ (List.lt_trans c q)
   .exact f.1 z e
  .rename_i q
   refine Ah.mpr ⟨λz e=> ?_,h⟩
   rcases Ab7.mp e with rfl | e
   .exact q
   .exact List.le_trans q (f.1 z e)
theorem Z8: ∀xs:List M.Tx,(M.GD xs).Pairwise (λa b=> ¬b<a)
 | []=> .nil
 | x::xs=>nJ x (Z8 xs)
theorem Jk (x:M.Tx): ∀ys:List M.Tx,(M.G6 x ys).Perm (x::ys)
 | []=> .refl _
 | y::ys=>by
  unfold M.G6
  by_cases q:y<x
  .rw [if_pos q]
   exact((Jk x ys).cons y).trans (.swap x y ys)
  .rw [if_neg q]
theorem Xg: ∀xs:List M.Tx,(M.GD xs).Perm xs
 | []=> .refl _
 | x::xs=>(Jk x (M.GD xs)).trans ((Xg xs).cons x)
theorem m6: ∀ {l:List Str}{p:Str},risingS p l=k9->(p::l).Pairwise (λa b=> ¬b.cps.toList<a.cps.toList)
 | [],p,_=>List.pairwise_singleton _ _
 | x::r,p,h=>by
  have h:(!ltCps x.cps.toList p.cps.toList&&risingS x r)=true:=h
  rw [Aa1,ltCps_eq]at h
  have e: ¬x.cps.toList<p.cps.toList:=by simpa using h.1
  have d:=m6 h.2
  refine Ah.mpr ⟨λz c=> ?_,d⟩
  rcases Ab7.mp c with rfl | c
  .exact e
  .exact List.le_trans e ((Ah.mp d).1 z c)
def pE (s:Str):aO s.cps.toList=s:=by cases s;simp [aO]
def vZ {d:List M.Tx}{c:List Str}(i:c.Perm (d.map aO)) (g:sortedS c=k9):c=(M.GD d).map aO:=by
 have j:(c.map λs=>s.cps.toList).Perm d:=by
  have:=i.map (λs=>s.cps.toList)
  rw [Af2]at this
  have e:((λs:Str=>s.cps.toList)∘aO)=id:=by funext t;simp [aO]
  rw [e,List.map_id]at this
  exact this
 have f:(c.map λs=>s.cps.toList).Pairwise (λa b=> ¬b<a):=by
  rw [List.pairwise_map]
  cases c with
  | nil=>exact .nil
  | cons p l=>exact m6 g
 have h:=List.Perm.eq_of_pairwise (λa b _ _ x y=>List.le_antisymm x y) f (Z8 d) (j.trans (Xg d).symm)
 rw [← h,Af2]
 have e:(aO∘λs:Str=>s.cps.toList)=id:=by funext t;exact pE t
 rw [e,List.map_id]
def AE (b:M.Bi) (hb:kr b=k9) (x:X.K=Γ.K) (F:X.calm=k9):Wn X (kM b) (lP Γ E b):=by
 intro f s Y H U u Q I r ⟨G,h,T,g,B,p⟩
 have W:=jg
 unfold M.dz at p
 split at p
 .rename_i w
  obtain⟨v,rfl,z⟩:=B.one
  cases b with
  | len=>
   simp only [M.fX]at p
   split at p
   .rename_i y e
    cases z.str e
    split at p
    .exact ZL f s Y H _ u Q I r ⟨_,rfl,by rw [wc];omega,by rw [wc];exact p.v g rfl⟩
    .exact p.elim
   .obtain⟨A,e,p⟩:=p.of
    obtain⟨a,o,rfl,k,m⟩:=z.seq g e
    refine qL f s Y H _ u Q I r ⟨a,o,rfl,x▸lz k,?_⟩
    rw [← m.length]
    exact p.v g rfl
  | int=>cases hb
  | list=>cases hb
  | tuple=>
   simp only [M.fX]at p
   obtain⟨A,e,C⟩:=p.of
   clear p
   cases w with
   | v d=>
    cases d with
    | tup D=>
     cases e
     obtain⟨a,o,rfl,k,m⟩:=z
     exact Ze f s Y H _ u Q I r ⟨a,o,rfl,.inr ⟨x▸k.sq,C.v g ⟨a,o,rfl,k,m⟩⟩⟩
    | lst D=>
     obtain⟨a,o,rfl,k,m⟩:=ah.lst g z e
     exact Ze f s Y H _ u Q I r ⟨a,o,rfl,.inl ⟨x▸k,λl t=>C.tup g m l t⟩⟩
    | ref q=>
     obtain⟨a,o,rfl,k,m⟩:=ah.lst g z e
     exact Ze f s Y H _ u Q I r ⟨a,o,rfl,.inl ⟨x▸k,λl t=>C.tup g m l t⟩⟩
    | ai=>cases e
    | bl _=>cases e
    | int _=>cases e
    | str _=>cases e
    | exc _ _=>cases e
    | err _ _ _=>cases e
   | own D=>
    obtain⟨a,o,rfl,k,m⟩:=ah.lst g z e
    exact Ze f s Y H _ u Q I r ⟨a,o,rfl,.inl ⟨x▸k,λl t=>C.tup g m l t⟩⟩
   | bor D=>
    obtain⟨a,o,rfl,k,m⟩:=ah.lst g z e
    exact Ze f s Y H _ u Q I r ⟨a,o,rfl,.inl ⟨x▸k,λl t=>C.tup g m l t⟩⟩
  | divmod=>exact p.elim
  | min=>cases hb
  | max=>cases hb
  | sum=>
   simp only [M.fX]at p
   obtain⟨n,e,p⟩:=p.of
   obtain⟨A,e1,e2⟩:=Ag9.mp e
   split at e2
   rotate_left
   .cases e2
   obtain⟨a,o,rfl,k,m⟩:=ah.lst g z e1
   obtain⟨O,rfl,rfl⟩:=x3 e2 m
   exact Z2 F f s Y H _ u Q I r ⟨a,O,rfl,x▸k,p.v g rfl⟩
  | all=>
   simp only [M.fX]at p
   obtain⟨bs,e,p⟩:=p.of
   obtain⟨A,e1,e2⟩:=Ag9.mp e
   obtain⟨a,o,rfl,k,m⟩:=ah.lst g z e1
   cases zQ e2 m
   exact J4 F f s Y H _ u Q I r ⟨a,bs,rfl,x▸k,p.v g rfl⟩
  | any=>
   simp only [M.fX]at p
   obtain⟨bs,e,p⟩:=p.of
   obtain⟨A,e1,e2⟩:=Ag9.mp e
   obtain⟨a,o,rfl,k,m⟩:=ah.lst g z e1
   cases zQ e2 m
   exact Z5 F f s Y H _ u Q I r ⟨a,bs,rfl,x▸k,p.v g rfl⟩
  | sorted=>
   simp only [M.fX]at p
   obtain⟨R,e,p⟩:=p.of
   obtain⟨A,e1,e2⟩:=Ag9.mp e
   obtain⟨a,o,rfl,k,m⟩:=ah.lst g z e1
   cases QU e2 m
   split at p
   .rename_i t
    refine jH f s Y H _ u Q I r ⟨a,R.map aO,rfl,x▸k,by rw [Aa0];exact t,λP N L l t=> ?_⟩
    rw [vZ N L]
    exact p.own g (qE _) l t
   .exact p.elim
  | str=>cases hb
  | abs=>cases hb
 .rename_i w S
  obtain⟨v,V,rfl,z,K⟩:=B.two
  obtain⟨i,j,e,J,p⟩:=p.of2
  cases z.int e
  cases K.int J
  cases b with
  | divmod=>
   simp only [M.m4,M.GA]at p
   split at p
   .rename_i c
    exact zN f s Y H _ u Q I r ⟨i,j,rfl,c,λl t=>p.tup g (vs:= [.int (i / j),.int (i % j)]) ⟨_,_,rfl,rfl,_,_,rfl,rfl,rfl⟩ l t⟩
   .exact p.elim
  | min=>cases hb
  | max=>cases hb
  | len=>exact p.elim
  | int=>cases hb
  | list=>cases hb
  | tuple=>exact p.elim
  | sum=>exact p.elim
  | all=>exact p.elim
  | any=>exact p.elim
  | sorted=>exact p.elim
  | str=>cases hb
  | abs=>cases hb
 .exact p.elim
noncomputable def ec:M.Ty->String
 | .ai=> "NoneType" | .bool=> "bool" | .int=> "int" | .str=> "str" | .list=> "list" | .tuple=> "tuple"
def Jn (K:Aa3): ∀(u t:M.Ty),t≠ .ai->Aj3 K (.type (ec u)) (.type (ec t))=y0 (M.Ty.le u t):=by
 intro u t a
 cases u<;>cases t<;>first | exact absurd rfl a | kernel_rfl
def BZ (Γ:Ge):List V->Hp->VK->Prop:=λxs H Q=> ∃G h w x t b,xs= [x,.ty (ec t)]/\t≠ .ai/\ae Γ G h H/\ah Γ G H w x/\M.cT t w=y0 b/\Q (.bl b) H
def ua (E:X.K=Γ.K):Wn X (.builtin "isinstance") (BZ Γ):=by
 intro k s Y H S R Q I r ⟨G,h,w,x,t,b,K,j,T,z,e,q⟩
 subst K
 obtain⟨u,O,rfl,g,J⟩:=hJ r
 cases J
 have fin: ∀D,EP X k Y Q (.bool b) { s with toks:=D }:=λD=>⟨.bl b,H,I.tok D,rfl,q⟩
 have lst: ∀ {a:Addr}{m:List V},x= .ref a->Rd H a (.lst m)->M.Ty.le .list t=b->wpAny (model X.prog X.w) X.A (call (.builtin "isinstance") [u,.type (ec t)]) (EP X k Y Q) X.xe s:=by
  intro a m ex rd F
  subst ex F
  rcases rd with rd | ⟨o,rd⟩
  .exact Qh I g (.lst rd) (Jn _ .list t j) fin
  .exact Qh I g (.di rd) (Jn _ .list t j) fin
 unfold M.cT at e
 cases w with
 | v d=>
  cases d with
  | ai=>cases e;cases (show x= .ai from z);exact Qh I g .ai (Jn _ .ai t j) fin
  | bl c=>cases e;cases (show x= .bl c from z);exact Qh I g (.bl c) (Jn _ .bool t j) fin
  | int i=>cases e;cases (show x= .int i from z);exact Qh I g (.int i) (Jn _ .int t j) fin
  | str y=>cases e;cases (show x= .str _ from z);exact Qh I g (.str _) (Jn _ .str t j) fin
  | tup B=>
   cases e
   obtain⟨a,m,rfl,f,L⟩:=z
   rcases f with⟨_,f⟩ | ⟨o,p,n,C,A,N,_⟩
   .exact Qh I g (.tup f) (Jn _ .tuple t j) fin
   .cases g
    exact Ac8 PySem.W.kitx_tuple I.bj ⟨o,I.bj a o (E▸C),A⟩ (Jn _ .tuple t j) (λz=>nomatch z) fin
  | lst B=>
   cases e
   obtain⟨a,m,l,f,L⟩:=z
   rcases f with f | ⟨o,p,n,C,A,N,_⟩
   .exact lst l f.2 rfl
   .subst l
    cases g
    exact Ac8 Ak4 I.bj ⟨o,I.bj a o (E▸C),A⟩ (Jn _ .list t j) (λz=>nomatch z) fin
  | ref P=>cases e
  | exc c fs=>cases e
  | err _ _ _=>cases e
 | own B=>cases e;obtain⟨a,m,l,_,_,f,_⟩:=z;exact lst l (.inl f) rfl
 | bor B=>cases e;obtain⟨a,m,l,_,f,_⟩:=z;exact lst l f rfl
def jU (m:X.K=Γ.K) (p:ae Γ G h H){w:M.W}{x:V}{b:Bool}(z:ah Γ G H w x) (e:M.GV h w=y0 b):gE X.K x H b:=by
 have lst: ∀ {a:Addr}{f:List V}{g:List M.D},x= .ref a->aY X.K H a f->aa Γ G H g f->(!g.isEmpty)=b->gE X.K x H b:=by
  intro a f g ex rd j n
  subst ex n
  refine .inl ⟨f,rd,?_⟩
  cases g with
  | nil=>cases (show f= []from j);rfl
  | cons _ _=>obtain⟨_,_,rfl,_⟩:=j;rfl
 cases w with
 | v d=>
  cases d with
  | ai=>cases e;cases (show x= .ai from z);exact rfl
  | bl _=>cases e;cases (show x= .bl _ from z);exact rfl
  | int _=>cases e;cases (show x= .int _ from z);exact rfl
  | str y=>
   cases (show x= .str _ from z)
   have e:(if y.length<=M.aX then y0 (!y.isEmpty)else u0)=y0 b:=e
   split at e
   .rename_i c
    cases e
    refine⟨by rw [wc];have:=jg;omega,?_⟩
    rw [wc]
    cases y with
    | nil=>rfl
    | cons a r=>
     have:((((a::r).length:Nat):Int) != 0)=true:=by
      rw [Ab0,bne_iff_ne];omega
     rw [this];rfl
   .cases e
  | tup g=>
   cases e
   obtain⟨a,f,rfl,i,j⟩:=z
   refine .inr (.inl ⟨f,m▸i.sq,?_⟩)
   cases g with
   | nil=>cases (show f= []from j);rfl
   | cons _ _=>obtain⟨_,_,rfl,_⟩:=j;rfl
  | lst g=>cases e;obtain⟨a,f,k,i,l⟩:=z;exact lst k (m▸i.sq) l rfl
  | ref o=>cases e
  | exc c fs=>cases e
  | err _ _ _=>cases e
 | own g=>cases e;obtain⟨a,f,k,_,_,i,l⟩:=z;exact lst k (aY.of i) l rfl
 | bor g=>cases e;obtain⟨a,f,k,_,i,l⟩:=z;exact lst k (.inl i) l rfl
end
abbrev Xb (x:String):Str:=Str.ofString x
example:("len" :Str)=Xb "len" :=rfl
structure iP where
 fl:List (String×String)
 mt:List (String×String×String)
 dw:List (String×String)
 ms:List String
 er:List (String×String)
structure Cg where
 fns:List String
 own:List String
 d5:List String
 dX:List String
 ob:iP
 cb:Bool
 qf:List String
structure Cf extends Cg where
 sc:Scope
 N:List Str
def Cg.q (g:Cg):Cg:=⟨g.qf,g.own,[],[],⟨g.ob.fl,[],[],[],[]⟩,y9,[]⟩
def Cg.z (g:Cg):Cg:=⟨[],g.own,[],[],⟨g.ob.fl,[],[],[],[]⟩,y9,[]⟩
noncomputable def JX (a:Scope) (x:Str):Bool:=match a.names.lookup x with
 | some .local=>k9
 | some .cell=>k9
 | some .free=>k9
 | _=>y9
def fZ (a:Scope) (x:Str):Bool:=match a.names.lookup x with
 | some .globalImplicit=>k9
 | _=>y9
def gC (a:Scope) (x:Str):Bool:=match a.names.lookup x with
 | some .local=>k9
 | some .cell=>k9
 | _=>y9
def ck (x:Str):Bool:= !(x==("__debug__" :Str))&& !(x==("__classdict__" :Str))
noncomputable def iJ:M.Bi->String
 | .len=> "len" | .int=> "int" | .list=> "list" | .tuple=> "tuple" | .sum=> "sum" | .all=> "all" | .any=> "any" | .sorted=> "sorted" | .divmod=> "divmod" | .str=> "str" | .min=> "min" | .max=> "max" | .abs=> "abs"
noncomputable def bP:List String:= ["len", "int", "list", "tuple", "sum", "all", "any", "sorted", "divmod", "str", "min", "max", "abs", "isinstance", "bool", "range", "reversed", "zip", "enumerate", "set", "dict", "ValueError"]
def J0:Expr->Str->Bool
 | .Name y _,x=>y==x
 | _,_=>y9
def bC (a:Scope) (x:String) (e:Expr):Bool:=J0 e (Xb x)&&fZ a (Xb x)&&ck (Xb x)
def j4:Expr->Bool
 | .Call _ [] _ _=>y9
 | _=>k9
noncomputable def zx (cf:Cf):List String->List Expr->Bool
 | [],[]=>k9
 | t::a,e::es=>bC cf.sc t e&&cf.own.contains t&&zx cf a es
 | _,_=>y9
noncomputable def jp (cf:Cf):List Nat->List Expr->Bool
 | [],[]=>k9
 | i::is,.Name x _::es=>u9 (cf.N[i]? =y0 x)&&gC cf.sc x&&jp cf is es
 | _,_=>y9
def ke (cf:Cf) (x:String) (e:Expr):Bool:=cf.cb&&bC cf.sc x e
def iN (cf:Cf) (is:List Nat) (es:List Expr):Bool:=cf.cb&&jp cf is es
def Jd (cf:Cf) (tg:List Nat) (one:Bool) (e:Expr):Bool:=match one,e with
 | true,.Name x p=>(match tg with | [_]=>k9 | _=>y9)&&jp cf tg [.Name x p]
 | false,.Tuple es _ _=>iN cf tg es
 | _,_=>y9
def xa:Expr->Bool
 | .Starred .. =>y9
 | _=>k9
def Xd:Expr->Bool
 | .Slice .. =>y9
 | _=>k9
def Xe:Expr->Bool
 | .Set .. =>y9
 | _=>k9
noncomputable def qu (cf:Cf):List Nat->List Str->Bool
 | [],[]=>k9
 | j::a,x::xs=>u9 (cf.N[j]? =y0 x)&&u9 (cf.sc.names.lookup x=y0 .cell\/cf.sc.names.lookup x=y0 .free)&&qu cf a xs
 | _,_=>y9
def WN (cf:Cf) (a:Scope) (N:List Str) (k:Nat) (b:List Nat):Bool:=
 cf.cb&&u9 (a.kind= .function)&&u9 (a.names.map Prod.fst).Nodup&&a.names.all (λy=>u9 (y.2= .local->a.names.lookup y.1=y0 .local))&&
 a.names.all (λy=>u9 (y.2= .free->cf.sc.names.lookup y.1=y0 .cell\/cf.sc.names.lookup y.1=y0 .free))&&(N.drop k).all (λx=>u9 (a.names.lookup x=y0 .free))&&
 qu cf b (N.drop k)&&u9 (k<=N.length)&&decide N.Nodup&&decide b.Nodup
def uo:Expr->List Str
 | .Name x _=> [x]
 | .Tuple es _ _=>es.filterMap λ| .Name x _=>y0 x | _=>u0
 | _=> []
def jm (cf:Cf) (t:Expr) (a:List Nat):List Str:=uo t++a.filterMap λj=>cf.N[j]?
def eh:M.E->Bool
 | .share _=>y9
 | .not a=>eh a
 | .and a b=>eh a&&eh b
 | .or a b=>eh a&&eh b
 | _=>k9
def ba {P:Prop}(h:y9=k9):P:=nomatch h
set_option backward.match.sparseCases false
def lC {a:Type}(l:List a) (f:a->List a->Bool):Bool:=match l with
 | x::r=>f x r
 | _=>y9
def oS {a:Type}(l:Option a) (f:a->Bool):Bool:=match l with
 | some x=>f x
 | _=>y9
@[elab_as_elim] theorem kC {a:Type}{f:a->List a->Bool}{P:List a->Prop}(k: ∀x r,f x r=k9->P (x::r)): ∀l,lC l f=k9->P l:=by rintro (_|_)<;>first | exact ba | exact k _ _
@[elab_as_elim] theorem kS {a:Type}{f:a->Bool}{P:Option a->Prop}(k: ∀x,f x=k9->P (y0 x)): ∀l,oS l f=k9->P l:=by rintro (_|_)<;>first | exact ba | exact k _
def Jq (e:Expr) (f:Str->Bool):Bool:=match e with
 | .Name x _=>f x
 | _=>y9
@[elab_as_elim] theorem Qq {f:Str->Bool}{P:Expr->Prop}(k: ∀x p,f x=k9->P (.Name x p)): ∀e,Jq e f=k9->P e:=by rintro (_|_)<;>first | exact ba | exact k _ _
def Qs (e:Expr) (f:Const->Bool):Bool:=match e with
 | .Constant x _ _=>f x
 | _=>y9
@[elab_as_elim] theorem xu {f:Const->Bool}{P:Expr->Prop}(k: ∀x n p,f x=k9->P (.Constant x n p)): ∀e,Qs e f=k9->P e:=by rintro (_|_)<;>first | exact ba | exact k _ _ _
def hO (e:Expr) (f:List Expr->Bool):Bool:=match e with
 | .Tuple x _ _=>f x
 | _=>y9
@[elab_as_elim] theorem kf {f:List Expr->Bool}{P:Expr->Prop}(k: ∀x n p,f x=k9->P (.Tuple x n p)): ∀e,hO e f=k9->P e:=by rintro (_|_)<;>first | exact ba | exact k _ _ _
def my (e:Expr) (f:List Expr->Bool):Bool:=match e with
 | .List x _=>f x
 | _=>y9
@[elab_as_elim] theorem rM {f:List Expr->Bool}{P:Expr->Prop}(k: ∀x p,f x=k9->P (.List x p)): ∀e,my e f=k9->P e:=by rintro (_|_)<;>first | exact ba | exact k _ _
def ph (e:Expr) (f:Expr->Operator->Expr->Bool):Bool:=match e with
 | .BinOp x o y _=>f x o y
 | _=>y9
@[elab_as_elim] theorem tW {f:Expr->Operator->Expr->Bool}{P:Expr->Prop}(k: ∀x o y p,f x o y=k9->P (.BinOp x o y p)): ∀e,ph e f=k9->P e:=by rintro (_|_)<;>first | exact ba | exact k _ _ _ _
def kA (e:Expr) (f:Expr->List CmpOp->List Expr->Bool):Bool:=match e with
 | .Compare x o y _=>f x o y
 | _=>y9
@[elab_as_elim] theorem l4 {f:Expr->List CmpOp->List Expr->Bool}{P:Expr->Prop}(k: ∀x o y p,f x o y=k9->P (.Compare x o y p)): ∀e,kA e f=k9->P e:=by rintro (_|_)<;>first | exact ba | exact k _ _ _ _
def mi (e:Expr) (f:UnaryOp->Expr->Bool):Bool:=match e with
 | .UnaryOp o x _=>f o x
 | _=>y9
@[elab_as_elim] theorem nB {f:UnaryOp->Expr->Bool}{P:Expr->Prop}(k: ∀o x p,f o x=k9->P (.UnaryOp o x p)): ∀e,mi e f=k9->P e:=by rintro (_|_)<;>first | exact ba | exact k _ _ _
def lQ (e:Expr) (f:BoolOp->List Expr->Pos->Bool):Bool:=match e with
 | .BoolOp o x p=>f o x p
 | _=>y9
@[elab_as_elim] theorem nv {f:BoolOp->List Expr->Pos->Bool}{P:Expr->Prop}(k: ∀o x p,f o x p=k9->P (.BoolOp o x p)): ∀e,lQ e f=k9->P e:=by rintro (_|_)<;>first | exact ba | exact k _ _ _
def Xi (e:Expr) (f:Expr->List Expr->List Keyword->Pos->Bool):Bool:=match e with
 | .Call g x l p=>f g x l p
 | _=>y9
@[elab_as_elim] theorem Wi {f:Expr->List Expr->List Keyword->Pos->Bool}{P:Expr->Prop}(k: ∀g x l p,f g x l p=k9->P (.Call g x l p)): ∀e,Xi e f=k9->P e:=by rintro (_|_)<;>first | exact ba | exact k _ _ _ _
def gd (e:Expr) (f:Expr->Expr->Bool):Bool:=match e with
 | .Subscript x y _=>f x y
 | _=>y9
@[elab_as_elim] theorem g7 {f:Expr->Expr->Bool}{P:Expr->Prop}(k: ∀x y p,f x y=k9->P (.Subscript x y p)): ∀e,gd e f=k9->P e:=by rintro (_|_)<;>first | exact ba | exact k _ _ _
def mf (e:Expr) (f:Option Expr->Option Expr->Option Expr->Bool):Bool:=match e with
 | .Slice x y z _=>f x y z
 | _=>y9
@[elab_as_elim] theorem o5 {f:Option Expr->Option Expr->Option Expr->Bool}{P:Expr->Prop}(k: ∀x y z p,f x y z=k9->P (.Slice x y z p)): ∀e,mf e f=k9->P e:=by rintro (_|_)<;>first | exact ba | exact k _ _ _ _
def mY (e:Expr) (f:Expr->List Comprehension->Scope->Bool):Bool:=match e with
 | .ListComp y g s _=>f y g s
 | _=>y9
@[elab_as_elim] theorem mM {f:Expr->List Comprehension->Scope->Bool}{P:Expr->Prop}(k: ∀y g s p,f y g s=k9->P (.ListComp y g s p)): ∀e,mY e f=k9->P e:=by rintro (_|_)<;>first | exact ba | exact k _ _ _ _
def Zy (e:Expr) (f:Expr->Str->Pos->Bool):Bool:=match e with
 | .Attribute x n p=>f x n p
 | _=>y9
@[elab_as_elim] theorem zC {f:Expr->Str->Pos->Bool}{P:Expr->Prop}(k: ∀x n p,f x n p=k9->P (.Attribute x n p)): ∀e,Zy e f=k9->P e:=by rintro (_|_)<;>first | exact ba | exact k _ _ _
def w6 (e:Stmt) (f:List Expr->Expr->Bool):Bool:=match e with
 | .Assign t v _=>f t v
 | _=>y9
@[elab_as_elim] theorem eA {f:List Expr->Expr->Bool}{P:Stmt->Prop}(k: ∀t v p,f t v=k9->P (.Assign t v p)): ∀e,w6 e f=k9->P e:=by rintro (_|_)<;>first | exact ba | exact k _ _ _
def g0 (e:Stmt) (f:Expr->Bool):Bool:=match e with
 | .Expr v _=>f v
 | _=>y9
@[elab_as_elim] theorem ip {f:Expr->Bool}{P:Stmt->Prop}(k: ∀v p,f v=k9->P (.Expr v p)): ∀e,g0 e f=k9->P e:=by rintro (_|_)<;>first | exact ba | exact k _ _
def nH (e:Stmt) (f:Option Expr->Bool):Bool:=match e with
 | .Return v _=>f v
 | _=>y9
@[elab_as_elim] theorem pU {f:Option Expr->Bool}{P:Stmt->Prop}(k: ∀v p,f v=k9->P (.Return v p)): ∀e,nH e f=k9->P e:=by rintro (_|_)<;>first | exact ba | exact k _ _
def lM (e:Stmt) (f:Expr->List Stmt->List Stmt->Bool):Bool:=match e with
 | .If x y z _=>f x y z
 | _=>y9
@[elab_as_elim] theorem ng {f:Expr->List Stmt->List Stmt->Bool}{P:Stmt->Prop}(k: ∀x y z p,f x y z=k9->P (.If x y z p)): ∀e,lM e f=k9->P e:=by rintro (_|_)<;>first | exact ba | exact k _ _ _ _
def oJ (e:Stmt) (f:Expr->Expr->List Stmt->List Stmt->Bool):Bool:=match e with
 | .For t i y z _=>f t i y z
 | _=>y9
@[elab_as_elim] theorem yi {f:Expr->Expr->List Stmt->List Stmt->Bool}{P:Stmt->Prop}(k: ∀t i y z p,f t i y z=k9->P (.For t i y z p)): ∀e,oJ e f=k9->P e:=by rintro (_|_)<;>first | exact ba | exact k _ _ _ _ _
def kN (e:Stmt) (f:Option Expr->Option Expr->Bool):Bool:=match e with
 | .Raise x y _=>f x y
 | _=>y9
@[elab_as_elim] theorem mS {f:Option Expr->Option Expr->Bool}{P:Stmt->Prop}(k: ∀x y p,f x y=k9->P (.Raise x y p)): ∀e,kN e f=k9->P e:=by rintro (_|_)<;>first | exact ba | exact k _ _ _
set_option backward.match.sparseCases true
def vB (cf:Cf) (i:Nat) (x:Str):Bool:=u9 (cf.N[i]? =y0 x)&&JX cf.sc x&&ck x
def kZ {a:Type}(l:List a) (b:Bool):Bool:=l.isEmpty&&b
noncomputable def oT (e:Stmt) (f:List Stmt->List ExceptHandler->Bool):Bool:=match e with
 | .Try a b c d _=>kZ c (kZ d (f a b))
 | _=>y9
noncomputable def nN (e:ExceptHandler) (f:Option Expr->Option Str->List Stmt->Bool):Bool:=match e with
 | .ExceptHandler a b c _=>f a b c
mutual
noncomputable def Zb (cf:Cf):M.E->Expr->Bool
 | .var i,e=>Jq e (vB cf i)
 | .con c,e=>bC cf.sc c e
 | .int i,e=>Qs e λj=>u9 (j= .int i)
 | .bl i,e=>Qs e λj=>u9 (j= .bool i)
 | .ai,e=>Qs e λj=>u9 (j= .none)
 | .str i,e=>Qs e λj=>u9 (j= .str (aO i))
 | .tup es,e=>hO e λxs=>u9 (xs.length<=1000)&&aV cf es xs
 | .lst es,e=>my e λxs=>u9 (xs.length<=1000)&&aV cf es xs
 | .bin o a b,e=>ph e λx p y=>u9 (p=i6 o)&&kB o&&Zb cf a x&&Zb cf b y
 | .cmp o a b,e=>kA e λx p y=>lC y λy r=>u9 (p= [dU o]/\r= [])&&Jy o&&Xe y&&Zb cf a x&&Zb cf b y
 | .chain o q a b c,e=>kA e λx p y=>lC y λy r=>lC r λz r=>u9 (p= [dU o,dU q]/\r= [])&&Jy o&&Jy q&&Xe z&&Zb cf a x&&Zb cf b y&&Zb cf c z
 | .dZ neg a,e=>kA e λx p y=>lC y λy r=>Qs y λj=>u9 (p= [if neg then .IsNot else .Is]/\r= [])&&u9 (j= .none)&&Zb cf a x
 | .neg a,e=>mi e λo x=>u9 (o= .USub)&&Zb cf a x
 | .not a,e=>mi e λo x=>u9 (o= .Not)&&Zb cf a x
 | .and a b,e=>lQ e λo x p=>lC x λx r=>lC r λy r=>u9 (o= .And)&&Zb cf a x&&bif r.isEmpty then Zb cf b y else Zb cf b (.BoolOp .And (y::r) p)
 | .or a b,e=>lQ e λo x p=>lC x λx r=>lC r λy r=>u9 (o= .Or)&&Zb cf a x&&bif r.isEmpty then Zb cf b y else Zb cf b (.BoolOp .Or (y::r) p)
 | .call f es,e=>Xi e λg xs l _=>kZ l (bC cf.sc f g&&cf.fns.contains f&&aV cf es xs)
 | .bi b es,e=>Xi e λg xs l _=>kZ l (lC xs λx r=>ke cf (iJ b) g&&kr b&&aV cf es (x::r))
 | .cT a t,e=>Xi e λg xs l _=>kZ l (lC xs λx r=>lC r λy r=>kZ r (bC cf.sc "isinstance" g&&bC cf.sc (ec t) y&&decide (t≠ .ai)&&xa x&&Zb cf a x))
 | .bc a one ts,e=>Xi e fun g xs l _=>kZ l (lC xs fun x r=>lC r fun y r=>kZ r (bC cf.sc "isinstance" g&&xa x&&Zb cf a x&&bif one then(lC ts fun t r=>kZ r (bC cf.sc t y&&(decide (t= "ValueError")||cf.own.contains t)))else(hO y fun zs=>decide (zs.length<=1000)&&zx cf ts zs)))
 | .ix a b,e=>gd e λx y=>Xd y&&Zb cf a x&&Zb cf b y
 | .dG a lo,e=>gd e λx y=>mf y λl u z=>oS l λl=>u.isNone&&z.isNone&&Zb cf a x&&Zb cf lo l
 | .d7 a hi,e=>gd e λx y=>mf y λl u z=>oS u λu=>l.isNone&&z.isNone&&Zb cf a x&&Zb cf hi u
 | .comp tg one k bI it k6 c elt,e=>mY e λy g scope=>lC g λg r=>
  u9 (g.is_async=0/\r= [])&&WN cf scope (jm cf g.target bI) k bI&&tg.all (λi=>u9 (i<k))&&Jd { cf with sc:=scope,N:=jm cf g.target bI } tg one g.target&&cZ cf it g.iter&&Zb { cf with sc:=scope,N:=jm cf g.target bI } elt y&&
   bif k6 then(lC g.ifs λz r=>kZ r (eh c&&Zb { cf with sc:=scope,N:=jm cf g.target bI } c z))else g.ifs.isEmpty
 | .share a,e=>Zb cf a e
 | .bx a,e=>Xi e λg xs l _=>kZ l (lC xs λx r=>kZ r (Xi x λg2 xs l _=>kZ l (lC xs λx r=>kZ r (ke cf "list" g&&bC cf.sc "range" g2&&xa x&&Zb cf a x))))
 | .gb s ts,e=>Xi e λg xs l q=>kZ l (lC xs λx r=>kZ r (Zy g λo n p=>Qs o λc=>Qs x λc2=>decide (n=Xb "split")&&decide (c= .str (aO s))&&decide (c2= .str bA)&&(p.endLine==q.line)&&kn (aO s) (ts.map aO)))
 | .xf i f,e=>Zy e λx n _=>Jq x λx=>vB cf i x&&u9 (n=Xb f)
 | .make c q es,e=>Xi e λg ys l _=>kZ l (lC ys λx r=>bC cf.sc c g&&cf.ob.dw.contains (c,q)&&aV cf es (x::r))
 | .aU a c f,e=>Zy e λx n _=>u9 (n=Xb f)&&cf.ob.fl.contains (c,f)&&j4 x&&Zb cf a x
 | .cG a c m q es,e=>Xi e λg ys l s=>kZ l (Zy g λx n p=>u9 (n=Xb m)&&cf.ob.mt.contains (c,m,q)&&(p.endLine==s.line)&&u9 (ys.length<=20)&&j4 x&&Zb cf a x&&lC ys λy r=>aV cf es (y::r))
noncomputable def aV (cf:Cf):M.Es->List Expr->Bool
 | .nil,xs=>xs.isEmpty
 | .cons e es,xs=>lC xs λx xs=>xa x&&Zb cf e x&&aV cf es xs
noncomputable def cZ (cf:Cf):M.It->Expr->Bool
 | .seq a,e=>Xe e&&Zb cf a e
 | .aB a,e=>Xi e λg xs l _=>kZ l (lC xs λx r=>kZ r (bC cf.sc "range" g&&xa x&&Zb cf a x))
 | .enum _,_=>y9
 | .bO _,_=>y9
end
def Xr:Expr->Bool
 | .ListComp .. =>y9
 | .SetComp .. =>y9
 | .DictComp .. =>y9
 | _=>k9
def wg:Expr->Bool
 | .Tuple .. =>y9
 | _=>k9
def JG (cf:Cf) (i:Nat) (x:Str):Bool:=u9 (cf.N[i]? =y0 x)&&u9 (cf.sc.names.lookup x=y0 .local)
def Ws (cf:Cf) (i:Nat) (x:Str):Bool:=u9 (cf.N[i]? =y0 x)&&gC cf.sc x
def JL (cf:Cf) (i:Nat) (m:Str) (e:Expr) (a:Pos):Bool:=Zy e λx n p=>Jq x λx=>vB cf i x&&u9 (n=m)&&(p.endLine==a.line)
def l3 (cf:Cf):M.It->Expr->Bool
 | .seq a,e=>Xe e&&Zb cf a e
 | .aB a,e=>cZ cf (.aB a) e
 | .bO a,e=>Xi e λg xs l _=>kZ l (lC xs λx r=>kZ r (bC cf.sc "enumerate" g&&xa x&&Zb cf a x))
 | .enum a,e=>Xi e λg xs l _=>kZ l (lC xs λx r=>kZ r (bC cf.sc "enumerate" g&&xa x&&Zb cf a x))
def kR:M.It->Expr->Bool
 | .enum _,e=> !wg e
 | .bO _,e=> !wg e
 | _,_=>k9
def B7:Expr->Bool
 | .Name _ _=>k9
 | .Subscript _ _ _=>k9
 | _=>y9
noncomputable def mx (cf:Cf) (f:String) (s:Stmt) (q:List Expr->Bool):Bool:=g0 s λe=>Xi e λg xs l _=>kZ l (lC xs λx r=>bC cf.sc f g&&cf.fns.contains f&&q (x::r))
noncomputable def nF (cf:Cf) (i:Nat) (f:String) (c:List Stmt) (q:List Expr->Bool):Bool:=lC c λs r=>kZ r (w6 s λb e=>lC b λt r=>kZ r (Jq t λa=>Xi e λg xs l _=>kZ l (lC xs λx r=>JG cf i a&&bC cf.sc f g&&cf.fns.contains f&&q (x::r))))
def W2 (cf:Cf):M.Tb->List Stmt->Bool
 | .ex f es,ys=>lC ys λs r=>kZ r (mx cf f s (λxs=>aV cf es xs))
 | .sv i f es,ys=>nF cf i f ys (λxs=>aV cf es xs)
 | .iff c a b,ys=>lC ys λs r=>kZ r (lM s λt y z=>eh c&&Zb cf c t&&W2 cf a y&&W2 cf b z)
def oR (cf:Cf) (c:String) (nm:Nat) (a:List ExceptHandler) (q:List Stmt->Bool):Bool:=lC a λx r=>kZ r (nN x λw n b=>oS w λw=>oS n λn=>bC cf.sc c w&&cf.dX.contains c&&JG cf nm n&& !b.isEmpty&&q b)
mutual
noncomputable def nC (cf:Cf):M.S->Stmt->Bool
 | .set i e,st=>w6 st λts v=>lC ts λt r=>Jq t λx=>kZ r (Ws cf i x&&Zb cf e v)
 | .av i e,st=>w6 st λts v=>lC ts λt r=>Jq t λx=>kZ r (Ws cf i x&&Zb cf e v)
 | .eV is e,st=>w6 st λts v=>lC ts λt r=>hO t λts=>kZ r (iN cf is ts&&wg v&&Zb cf e v)
 | .eg o kx j e,st=>w6 st λts v=>lC ts λt r=>kZ r (hO t λts=>lC ts λt1 r=>lC r λt2 r=>kZ r (gd t1 λx y=>Jq t2 λa=>Xd y&&wg v&&(cf.cb&&Ws cf j a)&&Zb cf o x&&(Zb cf kx y&&Zb cf e v)))
 | .b4 o kx e,st=>w6 st λts v=>lC ts λt r=>gd t λx y=>kZ r (Xd y&&wg v&&Xr v&&Zb cf o x&&Zb cf kx y&&Zb cf e v)
 | .app i e,st=>g0 st λc=>Xi c λf xs l p=>kZ l (lC xs λv r=>kZ r (JL cf i "append" f p&&xa v&&Zb cf e v))
 | .ext i e,st=>g0 st λc=>Xi c λf xs l p=>kZ l (lC xs λv r=>kZ r (JL cf i "extend" f p&&xa v&&Zb cf e v))
 | .bB i c f e,st=>w6 st λts v=>lC ts λt r=>Zy t λx n _=>Jq x λx=>kZ r (vB cf i x&&(u9 (n=Xb f)&&cf.ob.fl.contains (c,f)&&Zb cf e v))
 | .c5 i kx e,st=>w6 st λts v=>lC ts λt r=>gd t λx y=>Jq x λx=>kZ r (vB cf i x&&Xd y&&Zb cf kx y&&Zb cf e v)
 | .dY a e,st=>g0 st λc=>Xi c λf xs l p=>kZ l (lC xs λv r=>kZ r (Zy f λx n q=>u9 (n= "append")&&(q.endLine==p.line)&&xa v&&Zb cf a x&&(Zb cf e v&&B7 x)))
 | .ex e,st=>g0 st λv=>Xr v&&Zb cf e v
 | .ret e,st=>nH st λv=>oS v λv=>Zb cf e v
 | .iff c a b,st=>lM st λx ys zs=>eh c&&Zb cf c x&&cc cf a ys&&cc cf b zs
 | .for tg one it b,st=>oJ st λt iter ys zs=>kZ zs ((cf.cb&&kR it t)&&Jd cf tg one t&&l3 cf it iter&&cc cf b ys)
 | .cN c f e,st=>kN st λa b=>oS a λa=>Xi a λg xs l _=>kZ l (lC xs λx r=>kZ r (b.isNone&&bC cf.sc c g&&(cf.cb&&cf.ob.er.contains (c,f))&&aV cf (.cons e .nil) [x]))
 | .raise c es,st=>kN st λa b=>oS a λa=>Xi a λg xs l _=>kZ l (lC xs λx r=>b.isNone&&bC cf.sc c g&&(cf.cb&&cf.d5.contains c)&&u9 ((x::r).length<=1000)&&aV cf es (x::r))
 | .dJ b c nm hb,st=>oT st λy hs=>W2 cf b y&&oR cf c nm hs (λz=>cc { cf with toCg:=cf.toCg.q } hb z)
 | .bf i c f e,st=>w6 st λts v=>lC ts λt r=>Zy t λx n _=>Jq x λx=>kZ r (vB cf i x&&u9 (n=Xb f)&&cf.ob.fl.contains (c,f)&&Zb cf e v)
 | .aS,_=>k9
noncomputable def cc (cf:Cf):M.Ss->List Stmt->Bool
 | .nil,sts=>sts.isEmpty
 | .cons s ss,sts=>lC sts λst sts=>nC cf s st&&cc cf ss sts
end
structure pj (X:Cx) (k:Nat) (x:Str) (ps:List Str) (sp:Sp):Prop where
 ex: ∃f fd,aW X.prog X.w X.K X.mg X.base (bJ X.prog X.w) k f fd ps sp/\Binds X.K fd ps []/\Ae3 X.K (.ref f)=k9/\X.mg x=y0 (.ref f)
def ki:M.W->Bool
 | .own _=>y9
 | _=>k9
def eI (Γ:Ge) (m:List M.W->M.AH->M.R M.W):Sp:=λb H Q E=> ∃G h a,ae Γ G h H/\aP Γ G H a b/\(∀ w∈a,ki w=k9)/\ar Γ E G H (m a h) Q
structure Go (Γ:Ge) (F:M.Fx) (X:Cx) (E:XK) (k:Nat) (cf:Cf):Prop where
 N:X.N=cf.N
 K:X.K=Γ.K
 cl:F.cl=Γ.cl
 ow:cf.own=Γ.own
 nd:cf.N.Nodup
 ef: ∀x,JX cf.sc x=k9->gw X.env.scope x
 f7: ∀x,cf.sc.names.lookup x=y0 .local->X.env.scope.names.lookup x=y0 .local
 eF: ∀x,gC cf.sc x=k9->hI X.env.scope x/\(X.fn x=k9\/X.env.scope.names.lookup x=y0 .local)
 gL: ∀x,(cf.sc.names.lookup x=y0 .cell\/cf.sc.names.lookup x=y0 .free)->X.env.kindOf x=y0 .cell\/X.env.kindOf x=y0 .free
 gl: ∀x,fZ cf.sc x=k9->Gl X x
 calm:cf.cb=k9->X.calm=k9
 room:aR k X.A
 bL:aR (k+1) X.A
 pass:Xs (bJ X.prog X.w) X E
 blt: ∀x,x∈bP->X.mg (Xb x)=u0
 con: ∀x d,F.con.lookup x=y0 d-> ∃u v,X.mg (Xb x)=y0 u/\RelV v u/\ ∀G H,ao Γ G H d v
 fn: ∀f,cf.fns.contains f=k9-> ∃ps,pj X k (Xb f) ps (eI Γ (F.call f))
 gP: ∀f,cf.qf.contains f=k9-> ∃ps,pj X 2 (Xb f) ps (eI Γ (F.call f))
 cls: ∀c,cf.own.contains c=k9->X.mg (Xb c)=y0 (.ref (Γ.ca c))
 fld: ∀c f,cf.ob.fl.contains (c,f)=k9->cu X.K (Γ.ca c)/\bH X.K (Γ.ca c) (Xb f)
 fT: ∀c m q,cf.ob.mt.contains (c,m,q)=k9->cu X.K (Γ.ca c)/\ ∃fa fd ps,kl X.K (Γ.ca c) (Xb m) fa/\aW X.prog X.w X.K X.mg X.base (bJ X.prog X.w) k fa fd ps (eI Γ (F.call q))/\Binds X.K fd ps []
 dw: ∀c q,cf.ob.dw.contains (c,q)=k9->X.mg (Xb c)=y0 (.ref (Γ.ca c))/\ ∃fa fd ps,Mk X.K (Γ.ca c) fa/\aW X.prog X.w X.K X.mg X.base (bJ X.prog X.w) k fa fd ps (eI Γ (F.call q))/\Binds X.K fd ps []
@[elab_as_elim] theorem kE {a:Type}{b:Bool}{P:List a->Prop}(k:b=k9->P []): ∀l,kZ l b=k9->P l:=by rintro (_|_)<;>first | exact ba | exact k
@[elab_as_elim] theorem rl {f:List Stmt->List ExceptHandler->Bool}{P:Stmt->Prop}(k: ∀a b p,f a b=k9->P (.Try a b [] [] p)): ∀e,oT e f=k9->P e:=by
 rintro (_|_)<;>first | exact ba | exact λh=>kE (λh=>kE (λh=>k _ _ _ h) _ h) _ h
@[elab_as_elim] theorem rj {f:Option Expr->Option Str->List Stmt->Bool}{P:ExceptHandler->Prop}(k: ∀a b c p,f a b c=k9->P (.ExceptHandler a b c p)): ∀e,nN e f=k9->P e
 | .ExceptHandler _ _ _ _,h=>k _ _ _ _ h
def a2 {a b:Bool}(h:(a&&b)=k9):a=k9/\b=true:=Bool.and_eq_true_iff.mp h
def a3 {a b c:Bool}(h:(a&&b&&c)=k9):a=k9/\b=k9/\c=true:=⟨(a2 (a2 h).1).1,(a2 (a2 h).1).2,(a2 h).2⟩
def a4 {a b c d:Bool}(h:(a&&b&&c&&d)=k9):a=k9/\b=k9/\c=k9/\d=true:=⟨(a3 (a2 h).1).1,(a3 (a2 h).1).2.1,(a3 (a2 h).1).2.2,(a2 h).2⟩
def a5 {a b c d e:Bool}(h:(a&&b&&c&&d&&e)=k9):a=k9/\b=k9/\c=k9/\d=k9/\e=true:=⟨(a2 (a4 h).1).1,(a2 (a4 h).1).2,(a4 h).2⟩
def a6 {a b c d e f:Bool}(h:(a&&b&&c&&d&&e&&f)=k9):a=k9/\b=k9/\c=k9/\d=k9/\e=k9/\f=true:=⟨(a2 (a5 h).1).1,(a2 (a5 h).1).2,(a5 h).2⟩
def a7 {a b c d e f g:Bool}(h:(a&&b&&c&&d&&e&&f&&g)=k9):a=k9/\b=k9/\c=k9/\d=k9/\e=k9/\f=k9/\g=true:=⟨(a2 (a6 h).1).1,(a2 (a6 h).1).2,(a6 h).2⟩
def nn {a:Type}{o:Option a}(h:o.isNone=k9):o=none:=Ae5.mp h
def gk {cf:Cf}{i:Nat}{x:Str}(h:vB cf i x=k9):cf.N[i]? =y0 x/\JX cf.sc x=k9/\ck x=true:=⟨of_decide_eq_true (a3 h).1,(a3 h).2⟩
def Wa {c:Scope}{x:String}{e:Expr}(h:bC c x e=true): ∃p,e= .Name (Xb x) p/\fZ c (Xb x)=true/\(Xb x==("__debug__" :Str))=false:=by
 unfold bC at h
 rw [Aa1,Aa1]at h
 obtain⟨⟨b,d⟩,a⟩:=h
 unfold ck at a
 rw [Aa1]at a
 cases e with
 | Name y p=>
  have:y=Xb x:=by simpa [J0]using b
  subst this
  exact⟨p,rfl,d,by simpa using a.1⟩
 | _=>simp [J0]at b
def Xl {x:String}(h:x∈bP):Xb x≠("__name__" :Str):=by
 have:(bP.all λx=>decide (Xb x≠("__name__" :Str)))=true:=by decide +kernel
 exact of_decide_eq_true (Ag8.mp this x h)
section
variable {Γ:Ge}{F:M.Fx}{X:Cx}{E:XK}{k:Nat}{cf:Cf}
section
variable {G:Gh}{H:Hp}{h:M.AH}{U:M.Sl}{Y:St}{Q:VK}
def aj.val {b:Gh}{a:Hp}{w:M.W}{v:V}(p:aj Γ E b a (.ok w h) λw _ G' H'=> ∀v,ah Γ G' H' w v->az U Y a w v->Q v H') (e:Ext b a G H) (c:ae Γ G h H) (z:ah Γ G H w v) (f:az U Y a w v):Q v H:=
 p G H e c v z f
end
def yj (c:Go Γ F X E k cf){i:Nat}{x:Str}{pos:Pos}(j:cf.N[i]? =y0 x) (l:JX cf.sc x=k9) (b:ck x=k9):PE X (.Name x pos) (tD Γ E (M.eval F (.var i))):=by
 unfold ck at b
 rw [Aa1]at b
 refine PE.imp (jo (by rw [c.N];exact j) (c.ef x l) (by simpa using b.1) (by simpa using b.2)) λY H Q t=> ?_
 obtain⟨G,U,h,s,p⟩:=t
 rw [M.eval]at p
 cases q:M.Gp U i with
 | none=>simp [M.Gm,q]at p;exact p.elim
 | some w=>
  obtain⟨v,e,r⟩:=s.slot i w q
  refine⟨v,e,?_⟩
  cases w with
  | v d=>
   rw [M.Kn q]at p
   exact aj.val p Ext.refl s.heap r trivial
  | own m=>
   rw [M.G7 q]at p
   obtain⟨a,u,n,y,o,g,f⟩:=r
   exact aj.val p Ext.refl s.heap ⟨a,u,n,o,.inl g,f⟩ ⟨i,_,q,rfl,e⟩
  | bor m=>
   rw [M.G8 q]at p
   exact aj.val p Ext.refl s.heap r ⟨i,_,q,rfl,e⟩
def vg (b:Go Γ F X E k cf){c:String}{e:Expr}(i:bC cf.sc c e=k9):PE X e (tD Γ E (M.eval F (.con c))):=by
 obtain⟨p,rfl,l,m⟩:=Wa i
 cases q:F.con.lookup c with
 | none=>
  intro g s Y H Q I ⟨G,U,h,f,a⟩
  rw [M.eval,q]at a
  exact a.elim
 | some d=>
  obtain⟨u,v,j,rv,rd⟩:=b.con c d q
  refine PE.imp (XM (b.gl _ l) j rv m) λY H Q n=> ?_
  obtain⟨G,U,h,f,a⟩:=n
  rw [M.eval,q]at a
  exact aj.val a Ext.refl f.heap (rd G H) trivial
def Cr {i:Int}{j:Nat}{pos:Pos}:PE X (.Constant (.int i) j pos) (tD Γ E (M.eval F (.int i))):=PE.imp Bp λY H Q ⟨G,U,h,s,p⟩=>aj.val p Ext.refl s.heap (v:= .int i) rfl trivial
def AI {i:Bool}{j:Nat}{pos:Pos}:PE X (.Constant (.bool i) j pos) (tD Γ E (M.eval F (.bl i))):=PE.imp vk λY H Q ⟨G,U,h,s,p⟩=>aj.val p Ext.refl s.heap (v:= .bl i) rfl trivial
def vF {j:Nat}{pos:Pos}:PE X (.Constant .none j pos) (tD Γ E (M.eval F .ai)):=PE.imp yw λY H Q ⟨G,U,h,s,p⟩=>aj.val p Ext.refl s.heap (v:= .ai) rfl trivial
def rY {i:M.Tx}{j:Nat}{pos:Pos}:PE X (.Constant (.str (aO i)) j pos) (tD Γ E (M.eval F (.str i))):=PE.imp mu λY H Q ⟨G,U,h,s,p⟩=>aj.val p Ext.refl s.heap (v:= .str (aO i)) rfl trivial
section
variable {a b c:M.E}{x y z:Expr}{pos:Pos}
def pS (e:Go Γ F X E k cf){o:M.Op}(g:kB o=k9) (n:PE X x (tD Γ E (M.eval F a))) (hb:PE X y (tD Γ E (M.eval F b))):PE X (.BinOp x (i6 o) y pos) (tD Γ E (M.eval F (.bin o a b))):=by
 refine PE.imp (vl (BF (E:=E) o g e.K) n hb) λY H Q w=> ?_
 obtain⟨G,U,h,s,p⟩:=w
 rw [M.eval]at p
 refine Xa s.heap Ext.refl s p λu v1 C D z e1 v d r A l=> ?_
 refine Xa s.heap e1 d l λm v2 j f I e2 c i q B t=> ?_
 exact⟨f,j,u,m,i.heap,r.ext c d.heap,q,ar.mk t e2 s.heap⟩
def wO {G:Gh}{H:Hp}{d:M.D}{v:V}(z:ao Γ G H d v) (f:M.GO d=k9):Xy v=true:=by
 cases d with
 | ai=>cases (show v= .ai from z);rfl
 | bl _=>cases (show v= .bl _ from z);rfl
 | int _=>cases (show v= .int _ from z);rfl
 | str _=>cases (show v= .str _ from z);rfl
 | _=>exact absurd (show y9=k9 from f) Aa4
theorem wC {G:Gh}{H:Hp}: ∀ {ds:List M.D}{vs:List V},aa Γ G H ds vs->ds.all M.GO=k9->vs.all Xy=k9
 | [],_,rfl,_=>rfl
 | d::ds,_,⟨v,r,rfl,a,b⟩,f=>by
  rw [Ah2,Aa1]at f ⊢
  exact⟨wO a f.1,wC b f.2⟩
def rr {G:Gh}{H:Hp}{d e:M.D}{v u:V}(z:ao Γ G H d v) (y:ao Γ G H e u) (f:M.GO d=k9) (c:M.GO e=k9):eN v u=M.bR d e:=by
 cases d with
 | ai=>
  cases (show v= .ai from z)
  cases e with
  | ai=>cases (show u= .ai from y);rfl
  | bl _=>cases (show u= .bl _ from y);rfl
  | int _=>cases (show u= .int _ from y);rfl
  | str _=>cases (show u= .str _ from y);rfl
  | _=>exact absurd (show y9=k9 from c) Aa4
 | bl a=>
  cases (show v= .bl _ from z)
  cases e with
  | ai=>cases (show u= .ai from y);rfl
  | bl _=>cases (show u= .bl _ from y);rfl
  | int j=>cases (show u= .int _ from y);show((if a then(1:Int)else 0)==j)=((a.toNat:Int)==j);rw [kq]
  | str _=>cases (show u= .str _ from y);rfl
  | _=>exact absurd (show y9=k9 from c) Aa4
 | int i=>
  cases (show v= .int _ from z)
  cases e with
  | ai=>cases (show u= .ai from y);rfl
  | bl b=>cases (show u= .bl _ from y);show(i==(if b then(1:Int)else 0))=(i==(b.toNat:Int));rw [kq]
  | int _=>cases (show u= .int _ from y);rfl
  | str _=>cases (show u= .str _ from y);rfl
  | _=>exact absurd (show y9=k9 from c) Aa4
 | str i=>
  cases (show v= .str _ from z)
  cases e with
  | ai=>cases (show u= .ai from y);rfl
  | bl _=>cases (show u= .bl _ from y);rfl
  | int _=>cases (show u= .int _ from y);rfl
  | str j=>cases (show u= .str _ from y);exact X4 i j
  | _=>exact absurd (show y9=k9 from c) Aa4
 | _=>exact absurd (show y9=k9 from f) Aa4
theorem mG {G:Gh}{H:Hp}{d:M.D}{v:V}(z:ao Γ G H d v) (a:M.GO d=k9): ∀ {ds:List M.D}{vs:List V},aa Γ G H ds vs->ds.all M.GO=k9->gF v vs=M.inD d ds
 | [],_,rfl,_=>rfl
 | e::ds,_,⟨u,r,rfl,c,g⟩,f=>by
  rw [Ah2,Aa1]at f
  have b:=mG z a g f.2
  unfold gF M.inD at b ⊢
  rw [Ae7,Ae7,b,rr c z f.1 a]
def ah.iy {G:Gh}{H:Hp}{w:M.W}{v:V}{d:M.D}(z:ah Γ G H w v) (e:w.d=y0 d) (f:M.GO d=k9):ao Γ G H d v:=by
 cases w with
 | v b=>cases e;exact z
 | own a=>cases e;exact absurd (show y9=k9 from f) Aa4
 | bor a=>cases e
theorem pa {f:Heap}{d:M.D}{b:Value->Bool}(e: ∀c y,RV f c y->b y=M.bR c d): ∀ {a:List M.D}{us:List Value},bM f a us->us.any b=M.inD d a
 | [],_,rfl=>rfl
 | c::a,_,⟨u,r,rfl,h,i⟩=>by
  have g:=pa e i
  unfold M.inD at g ⊢
  rw [Ae7,Ae7,g,e c u h]
def yp {k:Nat}(g:aR k X.A){s:Shared}{d:M.D}{m:List M.D}{a:List Value}{v:Value}(u:M.GE m<140) (o:RV s.heap d v) (p:bM s.heap m a): ∃i:Value->Bool,(∀ c y,RV s.heap c y->i y=M.bR c d)/\ ∀y,y∈a.toArray->SeqAt.EqAt X.A.in1 s y v (i y):=by
 have f: ∃i:Value->Bool,∀c y,RV s.heap c y->i y=M.bR c d:=⟨λy=> @u9 (∃ b,RV s.heap b y/\M.bR b d=k9) (Ai3 _),λc y z=>by
  cases q:M.bR c d with
  | true=>exact @decide_eq_true _ (Ai3 _) ⟨c,z,q⟩
  | false=>exact @decide_eq_false _ (Ai3 _) λ⟨d,t,h⟩=>by rw [RV.inj t z,q]at h;cases h⟩
 obtain⟨i,l⟩:=f
 refine⟨i,l,λy n=> ?_⟩
 obtain⟨j,r⟩:=List.getElem?_of_mem (List.mem_toArray.mp n)
 obtain⟨b,e,rd⟩:=p.get r
 rw [l b y rd]
 exact(ml 140 b _ X.A.in1 y v (by have:=Qt e;omega) (by show X.A.units+1+140<cLine;have:=g.un;omega) rd o).eq
def tO (z:X.K=Γ.K){k:Nat}(l:aR k X.A) (neg:Bool){d:List (Addr×Obj)}{s:Shared}{Y:St}{H:Hp}{x y:V}{v u:Value}{Q:VK}(I:Inv X d Y H s) (F:RelV x v) (E:RelV y u){G:Gh}{h:M.AH}{f o:M.W}{b:Bool}(t:ae Γ G h H)
 (J:ah Γ G H f x) (D:ah Γ G H o y) (e:M.Kv f o h=y0 b) (q:Q (.bl (if neg then !b else b)) H):wpAny (model X.prog X.w) X.A (compareOp (if neg then .NotIn else .In) v u) (EP X d Y Q) X.xe s:=by
 unfold M.Kv at e
 split at e
 .rename_i i e2
  split at e
  .rename_i c
   cases e
   have m:(M.Gb (f.dd h)=k9/\M.Gd i=k9)/\M.GE i<140:=by simpa using c
   have C:=J.rv I z t F m.1.1
   have w:=D.rv I z t E (by rw [e2];exact m.1.2)
   rw [e2]at w
   obtain⟨a,g,rfl,A,n⟩:=w
   obtain⟨j,B,r⟩:=yp l m.2 C n
   have p:g.toArray.any j=M.inD (f.dd h) i:=by rw [List.any_toArray];exact pa B n
   cases neg with
   | true=>exact SeqAt.notIn_listAt j A r ⟨.bl _,H,I,rfl,by rw [p];exact q⟩
   | false=>exact SeqAt.in_listAt j A r ⟨.bl _,H,I,rfl,by rw [p];exact q⟩
  .cases e
 .cases e
def oj (r:X.K=Γ.K){k:Nat}(n:aR k X.A) (neg:Bool){f:List (Addr×Obj)}{s:Shared}{Y:St}{H:Hp}{x y:V}{v u:Value}{Q:VK}(I:Inv X f Y H s) (l:RelV x v) (g:RelV y u){G:Gh}{h:M.AH}{B w:M.W}{b:Bool}(A:ae Γ G h H)
 (o:ah Γ G H B x) (m:ah Γ G H w y) (e:M.Kf B w h=y0 b) (q:Q (.bl (if neg then !b else b)) H):wpAny (model X.prog X.w) X.A (compareOp (if neg then .NotIn else .In) v u) (EP X f Y Q) X.xe s:=by
 unfold M.Kf at e
 split at e
 .rename_i i j e1 e2
  split at e
  .rename_i c
   cases e
   cases o.str e1
   cases m.str e2
   have t:(!(Builtin.Str.occurrences (aO j) (aO [c]) 0 (aO j).length 1).isEmpty)=j.contains c:=by
    have:=PySem.StrLaws.found_one (aO j) c
    refine this.trans ?_
    rw [Bool.eq_iff_iff,decide_eq_true_eq,Ag]
    simp [aO]
   cases neg with
   | true=>exact jK f s Y H _ _ v u Q I l g ⟨_,_,rfl,rfl,by rw [t];exact q⟩
   | false=>exact u2 f s Y H _ _ v u Q I l g ⟨_,_,rfl,rfl,by rw [t];exact q⟩
  .cases e
 .split at e
  .rename_i d E e1 e2
   split at e
   .rename_i c
    rw [Aa1]at c
    cases e
    have z:=o.iy e1 c.1
    obtain⟨a,D,rfl,C,p⟩:=m.seq A e2
    rw [← mG z c.1 p c.2]at q
    cases neg with
    | true=>exact ZF f s Y H _ _ v u Q I l g ⟨a,D,rfl,r▸lz C,wO z c.1,wC p c.2,q⟩
    | false=>exact w9 f s Y H _ _ v u Q I l g ⟨a,D,rfl,r▸lz C,wO z c.1,wC p c.2,q⟩
   .exact tO r n neg I l g A o m e q
  .cases e
def tf:br X (compareOp .GtE) (λx y H Q=> ∃i j,x= .str i/\y= .str j/\Q (.bl (!u9 (i.cps.toList<j.cps.toList))) H):=by
 intro a s Y H x y v u Q I d c ⟨i,j,ex,b,q⟩
 subst ex b
 obtain⟨t,rfl⟩:=d
 obtain⟨e,rfl⟩:=c
 exact PySem.P.ge_str (Wu I q rfl)
def Zz (r:Go Γ F X E k cf) (o:M.Cp) (C:Jy o=k9):br X (compareOp (dU o)) (gA Γ o):=by
 have g: ∀ {o:M.Cp},(∀ d a h b,M.Gy o d a h=y0 b->(∃ i j,M.W.int? d=y0 i/\M.W.int? a=y0 j/\M.Kp o i j=y0 b)\/(∃ i j,M.W.bh d=y0 i/\M.W.bh a=y0 j/\M.Ks o i j=y0 b))->br X (compareOp (dU o)) (gA Γ o):=by
  intro o B f s Y H x y v u Q I m l ⟨G,h,d,a,b,w,p,n,e,q⟩
  rcases B d a h b e with⟨i,j,e1,e2,z⟩ | ⟨i,j,e1,e2,z⟩
  .cases p.int e1
   cases n.int e2
   exact yF z I m l q
  .cases p.str e1
   cases n.str e2
   cases o with
   | lt=>
    cases z
    refine q9 f s Y H _ _ v u Q I m l ⟨_,_,rfl,rfl,?_⟩
    have:u9 ((aO i).cps.toList<(aO j).cps.toList)=u9 (i<j):=decide_eq_decide.mpr (by simp [aO])
    rw [this]
    exact q
   | ge=>
    cases z
    have:u9 ((aO i).cps.toList<(aO j).cps.toList)=u9 (i<j):=decide_eq_decide.mpr (by simp [aO])
    rw [← this]at q
    exact tf f s Y H _ _ v u Q I m l ⟨_,_,rfl,rfl,q⟩
   | _=>cases z
 have mk: ∀ {o:M.Cp}{d a:M.W}{h:M.AH}{b:Bool},(match M.W.int? d,M.W.int? a with
  | some i,y0 j=>M.Kp o i j
  | _,_=>match M.W.bh d,M.W.bh a with
   | some s,y0 t=>M.Ks o s t
   | _,_=>u0)=y0 b->(∃ i j,M.W.int? d=y0 i/\M.W.int? a=y0 j/\M.Kp o i j=y0 b)\/(∃ i j,M.W.bh d=y0 i/\M.W.bh a=y0 j/\M.Ks o i j=y0 b):=by
  intro o d a h b e
  split at e
  .rename_i i j e1 e2;exact .inl ⟨i,j,e1,e2,e⟩
  .split at e
   .rename_i i j e1 e2;exact .inr ⟨i,j,e1,e2,e⟩
   .cases e
 cases o with
 | eq=>exact pK r.K r.room
 | ne=>exact pC r.K r.room
 | lt=>exact g λd a h b e=>mk (h:=h) e
 | le=>exact g λd a h b e=>mk (h:=h) e
 | gt=>exact g λd a h b e=>mk (h:=h) e
 | ge=>exact g λd a h b e=>mk (h:=h) e
 | mem=>
  intro f s Y H x y v u Q I m l ⟨G,h,d,a,b,w,p,n,e,q⟩
  exact oj r.K r.room y9 I m l w p n e q
 | fD=>
  intro f s Y H x y v u Q I m l ⟨G,h,d,a,b,w,p,n,e,q⟩
  have e:(M.Kf d a h).map (!·)=y0 b:=e
  cases e2:M.Kf d a h with
  | none=>rw [e2]at e;cases e
  | some c=>
   rw [e2]at e
   cases e
   exact oj r.K r.room k9 I m l w p n e2 q
 | fy=>
  intro f s Y H x y v u Q I m l ⟨G,h,d,a,b,w,p,n,e,q⟩
  have e:M.Ki d a=y0 b:=e
  unfold M.Ki at e
  split at e
  .cases e
   cases p
   cases n
   cases m
   obtain⟨t,rfl⟩:=l
   exact wpAny_is_plain rfl (Wu I q rfl)
  .cases e
   cases p
   cases n
   obtain⟨t,rfl⟩:=m
   obtain⟨A,rfl⟩:=l
   exact PyProof.Rows.is_bool (Wu I q rfl)
  .cases e
 | gv=>
  intro f s Y H x y v u Q I m l ⟨G,h,d,a,b,w,p,n,e,q⟩
  have e:(M.Ki d a).map (!·)=y0 b:=e
  unfold M.Ki at e
  split at e
  .cases e
   cases p
   cases n
   cases m
   obtain⟨t,rfl⟩:=l
   exact wpAny_isNot_plain rfl (Wu I q rfl)
  .cases e
   cases p
   cases n
   obtain⟨t,rfl⟩:=m
   obtain⟨A,rfl⟩:=l
   exact PyProof.Rows.isnot_bool (Wu I q rfl)
  .cases e
def xx {o:CmpOp}{e:Expr}(h:Xe e=k9):behindInMarks o e=false:=by
 cases e<;>first | rfl | (simp [Xe]at h)
def nX (w:Go Γ F X E k cf){o:M.Cp}{R:V->Hp->Prop}{Y:St}{H:Hp}{G:Gh}{U:M.Sl}{h:M.AH}(s:ak Γ G U h Y H)
 (p:aj Γ E G H ((M.eval F a U h).bind λx h=>(M.eval F b U h).bind λy h=>(M.R.of h (M.Gy o x y h)).bind λc h=> .ok c h) λc _ _ H'=>R (.bl c) H'):
 ij (gA Γ o) (tD Γ E (M.eval F a)) (tD Γ E (M.eval F b)) Y H R:=by
 refine Xa s.heap Ext.refl s p λt v1 B C v e1 u g r z m=> ?_
 refine Xa s.heap e1 g m λn v2 l i D e2 d f q A e=> ?_
 obtain⟨c,j,e⟩:=e.of
 exact⟨i,l,t,n,c,f.heap,r.ext d g.heap,q,j,e.at e2 f.heap⟩
def aj.map {b c:Type}{G:Gh}{H:Hp}{r:M.R b}{f:b->c}{P:c->M.AH->Gh->Hp->Prop}(p:aj Γ E G H (r.bind λa h=> .ok (f a) h) P):aj Γ E G H r λa h G' H'=>P (f a) h G' H':=by
 cases r with
 | ok a h=>exact p
 | exc d h=>exact p
 | fail=>exact p
def Wg {b c d:Type}(r:M.R b) (f:b->M.AH->M.R c) (g:c->M.AH->M.R d):(r.bind f).bind g=r.bind λa h=>(f a h).bind g:=by cases r<;>rfl
def rk (j:Go Γ F X E k cf){o:M.Cp}(l:Jy o=k9) (m:Xe y=k9) (r:PE X x (tD Γ E (M.eval F a))) (hb:PE X y (tD Γ E (M.eval F b))):PE X (.Compare x [dU o] [y] pos) (tD Γ E (M.eval F (.cmp o a b))):=by
 refine PE.imp (r0 (Zz j o l) r hb (xx m)) λY H Q z=> ?_
 obtain⟨G,U,h,s,p⟩:=z
 rw [M.eval]at p
 refine nX j s ?_
 have u:aj Γ E G H (((M.eval F a U h).bind λx h=>(M.eval F b U h).bind λy h=>(M.R.of h (M.Gy o x y h)).bind λc h=> .ok c h).bind λc h=> .ok (M.W.v (.bl c)) h) λw _ i g=> ∀v,ah Γ i g w v->az U Y H w v->Q v g:=by
  simpa only [Wg,M.R.af]using p
 have f:=u.map
 cases q:(M.eval F a U h).bind λx h=>(M.eval F b U h).bind λy h=>(M.R.of h (M.Gy o x y h)).bind λc h=> .ok c h with
 | ok c n=>rw [q]at f;exact λi g e t=>f i g e t (.bl c) rfl trivial
 | exc d n=>rw [q]at f;exact f
 | fail=>rw [q]at f;exact f
def rz (i:Go Γ F X E k cf){o:M.Cp}(j:Jy o=k9) (l:Xe y=k9) (n:PE X x (tD Γ E (M.eval F a))) (hb:PE X y (tD Γ E (M.eval F b))):PT X (.Compare x [dU o] [y] pos) (cq Γ E (M.Gu F (.cmp o a b))):=by
 refine PT.imp (AL (Zz i o j) n hb (xx l)) λY H Q u=> ?_
 obtain⟨G,U,h,s,p⟩:=u
 unfold M.Gu at p
 rw [M.eval]at p
 refine nX i s ?_
 have f:aj Γ E G H ((M.eval F a U h).bind λx h=>(M.eval F b U h).bind λy h=>(M.R.of h (M.Gy o x y h)).bind λc h=> .ok c h) λb _ _ g=>Q b g:=by
  simpa only [Wg,M.R.af,M.GK,M.R.aM]using p
 cases q:(M.eval F a U h).bind λx h=>(M.eval F b U h).bind λy h=>(M.R.of h (M.Gy o x y h)).bind λc h=> .ok c h with
 | ok c m=>rw [q]at f;exact λr g e t=>⟨c,rfl,f r g e t⟩
 | exc d m=>rw [q]at f;exact f
 | fail=>rw [q]at f;exact f
end
end
section
variable {Γ:Ge}{F:M.Fx}{X:Cx}{E:XK}{k:Nat}{cf:Cf}{a b c:M.E}{x y z:Expr}{pos:Pos}
def xt {a:Type}(r:M.R a):(r.bind λw h=> .ok w h)=r:=by cases r<;>rfl
def BD (e:Go Γ F X E k cf) (j:PE X x (tD Γ E (M.eval F a))) (g: ∀i,isTrue x X.env i=(do let v ←i;standAt x.pos;holding [v] (truthy v))):PT X x (cq Γ E (M.Gu F a)):=by
 refine PT.imp (y4 j g) λY H Q u=> ?_
 obtain⟨G,U,h,s,p⟩:=u
 refine Xa s.heap Ext.refl s (f:=λw h=>M.R.of h (M.GV h w)) p λo v1 l m d e1 r c n y b=> ?_
 cases q:M.GV l o with
 | none=>rw [q]at b;exact b.elim
 | some t=>
  rw [q]at b
  exact⟨t,jU e.K c.heap n q,b m d e1 c.heap⟩
def r9 {b:TE}(i:PE X x b):PE X (.UnaryOp .Not x pos) (λY H Q=>b Y H λv H1=> ∃t,gE X.K v H1 t/\Q (.bl (!t)) H1):=by
 intro a s Y H Q I h
 refine UnaryOp_ (aE (i a s Y H _ I h) ?_)
 rintro v f ⟨x,H1,m,l,t,g,e⟩
 exact not_of (aE (WQ a f Y H1 x v (λc d=>Q (.bl (!c)) d) m l ⟨t,g,e⟩) λc n ⟨k,j,q⟩=>⟨.bl (!c),k,j,rfl,q⟩)
def tG (d:Go Γ F X E k cf) (e:PE X x (tD Γ E (M.eval F a))):PE X (.UnaryOp .Not x pos) (tD Γ E (M.eval F (.not a))):=by
 refine PE.imp (r9 e) λY H Q i=> ?_
 obtain⟨G,U,h,s,p⟩:=i
 rw [M.eval]at p
 refine Xa s.heap Ext.refl s p λo v1 m n j e1 g c f l b=> ?_
 obtain⟨t,q,b⟩:=b.of
 exact⟨t,jU d.K c.heap f q,aj.val b e1 c.heap (v:= .bl (!t)) rfl trivial⟩
def pw (e:PT X x (cq Γ E (M.Gu F a))):PT X (.UnaryOp .Not x pos) (cq Γ E (M.Gu F (.not a))):=by
 refine PT.imp (AM e) λY H Q f=> ?_
 obtain⟨G,U,h,s,p⟩:=f
 unfold M.Gu at p
 rw [M.eval]at p
 have d:aj Γ E G H ((M.Gu F a U h).bind λt h=> .ok (!t) h) λb _ _ c=>Q b c:=by
  unfold M.Gu
  simpa only [Wg,M.R.af,M.GK,M.R.aM]using p
 exact⟨G,U,h,s,d.map⟩
def rW {b tb:TE}{rest:List Expr}(m:PE X x b) (hb:PE X (.BoolOp .And (y::rest) pos) tb):PE X (.BoolOp .And (x::y::rest) pos) (λY H Q=>b Y H λv H1=> ∃t,gE X.K v H1 t/\if t=k9 then tb Y H1 Q else Q v H1):=by
 intro a s Y H Q I h
 refine BoolOp_and (aE (m a s Y H _ I h) ?_)
 rintro v k ⟨x,H1,o,g,t,l,i⟩
 refine aE (WQ a k Y H1 x v (λc d=>if c=k9 then tb Y d Q else Q x d) o g ⟨t,l,i⟩) λc j n=> ?_
 obtain⟨f,e,q⟩:=n
 cases c with
 | true=>exact hb a j Y f Q e q
 | false=>exact⟨x,f,e,g,q⟩
def tE {b tb:TE}{rest:List Expr}(m:PE X x b) (hb:PE X (.BoolOp .Or (y::rest) pos) tb):PE X (.BoolOp .Or (x::y::rest) pos) (λY H Q=>b Y H λv H1=> ∃t,gE X.K v H1 t/\if t=k9 then Q v H1 else tb Y H1 Q):=by
 intro a s Y H Q I h
 refine BoolOp_or (aE (m a s Y H _ I h) ?_)
 rintro v k ⟨x,H1,o,g,t,l,i⟩
 refine aE (WQ a k Y H1 x v (λc d=>if c=k9 then Q x d else tb Y d Q) o g ⟨t,l,i⟩) λc j n=> ?_
 obtain⟨f,e,q⟩:=n
 cases c with
 | false=>exact hb a j Y f Q e q
 | true=>exact⟨x,f,e,g,q⟩
def nY (g:Go Γ F X E k cf){rest:List Expr}(n:PE X x (tD Γ E (M.eval F a))) (hb:PE X (.BoolOp .And (y::rest) pos) (tD Γ E (M.eval F b))):PE X (.BoolOp .And (x::y::rest) pos) (tD Γ E (M.eval F (.and a b))):=by
 refine PE.imp (rW n hb) λY H Q v=> ?_
 obtain⟨G,U,h,s,p⟩:=v
 rw [M.eval]at p
 refine Xa s.heap Ext.refl s p λK v1 D I z e1 u d e i c=> ?_
 obtain⟨t,q,c⟩:=c.of
 refine⟨t,jU g.K d.heap e q,?_⟩
 cases t with
 | true=>
  rw [if_pos rfl]
  exact Xa s.heap e1 d (f:=λw h=> .ok w h) (by rw [xt];exact c) λC v2 B A J e2 m j o l r=>aj.val r e2 j.heap o (l.back e1 s.heap)
 | false=>
  rw [if_neg Aa4]
  exact aj.val c e1 d.heap e i
def pd (g:Go Γ F X E k cf){rest:List Expr}(n:PE X x (tD Γ E (M.eval F a))) (hb:PE X (.BoolOp .Or (y::rest) pos) (tD Γ E (M.eval F b))):PE X (.BoolOp .Or (x::y::rest) pos) (tD Γ E (M.eval F (.or a b))):=by
 refine PE.imp (tE n hb) λY H Q v=> ?_
 obtain⟨G,U,h,s,p⟩:=v
 rw [M.eval]at p
 refine Xa s.heap Ext.refl s p λK v1 D I z e1 u d e i c=> ?_
 obtain⟨t,q,c⟩:=c.of
 refine⟨t,jU g.K d.heap e q,?_⟩
 cases t with
 | false=>
  rw [if_neg Aa4]
  exact Xa s.heap e1 d (f:=λw h=> .ok w h) (by rw [xt];exact c) λC v2 B A J e2 m j o l r=>aj.val r e2 j.heap o (l.back e1 s.heap)
 | true=>
  rw [if_pos rfl]
  exact aj.val c e1 d.heap e i
def Bd {U:M.Sl}{h:M.AH}:M.Gu F (.and a b) U h=(M.Gu F a U h).bind λt h=>match t with
 | true=>M.Gu F b U h
 | false=> .ok y9 h:=by
 unfold M.Gu
 rw [M.eval]
 simp only [Wg]
 congr 1
 funext w h1
 cases q:M.GV h1 w with
 | none=>rfl
 | some t=>
  cases t with
  | true=>rfl
  | false=>simp [q]
def Ay {U:M.Sl}{h:M.AH}:M.Gu F (.or a b) U h=(M.Gu F a U h).bind λt h=>match t with
 | true=> .ok k9 h
 | false=>M.Gu F b U h:=by
 unfold M.Gu
 rw [M.eval]
 simp only [Wg]
 congr 1
 funext w h1
 cases q:M.GV h1 w with
 | none=>rfl
 | some t=>
  cases t with
  | false=>rfl
  | true=>simp [q]
def zU {rest:List Expr}(m:PT X x (cq Γ E (M.Gu F a))) (hb:PW X (.BoolOp .And (y::rest) pos) (cq Γ E (M.Gu F b))):PW X (.BoolOp .And (x::y::rest) pos) (cq Γ E (M.Gu F (.and a b))):=by
 intro n c i Y H Q I ⟨G,U,h,s,p⟩
 refine px m hb n c i Y H Q I ?_
 rw [Bd]at p
 refine xD s.heap Ext.refl s p λt A o g e1 u d e=> ?_
 cases t with
 | true=>
  rw [if_pos rfl]
  exact xD s.heap e1 d (f:=λw h=> .ok w h) (by rw [xt];exact e) λz v j q e2 l k r=>r j q e2 k.heap
 | false=>
  rw [if_neg Aa4]
  exact e o g e1 d.heap
def J1 {rest:List Expr}(m:PT X x (cq Γ E (M.Gu F a))) (hb:PW X (.BoolOp .Or (y::rest) pos) (cq Γ E (M.Gu F b))):PW X (.BoolOp .Or (x::y::rest) pos) (cq Γ E (M.Gu F (.or a b))):=by
 intro n c i Y H Q I ⟨G,U,h,s,p⟩
 refine AO m hb n c i Y H Q I ?_
 rw [Ay]at p
 refine xD s.heap Ext.refl s p λt A o g e1 u d e=> ?_
 cases t with
 | false=>
  rw [if_neg Aa4]
  exact xD s.heap e1 d (f:=λw h=> .ok w h) (by rw [xt];exact e) λz v j q e2 l k r=>r j q e2 k.heap
 | true=>
  rw [if_pos rfl]
  exact e o g e1 d.heap
def tZ (d:PE X x (tD Γ E (M.eval F a))):PE X (.UnaryOp .USub x pos) (tD Γ E (M.eval F (.neg a))):=by
 refine PE.imp (uZ A1 d) λY H Q g=> ?_
 obtain⟨G,U,h,s,p⟩:=g
 rw [M.eval]at p
 refine Xa s.heap Ext.refl s p λm v1 k l i e1 f c e j b=> ?_
 obtain⟨t,q,b⟩:=b.of
 exact⟨t,e.int q,aj.val b e1 c.heap (v:= .int (-t)) rfl trivial⟩
def j6 {G:Gh}{H:Hp}{w:M.W}{v:V}(r:ah Γ G H w v):(v= .ai)↔w= .v .ai:=by
 constructor
 .intro e
  subst e
  cases w with
  | v d=>
   cases d with
   | ai=>rfl
   | bl _=>cases (show V.ai= .bl _ from r)
   | int _=>cases (show V.ai= .int _ from r)
   | str _=>cases (show V.ai= .str _ from r)
   | tup _=>obtain⟨_,_,e,_⟩:=r;cases e
   | lst _=>obtain⟨_,_,e,_⟩:=r;cases e
   | ref _=>obtain⟨_,e⟩:=r;cases e
   | exc _ _=>rcases r with⟨_,_,e,_⟩ | ⟨_,_,e,_⟩<;>cases e
   | err _ _ _=>obtain⟨_,_,_,e,_⟩:=r;cases e
  | own _=>obtain⟨_,_,e,_⟩:=r;cases e
  | bor _=>obtain⟨_,_,e,_⟩:=r;cases e
 .intro e
  subst e
  exact r
def l9 (neg:Bool):M.W->Bool
 | .v .ai=> !neg
 | _=>neg
def mE {neg:Bool}{U:M.Sl}{h:M.AH}:M.eval F (.dZ neg a) U h=(M.eval F a U h).bind λw h=>M.aw (.bl (l9 neg w)) h:=by
 rw [M.eval]
 congr 1
 funext w h1
 cases w with
 | v d=>cases d<;>rfl
 | own _=>rfl
 | bor _=>rfl
def oK {G:Gh}{H:Hp}{w:M.W}{v:V}(r:ah Γ G H w v) (neg:Bool):(if neg then !u9 (v= .ai)else u9 (v= .ai))=l9 neg w:=by
 by_cases a:v= .ai
 .have b:=(j6 r).mp a
  subst b a
  cases neg<;>rfl
 .have b:w≠ .v .ai:=λe=>a ((j6 r).mpr e)
  have e1:u9 (v= .ai)=false:=decide_eq_false a
  rw [e1]
  have e2:l9 neg w=neg:=by
   cases w with
   | v d=>cases d<;>first | rfl | exact absurd rfl b
   | own _=>rfl
   | bor _=>rfl
  rw [e2]
  cases neg<;>rfl
def rb {neg:Bool}{j:Nat}{pos':Pos}(d:PE X x (tD Γ E (M.eval F a))):PE X (.Compare x [if neg then .IsNot else .Is] [.Constant .none j pos'] pos) (tD Γ E (M.eval F (.dZ neg a))):=by
 have b: ∀Y H Q,tD Γ E (M.eval F (.dZ neg a)) Y H Q->tD Γ E (M.eval F a) Y H λv c=>Q (.bl (if neg then !u9 (v= .ai)else u9 (v= .ai))) c:=λY H Q k=>by
  obtain⟨G,U,h,s,p⟩:=k
  rw [mE]at p
  refine Xa s.heap Ext.refl s p λo v1 m n c e1 i e g l f=> ?_
  rw [oK g neg]
  exact aj.val f e1 e.heap (v:= .bl _) rfl trivial
 cases neg with
 | true=>exact PE.imp (om (X0 d)) b
 | false=>exact PE.imp (om (nh d)) b
def vq {neg:Bool}{j:Nat}{pos':Pos}(i:PE X x (tD Γ E (M.eval F a))):PT X (.Compare x [if neg then .IsNot else .Is] [.Constant .none j pos'] pos) (cq Γ E (M.Gu F (.dZ neg a))):=by
 have g: ∀Y H Q,cq Γ E (M.Gu F (.dZ neg a)) Y H Q->tD Γ E (M.eval F a) Y H λv b=>Q (if neg then !u9 (v= .ai)else u9 (v= .ai)) b:=λY H Q B=>by
  obtain⟨G,U,h,s,p⟩:=B
  unfold M.Gu at p
  rw [mE,Wg]at p
  refine Xa s.heap Ext.refl s p λI v1 D u b e1 A l y C m=> ?_
  rw [oK y neg]
  exact m u b e1 l.heap
 have fin: ∀Y H (Q:Bool->Hp->Prop),cq Γ E (M.Gu F (.dZ neg a)) Y H Q->tD Γ E (M.eval F a) Y H λv b=> ∃c,V.bl (if neg then !u9 (v= .ai)else u9 (v= .ai))= .bl c/\Q c b:=λY H Q t=>by
  obtain⟨G,U,h,s,p⟩:=g Y H Q t
  refine⟨G,U,h,s,?_⟩
  cases q:M.eval F a U h with
  | ok w n=>rw [q]at p;exact λo k e z v r f=>⟨_,rfl,p o k e z v r f⟩
  | exc d n=>rw [q]at p;exact p
  | fail=>rw [q]at p;exact p
 cases neg with
 | true=>exact PT.imp (oF (X0 i)) fin
 | false=>exact PT.imp (oF (nh i)) fin
def WU {o b:CmpOp}{e a:Expr}(h:Xe a=k9):lastMarks [o,b] [e,a]=false:=xx h
def qV (L:Go Γ F X E k cf){o u:M.Cp}{R:V->Hp->Prop}{Y:St}{H:Hp}{G:Gh}{U:M.Sl}{h:M.AH}(s:ak Γ G U h Y H){P:M.W->M.AH->Gh->Hp->Prop}
 (q: ∀b h' G' H',P (.v (.bl b)) h' G' H'->R (.bl b) H') (p:aj Γ E G H (M.eval F (.chain o u a b c) U h) P):
 kK (gA Γ o) (gA Γ u) (tD Γ E (M.eval F a)) (tD Γ E (M.eval F b)) (tD Γ E (M.eval F c)) Y H R:=by
 rw [M.eval]at p
 refine Xa s.heap Ext.refl s p λI v1 T W K e1 J m D N A=> ?_
 refine Xa s.heap e1 m A λn v2 z w Z e2 g d r Q e=> ?_
 obtain⟨t,f,e⟩:=e.of
 refine⟨w,z,I,n,t,d.heap,D.ext g m.heap,r,f,t,rfl,?_⟩
 cases t with
 | true=>
  rw [if_pos rfl]
  refine Xa s.heap e2 d e λy v3 B v S x i l C O j=> ?_
  obtain⟨t,f,j⟩:=j.of
  exact⟨v,B,n,y,t,l.heap,r.ext i d.heap,C,f,q _ _ _ _ (j.at x l.heap)⟩
 | false=>
  rw [if_neg Aa4]
  exact q _ _ _ _ (e.at e2 d.heap)
def yT (e:Go Γ F X E k cf){o d:M.Cp}(g:Jy o=k9) (f:Jy d=k9) (j:Xe z=k9) (i:PE X x (tD Γ E (M.eval F a))) (hb:PE X y (tD Γ E (M.eval F b))) (l:PE X z (tD Γ E (M.eval F c))):
 PE X (.Compare x [dU o,dU d] [y,z] pos) (tD Γ E (M.eval F (.chain o d a b c))):=
 PE.imp (A9 (Zz e o g) (Zz e d f) i hb l (WU j)) λY H Q ⟨G,U,h,s,p⟩=>qV e s (λb n r m q=>q (.bl b) rfl trivial) p
def WY (i:Go Γ F X E k cf){o f:M.Cp}(r:Jy o=k9) (j:Jy f=k9) (u:Xe z=k9) (t:PE X x (tD Γ E (M.eval F a))) (hb:PE X y (tD Γ E (M.eval F b))) (B:PE X z (tD Γ E (M.eval F c))):
 PT X (.Compare x [dU o,dU f] [y,z] pos) (cq Γ E (M.Gu F (.chain o f a b c))):=by
 refine PT.imp (pJ (Zz i o r) (Zz i f j) t hb B (WU u)) λY H Q A=> ?_
 obtain⟨G,U,h,s,p⟩:=A
 refine qV i s (P:=λw _ _ g=> ∀b,w= .v (.bl b)->Q b g) (λb l m g q=>⟨b,rfl,q b rfl⟩) ?_
 unfold M.Gu at p
 cases q:M.eval F (.chain o f a b c) U h with
 | ok w l=>rw [q]at p;exact λm g e v b n=>by subst n;exact p m g e v
 | exc d l=>rw [q]at p;exact p
 | fail=>rw [q]at p;exact p
end
def Za {e:Expr}{es:List Expr}{env:Env}(h:xa e=k9):starEach (e::es) env=(y9,eval e env)::starEach es env:=by
 cases e<;>first | rfl | (simp [xa]at h)
def Xh {es:List Expr}{env:Env}{pos:Pos}(h: ∀e∈es,xa e=k9):(backTo pos (starEach es env)).any (·.1)=false:=by
 induction es with
 | nil=>rfl
 | cons e r c=>
  rw [Za (h e Aa8)]
  show(y9||(backTo pos (starEach r env)).any (·.1))=y9
  rw [c λb a=>h b (Aa5 _ a)]
  rfl
section
variable {Γ:Ge}{F:M.Fx}{X:Cx}{E:XK}{k:Nat}{cf:Cf}{a b c:M.E}{x y z:Expr}{pos:Pos}{es:M.Es}{xs:List Expr}
def BI:PA X [] (gy Γ E (M.Gq F .nil)):=PA.imp ji λY H Q ⟨G,U,h,s,p⟩=>p G H Ext.refl s.heap [] rfl
def tx (r:xa x=k9) (o:PE X x (tD Γ E (M.eval F a))) (u:PA X xs (gy Γ E (M.Gq F es))):PA X (x::xs) (gy Γ E (M.Gq F (.cons a es))):=by
 refine PA.imp (zd o u (Za r)) λY H Q y=> ?_
 obtain⟨G,U,h,s,p⟩:=y
 rw [M.Gq]at p
 refine Xa s.heap Ext.refl s p λJ v1 D I z e1 w l t g b=> ?_
 obtain⟨d,q,b⟩:=b.of
 obtain⟨A,e2,e,rd,_⟩:=lN e1 l s t g q
 refine QO s.heap e2 e b λB f C i m j c k n v=> ?_
 exact v i m j k.heap (v1::f) ⟨v1,f,rfl,rd.ext c e.heap,n⟩
def vP:PA X [] (eC Γ E (M.Gf F .nil)):=PA.imp ji λY H Q ⟨G,U,h,s,p⟩=>p G H Ext.refl s.heap [] rfl
def pF (m:xa x=k9) (l:PE X x (tD Γ E (M.eval F a))) (o:PA X xs (eC Γ E (M.Gf F es))):PA X (x::xs) (eC Γ E (M.Gf F (.cons a es))):=by
 refine PA.imp (zd l o (Za m)) λY H Q t=> ?_
 obtain⟨G,U,h,s,p⟩:=t
 rw [M.Gf]at p
 refine Xa s.heap Ext.refl s p λB v1 z A u e1 r c n v i=> ?_
 refine wv s.heap e1 c i λw d y e j f b g k q=> ?_
 exact q e j f g.heap (v1::d) ⟨v1,d,rfl,n.ext b c.heap,k⟩
def BC {n:Nat}(C:xs.length<=1000) (b: ∀U h ds h',M.Gq F es U h= .ok ds h'->ds.length=xs.length) (o:PA X xs (gy Γ E (M.Gq F es))):PE X (.Tuple xs n pos) (tD Γ E (M.eval F (.tup es))):=by
 refine PE.imp (nj o) λY H Q x=> ?_
 obtain⟨G,U,h,s,p⟩:=x
 rw [M.eval]at p
 cases q:M.Gq F es U h with
 | ok a j=>
  have t:=b _ _ _ _ q
  refine QO s.heap Ext.refl s (f:=λds h=>if ds.length=xs.length then M.aw (.tup ds) h else .fail) (P:=λw h' r g=> ∀v,ah Γ r g w v->az U Y H w v->Q v g) ?_ λds D A B y e1 u m k c=> ?_
  .rw [q]at p ⊢
   show aj Γ E G H (if a.length=xs.length then M.aw (.tup a) j else .fail) _
   rw [if_pos t]
   exact p
  .by_cases i:ds.length=xs.length
   .rw [if_pos i]at c
    have z:=k.length
    exact⟨Ae8 (Zh (by omega)),λl e=>ar.tup (ar.mk c e1 s.heap) m.heap k l e⟩
   .rw [if_neg i]at c;exact c.elim
 | exc d j=>rw [q]at p;exact⟨G,U,h,s,by rw [q];exact p⟩
 | fail=>rw [q]at p;exact p.elim
def AF (B:xs.length<=1000) (b: ∀U h ds h',M.Gq F es U h= .ok ds h'->ds.length=xs.length) (n:PA X xs (gy Γ E (M.Gq F es))):PE X (.List xs pos) (tD Γ E (M.eval F (.lst es))):=by
 refine PE.imp (By n) λY H Q u=> ?_
 obtain⟨G,U,h,s,p⟩:=u
 rw [M.eval]at p
 cases q:M.Gq F es U h with
 | ok a j=>
  have r:=b _ _ _ _ q
  refine QO s.heap Ext.refl s (f:=λds h=>if ds.length=xs.length then .ok (.own ds) h else .fail) (P:=λw h' o g=> ∀v,ah Γ o g w v->az U Y H w v->Q v g) ?_ λds C z A x e1 t m k c=> ?_
  .rw [q]at p ⊢
   show aj Γ E G H (if a.length=xs.length then .ok (M.W.own a) j else .fail) _
   rw [if_pos r]
   exact p
  .by_cases i:ds.length=xs.length
   .rw [if_pos i]at c
    have y:=k.length
    exact⟨Ae8 (Zh (by omega)),λl e=>ar.own (ar.mk c e1 s.heap) m.heap k l e⟩
   .rw [if_neg i]at c;exact c.elim
 | exc d j=>rw [q]at p;exact⟨G,U,h,s,by rw [q];exact p⟩
 | fail=>rw [q]at p;exact p.elim
def yE {G:Gh}{H:Hp}{w:M.W}{v:V}(r:ah Γ G H w v):ah Γ G H w.arg v:=by
 cases w with
 | v d=>exact r
 | own f=>obtain⟨a,h,c,_,e,b,g⟩:=r;exact⟨a,h,c,e,.inl b,g⟩
 | bor f=>exact r
theorem xl {G:Gh}{H:Hp}: ∀ {ws:List M.W}{vs:List V},aP Γ G H ws vs->aP Γ G H (ws.map M.W.arg) vs
 | [],_,z=>z
 | _::_,_,⟨v,r,a,c,b⟩=>⟨v,r,a,yE c,xl b⟩
def Zk (ws:List M.W): ∀w∈ws.map M.W.arg,ki w=true:=λw a=>by
 obtain⟨u,_,rfl⟩:=Af1.mp a
 cases u<;>rfl
def uQ (a:Go Γ F X E k cf){f:String}{g:Expr}(d:bC cf.sc f g=k9) (z:cf.fns.contains f=k9) (c: ∀e∈x::xs,xa e=k9) (r:PA X (x::xs) (eC Γ E (M.Gf F es))):PE X (.Call g (x::xs) [] pos) (tD Γ E (M.eval F (.call f es))):=by
 obtain⟨p,rfl,j,o⟩:=Wa d
 obtain⟨w,J,I,b,v,q,i⟩:=(a.fn f z).imp λw h=>h.ex
 refine PE.imp (pT b a.room (a.gl _ j) i q v .nil a.pass r o (Za (c _ Aa8)) (Xh λe m=>c e (Aa5 _ m))) λY H Q C=> ?_
 obtain⟨G,U,h,s,p⟩:=C
 rw [M.eval]at p
 refine wv s.heap Ext.refl s p λt K u y D e1 B l A n=> ?_
 rw [Ac2]
 exact⟨y,u,_,l.heap,xl A,Zk t,ar.mk n e1 s.heap⟩
def w4 (a:Go Γ F X E k cf){f:String}{g:Expr}(c:bC cf.sc f g=k9) (n:cf.fns.contains f=k9):PE X (.Call g [] [] pos) (tD Γ E (M.eval F (.call f .nil))):=by
 obtain⟨p,rfl,e,i⟩:=Wa c
 obtain⟨m,r,q,b,l,j,d⟩:=(a.fn f n).imp λm h=>h.ex
 refine PE.imp (vx b a.room (a.gl _ e) d j l .nil a.pass i) λY H Q o=> ?_
 obtain⟨G,U,h,s,p⟩:=o
 have p:aj Γ E G H (F.call f ([].map M.W.arg) h) _:=p
 exact⟨G,h,_,s.heap,xl (ws:= []) (vs:= []) rfl,Zk [],ar.mk p Ext.refl s.heap⟩
def rC (b:M.Bi) (hb:kr b=k9):bootBuiltins (Xb (iJ b))=y0 (kM b):=by
 cases b<;>first | (exact absurd (show y9=k9 from hb) Aa4) | decide +kernel
def m3 (b:M.Bi):iJ b∈bP:=by cases b<;>decide
def p5 (c:Go Γ F X E k cf){b:M.Bi}{g:Expr}(hb:kr b=k9) (q:ke cf (iJ b) g=k9) (r: ∀e∈x::xs,xa e=k9) (n:PA X (x::xs) (eC Γ E (M.Gf F es))):PE X (.Call g (x::xs) [] pos) (tD Γ E (M.eval F (.bi b es))):=by
 obtain⟨p,rfl,j,l⟩:=Wa (a2 q).2
 have i:=c.blt _ (m3 b)
 have o:=Xl (m3 b)
 have bt:=rC b hb
 have m:Wn X (kM b) (lP Γ E b):=AE b hb c.K (c.calm (a2 q).1)
 have a: ∀Y H Q,tD Γ E (M.eval F (.bi b es)) Y H Q->lj (lP Γ E b) (eC Γ E (M.Gf F es)) Y H Q:=λY H Q t=>by
  obtain⟨G,U,h,s,p⟩:=t
  rw [M.eval]at p
  refine wv s.heap Ext.refl s p λw D y z C e1 B d A v=> ?_
  exact⟨z,y,w,d.heap,A,ar.mk v e1 s.heap⟩
 have d:=Za (env:=X.env) (es:=xs) (r _ Aa8)
 have f:=Xh (env:=X.env) (pos:=pos) λe u=>r e (Aa5 _ u)
 cases b with
 | len=>exact PE.imp (Zg m (c.gl _ j) i bt n o l d f) a
 | divmod=>exact PE.imp (Zg m (c.gl _ j) i bt n o l d f) a
 | min=>cases hb
 | max=>cases hb
 | int=>cases hb
 | list=>cases hb
 | tuple=>exact PE.imp (pB m (c.gl _ j) i bt n o l d f) a
 | sum=>exact PE.imp (Zg m (c.gl _ j) i bt n o l d f) a
 | all=>exact PE.imp (Zg m (c.gl _ j) i bt n o l d f) a
 | any=>exact PE.imp (Zg m (c.gl _ j) i bt n o l d f) a
 | sorted=>exact PE.imp (Zg m (c.gl _ j) i bt n o l d f) a
 | str=>cases hb
 | abs=>cases hb
def bX {o:Expr}{n:Str}{env:Env}(h:j4 o=k9) (w:Sem Value):attributeBase o n env w=w:=by
 cases o with
 | Call f a b p=>
  cases a with
  | nil=>exact absurd (show y9=k9 from h) Aa4
  | cons x a=>cases f<;>rfl
 | _=>rfl
def uN: "range" ∈bP:=by decide
def p6: "list" ∈bP:=by decide
def qW (b:Go Γ F X E k cf){g o:Expr}{d:Pos}(m:ke cf "list" g=true) (j:bC cf.sc "range" o=true) (q:xa x=true) (z:PE X x (tD Γ E (M.eval F a))):PE X (.Call g [.Call o [x] [] d] [] pos) (tD Γ E (M.eval F (.bx a))):=by
 obtain⟨p,rfl,v,L⟩:=Wa (a2 m).2
 obtain⟨O,rfl,f,A⟩:=Wa j
 refine PE.imp (yO (b.calm (a2 m).1) (b.gl _ v) (b.blt _ p6) (b.gl _ f) (b.blt _ uN) (zd z ji (Za q)) (Za q)) λY H Q J=> ?_
 obtain⟨G,U,h,s,p⟩:=J
 rw [M.eval]at p
 refine Xa s.heap Ext.refl s p λP v1 N B r e1 D w C K e=> ?_
 obtain⟨n,y,e⟩:=e.of
 cases C.int y
 split at e
 .rename_i c
  refine⟨n.toNat,by rw [Af7 c.1],by omega,λl I=> ?_⟩
  have t:aa Γ B r ((Aa7 n.toNat).map λ(i:Nat)=>M.D.int (i:Int)) ((Aa7 n.toNat).map λ(i:Nat)=>V.int (i:Int)):=by
   induction Aa7 n.toNat with
   | nil=>rfl
   | cons i is u=>exact⟨_,_,rfl,rfl,u⟩
  exact ar.own (ar.mk e e1 s.heap) w.heap t l I
 .exact e.elim
def AN (m:Go Γ F X E k cf){s:M.Tx}{d:List M.Tx}{k1 k2:Nat}{f i b c:Pos}(j:(b.endLine==c.line)=k9) (hb:kn (aO s) (d.map aO)=k9):
 PE X (.Call (.Attribute (.Constant (.str (aO s)) k1 f) (Xb "split") b) [.Constant (.str bA) k2 i] [] c) (tD Γ E (M.eval F (.gb s d))):=by
 refine PE.imp (Am PySem.F.plainAttrs_str PySem.F.slot_str_split PySem.F.type_str_split pW sU mu (zd mu ji rfl) rfl rfl j rfl rfl) λY H Q l=> ?_
 obtain⟨G,U,h,e,p⟩:=l
 rw [M.eval]at p
 exact⟨⟨_,rfl⟩,aO s,d.map aO,rfl,rfl,hb,λa g=>ar.own (ar.mk p Ext.refl e.heap) e.heap (qE _) a g⟩
def sx (b:Go Γ F X E k cf){t:M.Ty}{g:Expr}(f:t≠ .ai) (m:bC cf.sc "isinstance" g=true) (r:bC cf.sc (ec t) y=true) (l:xa x=true) (A:PE X x (tD Γ E (M.eval F a))):PE X (.Call g [x,y] [] pos) (tD Γ E (M.eval F (.cT a t))):=by
 obtain⟨p,rfl,u,z⟩:=Wa m
 obtain⟨q,rfl,o,C⟩:=Wa r
 have kD:ec t∈bP:=by cases t<;>first | exact absurd rfl f | decide
 have bt:bootBuiltins (Xb (ec t))=y0 (.type (ec t)):=by cases t<;>first | exact absurd rfl f | decide +kernel
 have bi:bootBuiltins (Xb "isinstance")=some (.builtin "isinstance"):=boot_isinstance
 have d: "isinstance" ∈bP:=by decide
 have i:PE X (.Name (Xb (ec t)) q) (tC (.ty (ec t))):=z9 (b.gl _ o) (b.blt _ kD) bt rfl (Xl kD) C
 refine PE.imp (Zg (ua b.K) (b.gl _ u) (b.blt _ d) bi (zd A (zd i ji) (Za l)) (Xl d) z (Za l) rfl) λY H Q n=> ?_
 obtain⟨G,U,h,s,p⟩:=n
 rw [M.eval]at p
 refine Xa s.heap Ext.refl s p λJ v1 B D L e1 K j I N e=> ?_
 obtain⟨c,w,e⟩:=e.of
 exact⟨D,B,J,v1,t,c,rfl,f,j.heap,I,w,aj.val e e1 j.heap (v:= .bl c) rfl trivial⟩
theorem J8 (b:Go Γ F X E k cf): ∀ {a:List String}{c:List Expr},zx cf a c=k9->PA X c (λ_ H Q=>Q (a.map λt=> .ref (Γ.ca t)) H)/\(∀ t∈a,t∈Γ.own)/\a.length=c.length
 | [],[],_=>⟨ji,λ_ h=>absurd h (by simp),rfl⟩
 | [],_::_,h=>by simp [zx]at h
 | _::_,[],h=>by simp [zx]at h
 | t::a,z::c,h=>by
  unfold zx at h
  rw [Aa1,Aa1]at h
  obtain⟨⟨i,e⟩,g⟩:=h
  obtain⟨p,rfl,f,j⟩:=Wa i
  obtain⟨i1,i2,i3⟩:=J8 b g
  refine⟨?_,λu d=> ?_,congrArg (· +1) i3⟩
  .exact zd (XM (v:= .ref (Γ.ca t)) (b.gl _ f) (b.cls t e) rfl j) i1
  .rcases Ab7.mp d with rfl | d
   .rw [← b.ow];exact Ag.mp e
   .exact i2 u d
theorem XF {c:String}(b:dD Γ c): ∀ {a:List String},(∀ t∈a,t∈Γ.own)->PySem.W.kitAny Γ.K (.ref (Γ.ca c)) ((a.map Γ.ca).map Value.ref)=y0 (a.any (M.GQ Γ.cl 8 c).contains)
 | [],_=>rfl
 | t::a,h=>by
  rw [Ac4,Ac4,PySem.W.kitAny,b.own t (h t Aa8),Ae7]
  cases e:(M.GQ Γ.cl 8 c).contains t with
  | true=>rfl
  | false=>
   rw [Bool.false_or]
   exact XF b λu d=>h u (Aa5 _ d)
def W9 {G:Gh}{H:Hp}{w:M.W}{v:V}{j:List String}{h:M.cu}{b:Bool}(r:ah Γ G H w v) (e:M.bc h w j=y0 b): ∃c x L,v= .ref x/\H x=y0 (WZ x (Γ.ca c) L)/\dD Γ c/\b=j.any (M.GQ h 8 c).contains:=by
 unfold M.bc at e
 split at e
 .rename_i c
  rcases r with⟨_,x,g,_,i,a⟩ | ⟨z,_⟩
  .exact⟨c,x,u0,g,i,a,(Ad8.inj e).symm⟩
  .exact absurd rfl z
 .rename_i c f d
  obtain⟨x,l,u,g,p,i,a,n,k,o,m⟩:=r
  exact⟨c,x,y0 l,g,a,k,(Ad8.inj e).symm⟩
 .cases e
def ri (d:Go Γ F X E k cf){t:String}{g:Expr}(r:t= "ValueError" \/cf.own.contains t=true) (C:bC cf.sc "isinstance" g=true) (D:bC cf.sc t y=true) (f:xa x=true) (N:PE X x (tD Γ E (M.eval F a))):
 PE X (.Call g [x,y] [] pos) (tD Γ E (M.eval F (.bc a k9 [t]))):=by
 obtain⟨p,rfl,I,L⟩:=Wa C
 obtain⟨q,rfl,u,A⟩:=Wa D
 have bi:bootBuiltins (Xb "isinstance")=some (.builtin "isinstance"):=boot_isinstance
 have j: "isinstance" ∈bP:=by decide
 have fin: ∀(v:V),PE X (.Name (Xb t) q) (tC v)->(∀ c,dD Γ c-> ∀x b,b= [t].any (M.GQ Γ.cl 8 c).contains-> ∀e (H:Hp) (Q:VK),H x=y0 (WZ x (Γ.ca c) e)->Q (.bl b) H->ot X.K [.ref x,v] H Q) →
  PE X (.Call (.Name (Xb "isinstance") p) [x,.Name (Xb t) q] [] pos) (tD Γ E (M.eval F (.bc a true [t]))):=fun v P n=>by
  refine PE.imp (Zg ZR (d.gl _ I) (d.blt _ j) bi (zd N (zd P ji) (Za f)) (Xl j) L (Za f) rfl) λY H Q Z=> ?_
  obtain⟨G,U,h,s,p⟩:=Z
  rw [M.eval]at p
  refine Xa s.heap Ext.refl s p λw1 v1 h1 G1 B e1 W J S f1 o=> ?_
  obtain⟨b,K,o⟩:=o.of
  obtain⟨c,R,e,rfl,T,O,w⟩:=W9 S K
  rw [d.cl]at w
  exact n c O R b w e B Q T (aj.val o e1 J.heap (v:= .bl b) rfl trivial)
 by_cases m:cf.own.contains t=k9
 .refine fin (.ref (Γ.ca t)) (XM (d.gl _ u) (d.cls t m) rfl A) λc i x b l e H Q f q=> ?_
  have n:=i.own t (by rw [← d.ow];exact Ag.mp m)
  refine⟨x,Γ.ca c,e,b,d.K▸i.k,f,.inl ⟨Γ.ca t,rfl,?_⟩,q⟩
  rw [d.K,n,l]
  simp
 .have r:t= "ValueError" :=r.elim id fun z=>absurd z m
  subst r
  have gF: "ValueError" ∈bP:=by decide
  refine fin (.ty "ValueError") (z9 (d.gl _ u) (d.blt _ gF) B6 rfl (Xl gF) A) fun c i x b l e H Q f q=> ?_
  refine⟨x,Γ.ca c,e,b,d.K▸i.k,f,.inr (.inl ⟨"ValueError",rfl,?_⟩),q⟩
  rw [d.K,i.ve,l]
  simp
def uH (d:Go Γ F X E k cf){e:List String}{g:Expr}{j:List Expr}{n:Nat}{L:Pos}(O:j.length<=1000) (u:bC cf.sc "isinstance" g=true) (w:zx cf e j=true) (q:xa x=true) (C:PE X x (tD Γ E (M.eval F a))):
 PE X (.Call g [x,.Tuple j n L] [] pos) (tD Γ E (M.eval F (.bc a y9 e))):=by
 obtain⟨p,rfl,y,B⟩:=Wa u
 have bi:bootBuiltins (Xb "isinstance")=some (.builtin "isinstance"):=boot_isinstance
 have f: "isinstance" ∈bP:=by decide
 obtain⟨i1,i2,i3⟩:=J8 d w
 refine PE.imp (Zg ZR (d.gl _ y) (d.blt _ f) bi (zd C (zd (nj i1) ji) (Za q)) (Xl f) B (Za q) rfl) λY H Q P=> ?_
 obtain⟨G,U,h,s,p⟩:=P
 rw [M.eval]at p
 refine Xa s.heap Ext.refl s p λW v1 T V R e1 N z J S i=> ?_
 obtain⟨b,A,i⟩:=i.of
 obtain⟨c,I,D,rfl,r,o,m⟩:=W9 J A
 rw [d.cl]at m
 refine⟨?_,λt l=> ?_⟩
 .rw [Aa0,i3];exact Ae8 (Zh O)
 have K:=z.heap.dI (.tup (e.map λt=> .ref (Γ.ca t))) l
 have e2:=e1.trans s.heap (Qe (.tup (e.map λt=> .ref (Γ.ca t))) l)
 refine⟨I,Γ.ca c,D,b,d.K▸o.k,?_,.inr (.inr ⟨t,e.map Γ.ca,rfl,?_,?_⟩),aj.val i e2 K (v:= .bl b) rfl trivial⟩
 .rw [qa (ja r l)];exact r
 .rw [Qa,Af2];rfl
 .rw [d.K,XF o i2,m]
def uy {a:Type}(xs:List a) (i:Int):M.bq xs i=L2.bq xs i:=rfl
theorem aa.bq {G:Gh}{H:Hp}{ds:List M.D}{vs:List V}{i:Int}{d:M.D}(z:aa Γ G H ds vs) (e:M.bq ds i=y0 d): ∃v,L2.bq vs i=y0 v/\ao Γ G H d v:=by
 unfold M.bq at e
 unfold L2.bq
 rw [z.length]at e
 cases q:M.cX vs.length i with
 | none=>rw [q]at e;cases e
 | some j=>
  rw [q]at e
  obtain⟨v,c,a⟩:=z.get (show ds[j]? =y0 d from e)
  refine⟨v,?_,a⟩
  have b:L2.cX vs.length i=y0 j:=q
  rw [b]
  exact c
def tr (a:Xd y=k9):Q7 y:=by
 intro o i
 cases y<;>first | rfl | (simp [Xd]at a)
def rq (r:Go Γ F X E k cf) (B:Xd y=k9) (J:PE X x (tD Γ E (M.eval F a))) (hb:PE X y (tD Γ E (M.eval F b))):PE X (.Subscript x y pos) (tD Γ E (M.eval F (.ix a b))):=by
 refine PE.imp (As tS J hb (tr B)) λY H Q R=> ?_
 obtain⟨G,U,h,s,p⟩:=R
 rw [M.eval]at p
 refine Xa s.heap Ext.refl s p λO v1 h1 G1 S e1 P w j T I=> ?_
 refine Xa s.heap e1 w I λZ v2 D V H2 e2 o n K W m=> ?_
 obtain⟨d,q,m⟩:=m.of
 have j:=j.ext o w.heap
 unfold M.dm at q
 split at q
 .rename_i i C
  cases K.int C
  split at q
  .rename_i g N
   cases j.str N
   split at q
   .rename_i hl
    cases c:M.bq g i with
    | none=>rw [c]at q;cases q
    | some t=>
     rw [c]at q
     cases q
     refine .inr (.inr ⟨aO g,i,t,rfl,rfl,by rw [wc];have:=jg;omega,?_,aj.val m e2 n.heap (v:= .str (aO [t])) rfl trivial⟩)
     have:(aO g).cps.toList=g:=by simp [aO]
     rw [this,←uy]
     exact c
   .cases q
  .cases c:O.seq? D with
   | none=>rw [c]at q;cases q
   | some A=>
    rw [c]at q
    obtain⟨l,z,rfl,f,L⟩:=j.seq n.heap c
    obtain⟨v,e,rd⟩:=L.bq (show M.bq A i=y0 d from q)
    have u:=aj.val m e2 n.heap rd trivial
    rcases f with f | f
    .exact .inl ⟨l,z,i,v,rfl,rfl,r.K▸f,e,u⟩
    .exact .inr (.inl ⟨l,z,i,v,rfl,rfl,r.K▸f,e,u⟩)
 .cases q
end
section
variable {Γ:Ge}{F:M.Fx}{X:Cx}{E:XK}{k:Nat}{cf:Cf}{a b c:M.E}{x y z:Expr}{pos p2:Pos}
def W5 {c:Type}(xs:List c) (a b:Option Int):M.cut xs a b=(xs.drop (HT.aC xs.length 0 a)).take (HT.aC xs.length xs.length b-HT.aC xs.length 0 a):=by
 unfold M.cut
 have e: ∀d o,M.aC xs.length d o=HT.aC xs.length d o:=λd o=>by cases o<;>rfl
 rw [e,e]
theorem aa.cut {G:Gh}{H:Hp}{ds:List M.D}{vs:List V}(z:aa Γ G H ds vs) (b a:Option Int):aa Γ G H (M.cut ds b a) (fM vs b a):=by
 rw [W5]
 unfold fM
 rw [z.length]
 exact(z.drop _).take _
def o8 {m G:Gh}{k H:Hp}{t h:M.AH}{U:M.Sl}{Y:St}{Q:VK}{w:M.W}{v:V}{b d:Option Int}(s:ae Γ m t k) (e:Ext m k G H) (i:ae Γ G h H) (r:ah Γ G H w v)
 (p:aj Γ E m k (M.eJ w b d h) λw _ G' H'=> ∀v,ah Γ G' H' w v->az U Y k w v->Q v H'):((kP Γ.K v b d H Q\/kI Γ.K v b d H Q)\/kG Γ.K v b d H Q)\/mw v b d H Q:=by
 unfold M.eJ at p
 split at p
 .rename_i z q
  cases r.str q
  split at p
  .rename_i c
   have u:=jg
   refine .inr ⟨_,rfl,by rw [wc];omega,?_⟩
   have e1:gf (aO z) b d=aO (M.cut z b d):=by
    unfold gf
    rw [wc,W5]
    simp [aO]
   rw [e1]
   exact ar.v (ar.mk p e s) i rfl
  .exact p.elim
 .split at p
  .rename_i n q
   obtain⟨l,f,rfl,j,g⟩:=r.tup q
   by_cases c:HT.aC f.length 0 b=0/\HT.aC f.length f.length d=f.length
   .have e2:M.cut n b d=n:=by
     rw [W5,g.length,c.1,c.2,List.drop_zero,Nat.sub_zero,←g.length,Al2]
    rw [e2]at p
    exact .inl (.inr ⟨l,f,rfl,j.sq,c.1,c.2,p G H e i _ ⟨l,f,rfl,j,g⟩ trivial⟩)
   .exact .inl (.inl (.inr ⟨l,f,rfl,j.sq,c,λa o=>ar.tup (ar.mk p e s) i (g.cut b d) a o⟩))
  .split at p
   .rename_i n q
    obtain⟨l,f,rfl,j,g⟩:=r.lst i q
    exact .inl <| .inl <| .inl ⟨l,f,rfl,j,λa o=>ar.own (ar.mk p e s) i (g.cut b d) a o⟩
   .exact p.elim
def pG (K:Aa3):V->Option Int->Option Int->Hp->VK->Prop:=λx lo hi H Q=>((kP K x lo hi H Q\/kI K x lo hi H Q)\/kG K x lo hi H Q)\/mw x lo hi H Q
def oz:eB X (pG X.K):=((eS.or uO).or sm).or l5
def Bt (e:Go Γ F X E k cf){d:M.E}{l:Expr}(j:PE X x (tD Γ E (M.eval F a))) (r:PE X l (tD Γ E (M.eval F d))):PE X (.Subscript x (.Slice (y0 l) u0 u0 p2) pos) (tD Γ E (M.eval F (.dG a d))):=by
 refine PE.imp (jQ oz j (o9 r) j3) λY H Q t=> ?_
 obtain⟨G,U,h,s,p⟩:=t
 rw [M.eval]at p
 refine Xa s.heap Ext.refl s p λI v1 B C u e1 q c o v g=> ?_
 refine Xa s.heap e1 c g λA v2 z w D e2 b f m y p2=> ?_
 obtain⟨i,n,p2⟩:=p2.of
 exact⟨i,m.int n,e.K▸o8 s.heap e2 f.heap (o.ext b c.heap) p2⟩
def ug (e:Go Γ F X E k cf){d:M.E}{u:Expr}(j:PE X x (tD Γ E (M.eval F a))) (m:PE X u (tD Γ E (M.eval F d))):PE X (.Subscript x (.Slice u0 (y0 u) u0 p2) pos) (tD Γ E (M.eval F (.d7 a d))):=by
 refine PE.imp (jQ oz j j3 (o9 m)) λY H Q r=> ?_
 obtain⟨G,U,h,s,p⟩:=r
 rw [M.eval]at p
 refine Xa s.heap Ext.refl s p λI v1 B C t e1 q c o v g=> ?_
 refine Xa s.heap e1 c g λA v2 z w D e2 b f l y p2=> ?_
 obtain⟨i,n,p2⟩:=p2.of
 exact⟨i,l.int n,e.K▸o8 s.heap e2 f.heap (o.ext b c.heap) p2⟩
def Gh.cell (G:Gh) (a:Addr):Gh:= { G with aH:=λr=>if r=G.n then a else G.aH r,n:=G.n+1 }
def qU {G:Gh}{H:Hp}(a:Addr):Mon G H (G.cell a) H:=⟨λ_ _ _ z=>z,Ad3 _,λr b=>by show(if r=G.n then a else G.aH r)=_;rw [if_neg (by omega)],λ_ z=>z⟩
def jS {G:Gh}{H:Hp}{h:M.AH}{a:Addr}{c:M.Cell}(d:ae Γ G h H) (n: ¬G.fz a) (k:c7 G a) (z:a8 Γ G H a c):ae Γ (G.cell a) (h++ [c]) H where
 len:=by rw [Ab5,d.len];rfl
 any:=λr j q=>by
  show ¬G.fz (if r=G.n then a else G.aH r)/\a8 Γ (G.cell a) H (if r=G.n then a else G.aH r) j
  by_cases i:r=G.n
  .rw [if_pos i]
   rw [i,←d.len,Ad0 (Aa6 _),Nat.sub_self]at q
   cases q
   exact⟨n,z.mon (qU a) λ_ e=>e⟩
  .rw [if_neg i]
   have g:r<G.n:=by
    have:=(Ab.mp q).1
    rw [Ab5,d.len]at this
    simp at this
    omega
   rw [Ad2 (by rw [d.len];exact g)]at q
   exact⟨(d.any r j q).1,(d.any r j q).2.mon (qU a) λ_ e=>e⟩
 inj:=λr s m l e=>by
  have m:r<G.n+1:=m
  have l:s<G.n+1:=l
  have e:(if r=G.n then a else G.aH r)=(if s=G.n then a else G.aH s):=e
  by_cases f:r=G.n
  .by_cases b:s=G.n
   .omega
   .rw [if_pos f,if_neg b]at e
    exact absurd e.symm (k s (by omega))
  .by_cases b:s=G.n
   .rw [if_neg f,if_pos b]at e
    exact absurd e (k r (by omega))
   .rw [if_neg f,if_neg b]at e
    exact d.inj r s (by omega) (by omega) e
 live:=d.live
def JH {G:Gh}{H:Hp}{h:M.AH}{a:Addr}{xs:List M.D}{vs:List V}(b:ae Γ G h H) (f: ¬G.fz a) (c:c7 G a) (e:H a=y0 (.lst vs)) (z:aa Γ G H xs vs) (d:M.Gd xs=k9):ae Γ (G.cell a) (h++ [.lst xs]) H:=jS b f c ⟨d,vs,e,z⟩
def sI {G:Gh}{H:Hp}{h:M.AH}{a:Addr}(d:ae Γ G h H) (f: ¬G.fz a) (g:c7 G a){c:String}{b:Addr}(e:H a=y0 (.ins (Γ.ca c) b [])):ae Γ (G.cell a) (h++ [.obj c []]) H:=jS d f g ⟨b,[],e,rfl⟩
def QE {d G:Gh}{b H:Hp}{a:Addr}(e:Ext d b G H) (i:b a=u0):Ext d b (G.cell a) H where
 keep:=e.keep
 le:=Ac0 e.le (Ad3 _)
 aH:=λr g=>by show(if r=G.n then a else G.aH r)=_;rw [if_neg (by have:=e.le;omega)];exact e.aH r g
 new:=λr h c=>by
  have c:r<G.n+1:=c
  show b (if r=G.n then a else G.aH r)=u0
  by_cases f:r=G.n
  .rw [if_pos f];exact i
  .rw [if_neg f];exact e.new r h (by omega)
 fz:=e.fz
 old:=e.old
 cells:=e.cells
def W7 (n:PE X x (tD Γ E (M.eval F a))):PE X x (tD Γ E (M.eval F (.share a))):=by
 refine PE.imp n λY H Q z=> ?_
 obtain⟨G,U,h,s,p⟩:=z
 rw [M.eval]at p
 refine Xa s.heap Ext.refl s p λt v1 c g A e1 u i q j b=> ?_
 cases t with
 | own e=>
  obtain⟨l,C,rfl,w,r,o,m⟩:=q
  obtain⟨B,k,y⟩:=j
  cases k
  have b:aj Γ E G H (if M.Gd e=k9 then M.aw (.ref c.length) (c++ [.lst e])else .fail) _:=b
  by_cases f:M.Gd e=k9
  rotate_left
  .rw [if_neg f]at b;exact b.elim
  rw [if_pos f]at b
  refine aj.val b (QE e1 y) (JH i.heap w r o m f) (v:= .ref l) ?_ trivial
  show c.length<g.n+1/\V.ref l= .ref (if c.length=g.n then l else g.aH c.length)
  rw [i.heap.len,if_pos rfl]
  exact⟨Ae6 _,rfl⟩
 | v d=>exact b.elim
 | bor e=>exact b.elim
end
structure zo (Γ:Ge) (J:It) (ds:List M.D) (C:Gh->Hp->Prop):Prop where
 go: ∀i G H,C G H->i<ds.length->J.go i H
 dH: ∀i G H x H',C G H->i<ds.length->J.dH i H x H'-> ∃G',Ext G H G' H'/\(∀ h,ae Γ G h H->ae Γ G' h H')/\ ∃d,ds[i]? =y0 d/\ao Γ G' H' d x
 stop: ∀i G H,C G H->ds.length<=i->i<=ds.length->J.stop i H
 keep: ∀G H G' H' h,C G H->Ext G H G' H'->ae Γ G h H->C G' H'
noncomputable def xh (U:M.Sl) (Y:St) (H:Hp):Hp:=λa=>open Classical in if ∃(i:Nat) (xs:List M.D),M.Gp U i=y0 (.own xs)/\Y[i]? =y0 (y0 (.ref a))then u0 else H a
def eM (Γ:Ge) (E:XK) (a:Bool) (m:M.Sl->M.AH->M.R (List M.D)):TI:=λY H R=> ∃G U h,ak Γ G U h Y H/\aj Γ E G H (m U h) λds _ G' H'=> ∀J C,zo Γ J ds C->C G' H'->(a=k9->C G' (xh U Y H'))->R J H'
def PI.imp {X:Cx}{tg e:Expr}{t t':TI}(h:PI X tg e t) (k: ∀Y H R,t' Y H R->t Y H R):PI X tg e t':=λa s Y H R I q=>h a s Y H R I (k _ _ _ q)
section
variable {Γ:Ge}{F:M.Fx}{X:Cx}{E:XK}{k:Nat}{cf:Cf}{a b c:M.E}{x y z tg:Expr}{pos p2:Pos}{lp:Bool}
def iw (Γ:Ge) (G:Gh) (H:Hp) (l:Addr) (vs:List V):Prop:=(Rd H l (.lst vs)/\c7 G l)\/nM Γ l vs
def CL (Γ:Ge) (ds:List M.D) (l:Addr) (vs:List V) (G:Gh) (H:Hp):Prop:=iw Γ G H l vs/\aa Γ G H ds vs
def iw.sq {G:Gh}{H:Hp}{l:Addr}{vs:List V}(z:iw Γ G H l vs):aY Γ.K H l vs:=z.elim (λz=> .inl z.1) .inr
def gm.lE {G:Gh}{H:Hp}{h:M.AH}{l:Addr}{vs:List V}(z:gm Γ G H l vs) (a:ae Γ G h H):iw Γ G H l vs:=z.elim (λz=> .inl ⟨z.2,a.off z.1⟩) .inr
def CL.keep {ds:List M.D}{l:Addr}{vs:List V}{G c:Gh}{H H':Hp}{h:M.AH}(z:CL Γ ds l vs G H) (e:Ext G H c H') (d:ae Γ G h H):CL Γ ds l vs c H':=by
 obtain⟨a,f⟩:=z
 refine⟨?_,f.ext e d⟩
 rcases a with⟨a,b⟩ | a
 .refine .inl ⟨e.rd a b,?_⟩
  rcases a with a | ⟨o,a⟩
  .exact e.off a b
  .exact e.off a b
 .exact .inr a
def CL.walk {ds:List M.D}{l:Addr}{vs:List V}{K:Aa3}(d:K=Γ.K):zo Γ (gO K l) ds (CL Γ ds l vs) where
 go:=by
  rintro i G H ⟨b,c⟩ a
  obtain⟨v,e,_⟩:=c.get (Ab2 a)
  exact⟨vs,v,d▸b.sq,e⟩
 dH:=by
  rintro i G H x f ⟨b,c⟩ a ⟨e,y⟩
  subst e
  obtain⟨v,e,rd⟩:=c.get (Ab2 a)
  have:=y vs (d▸b.sq)
  rw [e]at this
  cases this
  exact⟨G,Ext.refl,λ_ q=>q,_,Ab2 a,rd⟩
 stop:=λi G H ⟨b,c⟩ a _=>⟨vs,d▸b.sq,by rw [← c.length];exact a⟩
 keep:=λG H j f h z e g=>z.keep e g
def CT (Γ:Ge) (ds:List M.D) (l:Addr) (vs:List V) (G:Gh) (H:Hp):Prop:=eD Γ G H l vs/\aa Γ G H ds vs
def eD.mon {G a:Gh}{H H':Hp}{l:Addr}{vs:List V}(z:eD Γ G H l vs) (e:Mon G H a H'):eD Γ a H' l vs:=z.elim (λz=> .inl ⟨e.fz l z.1,e.keep l _ z.1 z.2⟩) λz=> .inr z
def CT.walk {ds:List M.D}{l:Addr}{vs:List V}{K:Aa3}(d:K=Γ.K):zo Γ (gT K l) ds (CT Γ ds l vs) where
 go:=by
  rintro i G H ⟨b,c⟩ a
  obtain⟨v,e,_⟩:=c.get (Ab2 a)
  exact⟨vs,v,d▸b.sq,e⟩
 dH:=by
  rintro i G H x g ⟨b,c⟩ a ⟨e,y⟩
  subst e
  obtain⟨v,e,rd⟩:=c.get (Ab2 a)
  have:=y vs (d▸b.sq)
  rw [e]at this
  cases this
  exact⟨G,Ext.refl,λ_ q=>q,_,Ab2 a,rd⟩
 stop:=λi G H ⟨b,c⟩ a _=>⟨vs,d▸b.sq,by rw [← c.length];exact a⟩
 keep:=λG H j g h z e f=>⟨z.1.mon (e.mon f),z.2.ext e f⟩
def wV {b:Int}{n:Nat}:zo Γ (km b n) ((Aa7 n).map λ(i:Nat)=>M.D.int (b+(i:Int))) (λ_ _=>True) where
 go:=λi G H _ a=>show i<n by simpa using a
 dH:=λi G H x d _ a c=>by
  obtain⟨e,y⟩:=c
  subst e y
  have a:i<n:=by simpa using a
  exact⟨G,Ext.refl,λ_ q=>q,.int (b+i),by simp [a],rfl⟩
 stop:=λi G H _ a _=>show n<=i by simpa using a
 keep:=λ_ _ _ _ _ _ _ _=>trivial
def xw {z:M.Tx}:zo Γ (gj (aO z)) (M.fS z) (λ_ _=>True) where
 go:=λi G H _ a=>by
  have a:i<z.length:=by simpa [M.fS]using a
  exact⟨z[i],by simp [aO,a]⟩
 dH:=λi G H x g _ a f=>by
  obtain⟨e,c,b,d⟩:=f
  subst e d
  have a:i<z.length:=by simpa [M.fS]using a
  have b:z[i]? =y0 c:=by simpa [aO]using b
  exact⟨G,Ext.refl,λ_ q=>q,.str [c],by simp [M.fS,b],rfl⟩
 stop:=λi G H _ a _=>by
  have a:z.length<=i:=by simpa [M.fS]using a
  show(aO z).cps[i]? =u0
  simp [aO,a]
 keep:=λ_ _ _ _ _ _ _ _=>trivial
def Jh {U:M.Sl}{Y:St}{H:Hp}{l:Addr}(a: ¬ ∃(i:Nat) (xs:List M.D),M.Gp U i=y0 (.own xs)/\Y[i]? =y0 (y0 (.ref l))):xh U Y H l=H l:=by
 unfold xh
 rw [if_neg a]
def Qk {G:Gh}{U:M.Sl}{h:M.AH}{Y:St}{H:Hp}(s:ak Γ G U h Y H){i:Nat}{xs:List M.D}{l:Addr}(e:M.Gp U i=y0 (.own xs)) (d:Y[i]? =y0 (y0 (.ref l))): ¬G.fz l/\c7 G l/\ ∃vs,H l=y0 (.lst vs)/\aa Γ G H xs vs:=by
 obtain⟨v,b,a,vs,k,j,g,f,c⟩:=s.slot i _ e
 rw [d]at b
 cases b
 cases k
 exact⟨j,g,vs,f,c⟩
def zp {G:Gh}{U:M.Sl}{h:M.AH}{Y:St}{H:Hp}(s:ak Γ G U h Y H):Mon G H G (xh U Y H):=by
 refine⟨λa o z e=> ?_,Aa6 _,λ_ _=>rfl,λ_ z=>z⟩
 rw [Jh λ⟨i,d,b,c⟩=>(Qk s b c).1 z]
 exact e
def vf (q:Go Γ F X E k cf) (A:PE X x (tD Γ E (M.eval F a))):PI X tg x (eM Γ E y9 (M.Gk F (.seq a))):=by
 refine PI.imp (lx A) λY H R K=> ?_
 obtain⟨G,U,h,s,p⟩:=K
 rw [M.Gk]at p
 refine Xa s.heap Ext.refl s p λD v1 B n e e1 I r o L c=> ?_
 have lst: ∀ {f:List M.D},aj Γ E G H (.ok f B) (λf x y t=> ∀J C,zo Γ J f C->C y t->(y9=k9->C y (xh U Y t))->R J t)->(∃ l b,v1= .ref l/\iw Γ n e l b/\aa Γ n e f b) →
  (∃ a,v1= .ref a/\(∃ w,aY X.K e a w)/\R (gO X.K a) e)\/(∃ a,v1= .ref a/\(∃ w,bK X.K e a w)/\R (gT X.K a) e)\/ ∃z,v1= .str z/\R (gj z) e:=λ{f} p ⟨l,b,g,j,m⟩=>
  .inl ⟨l,g,⟨b,q.K▸j.sq⟩,p n e e1 r.heap _ _ (CL.walk (vs:=b) q.K) ⟨j,m⟩ λz=>absurd z Aa4⟩
 cases D with
 | v d=>
  cases d with
  | tup f=>
   obtain⟨l,b,rfl,j,i⟩:=o
   exact .inr (.inl ⟨l,rfl,⟨b,q.K▸j.sq⟩,c n e e1 r.heap _ _ (CT.walk (vs:=b) q.K) ⟨j,i⟩ λz=>absurd z Aa4⟩)
  | lst f=>obtain⟨l,b,g,j,i⟩:=o;exact lst c ⟨l,b,g,j.lE r.heap,i⟩
  | ai=>exact c.elim
  | bl _=>exact c.elim
  | int _=>exact c.elim
  | str z=>
   cases (show v1= .str (aO z)from o)
   exact .inr (.inr ⟨_,rfl,c n e e1 r.heap _ _ xw trivial λz=>absurd z Aa4⟩)
  | ref _=>exact c.elim
  | exc _ _=>exact c.elim
  | err _ _ _=>exact c.elim
 | own f=>obtain⟨l,b,g,_,i,m,u⟩:=o;exact lst c ⟨l,b,g,.inl ⟨.inl m,i⟩,u⟩
 | bor f=>obtain⟨l,b,g,i,m,u⟩:=o;exact lst c ⟨l,b,g,.inl ⟨m,i⟩,u⟩
def vj (n:Int):((Aa7 n.toNat).map λ(i:Nat)=>M.D.int (i:Int))=(Aa7 n.toNat).map λ(i:Nat)=>M.D.int (0+(i:Int)):=by
 congr 1;funext i;rw [Int.zero_add]
def B5: "range" ∈bP:=by decide
def wx (d:Go Γ F X E k cf){g:Expr}(i:bC cf.sc "range" g=true) (e:xa x=true) (o:PE X x (tD Γ E (M.eval F a))):PI X tg (.Call g [x] [] pos) (eM Γ E lp (M.Gk F (.aB a))):=by
 obtain⟨p,rfl,l,w⟩:=Wa i
 refine PI.imp (pq (d.gl _ l) (d.blt _ B5) (zd o ji (Za e)) (Za e)) λY H R j=> ?_
 obtain⟨G,U,h,s,p⟩:=j
 rw [M.Gk]at p
 refine Xa s.heap Ext.refl s p λz v1 y r f e1 u m t v b=> ?_
 obtain⟨n,q,b⟩:=b.of
 split at b
 .rename_i c
  rw [M.G9]at c
  cases t.int q
  rw [vj]at b
  exact⟨n,rfl,c.1,c.2,b r f e1 m.heap _ _ wV trivial λ_=>trivial⟩
 .exact b.elim
end
section
variable {Γ:Ge}{F:M.Fx}{X:Cx}{E:XK}{k:Nat}{cf:Cf}
theorem Wh: ∀(U:M.Sl) (i j:Nat) (w:M.W),M.Gp (M.GG U i w) j=if j=i/\i<U.length then y0 w else M.Gp U j
 | [],i,j,w=>by simp
 | x::r,0,0,w=>by simp
 | x::r,0,j+1,w=>by simp
 | x::r,i+1,0,w=>by simp
 | x::r,i+1,j+1,w=>by
  have:=Wh r i j w
  simp only [M.GG,M.Gp,this,Ab0]
  by_cases h:j=i/\i<r.length
  .rw [if_pos h,if_pos (by omega)]
  .rw [if_neg h,if_neg (by omega)]
theorem Wm: ∀(U:M.Sl) (i:Nat) (w:M.W),(M.GG U i w).length=U.length
 | [],_,_=>rfl
 | _::_,0,_=>rfl
 | _::r,i+1,w=>by simp [Wm r i w]
theorem Zn: ∀ {U:M.Sl}{i:Nat}{w:M.W},M.Gp U i=y0 w->i<U.length
 | [],_,_,e=>by simp at e
 | _::_,0,_,_=>by simp
 | _::r,i+1,w,e=>by
  have:=Zn (U:=r) (i:=i) (by simpa using e)
  simp;omega
theorem ak.set {G:Gh}{U:M.Sl}{h:M.AH}{Y:St}{H:Hp}(s:ak Γ G U h Y H){i:Nat}{w:M.W}{v:V}(r:ah Γ G H w v)
 (m:eG w=k9-> ∀(j:Nat) L,j≠i->M.Gp U j=y0 L->eG L=k9-> ∀a,v= .ref a->Y[j]? ≠y0 (y0 (.ref a))):ak Γ G (M.GG U i w) h (Y.set i (y0 v)) H where
 len:=by rw [Wm,Ac9];exact s.len
 slot:=λj L e=>by
  rw [Wh]at e
  by_cases c:j=i/\i<U.length
  .rw [if_pos c]at e
   cases e
   obtain⟨rfl,c⟩:=c
   exact⟨v,Ac1 (by rw [← s.len];exact c),r⟩
  .rw [if_neg c]at e
   have o:j≠i:=λz=>c ⟨z,by subst z;exact Zn e⟩
   obtain⟨u,x,y⟩:=s.slot j L e
   exact⟨u,by rw [Ac6 (Ne.symm o)];exact x,y⟩
 apart:=λp q t L a b e1 e2 k g=>by
  rw [Wh]at e1 e2
  by_cases f:p=i/\i<U.length
  .rw [if_pos f]at e1
   cases e1
   obtain⟨rfl,f⟩:=f
   rw [if_neg (λz=>b z.1.symm)]at e2
   rw [Ac1 (by rw [← s.len];exact f)]at g
   cases g
   rw [Ac6 b]
   exact m rfl q L (Ne.symm b) e2 k a rfl
  .rw [if_neg f]at e1
   have l:p≠i:=λz=>f ⟨z,by subst z;exact Zn e1⟩
   rw [Ac6 (Ne.symm l)]at g
   by_cases d:q=i/\i<U.length
   .rw [if_pos d]at e2
    cases e2
    obtain⟨rfl,d⟩:=d
    rw [Ac1 (by rw [← s.len];exact d)]
    intro z
    cases z
    exact m k p _ l e1 rfl a rfl g
   .rw [if_neg d]at e2
    have n:q≠i:=λz=>d ⟨z,by subst z;exact Zn e2⟩
    rw [Ac6 (Ne.symm n)]
    exact s.apart p q t L a b e1 e2 k g
 heap:=s.heap
def ak.cS {G:Gh}{U:M.Sl}{h:M.AH}{Y:St}{H:Hp}(s:ak Γ G U h Y H){i:Nat}{d:M.D}{v:V}(r:ao Γ G H d v):ak Γ G (M.GG U i (.v d)) h (Y.set i (y0 v)) H:=s.set (w:= .v d) r λz=>by cases z
def fB:List Nat->List V->St->St
 | i::is,v::a,Y=>fB is a (Y.set i (y0 v))
 | _,_,Y=>Y
theorem xz {G:Gh}{h:M.AH}{H:Hp}: ∀ {is:List Nat}{ds:List M.D}{vs:List V}{U a:M.Sl}{Y:St},M.aG is ds U=y0 a->aa Γ G H ds vs->ak Γ G U h Y H->ak Γ G a h (fB is vs Y) H/\is.length=vs.length
 | [],[],_,_,_,_,e,rfl,s=>by cases e;exact⟨s,rfl⟩
 | [],_::_,_,_,_,_,e,_,_=>by simp [M.aG]at e
 | _::_,[],_,_,_,_,e,_,_=>by simp [M.aG]at e
 | i::is,d::ds,_,_,_,_,e,⟨v,r,rfl,f,g⟩,s=>by
  obtain⟨c,b⟩:=xz (is:=is) (ds:=ds) (by simpa [M.aG]using e) g (s.cS (i:=i) f)
  exact⟨c,congrArg (· +1) b⟩
def gM (Γ:Ge) (tg:List Nat) (one:Bool):TG:=λv Y H Q=>match one with
 | true=> ∃i,tg= [i]/\Q (Y.set i (y0 v)) H
 | false=> ∃G ds b a,v= .ref a/\eD Γ G H a b/\aa Γ G H ds b/\tg.length=b.length/\Q (fB tg b Y) H
theorem xL (b:Go Γ F X E k cf): ∀ {is:List Nat}{es:List Expr},jp cf is es=k9->iz X es (λvs Y H Q=>vs.length=is.length/\Q (fB is vs Y) H)
 | [],[],_=>λa s Y H vs f Q I r h=>by
  have c:vs= []:=Ae0 h.1
  subst c
  exact J5 a s Y H [] f Q I r ⟨rfl,h.2⟩
 | [],_::_,h=>by simp [jp]at h
 | _::_,[],h=>by simp [jp]at h
 | i::is,e::es,h=>by
  cases e with
  | Name x p=>
   simp only [jp,Aa1,decide_eq_true_eq]at h
   obtain⟨⟨m,j⟩,l⟩:=h
   have g:=xL b l
   have c:=b.eF x j
   have d:=jC (WL (i:=i) (X:=X) (pos:=p) (by rw [b.N];exact b.nd) (by rw [b.N];exact m) c.1 c.2) g
   intro a s Y H vs f Q I r q
   refine d a s Y H vs f Q I r ?_
   cases vs with
   | nil=>simp at q
   | cons v vs=>
    refine⟨v,vs,rfl,?_⟩
    exact⟨by simpa using q.1,q.2⟩
  | _=>simp [jp]at h
theorem nz {env:Env}: ∀ {is:List Nat}{es:List Expr},jp cf is es=k9->(assignEach es env).length=is.length/\(assignEach es env).findIdx? (·.1)=u0
 | [],[],_=>⟨rfl,rfl⟩
 | [],_::_,h=>by simp [jp]at h
 | _::_,[],h=>by simp [jp]at h
 | i::is,e::es,h=>by
  cases e with
  | Name x p=>
   simp only [jp,Aa1]at h
   obtain⟨b,a⟩:=nz (env:=env) h.2
   have e1:assignEach (.Name x p::es) env=(y9,assign (.Name x p) env)::assignEach es env:=rfl
   rw [e1]
   refine⟨congrArg (· +1) b,?_⟩
   rw [List.findIdx?_cons]
   simp [a]
  | _=>simp [jp]at h
def Xo (c:Go Γ F X E k cf){tg:List Nat}{one:Bool}{e:Expr}(h:Jd cf tg one e=k9):PG X e (gM Γ tg one):=by
 cases one with
 | true=>
  cases e with
  | Name x p=>
   simp only [Jd,Aa1]at h
   cases tg with
   | nil=>simp at h
   | cons i r=>
    cases r with
    | cons _ _=>simp at h
    | nil=>
     simp only [jp,Aa1,decide_eq_true_eq]at h
     obtain⟨_,⟨t,o⟩,_⟩:=h
     have l:=c.eF x o
     have d:=WL (i:=i) (X:=X) (pos:=p) (by rw [c.N];exact c.nd) (by rw [c.N];exact t) l.1 l.2
     intro b s Y H v u Q I r q
     obtain⟨j,e,q⟩:=q
     cases e
     exact d b s Y H v u Q I r q
  | _=>simp [Jd]at h
 | false=>
  cases e with
  | Tuple z n p=>
   obtain⟨m,h⟩:=a2 (show iN cf tg z=k9 from h)
   obtain⟨w,f⟩:=nz (env:=X.env) h
   have d:=nE (k:=n) (pos:=p) (n:=tg.length) (c.calm m) (xL c h) w f
   intro b s Y H v u Q I r q
   obtain⟨G,B,A,a,rfl,y,C,g,q⟩:=q
   exact d b s Y H _ u Q I r ⟨a,A,rfl,c.K▸y.sq,g.symm,g.symm,q⟩
  | _=>simp [Jd]at h
def jj (k:Nat) (l:M.Sl): ∀(i:Nat),M.Gp (Aa k u0++l) (k+i)=M.Gp l i:=by
 induction k with
 | zero=>intro i;simp
 | succ k a=>intro i;rw [Ac3,show k+1+i=(k+i)+1 by omega];exact a i
def wm (k:Nat) (l:M.Sl): ∀ {i:Nat},i<k->M.Gp (Aa k u0++l) i=none:=by
 induction k with
 | zero=>intro i h;omega
 | succ k a=>
  intro i h
  cases i with
  | zero=>rfl
  | succ i=>rw [Ac3];exact a (by omega)
theorem jt: ∀(l:M.Sl) (i:Nat),M.Gp l i=(l[i]?).join
 | [],_=>by simp
 | _::_,0=>by simp
 | _::r,i+1=>by simpa using jt r i
def wA {G:Gh}{U:M.Sl}{h:M.AH}{Y:St}{H:Hp}(s:ak Γ G U h Y H){j:Nat}{w:M.W}(e:M.Gm U j=y0 w): ∃v,Y[j]? =y0 (y0 v)/\ah Γ G H w v/\(eG w=k9-> ∃i,M.Gp U j=y0 i/\eG i=k9)/\ki w=true:=by
 unfold M.Gm at e
 cases q:M.Gp U j with
 | none=>rw [q]at e;cases e
 | some i=>
  obtain⟨v,c,b⟩:=s.slot j i q
  rw [q]at e
  cases i with
  | v d=>cases e;exact⟨v,c,b,λz=>(by cases z),rfl⟩
  | own l=>cases e;obtain⟨a,n,m,o,g,f,k⟩:=b;exact⟨v,c,⟨a,n,m,g,.inl f,k⟩,λ_=>⟨_,rfl,rfl⟩,rfl⟩
  | bor l=>cases e;exact⟨v,c,b,λ_=>⟨_,rfl,rfl⟩,rfl⟩
def fu (k:Nat) (a:List Nat) (U:M.Sl):M.Sl:=Aa k u0++a.map λj=>M.Gm U j
def rf {G:Gh}{U:M.Sl}{h:M.AH}{Y:St}{H:Hp}(s:ak Γ G U h Y H) (d:Nat) (b:List Nat){k:St}(g:k.length=d+b.length) (f: ∀i,i<b.length->k[d+i]? =y0 ((Y[b.getD i 0]?).join)):
 ak Γ G (fu d b U) h k H where
 len:=by unfold fu;rw [Ab5,Ab8,Aa0,g]
 slot:=λi w e=>by
  unfold fu at e
  by_cases l:i<d
  .rw [wm d _ l]at e;cases e
  .obtain⟨j,rfl⟩: ∃j,i=d+j:=⟨i-d,by omega⟩
   rw [jj,jt,Ad9]at e
   cases q:b[j]? with
   | none=>rw [q]at e;cases e
   | some c=>
    rw [q]at e
    have e:M.Gm U c=y0 w:=e
    obtain⟨v,p,r,_⟩:=wA s e
    have n:j<b.length:=(Ab.mp q).1
    refine⟨v,?_,r⟩
    rw [f j n,Ae2,q]
    show y0 ((Y[c]?).join)=_
    rw [p]
    rfl
 apart:=λi j o w a m e1 e2 x u=>by
  exfalso
  unfold fu at e1
  by_cases l:i<d
  .rw [wm d _ l]at e1;cases e1
  .obtain⟨t,rfl⟩: ∃j,i=d+j:=⟨i-d,by omega⟩
   rw [jj,jt,Ad9]at e1
   cases q:b[t]? with
   | none=>rw [q]at e1;cases e1
   | some c=>
    rw [q]at e1
    have e1:M.Gm U c=y0 (.own o):=e1
    obtain⟨_,_,_,_,z⟩:=wA s e1
    cases z
 heap:=s.heap
end
theorem Zd {env:Env}{d:NameKind}(g:d≠ .free): ∀ {b:List (Str×NameKind)}{x:Str},b.lookup x=y0 d →
 (b.map λ(n,k)=>if(k==NameKind.free&&env.scope.kind== .function&&env.kindOf n==y0 .cell)then(n,NameKind.cell)else(n,k)).lookup x=y0 d
 | [],_,h=>by simp at h
 | (n,k)::r,x,h=>by
  have j:= @Zd env d g r x
  rw [Ac4]
  rw [Ac]at h
  cases c:x==n with
  | true=>
   rw [c]at h
   have e:k=d:=by simpa using h
   subst e
   have i:(k==NameKind.free)=false:=by simpa using g
   simp only [i,Ag6,Ad5,if_false,Ac,c]
  | false=>
   rw [c]at h
   have q:=j h
   by_cases a:(k==NameKind.free&&env.scope.kind== .function&&env.kindOf n==y0 .cell)=k9
   .simp only [a,if_true,Ac,c]
    exact q
   .have f:=Ah7.mpr a
    simp only [f,Ad5,if_false,Ac,c]
    exact q
section
variable {Γ:Ge}{F:M.Fx}{X:Cx}{E:XK}{k:Nat}{cf:Cf}
structure hG (cf:Cf) (scope:Scope) (N:List Str) (k:Nat) (bI:List Nat):Prop where
 kind:scope.kind= .function
 yN:(scope.names.map Prod.fst).Nodup
 names: ∀y∈scope.names,y.2= .local->scope.names.lookup y.1=y0 .local
 free: ∀y∈scope.names,y.2= .free->cf.sc.names.lookup y.1=y0 .cell\/cf.sc.names.lookup y.1=y0 .free
 ft: ∀x∈N.drop k,scope.names.lookup x=y0 .free
 bI:qu cf bI (N.drop k)=k9
 le:k<=N.length
 nd:N.Nodup
 cb:cf.cb=k9
def xy {a:Scope}{N:List Str}{d:Nat}{b:List Nat}(h:WN cf a N d b=k9):hG cf a N d b:=by
 simp only [WN,Aa1,decide_eq_true_eq,Ag8]at h
 obtain⟨⟨⟨⟨⟨⟨⟨⟨⟨j,k⟩,g⟩,i⟩,e⟩,l⟩,f⟩,m⟩,o⟩,p⟩:=h
 exact⟨k,g,λy c=>i y c,λy c=>e y c,λx n=>l x n,f,m,o,j⟩
theorem QH (b:Go Γ F X E k cf): ∀ {a:List Nat}{xs:List Str},qu cf a xs=k9->bW X a xs
 | [],[],_=>trivial
 | [],_::_,h=>by simp [qu]at h
 | _::_,[],h=>by simp [qu]at h
 | j::f,x::xs,h=>by
  simp only [qu,Aa1,decide_eq_true_eq]at h
  obtain⟨⟨e,c⟩,d⟩:=h
  exact⟨by rw [b.N];exact e,b.gL x c,QH b d⟩
def ZJ (d:Go Γ F X E k cf){a:Scope}{N:List Str}{c:Nat}{b:List Nat}(h:hG cf a N c b):wH X a N c b:=
 ⟨h.kind,h.yN,h.names,λy f e=>d.gL y.1 (h.free y f e),h.ft,QH d h.bI,h.le⟩
def xT {a:Scope}{x:Str}(h:JX a x=k9):a.names.lookup x=y0 .local\/a.names.lookup x=y0 .cell\/a.names.lookup x=y0 .free:=by
 unfold JX at h
 split at h
 .rename_i q;exact .inl q
 .rename_i q;exact .inr (.inl q)
 .rename_i q;exact .inr (.inr q)
 .cases h
def ZU {a:Scope}{x:Str}(h:gC a x=k9):a.names.lookup x=y0 .local\/a.names.lookup x=y0 .cell:=by
 unfold gC at h
 split at h
 .rename_i q;exact .inl q
 .rename_i q;exact .inr q
 .cases h
def WC {a:Scope}{x:Str}(h:fZ a x=k9):a.names.lookup x=y0 .globalImplicit:=by
 unfold fZ at h
 split at h
 .rename_i q;exact q
 .cases h
def jr (b:Go Γ F X E k cf){a:Scope}{N:List Str}{u:Nat}{o:List Nat}(h:hG cf a N u o) (C:Addr) (w:List Addr) (s:Shared) (H:Hp):Go Γ F (xc X N a C w s H) E0 k { cf with sc:=a,N:=N } where
 N:=rfl
 K:=b.K
 cl:=b.cl
 ow:=b.ow
 nd:=h.nd
 ef:=λx c=>by
  rcases xT c with q | q | q
  .exact .inl (Zd (by decide) q)
  .exact .inr (.inl (Zd (by decide) q))
  .exact .inr (Qg q)
 f7:=λx c=>Zd (by decide) c
 eF:=λx c=>by
  rcases ZU c with q | q
  .exact⟨.inl (Zd (by decide) q),.inr (Zd (by decide) q)⟩
  .exact⟨.inr (Zd (by decide) q),.inl (decide_eq_true q)⟩
 gL:=λx c=>by
  rcases c with q | q
  .exact .inl (Zd (by decide) q)
  .exact Qg q
 gl:=λx c=>Zd (by decide) (WC c)
 calm:=b.calm
 room:=b.room
 bL:=b.bL
 pass:=λr Y A D e z _ y=>by
  obtain⟨x,G,t,B,I,_,_,_,_,_,_,_,_,_,_,v⟩:=y
  exact v.elim
 blt:=b.blt
 con:=b.con
 fn:=λf n=>by
  obtain⟨d,p,m,l,i,j,g⟩:=(b.fn f n).imp λd h=>h.ex
  exact⟨d,⟨p,m,l,i,j,g⟩⟩
 gP:=λf n=>by
  obtain⟨d,p,m,l,i,j,g⟩:=(b.gP f n).imp λd h=>h.ex
  exact⟨d,⟨p,m,l,i,j,g⟩⟩
 cls:=b.cls
 fld:=b.fld
 fT:=b.fT
 dw:=b.dw
theorem xS: ∀(is:List Nat) (vs:List V) (Y:St) (j:Nat),j∉is->(fB is vs Y)[j]? =Y[j]?
 | [],_,_,_,_=>rfl
 | _::_,[],_,_,_=>rfl
 | i::is,v::vs,Y,j,h=>by
  show(fB is vs (Y.set i (y0 v)))[j]? =Y[j]?
  rw [xS is vs _ j λz=>h (Aa5 _ z),Ac6 (λz:i=j=>h (by rw [z];exact Aa8))]
theorem Qx: ∀(is:List Nat) (vs:List V) (Y:St),(fB is vs Y).length=Y.length
 | [],_,_=>rfl
 | _::_,[],_=>rfl
 | i::is,v::vs,Y=>by
  show(fB is vs (Y.set i (y0 v))).length=Y.length
  rw [Qx is vs,Ac9]
def af {G:Gh}{h:M.AH}{H:Hp}{tg:List Nat}{one:Bool}{d:M.D}{x:V}{U b:M.Sl}{Y:St}{Q:St->Hp->Prop}(e:M.Gn tg one d U=y0 b) (r:ao Γ G H d x) (s:ak Γ G U h Y H)
 (l: ∀L,ak Γ G b h L H->(∀ j,j∉tg->L[j]? =Y[j]?)->L.length=Y.length->Q L H):gM Γ tg one x Y H Q:=by
 unfold M.Gn at e
 cases one with
 | true=>
  cases tg with
  | nil=>cases e
  | cons i n=>
   cases n with
   | cons _ _=>cases e
   | nil=>
    cases e
    exact⟨i,rfl,l _ (s.cS r) (λj c=>Ac6 λz=>c (by simp [z])) (Ac9 ..)⟩
 | false=>
  cases d with
  | tup g=>
   obtain⟨a,f,rfl,o,k⟩:=r
   obtain⟨m,p⟩:=xz (show M.aG tg g U=y0 b from e) k s
   exact⟨G,g,f,a,rfl,o,k,p,l _ m (λj c=>xS tg f Y j c) (Qx tg f Y)⟩
  | _=>cases e
def QF {step:M.D->M.AH->M.R (Option M.D)}: ∀ {ds:List M.D}{h:M.AH}{d:M.D}{h':M.AH},M.Gx step ds h≠ .exc d h'
 | [],_,_,_=>λe=>by cases e
 | x::ds,h,d,h'=>λe=>by
  rw [M.Gx]at e
  split at e
  .split at e<;>cases e
  .cases e
def JN {step:M.D->M.AH->M.R (Option M.D)}{x:M.D}{ds:List M.D}{h b:M.AH}{a:List M.D}(e:M.Gx step (x::ds) h= .ok a b): ∃o h1 r,step x h= .ok o h1/\M.Gx step ds h1= .ok r b/\a=(match o with | some y=>y::r | none=>r):=by
 rw [M.Gx]at e
 split at e
 .rename_i o h1 e1
  split at e
  .rename_i r c e2
   cases e
   exact⟨o,h1,r,e1,e2,rfl⟩
  .cases e
 .cases e
def hY (F:M.Fx) (tg:List Nat) (one:Bool) (g:M.Sl) (a:Bool) (c e:M.E):M.D->M.AH->M.R (Option M.D):=λd h=>match M.Gn tg one d g with
 | none=> .fail
 | some f=>(if a then(M.eval F c f h).bind λx h=>M.R.of h (M.GV h x)else .ok k9 h).bind λb h=>match b with
  | true=>(M.eval F e f h).bind λy h=>(M.R.of h y.d).bind λy h=> .ok (y0 y) h
  | false=> .ok u0 h
def AK {tg:List Nat}{one a:Bool}{e:Nat}{d:List Nat}{it:M.It}{c b:M.E}{U:M.Sl}{h:M.AH}:M.eval F (.comp tg one e d it a c b) U h=(M.Gk F it U h).bind λds h=>
 if ds.length<=M.aX then(M.Gx (hY F tg one (fu e d U) a c b) ds h).bind λys h=> .ok (.own ys) h else .fail:=by
 rw [M.eval];rfl
noncomputable def zZ (F:M.Fx) (a:Bool) (c:M.E):M.Sl->M.AH->M.R Bool:=λU h=>if a then M.Gu F c U h else .ok k9 h
def Xc {c g:Type}{r:M.R c}{f:c->M.AH->M.R g}{b:g}{h:M.AH}(e:r.bind f= .ok b h): ∃a h1,r= .ok a h1/\f a h1= .ok b h:=by
 cases r with
 | ok a h1=>exact⟨a,h1,rfl,e⟩
 | exc d h1=>cases e
 | fail=>cases e
def qQ {a:Expr}{env:Env}(b:Xe a=k9): ∀v,foldedSetIterable a env v=pure v:=λv=>by cases a<;>first | rfl | (simp [Xe]at b)
def W3 {tg:List Nat}{one e:Bool}{u:Nat}{f:List Nat}{it:M.It}{c n:M.E}(htk: ∀i∈tg,i<u){Y:St}{H:Hp}{Q:VK}(h0:tD Γ E (M.eval F (.comp tg one u f it e c n)) Y H Q):
 iY u f (eM Γ E y9 (M.Gk F it)) (λ_ _ _ _=>gM Γ tg one) (λ_ _ _ _=>cq Γ E0 (zZ F e c)) (λ_ _ _ _=>tD Γ E0 (M.eval F n)) Y H Q:=by
 obtain⟨G,U,h,s,p⟩:=h0
 rw [AK]at p
 refine⟨G,U,h,s,?_⟩
 cases qi:M.Gk F it U h with
 | exc d l=>rw [qi]at p;exact p
 | fail=>rw [qi]at p;exact p
 | ok q h1=>
  rw [qi]at p
  intro G1 H1 e1 I J C R c0 _ Ca fp st
  have p:aj Γ E G H (if q.length<=M.aX then(M.Gx (hY F tg one (fu u f U) e c n) q h1).bind λys h=> .ok (.own ys) h else .fail) λw l t k=> ∀v,ah Γ t k w v->az U Y H w v->Q v k:=p
  by_cases hL:q.length<=M.aX
  rotate_left
  .rw [if_neg hL]at p;exact p.elim
  rw [if_pos hL]at p
  cases qc:M.Gx (hY F tg one (fu u f U) e c n) q h1 with
  | exc d l=>exact absurd qc QF
  | fail=>rw [qc]at p;exact p.elim
  | ok ys hf=>
   rw [qc]at p
   have p:aj Γ E G H (.ok (M.W.own ys) hf) λw l t k=> ∀v,ah Γ t k w v->az U Y H w v->Q v k:=p
   have hLs:=jg
   refine⟨λi m yv Yb k=> ∃t l done rest,(m=q.length-i/\i<=q.length/\done.length<=i)/\Ext G1 H1 t k/\ae Γ t l k/\C t k/\aa Γ t k done yv ∧
    M.Gx (hY F tg one (fu u f U) e c n) (q.drop i) l= .ok rest hf/\ys=done++rest/\Yb.length=u+f.length/\ ∀j,j<f.length->Yb[u+j]? =y0 ((Y[f.getD j 0]?).join),⟨q.length,?_⟩,?_⟩
   .refine⟨G1,h1,[],ys,⟨by simp,Ai _,Aa6 _⟩,Ext.refl,I,c0,rfl,qc,rfl,?_,λj hj=> ?_⟩
    .unfold X2;rw [Ab5,Ab8,Aa0]
    .unfold X2
     rw [Ad0 (by simp),Ab8,Nat.add_sub_cancel_left,Ad9,Ab2 hj,Ae2,Ab2 hj]
     rfl
   .rintro i m yv Yb k ⟨t,l,done,rest,⟨rfl,hi',hd⟩,e2,g,O,rd,qg,K,A,L⟩
    have ldone:=rd.length
    by_cases B:i<q.length
    .refine .inr ⟨R.go i t k O B,by omega,_,λyv' Yb' X w=>⟨q.length-(i+1),by omega,w⟩,λx X hy=> ?_⟩
     obtain⟨G4,x4,hx4,d,ed,rdx⟩:=R.dH i t k x X O B hy
     have O:=R.keep _ _ _ _ l O x4 g
     have rd:=rd.ext x4 g
     have e2:=e2.trans I x4
     have g:=hx4 _ g
     have edr:q.drop i=d::q.drop (i+1):=by
      rw [List.drop_eq_getElem_cons B]
      rw [Ab2 B]at ed
      cases ed
      rfl
     rw [edr]at qg
     obtain⟨o,h2,r,V,T,er⟩:=JN qg
     unfold hY at V
     cases qb:M.Gn tg one d (fu u f U)with
     | none=>rw [qb]at V;cases V
     | some U'=>
      rw [qb]at V
      have so:=s.ext (e1.trans s.heap e2) g
      have sb:=rf so u f A L
      refine af qb rdx sb λY2 s2 same W=> ?_
      have y: ∀j,j<f.length->Y2[u+j]? =y0 ((Y[f.getD j 0]?).join):=λj hj=>by
       rw [same _ λz=>by have:=htk _ z;omega];exact L j hj
      obtain⟨b,h3,N,a⟩:=Xc (show (zZ F e c U' l).bind _=_ from V)
      refine⟨G4,U',l,s2,?_⟩
      rw [N]
      intro G3 H3 Z S
      have s3:=s2.ext Z S
      cases b with
      | false=>
       refine kQ ?_
       have a:M.R.ok (none:Option M.D) h3= .ok o h2:=a
       cases a
       exact⟨G3,_,done,r,⟨rfl,by omega,by omega⟩,e2.trans I Z,S,R.keep _ _ _ _ l O Z g,rd.ext Z g,T,by rw [K,er],by rw [W];exact A,y⟩
      | true=>
       refine kH ?_
       obtain⟨w,h4,qe,a⟩:=Xc (show (M.eval F n U' h3).bind _=_ from a)
       refine⟨G3,U',h3,s3,?_⟩
       rw [qe]
       intro G4 H4 e4 hr4 v rw' fw
       obtain⟨dd,h5,qd,a⟩:=Xc (show (M.R.of h4 w.d).bind _=_ from a)
       cases qw:w.d with
       | none=>rw [qw]at qd;cases qd
       | some d'=>
        rw [qw]at qd
        cases qd
        cases (show M.R.ok (y0 dd) h4= .ok o h2 from a)
        have s4:=s3.ext e4 hr4
        obtain⟨G5,e5,s5,rdv,m5⟩:=lN e4 s4 s3 rw' fw qw
        have P:=Z.trans g e5
        refine⟨G5,_,done++ [dd],r,⟨rfl,by omega,by rw [Ab5,List.length_singleton];omega⟩,e2.trans I P,s5.heap,R.keep _ _ _ _ l O P g,(rd.ext P g).append ⟨v,[],rfl,rdv,rfl⟩,T,?_,by rw [W];exact A,y⟩
        rw [K,er]
        simp
    .have ei:i=q.length:=by omega
     subst ei
     rw [List.drop_length]at qg
     cases (show M.R.ok ([]:List M.D) l= .ok rest hf from qg)
     rw [Ac2]at K
     subst K
     exact .inl ⟨R.stop _ t k O (Aa6 _) (Aa6 _),by omega,λD hD=>ar.own (ar.mk p (e1.trans s.heap e2) s.heap) g rd D hD⟩
def Bh (m:Go Γ F X E k cf){tg:List Nat}{one d:Bool}{l:Nat}{f:List Nat}{it:M.It}{c j:M.E}{t b y:Expr}{h:List Expr}{a:Scope}{N:List Str}{pos:Pos}(e:hG cf a N l f)
 (p:f.length=(N.drop l).length) (o:Jd { cf with sc:=a,N:=N } tg one t=k9) (n: ∀i∈tg,i<l) (g:Xe b=k9)
 (v:PI X t b (eM Γ E y9 (M.Gk F it)))
 (q: ∀C fp s H,PE (xc X N a C fp s H) y (tD Γ E0 (M.eval F j)))
 (u: ∀C fp s H,fg (xc X N a C fp s H) h (cq Γ E0 (zZ F d c))):
 PE X (.ListComp y [⟨t,b,h,0⟩] a pos) (tD Γ E (M.eval F (.comp tg one l f it d c j))):=
 PE.imp (tT (ZJ m e) v (λC fp s H=>Xo (jr m e C fp s H) o) u q (m.calm e.cb) (qQ g)) λY H Q r=>W3 n r
def WM (f:Go Γ F X E k cf){i:Nat}{x:Str}{e p0:Pos}(B:cf.N[i]? =y0 x) (J:gC cf.sc x=k9){tg:List Nat}{one d:Bool}{o:Nat}{j:List Nat}{it:M.It}{c m:M.E}{t b y:Expr}{h:List Expr}{a:Scope}{N:List Str}{pos:Pos}(v:swapsWith (.ListComp y [⟨t,b,h,0⟩] a p0) (y0 (.Name x e)) pos.line X.env=pure k9) (g:hG cf a N o j)
 (z:j.length=(N.drop o).length) (r:Jd { cf with sc:=a,N:=N } tg one t=k9) (p: ∀i∈tg,i<o) (l:Xe b=k9)
 (K:PI X t b (eM Γ E y9 (M.Gk F it)))
 (A: ∀C fp s H,PE (xc X N a C fp s H) y (tD Γ E0 (M.eval F m)))
 (G: ∀C fp s H,fg (xc X N a C fp s H) h (cq Γ E0 (zZ F d c))):
 PS X (.Assign [.Name x e] (.ListComp y [⟨t,b,h,0⟩] a p0) pos) (fL (tD Γ E (M.eval F (.comp tg one o j it d c m))) (wL i)):=by
 have w:=f.eF x J
 have u:=wY (pos:=pos) (pos':=e) (p0:=p0) (by rw [f.N];exact f.nd) (by rw [f.N];exact B) w.1 (ZJ f g) K (λC fp s H=>Xo (jr f g C fp s H) r) G A v (f.calm g.cb) (qQ l) w.2
 exact λn s Y H D I q=>u n s Y H D I (W3 p q)
def WG {h:M.AH}{o:Option M.W}{r:Nat}{xs:List M.D}(e:M.GT h o=y0 (r,xs)):o=y0 (.v (.ref r))/\h[r]? =y0 (.lst xs):=by
 unfold M.GT at e
 split at e
 .split at e
  .rename_i q
   cases e
   exact⟨rfl,q⟩
  .cases e
 .cases e
def QM (b:Go Γ F X E k cf){i:Nat}{x:Str}{p:Pos}(h1:cf.N[i]? =y0 x) (h2:JX cf.sc x=k9) (a:ck x=k9):PE X (.Name x p) (kb i):=by
 unfold ck at a
 rw [Aa1]at a
 exact jo (by rw [b.N];exact h1) (b.ef x h2) (by simpa using a.1) (by simpa using a.2)
def mX {a b:String}(h:Str.ofString a=Str.ofString b):a=b:=by
 rw [Str.ofString_eq_toList,Str.ofString_eq_toList]at h
 have e:a.toList.map Char.toNat=b.toList.map Char.toNat:=by
  have:=congrArg (λs:Str=>s.cps.toList) h
  simpa using this
 have inj: ∀(l m:List Char),l.map Char.toNat=m.map Char.toNat->l=m:=by
  intro l
  induction l with
  | nil=>intro m q;cases m with | nil=>rfl | cons _ _=>cases q
  | cons c l f=>
   intro m q
   cases m with
   | nil=>cases q
   | cons d m=>
    simp only [Ac4,List.cons.injEq]at q
    rw [Char.toNat_inj.mp q.1,f m q.2]
 exact String.toList_inj.mp (inj _ _ e)
def zv {h:M.AH}{o:Option M.W}{r:Nat}{c:String}{fs:List (String×M.D)}(e:M.GU h o=y0 (r,c,fs)):o=y0 (.v (.ref r))/\h[r]? =y0 (.obj c fs):=by
 unfold M.GU at e
 split at e
 .split at e
  .rename_i q
   cases e
   exact⟨rfl,q⟩
  .cases e
 .cases e
def qR {G:Gh}{U:M.Sl}{h:M.AH}{Y:St}{H:Hp}(s:ak Γ G U h Y H){i r:Nat}{c:String}{fs:List (String×M.D)}(e:M.GU h (M.Gp U i)=y0 (r,c,fs)):Y[i]? =y0 (y0 (.ref (G.aH r))):=by
 obtain⟨e1,e2⟩:=zv e
 obtain⟨v,a,d⟩:=s.slot i _ e1
 obtain⟨_,b⟩:=(show r<G.n/\v= .ref (G.aH r)from d)
 rw [a,b]
abbrev eR (fs:List (String×M.D)):List Str:=fs.map λp=>Str.ofString p.1
section
variable {G:Gh}{H:Hp}
def WS (a b:String):(Xb a==Str.ofString b)=(a==b):=by
 cases q:a==b with
 | true=>rw [eq_of_beq q];exact beq_self_eq_true _
 | false=>exact beq_eq_false_iff_ne.mpr λz=>(beq_eq_false_iff_ne.mp q) (mX z)
theorem oE {f:String}{d:M.D}: ∀ {fs:List (String×M.D)}{us:List V},aa Γ G H (fs.map (·.2)) us->fs.lookup f=y0 d-> ∃v,((eR fs).zip us).lookup (Xb f)=y0 v/\ao Γ G H d v
 | [],_,_,e=>by cases e
 | (g,x)::fs,_,⟨v,r,rfl,a,b⟩,e=>by
  rw [Ac]at e
  show ∃w,(((Str.ofString g),v)::(eR fs).zip r).lookup (Xb f)=y0 w/\_
  rw [Ac,WS]
  cases q:f==g with
  | true=>rw [q]at e;cases e;exact⟨v,rfl,a⟩
  | false=>rw [q]at e;exact oE b e
theorem xH {f:String}: ∀ {fs:List (String×M.D)}{us:List V},fs.lookup f=u0->((eR fs).zip us).lookup (Xb f)=u0
 | [],_,_=>rfl
 | (g,x)::fs,[],_=>rfl
 | (g,x)::fs,v::r,e=>by
  rw [Ac]at e
  show(((Str.ofString g),v)::(eR fs).zip r).lookup (Xb f)=u0
  rw [Ac,WS]
  cases q:f==g with
  | true=>rw [q]at e;cases e
  | false=>rw [q]at e;exact xH e
theorem jE {f:String}{d:M.D}{v:V}(rv:ao Γ G H d v): ∀ {fs:List (String×M.D)}{us:List V},aa Γ G H (fs.map (·.2)) us-> ∃i,aa Γ G H ((M.aJ f d fs).map (·.2)) i/\L2.aJ (Xb f) v ((eR fs).zip us)=(eR (M.aJ f d fs)).zip i
 | [],_,z=>by cases z;exact⟨[v],⟨v,[],rfl,rv,rfl⟩,rfl⟩
 | (g,x)::fs,_,⟨u,r,rfl,e,c⟩=>by
  show ∃i,aa Γ G H ((if g=f then(g,d)::fs else(g,x)::M.aJ f d fs).map (·.2)) i/\(if Str.ofString g=Xb f then(Str.ofString g,v)::(eR fs).zip r else(Str.ofString g,u)::L2.aJ (Xb f) v ((eR fs).zip r))=(eR (if g=f then(g,d)::fs else(g,x)::M.aJ f d fs)).zip i
  by_cases q:g=f
  .rw [if_pos q,if_pos (congrArg Str.ofString q)]
   exact⟨v::r,⟨v,r,rfl,rv,c⟩,rfl⟩
  .rw [if_neg q,if_neg λz=>q (mX z)]
   obtain⟨i,a,b⟩:=jE rv c
   exact⟨u::i,⟨u,i,rfl,e,a⟩,by rw [b];rfl⟩
end
def yU (a:Go Γ F X E k cf){i:Nat}{f:String}{x:Str}{l pos:Pos}(h1:cf.N[i]? =y0 x) (h2:JX cf.sc x=k9) (m:ck x=k9):PE X (.Attribute (.Name x l) (Xb f) pos) (tD Γ E (M.eval F (.xf i f))):=by
 refine PE.imp (ui (QM a h1 h2 m) rfl) λY H Q z=> ?_
 obtain⟨G,U,h,s,p⟩:=z
 rw [M.eval]at p
 split at p
 .rename_i c g d q
  split at p
  .rename_i b
   subst b
   obtain⟨v,j,y,e,u,rfl,C,B,r,o,A,t,n⟩:=s.slot i _ q
   exact⟨_,j,y,Γ.ca c,e,u,rfl,r,o,a.K▸t,aj.val p Ext.refl s.heap (w:= .v d) n trivial⟩
  .exact p.elim
 .exact p.elim
def Bb {G c:Gh}{H a:Hp}{r:Nat}(e:Ext G H c a) (b:r<G.n):ah Γ c a (.v (.ref r)) (.ref (G.aH r)):=⟨Ab3 b e.le,by rw [e.aH r b]⟩
def vY {o:Expr}{name:Str}{b pos:Pos}{a:List Expr}{env:Env}(c:attributeBase o name env (eval o env)=eval o env) (d:methodCallForm a.length (backTo pos (starEach a env)) (backToKw pos (keywordEach [] env))=k9) (e:(b.endLine==pos.line)=k9):
 eval (.Call (.Attribute o name b) a [] pos) env=(do
  let i ←eval o env
  standAt b.atName
  let (f,first) ←holding [i] (getMethod i name (do return (← importBound o env).getD k9))
  callWith pos f first (backTo pos (starEach a env)) (backToKw pos (keywordEach [] env))):=by
 have e1:methodCallForm (a.length+([]:List Keyword).length) (backTo pos (starEach a env)) (backToKw pos (keywordEach [] env))=true:=d
 have e2:methodCallPos k9 o env b pos=pure pos:=by unfold methodCallPos;simp [e]
 rw [arm_eval_Call,c]
 unfold methodCall
 rw [e1]
 simp only [e2,calleeOf,if_true,pure_bind]
def yr {a:List Expr}{env:Env}{pos:Pos}(h: ∀e∈a,xa e=k9) (c:a.length<29):methodCallForm a.length (backTo pos (starEach a env)) (backToKw pos (keywordEach [] env))=true:=by
 unfold methodCallForm
 have e1:(backTo pos (starEach a env)).all (λx=> !x.1)=true:=by
  have:=Xh (env:=env) (pos:=pos) h
  rw [Ag8]
  intro x b
  rw [List.any_eq_false]at this
  simpa using this x b
 rw [e1]
 have e2:(backToKw pos (keywordEach [] env))= []:=rfl
 rw [e2]
 simp
 omega
def Ci (q:Go Γ F X E k cf){c r:String}{g y:Expr}{A:List Expr}{pos:Pos}{es:M.Es}(S:bC cf.sc c g=k9) (W:cf.ob.dw.contains (c,r)=k9) (P: ∀e∈y::A,xa e=k9) (ha:PA X (y::A) (eC Γ E (M.Gf F es))):
 PE X (.Call g (y::A) [] pos) (tD Γ E (M.eval F (.make c r es))):=by
 obtain⟨p0,rfl,g2,g3⟩:=Wa S
 obtain⟨J,fa,fd,ps,mk,B,bd⟩:=q.dw c r W
 refine PE.imp (ym mk B q.bL (q.gl _ g2) J bd .nil q.pass ha g3 (Za (P _ Aa8)) (Xh λe Z=>P e (Aa5 _ Z))) λY H Q qq=> ?_
 obtain⟨G,U,h,s,p⟩:=qq
 rw [M.eval]at p
 refine wv s.heap Ext.refl s p λC vs j b l e1 e1' n r1 i=> ?_
 intro a f t O ne
 rw [Ac2]
 have L:ax l f (.own a) a=none:=by rw [qa (Ne.symm ne)];exact t
 have T:Ext b l b (ax l f (.own a)):=zu _ O
 have r2:=n.heap.new (.own a) O
 have x2:Ext b (ax l f (.own a)) b (ax (ax l f (.own a)) a (.ins (Γ.ca c) f [])):=zu _ L
 have r3:=r2.new (.ins (Γ.ca c) f []) L
 have hX: ¬b.fz a:=n.heap.iD t
 have r4:ae Γ (b.cell a) (j++ [.obj c []]) (ax (ax l f (.own a)) a (.ins (Γ.ca c) f [])):=sI r3 hX (n.heap.h8 t) Qa
 have I:Ext b l (b.cell a) (ax (ax l f (.own a)) a (.ins (Γ.ca c) f [])):=QE (T.trans n.heap x2) t
 have z:ah Γ (b.cell a) (ax (ax l f (.own a)) a (.ins (Γ.ca c) f [])) (.v (.ref j.length)) (.ref a):=by
  show j.length<b.n+1/\V.ref a= .ref (if j.length=b.n then a else b.aH j.length)
  rw [n.heap.len,if_pos rfl]
  exact⟨Ae6 _,rfl⟩
 refine⟨b.cell a,j++ [.obj c []],.v (.ref j.length)::C.map M.W.arg,r4,⟨.ref a,vs,rfl,z,aP.ext I n.heap (xl r1)⟩,λw K=> ?_,?_⟩
 .rcases Ab7.mp K with rfl | K
  .rfl
  .exact Zk C w K
 .cases u:F.call r (.v (.ref j.length)::C.map M.W.arg) (j++ [.obj c []])with
  | fail=>rw [u]at i;exact i.elim
  | exc d N=>
   rw [u]at i
   exact λD x o m=>i D x ((e1.trans s.heap I).trans s.heap o) m
  | ok w N=>
   rw [u]at i
   intro D x o m v rv _
   cases w with
   | own _=>exact i.elim
   | bor _=>exact i.elim
   | v d=>
    cases d with
    | ai=>
     refine⟨rv,?_⟩
     have i:aj Γ E G H (M.aw (.ref j.length) N) _:=i
     have R:j.length<(b.cell a).n:=z.1
     exact i D x ((e1.trans s.heap I).trans s.heap o) m (.ref a) ⟨Ab3 R o.le,by rw [o.aH _ R];exact z.2⟩ trivial
    | _=>exact i.elim
def sQ (i:Go Γ F X E k cf){a:M.E}{c f:String}{x:Expr}{pos:Pos}(l:cf.ob.fl.contains (c,f)=k9) (g:j4 x=k9) (z:PE X x (tD Γ E (M.eval F a))):PE X (.Attribute x (Xb f) pos) (tD Γ E (M.eval F (.aU a c f))):=by
 refine PE.imp (rm z (bX g _)) λY H Q L=> ?_
 obtain⟨G,U,h,s,p⟩:=L
 rw [M.eval]at p
 refine Xa s.heap Ext.refl s p λw v A e N e1 K j D O b=> ?_
 cases q:M.GU A (y0 w)with
 | none=>rw [q]at b;exact b.elim
 | some o=>
  obtain⟨r,J,fs⟩:=o
  rw [q]at b
  dsimp only at b
  split at b
  .rename_i g
   subst g
   obtain⟨d,B,b⟩:=b.of
   obtain⟨n,e2⟩:=zv q
   cases n
   obtain⟨_,I⟩:=(show r<e.n/\v= .ref (e.aH r)from D)
   obtain⟨P,m,R,C,y⟩:=j.heap.obj r _ fs e2
   obtain⟨u,t,rv⟩:=oE y B
   exact⟨e.aH r,Γ.ca J,m,_,u,I,C,(i.fld _ _ l).1,(i.fld _ _ l).2,t,aj.val b e1 j.heap (w:= .v d) rv trivial⟩
  .exact b.elim
def rA (i:Go Γ F X E k cf){a:M.E}{c m l:String}{x y:Expr}{f:List Expr}{b pos:Pos}{es:M.Es}(O:cf.ob.mt.contains (c,m,l)=k9) (hl:(b.endLine==pos.line)=k9) (D:(y::f).length<=20) (t:j4 x=k9) (J:PE X x (tD Γ E (M.eval F a))) (u: ∀e∈y::f,xa e=k9) (S:PA X (y::f) (eC Γ E (M.Gf F es))):
 PE X (.Call (.Attribute x (Xb m) b) (y::f) [] pos) (tD Γ E (M.eval F (.cG a c m l es))):=by
 obtain⟨V,fa,fd,ps,L,n,Z⟩:=i.fT c m l O
 refine PE.imp (vT J V L n i.room Z .nil i.pass S (Za (u _ Aa8)) (Xh λe R=>u e (Aa5 _ R)) (vY (bX t _) (yr u (by omega)) hl)) λY H Q qq=> ?_
 obtain⟨G,U,h,s,p⟩:=qq
 rw [M.eval]at p
 refine Xa s.heap Ext.refl s p λw v W g H1 e1 e1' B r1 f1 d=> ?_
 cases q:M.GU W (y0 w)with
 | none=>rw [q]at d;exact d.elim
 | some o=>
  obtain⟨r,c',fs⟩:=o
  rw [q]at d
  dsimp only at d
  split at d
  .rename_i t
   obtain⟨rfl,D⟩:=t
   obtain⟨e0,e2⟩:=zv q
   cases e0
   obtain⟨z,rfl⟩:=(show r<g.n/\v= .ref (g.aH r)from r1)
   obtain⟨nf,K,us,hv,ru⟩:=B.heap.obj r _ fs e2
   refine⟨g.aH r,K,_,rfl,hv,xH (Ae5.mp D),?_⟩
   refine wv s.heap e1 B d λC vs P I H2 e2 j N T p2=> ?_
   rw [Ac2]
   refine⟨I,P,.v (.ref r)::C.map M.W.arg,N.heap,⟨.ref (g.aH r),vs,rfl,Bb j z,xl T⟩,λw A=> ?_,ar.mk p2 e2 s.heap⟩
   rcases Ab7.mp A with rfl | A
   .rfl
   .exact Zk C w A
  .exact d.elim
end
def PW.dB {X:Cx}{b:BoolOp}{vs:List Expr}{pos:Pos}{t:TT}(h:PT X (.BoolOp b vs pos) t):PW X (.BoolOp b vs pos) t:=λc a s Y H Q I q=>by
 have:=h a s Y H Q I q
 rw [PySem.isTrue]at this ⊢
 exact this
theorem zr {F:M.Fx}{cf:Cf}: ∀ {es:M.Es}{xs:List Expr}{U:M.Sl}{h:M.AH}{ds:List M.D}{h':M.AH},aV cf es xs=k9->M.Gq F es U h= .ok ds h'->ds.length=xs.length
 | .nil,xs,_,_,_,_,c,e=>by
  cases Ad6.mp c
  rw [M.Gq]at e;cases e;rfl
 | .cons a es,xs,U,h,ds,h',c,e=>by
  refine kC (λx r c=> ?_) xs c
  rw [M.Gq]at e
  obtain⟨w,i,e1,e⟩:=Xc e
  obtain⟨d,f,e2,e⟩:=Xc e
  obtain⟨r,g,b,e⟩:=Xc e
  cases e
  rw [Ab0,Ab0,zr (a2 c).2 b]
theorem jd {cf:Cf}: ∀ {es:M.Es}{xs:List Expr},aV cf es xs=k9-> ∀e∈xs,xa e=k9
 | .nil,xs,c=>by
  cases Ad6.mp c
  intro e b;cases b
 | .cons a es,xs,c=>by
  refine kC (λx r c=> ?_) xs c
  intro e b
  rcases Ab7.mp b with rfl | b
  .exact(a3 c).1
  .exact jd (a2 c).2 e b
theorem qv {cf:Cf}: ∀ {a:List Nat}{xs:List Str},qu cf a xs=k9->a.length=xs.length
 | [],[],_=>rfl
 | [],_::_,h=>by simp [qu]at h
 | _::_,[],h=>by simp [qu]at h
 | j::b,x::xs,h=>by
  simp only [qu,Aa1]at h
  exact congrArg (· +1) (qv h.2)
def yu {e:Expr}{f:Expr->List Expr->List Keyword->Pos->Bool}(h:Xi e f=k9):Xe e=true:=by
 refine Wi (λg x l p h=> ?_) e h
 rfl
def WH {cf:Cf}{it:M.It}{e:Expr}(h:cZ cf it e=k9):Xe e=true:=by
 cases it with
 | seq a=>exact(a2 h).1
 | aB a=>exact yu h
 | enum a=>exact ba h
 | bO a=>exact ba h
section
variable {Γ:Ge}{F:M.Fx}{k:Nat}
def bo {X:Cx}{E:XK}{cf:Cf}{m:M.E}{x:Expr}(a:Go Γ F X E k cf) (r:PE X x (tD Γ E (M.eval F m))) (b: ∀i,isTrue x X.env i=(do let v ←i;standAt x.pos;holding [v] (truthy v))):PE X x (tD Γ E (M.eval F m))/\(eh m=k9->PT X x (cq Γ E (M.Gu F m))):=⟨r,λ_=>BD a r b⟩
mutual
theorem Wb: ∀(m:M.E){X:Cx}{E:XK}{cf:Cf}{e:Expr},Go Γ F X E k cf->Zb cf m e=k9->PE X e (tD Γ E (M.eval F m))/\(eh m=k9->PT X e (cq Γ E (M.Gu F m)))
 | .var i,X,E,cf,e,go,h=>by
  refine Qq (λx p h=> ?_) e h
  obtain⟨h1,h2,h3⟩:=gk h
  exact bo go (yj go h1 h2 h3) λ_=>rfl
 | .con c,X,E,cf,e,go,h=>by
  have r:=vg go h
  obtain⟨p,rfl,_,_⟩:=Wa h
  exact bo go r λ_=>rfl
 | .int i,X,E,cf,e,go,h=>by
  refine xu (λx n p h=> ?_) e h
  cases of_decide_eq_true h;exact bo go Cr λ_=>rfl
 | .bl i,X,E,cf,e,go,h=>by
  refine xu (λx n p h=> ?_) e h
  cases of_decide_eq_true h;exact bo go AI λ_=>rfl
 | .ai,X,E,cf,e,go,h=>by
  refine xu (λx n p h=> ?_) e h
  cases of_decide_eq_true h;exact bo go vF λ_=>rfl
 | .str i,X,E,cf,e,go,h=>by
  refine xu (λx n p h=> ?_) e h
  cases of_decide_eq_true h;exact bo go rY λ_=>rfl
 | .tup es,X,E,cf,e,go,h=>by
  refine kf (λx n p h=> ?_) e h
  obtain⟨h1,h2⟩:=a2 h
  exact bo go (BC (of_decide_eq_true h1) (λU hh ds h' q=>zr h2 q) (e8 es go h2)) λ_=>rfl
 | .lst es,X,E,cf,e,go,h=>by
  refine rM (λx p h=> ?_) e h
  obtain⟨h1,h2⟩:=a2 h
  exact bo go (AF (of_decide_eq_true h1) (λU hh ds h' q=>zr h2 q) (e8 es go h2)) λ_=>rfl
 | .bin o a b,X,E,cf,e,go,h=>by
  refine tW (λx o y p h=> ?_) e h
  obtain⟨h0,ho,h1,h2⟩:=a4 h
  cases of_decide_eq_true h0
  exact bo go (pS go ho (Wb a go h1).1 (Wb b go h2).1) λ_=>rfl
 | .cmp o a b,X,E,cf,e,go,h=>by
  refine l4 (λx o y p h=> ?_) e h
  refine kC (λy r h=> ?_) y h
  obtain⟨h0,ho,hs,h1,h2⟩:=a5 h
  obtain⟨rfl,rfl⟩:=of_decide_eq_true h0
  exact⟨rk go ho hs (Wb a go h1).1 (Wb b go h2).1,λ_=>rz go ho hs (Wb a go h1).1 (Wb b go h2).1⟩
 | .chain o q a b c,X,E,cf,e,go,h=>by
  refine l4 (λx o y p h=> ?_) e h
  refine kC (λy r h=> ?_) y h
  refine kC (λz r h=> ?_) r h
  obtain⟨h0,ho,hq,hs,h1,h2,h3⟩:=a7 h
  obtain⟨rfl,rfl⟩:=of_decide_eq_true h0
  exact⟨yT go ho hq hs (Wb a go h1).1 (Wb b go h2).1 (Wb c go h3).1,λ_=>WY go ho hq hs (Wb a go h1).1 (Wb b go h2).1 (Wb c go h3).1⟩
 | .dZ neg a,X,E,cf,e,go,h=>by
  refine l4 (λx o y p h=> ?_) e h
  refine kC (λy r h=> ?_) y h
  refine xu (λj n p h=> ?_) y h
  obtain⟨h0,h1,h2⟩:=a3 h
  obtain⟨rfl,rfl⟩:=of_decide_eq_true h0
  cases of_decide_eq_true h1
  exact⟨rb (Wb a go h2).1,λ_=>vq (Wb a go h2).1⟩
 | .neg a,X,E,cf,e,go,h=>by
  refine nB (λo x p h=> ?_) e h
  cases of_decide_eq_true (a2 h).1
  exact bo go (tZ (Wb a go (a2 h).2).1) λ_=>rfl
 | .not a,X,E,cf,e,go,h=>by
  refine nB (λo x p h=> ?_) e h
  cases of_decide_eq_true (a2 h).1
  exact⟨tG go (Wb a go (a2 h).2).1,λt=>pw ((Wb a go (a2 h).2).2 t)⟩
 | .and a b,X,E,cf,e,go,h=>by
  refine nv (λo x p h=> ?_) e h
  refine kC (λx r h=> ?_) x h
  refine kC (λy r h=> ?_) r h
  obtain⟨h0,h1,h2⟩:=a3 h
  cases of_decide_eq_true h0
  cases r with
  | nil=>exact⟨nY go (Wb a go h1).1 (nK (Wb b go h2).1),λt=>(zU ((Wb a go h1).2 (a2 t).1) (Aw ((Wb b go h2).2 (a2 t).2))).pt⟩
  | cons z r=>exact⟨nY go (Wb a go h1).1 (Wb b go h2).1,λt=>(zU ((Wb a go h1).2 (a2 t).1) (PW.dB ((Wb b go h2).2 (a2 t).2))).pt⟩
 | .or a b,X,E,cf,e,go,h=>by
  refine nv (λo x p h=> ?_) e h
  refine kC (λx r h=> ?_) x h
  refine kC (λy r h=> ?_) r h
  obtain⟨h0,h1,h2⟩:=a3 h
  cases of_decide_eq_true h0
  cases r with
  | nil=>exact⟨pd go (Wb a go h1).1 (nK (Wb b go h2).1),λt=>(J1 ((Wb a go h1).2 (a2 t).1) (A6 ((Wb b go h2).2 (a2 t).2))).pt⟩
  | cons z r=>exact⟨pd go (Wb a go h1).1 (Wb b go h2).1,λt=>(J1 ((Wb a go h1).2 (a2 t).1) (PW.dB ((Wb b go h2).2 (a2 t).2))).pt⟩
 | .call f es,X,E,cf,e,go,h=>by
  refine Wi (λg x l p h=> ?_) e h
  refine kE (λh=> ?_) l h
  obtain⟨h1,h2,h3⟩:=a3 h
  cases x with
  | nil=>
   cases es with
   | cons _ _=>exact ba h3
   | nil=>
    have r:=w4 (pos:=p) go h1 h2
    obtain⟨p,rfl,_,_⟩:=Wa h1
    exact bo go r λ_=>rfl
  | cons x r=>
   have r:=uQ (pos:=p) go h1 h2 (jd h3) (cz es go h3)
   obtain⟨p,rfl,_,_⟩:=Wa h1
   exact bo go r λ_=>rfl
 | .bi b es,X,E,cf,e,go,h=>by
  refine Wi (λg x l p h=> ?_) e h
  refine kE (λh=> ?_) l h
  refine kC (λx r h=> ?_) x h
  obtain⟨h1,h2,h3⟩:=a3 h
  have r:=p5 (pos:=p) go h2 h1 (jd h3) (cz es go h3)
  obtain⟨p,rfl,_,_⟩:=Wa (a2 h1).2
  exact bo go r λ_=>rfl
 | .cT a t,X,E,cf,e,go,h=>by
  refine Wi (λg x l p h=> ?_) e h
  refine kE (λh=> ?_) l h
  refine kC (λx r h=> ?_) x h
  refine kC (λy r h=> ?_) r h
  refine kE (λh=> ?_) r h
  obtain⟨h1,h2,h3,h4,h5⟩:=a5 h
  have r:=sx (pos:=p) go (of_decide_eq_true h3) h1 h2 h4 (Wb a go h5).1
  obtain⟨p,rfl,_,_⟩:=Wa h1
  exact bo go r λ_=>rfl
 | .bc a one ts,X,E,cf,e,go,h=>by
  refine Wi (λg x l p h=> ?_) e h
  refine kE (λh=> ?_) l h
  refine kC (λx r h=> ?_) x h
  refine kC (λy r h=> ?_) r h
  refine kE (λh=> ?_) r h
  obtain⟨h1,h2,h3,h4⟩:=a4 h
  have fin:PE X (.Call g [x,y] [] p) (tD Γ E (M.eval F (.bc a one ts))):=by
   cases one with
   | true=>
    refine kC (λt r h=> ?_) ts h4
    refine kE (λh=> ?_) r h
    obtain⟨h5,h6⟩:=a2 h
    simp only [Ah9,decide_eq_true_eq]at h6
    exact ri go h6 h1 h5 h2 (Wb a go h3).1
   | false=>
    refine kf (λzs n p h=> ?_) y h4
    exact uH go (of_decide_eq_true (a2 h).1) h1 (a2 h).2 h2 (Wb a go h3).1
  obtain⟨p,rfl,_,_⟩:=Wa h1
  exact bo go fin λ_=>rfl
 | .ix a b,X,E,cf,e,go,h=>by
  refine g7 (λx y p h=> ?_) e h
  obtain⟨h1,h2,h3⟩:=a3 h
  exact bo go (rq go h1 (Wb a go h2).1 (Wb b go h3).1) λ_=>rfl
 | .dG a lo,X,E,cf,e,go,h=>by
  refine g7 (λx y p h=> ?_) e h
  refine o5 (λl u z p2 h=> ?_) y h
  refine kS (λl h=> ?_) l h
  obtain⟨h0,h1,h2,h3⟩:=a4 h
  cases nn h0;cases nn h1
  exact bo go (Bt go (Wb a go h2).1 (Wb lo go h3).1) λ_=>rfl
 | .d7 a hi,X,E,cf,e,go,h=>by
  refine g7 (λx y p h=> ?_) e h
  refine o5 (λl u z p2 h=> ?_) y h
  refine kS (λu h=> ?_) u h
  obtain⟨h0,h1,h2,h3⟩:=a4 h
  cases nn h0;cases nn h1
  exact bo go (ug go (Wb a go h2).1 (Wb hi go h3).1) λ_=>rfl
 | .comp tg one kk bI it k6 c elt,X,E,cf,e,go,h=>by
  refine mM (λy g s p h=> ?_) e h
  refine kC (λg r h=> ?_) g h
  obtain⟨t,iter,ifs,z⟩:=g
  obtain⟨h0,h1,h2,h3,h4,h5,h6⟩:=a7 h
  obtain⟨rfl,rfl⟩:=of_decide_eq_true h0
  simp only [Ag8,decide_eq_true_eq]at h2
  have sc:=xy h1
  have ht: ∀C fp w H,fg (xc X (jm cf t bI) s C fp w H) ifs (cq Γ E0 (zZ F k6 c)):=λC fp w H=>by
   have gc:=jr go sc C fp w H
   cases k6 with
   | true=>
    refine kC (λz r h=> ?_) ifs h6
    refine kE (λh=> ?_) r h
    exact J3 ((Wb c gc (a2 h).2).2 (a2 h).1)
   | false=>
    cases Ad6.mp h6
    intro y8 s1 Y H1 Q I ⟨G,U,h,st,p⟩
    exact o7 y8 s1 Y H1 Q I (p G H1 Ext.refl st.heap)
  exact bo go (Bh go sc (qv sc.bI) h3 h2 (WH h4) (hV it go h4) (λC fp s H=>(Wb elt (jr go sc C fp s H) h5).1) ht) λ_=>rfl
 | .share a,X,E,cf,e,go,h=>⟨W7 (Wb a go h).1,λt=>ba t⟩
 | .bx a,X,E,cf,e,go,h=>by
  refine Wi (λg x l p h=> ?_) e h
  refine kE (λh=> ?_) l h
  refine kC (λx r h=> ?_) x h
  refine kE (λh=> ?_) r h
  refine Wi (λg2 x l p2 h=> ?_) x h
  refine kE (λh=> ?_) l h
  refine kC (λx r h=> ?_) x h
  refine kE (λh=> ?_) r h
  obtain⟨h1,h2,h3,h4⟩:=a4 h
  exact bo go (qW go h1 h2 h3 (Wb a go h4).1) λ_=>rfl
 | .gb s ts,X,E,cf,e,go,h=>by
  refine Wi (λg x l p h=> ?_) e h
  refine kE (λh=> ?_) l h
  refine kC (λx r h=> ?_) x h
  refine kE (λh=> ?_) r h
  refine zC (λo n q h=> ?_) g h
  refine xu (λc k1 p1 h=> ?_) o h
  refine xu (λc2 k2 p2 h=> ?_) x h
  obtain⟨h1,h2,h3,h4,h5⟩:=a5 h
  cases of_decide_eq_true h1
  cases of_decide_eq_true h2
  cases of_decide_eq_true h3
  exact bo go (AN go h4 h5) λ_=>rfl
 | .xf i f,X,E,cf,e,go,h=>by
  refine zC (λx n q h=> ?_) e h
  refine Qq (λx p h=> ?_) x h
  obtain⟨h,h0⟩:=a2 h
  obtain⟨h1,h2,h3⟩:=gk h
  cases of_decide_eq_true h0
  exact bo go (yU go h1 h2 h3) λ_=>rfl
 | .make c q es,X,E,cf,e,go,h=>by
  refine Wi (λg x l p h=> ?_) e h
  refine kE (λh=> ?_) l h
  refine kC (λx r h=> ?_) x h
  obtain⟨h1,h2,h3⟩:=a3 h
  exact bo go (Ci go h1 h2 (jd h3) (cz es go h3)) λ_=>rfl
 | .aU a c f,X,E,cf,e,go,h=>by
  refine zC (λx n q h=> ?_) e h
  obtain⟨h0,h1,h2,h3⟩:=a4 h
  cases of_decide_eq_true h0
  exact bo go (sQ go h1 h2 (Wb a go h3).1) λ_=>rfl
 | .cG a c m q es,X,E,cf,e,go,h=>by
  refine Wi (λg ys l p h=> ?_) e h
  refine kE (λh=> ?_) l h
  refine zC (λx n p2 h=> ?_) g h
  obtain⟨h0,h1,h2,h3,h4,h5,h6⟩:=a7 h
  cases of_decide_eq_true h0
  revert h3
  refine kC (λy ys h6 h3=> ?_) ys h6
  exact bo go (rA go h1 h2 (of_decide_eq_true h3) h4 (Wb a go h5).1 (jd h6) (cz es go h6)) λ_=>rfl
theorem e8: ∀(es:M.Es){X:Cx}{E:XK}{cf:Cf}{xs:List Expr},Go Γ F X E k cf->aV cf es xs=k9->PA X xs (gy Γ E (M.Gq F es))
 | .nil,X,E,cf,xs,go,h=>by
  cases Ad6.mp h
  exact BI
 | .cons a es,X,E,cf,xs,go,h=>by
  refine kC (λx r h=> ?_) xs h
  obtain⟨h1,h2,h3⟩:=a3 h
  exact tx h1 (Wb a go h2).1 (e8 es go h3)
theorem cz: ∀(es:M.Es){X:Cx}{E:XK}{cf:Cf}{xs:List Expr},Go Γ F X E k cf->aV cf es xs=k9->PA X xs (eC Γ E (M.Gf F es))
 | .nil,X,E,cf,xs,go,h=>by
  cases Ad6.mp h
  exact vP
 | .cons a es,X,E,cf,xs,go,h=>by
  refine kC (λx r h=> ?_) xs h
  obtain⟨h1,h2,h3⟩:=a3 h
  exact pF h1 (Wb a go h2).1 (cz es go h3)
theorem hV: ∀(it:M.It){X:Cx}{E:XK}{cf:Cf}{tg e:Expr},Go Γ F X E k cf->cZ cf it e=k9->PI X tg e (eM Γ E y9 (M.Gk F it))
 | .seq a,X,E,cf,tg,e,go,h=>vf go (Wb a go (a2 h).2).1
 | .aB a,X,E,cf,tg,e,go,h=>by
  refine Wi (λg x l p h=> ?_) e h
  refine kE (λh=> ?_) l h
  refine kC (λx r h=> ?_) x h
  refine kE (λh=> ?_) r h
  obtain⟨h1,h2,h3⟩:=a3 h
  exact wx go h1 h2 (Wb a go h3).1
 | .enum a,X,E,cf,tg,e,go,h=>ba h
 | .bO a,X,E,cf,tg,e,go,h=>ba h
end
end
structure Bs where
 G:Gh
 H:Hp
 h:M.AH
structure aT (Γ:Ge) (B:Bs) (G:Gh) (U:M.Sl) (h:M.AH) (Y:St) (H:Hp):Prop where
 st:ak Γ G U h Y H
 ext:Ext B.G B.H G H
 hr:ae Γ B.G B.h B.H
 own: ∀i xs a,M.Gp U i=y0 (.own xs)->Y[i]? =y0 (y0 (.ref a))->B.H a=u0
def aN (Γ:Ge) (E:XK) (B:Bs) (o:M.O) (D:XJ):Prop:=match o with
 | .next U h=> ∀G Y H,aT Γ B G U h Y H->D.nx Y H
 | .ret w h=> ∀G v H,Ext B.G B.H G H->ae Γ G h H->ah Γ G H w v->az [] [] B.H w v->D.rt v H
 | .brk U h=> ∀G Y H,aT Γ B G U h Y H->D.bk Y H
 | .cont U h=> ∀G Y H,aT Γ B G U h Y H->D.ct Y H
 | .exc d h=> ∀G H,Ext B.G B.H G H->ae Γ G h H->lX Γ E d G H
 | .fail=>False
def bE (Γ:Ge) (E:XK) (m:M.Sl->M.AH->M.O):TS:=λD Y H=> ∃B G U h,aT Γ B G U h Y H/\aN Γ E B (m U h) D
def PS.imp {X:Cx}{st:Stmt}{t t':TS}(h:PS X st t) (k: ∀D Y H,t' D Y H->t D Y H):PS X st t':=λa s Y H D I q=>h a s Y H D I (k _ _ _ q)
def cD.imp {X:Cx}{st:List Stmt}{t t':TS}(h:cD X st t) (k: ∀D Y H,t' D Y H->t D Y H):cD X st t':=λa s Y H D I q=>h a s Y H D I (k _ _ _ q)
section
variable {Γ:Ge}{E:XK}{B:Bs}{G G1:Gh}{U:M.Sl}{h h1:M.AH}{Y:St}{H H1:Hp}{D:XJ}
def aT.on (s:aT Γ B G U h Y H) (e:Ext G H G1 H1) (a:ae Γ G1 h1 H1):aT Γ B G1 U h1 Y H1:=⟨s.st.ext e a,s.ext.trans s.hr e,s.hr,s.own⟩
theorem aN.exc {c:Type}{P:c->M.AH->Gh->Hp->Prop}{d:M.D}(s:aT Γ B G U h Y H) (p:aN Γ E B (.exc d h1) D):aj Γ E G H (.exc d h1) P:=λf b e a=>p f b (s.ext.trans s.hr e) a
def zc {m:M.Sl->M.AH->M.R M.W}{f:M.W->M.AH->M.O}{Q:VK}(s:aT Γ B G U h Y H) (p:aN Γ E B ((m U h).bZ f) D)
 (k: ∀w v h1 G1 H1,Ext G H G1 H1->aT Γ B G1 U h1 Y H1->ah Γ G1 H1 w v->az U Y H w v->aN Γ E B (f w h1) D->Q v H1):tD Γ E m Y H Q:=by
 refine⟨G,U,h,s.st,?_⟩
 cases q:m U h with
 | ok w h1=>rw [q]at p;exact λG1 H1 e a v b c=>k w v h1 G1 H1 e (s.on e a) b c p
 | exc d h1=>rw [q]at p;exact aN.exc s p
 | fail=>rw [q]at p;exact p
def yQ {m:M.Sl->M.AH->M.R Bool}{f:Bool->M.AH->M.O}{Q:Bool->Hp->Prop}(s:aT Γ B G U h Y H) (p:aN Γ E B ((m U h).bZ f) D)
 (k: ∀b h1 G1 H1,Ext G H G1 H1->aT Γ B G1 U h1 Y H1->aN Γ E B (f b h1) D->Q b H1):cq Γ E m Y H Q:=by
 refine⟨G,U,h,s.st,?_⟩
 cases q:m U h with
 | ok w h1=>rw [q]at p;exact λG1 H1 e a=>k w h1 G1 H1 e (s.on e a) p
 | exc d h1=>rw [q]at p;exact aN.exc s p
 | fail=>rw [q]at p;exact p
theorem aT.set {w:M.W}{v:V}{i:Nat}(k:aT Γ B G U h Y H) (e:Ext G H G1 H1) (s:aT Γ B G1 U h1 Y H1) (r:ah Γ G1 H1 w v) (f:az U Y H w v) (hb: ∀xs,w≠ .bor xs):aT Γ B G1 (M.GG U i w) h1 (Y.set i (y0 v)) H1:=by
 refine⟨s.st.set r λt j u p e1 m a q z=> ?_,s.ext,s.hr,λj xs a e1 e2=> ?_⟩
 .cases w with
  | v d=>cases t
  | bor xs=>exact hb xs rfl
  | own xs=>
   obtain⟨b,g,l⟩:=f
   subst q
   cases g
   obtain⟨o,n⟩:=k.st.b5 e1 m z
   rw [l]at n;cases n
 .rw [Wh]at e1
  by_cases c:j=i/\i<U.length
  .rw [if_pos c]at e1
   cases e1
   obtain⟨rfl,c⟩:=c
   rw [Ac1 (by rw [← s.st.len];exact c)]at e2
   cases e2
   obtain⟨b,g,l⟩:=f
   cases g
   exact k.ext.none k.hr l
  .rw [if_neg c]at e1
   have p:j≠i:=λz=>c ⟨z,by subst z;exact Zn e1⟩
   rw [Ac6 (Ne.symm p)]at e2
   exact s.own j xs a e1 e2
def aT.fz {w:M.W}{v:V}{d:M.D}(a:aT Γ B G U h Y H) (e:Ext G H G1 H1) (s:aT Γ B G1 U h1 Y H1) (r:ah Γ G1 H1 w v) (f:az U Y H w v) (b:w.d=y0 d): ∃G2,Ext G H G2 H1/\aT Γ B G2 U h1 Y H1/\ao Γ G2 H1 d v:=by
 obtain⟨G2,e2,c,rd,_⟩:=lN e s.st a.st r f b
 exact⟨G2,e2,⟨c,a.ext.trans a.hr e2,s.hr,s.own⟩,rd⟩
def aT.cS {d:M.D}{v:V}{i:Nat}(s:aT Γ B G U h Y H) (r:ao Γ G H d v):aT Γ B G (M.GG U i (.v d)) h (Y.set i (y0 v)) H:=aT.set (w:= .v d) s Ext.refl s r trivial λa z=>by cases z
theorem aT.aG: ∀ {is:List Nat}{ds:List M.D}{vs:List V}{U a:M.Sl}{Y:St},M.aG is ds U=y0 a->aa Γ G H ds vs->aT Γ B G U h Y H->aT Γ B G a h (fB is vs Y) H/\is.length=vs.length
 | [],[],_,_,_,_,e,rfl,s=>by cases e;exact⟨s,rfl⟩
 | [],_::_,_,_,_,_,e,_,_=>by simp [M.aG]at e
 | _::_,[],_,_,_,_,e,_,_=>by simp [M.aG]at e
 | i::is,d::ds,_,_,_,_,e,⟨v,r,rfl,c,g⟩,s=>by
  obtain⟨f,b⟩:=aT.aG (is:=is) (ds:=ds) (by simpa [M.aG]using e) g (s.cS (i:=i) c)
  exact⟨f,congrArg (· +1) b⟩
def nT {tg:List Nat}{one:Bool}{d:M.D}{x:V}{b:M.Sl}{Q:St->Hp->Prop}(e:M.Gn tg one d U=y0 b) (r:ao Γ G H d x) (s:aT Γ B G U h Y H) (g: ∀j,aT Γ B G b h j H->Q j H):gM Γ tg one x Y H Q:=by
 unfold M.Gn at e
 cases one with
 | true=>
  cases tg with
  | nil=>cases e
  | cons i l=>
   cases l with
   | cons _ _=>cases e
   | nil=>
    cases e
    exact⟨i,rfl,g _ (s.cS r)⟩
 | false=>
  cases d with
  | tup c=>
   obtain⟨a,o,rfl,m,f⟩:=r
   obtain⟨k,n⟩:=aT.aG (show M.aG tg c U=y0 b from e) f s
   exact⟨G,c,o,a,rfl,m,f,n,g _ k⟩
  | _=>cases e
def aT.write {i:Nat}{xs R:List M.D}{us:List V}{a:Addr}(s:aT Γ B G U h Y H) (f:M.Gp U i=y0 (.own xs)) (n:Y[i]? =y0 (y0 (.ref a))) (r:aa Γ G H R us):aT Γ B G (M.GG U i (.own R)) h Y (ax H a (.lst us)):=by
 obtain⟨K,of,vs,ha,_⟩:=Qk s.st f n
 have Q:=s.own i xs a f n
 have mon:Mon G H G (ax H a (.lst us)):=⟨λb o z q=>by rw [qa (λe:b=a=>K (e▸z))];exact q,Aa6 _,λ_ _=>rfl,λ_ z=>z⟩
 have Z:i<U.length:=Zn f
 have F:ae Γ G h (ax H a (.lst us)):=by
  refine⟨s.st.heap.len,λq c e=>⟨(s.st.heap.any q c e).1,(s.st.heap.any q c e).2.mon mon λo z=>by rw [qa (of q (s.st.heap.lt e))];exact z⟩,s.st.heap.inj,λb z=> ?_⟩
  obtain⟨o,q⟩:=s.st.heap.live b z
  exact⟨o,by rw [qa (λe:b=a=>K (e▸z))];exact q⟩
 refine⟨⟨by rw [Wm];exact s.st.len,λj w e=> ?_,λp q D w b A m k hl W=> ?_,F⟩,⟨λb o q L=> ?_,s.ext.le,s.ext.aH,s.ext.new,s.ext.fz,s.ext.old,λq I z=> ?_⟩,s.hr,λj D b m k=> ?_⟩
 .rw [Wh]at e
  by_cases c:j=i/\i<U.length
  .rw [if_pos c]at e
   cases e
   obtain⟨rfl,_⟩:=c
   exact⟨.ref a,n,a,us,rfl,K,of,Qa,r.mon mon⟩
  .rw [if_neg c]at e
   have S:j≠i:=λz=>c ⟨z,by subst z;exact Zn e⟩
   obtain⟨v,O,P⟩:=s.st.slot j w e
   refine⟨v,O,?_⟩
   cases w with
   | v d=>exact ao.mon mon P
   | own J=>
    obtain⟨b,bs,rfl,T,y,g,E⟩:=P
    have u:b≠a:=λz=>s.st.apart i j xs (.own J) a (Ne.symm S) f e rfl n (z▸O)
    exact⟨b,bs,rfl,T,y,by rw [qa u];exact g,E.mon mon⟩
   | bor J=>
    obtain⟨b,bs,rfl,y,g,E⟩:=P
    have u:b≠a:=λz=>s.st.apart i j xs (.bor J) a (Ne.symm S) f e rfl n (z▸O)
    refine⟨b,bs,rfl,y,?_,E.mon mon⟩
    rcases g with g | ⟨o,g⟩
    .exact .inl (by rw [qa u];exact g)
    .exact .inr ⟨o,by rw [qa u];exact g⟩
 .rw [Wh]at m k
  have x: ∃l,M.Gp U p=y0 (.own l):=by
   by_cases c:p=i/\i<U.length
   .exact⟨xs,by rw [c.1];exact f⟩
   .rw [if_neg c]at m;exact⟨D,m⟩
  have C: ∃t,M.Gp U q=y0 t/\eG t=true:=by
   by_cases c:q=i/\i<U.length
   .exact⟨.own xs,by rw [c.1];exact f,rfl⟩
   .rw [if_neg c]at k;exact⟨w,k,hl⟩
  obtain⟨l,x⟩:=x
  obtain⟨t,C,N⟩:=C
  exact s.st.apart p q l t b A x C N W
 .rw [qa (λe:b=a=>by rw [e,Q]at q;cases q)]
  exact s.ext.keep b o q L
 .obtain⟨o,X⟩:=s.ext.cells q I z
  have:B.G.aH q≠a:=λe=>by
   have:=of q (Ab3 I s.ext.le)
   rw [s.ext.aH q I]at this
   exact this e
  exact⟨o,by rw [qa this];exact X⟩
 .rw [Wh]at m
  by_cases c:j=i/\i<U.length
  .obtain⟨rfl,_⟩:=c
   rw [n]at k
   cases k
   exact Q
  .rw [if_neg c]at m;exact s.own j D b m k
theorem Zp: ∀(xs:List M.D) (n:Nat){d:M.D},M.Gd xs=k9->M.Gb d=k9->M.Gd (xs.set n d)=k9
 | [],_,_,_,_=>rfl
 | x::xs,0,d,h,a=>by
  have h:(M.Gb x&&M.Gd xs)=true:=h
  rw [Aa1]at h
  show(M.Gb d&&M.Gd xs)=k9
  rw [a,h.2];rfl
 | x::xs,n+1,d,h,a=>by
  have h:(M.Gb x&&M.Gd xs)=true:=h
  rw [Aa1]at h
  show(M.Gb x&&M.Gd (xs.set n d))=k9
  rw [h.1,Zp xs n h.2 a];rfl
def aT.fN {r:Nat}{I p:M.Cell}{k:HO}(s:aT Γ B G U h Y H) (u:h[r]? =y0 I) (z:a8 Γ G (ax H (G.aH r) k) (G.aH r) p):aT Γ B G U (h.set r p) Y (ax H (G.aH r) k):=by
 have J:r<h.length:=(Ab.mp u).1
 have g:r<G.n:=s.st.heap.lt u
 have n:=s.st.heap.hX g
 have mon:Mon G H G (ax H (G.aH r) k):=⟨λb o w q=>by rw [qa (λe:b=G.aH r=>n (e▸w))];exact q,Aa6 _,λ_ _=>rfl,λ_ w=>w⟩
 have m:ae Γ G (h.set r p) (ax H (G.aH r) k):=by
  refine⟨by rw [Ac9];exact s.st.heap.len,λq c e=> ?_,s.st.heap.inj,λb w=> ?_⟩
  .by_cases c:q=r
   .subst c
    rw [Ac1 J]at e
    cases e
    exact⟨n,z⟩
   .rw [Ac6 (Ne.symm c)]at e
    exact⟨(s.st.heap.any q _ e).1,(s.st.heap.any q _ e).2.mon mon λo w=>by rw [qa λA=>c (s.st.heap.inj q r (s.st.heap.lt e) g A)];exact w⟩
  .obtain⟨o,q⟩:=s.st.heap.live b w
   exact⟨o,by rw [qa (λe:b=G.aH r=>n (e▸w))];exact q⟩
 refine⟨⟨s.st.len,λj w e=> ?_,s.st.apart,m⟩,⟨λb o q i=> ?_,s.ext.le,s.ext.aH,s.ext.new,s.ext.fz,s.ext.old,λq D w=> ?_⟩,s.hr,s.own⟩
 .obtain⟨v,F,t⟩:=s.st.slot j w e
  refine⟨v,F,?_⟩
  cases w with
  | v d=>exact ao.mon mon t
  | own E=>
   obtain⟨b,bs,rfl,y,f,a,l⟩:=t
   exact⟨b,bs,rfl,y,f,by rw [qa (Ne.symm (f r g))];exact a,l.mon mon⟩
  | bor E=>
   obtain⟨b,bs,rfl,f,a,l⟩:=t
   refine⟨b,bs,rfl,f,?_,l.mon mon⟩
   rcases a with a | ⟨o,a⟩
   .exact .inl (by rw [qa (Ne.symm (f r g))];exact a)
   .exact .inr ⟨o,by rw [qa (Ne.symm (f r g))];exact a⟩
 .have C:b≠G.aH r:=λe=>by
   by_cases c:r<B.G.n
   .exact i r c (by rw [← s.ext.aH r c];exact e.symm)
   .have:=s.ext.new r (Nat.not_lt.mp c) g
    rw [← e,q]at this
    cases this
  rw [qa C]
  exact s.ext.keep b o q i
 .by_cases c:B.G.aH q=G.aH r
  .exact⟨_,by rw [c];exact Qa⟩
  .obtain⟨o,x⟩:=s.ext.cells q D w
   exact⟨o,by rw [qa c];exact x⟩
def zS {r:Nat}(a:ae Γ G h H) (c:r<G.n) (o:HO):Mon G H G (ax H (G.aH r) o):=⟨λb o w q=>by rw [qa (λe:b=G.aH r=>a.hX c (e▸w))];exact q,Aa6 _,λ_ _=>rfl,λ_ w=>w⟩
def aT.cell {r:Nat}{xs a:List M.D}{us:List V}(s:aT Γ B G U h Y H) (b:h[r]? =y0 (.lst xs)) (c:M.Gd a=k9) (z:aa Γ G H a us):aT Γ B G U (h.set r (.lst a)) Y (ax H (G.aH r) (.lst us)):=
 s.fN b ⟨c,us,Qa,z.mon (zS s.st.heap (s.st.heap.lt b) _)⟩
def aT.fE {r:Nat}{b:String}{xs c:List (String×M.D)}{us:List V}{a:Addr}(s:aT Γ B G U h Y H) (d:h[r]? =y0 (.obj b xs)) (z:aa Γ G H (c.map (·.2)) us):aT Γ B G U (h.set r (.obj b c)) Y (ax H (G.aH r) (.ins (Γ.ca b) a ((c.map λp=>Str.ofString p.1).zip us))):=
 s.fN d ⟨a,us,Qa,z.mon (zS s.st.heap (s.st.heap.lt d) _)⟩
end
structure dQ (Γ:Ge) (F:M.Fx) (X:Cx) (E:XK) (k:Nat) (cf:Cf):Prop extends Go Γ F X E k cf where
 gH:PassesOwn (model X.prog X.w) X.A X.env X.xe
 eL:X.stack=X.env::X.outer
 iX:X.env.frame=y0 X.env.locals
 ex:X.ex= []
 d5: ∀c,cf.cb=true->cf.d5.contains c=true->fZ cf.sc (Xb c)=true->(Xb c==("__debug__" :Str))=false->dD Γ c/\ ∀(np u7 pos:Pos) (e:Expr) (es:List Expr) (t:TA),PA X (e::es) t->(∀ e'∈e::es,xa e'=true) →
  PS X (.Raise (y0 (.Call (.Name (Xb c) np) (e::es) [] u7)) u0 pos) (oI (Γ.ca c) E t)
 ic: ∀c f,cf.cb=true->cf.ob.er.contains (c,f)=true->fZ cf.sc (Xb c)=true->(Xb c==("__debug__" :Str))=false->dD Γ c/\h9 Γ.K (Γ.ca c) (Xb f)/\ ∀(np u7 pos:Pos) (e:Expr) (t:TA),PA X [e] t->xa e=true →
  PS X (.Raise (y0 (.Call (.Name (Xb c) np) [e] [] u7)) u0 pos) (Q8 (Γ.ca c) (Xb f) E t)
 dX: ∀c,cf.dX.contains c=true->PySem.W.mroIn X.K (Γ.ca c) (.type "BaseException")=some true/\cf.own.contains c=true/\2<=k
section
variable {Γ:Ge}{F:M.Fx}{X:Cx}{E:XK}{k:Nat}{cf:Cf}
def wu {i:Nat}{x:Str}(h:Ws cf i x=k9):cf.N[i]? =y0 x/\gC cf.sc x=true:=by
 simpa [Ws]using h
def xA {i:Nat}{x:Str}(h:JG cf i x=k9):cf.N[i]? =y0 x/\cf.sc.names.lookup x=y0 .local:=by
 simpa [JG]using h
def AR {a:M.E}{Y:St}{H:Hp}{Q:VK}(n:tD Γ E (M.eval F (.share a)) Y H Q):tD Γ E (M.eval F a) Y H Q:=by
 obtain⟨G,U,h,s,p⟩:=n
 rw [M.eval]at p
 refine Xa s.heap Ext.refl s p λt v1 c g y e1 u i q j b=> ?_
 cases t with
 | own e=>
  obtain⟨l,A,rfl,w,r,o,m⟩:=q
  obtain⟨z,k,x⟩:=j
  cases k
  have b:aj Γ E G H (if M.Gd e=k9 then M.aw (.ref c.length) (c++ [.lst e])else .fail) _:=b
  by_cases f:M.Gd e=k9
  rotate_left
  .rw [if_neg f]at b;exact b.elim
  rw [if_pos f]at b
  refine aj.val b (QE e1 x) (JH i.heap w r o m f) (v:= .ref l) ?_ trivial
  show c.length<g.n+1/\V.ref l= .ref (if c.length=g.n then l else g.aH c.length)
  rw [i.heap.len,if_pos rfl]
  exact⟨Ae6 _,rfl⟩
 | v d=>exact b.elim
 | bor e=>exact b.elim
def Wd {v:Expr}{t:Option Expr}{l:Nat}{env:Env}(h:Xr v=k9):swapsWith v t l env=pure false:=by
 cases v<;>first | rfl | (simp [Xr]at h)
def jA {v o:Expr}{n:Str}{p:Pos}{l:Nat}{env:Env}:swapsWith v (y0 (.Attribute o n p)) l env=pure false:=by cases v<;>rfl
def qI (a:Go Γ F X E k cf){m:M.E}{v:Expr}{i:Nat}{x:Str}{p pos:Pos}(b:Ws cf i x=k9) (f:PE X v (tD Γ E (M.eval F m))) (e:swapsWith v (y0 (.Name x p)) pos.line X.env=pure y9):
 PS X (.Assign [.Name x p] v pos) (fL (tD Γ E (M.eval F m)) (wL i)):=by
 obtain⟨d,c⟩:=wu b
 have b:=a.eF x c
 exact yg (by rw [a.N];exact a.nd) (by rw [a.N];exact d) b.1 f e b.2
def nc:M.E->Bool
 | .share _=>k9
 | .comp .. =>k9
 | _=>y9
def yk {m:M.E}{v:Expr}(h:Zb cf m v=k9) (a:nc m=y9):Xr v=true:=by
 cases v with
 | ListComp _ _ _ _=>cases m<;>first | exact ba h | (exact absurd (show k9=y9 from a) Al5)
 | SetComp _ _ _ _=>cases m<;>first | exact ba h | (exact absurd (show k9=y9 from a) Al5)
 | DictComp _ _ _ _ _=>cases m<;>first | exact ba h | (exact absurd (show k9=y9 from a) Al5)
 | _=>rfl
def tL (d:Cf) (a:Bool) (b:List Expr) (c:M.E):Bool:=bif a then(lC b λz r=>kZ r (eh c&&Zb d c z))else b.isEmpty
def uu {tg:List Nat}{one b:Bool}{e:Nat}{a:List Nat}{it:M.It}{c d:M.E}{v:Expr}(h:Zb cf (.comp tg one e a it b c d) v=k9): ∃y t iter ifs scope p0,v= .ListComp y [⟨t,iter,ifs,0⟩] scope p0 ∧
 hG cf scope (jm cf t a) e a/\(∀ i∈tg,i<e)/\Jd { cf with sc:=scope,N:=jm cf t a } tg one t=k9/\cZ cf it iter=k9/\Zb { cf with sc:=scope,N:=jm cf t a } d y=k9 ∧
 tL { cf with sc:=scope,N:=jm cf t a } b ifs c=true:=by
 refine mM (λy g s p h=> ?_) v h
 refine kC (λg r h=> ?_) g h
 obtain⟨t,iter,ifs,z⟩:=g
 obtain⟨m,n,f,l,j,o,k⟩:=a7 h
 obtain⟨rfl,rfl⟩:=of_decide_eq_true m
 simp only [Ag8,decide_eq_true_eq]at f
 exact⟨y,t,iter,ifs,s,p,rfl,xy n,f,l,j,o,k⟩
def B4 (j:Go Γ F X E k cf){v:Expr}{i:Nat}{x:Str}{p pos:Pos}(D:Ws cf i x=k9){tg:List Nat}{one a:Bool}{q:Nat}{f:List Nat}{it:M.It}{c e:M.E}(h:Zb cf (.comp tg one q f it a c e) v=k9):
 PS X (.Assign [.Name x p] v pos) (fL (tD Γ E (M.eval F (.comp tg one q f it a c e))) (wL i)):=by
 have V:=(Wb (.comp tg one q f it a c e) j h).1
 obtain⟨y,t,l,g,d,K,rfl,o,L,P,w,T,B⟩:=uu h
 obtain⟨b,A⟩: ∃b,swapsWith (.ListComp y [⟨t,l,g,0⟩] d K) (y0 (.Name x p)) pos.line X.env=pure b:=⟨_,rfl⟩
 cases b with
 | false=>exact qI j D V A
 | true=>
  obtain⟨R,O⟩:=wu D
  have W: ∀C m s H,fg (xc X (jm cf t f) d C m s H) g (cq Γ E0 (zZ F a c)):=λC m s H=>by
   have S:=jr j o C m s H
   cases a with
   | true=>
    refine kC (λz r h=> ?_) g B
    refine kE (λh=> ?_) r h
    exact J3 ((Wb c S (a2 h).2).2 (a2 h).1)
   | false=>
    cases Ad6.mp B
    intro n N Y u Q I ⟨G,U,h,J,p⟩
    exact o7 n N Y u Q I (p G u Ext.refl J.heap)
  exact WM j R O A o (qv o.bI) P L (WH w) (hV it j w) (λC m s H=>(Wb e (jr j o C m s H) T).1) W
def wb (a:Go Γ F X E k cf){v:Expr}{i:Nat}{x:Str}{p pos:Pos}(c:Ws cf i x=k9){m:M.E}(h:Zb cf m v=k9) (b:nc m=y9):PS X (.Assign [.Name x p] v pos) (fL (tD Γ E (M.eval F m)) (wL i)):=
 qI a c (Wb m a h).1 (Wd (yk h b))
theorem Q9 (b:Go Γ F X E k cf){v:Expr}{i:Nat}{x:Str}{p pos:Pos}(c:Ws cf i x=k9): ∀(m:M.E),Zb cf m v=k9->PS X (.Assign [.Name x p] v pos) (fL (tD Γ E (M.eval F m)) (wL i))
 | .share a,h=>PS.imp (Q9 b c a h) λD Y H q=>AR q
 | .comp ..,h=>B4 b c h
 | .var _,h=>wb b c h rfl
 | .con _,h=>wb b c h rfl
 | .int _,h=>wb b c h rfl
 | .bl _,h=>wb b c h rfl
 | .ai,h=>wb b c h rfl
 | .str _,h=>wb b c h rfl
 | .tup _,h=>wb b c h rfl
 | .lst _,h=>wb b c h rfl
 | .bin ..,h=>wb b c h rfl
 | .cmp ..,h=>wb b c h rfl
 | .chain ..,h=>wb b c h rfl
 | .dZ ..,h=>wb b c h rfl
 | .neg _,h=>wb b c h rfl
 | .not _,h=>wb b c h rfl
 | .and ..,h=>wb b c h rfl
 | .or ..,h=>wb b c h rfl
 | .call ..,h=>wb b c h rfl
 | .bi ..,h=>wb b c h rfl
 | .cT ..,h=>wb b c h rfl
 | .bc ..,h=>wb b c h rfl
 | .ix ..,h=>wb b c h rfl
 | .dG ..,h=>wb b c h rfl
 | .d7 ..,h=>wb b c h rfl
 | .bx _,h=>wb b c h rfl
 | .gb ..,h=>wb b c h rfl
 | .xf ..,h=>wb b c h rfl
 | .make ..,h=>wb b c h rfl
 | .aU ..,h=>wb b c h rfl
 | .cG ..,h=>wb b c h rfl
def ue (l:Go Γ F X E k cf){v:Expr}{i:Nat}{x:Str}{p pos:Pos}(o:Ws cf i x=k9){m:M.E}(h:Zb cf m v=k9):PS X (.Assign [.Name x p] v pos) (bE Γ E (M.exec F (.set i m))):=by
 refine PS.imp (Q9 l o m h) λD Y H n=> ?_
 obtain⟨B,G,U,h,s,p⟩:=n
 rw [M.exec]at p
 refine zc s p λw v r g b e1 e j c a=> ?_
 cases w with
 | bor f=>exact a.elim
 | v d=>exact a g _ b (aT.set s e1 e j c λf z=>by cases z)
 | own q=>exact a g _ b (aT.set s e1 e j c λf z=>by cases z)
def uE (c:Go Γ F X E k cf){v:Expr}{i:Nat}{x:Str}{p pos:Pos}(o:Ws cf i x=k9){m:M.E}(h:Zb cf m v=k9):PS X (.Assign [.Name x p] v pos) (bE Γ E (M.exec F (.av i m))):=by
 refine PS.imp (Q9 c o m h) λD Y H f=> ?_
 obtain⟨B,G,U,h,s,p⟩:=f
 rw [M.exec]at p
 refine zc s p λw v r t b e1 l n e a=> ?_
 cases q:w.d with
 | none=>rw [q]at a;exact a.elim
 | some d=>
  rw [q]at a
  obtain⟨g,e2,j,rd⟩:=aT.fz s e1 l n e q
  exact a g _ b (j.cS rd)
def XG {v:Expr}{a:List Expr}{n:Nat}{p:Pos}{l:Nat}{env:Env}:swapsWithSole [.Tuple a n p] v l env=pure false:=by
 cases v<;>rfl
def Xx {v:Expr}{a:List Expr}{n:Nat}{p:Pos}{env:Env}(h:wg v=k9):swappedStores [.Tuple a n p] v env=pure none:=by
 cases v<;>first | rfl | (simp [wg]at h)
def u1 (g:Go Γ F X E k cf){v:Expr}{is:List Nat}{f:List Expr}{n:Nat}{p pos:Pos}(x:iN cf is f=k9) (u:wg v=k9){m:M.E}(h:Zb cf m v=k9):PS X (.Assign [.Tuple f n p] v pos) (bE Γ E (M.exec F (.eV is m))):=by
 refine PS.imp (QQ (Wb m g h).1 (Xo g (tg:=is) (one:=y9) (e:= .Tuple f n p) x) XG (Xx u) rfl) λD Y H j=> ?_
 obtain⟨B,G,U,h,s,p⟩:=j
 rw [M.exec]at p
 refine zc s p λw v t y i e1 o z A a=> ?_
 cases w with
 | v d=>
  cases d with
  | tup b=>
   have a:aN Γ E B (match M.aG is b U with | some c=> .next c t | none=> .fail) D:=a
   cases q:M.aG is b U with
   | none=>rw [q]at a;exact a.elim
   | some c=>
    rw [q]at a
    exact nT (one:=y9) (show M.Gn is y9 (.tup b) U=y0 c from q) z o λr l=>a y r i l
  | _=>exact a.elim
 | own _=>exact a.elim
 | bor _=>exact a.elim
def ZI {v x y:Expr}{p:Pos}{l:Nat}{env:Env}:swapsWithSole [.Subscript x y p] v l env=pure false:=by
 cases v<;>rfl
def XA {v x y:Expr}{p:Pos}{env:Env}:swappedStores [.Subscript x y p] v env=pure none:=by
 cases v<;>rfl
def ZN {x y:Expr}{p:Pos}{env:Env}(a:Xd y=k9) (v:Value):assign (.Subscript x y p) env v=(do
 let i ←holding [v] (eval x env)
 let j ←holding [v,i] (eval y env)
 standAt p
 holding [v,i,j] (setItem i j v)
 release [v,i,j] []):=by
 cases y<;>first | rfl | (simp [Xd]at a)
def jF {G b:Gh}{H H':Hp}{d:M.D}{v:V}(a:M.GO d=k9) (z:ao Γ G H d v):ao Γ b H' d v:=by
 cases d with
 | ai=>exact z
 | bl _=>exact z
 | int _=>exact z
 | str _=>exact z
 | _=>exact absurd (show y9=k9 from a) Aa4
def jz {d:M.D}(a:M.GO d=k9):M.Gb d=true:=by
 cases d<;>first | rfl | exact absurd (show y9=k9 from a) Aa4
def WO (b:Go Γ F X E k cf){x y v:Expr}{p pos:Pos}(C:Xd y=k9){o g m:M.E}(z:Zb cf o x=k9) (A:Zb cf g y=k9) (h:Zb cf m v=k9):PS X (.Assign [.Subscript x y p] v pos) (bE Γ E (M.exec F (.b4 o g m))):=by
 refine PS.imp (QQ (Wb m b h).1 (lG (Wb o b z).1 (Wb g b A).1 QC (ZN C)) ZI XA rfl) λD Y H u=> ?_
 obtain⟨B,G,U,h,s,p⟩:=u
 rw [M.exec]at p
 refine zc s p λw v h1 G1 Z e1 I S f1 J=> ?_
 refine zc I J λow O h2 G2 H2 e2 i N f2 T=> ?_
 refine zc i T λkw L h3 c l V e K f3 a=> ?_
 unfold M.Kg at a
 split at a
 .rename_i d r j
  split at a
  .rename_i f q
   split at a
   .rename_i n R
    split at a
    .rename_i t
     obtain⟨h4,P⟩:=(show ao Γ c l (.ref r) O from ah.ext (w:= .v (.ref r)) V i.st.heap N)
     subst P
     cases (show L= .int j from K)
     have rd:ao Γ c l d v:=jF t S
     obtain⟨_,W,Q,rv⟩:=e.st.heap.cell r f q
     refine⟨_,W,j,n,rfl,rfl,Q,by rw [← rv.length];exact R,?_⟩
     exact a c Y _ (e.cell q (Zp f n (e.st.heap.pure r f q) (jz t)) (aa.set rd n rv))
    .exact a.elim
   .exact a.elim
  .exact a.elim
 .exact a.elim
def Cm {w:M.W}{a b:M.D}(h:M.ej w=y0 (a,b)):w= .v (.tup [a,b]):=by
 unfold M.ej at h
 split at h
 .cases h;rfl
 .cases h
def ra (f:Go Γ F X E k cf){x y v:Expr}{a:Str}{j n:Nat}{p S pt pos:Pos}(hy:Xd y=k9) (hn:wg v=k9) (O:(cf.cb&&Ws cf j a)=k9){o C m:M.E}(ho:Zb cf o x=k9) (hk:Zb cf C y=k9) (h:Zb cf m v=k9):PS X (.Assign [.Tuple [.Subscript x y p,.Name a S] n pt] v pos) (bE Γ E (M.exec F (.eg o C j m))):=by
 obtain⟨j1,j2⟩:=wu (a2 O).2
 have P:=f.eF a j2
 refine PS.imp (QQ (Wb m f h).1 (nE (f.calm (a2 O).1) (jC (lG (Wb o f ho).1 (Wb C f hk).1 QC (ZN hy)) (jC (WL (i:=j) (X:=X) (by rw [f.N];exact f.nd) (by rw [f.N];exact j1) P.1 P.2) J5))) XG (Xx hn) rfl) λD Y H qq=> ?_
 obtain⟨B,G,U,h,s,p⟩:=qq
 rw [M.exec]at p
 refine zc s p λw v h1 G1 H1 e1 T r1 f1 g=> ?_
 cases z:M.ej w with
 | none=>rw [z]at g;exact g.elim
 | some dd=>
  obtain⟨I,d2⟩:=dd
  rw [z]at g
  dsimp only at g
  cases Cm z
  obtain⟨b,J,rfl,z2,v1,r',rfl,z3,v2,R,rfl,z4,rfl⟩:=(show ao Γ G1 H1 (.tup [I,d2]) v from r1)
  refine⟨b,[v1,v2],rfl,f.K▸z2.sq,rfl,v1,[v2],rfl,?_⟩
  refine zc T g λow ov h2 G2 H2 e2 N r2 f2 p2=> ?_
  refine zc N p2 λkw Z V u K e3 A r3 f3 e=> ?_
  split at e
  rotate_left
  .exact e.elim
  rename_i l
  cases c:M.Kg (.v I) ow kw U V with
  | next U' h'=>
   rw [c]at e
   dsimp only at e
   unfold M.Kg at c
   split at c
   .rename_i d r Q e1
    cases e1
    split at c
    .rename_i t q
     split at c
     .rename_i n qn
      split at c
      .rename_i L
       cases c
       obtain⟨h4,h5⟩:=(show ao Γ u K (.ref r) ov from ah.ext (w:= .v (.ref r)) e3 N.st.heap r2)
       subst h5
       cases (show Z= .int Q from r3)
       have rd:ao Γ u K I v1:=jF L z3
       obtain⟨_,J,hv,rv⟩:=A.st.heap.cell r t q
       refine⟨_,J,Q,n,rfl,rfl,hv,by rw [← rv.length];exact qn,?_⟩
       have W:=A.cell q (Zp t n (A.st.heap.pure r t q) (jz L)) (aa.set rd n rv)
       exact⟨v2,[],rfl,rfl,e u _ _ (W.cS (jF l z4))⟩
      .cases c
     .cases c
    .cases c
   .cases c
  | ret _ _=>rw [c]at e;exact e.elim
  | brk _ _=>rw [c]at e;exact e.elim
  | cont _ _=>rw [c]at e;exact e.elim
  | exc _ _=>rw [c]at e;exact e.elim
  | fail=>rw [c]at e;exact e.elim
def qS {i:Nat}{m:Str}{e:Expr}{a:Pos}(h:JL cf i m e a=k9): ∃x p apos,e= .Attribute (.Name x p) m apos/\cf.N[i]? =y0 x/\JX cf.sc x=k9/\ck x=k9/\(apos.endLine==a.line)=true:=by
 refine zC (λx n q h=> ?_) e h
 refine Qq (λx p h=> ?_) x h
 obtain⟨h,c,g⟩:=a3 h
 obtain⟨f,b,d⟩:=gk h
 cases of_decide_eq_true c
 exact⟨_,_,_,rfl,f,b,d,g⟩
def t6 (j:Go Γ F X E k cf){v f:Expr}{i:Nat}{c pos:Pos}(S:JL cf i "append" f c=true) (r:xa v=true){m:M.E}(h:Zb cf m v=true):PS X (.Expr (.Call f [v] [] c) pos) (bE Γ E (M.exec F (.app i m))):=by
 obtain⟨x,p,t,rfl,o,N,e,C⟩:=qS S
 unfold ck at e
 rw [Aa1]at e
 have pv:=jo (X:=X) (pos:=p) (by rw [j.N];exact o) (j.ef x N) (by simpa using e.1) (by simpa using e.2)
 refine PS.imp (ZC (l6 PySem.F.plainAttrs_list PySem.F.slot_list_append PySem.F.type_list_append zK pv (zd (Wb m j h).1 ji (Za r)) rfl (by rw [Za r];rfl) C (Za r) rfl) (Wd rfl)) λD Y H J=> ?_
 obtain⟨B,G,U,h,s,p⟩:=J
 rw [M.exec]at p
 cases q:M.Gp U i with
 | none=>rw [q]at p;exact p.elim
 | some K=>
  rw [q]at p
  cases K with
  | v d=>exact p.elim
  | bor g=>exact p.elim
  | own g=>
   obtain⟨v0,n,a,V,rfl,z2,z3,Q,Z⟩:=s.st.slot i _ q
   refine⟨.ref a,n,.inl ⟨rfl,V,aY.of Q⟩,?_⟩
   refine zc s p λw v o G1 W e1 O T I b=> ?_
   cases l:w.d with
   | none=>rw [l]at b;exact b.elim
   | some d=>
    rw [l]at b
    obtain⟨L,e2,u,rd⟩:=aT.fz s e1 O T I l
    have b:aN Γ E B (if g.length<M.aX then .next (M.GG U i (.own (g++ [d]))) o else .fail) D:=b
    by_cases A:g.length<M.aX
    .rw [if_pos A]at b
     obtain⟨nf,of,R,P,y⟩:=Qk u.st q n
     have z:=y.length
     exact⟨a,R,v,rfl,rfl,P,by have:=jg;omega,b L Y _ (u.write q n (y.append ⟨v,[],rfl,rd,rfl⟩))⟩
    .rw [if_neg A]at b;exact b.elim
def sW (o:Go Γ F X E k cf){v f:Expr}{i:Nat}{e pos:Pos}(W:JL cf i "extend" f e=true) (y:xa v=true){m:M.E}(h:Zb cf m v=true):PS X (.Expr (.Call f [v] [] e) pos) (bE Γ E (M.exec F (.ext i m))):=by
 obtain⟨x,p,A,rfl,t,Q,j,L⟩:=qS W
 unfold ck at j
 rw [Aa1]at j
 have pv:=jo (X:=X) (pos:=p) (by rw [o.N];exact t) (o.ef x Q) (by simpa using j.1) (by simpa using j.2)
 refine PS.imp (ZC (l6 PySem.F.plainAttrs_list PySem.F.slot_list_extend PySem.F.type_list_extend AY pv (zd (Wb m o h).1 ji (Za y)) rfl (by rw [Za y];rfl) L (Za y) rfl) (Wd rfl)) λD Y H N=> ?_
 obtain⟨B,G,U,h,s,p⟩:=N
 rw [M.exec]at p
 cases q:M.Gp U i with
 | none=>rw [q]at p;exact p.elim
 | some O=>
  rw [q]at p
  cases O with
  | v d=>exact p.elim
  | bor n=>exact p.elim
  | own n=>
   obtain⟨v0,r,a,vs,rfl,z2,z3,S,z5⟩:=s.st.slot i _ q
   refine⟨.ref a,r,.inl ⟨rfl,vs,aY.of S⟩,?_⟩
   refine zc s p λw v t V H1 e1 C Z f1 c=> ?_
   cases w with
   | v d=>exact c.elim
   | bor l=>exact c.elim
   | own l=>
    obtain⟨b,u,rfl,_,_,P,g⟩:=Z
    have c:aN Γ E B (if n.length+l.length<M.aX then .next (M.GG U i (.own (n++l))) t else .fail) D:=c
    by_cases K:n.length+l.length<M.aX
    .rw [if_pos K]at c
     obtain⟨nf,of,T,R,I⟩:=Qk C.st q r
     have J:=I.length
     have z:=g.length
     exact⟨a,b,T,u,rfl,rfl,R,P,by have:=jg;omega,c V Y _ (C.write q r (I.append g))⟩
    .rw [if_neg K]at c;exact c.elim
theorem xB: ∀ {xs a:List M.D},M.Gd xs=k9->M.Gd a=k9->M.Gd (xs++a)=k9
 | [],_,_,h=>h
 | x::xs,a,h,b=>by
  have h:(M.Gb x&&M.Gd xs)=true:=h
  rw [Aa1]at h
  show(M.Gb x&&M.Gd (xs++a))=k9
  rw [h.1,xB h.2 b];rfl
def Bn (C:Go Γ F X E k cf){x v:Expr}{a m:M.E}{c pos b:Pos}(hx:attributeBase x "append" X.env (eval x X.env)=eval x X.env) (K:(b.endLine==c.line)=true) (z:xa v=true) (Z:Zb cf a x=true) (h:Zb cf m v=true):PS X (.Expr (.Call (.Attribute x "append" b) [v] [] c) pos) (bE Γ E (M.exec F (.dY a m))):=by
 refine PS.imp (ZC (l6 PySem.F.plainAttrs_list PySem.F.slot_list_append PySem.F.type_list_append zK (Wb a C Z).1 (zd (Wb m C h).1 ji (Za z)) hx (by rw [Za z];rfl) K (Za z) rfl) (Wd rfl)) λD Y H N=> ?_
 obtain⟨B,G,U,h,s,p⟩:=N
 rw [M.exec]at p
 refine zc s p λo vo h0 P H0 e0 y W f0 g=> ?_
 cases q:M.GT h0 (y0 o)with
 | none=>rw [q]at g;exact g.elim
 | some f=>
  rw [q]at g
  obtain⟨V,S⟩:=WG (r:=f.1) (xs:=f.2) q
  cases V
  obtain⟨l,rfl⟩:=(show ao Γ P H0 (.ref f.1) vo from W)
  obtain⟨_,t,u,_⟩:=y.st.heap.cell f.1 f.2 S
  refine⟨.inl ⟨rfl,t,aY.of u⟩,?_⟩
  refine zc y g λw v h1 G1 H1 e1 T r1 L e=> ?_
  split at e
  .rename_i d r i R O
   obtain⟨Q,e2,j,rd⟩:=aT.fz y e1 T r1 L R
   by_cases A:i.length<M.aX/\M.Gb d=k9
   .rw [if_pos A]at e
    obtain⟨k1,n⟩:=WG O
    cases k1
    obtain⟨_,us,hu,I⟩:=j.st.heap.cell _ i n
    have J:=I.length
    exact⟨_,us,v,by rw [e2.aH _ l],rfl,hu,by have:=jg;omega,e Q Y _ (j.cell n (xB (j.st.heap.pure _ i n) (by show(M.Gb d&&k9)=k9;rw [A.2];rfl)) (I.append ⟨v,[],rfl,rd,rfl⟩))⟩
   .rw [if_neg A]at e;exact e.elim
  .exact e.elim
def zM (b:Go Γ F X E k cf){i:Nat}{c f:String}{x:Str}{v:Expr}{a L pos:Pos}{m:M.E}(h1:cf.N[i]? =y0 x) (h2:JX cf.sc x=k9) (C:ck x=k9) (l:cf.ob.fl.contains (c,f)=k9) (h:Zb cf m v=k9):PS X (.Assign [.Attribute (.Name x a) (Xb f) L] v pos) (bE Γ E (M.exec F (.bf i c f m))):=by
 refine PS.imp (nZ (QM b h1 h2 C) (Wb m b h).1 jA) λD Y H y=> ?_
 obtain⟨B,G,U,h,s,p⟩:=y
 rw [M.exec]at p
 refine zc s p λw v h1 j u e1 g K P a=> ?_
 cases w with
 | own _=>exact a.elim
 | bor _=>exact a.elim
 | v d=>
  dsimp only at a
  cases q:M.GU h1 (M.Gp U i)with
  | none=>rw [q]at a;exact a.elim
  | some o=>
   obtain⟨r,N,fs⟩:=o
   rw [q]at a
   dsimp only at a
   split at a
   .rename_i J
    obtain⟨rfl,S⟩:=J
    obtain⟨e2,n⟩:=zv q
    obtain⟨Q,z,R,O,I⟩:=g.st.heap.obj r _ fs n
    obtain⟨A,e,t⟩:=jE (f:=f) (show ao Γ j u d v from K) I
    refine⟨_,qR g.st q,j.aH r,Γ.ca N,z,_,rfl,O,(b.fld _ _ l).1,(b.fld _ _ l).2,?_,?_⟩
    .rw [List.length_zip,Aa0];omega
    .rw [t]
     exact a j Y _ (g.fE n e)
   .exact a.elim
def XL (b:Go Γ F X E k cf){i:Nat}{c f:String}{x:Str}{v:Expr}{a O pos:Pos}{m:M.E}(h1:cf.N[i]? =y0 x) (h2:JX cf.sc x=k9) (J:ck x=k9) (n:cf.ob.fl.contains (c,f)=k9) (h:Zb cf m v=k9):PS X (.Assign [.Attribute (.Name x a) (Xb f) O] v pos) (bE Γ E (M.exec F (.bB i c f m))):=by
 refine PS.imp (nZ (QM b h1 h2 J) (Wb m b h).1 jA) λD Y H z=> ?_
 obtain⟨B,G,U,h,s,p⟩:=z
 rw [M.exec]at p
 refine zc s p λw v h1 W R e1 I N y a=> ?_
 cases g:w.d with
 | none=>rw [g]at a;exact a.elim
 | some d=>
  rw [g]at a
  obtain⟨l,e2,j,rd⟩:=aT.fz s e1 I N y g
  dsimp only at a
  cases q:M.GU h1 (M.Gp U i)with
  | none=>rw [q]at a;exact a.elim
  | some o=>
   obtain⟨r,P,fs⟩:=o
   rw [q]at a
   dsimp only at a
   split at a
   .rename_i L
    obtain⟨rfl,S,Z⟩:=L
    obtain⟨e2,t⟩:=zv q
    obtain⟨T,A,V,Q,K⟩:=j.st.heap.obj r _ fs t
    obtain⟨C,e,u⟩:=jE (f:=f) rd K
    refine⟨_,qR j.st q,l.aH r,Γ.ca P,A,_,rfl,Q,(b.fld _ _ n).1,(b.fld _ _ n).2,?_,?_⟩
    .rw [List.length_zip,Aa0];omega
    .rw [u]
     exact a l Y _ (j.fE t e)
   .exact a.elim
def xW (e:Go Γ F X E k cf){x:Str}{y v:Expr}{i:Nat}{p b pos:Pos}(h1:cf.N[i]? =y0 x) (h2:JX cf.sc x=k9) (f:ck x=k9) (J:Xd y=k9){o m:M.E}(I:Zb cf o y=k9) (h:Zb cf m v=k9):PS X (.Assign [.Subscript (.Name x p) y b] v pos) (bE Γ E (M.exec F (.c5 i o m))):=by
 unfold ck at f
 rw [Aa1]at f
 have pv:=jo (X:=X) (pos:=p) (by rw [e.N];exact h1) (e.ef x h2) (by simpa using f.1) (by simpa using f.2)
 refine PS.imp (QQ (Wb m e h).1 (lG pv (Wb o e I).1 QC (ZN J)) ZI XA rfl) λD Y H A=> ?_
 obtain⟨B,G,U,h,s,p⟩:=A
 rw [M.exec]at p
 refine zc s p λw v h1 Q z e1 l T V c=> ?_
 cases q:M.Gp U i with
 | none=>rw [q]at c;exact c.elim
 | some C=>
  rw [q]at c
  cases C with
  | v d=>exact c.elim
  | bor K=>exact c.elim
  | own K=>
   obtain⟨v0,g,a,vs,rfl,z2,z3,z4,z5⟩:=l.st.slot i _ q
   refine⟨.ref a,g,?_⟩
   refine zc l c λW N h2 r R e2 t O Z b=> ?_
   split at b
   .rename_i d j
    split at b
    .rename_i n S
     cases (show N= .int j from O)
     have rd:ao Γ r R d v:=(show ao Γ Q z d v from T).ext e2 l.st.heap
     obtain⟨nf,of,P,L,u⟩:=Qk t.st q g
     refine⟨_,P,j,n,rfl,rfl,L,by rw [← u.length];exact S,?_⟩
     exact b r Y _ (t.write q g (aa.set rd n u))
    .exact b.elim
   .exact b.elim
end
section
variable {Γ:Ge}{E:XK}{B:Bs}{G:Gh}{U:M.Sl}{h:M.AH}{Y:St}{H:Hp}{D:XJ}
def Bj {a:Addr}{i:Nat}{xs:List M.D}(b:M.Gp U i=y0 (.own xs)) (c:Y[i]? =y0 (y0 (.ref a))):xh U Y H a=none:=by
 unfold xh
 rw [if_pos ⟨i,xs,b,c⟩]
def JT {a:Addr}{o:HO}(e:xh U Y H a=y0 o):H a=y0 o:=by
 unfold xh at e
 split at e
 .cases e
 .exact e
def B9 (s:ak Γ G U h Y H):ae Γ G h (xh U Y H) where
 len:=s.heap.len
 any:=λr c e=>⟨(s.heap.any r c e).1,(s.heap.any r c e).2.mon (zp s) λo z=>by rw [Jh λ⟨i,f,b,d⟩=>(Qk s b d).2.1 r (s.heap.lt e) rfl];exact z⟩
 inj:=s.heap.inj
 live:=λa z=>by
  obtain⟨o,q⟩:=s.heap.live a z
  exact⟨o,by rw [Jh λ⟨i,f,b,d⟩=>(Qk s b d).1 z];exact q⟩
def fq (G:Gh) (U:M.Sl) (h:M.AH) (Y:St) (H:Hp):Bs:=⟨G,xh U Y H,h⟩
def Jv (s:aT Γ B G U h Y H):Ext B.G B.H G (xh U Y H) where
 keep:=λa o e d=>by
  rw [Jh λ⟨i,f,b,c⟩=>by rw [s.own i f a b c]at e;cases e]
  exact s.ext.keep a o e d
 le:=s.ext.le
 aH:=s.ext.aH
 new:=s.ext.new
 fz:=s.ext.fz
 old:=s.ext.old
 cells:=λr j z=>by
  obtain⟨o,q⟩:=s.ext.cells r j z
  refine⟨o,?_⟩
  rw [Jh λg=>by
   obtain⟨i,f,b,c⟩:=g
   obtain⟨u,z⟩:=z
   rw [s.own i f _ b c]at z
   cases z]
  exact q
def rR (s:aT Γ B G U h Y H):aT Γ (fq G U h Y H) G U h Y H where
 st:=s.st
 ext:=⟨λa o e _=>JT e,Aa6 _,λ_ _=>rfl,λr h1 h2=>absurd h1 (Al.mpr h2),λ_ z=>z,λ_ z=> .inl z,λr hr ⟨o,z⟩=>⟨o,JT z⟩⟩
 hr:=B9 s.st
 own:=λi xs a e1 e2=>Bj e1 e2
def JB (s:aT Γ B G U h Y H){e:Gh}{U2:M.Sl}{h2:M.AH}{d:St}{c:Hp}(b:aT Γ (fq G U h Y H) e U2 h2 d c):aT Γ B e U2 h2 d c:=
 ⟨b.st,(Jv s).trans s.hr b.ext,s.hr,λi f a e1 e2=>(Jv s).none s.hr (b.own i f a e1 e2)⟩
def yZ (s:aT Γ B G U h Y H){o:M.O}(p:aN Γ E B o D):aN Γ E (fq G U h Y H) o D:=by
 cases o with
 | next l j=>exact λc i b g=>p c i b (JB s g)
 | brk l j=>exact λc i b g=>p c i b (JB s g)
 | cont l j=>exact λc i b g=>p c i b (JB s g)
 | ret w j=>
  refine λc v b e k r f=>p c v b ((Jv s).trans s.hr e) k r ?_
  cases w with
  | v d=>trivial
  | own m=>obtain⟨a,n,q⟩:=f;exact⟨a,n,(Jv s).none s.hr q⟩
  | bor m=>exact f
 | exc d j=>exact λc b e k=>p c b ((Jv s).trans s.hr e) k
 | fail=>exact p
end
section
variable {Γ:Ge}{F:M.Fx}{X:Cx}{E:XK}{k:Nat}{cf:Cf}
def CL.hide {G:Gh}{U:M.Sl}{h:M.AH}{Y:St}{H:Hp}{ds:List M.D}{l:Addr}{vs:List V}(s:ak Γ G U h Y H) (c:CL Γ ds l vs G H) (b: ¬ ∃(i:Nat) (xs:List M.D),M.Gp U i=y0 (.own xs)/\Y[i]? =y0 (y0 (.ref l))):CL Γ ds l vs G (xh U Y H):=by
 obtain⟨a,d⟩:=c
 refine⟨?_,d.mon (zp s)⟩
 rcases a with⟨a,e⟩ | a
 .refine .inl ⟨?_,e⟩
  rcases a with a | ⟨o,a⟩
  .exact .inl (by rw [Jh b];exact a)
  .exact .inr ⟨o,by rw [Jh b];exact a⟩
 .exact .inr a
def CL.fF {G:Gh}{U:M.Sl}{h:M.AH}{Y:St}{H:Hp}{ds:List M.D}{l:Addr}{vs:List V}(s:ak Γ G U h Y H) (a:gm Γ G H l vs) (b:aa Γ G H ds vs):CL Γ ds l vs G (xh U Y H):=by
 refine⟨?_,b.mon (zp s)⟩
 rcases a with a | a
 .exact(CL.hide s (ds:=ds) ⟨.inl ⟨a.2,s.heap.off a.1⟩,b⟩ λ⟨j,e,c,d⟩=>(Qk s c d).1 a.1).1
 .exact .inr a
def CT.hide {G:Gh}{U:M.Sl}{h:M.AH}{Y:St}{H:Hp}{ds:List M.D}{l:Addr}{vs:List V}(s:ak Γ G U h Y H) (c:CT Γ ds l vs G H):CT Γ ds l vs G (xh U Y H):=⟨c.1.mon (zp s),c.2.mon (zp s)⟩
def JI {a:M.E}{i:Nat}(h:M.GI a=y0 i):a= .var i:=by
 cases a<;>first | (cases h;rfl) | cases h
def rp {i:Nat}{e:Expr}(h:Zb cf (.var i) e=k9): ∃x p,e= .Name x p/\cf.N[i]? =y0 x/\JX cf.sc x=k9/\ck x=true:=by
 refine Qq (λx p h=> ?_) e h
 exact⟨_,_,rfl,gk h⟩
def mT (b:Go Γ F X E k cf){i:Nat}{e:Expr}(h:Zb cf (.var i) e=k9):PE X e (kb i):=by
 obtain⟨x,p,rfl,d,c,a⟩:=rp h
 unfold ck at a
 rw [Aa1]at a
 exact jo (by rw [b.N];exact d) (b.ef x c) (by simpa using a.1) (by simpa using a.2)
def X1 {G:Gh}{U:M.Sl}{h:M.AH}{Y:St}{H:Hp}(s:ak Γ G U h Y H){i:Nat}{w:M.W}{xs:List M.D}(e:M.Gp U i=y0 w) (n:w= .v (.lst xs)\/w= .bor xs):
 ∃l vs,Y[i]? =y0 (y0 (.ref l))/\CL Γ xs l vs G H/\CL Γ xs l vs G (xh U Y H):=by
 obtain⟨v,e2,r⟩:=s.slot i w e
 rcases n with rfl | rfl
 .obtain⟨l,vs,rfl,b,a⟩:=r
  exact⟨l,vs,e2,⟨b.lE s.heap,a⟩,CL.fF s b a⟩
 .obtain⟨l,vs,rfl,b,a,m⟩:=r
  have c:CL Γ xs l vs G H:=⟨.inl ⟨a,b⟩,m⟩
  refine⟨l,vs,e2,c,c.hide s λ⟨j,k,f,g⟩=> ?_⟩
  have d:j≠i:=λz=>by rw [z,e]at f;cases f
  exact s.apart j i k _ l d f e rfl g e2
def qG {g G:Gh}{U:M.Sl}{n h:M.AH}{Y:St}{d H:Hp}(q:ak Γ g U n Y d) (s:ak Γ G U h Y H){w:M.W}{v:V}{xs:List M.D}(r:ah Γ G H w v) (f:az U Y d w v) (u:w= .v (.lst xs)\/w= .own xs):
 ∃l vs,v= .ref l/\CL Γ xs l vs G H/\CL Γ xs l vs G (xh U Y H):=by
 rcases u with rfl | rfl
 .obtain⟨l,vs,rfl,b,a⟩:=r
  exact⟨l,vs,rfl,⟨b.lE s.heap,a⟩,CL.fF s b a⟩
 .obtain⟨l,vs,rfl,b,a,p,m⟩:=r
  obtain⟨y,e,t⟩:=f
  cases e
  have c:CL Γ xs l vs G H:=⟨.inl ⟨.inl p,a⟩,m⟩
  refine⟨l,vs,rfl,c,c.hide s λ⟨j,x,k,i⟩=> ?_⟩
  obtain⟨o,z⟩:=q.b5 k rfl i
  rw [t]at z;cases z
def vH (m:Go Γ F X E k cf){a:M.E}{e tg:Expr}(P:Zb cf a e=k9):PI X tg e (eM Γ E k9 (M.Gr F (.seq a))):=by
 cases q:M.GI a with
 | some i=>
  cases JI q
  refine PI.imp (lx (mT m P)) λY H R N=> ?_
  obtain⟨G,U,h,s,p⟩:=N
  have p:aj Γ E G H (M.R.of h ((M.Gp U i).bind M.iG)) λt _ j f=> ∀J C,zo Γ J t C->C j f->(k9=k9->C j (xh U Y f))->R J f:=p
  cases x:M.Gp U i with
  | none=>rw [x]at p;exact p.elim
  | some w=>
   rw [x]at p
   have lst: ∀ {b:List M.D},(w= .v (.lst b)\/w= .bor b)->aj Γ E G H (.ok b h) (λt _ j f=> ∀J C,zo Γ J t C->C j f->(k9=k9->C j (xh U Y f))->R J f) →
    ∃v,Y[i]? =y0 (y0 v)/\((∃ a,v= .ref a/\(∃ b,aY X.K H a b)/\R (gO X.K a) H)\/(∃ a,v= .ref a/\(∃ b,bK X.K H a b)/\R (gT X.K a) H)\/ ∃z,v= .str z/\R (gj z) H):=λ{b} O p=>by
    obtain⟨l,o,e2,y,D⟩:=X1 s x O
    exact⟨_,e2,.inl ⟨l,rfl,⟨o,m.K▸y.1.sq⟩,p G H Ext.refl s.heap _ _ (CL.walk m.K) y λ_=>D⟩⟩
   cases w with
   | v d=>
    cases d with
    | lst b=>exact lst (.inl rfl) p
    | tup b=>
     obtain⟨v,e2,l,o,rfl,A,K⟩:=s.slot i _ x
     have c:CT Γ b l o G H:=⟨A,K⟩
     exact⟨_,e2,.inr (.inl ⟨l,rfl,⟨o,m.K▸A.sq⟩,p G H Ext.refl s.heap _ _ (CT.walk m.K) c λ_=>c.hide s⟩)⟩
    | ai=>exact p.elim
    | bl _=>exact p.elim
    | int _=>exact p.elim
    | str z=>
     obtain⟨v,e2,r⟩:=s.slot i _ x
     cases (show v= .str (aO z)from r)
     exact⟨_,e2,.inr (.inr ⟨_,rfl,p G H Ext.refl s.heap _ _ xw trivial λ_=>trivial⟩)⟩
    | ref _=>exact p.elim
    | exc _ _=>exact p.elim
    | err _ _ _=>exact p.elim
   | bor b=>exact lst (.inr rfl) p
   | own b=>exact p.elim
 | none=>
  refine PI.imp (lx (Wb a m P).1) λY H R N=> ?_
  obtain⟨G,U,h,s,p⟩:=N
  have p:aj Γ E G H ((M.eval F a U h).bind λw h=>M.R.of h (M.hU w)) λt _ j f=> ∀J C,zo Γ J t C->C j f->(k9=k9->C j (xh U Y f))->R J f:=by
   unfold M.Gr at p
   dsimp only at p
   rw [q]at p
   exact p
  refine Xa s.heap Ext.refl s p λL v1 S B n e1 T u I Q g=> ?_
  have lst: ∀ {b:List M.D},(L= .v (.lst b)\/L= .own b)->aj Γ E G H (.ok b S) (λt _ j f=> ∀J C,zo Γ J t C->C j f->(k9=k9->C j (xh U Y f))->R J f) →
   ((∃ a,v1= .ref a/\(∃ b,aY X.K n a b)/\R (gO X.K a) n)\/(∃ a,v1= .ref a/\(∃ b,bK X.K n a b)/\R (gT X.K a) n)\/ ∃z,v1= .str z/\R (gj z) n):=λ{b} O p=>by
   obtain⟨l,o,e2,y,D⟩:=qG s u I Q O
   exact .inl ⟨l,e2,⟨o,m.K▸y.1.sq⟩,p B n e1 u.heap _ _ (CL.walk m.K) y λ_=>D⟩
  cases L with
  | v d=>
   cases d with
   | lst b=>exact lst (.inl rfl) g
   | tup b=>
    obtain⟨l,o,rfl,A,K⟩:=I
    have c:CT Γ b l o B n:=⟨A,K⟩
    exact .inr (.inl ⟨l,rfl,⟨o,m.K▸A.sq⟩,g B n e1 u.heap _ _ (CT.walk m.K) c λ_=>c.hide u⟩)
   | ai=>exact g.elim
   | bl _=>exact g.elim
   | int _=>exact g.elim
   | str z=>
    cases (show v1= .str (aO z)from I)
    exact .inr (.inr ⟨_,rfl,g B n e1 u.heap _ _ xw trivial λ_=>trivial⟩)
   | ref _=>exact g.elim
   | exc _ _=>exact g.elim
   | err _ _ _=>exact g.elim
  | own b=>exact lst (.inr rfl) g
  | bor b=>exact g.elim
theorem wj: ∀(ds:List M.D) (i:Nat),(M.GL i ds).length=ds.length
 | [],_=>rfl
 | d::ds,i=>congrArg (· +1) (wj ds (i+1))
theorem zE: ∀(ds:List M.D) (j i:Nat) (h:i<ds.length),(M.GL j ds)[i]? =y0 (.tup [.int ((j+i:Nat):Int),ds[i]])
 | d::ds,j,0,_=>rfl
 | d::ds,j,i+1,h=>by
  have:=zE ds (j+1) i (by simpa using h)
  rw [show j+1+i=j+(i+1)by omega]at this
  simpa [M.GL]using this
def nV: "enumerate" ∈bP:=by decide
def CT.d8 {ds:List M.D}{l:Addr}{vs:List V}{K:Aa3}(j:K=Γ.K):zo Γ (lT K l) (M.GL 0 ds) (CT Γ ds l vs) where
 go:=by
  rintro i G H ⟨c,d⟩ b
  rw [wj]at b
  obtain⟨v,e,_⟩:=d.get (Ab2 b)
  exact⟨vs,v,j▸c.sq,e⟩
 dH:=by
  rintro i G H x k ⟨c,d⟩ b ⟨p,y,g,ex,n,m⟩
  rw [wj]at b
  subst ex n
  obtain⟨v,e,rd⟩:=d.get (Ab2 b)
  have:=m vs (j▸c.sq)
  rw [e]at this
  cases this
  refine⟨G.more p,Qe _ g,λh f=>f.dI _ g,.tup [.int (i:Int),ds[i]],by rw [zE ds 0 i b,Nat.zero_add],⟨p,[.int (i:Int),y],rfl,.inl ⟨.inr rfl,Qa⟩,⟨.int (i:Int),[y],rfl,rfl,⟨y,[],rfl,?_,rfl⟩⟩⟩⟩
  have t:Mon G H (G.more p) (ax H p (.tup [.int (i:Int),y])):=⟨λa o u q=>by rw [qa (ja q g)];exact q,Aa6 _,λ_ _=>rfl,λ_ z=>Or.inl z⟩
  exact rd.mon t
 stop:=by
  rintro i G H ⟨c,d⟩ s r
  rw [wj]at s r
  exact⟨vs,j▸c.sq,by rw [← d.length];omega⟩
 keep:=λG H w k h z e f=>⟨z.1.mon (e.mon f),z.2.ext e f⟩
def j5 (i:Go Γ F X E k cf){a:M.E}{g x:Expr}{pos D:Pos}{f:List Expr}{x1:Nat}(y:bC cf.sc "enumerate" g=true) (r:xa x=true) (B:PE X x (tD Γ E (M.eval F a))):PI X (.Tuple f x1 D) (.Call g [x] [] pos) (eM Γ E true (M.Gr F (.enum a))):=by
 obtain⟨Q,rfl,A,S⟩:=Wa y
 refine PI.imp (yx (i.gl _ A) (i.blt _ nV) (zd B ji (Za r)) (Za r)) λY H R O=> ?_
 obtain⟨G,U,h,s,p⟩:=O
 have p:aj Γ E G H ((M.eval F a U h).bind λw h=>match w with
  | .v (.tup e)=> .ok (M.GL 0 e) h
  | _=> .fail) λz _ o j=> ∀J C,zo Γ J z C->C o j->(k9=k9->C o (xh U Y j))->R J j:=p
 refine Xa s.heap Ext.refl s p λL v1 T q m e1 N n I P b=> ?_
 cases L with
 | v d=>
  cases d with
  | tup e=>
   obtain⟨l,u,rfl,t,K⟩:=I
   have c:CT Γ e l u q m:=⟨t,K⟩
   exact⟨l,u,rfl,i.K▸t.sq,b q m e1 n.heap _ _ (CT.d8 i.K) c λ_=>c.hide n⟩
  | ai=>exact b.elim
  | bl _=>exact b.elim
  | int _=>exact b.elim
  | str _=>exact b.elim
  | lst _=>exact b.elim
  | ref _=>exact b.elim
  | exc _ _=>exact b.elim
  | err _ _ _=>exact b.elim
 | own e=>exact b.elim
 | bor e=>exact b.elim
def CL.d8 {ds:List M.D}{l:Addr}{vs:List V}{K:Aa3}(j:K=Γ.K):zo Γ (lg K l) (M.GL 0 ds) (CL Γ ds l vs) where
 go:=by
  rintro i G H ⟨c,d⟩ b
  rw [wj]at b
  obtain⟨v,e,_⟩:=d.get (Ab2 b)
  exact⟨vs,v,j▸c.sq,e⟩
 dH:=by
  rintro i G H x k ⟨c,d⟩ b ⟨p,y,f,ex,n,m⟩
  rw [wj]at b
  subst ex n
  obtain⟨v,e,rd⟩:=d.get (Ab2 b)
  have:=m vs (j▸c.sq)
  rw [e]at this
  cases this
  refine⟨G.more p,Qe _ f,λh g=>g.dI _ f,.tup [.int (i:Int),ds[i]],by rw [zE ds 0 i b,Nat.zero_add],⟨p,[.int (i:Int),y],rfl,.inl ⟨.inr rfl,Qa⟩,⟨.int (i:Int),[y],rfl,rfl,⟨y,[],rfl,?_,rfl⟩⟩⟩⟩
  have t:Mon G H (G.more p) (ax H p (.tup [.int (i:Int),y])):=⟨λa o u q=>by rw [qa (ja q f)];exact q,Aa6 _,λ_ _=>rfl,λ_ z=>Or.inl z⟩
  exact rd.mon t
 stop:=by
  rintro i G H ⟨c,d⟩ s r
  rw [wj]at s r
  exact⟨vs,j▸c.sq,by rw [← d.length];omega⟩
 keep:=λG H w k h z e g=>z.keep e g
def ZW (b:Go Γ F X E k cf){a:M.E}{g x:Expr}{pos A:Pos}{c:List Expr}{x1:Nat}(u:bC cf.sc "enumerate" g=true) (n:xa x=true) (N:Zb cf a x=true):PI X (.Tuple c x1 A) (.Call g [x] [] pos) (eM Γ E true (M.Gr F (.bO a))):=by
 obtain⟨P,rfl,y,Q⟩:=Wa u
 refine PI.imp (AU (b.gl _ y) (b.blt _ nV) (zd (Wb a b N).1 ji (Za n)) (Za n)) λY H R L=> ?_
 obtain⟨G,U,h,s,p⟩:=L
 have p:aj Γ E G H ((M.eval F a U h).bind λw h=>(M.R.of h (M.lU w)).bind λd h=> .ok (M.GL 0 d) h) λv _ j e=> ∀J C,zo Γ J v C->C j e->(k9=k9->C j (xh U Y e))->R J e:=p
 refine Xa s.heap Ext.refl s p λo v1 S B r e1 K i I t f=> ?_
 obtain⟨d,q,f⟩:=f.of
 have D:o= .v (.lst d)\/o= .own d:=by
  unfold M.lU at q
  split at q
  .cases q;exact .inl rfl
  .cases q;exact .inr rfl
  .cases q
 obtain⟨l,O,e2,m,z⟩:=qG s i I t D
 subst e2
 exact⟨l,O,rfl,b.K▸m.1.sq,f B r e1 i.heap _ _ (CL.d8 b.K) m λ_=>z⟩
def Cc (b:Go Γ F X E k cf){it:M.It}{e tg:Expr}(j:kR it tg=k9) (h:l3 cf it e=k9):PI X tg e (eM Γ E k9 (M.Gr F it))/\Xe e=true:=by
 cases it with
 | seq a=>exact⟨vH b (a2 h).2,(a2 h).1⟩
 | aB a=>
  refine Wi (λg x l p h=> ?_) e h
  refine kE (λh=> ?_) l h
  refine kC (λx r h=> ?_) x h
  refine kE (λh=> ?_) r h
  obtain⟨i,c,d⟩:=a3 h
  exact⟨wx b i c (Wb a b d).1,rfl⟩
 | bO a=>
  cases tg with
  | Tuple f n m=>
   refine Wi (λg x l p h=> ?_) e h
   refine kE (λh=> ?_) l h
   refine kC (λx r h=> ?_) x h
   refine kE (λh=> ?_) r h
   obtain⟨i,c,d⟩:=a3 h
   exact⟨ZW b i c d,rfl⟩
  | _=>exact ba j
 | enum a=>
  cases tg with
  | Tuple f n m=>
   refine Wi (λg x l p h=> ?_) e h
   refine kE (λh=> ?_) l h
   refine kC (λx r h=> ?_) x h
   refine kE (λh=> ?_) r h
   obtain⟨i,c,d⟩:=a3 h
   exact⟨j5 b i c (Wb a b d).1,rfl⟩
  | _=>exact ba j
end
section
variable {Γ:Ge}{G G0:Gh}{H H0:Hp}{h:M.AH}
def Gh.cut (G:Gh) (n:Nat):Gh:= { G with n:=n }
mutual
theorem ao.cut (n:Nat): ∀ {d:M.D}{v:V},M.Gb d=k9->ao Γ G H d v->ao Γ (G.cut n) H d v
 | .ai,_,_,z=>z
 | .bl _,_,_,z=>z
 | .int _,_,_,z=>z
 | .str _,_,_,z=>z
 | .tup _,_,q,⟨a,vs,z1,z2,z3⟩=>⟨a,vs,z1,z2,aa.dq n (by simpa [M.Gb]using q) z3⟩
 | .lst _,_,q,⟨a,vs,z1,z2,z3⟩=>⟨a,vs,z1,z2,aa.dq n (by simpa [M.Gb]using q) z3⟩
 | .ref r,_,q,_=>by simp [M.Gb]at q
 | .exc c fs,_,q,z=>by simp [M.Gb]at q
 | .err c f d,_,q,z=>by simp [M.Gb]at q
theorem aa.dq (n:Nat): ∀ {ds:List M.D}{vs:List V},M.Gd ds=k9->aa Γ G H ds vs->aa Γ (G.cut n) H ds vs
 | [],_,_,z=>z
 | d::ds,_,q,⟨v,r,z1,z2,z3⟩=>by
  have q':M.Gb d=k9/\M.Gd ds=true:=by simpa [M.Gd]using q
  exact⟨v,r,z1,ao.cut n q'.1 z2,aa.dq n q'.2 z3⟩
end
theorem ae.cut (r:ae Γ G h H){n:Nat}(f:n<=G.n) (o:M.Gw (h.take n)=k9):ae Γ (G.cut n) (h.take n) H where
 len:=by rw [Ad,r.len];exact Aj7 f
 any:=λi c e=>by
  have s:i<n:=by
   have:=(Ab.mp e).1
   rw [Ad]at this
   omega
  have t:c.pure=true:=Ag8.mp o c (Ah8 e)
  rw [List.getElem?_take_of_lt s]at e
  obtain⟨q,k⟩:=r.any i c e
  refine⟨q,?_⟩
  cases c with
  | lst w=>obtain⟨d,u,b,a⟩:=k;exact⟨d,u,b,aa.dq n d a⟩
  | fR v=>obtain⟨d,g,b,a⟩:=k;exact⟨d,g,b,aa.dq n d a⟩
  | obj c fs=>obtain⟨l,g,b,a⟩:=k;exact⟨l,g,b,aa.dq n t a⟩
 inj:=λi j p m e=>r.inj i j (Ab3 p f) (Ab3 m f) e
 live:=r.live
theorem Ext.cut (e:Ext G0 H0 G H):Ext G0 H0 (G.cut G0.n) H:=⟨e.keep,Aa6 _,e.aH,λr b a=>absurd b (Al.mpr a),e.fz,e.old,e.cells⟩
theorem ah.cut (n:Nat) (h:n<=G.n){w:M.W}{v:V}(q:w.keep=k9) (hb: ∀xs,w≠ .bor xs) (z:ah Γ G H w v):ah Γ (G.cut n) H w v:=by
 cases w with
 | v d=>exact ao.cut n q z
 | own xs=>
  obtain⟨a,j,e,i,f,b,g⟩:=z
  exact⟨a,j,e,i,λr c=>f r (Ab3 c h),b,aa.dq n q g⟩
 | bor xs=>exact absurd rfl (hb xs)
end
section
variable {Γ:Ge}{F:M.Fx}{X:Cx}{E:XK}{k:Nat}{cf:Cf}
def rg (b:Go Γ F X E k cf){v:Expr}{pos:Pos}(f:Xr v=k9){m:M.E}(h:Zb cf m v=k9):PS X (.Expr v pos) (bE Γ E (M.exec F (.ex m))):=by
 refine PS.imp (ZC (Wb m b h).1 (Wd f)) λD Y H c=> ?_
 obtain⟨B,G,U,h,s,p⟩:=c
 rw [M.exec]at p
 exact zc s p λw v j g a e1 d l i e=>e g Y a d
def uB {B:Bs}{G:Gh}{U:M.Sl}{h:M.AH}{Y:St}{H:Hp}(s:aT Γ B G U h Y H){w:M.W}{v:V}(f:az U Y H w v) (hb: ∀xs,w≠ .bor xs):az [] [] B.H w v:=by
 cases w with
 | v d=>trivial
 | own xs=>obtain⟨a,b,c⟩:=f;exact⟨a,b,s.ext.none s.hr c⟩
 | bor xs=>exact absurd rfl (hb xs)
def uw (l:Go Γ F X E k cf){v:Expr}{pos:Pos}{m:M.E}(h:Zb cf m v=k9):PS X (.Return (y0 v) pos) (bE Γ E (M.exec F (.ret m))):=by
 cases q:M.GI m with
 | some i=>
  cases JI q
  refine PS.imp (oW (mT l h)) λD Y H f=> ?_
  obtain⟨B,G,U,h,s,p⟩:=f
  rw [M.exec,q]at p
  dsimp only at p
  cases e:M.Gp U i with
  | none=>rw [e]at p;exact p.elim
  | some w=>
   rw [e]at p
   obtain⟨v,e2,r⟩:=s.st.slot i w e
   refine⟨v,e2,?_⟩
   cases w with
   | bor b=>exact p.elim
   | v d=>exact p G v H s.ext s.st.heap r trivial
   | own b=>
    have u:=r
    obtain⟨a,y,rfl,_⟩:=u
    exact p G _ H s.ext s.st.heap r ⟨a,rfl,s.own i b a e e2⟩
 | none=>
  refine PS.imp (oW (Wb m l h).1) λD Y H f=> ?_
  obtain⟨B,G,U,h,s,p⟩:=f
  have p:aN Γ E B ((M.eval F m U h).bZ λw h=>match w with
   | .bor _=> .fail
   | w=> .ret w h) D:=by
   rw [M.exec,q]at p;exact p
  refine zc s p λw v x n j e1 c o t g=> ?_
  cases w with
  | bor b=>exact g.elim
  | v d=>exact g n v j c.ext c.st.heap o trivial
  | own b=>exact g n v j c.ext c.st.heap o (uB s t λb z=>by cases z)
def rn {c:M.E}{a b:M.Ss}{x:Expr}{g f:List Stmt}{pos:Pos}(m:PT X x (cq Γ E (M.Gu F c))) (l:cD X g (bE Γ E (M.execs F a))) (hb:cD X f (bE Γ E (M.execs F b))):PS X (.If x g f pos) (bE Γ E (M.exec F (.iff c a b))):=by
 refine PS.imp (Bx m l hb) λD Y H k=> ?_
 obtain⟨B,G,U,h,s,p⟩:=k
 rw [M.exec]at p
 refine yQ s p λt i j n e1 d e=> ?_
 cases t with
 | true=>exact kH ⟨B,j,U,i,d,e⟩
 | false=>exact kQ ⟨B,j,U,i,d,e⟩
def QY {s:M.S}{e:M.Ss}{st:Stmt}{b:List Stmt}(h1:PS X st (bE Γ E (M.exec F s))) (h2:cD X b (bE Γ E (M.execs F e))):cD X (st::b) (bE Γ E (M.execs F (.cons s e))):=by
 refine cD.imp (pP h1 h2) λD Y H f=> ?_
 obtain⟨B,G,U,h,g,p⟩:=f
 rw [M.execs]at p
 refine⟨B,G,U,h,g,?_⟩
 cases q:M.exec F s U h with
 | next c a=>rw [q]at p;exact λj l k i=>⟨B,j,c,a,i,p⟩
 | ret w a=>rw [q]at p;exact p
 | brk c a=>rw [q]at p;exact p
 | cont c a=>rw [q]at p;exact p
 | exc d a=>rw [q]at p;exact p
 | fail=>rw [q]at p;exact p
def X3:cD X [] (bE Γ E (M.execs F .nil)):=cD.imp uR λD Y H ⟨B,G,U,h,s,p⟩=>p G Y H s
def Bl (I:dQ Γ F X E k cf){tg:List Nat}{one:Bool}{it:M.It}{b:M.Ss}{t n:Expr}{ys:List Stmt}{pos:Pos}(he:(cf.cb&&kR it t)=k9) (ht:Jd cf tg one t=k9) (hi:l3 cf it n=k9) (hb:cD X ys (bE Γ E (M.execs F b))):
 PS X (.For t n ys [] pos) (bE Γ E (M.exec F (.for tg one it b))):=by
 obtain⟨li,ls⟩:=Cc (tg:=t) I.toGo (a2 he).2 hi
 refine PS.imp (vM I.gH (I.calm (a2 he).1) li (Xo I.toGo ht) hb (qQ ls)) λD Y H qq=> ?_
 obtain⟨B,G,U,h,s,p⟩:=qq
 rw [M.exec]at p
 refine⟨G,U,h,s.st,?_⟩
 cases q:M.Gr F it U h with
 | exc d l=>rw [q]at p;exact aN.exc s p
 | fail=>rw [q]at p;exact p
 | ok f l=>
  rw [q]at p
  intro r y e hr J C L c0 S
  have s1:=s.on e hr
  have p1:aN Γ E (fq r U l Y y) (M.Gv (M.Gn tg one) (λU h=>M.execs F b U h) f U l) D:=yZ s1 p
  have cB:C (fq r U l Y y).G (fq r U l Y y).H:=S rfl
  have s2:=rR s1
  refine⟨λi m P z=> ∃A K v,(m=f.length-i/\i<=f.length)/\aT Γ (fq r U l Y y) A K v P z/\aN Γ E (fq r U l Y y) (M.Gv (M.Gn tg one) (λU h=>M.execs F b U h) (f.drop i) K v) D,
   ⟨f.length,r,U,l,⟨by simp,Ai _⟩,s2,p1⟩,?_⟩
  rintro i m P z ⟨A,K,v,⟨rfl,hi'⟩,u,a⟩
  have Z:=L.keep _ _ _ _ _ cB u.ext u.hr
  by_cases j:i<f.length
  .refine .inr ⟨L.go i A z Z j,_,λY2 H2 w=>⟨f.length-(i+1),by omega,w⟩,λx W hy=> ?_⟩
   obtain⟨G4,x4,V,d,ed,R⟩:=L.dH i A z x W Z j hy
   have u:=u.on x4 (V _ u.st.heap)
   have edr:f.drop i=d::f.drop (i+1):=by
    rw [List.drop_eq_getElem_cons j]
    rw [Ab2 j]at ed
    cases ed
    rfl
   rw [edr,M.Gv]at a
   cases N:M.Gn tg one d K with
   | none=>rw [N]at a;exact a.elim
   | some T=>
    rw [N]at a
    refine nT N R u λY2 s3=>⟨_,G4,T,v,s3,?_⟩
    have a:aN Γ E (fq r U l Y y) (match M.execs F b T v with
     | .next g c=>M.Gv (M.Gn tg one) (λU h=>M.execs F b U h) (f.drop (i+1)) g c
     | .cont g c=>M.Gv (M.Gn tg one) (λU h=>M.execs F b U h) (f.drop (i+1)) g c
     | .brk g c=> .next g c
     | o=>o) D:=a
    cases q:M.execs F b T v with
    | next g c=>rw [q]at a;exact λQ Y3 H3 O=>⟨Q,g,c,⟨rfl,by omega⟩,O,a⟩
    | cont g c=>rw [q]at a;exact λQ Y3 H3 O=>⟨Q,g,c,⟨rfl,by omega⟩,O,a⟩
    | ret w c=>rw [q]at a;exact a
    | brk g c=>rw [q]at a;exact a
    | exc d c=>rw [q]at a;exact a
    | fail=>rw [q]at a;exact a
  .have ei:i=f.length:=by omega
   subst ei
   rw [List.drop_length]at a
   exact .inl ⟨L.stop _ A z Z (Aa6 _) (Aa6 _),a A P z u⟩
theorem qA: ∀ {es:M.Es}{xs:List Expr}{U:M.Sl}{h:M.AH}{ds:List M.W}{h':M.AH},aV cf es xs=k9->M.Gf F es U h= .ok ds h'->ds.length=xs.length
 | .nil,xs,_,_,_,_,c,e=>by
  cases Ad6.mp c
  rw [M.Gf]at e;cases e;rfl
 | .cons a es,xs,U,h,ds,h',c,e=>by
  refine kC (λx r c=> ?_) xs c
  rw [M.Gf]at e
  obtain⟨w,f,e1,e⟩:=Xc e
  obtain⟨r,d,b,e⟩:=Xc e
  cases e
  rw [Ab0,Ab0,qA (a2 c).2 b]
theorem ZA: ∀(U:M.Sl) (i j:Nat),M.Gp (U.set i u0) j=if j=i then u0 else M.Gp U j
 | [],i,j=>by simp
 | x::r,0,0=>by simp
 | x::r,0,j+1=>by simp
 | x::r,i+1,0=>by simp
 | x::r,i+1,j+1=>by simpa using ZA r i j
def aT.clear {B:Bs}{G:Gh}{U:M.Sl}{h:M.AH}{Y:St}{H:Hp}(s:aT Γ B G U h Y H){i:Nat}:aT Γ B G (U.set i u0) h (Y.set i u0) H:=by
 have ne: ∀ {j w},M.Gp (U.set i u0) j=y0 w->j≠i/\M.Gp U j=y0 w:=λ{j w} e=>by
  rw [ZA]at e
  split at e
  .cases e
  .rename_i b;exact⟨b,e⟩
 have c: ∀ {j:Nat},j≠i->(Y.set i u0)[j]? =Y[j]? :=λ{j} b=>Ac6 (Ne.symm b)
 refine⟨⟨by rw [Ac9,Ac9];exact s.st.len,λj w e=> ?_,λp q f w a d e1 e2 o g=> ?_,s.st.heap⟩,s.ext,s.hr,λj f a e1 e2=> ?_⟩
 .obtain⟨b,e⟩:=ne e
  obtain⟨v,m,n⟩:=s.st.slot j w e
  exact⟨v,by rw [c b];exact m,n⟩
 .obtain⟨l,e1⟩:=ne e1
  obtain⟨k,e2⟩:=ne e2
  rw [c l]at g
  rw [c k]
  exact s.st.apart p q f w a d e1 e2 o g
 .obtain⟨b,e1⟩:=ne e1
  rw [c b]at e2
  exact s.own j f a e1 e2
def XW (f:dQ Γ F X E k cf){c:String}{es:M.Es}{g x:Expr}{xs:List Expr}{a pos:Pos}(j:bC cf.sc c g=k9) (i:(cf.cb&&cf.d5.contains c)=k9) (z:(x::xs).length<=1000) (b:aV cf es (x::xs)=k9):
 PS X (.Raise (y0 (.Call g (x::xs) [] a)) u0 pos) (bE Γ E (M.exec F (.raise c es))):=by
 obtain⟨A,rfl,o,t⟩:=Wa j
 obtain⟨n,v⟩:=f.d5 c (a2 i).1 (a2 i).2 o t
 refine PS.imp (v _ _ _ _ _ _ (cz es f.toGo b) (jd b)) λD Y H m=> ?_
 obtain⟨B,G,U,h,s,p⟩:=m
 rw [M.exec]at p
 refine⟨G,U,h,s.st,?_⟩
 cases q:M.Gf F es U h with
 | exc d u=>rw [q]at p;exact aN.exc s p
 | fail=>rw [q]at p;exact p
 | ok C u=>
  rw [q]at p
  intro w l e y I r
  refine⟨?_,(p w l (s.ext.trans s.hr e) y).1 c rfl n⟩
  rw [← r.length,qA b q]
  exact Ae8 (Zh z)
def jV (j:dQ Γ F X E k cf){c f:String}{e:M.E}{g x:Expr}{b pos:Pos}(t:bC cf.sc c g=k9) (o:(cf.cb&&cf.ob.er.contains (c,f))=k9) (m:aV cf (.cons e .nil) [x]=k9):
 PS X (.Raise (y0 (.Call g [x] [] b)) u0 pos) (bE Γ E (M.exec F (.cN c f e))):=by
 obtain⟨L,rfl,y,z⟩:=Wa t
 obtain⟨w,C,I⟩:=j.ic c f (a2 o).1 (a2 o).2 y z
 refine PS.imp (I _ _ _ _ _ (e8 _ j.toGo m) (jd m _ Aa8)) λD Y H u=> ?_
 obtain⟨B,G,U,h,s,p⟩:=u
 rw [M.exec]at p
 refine⟨G,U,h,s.st,?_⟩
 cases q:M.Gq F (.cons e .nil) U h with
 | exc d A=>rw [q]at p;exact aN.exc s p
 | fail=>rw [q]at p;exact p
 | ok i A=>
  rw [q]at p
  intro J K e1 n O r
  cases i with
  | nil=>exact p.elim
  | cons d i=>
   cases i with
   | cons _ _=>exact p.elim
   | nil=>
    obtain⟨v,N,rfl,rd,rfl⟩:=r
    refine⟨v,rfl,λl a=> ?_⟩
    exact(p (J.more l) _ ((s.ext.trans s.hr e1).trans s.hr (Qe (.xd [(Xb f,v)]) a)) (n.dI _ a)).2 c f d rfl w C l v (.inr rfl) Qa (rd.ext (Qe _ a) n)
def vm {c w:String}(a:dD Γ c) (b:w∈Γ.own) (d:(M.GQ Γ.cl 8 c).contains w=k9):PySem.W.kitCls Γ.K (.ref (Γ.ca c)) (.ref (Γ.ca w))=y0 true:=by
 have h:=a.own w b
 rw [d]at h
 unfold Aj3 at h
 split at h
 .rename_i e
  have e:Γ.ca c=Γ.ca w:=by simpa using e
  rw [← e]
  exact a.k.slf
 .exact h
theorem Go.cE (a:Go Γ F X E k cf):Go Γ F X.cE E0 k cf:=⟨a.N,a.K,a.cl,a.ow,a.nd,a.ef,a.f7,a.eF,a.gL,a.gl,a.calm,a.room,a.bL,λn Y H s e q _ p=>by
 obtain⟨x,r,t,B,u,_,_,_,_,_,_,_,_,_,_,o⟩:=p
 exact o.elim,a.blt,a.con,λf l=>by
 obtain⟨b,m,j,i,d,g,c⟩:=(a.fn f l).imp λb h=>h.ex
 exact⟨b,⟨m,j,i,d,g,c⟩⟩,λf l=>by
 obtain⟨b,m,j,i,d,g,c⟩:=(a.gP f l).imp λb h=>h.ex
 exact⟨b,⟨m,j,i,d,g,c⟩⟩,a.cls,a.fld,a.fT,a.dw⟩
theorem PS.cE {st:Stmt}{t:TS}(h:PS X.cE st t):PS X st t:=λa s Y H D I q=>wpAny_mono (h a s Y H D (I.cH _) q) (λ_ _ z=>SP.bF z) λ_ _ z=>False.elim z
def uM {f:String}{s:Stmt}{q:List Expr->Bool}(h:mx cf f s q=k9): ∃g x xs j i,s= .Expr (.Call g (x::xs) [] j) i/\bC cf.sc f g=k9/\cf.fns.contains f=k9/\q (x::xs)=true:=by
 refine ip (λe p h=> ?_) s h
 refine Wi (λg xs l p h=> ?_) e h
 refine kE (λh=> ?_) l h
 refine kC (λx r h=> ?_) xs h
 exact⟨_,_,_,_,_,rfl,a3 h⟩
def rZ {i:Nat}{f:String}{b:List Stmt}{q:List Expr->Bool}(h:nF cf i f b q=k9): ∃a g x xs M L j,b= [.Assign [.Name a M] (.Call g (x::xs) [] L) j]/\JG cf i a=k9/\bC cf.sc f g=k9/\cf.fns.contains f=k9/\q (x::xs)=true:=by
 refine kC (λs r h=> ?_) b h
 refine kE (λh=> ?_) r h
 refine eA (λc e p h=> ?_) s h
 refine kC (λt r h=> ?_) c h
 refine kE (λh=> ?_) r h
 refine Qq (λa p h=> ?_) t h
 refine Wi (λg xs l p h=> ?_) e h
 refine kE (λh=> ?_) l h
 refine kC (λx r h=> ?_) xs h
 exact⟨_,_,_,_,_,_,_,rfl,a4 h⟩
theorem dQ.fc (a:dQ Γ F X E k cf) (w:2<=k) (x:Addr):dQ Γ F (X.cE.fc x) E0 2 { cf with toCg:=cf.toCg.q } where
 N:=a.N
 K:=a.K
 cl:=a.cl
 ow:=a.ow
 nd:=a.nd
 ef:=a.ef
 f7:=a.f7
 eF:=a.eF
 gL:=a.gL
 gl:=a.gl
 calm:=λz=>nomatch z
 room:=⟨λq=>absurd q (by decide),by have:=a.bL.dp;show X.A.depth+2+5<_;omega,by have:=a.bL.un;show X.A.units+16*2+200<_;omega⟩
 bL:=⟨λq=>absurd q (by decide),by have:=a.bL.dp;show X.A.depth+3+5<_;omega,by have:=a.bL.un;show X.A.units+16*3+200<_;omega⟩
 pass:=λg Y H s e v _ o=>by
  obtain⟨x,y,t,B,A,_,_,_,_,_,_,_,_,_,_,j⟩:=o
  exact j.elim
 blt:=a.blt
 con:=a.con
 fn:=λf b=>by
  obtain⟨d,u,r,p,l,n,i⟩:=(a.gP f b).imp λd h=>h.ex
  exact⟨d,⟨u,r,p,l,n,i⟩⟩
 gP:=λf b=>ba b
 cls:=a.cls
 fld:=a.fld
 fT:=λc m q h=>ba h
 dw:=λc q h=>ba h
 gH:=PassesOwn.never
 eL:=a.eL
 iX:=a.iX
 ex:=a.ex
 d5:=λc z=>nomatch z
 ic:=λc f z=>nomatch z
 dX:=λc z=>ba z
def sy (x:dQ Γ F X E k cf){B:Bs}{t n:Gh}{U:M.Sl}{h1 h2:M.AH}{Y:St}{A f:Hp}{D:XJ}{d:M.D}{c:String}{nm:Nat}{hb:M.Ss}(Z:cf.own.contains c=k9) (N:aT Γ B t U h1 Y A) (G:Ext t A n f) (m:ae Γ n h2 f)
 (p:aN Γ E B (M.Kr F.cl c nm (λU h=>M.execs F hb U h) U d (M.Ke d h1.length h2)) D):lX Γ (gr X.cE.K (Γ.ca c) nm (bE Γ E0 (M.execs F hb)) D Y) d n f:=by
 unfold M.Kr at p
 have o: ∀(b:String) (s:Option Addr),M.bc F.cl (.v d) [c]=y0 ([c].any (M.GQ F.cl 8 b).contains)->dD Γ b->(∃ g,Ext t A g f/\ae Γ g (M.Ke d h1.length h2) f/\ ∀y,f y=u0->ao Γ (g.more y) (ax f y (WZ y (Γ.ca b) s)) d (.ref y)) →
  gr X.cE.K (Γ.ca c) nm (bE Γ E0 (M.execs F hb)) D Y (.ref (Γ.ca b)) s f:=λb s ix l ⟨g,w,e,I⟩=>by
  rw [ix]at p
  cases K: [c].any (M.GQ F.cl 8 b).contains with
  | false=>rw [K]at p;exact p.elim
  | true=>
   rw [K]at p
   have hk:(M.GQ Γ.cl 8 b).contains c=true:=by rw [← x.cl];simpa using K
   refine⟨_,rfl,x.K▸l.k,x.K▸vm l (by rw [← x.ow];exact Ag.mp Z) hk,λy j=> ?_⟩
   have s2:=(N.on w e).on (Qe (WZ y (Γ.ca b) s) j) (e.dI (WZ y (Γ.ca b) s) j)
   refine⟨B,_,_,_,s2.cS (i:=nm) (I y j),?_⟩
   dsimp only at p
   cases q:M.execs F hb (M.GG U nm (.v d)) (M.Ke d h1.length h2)with
   | next U' h'=>rw [q]at p;exact λG' Y' T W=>p G' _ T W.clear
   | _=>rw [q]at p;exact p.elim
 have O:h1.length=t.n:=N.st.heap.len
 have L: ∀d,M.GN d=k9-> ∃g,Ext t A g f/\ae Γ g (M.Ke d h1.length h2) f/\(∀ a,n.fz a->g.fz a)/\ ∀ {r:M.D}{v:V},M.Gb r=k9->ao Γ n f r v->ao Γ g f r v:=λd hd=>by
  unfold M.Ke
  rw [hd,Af5]
  cases qp:M.Gw (h2.take h1.length)with
  | true=>exact⟨_,O▸G.cut,m.cut (by rw [O];exact G.le) qp,λ_ h=>h,λq z=>ao.cut _ q z⟩
  | false=>exact⟨n,G,m,λ_ h=>h,λ_ z=>z⟩
 refine⟨λb J l=> ?_,λb S r J l P C u Q H R=> ?_⟩
 .subst J
  obtain⟨g,w,e, -, -⟩:=L (.exc b []) rfl
  exact o b u0 rfl l ⟨_,w,e,λy j=> .inl ⟨rfl,y,rfl,.inr rfl,Qa,l⟩⟩
 .subst J
  cases q:M.Gb r with
  | true=>
   obtain⟨g,w,e,fz,rc⟩:=L (.err b S r) q
   exact o b (y0 C) rfl l ⟨_,w,e,λy j=>⟨y,C,u,rfl,.inr rfl,.inl (fz _ Q),Qa,by rw [qa (ja H j)];exact H,l,P,(rc q R).ext (Qe _ j) e⟩⟩
  | false=>exact o b (y0 C) rfl l ⟨n,G,by rw [M.Ke,show M.GN (.err b S r)=y9 from q,Ag6,if_neg Aa4];exact m,λy j=>⟨y,C,u,rfl,.inr rfl,.inl Q,Qa,by rw [qa (ja H j)];exact H,l,P,R.ext (Qe _ j) m⟩⟩
def oA (l:dQ Γ F X E k cf){f c:String}{es:M.Es}{g x:Expr}{xs:List Expr}{nm:Nat}{T:Pos}{hb:M.Ss}{L:List ExceptHandler}{o:Option Nat}(P:cf.own.contains c=k9)
 (hL: ∀ {b:List (Addr×Obj)}{D:XJ}{Y:St}{t:Hp}{j s':Shared}{J:Value},Inv X.cE b Y t j->bJ X.prog X.w X.stack t j (gr X.cE.K (Γ.ca c) nm (bE Γ E0 (M.execs F hb)) D Y) J s'->qY X.cE b D L J s')
 (N:bC cf.sc f g=k9) (hf:cf.fns.contains f=k9) (r:aV cf es (x::xs)=k9):cg X.cE L o (.Call g (x::xs) [] T) (bE Γ E λU h=>M.Kq F.cl c nm (λU h=>M.execs F hb U h) U (M.hF F.call o f U (M.Gf F es U h))):=by
 obtain⟨p0,rfl,y,R⟩:=Wa N
 obtain⟨W,fa,fd,A,V,S,Q⟩:=(l.fn f hf).imp λW h=>h.ex
 have n:=jd r
 refine cg.imp (Ba (X:=X.cE) (λ_ _ z=>z) hL A l.room (l.gl _ y) Q S V (cz es l.toGo.cE r) R (Za (n _ Aa8)) (Xh λe r=>n e (Aa5 _ r))) ?_
 rintro D Y H ⟨B,G,U,h,s,p⟩
 refine⟨G,U,h,s.st,?_⟩
 dsimp only at p
 cases q:M.Gf F es U h with
 | exc d C=>rw [q]at p;exact p.elim
 | fail=>rw [q]at p;exact p.elim
 | ok K C=>
  rw [q]at p
  intro Z t e1 m vs r1
  have j:=s.on e1 m
  refine⟨Z,C,_,m,xl r1,Zk K,?_⟩
  unfold M.hF at p
  dsimp only at p
  cases u:F.call f (K.map M.W.arg) C with
  | fail=>rw [u]at p;exact p.elim
  | ok O y=>
   rw [u]at p
   intro w I e2 a v' rv _
   cases o with
   | none=>exact p w Y I (j.on e2 a)
   | some i=>
    cases O with
    | own _=>exact p.elim
    | bor _=>exact p.elim
    | v d=>exact p w _ I ((j.on e2 a).cS rv)
  | exc d y=>
   rw [u]at p
   exact λw I e2 a=>sy l P j e2 a p
theorem lA (e:dQ Γ F X E k cf){c:String}{nm:Nat}{hb:M.Ss}{J:List ExceptHandler}(o:cf.own.contains c=k9)
 (u: ∀ {j:List (Addr×Obj)}{D:XJ}{Y:St}{v:Hp}{I s':Shared}{C:Value},Inv X.cE j Y v I->bJ X.prog X.w X.stack v I (gr X.cE.K (Γ.ca c) nm (bE Γ E0 (M.execs F hb)) D Y) C s'->qY X.cE j D J C s'):
 ∀(b:M.Tb){l:List Stmt},W2 cf b l=k9->cx X.cE J l (bE Γ E λU h=>M.Kq F.cl c nm (λU h=>M.execs F hb U h) U (M.g9 F b U h))
 | .ex f W,l,h=>by
  refine kC (λa r h=> ?_) l h
  refine kE (λh=> ?_) r h
  obtain⟨g,x,T,Q,Z,rfl,m,w,A⟩:=uM h
  exact vX (oA e o u m w A) (Wd rfl)
 | .sv i f W,l,h=>by
  obtain⟨a,g,x,T,gp,Q,aq,rfl,R,P,V,N⟩:=rZ h
  obtain⟨O,a2⟩:=xA R
  exact vn (oA e o u P V N) (by show X.N.Nodup;rw [e.N];exact e.nd) (by show X.N[i]? =_;rw [e.N];exact O) (e.f7 a a2) (Wd rfl)
 | .iff L a b,l,h=>by
  refine kC (λs r h=> ?_) l h
  refine kE (λh=> ?_) r h
  refine ng (λt y z p h=> ?_) s h
  obtain⟨S,m,w,A⟩:=a4 h
  refine cx.imp (pN (X:=X.cE) (λ_ _ z=>z) ((Wb L e.toGo.cE m).2 S) (lA e o u a w) (lA e o u b A)) ?_
  rintro D Y H ⟨B,G,U,h,s,p⟩
  refine⟨G,U,h,s.st,?_⟩
  dsimp only [M.g9]at p
  cases q:M.Gu F L U h with
  | exc d m=>rw [q]at p;exact p.elim
  | fail=>rw [q]at p;exact p.elim
  | ok b m=>
   rw [q]at p
   intro K v e1 n
   cases b with
   | true=>exact kH ⟨B,K,U,m,s.on e1 n,p⟩
   | false=>exact kQ ⟨B,K,U,m,s.on e1 n,p⟩
def tR (a:dQ Γ F X E k cf){b:M.Tb}{c:String}{nm:Nat}{hb:M.Ss}{i:List Stmt}{d:List ExceptHandler}{pos:Pos}{q:List Stmt->Bool}(h1:W2 cf b i=k9) (h2:oR cf c nm d q=k9)
 (m:2<=k-> ∀x z,q z=k9->cD (X.cE.fc x) z (bE Γ E0 (M.execs F hb))):PS X (.Try i d [] [] pos) (bE Γ E (M.exec F (.dJ b c nm hb))):=by
 refine kC (λx r h=> ?_) d h2
 refine kE (λh=> ?_) r h
 refine rj (λw n z p h=> ?_) x h
 refine kS (λw h=> ?_) w h
 refine kS (λn h=> ?_) n h
 obtain⟨y,v,C,g,u⟩:=a5 h
 obtain⟨J,rfl,I,j⟩:=Wa y
 obtain⟨t,f,l⟩:=a.dX c v
 obtain⟨A,o⟩:=xA C
 refine PS.cE (PS.imp (BN (lA a f (hb:=hb) (nm:=nm) (Z4 (X:=X.cE) a.eL a.iX a.ex (a.gl _ I) (a.cls c f) t (by show X.N.Nodup;rw [a.N];exact a.nd) (by show X.N[nm]? =_;rw [a.N];exact A) (a.f7 n o) j (λe=>by rw [e]at g;cases g) λx=>m l x z u) b h1)) λD Y H ⟨B,G,U,h,s,p⟩=>⟨B,G,U,h,s,?_⟩)
 rw [M.exec]at p
 exact p
end
section
variable {Γ:Ge}{F:M.Fx}{k:Nat}{X:Cx}{E:XK}{cf:Cf}
mutual
theorem ti: ∀(m:M.S) (X:Cx) (E:XK) (k:Nat) (cf:Cf) (st:Stmt),dQ Γ F X E k cf->nC cf m st=k9->PS X st (bE Γ E (M.exec F m))
 | .set i e=>λX E κ cf st go h=>by
  refine eA (λts v p h=> ?_) st h
  refine kC (λt r h=> ?_) ts h
  refine Qq (λx p1 h=> ?_) t h
  refine kE (λh=> ?_) r h
  exact ue go.toGo (a2 h).1 (a2 h).2
 | .av i e=>λX E κ cf st go h=>by
  refine eA (λts v p h=> ?_) st h
  refine kC (λt r h=> ?_) ts h
  refine Qq (λx p1 h=> ?_) t h
  refine kE (λh=> ?_) r h
  exact uE go.toGo (a2 h).1 (a2 h).2
 | .eV is e=>λX E κ cf st go h=>by
  refine eA (λts v p h=> ?_) st h
  refine kC (λt r h=> ?_) ts h
  refine kf (λx n p1 h=> ?_) t h
  refine kE (λh=> ?_) r h
  obtain⟨h1,h2,h3⟩:=a3 h
  exact u1 go.toGo h1 h2 h3
 | .bB i c f e=>λX E κ cf st go h=>by
  refine eA (λts v p h=> ?_) st h
  refine kC (λt r h=> ?_) ts h
  refine zC (λx n p1 h=> ?_) t h
  refine Qq (λx p2 h=> ?_) x h
  refine kE (λh=> ?_) r h
  obtain⟨h0,h⟩:=a2 h
  obtain⟨hn,h4,h6⟩:=a3 h
  obtain⟨h1,h2,h3⟩:=gk h0
  cases of_decide_eq_true hn
  exact XL go.toGo h1 h2 h3 h4 h6
 | .c5 i kx e=>λX E κ cf st go h=>by
  refine eA (λts v p h=> ?_) st h
  refine kC (λt r h=> ?_) ts h
  refine g7 (λx y p1 h=> ?_) t h
  refine Qq (λx p2 h=> ?_) x h
  refine kE (λh=> ?_) r h
  obtain⟨h0,h4,h6,h7⟩:=a4 h
  obtain⟨h1,h2,h3⟩:=gk h0
  exact xW go.toGo h1 h2 h3 h4 h6 h7
 | .eg o kx j e=>λX E κ cf st go h=>by
  refine eA (λts v p h=> ?_) st h
  refine kC (λt r h=> ?_) ts h
  refine kE (λh=> ?_) r h
  refine kf (λts n p h=> ?_) t h
  refine kC (λt1 r h=> ?_) ts h
  refine kC (λt2 r h=> ?_) r h
  refine kE (λh=> ?_) r h
  refine g7 (λx y p1 h=> ?_) t1 h
  refine Qq (λa p2 h=> ?_) t2 h
  obtain⟨h1,h2,h3,h4,h5⟩:=a5 h
  obtain⟨h5,h6⟩:=a2 h5
  exact ra go.toGo h1 h2 h3 h4 h5 h6
 | .b4 o kx e=>λX E κ cf st go h=>by
  refine eA (λts v p h=> ?_) st h
  refine kC (λt r h=> ?_) ts h
  refine g7 (λx y p1 h=> ?_) t h
  refine kE (λh=> ?_) r h
  obtain⟨h1,_,_,h4,h5,h6⟩:=a6 h
  exact WO go.toGo h1 h4 h5 h6
 | .app i e=>λX E κ cf st go h=>by
  refine ip (λc p h=> ?_) st h
  refine Wi (λf x l q h=> ?_) c h
  refine kE (λh=> ?_) l h
  refine kC (λv r h=> ?_) x h
  refine kE (λh=> ?_) r h
  obtain⟨h1,h2,h3⟩:=a3 h
  exact t6 go.toGo h1 h2 h3
 | .ext i e=>λX E κ cf st go h=>by
  refine ip (λc p h=> ?_) st h
  refine Wi (λf x l q h=> ?_) c h
  refine kE (λh=> ?_) l h
  refine kC (λv r h=> ?_) x h
  refine kE (λh=> ?_) r h
  obtain⟨h1,h2,h3⟩:=a3 h
  exact sW go.toGo h1 h2 h3
 | .dY a e=>λX E κ cf st go h=>by
  refine ip (λc p h=> ?_) st h
  refine Wi (λf x l q h=> ?_) c h
  refine kE (λh=> ?_) l h
  refine kC (λv r h=> ?_) x h
  refine kE (λh=> ?_) r h
  refine zC (λx n q h=> ?_) f h
  obtain⟨h0,h1,h2,h3,h4⟩:=a5 h
  rw [Aa1]at h4
  cases of_decide_eq_true h0
  refine Bn go.toGo ?_ h1 h2 h3 h4.1
  cases x with
  | Name _ _=>rfl
  | Subscript _ _ _=>rfl
  | _=>cases h4.2
 | .bf i c f e=>λX E κ cf st go h=>by
  refine eA (λts v p h=> ?_) st h
  refine kC (λt r h=> ?_) ts h
  refine zC (λx n p1 h=> ?_) t h
  refine Qq (λx p2 h=> ?_) x h
  refine kE (λh=> ?_) r h
  obtain⟨h0,hn,h4,h6⟩:=a4 h
  obtain⟨h1,h2,h3⟩:=gk h0
  cases of_decide_eq_true hn
  exact zM go.toGo h1 h2 h3 h4 h6
 | .aS=>λX E κ cf st go h=>λy8 s Y H D I ⟨B,G,U,h,s',p⟩=>p.elim
 | .ex e=>λX E κ cf st go h=>by
  refine ip (λv p h=> ?_) st h
  exact rg go.toGo (a2 h).1 (a2 h).2
 | .ret e=>λX E κ cf st go h=>by
  refine pU (λv p h=> ?_) st h
  refine kS (λv h=> ?_) v h
  exact uw go.toGo h
 | .iff c a b=>λX E κ cf st go h=>by
  refine ng (λx y z p h=> ?_) st h
  obtain⟨h0,h1,h2,h3⟩:=a4 h
  exact rn ((Wb c go.toGo h1).2 h0) (cM a _ _ _ _ _ go h2) (cM b _ _ _ _ _ go h3)
 | .for tg one it b=>λX E κ cf st go h=>by
  refine yi (λt i y z p h=> ?_) st h
  refine kE (λh=> ?_) z h
  obtain⟨h1,h2,h3,h4⟩:=a4 h
  exact Bl go h1 h2 h3 (cM b _ _ _ _ _ go h4)
 | .cN c f e=>λX E κ cf st go h=>by
  refine mS (λx y p h=> ?_) st h
  refine kS (λx h=> ?_) x h
  refine Wi (λg x l q h=> ?_) x h
  refine kE (λh=> ?_) l h
  refine kC (λx r h=> ?_) x h
  refine kE (λh=> ?_) r h
  obtain⟨h0,h1,h2,h3⟩:=a4 h
  cases nn h0
  exact jV go h1 h2 h3
 | .raise c es=>λX E κ cf st go h=>by
  refine mS (λx y p h=> ?_) st h
  refine kS (λx h=> ?_) x h
  refine Wi (λg x l q h=> ?_) x h
  refine kE (λh=> ?_) l h
  refine kC (λx r h=> ?_) x h
  obtain⟨h0,h1,h2,h3,h4⟩:=a5 h
  cases nn h0
  exact XW go h1 h2 (of_decide_eq_true h3) h4
 | .dJ b c nm hb=>λX E κ cf st go h=>by
  refine rl (λy hs p h=> ?_) st h
  exact tR go (a2 h).1 (a2 h).2 λhk x z hz=>cM hb _ _ _ _ _ (go.fc hk x) hz
theorem cM: ∀(m:M.Ss) (X:Cx) (E:XK) (k:Nat) (cf:Cf) (sts:List Stmt),dQ Γ F X E k cf->cc cf m sts=k9->cD X sts (bE Γ E (M.execs F m))
 | .nil=>λX E κ cf sts go h=>by
  cases Ad6.mp h
  exact X3
 | .cons s ss=>λX E κ cf sts go h=>by
  refine kC (λst r h=> ?_) sts h
  exact QY (ti s _ _ _ _ _ go (a2 h).1) (cM ss _ _ _ _ _ go (a2 h).2)
end
end
section
variable {P:Program}{w:World}{K:Aa3}{mg:Str->Option Value}{base:Heap}{N:List Str}{k7:Str}{scope:Scope}{f:Addr}{cd:Value}{A:Around}{outer:List Env}{s:Shared}{H:Hp}{E:XK}
def jY:Xs (bJ P w) (qD (bJ P w) P w K mg base N k7 scope f cd A outer s H E) E:=by
 intro y8 Y H1 s1 ev s' I hq
 obtain⟨x,C,t,B,H',od,rfl,os,bare,fl,un,aD,comp,new,hd,hE⟩:=hq
 have I':Inv (qD (bJ P w) P w K mg base N k7 scope f cd A outer s H E) y8 Y H' s':=qP (h6:=s'.heap) I os bare un aD comp fl λb o z _=>⟨o.slots,z⟩
 have ff:s'.heap.FunFrames B (envOfC k7 scope s.heap.objs.size f cd::outer):=fl.2.2.1
 refine wpAny_mono (JD (WA _ _) (wpAny_leaves_onW (Q:=λ_ s2=> ∃h2,s2= { s' with heap:=h2 }/\Ai2 B outer x (.ref C) (.ref t) h2/\s'.heap.UpToSlots h2) (E:=λ_ _=>False) (L:=s.heap.objs.size) I.ok.frames rfl fl λh2 x1 x4=>⟨h2,rfl,x1,x4⟩)) (λ_ s2 z=> ?_) λ_ _ z=>z.1.elim
 obtain⟨⟨h2,rfl,x1,x4⟩,dk⟩:=z
 have free: ∀b∈bg (envOfC k7 scope s.heap.objs.size f cd::outer),H' b=none:=I'.bV
 have slotH: ∀b o,b∈bg (envOfC k7 scope s.heap.objs.size f cd::outer)->s'.heap.get? b=y0 o-> ∃sl,h2.get? b=y0 { o with slots:=sl }:=λb o hb z=>by
  obtain⟨_,o',z',nf⟩:=ff.mem hb
  rw [z]at z'
  cases z'
  exact x4 b o z nf
 have toH: ∀b o,s'.heap.get? b=y0 o->((∃ u,H' b=y0 u)\/ ∃u,s1.heap.get? b=y0 u)->b∉bg (envOfC k7 scope s.heap.objs.size f cd::outer)->h2.get? b=y0 o:=λb o z c n=>x1.1 b o (comp b o z c n)
 have cut: ∀b,b∉bg outer->b≠s.heap.objs.size->b∉bg (envOfC k7 scope s.heap.objs.size f cd::outer):=λb n1 n2 hb=>by
  rcases Ab7.mp (show b∈s.heap.objs.size::bg outer from hb)with z | z
  .exact n2 z
  .exact n1 z
 have old: ∀b o,s.heap.get? b=y0 o->b≠s.heap.objs.size:=λb o z=>Ab9 (Ab1 z)
 have c8: ∀b u,H' b=y0 u->b∉bg (envOfC k7 scope s.heap.objs.size f cd::outer):=λb u z hb=>by rw [free b hb]at z;cases z
 have in1: ∀b o,s.heap.get? b=y0 o-> ∃u,s1.heap.get? b=y0 u:=λb o z=>I.base.there b o z (by show b∉([]:List Addr);simp)
 refine⟨x,C,t,B,H',od,rfl,os.trans I.os,bare,x1,⟨λb o z n hb hx=> ?_,λb o z n hb hx=> ?_,I'.base.free,λb o z hx=> ?_,I'.base.b3,I'.base.bT,I'.base.b9⟩,λb u z=> ?_,λb o z hc hb=> ?_,?_,λdx z=> ?_,hE⟩
 .exact toH b o (I'.base.keep b o z n hb hx) (.inr (in1 b o z)) (cut b hb (old b o z))
 .obtain⟨sl,z1⟩:=I'.base.slot b o z n hb hx
  obtain⟨sl2,z2⟩:=slotH b _ (Aa5 _ hb) z1
  exact⟨sl2,z2⟩
 .obtain⟨o',z1⟩:=I'.base.there b o z hx
  by_cases hb:b∈bg (envOfC k7 scope s.heap.objs.size f cd::outer)
  .obtain⟨sl,z2⟩:=slotH b o' hb z1
   exact⟨_,z2⟩
  .exact⟨o',toH b o' z1 (.inr (in1 b o z)) hb⟩
 .refine(aD b u z).b8 (λc v hc z1=> ?_) (λ_ z1=>z1) λ_ _ z1=>z1
  rcases hc with rfl | hc
  .exact toH c v z1 (.inl ⟨u,z⟩) (c8 c u z)
  .exact toH c v z1 (.inl ⟨_,hc⟩) (c8 c _ hc)
 .have two: ∃o2,s'.heap.get? b=y0 o2/\((∃ u,H' b=y0 u)\/ ∃u,s1.heap.get? b=y0 u)/\b∉bg (envOfC k7 scope s.heap.objs.size f cd::outer):=by
   rcases hc with⟨u,hu⟩ | ⟨u,hu⟩
   .obtain⟨o2,z2⟩:=(aD b u hu).there
    exact⟨o2,z2,.inl ⟨u,hu⟩,c8 b u hu⟩
   .obtain⟨o2,z2⟩:=I'.base.there b u hu (by show b∉([]:List Addr);simp)
    exact⟨o2,z2,.inr (in1 b u hu),cut b hb (old b u hu)⟩
  obtain⟨o2,z2,c2,nb⟩:=two
  have z3:=toH b o2 z2 c2 nb
  rw [show h2.get? b=y0 o from z]at z3
  cases z3
  exact comp b _ z2 c2 nb
 .cases z:s.heap.get? x with
  | none=>rfl
  | some u=>
   obtain⟨o2,z2⟩:=in1 x u z
   rw [new]at z2
   cases z2
 .obtain⟨o,e1,e2⟩:=hd dx z
  obtain⟨o',e3,e4⟩:=dk x o e1
  exact⟨o',e3,e4.trans e2⟩
end
structure Txt (K:Aa3) (mg:Str->Option Value) (f:String) where
 st:Stmt
 fa:Addr
 fd:FuncData
 N:List Str
 ps:List Str
structure i9 {K:Aa3}{mg:Str->Option Value}{f:String}(t:Txt K mg f) (d:M.Fn) (g:Cg):Prop where
 fn: ∃x k7,gK K x k7 t.st t.fa t.fd
 bd:Binds K t.fd t.ps []
 sc:Zq t.N t.ps (jf t.st)
 n:t.N.length=d.n
 p:t.ps.length=d.ps
 le:d.ps<=d.n
 tw:cc ⟨g,jf t.st,t.N⟩ d.body (Ju t.st)=k9
structure dM (Γ:Ge) (p:M.Prog) (mg:Str->Option Value) (g:Cg):Prop where
 cl:p.cl=Γ.cl
 ow:g.own=Γ.own
 blt: ∀x,x∈bP->mg (Xb x)=u0
 con: ∀x d,p.con.lookup x=y0 d-> ∃u v,mg (Xb x)=y0 u/\RelV v u/\ ∀G H,ao Γ G H d v
 cls: ∀c,g.own.contains c=k9->mg (Xb c)=y0 (.ref (Γ.ca c))
 d5: ∀c,g.d5.contains c=true->dD Γ c/\PySem.W.excIn Γ.K (Γ.ca c) jv "ValueError.__new__" =true/\mg (Xb c)=some (.ref (Γ.ca c))
 ic: ∀c f,g.ob.er.contains (c,f)=true->dD Γ c/\h9 Γ.K (Γ.ca c) (Xb f)/\i7 Γ.K (Γ.ca c) (Xb f)/\mg (Xb c)=some (.ref (Γ.ca c))/\ ∃fI fd ps,PySem.W.findIn Γ.K (.ref (Γ.ca c)) "__init__" =some (some (.ref fI))/\XT Γ.K (Xb f) fI fd ps
 dX: ∀c,g.dX.contains c=true->PySem.W.mroIn Γ.K (Γ.ca c) (.type "BaseException")=some true/\g.own.contains c=true
 fld: ∀c f,g.ob.fl.contains (c,f)=k9->cu Γ.K (Γ.ca c)/\bH Γ.K (Γ.ca c) (Xb f)
 fT: ∀c m q,g.ob.mt.contains (c,m,q)=k9->cu Γ.K (Γ.ca c)/\g.ob.ms.contains q=k9/\kl Γ.K (Γ.ca c) (Xb m) (Γ.ma q)
 dw: ∀c q,g.ob.dw.contains (c,q)=k9->mg (Xb c)=y0 (.ref (Γ.ca c))/\g.ob.ms.contains q=k9/\Mk Γ.K (Γ.ca c) (Γ.ma q)
section
variable {P:Program}{w:World}{Γ:Ge}{mg:Str->Option Value}{base:Heap}{p:M.Prog}
theorem dM.z {g:Cg}(a:dM Γ p mg g):dM Γ p mg g.z:=⟨a.cl,a.ow,a.blt,a.con,a.cls,λc h=>ba h,λc f h=>ba h,λc h=>ba h,a.fld,λc m q h=>ba h,λc q h=>ba h⟩
def X7 {G:Gh}{H:Hp}{h:M.AH}{ws:List M.W}{vs:List V}{N:List Str}{n:Nat}(k:ae Γ G h H) (r:aP Γ G H ws vs) (p: ∀w∈ws,ki w=k9) (t:N.length=n):aT Γ ⟨G,H,h⟩ G (ws.map y0++Aa (n-ws.length) u0) h (Ww N vs) H:=by
 have z:=r.length
 have get: ∀ {i:Nat}{w:M.W},M.Gp (ws.map y0++Aa (n-ws.length) u0) i=y0 w->ws[i]? =y0 w:=λ{i w} e=>by
  rw [jt]at e
  by_cases d:i<ws.length
  .rw [Ad2 (by simpa using d),Ad9]at e
   cases q:ws[i]? with
   | none=>rw [q]at e;cases e
   | some A=>rw [q]at e;exact e
  .rw [Ad0 (by simpa using d),Aj]at e
   split at e<;>cases e
 have g: ∀ {ws:List M.W}{vs:List V}{i:Nat}{w:M.W},aP Γ G H ws vs->ws[i]? =y0 w-> ∃v,vs[i]? =y0 v/\ah Γ G H w v:=by
  intro ws
  induction ws with
  | nil=>intro vs i w _ e;simp at e
  | cons a r l=>
   intro vs i w ⟨v,B,e1,x,y⟩ e
   subst e1
   cases i with
   | zero=>simp at e;subst e;exact⟨v,rfl,x⟩
   | succ i=>
    obtain⟨u,s,m⟩:=l y (by simpa using e)
    exact⟨u,by simpa using s,m⟩
 have b: ∀ {i:Nat}{c:List M.D},M.Gp (ws.map y0++Aa (n-ws.length) u0) i≠y0 (.own c):=λ{i c} e=>by
  have:=p _ (Ah8 (get e))
  cases this
 refine⟨⟨?_,λi w e=> ?_,λi j c w a o e1=>absurd e1 b,k⟩,Ext.refl,k,λi c a e1=>absurd e1 b⟩
 .unfold Ww
  rw [Ab5,Ab5,Aa0,Aa0,Ab8,Ab8,t,z]
 .obtain⟨v,e2,f⟩:=g r (get e)
  refine⟨v,?_,f⟩
  unfold Ww
  have d:i<vs.length:=(Ab.mp e2).1
  rw [Ad2 (by simpa using d),Ad9,e2]
  rfl
def BB {E:XK}{G:Gh}{H:Hp}{h:M.AH}{Q:VK}{o:M.O}(l:ae Γ G h H) (p:ar Γ E G H (M.Gz h.length o) Q):aN Γ E ⟨G,H,h⟩ o { nx:=λ_ H'=>Q .ai H',rt:=Q }:=by
 have g: ∀ {w:M.W}{c:M.AH}{b:Gh}{H':Hp}{v:V},(∀ i,w≠ .bor i)->ar Γ E G H (M.fin h.length w c) Q->Ext G H b H'->ae Γ b c H'->ah Γ b H' w v->az [] [] H w v->Q v H':=λ{w c b H' v} n p e a r f=>by
  unfold M.fin at p
  split at p
  .exact p b H' e a v r f
  .split at p
   .rename_i j
    rw [Aa1,l.len]at j
    have m:=e.cut
    rw [l.len]at p
    exact p (b.cut G.n) H' m (a.cut e.le j.2) v (r.cut G.n e.le j.1 n) f
   .exact p b H' e a v r f
 cases o with
 | next U c=>exact λb q H' k=>g (w:= .v .ai) (v:= .ai) (λi z=>by cases z) p k.ext k.st.heap rfl trivial
 | ret w c=>
  cases w with
  | bor i=>exact p.elim
  | v d=>exact λb v H' e a r f=>g (λi z=>by cases z) p e a r f
  | own i=>exact λb v H' e a r f=>g (λi z=>by cases z) p e a r f
 | exc d c=>exact p
 | brk U c=>exact p.elim
 | cont U c=>exact p.elim
 | fail=>exact p.elim
end
section
variable {P:Program}{w:World}{Γ:Ge}{mg:Str->Option Value}{base:Heap}{p:M.Prog}{g:Cg}
def iU (P:Program) (w:World) (Γ:Ge) (mg:Str->Option Value) (base:Heap) (r:Nat) (m:List M.W->M.AH->M.R M.W) (f:String):Prop:=
 ∃ps a fd,aW P w Γ.K mg base (bJ P w) r a fd ps (eI Γ m)/\Binds Γ.K fd ps []/\Ae3 Γ.K (.ref a)=k9/\mg (Xb f)=y0 (.ref a)
def oO (P:Program) (w:World) (Γ:Ge) (mg:Str->Option Value) (base:Heap) (r:Nat) (m:List M.W->M.AH->M.R M.W) (q:String):Prop:=
 ∃ps fd,aW P w Γ.K mg base (bJ P w) r (Γ.ma q) fd ps (eI Γ m)/\Binds Γ.K fd ps []
def kj (j:dM Γ p mg g){f:String}{d:M.Fn}{t:Txt Γ.K mg f}(ok:i9 t d g) (hf:p.fns.lookup f=y0 d) (k r:Nat) (I:g.cb=k9->3<=r) (hr2: ∀c,g.dX.contains c=k9->2<=r) (ih: ∀h,g.fns.contains h=k9->iU P w Γ mg base r (M.call p k h) h)
 (iq: ∀h,g.qf.contains h=k9->iU P w Γ mg base 2 (M.call p k h) h) (im: ∀q,g.ob.ms.contains q=k9->oO P w Γ mg base r (M.call p k q) q):aW P w Γ.K mg base (bJ P w) (r+2) t.fa t.fd t.ps (eI Γ (M.call p (k+1) f)):=by
 have a: ∀ {i:List M.W}{h:M.AH},i.length≠d.ps->M.call p (k+1) f i h= .fail:=λ{i h} hn=>by
  rw [M.call,hf]
  simp [M.run,hn]
 have l: ∀ {i:List M.W}{h:M.AH},i.length=d.ps->M.call p (k+1) f i h=M.Gz h.length (M.execs ⟨M.call p k,p.cl,p.con⟩ d.body (i.map y0++Aa (d.n-d.ps) u0) h):=λ{i h} hn=>M.Ga hf k i h hn
 obtain⟨x,k7,F⟩:=ok.fn
 refine gK.oa (k:=r+1) F ok.sc (λvs H Q E ⟨G,h,i,hr,X,no,q⟩=> ?_) λcdv A S s H vs Q E b ⟨G,h,i,hr,X,no,q⟩=> ?_
 .by_cases C:i.length=d.ps
  .rw [← X.length,C,ok.p]
  .rw [a C]at q;exact q.elim
 .by_cases C:i.length=d.ps
  rotate_left
  .rw [a C]at q;exact q.elim
  rw [l C]at q
  have calm:g.cb=k9->A.handled=none:=λz=>b.hd (Nat.succ_le_succ (I z))
  refine⟨bE Γ E (M.execs ⟨M.call p k,p.cl,p.con⟩ d.body),cM d.body _ _ r _ _ ?_ ok.tw,?_⟩
  .refine { N:=rfl,K:=rfl,cl:=j.cl,ow:=j.ow,nd:=ok.sc.nd,ef:=λx o=>xT o,f7:=λx o=>o,eF:=λx o=>⟨ZU o,.inl rfl⟩,gL:=λx o=>o,gl:=λx o=>WC o,calm:=λz=>by rw [show Cx.calm _=A.handled.isNone from rfl,calm z];rfl,room:=b.mono (by omega),bL:=b,pass:=jY,blt:=j.blt,con:=j.con,fn:=λh u=> ?_,gP:=λh u=> ?_,cls:=j.cls,fld:=j.fld,fT:=λc m q hq=> ?_,dw:=λc q hq=> ?_,gH:=Bw,eL:=rfl,iX:=rfl,ex:=rfl,d5:=λc J B u Y=> ?_,ic:=λc f J B u Y=> ?_,dX:=λc B=>⟨(j.dX c B).1,(j.dX c B).2,hr2 c B⟩ }
   .obtain⟨L,fa,O,y,v,W,T⟩:=ih h u
    exact⟨L,⟨fa,O,y,v,W,T⟩⟩
   .obtain⟨L,fa,O,y,v,W,T⟩:=iq h u
    exact⟨L,⟨fa,O,y,v,W,T⟩⟩
   .obtain⟨z1,z2,z3⟩:=j.fT c m q hq
    obtain⟨L,O,y,v⟩:=im q z2
    exact⟨z1,_,O,L,z3,y,v⟩
   .obtain⟨z1,z2,z3⟩:=j.dw c q hq
    obtain⟨L,O,y,v⟩:=im q z2
    exact⟨z1,_,O,L,z3,y,v⟩
   .obtain⟨U,ei,V⟩:=j.d5 c B
    refine⟨U,λnp D pos e es t ha R=> ?_⟩
    exact sP (calm J) ei V (WC u) ha (Za (R _ Aa8)) (Xh λe he=>R e (Aa5 _ he)) Y
   .obtain⟨U,xg,xe,V,fI,O,L,hi,Z⟩:=j.ic c f B
    exact⟨U,xg,λnp D pos e t ha R=>Z1 (calm J) xe hi Z V (WC u) (b.mono (by have:=I J;omega)) ha (Za R) Y⟩
  .refine⟨⟨G,H,h⟩,G,i.map y0++Aa (d.n-d.ps) u0,h,?_,BB hr q⟩
   have:=X7 (N:=t.N) (n:=d.n) hr X no ok.n
   rw [C]at this
   exact this
def ZO (r:Nat) (f:String) (k:Addr) (i:FuncData) (g:List Str):aW P w Γ.K mg base (bJ P w) r k i g (eI Γ (M.call p 0 f)):=
 ⟨λl H Q E ⟨G,h,e,j,c,d,q⟩=>q.elim,λA a s H b m l Q E _ _ _ _ ⟨G,h,e,j,c,d,q⟩=>q.elim⟩
def nu (Γ:Ge) (mg:Str->Option Value) (p:M.Prog) (g:Cg) (f:String):Prop:= ∃d,p.fns.lookup f=y0 d/\ ∃t:Txt Γ.K mg f,i9 t d g/\Ae3 Γ.K (.ref t.fa)=k9/\mg (Xb f)=y0 (.ref t.fa)
def Co (l:dM Γ p mg g) (all: ∀f,g.fns.contains f=k9->nu Γ mg p g f) (a: ∀f,g.qf.contains f=k9->nu Γ mg p g.z f)
 (c: ∀q,g.ob.ms.contains q=k9-> ∃d,p.fns.lookup q=y0 d/\ ∃t:Txt Γ.K mg q,i9 t d g/\t.fa=Γ.ma q): ∀k,(∀ f,g.fns.contains f=k9->iU P w Γ mg base (2*k+3) (M.call p k f) f)/\(∀ f,g.qf.contains f=k9->iU P w Γ mg base 2 (M.call p k f) f)/\ ∀q,g.ob.ms.contains q=k9->oO P w Γ mg base (2*k+3) (M.call p k q) q:=by
 intro k
 induction k with
 | zero=>
  refine⟨λf i=> ?_,λf i=> ?_,λq m=> ?_⟩
  .obtain⟨d,b,t,ok,h,e⟩:=all f i
   exact⟨t.ps,t.fa,t.fd,ZO _ f _ _ _,ok.bd,h,e⟩
  .obtain⟨d,b,t,ok,h,e⟩:=a f i
   exact⟨t.ps,t.fa,t.fd,ZO _ f _ _ _,ok.bd,h,e⟩
  .obtain⟨d,b,t,ok,n⟩:=c q m
   exact⟨t.ps,t.fd,ZO _ q _ _ _,ok.bd⟩
 | succ k j=>
  rw [show 2*(k+1)+3=2*k+3+2 by omega]
  refine⟨λf i=> ?_,λf i=> ?_,λq m=> ?_⟩
  .obtain⟨d,b,t,ok,h,e⟩:=all f i
   exact⟨t.ps,t.fa,t.fd,kj l ok b k _ (λ_=>by omega) (λ_ _=>by omega) j.1 j.2.1 j.2.2,ok.bd,h,e⟩
  .obtain⟨d,b,t,ok,h,e⟩:=a f i
   exact⟨t.ps,t.fa,t.fd,kj l.z ok b k 0 (λz=>nomatch z) (λ_ z=>ba z) (λ_ z=>ba z) (λ_ z=>ba z) λ_ z=>ba z,ok.bd,h,e⟩
  .obtain⟨d,b,t,ok,n⟩:=c q m
   exact⟨t.ps,t.fd,n▸kj l ok b k _ (λ_=>by omega) (λ_ _=>by omega) j.1 j.2.1 j.2.2,ok.bd⟩
def iR (K:Aa3):Sp:=λc H Q _=> ∃(a:Addr) (b:List Int),c= [.ref a]/\aY K H a (b.map V.int)/\b.length<=63/\ ∀H',Q (.bl k9) H'
theorem ZQ {G:Gh}{H:Hp}: ∀(ns:List Int),aa Γ G H (ns.map M.D.int) (ns.map V.int)
 | []=>rfl
 | n::ns=>⟨_,_,rfl,rfl,ZQ ns⟩
def u3 {n k:Nat}{j:Addr}{i:FuncData}{h:List Str}(F:aW P w Γ.K mg base (bJ P w) n j i h (eI Γ (M.call p k "law"))) (d9: ∀ns:List Int,ns.length<=63-> ∃h',M.call p k "law" [.v (.lst (ns.map .int))] []= .ok (.v (.bl true)) h'):
 aW P w Γ.K mg base gS n j i h (iR Γ.K):=by
 refine aW.calm F ?_
 rintro C H Q E ⟨a,ns,x,d,u,q⟩
 subst x
 obtain⟨h',t⟩:=d9 ns u
 have fin: ∀G:Gh,ae Γ G [] H->gm Γ G H a (ns.map V.int)->eI Γ (M.call p k "law") [.ref a] H Q (fun _ _ _=>False):=fun G y l=>by
  refine⟨G,[],[.v (.lst (ns.map .int))],y,⟨.ref a,[],rfl,⟨a,ns.map V.int,rfl,l,ZQ ns⟩,rfl⟩,λw A=> ?_,?_⟩
  .cases Ad1.mp A;rfl
  .rw [t]
   intro B m _ _ v r _
   cases (show v= .bl k9 from r)
   exact q m
 rcases d with d | d
 .refine fin ⟨λb=>b=a,λ_=>0,0⟩ ⟨rfl,λr c e=>by simp at e,λr s g=>absurd g (Nat.not_lt_zero _),λb f=> ?_⟩ (.inl ⟨rfl,d⟩)
  subst f
  rcases d with z | ⟨o,z⟩
  .exact⟨_,z⟩
  .exact⟨_,z⟩
 .exact fin ⟨λ_=>False,λ_=>0,0⟩ ⟨rfl,λr c e=>by simp at e,λr s g=>absurd g (Nat.not_lt_zero _),λb f=>f.elim⟩ (.inr d)
def walk {l:PySem.W.OpenLaw}{q:Program}{b:List Str}{XP:(Str->Option Value)->Heap->Prop}{e:World->Heap->Prop}{d:DefRec}{K:Params->Aa3}{x:Str}(k:Nat) (j:aR k callerA) (p:l.most=y0 63) (c:d.params.defaults= [])
 (m: ∀(w:World) (h:Heap),e w h->(K w.params).In h)
 (F: ∀(w:World) (mg:Str->Option Value) (g:Addr) (h:Heap),(K w.params).In h->h.Ns mainGlobals mg->mg d.name=y0 (.ref g) →
   ∃fd:FuncData,(∀ (s:Shared) (u:Value),BindsTo s fd ⟨[u],[]⟩ [(x,u)])/\ ∀base:Heap,(K w.params).In base->base.Ns mainGlobals mg->aW l.prog w (K w.params) mg base gS k g fd [x] (iR (K w.params))):
 PySem.W.WalkO q b XP e l.row.toRowW d [] (λf vs=>PySem.call f vs):=
 L2.fi (n:=63) (k:=k) (x:=x) (CX:=λ_=>gS) (sp:=λw=>iR (K w.params)) p (by decide) c j m F (λ_ _ a o r _ i=>⟨a,o,rfl,i,r,λ_=>rfl⟩) λ_ _ _ _ _ z=>z
end
open PySem PySem.W PyProof.Rows KTD
theorem WR {f g:Str->Option (Str×Value)}: ∀ {l:List Str},(∀ n∈l,f n=g n)->l.filterMap f=l.filterMap g
 | [],_=>rfl
 | a::l,h=>by rw [Ae,Ae,h a Aa8,WR λn b=>h n (Aa5 _ b)]
theorem XR: ∀ {a:List Str}{us:List Value},a.Nodup->us.length=a.length->a.filterMap (λn=>((a.zip us).lookup n).map (n, ·))=a.zip us
 | [],us,_,_=>rfl
 | p::a,[],_,h=>by cases h
 | p::a,u::us,d,h=>by
  have c:=Af8.mp d
  rw [List.zip_cons_cons,List.filterMap_cons_some (b:=(p,u)) (by rw [List.lookup_cons_self];rfl)]
  congr 1
  refine(WR λn f=> ?_).trans (XR c.2 (Nat.succ.inj h))
  rw [Ac,beq_eq_false_iff_ne.mpr (λe=>c.1 (e▸f):n≠p)]
def u5 {a:List Str}{us:List Value}(h:us.length=a.length){n:Str}(b:n∈a):((a.zip us).lookup n).isSome=true:=by
 induction a generalizing us with
 | nil=>cases b
 | cons p a c=>
  cases us with
  | nil=>cases h
  | cons u us=>
   rw [List.zip_cons_cons,Ac]
   cases e:n==p with
   | true=>rfl
   | false=>exact c (Nat.succ.inj h) ((Ab7.mp b).resolve_left (beq_eq_false_iff_ne.mp e))
abbrev cR (a:FuncData):List Str:=a.params.args.map (·.arg)
def QW {fd:FuncData}(h1:fd.params.posonlyargs= []) (h2:fd.params.vararg=u0) (h3:fd.params.kwonlyargs= []) (h4:fd.params.kwarg=u0) (h5:fd.defaults= .none) (nd:(cR fd).Nodup){us:List Value}(hl:us.length=(cR fd).length):bindArgs fd ⟨us,[]⟩=pure ((cR fd).zip us):=by
 have e: ∀k,((cR fd).take k).filter (λn=>(((cR fd).zip us).lookup n).isNone)= []:=λk=>List.filter_eq_nil_iff.mpr λn hn=>by
  have:=u5 hl (List.mem_of_mem_take hn)
  cases q:((cR fd).zip us).lookup n with
  | none=>rw [q]at this;cases this
  | some _=>simp
 have f:=XR nd hl
 obtain⟨n,q,⟨po,as,va,ko,kd,ka,df⟩,b,sc,g,cl,d,kV,doc,pm,an,cd,ct,bi⟩:=fd
 cases h1
 cases h2
 cases h3
 cases h4
 cases h5
 refine(if_neg (c:=(u9 (us.length>(as.map (·.arg)).length)&&k9)=k9) ?_).trans ((if_neg ?_).trans ?_)
 .simpa using Al1 hl
 .exact λz=>by
   have z':=(congrArg (λl:List Str=> !l.isEmpty) (e _)).symm.trans z
   cases z'
 .refine Eq.trans ?_ (congrArg pure f)
  dsimp only
  rw [show ∀k,List.drop k ((none:Option (Array Value)).getD #[]).toList= []from λk=>List.drop_nil,List.zip_nil_right]
  exact congrArg (λl:List Str=>(pure (l.filterMap λn=>(((as.map (·.arg)).zip us).lookup n).map (n, ·)):Sem (List (Str×Value)))) (Ac2 (as.map (·.arg)))
noncomputable def hQ (K:Frag) (a:Addr) (f:FuncData->List Stmt->Bool):Bool:=match K.lookup a with
 | some ⟨_,_,.func fd,_⟩=>(match fd.body with
  | .stmts b=>f fd b
  | _=>y9)
 | _=>y9
def lR {K:Frag}{a:Addr}{f:FuncData->List Stmt->Bool}(h:hQ K a f=k9): ∃j L fd i b,K.lookup a=y0 ⟨j,L,.func fd,i⟩/\fd.body= .stmts b/\f fd b=true:=by
 unfold hQ at h
 split at h
 .rename_i e
  split at h
  .rename_i e2
   exact⟨_,_,_,_,_,e,e2,h⟩
  .cases h
 .cases h
def ib (K:Frag) (a:Addr) (b:FuncData) (N:List Str):Prop:=
 (b.globals=mainGlobals/\b.builtins=builtinsNs/\b.closure= []/\b.defaults= .none)/\codeIn K b.code b.qualname=k9/\keepIn K (.ref a)=k9 ∧
 (b.params.posonlyargs.isEmpty=k9/\b.params.vararg.isNone=k9/\b.params.kwonlyargs.isEmpty=k9/\b.params.kwarg.isNone=k9) ∧
 b.scope.kind= .function/\b.scope.isCoroutine=y9/\b.scope.isGenerator=y9/\N.Nodup/\N.take (cR b).length=cR b/\(∀ x∈cR b,b.scope.names.lookup x=y0 .local\/b.scope.names.lookup x=y0 .cell)/\ ∀y∈b.scope.names,y.2≠ .free
instance {K:Frag}{a:Addr}{fd:FuncData}{N:List Str}:Decidable (ib K a fd N):=by unfold ib;infer_instance
def mI {K:Frag}{a:Addr}{e:Value}{j:Option Addr}{c:FuncData}{i:Array (Option Value)}{b:List Stmt}{N:List Str}(l:K.lookup a=y0 ⟨e,j,.func c,i⟩) (hb:c.body= .stmts b) (p:ib K a c N):
 ∃st x q,Ju st=b/\jf st=c.scope/\gK K x q st a c/\Zq N (cR c) c.scope/\ ∀us:List Value,us.length=(cR c).length->bindArgs c ⟨us,[]⟩=pure ((cR c).zip us):=by
 obtain⟨⟨g,bi,s,d⟩,t,r,⟨k,a2,a3,a4⟩,o,n,m,f,h,v,u⟩:=p
 refine⟨.FunctionDef c.name c.params b [] u0 [] c.scope u0 c.name ⟨0,0,0,0⟩,c.name,c.qualname,rfl,rfl,⟨⟨e,j,c.kwdefaults,c.doc,c.pyModule,c.annotations,c.code,c.closureTuple,i,?_,l,t⟩,r⟩,⟨o,n,m,f,h,v,u⟩,λus w=>QW (Ad6.mp k) (Ae5.mp a2) (Ad6.mp a3) (Ae5.mp a4) d (h▸(List.take_sublist _ _).nodup f) w⟩
 cases c
 cases hb
 cases g
 cases bi
 cases s
 cases d
 rfl
def gY:Option (Option Value)->Addr
 | some (y0 (.ref a))=>a
 | _=>0
abbrev bu (K:Frag) (c:String):Addr:=gY (nsIn K mainGlobals (Xb c))
abbrev ig (K:Frag) (c:String):Prop:=nsIn K mainGlobals (Xb c)=y0 (y0 (.ref (bu K c)))
noncomputable def eQ (K:Frag) (a:iP) (q:String):Addr:=match a.mt.find? (·.2.2==q)with
 | some (c,m,_)=>gY (findIn K (.ref (bu K c)) (Xb m))
 | none=>match a.dw.find? (·.2==q)with
  | some (c,_)=>gY (findIn K (.ref (bu K c)) "__init__")
  | none=>0
def pe (a:Scope):List Str:=a.names.filterMap λy=>if y.2= .local\/y.2= .cell then y0 y.1 else u0
def XP (K:Frag) (a:M.cu) (own:List String) (c:String):Prop:=((findIn K (.ref (bu K c)) "__getattribute__" =some (some (.builtin "BaseException.__getattribute__"))/\findIn K (.ref (bu K c)) "__getattr__" =some none/\findIn K (.ref (bu K c)) "__class__" =some (some (.builtin "object.__class__"))) ∧
 specialIn K (.builtin "object.__class__") "__get__" =some (some (.builtin "getset_descriptor.__get__"))/\takesIn K (.builtin "object.__class__")=some true/\mroIn K (bu K c) (.type "object")=some true/\mroIn K (bu K c) (.type "BaseException")=some true/\kitCls K (.ref (bu K c)) (.ref (bu K c))=some true/\(clsIn K (bu K c)).isSome=true) ∧
 (∀ t∈own,kitOne K (.ref (bu K c)) (.ref (bu K t))=some ((M.GQ a 8 c).contains t))/\kitOne K (.ref (bu K c)) (.type "ValueError")=some ((M.GQ a 8 c).contains "ValueError")/\ig K c
instance {K:Frag}{cl:M.cu}{own:List String}{c:String}:Decidable (XP K cl own c):=by unfold XP;infer_instance
def kh (K:Frag) (p:M.Prog) (g:Cg) (nm:List (String×List String)) (a:Addr) (f:String):Bool:=hQ K a λfd b=>match p.fns.lookup f with
 | some d=>(λN=>u9 (ib K a fd N/\N.length=d.n/\(cR fd).length=d.ps/\d.ps<=d.n)&&cc ⟨g,fd.scope,N⟩ d.body b) (((nm.lookup f).map λl=>l.map Xb).getD (pe fd.scope))
 | none=>y9
def wR {K:Frag}{p:M.Prog}{g:Cg}{nm:List (String×List String)}{a:Addr}{f:String}(mg:Str->Option Value) (h:kh K p g nm a f=k9):
 ∃d,p.fns.lookup f=y0 d/\ ∃t:Txt K mg f,i9 t d g/\t.fa=a/\keepIn K (.ref a)=k9/\ ∃i L j,K.lookup a=y0 ⟨i,L,.func t.fd,j⟩/\t.ps=cR t.fd/\ ∀us:List Value,us.length=t.ps.length->bindArgs t.fd ⟨us,[]⟩=pure (t.ps.zip us):=by
 obtain⟨i,L,O,j,b,l,r,h⟩:=lR h
 cases e:p.fns.lookup f with
 | none=>rw [e]at h;cases h
 | some d=>
  rw [e]at h
  dsimp only at h
  generalize ((nm.lookup f).map λl=>l.map Xb).getD (pe O.scope)=N at h
  obtain⟨u,c⟩:=(Aa1 _ _).mp h
  obtain⟨q,s,n,v⟩:=of_decide_eq_true u
  obtain⟨o,x,w,rfl,y,F,m,k⟩:=mI l r q
  rw [← y]at m c
  exact⟨d,rfl,⟨o,a,O,_,cR O⟩,⟨⟨x,w,F⟩,.all k,m,s,n,v,c⟩,rfl,F.kp,i,L,j,l,rfl,k⟩
noncomputable def oq (f n m:Str) (b:List Stmt):Bool:=lC b λst r=>kZ r (w6 st λd v=>lC d λt r=>kZ r (Zy t λx g _=>Jq x λa=>Jq v λc=>u9 (a=n)&&u9 (g=f)&&u9 (c=m)))
def AA {f n m:Str}{b:List Stmt}(h:oq f n m b=k9): ∃i p2 L M,b= [.Assign [.Attribute (.Name n i) f p2] (.Name m L) M]:=by
 refine kC (λd r h=> ?_) b h
 refine kE (λh=> ?_) r h
 refine eA (λl v p h=> ?_) d h
 refine kC (λt r h=> ?_) l h
 refine kE (λh=> ?_) r h
 refine zC (λx g p h=> ?_) t h
 refine Qq (λa p h=> ?_) x h
 refine Qq (λc p h=> ?_) v h
 obtain⟨k,e,j⟩:=a3 h
 cases of_decide_eq_true k
 cases of_decide_eq_true e
 cases of_decide_eq_true j
 exact⟨_,_,_,_,rfl⟩
def oD (K:Frag) (f:Str) (a:Addr):Bool:=hQ K a λfd b=>match cR fd with
 | [n,m]=>u9 (ib K a fd [n,m]/\(n==("__debug__" :Str))=false/\(m==("__debug__" :Str))=false/\(n==("__classdict__" :Str))=false/\(m==("__classdict__" :Str))=false)&&oq f n m b
 | _=>y9
def vD {K:Frag}{f:Str}{a:Addr}(h:oD K f a=k9) (s:isFn K (.ref a)=k9): ∃fd ps,XT K f a fd ps:=by
 obtain⟨y,A,fd,z,b,l,i,h⟩:=lR h
 split at h
 .rename_i n m e
  obtain⟨o,j⟩:=(Aa1 _ _).mp h
  obtain⟨q,d⟩:=of_decide_eq_true o
  obtain⟨g,x,r,rfl,v,F,c,p⟩:=mI l i q
  obtain⟨k,t,u,w,e2⟩:=AA j
  rw [← v]at c
  exact⟨fd,cR fd,⟨x,r,g,_,n,m,k,t,u,w,F,e,rfl,c,e2,d⟩,.all p,beq_iff_eq.mp s⟩
 .cases h
noncomputable def l7 (K:Frag) (a:Addr) (f:List Value->Bool):Bool:=match K.lookup a with
 | some o=>(match o.data with
  | .seq b _=>u9 (o.cls= .type "tuple" /\o.dict=none/\b.size<=100)&&f b.toList
  | _=>y9)
 | none=>y9
def vA {Γ:Ge}{a:Addr}{f:List Value->Bool}(h:l7 Γ.K a f=k9): ∃us,f us=k9/\ ∀vs,Vals vs us-> ∀G H,eD Γ G H a vs:=by
 unfold l7 at h
 split at h
 .rename_i o e
  split at h
  .rename_i b n e2
   obtain⟨i,d⟩:=(Aa1 _ _).mp h
   obtain⟨j,g,c⟩:=of_decide_eq_true i
   exact⟨_,d,λvs r G H=> .inr ⟨o,b,n,e,j,g,e2,Ac0 c (by rw [sizeLine_eq];decide),r⟩⟩
  .cases h
 .cases h
mutual
noncomputable def lF (K:Frag):M.D->Value->Bool
 | .int i,.int j _=>u9 (i=j)
 | .str s,.str t _=>u9 (aO s=t)
 | .exc _ fs,.ref a=> !fs.isEmpty&&tabLook flatLooks (λb=>K.lookup b) a (m8 fs)
 | .tup ds,.ref a=>l7 K a λus=>d4 K ds us
 | _,_=>y9
noncomputable def d4 (K:Frag):List M.D->List Value->Bool
 | [],[]=>k9
 | d::ds,u::us=>lF K d u&&d4 K ds us
 | _,_=>y9
end
def ni (K:Frag) (x:String) (d:M.D):Bool:=match nsIn K mainGlobals (Xb x)with
 | some (y0 u)=>lF K d u
 | _=>y9
mutual
theorem og {Γ:Ge}: ∀ {d:M.D}{u:Value},lF Γ.K d u=k9-> ∃v,RelV v u/\ ∀G H,ao Γ G H d v
 | .int _,.int _ _,h=>by cases of_decide_eq_true h;exact⟨.int _,⟨_,rfl⟩,λ_ _=>rfl⟩
 | .str _,.str _ _,h=>by cases of_decide_eq_true h;exact⟨.str _,⟨_,rfl⟩,λ_ _=>rfl⟩
 | .exc _ fs,.ref a,h=>by
  obtain⟨h1,h2⟩:=(Aa1 _ _).mp h
  exact⟨.ref _,rfl,λ_ _=> .inr ⟨λe=>(by rw [e]at h1;cases h1),_,rfl,h2⟩⟩
 | .tup ds,.ref a,h=>by
  obtain⟨us,h1,h2⟩:=vA h
  obtain⟨vs,r,h3⟩:=dA h1
  exact⟨.ref a,rfl,λG H=>⟨a,vs,rfl,h2 vs r G H,h3 G H⟩⟩
theorem dA {Γ:Ge}: ∀ {ds:List M.D}{us:List Value},d4 Γ.K ds us=k9-> ∃vs,Vals vs us/\ ∀G H,aa Γ G H ds vs
 | [],[],_=>⟨[],.nil,λ_ _=>rfl⟩
 | d::ds,u::us,h=>by
  obtain⟨h1,h2⟩:=(Aa1 _ _).mp h
  obtain⟨v,r1,h3⟩:=og h1
  obtain⟨vs,r2,h4⟩:=dA h2
  exact⟨v::vs,.cons r1 r2,λG H=>⟨v,vs,rfl,h3 G H,h4 G H⟩⟩
end
theorem nR {a:Type}: ∀ {l:List (String×a)}{x:String}{d:a},l.lookup x=y0 d->(x,d)∈l
 | (k,v)::l,x,d,h=>by
  rw [Ac]at h
  by_cases q:(x==k)=k9
  .rw [q]at h;cases h;rw [eq_of_beq q];exact Aa8
  .rw [eq_false_of_ne_true q]at h;exact Aa5 _ (nR h)
abbrev oH (K:Frag) (C:Addr):Prop:=plainGet K C Str.empty=true/\hasDictIn K C=true/\plainOver K C=true/\findIn K (.ref C) "__setattr__" =some (some (.builtin "object.__setattr__"))
def l0 (K:Frag) (p:M.Prog) (g:Cg) (nm:List (String×List String)):Prop:=
 (∀ x∈bP,nsIn K mainGlobals (Xb x)=some none)/\(∀ x∈p.con,ni K x.1 x.2=true)/\(∀ c∈g.own,ig K c)/\(∀ c∈g.d5,XP K p.cl g.own c/\excIn K (bu K c) jv "ValueError.__new__" =true) ∧
 (∀ c∈g.ob.er,XP K p.cl g.own c.1/\(Xz K (bu K c.1)=true/\g6 K (bu K c.1)=true/\findIn K (.ref (bu K c.1)) "__setattr__" =some (some (.builtin "object.__setattr__"))/\findIn K (.ref (bu K c.1)) (Xb c.2)=some none/\keepIn K (.ref (bu K c.1))=true) ∧
   findIn K (.ref (bu K c.1)) "__init__" =some (some (.ref (gY (findIn K (.ref (bu K c.1)) "__init__"))))/\oD K (Xb c.2) (gY (findIn K (.ref (bu K c.1)) "__init__"))=true/\isFn K (.ref (gY (findIn K (.ref (bu K c.1)) "__init__")))=true) ∧
 (∀ c∈g.dX,mroIn K (bu K c) (.type "BaseException")=some true/\g.own.contains c=true) ∧
 (∀ c∈g.ob.fl,oH K (bu K c.1)/\findIn K (.ref (bu K c.1)) (Xb c.2)=y0 u0) ∧
 (∀ c∈g.ob.mt,oH K (bu K c.1)/\g.ob.ms.contains c.2.2=k9/\findIn K (.ref (bu K c.1)) (Xb c.2.1)=y0 (y0 (.ref (eQ K g.ob c.2.2)))/\isFn K (.ref (eQ K g.ob c.2.2))=k9/\keepIn K (.ref (eQ K g.ob c.2.2))=k9) ∧
 (∀ c∈g.ob.dw,ig K c.1/\g.ob.ms.contains c.2=true/\makesIn K (bu K c.1)=true/\findIn K (.ref (bu K c.1)) "__init__" =some (some (.ref (eQ K g.ob c.2)))/\isFn K (.ref (eQ K g.ob c.2))=true/\keepIn K (.ref (bu K c.1))=true) ∧
 (∀ f∈g.fns,ig K f/\kh K p g nm (bu K f) f=true)/\(∀ q∈g.ob.ms,kh K p g nm (eQ K g.ob q) q=true)/\(∀ f∈g.qf,ig K f/\kh K p g.z nm (bu K f) f=true)/\g.fns.contains "law" =true/\hQ K (bu K "law") (fun fd _=>decide (cR fd= [("_law_script" :Str)]))=true
set_option synthInstance.maxSize 1000 in
instance {K:Frag}{p:M.Prog}{g:Cg}{nm:List (String×List String)}:Decidable (l0 K p g nm):=by unfold l0;infer_instance
def qr {a:Type} [BEq a] [LawfulBEq a] {l:List a}{x:a}(h:l.contains x=k9):x∈l:=Ag.mp h
def XP.ok {K:Frag}{p:M.Prog}{own:List String}{e:iP}{c:String}(h:XP K p.cl own c):dD ⟨K,bu K,p.cl,own,eQ K e⟩ c:=by
 obtain⟨⟨⟨f,a2,a3⟩,a4,a5,a6,a7,d,a⟩,b,c,_⟩:=h
 exact⟨⟨f,a2,a3,a4,a5,a6,a7,d,a⟩,b,c⟩
def gz {l:OpenLaw}{w:World}{K:Frag}{h:Heap}{mg:Str->Option Value}{Q:Addr}(p:M.Prog) (g:Cg) (nm:List (String×List String)) (k:Nat) (X:K.In h) (G:h.Ns mainGlobals mg) (H:mg "law" =some (.ref Q)) (T:decide (l0 K p g nm)=true)
 (d9: ∀ns:List Int,ns.length<=63-> ∃h',M.call p (k+1) "law" [.v (.lst (ns.map .int))] []= .ok (.v (.bl true)) h'):
 ∃fd:FuncData,(∀ (s:Shared) (v:Value),BindsTo s fd ⟨[v],[]⟩ [("_law_script",v)])/\ ∀base:Heap,K.In base->base.Ns mainGlobals mg->aW l.prog w K mg base gS (2*k+3+2) Q fd ["_law_script"] (iR K):=by
 obtain⟨Z,t0,t2,t3,t4,t5,Y,t7,t8,N,L,S,D,I⟩:=of_decide_eq_true T
 have U:dM ⟨K,bu K,p.cl,g.own,eQ K g.ob⟩ p mg g:=by
  refine⟨rfl,rfl,λx hx=>mg_none_of X G (Z x hx),λx d b=> ?_,λc a=>mg_of X G (t2 c (qr a)),λc a=> ?_,λc f a=> ?_,λc a=>t5 c (qr a),λc f a=> ?_,λc m q a=> ?_,λc q a=> ?_⟩
  .have z:=t0 (x,d) (nR b)
   unfold ni at z
   split at z
   .rename_i u e
    obtain⟨v,r⟩:=og (Γ:=⟨K,bu K,p.cl,g.own,eQ K g.ob⟩) z
    exact⟨u,v,mg_of X G e,r⟩
   .cases z
  .have z:=t3 c (qr a)
   exact⟨z.1.ok,z.2,mg_of X G z.1.2.2.2⟩
  .obtain⟨z,⟨e1,e2,A,n,o⟩,E,J,R⟩:=t4 (c,f) (qr a)
   obtain⟨fd,ps,i⟩:=vD J R
   exact⟨z.ok,⟨e2,n,z.1.1.1,z.1.1.2.1⟩,⟨e1,e2,A,n,o⟩,mg_of X G z.2.2.2,_,fd,ps,E,i⟩
  .obtain⟨⟨e1,e2,A,n⟩,o⟩:=Y (c,f) (qr a)
   exact⟨⟨e1,e2,A,n⟩,o⟩
  .obtain⟨⟨e1,e2,A,n⟩,o,E,J,R⟩:=t7 (c,m,q) (qr a)
   exact⟨⟨e1,e2,A,n⟩,o,E,J,R⟩
  .obtain⟨e1,e2,A,n,o,E⟩:=t8 (c,q) (qr a)
   exact⟨mg_of X G e1,e2,A,n,o,E⟩
 have C: ∀f,g.fns.contains f=k9->mg (Xb f)=y0 (.ref (bu K f)):=λf y=>mg_of X G (N f (qr y)).1
 have e:bu K "law" =Q:=by
  have:=(C "law" D).symm.trans H
  cases this
  rfl
 obtain⟨d,b,t,ok,j,F,oc,od,sl,W,V,bd⟩:=wR mg (N "law" (qr D)).2
 obtain⟨_,_,fd,_,_,B,_,z⟩:=lR I
 rw [W]at B
 cases B
 have z:=V.trans (of_decide_eq_true (p:=cR t.fd= [("_law_script" :Str)]) z)
 refine⟨t.fd,λs v=> .of_eq ((bd [v] (by rw [z];rfl)).trans (by rw [z];rfl)),λbase _ _=> ?_⟩
 have O:=Co (P:=l.prog) (w:=w) (base:=base) U (λf y=>by
  obtain⟨d,b,t,ok,j,F,_⟩:=wR mg (N f (qr y)).2
  exact⟨d,b,t,ok,j▸F,j▸C f y⟩) (λf y=>by
  obtain⟨d,b,t,ok,j,F,_⟩:=wR mg (S f (qr y)).2
  exact⟨d,b,t,ok,j▸F,j▸mg_of X G (S f (qr y)).1⟩) (λq hq=>by
  obtain⟨d,b,t,ok,j,_⟩:=wR mg (L q (qr hq))
  exact⟨d,b,t,ok,j⟩) k
 have:=u3 (kj U ok b k _ (λ_=>by omega) (λ_ _=>by omega) O.1 O.2.1 O.2.2) d9
 rw [j,e,z]at this
 exact this
end L2.MS
namespace Wf
def e7 (t k:Nat):t / 2 ^ k % 2=(t.testBit k).toNat:=(Nat.toNat_testBit t k).symm
theorem zA: ∀(n a b:Nat),a<=n->(a ||| b)+(a &&& b)=a+b
 | 0,a,b,h=>by
  have:a=0:=by omega
  subst this;simp
 | n+1,a,b,h=>by
  by_cases c:a=0
  .subst c;simp
  have l:=zA n (a / 2) (b / 2) (by omega)
  have e1:=Aj8 (a ||| b) 2
  have e2:=Aj8 (a &&& b) 2
  rw [Nat.or_div_two]at e1
  rw [Nat.and_div_two]at e2
  have d:(a ||| b) % 2=1↔a % 2=1\/b % 2=1:=Nat.or_mod_two_eq_one
  have e:(a &&& b) % 2=1↔a % 2=1/\b % 2=1:=Nat.and_mod_two_eq_one
  have j:=Aj8 a 2
  have i:=Aj8 b 2
  have g:(a ||| b) % 2<2:=Nat.mod_lt _ (by decide)
  have k:(a &&& b) % 2<2:=Nat.mod_lt _ (by decide)
  generalize (a ||| b) % 2=p at*
  generalize (a &&& b) % 2=q at*
  by_cases c:a % 2=1<;>by_cases f:b % 2=1
  .have:p=1:=d.mpr (.inl c)
   have:q=1:=e.mpr ⟨c,f⟩
   omega
  .have:p=1:=d.mpr (.inl c)
   have: ¬q=1:=λh=>f (e.mp h).2
   omega
  .have:p=1:=d.mpr (.inr f)
   have: ¬q=1:=λh=>c (e.mp h).1
   omega
  .have: ¬p=1:=λh=>(d.mp h).elim c f
   have: ¬q=1:=λh=>c (e.mp h).1
   omega
def su (a b:Nat):a-(a &&& b)=a ^^^ (a &&& b):=by
 have h:=zA _ (a ^^^ (a &&& b)) (a &&& b) (Aa6 _)
 have e1:(a ^^^ (a &&& b)) ||| (a &&& b)=a:=Nat.eq_of_testBit_eq λk=>by
  simp only [Nat.testBit_or,Nat.testBit_xor,Nat.testBit_and]
  cases a.testBit k<;>cases b.testBit k<;>rfl
 have e2:(a ^^^ (a &&& b)) &&& (a &&& b)=0:=Nat.eq_of_testBit_eq λk=>by
  simp only [Nat.testBit_xor,Nat.testBit_and,Nat.zero_testBit]
  cases a.testBit k<;>cases b.testBit k<;>rfl
 rw [e1,e2]at h
 omega
def Cy (a b k:Nat):(a-(a &&& b)).testBit k=(a.testBit k&& !b.testBit k):=by
 rw [su]
 simp only [Nat.testBit_xor,Nat.testBit_and]
 cases a.testBit k<;>cases b.testBit k<;>rfl
def bb (n t:Nat):List (Nat×Nat):=((Aa7 (n*n)).filter t.testBit).map λk=>(k / n,k % n)
def lK (n:Nat) (a:List (Nat×Nat)):Prop:= ∀p∈a,p.1<n/\p.2<n
inductive TC (n t a:Nat):Nat->Prop
 | step {b:Nat}:a<n->b<n->t.testBit (a*n+b)=k9->TC n t a b
 | more {b c:Nat}:TC n t a b->b<n->c<n->t.testBit (b*n+c)=k9->TC n t a c
structure Cv (n t r:Nat):Prop where
 lt:r<2 ^ (n*n)
 bit: ∀a b,a<n->b<n->(r.testBit (a*n+b)=k9↔TC n t a b)
structure Ct (n t r:Nat):Prop where
 lt:r<2 ^ (n*n)
 sub: ∀a b,a<n->b<n->r.testBit (a*n+b)=k9->TC n t a b
 sup: ∀k,t.testBit k=k9->r.testBit k=k9
structure CD (n t a:Nat) (re wa:List Nat):Prop where
 an:a<n
 nd:re.Nodup
 tc: ∀x∈re,TC n t a x
 wl: ∀x∈wa,x<n/\(x=a\/x∈re)
 cl: ∀x,(x=a\/x∈re)->x∉wa-> ∀b,b<n->t.testBit (x*n+b)=k9->b∈re
structure Lk (n t a:Nat) (re wa:List Nat) (h b:Nat):Prop where
 an:a<n
 nd:re.Nodup
 tc: ∀x∈re,TC n t a x
 wl: ∀x∈wa,x<n/\(x=a\/x∈re)
 cl: ∀x,(x=a\/x∈re)->x∉wa->x≠h-> ∀b,b<n->t.testBit (x*n+b)=k9->b∈re
 hn:h<n
 hr:h=a\/h∈re
 hb: ∀b',b'<b->t.testBit (h*n+b')=k9->b'∈re
end Wf
namespace M
noncomputable abbrev mF:Tx:=[115,111,109,101,32,110,111,32,108,101,97,115,116,32,109,111,115,116,32,101,97,99,104,32,105,110,32,97,110,100,32,111,114,32,110,111,116,32,115,97,109,101,32,97,108,108,32,110,111,110,101,32,107,105,110,100,32,116,105,101,32,115,97,121]
abbrev nA:Tx:=[97,98,99,100,101,102,103,104,105,106,107,108,109,110,111,112,113,114,115,116,117,118,119,120,121,122]
abbrev fO:Tx:=[115,97,109,101]
abbrev g5:Tx:=[108,101,97,115,116]
abbrev gB:Tx:=[110,111,110,101]
abbrev fm:Tx:=[110,111,116]
abbrev iI:Tx:=[119,111,114,108,100]
abbrev iv:Tx:=[109,111,115,116]
abbrev iF:Tx:=[115,111,109,101]
abbrev AG:Tx:=[101,97,99,104,108,101,97,115,116]
abbrev gR:Tx:=[110,111]
abbrev iT:Tx:=[97,108,108]
abbrev ku:Tx:=[97,110,100]
abbrev S.r (c x:E):S:= .iff c (.cons (.ret x) .nil) .nil
abbrev E.v0:E:= .var 0
abbrev E.v1:E:= .var 1
abbrev E.v2:E:= .var 2
abbrev E.v3:E:= .var 3
abbrev E.v4:E:= .var 4
abbrev E.v5:E:= .var 5
abbrev E.v6:E:= .var 6
abbrev E.v7:E:= .var 7
abbrev E.v8:E:= .var 8
abbrev E.v9:E:= .var 9
abbrev E.i0:E:= .int 0
abbrev E.i1:E:= .int 1
abbrev E.i2:E:= .int 2
abbrev E.i3:E:= .int 3
abbrev E.i4:E:= .int 4
abbrev Es.a (x:E):Es:= .cons x .nil
abbrev Es.b (x y:E):Es:= .cons x (.cons y .nil)
abbrev Es.c (x y z:E):Es:= .cons x (.cons y (.cons z .nil))
abbrev Es.d (x y z u:E):Es:= .cons x (.cons y (.cons z (.cons u .nil)))
abbrev Es.g (x y z u v w:E):Es:= .cons x (.cons y (.cons z (.cons u (.cons v (.cons w .nil)))))
abbrev Ss.a (x:S):Ss:= .cons x .nil
abbrev Ss.b (x y:S):Ss:= .cons x (.cons y .nil)
abbrev Ss.c (x y z:S):Ss:= .cons x (.cons y (.cons z .nil))
abbrev Ss.d (x y z u:S):Ss:= .cons x (.cons y (.cons z (.cons u .nil)))
abbrev Ss.f (x y z u v:S):Ss:= .cons x (.cons y (.cons z (.cons u (.cons v .nil))))
abbrev Ss.k (x y z u v w a b:S):Ss:= .cons x (.cons y (.cons z (.cons u (.cons v (.cons w (.cons a (.cons b .nil)))))))
noncomputable abbrev Ss.m (x y z u v w a b c:S):Ss:= .cons x (.cons y (.cons z (.cons u (.cons v (.cons w (.cons a (.cons b (.cons c .nil))))))))
def Qz:Fn:=⟨1,1,.a (.ret (.and (.cT .v0 .int) (.not (.cT .v0 .bool))))⟩
def Jl:Fn:=⟨2,2,.a (.ret (.and (.call "is_whole" (.a .v0)) (.chain .le .lt .i0 .v0 .v1)))⟩
noncomputable def qs:E:= .comp [0] k9 1 [1,0] (.aB (.bin .mul .v0 .v0)) k9 (.bin .band (.bin .shr .v1 .v0) .i1) (.bi .divmod (.b .v0 .v2))
def Jr:Fn:=⟨2,2,.a (.ret qs)⟩
def WP:Fn:=⟨1,1,.a (.ret (.bin .sub (.bin .shl .i1 (.bin .mul .v0 .v0)) .i1))⟩
def Z0:Fn:=⟨3,3,.m (.iff (.cmp .eq .v1 (.str fO)) (.a .aS) .nil) (.iff (.cmp .eq .v1 (.str iT)) (.a .aS) .nil) (.r (.cmp .eq .v1 (.str gB)) .i0) (.iff (.cmp .eq .v1 (.str [112,108,117,115])) (.a .aS) .nil) (.iff (.cmp .eq .v1 (.str [108,101,115,115])) (.a .aS) .nil) (.iff (.cmp .eq .v1 (.str [98,111,116,104])) (.a .aS) .nil) (.iff (.cmp .eq .v1 (.str [106,111,105,110,101,100])) (.a .aS) .nil) (.iff (.cmp .eq .v1 (.str [116,117,114,110,101,100])) (.a .aS) .nil) .aS⟩
def qF:Fn:=⟨3,4,.d (.av 3 (.call "pairs_of" (.b .v0 .v2))) (.r (.cmp .mem .v1 (.tup (.b (.str g5) (.str iv)))) (.lst (.a (.bi .len (.a .v3))))) .aS .aS⟩
def zz:E:= .comp [0,1] y9 2 [] (.seq .v4) y9 (.bl k9) .v1
def ZB:E:= .comp [0,1] y9 2 [] (.seq .v4) y9 (.bl k9) .v0
def Jz:E:= .comp [0] k9 1 [0,1] (.seq (.dG .v2 .i1)) y9 (.bl k9) (.call "bounds" (.c .v1 .v2 .v0))
def JE:Fn:=⟨3,8,.k (.av 3 (.ix .v2 .i0)) (.iff (.cmp .eq .v3 (.str [110,97,109,101])) (.b .aS .aS) .nil) (.av 4 Jz) (.av 5 ZB) (.av 6 zz) (.iff (.cmp .eq .v3 (.str [108,101,115,115])) (.a .aS) .nil) (.av 7 (.ix (.ix .v1 .i0) .i0)) (.ret (.tup (.b (.call "made" (.c .v7 .v3 .v5)) (.call "made" (.c .v7 .v3 .v6)))))⟩
def Jw:Fn:=⟨2,2,.c (.r .v0 (.bl k9)) (.r .v1 (.bl y9)) (.ret .ai)⟩
def jq:Fn:=⟨1,1,.a (.ret (.call "settled" (.b (.cmp .fy .v0 (.bl false)) (.cmp .fy .v0 (.bl true)))))⟩
def Qi:E:= .comp [0] k9 1 [2] (.seq .v5) y9 (.bl k9) (.cmp .le .v0 .v1)
def zj:E:= .comp [0] k9 1 [2] (.seq .v4) y9 (.bl k9) (.cmp .gt .v0 .v1)
def qj:E:= .comp [0] k9 1 [2] (.seq .v4) y9 (.bl k9) (.cmp .ge .v0 .v1)
def Ji:E:= .comp [0] k9 1 [2] (.seq .v5) y9 (.bl k9) (.cmp .lt .v0 .v1)
def wf:Fn:=⟨4,6,.d (.av 4 (.call "counts" (.c .v0 .v1 (.ix .v3 .i0)))) (.av 5 (.call "counts" (.c .v0 .v1 (.ix .v3 .i1)))) (.r (.cmp .mem .v1 (.tup (.b (.str g5) (.str AG)))) (.call "settled" (.b (.bi .all (.a qj)) (.bi .any (.a Ji))))) (.ret (.call "settled" (.b (.bi .all (.a Qi)) (.bi .any (.a zj)))))⟩
def xJ:Fn:=⟨3,4,.f (.av 3 (.ix .v2 .i0)) (.r (.cmp .eq .v3 (.str fm)) (.call "not_told" (.a (.call "told" (.c .v0 .v1 (.ix .v2 .i1)))))) (.iff (.cmp .eq .v3 (.str ku)) (.a .aS) .nil) (.iff (.cmp .eq .v3 (.str [111,114])) (.a .aS) .nil) (.ret (.call "fact_told" (.c .v0 .v1 .v2)))⟩
def Qm:Fn:=⟨3,6,.k (.av 3 (.ix .v2 .i0)) (.av 4 (.ix (.ix .v1 .i0) .i0)) (.av 5 (.call "bounds" (.c .v0 .v1 (.ix .v2 (.neg .i1))))) (.r (.cmp .eq .v3 (.str iF)) (.call "count_told" (.d .v4 (.str g5) .i1 .v5))) (.r (.cmp .eq .v3 (.str gR)) (.call "count_told" (.d .v4 (.str iv) .i0 .v5))) (.iff (.cmp .eq .v3 (.str [105,110])) (.a .aS) .nil) (.iff (.cmp .eq .v3 (.str [101,113,117,97,108])) (.b .aS .aS) .nil) .aS⟩
def qx:Fn:=⟨1,1,.a (.ret (.call "is_below" (.b .v0 (.bin .add (.con "GREATEST_SIZE") .i1))))⟩
noncomputable def XB:Fn:=⟨2,2,.a (.ret (.bin .add (.bin .mul (.lst (.a .v1)) (.bi .len (.a (.ix .v0 .i0)))) (.bin .mul (.lst (.a (.bin .mul .v1 .v1))) (.bi .len (.a (.ix .v0 .i1))))))⟩
def lL:Fn:=⟨2,2,.a (.ret (.bi .sum (.a (.call "widths" (.b .v0 .v1)))))⟩
def Jf:Fn:=⟨1,1,.a (.iff (.not (.call "is_size" (.a .v0))) (.a (.raise "NoSize" (.a (.str [97,32,115,105,122,101,32,105,115,32,97,32,119,104,111,108,101,32,110,117,109,98,101,114,32,102,114,111,109,32,48,32,116,111,32,52])))) .nil)⟩
def aL:Fn:=⟨3,4,.c (.ex (.call "check_size" (.a .v1))) (.av 3 (.call "bits" (.b .v0 .v1))) (.iff (.cmp .gt .v3 .v2) (.a (.cN "TooBig" "bits" .v3)) .nil)⟩
def jl:Ss:= .b (.app 3 (.bin .band .v4 (.bin .sub (.bin .shl .i1 .v5) .i1))) (.av 4 (.bin .shr .v4 .v5))
def xr:Fn:=⟨3,7,.cons (.ex (.call "check_size" (.a .v1))) (.cons (.iff (.not (.call "is_below" (.b .v2 (.bin .shl .i1 (.call "bits" (.b .v0 .v1)))))) (.a .aS) .nil) (.f (.set 3 (.lst .nil)) (.av 4 .v2) (.for [5] true (.seq (.call "widths" (.b .v0 .v1))) jl) (.av 6 (.bi .len (.a (.ix .v0 .i0)))) (.ret (.tup (.c .v1 (.bi .tuple (.a (.d7 .v3 .v6))) (.bi .tuple (.a (.dG .v3 .v6))))))))⟩
def zk:E:= .comp [0,1] false 2 [3] (.seq (.call "pairs_of" (.b .v1 (.call "every" (.a .v1))))) false (.bl true) (.tup (.c .v2 .v0 .v1))
def Qo:Ss:= .a (.ext 2 zk)
def Zj:E:= .comp [0] k9 1 [3] (.aB .v1) y9 (.bl k9) (.tup (.c .v1 .v0 .v0))
def Xn:Ss:= .a (.ext 2 Zj)
noncomputable def Qn:Fn:=⟨2,4,.d (.set 2 (.lst .nil)) (.for [3] k9 (.seq (.ix .v0 .i0)) Xn) (.for [3] k9 (.seq (.ix .v0 .i1)) Qo) (.ret .v2)⟩
def zg:Fn:=⟨3,3,.f (.bf 0 "Cases" "words" (.ix .v1 .i0)) (.bf 0 "Cases" "sayings" (.ix .v1 .i1)) (.bf 0 "Cases" "size" .v2) (.bB 0 "Cases" "places" (.call "places_of" (.b (.ix .v1 .i0) .v2))) (.bf 0 "Cases" "whole" (.bin .sub (.bin .shl .i1 (.bi .len (.cons (.aU .v0 "Cases" "places") .nil))) .i1))⟩
def Wc:Fn:=⟨2,2,.a (.ret (.call "world_of" (.cons (.aU .v0 "Cases" "words") (.cons (.aU .v0 "Cases" "size") (.a .v1)))))⟩
def jk:Fn:=⟨4,5,.b (.av 4 (.tup (.cons (.cG .v0 "Cases" "world_of_code" "Cases.world_of_code" (.a .v2)) (.cons (.cG .v0 "Cases" "world_of_code" "Cases.world_of_code" (.a .v3)) .nil)))) (.ret (.call "told" (.cons (.aU .v0 "Cases" "words") (.b .v4 (.ix (.aU .v0 "Cases" "sayings") .v1)))))⟩
def wk:Ss:= .a (.iff (.cT .v2 .tuple) (.a (.ext 1 (.call "names_in" (.a .v2)))) .nil)
noncomputable def xj:Fn:=⟨1,3,.d (.iff (.cmp .eq (.ix .v0 .i0) (.str [110,97,109,101])) (.a .aS) .nil) (.set 1 (.lst .nil)) (.for [2] k9 (.seq (.dG .v0 .i1)) wk) (.ret .v1)⟩
def Je:Ss:= .a (.iff (.cmp .mem (.ix .v5 .i0) .v2) (.a .aS) .nil)
def Qj:Fn:=⟨2,6,.d (.av 2 (.call "names_in" (.a .v1))) (.av 3 .i0) (.for [4,5] false (.bO (.aU .v0 "Cases" "places")) Je) (.ret .v3)⟩
def ze:E:= .comp [0] k9 1 [0] (.seq (.ix .v1 .i1)) y9 (.bl k9) (.call "needed_bits" (.cons (.aU .v1 "Search" "cases") (.a .v0)))
def We:Fn:=⟨3,3,.b (.bf 0 "Search" "cases" (.make "Cases" "Cases.__init__" (.b .v1 .v2))) (.bB 0 "Search" "needs" ze)⟩
noncomputable def Jb:Fn:=⟨2,2,.a (.ret (.cG .v0 "Search" "told_of_case" "Search.told_of_case" (.cons .v1 (.cons .i0 (.cons (.aU (.aU .v0 "Search" "cases") "Cases" "whole") .nil)))))⟩
noncomputable def Ja:Ss:= .c (.av 6 (.cG (.aU .v0 "Search" "cases") "Cases" "truth" "Cases.truth" (.c .v5 .v2 .v3))) (.r (.cmp .fy .v6 (.bl false)) (.tup (.b (.str [112,97,112,101,114]) (.tup (.b (.str [98,114,111,107,101,110]) .v5))))) (.iff (.dZ false .v6) (.a .aS) .nil)
def zb:Fn:=⟨4,7,.d (.av 4 (.lst .nil)) (.for [5] k9 (.seq .v1) Ja) (.r (.cmp .eq .v4 (.lst .nil)) (.tup (.cons (.str iI) (.cons (.cG (.aU .v0 "Search" "cases") "Cases" "world_of_code" "Cases.world_of_code" (.a .v2)) .nil)))) .aS⟩
def Xv:Fn:=⟨2,2,.b (.ex (.call "check_bits" (.c (.ix .v0 .i0) .v1 (.con "MOST_BITS")))) (.ret (.cG (.make "Search" "Search.__init__" (.b .v0 .v1)) "Search" "told_of_sayings" "Search.told_of_sayings" (.a (.bx (.bi .len (.a (.ix .v0 .i1)))))))⟩
noncomputable def Qf:Fn:=⟨1,1,.a (.iff (.cmp .ge (.bi .len (.a (.ix .v0 .i1))) (.con "MOST_SAYINGS")) (.a (.raise "Crowded" (.a (.str [97,32,116,104,101,111,114,121,32,111,102,32,116,119,101,108,118,101,32,115,97,121,105,110,103,115,32,104,97,115,32,110,111,32,114,111,111,109,32,102,111,114,32,111,110,101,32,109,111,114,101])))) .nil)⟩
def Xu:Fn:=⟨3,5,.d (.eV [3,4] .v0) (.ex (.call "check_bits" (.c .v3 .v1 (.con "MOST_BITS")))) (.ex (.call "check_room" (.a .v0))) (.ret (.call "found" (.b (.tup (.b .v3 (.bin .add .v4 (.tup (.a (.tup (.b (.str fm) .v2))))))) .v1)))⟩
def a9:Fn:=⟨3,6,.d (.eV [3,4] .v0) (.iff (.not (.call "is_below" (.b .v2 (.bi .len (.a .v4))))) (.a .aS) .nil) (.av 5 (.bin .add (.d7 .v4 .v2) (.dG .v4 (.bin .add .v2 .i1)))) (.ret (.call "found" (.b (.tup (.b .v3 (.bin .add .v5 (.tup (.a (.tup (.b (.str fm) (.ix .v4 .v2)))))))) .v1)))⟩
def Zc:Ss:= .c (.eV [9,10] (.call "follows" (.c (.ix .v3 (.bin .sub .i1 .v6)) .v5 .v8))) (.iff (.cmp .eq .v9 (.str iI)) (.a .aS) .nil) (.dY .v4 (.tup (.d .v5 .v6 .v7 (.var 10))))
def Qc:Ss:= .a (.for [7,8] y9 (.enum (.ix (.ix .v3 .v6) .i1)) Zc)
def Jc:Ss:= .a (.for [6] k9 (.aB .i2) Qc)
def Xf:Fn:=⟨3,11,.k (.iff (.cmp .ne (.ix .v0 .i0) (.ix .v1 .i0)) (.a (.raise "Unlike" (.a (.str [116,104,101,111,114,105,101,115,32,111,102,32,116,104,101,32,115,97,109,101,32,119,111,114,100,115,32,97,114,101,32,104,101,108,100,32,97,103,97,105,110,115,116,32,111,110,101,32,97,110,111,116,104,101,114])))) .nil) (.ex (.call "check_bits" (.c (.ix .v0 .i0) .v2 (.con "MOST_BITS")))) (.ex (.call "check_room" (.a .v0))) (.ex (.call "check_room" (.a .v1))) (.av 3 (.tup (.b .v0 .v1))) (.set 4 (.share (.lst .nil))) (.for [5] true (.aB (.bin .add .v2 .i1)) Jc) (.ret (.tup (.b (.str fO) .v4)))⟩
def Jt:Fn:=⟨2,6,.cons (.ex (.call "check_bits" (.c (.ix .v0 .i0) .v1 (.con "MOST_BITS")))) (.f (.av 2 (.make "Search" "Search.__init__" (.b .v0 .v1))) (.av 3 (.bx (.bi .len (.a (.ix .v0 .i1))))) (.eV [4,5] (.cG .v2 "Search" "told_of_sayings" "Search.told_of_sayings" (.a .v3))) (.iff (.cmp .eq .v4 (.str iI)) (.a (.cN "Kept" "world" .v5)) .nil) .aS)⟩
def zn:Fn:=⟨1,1,.a (.ret (.lst (.c .v0 .i0 (.bi .sum (.a (.d7 .v0 .i1))))))⟩
noncomputable def zq:Fn:=⟨2,3,.c (.iff (.not (.chain .le .lt .i0 (.ix .v0 .i2) (.bin .pow (.int 10) (.int 18)))) (.b (.eg .v0 .i2 2 (.bi .divmod (.b (.ix .v0 .i2) .v1))) (.ret .v2)) .nil) (.b4 .v0 .i2 (.bin .mod (.bin .add (.bin .add (.bin .mul (.ix .v0 .i2) (.int 742939)) (.bin .mul (.ix .v0 .i1) (.int 65063))) (.int 40503)) (.int 16777213))) (.ret (.bin .mod (.bin .fdiv (.bin .mul (.ix .v0 .i2) (.bin .add (.bin .mod (.ix .v0 .i2) (.int 4093)) (.int 7))) (.int 64)) .v1))⟩
def Jg:Ss:= .c (.av 8 (.bin .add (.bin .add (.d7 .v4 .v6) (.ix .v2 (.bin .mod (.bin .add .v3 (.bin .mul (.int 5) .v5)) (.int 26)))) (.dG .v4 .v6))) (.iff (.cmp .mem .v8 (.gb mF [iF,gR,g5,iv,[101,97,99,104],[105,110],ku,[111,114],fm,fO,iT,gB,[107,105,110,100],[116,105,101],[115,97,121]])) (.a (.av 8 (.bin .add .v8 (.str [113])))) .nil) (.app 7 .v8)
def Jj:Ss:= .a (.av 4 (.bin .add .v4 (.ix .v2 (.call "_law_draw" (.b .v0 (.int 26))))))
def qo:E:= .comp [0] k9 1 [2,3] (.aB .v1) y9 (.bl k9) (.bin .mul (.ix .v1 .v2) (.bin .add .v0 .i1))
def Xm:Fn:=⟨2,9,.m (.av 2 (.str nA)) (.av 3 (.call "_law_draw" (.b .v0 (.int 26)))) (.r (.cmp .eq (.call "_law_draw" (.b .v0 .i3)) .i0) qo) (.av 4 (.str [])) (.for [5] true (.aB (.call "_law_draw" (.b .v0 (.int 6)))) Jj) (.av 6 (.call "_law_draw" (.b .v0 (.bin .add (.bi .len (.a .v4)) .i1)))) (.set 7 (.lst .nil)) (.for [5] true (.aB .v1) Jg) (.ret .v7)⟩
def Xj:Fn:=⟨1,2,.f (.av 1 (.lst (.d (.bc .v0 true ["NoSize"]) (.bc .v0 true ["NoPair"]) (.bc .v0 true ["NoName"]) (.bc .v0 true ["NoCode"])))) (.av 1 (.bin .add .v1 (.lst (.d (.bc .v0 true ["NoText"]) (.bc .v0 true ["Crowded"]) (.bc .v0 true ["TooBig"]) (.bc .v0 true ["NoWorld"]))))) (.av 1 (.bin .add .v1 (.lst (.d (.bc .v0 true ["NoRenaming"]) (.bc .v0 true ["NoNumber"]) (.bc .v0 true ["Broken"]) (.bc .v0 true ["Kept"]))))) (.av 1 (.bin .add .v1 (.lst (.d (.bc .v0 true ["Unlike"]) (.bc .v0 true ["NoRow"]) (.bc .v0 true ["NoStand"]) (.bc .v0 true ["ValueError"]))))) (.ret .v1)⟩
def xp:E:= .comp [0] k9 1 [0] (.aB (.int 16)) y9 (.bl k9) (.or (.cmp .eq .v0 .v1) (.cmp .eq .v0 (.int 15)))
def wn:Fn:=⟨1,1,.a (.ret xp)⟩
def Wr:Fn:=⟨1,2,.c (.av 1 (.lst (.cons .i0 (.cons .i1 (.cons .i2 (.cons .i3 (.cons .i4 (.cons .i0 (.cons .i1 (.g .i2 .i3 .i4 (.bin .sub (.bin .sub .i0 .i1) (.call "_law_draw" (.b .v0 .i3))) (.bin .add (.int 5) (.call "_law_draw" (.b .v0 (.int 5)))) (.bin .pow (.int 10) (.int 30)))))))))))) (.av 1 (.bin .add .v1 (.lst (.d (.bl true) (.bl false) .ai (.str [50]))))) (.ret (.ix .v1 (.call "_law_draw" (.b .v0 (.bi .len (.a .v1))))))⟩
def jn:Fn:=⟨1,3,.c (.av 1 (.call "_law_draw" (.b .v0 (.int 5)))) (.av 2 (.call "_law_names" (.b .v0 (.bin .add .v1 (.call "_law_draw" (.b .v0 (.int 5))))))) (.ret (.tup (.b (.bi .tuple (.a (.bi .sorted (.a (.d7 .v2 .v1))))) (.bi .tuple (.a (.bi .sorted (.a (.dG .v2 .v1))))))))⟩
def aK:Fn:=⟨4,6,.cons (.av 4 .ai) (.cons (.dJ (.iff (.cmp .eq .v0 .i0) (.ex "follows" (.c .v1 .v3 (.tup (.b (.str iF) (.tup (.a (.str gB))))))) (.iff (.cmp .eq .v0 .i1) (.ex "same_or_parted" (.c .v1 .v2 .v3)) (.iff (.cmp .eq .v0 .i2) (.ex "quarrel" (.b .v1 .v3)) (.ex "matters" (.c .v1 .v3 (.bin .sub (.bi .len (.a (.ix .v1 .i1))) .i1)))))) "WorldError" 5 (.b (.av 4 (.tup (.b (.call "_law_classes" (.a .v5)) .i0))) (.iff (.bc .v5 true ["TooBig"]) (.a (.av 4 (.tup (.b (.call "_law_classes" (.a .v5)) (.xf 5 "bits"))))) .nil))) (.a (.ret .v4)))⟩
def Xt:Fn:=⟨4,5,.cons (.r (.and (.cmp .eq .v0 .i1) (.cmp .ne (.ix .v1 .i0) (.ix .v2 .i0))) (.tup (.b (.call "_law_class" (.a (.int 12))) .i0))) (.cons (.r (.or (.not (.cT .v3 .int)) (.or (.cT .v3 .bool) (.not (.chain .le .le .i0 .v3 .i4)))) (.tup (.b (.call "_law_class" (.a .i0)) .i0))) (.f (.av 4 (.bin .add (.bin .mul (.bi .len (.a (.ix (.ix .v1 .i0) .i0))) .v3) (.bin .mul (.bin .mul (.bi .len (.a (.ix (.ix .v1 .i0) .i1))) .v3) .v3))) (.r (.cmp .gt .v4 (.int 16)) (.tup (.b (.call "_law_class" (.a (.int 6))) .v4))) (.r (.or (.and (.cmp .eq .v0 .i0) (.cmp .eq (.bi .len (.a (.ix .v1 .i1))) (.int 12))) (.and (.cmp .eq .v0 .i1) (.or (.cmp .eq (.bi .len (.a (.ix .v1 .i1))) (.int 12)) (.cmp .eq (.bi .len (.a (.ix .v2 .i1))) (.int 12))))) (.tup (.b (.call "_law_class" (.a (.int 5))) .i0))) (.r (.cmp .eq .v0 .i2) (.tup (.b (.call "_law_class" (.a (.int 11))) .i0))) (.ret .ai)))⟩
def xC:Ss:= .b (.av 8 (.bin .mod (.bin .add .v7 .v5) .i4)) (.r (.cmp .ne (.call "_law_caught" (.d .v8 (.ix .v4 .i0) (.ix .v4 .i1) .v3)) (.call "_law_due" (.d .v8 (.ix .v4 .i0) (.ix .v4 .i1) .v3))) (.bl false))
def xM:Ss:= .b (.av 6 (.ix (.lst (.d (.int 12) (.int 12) (.int 11) (.bin .add .i1 (.call "_law_draw" (.b .v1 (.int 11)))))) (.call "_law_draw" (.b .v1 .i4)))) (.app 4 (.tup (.b .v2 (.bin .mul (.tup (.a (.tup (.b (.str gR) (.tup (.a (.str gB))))))) .v6))))
def c9:Fn:=⟨1,9,.m (.set 1 (.share (.call "_law_start" (.a .v0)))) (.av 2 (.call "_law_words" (.a .v1))) (.av 3 (.call "_law_size" (.a .v1))) (.set 4 (.lst .nil)) (.for [5] true (.aB .i2) xM) (.iff (.cmp .eq (.call "_law_draw" (.b .v1 .i4)) .i0) (.a (.c5 4 .i1 (.tup (.b (.call "_law_words" (.a .v1)) (.ix (.ix .v4 .i1) .i1))))) .nil) (.av 7 (.call "_law_draw" (.b .v1 .i4))) (.for [5] true (.aB .i4) xC) (.ret (.bl true))⟩
def prog:Prog:=⟨[("is_whole",Qz),("is_below",Jl),("pairs_of",Jr),("every",WP),("made",Z0),("counts",qF),("bounds",JE),("settled",Jw),("not_told",jq),("count_told",wf),("told",xJ),("fact_told",Qm),("is_size",qx),("widths",XB),("bits",lL),("check_size",Jf),("check_bits",aL),("world_of",xr),("places_of",Qn),("Cases.__init__",zg),("Cases.world_of_code",Wc),("Cases.truth",jk),("names_in",xj),("needed_bits",Qj),("Search.__init__",We),("Search.told_of_sayings",Jb),("Search.told_of_case",zb),("found",Xv),("check_room",Qf),("follows",Xu),("matters",a9),("same_or_parted",Xf),("quarrel",Jt),("_law_start",zn),("_law_draw",zq),("_law_names",Xm),("_law_classes",Xj),("_law_class",wn),("_law_size",Wr),("_law_words",jn),("_law_caught",aK),("_law_due",Xt),("law",c9)],[("WorldError", "ValueError"),("NoSize", "WorldError"),("NoPair", "WorldError"),("NoName", "WorldError"),("NoCode", "WorldError"),("NoText", "WorldError"),("Crowded", "WorldError"),("TooBig", "WorldError"),("NoWorld", "WorldError"),("NoRenaming", "WorldError"),("NoNumber", "WorldError"),("Broken", "WorldError"),("Kept", "WorldError"),("Unlike", "WorldError"),("NoRow", "WorldError"),("NoStand", "WorldError")],[("GREATEST_SIZE",.int 4),("MOST_BITS",.int 16),("MOST_SAYINGS",.int 12)]⟩
abbrev k8 (m:Nat):Fx:=⟨call prog m,prog.cl,prog.con⟩
abbrev W.i (n:Nat):W:= .v (.int (n:Int))
abbrev W.r (n:Nat):W:= .v (.ref n)
abbrev W.s (t:Tx):W:= .v (.str t)
abbrev W.b (b:Bool):W:= .v (.bl b)
abbrev W.t (t:List D):W:= .v (.tup t)
abbrev W.l (t:List D):W:= .v (.lst t)
abbrev sv (d:D):Option W:=y0 (.v d)
abbrev si (n:Nat):Option W:=y0 (.i n)
abbrev D.n (n:Nat):D:= .int (n:Int)
theorem Xp {step:D->AH->R (Option D)}{h:AH}(f:D->Option D): ∀(ds:List D),(∀ d∈ds,step d h= .ok (f d) h)->Gx step ds h= .ok (ds.filterMap f) h
 | [],_=>rfl
 | d::ds,a=>by
  have c:=Xp f ds λd b=>a d (Aa5 _ b)
  rw [Gx,a d Aa8]
  simp only [c]
  cases q:f d<;>simp [Ae,q]
def vC {F:Fx}{tg:List Nat}{one:Bool}{k:Nat}{e:List Nat}{it:It}{c a:E}{U:Sl}{h:AH}{ds:List D}(f:D->Option D) (p:Gk F it U h= .ok ds h) (r:ds.length<=aX)
 (n: ∀d∈ds,∃i b,Gn tg one d (Aa k u0++e.map λj=>Gm U j)=y0 i/\Gu F c i h= .ok b h/\(if b=k9 then ∃w y,eval F a i h= .ok w h/\w.d=y0 y/\f d=y0 y else f d=u0)):
 eval F (.comp tg one k e it k9 c a) U h= .ok (.own (ds.filterMap f)) h:=by
 rw [eval,p,R.af,if_pos r,Xp f]
 .rfl
 intro d m
 obtain⟨i,b,o,l,g⟩:=n d m
 rw [o]
 show((Gu F c i h).bind _)=_
 rw [l]
 cases b with
 | true=>
  rw [if_pos rfl]at g
  obtain⟨w,y,e1,e2,q⟩:=g
  simp [e1,e2,q]
 | false=>
  rw [if_neg (by simp)]at g
  simp [g]
def wN {F:Fx}{tg:List Nat}{one:Bool}{k:Nat}{b:List Nat}{it:It}{c a:E}{U:Sl}{h:AH}{ds:List D}(f:D->D) (m:Gk F it U h= .ok ds h) (n:ds.length<=aX)
 (g: ∀d∈ds,∃i,Gn tg one d (Aa k u0++b.map λj=>Gm U j)=y0 i/\ ∃w,eval F a i h= .ok w h/\w.d=y0 (f d)):
 eval F (.comp tg one k b it y9 c a) U h= .ok (.own (ds.map f)) h:=by
 rw [eval,m,R.af,if_pos n,Xp (λd=>y0 (f d))]
 .simp [List.filterMap_eq_map']
 intro d e
 obtain⟨i,l,w,e1,e2⟩:=g d e
 rw [l]
 simp [e1,e2]
def JA (bnd:D->Sl->Option Sl) (body:Sl->AH->O) (d:D) (ds:List D) (U:Sl) (h:AH):Gv bnd body (d::ds) U h=match bnd d U with
 | none=> .fail
 | some c=>match body c h with
  | .next b a=>Gv bnd body ds b a
  | .cont b a=>Gv bnd body ds b a
  | .brk b a=> .next b a
  | o=>o:=rfl
@[simp] theorem Cw (bnd:D->Sl->Option Sl) (body:Sl->AH->O) (U:Sl) (h:AH):Gv bnd body [] U h= .next U h:=rfl
def Qb {bnd:D->Sl->Option Sl}{body:Sl->AH->O}{d:D}{ds:List D}{U U1 U2:Sl}{h h2:AH}(a:bnd d U=y0 U1) (b:body U1 h= .next U2 h2):Gv bnd body (d::ds) U h=Gv bnd body ds U2 h2:=by
 rw [JA,a];simp only [b]
@[simp] theorem GP (i:Nat) (d:D) (U:Sl):Gn [i] k9 d U=y0 (GG U i (.v d)):=rfl
@[simp] theorem Kb (tg:List Nat) (ds:List D) (U:Sl):Gn tg y9 (.tup ds) U=aG tg ds U:=rfl
def zD (a b:Nat):Km (a:Int) (b:Int)=y0 ((a &&& b:Nat):Int):=by simp [Km]
@[simp] theorem uA (i j:Int):Gg .mod i j=if 0<j then y0 (i % j)else none:=rfl
@[simp] theorem BY (i j:Int):Gg .fdiv i j=if 0<j/\j<gU then y0 (i / j)else none:=rfl
@[simp] theorem wS (i j:Int):Gg .band i j=Km i j:=rfl
def Jm (a b:Nat) (h:a<2 ^ 64):Gg .mul (a:Int) (b:Int)=y0 ((a*b:Nat):Int):=by
 have c:(-dF<(a:Int)/\(a:Int)<dF)\/(-dF<(b:Int)/\(b:Int)<dF):=by rw [GH];omega
 show(if _ then _ else _)=_
 rw [if_pos c,Aj9]
def iW (k:Nat) (h:k<=1000000):Gg .shl 1 (k:Int)=y0 ((2 ^ k:Nat):Int):=by
 have a:(0:Int)<=(k:Int)/\(k:Int)<=BP/\(1:Int).natAbs<gZ:=by rw [GM,GB];exact⟨by omega,by omega,by decide⟩
 show(if _ then _ else _)=_
 rw [if_pos a,Int.one_mul,Ac5]
 simp
def oM (t k:Nat):Gg .shr (t:Int) (k:Int)=y0 ((t / 2 ^ k:Nat):Int):=by
 simp [Gg,Int.natCast_ediv,Int.natCast_pow]
def rS (t k:Nat):(t / 2 ^ k &&& 1)=(t.testBit k).toNat:=by
 have:=Nat.and_two_pow_sub_one_eq_mod (t / 2 ^ k) 1
 rw [show 2 ^ 1-1=1 from rfl]at this
 rw [this]
 exact Wf.e7 t k
def pD (p:Nat×Nat):D:= .tup [.int (p.1:Nat),.int (p.2:Nat)]
def rH (n t:Nat) (m:Nat):(((Aa7 m).map λ(i:Nat)=>D.n i).filterMap λd=>match d with
 | .int i=>if t.testBit i.toNat then y0 (.tup [.int (i / (n:Int)),.int (i % (n:Int))])else u0
 | _=>u0)=(((Aa7 m).filter t.testBit).map λk=>(k / n,k % n)).map pD:=by
 rw [List.filterMap_map,Af2]
 induction Aa7 m with
 | nil=>rfl
 | cons x c b=>
  by_cases a:t.testBit x=k9
  .simp [Ae,List.filter_cons,a,pD,b]
  .simp [Ae,List.filter_cons,a,b]
def fv (m:Nat){d:D}(b:d∈(Aa7 m).map λ(i:Nat)=>D.n i): ∃i:Nat,i<m/\d= .n i:=by
 obtain⟨i,a,rfl⟩:=Af1.mp b
 exact⟨i,Ag4.mp a,rfl⟩
def WE {n:Nat}(a:n<=20):n*n<=400:=Ac0 (Ag7 a a) (by decide)
def Ck {n:Nat}(a:n<=20):n*n<=aX:=Ac0 (WE a) (by rw [Gi];decide)
def Zt {F:Fx}{a:E}{U:Sl}{h:AH}{m:Nat}(e:eval F a U h= .ok (.i m) h) (c:m<=1000000):Gk F (.aB a) U h= .ok ((Aa7 m).map λ(i:Nat)=> .n i) h:=by
 have b: -gg<=(m:Int)/\(m:Int)<gg:=by rw [G9];omega
 rw [Gk,e,R.af,int?_int,R.aM,R.af,if_pos b,Ac5]
def tq {F:Fx}{U:Sl}{h:AH}{n i j:Nat}(b:n<=20) (e:Gm U i=si n/\Gm U j=si n):Gk F (.aB (.bin .mul (.var i) (.var j))) U h= .ok ((Aa7 (n*n)).map λ(i:Nat)=> .n i) h:=by
 have c:=WE b
 refine Zt ?_ (by omega)
 have a:Gg .mul (n:Int) (n:Int)=y0 ((n*n:Nat):Int):=Jm n n (by omega)
 simp [e.1,e.2,a]
def qz (k n t:Nat) (h:AH) (e:n<=20):call prog (k+1) "pairs_of" [.i n,.i t] h= .ok (.own ((Wf.bb n t).map pD)) h:=by
 rw [Ga (d:=Jr) rfl _ _ _ rfl]
 simp only [Jr,execs,exec,qs,GI]
 rw [vC (h:=h) (λd=>match d with
  | .int i=>if t.testBit i.toNat then y0 (.tup [.int (i / (n:Int)),.int (i % (n:Int))])else u0
  | _=>u0) (tq e (by simp [Gm])) (by simpa using Ck e)]
 .rw [rH]
  simp [Wf.bb]
 .intro d g
  obtain⟨i,f,rfl⟩:=fv _ g
  have a:0<n:=by cases n with
   | zero=>simp at f
   | succ m=>omega
  have b:0<(n:Int)/\(n:Int)<gU:=by rw [GA];omega
  have j:Km ((t / 2 ^ i:Nat):Int) 1=y0 (((t.testBit i).toNat:Nat):Int):=by
   rw [show (1:Int)=((1:Nat):Int)from rfl,zD,rS]
  refine⟨_,t.testBit i,rfl,?_,?_⟩
  .unfold Gu
   simp only [eval,Gm,Ac3,List.replicate_zero,Ac4,Aj4,Al4,Af9,GG,Gp,R.af,GW,oM,wS,j,R.aM,vh]
   cases t.testBit i<;>rfl
  .by_cases c:t.testBit i=k9
   .simp [c,Gm,b,a]
   .simp [c]
end M
local macro_rules | `(tactic| simp_all [$xs,*]) => `(tactic| simp only [M.exec, M.execs, M.Gu, M.eval, M.Gf, M.Gq, M.Gk, M.Gr, M.GI, M.Gm, M.Gp, M.GG, M.aG, M.R.af, M.R.aA, M.R.aM, M.O.cY, M.O.dC, M.O.fk, M.W.iM, M.W.ew, M.W.ek, M.W.eZ, M.W.fj, Ac4, Aj4, Al4, Af9, Nat.reduceSub, Ac3, List.replicate_zero, M.GK, Bool.not_true, Bool.not_false, M.GW, Option.bind_some, M.Kl, M.Ko, M.Kh, M.Ka, M.Kj, M.Kk, M.int?_int, M.Gc, M.Gs, M.Gj, M.GC, M.GP, M.Kb, $xs,*])
namespace M
def uU (k n:Nat) (h:AH) (e:n<=20):call prog (k+1) "every" [.i n] h= .ok (.i (2 ^ (n*n)-1)) h:=by
 rw [Ga (d:=WP) rfl _ _ _ rfl]
 have a:Gg .mul (n:Int) (n:Int)=y0 ((n*n:Nat):Int):=Jm n n (by omega)
 have b:=iW (n*n) (by have:=WE e;omega)
 have c:((2 ^ (n*n):Nat):Int)-1=((2 ^ (n*n)-1:Nat):Int):=by
  have:=Aj6 (n*n)
  omega
 simp_all [WP,a,b,Wp,c]
def za {F:Fx}{s:S}{a:Ss}{U U1:Sl}{h h1:AH}(e:exec F s U h= .next U1 h1):execs F (.cons s a) U h=execs F a U1 h1:=by rw [execs,e,O.cY]
def fx {F:Fx}{s:S}{a:Ss}{U U1:Sl}{h h1:AH}{n:Nat}{r:R W}(e:exec F s U h= .next U1 h1) (g:Gz n (execs F a U1 h1)=r):Gz n (execs F (.cons s a) U h)=r:=by rw [za e];exact g
def jb {F:Fx}{s:S}{a:Ss}{U:Sl}{h h1:AH}{w:W}(e:exec F s U h= .ret w h1):execs F (.cons s a) U h= .ret w h1:=by rw [execs,e,O.dC]
def XZ {F:Fx}{c:E}{a b:Ss}{U:Sl}{h h1:AH}(e:Gu F c U h= .ok k9 h1):exec F (.iff c a b) U h=execs F a U h1:=by rw [exec,e,R.aA]
def md {F:Fx}{c:E}{a b:Ss}{U:Sl}{h h1:AH}(e:Gu F c U h= .ok y9 h1):exec F (.iff c a b) U h=execs F b U h1:=by rw [exec,e,R.aA]
def ZD {F:Fx}{e:E}{U:Sl}{h h1:AH}{xs:List D}(a:GI e=u0) (q:eval F e U h= .ok (.own xs) h1):exec F (.ret e) U h= .ret (.own xs) h1:=by
 rw [exec,a];simp only [q,R.aA]
def wh {F:Fx}{e:E}{U:Sl}{h h1:AH}{d:D}(a:GI e=u0) (q:eval F e U h= .ok (.v d) h1):exec F (.ret e) U h= .ret (.v d) h1:=by
 rw [exec,a];simp only [q,R.aA]
def ZG {h:AH}{r:Nat}{xs:List D}(e:h[r]? =y0 (.lst xs)) (i:Int):dm (.r r) (.v (.int i)) h=bq xs i:=by
 simp [dm,W.int?,W.bh,W.seq?,e]
def nD (x y z:D):bq [x,y,z] 1=y0 y:=rfl
def kz (x y z:D):bq [x,y,z] 2=y0 z:=rfl
def pO:cX 3 2=y0 2:=rfl
def Q6 {F:Fx}{i:Nat}{j:Int}{e:E}{U:Sl}{h h2:AH}{r n:Nat}{d:D}{xs:List D}(b:eval F e U h= .ok (.v d) h) (f:Gm U i=y0 (.r r)) (k:h[r]? =y0 (.lst xs)) (g:cX xs.length j=y0 n) (a:GO d=k9) (c:h2=h.set r (.lst (xs.set n d))):
 exec F (.b4 (.var i) (.int j) e) U h= .next U h2:=by
 subst c
 simp only [exec,b,R.aA,eval,f,Kg,k,g,a,if_true]
def xP (a b:Int) (h: -(2:Int) ^ 64<b/\b<2 ^ 64):Gg .mul a b=y0 (a*b):=by
 have c:(-dF<a/\a<dF)\/(-dF<b/\b<dF):=by rw [GH];exact .inr h
 show(if _ then _ else _)=_
 rw [if_pos c]
def qC (a b:Int) (h:0<b):Gg .mod a b=y0 (a % b):=by
 rw [uA,if_pos h]
def tJ (a b:Int) (h:0<b) (h2:b<1073741824):Gg .fdiv a b=y0 (a / b):=by
 rw [BY,if_pos ⟨h,by rw [GA];exact h2⟩]
def A0 (i j:Int) (h:AH):Gy .eq (.v (.int i)) (.v (.int j)) h=y0 (u9 (i=j)):=by
 simp [GZ]
 rfl
theorem WF: ∀xs:List Int,Kc (xs.map .int)=y0 xs.sum
 | []=>rfl
 | x::xs=>by simp [Kc,WF xs]
def Cj {b d:Type}(f:b->d) (xs:List b) (c a:Option Int):cut (xs.map f) c a=(cut xs c a).map f:=by
 simp [cut,List.map_drop,List.map_take]
def sr {a:Type}(xs:List a) (b c:Option Int):(cut xs b c).length<=xs.length:=by
 simp only [cut,Ad,Ae4]
 omega
abbrev iB:Tx:= nA
noncomputable def rK:List Tx:= [iF,gR,g5,iv,[101,97,99,104],[105,110],ku,[111,114],fm,fO,iT,gB,[107,105,110,100],[116,105,101],[115,97,121]]
structure Br (t:Tx):Prop where
 lo:1<=t.length
 hi:t.length<=8
 pI: ∀c∈t,97<=c/\c<=122
 free:t∉rK
def A2 (i:Nat) (h:i<26):bq iB (i:Int)=y0 (97+i):=by
 have: ∀i:Nat,i<26->bq iB (i:Int)=y0 (97+i):=by decide
 exact this i h
def WT {b:Type}(xs:List b) (n:Nat):cut xs u0 (y0 (n:Int))=xs.take n:=by
 have a: ¬((n:Int)<0):=by omega
 simp only [cut,aC,a,if_false,Ac5,List.drop_zero,Nat.sub_zero]
 by_cases q:n<=xs.length
 .rw [Aj7 q]
 .rw [Nat.min_eq_right (by omega),Aj0 (Aa6 _),Aj0 (by omega)]
def XS {b:Type}(xs:List b) (n:Nat):cut xs (y0 (n:Int)) u0=xs.drop n:=by
 have a: ¬((n:Int)<0):=by omega
 simp only [cut,aC,a,if_false,Ac5]
 by_cases q:n<=xs.length
 .rw [Aj7 q,Aj0 (by simp)]
 .rw [Nat.min_eq_right (by omega),Aj1 (Aa6 _),Aj1 (by omega),List.take_nil]
def l5 (s:Tx) (b a:Option Int) (h:AH) (c:s.length<=aX):eJ (.s s) b a h= .ok (.s (cut s b a)) h:=by
 show(if s.length<=aX then _ else _)=_
 rw [if_pos c]
def mul_str (s:Tx) (n:Nat) (h:AH) (a:n<=1000) (h2:s.length*n<=1000000):GY .mul (.s s) (.i n) h= .ok (.v (.str (Aa n s).flatten)) h:=by
 show(if 0<=(n:Int)/\(n:Int)<=1000/\s.length*(n:Int).toNat<=aX then _ else _)=_
 rw [if_pos ⟨by omega,by omega,by rw [Gi,Ac5];exact h2⟩,Ac5]
def add_str (s u:Tx) (h:AH) (a:s.length+u.length<=1000000):GY .add (.s s) (.s u) h= .ok (.s (s++u)) h:=by
 rw [sH,if_pos (by rw [Gi];exact a)]
def Qr (i:Nat) (a:i<26) (h:AH):dm (.s iB) (.i i) h=y0 (.str [97+i]):=by
 rw [lH,if_pos (by rw [Gi];decide),A2 i a]
 rfl
def wT {e:Type}(f:Nat->e) (m:Nat) (k:m<=8) (d: ∀i,i<8-> ∀j,j<8->i≠j->f i≠f j):((Aa7 m).map f).Nodup:=by
 rw [List.Nodup,List.pairwise_map]
 refine List.Pairwise.imp_of_mem ?_ (List.nodup_range (n:=m))
 intro a b h g c
 exact d a (by have:=Ag4.mp h;omega) b (by have:=Ag4.mp g;omega) c
def nG (a b:Nat) (hb:0<b):Gg .mod (a:Int) (b:Int)=y0 ((a % b:Nat):Int):=by
 rw [qC _ _ (by omega)];rfl
def XE {a:Type}(xs:List a) (i:Nat) (h:i<xs.length):bq xs (i:Int)=xs[i]? :=by
 have:((i:Int))<(xs.length:Int):=by omega
 simp [bq,cX,this]
def Wk (i j:Nat) (h:AH):Gy .eq (.i i) (.i j) h=y0 (u9 (i=j)):=by
 rw [A0]
 congr 1
 exact decide_eq_decide.mpr (by omega)
theorem Jx: ∀i:List Tx,GR (i.map .str)=y0 i
 | []=>rfl
 | t::i=>by simp [GR,Jx i]
theorem Z6 (s:Tx): ∀i:List Tx,inD (.str s) (i.map .str)=u9 (s∈i)
 | []=>rfl
 | t::i=>by
  have a:=Z6 s i
  simp only [inD]at a
  by_cases q:t=s
  .subst q
   simp [inD]
  .have b: ¬s=t:=λe=>q e.symm
   simp only [inD,Ac4,Ae7,bR,a,Ab7,b,false_or]
   simp [q]
def w5 (a:List Tx):(a.map D.str).all GO=true:=by simp
def xv (s:Tx) (a:List Tx) (w:W) (h:AH) (b:w.seq? h=y0 (a.map .str)) (h2:w.bh =u0):Kf (.s s) w h=y0 (u9 (s∈a)):=by
 unfold Kf
 rw [h2]
 simp only [W.bh,W.iM,b,GO,w5,Af5,if_true,Z6]
structure Nm (ts:List Tx):Prop where
 nd:ts.Nodup
 good: ∀t∈ts,Br t
def qh {a:Type}(x:a) (r:List a):bq (x::r) 0=y0 x:=by
 have:(0:Int)<((x::r).length:Int):=by simp
 simp [bq,cX,this]
def y6 {d:D}{n:Nat}{h:AH}(b:Gb d=k9) (c:n<=h.length) (a:Gw (h.take n)=k9): ∃h',Gz n (.ret (.v d) h)= .ok (.v d) h'/\h'=h.take n:=by
 by_cases q:h.length=n
 .exact⟨h,by simp [Gz,fin,q],by rw [← q,Al2]⟩
 .exact⟨h.take n,by simp [Gz,fin,q,W.keep,b,a],rfl⟩
theorem jh: ∀i:List Tx,Gd (i.map .str)=k9
 | []=>rfl
 | t::i=>by simp [jh i]
def jX {F:Fx}{f:String}{es:Es}{U:Sl}{h:AH}{ws:List W}{xs:List D}(a:Gf F es U h= .ok ws h) (b:F.call f (ws.map W.arg) h= .ok (.own xs) h) (c:Gd xs=k9):eval F (.share (.call f es)) U h= .ok (.r h.length) (h++ [.lst xs]):=by
 simp only [eval,a,R.af,b,c,if_true]
theorem Jk (x:Tx): ∀ys:List Tx,(G6 x ys).Perm (x::ys)
 | []=> .refl _
 | y::ys=>by
  unfold G6
  by_cases q:y<x
  .rw [if_pos q]
   exact((Jk x ys).cons y).trans (.swap x y ys)
  .rw [if_neg q]
theorem Xg: ∀xs:List Tx,(GD xs).Perm xs
 | []=> .refl _
 | x::xs=>(Jk x (GD xs)).trans ((Xg xs).cons x)
abbrev pf (a:List Tx):D:= .tup (a.map .str)
abbrev wD (K T:List Tx):D:= .tup [pf K,pf T]
def Wz (a:List Tx) (h:AH) (b:a.length<64):dz .sorted [.own (a.map .str)] h= .ok (.own ((GD a).map .str)) h:=by
 show(R.of h ((y0 (a.map D.str)).bind GR)).bind _=_
 rw [Option.bind_some,Jx,R.aM,R.af,if_pos b]
abbrev bw (l:List Nat):List D:=l.map λ(x:Nat)=> .n x
abbrev lB (n:Nat) (b a:List Nat):D:= .tup [.n n,.tup (bw b),.tup (bw a)]
structure ux (n K T:Nat) (ks ts:List Nat):Prop where
 n4:n<=4
 lk:ks.length=K
 lt:ts.length=T
 bk: ∀x∈ks,x<2 ^ n
 bt: ∀x∈ts,x<2 ^ (n*n)
inductive Ex where
 | name (t:Tx)
 | same
 | all
 | none
 | turned (a:Ex)
 | closed (a:Ex)
 | plus (a b:Ex)
 | less (a b:Ex)
 | both (a b:Ex)
 | joined (a b:Ex)
abbrev mO:Tx:= [110,97,109,101]
abbrev la:Tx:= [115,97,109,101]
abbrev lI:Tx:= [97,108,108]
abbrev xk:Tx:= [110,111,110,101]
abbrev AS:Tx:= [112,108,117,115]
abbrev uW:Tx:= [108,101,115,115]
abbrev A8:Tx:= [98,111,116,104]
abbrev rJ:Tx:= [106,111,105,110,101,100]
abbrev p7:Tx:= [116,117,114,110,101,100]
abbrev tN:Tx:= [99,108,111,115,101,100]
noncomputable def bD:Ex->D
 | .name t=> .tup [.str mO,.str t]
 | .same=> .tup [.str la]
 | .all=> .tup [.str lI]
 | .none=> .tup [.str xk]
 | .turned a=> .tup [.str p7,bD a]
 | .closed a=> .tup [.str tN,bD a]
 | .plus a b=> .tup [.str AS,bD a,bD b]
 | .less a b=> .tup [.str uW,bD a,bD b]
 | .both a b=> .tup [.str A8,bD a,bD b]
 | .joined a b=> .tup [.str rJ,bD a,bD b]
noncomputable def Ex.dp:Ex->Nat
 | .turned a=>a.dp+1
 | .closed a=>a.dp+1
 | .plus a b=>max a.dp b.dp+1
 | .less a b=>max a.dp b.dp+1
 | .both a b=>max a.dp b.dp+1
 | .joined a b=>max a.dp b.dp+1
 | _=>0
end M
namespace Wf
def wr (g:Nat->Nat->Bool):Nat->Nat->Nat->Bool
 | 0,a,b=>g a b
 | k+1,a,b=>wr g k a b||(wr g k a k&&wr g k k b)
end Wf
namespace M
def iO (t:Tx) (a:List Tx):Nat:=(n6 t a).getD 0
structure Wo where
 n:Nat
 K:List Tx
 T:List Tx
 ks:List Nat
 ts:List Nat
structure Wo.Ok (w:Wo):Prop where
 hK:w.K.length<=4
 hT:w.T.length<=4
 nd:(w.K++w.T).Nodup
 wl:ux w.n w.K.length w.T.length w.ks w.ts
def Wo.at (w:Wo) (t:Tx) (a b:Nat):Prop:=if t∈w.T then(w.ts.getD (iO t w.T) 0).testBit (a*w.n+b)=k9 else a=b/\(w.ks.getD (iO t w.K) 0).testBit a=k9
def eu (w:Wo):Ex->Nat->Nat->Prop
 | .name t,a,b=>w.at t a b
 | .same,a,b=>a=b
 | .all,_,_=>True
 | .none,_,_=>False
 | .turned e,a,b=>eu w e b a
 | .closed e,a,b=> ∃t,t<2 ^ (w.n*w.n)/\(∀ x y,x<w.n->y<w.n->(t.testBit (x*w.n+y)=k9↔eu w e x y))/\Wf.TC w.n t a b
 | .plus e f,a,b=>eu w e a b\/eu w f a b
 | .less e f,a,b=>eu w e a b/\ ¬eu w f a b
 | .both e f,a,b=>eu w e a b/\eu w f a b
 | .joined e f,a,b=> ∃c,c<w.n/\eu w e a c/\eu w f c b
def Is (w:Wo) (e:Ex) (v:Nat):Prop:=v<2 ^ (w.n*w.n)/\ ∀a b,a<w.n->b<w.n->(v.testBit (a*w.n+b)=k9↔eu w e a b)
def Wo.words (w:Wo):D:=wD w.K w.T
def Wo.cw (w:Wo):D:=lB w.n w.ks w.ts
def zl (x y:D):bq [x,y] 0=y0 x:=rfl
def Xq (x y:D):bq [x,y] 1=y0 y:=rfl
def xb (s t:Tx) (h:AH):Gy .eq (.s s) (.s t) h=y0 (s==t):=by simp [GZ]
def Qd {F:Fx}{c:E}{a:Ss}{U:Sl}{h:AH}{b:Ss}(e:Gu F c U h= .ok y9 h):execs F (.cons (.iff c a .nil) b) U h=execs F b U h:=za (md e)
def Zr {F:Fx}{c:E}{s:S}{U:Sl}{h:AH}{a:Ss}{w:W}(e:Gu F c U h= .ok k9 h) (r:exec F s U h= .ret w h):execs F (.cons (.iff c (.cons s .nil) .nil) a) U h= .ret w h:=jb ((XZ e).trans (jb r))
abbrev l2 (s t:Nat):List D:= [.n s,.n t]
def kY {F:Fx}{tg:List Nat}{one:Bool}{k:Nat}{b:List Nat}{it:It}{c a:E}{U:Sl}{h:AH}(d:Gk F it U h= .ok [] h):eval F (.comp tg one k b it y9 c a) U h= .ok (.own []) h:=by
 rw [eval,d,R.af,if_pos (show ([]:List D).length<=aX from Ai _)]
 rfl
def qT {F:Fx}{k:Nat}{b:List Nat}{it:It}{c a:E}{U:Sl}{h:AH}{d y:D}(g:Gk F it U h= .ok [d] h) (e:eval F a (GG (Aa k u0++b.map λj=>Gm U j) 0 (.v d)) h= .ok (.v y) h):eval F (.comp [0] k9 k b it y9 c a) U h= .ok (.own [y]) h:=by
 have f:([d]:List D).length<=aX:=by rw [Gi];simp
 rw [eval,g,R.af,if_pos f]
 simp only [Gx,GP,Ad5,if_false,R.af,e,W.iM,R.aM]
def wE {F:Fx}{b:List Nat}{e a:E}{U:Sl}{h:AH}{n:Nat}(f:Nat->D) (g:eval F e U h= .ok (.i n) h) (q:n<=1000)
 (l: ∀i,i<n-> ∃w,eval F a (si i::b.map λj=>Gm U j) h= .ok w h/\w.d=y0 (f i)):eval F (.comp [0] k9 1 b (.aB e) y9 (.bl k9) a) U h= .ok (.own ((Aa7 n).map f)) h:=by
 rw [wN (h:=h) (λd=>match d with | .int i=>f i.toNat | d=>d) (Zt (m:=n) g (by omega)) (by simp;rw [Gi];omega)]
 .simp [Function.comp_def]
 .intro d k
  obtain⟨i,p,rfl⟩:=fv _ k
  obtain⟨w,o,c⟩:=l i p
  exact⟨_,rfl,w,o,by simpa using c⟩
abbrev tb (n v:Nat) (a b:Nat):Bool:=v.testBit (a*n+b)
abbrev qk:Tx:= [108,101,97,115,116]
abbrev Xw:Tx:= [109,111,115,116]
abbrev QT:Tx:= [101,97,99,104,108,101,97,115,116]
abbrev Ax:Tx:= [105,110]
abbrev pY:Tx:= [101,113,117,97,108]
abbrev j8:Tx:= [115,111,109,101]
abbrev iK:Tx:= [110,111]
def JP (s a b:Tx) (h:AH):Gy .mem (.s s) (.t [.str a,.str b]) h=y0 (u9 (s∈ [a,b])):=xv s [a,b] (.t [.str a,.str b]) h rfl rfl
inductive Fc where
 | mr (a b:Ex)
 | kX (a b:Ex)
 | iV (a:Ex)
 | ai (a:Ex)
 | cnt (s:Tx) (k:Nat) (a:Ex)
def dc:Fc->D
 | .mr a b=> .tup [.str Ax,bD a,bD b]
 | .kX a b=> .tup [.str pY,bD a,bD b]
 | .iV a=> .tup [.str j8,bD a]
 | .ai a=> .tup [.str iK,bD a]
 | .cnt s k a=> .tup [.str s,.n k,bD a]
def Fc.dp:Fc->Nat
 | .mr a b=>max a.dp b.dp
 | .kX a b=>max a.dp b.dp
 | .iV a=>a.dp
 | .ai a=>a.dp
 | .cnt _ _ a=>a.dp
theorem lV: ∀bs:List Bool,Kd (bs.map .bl)=y0 bs
 | []=>rfl
 | b::bs=>by simp [Kd,lV bs]
def XU {F:Fx}{e:E}{U:Sl}{h:AH}{bs:List Bool}(q:eval F e U h= .ok (.own (bs.map .bl)) h):eval F (.bi .all (.cons e .nil)) U h= .ok (.b (bs.all id)) h:=by
 rw [eval,Gf,q]
 simp only [R.af,Gf,yB,lV,R.aM]
theorem J9: ∀l:List Nat,Kc (bw l)=y0 ((l.sum:Nat):Int)
 | []=>rfl
 | x::l=>by
  have:=J9 l
  simp only [bw,Ac4,Kc]at this ⊢
  rw [this,List.sum_cons]
  simp
def X5 {F:Fx}{U:Sl}{h:AH}:eval F (.neg (.int 1)) U h= .ok (.v (.int (-1))) h:=rfl
def ZT (x y:D):bq [x,y] (-1)=y0 y:=rfl
structure V (n v:Nat) (g:Nat->Nat->Bool):Prop where
 lt:v<2 ^ (n*n)
 bit: ∀a b,a<n->b<n->(v.testBit (a*n+b)=k9↔g a b=k9)
abbrev l8 (s:Tx):Nat->Nat->Bool:=λa b=>(s==lI)||((s==la)&&u9 (a=b))
abbrev iQ (a b:Wo):D:= .tup [a.cw,b.cw]
structure Pt (a b:Wo):Prop where
 CB:a.Ok
 Cu:b.Ok
 en:b.n=a.n
 eK:b.K=a.K
 eT:b.T=a.T
abbrev Au (v u:Nat):D:= .tup [.n v,.n u]
abbrev kO:Tx:= [110,111,116]
abbrev BO:Tx:= [97,110,100]
abbrev sh:Tx:= [111,114]
inductive Sy where
 | fact (f:Fc)
 | neg (a:Sy)
 | gG (a b:Sy)
 | fY (a b:Sy)
def au:Sy->D
 | .fact f=>dc f
 | .neg a=> .tup [.str kO,au a]
 | .gG a b=> .tup [.str BO,au a,au b]
 | .fY a b=> .tup [.str sh,au a,au b]
def Sy.dp:Sy->Nat
 | .fact f=>f.dp
 | .neg a=>a.dp+1
 | .gG a b=>max a.dp b.dp+1
 | .fY a b=>max a.dp b.dp+1
def hH:Option Bool->D
 | none=> .ai
 | some b=> .bl b
def kT (a b:Bool):Option Bool:=if a then y0 k9 else if b then y0 y9 else u0
def Wx (k:Nat) (a b:Bool) (h:AH):call prog (k+1) "settled" [.b a,.b b] h= .ok (.v (hH (kT a b))) h:=by
 rw [Ga (d:=Jw) rfl _ _ _ rfl]
 simp only [Jw]
 cases a
 .cases b
  .simp_all []
   rfl
  .simp_all []
   rfl
 .simp_all []
  rfl
def uJ (r:Option Bool) (b:Bool):Ki (.v (hH r)) (.b b)=y0 (r==y0 b):=by
 cases r with
 | none=>rfl
 | some c=>cases c<;>cases b<;>rfl
def mB (r:Option Bool) (b:Bool) (h:AH):Gy .fy (.v (hH r)) (.b b) h=y0 (r==y0 b):=uJ r b
section
variable {k:Nat}{r q:Option Bool}{h:AH}
def xY:call prog (k+2) "not_told" [.v (hH r)] h= .ok (.v (hH (r.map (!·)))) h:=by
 rw [Ga (d:=jq) rfl _ _ _ rfl]
 simp only [jq]
 rw [jb (wh (d:=hH (kT (r==y0 y9) (r==y0 k9))) (h1:=h) rfl (by simp_all [mB,Wx])),Gc _ _ _ rfl]
 cases r with
 | none=>rfl
 | some c=>cases c<;>rfl
def mj {F:Fx}{e f:E}{U:Sl}{a b:Bool}(h1:eval F e U h= .ok (.b a) h) (h2:eval F f U h= .ok (.b b) h):eval F (.or e f) U h= .ok (.b (a||b)) h:=by
 rw [eval,h1]
 cases a
 .simp only [R.af,GK,R.aM,h2,Bool.false_or]
 .simp only [R.af,GK,R.aM,Bool.true_or]
def lY {F:Fx}{e f:E}{U:Sl}{a b:Bool}(h1:eval F e U h= .ok (.b a) h) (h2:eval F f U h= .ok (.b b) h):eval F (.and e f) U h= .ok (.b (a&&b)) h:=by
 rw [eval,h1]
 cases a
 .simp only [R.af,GK,R.aM,Ag6]
 .simp only [R.af,GK,R.aM,h2,Af5]
def QA {F:Fx}{e:E}{U:Sl}{a:Bool}(h1:eval F e U h= .ok (.b a) h) (q: ∀(F:Fx),Gu F e U h=(eval F e U h).bind λx h=>R.of h (GV h x)):Gu F e U h= .ok a h:=by
 rw [q,h1];rfl
end
def QR {F:Fx}{e:E}{U:Sl}{h:AH}{bs:List Bool}(q:eval F e U h= .ok (.own (bs.map .bl)) h):eval F (.bi .any (.cons e .nil)) U h= .ok (.b (bs.any id)) h:=by
 rw [eval,Gf,q]
 simp only [R.af,Gf,yo,lV,R.aM]
def kD (v u b a:Nat):Option Bool:=kT (u9 (u-(u &&& b)=0)) (!u9 (v-(v &&& a)=0))
def mn (j x:Nat) (h:AH):Gy .gt (.i x) (.i j) h=y0 (u9 (j<x)):=by
 rw [n0];congr 1;exact decide_eq_decide.mpr (by omega)
noncomputable def ck (w:Wo) (t:Tx) (x y:Nat):Bool:=if t∈w.T then(w.ts.getD (iO t w.T) 0).testBit (x*w.n+y)else u9 (x=y)&&(w.ks.getD (iO t w.K) 0).testBit x
def bt (a b:Wo):Bool->Ex->Nat->Nat->Bool
 | false,.name t=>ck a t
 | true,.name t=>ck b t
 | _,.same=>l8 la
 | _,.all=>l8 lI
 | _,.none=>l8 xk
 | p,.turned e=>λx y=>bt a b p e y x
 | p,.closed e=>Wf.wr (bt a b p e) a.n
 | p,.plus e f=>λx y=>bt a b p e x y||bt a b p f x y
 | p,.less e f=>λx y=>bt a b p e x y&& !bt a b (!p) f x y
 | p,.both e f=>λx y=>bt a b p e x y&&bt a b p f x y
 | p,.joined e f=>λx y=>(Aa7 a.n).any λc=>bt a b p e x c&&bt a b p f c y
structure Le (a c:Wo):Prop where
 en:c.n=a.n
 nm: ∀t x y,ck a t x y=k9->ck c t x y=k9
def Sub (v w:Nat):Prop:= ∀k,v.testBit k=k9->w.testBit k=k9
structure B (a b:Wo) (e:Ex) (v u:Nat):Prop where
 lo:V a.n v (bt a b y9 e)
 hi:V a.n u (bt a b k9 e)
mutual
theorem JS: ∀ {d:D},Gb d=k9->bR d d=k9
 | .ai,_=>rfl
 | .bl b,_=>by simp
 | .int i,_=>by simp
 | .str s,_=>by simp
 | .tup xs,h=>by
  rw [bR];exact GJ (by simpa [Gb]using h)
 | .lst xs,h=>by
  rw [bR];exact GJ (by simpa [Gb]using h)
 | .ref _,h=>by simp at h
 | .exc _ _,h=>by simp at h
theorem GJ: ∀ {xs:List D},Gd xs=k9->GF xs xs=k9
 | [],_=>rfl
 | x::xs,h=>by
  have h':Gb x=k9/\Gd xs=true:=by simpa [Gd]using h
  rw [GF,JS h'.1,GJ h'.2];rfl
end
mutual
theorem jR {h:AH}: ∀ {d:D},Gb d=k9->res h d=d
 | .ai,_=>rfl
 | .bl b,_=>rfl
 | .int i,_=>rfl
 | .str s,_=>rfl
 | .tup xs,q=>by
  rw [res,GS (by simpa [Gb]using q)]
 | .lst xs,q=>by
  rw [res,GS (by simpa [Gb]using q)]
 | .ref _,q=>by simp at q
 | .exc _ _,q=>by simp at q
theorem GS {h:AH}: ∀ {xs:List D},Gd xs=k9->GX h xs=xs
 | [],_=>rfl
 | x::xs,q=>by
  have h':Gb x=k9/\Gd xs=true:=by simpa [Gd]using q
  rw [GX,jR h'.1,GS h'.2]
end
theorem je {b:Type}(f:b->D) (a: ∀x,Gb (f x)=k9): ∀l:List b,Gd (l.map f)=k9
 | []=>rfl
 | x::l=>by simp [a x,je f a l]
theorem wt {b:Type}(f:b->D) (k:Nat) (a: ∀x,dep (f x)<=k): ∀l:List b,GE (l.map f)<=k
 | []=>Ai _
 | x::l=>by
  have d:=a x
  have c:=wt f k a l
  simp only [Ac4,GE]
  exact Nat.max_le.mpr ⟨d,c⟩
def Cd (d:D) (a:Gb d=k9) (b:dep d<150) (h:AH):Gy .ne (.v d) (.v d) h=y0 false:=by
 show(if GZ (res h d) (res h d)then y0 (!bR (res h d) (res h d))else u0)=_
 rw [jR a,if_pos (by rw [GZ,a,decide_eq_true b];rfl),JS a];rfl
def lh:D->Bool
 | .int _=>k9
 | _=>y9
def xi (d:D) (e:Int):Bool:=match d with
 | .int i=>u9 (0<=i)&&u9 (i<e)
 | _=>y9
def WV (k:Nat) (d:D) (h:AH) (a:Gb d=k9):call prog (k+1) "is_whole" [.v d] h= .ok (.b (lh d)) h:=by
 rw [Ga (d:=Qz) rfl _ _ _ rfl]
 cases d<;>first | exact Gc _ _ _ rfl | cases a
def Wq (k:Nat) (d:D) (e:Int) (h:AH) (a:Gb d=k9):call prog (k+2) "is_below" [.v d,.v (.int e)] h= .ok (.b (xi d e)) h:=by
 rw [Ga (d:=Jl) rfl _ _ _ rfl]
 have b:=WV k d h a
 cases d with
 | int i=>
  simp [b,Jl,lh,xi,Gm]
  by_cases c:0<=i<;>simp [c]
 | _=>first | (simp [b,Jl,lh,xi,Gm];done) | (simp at a)
def o4 (l:List Nat):Gd (bw l)=true:=je _ (λ_=>rfl) l
def oi (k:Nat) (d:D) (h:AH) (c:Gb d=k9):call prog (k+3) "is_size" [.v d] h= .ok (.b (xi d 5)) h:=by
 rw [Ga (d:=qx) rfl _ _ _ rfl]
 have e:=Wq k d 5 h c
 have a:prog.con.lookup "GREATEST_SIZE" =some (.int 4):=rfl
 have b:(4:Int)+1=5:=rfl
 simp only [qx]
 simp_all [a,zf,b,e]
def QP (k:Nat) (d:D) (h:AH) (b:Gb d=k9) (hb:xi d 5=k9):call prog (k+4) "check_size" [.v d] h= .ok (.v .ai) h:=by
 rw [Ga (d:=Jf) rfl _ _ _ rfl]
 have a:=oi k d h b
 rw [hb]at a
 simp only [Jf]
 rw [Qd (by simp_all [a])]
 simp_all []
def cd:List (Nat×Nat)->Nat
 | []=>0
 | q::r=>q.2+2 ^ q.1*cd r
def dg:List Nat->Nat->List Nat
 | [],_=> []
 | w::a,c=>c % 2 ^ w::dg a (c / 2 ^ w)
def cL (n K T:Nat):List Nat:=Aa K n++Aa T (n*n)
structure Wl (n:Nat) (ks ts:List Nat):Prop where
 n4:n<=4
 k4:ks.length<=4
 t4:ts.length<=4
 bk: ∀x∈ks,x<2 ^ n
 bt: ∀x∈ts,x<2 ^ (n*n)
def nS (n K T:Nat):(cL n K T).length=K+T:=by simp [cL]
abbrev iC (A B:List D):D:= .tup [.tup A,.tup B]
def vw (n K T:Nat):bw (cL n K T)=Aa K (.n n)++Aa T (.n (n*n)):=by simp [cL]
theorem XO (x:Nat): ∀m,(Aa m x).sum=m*x
 | 0=>by simp
 | m+1=>by rw [Ac3,List.sum_cons,XO x m,Nat.succ_mul,Nat.add_comm]
def xR (n K T:Nat):(cL n K T).sum=K*n+T*(n*n):=by rw [cL,List.sum_append,XO,XO]
theorem oe {F:Fx}{x0 x1 x2 x6:Option W}(h:AH): ∀(ws:List Nat) (c:Nat) (a:List Nat) (x5:Option W),(∀ w∈ws,w<=16)->a.length+ws.length<=1000-> ∃i j,
 Gv (Gn [5] k9) (λU h=>execs F jl U h) (bw ws) [x0,x1,x2,y0 (.own (bw a)),si c,x5,x6] h= .next [x0,x1,x2,y0 (.own (bw (a++dg ws c))),i,j,x6] h
 | [],c,a,x5,_,_=>⟨si c,x5,by simp [dg]⟩
 | w::ws,c,a,x5,d,p=>by
  rw [Ab0]at p
  have o:=d w Aa8
  obtain⟨i,j,e⟩:=oe (F:=F) (x0:=x0) (x1:=x1) (x2:=x2) (x6:=x6) h ws (c / 2 ^ w) (a++ [c % 2 ^ w]) (si w) (λx l=>d x (Aa5 _ l)) (by simp;omega)
  refine⟨i,j,?_⟩
  have n:=iW w (by omega)
  have q:0<2 ^ w:=Nat.pow_pos (by decide)
  have k:((2 ^ w:Nat):Int)-1=((2 ^ w-1:Nat):Int):=by omega
  have b:=zD c (2 ^ w-1)
  rw [Nat.and_two_pow_sub_one_eq_mod]at b
  have g:=oM c w
  have m:(bw a).length<aX:=by rw [Gi,Aa0];omega
  have f:bw (a++ [c % 2 ^ w])=bw a++ [.n (c % 2 ^ w)]:=by simp
  rw [show bw (w::ws)= .n w::bw ws from rfl,Qb (U1:= [x0,x1,x2,y0 (.own (bw a)),si c,si w,x6]) (U2:= [x0,x1,x2,y0 (.own (bw (a++ [c % 2 ^ w]))),si (c / 2 ^ w),si w,x6]) (h2:=h) rfl ?_,e,Ah6]
  .rfl
  .rw [f]
   simp_all [jl,n,Wp,k,wS,b,m,if_true,g]
def Z7 (x:D) (m:Nat) (a:m<=1000) (h:AH):GY .mul (.own [x]) (.i m) h= .ok (.own (Aa m x)) h:=by
 show Ku [x] (m:Int) h=_
 have c: -1000<=(m:Int)/\(m:Int)<=1000/\ [x].length*(m:Int).toNat<=aX:=by rw [Gi,Ac5];simp;omega
 rw [Ku,if_pos c,Ac5,show(Aa m [x]).flatten=Aa m x by simp]
def zV (k n:Nat) (A B:List D) (h:AH) (i:n<=4) (g:A.length<=4) (f:B.length<=4):call prog (k+1) "widths" [.v (iC A B),.i n] h= .ok (.own (bw (cL n A.length B.length))) h:=by
 rw [Ga (d:=XB) rfl _ _ _ rfl]
 have a:Gg .mul (n:Int) (n:Int)=y0 ((n*n:Nat):Int):=Jm n n (by omega)
 have c:=Z7 (.n n) A.length (by omega) h
 have e:=Z7 (.n (n*n)) B.length (by omega) h
 have b:(Aa A.length (D.n n)).length+(Aa B.length (D.n (n*n))).length<=aX:=by rw [Gi];simp;omega
 rw [vw]
 simp only [XB]
 simp_all [ag,zl,Xq,zi,c,a,e,B3,b,if_true]
def lW (k n:Nat) (A B:List D) (h:AH) (e:n<=4) (c:A.length<=4) (b:B.length<=4):call prog (k+2) "bits" [.v (iC A B),.i n] h= .ok (.i ((cL n A.length B.length).sum)) h:=by
 rw [Ga (d:=lL) rfl _ _ _ rfl]
 have f:=zV k n A B h e c b
 have a:(bw (cL n A.length B.length)).length<=aX:=by rw [Gi,Aa0,nS];omega
 simp only [lL]
 simp_all [f,m7,a,if_true,J9]
def yH {F:Fx}{U:Sl}{h:AH}{n i:Nat}(e:Gm U i=si n) (a:n<=1000000):Gr F (.aB (.var i)) U h= .ok ((Aa7 n).map λ(i:Nat)=> .n i) h:=Zt (by rw [eval,e]) a
def sj (N:List Tx) (f:Tx->Nat×Nat):List (Tx×D):=N.map λt=>(t,Au (f t).1 (f t).2)
structure Dc (a b:Wo) (f:Tx->Nat×Nat) (r:Nat) (h:AH):Prop where
 ad:h[r]? =y0 (.fR (sj (a.K++a.T) f))
 n4:a.n<=4
 lo: ∀t∈a.K++a.T,V a.n (f t).1 (ck a t)
 hi: ∀t∈a.K++a.T,V a.n (f t).2 (ck b t)
def vi (s:Tx) (a:List Tx) (h:AH):Gy .mem (.s s) (.own (a.map .str)) h=y0 (u9 (s∈a)):=xv s a (.own (a.map .str)) h rfl rfl
abbrev ay (ns:List Int) (i:Nat) (v:Int):Cell:= .lst [.lst (ns.map .int),.n i,.int v]
def rO:Gg .pow 10 18=y0 1000000000000000000:=by
 have:(0:Int)<=18/\(18:Int)<=BP/\(10:Int).natAbs<gZ:=by rw [GM,GB];decide
 show(if _ then _ else _)=_
 rw [if_pos this]
 rfl
def Cq (v:Int){F:Fx}{U:Sl}{h:AH}(e:eval F (.ix .v0 (.int 2)) U h= .ok (.v (.int v)) h):Gu F (.not (.chain .le .lt (.int 0) (.ix .v0 (.int 2)) (.bin .pow (.int 10) (.int 18)))) U h= .ok (!(u9 (0<=v)&&u9 (v<1000000000000000000))) h:=by
 rw [Gu,eval]
 rw [show eval F (.chain .le .lt (.int 0) (.ix .v0 (.int 2)) (.bin .pow (.int 10) (.int 18))) U h= .ok (.b (u9 (0<=v)&&u9 (v<1000000000000000000))) h by
  rw [eval,eval,R.af,e,R.af]
  by_cases q:(0:Int)<=v
  .simp_all [WI,lJ,rO,aw,q,decide_true,Af5]
  .simp_all [WI,lJ,aw,q,decide_false,Ag6]]
 simp_all []
def Zi (k:Nat){ns:List Int}{i:Nat}{v:Int}{h:AH}{r m:Nat}(e:h[r]? =y0 (ay ns i v)) (C:0<m) (hb:m<1073741824):
 ∃(d:Nat) (o:Int),d<m/\call prog (k+1) "_law_draw" [.r r,.i m] h= .ok (.i d) (h.set r (ay ns i o)):=by
 rw [Ga (d:=zq) rfl _ _ _ rfl]
 have a:(0:Int)<(m:Int):=by omega
 have A:r<h.length:=(Ab.mp e).1
 have i2:eval (k8 k) (.ix .v0 (.int 2)) [y0 (.r r),si m,u0] h= .ok (.v (.int v)) h:=by simp_all [ZG e,kz]
 have g:=Cq v i2
 show ∃d o,_/\Gz _ (execs _ _ [y0 (.r r),si m,u0] h)=_
 simp only [zq]
 have l: ∀x:Int,∃d:Nat,d<m/\x % (m:Int)=(d:Int):=λx=>⟨(x % (m:Int)).toNat,by have:=Ak7 x a;have:=Ak x (Int.ne_of_gt a);omega,by have:=Ak x (Int.ne_of_gt a);omega⟩
 cases c:(u9 (0<=v)&&u9 (v<1000000000000000000))with
 | false=>
  obtain⟨d,b,f⟩:=l v
  refine⟨d,v / (m:Int),b,?_⟩
  have s:dz .divmod [.v (.int v),.i m] h=aw (.tup [.int (v / (m:Int)),.n d]) h:=by
   rw [qO,if_pos ⟨a,by rw [GA];omega⟩,f]
  rw [jb (w:= .i d) (h1:=h.set r (ay ns i (v / (m:Int))))]
  .exact Gc _ h _ (by rw [Ac9])
  refine(XZ (h1:=h) (by rw [g,c];rfl)).trans ?_
  refine(za (by
   rw [exec,show eval (k8 k) (.bi .divmod (.b (.ix .v0 (.int 2)) .v1)) [y0 (.r r),si m,u0] h=aw (.tup [.int (v / (m:Int)),.n d]) h by simp_all [ZG e,kz,s]]
   simp_all [aw,ej,Kg,e,pO,GO,if_true]
   rfl)).trans ?_
  exact jb rfl
 | true=>
  rw [Aa1,decide_eq_true_eq,decide_eq_true_eq]at c
  have u:Gg .mul v 742939=y0 (v*742939):=xP _ _ (by decide)
  have B:Gg .mul (i:Int) 65063=y0 ((i:Int)*65063):=xP _ _ (by decide)
  have j:Gg .mod (v*742939+(i:Int)*65063+40503) 16777213=y0 ((v*742939+(i:Int)*65063+40503) % 16777213):=qC _ _ (by decide)
  have y:=Ak (v*742939+(i:Int)*65063+40503) (show (16777213:Int)≠0 by decide)
  have p:=Ak7 (v*742939+(i:Int)*65063+40503) (show (0:Int)<16777213 by decide)
  generalize F:(v*742939+(i:Int)*65063+40503) % 16777213=w at j y p
  have i1:eval (k8 k) (.ix .v0 (.int 1)) [y0 (.r r),si m,u0] h= .ok (.i i) h:=by simp_all [ZG e,nD]
  have e2:(h.set r (ay ns i w))[r]? =y0 (ay ns i w):=Ac1 A
  obtain⟨d,b,f⟩:=l (w*(w % 4093+7) / 64)
  refine⟨d,w,b,?_⟩
  rw [Qd (by rw [g,decide_eq_true c.1,decide_eq_true c.2];rfl)]
  rw [za (U1:= [y0 (.r r),si m,u0]) (h1:=h.set r (ay ns i w)) (Q6 (d:= .int w) (xs:= [.lst (ns.map .int),.n i,.int v]) (n:=2) (by
   simp_all [ZG e,nD,kz,u,B,zf,j]) rfl e rfl rfl rfl)]
  have D:=Ak w (show (4093:Int)≠0 by decide)
  have E:=Ak7 w (show (0:Int)<4093 by decide)
  have t:Gg .mod w 4093=y0 (w % 4093):=qC _ _ (by decide)
  have q:Gg .mul w (w % 4093+7)=y0 (w*(w % 4093+7)):=xP _ _ (by omega)
  have z:Gg .fdiv (w*(w % 4093+7)) 64=y0 (w*(w % 4093+7) / 64):=tJ _ _ (by decide) (by decide)
  have n4:Gg .mod (w*(w % 4093+7) / 64) (m:Int)=y0 ((d:Nat):Int):=by rw [qC _ _ a,f]
  rw [jb (w:= .i d) (h1:=h.set r (ay ns i w)) (wh rfl (by simp_all [ZG e2,kz,t,zf,q,z,n4]))]
  exact Gc _ h _ (by rw [Ac9])
def BU {F:Fx}{e:E}{U:Sl}{h:AH}{ns:List Int}{j:Int}(b:ns.length<=63) (q:eval F e U h= .ok (.l (ns.map .int)) h): ∃s,eval F (.bi .sum (.a (.d7 e (.int j)))) U h= .ok (.v (.int s)) h:=by
 have a:(cut ns u0 (y0 j)).length<=aX:=by
  have:=sr ns u0 (y0 j)
  rw [Gi];omega
 refine⟨(cut ns u0 (y0 j)).sum,?_⟩
 simp_all [q,mz,Cj,m7,WF,Aa0,a,if_true]
def tM (k:Nat) (ns:List Int) (a:ns.length<=63) (h:AH): ∃v,call prog (k+1) "_law_start" [.l (ns.map .int)] h= .ok (.own [.lst (ns.map .int),.n (0),.int v]) h:=by
 rw [Ga (d:=zn) rfl _ _ _ rfl]
 show ∃v,Gz _ (execs _ _ [y0 (.l (ns.map .int))] h)=_
 obtain⟨s,e⟩:=BU (F:=(k8 k)) (e:= .var 0) (U:= [y0 (.l (ns.map .int))]) (h:=h) (j:=1) a (by simp_all [])
 refine⟨s,?_⟩
 simp only [zn]
 rw [jb (w:= .own [.lst (ns.map .int),.n (0),.int s]) (h1:=h) (ZD rfl (by
  generalize E.bi _ _=X at e ⊢
  simp_all [e]
  rfl)),Gs _ _ _ rfl]
abbrev Pl:=Tx×Nat×Nat
def cJ (p:Pl):D:= .tup [.str p.1,.n (p.2.1),.n (p.2.2)]
def dv (n:Nat) (t:Tx):List Pl:=(Aa7 n).map λa=>(t,a,a)
def d3 (n:Nat) (t:Tx):List Pl:=(Wf.bb n (2 ^ (n*n)-1)).map λq=>(t,q.1,q.2)
abbrev dy (K T:List Tx) (n:Nat) (l:List Pl) (x:Option W):Sl:= [sv (wD K T),si n,y0 (.own (l.map cJ)),x]
theorem l1 {F:Fx}{K T:List Tx}{n:Nat}{h:AH}{b:Ss}(g:Tx->List Pl) (c: ∀t,(g t).length<=16) (hb: ∀(t:Tx) (l:List Pl),l.length<=200->execs F b (dy K T n l (y0 (.s t))) h= .next (dy K T n (l++g t) (y0 (.s t))) h):
 ∀(a:List Tx) (l:List Pl) (x:Option W),l.length+16*a.length<=200-> ∃i,Gv (Gn [3] k9) (λU h=>execs F b U h) (a.map .str) (dy K T n l x) h= .next (dy K T n (l++a.flatMap g) i) h
 | [],l,x,_=>⟨x,by simp [Gv]⟩
 | t::a,l,x,d=>by
  rw [Ab0]at d
  have:=c t
  obtain⟨i,e⟩:=l1 g c hb a (l++g t) (y0 (.s t)) (by rw [Ab5];omega)
  refine⟨i,?_⟩
  rw [Ac4,Qb (U1:=dy K T n l (y0 (.s t))) rfl (hb t l (by omega)),e,Ak9,Ah6]
def Cb (k n:Nat) (K T:List Tx) (h:AH) (p:n<=4) (H:K.length<=4) (D:T.length<=4):call prog (k+3) "places_of" [.v (wD K T),.i n] h= .ok (.own ((K.flatMap (dv n)++T.flatMap (d3 n)).map cJ)) h:=by
 rw [Ga (d:=Qn) rfl _ _ _ rfl]
 have o:n*n<=16:=Ag7 p p
 simp only [Qn]
 have j: ∀t,(dv n t).length<=16:=λt=>by simp [dv];omega
 have lt: ∀t,(d3 n t).length<=16:=λt=>by
  rw [d3,Aa0,Wf.bb,Aa0]
  exact Ac0 (List.length_filter_le _ _) (by rw [Af];exact o)
 have f: ∀(c:List Tx) (g:Tx->List Pl),(∀ t,(g t).length<=16)->(c.flatMap g).length<=16*c.length:=λc g i=>by
  induction c with
  | nil=>simp
  | cons t c F=>rw [Ak9,Ab5,Ab0];have:=i t;omega
 have ext: ∀(e:E) (b:Ss) (g:Tx->List Pl),(∀ t,(g t).length<=16)->b= .a (.ext 2 e)->(∀ (t:Tx) (l:List Pl),eval (k8 (k+2)) e (dy K T n l (y0 (.s t))) h= .ok (.own ((g t).map cJ)) h)-> ∀(t:Tx) (l:List Pl),l.length<=200->execs (k8 (k+2)) b (dy K T n l (y0 (.s t))) h= .next (dy K T n (l++g t) (y0 (.s t))) h:=λe b g i r s t l I=>by
  have u:(l.map cJ).length+((g t).map cJ).length<aX:=by rw [Gi,Aa0,Aa0];have:=i t;omega
  rw [r,za (U1:=dy K T n (l++g t) (y0 (.s t))) (h1:=h) (by rw [exec];simp_all [s,u,if_true];rw [← List.map_append]),execs]
 have C:=ext Zj Xn (dv n) j rfl λt l=>by
  unfold Zj
  rw [wE (n:=n) (λa=>cJ (t,a,a)) rfl (by omega) λa G=>⟨.v (cJ (t,a,a)),by simp_all [];rfl,rfl⟩]
  rw [dv,Af2];rfl
 have B:=ext zk Qo (d3 n) lt rfl λt l=>by
  unfold zk
  have z:Gk (k8 (k+2)) (.seq (.call "pairs_of" (.b .v1 (.call "every" (.a .v1))))) (dy K T n l (some (.s t))) h= .ok ((Wf.bb n (2 ^ (n*n)-1)).map pD) h:=by
   simp_all [uU (k+1) n h (by omega),qz (k+1) n (2 ^ (n*n)-1) h (by omega)]
  rw [wN (h:=h) (ds:=(Wf.bb n (2 ^ (n*n)-1)).map pD) (λd=>match d with | .tup [x,y]=> .tup [.str t,x,y] | d=>d) z (by rw [Gi,Aa0,Wf.bb,Aa0];have:=List.length_filter_le (2 ^ (n*n)-1).testBit (Aa7 (n*n));rw [Af]at this;omega)]
  .rw [d3,Af2,Af2];rfl
  .intro d v
   obtain⟨q,_,rfl⟩:=Af1.mp v
   exact⟨[si (q.1),si (q.2),y0 (.s t)],rfl,.t [.str t,.n (q.1),.n (q.2)],by simp_all [],rfl⟩
 obtain⟨m,e1⟩:=l1 (dv n) j C K [] u0 (by simp;omega)
 obtain⟨A,e2⟩:=l1 (d3 n) lt B T (K.flatMap (dv n)) m (by have:=f K (dv n) j;omega)
 rw [Af9]at e1
 rw [za (U1:=dy K T n [] u0) (h1:=h) rfl]
 rw [za (U1:=dy K T n (K.flatMap (dv n)) m) (h1:=h) (by
  rw [exec,show Gr (k8 (k+2)) (.seq (.ix .v0 (.int 0))) (dy K T n [] u0) h= .ok (K.map .str) h by simp_all [ag,zl],R.aA];exact e1)]
 rw [za (U1:=dy K T n (K.flatMap (dv n)++T.flatMap (d3 n)) A) (h1:=h) (by
  rw [exec,show Gr (k8 (k+2)) (.seq (.ix .v0 (.int 1))) (dy K T n (K.flatMap (dv n)) m) h= .ok (T.map .str) h by simp_all [ag,Xq],R.aA];exact e2)]
 rw [jb (w:= .own ((K.flatMap (dv n)++T.flatMap (d3 n)).map cJ)) (h1:=h) rfl,Gs _ _ _ rfl]
noncomputable abbrev hR:List Tx:= [iF,gR,g5,iv,[101,97,99,104],[105,110],ku,[111,114],fm,fO,iT,gB,[107,105,110,100],[116,105,101],[115,97,121]]
def xF (st:Tx) (at' f k:Nat):Tx:=st.take at'++ [97+(f+5*k) % 26]++st.drop at'
def bU (st:Tx) (at' f k:Nat):Tx:=if xF st at' f k∈hR then xF st at' f k++ [113]else xF st at' f k
def oh {st:Tx}{at' f k:Nat}(h:at'<=st.length):(bU st at' f k)[at']? =y0 (97+(f+5*k) % 26):=by
 have b:(xF st at' f k)[at']? =y0 (97+(f+5*k) % 26):=by
  unfold xF
  rw [Ah6,Ad0 (by rw [Ad];omega),Ad,Aj7 h,Nat.sub_self]
  rfl
 unfold bU
 split
 .rw [Ad2 (Ab.mp b).1];exact b
 .exact b
def rG {st:Tx}{at' f k:Nat}(a:st.length<=6):(bU st at' f k).length<=8:=by
 have b:(xF st at' f k).length<=7:=by
  unfold xF
  rw [Ab5,Ab5,Ad,Ae4]
  simp only [Ab0,Ac7]
  omega
 unfold bU
 split
 .rw [Ab5];simp only [Ab0,Ac7];omega
 .omega
def Bm (st:Tx) (at' f m:Nat) (h:at'<=st.length) (a:m<=8):((Aa7 m).map (bU st at' f)).Nodup:=wT _ m a λi c j b ne z=>by
 have e1:=oh (f:=f) (k:=i) h
 have e2:=oh (f:=f) (k:=j) h
 rw [z,e2]at e1
 have:=Ad8.inj e1
 omega
abbrev cm (r m:Nat) (f:Nat) (a x5 x6 x7 x8:Option W):Sl:= [y0 (.r r),si m,y0 (.s iB),si f,a,x5,x6,x7,x8]
theorem Z9 (k:Nat){ns:List Int}{i r m f:Nat}: ∀(l:List Nat) (h:AH) (v:Int) (st:Tx) (x:Option W),h[r]? =y0 (ay ns i v)->st.length+l.length<=6-> ∃(a:Tx) (b:Int) (c:Option W),a.length<=6 ∧
 Gv (Gn [5] k9) (λU h=>execs (k8 (k+1)) Jj U h) (l.map λ(j:Nat)=>D.n j) (cm r m f (y0 (.s st)) x u0 u0 u0) h= .next (cm r m f (y0 (.s a)) c u0 u0 u0) (h.set r (ay ns i b))
 | [],h,v,st,x,e,g=>⟨st,v,x,by simpa using g,by
  rw [show h.set r (ay ns i v)=h by
   refine List.ext_getElem? λj=> ?_
   by_cases q:r=j
   .subst q
    rw [Ac1 (Ab.mp e).1,e]
   .rw [Ac6 q]]
  rfl⟩
 | j::l,h,v,st,x,e,g=>by
  rw [Ab0]at g
  obtain⟨d,v1,o,e1⟩:=Zi k e (m:=26) (by decide) (by decide)
  have p:r<h.length:=(Ab.mp e).1
  obtain⟨a,b,c,n,e2⟩:=Z9 k l (h.set r (ay ns i v1)) v1 (st++ [97+d]) (si j) (Ac1 p) (by rw [Ab5];simp;omega)
  rw [Af0]at e2
  refine⟨a,b,c,n,?_⟩
  have e1:call prog (k+1) "_law_draw" [.r r,.v (.int 26)] h= .ok (.i d) (h.set r (ay ns i v1)):=e1
  rw [Ac4,Qb (U1:=cm r m f (y0 (.s st)) (si j) u0 u0 u0) (U2:=cm r m f (y0 (.s (st++ [97+d]))) (si j) u0 u0 u0) (h2:=h.set r (ay ns i v1)) rfl (by
   unfold Jj
   rw [za (U1:=cm r m f (y0 (.s (st++ [97+d]))) (si j) u0 u0 u0) (h1:=h.set r (ay ns i v1)) (by simp_all [e1,Qr d o,add_str st [97+d] _ (by simp;omega)]),execs]),e2]
theorem zT {F:Fx}{r m f at':Nat}{st:Tx}(u:st.length<=6) (h:AH): ∀(c j:Nat) (x5 x8:Option W),j+c<=100-> ∃M L,Gv (Gn [5] k9) (λU h=>execs F Jg U h) ((Aa7 c).map λ(i:Nat)=>D.n (j+i)) (cm r m f (y0 (.s st)) x5 (si at') (y0 (.own (((Aa7 j).map (bU st at' f)).map .str))) x8) h= .next (cm r m f (y0 (.s st)) M (si at') (y0 (.own (((Aa7 (j+c)).map (bU st at' f)).map .str))) L) h
 | 0,j,x5,x8,_=>⟨x5,x8,rfl⟩
 | c+1,j,x5,x8,G=>by
  obtain⟨s,k,e⟩:=zT (F:=F) (r:=r) (m:=m) (f:=f) (at':=at') u h c (j+1) (si (j)) (y0 (.s (bU st at' f j))) (by omega)
  refine⟨s,k,?_⟩
  have g:execs F Jg (cm r m f (y0 (.s st)) (si (j)) (si at') (y0 (.own (((Aa7 j).map (bU st at' f)).map .str))) x8) h= .next (cm r m f (y0 (.s st)) (si (j)) (si at') (y0 (.own (((Aa7 (j+1)).map (bU st at' f)).map .str))) (y0 (.s (bU st at' f j)))) h:=by
   have z:Gg .mul 5 (j:Int)=y0 ((5*j:Nat):Int):=Jm 5 j (by decide)
   have x:((f:Int)+((5*j:Nat):Int))=((f+5*j:Nat):Int):=rfl
   have v:Gg .mod ((f+5*j:Nat):Int) 26=y0 (((f+5*j) % 26:Nat):Int):=nG _ 26 (by decide)
   have B:=Qr ((f+5*j) % 26) (Nat.mod_lt _ (by decide)) h
   have n:st.length<=aX:=by rw [Gi];omega
   have w:cut st u0 (y0 (at':Int))=st.take at':=WT st at'
   have o:cut st (y0 (at':Int)) u0=st.drop at':=XS st at'
   have E:(st.take at').length<=6:=by rw [Ad];omega
   have l2:(st.drop at').length<=6:=by rw [Ae4];omega
   have l:=add_str (st.take at') [97+(f+5*j) % 26] h (by simp only [Ab0,Ac7];omega)
   have a2:=add_str (st.take at'++ [97+(f+5*j) % 26]) (st.drop at') h (by rw [Ab5];simp only [Ab0,Ac7];omega)
   have C:(xF st at' f j).length<=13:=by
    unfold xF
    rw [Ab5,Ab5]
    simp only [Ab0,Ac7]
    omega
   have a3:=add_str (xF st at' f j) [113] h (by simp only [Ab0,Ac7];omega)
   have A:=vi (xF st at' f j) hR h
   have p:(((Aa7 j).map (bU st at' f)).map D.str).length<aX:=by rw [Gi,Aa0,Aa0,Af];omega
   have d:((Aa7 (j+1)).map (bU st at' f)).map D.str=((Aa7 j).map (bU st at' f)).map D.str++ [.str (bU st at' f j)]:=by rw [List.range_succ];simp
   unfold Jg
   rw [za (U1:=cm r m f (y0 (.s st)) (si (j)) (si at') (y0 (.own (((Aa7 j).map (bU st at' f)).map .str))) (y0 (.s (xF st at' f j)))) (h1:=h) (by
    simp_all [l5,n,w,o,z,zf,x,v,B,l,a2]
    rfl)]
   have b:Gu F (.cmp .mem .v8 (.gb mF hR)) (cm r m f (y0 (.s st)) (si (j)) (si at') (y0 (.own (((Aa7 j).map (bU st at' f)).map .str))) (y0 (.s (xF st at' f j)))) h= .ok (u9 (xF st at' f j∈hR)) h:=by
    rw [Gu,eval,eval]
    rw [show Gm (cm r m f (y0 (.s st)) (si (j)) (si at') (y0 (.own (((Aa7 j).map (bU st at' f)).map .str))) (y0 (.s (xF st at' f j)))) 8=y0 (.s (xF st at' f j))from rfl,R.af,eval,R.af,A]
    rfl
   have a: ∀t:Tx,t=bU st at' f j->execs F (.a (.app 7 .v8)) (cm r m f (y0 (.s st)) (si (j)) (si at') (y0 (.own (((Aa7 j).map (bU st at' f)).map .str))) (y0 (.s t))) h= .next (cm r m f (y0 (.s st)) (si (j)) (si at') (y0 (.own (((Aa7 (j+1)).map (bU st at' f)).map .str))) (y0 (.s (bU st at' f j)))) h:=λt y=>by
    subst y
    rw [d]
    simp_all [p,if_true]
   by_cases q:xF st at' f j∈hR
   .rw [za (U1:=cm r m f (y0 (.s st)) (si (j)) (si at') (y0 (.own (((Aa7 j).map (bU st at' f)).map .str))) (y0 (.s (xF st at' f j++ [113])))) (h1:=h) ((XZ (h1:=h) (by rw [b,decide_eq_true q])).trans (by simp_all [a3]))]
    exact a _ (by rw [bU,if_pos q])
   .rw [Qd (by rw [b,decide_eq_false q])]
    exact a _ (by rw [bU,if_neg q])
  rw [Ah4,Ac4,Af2,Qb (U1:=cm r m f (y0 (.s st)) (si (j)) (si at') (y0 (.own (((Aa7 j).map (bU st at' f)).map .str))) x8) rfl g]
  have:((λ(i:Nat)=>D.n (j+i))∘Nat.succ)=λ(i:Nat)=>D.n (j+1+i):=by
   funext i
   show D.n (j+(i+1))=_
   rw [show j+(i+1)=j+1+i by omega]
  rw [this,e,show j+1+c=j+(c+1)by omega]
def sZ (c k:Nat):(Aa k [c]).flatten=Aa k c:=by simp
def yG (k:Nat){ns:List Int}{i r m:Nat}{v:Int}{h:AH}(e:h[r]? =y0 (ay ns i v)) (G:m<=8): ∃(N:List Tx) (I:Int),N.length=m/\N.Nodup/\(∀ t∈N,t.length<=8)/\call prog (k+2) "_law_names" [.r r,.i m] h= .ok (.own (N.map .str)) (h.set r (ay ns i I)):=by
 have Q:r<h.length:=(Ab.mp e).1
 have o: ∀w,(h.set r (ay ns i w))[r]? =y0 (ay ns i w):=λw=>Ac1 Q
 have E: ∀w,(h.set r (ay ns i w)).length=h.length:=λw=>Ac9 ..
 rw [Ga (d:=Xm) rfl _ _ _ rfl]
 show ∃N I,_/\_/\_/\Gz _ (execs _ _ [y0 (.r r),si m,u0,u0,u0,u0,u0,u0,u0] h)=_
 simp only [Xm]
 obtain⟨f,v1,P,e1⟩:=Zi k e (m:=26) (by decide) (by decide)
 have e1:call prog (k+1) "_law_draw" [.r r,.v (.int 26)] h= .ok (.i f) (h.set r (ay ns i v1)):=e1
 obtain⟨d,v2,U,e2⟩:=Zi k (o v1) (m:=3) (by decide) (by decide)
 rw [Af0]at e2
 have e2:call prog (k+1) "_law_draw" [.r r,.v (.int 3)] (h.set r (ay ns i v1))= .ok (.i d) (h.set r (ay ns i v2)):=e2
 rw [za (U1:= [y0 (.r r),si m,y0 (.s iB),u0,u0,u0,u0,u0,u0]) (h1:=h) rfl]
 rw [za (U1:=cm r m f u0 u0 u0 u0 u0) (h1:=h.set r (ay ns i v1)) (by simp_all [e1])]
 have T: ∀h,Gy .eq (.i d) (.v (.int 0)) h=y0 (u9 (d=0)):=λh=>Wk d 0 h
 have C:Gu (k8 (k+1)) (.cmp .eq (.call "_law_draw" (.b .v0 (.int 3))) (.int 0)) (cm r m f none none none none none) (h.set r (ay ns i v1))= .ok (decide (d=0)) (h.set r (ay ns i v2)):=by simp_all [e2,T]
 by_cases q:d=0
 .refine⟨(Aa7 m).map λj=>Aa (j+1) (97+f),v2,by simp,wT _ m G (λa O b D ne z=>by have:=congrArg List.length z;simp at this;omega),λt y=> ?_,?_⟩
  .obtain⟨j,u,rfl⟩:=Af1.mp y
   rw [Ab8]
   have:=Ag4.mp u
   omega
  .rw [jb (w:= .own (((Aa7 m).map λj=>Aa (j+1) (97+f)).map .str)) (h1:=h.set r (ay ns i v2)) ((XZ (h1:=h.set r (ay ns i v2)) (by rw [C,decide_eq_true q])).trans (jb (ZD rfl ?_)))]
   .exact Gs _ h _ (E v2)
   .unfold qo
    rw [wE (n:=m) (λj=> .str (Aa (j+1) (97+f))) rfl (by omega) λj u=>⟨.s (Aa (j+1) (97+f)),?_,rfl⟩]
    .rw [Af2];rfl
    .have x:((j:Int)+1)=((j+1:Nat):Int):=rfl
     have H:=mul_str [97+f] (j+1) (h.set r (ay ns i v2)) (by omega) (by simp;omega)
     rw [sZ]at H
     simp_all [Qr f P,zf,x,H]
 .rw [za (U1:=cm r m f u0 u0 u0 u0 u0) (h1:=h.set r (ay ns i v2)) ((md (h1:=h.set r (ay ns i v2)) (by rw [C,decide_eq_false q])).trans rfl)]
  rw [za (U1:=cm r m f (y0 (.s [])) u0 u0 u0 u0) (h1:=h.set r (ay ns i v2)) rfl]
  obtain⟨c,v3,V,s⟩:=Zi k (o v2) (m:=6) (by decide) (by decide)
  rw [Af0]at s
  have s:call prog (k+1) "_law_draw" [.r r,.v (.int 6)] (h.set r (ay ns i v2))= .ok (.i c) (h.set r (ay ns i v3)):=s
  obtain⟨g,v4,p,l,B⟩:=Z9 k (ns:=ns) (i:=i) (r:=r) (m:=m) (f:=f) (Aa7 c) (h.set r (ay ns i v3)) v3 [] u0 (o v3) (by simp;omega)
  rw [Af0]at B
  have S:Gr (k8 (k+1)) (.aB (.call "_law_draw" (.b .v0 (.int 6)))) (cm r m f (some (.s [])) none none none none) (h.set r (ay ns i v2))= .ok ((List.range c).map fun(i:Nat)=> .n i) (h.set r (ay ns i v3)):=by
   have D: -gg<=(c:Int)/\(c:Int)<gg:=by rw [G9];omega
   simp_all [s]
   rw [if_pos D,Ac5]
  rw [za (U1:=cm r m f (y0 (.s g)) p u0 u0 u0) (h1:=h.set r (ay ns i v4)) (by rw [exec,S,R.aA];exact B)]
  obtain⟨a,v5,O,A⟩:=Zi k (o v4) (m:=g.length+1) (by omega) (by omega)
  rw [Af0]at A
  have L:g.length<=aX:=by rw [Gi];omega
  have x:((g.length:Int)+1)=((g.length+1:Nat):Int):=rfl
  rw [za (U1:=cm r m f (y0 (.s g)) p (si a) u0 u0) (h1:=h.set r (ay ns i v5)) (by simp_all [len_str,L,if_true,aw,zf,x,A])]
  rw [za (U1:=cm r m f (y0 (.s g)) p (si a) (y0 (.own [])) u0) (h1:=h.set r (ay ns i v5)) rfl]
  obtain⟨M,K,J⟩:=zT (F:=(k8 (k+1))) (r:=r) (m:=m) (f:=f) (at':=a) l (h.set r (ay ns i v5)) m 0 p u0 (by omega)
  simp only [Nat.zero_add]at J
  rw [za (U1:=cm r m f (y0 (.s g)) M (si a) (y0 (.own (((Aa7 m).map (bU g a f)).map .str))) K) (h1:=h.set r (ay ns i v5)) (by rw [exec,yH (n:=m) rfl (by omega),R.aA];exact J)]
  refine⟨(Aa7 m).map (bU g a f),v5,by simp,Bm g a f m (by omega) G,λt y=> ?_,?_⟩
  .obtain⟨j,u,rfl⟩:=Af1.mp y
   exact rG l
  .rw [jb (w:= .own (((Aa7 m).map (bU g a f)).map .str)) (h1:=h.set r (ay ns i v5)) rfl]
   exact Gs _ h _ (E v5)
structure cO (n:Nat) (K T:List Tx):Prop where
 n4:n<=4
 k4:K.length<=4
 t4:T.length<=4
 b6:K.length*n+T.length*(n*n)<=16
def n9 (k:Nat){ns:List Int}{i r:Nat}{v:Int}{h:AH}(e:h[r]? =y0 (ay ns i v)): ∃(K T:List Tx) (g:Int),K.length<=4/\T.length<=4/\call prog (k+3) "_law_words" [.r r] h= .ok (.v (wD K T)) (h.set r (ay ns i g)):=by
 have s:r<h.length:=(Ab.mp e).1
 have f: ∀w,(h.set r (ay ns i w))[r]? =y0 (ay ns i w):=λw=>Ac1 s
 have l: ∀w,(h.set r (ay ns i w)).length=h.length:=λw=>Ac9 ..
 rw [Ga (d:=jn) rfl _ _ _ rfl]
 show ∃K T g,_/\_/\Gz _ (execs _ _ [y0 (.r r),u0,u0] h)=_
 simp only [jn]
 obtain⟨a,v1,x,e1⟩:=Zi (k+1) e (m:=5) (by decide) (by decide)
 have e1:call prog (k+2) "_law_draw" [.r r,.v (.int 5)] h= .ok (.i a) (h.set r (ay ns i v1)):=e1
 obtain⟨b,v2,t,e2⟩:=Zi (k+1) (f v1) (m:=5) (by decide) (by decide)
 rw [Af0]at e2
 have e2:call prog (k+2) "_law_draw" [.r r,.v (.int 5)] (h.set r (ay ns i v1))= .ok (.i b) (h.set r (ay ns i v2)):=e2
 obtain⟨N,v3,u,_,_,j⟩:=yG k (f v2) (m:=a+b) (by omega)
 rw [Af0]at j
 have c:((a:Int)+(b:Int))=((a+b:Nat):Int):=rfl
 refine⟨GD (N.take a),GD (N.drop a),v3,by rw [(Xg _).length_eq,Ad];omega,by rw [(Xg _).length_eq,Ae4];omega,?_⟩
 refine fx (by simp_all [e1];rfl) ?_
 refine fx (by simp_all [e2,zf,c,j];rfl) ?_
 have o:=Wz (N.take a) (h.set r (ay ns i v3)) (by rw [Ad];omega)
 have n:=Wz (N.drop a) (h.set r (ay ns i v3)) (by rw [Ae4];omega)
 have q:cut (N.map D.str) u0 (y0 (a:Int))=(N.take a).map D.str:=by rw [WT,List.map_take]
 have p:cut (N.map D.str) (y0 (a:Int)) u0=(N.drop a).map D.str:=by rw [XS,List.map_drop]
 rw [jb (w:= .v (wD (GD (N.take a)) (GD (N.drop a)))) (h1:=h.set r (ay ns i v3)) (wh rfl (by
  simp_all [mz,q,p,o,n,jI,aw]))]
 exact Gc _ h _ (l v3)
def dP (d:D):Prop:=(∃ i:Int,d= .int i)\/(∃ b,d= .bl b)\/d= .ai\/d= .str [50]
def yY:Gg .pow 10 30=y0 1000000000000000000000000000000:=by
 have:(0:Int)<=30/\(30:Int)<=BP/\(10:Int).natAbs<gZ:=by rw [GM,GB];decide
 show(if _ then _ else _)=_
 rw [if_pos this]
 rfl
def mJ (xs a:List D) (h:AH) (b:xs.length+a.length<=100):GY .add (.l xs) (.own a) h= .ok (.own (xs++a)) h:=by
 show Kt xs a h=_
 rw [Kt,if_pos (by rw [Gi];omega)]
def tP (k:Nat){ns:List Int}{i r:Nat}{v:Int}{h:AH}(e:h[r]? =y0 (ay ns i v)): ∃(d:D) (q:Int),dP d/\call prog (k+2) "_law_size" [.r r] h= .ok (.v d) (h.set r (ay ns i q)):=by
 have u:r<h.length:=(Ab.mp e).1
 have p: ∀w,(h.set r (ay ns i w))[r]? =y0 (ay ns i w):=λw=>Ac1 u
 have s: ∀w,(h.set r (ay ns i w)).length=h.length:=λw=>Ac9 ..
 rw [Ga (d:=Wr) rfl _ _ _ rfl]
 show ∃d q,_/\Gz _ (execs _ _ [y0 (.r r),u0] h)=_
 simp only [Wr]
 obtain⟨a,v1,y,e1⟩:=Zi k e (m:=3) (by decide) (by decide)
 have e1:call prog (k+1) "_law_draw" [.r r,.v (.int 3)] h= .ok (.i a) (h.set r (ay ns i v1)):=e1
 obtain⟨b,v2,x,e2⟩:=Zi k (p v1) (m:=5) (by decide) (by decide)
 rw [Af0]at e2
 have e2:call prog (k+1) "_law_draw" [.r r,.v (.int 5)] (h.set r (ay ns i v1))= .ok (.i b) (h.set r (ay ns i v2)):=e2
 obtain⟨c,v3,z,j⟩:=Zi k (p v2) (m:=17) (by decide) (by decide)
 rw [Af0]at j
 have j:call prog (k+1) "_law_draw" [.r r,.v (.int 17)] (h.set r (ay ns i v2))= .ok (.i c) (h.set r (ay ns i v3)):=j
 obtain⟨L,f⟩: ∃L:List D,L= [.int 0,.int 1,.int 2,.int 3,.int 4,.int 0,.int 1,.int 2,.int 3,.int 4,.int (0-1-(a:Int)),.int (5+(b:Int)),.int 1000000000000000000000000000000,.bl k9,.bl y9,.ai,.str [50]]:=⟨_,rfl⟩
 have t:L.length=17:=by rw [f];rfl
 have sz: ∀d∈L,dP d:=by
  rw [f]
  intro d o
  simp only [Ab7,Al3,or_false]at o
  rcases o with rfl | rfl | rfl | rfl | rfl | rfl | rfl | rfl | rfl | rfl | rfl | rfl | rfl | rfl | rfl | rfl | rfl
  all_goals first | exact .inl ⟨_,rfl⟩ | exact .inr (.inl ⟨_,rfl⟩) | exact .inr (.inr (.inl rfl)) | exact .inr (.inr (.inr rfl))
 have g:=Ab2 (show c<L.length by omega)
 refine⟨L[c],v3,sz _ (List.getElem_mem _),?_⟩
 have n:bq L (c:Int)=y0 L[c]:=by rw [XE _ _ (by omega),g]
 rw [za (U1:= [y0 (.r r),y0 (.l (L.take 13))]) (h1:=h.set r (ay ns i v2)) (by
  subst f
  simp_all [Wp,e1,zf,e2,yY]
  rfl)]
 rw [za (U1:= [y0 (.r r),y0 (.l L)]) (h1:=h.set r (ay ns i v2)) (by
  subst f
  simp_all [List.take,mJ _ _ _ (show [D.int 0,.int 1,.int 2,.int 3,.int 4,.int 0,.int 1,.int 2,.int 3,.int 4,.int (0-1-(a:Int)),.int (5+(b:Int)),.int 1000000000000000000000000000000].length+ [D.bl k9,.bl y9,.ai,.str [50]].length<=100 by simp)])]
 have l:call prog (k+1) "_law_draw" [.r r,.i L.length] (h.set r (ay ns i v2))= .ok (.i c) (h.set r (ay ns i v3)):=by rw [t];exact j
 rw [jb (w:= .v L[c]) (h1:=h.set r (ay ns i v3)) (wh rfl (by simp_all [jO,aw,l,sO,n]))]
 exact Gc _ h _ (s v3)
def ky (n a b c:Nat):List Nat:=(dg (cL n a b) c).take a
def kv (n a b c:Nat):List Nat:=(dg (cL n a b) c).drop a
def wo (n:Nat) (K T:List Tx) (c:Nat):Wo:=⟨n,K,T,ky n K.length T.length c,kv n K.length T.length c⟩
theorem me {b c:Type}(g:b->List c) (m:Nat) (a: ∀t,(g t).length=m): ∀l:List b,(l.flatMap g).length=l.length*m
 | []=>by simp
 | t::l=>by rw [Ak9,Ab5,a,me g m a l,Ab0,Nat.add_mul];omega
def eX (n:Nat) (K T:List Tx):List Pl:=K.flatMap (dv n)++T.flatMap (d3 n)
def zW (n:Nat):Wf.bb n (2 ^ (n*n)-1)=(Aa7 (n*n)).map λk=>(k / n,k % n):=by
 rw [Wf.bb,List.filter_eq_self.mpr λk a=>by rw [Nat.testBit_two_pow_sub_one,decide_eq_true (Ag4.mp a)]]
def vS (n:Nat) (t:Tx):(dv n t).length=n:=by simp [dv]
def sJ (n:Nat) (t:Tx):(d3 n t).length=n*n:=by simp [d3,zW]
def uf (n:Nat) (K T:List Tx):(eX n K T).length=K.length*n+T.length*(n*n):=by rw [eX,Ab5,me _ _ (vS n),me _ _ (sJ n)]
def ye (k n:Nat) (A B:List D) (c:Nat) (h:AH) (b:n<=4) (h1:A.length<=4) (h2:B.length<=4) (lt:c<2 ^ (cL n A.length B.length).sum):call prog (k+5) "world_of" [.v (iC A B),.i n,.i c] h= .ok (.v (lB n (ky n A.length B.length c) (kv n A.length B.length c))) h:=by
 rw [Ga (d:=xr) rfl _ _ _ rfl]
 have f:n*n<=16:=Ag7 b b
 have p:=QP k (.n n) h rfl (by simp [xi];omega)
 have i:=lW (k+2) n A B h b h1 h2
 have a:=zV (k+3) n A B h b h1 h2
 have t:(cL n A.length B.length).sum<=100:=by
  rw [xR]
  have r:A.length*n<=4*4:=Ag7 h1 b
  have a2:B.length*(n*n)<=4*16:=Ag7 h2 f
  omega
 have o:=iW (cL n A.length B.length).sum (by omega)
 have g:=Wq (k+2) (.n c) ((2 ^ (cL n A.length B.length).sum:Nat):Int) h rfl
 have bt:xi (.n c) ((2 ^ (cL n A.length B.length).sum:Nat):Int)=true:=by
  simp only [xi,Aa1,decide_eq_true_eq];omega
 rw [bt]at g
 obtain⟨q,s,e⟩:=oe (F:=(k8 (k+4))) (x0:=sv (iC A B)) (x1:=si n) (x2:=si c) (x6:=u0) h (cL n A.length B.length) c [] u0 (λw a=>by
  rcases Ah0.mp a with a | a
  .rw [(Ai0.mp a).2];omega
  .rw [(Ai0.mp a).2];exact f) (by rw [nS];simp;omega)
 rw [Af9]at e
 simp only [xr]
 refine fx (by simp_all [p];rfl) ?_
 rw [Qd (by simp_all [i,o,g])]
 refine fx (by simp_all [];rfl) ?_
 refine fx (by simp_all [];rfl) ?_
 have m:eval (k8 (k+4)) (.call "widths" (.b .v0 .v1)) [sv (iC A B),si n,si c,some (.own []),si c,none,none] h= .ok (.own (bw (cL n A.length B.length))) h:=by
  simp_all [a]
 rw [za (by
  simp only [exec,Gr,GI,m,R.af,Ka,R.aM,R.aA]
  exact e)]
 have l:cut (bw (dg (cL n A.length B.length) c)) u0 (y0 (A.length:Int))=bw (ky n A.length B.length c):=by rw [WT,bw,←List.map_take];rfl
 have j:cut (bw (dg (cL n A.length B.length) c)) (y0 (A.length:Int)) u0=bw (kv n A.length B.length c):=by rw [XS,bw,←List.map_drop];rfl
 refine fx (by simp_all [ag,zl,zi];rfl) ?_
 rw [jb (w:= .v (lB n (ky n A.length B.length c) (kv n A.length B.length c))) (h1:=h) (wh rfl (by simp_all [AX,l,j,jI]))]
 exact Gc _ _ _ rfl
abbrev bN (n:Nat) (K T:List Tx):Nat:=K.length*n+T.length*(n*n)
def bY (n:Nat) (K T:List Tx) (S:List Sy):List (String×D):= [("words",wD K T),("sayings",.tup (S.map au)),("size",.n n),("places",.lst ((eX n K T).map cJ)),("whole",.n (2 ^ bN n K T-1))]
def Wj {h:AH}{r:Nat}{c:String}{fs:List (String×D)}(e:h[r]? =y0 (.obj c fs)):GU h (y0 (.r r))=y0 (r,c,fs):=by unfold GU;simp only [e]
def qm {F:Fx}{U:Sl}{h:AH}{i r:Nat}{c f:String}{fs:List (String×D)}{d:D}(b:h[r]? =y0 (.obj c fs)) (a:Gp U i=y0 (.r r)) (e:fs.lookup f=y0 d):eval F (.aU (.var i) c f) U h= .ok (.v d) h:=by
 rw [eval,eval,Gm,a]
 simp only [R.af,Wj b,if_true,e,R.aM,aw]
def iZ {F:Fx}{U:Sl}{h:AH}{i r:Nat}{c m q:String}{es:Es}{ws:List W}{fs:List (String×D)}(b:h[r]? =y0 (.obj c fs)) (a:Gp U i=y0 (.r r)) (e:(fs.lookup m).isNone=k9) (d:Gf F es U h= .ok ws h):eval F (.cG (.var i) c m q es) U h=F.call q (.r r::ws.map W.arg) h:=by
 rw [eval,eval,Gm,a]
 simp only [R.af,Wj b,e,and_self,if_true,d]
section
variable {n:Nat}{K T:List Tx}{S:List Sy}{ro:Nat}{h:AH}
def JM (k c:Nat) (g:cO n K T) (C:h[ro]? =y0 (.obj "Cases" (bY n K T S))) (j:c<2 ^ bN n K T):call prog (k+6) "Cases.world_of_code" [.r ro,.i c] h= .ok (.v (wo n K T c).cw) h:=by
 rw [Ga (d:=Wc) rfl _ _ _ rfl]
 have e:=ye k n (K.map .str) (T.map .str) c h g.n4 (by rw [Aa0];exact g.k4) (by rw [Aa0];exact g.t4) (by rw [xR,Aa0,Aa0];exact j)
 rw [Aa0,Aa0]at e
 simp only [Wc]
 have a:=qm (F:=(k8 (k+5))) (U:= [y0 (.r ro),si c]) (i:=0) (f:= "words") C rfl rfl
 have b:=qm (F:=(k8 (k+5))) (U:= [y0 (.r ro),si c]) (i:=0) (f:= "size") C rfl rfl
 rw [jb (w:= .v (wo n K T c).cw) (h1:=h) (wh rfl (by
  generalize E.aU _ _ _=X at a ⊢
  generalize E.aU _ _ _=Y at b ⊢
  simp_all [a,b,e]
  rfl)),Gc _ _ _ rfl]
end
def yl (L:List Pl):Gd (L.map cJ)=true:=je _ (λ_=>rfl) L
abbrev kU:Tx:= [98,114,111,107,101,110]
abbrev aF (K T:List Tx) (S:List Sy):D:= .tup [wD K T,.tup (S.map au)]
def ZS (h:AH) (a b:Cell):(h++ [a]).set h.length b=h++ [b]:=by simp
def zF (h:AH) (a:Cell):(h++ [a])[h.length]? =y0 a:=by simp
def xO (e:Ex):Gb (bD e)=k9/\dep (bD e)<=e.dp+1:=by
 induction e with
 | turned a d=>obtain⟨c,g⟩:=d;exact⟨by simp [bD,c],by simp only [bD,dep,GE,Ex.dp];omega⟩
 | closed a d=>obtain⟨c,g⟩:=d;exact⟨by simp [bD,c],by simp only [bD,dep,GE,Ex.dp];omega⟩
 | plus a b d k=>obtain⟨c,g⟩:=d;obtain⟨f,h⟩:=k;exact⟨by simp [bD,c,f],by simp only [bD,dep,GE,Ex.dp];omega⟩
 | less a b d k=>obtain⟨c,g⟩:=d;obtain⟨f,h⟩:=k;exact⟨by simp [bD,c,f],by simp only [bD,dep,GE,Ex.dp];omega⟩
 | both a b d k=>obtain⟨c,g⟩:=d;obtain⟨f,h⟩:=k;exact⟨by simp [bD,c,f],by simp only [bD,dep,GE,Ex.dp];omega⟩
 | joined a b d k=>obtain⟨c,g⟩:=d;obtain⟨f,h⟩:=k;exact⟨by simp [bD,c,f],by simp only [bD,dep,GE,Ex.dp];omega⟩
 | _=>exact⟨rfl,by simp [bD]⟩
def uv (s:Sy):Gb (au s)=k9/\dep (au s)<=s.dp+2:=by
 induction s with
 | fact f=>
  cases f with
  | mr a b=>obtain⟨c,d⟩:=xO a;obtain⟨e,h⟩:=xO b;exact⟨by simp [au,dc,c,e],by simp only [au,dc,dep,GE,Sy.dp,Fc.dp];omega⟩
  | kX a b=>obtain⟨c,d⟩:=xO a;obtain⟨e,h⟩:=xO b;exact⟨by simp [au,dc,c,e],by simp only [au,dc,dep,GE,Sy.dp,Fc.dp];omega⟩
  | iV a=>obtain⟨c,d⟩:=xO a;exact⟨by simp [au,dc,c],by simp only [au,dc,dep,GE,Sy.dp,Fc.dp];omega⟩
  | ai a=>obtain⟨c,d⟩:=xO a;exact⟨by simp [au,dc,c],by simp only [au,dc,dep,GE,Sy.dp,Fc.dp];omega⟩
  | cnt t j a=>obtain⟨c,d⟩:=xO a;exact⟨by simp [au,dc,c],by simp only [au,dc,dep,GE,Sy.dp,Fc.dp];omega⟩
 | neg a g=>obtain⟨c,d⟩:=g;exact⟨by simp [au,c],by simp only [au,dep,GE,Sy.dp];omega⟩
 | gG a b g k=>obtain⟨c,d⟩:=g;obtain⟨e,h⟩:=k;exact⟨by simp [au,c,e],by simp only [au,dep,GE,Sy.dp];omega⟩
 | fY a b g k=>obtain⟨c,d⟩:=g;obtain⟨e,h⟩:=k;exact⟨by simp [au,c,e],by simp only [au,dep,GE,Sy.dp];omega⟩
def Zf (k:Nat){n:Nat}{K T:List Tx}(g:cO n K T) (h:AH):call prog (k+5) "check_bits" [.v (wD K T),.i n,.v (.int 16)] h= .ok (.v .ai) h:=by
 have n4:=g.n4
 have c:=g.b6
 have b:=QP k (.n n) h rfl (by simp [xi];omega)
 have a:=lW (k+2) n (K.map .str) (T.map .str) h n4 (by rw [Aa0];exact g.k4) (by rw [Aa0];exact g.t4)
 rw [Aa0,Aa0,xR]at a
 rw [Ga (d:=aL) rfl _ _ _ rfl]
 simp only [aL]
 refine fx (by simp_all [b];rfl) ?_
 refine fx (by simp_all [a];rfl) ?_
 have z:Gy .gt (.i (bN n K T)) (.v (.int 16)) h=y0 (u9 (16<bN n K T)):=mn 16 (bN n K T) h
 rw [decide_eq_false (by show ¬16<K.length*n+T.length*(n*n);omega)]at z
 rw [Qd (by simp_all [z]),execs]
 exact GC _ h _ rfl
def XC {F:Fx}{U:Sl}{g:AH}{i:Nat}{c f:String}{fs:List (String×D)}{e:E}{d:D}(a:eval F e U (g++ [.obj c fs])= .ok (.v d) (g++ [.obj c fs])) (b:Gp U i=y0 (.r g.length)) (j:Gb d=k9) (h:fs.length<100):exec F (.bf i c f e) U (g++ [.obj c fs])= .next U (g++ [.obj c (aJ f d fs)]):=by
 rw [exec,a,R.aA]
 simp only [b,Wj (zF g (.obj c fs)),j,h,and_self,if_true,ZS]
def ub {F:Fx}{U:Sl}{g:AH}{i:Nat}{c f:String}{fs:List (String×D)}{e:E}{xs:List D}(a:eval F e U (g++ [.obj c fs])= .ok (.own xs) (g++ [.obj c fs])) (b:Gp U i=y0 (.r g.length)) (h:Gd xs=k9) (d:fs.length<100):exec F (.bB i c f e) U (g++ [.obj c fs])= .next U (g++ [.obj c (aJ f (.lst xs) fs)]):=by
 rw [exec,a,R.aA]
 simp only [W.ew,b,Wj (zF g (.obj c fs)),show Gb (.lst xs)=k9 from h,d,and_self,if_true,ZS]
def yJ (k:Nat){n:Nat}{K T:List Tx}{S:List Sy}(g:cO n K T) (h:AH):call prog (k+4) "Cases.__init__" [.r h.length,.v (aF K T S),.i n] (h++ [.obj "Cases" []])= .ok (.v .ai) (h++ [Cell.obj "Cases" (bY n K T S)]):=by
 rw [Ga (d:=zg) rfl _ _ _ rfl]
 show Gz _ (execs _ _ [y0 (.r h.length),sv (aF K T S),si n] (h++ [.obj "Cases" []]))=_
 simp only [zg]
 have r:Gb (wD K T)=true:=by
  show(Gd (K.map .str)&&(Gd (T.map .str)&&k9))=k9
  rw [jh,jh];rfl
 have o:Gb (.tup (S.map au))=true:=je _ (λs=>(uv s).1) S
 have q: ∀a,eval (k8 (k+3)) (.ix .v1 (.int 0)) [y0 (.r h.length),sv (aF K T S),si n] a= .ok (.v (wD K T)) a:=λa=>by simp_all [ag,zl]
 have j: ∀a,eval (k8 (k+3)) (.ix .v1 (.int 1)) [y0 (.r h.length),sv (aF K T S),si n] a= .ok (.t (S.map au)) a:=λa=>by simp_all [ag,Xq]
 rw [za (XC (fs:= []) (q _) rfl r (show 0<100 by decide))]
 rw [za (XC (fs:=aJ "words" (wD K T) []) (j _) rfl o (show 1<100 by decide))]
 rw [za (XC (fs:=aJ "sayings" (.tup (S.map au)) (aJ "words" (wD K T) [])) (d:= .n n) (by simp_all []) rfl rfl (show 2<100 by decide))]
 have c: ∀a,eval (k8 (k+3)) (.call "places_of" (.b (.ix .v1 (.int 0)) .v2)) [some (.r h.length),sv (aF K T S),si n] a= .ok (.own ((eX n K T).map cJ)) a:=fun a=>by
  have e:=Cb k n K T a g.n4 g.k4 g.t4
  simp_all [ag,zl,e]
  rfl
 rw [za (ub (fs:=aJ "size" (.n n) (aJ "sayings" (.tup (S.map au)) (aJ "words" (wD K T) []))) (c _) rfl (yl _) (show 3<100 by decide))]
 have l:aJ "places" (.lst ((eX n K T).map cJ)) (aJ "size" (.n n) (aJ "sayings" (.tup (S.map au)) (aJ "words" (wD K T) [])))= [("words",wD K T),("sayings",.tup (S.map au)),("size",.n n),("places",.lst ((eX n K T).map cJ))]:=rfl
 rw [l]
 have t:=g.b6
 have m:=iW (bN n K T) (by show K.length*n+T.length*(n*n)<=_;omega)
 have p:((2 ^ bN n K T:Nat):Int)-1=((2 ^ bN n K T-1:Nat):Int):=by
  have:=Aj6 (bN n K T)
  omega
 rw [za (XC (d:= .n (2 ^ bN n K T-1)) (by
  have b:=qm (F:=(k8 (k+3))) (U:= [y0 (.r h.length),sv (aF K T S),si n]) (i:=0) (f:= "places") (zF h (.obj "Cases" [("words",wD K T),("sayings",.tup (S.map au)),("size",.n n),("places",.lst ((eX n K T).map cJ))])) rfl rfl
  generalize E.aU _ _ _=X at b ⊢
  simp_all [b,jO,aw,Aa0,uf,m,Wp,p]) rfl rfl (by simp))]
 rw [execs]
 exact GC _ _ _ (by simp)
def Bo {F:Fx}{U:Sl}{h:AH}{a:E}{r:Nat}{c m q:String}{es:Es}{ws:List W}{fs:List (String×D)}(b:eval F a U h= .ok (.r r) h) (d:h[r]? =y0 (.obj c fs)) (f:(fs.lookup m).isNone=k9) (e:Gf F es U h= .ok ws h):eval F (.cG a c m q es) U h=F.call q (.r r::ws.map W.arg) h:=by
 rw [eval,b,R.af]
 simp only [Wj d]
 rw [if_pos ⟨trivial,f⟩,e,R.af]
def vy {F:Fx}{U:Sl}{h:AH}{a:E}{r:Nat}{c f:String}{d:D}{fs:List (String×D)}(b:eval F a U h= .ok (.r r) h) (e:h[r]? =y0 (.obj c fs)) (g:fs.lookup f=y0 d):eval F (.aU a c f) U h= .ok (.v d) h:=by
 rw [eval,b,R.af]
 simp only [Wj e]
 rw [if_pos trivial,g]
 rfl
abbrev QD:Tx:= [119,111,114,108,100]
abbrev Xk:Tx:= [112,97,112,101,114]
section
variable {n q:Nat}{K T:List Tx}{S:List Sy}
def zP (xs a:List D) (h:AH) (b:xs.length+a.length<=100):GY .add (.t xs) (.t a) h= .ok (.t (xs++a)) h:=by
 rw [A3,if_pos (by rw [Gi];omega)]
def Az {h h':AH}(p:Gw h=k9) (a:Gw h'=k9):Gw (h++h')=true:=by
 rw [Gw,List.all_append,show h.all Cell.pure=k9 from p,show h'.all Cell.pure=k9 from a]
 rfl
def mD {d:D}{h h':AH}(b:Gb d=k9) (a:Gw h=k9):Gz h.length (.ret (.v d) (h++h'))= .ok (.v d) h:=by
 have e:(h++h').take h.length=h:=List.take_left' rfl
 obtain⟨x,e1,e2⟩:=y6 (d:=d) (n:=h.length) (h:=h++h') b (by simp) (by rw [e];exact a)
 rw [e1,e2,e]
def kJ (k:Nat) (a:S.length<=11) (h:AH):call prog (k+1) "check_room" [.v (aF K T S)] h= .ok (.v .ai) h:=by
 rw [Ga (d:=Qf) rfl _ _ _ rfl]
 simp only [Qf]
 have c:Gy .ge (.i S.length) (.v (.int 12)) h=y0 false:=by
  show y0 (u9 ((12:Int)<=(S.length:Int)))=_
  rw [decide_eq_false (by omega)]
 rw [Qd (by simp_all [ag,Xq,aw,zi,List.length_map,show List.lookup "MOST_SAYINGS" prog.con=some (.int 12)from rfl,c]),execs]
 exact GC _ _ _ rfl
end
def Bg (k n:Nat) (h:AH):call prog (k+1) "made" [.i n,.s xk,.l []] h= .ok (.v (.int 0)) h:=by
 rw [Ga (d:=Z0) rfl _ _ _ rfl]
 simp only [Z0]
 rw [Qd (by simp_all [xb];rfl),Qd (by simp_all [xb];rfl),Zr (w:= .v (.int 0)) (by simp_all [xb];rfl) rfl]
 exact Gc _ _ _ rfl
def vb (k n:Nat){w u:D}{r:List D}(h:AH):call prog (k+2) "bounds" [.v w,.t [.tup (.n n::r),u],.t [.str xk]] h= .ok (.v (.tup [.int 0,.int 0])) h:=by
 rw [Ga (d:=JE) rfl _ _ _ rfl]
 have b:=Bg k n h
 have a:eJ (.t [.str xk]) (y0 1) u0 h= .ok (.t []) h:=rfl
 simp only [JE]
 refine fx (by simp_all [ag,qh];rfl) ?_
 rw [Qd (by simp_all [xb];rfl)]
 refine fx (by rw [exec,Jz,kY (by simp_all [a])];rfl) ?_
 refine fx (by rw [exec,ZB,kY (by simp_all [])];rfl) ?_
 refine fx (by rw [exec,zz,kY (by simp_all [])];rfl) ?_
 rw [Qd (by simp_all [xb];rfl)]
 refine fx (by simp_all [ag,qh];rfl) ?_
 rw [jb (w:= .v (.tup [.int 0,.int 0])) (h1:=h) (wh rfl (by simp_all [b]))]
 exact Gc _ _ _ rfl
def wG (k n:Nat) (s:Tx) (e:n<=4) (c:s∈ [qk,Xw]) (h:AH):call prog (k+2) "counts" [.i n,.s s,.v (.int 0)] h= .ok (.own [.n 0]) h:=by
 rw [Ga (d:=qF) rfl _ _ _ rfl]
 have a:=qz k n 0 h (by omega)
 rw [show Wf.bb n 0= []by simp [Wf.bb]]at a
 have a:call prog (k+1) "pairs_of" [.i n,.v (.int 0)] h= .ok (.own []) h:=a
 simp only [qF]
 refine fx (by simp_all [a];rfl) ?_
 have b:=JP s qk Xw h
 rw [decide_eq_true c]at b
 rw [Zr (w:= .own [.n 0]) (by simp_all [b]) (ZD rfl (by simp_all [jO,aw];rfl))]
 exact Gs _ _ _ rfl
def W6 (k n:Nat) (i:n<=4) (h:AH):call prog (k+3) "count_told" [.i n,.s Xw,.v (.int 0),.t [.int 0,.int 0]] h= .ok (.b true) h:=by
 rw [Ga (d:=wf) rfl _ _ _ rfl]
 have e:=wG k n Xw i (by decide) h
 have f:=Wx (k+1) k9 y9 h
 simp only [wf]
 refine fx (by simp_all [ag,zl,e];rfl) ?_
 refine fx (by simp_all [ag,Xq,e];rfl) ?_
 have a:=JP Xw qk QT h
 rw [decide_eq_false (by decide)]at a
 rw [Qd (by simp_all [a])]
 have g:eval (k8 (k+2)) Qi [si n,y0 (.s Xw),y0 (.v (.int 0)),y0 (.t [.int 0,.int 0]),y0 (.l [.n 0]),y0 (.l [.n 0])] h= .ok (.own ([k9].map .bl)) h:=by
  rw [Qi,qT (d:= .n 0) (y:= .bl k9) (by simp_all []) (by simp_all [WI];rfl)];rfl
 have a2:eval (k8 (k+2)) zj [si n,y0 (.s Xw),y0 (.v (.int 0)),y0 (.t [.int 0,.int 0]),y0 (.l [.n 0]),y0 (.l [.n 0])] h= .ok (.own ([y9].map .bl)) h:=by
  rw [zj,qT (d:= .n 0) (y:= .bl y9) (by simp_all []) (by simp_all [n0];rfl)];rfl
 rw [jb (w:= .b k9) (h1:=h) (wh rfl (by
  have c:=XU g
  have b:=QR a2
  generalize E.bi _ _=X at c ⊢
  generalize E.bi _ _=Y at b ⊢
  simp_all [c,b]
  exact f))]
 exact Gc _ _ _ rfl
def ZY (k n:Nat) (i:n<=4) (h:AH):call prog (k+3) "count_told" [.i n,.s qk,.v (.int 1),.t [.int 0,.int 0]] h= .ok (.b false) h:=by
 rw [Ga (d:=wf) rfl _ _ _ rfl]
 have e:=wG k n qk i (by decide) h
 have f:=Wx (k+1) y9 k9 h
 simp only [wf]
 refine fx (by simp_all [ag,zl,e];rfl) ?_
 refine fx (by simp_all [ag,Xq,e];rfl) ?_
 have a:=JP qk qk QT h
 rw [decide_eq_true (by decide)]at a
 have g:eval (k8 (k+2)) qj [si n,y0 (.s qk),y0 (.v (.int 1)),y0 (.t [.int 0,.int 0]),y0 (.l [.n 0]),y0 (.l [.n 0])] h= .ok (.own ([y9].map .bl)) h:=by
  rw [qj,qT (d:= .n 0) (y:= .bl y9) (by simp_all []) (by simp_all [rh];rfl)];rfl
 have a2:eval (k8 (k+2)) Ji [si n,y0 (.s qk),y0 (.v (.int 1)),y0 (.t [.int 0,.int 0]),y0 (.l [.n 0]),y0 (.l [.n 0])] h= .ok (.own ([k9].map .bl)) h:=by
  rw [Ji,qT (d:= .n 0) (y:= .bl k9) (by simp_all []) (by simp_all [lJ];rfl)];rfl
 rw [Zr (w:= .b y9) (by simp_all [a]) (wh rfl (by
  have c:=XU g
  have b:=QR a2
  generalize E.bi _ _=X at c ⊢
  generalize E.bi _ _=Y at b ⊢
  simp_all [c,b]
  exact f))]
 exact Gc _ _ _ rfl
abbrev sN:Sy:= .fact (.ai .none)
abbrev sS:Sy:= .fact (.iV .none)
def uD (k n:Nat) (c:n<=4){w u:D}{r:List D}(h:AH) (b:Bool):call prog (k+4) "fact_told" [.v w,.t [.tup (.n n::r),u],.v (au (if b then sN else sS))] h= .ok (.b b) h:=by
 rw [Ga (d:=Qm) rfl _ _ _ rfl]
 have a:=vb (k+1) n (w:=w) (u:=u) (r:=r) h
 have e1:=W6 k n c h
 have e2:=ZY k n c h
 simp only [Qm]
 cases b
 .refine fx (by simp_all [ag,au,dc,Ad5,if_false,qh];rfl) ?_
  refine fx (by simp_all [ag,qh];rfl) ?_
  refine fx (by simp_all [ag,au,dc,Ad5,if_false,X5,ZT,bD,a];rfl) ?_
  rw [Zr (w:= .b y9) (by simp_all [xb];rfl) (wh rfl (by simp_all [e2]))]
  exact Gc _ _ _ rfl
 .refine fx (by simp_all [ag,au,dc,if_true,qh];rfl) ?_
  refine fx (by simp_all [ag,qh];rfl) ?_
  refine fx (by simp_all [ag,au,dc,if_true,X5,ZT,bD,a];rfl) ?_
  rw [Qd (by simp_all [xb];rfl),Zr (w:= .b k9) (by simp_all [xb];rfl) (wh rfl (by simp_all [e1]))]
  exact Gc _ _ _ rfl
def J6 (k n:Nat) (a:n<=4){w u:D}{r:List D}(h:AH) (b:Bool):call prog (k+5) "told" [.v w,.t [.tup (.n n::r),u],.v (au (if b then sN else sS))] h= .ok (.b b) h:=by
 rw [Ga (d:=xJ) rfl _ _ _ rfl]
 have e:=uD k n a (w:=w) (u:=u) (r:=r) h b
 simp only [xJ]
 cases b
 .refine fx (by simp_all [ag,au,dc,Ad5,if_false,qh];rfl) ?_
  rw [Qd (by simp_all [xb];rfl),Qd (by simp_all [xb];rfl),Qd (by simp_all [xb];rfl)]
  rw [jb (w:= .b y9) (h1:=h) (wh rfl (by simp_all [];exact e))]
  exact Gc _ _ _ rfl
 .refine fx (by simp_all [ag,au,dc,if_true,qh];rfl) ?_
  rw [Qd (by simp_all [xb];rfl),Qd (by simp_all [xb];rfl),Qd (by simp_all [xb];rfl)]
  rw [jb (w:= .b k9) (h1:=h) (wh rfl (by simp_all [];exact e))]
  exact Gc _ _ _ rfl
def mQ (k n:Nat) (a:n<=4){w u:D}{r:List D}(h:AH) (b:Bool):call prog (k+6) "told" [.v w,.t [.tup (.n n::r),u],.v (au (.neg (if b then sN else sS)))] h= .ok (.b (!b)) h:=by
 rw [Ga (d:=xJ) rfl _ _ _ rfl]
 have e:=J6 k n a (w:=w) (u:=u) (r:=r) h b
 have e2:=xY (k:=k+3) (r:=y0 b) (h:=h)
 have e2:call prog (k+5) "not_told" [.b b] h= .ok (.b (!b)) h:=e2
 simp only [xJ]
 refine fx (by simp_all [ag,au,qh];rfl) ?_
 rw [Zr (w:= .b (!b)) (by simp_all [xb];rfl) (wh rfl (by simp_all [ag,au,Xq,e,e2]))]
 exact Gc _ _ _ rfl
inductive Sk:Sy->Bool->Prop
 | p:Sk sN k9
 | n:Sk (.neg sN) y9
 | s:Sk (.neg sS) k9
def yz (k n:Nat) (a:n<=4){w u:D}{r:List D}(h:AH){s:Sy}{b:Bool}(c:Sk s b):call prog (k+6) "told" [.v w,.t [.tup (.n n::r),u],.v (au s)] h= .ok (.b b) h:=by
 cases c with
 | p=>exact J6 (k+1) n a h k9
 | n=>exact mQ k n a h k9
 | s=>exact mQ k n a h y9
def ly (k:Nat) (h:AH):call prog (k+1) "names_in" [.v (bD .none)] h= .ok (.own []) h:=by
 rw [Ga (d:=xj) rfl _ _ _ rfl]
 simp only [xj,bD]
 rw [Qd (by simp_all [ag,qh,xb];rfl)]
 refine fx (by simp_all [];rfl) ?_
 refine fx (U1:= [y0 (.t [.str xk]),y0 (.own []),u0]) (h1:=h) (by
  rw [exec,show Gr (k8 k) (.seq (.dG .v0 (.int 1))) [y0 (.t [.str xk]),y0 (.own []),u0] h= .ok [] h from rfl]
  rfl) ?_
 rw [jb (w:= .own []) (h1:=h) rfl]
 exact Gs _ _ _ rfl
def W0 (k:Nat) (s:Tx) (a:(s==mO)=y9) (xs:List D) (h:AH) (e:call prog k "names_in" [.t xs] h= .ok (.own []) h):call prog (k+1) "names_in" [.t [.str s,.tup xs]] h= .ok (.own []) h:=by
 rw [Ga (d:=xj) rfl _ _ _ rfl]
 simp only [xj]
 rw [Qd (by simp_all [ag,qh,xb,a])]
 refine fx (by simp_all [];rfl) ?_
 have L:(0:Nat)<aX:=by rw [Gi];decide
 refine fx (U1:= [y0 (.t [.str s,.tup xs]),y0 (.own []),y0 (.t xs)]) (h1:=h) (by
  rw [exec,show Gr (k8 k) (.seq (.dG .v0 (.int 1))) [y0 (.t [.str s,.tup xs]),y0 (.own []),u0] h= .ok [.tup xs] h from rfl,R.aA]
  refine(Qb (bnd:=Gn [2] k9) (U1:= [y0 (.t [.str s,.tup xs]),y0 (.own []),y0 (.t xs)]) (U2:= [y0 (.t [.str s,.tup xs]),y0 (.own []),y0 (.t xs)]) (h2:=h) rfl ?_).trans rfl
  show execs _ wk _ h=_
  unfold wk
  refine(za ((XZ (h1:=h) (by simp_all [pM];rfl)).trans ?_)).trans rfl
  refine(za ?_).trans rfl
  rw [exec]
  simp_all [e,Ac7,Nat.add_zero,L,if_true,Ac2]) ?_
 rw [jb (w:= .own []) (h1:=h) rfl]
 exact Gs _ _ _ rfl
def vc (k:Nat) (h:AH){s:Sy}{b:Bool}(a:Sk s b):call prog (k+3) "names_in" [.v (au s)] h= .ok (.own []) h:=by
 cases a with
 | p=>exact W0 (k+2) iK rfl [.str xk] h (ly (k+1) h)
 | n=>exact W0 (k+2) kO rfl [.str iK,.tup [.str xk]] h (W0 (k+1) iK rfl [.str xk] h (ly k h))
 | s=>exact W0 (k+2) kO rfl [.str j8,.tup [.str xk]] h (W0 (k+1) j8 rfl [.str xk] h (ly k h))
theorem ou {F:Fx}{ro:Nat}{s:D}{h:AH}: ∀(b:List Pl) (i:Nat) (x y:Option W),∃j L,Gv (Gn [4,5] y9) (λU h=>execs F Je U h) (GL i (b.map cJ)) [y0 (.r ro),sv s,y0 (.l []),si 0,x,y] h= .next [y0 (.r ro),sv s,y0 (.l []),si 0,j,L] h
 | [],i,x,y=>⟨x,y,rfl⟩
 | p::b,i,x,y=>by
  obtain⟨j,L,e⟩:=ou (F:=F) (ro:=ro) (s:=s) (h:=h) b (i+1) (si i) (sv (cJ p))
  refine⟨j,L,?_⟩
  rw [Ac4,GL,Qb (U1:= [y0 (.r ro),sv s,y0 (.l []),si 0,si i,sv (cJ p)]) (U2:= [y0 (.r ro),sv s,y0 (.l []),si 0,si i,sv (cJ p)]) (h2:=h) rfl,e]
  show execs F Je _ h=_
  unfold Je
  have i0:dm (.v (cJ p)) (.v (.int 0)) h=y0 (.str p.1):=rfl
  have a:=xv p.1 [] (.l []) h rfl rfl
  have a:Gy .mem (.s p.1) (.l []) h=y0 false:=a
  rw [Qd (by simp_all [i0,a]),execs]
section
variable {n:Nat}{K T:List Tx}{S:List Sy}
def Av (k:Nat){ro:Nat}{h:AH}(C:h[ro]? =y0 (.obj "Cases" (bY n K T S))){s:Sy}{b:Bool}(c:Sk s b):call prog (k+4) "needed_bits" [.r ro,.v (au s)] h= .ok (.i 0) h:=by
 rw [Ga (d:=Qj) rfl _ _ _ rfl]
 have e1:=vc k h c
 obtain⟨x,y,e2⟩:=ou (F:=(k8 (k+3))) (ro:=ro) (s:=au s) (h:=h) (eX n K T) 0 u0 u0
 simp only [Qj]
 refine fx (U1:= [y0 (.r ro),sv (au s),y0 (.l []),u0,u0,u0]) (h1:=h) (by simp_all [e1]) ?_
 refine fx (U1:= [y0 (.r ro),sv (au s),y0 (.l []),si 0,u0,u0]) (h1:=h) rfl ?_
 refine fx (U1:= [y0 (.r ro),sv (au s),y0 (.l []),si 0,x,y]) (h1:=h) (by
  have a:=qm (F:=(k8 (k+3))) (U:= [y0 (.r ro),sv (au s),y0 (.l []),si 0,u0,u0]) (i:=0) (f:= "places") C rfl rfl
  rw [exec,show Gr (k8 (k+3)) (.bO (.aU .v0 "Cases" "places")) [some (.r ro),sv (au s),some (.l []),si 0,none,none] h= .ok (GL 0 ((eX n K T).map cJ)) h by
   show Gk _ _ _ h=_
   rw [Gk,a];rfl,R.aA]
  exact e2) ?_
 rw [jb (w:= .i 0) (h1:=h) rfl]
 exact Gc _ _ _ rfl
def cW (S:List Sy) (a:Nat):List (String×D):= [("cases",.ref a),("needs",.lst (S.map fun _=> .n 0))]
structure Se (n:Nat) (K T:List Tx) (S:List Sy) (rs rc:Nat) (h:AH):Prop where
 se:h[rs]? =y0 (.obj "Search" (cW S rc))
 cs:h[rc]? =y0 (.obj "Cases" (bY n K T S))
def uK (S:List Sy):Gd (S.map λ_=>D.n 0)=true:=je _ (λ_=>rfl) S
def tX (k:Nat) (g:cO n K T) (t: ∀s∈S,∃b,Sk s b) (A:S.length<=100) (h:AH):call prog (k+5) "Search.__init__" [.r h.length,.v (aF K T S),.i n] (h++ [.obj "Search" []])= .ok (.v .ai) (h++ [.obj "Search" (cW S (h.length+1)),.obj "Cases" (bY n K T S)]):=by
 have e1:=yJ k (S:=S) g (h++ [Cell.obj "Search" []])
 have j:(h++ [Cell.obj "Search" []]).length=h.length+1:=by simp
 rw [j]at e1
 rw [Ga (d:=We) rfl _ _ _ rfl]
 show Gz _ (execs _ _ [y0 (.r h.length),sv (aF K T S),si n] (h++ [.obj "Search" []]))=_
 simp only [We]
 have p: ∀fs x,GU (h++ [Cell.obj "Search" fs]++x) (some (.r h.length))=some (h.length, "Search",fs):=fun fs x=>Wj (by simp)
 have l: ∀fs a x,(h++ [Cell.obj "Search" fs]++x).set h.length (.obj "Search" a)=h++ [Cell.obj "Search" a]++x:=fun fs a x=>by simp
 have mk:eval (k8 (k+4)) (.make "Cases" "Cases.__init__" (.b .v1 .v2)) [some (.r h.length),sv (aF K T S),si n] (h++ [.obj "Search" []])= .ok (.r (h.length+1)) (h++ [.obj "Search" []]++ [.obj "Cases" (bY n K T S)]):=by
  simp_all [j,e1,aw]
 rw [za (U1:= [y0 (.r h.length),sv (aF K T S),si n]) (h1:=h++ [.obj "Search" [("cases",.ref (h.length+1))]]++ [.obj "Cases" (bY n K T S)]) (by
  rw [exec,mk,R.aA]
  simp only [Gp,p,Ac7,show(0:Nat)<100 by decide,and_self,if_true,l]
  rfl)]
 have o:(h++ [Cell.obj "Search" [("cases",.ref (h.length+1))]]++ [Cell.obj "Cases" (bY n K T S)])[h.length+1]? =some (.obj "Cases" (bY n K T S)):=by simp
 have c:(h++ [Cell.obj "Search" [("cases",.ref (h.length+1))]]++ [Cell.obj "Cases" (bY n K T S)])[h.length]? =some (.obj "Search" [("cases",.ref (h.length+1))]):=by simp
 have r:=p [("cases",.ref (h.length+1))] [Cell.obj "Cases" (bY n K T S)]
 have q:=l [("cases",.ref (h.length+1))] (cW S (h.length+1)) [Cell.obj "Cases" (bY n K T S)]
 have v:h++ [Cell.obj "Search" (cW S (h.length+1))]++ [Cell.obj "Cases" (bY n K T S)]=h++ [.obj "Search" (cW S (h.length+1)),.obj "Cases" (bY n K T S)]:=by simp
 generalize h++ [Cell.obj "Search" [("cases",.ref (h.length+1))]]++ [Cell.obj "Cases" (bY n K T S)]=H at o c r q ⊢
 have comp:eval (k8 (k+4)) ze [y0 (.r h.length),sv (aF K T S),si n] H= .ok (.own (S.map λ_=> .n 0)) H:=by
  unfold ze
  rw [wN (h:=H) (ds:=S.map au) (λ_=> .n 0) (by simp_all [ag,Xq]) (by rw [Gi,Aa0];omega),Af2]
  .rfl
  intro d w
  obtain⟨s,z,rfl⟩:=Af1.mp w
  obtain⟨b,u⟩:=t s z
  refine⟨[sv (au s),y0 (.r h.length)],rfl,.i 0,?_,rfl⟩
  have e:=Av k o u
  have m:=qm (F:=(k8 (k+4))) (U:= [sv (au s),y0 (.r h.length)]) (i:=1) (f:= "cases") c rfl rfl
  generalize E.aU _ _ _=X at m ⊢
  simp_all [m,e]
 rw [za (U1:= [y0 (.r h.length),sv (aF K T S),si n]) (h1:=h++ [.obj "Search" (cW S (h.length+1)),.obj "Cases" (bY n K T S)]) (by
  rw [exec,comp,R.aA]
  simp only [W.ew,Gp,r,show Gb (.lst (S.map λ_=>D.n 0))=k9 from uK S,Ab0,Ac7,show(0+1:Nat)<100 by decide,and_self,if_true]
  rw [show (aJ "needs" (.lst (S.map fun _=> .n 0)) [("cases",.ref (h.length+1))])=cW S (h.length+1)from rfl,q,v]),execs]
 show fin _ (.v .ai) _=_
 unfold fin
 have y:Gw ((h++ [Cell.obj "Search" (cW S (h.length+1)),.obj "Cases" (bY n K T S)]).take (h++ [Cell.obj "Search" []]).length)=false:=by
  rw [j,show h++ [Cell.obj "Search" (cW S (h.length+1)),.obj "Cases" (bY n K T S)]=h++ [Cell.obj "Search" (cW S (h.length+1))]++ [.obj "Cases" (bY n K T S)]by simp,List.take_left' (by simp),Gw,List.all_append]
  show(h.all Cell.pure&&y9)=y9
  rw [Ak1]
 rw [if_neg (by simp),y,Ak1,if_neg Aa4]
end
section
variable {n:Nat}{K T:List Tx}{S:List Sy}
def rD (k j:Nat) (g:cO n K T){ro:Nat}{h:AH}(C:h[ro]? =some (.obj "Cases" (bY n K T S))){s:Sy}{b:Bool}(t:S[j]? =some s) (hb:Sk s b):call prog (k+7) "Cases.truth" [.r ro,.i j,.v (.int 0),.i (2 ^ bN n K T-1)] h= .ok (.b b) h:=by
 have p:=Aj6 (bN n K T)
 rw [Ga (d:=jk) rfl _ _ _ rfl]
 simp only [jk]
 show Gz _ (execs _ _ [y0 (.r ro),si j,y0 (.i 0),si (2 ^ bN n K T-1),u0] h)=_
 have a:=iZ (F:=(k8 (k+6))) (U:= [y0 (.r ro),si j,y0 (.i 0),si (2 ^ bN n K T-1),u0]) (i:=0) (m:= "world_of_code") (q:= "Cases.world_of_code") (es:= .cons .v2 .nil) (ws:= [.i 0]) C rfl rfl (by simp_all [])
 have c:=iZ (F:=(k8 (k+6))) (U:= [y0 (.r ro),si j,y0 (.i 0),si (2 ^ bN n K T-1),u0]) (i:=0) (m:= "world_of_code") (q:= "Cases.world_of_code") (es:= .cons .v3 .nil) (ws:= [.i (2 ^ bN n K T-1)]) C rfl rfl (by simp_all [])
 have a:=a.trans (JM k 0 g C p)
 have c:=c.trans (JM k (2 ^ bN n K T-1) g C (by omega))
 have u:j<S.length:=(Ab.mp t).1
 have l:bq (S.map au) (j:Int)=y0 (au s):=by rw [XE _ _ (by rw [Aa0];exact u),Ad9,t];rfl
 rw [za (U1:= [y0 (.r ro),si j,y0 (.i 0),si (2 ^ bN n K T-1),sv (iQ (wo n K T 0) (wo n K T (2 ^ bN n K T-1)))]) (h1:=h) (by
  generalize E.cG _ _ _ _ _=X at a ⊢
  generalize E.cG _ _ _ _ _=Y at c ⊢
  simp_all [a,c])]
 have o:=qm (F:=(k8 (k+6))) (U:= [y0 (.r ro),si j,y0 (.i 0),si (2 ^ bN n K T-1),sv (iQ (wo n K T 0) (wo n K T (2 ^ bN n K T-1)))]) (i:=0) (f:= "words") C rfl rfl
 have r:=qm (F:=(k8 (k+6))) (U:= [y0 (.r ro),si j,y0 (.i 0),si (2 ^ bN n K T-1),sv (iQ (wo n K T 0) (wo n K T (2 ^ bN n K T-1)))]) (i:=0) (f:= "sayings") C rfl rfl
 have e:call prog (k+6) "told" [.v (wD K T),.v (iQ (wo n K T 0) (wo n K T (2 ^ bN n K T-1))),.v (au s)] h= .ok (.b b) h:=yz k n g.n4 h hb
 rw [jb (w:= .b b) (h1:=h) (wh rfl (by
  generalize E.aU _ _ _=X at o ⊢
  generalize E.aU _ _ _=Y at r ⊢
  simp_all [o,r,ag,l,e])),Gc _ _ _ rfl]
abbrev dj (a:Nat) (w:W) (z:Nat) (x y:Option W):Sl:= [y0 (.r a),y0 w,y0 (.v (.int 0)),si z,y0 (.l []),x,y]
def J2 (k j:Nat) (g:cO n K T){a l:Nat}{H:AH}{j0:W}(c:Se n K T S a l H){s:Sy}{b:Bool}(h:S[j]? =y0 s) (hb:Sk s b) (y:Option W):execs (k8 (k+7)) Ja (dj a j0 (2 ^ bN n K T-1) (si j) y) H=if b then .next (dj a j0 (2 ^ bN n K T-1) (si j) (y0 (.b b))) H else .ret (.t [.str Xk,.tup [.str kU,.n j]]) H:=by
 have e1:=rD k j g c.cs h hb
 have d:=qm (F:=(k8 (k+7))) (U:=dj a j0 (2 ^ bN n K T-1) (si j) y) (i:=0) (f:= "cases") c.se rfl rfl
 have e:eval (k8 (k+7)) (.cG (.aU .v0 "Search" "cases") "Cases" "truth" "Cases.truth" (.c .v5 .v2 .v3)) (dj a j0 (2 ^ bN n K T-1) (si j) y) H= .ok (.b b) H:=by
  generalize E.aU _ _ _=X at d ⊢
  rw [eval,d,R.af]
  simp only [Wj c.cs]
  rw [if_pos ⟨trivial,rfl⟩]
  simp_all [e1]
 unfold Ja
 generalize E.cG _ _ _ _ _=Z at e ⊢
 rw [za (U1:=dj a j0 (2 ^ bN n K T-1) (si j) (y0 (.b b))) (h1:=H) (by simp_all [e])]
 have i1:=mB (y0 b) y9 H
 cases b
 .exact Zr (by simp_all [show Gy .fy (.b y9) (.b y9) H=y0 k9 from i1]) (wh rfl (by simp_all []))
 .rw [Qd (by simp_all [show Gy .fy (.b k9) (.b y9) H=y0 y9 from i1]),Qd (by simp_all [aw]),execs]
  rfl
theorem mq (k:Nat) (g:cO n K T){a o:Nat}{H:AH}{j0:W}{tl:List Nat}(d:Se n K T S a o H): ∀(b:List Nat) (x y:Option W),(∀ j∈b,∃s,S[j]? =y0 s/\Sk s k9)-> ∃M L,Gv (Gn [5] k9) (λU h=>execs (k8 (k+7)) Ja U h) (bw (b++tl)) (dj a j0 (2 ^ bN n K T-1) x y) H=Gv (Gn [5] k9) (λU h=>execs (k8 (k+7)) Ja U h) (bw tl) (dj a j0 (2 ^ bN n K T-1) M L) H
 | [],x,y,_=>⟨x,y,rfl⟩
 | j::b,x,y,c=>by
  obtain⟨s,l,f⟩:=c j Aa8
  obtain⟨M,L,e⟩:=mq k g (j0:=j0) (tl:=tl) d b (si j) (y0 (.b k9)) λi m=>c i (Aa5 _ m)
  refine⟨M,L,?_⟩
  rw [Al4,bw,Ac4,Qb (U1:=dj a j0 (2 ^ bN n K T-1) (si j) y) rfl (J2 k j g d l f y)]
  exact e
inductive Th:List Sy->Bool->Prop
 | t {S:List Sy}(h: ∀s∈S,Sk s k9):Th S k9
 | f {S:List Sy}(h: ∀s∈S,Sk s k9):Th (S++ [.neg sN]) y9
def An (b:Bool) (a:D):Prop:= ∃y,Gb y=k9/\a= .tup [.str (if b then QD else Xk),y]
def An.nr {b:Bool}{a:D}(h:An b a):Gb a=true:=by
 obtain⟨y,c,rfl⟩:=h
 simp [c]
def oV {S:List Sy}(h: ∀s∈S,Sk s k9) (c:List Sy): ∀j∈Aa7 S.length,∃s,(S++c)[j]? =y0 s/\Sk s true:=λj b=>by
 have a:=Ag4.mp b
 exact⟨S[j],by rw [Ad2 a,Ab2 a],h _ (List.getElem_mem a)⟩
def rB (n:Nat) (K T:List Tx) (c:Nat):Gb (wo n K T c).cw=true:=by
 show(k9&&(Gd (bw _)&&(Gd (bw _)&&k9)))=k9
 rw [o4,o4];rfl
def Nl (w:W) (m:Nat):Prop:=w= .bor (bw (Aa7 m))\/w= .l (bw (Aa7 m))
def uP (k:Nat) (g:cO n K T){b:Bool}(y:Th S b){c z:Nat}{H:AH}(l:Se n K T S c z H){w:W}(v:Nl w S.length): ∃a,An b a/\call prog (k+8) "Search.told_of_case" [.r c,w,.v (.int 0),.i (2 ^ bN n K T-1)] H= .ok (.v a) H:=by
 have p:=Aj6 (bN n K T)
 cases y with
 | t h=>
  refine⟨.tup [.str QD,(wo n K T 0).cw],⟨_,rB n K T 0,rfl⟩,?_⟩
  obtain⟨r,j,e⟩:=mq k g (j0:=w) (tl:= []) l (Aa7 S.length) u0 u0 (by have:=oV h [];rwa [Ac2]at this)
  rw [Ac2]at e
  rw [Ga (d:=zb) rfl _ _ _ rfl]
  simp only [zb]
  refine fx (U1:=dj c w (2 ^ bN n K T-1) u0 u0) (h1:=H) (by simp_all []) ?_
  refine fx (U1:=dj c w (2 ^ bN n K T-1) r j) (h1:=H) (by rw [exec,show Gr (k8 (k+7)) (.seq .v1) (dj c w (2 ^ bN n K T-1) u0 u0) H= .ok (bw (Aa7 S.length)) H by rcases v with rfl | rfl<;>rfl,R.aA];exact e) ?_
  have u:Gy .eq (.l []) (.own []) H=y0 true:=rfl
  have x:=qm (F:=(k8 (k+7))) (U:=dj c w (2 ^ bN n K T-1) r j) (i:=0) (f:= "cases") l.se rfl rfl
  have o:=Bo (F:=(k8 (k+7))) (m:= "world_of_code") (q:= "Cases.world_of_code") (es:= .cons .v2 .nil) (ws:= [.v (.int 0)]) x l.cs rfl (by simp_all [])
  have o:=o.trans (JM (k+1) 0 g l.cs p)
  rw [Zr (w:= .v (.tup [.str QD,(wo n K T 0).cw])) (by simp_all [u]) (wh rfl (by
   generalize E.cG _ _ _ _ _=Z at o ⊢
   simp_all [o]))]
  exact Gc _ _ _ rfl
 | f h=>
  rename_i S
  refine⟨.tup [.str Xk,.tup [.str kU,.n S.length]],⟨_,rfl,rfl⟩,?_⟩
  have le:(S++ [Sy.neg sN]).length=S.length+1:=by simp
  obtain⟨r,j,e⟩:=mq k g (j0:=w) (tl:= [S.length]) l (Aa7 S.length) u0 u0 (oV h [.neg sN])
  rw [← List.range_succ]at e
  rw [Ga (d:=zb) rfl _ _ _ rfl]
  simp only [zb]
  refine fx (U1:=dj c w (2 ^ bN n K T-1) u0 u0) (h1:=H) (by simp_all []) ?_
  rw [jb (w:= .t [.str Xk,.tup [.str kU,.n S.length]]) (h1:=H)]
  .exact Gc _ _ _ rfl
  rw [exec,show Gr (k8 (k+7)) (.seq .v1) (dj c w (2 ^ bN n K T-1) u0 u0) H= .ok (bw (Aa7 (S.length+1))) H by rw [Nl,le]at v;rcases v with rfl | rfl<;>rfl,R.aA]
  refine e.trans ?_
  have b:=J2 k S.length g (j0:=w) l (s:= .neg sN) (b:=y9) (by simp) .n j
  show Gv _ _ [.n S.length] _ H=_
  rw [JA,show Gn [5] k9 (.n S.length) (dj c w (2 ^ bN n K T-1) r j)=y0 (dj c w (2 ^ bN n K T-1) (si S.length) j)from rfl]
  simp only [b]
  rfl
def xG (k:Nat) (g:cO n K T){b:Bool}(r:Th S b){c p:Nat}{H:AH}(f:Se n K T S c p H){w:W}(h:Nl w S.length): ∃a,An b a/\call prog (k+9) "Search.told_of_sayings" [.r c,w] H= .ok (.v a) H:=by
 obtain⟨a,A,e⟩:=uP k g r f h
 refine⟨a,A,?_⟩
 rw [Ga (d:=Jb) rfl _ _ _ rfl]
 show Gz _ (execs _ _ [y0 (.r c),y0 w] H)=_
 simp only [Jb]
 have j:eval (k8 (k+8)) (.aU (.aU .v0 "Search" "cases") "Cases" "whole") [some (.r c),some w] H= .ok (.i (2 ^ bN n K T-1)) H:=vy (qm f.se rfl rfl) f.cs rfl
 generalize E.aU _ _ _=Z at j ⊢
 have l:=iZ (F:=(k8 (k+8))) (U:= [y0 (.r c),y0 w]) (i:=0) (m:= "told_of_case") (q:= "Search.told_of_case") (es:= .cons .v1 (.cons (.int 0) (.cons Z .nil))) (ws:= [w,.v (.int 0),.i (2 ^ bN n K T-1)]) f.se rfl rfl (by rcases h with rfl | rfl<;>simp_all [j])
 have o:W.arg w=w:=by rcases h with rfl | rfl<;>rfl
 simp only [Ac4,Aj4,o,W.ek]at l
 rw [jb (wh rfl (l.trans e)),Gc _ _ _ rfl]
def Th.sk {b:Bool}(h:Th S b): ∀s∈S,∃b,Sk s b:=by
 cases h with
 | t h=>exact λs a=>⟨_,h s a⟩
 | f h=>
  intro s a
  rcases Ah0.mp a with a | a
  .exact⟨_,h s a⟩
  .rw [Ad1.mp a];exact⟨_,.n⟩
def mC (k:Nat) (g:cO n K T){b:Bool}(d:Th S b) (f:S.length<=100){U:Sl}{i j:Nat}(h:AH) (a:Gm U i=y0 (.v (aF K T S))) (c:Gm U j=y0 (.i n)):eval (k8 (k+5)) (.make "Search" "Search.__init__" (.b (.var i) (.var j))) U h= .ok (.r h.length) (h++ [.obj "Search" (cW S (h.length+1)),.obj "Cases" (bY n K T S)]):=by
 have e:=tX k g d.sk f h
 simp only [eval,Gf,a,c,R.af,Ac4,Aj4,W.ek,e]
def mH (k:Nat) (g:cO n K T){b:Bool}(c:Th S b) (q:S.length<=100){h:AH}(o:Gw h=k9): ∃a,An b a/\call prog (k+10) "found" [.v (aF K T S),.i n] h= .ok (.v a) h:=by
 have e1:=Zf (k+4) g h
 have e:Se n K T S h.length (h.length+1) (h++ [.obj "Search" (cW S (h.length+1)),.obj "Cases" (bY n K T S)]):=⟨by simp,by simp⟩
 obtain⟨a,A,p⟩:=xG k g c e (.inl rfl)
 refine⟨a,A,?_⟩
 rw [Ga (d:=Xv) rfl _ _ _ rfl]
 simp only [Xv]
 refine fx (by simp_all [ag,zl,aw,show List.lookup "MOST_BITS" prog.con=some (.int 16)from rfl,e1];rfl) ?_
 have mk:=mC (k+4) g c q (U:= [sv (aF K T S),si n]) (i:=0) (j:=1) h rfl rfl
 have l:(0:Int)<=(S.length:Int)/\(S.length:Int)<=1000:=by omega
 have f:Gf (k8 (k+9)) (.a (.bx (.bi .len (.a (.ix .v0 (.int 1)))))) [sv (aF K T S),si n] (h++ [.obj "Search" (cW S (h.length+1)),.obj "Cases" (bY n K T S)])= .ok [.own (bw (List.range S.length))] (h++ [.obj "Search" (cW S (h.length+1)),.obj "Cases" (bY n K T S)]):=by
  simp_all [ag,Xq,aw,zi,Aa0,l,and_self,if_true,Ac5]
 generalize E.make _ _ _=Z at mk ⊢
 have m:eval (k8 (k+9)) (.cG Z "Search" "told_of_sayings" "Search.told_of_sayings" (.a (.bx (.bi .len (.a (.ix .v0 (.int 1))))))) [sv (aF K T S),si n] h= .ok (.v a) (h++ [.obj "Search" (cW S (h.length+1)),.obj "Cases" (bY n K T S)]):=by
  rw [eval,mk,R.af]
  simp only [Wj e.se]
  rw [if_pos ⟨trivial,rfl⟩,f,R.af]
  exact p
 rw [jb (wh rfl m),mD A.nr o]
end
def we {F:Fx}{s:S}{a:Ss}{U:Sl}{h h1:AH}{d:D}(e:exec F s U h= .exc d h1):execs F (.cons s a) U h= .exc d h1:=by rw [execs,e];rfl
def uG {F:Fx}{e:E}{U:Sl}{h h1:AH}{d:D}(a:GI e=u0) (q:eval F e U h= .exc d h1):exec F (.ret e) U h= .exc d h1:=by
 rw [exec,a,q];rfl
def Js {F:Fx}{a:E}{U:Sl}{h h1:AH}{d:D}(e:eval F a U h= .exc d h1):exec F (.ex a) U h= .exc d h1:=by rw [exec,e];rfl
def JY (k:Nat) (d:D) (h:AH) (b:Gb d=k9) (hb:xi d 5=y9):call prog (k+4) "check_size" [.v d] h= .exc (.exc "NoSize" []) h:=by
 rw [Ga (d:=Jf) rfl _ _ _ rfl]
 have a:=oi k d h b
 rw [hb]at a
 simp only [Jf]
 rw [we ((XZ (h1:=h) (by simp_all [a,Bool.not_false])).trans (we (by simp_all [];rfl))),Gj]
inductive Er:D->Nat->Nat->Prop
 | size:Er (.exc "NoSize" []) 0 0
 | de:Er (.exc "Crowded" []) 5 0
 | unlike:Er (.exc "Unlike" []) 12 0
 | big (b:Nat):Er (.err "TooBig" "bits" (.n b)) 6 b
 | kept {y:D}(hy:Gb y=k9):Er (.err "Kept" "world" y) 11 0
def Er.keep {e:D}{j b:Nat}(h:Er e j b):GN e=true:=by
 cases h<;>first | rfl | assumption
def Rz (h:AH) (r:R W):Option (Nat×Nat)->Prop
 | none=> ∃w h',r= .ok w (h++h')
 | some x=> ∃e h',Er e x.1 x.2/\r= .exc e (h++h')
noncomputable def cF (K T:List Tx) (d:D):Option (Nat×Nat):=match d with
 | .int i=>if 0<=i/\i<5 then(if 16<bN i.toNat K T then y0 (6,bN i.toNat K T)else u0)else y0 (0,0)
 | _=>y0 (0,0)
section
variable {K T:List Tx}
def iu {d:D}(a:K.length<=4) (b:T.length<=4) (h:cF K T d=u0): ∃n,d= .n n/\cO n K T:=by
 unfold cF at h
 split at h
 .split at h
  .rename_i i c
   split at h
   .cases h
   .rename_i e
    refine⟨i.toNat,by rw [D.n,Af7 c.1],by omega,a,b,?_⟩
    show bN i.toNat K T<=16
    omega
  .cases h
 .cases h
def yW {d:D}(h:dP d):Gb d=true:=by
 rcases h with⟨_,rfl⟩ | ⟨_,rfl⟩ | rfl | rfl<;>rfl
def Zo (k:Nat){d:D}(g:dP d) (p:K.length<=4) (m:T.length<=4){x:Nat×Nat}(a:cF K T d=y0 x) (h:AH): ∃e,Er e x.1 x.2/\call prog (k+5) "check_bits" [.v (wD K T),.v d,.v (.int 16)] h= .exc e h:=by
 rw [Ga (d:=aL) rfl _ _ _ rfl]
 simp only [aL]
 have j:xi d 5=y9->x=(0,0)-> ∃e,Er e x.1 x.2/\Gz h.length (execs (k8 (k+4)) aL.body [sv (wD K T),sv d,sv (.int 16),u0] h)= .exc e h:=λb a=>by
  subst a
  refine⟨_,.size,?_⟩
  simp only [aL]
  have e:=JY k d h (yW g) b
  rw [we (Js (by simp_all [e];rfl)),Gj]
 unfold cF at a
 split at a
 .rename_i i
  split at a
  .rename_i c
   split at a
   .rename_i f
    cases a
    obtain⟨n,rfl⟩: ∃n:Nat,i=n:=⟨i.toNat,by omega⟩
    rw [Ac5]at f ⊢
    have o:=QP k (.n n) h rfl (by simp [xi];omega)
    have b:=lW (k+2) n (K.map .str) (T.map .str) h (by omega) (by rw [Aa0];exact p) (by rw [Aa0];exact m)
    rw [Aa0,Aa0,xR]at b
    refine⟨_,.big _,?_⟩
    refine fx (by simp_all [o];rfl) ?_
    refine fx (by simp_all [b];rfl) ?_
    have z:Gy .gt (.i (bN n K T)) (.v (.int 16)) h=y0 (u9 (16<bN n K T)):=mn 16 (bN n K T) h
    rw [decide_eq_true f]at z
    rw [we ((XZ (h1:=h) (by simp_all [z])).trans (we (by simp_all [];rfl))),Gj]
   .cases a
  .rename_i c
   refine j ?_ (Ad8.inj a).symm
   show(u9 (0<=i)&&u9 (i<5))=y9
   rw [Bool.and_eq_false_iff,decide_eq_false_iff_not,decide_eq_false_iff_not]
   omega
 .rename_i l
  refine j ?_ (Ad8.inj a).symm
  rcases g with⟨i,rfl⟩ | ⟨_,rfl⟩ | rfl | rfl
  .exact absurd rfl (l i)
  all_goals rfl
def Qw (k:Nat){S:List Sy}(a:S.length=12) (h:AH):call prog (k+1) "check_room" [.v (aF K T S)] h= .exc (.exc "Crowded" []) h:=by
 rw [Ga (d:=Qf) rfl _ _ _ rfl]
 simp only [Qf]
 have c:Gy .ge (.i S.length) (.v (.int 12)) h=y0 true:=by rw [a];rfl
 rw [we ((XZ (h1:=h) (by simp_all [ag,Xq,aw,zi,List.length_map,show List.lookup "MOST_SAYINGS" prog.con=some (.int 12)from rfl,c])).trans (we (by simp_all [];rfl))),Gj]
def rQ (k:Nat){S:D}{d:D}(f:dP d) (c:K.length<=4) (b:T.length<=4){x:Nat×Nat}(a:cF K T d=y0 x) (h:AH): ∃e,Er e x.1 x.2/\call prog (k+6) "found" [.t [wD K T,S],.v d] h= .exc e h:=by
 obtain⟨e,E,e1⟩:=Zo k f c b a h
 refine⟨e,E,?_⟩
 rw [Ga (d:=Xv) rfl _ _ _ rfl]
 simp only [Xv]
 rw [we (Js (by simp_all [ag,zl,aw,show List.lookup "MOST_BITS" prog.con=some (.int 16)from rfl,e1];rfl)),Gj]
abbrev rN (m:Nat):List Sy:=Aa m sN
def il (m:Nat): ∀s∈rN m,Sk s true:=λs a=>by rw [(Ai0.mp a).2];exact .p
def jJ (k m:Nat){d:D}(r:dP d) (o:K.length<=4) (j:T.length<=4) (v:m<=12){x:Sy}{b:Bool}(u:Th (rN m++ [.neg x]) b){h:AH}(s:Gw h=k9):
 (∀ y,cF K T d=some y-> ∃e,Er e y.1 y.2/\call prog (k+11) "follows" [.v (aF K T (rN m)),.v d,.v (au x)] h= .exc e h)/\(cF K T d=none->m=12->call prog (k+11) "follows" [.v (aF K T (rN m)),.v d,.v (au x)] h= .exc (.exc "Crowded" []) h) ∧
 (cF K T d=u0->m≠12-> ∃a,An b a/\call prog (k+11) "follows" [.v (aF K T (rN m)),.v d,.v (au x)] h= .ok (.v a) h):=by
 have l:(rN m).length=m:=Ab8
 rw [Ga (d:=Xu) rfl _ _ _ rfl]
 simp only [Xu]
 have i: ∀X,execs (k8 (k+10)) (.cons (.eV [3,4] .v0) X) [sv (aF K T (rN m)),sv d,sv (au x),u0,u0] h=execs (k8 (k+10)) X [sv (aF K T (rN m)),sv d,sv (au x),sv (wD K T),y0 (.t ((rN m).map au))] h:=λX=>za (by simp_all [])
 refine⟨λy q=> ?_,λp c=> ?_,λp c=> ?_⟩
 .obtain⟨e,E,e1⟩:=Zo (k+5) r o j q h
  refine⟨e,E,?_⟩
  refine(congrArg _ (i _)).trans ?_
  rw [we (Js (by simp_all [aw,show List.lookup "MOST_BITS" prog.con=some (.int 16)from rfl,e1];rfl)),Gj]
 .obtain⟨n,rfl,g⟩:=iu o j p
  have e1:=Zf (k+5) g h
  have e2:=Qw (K:=K) (T:=T) (S:=rN m) (k+9) (l.trans c) h
  refine(congrArg _ (i _)).trans ?_
  refine fx (by simp_all [aw,show List.lookup "MOST_BITS" prog.con=some (.int 16)from rfl,e1];rfl) ?_
  rw [we (Js (by simp_all [e2];rfl)),Gj]
 .obtain⟨n,rfl,g⟩:=iu o j p
  have e1:=Zf (k+5) g h
  have e2:=kJ (K:=K) (T:=T) (S:=rN m) (k+9) (by omega) h
  obtain⟨a,A,f⟩:=mH k g u (by rw [Ab5,l];simp;omega) s
  have t:=zP ((rN m).map au) [au (.neg x)] h (by rw [Aa0,l];simp;omega)
  refine⟨a,A,?_⟩
  refine(congrArg _ (i _)).trans ?_
  refine fx (by simp_all [aw,show List.lookup "MOST_BITS" prog.con=some (.int 16)from rfl,e1];rfl) ?_
  refine fx (by simp_all [e2];rfl) ?_
  have f:call prog (k+10) "found" [.t [wD K T,.tup ((rN m).map au++ [au (.neg x)])],.i n] h= .ok (.v a) h:=by
   rw [aF,List.map_append]at f
   exact f
  rw [jb (w:= .v a) (h1:=h) (wh rfl (by
   simp_all [aw,t,show D.tup [.str fm,au x]=au (.neg x)from rfl,f])),Gc _ _ _ rfl]
def W8 (k m:Nat){d:D}(B:dP d) (w:K.length<=4) (s:T.length<=4) (G:m<=11){h:AH}(F:Gw h=k9):Rz h (call prog (k+11) "matters" [.v (aF K T (rN (m+1))),.v d,.i m] h) (cF K T d):=by
 have j:((rN (m+1)).map au).length=m+1:=by rw [Aa0];exact Ab8
 rw [Ga (d:=a9) rfl _ _ _ rfl]
 simp only [a9]
 have q:=Wq (k+8) (.n m) ((m+1:Nat):Int) h rfl
 have bt:xi (.n m) ((m+1:Nat):Int)=true:=by simp only [xi,Aa1,decide_eq_true_eq];omega
 rw [bt]at q
 have f:(rN (m+1)).map au=Aa m (au sN)++ [au sN]:=by rw [Ak6,List.replicate_succ']
 have o:eJ (.t ((rN (m+1)).map au)) u0 (y0 (m:Int)) h= .ok (.t (Aa m (au sN))) h:=by
  have c:=WT ((rN (m+1)).map au) m
  rw [f,List.take_left' Ab8]at c
  show aw (.tup (cut _ u0 (y0 (m:Int)))) h=_
  rw [f,c]
 have i:eJ (.t ((rN (m+1)).map au)) (y0 ((m+1:Nat):Int)) u0 h= .ok (.t []) h:=by
  have c:=XS ((rN (m+1)).map au) (m+1)
  rw [Aj1 (by rw [j];exact Aa6 _)]at c
  show aw (.tup (cut _ (y0 ((m+1:Nat):Int)) u0)) h=_
  rw [c]
 have t:=zP (Aa m (au sN)) [] h (by simp;omega)
 have a2:=zP (Aa m (au sN)) [au (.neg sN)] h (by simp;omega)
 rw [Ac2]at t
 have b:bq ((rN (m+1)).map au) (m:Int)=y0 (au sN):=by
  rw [XE _ _ (by rw [j];omega),f,Ad0 (by simp)]
  simp
 have p:((m:Int)+1)=((m+1:Nat):Int):=rfl
 have l:(((rN (m+1)).map au).length:Int)=((m+1:Nat):Int):=by rw [j]
 have fin: ∃a U,GI a=u0/\Gz h.length (execs (k8 (k+10)) a9.body [sv (aF K T (rN (m+1))),sv d,si m,u0,u0,u0] h)=Gz h.length (execs (k8 (k+10)) (.a (.ret a)) U h)/\eval (k8 (k+10)) a U h=call prog (k+10) "found" [.t [wD K T,.tup (List.replicate m (au sN)++ [au (.neg sN)])],.v d] h:=by
  refine⟨.call "found" (.b (.tup (.b .v3 (.bin .add .v5 (.tup (.a (.tup (.b (.str fm) (.ix .v4 .v2)))))))) .v1),[sv (aF K T (rN (m+1))),sv d,si m,sv (wD K T),some (.t ((rN (m+1)).map au)),some (.t (List.replicate m (au sN)))],rfl,?_,?_⟩
  .simp only [a9]
   refine fx (U1:= [sv (aF K T (rN (m+1))),sv d,si m,sv (wD K T),y0 (.t ((rN (m+1)).map au)),u0]) (h1:=h) (by simp_all []) ?_
   generalize (rN (m+1)).map au=L at o i b l ⊢
   rw [Qd (by simp_all [zi,aw,l,q,Bool.not_true])]
   refine fx (U1:= [sv (aF K T (rN (m+1))),sv d,si m,sv (wD K T),y0 (.t L),y0 (.t (Aa m (au sN)))]) (h1:=h) (by simp_all [o,zf,p,i,t]) rfl
  .generalize (rN (m+1)).map au=L at o i b l ⊢
   simp_all [ag,b,aw,show D.tup [.str fm,au sN]=au (.neg sN)from rfl,a2]
 obtain⟨a,U,v,C,r⟩:=fin
 show Rz h (Gz h.length (execs _ a9.body [sv (aF K T (rN (m+1))),sv d,si m,u0,u0,u0] h)) _
 rw [C]
 cases u:cF K T d with
 | some x=>
  obtain⟨e,E,e1⟩:=rQ (k+4) (S:= .tup (Aa m (au sN)++ [au (.neg sN)])) B w s u h
  refine⟨e,[],E,?_⟩
  rw [Ac2,we (uG v (r.trans e1)),Gj]
 | none=>
  obtain⟨n,rfl,g⟩:=iu w s u
  obtain⟨z,A,y⟩:=mH k g (Th.f (il m)) (by simp;omega) F
  refine⟨.v z,[],?_⟩
  rw [aF,List.map_append,Ak6]at y
  rw [Ac2,jb (wh v (r.trans y)),Gc _ _ _ rfl]
def B2 (k m:Nat){d:D}(v:dP d) (r:K.length<=4) (f:T.length<=4) (z:m<=12) (h:AH):Rz h (call prog (k+10) "quarrel" [.v (aF K T (rN m)),.v d] h) (match cF K T d with | some x=>some x | none=>some (11,0)):=by
 rw [Ga (d:=Jt) rfl _ _ _ rfl]
 simp only [Jt]
 cases p:cF K T d with
 | some x=>
  obtain⟨e,E,e1⟩:=Zo (k+4) v r f p h
  refine⟨e,[],E,?_⟩
  rw [List.append_nil,we (Js (by simp_all [ag,zl,aw,show List.lookup "MOST_BITS" prog.con=some (.int 16)from rfl,e1];rfl)),Gj]
 | none=>
  obtain⟨n,rfl,g⟩:=iu r f p
  have l:(rN m).length=m:=Ab8
  have e1:=Zf (k+4) g h
  have c:Se n K T (rN m) h.length (h.length+1) (h++ [.obj "Search" (cW (rN m) (h.length+1)),.obj "Cases" (bY n K T (rN m))]):=⟨by simp,by simp⟩
  obtain⟨a,⟨y,t,rfl⟩,s⟩:=xG k g (Th.t (il m)) c (w:= .l (bw (Aa7 m))) (.inr (by rw [l]))
  refine⟨_,[.obj "Search" (cW (rN m) (h.length+1)),.obj "Cases" (bY n K T (rN m))],.kept t,?_⟩
  refine fx (by simp_all [ag,zl,aw,show List.lookup "MOST_BITS" prog.con=some (.int 16)from rfl,e1];rfl) ?_
  have mk:=mC (k+4) g (Th.t (il m)) (by omega) (U:= [sv (aF K T (rN m)),si n,u0,u0,u0,u0]) (i:=0) (j:=1) h rfl rfl
  generalize h++ [Cell.obj "Search" (cW (rN m) (h.length+1)),.obj "Cases" (bY n K T (rN m))]=H at c s mk ⊢
  refine fx (U1:= [sv (aF K T (rN m)),si n,y0 (.r h.length),u0,u0,u0]) (h1:=H) (by rw [exec,mk];rfl) ?_
  have u:(0:Int)<=(m:Int)/\(m:Int)<=1000:=by omega
  refine fx (U1:= [sv (aF K T (rN m)),si n,y0 (.r h.length),y0 (.l (bw (Aa7 m))),u0,u0]) (h1:=H) (by
   have o:(((rN m).map au).length:Int)=(m:Int):=by rw [Aa0,l]
   have i1:dm (.v (aF K T (rN m))) (.v (.int 1)) H=y0 (.tup ((rN m).map au)):=rfl
   generalize (rN m).map au=L at o i1 ⊢
   generalize aF K T (rN m)=A at i1 ⊢
   simp_all [i1,aw,zi,o,u,and_self,if_true,Ac5]) ?_
  have b:=iZ (F:=(k8 (k+9))) (U:= [sv (aF K T (rN m)),si n,y0 (.r h.length),y0 (.l (bw (List.range m))),u0,u0]) (i:=2) (m:= "told_of_sayings") (q:= "Search.told_of_sayings") (es:= .cons .v3 .nil) (ws:= [.l (bw (List.range m))]) c.se rfl rfl (by simp_all [])
  have b:=b.trans s
  refine fx (U1:= [sv (aF K T (rN m)),si n,y0 (.r h.length),y0 (.l (bw (Aa7 m))),y0 (.s QD),sv y]) (h1:=H) (by
   generalize E.cG _ _ _ _ _=Z at b ⊢
   simp_all [b]
   rfl) ?_
  rw [we ((XZ (h1:=H) (by simp_all [xb];rfl)).trans (we (by simp_all [];rfl))),Gj]
end
def kg {F:Fx}{a:E}{U:Sl}{h:AH}{m:Nat}(e:eval F a U h= .ok (.i m) h) (b:m<=1000000):Gr F (.aB a) U h= .ok ((Aa7 m).map λ(i:Nat)=> .n i) h:=Zt e b
theorem i5 {bnd:D->Sl->Option Sl}{body:Sl->AH->O}{H:AH}(P:Sl->Prop) (c:Nat): ∀(L:List D),(∀ d∈L,∀U ds,P U->ds.length+c<=1000-> ∃U1 U2 j,bnd d U=y0 U1/\body U1 (H++ [.lst ds])= .next U2 (H++ [.lst j])/\P U2/\j.length<=ds.length+c)-> ∀(U:Sl) (ds:List D),P U->ds.length+c*L.length<=1000 →
 ∃M i,Gv bnd body L U (H++ [.lst ds])= .next M (H++ [.lst i])/\P M/\i.length<=ds.length+c*L.length
 | [],_,U,ds,h,_=>⟨U,ds,rfl,h,by simp⟩
 | d::L,step,U,ds,h,g=>by
  rw [Ab0,Nat.mul_succ]at g
  obtain⟨U1,U2,j,e1,e2,b,l2⟩:=step d Aa8 U ds h (by omega)
  obtain⟨M,i,f,e,k⟩:=i5 P c L (λd a=>step d (Aa5 _ a)) U2 j b (by omega)
  exact⟨M,i,(Qb e1 e2).trans f,e,by rw [Ab0,Nat.mul_succ];omega⟩
def cO.le {n m:Nat}{K T:List Tx}(g:cO n K T) (h:m<=n):cO m K T:=⟨Ac0 h g.n4,g.k4,g.t4,Ac0 (Nat.add_le_add (Nat.mul_le_mul_left _ h) (Nat.mul_le_mul_left _ (Ag7 h h))) g.b6⟩
def tF {n:Nat}{K T:List Tx}(g:cO n K T):cF K T (.n n)=none:=by
 have:=g.n4
 have:=g.b6
 show(if 0<=(n:Int)/\(n:Int)<5 then(if 16<bN (n:Int).toNat K T then y0 (6,bN (n:Int).toNat K T)else u0)else y0 (0,0))=u0
 rw [if_pos (by omega),Ac5,if_neg (by show ¬16<K.length*n+T.length*(n*n);omega)]
theorem mV: ∀(L:List D) (k:Nat),∀d∈GL k L,∃j x,x∈L/\d= .tup [.n j,x]
 | [],_,d,h=>absurd h Al3
 | y::L,k,d,h=>by
  rcases Ab7.mp h with rfl | h
  .exact⟨k,y,Aa8,rfl⟩
  .obtain⟨j,x,a,e⟩:=mV L (k+1) d h
   exact⟨j,x,Aa5 _ a,e⟩
theorem W1: ∀(L:List D) (k:Nat),(GL k L).length=L.length
 | [],_=>rfl
 | _::L,k=>by rw [GL,Ab0,W1 L,Ab0]
section
variable {K T:List Tx}{H:AH}
noncomputable abbrev dt (a b:D) (n r:Nat) (x5 x6 x7 x8 x9 x10:Option W):Sl:= [sv a,sv b,si n,sv (.tup [a,b]),y0 (.r r),x5,x6,x7,x8,x9,x10]
def pL (k:Nat){n s i j m1 m2:Nat}(g:cO n K T) (l:s<=n) (w:i<2) (h1:m1<=11) (h2:m2<=11) (o:Gw H=k9){ds:List D}(y:ds.length<1000){x9 x10:Option W}:
 ∃U2 L,execs (k8 (k+11)) Zc (dt (aF K T (rN m1)) (aF K T (rN m2)) n H.length (si s) (si i) (si j) (sv (au sN)) x9 x10) (H++ [.lst ds])= .next U2 (H++ [.lst L])/\(∃ x7 x8 x9 x10,U2=dt (aF K T (rN m1)) (aF K T (rN m2)) n H.length (si s) (si i) x7 x8 x9 x10)/\L.length<=ds.length+1:=by
 have u:=g.le l
 obtain⟨m,v,b⟩: ∃m,m<=11/\dm (.v (.tup [aF K T (rN m1),aF K T (rN m2)])) (.v (.int ((1:Int)-(i:Int)))) (H++ [.lst ds])=y0 (aF K T (rN m)):=by
  obtain rfl | rfl:i=0\/i=1:=by omega
  .exact⟨m2,h2,rfl⟩
  .exact⟨m1,h1,rfl⟩
 obtain⟨-, -,c⟩:=jJ k m (d:= .n s) (.inl ⟨_,rfl⟩) g.k4 g.t4 (by omega) (x:=sN) (Th.f (il m)) (h:=H++ [.lst ds]) (Az o rfl)
 obtain⟨a,⟨p,e,rfl⟩,e1⟩:=c (tF u) (by omega)
 refine⟨dt (aF K T (rN m1)) (aF K T (rN m2)) n H.length (si s) (si i) (si j) (sv (au sN)) (y0 (.s Xk)) (sv p),ds++ [.tup [.n s,.n i,.n j,p]],?_,⟨_,_,_,_,rfl⟩,by simp⟩
 unfold Zc
 have e1:call prog (k+11) "follows" [.v (aF K T (rN m)),.i s,.v (au sN)] (H++ [.lst ds])= .ok (.t [.str Xk,p]) (H++ [.lst ds]):=e1
 generalize au sN=q at e1 ⊢
 generalize aF K T (rN m)=X at b e1
 generalize aF K T (rN m1)=A at b ⊢
 generalize aF K T (rN m2)=B at b ⊢
 refine(za (by simp_all [Wp,b,aw,e1];rfl)).trans ?_
 rw [Qd (by simp_all [xb,aw,show(Xk== iI)=y9 from rfl])]
 have M:GT (H++ [.lst ds]) (y0 (.r H.length))=y0 (H.length,ds):=by simp [GT]
 have r:Gb (.tup [.n s,.n i,.n j,p])=true:=by simp [e]
 have t:ds.length<aX/\Gb (.tup [.n s,.n i,.n j,p])=true:=⟨by rw [Gi];omega,r⟩
 have f:(H++ [Cell.lst ds]).set H.length (.lst (ds++ [.tup [.n s,.n i,.n j,p]]))=H++ [.lst (ds++ [.tup [.n s,.n i,.n j,p]])]:=by
  rw [List.set_append_right _ _ (Aa6 _),Nat.sub_self];rfl
 rw [za (U1:=dt A B n H.length (si s) (si i) (si j) (sv q) (y0 (.s Xk)) (sv p)) (h1:=H++ [.lst (ds++ [.tup [.n s,.n i,.n j,p]])]) (by simp_all [M,aw,W.iM,t,and_self,if_true,f]),execs]
def vr (k:Nat){n s m1 m2:Nat}(g:cO n K T) (r:s<=n) (h1:m1<=11) (h2:m2<=11) (t:Gw H=k9){i:Nat}(y:i<2){ds:List D}(G:ds.length+12<=1000){x7 x8 x9 x10:Option W}:
 ∃U2 L,execs (k8 (k+11)) Qc (dt (aF K T (rN m1)) (aF K T (rN m2)) n H.length (si s) (si i) x7 x8 x9 x10) (H++ [.lst ds])= .next U2 (H++ [.lst L])/\(∃ x7 x8 x9 x10,U2=dt (aF K T (rN m1)) (aF K T (rN m2)) n H.length (si s) (si i) x7 x8 x9 x10)/\L.length<=ds.length+12:=by
 obtain⟨m,E,o⟩: ∃m,m<=11/\Gr (k8 (k+11)) (.enum (.ix (.ix .v3 .v6) (.int 1))) (dt (aF K T (rN m1)) (aF K T (rN m2)) n H.length (si s) (si i) x7 x8 x9 x10) (H++ [.lst ds])= .ok (GL 0 ((rN m).map au)) (H++ [.lst ds]):=by
  obtain rfl | rfl:i=0\/i=1:=by omega
  .exact⟨m1,h1,rfl⟩
  .exact⟨m2,h2,rfl⟩
 have F:(GL 0 ((rN m).map au)).length=m:=by rw [W1,Aa0];exact Ab8
 obtain⟨f,a,e,p,l⟩:=i5 (bnd:=Gn [7,8] y9) (body:=λU h=>execs (k8 (k+11)) Zc U h) (H:=H) (λU=> ∃x7 x8 x9 x10,U=dt (aF K T (rN m1)) (aF K T (rN m2)) n H.length (si s) (si i) x7 x8 x9 x10) 1 (GL 0 ((rN m).map au)) (λd q U b ⟨B,C,A,c,u⟩ I=>by
  obtain⟨j,x,v,rfl⟩:=mV _ _ d q
  obtain⟨z,w,rfl⟩:=Af1.mp v
  rw [(Ai0.mp w).2]
  obtain⟨U2,L,e,p,l⟩:=pL k g r y h1 h2 t (j:=j) (ds:=b) (x9:=A) (x10:=c) (by omega)
  exact⟨_,U2,L,by rw [u];rfl,e,p,l⟩) _ ds ⟨x7,x8,x9,x10,rfl⟩ (by omega)
 refine⟨f,a,?_,p,by omega⟩
 unfold Qc
 rw [za (U1:=f) (h1:=H++ [.lst a]) (by rw [exec,o,R.aA];exact e),execs]
def sg (k:Nat){n s m1 m2:Nat}(g:cO n K T) (y:s<=n) (h1:m1<=11) (h2:m2<=11) (A:Gw H=k9){ds:List D}(F:ds.length+24<=1000){x6 x7 x8 x9 x10:Option W}:
 ∃U2 j,execs (k8 (k+11)) Jc (dt (aF K T (rN m1)) (aF K T (rN m2)) n H.length (si s) x6 x7 x8 x9 x10) (H++ [.lst ds])= .next U2 (H++ [.lst j])/\(∃ x5 x6 x7 x8 x9 x10,U2=dt (aF K T (rN m1)) (aF K T (rN m2)) n H.length x5 x6 x7 x8 x9 x10)/\j.length<=ds.length+24:=by
 obtain⟨v,b,e,⟨u,c,o,t,a,r⟩,l⟩:=i5 (bnd:=Gn [6] k9) (body:=λU h=>execs (k8 (k+11)) Qc U h) (H:=H) (λU=> ∃x6 x7 x8 x9 x10,U=dt (aF K T (rN m1)) (aF K T (rN m2)) n H.length (si s) x6 x7 x8 x9 x10) 12 ((Aa7 2).map λ(i:Nat)=> .n i) (λd x U f ⟨u,c,o,t,a,r⟩ E=>by
  obtain⟨i,C,rfl⟩:=fv _ x
  obtain⟨U2,j,e,⟨B,w,z,q,p⟩,l⟩:=vr k g y h1 h2 A C (ds:=f) (x7:=c) (x8:=o) (x9:=t) (x10:=a) E
  exact⟨_,U2,j,by rw [r];rfl,e,⟨_,B,w,z,q,p⟩,l⟩) _ ds ⟨x6,x7,x8,x9,x10,rfl⟩ (by rw [Aa0,Af];omega)
 rw [Aa0,Af]at l
 refine⟨v,b,?_,⟨_,u,c,o,t,a,r⟩,by omega⟩
 unfold Jc
 rw [za (U1:=v) (h1:=H++ [.lst b]) (by rw [exec,kg (m:=2) rfl (by omega),R.aA];exact e),execs]
theorem ZE: ∀ {a b:List Tx},GF (a.map .str) (b.map .str)=k9->a=b
 | [],[],_=>rfl
 | [],_::_,h=>by simp [GF]at h
 | _::_,[],h=>by simp [GF]at h
 | x::a,y::b,h=>by
  have h:(x==y&&GF (a.map .str) (b.map .str))=true:=by simpa [GF]using h
  rw [Aa1]at h
  rw [eq_of_beq h.1,ZE h.2]
def oU (K T:List Tx):Gb (wD K T)=k9/\dep (wD K T)<150:=by
 have a:=jh K
 have b:=jh T
 have x:=wt D.str 0 (λ_=>Aa6 _) K
 have y:=wt D.str 0 (λ_=>Aa6 _) T
 exact⟨by simp [wD,a,b],by simp [wD];omega⟩
def xK (K T K' T':List Tx):Bool:=bR (wD K T) (wD K' T')
def A4 {K T K' T':List Tx}(h:xK K T K' T'=k9):K=K'/\T=T':=by
 have h:(GF (K.map .str) (K'.map .str)&&(GF (T.map .str) (T'.map .str)&&k9))=true:=by simpa [xK,wD,bR,GF]using h
 rw [Aa1,Bool.and_true]at h
 exact⟨ZE h.1,ZE h.2⟩
def n7 (K T K' T':List Tx) (h:AH):Gy .ne (.v (wD K T)) (.v (wD K' T')) h=y0 (!xK K T K' T'):=by
 show(if GZ (res h (wD K T)) (res h (wD K' T'))then y0 (!bR (res h (wD K T)) (res h (wD K' T')))else u0)=_
 obtain⟨a,b⟩:=oU K T
 obtain⟨c,_⟩:=oU K' T'
 rw [jR a,jR c,if_pos (by rw [GZ,a,c,decide_eq_true b];rfl)]
 rfl
def fG (K T K' T':List Tx) (d:D) (m1 m2:Nat):Option (Nat×Nat):=if xK K T K' T'=y9 then y0 (12,0)else match cF K T d with
 | some x=>y0 x
 | none=>if m1=12\/m2=12 then y0 (5,0)else u0
def vd (k:Nat){K' T':List Tx}{d:D}(y:dP d) (Q:K.length<=4) (I:T.length<=4){m1 m2:Nat}(h1:m1<=12) (h2:m2<=12){h:AH}(X:Gw h=k9):Rz h (call prog (k+12) "same_or_parted" [.v (aF K T (rN m1)),.v (aF K' T' (rN m2)),.v d] h) (fG K T K' T' d m1 m2):=by
 rw [Ga (d:=Xf) rfl _ _ _ rfl]
 simp only [Xf]
 have ne:=n7 K T K' T' h
 have j:Gu (k8 (k+11)) (.cmp .ne (.ix .v0 (.int 0)) (.ix .v1 (.int 0))) [sv (aF K T (rN m1)),sv (aF K' T' (rN m2)),sv d,u0,u0,u0,u0,u0,u0,u0,u0] h= .ok (!xK K T K' T') h:=by simp_all [ag,zl,ne]
 unfold fG
 cases a:xK K T K' T' with
 | false=>
  rw [if_pos rfl]
  refine⟨_,[],.unlike,?_⟩
  rw [a]at j
  rw [Ac2]
  refine(congrArg (Gz h.length) (we ((XZ (h1:=h) j).trans (we (by simp_all []<;>rfl))))).trans (Gj _ _ _)
 | true=>
  rw [if_neg (by simp)]
  rw [a]at j
  obtain⟨rfl,rfl⟩:=A4 a
  show Rz h (Gz h.length (execs (k8 (k+11)) _ [sv (aF K T (rN m1)),sv (aF K T (rN m2)),sv d,u0,u0,u0,u0,u0,u0,u0,u0] h)) _
  rw [Qd j]
  cases o:cF K T d with
  | some x=>
   obtain⟨e,E,e1⟩:=Zo (k+6) y Q I o h
   refine⟨e,[],E,?_⟩
   rw [List.append_nil,we (Js (by simp_all [ag,zl,aw,show List.lookup "MOST_BITS" prog.con=some (.int 16)from rfl,e1];rfl)),Gj]
  | none=>
   obtain⟨n,rfl,g⟩:=iu Q I o
   have e1:=Zf (k+6) g h
   have Y:(rN m1).length=m1:=Ab8
   have l2:(rN m2).length=m2:=Ab8
   rw [za (U1:= [sv (aF K T (rN m1)),sv (aF K T (rN m2)),si n,none,none,none,none,none,none,none,none]) (h1:=h) (by simp_all [ag,zl,aw,show List.lookup "MOST_BITS" prog.con=some (.int 16)from rfl,e1])]
   dsimp only
   by_cases L:m1=12
   .rw [if_pos (.inl L)]
    refine⟨_,[],.de,?_⟩
    have e2:=Qw (K:=K) (T:=T) (S:=rN m1) (k+10) (Y.trans L) h
    rw [Ac2,we (Js (by simp_all [e2];rfl)),Gj]
   have e2:=kJ (K:=K) (T:=T) (S:=rN m1) (k+10) (by omega) h
   rw [za (U1:= [sv (aF K T (rN m1)),sv (aF K T (rN m2)),si n,u0,u0,u0,u0,u0,u0,u0,u0]) (h1:=h) (by simp_all [e2])]
   by_cases G:m2=12
   .rw [if_pos (.inr G)]
    refine⟨_,[],.de,?_⟩
    have t:=Qw (K:=K) (T:=T) (S:=rN m2) (k+10) (l2.trans G) h
    rw [Ac2,we (Js (by simp_all [t];rfl)),Gj]
   have t:=kJ (K:=K) (T:=T) (S:=rN m2) (k+10) (by omega) h
   rw [za (U1:= [sv (aF K T (rN m1)),sv (aF K T (rN m2)),si n,u0,u0,u0,u0,u0,u0,u0,u0]) (h1:=h) (by simp_all [t]),if_neg (by omega)]
   have n4:=g.n4
   obtain⟨U',b,e,⟨J,u,q,v,F,c,z⟩,l⟩:=i5 (bnd:=Gn [5] k9) (body:=λU h=>execs (k8 (k+11)) Jc U h) (H:=h) (λU=> ∃x5 P M N O f,U=dt (aF K T (rN m1)) (aF K T (rN m2)) n h.length x5 P M N O f) 24 ((Aa7 (n+1)).map λ(i:Nat)=> .n i) (λd y U r ⟨J,u,q,v,F,c,z⟩ o=>by
    obtain⟨s,hs,rfl⟩:=fv _ y
    obtain⟨V,C,e,p,l⟩:=sg k g (s:=s) (by omega) (m1:=m1) (m2:=m2) (by omega) (by omega) X (ds:=r) (x6:=u) (x7:=q) (x8:=v) (x9:=F) (x10:=c) o
    exact⟨_,V,C,by rw [z];rfl,e,p,l⟩) (dt (aF K T (rN m1)) (aF K T (rN m2)) n h.length u0 u0 u0 u0 u0 u0) [] ⟨_,_,_,_,_,_,rfl⟩ (by rw [Aa0,Af,Ac7];omega)
   subst z
   refine⟨.t [.str fO,.ref h.length],[.lst b],?_⟩
   generalize aF K T (rN m1)=A at e ⊢
   generalize aF K T (rN m2)=B at e ⊢
   rw [za (U1:= [sv A,sv B,si n,sv (.tup [A,B]),u0,u0,u0,u0,u0,u0,u0]) (h1:=h) (by simp_all [])]
   rw [za (U1:=dt A B n h.length u0 u0 u0 u0 u0 u0) (h1:=h++ [.lst []]) (by simp_all [aw];rfl)]
   have Z:((n:Int)+1)=((n+1:Nat):Int):=rfl
   rw [za (U1:=dt A B n h.length J u q v F c) (h1:=h++ [.lst b]) (by rw [exec,kg (m:=n+1) (by simp_all [zf,Z]) (by omega),R.aA];exact e)]
   rw [jb (w:= .t [.str fO,.ref h.length]) (h1:=h++ [.lst b]) (wh rfl (by simp_all []))]
   show fin _ _ _=_
   unfold fin
   rw [if_neg (by simp),show W.keep (.t [.str fO,.ref h.length])=y9 from rfl,Ag6,if_neg Aa4]
end
def dR (j:Nat):List D:=(Aa7 16).map λi=> .bl (u9 (i=j)||u9 (i=15))
noncomputable def f9:List String:= ["NoSize", "NoPair", "NoName", "NoCode", "NoText", "Crowded", "TooBig", "NoWorld", "NoRenaming", "NoNumber", "Broken", "Kept", "Unlike", "NoRow", "NoStand", "ValueError"]
def ZZ (k:Nat){e:D}(f:String->Bool) (H: ∀c,bc prog.cl (.v e) [c]=y0 (f c)) (h:AH):call prog (k+1) "_law_classes" [.v e] h= .ok (.l (f9.map fun c=> .bl (f c))) h:=by
 rw [Ga (d:=Xj) rfl _ _ _ rfl]
 simp only [Xj]
 have g: ∀(a b c d:String) (x:Option W),eval (k8 k) (.lst (.d (.bc .v0 k9 [a]) (.bc .v0 k9 [b]) (.bc .v0 k9 [c]) (.bc .v0 k9 [d]))) [sv e,x] h= .ok (.own [.bl (f a),.bl (f b),.bl (f c),.bl (f d)]) h:=λa b c d x=>by simp_all [H,aw]
 have add: ∀(l:List D) (a b c d:String),l.length<=90->exec (k8 k) (.av 1 (.bin .add .v1 (.lst (.d (.bc .v0 k9 [a]) (.bc .v0 k9 [b]) (.bc .v0 k9 [c]) (.bc .v0 k9 [d]))))) [sv e,y0 (.l l)] h= .next [sv e,y0 (.l (l++ [.bl (f a),.bl (f b),.bl (f c),.bl (f d)]))] h:=λl a b c d i=>by
  have r:=g a b c d (y0 (.l l))
  generalize E.lst _=X at r ⊢
  simp_all [r,mJ l [.bl (f a),.bl (f b),.bl (f c),.bl (f d)] h (by simp;omega)]
 refine fx (U1:= [sv e,y0 (.l [.bl (f "NoSize"),.bl (f "NoPair"),.bl (f "NoName"),.bl (f "NoCode")])]) (h1:=h) (by rw [exec];exact(congrArg (fun r=>R.bZ r _) (g _ _ _ _ _)).trans rfl) ?_
 refine fx (add _ _ _ _ _ (by simp)) ?_
 refine fx (add _ _ _ _ _ (by simp)) ?_
 refine fx (add _ _ _ _ _ (by simp)) ?_
 rw [jb (w:= .l (f9.map λc=> .bl (f c))) (h1:=h) rfl]
 exact Gc _ _ _ rfl
def yK (k:Nat){e:D}{j b:Nat}(E:Er e j b) (h:AH):call prog (k+1) "_law_classes" [.v e] h= .ok (.l (dR j)) h:=by
 have a: ∀c:String,f9.map (fun x=>D.bl ([x].any (GQ prog.cl 8 c).contains))=dR j->(∀ x,bc prog.cl (.v e) [x]=y0 ([x].any (GQ prog.cl 8 c).contains))->call prog (k+1) "_law_classes" [.v e] h= .ok (.l (dR j)) h:=fun c d f=>by rw [← d];exact ZZ k _ f h
 cases E with
 | size=>exact a "NoSize" (by rfl) fun x=>rfl
 | de=>exact a "Crowded" (by rfl) fun x=>rfl
 | unlike=>exact a "Unlike" (by rfl) fun x=>rfl
 | big=>exact a "TooBig" (by rfl) fun x=>rfl
 | kept=>exact a "Kept" (by rfl) fun x=>rfl
def ya (k j:Nat) (h:AH):call prog (k+1) "_law_class" [.i j] h= .ok (.own (dR j)) h:=by
 rw [Ga (d:=wn) rfl _ _ _ rfl]
 simp only [wn]
 rw [jb (w:= .own (dR j)) (h1:=h) (ZD rfl ?_),Gs _ _ _ rfl]
 unfold xp
 refine wE (n:=16) (λi=> .bl (u9 (i=j)||u9 (i=15))) rfl (by decide) λi c=>⟨.b (u9 (i=j)||u9 (i=15)),?_,rfl⟩
 have a:=Wk i j h
 have b:=Wk i 15 h
 have b:Gy .eq (.i i) (.v (.int 15)) h=y0 (u9 (i=15)):=b
 exact mj (by simp_all [a,aw]) (by simp_all [b,aw])
def cv:Option (Nat×Nat)->D
 | none=> .ai
 | some x=> .tup [.lst (dR x.1),.n x.2]
abbrev cI (a b c d:W) (x y:Option W):Sl:= [y0 a,y0 b,y0 c,y0 d,x,y]
def mP:Ss:=match aK.body with
 | .cons _ (.cons (.dJ _ _ _ a) _)=>a
 | _=> .nil
def BJ (k:Nat){a b c d:W}{x:Option W}{e:D}{j w:Nat}(E:Er e j w) (h:AH):execs (k8 (k+1)) mP (cI a b c d x (sv e)) h= .next (cI a b c d (sv (cv (y0 (j,w)))) (sv e)) h:=by
 have e1:=yK k E h
 have g: ∀(x:Option W) (y:D) (q:M.E),eval (k8 (k+1)) q (cI a b c d x (sv e)) h= .ok (.v y) h->exec (k8 (k+1)) (.av 4 (.tup (.cons (.call "_law_classes" (.a .v5)) (.cons q .nil)))) (cI a b c d x (sv e)) h= .next (cI a b c d (sv (.tup [.lst (dR j),y])) (sv e)) h:=fun x y q l=>by simp_all [e1,l]
 have i: ∀(x:Option W) (t:Bool),bc prog.cl (.v e) ["TooBig"]=some t->Gu (k8 (k+1)) (.bc .v5 true ["TooBig"]) (cI a b c d x (sv e)) h= .ok t h:=fun x t m=>by simp_all [m,aw]
 show execs _ (.b (.av 4 (.tup (.b (.call "_law_classes" (.a .v5)) (.int 0)))) (.iff (.bc .v5 true ["TooBig"]) (.a (.av 4 (.tup (.b (.call "_law_classes" (.a .v5)) (.xf 5 "bits"))))) .nil)) _ h=_
 rw [za (g _ (.int 0) (.int 0) rfl)]
 have f:bc prog.cl (.v e) ["TooBig"]=some false->w=0->execs (k8 (k+1)) (.a (.iff (.bc .v5 true ["TooBig"]) (.a (.av 4 (.tup (.b (.call "_law_classes" (.a .v5)) (.xf 5 "bits"))))) .nil)) (cI a b c d (sv (.tup [.lst (dR j),.int 0])) (sv e)) h= .next (cI a b c d (sv (cv (some (j,w)))) (sv e)) h:=fun n o=>by
  rw [Qd (i _ _ n),execs,o]
  rfl
 cases E with
 | size=>exact f rfl rfl
 | de=>exact f rfl rfl
 | unlike=>exact f rfl rfl
 | big w=>
  rw [za ((XZ (h1:=h) (i _ k9 rfl)).trans ((za (g _ (.n w) (.xf 5 "bits") rfl)).trans rfl)),execs]
  rfl
 | kept p=>exact f rfl rfl
def vO {e:D}{j w:Nat}(E:Er e j w):bc prog.cl (.v e) ["WorldError"]=some true:=by
 cases E<;>rfl
def JQ (k:Nat){a b c d:W}{f:String}{es:Es}{ws:List W}{h:AH}{x:Option (Nat×Nat)}{r:R W}(l:Gw h=k9) (g:Gf (k8 (k+1)) es (cI a b c d (sv .ai) u0) h= .ok ws h) (i:call prog (k+1) f (ws.map W.arg) h=r) (z:Rz h r x):
 ∃h',Kq prog.cl "WorldError" 5 (fun U h=>execs (k8 (k+1)) mP U h) (cI a b c d (sv .ai) none) (hF (call prog (k+1)) none f (cI a b c d (sv .ai) none) (Gf (k8 (k+1)) es (cI a b c d (sv .ai) none) h))= .next (cI a b c d (sv (cv x)) none) (h++h'):=by
 rw [g]
 unfold hF
 dsimp only
 rw [i]
 cases x with
 | none=>
  obtain⟨w,h',rfl⟩:=z
  exact⟨h',rfl⟩
 | some x=>
  obtain⟨e,h',E,rfl⟩:=z
  have m:(h++h').take h.length=h:=List.take_left' rfl
  have j:Ke e h.length (h++h')=h:=by rw [Ke,m,E.keep,l];rfl
  refine⟨[],?_⟩
  rw [Ac2]
  dsimp only
  rw [j,Kq,Kr,vO E]
  dsimp only
  rw [show GG (cI a b c d (sv .ai) u0) 5 (.v e)=cI a b c d (sv .ai) (sv e)from rfl,BJ k E h]
  rfl
abbrev aQ (K T:List Tx) (m:Nat):D:=aF K T (rN m)
def dh (deed:Nat) (K T K' T':List Tx) (d:D) (m1 m2:Nat):Option (Nat×Nat):=
 if deed=0 then(match cF K T d with | some x=>y0 x | none=>if m1=12 then y0 (5,0)else u0)
 else if deed=1 then fG K T K' T' d m1 m2
 else if deed=2 then(match cF K T d with | some x=>y0 x | none=>y0 (11,0))
 else cF K T d
def pX (k:Nat){deed:Nat}{K T K' T':List Tx}{d:D}(l:dP d) (o:K.length<=4) (g:T.length<=4){m1 m2:Nat}(F:1<=m1) (h1:m1<=12) (h2:m2<=12){h:AH}(b:Gw h=k9):call prog (k+13) "_law_caught" [.i deed,.v (aQ K T m1),.v (aQ K' T' m2),.v d] h= .ok (.v (cv (dh deed K T K' T' d m1 m2))) h:=by
 rw [Ga (d:=aK) rfl _ _ _ rfl]
 obtain⟨p,e⟩: ∃p,exec (k8 (k+12)) (match aK.body with | .cons _ (.cons s _)=>s | _=> .aS) (cI (.i deed) (.v (aQ K T m1)) (.v (aQ K' T' m2)) (.v d) (sv .ai) u0) h= .next (cI (.i deed) (.v (aQ K T m1)) (.v (aQ K' T' m2)) (.v d) (sv (cv (dh deed K T K' T' d m1 m2))) u0) (h++p):=by
  have t: ∀(j:Nat) (J:Int),(j:Int)=J->Gu (k8 (k+12)) (.cmp .eq .v0 (.int J)) (cI (.i deed) (.v (aQ K T m1)) (.v (aQ K' T' m2)) (.v d) (sv .ai) u0) h= .ok (u9 (deed=j)) h:=λj J C=>by
   subst C
   simp_all [Wk deed j h,aw]
  have z:=t 0 0 rfl
  have v:=t 1 1 rfl
  have B:=t 2 2 rfl
  dsimp only [aK]
  rw [exec]
  dsimp only [g9]
  rw [z]
  unfold dh
  by_cases i:deed=0
  .rw [decide_eq_true i,if_pos i]
   obtain⟨y,a2,a3⟩:=jJ (K:=K) (T:=T) (k+1) m1 l o g h1 (x:=sS) (Th.t (S:=rN m1++ [.neg sS]) λs c=>by
    rcases Ah0.mp c with c | c
    .exact il m1 s c
    .rw [Ad1.mp c];exact .s) b
   refine JQ (k+11) b (by simp_all [];rfl) rfl ?_
   cases r:cF K T d with
   | some x=>
    obtain⟨e,E,e1⟩:=y x r
    exact⟨e,[],E,by rw [Ac2];exact e1⟩
   | none=>
    by_cases q:m1=12
    .dsimp only
     rw [if_pos q]
     exact⟨_,[],.de,by rw [Ac2];exact a2 r q⟩
    .dsimp only
     rw [if_neg q]
     obtain⟨a,_,e1⟩:=a3 r q
     exact⟨_,[],by rw [Ac2];exact e1⟩
  rw [decide_eq_false i,if_neg i]
  dsimp only
  rw [v]
  by_cases n:deed=1
  .rw [decide_eq_true n,if_pos n]
   exact JQ (k+11) (ws:= [.v (aQ K T m1),.v (aQ K' T' m2),.v d]) b (by simp_all []) rfl (vd k l o g h1 h2 b)
  rw [decide_eq_false n,if_neg n]
  dsimp only
  rw [B]
  by_cases f:deed=2
  .rw [decide_eq_true f,if_pos f]
   exact JQ (k+11) (ws:= [.v (aQ K T m1),.v d]) b (by simp_all []) rfl (B2 (k+2) m1 l o g h1 h)
  rw [decide_eq_false f,if_neg f]
  obtain⟨m,rfl⟩: ∃m,m1=m+1:=⟨m1-1,by omega⟩
  refine JQ (k+11) (ws:= [.v (aQ K T (m+1)),.v d,.i m]) b (by
   have u:(((rN (m+1)).map au).length:Int)=((m+1:Nat):Int):=by rw [Aa0,Ab8]
   have i1:dm (.v (aQ K T (m+1))) (.v (.int 1)) h=y0 (.tup ((rN (m+1)).map au)):=rfl
   have e1:((m+1:Nat):Int)-1=(m:Int):=by omega
   generalize (rN (m+1)).map au=L at u i1
   generalize aQ K T (m+1)=A at i1 ⊢
   simp_all [i1,zi,aw,u,Wp,e1]) rfl (W8 (k+1) m l o g (by omega) b)
 show Gz h.length (execs _ _ (cI (.i deed) (.v (aQ K T m1)) (.v (aQ K' T' m2)) (.v d) u0 u0) h)=_
 rw [show aK.body= .cons (.av 4 .ai) (.cons (match aK.body with | .cons _ (.cons s _)=>s | _=> .aS) (.a (.ret .v4)))from rfl]
 rw [za (U1:=cI (.i deed) (.v (aQ K T m1)) (.v (aQ K' T' m2)) (.v d) (sv .ai) u0) (h1:=h) rfl,za e]
 have nr:Gb (cv (dh deed K T K' T' d m1 m2))=true:=by
  cases dh deed K T K' T' d m1 m2 with
  | none=>rfl
  | some x=>simp [cv,dR,je]
 rw [jb (w:= .v (cv (dh deed K T K' T' d m1 m2))) (h1:=h++p) rfl,mD nr b]
abbrev el (a:Nat) (b c d:D) (x:Option W):Sl:= [si a,sv b,sv c,sv d,x]
def gQ:D->Bool
 | .int i=> !(u9 (0<=i)&&u9 (i<=4))
 | _=>k9
def nQ {F:Fx}{a:Nat}{b c d:D}{x:Option W}(f:dP d) (h:AH):Gu F (.or (.not (.cT .v3 .int)) (.or (.cT .v3 .bool) (.not (.chain .le .le (.int 0) .v3 (.int 4))))) (el a b c d x) h= .ok (gQ d) h:=by
 rcases f with⟨i,rfl⟩ | ⟨_,rfl⟩ | rfl | rfl
 .have e:eval F (.chain .le .le (.int 0) .v3 (.int 4)) (el a b c (.int i) x) h= .ok (.b (u9 (0<=i)&&u9 (i<=4))) h:=by
   by_cases q:(0:Int)<=i
   .simp_all [WI,aw,q,decide_true,Af5]
   .simp_all [WI,aw,q,decide_false,Ag6]
  generalize E.chain _ _ _ _ _=X at e ⊢
  simp_all [e,aw,BQ]
  rfl
 .rfl
 .rfl
 .rfl
def yS {K T:List Tx}{d:D}(h:gQ d=k9):cF K T d=y0 (0,0):=by
 cases d with
 | int i=>
  have h: ¬(0<=i/\i<=4):=by
   intro z
   simp [gQ,z.1,z.2]at h
  show(if _ then _ else _)=_
  rw [if_neg (by omega)]
 | _=>rfl
def yC {d:D}(h:gQ d=y9): ∃n:Nat,n<=4/\d= .n n:=by
 cases d with
 | int i=>
  have h:0<=i/\i<=4:=by simpa [gQ]using h
  exact⟨i.toNat,by omega,by rw [D.n,Af7 h.1]⟩
 | _=>cases h
def A5 (k:Nat){deed:Nat}{K T K' T':List Tx}{d:D}(H:dP d) (X:K.length<=4) (M:T.length<=4){m1 m2:Nat}(h:AH):call prog (k+2) "_law_due" [.i deed,.v (aQ K T m1),.v (aQ K' T' m2),.v d] h= .ok (.v (cv (dh deed K T K' T' d m1 m2))) h:=by
 rw [Ga (d:=Xt) rfl _ _ _ rfl]
 have R: ∀(j:Nat) (J:Int),(j:Int)=J->call prog (k+1) "_law_class" [.v (.int J)] h= .ok (.own (dR j)) h:=fun j J e=>by subst e;exact ya k j h
 have t: ∀(x:Option W) (j:Nat) (J:Int),(j:Int)=J->eval (k8 (k+1)) (.cmp .eq .v0 (.int J)) (el deed (aQ K T m1) (aQ K' T' m2) d x) h= .ok (.b (u9 (deed=j))) h:=λx j J C=>by
  subst C
  simp_all [Wk deed j h,aw]
 have i: ∀(x:Option W) (q:E) (y j:Nat) (J:Int),(j:Int)=J->eval (k8 (k+1)) q (el deed (aQ K T m1) (aQ K' T' m2) d x) h= .ok (.i y) h->exec (k8 (k+1)) (.ret (.tup (.cons (.call "_law_class" (.a (.int J))) (.cons q .nil)))) (el deed (aQ K T m1) (aQ K' T' m2) d x) h= .ret (.v (cv (some (j,y)))) h:=fun x q y j J C Q=>wh rfl (by simp_all [R j J C,Q];rfl)
 have ne:eval (k8 (k+1)) (.cmp .ne (.ix .v1 (.int 0)) (.ix .v2 (.int 0))) (el deed (aQ K T m1) (aQ K' T' m2) d u0) h= .ok (.b (!xK K T K' T')) h:=by simp_all [ag,zl,n7,aw]
 show Gz h.length (execs (k8 (k+1)) _ (el deed (aQ K T m1) (aQ K' T' m2) d u0) h)=_
 have fin: ∀ {o:O}{y:D},o= .ret (.v y) h->Gz h.length o= .ok (.v y) h:=λe=>by rw [e,Gc _ _ _ rfl]
 simp only [Xt]
 have p:=lY (t u0 1 1 rfl) ne
 by_cases a:(u9 (deed=1)&& !xK K T K' T')=k9
 .rw [Aa1,decide_eq_true_eq,Ai7]at a
  obtain⟨rfl,G⟩:=a
  rw [G]at p
  refine fin ((Zr (QA p λ_=>rfl) (i u0 (.int 0) 0 12 12 rfl rfl)).trans ?_)
  rw [dh,if_neg (by decide),if_pos rfl,fG,if_pos G]
 have a:=eq_false_of_ne_true a
 rw [a]at p
 rw [Qd (QA p λ_=>rfl)]
 cases u:gQ d with
 | true=>
  refine fin ((Zr (by rw [nQ H h,u]) (i u0 (.int 0) 0 0 0 rfl rfl)).trans ?_)
  have e:=yS (K:=K) (T:=T) u
  congr 3
  unfold dh fG
  rw [e]
  by_cases f:deed=0
  .rw [if_pos f]
  rw [if_neg f]
  by_cases b:deed=1
  .rw [if_pos b]
   rw [decide_eq_true b,Af5,Ai4]at a
   rw [a,if_neg (by simp)]
  .rw [if_neg b]
   by_cases c:deed=2
   .rw [if_pos c]
   .rw [if_neg c]
 | false=>
  rw [Qd (by rw [nQ H h,u])]
  obtain⟨n,S,rfl⟩:=yC u
  have F:Gg .mul (K.length:Int) (n:Int)=y0 ((K.length*n:Nat):Int):=Jm _ _ (by omega)
  have B:Gg .mul (T.length:Int) (n:Int)=y0 ((T.length*n:Nat):Int):=Jm _ _ (by omega)
  have w:Gg .mul ((T.length*n:Nat):Int) (n:Int)=y0 ((T.length*n*n:Nat):Int):=Jm _ _ (by have:=Ag7 M S;omega)
  have V:((K.map D.str).length:Int)=(K.length:Int):=by rw [Aa0]
  have N:((T.map D.str).length:Int)=(T.length:Int):=by rw [Aa0]
  have U:((K.length*n:Nat):Int)+((T.length*n*n:Nat):Int)=((bN n K T:Nat):Int):=by rw [bN,Nat.mul_assoc];rfl
  rw [za (U1:=el deed (aQ K T m1) (aQ K' T' m2) (.n n) (si (bN n K T))) (h1:=h) (by
   simp_all [ag,zl,Xq,zi,aw,V,N,F,B,w,zf,U])]
  have z:Gu (k8 (k+1)) (.cmp .gt .v4 (.int 16)) (el deed (aQ K T m1) (aQ K' T' m2) (.n n) (si (bN n K T))) h= .ok (u9 (16<bN n K T)) h:=by
   have z:Gy .gt (.i (bN n K T)) (.v (.int 16)) h=y0 (u9 (16<bN n K T)):=mn 16 (bN n K T) h
   simp_all [z,aw]
  have m:cF K T (.n n)=if 16<bN n K T then y0 (6,bN n K T)else none:=by
   show(if 0<=(n:Int)/\(n:Int)<5 then(if 16<bN (n:Int).toNat K T then y0 (6,bN (n:Int).toNat K T)else u0)else y0 (0,0))=_
   rw [if_pos (by omega),Ac5]
  by_cases s:16<bN n K T
  .rw [decide_eq_true s]at z
   rw [if_pos s]at m
   refine fin ((Zr z (i _ .v4 (bN n K T) 6 6 rfl rfl)).trans ?_)
   congr 3
   unfold dh fG
   rw [m]
   by_cases f:deed=0
   .rw [if_pos f]
   rw [if_neg f]
   by_cases b:deed=1
   .rw [if_pos b]
    rw [decide_eq_true b,Af5,Ai4]at a
    rw [a,if_neg (by simp)]
   .rw [if_neg b]
    by_cases c:deed=2
    .rw [if_pos c]
    .rw [if_neg c]
  .rw [decide_eq_false s]at z
   rw [if_neg s]at m
   rw [Qd z]
   have I: ∀(x:Option W),eval (k8 (k+1)) (.cmp .eq (.bi .len (.a (.ix .v1 (.int 1)))) (.int 12)) (el deed (aQ K T m1) (aQ K' T' m2) (.n n) x) h= .ok (.b (u9 (m1=12))) h:=λx=>by
    have l:(((rN m1).map au).length:Int)=(m1:Int):=by rw [Aa0,Ab8]
    have g:Gy .eq (.i m1) (.v (.int 12)) h=y0 (u9 (m1=12)):=Wk m1 12 h
    have i1:dm (.v (aQ K T m1)) (.v (.int 1)) h=y0 (.tup ((rN m1).map au)):=rfl
    generalize (rN m1).map au=L at l i1
    generalize aQ K T m1=A at i1 ⊢
    simp_all [i1,zi,aw,l,g]
   have l2: ∀(x:Option W),eval (k8 (k+1)) (.cmp .eq (.bi .len (.a (.ix .v2 (.int 1)))) (.int 12)) (el deed (aQ K T m1) (aQ K' T' m2) (.n n) x) h= .ok (.b (u9 (m2=12))) h:=λx=>by
    have l:(((rN m2).map au).length:Int)=(m2:Int):=by rw [Aa0,Ab8]
    have g:Gy .eq (.i m2) (.v (.int 12)) h=y0 (u9 (m2=12)):=Wk m2 12 h
    have i1:dm (.v (aQ K' T' m2)) (.v (.int 1)) h=y0 (.tup ((rN m2).map au)):=rfl
    generalize (rN m2).map au=L at l i1
    generalize aQ K' T' m2=A at i1 ⊢
    simp_all [i1,zi,aw,l,g]
   have a2:=mj (lY (t (si (bN n K T)) 0 0 rfl) (I (si (bN n K T)))) (lY (t (si (bN n K T)) 1 1 rfl) (mj (I (si (bN n K T))) (l2 (si (bN n K T)))))
   have r:=t (si (bN n K T)) 2 2 rfl
   have v:(u9 (deed=0)&&u9 (m1=12)||u9 (deed=1)&&(u9 (m1=12)||u9 (m2=12)))=k9->dh deed K T K' T' (.n n) m1 m2=y0 (5,0):=λq=>by
    rw [Ah9,Aa1,Aa1,Ah9,decide_eq_true_eq,decide_eq_true_eq,decide_eq_true_eq,decide_eq_true_eq]at q
    unfold dh fG
    rw [m]
    rcases q with⟨rfl,q⟩ | ⟨rfl,q⟩
    .rw [if_pos rfl]
     exact if_pos q
    .rw [decide_eq_true rfl,Af5,Ai4]at a
     rw [if_neg (by decide),if_pos rfl,a,if_neg (by simp)]
     exact if_pos q
   have P: ¬(u9 (deed=0)&&u9 (m1=12)||u9 (deed=1)&&(u9 (m1=12)||u9 (m2=12)))=k9->dh deed K T K' T' (.n n) m1 m2=if deed=2 then y0 (11,0)else none:=λq=>by
    rw [Ah9,Aa1,Aa1,Ah9,decide_eq_true_eq,decide_eq_true_eq,decide_eq_true_eq,decide_eq_true_eq]at q
    unfold dh fG
    rw [m]
    by_cases f:deed=0
    .rw [if_pos f]
     dsimp only
     rw [if_neg (show ¬m1=12 by omega),if_neg (show ¬deed=2 by omega)]
    rw [if_neg f]
    by_cases b:deed=1
    .rw [decide_eq_true b,Af5,Ai4]at a
     rw [if_pos b,a,if_neg (by simp)]
     dsimp only
     rw [if_neg (show ¬(m1=12\/m2=12)by omega),if_neg (show ¬deed=2 by omega)]
    .rw [if_neg b]
   by_cases q:(u9 (deed=0)&&u9 (m1=12)||u9 (deed=1)&&(u9 (m1=12)||u9 (m2=12)))=k9
   .rw [v q]
    rw [q]at a2
    exact fin (Zr (QA a2 λ_=>rfl) (i _ (.int 0) 0 5 5 rfl rfl))
   .rw [P q]
    rw [eq_false_of_ne_true q]at a2
    rw [Qd (QA a2 λ_=>rfl)]
    by_cases c:deed=2
    .rw [if_pos c]
     rw [decide_eq_true c]at r
     exact fin (Zr (QA r λ_=>rfl) (i _ (.int 0) 0 11 11 rfl rfl))
    .rw [if_neg c]
     rw [decide_eq_false c]at r
     rw [Qd (QA r λ_=>rfl)]
     exact fin (jb rfl)
noncomputable abbrev cU (s:W) (r:Nat) (w d:D) (l:List D) (x5 x6 x7 x8:Option W):Sl:= [y0 s,y0 (.r r),sv w,sv d,y0 (.own l),x5,x6,x7,x8]
def o1 (x:Option (Nat×Nat)):Gb (cv x)=k9/\dep (cv x)<150:=by
 cases x with
 | none=>exact⟨rfl,by simp [cv]⟩
 | some x=>
  have a:=je (λi=>D.bl (u9 (i=x.1)||u9 (i=15))) (λ_=>rfl) (Aa7 16)
  have b:=wt (λi=>D.bl (u9 (i=x.1)||u9 (i=15))) 0 (λ_=>Aa6 _) (Aa7 16)
  exact⟨by simp [cv,dR,a],by simp [cv,dR];omega⟩
theorem mW (k:Nat){s:W}{r:Nat}{K T K' T':List Tx}{d w:D}(g:dP d) (l:K.length<=4) (c:T.length<=4){m1 m2:Nat}(m:1<=m1) (h1:m1<=12) (h2:m2<=12){h:AH}(n:Gw h=k9){x6:Option W}{f:Nat}: ∀(L:List Nat) (x5 x8:Option W),∃M i,Gv (Gn [5] k9) (λU h=>execs (k8 (k+13)) xC U h) (L.map λ(j:Nat)=>D.n j) (cU s r w d [aQ K T m1,aQ K' T' m2] x5 x6 (si f) x8) h= .next (cU s r w d [aQ K T m1,aQ K' T' m2] M x6 (si f) i) h
 | [],x5,x8=>⟨x5,x8,rfl⟩
 | j::L,x5,x8=>by
  obtain⟨p,o,e⟩:=mW k g l c m h1 h2 n (s:=s) (r:=r) (K':=K') (T':=T') (w:=w) (x6:=x6) (f:=f) L (si j) (si ((f+j) % 4))
  refine⟨p,o,?_⟩
  have a:=pX k (deed:=(f+j) % 4) (K':=K') (T':=T') g l c m h1 h2 n
  have b:=A5 (k+11) (deed:=(f+j) % 4) (K':=K') (T':=T') (m1:=m1) (m2:=m2) g l c h
  have z:=Cd _ (o1 (dh ((f+j) % 4) K T K' T' d m1 m2)).1 (o1 (dh ((f+j) % 4) K T K' T' d m1 m2)).2 h
  have q:Gg .mod ((f+j:Nat):Int) 4=y0 (((f+j) % 4:Nat):Int):=nG _ 4 (by decide)
  have t:((f:Int)+(j:Int))=((f+j:Nat):Int):=rfl
  rw [Ac4,Qb (U1:=cU s r w d [aQ K T m1,aQ K' T' m2] (si j) x6 (si f) x8) (U2:=cU s r w d [aQ K T m1,aQ K' T' m2] (si j) x6 (si f) (si ((f+j) % 4))) (h2:=h) rfl,e]
  show execs _ xC _ h=_
  unfold xC
  generalize cv (dh ((f+j) % 4) K T K' T' d m1 m2)=V at a b z
  generalize aQ K T m1=A at a b ⊢
  generalize aQ K' T' m2=B at a b ⊢
  rw [za (U1:=cU s r w d [A,B] (si j) x6 (si f) (si ((f+j) % 4))) (h1:=h) (by simp_all [zf,t,q])]
  rw [Qd (by simp_all [nI,zl,Xq,a,b,z,aw]),execs]
def sf (x:D) (m:Nat) (a:1<=m) (h1:m<=100) (h:AH):GY .mul (.t [x]) (.i m) h= .ok (.t (Aa m x)) h:=by
 show(if [x]≠ []/\1<=(m:Int)/\(m:Int)<1001/\ [x].length*(m:Int).toNat<=aX then aw (.tup (Aa (m:Int).toNat [x]).flatten) h else .fail)=_
 rw [if_pos ⟨by simp,by omega,by omega,by rw [Gi,Ac5];simp;omega⟩,Ac5,show(Aa m [x]).flatten=Aa m x by simp]
def mU (k:Nat){ns:List Int}{i:Nat}{v:Int}{s:W}{r:Nat}{K T:List Tx}{d:D}{l:List D}(z:l.length<=10){h:AH}(e:h[r]? =y0 (ay ns i v)){x5 x6:Option W}: ∃(m:Nat) (t:Int),1<=m/\m<=12/\execs (k8 (k+1)) xM (cU s r (wD K T) d l x5 x6 u0 u0) h= .next (cU s r (wD K T) d (l++ [aQ K T m]) x5 (si m) u0 u0) (h.set r (ay ns i t)):=by
 have u:r<h.length:=(Ab.mp e).1
 have o: ∀w,(h.set r (ay ns i w))[r]? =y0 (ay ns i w):=λw=>Ac1 u
 obtain⟨a,v1,y,e1⟩:=Zi k e (m:=11) (by decide) (by decide)
 have e1:call prog (k+1) "_law_draw" [.r r,.v (.int 11)] h= .ok (.i a) (h.set r (ay ns i v1)):=e1
 obtain⟨b,v2,x,e2⟩:=Zi k (o v1) (m:=4) (by decide) (by decide)
 rw [Af0]at e2
 have e2:call prog (k+1) "_law_draw" [.r r,.v (.int 4)] (h.set r (ay ns i v1))= .ok (.i b) (h.set r (ay ns i v2)):=e2
 obtain⟨m,f,c,j⟩: ∃m:Nat,1<=m/\m<=12/\bq [D.int 12,.int 12,.int 11,.int (1+(a:Int))] (b:Int)=y0 (.n m):=by
  obtain rfl | rfl | rfl | rfl:b=0\/b=1\/b=2\/b=3:=by omega
  .exact⟨12,by decide,by decide,rfl⟩
  .exact⟨12,by decide,by decide,rfl⟩
  .exact⟨11,by decide,by decide,rfl⟩
  .exact⟨1+a,by omega,by omega,rfl⟩
 refine⟨m,v2,f,c,?_⟩
 unfold xM
 rw [za (U1:=cU s r (wD K T) d l x5 (si m) u0 u0) (h1:=h.set r (ay ns i v2)) (by simp_all [e1,zf,e2,BR,j])]
 have p:=sf (au sN) m f (by omega) (h.set r (ay ns i v2))
 have n:l.length<aX:=by rw [Gi];omega
 have q:aQ K T m= .tup [wD K T,.tup (Aa m (au sN))]:=by rw [aQ,aF,Ak6]
 rw [q]
 have g:D.tup [.str gR,.tup [.str gB]]=au sN:=rfl
 generalize wD K T=X
 rw [za (U1:=cU s r X d (l++ [.tup [X,.tup (Aa m (au sN))]]) x5 (si m) u0 u0) (h1:=h.set r (ay ns i v2)) (by simp_all [g,p,n,if_true]),execs]
def d9: ∀ns:List Int,ns.length<=63-> ∃h',M.call prog 40 "law" [.v (.lst (ns.map .int))] []= .ok (.v (.bl true)) h':=by
 intro ns I
 rw [show (40:Nat)=26+13+1 from rfl,Ga (d:=c9) rfl _ _ _ rfl]
 simp only [c9]
 obtain⟨v,e1⟩:=tM 38 ns I []
 show ∃h',Gz 0 (execs _ _ [y0 (.l (ns.map .int)),u0,u0,u0,u0,u0,u0,u0,u0] [])=_
 rw [za (U1:= [y0 (.l (ns.map .int)),y0 (.r 0),u0,u0,u0,u0,u0,u0,u0]) (h1:= [ay ns 0 v]) (by
  rw [exec,jX (ws:= [.l (ns.map .int)]) (by simp_all []) e1 (by have:=je D.int (λ_=>rfl) ns;simp [this])];rfl)]
 obtain⟨K,T,v2,G,x,e2⟩:=n9 36 (h:= [ay ns 0 v]) (r:=0) rfl
 rw [za (U1:= [y0 (.l (ns.map .int)),y0 (.r 0),sv (wD K T),u0,u0,u0,u0,u0,u0]) (h1:= [ay ns 0 v2]) (by simp_all [e2];rfl)]
 obtain⟨d,v3,C,H⟩:=tP 37 (h:= [ay ns 0 v2]) (r:=0) rfl
 rw [za (U1:= [y0 (.l (ns.map .int)),y0 (.r 0),sv (wD K T),sv d,u0,u0,u0,u0,u0]) (h1:= [ay ns 0 v3]) (by simp_all [H];rfl)]
 rw [za (U1:=cU (.l (ns.map .int)) 0 (wD K T) d [] u0 u0 u0 u0) (h1:= [ay ns 0 v3]) rfl]
 obtain⟨e,v4,y,E,t⟩:=mU 38 (s:= .l (ns.map .int)) (K:=K) (T:=T) (d:=d) (l:= []) (by decide) (h:= [ay ns 0 v3]) (r:=0) (x5:=si 0) (x6:=u0) rfl
 obtain⟨a,v5,L,u,p⟩:=mU 38 (s:= .l (ns.map .int)) (K:=K) (T:=T) (d:=d) (l:= [aQ K T e]) (by simp) (h:= [ay ns 0 v4]) (r:=0) (x5:=si 1) (x6:=si e) rfl
 rw [za (U1:=cU (.l (ns.map .int)) 0 (wD K T) d [aQ K T e,aQ K T a] (si 1) (si a) u0 u0) (h1:= [ay ns 0 v5]) (by
  rw [exec,kg (m:=2) rfl (by omega),R.aA]
  refine(Qb (bnd:=Gn [5] k9) (U1:=cU (.l (ns.map .int)) 0 (wD K T) d [] (si 0) u0 u0 u0) rfl t).trans ?_
  exact(Qb (bnd:=Gn [5] k9) (U1:=cU (.l (ns.map .int)) 0 (wD K T) d [aQ K T e] (si 1) (si e) u0 u0) rfl p).trans rfl)]
 obtain⟨c,v6,N,k⟩:=Zi 38 (h:= [ay ns 0 v5]) (r:=0) (m:=4) rfl (by decide) (by decide)
 have k:call prog 39 "_law_draw" [.r 0,.v (.int 4)] [ay ns 0 v5]= .ok (.i c) [ay ns 0 v6]:=k
 have fin: ∀(b g:List Tx) (v:Int),∃h',Gz 0 (execs (k8 39) (match c9.body with | .cons _ (.cons _ (.cons _ (.cons _ (.cons _ (.cons _ r)))))=>r | r=>r) (cU (.l (ns.map .int)) 0 (wD K T) d [aQ K T e,aQ b g a] (si 1) (si a) u0 u0) [ay ns 0 v])= .ok (.v (.bl k9)) h':=λb g v=>by
  obtain⟨f,v7,J,i⟩:=Zi 38 (h:= [ay ns 0 v]) (r:=0) (m:=4) rfl (by decide) (by decide)
  have i:call prog 39 "_law_draw" [.r 0,.v (.int 4)] [ay ns 0 v]= .ok (.i f) [ay ns 0 v7]:=i
  obtain⟨n,F,o⟩:=mW 26 C G x y E u (s:= .l (ns.map .int)) (r:=0) (K':=b) (T':=g) (w:=wD K T) (x6:=si a) (f:=f) (h:= [ay ns 0 v7]) rfl (Aa7 4) (si 1) u0
  simp only [c9]
  generalize aQ K T e=A at o ⊢
  generalize aQ b g a=B at o ⊢
  rw [za (U1:=cU (.l (ns.map .int)) 0 (wD K T) d [A,B] (si 1) (si a) (si f) u0) (h1:= [ay ns 0 v7]) (by simp_all [i])]
  rw [za (U1:=cU (.l (ns.map .int)) 0 (wD K T) d [A,B] n (si a) (si f) F) (h1:= [ay ns 0 v7]) (by
   rw [exec,kg (m:=4) rfl (by omega),R.aA]
   exact o)]
  exact⟨[],rfl⟩
 have j:Gu (k8 39) (.cmp .eq (.call "_law_draw" (.b .v1 (.int 4))) (.int 0)) (cU (.l (ns.map .int)) 0 (wD K T) d [aQ K T e,aQ K T a] (si 1) (si a) none none) [ay ns 0 v5]= .ok (decide (c=0)) [ay ns 0 v6]:=by
  have z:Gy .eq (.i c) (.v (.int 0)) [ay ns 0 v6]=y0 (u9 (c=0)):=Wk c 0 _
  simp_all [k,z,aw]
 by_cases q:c=0
 .rw [decide_eq_true q]at j
  obtain⟨b,g,v7,_,_,i⟩:=n9 36 (h:= [ay ns 0 v6]) (r:=0) rfl
  have i:call prog 39 "_law_words" [.r 0] [ay ns 0 v6]= .ok (.v (wD b g)) [ay ns 0 v7]:=i
  rw [za (U1:=cU (.l (ns.map .int)) 0 (wD K T) d [aQ K T e,aQ b g a] (si 1) (si a) u0 u0) (h1:= [ay ns 0 v7]) ((XZ j).trans ((za (by simp_all [i,nI,Xq,ag];rfl)).trans rfl))]
  exact fin b g v7
 .rw [decide_eq_false q]at j
  rw [za ((md j).trans rfl)]
  exact fin K T v6
end M
namespace L2.MS
open PySem PyProof.Rows
noncomputable def p8:List String:= ["is_whole", "is_below", "pairs_of", "every", "made", "counts", "bounds", "settled", "not_told", "count_told", "told", "fact_told", "is_size", "widths", "bits", "check_size", "check_bits", "world_of", "places_of", "names_in", "needed_bits", "found", "check_room", "follows", "matters", "same_or_parted", "quarrel", "_law_start", "_law_draw", "_law_names", "_law_classes", "_law_class", "_law_size", "_law_words", "_law_caught", "_law_due", "law"]
noncomputable def vp:List String:= ["WorldError", "NoSize", "NoPair", "NoName", "NoCode", "NoText", "Crowded", "TooBig", "NoWorld", "NoRenaming", "NoNumber", "Broken", "Kept", "Unlike", "NoRow", "NoStand"]
def yf:List String:= ["NoSize", "Crowded", "Unlike"]
def td:List String:= ["WorldError"]
def uX:List String:= ["_law_classes"]
noncomputable def p9:iP:=⟨[("Cases", "words"),("Cases", "sayings"),("Cases", "size"),("Cases", "places"),("Cases", "whole"),("Search", "cases"),("Search", "needs")],[("Cases", "world_of_code", "Cases.world_of_code"),("Cases", "truth", "Cases.truth"),("Search", "told_of_sayings", "Search.told_of_sayings"),("Search", "told_of_case", "Search.told_of_case")],[("Cases", "Cases.__init__"),("Search", "Search.__init__")],["Cases.__init__", "Cases.world_of_code", "Cases.truth", "Search.__init__", "Search.told_of_sayings", "Search.told_of_case"],[("TooBig", "bits"),("Kept", "world")]⟩
noncomputable def vV:List (String×List String):= [("counts",["size", "sort", "tie", "pairs"]),("bounds",["words", "part", "expression", "sort", "inner_bounds", "musts", "mays", "size"]),("fact_told",["words", "part", "fact", "sort", "size", "last"]),("_law_names",["_law_pack", "_law_many", "_law_letters", "_law_first", "_law_stem", "_law_k", "_law_at", "_law_names_here", "_law_name"])]
def yy:Cg:=⟨p8,vp,yf,td,p9,k9,uX⟩
end L2.MS
namespace PySem.W.Fast
def tw14023867812869630940:=0
def tw18270175817462173095:=0
def tw5089090069162660297:=0
def tw6302003680759568962:=0
def tw3011244580191607831:=0
def tw620445812238316374:=0
def tw7175417960680453270:=0
def tw4185222419730293644:=0
def tw11431652544266145076:=0
def tw4671789384487599776:=0
def tw7347028722105636168:=0
def tw9670768353410144117:=0
def tw7665403558908323175:=0
def tw13543801092132830387:=0
def tw5509817662044419310:=0
def tw1590559322794124069:=0
def tw16945011547599363094:=0
def tw15477132237551513455:=0
def tw1810023224621426589:=0
def tw9566917638711637772:=0
def tw7308294647334363218:=0
def tw10574128008720327514:=0
def tw2685030984428610105:=0
def tw10597666292929842587:=0
def tw17918777018478742724:=0
def tw8023830486610777519:=0
def tw16820981550517871223:=0
def tw6977181374333585429:=0
def tw3089851914581921361:=0
def tw17090454029378843778:=0
def tw12497484633690746247:=0
def tw2024884472518133651:=0
def tw4614584727707478260:=0
def tw4018071953142307628:=0
def tw4065625004325196977:=0
def tw14426008010439995243:=0
def tw5732467799303888156:=0
def tw3349478041611863000:=0
def tw8099528661030042227:=0
def tw10912337259232907213:=0
def tw12791384286422599467:=0
def tw14373052416910545092:=0
def tw8097704871543002588:=0
def tw1921260141130808896:=0
def tw1508575349852208215:=0
def tw8563583740133830477:=0
def tw18041035864608513481:=0
def tw13374767884904415433:=0
def tw13666961457507610910:=0
def tw11042845825589638919:=0
def tw4494721084473728568:=0
def tw18274751337225983739:=0
def tw14687347172595821030:=0
def tw16412092131484783835:=0
def tw5800694466988168255:=0
def tw15662228259274141176:=0
def tw5053066773871467204:=0
def tw18034607170011615346:=0
def tw4908429329404183527:=0
def tw2613146276744712958:=0
def tw8103220768981779019:=0
def tw12186354634978444908:=0
def tw10965443185428547020:=0
def tw8765792565526212886:=0
def tw7239640605727376141:=0
def tw17722505005601493658:=0
def tw13241488440631205147:=0
def tw1673552657959042174:=0
def tw4705104032111772975:=0
def tw3391686537385505288:=0
def tw10525862905983245464:=0
def tw11037129259126798884:=0
def tw7400510544040373794:=0
def tw17040708716684165505:=0
def tw6736061278138073668:=0
def tw5360560438042467379:=0
def tw4706605012432268406:=0
def tw13080302366725288138:=0
def tw13981556833113223304:=0
def tw2748387987839166512:=0
def tw17995639922765763246:=0
def tw12433617044753467848:=0
def tw4680313757254041970:=0
def tw10029667869816760760:=0
def tw10507034744483359321:=0
def tw5244824107041268265:=0
def tw16318754454547561159:=0
def tw8257651223214982630:=0
def tw17383465970366625034:=0
def tw8688310626308781986:=0
def tw12134378359381474376:=0
def tw7780519634238195888:=0
def tw1970257443113938037:=0
def tw3170200262549085900:=0
def tw8140586921344935421:=0
def tw9829671146904591896:=0
def tw9036811228980901060:=0
def tw1903911606747066646:=0
def tw6413821189737268200:=0
def tw15970511604794158630:=0
def tw6458332433687766826:=0
def tw3137531194464064936:=0
def tw12840543302013232646:=0
def tw17909331929866397517:=0
def tw17384315874903248693:=0
def tw15267358106136657545:=0
def tw16214516247900447199:=0
def tw16646946263755195616:=0
def tw17442613048383583700:=0
def tw17608805167522477904:=0
def tw6618115894069657029:=0
def tw17059521687686664612:=0
def tw7989700606662041991:=0
def tw10865371591308721744:=0
def tw12649703653423652977:=0
def tw7368801101088883487:=0
def tw8391559727442385187:=0
def tw10206114504105650896:=0
def tw13350422923894227744:=0
def tw1301750356915503503:=0
def tw13632464844729715864:=0
def tw16765231214561477050:=0
def tw8262161433866205095:=0
def tw4463308256725881290:=0
def tw13306243036142667317:=0
def tw9596633060370310333:=0
def tw1704880848761801024:=0
def tw10326069681249330355:=0
def tw9991420064586168546:=0
def tw14035030620530849164:=0
def tw12619647605462404541:=0
def tw8790330815316683050:=0
def tw14631681607259627758:=0
def tw17440476011163427619:=0
def tw13650640275218920773:=0
def tw9577056163079081493:=0
def tw3057502657902701372:=0
def tw9572004650450420234:=0
def tw1041415106935694369:=0
def tw18125315709422226623:=0
def tw7607442267656341708:=0
def tw18383305012407777437:=0
def tw2761000732546148142:=0
def tw6827614872388737466:=0
def tw9802051885690920667:=0
def tw17079022558195862389:=0
def tw7620899772609740808:=0
def tw2675278963093237917:=0
def tw12865861711969524432:=0
def tw552506988783386311:=0
def tw13440106797663991338:=0
def tw14420139788717821444:=0
def tw11744488774647120753:=0
def tw13039464032975445175:=0
def tw15926282267446953714:=0
def tw2038052346895013402:=0
def tw8966946954203449812:=0
def tw9644988326493160507:=0
def tw9670080300254021812:=0
def tw3829155997419208110:=0
def tw11165002280538954257:=0
def tw17605792407705089094:=0
def tw16630738640813209403:=0
def tw16550824450035255328:=0
def tw4697252905105819006:=0
def tw10018381000971199304:=0
def tw17827440440518966199:=0
def tw9891763066228409037:=0
def tw15096618473898677978:=0
def tw12056189119975261751:=0
def tw16728192717286104693:=0
def tw10672101673217767017:=0
def tw2624638547778819193:=0
def tw5266767965925292:=0
def tw10524856264682281823:=0
end PySem.W.Fast
open PySem PySem.W PyProof.Rows
set_option maxRecDepth 100000 in
set_option maxHeartbeats 0 in
theorem PySem.Challenge.cw_worldfind_k65_asked_and_refused_holds : PySem.Challenge.rw_worldfind_k65_asked_and_refused.Holds := by
 w_on;o_law;k_head;(case hw=>w_witness2)
 k_fill
 refine L2.MS.walk (l:=PySem.Challenge.rw_worldfind_k65_asked_and_refused) (x:= "_law_script") (2*40+3) ⟨fun _=>rfl,by decide,by decide⟩ rfl rfl (fun w h Y=>PySem.W.kIn_of Y) ?F
 case F=>
  intro w mg fa h KX G hmg
  exact L2.MS.gz M.prog L2.MS.yy L2.MS.vV 39 KX G hmg (by kernel_rfl) M.d9
