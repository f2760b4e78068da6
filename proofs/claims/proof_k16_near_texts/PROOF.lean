import PyProof.Rows.All
import Wide.All
import OpenK.AllK
import Wide.FinOn
import Lean
import PyProof.EqAt
import PyProof.EqKinds
import PyProof.TupleCall
import PyProof.NeKinds
import PyProof.NsDelKeeps
import KE.KRevSl
import PyProof.StrWalks
import PyProof.ConsumeWalk
import PyProof.SumWalk
import PyProof.Rows.SortStr
import PyProof.SumWalkG
import PyProof.StrCalls2
import PyProof.StrLawsIdx
import PyProof.WalkInts
import PyProof.StrOps2
import PyProof.SliceStr2
import PyProof.Draws
import PyProof.EnumMake
import PyProof.Rows.SetFrom
import PyProof.SetRoads
import PyProof.WalksMore
import PyProof.ListRange
import PyProof.TupleOfSeq
import PyProof.TupleOfGen
import PyProof.Rows.SortShell
import PyProof.ZipIter
import PyProof.DictStraight
import PyProof.TupleKey
import PyProof.DictRoadsH
import PyProof.DictTruth
import PyProof.Rows.TupTab
import KE.KTabLook
import PyProof.FString
import PyProof.CallStr
import KE.KIntText
import PyProof.Rows.Range3
import PyProof.DictRoads
import PySem.Challenge.RW_worldfind_k16_near_texts
set_option Elab.async false
set_option linter.all false
set_option maxRecDepth 100000
set_option compiler.extract_closed false
local macro_rules | `(tactic| omega) => `(tactic| lia)
set_option bootstrap.genMatcherCode false
noncomputable section
open List renaming mem_cons_self → Aa, mem_cons_of_mem → Aa0, replicate → Aa1, length_cons → Aa2, length_append → Aa3, mem_cons → Aa5, getElem?_eq_getElem → Aa7, mem_append_right → Ab, not_mem_nil → Ab0, size_toArray → Ab2, lookup_cons → Ab4, mem_singleton → Ab6, range → Ab7, getElem?_eq_some_iff → Ab9, length_map → Ac, map_cons → Ac0, getD_eq_getElem?_getD → Ac3, getElem?_set_self → Ac4, length_set → Ac5, getElem?_set_ne → Ac7, mem_append → Ac8, replicate_succ → Ad, append_nil → Ad0, getElem?_map → Ad1, getElem?_append_left → Ad2, length_replicate → Ad5, contains_iff_mem → Ad6, getElem?_append_right → Ad8, mem_map → Ae, map_append → Ae0, foldl_cons → Ae1, isEmpty_iff → Ae2, drop_eq_getElem_cons → Ae6, length_take → Ae9, all_eq_true → Af, mem_append_left → Af0, append_assoc → Af2, nodup_cons → Ag, length_nil → Ag0, eq_nil_of_length_eq_zero → Ag3, nil_append → Ag4, map_map → Ag5, lookup → Ag6, any_cons → Ag7, all_cons → Ag8, mem_of_mem_take → Ah0, filterMap_cons → Ah2, map_nil → Ah4, pairwise_cons → Ah5, drop_of_length_le → Ah8, mem_range → Ai1, length_drop → Ai4, cons_append → Ai5, mem_of_getElem? → Ai6, mem_replicate → Aj0, reverse_cons → Aj7, flatten_cons → Aj8, getElem?_replicate → Ak, Pairwise → Ak0, take_length → Ak1, getElem_mem → Ak2, take_of_length_le → Ak3, take_append_drop → Ak6, length_singleton → Ak7, replicate_zero → Al0, mem_filterMap → Al4, pairwise_map → Al5, all_map → Al7
open PySem.W renaming Frag → Aa4, kia_one → Ad4, keepIn → Af5, emptyDict → Af8, instObj → Ah3, findIn → Ah7, plainGet → Aj6, cellsFrom_some → Aj9, lookIn → Ak4, kitOne → Ak5, plainGet_of → Ak8, callWith_K → Al, kitx_list → Al2
open Nat renaming le_refl → Aa6, lt_of_lt_of_le → Ab3, le_trans → Ab8, ne_of_lt → Ac2, pow_succ → Ad3, lt_succ_self → Ae4, lt_irrefl → Ae7, pow_le_pow_right → Af1, le_succ → Af3, zero_le → Af9, le_of_lt → Ag1, mul_le_mul_left → Ag2, le_succ_of_le → Ah, mod_lt → Ai0, not_lt_zero → Ai8, min_eq_left → Ai9, lt_trans → Aj3, le_of_eq → Ak9, not_le → Al6
open PySem.Heap renaming get?_push_of_some → Aa8, lt_size → Ab5, get?_push_size → Ac1, get?_update_other → Ah9, size_push → Ai2, get?_update_self → Ai3, FlyingW → Aj1, get?_update_ne → Al1, SameBut → Al8
open Bool renaming and_eq_true → Aa9, false_ne_true → Ab1, false_eq_true → Af7, eq_false_iff → Ai, not_true → Ai7, not_false → Aj5, or_true → Al9, noConfusion → Am0
open Option renaming bind_eq_some_iff → Ac6, bind_some → Ac9, map_eq_some_iff → Ae3, some → Ae5, isSome_iff_exists → Ae8, isNone_iff_eq_none → Af6
open Int renaming toNat_natCast → Ad7, emod_nonneg → Ah6, emod_lt_of_pos → Aj4, toNat_of_nonneg → Al3, ne_of_gt → Am
open Classical renaming byContradiction → Ad9, choose_spec → Af4, choose → Ag9, not_not → Aj, propDecidable → Aj2
open Array renaming length_toList → Ah1
open Decidable renaming decide → u9
open Option renaming some → y0, none → u0
open Bool renaming true → k9, false → y9
namespace L2
open PySem PySem.Spec PyProof.Rows
abbrev d8:=Sum Int Str
def rD:d8->Value->Bool
 | .inl k,v=>Value.isInt k v
 | .inr x,v=>Value.isStrOf x v
def uX (w:World):d8->Int
 | .inl k=>hashInt k
 | .inr x=>hashStr w x
def Jd: ∀ {k}{v},rD k v=k9->(∃ i t,k=Sum.inl i/\v=Value.int i t)\/(∃ x t,k=Sum.inr x/\v=Value.str x t)
 | .inl i,v,h=>by
  obtain⟨t,e⟩:=Value.isInt_shape h
  exact .inl ⟨i,t,rfl,e⟩
 | .inr x,v,h=>by
  obtain⟨t,e⟩:=Value.isStrOf_shape h
  exact .inr ⟨x,t,rfl,e⟩
def Ek (a b):u9 ((Sum.inl a:d8)=Sum.inl b)=(a==b):=by grind
def FY (a b):u9 ((Sum.inr a:d8)=Sum.inr b)=u9 (a=b):=by simp
def DG (a) (b):u9 ((Sum.inl a:d8)=Sum.inr b)=false:=decide_eq_false (λq=>nomatch q)
def DV (a) (b):u9 ((Sum.inr a:d8)=Sum.inl b)=false:=decide_eq_false (λq=>nomatch q)
noncomputable def QU (prog:Program) (w:World):PySem.KeyKind prog w d8 where
 is:=rD
 hash:=uX w
 inj:=λv a b g f=>by
  rcases Jd g with⟨i,t,rfl,rfl⟩ | ⟨x,t,rfl,rfl⟩
  ·rcases Jd f with⟨j,u,rfl,e⟩ | ⟨y,u,rfl,e⟩
   ·injection e with c _;rw [c]
   ·exact nomatch e
  ·rcases Jd f with⟨j,u,rfl,e⟩ | ⟨y,u,rfl,e⟩
   ·exact nomatch e
   ·injection e with c _;rw [c]
 byValue:=λk v h=>by
  rcases Jd h with⟨i,t,rfl,rfl⟩ | ⟨x,t,rfl,rfl⟩<;>rfl
 pyHash:=λd h=>by
  rcases Jd d with⟨i,t,rfl,rfl⟩ | ⟨x,t,rfl,rfl⟩
  ·exact wpAny_pyHash_int h
  ·exact wpAny_pyHash_str h
 eqBool:=λl d h=>by
  rcases Jd l with⟨i,t,rfl,rfl⟩ | ⟨x,t,rfl,rfl⟩
  ·rcases Jd d with⟨j,u,rfl,rfl⟩ | ⟨y,u,rfl,rfl⟩
   ·rw [Ek]at h;exact wpAny_eqBool_int h
   ·rw [DG]at h;exact SeqAt.EqAt.int_str i t y u _ _ _ _ h
  ·rcases Jd d with⟨j,u,rfl,rfl⟩ | ⟨y,u,rfl,rfl⟩
   ·rw [DV]at h;exact SeqAt.EqAt.str_int x t j u _ _ _ _ h
   ·rw [FY]at h;exact wpAny_eqBool_str h
 «strs» :=λk x t v h=>by
  rcases Jd h with⟨i,u,rfl,e⟩ | ⟨y,u,rfl,e⟩
  ·exact nomatch e
  ·injection e with c _
   subst c
   cases v<;>rfl
inductive V where
 | aj | bl (b:Bool) | int (i:Int) | str (x:Str) | hR (b:Array UInt8) | gY (b:UInt64) | ref (a:Addr) | ty (n:String)
 deriving DecidableEq
def RelV:V->Value->Prop
 | .aj,u=>u=Value.none
 | .bl b,u=>u=Value.bool b
 | .int i,u=> ∃t,u=Value.int i t
 | .str x,u=> ∃t,u=Value.str x t
 | .hR b,u=> ∃t,u=Value.bytes b t
 | .gY b,u=> ∃t,u=Value.float b t
 | .ref a,u=>u=Value.ref a
 | .ty n,u=>u=Value.type n
abbrev Vals:List V->List Value->Prop:=Paired RelV
theorem Vals.length (r:Vals xs us):xs.length=us.length:=Paired.length r
theorem Vals.get: ∀ {xs}{us}{i:Nat}{x},Vals xs us->xs[i]? =y0 x-> ∃u,us[i]? =y0 u/\RelV x u
 | _,_,_,_,.nil,e=>by simp at e
 | _,_,0,_,.cons r _,e=>by simp at e;subst e;exact⟨_,rfl,r⟩
 | _,_,i+1,x,.cons _ t,e=>by
  obtain⟨u,b,a⟩:=Vals.get t (by simpa using e)
  exact⟨u,by simpa using b,a⟩
theorem Vals.set (r:RelV x u): ∀ {xs}{us} i,Vals xs us->Vals (xs.set i x) (us.set i u)
 | _,_,_,.nil=> .nil
 | _,_,0,.cons _ t=> .cons r t
 | _,_,i+1,.cons q t=> .cons q (Vals.set r i t)
theorem Vals.append: ∀ {xs ys}{us ws},Vals xs us->Vals ys ws->Vals (xs++ys) (us++ws)
 | _,_,_,_,.nil,s=>s
 | _,_,_,_,.cons r t,s=> .cons r (Vals.append t s)
theorem Vals.take: ∀ {xs}{us}(n),Vals xs us->Vals (xs.take n) (us.take n)
 | _,_,0,_=> .nil
 | _,_,_+1,.nil=> .nil
 | _,_,n+1,.cons r t=> .cons r (Vals.take n t)
theorem Vals.drop: ∀ {xs}{us}(n),Vals xs us->Vals (xs.drop n) (us.drop n)
 | _,_,0,r=>r
 | _,_,_+1,.nil=> .nil
 | _,_,n+1,.cons _ t=>Vals.drop n t
def ck:Option V->Option Value->Prop
 | some v,y0 u=>RelV v u
 | none,none=>True
 | _,_=>False
def KV {a:Type}:List (a×V)->List (a×Value)->Prop:=Paired λ(p:a×V) (q:a×Value)=>p.1=q.1/\RelV p.2 q.2
def kV:d8->V
 | .inl i=> .int i
 | .inr x=> .str x
inductive HO where
 | lst (xs:List V)
 | tup (xs:List V)
 | dK (kvs:List (d8×V)) | dT (kvs:List (List d8×V))
 | set (S:Int->Bool) (n:Nat)
 | ins (C dx:Addr) (fs:List (Str×V))
 | own (x:Addr)
 | xd (fs:List (Str×V))
 | met (f x:Addr)
 | gu (lo hi:Int)
 | dU (o:Obj) (u:HO)
 | gL (ps:Array Value)
 | ext (φ:Heap->Prop)
abbrev Hp:=Addr->Option HO
def aI (H:Hp) (a:Addr) (o:HO):Hp:=λb=>if b=a then y0 o else H b
def jb :aI H a o a=y0 o:=by unfold aI;rw [if_pos rfl]
def xa (h:b≠a):aI H a o b=H b:=by unfold aI;rw [if_neg h]
def zb {H:Hp}(h:H a=y0 o) (h':H b=u0):a≠b:=by
 intro e;subst e;rw [h]at h';cases h'
def di (h:Heap) (a:Addr) (b:Array Value):Prop:= ∃o,h.get? a=some o/\o.cls= .type "tuple" /\o.dict=none/\ ∃n,o.data= .seq b n
def di.is (p:di h a k7):IsTup h a k7:=let ⟨o,e,c,_,n,d⟩:=p; ⟨o,e,c,n,d⟩
theorem di.lt (p:di h a k7):a<h.objs.size:=p.is.lt
def di.new (h:Heap) (k7):di (h.push { cls:= .type "tuple",data:= .seq k7 }) h.objs.size k7:=⟨_,Heap.get?_push_size _ rfl,rfl,rfl,_,rfl⟩
section
variable (P:Program) (w:World)
def aP (H:Hp) (h:Heap) (a:Addr):HO->Prop
 | .lst xs=>xs.length<=sizeLine/\ ∃(b:List Value) (n:Nat),Vals xs b/\h.get? a=y0 { cls:= .type "list",data:= .seq b.toArray n }
 | .tup xs=>xs.length<=sizeLine/\ ∃b:List Value,Vals xs b/\di h a b.toArray
 | .dK c=>c.length<=sizeLine/\(a==sysModules)=y9/\ ∃e,KV c e/\h.DictOf (QU P w) a e
 | .dT c=>c.length<=sizeLine/\(a==sysModules)=y9/\ ∃xs:List (List d8×Addr×Value),
  Paired (λ(p:List d8×V) (q:List d8×Addr×Value)=>p.1=q.1/\H q.2.1=y0 (.tup (p.1.map kV))/\RelV p.2 q.2.2) c xs ∧
  ∃o es g,h.get? a=y0 o/\o.ExactDict/\o.data= .dict es g/\es.toList=xs.map (entryOfKey (tupleKind (QU P w)))/\(xs.map (·.1)).Nodup
 | .set S n=>h.SetOf (intKind P w) a S n
 | .ins C dx fs=>H dx=y0 (.own a)/\fs.length<=1000/\dx≠a/\h.get? a=y0 (Ah3 C dx) ∧
  ∃mA,h.Ns1 dx mA/\(∀ f,ck (fs.lookup f) (mA f))/\PySem.Within mA (fs.map (·.1))
 | .own _=> ∃o,h.get? a=y0 o
 | .xd fs=> ∃mA,h.Ns1 a mA/\ ∀f,ck (fs.lookup f) (mA f)
 | .gu lo hi=> ∃t u v,h.get? a=y0 { cls:= .type "range",data:= .fields #[.int lo t,.int hi u,.int 1 v] }
 | .dU o u=>h.get? a=y0 o/\aP H h a u
 | .gL ps=>h.get? a=y0 { cls:= .none,data:= .fields ps }
 | .met f x=>h.get? a=y0 (PySem.W.methodObj (.ref f) (.ref x))
 | .ext d=>d h/\(∃ o,h.get? a=y0 o)/\ ∀h1 h2:Heap,d h1->(∀ o,h1.get? a=y0 o->h2.get? a=y0 o)->d h2
def cM (H:Hp) (h:Heap):Prop:= ∀a o,H a=y0 o->aP P w H h a o
end
section
variable {P:Program}{w:World}{H H':Hp}{h h':Heap}{a:Addr}{o:HO}
theorem aP.lt (x:aP P w H h a o):a<h.objs.size:=by
 cases o with
 | lst c=>obtain⟨_,_,_,_,e⟩:=x;exact Ab5 e
 | tup c=>obtain⟨_,_,_,p⟩:=x;exact p.lt
 | dK b=>obtain⟨_,_,_,_,o,_,_,e,_⟩:=x;exact Ab5 e
 | dT b=>obtain⟨_,_,_,_,o,_,_,e,_⟩:=x;exact Ab5 e
 | set S n=>obtain⟨o,_,_,_,e,_⟩:=x;exact Ab5 e
 | ins C i fs=>obtain⟨_,_,_,e,_⟩:=x;exact Ab5 e
 | own y=>obtain⟨_,e⟩:=x;exact Ab5 e
 | xd fs=>obtain⟨_,⟨_,_,_,e,_⟩,_⟩:=x;exact Ab5 e
 | gu l d=>obtain⟨_,_,_,e⟩:=x;exact Ab5 e
 | dU j u=>obtain⟨e,_⟩:=x;exact Ab5 e
 | gL k=>exact Ab5 (x)
 | met f y=>exact Ab5 (x)
 | ext g=>obtain⟨_,⟨_,e⟩,_⟩:=x;exact Ab5 e
theorem Paired.ke : ∀ {i}{j},Paired F i j->(∀ a b,F a b->G a b)->Paired G i j
 | _,_,.nil,_=> .nil
 | _,_,.cons r t,f=> .cons (f _ _ r) (Paired.ke t f)
def aP.cP (x:aP P w H h a o) (k: ∀b u,(b=a\/H b=y0 (.own a))->h.get? b=y0 u->h'.get? b=y0 u)
 (I: ∀b,H b=y0 (.own a)->H' b=y0 (.own a)) (G: ∀b xs,H b=y0 (.tup xs)->H' b=y0 (.tup xs)):aP P w H' h' a o:=by
 induction o with
 | lst xs=>obtain⟨z,l,n,r,e⟩:=x;exact⟨z,l,n,r,k _ _ (.inl rfl) e⟩
 | tup xs=>obtain⟨z,l,r,g,e,c⟩:=x;exact⟨z,l,r,g,k _ _ (.inl rfl) e,c⟩
 | dK s=>obtain⟨z,y,F,r,g,i,j,e,c⟩:=x;exact⟨z,y,F,r,g,i,j,k _ _ (.inl rfl) e,c⟩
 | dT s=>
  obtain⟨z,y,xs,r,g,i,j,e,c⟩:=x
  exact⟨z,y,xs,Paired.ke r λp q z=>⟨z.1,G _ _ z.2.1,z.2.2⟩,g,i,j,k _ _ (.inl rfl) e,c⟩
 | set S n=>obtain⟨g,i,j,t,e,c⟩:=x;exact⟨g,i,j,t,k _ _ (.inl rfl) e,c⟩
 | ins C L fs=>
  obtain⟨d,z,ne,e,m,⟨A,i,j,E,c⟩,r⟩:=x
  exact⟨I _ d,z,ne,k _ _ (.inl rfl) e,m,⟨A,i,j,k _ _ (.inr d) E,c⟩,r⟩
 | own y=>obtain⟨g,e⟩:=x;exact⟨g,k _ _ (.inl rfl) e⟩
 | xd fs=>obtain⟨m,⟨A,i,j,e,c⟩,r⟩:=x;exact⟨m,⟨A,i,j,k _ _ (.inl rfl) e,c⟩,r⟩
 | gu N J=>obtain⟨t,u,v,e⟩:=x;exact⟨t,u,v,k _ _ (.inl rfl) e⟩
 | dU g u D=>obtain⟨e,q⟩:=x;exact⟨k _ _ (.inl rfl) e,D q⟩
 | gL M=>
  have e:=x
  exact k a _ (.inl rfl) e
 | met f y=>
  have e:=x
  exact k a _ (.inl rfl) e
 | ext K=>obtain⟨p,⟨o,e⟩,B⟩:=x;exact⟨B _ _ p λo q=>k _ _ (.inl rfl) q,⟨o,k _ _ (.inl rfl) e⟩,B⟩
theorem cM.lt (x:cM P w H h) (e:H a=y0 o):a<h.objs.size:=(x a o e).lt
def cM.fresh (x:cM P w H h) (e:h.objs.size<=a):H a=none:=by
 cases q:H a with
 | none=>rfl
 | some u=>exact absurd (Ab3 (x.lt q) e) (Ae7 _)
def cM.kept (x:cM P w H h) (k: ∀b u,h.get? b=y0 u->h'.get? b=y0 u):cM P w H h':=λa o e=>
 (x a o e).cP (λb u _ q=>k b u q) (λ_ q=>q) λ_ _ q=>q
def cM.laid (x:cM P w H h) (k: ∀b u,h.get? b=y0 u->h'.get? b=y0 u) (g:h.objs.size<=a) (new:aP P w (aI H a o) h' a o):cM P w (aI H a o) h':=λb u e=>by
 have d:=x.fresh g
 by_cases f:b=a
 ·subst f;rw [jb]at e;cases e;exact new
 ·rw [xa f]at e
  exact(x b u e).cP (λc v _ q=>k c v q) (λc q=>by rw [xa (zb q d)];exact q) λc i q=>by rw [xa (zb q d)];exact q
end
def Rd (H:Hp) (a:Addr) (u:HO):Prop:=H a=y0 u\/ ∃o,H a=y0 (.dU o u)
def Rd.ok (r:Rd H a u) (x:cM P w H h):aP P w H h a u:=by
 rcases r with r | ⟨o,r⟩
 ·exact x a u r
 ·obtain⟨_,q⟩:=x a _ r
  exact q
def lM:Option HO->Prop
 | some (.lst _)=>True
 | some (.dK _)=>True
 | some (.dT _)=>True
 | some (.set _ _)=>True
 | some (.ins _ _ _)=>True
 | some (.ext _)=>True
 | _=>False
section
variable {P:Program}{w:World}{H:Hp}{h h':Heap}{x e:Addr}{o':HO}
def cM.write (ok:cM P w H h) (l:lM (H x)) (o:e=x\/H e=y0 (.own x)) (k: ∀b u,b≠e->h.get? b=y0 u->h'.get? b=y0 u) (m: ∃u,h'.get? e=y0 u)
 (new:aP P w (aI H x o') h' x o'):cM P w (aI H x o') h':=λb u q=>by
 have d: ∀c y,H c=y0 (.own y)->c≠x:=λc y r z=>by subst z;rw [r]at l;exact l
 have f: ∀c j,H c=y0 (.tup j)->c≠x:=λc j r z=>by subst z;rw [r]at l;exact l
 by_cases i:b=x
 ·subst i;rw [jb]at q;cases q;exact new
 ·rw [xa i]at q
  by_cases a:b=e
  ·have n:H b=y0 (.own x):=by
    rcases o with z | z
    ·exact absurd (a.trans z) i
    ·rw [a];exact z
   rw [q]at n;cases n
   obtain⟨v,p⟩:=m
   exact⟨v,by rw [a];exact p⟩
  ·refine(ok b u q).cP (λc v g r=>k c v ?_ r) (λc r=>by rw [xa (d c b r)];exact r) λc j r=>by rw [xa (f c j r)];exact r
   rcases g with rfl | g
   ·exact a
   ·rintro rfl
    rcases o with z | z
    ·exact d c b g z
    ·rw [g]at z;cases z;exact i rfl
end
structure Un (fs ex:List Addr) (H H':Hp) (h h':Heap):Prop where
 keep: ∀b o,h.get? b=y0 o->H b=u0->b∉fs->b∉ex->h'.get? b=y0 o
 slot: ∀b o,h.get? b=y0 o->H b=u0->b∈fs->b∉ex-> ∃sl,h'.get? b=y0 { o with slots:=sl }
 free: ∀b o,h.get? b=y0 o->H b=u0->b∉ex->H' b=u0
 there: ∀b o,h.get? b=y0 o->b∉ex-> ∃o',h'.get? b=y0 o'
 cI: ∀b xs,H b=y0 (.tup xs)->H' b=y0 (.tup xs)
 cv: ∀b o u,H b=y0 (.dU o u)->H' b=y0 (.dU o u)
 cF: ∀b ps,H b=y0 (.gL ps)-> ∃more,H' b=y0 (.gL (ps++more))
section
variable {fs fs' ex ex':List Addr}{H H1 H2:Hp}{h h1 h2 h':Heap}{a x e:Addr}{o:HO}
def Un.any (u:Un fs ex H H1 h h1)(q:h.get? b=y0 ob) (n:H b=u0) (a:b∉ex): ∃sl,h1.get? b=y0 { ob with slots:=sl }:=by
 by_cases c:b∈fs
 ·exact u.slot b ob q n c a
 ·exact⟨ob.slots,u.keep b ob q n c a⟩
def Un.kept (k: ∀b u,h.get? b=y0 u->h'.get? b=y0 u):Un fs ex H H h h':=
 ⟨λb a q _ _ _=>k b a q,λb a q _ _ _=>⟨a.slots,k b a q⟩,λ_ _ _ n _=>n,λb a q _=>⟨a,k b a q⟩,λ_ _ q=>q,λ_ _ _ q=>q,λ_ c q=>⟨#[],by rw [q];simp⟩⟩
def Un.refl:Un fs ex H H h h:=Un.kept λ_ _ q=>q
def Un.laid (k: ∀b u,h.get? b=y0 u->h'.get? b=y0 u) (e:h.objs.size<=a) (c:H a=u0):Un fs ex H (aI H a o) h h' where
 keep:=λb u q _ _ _=>k b u q
 slot:=λb u q _ _ _=>⟨u.slots,k b u q⟩
 free:=λb u q n _=>by rw [xa (Ac2 (Ab3 (Ab5 q) e))];exact n
 there:=λb u q _=>⟨u,k b u q⟩
 cI:=λb d q=>by rw [xa (zb q c)];exact q
 cv:=λb u d q=>by rw [xa (zb q c)];exact q
 cF:=λb f q=>⟨#[],by rw [xa (zb q c),q];simp⟩
def Un.write (c:lM (H x)) (m:e=x\/H e=y0 (.own x)) (k: ∀b u,b≠e->h.get? b=y0 u->h'.get? b=y0 u) (d: ∃u,h'.get? e=y0 u):Un fs ex H (aI H x o) h h':=by
 have g: ∀b,H b=u0->b≠x:=λb n z=>by subst z;rw [n]at c;exact c
 have i: ∀b,H b=u0->b≠e:=λb n z=>by
  subst z
  rcases m with r | r
  ·exact g b n r
  ·rw [n]at r;cases r
 have f: ∀b u,H b=y0 u-> ¬lM (y0 u)->b≠x:=λb u q l z=>by subst z;rw [q]at c;exact l c
 refine⟨λb u q n _ _=>k b u (i b n) q,λb u q n _ _=>⟨u.slots,k b u (i b n) q⟩,λb u q n _=>by rw [xa (g b n)];exact n,λb u q _=> ?_,
  λb j q=>by rw [xa (f b _ q λz=>z)];exact q,λb u j q=>by rw [xa (f b _ q λz=>z)];exact q,λb p q=>⟨#[],by rw [xa (f b _ q λz=>z),q];simp⟩⟩
 by_cases a:b=e
 ·subst a;exact d
 ·exact⟨u,k b u a q⟩
end
def dM (h:Heap) (H:Hp):List Addr:=(Ab7 h.objs.size).filter λa=>(H a).isSome
def fQ (h:Heap) (H:Hp):Heap:=PySem.W.hideAll h (dM h H)
def Ao (h) (H):(fQ h H).objs.size=h.objs.size:=PySem.W.hideAll_size _ _
def Em (e:h.get? b=y0 o) (n:H b=u0):(fQ h H).get? b=y0 o:=
 PySem.W.hideAll_get _ e λa=>by
  have q:=(List.mem_filter.mp a).2
  rw [n]at q;simp at q
def Fp (e:(fQ h H).get? b=y0 o):h.get? b=y0 o/\H b=none:=by
 have a:=PySem.W.of_hideAll (dM h H) e
 refine⟨a,?_⟩
 cases q:H b with
 | none=>rfl
 | some x=>
  have c:b∈dM h H:=List.mem_filter.mpr ⟨Ai1.mpr (Ab5 a),by simp [q]⟩
  have z:(fQ h H).get? b=none:=PySem.W.hideAll_none (dM h H) c
  rw [z]at e;cases e
noncomputable def D8 (g h:Heap) (L:Addr):List (Addr×Obj):=(Ab7 h.objs.size).filterMap λa=>if a=L\/(g.get? a).isSome=k9 then u0 else(h.get? a).map λo=>(a,o)
def rest (g h:Heap) (L d:Addr):List (Addr×Obj):=(D8 g h L).filter λp=>u9 (p.1≠d)
structure Mod (K:Aa4) (mg:Str->Option Value) (base:Heap):Prop where
 gX:K.In base
 glob:base.Ns mainGlobals mg
 blt: ∃mb,base.Ns builtinsNs mb/\ ∀x:Str,x≠ "__name__" ->mb x=bootBuiltins x
 nolimit:base.NoLimit
structure Cx where
 prog:Program
 w:World
 K:Aa4
 mg:Str->Option Value
 base:Heap
 A:Around
 N:List Str
 s₀:Shared
 H₀:Hp
 env:Env
 outer:List Env
 stack:List Env
 ex:List Addr
 fn:Str->Bool
 calm:Bool
 pn:List (Addr×Obj)
 xe:Value->Shared->Prop
def bZ (l:List Env):List Addr:=l.filterMap (·.frame)
abbrev Cx.fs (X:Cx):List Addr:=bZ X.outer
def gs (a:Scope) (x:Str):Prop:=a.names.lookup x=y0 .local\/a.names.lookup x=y0 .cell\/a.names.lookup x=y0 .free
def iC (a:Scope) (x:Str):Prop:=a.names.lookup x=y0 .local\/a.names.lookup x=y0 .cell
def pQ (env:Env) (h:Heap) (m:Str->Option Value) (x:Str) (u:Value):Prop:=
 (env.kindOf x=y0 .local/\m x=y0 u)\/((env.kindOf x=y0 .cell\/env.kindOf x=y0 .free)/\ ∃c,env.cells.lookup x=y0 c/\h.IsCell c (y0 u))
structure Cx.Ok (X:Cx):Prop where
 mod:Mod X.K X.mg X.base
 kind:X.env.scope.kind= .function
 glob:X.env.globals=mainGlobals
 blt:X.env.builtins=builtinsNs
 above:X.s₀.heap.objs.size<=X.env.locals
 inj: ∀x y c,X.env.cells.lookup x=y0 c->X.env.cells.lookup y=y0 c->x=y
 has: ∀x,(X.env.kindOf x=y0 .cell\/X.env.kindOf x=y0 .free)-> ∃c,X.env.cells.lookup x=y0 c
 km: ∀x c,X.fn x=k9->X.env.cells.lookup x=y0 c->X.s₀.heap.objs.size<=c
 hd:X.calm=k9->X.A.handled=u0
 frames:X.A.frames=y0 X.stack
 ic:X.stack=X.outer\/(X.stack=X.env::X.outer/\X.env.frame=y0 X.env.locals)
 kI: ∀b∈X.ex,b≠X.env.locals/\ ∀x c,X.env.cells.lookup x=y0 c->c≠b
 bs: ∀b o,X.base.get? b=y0 o->X.s₀.heap.get? b=y0 o/\X.H₀ b=u0
 gm:X.base.objs.size<=X.s₀.heap.objs.size
 eG: ∀b o,X.base.get? b=y0 o->b∉X.ex
 eR: ∀b∈X.ex,b∉X.fs
 cT:X.s₀.heap.FunFrames X.base X.outer
 h9: ∀b∈X.fs,X.H₀ b=u0
structure Inv (X:Cx) (y8:List (Addr×Obj)) (U:List (Option V)) (H:Hp) (s:Shared):Prop where
 ok:X.Ok
 os:s.os=X.s₀.os
 bare:AllBare s.gens
 base:Un X.fs X.ex X.H₀ H X.s₀.heap s.heap
 loc: ∃m,s.heap.Ns X.env.locals m/\ ∀(i:Nat) (x:Str) (v:V),X.N[i]? =y0 x->U[i]? =y0 (y0 v)->gs X.env.scope x-> ∃u,RelV v u/\pQ X.env s.heap m x u
 cell: ∀x c,X.env.cells.lookup x=y0 c-> ∃v,s.heap.IsCell c v
 free:H X.env.locals=u0
 bH: ∀x c,X.env.cells.lookup x=y0 c->H c=u0
 pin: ∀p∈X.pn++y8,s.heap.get? p.1=y0 p.2/\H p.1=u0/\p.1≠X.env.locals/\p.1∉X.fs/\ ∀v,p.2.data≠ .cell v
 aN:cM X.prog X.w H s.heap
 len:U.length=X.N.length
section
variable {X:Cx}{y8:List (Addr×Obj)}{U:List (Option V)}{H H':Hp}{s:Shared}{h':Heap}
def Cx.Ok.mH (ok:X.Ok)(e:X.base.get? b=y0 o):b∉X.fs:=λa=>by
 have:=(ok.cT.mem a).1
 rw [e]at this;cases this
theorem Inv.bs (I:Inv X y8 U H s): ∀b o,X.base.get? b=y0 o->s.heap.get? b=y0 o/\H b=none:=λb o e=>
 ⟨I.base.keep b o (I.ok.bs b o e).1 (I.ok.bs b o e).2 (I.ok.mH e) (I.ok.eG b o e),I.base.free b o (I.ok.bs b o e).1 (I.ok.bs b o e).2 (I.ok.eG b o e)⟩
def Inv.bk (I:Inv X y8 U H s): ∀b o,X.base.get? b=y0 o->s.heap.get? b=y0 o:=λb o e=>(I.bs b o e).1
theorem Inv.mod (I:Inv X y8 U H s):Mod X.K X.mg X.base:=I.ok.mod
def Inv.bO (I:Inv X y8 U H s):X.K.In s.heap:=I.ok.mod.gX.keeps I.bk
theorem Inv.lt (I:Inv X y8 U H s):X.env.locals<s.heap.objs.size:=let ⟨_,a,_⟩:=I.loc;a.lt
def Inv.sz (I:Inv X y8 U H s):X.s₀.heap.objs.size<=s.heap.objs.size:=Ab8 I.ok.above (Ag1 I.lt)
def Inv.lX (I:Inv X y8 U H s)(h:s.heap.objs.size<=a):a∉X.fs:=λb=>by
 obtain⟨_,o,c,_⟩:=I.ok.cT.mem b
 exact absurd (Ab3 (Ab5 c) (Ab8 I.sz h)) (Ae7 _)
def Inv.fX (I:Inv X y8 U H s): ∀x c,X.env.cells.lookup x=y0 c->c≠X.env.locals:=λx c e z=>by
 obtain⟨v,o,f,d⟩:=I.cell x c e
 obtain⟨m,⟨g,i,h,a,b,_⟩,_⟩:=I.loc
 rw [z,a]at f;cases f;rw [b]at d;cases d
theorem Inv.cT (I:Inv X y8 U H s):s.heap.FunFrames X.base X.outer:=by
 have all: ∀ l,(∀ b∈bZ l,b∈X.fs)->X.s₀.heap.FunFrames X.base l->s.heap.FunFrames X.base l:=by
  intro l
  induction l with
  | nil=>intro _ _;trivial
  | cons m r h=>
   intro f i
   obtain⟨n,⟨L,o,c,g,p,j⟩,k⟩:=i
   have a:=f L (by unfold bZ;rw [Ah2,c];exact Aa)
   obtain⟨sl,e⟩:=I.base.slot L o p (I.ok.h9 L a) a λz=>I.ok.eR L z a
   exact⟨n,⟨L,_,c,g,e,j⟩,h (λb d=>f b (by unfold bZ;rw [Ah2,c];exact Aa0 _ d)) k⟩
 exact all X.outer (λ_ d=>d) I.ok.cT
theorem Inv.stack (I:Inv X y8 U H s):s.heap.FunFrames X.base X.stack:=by
 rcases I.ok.ic with e | ⟨e,b⟩
 ·rw [e];exact I.cT
 ·rw [e]
  obtain⟨m,a,_⟩:=I.loc
  refine .cons (by rw [I.ok.kind];decide) b a ?_ I.cT
  exact Heap.get?_none_of_le (Ab8 I.ok.gm I.ok.above)
def Inv.du (I:Inv X y8 U H s): ∀b∈bZ X.stack,b∈X.env.locals::X.fs:=λb a=>by
 rcases I.ok.ic with e | ⟨e,c⟩
 ·rw [e]at a;exact Aa0 _ a
 ·rw [e]at a
  unfold bZ at a
  rw [Ah2,c]at a
  exact a
def Inv.cx (I:Inv X y8 U H s): ∀b∈bZ X.stack,H b=none:=λb a=>by
 rcases Aa5.mp (I.du b a)with e | a
 ·rw [e];exact I.free
 ·obtain⟨_,o,c,_⟩:=I.ok.cT.mem a
  exact I.base.free b o c (I.ok.h9 b a) λz=>I.ok.eR b z a
def Inv.step {ch:List Addr}(I:Inv X y8 U H s)
 (j: ∀b∈ch,(b∈X.ex\/X.s₀.heap.objs.size<=b)/\b≠X.env.locals/\(∀ x c,X.env.cells.lookup x=y0 c->c≠b)/\ ∀p∈X.pn++y8,p.1≠b)
 (keep: ∀b o,b≠X.env.locals->b∉X.fs->b∉ch->s.heap.get? b=y0 o->H b=u0->h'.get? b=y0 o)
 (y: ∀b o,b≠X.env.locals->b∈X.fs->b∉ch->s.heap.get? b=y0 o->H b=u0-> ∃sl,h'.get? b=y0 { o with slots:=sl }) (f: ∀b o,b∉ch->s.heap.get? b=y0 o->H b=u0->H' b=u0)
 (there: ∀b o,b∉ch->s.heap.get? b=y0 o-> ∃o',h'.get? b=y0 o')
 (D: ∀b xs,H b=y0 (.tup xs)->H' b=y0 (.tup xs)) (C: ∀b o u,H b=y0 (.dU o u)->H' b=y0 (.dU o u)) (F: ∀b ps,H b=y0 (.gL ps)-> ∃more,H' b=y0 (.gL (ps++more)))
 (R: ∀m,s.heap.Ns X.env.locals m->h'.Ns X.env.locals m) (J:cM X.prog X.w H' h') (V:AllBare g'):
 Inv X y8 U H' { s with heap:=h',gens:=g',drawn:=d',toks:=t' }:=by
 have G: ∀b o,X.s₀.heap.get? b=y0 o->b≠X.env.locals:=λb o e=>Ac2 (Ab3 (Ab5 e) I.ok.above)
 have w: ∀b o,X.s₀.heap.get? b=y0 o->b∉X.ex->b∉ch:=λb o e a A=>by
  rcases (j b A).1 with z | z
  ·exact a z
  ·exact absurd (Ab3 (Ab5 e) z) (Ae7 _)
 have h: ∀x c,X.env.cells.lookup x=y0 c-> ∀v,s.heap.IsCell c v->h'.IsCell c v:=by
  rintro x c e v ⟨o,B,K⟩
  have g:c∉ch:=λz=>(j c z).2.2.1 x c e rfl
  by_cases N:c∈X.fs
  ·obtain⟨sl,q⟩:=y c o (I.fX x c e) N g B (I.bH x c e)
   exact⟨_,q,K⟩
  ·exact⟨o,keep c o (I.fX x c e) N g B (I.bH x c e),K⟩
 refine⟨I.ok,I.os,V,⟨λb o e n A a=> ?_,λb o e n A a=> ?_,λb o e n a=> ?_,λb o e a=> ?_,λb xs e=>D b xs (I.base.cI b xs e),λb o xs e=>C b o xs (I.base.cv b o xs e),λb ps e=> ?_⟩,?_,λx c e=> ?_,?_,λx c e=> ?_,λp O=> ?_,J,I.len⟩
 ·exact keep b o (G b o e) A (w b o e a) (I.base.keep b o e n A a) (I.base.free b o e n a)
 ·obtain⟨sl,t⟩:=I.base.slot b o e n A a
  obtain⟨L,E⟩:=y b _ (G b o e) A (w b o e a) t (I.base.free b o e n a)
  exact⟨L,E⟩
 ·obtain⟨o',t⟩:=I.base.there b o e a
  exact f b o' (w b o e a) t (I.base.free b o e n a)
 ·obtain⟨o',t⟩:=I.base.there b o e a
  exact there b o' (w b o e a) t
 ·obtain⟨W,t⟩:=I.base.cF b ps e
  obtain⟨T,E⟩:=F b _ t
  exact⟨W++T,by rw [E,Array.append_assoc]⟩
 ·obtain⟨m,P,Q⟩:=I.loc
  refine⟨m,R m P,λi x v t E S=> ?_⟩
  obtain⟨u,r,l⟩:=Q i x v t E S
  refine⟨u,r,?_⟩
  rcases l with l | ⟨k,c,e,z⟩
  ·exact .inl l
  ·exact .inr ⟨k,c,e,h x c e _ z⟩
 ·obtain⟨v,z⟩:=I.cell x c e
  exact⟨v,h x c e v z⟩
 ·obtain⟨m,⟨o,_,_,B,_⟩,_⟩:=I.loc
  exact f _ o (λz=>(j _ z).2.1 rfl) B I.free
 ·obtain⟨v,o,B,K⟩:=I.cell x c e
  exact f c o (λz=>(j c z).2.2.1 x c e rfl) B (I.bH x c e)
 ·obtain⟨e,n,ne,M,d⟩:=I.pin p O
  have g:p.1∉ch:=λz=>(j p.1 z).2.2.2 p O rfl
  exact⟨keep p.1 p.2 ne M g e n,f p.1 p.2 g e n,ne,M,d⟩
def Inv.un (I:Inv X y8 U H s) (u:Un X.fs [] H H' s.heap h') (c:cM X.prog X.w H' h'):Inv X y8 U H' { s with heap:=h',toks:=t' }:=by
 obtain⟨m,⟨o,l,t,h,r⟩,_⟩:=id I.loc
 obtain⟨sl,i⟩:=u.any h I.free (by simp)
 exact I.step (ch:= []) (λ_ z=>nomatch z) (λb o _ f _ e n=>u.keep b o e n f (by simp)) (λb o _ f _ e n=>u.slot b o e n f (by simp)) (λb o _ e n=>u.free b o e n (by simp)) (λb o _ e=>u.there b o e (by simp)) u.cI u.cv u.cF (λq j=>by
  obtain⟨p,d,g,a,k⟩:=j
  rw [h]at a;cases a
  exact⟨_,d,g,i,k⟩) c I.bare
def Inv.call (I:Inv X y8 U H s) (u:Un (bZ X.stack) ch H H' s.heap h') (g:cM X.prog X.w H' h') (t:AllBare g')
 (f: ∀b∈ch,(b∈X.ex\/X.s₀.heap.objs.size<=b)/\b≠X.env.locals/\(∀ x c,X.env.cells.lookup x=y0 c->c≠b)/\ ∀p∈X.pn++y8,p.1≠b):
 Inv X y8 U H' { s with heap:=h',gens:=g',drawn:=d',toks:=t' }:=by
 obtain⟨m,⟨o,w,B,k,r⟩,_⟩:=id I.loc
 obtain⟨sl,h⟩:=u.any k I.free λz=>(f _ z).2.1 rfl
 exact I.step f (λb o h q a e n=>u.keep b o e n (λz=>(Aa5.mp (I.du b z)).elim h q) a) (λb o _ _ a e n=>u.any e n a) (λb o a e n=>u.free b o e n a) (λb o a e=>u.there b o e a) u.cI u.cv u.cF (λA l=>by
  obtain⟨y,i,j,d,v⟩:=l
  rw [k]at d;cases d
  exact⟨_,i,j,h,v⟩) g t
def Inv.turned (I:Inv X y8 U H s) (k: ∀b o,b≠it->s.heap.get? b=y0 o->h'.get? b=y0 o) (g:H it=u0) (f:it≠X.env.locals)
 (h1:it∈X.ex\/X.s₀.heap.objs.size<=it) (h2: ∀x c,X.env.cells.lookup x=y0 c->c≠it) (l: ∀p∈X.pn++y8,p.1≠it):Inv X y8 U H { s with heap:=h',toks:=t' }:=by
 have d: ∀b u,H b=y0 u->b≠it:=λb u e z=>by rw [z,g]at e;cases e
 refine I.step (ch:= [it]) (λb i=> ?_) (λb o _ _ a e _=>k b o (λz=>a (by simp [z])) e) (λb o _ _ a e _=>⟨o.slots,k b o (λz=>a (by simp [z])) e⟩) (λ_ _ _ _ n=>n)
  (λb o a e=>⟨o,k b o (λz=>a (by simp [z])) e⟩) (λ_ _ e=>e) (λ_ _ _ e=>e) (λb y e=>⟨#[],by rw [e];simp⟩) (λm h=> ?_) (λb u e=> ?_) I.bare
 ·have e:=by simpa using i
  subst e
  exact⟨h1,f,h2,l⟩
 ·obtain⟨o,j,t,w,r⟩:=h
  exact⟨o,j,t,k _ o (Ne.symm f) w,r⟩
 ·refine(I.aN b u e).cP (λc v a q=>k c v ?_ q) (λ_ q=>q) λ_ _ q=>q
  rcases a with z | z
  ·rw [z];exact d b u e
  ·exact d c _ z
def Inv.tok (I:Inv X y8 U H s) (t):Inv X y8 U H { s with toks:=t }:=I.un Un.refl I.aN
theorem Inv.kept (I:Inv X y8 U H s) (k: ∀b u,s.heap.get? b=y0 u->h'.get? b=y0 u):Inv X y8 U H { s with heap:=h',toks:=t' }:=I.un (Un.kept k) (I.aN.kept k)
theorem Inv.laid (I:Inv X y8 U H s) (k: ∀b u,s.heap.get? b=y0 u->h'.get? b=y0 u) (c:s.heap.objs.size<=a) (new:aP X.prog X.w (aI H a o) h' a o):
 Inv X y8 U (aI H a o) { s with heap:=h',toks:=t' }:=I.un (Un.laid k c (I.aN.fresh c)) (I.aN.laid k c new)
theorem Inv.write (I:Inv X y8 U H s) (c:lM (H x)) (d:e=x\/H e=y0 (.own x)) (k: ∀b u,b≠e->s.heap.get? b=y0 u->h'.get? b=y0 u) (a: ∃u,h'.get? e=y0 u)
 (new:aP X.prog X.w (aI H x o) h' x o):Inv X y8 U (aI H x o) { s with heap:=h',toks:=t' }:=I.un (Un.write c d k a) (I.aN.write c d k a new)
def Inv.bU (I:Inv X y8 U H s) (h: ∀p∈pins',s.heap.get? p.1=y0 p.2/\H p.1=u0/\p.1≠X.env.locals/\p.1∉X.fs/\ ∀v,p.2.data≠ .cell v):Inv X pins' U H s:=
 ⟨I.ok,I.os,I.bare,I.base,I.loc,I.cell,I.free,I.bH,λp a=>(Ac8.mp a).elim (λz=>I.pin p (Af0 _ z)) (h p),I.aN,I.len⟩
def WJ {N:List Str}(c:N.Nodup){i j:Nat}(a:N[i]? =y0 x) (b:N[j]? =y0 x):i=j:=by
 obtain⟨g,d⟩:=Ab9.mp a
 obtain⟨f,e⟩:=Ab9.mp b
 exact(List.getElem_inj c).mp (d.trans e.symm)
def F6 (I:Inv X y8 U H s) (hN:X.N.Nodup) (L:X.N[i]? =y0 x) (w:iC X.env.scope x) (r:RelV v u)
 (h: ∀s',Inv X y8 (U.set i (y0 v)) H s'->(∃ a,Al8 a s.heap s'.heap/\(a=X.env.locals\/X.env.cells.lookup x=y0 a))->Q () s') (hf:X.fn x=k9\/X.env.scope.names.lookup x=y0 .local:=by first | exact .inl rfl | exact .inr rfl | assumption):wpAny M A (storeName X.env x u) Q E s:=by
 obtain⟨m,Z,hl⟩:=id I.loc
 have O:(X.env.scope.kind== .class||(X.env.scope.kind== .module&&X.env.locals != X.env.globals))=false:=by rw [I.ok.kind];rfl
 have S:i<U.length:=by rw [I.len];exact(Ab9.mp L).1
 have fX:=I.fX
 have l: ∀ {a}{K},(∃ o,s.heap.get? a=y0 o/\H a=u0)->Al8 a s.heap K->cM X.prog X.w H K:=λ{a K} ha f b ob e=>by
  obtain⟨_,_,B⟩:=ha
  refine(I.aN b ob e).cP (λc V t q=>(f.2 c ?_).trans q) (λ_ q=>q) λ_ _ q=>q
  rintro rfl
  rcases t with rfl | t
  ·rw [B]at e;cases e
  ·rw [B]at t;cases t
 rcases w with D | D
 ·refine wpAny_storeName_local D Z (λK hn' f=> ?_) O
  obtain⟨oL,_,_,hoL,_⟩:=id Z
  refine h _ ⟨I.ok,I.os,I.bare,⟨λb o e n G w=> ?_,λb o e n G w=> ?_,I.base.free,λb o e w=> ?_,I.base.cI,I.base.cv,I.base.cF⟩,⟨_,hn',λj y Y g C e3=> ?_⟩,λy c e=> ?_,I.free,I.bH,λp hp=> ?_,l ⟨oL,hoL,I.free⟩ f,by simpa using I.len⟩ ⟨_,f,.inl rfl⟩
  ·exact(f.2 b (Ac2 (Ab3 (Ab5 e) I.ok.above))).trans (I.base.keep b o e n G w)
  ·obtain⟨sl,g⟩:=I.base.slot b o e n G w
   exact⟨sl,(f.2 b (Ac2 (Ab3 (Ab5 e) I.ok.above))).trans g⟩
  ·obtain⟨o',g⟩:=I.base.there b o e w
   exact⟨o',(f.2 b (Ac2 (Ab3 (Ab5 e) I.ok.above))).trans g⟩
  ·by_cases J:j=i
   ·subst J
    rw [L]at g;cases g
    rw [Ac4 S]at C
    cases C
    exact⟨u,r,.inl ⟨D,by simp⟩⟩
   ·rw [Ac7 (Ne.symm J)]at C
    obtain⟨u',r',q⟩:=hl j y Y g C e3
    refine⟨u',r',?_⟩
    rcases q with⟨k,e⟩ | ⟨k,c,e,z⟩
    ·refine .inl ⟨k,?_⟩
     have:y≠x:=λe=>J (WJ hN g (e▸L))
     simp [this,e]
    ·exact .inr ⟨k,c,e,z.sameBut f (fX y c e)⟩
  ·obtain⟨V,z⟩:=I.cell y c e
   exact⟨V,z.sameBut f (fX y c e)⟩
  ·obtain⟨e,n,ne,nf,d⟩:=I.pin p hp
   exact⟨(f.2 p.1 ne).trans e,n,ne,nf,d⟩
 ·have F:X.fn x=true:=by
   rcases hf with z | z
   ·exact z
   ·rw [z]at D;cases D
  obtain⟨c,t⟩:=I.ok.has x (.inl D)
  obtain⟨V,z⟩:=I.cell x c t
  refine wpAny_storeName_cell I.ok.kind D t z (λK T f=> ?_)
  obtain⟨oc,N,P⟩:=id z
  refine h { s with heap:=K } ⟨I.ok,I.os,I.bare,⟨λb o e n G w=> ?_,λb o e n G w=> ?_,I.base.free,λb o e w=> ?_,I.base.cI,I.base.cv,I.base.cF⟩,⟨m,Z.sameBut f (Ne.symm (fX x c t)),λj y Y g C e3=> ?_⟩,λy W e=> ?_,I.free,I.bH,λp hp=> ?_,l ⟨oc,N,I.bH x c t⟩ f,by simpa using I.len⟩ ⟨c,f,.inr t⟩
  ·exact(f.2 b (Ac2 (Ab3 (Ab5 e) (I.ok.km x c F t)))).trans (I.base.keep b o e n G w)
  ·obtain⟨sl,g⟩:=I.base.slot b o e n G w
   exact⟨sl,(f.2 b (Ac2 (Ab3 (Ab5 e) (I.ok.km x c F t)))).trans g⟩
  ·obtain⟨o',g⟩:=I.base.there b o e w
   exact⟨o',(f.2 b (Ac2 (Ab3 (Ab5 e) (I.ok.km x c F t)))).trans g⟩
  ·by_cases J:j=i
   ·subst J
    rw [L]at g;cases g
    rw [Ac4 S]at C
    cases C
    exact⟨u,r,.inr ⟨.inl D,c,t,T⟩⟩
   ·rw [Ac7 (Ne.symm J)]at C
    obtain⟨u',r',q⟩:=hl j y Y g C e3
    refine⟨u',r',?_⟩
    rcases q with q | ⟨k,W,e,z'⟩
    ·exact .inl q
    ·refine .inr ⟨k,W,e,z'.sameBut f ?_⟩
     rintro rfl
     exact J (WJ hN g (I.ok.inj _ _ _ e t▸L))
  ·by_cases R:W=c
   ·subst R;exact⟨_,T⟩
   ·obtain⟨w2,z2⟩:=I.cell y W e
    exact⟨w2,z2.sameBut f R⟩
  ·obtain⟨e,n,ne,nf,d⟩:=I.pin p hp
   refine⟨(f.2 p.1 ?_).trans e,n,ne,nf,d⟩
   intro q
   rw [q,N]at e
   have q':=Ae5.inj e
   exact d V (by rw [← q'];exact P)
def Wn (I:Inv X y8 U H s) (b:X.N.Nodup) (a:X.N[i]? =y0 x) (c:iC X.env.scope x) (r:RelV v u)
 (h: ∀s',Inv X y8 (U.set i (y0 v)) H s'->Q () s') (d:X.fn x=k9\/X.env.scope.names.lookup x=y0 .local:=by first | exact .inl rfl | exact .inr rfl | assumption):wpAny M A (storeName X.env x u) Q E s:=
 F6 I b a c r (λs' e _=>h s' e) d
def Inv.g0 (I:Inv X y8 U H s) (g:s'.os=s.os) (u:Un (bZ X.stack) ch H H' s.heap s'.heap) (a:cM X.prog X.w H' s'.heap) (f:AllBare s'.gens)
 (d: ∀b∈ch,(b∈X.ex\/X.s₀.heap.objs.size<=b)/\b≠X.env.locals/\(∀ x c,X.env.cells.lookup x=y0 c->c≠b)/\ ∀p∈X.pn++y8,p.1≠b):Inv X y8 U H' s':=by
 obtain⟨k,l,h,j,i⟩:=s'
 have e:=g
 subst e
 exact I.call u a f d
end
abbrev XK:=Value->Option Addr->Hp->Prop
abbrev St:=List (Option V)
abbrev VK:=V->Hp->Prop
abbrev TE:=St->Hp->VK->Prop
abbrev TT:=St->Hp->(Bool->Hp->Prop)->Prop
abbrev TA:=St->Hp->(List V->Hp->Prop)->Prop
structure gQ where
 nx:St->Hp->Prop
 rt:VK
 bk:St->Hp->Prop:=λ_ _=>False
 ct:St->Hp->Prop:=λ_ _=>False
abbrev TS:=gQ->St->Hp->Prop
def EP (X:Cx) (a:List (Addr×Obj)) (U:St) (Q:VK) (u:Value) (s':Shared):Prop:= ∃v H',Inv X a U H' s'/\RelV v u/\Q v H'
def TP (X:Cx) (a:List (Addr×Obj)) (U:St) (Q:Bool->Hp->Prop) (b:Bool) (s':Shared):Prop:= ∃H',Inv X a U H' s'/\Q b H'
def AP (X:Cx) (a:List (Addr×Obj)) (U:St) (Q:List V->Hp->Prop) (us:List Value) (s':Shared):Prop:= ∃b H',Inv X a U H' s'/\Vals b us/\Q b H'
def SP (X:Cx) (a:List (Addr×Obj)) (D:gQ) (f:Flow) (s':Shared):Prop:=
 match f with
 | .next=> ∃b H',Inv X a b H' s'/\D.nx b H'
 | .brk=> ∃b H',Inv X a b H' s'/\D.bk b H'
 | .cont=> ∃b H',Inv X a b H' s'/\D.ct b H'
 | .ret u=> ∃v b H',Inv X a b H' s'/\RelV v u/\D.rt v H'
def PE (X:Cx) (e:Expr) (t:TE):Prop:=
 ∀(y8:List (Addr×Obj)) (s:Shared) (U:St) (H:Hp) (Q:VK),Inv X y8 U H s->t U H Q->wpAny (model X.prog X.w) X.A (eval e X.env) (EP X y8 U Q) X.xe s
def PT (X:Cx) (e:Expr) (t:TT):Prop:=
 ∀(y8:List (Addr×Obj)) (s:Shared) (U:St) (H:Hp) (Q:Bool->Hp->Prop),Inv X y8 U H s->t U H Q->wpAny (model X.prog X.w) X.A (isTrue e X.env (eval e X.env)) (TP X y8 U Q) X.xe s
def PW (X:Cx) (e:Expr) (t:TT):Prop:=
 ∀(a:Sem Value) (y8:List (Addr×Obj)) (s:Shared) (U:St) (H:Hp) (Q:Bool->Hp->Prop),Inv X y8 U H s->t U H Q->wpAny (model X.prog X.w) X.A (isTrue e X.env a) (TP X y8 U Q) X.xe s
def PW.pt (h:PW X e t):PT X e t:=h _
def PA (X:Cx) (es:List Expr) (t:TA):Prop:=
 ∀(pos:Pos) (y8:List (Addr×Obj)) (s:Shared) (U:St) (H:Hp) (Q:List V->Hp->Prop),Inv X y8 U H s->t U H Q->wpAny (model X.prog X.w) X.A (spliced (backTo pos (starEach es X.env))) (AP X y8 U Q) X.xe s
def PS (X:Cx) (st:Stmt) (t:TS):Prop:=
 ∀(y8:List (Addr×Obj)) (s:Shared) (U:St) (H:Hp) (D:gQ),Inv X y8 U H s->t D U H->wpAny (model X.prog X.w) X.A (exec st X.env) (SP X y8 D) X.xe s
def cN (X:Cx) (st:List Stmt) (t:TS):Prop:=
 ∀(y8:List (Addr×Obj)) (s:Shared) (U:St) (H:Hp) (D:gQ),Inv X y8 U H s->t D U H->wpAny (model X.prog X.w) X.A (execs st X.env) (SP X y8 D) X.xe s
def aG (h:wpAny M A t Q E s) (b: ∀a s,Q a s->Q' a s):wpAny M A t Q' E s:=wpAny_mono h b λ_ _ x=>x
section
variable {X:Cx}
def bin (e:PE X a ta) (m:PE X b tb){R:V->V->Hp->Prop}(I:Inv X y8 U H s) (h:ta U H λx H1=>tb U H1 λy H2=>R x y H2)
 {f:Value->Value->Sem α}
 (g: ∀v u q x y H2,Inv X y8 U H2 q->RelV x v->RelV y u->R x y H2->wpAny (model X.prog X.w) X.A (f v u) Q X.xe q):
 wpAny (model X.prog X.w) X.A (eval a X.env) (λv i=>wpAny (model X.prog X.w) X.A (eval b X.env) (λu j=>wpAny (model X.prog X.w) X.A (f v u) Q X.xe j) X.xe i) X.xe s:=by
 refine aG (e y8 s U H _ I h) ?_
 rintro v p ⟨x,H1,l,d,k⟩
 refine aG (m y8 p U H1 _ l k) ?_
 rintro u q ⟨y,H2,c,o,n⟩
 exact g v u q x y H2 c d o n
def lS (i:Nat):TE:=λU H Q=> ∃v,U[i]? =y0 (y0 v)/\Q v H
def tC (v:V):TE:=λ_ H Q=>Q v H
def Zx (o:X.N[i]? =some x) (q:gs X.env.scope x) (f:(x==("__debug__" :Str))=false:=by decide) (g:(x==("__classdict__" :Str))=false:=by decide):PE X (.Name x pos) (lS i):=by
 intro d s U H Q I h
 obtain⟨v,e,h⟩:=h
 obtain⟨m,k,n⟩:=I.loc
 obtain⟨u,r,l⟩:=n i x v o e q
 have fin:EP X d U Q u s:=⟨v,H,I,r,h⟩
 rcases l with⟨b,p⟩ | ⟨b,c,j,a⟩
 ·exact wpAny_Name (wpAny_loadName_local I.ok.kind b k p fin) f
 ·rcases b with b | b
  ·exact wpAny_Name (wpAny_loadName_cell I.ok.kind b j a fin) f
  ·exact wpAny_Name (wpAny_loadName_free I.ok.kind b j a fin g) f
def mv {i j pos}:PE X (.Constant (.int i) j pos) (tC (.int i)):=λ_ _ _ H _ I h=>wpAny_Constant_int ⟨.int i,H,I.tok _,⟨_,rfl⟩,h⟩
def AO {b j pos}:PE X (.Constant (.bool b) j pos) (tC (.bl b)):=λ_ _ _ H _ I h=>Constant_bool ⟨.bl b,H,I,rfl,h⟩
def Ep {j pos}:PE X (.Constant .none j pos) (tC .aj):=λ_ _ _ H _ I h=>Constant_none ⟨.aj,H,I,rfl,h⟩
def ET {x j pos}:PE X (.Constant (.str x) j pos) (tC (.str x)):=λ_ _ _ H _ I h=>Calls.Constant_str ⟨.str x,H,I.tok _,⟨_,rfl⟩,h⟩
def Gl (X:Cx) (x:Str):Prop:=X.env.kindOf x=y0 .globalImplicit
def Qr (I:Inv X y8 U H s) (b:Gl X x) (c:X.mg x=y0 u) (h:Q u s)
 (a:(x==("__debug__" :Str))=false:=by decide):wpAny (model X.prog X.w) X.A (eval (.Name x pos) X.env) Q E s:=
 Calls.Name_function_global I.ok.kind b (Calls.loadGlobal_global (by rw [I.ok.glob];exact I.mod.glob.keeps I.bk) c h) a
def XC (I:Inv X y8 U H s) (b:Gl X x) (f:X.mg x=u0) (g:bootBuiltins x=y0 u) (h:Q u s)
 (c:x≠ "__name__" :=by decide) (a:(x==("__debug__" :Str))=false:=by decide):wpAny (model X.prog X.w) X.A (eval (.Name x pos) X.env) Q E s:=by
 obtain⟨i,d,e⟩:=I.mod.blt
 exact Calls.Name_function_global I.ok.kind b (Calls.loadGlobal_builtin (by rw [I.ok.glob];exact I.mod.glob.keeps I.bk) f (by rw [I.ok.blt];exact d.keeps I.bk) ((e x c).trans g) h) a
def zM (b:Gl X x) (c:X.mg x=some u) (r:RelV v u) (a:(x==("__debug__" :Str))=false:=by decide):PE X (.Name x pos) (tC v):=
 λ_ _ _ H _ I h=>Qr I b c ⟨v,H,I,r,h⟩ a
def rB (b:Gl X x) (d:X.mg x=none) (e:bootBuiltins x=some u) (r:RelV v u) (c:x≠ "__name__" :=by decide) (a:(x==("__debug__" :Str))=false:=by decide):PE X (.Name x pos) (tC v):=
 λ_ _ _ H _ I h=>XC I b d e ⟨v,H,I,r,h⟩ c a
variable {a b:Expr}{ta tb:TE}{pos:Pos}
def PC (X:Cx) (op:CmpOp) (a b:Expr) (t:TE):Prop:=
 ∀(y8:List (Addr×Obj)) (s:Shared) (U:St) (H:Hp) (Q:VK),Inv X y8 U H s->t U H Q →
  wpAny (model X.prog X.w) X.A (eval a X.env) (λv d=>wpAny (model X.prog X.w) X.A (eval b X.env) (λu c=>wpAny (model X.prog X.w) X.A (compareOp op v u) (EP X y8 U Q) X.xe c) X.xe d) X.xe s
def JZ (b)(h:op≠ .In) (h2:op≠ .NotIn):behindInMarks op b=false:=by
 have a:(op==CmpOp.In)=false:=by cases op<;>first | rfl | exact absurd rfl h
 have c:(op==CmpOp.NotIn)=false:=by cases op<;>first | rfl | exact absurd rfl h2
 cases b<;>simp [behindInMarks,a,c]
def yD (a:TE):TE:=λU H Q=>a U H λx H1=>Q (.bl (u9 (x= .aj))) H1
def yR (a:TE):TE:=λU H Q=>a U H λx H1=>Q (.bl (!u9 (x= .aj))) H1
def RelV.dG (r:RelV x v):(v==Value.none)=u9 (x= .aj):=by
 cases x with
 | aj=>cases r;rfl
 | bl _=>cases r;rfl
 | int _=>obtain⟨t,rfl⟩:=r;rfl
 | str _=>obtain⟨t,rfl⟩:=r;rfl
 | hR _=>obtain⟨t,rfl⟩:=r;rfl
 | gY _=>obtain⟨t,rfl⟩:=r;rfl
 | ref _=>cases r;rfl
 | ty _=>cases r;rfl
def tO {j pos'}(g:PE X a ta):PC X .Is a (.Constant .none j pos') (yD ta):=by
 intro b s U H Q I h
 refine aG (g b s U H _ I h) ?_
 rintro v i ⟨x,e,d,f,c⟩
 exact Constant_none (is_none_gen ⟨.bl _,e,d,by rw [f.dG];rfl,c⟩)
def o8 {j pos'}(g:PE X a ta):PC X .IsNot a (.Constant .none j pos') (yR ta):=by
 intro b s U H Q I h
 refine aG (g b s U H _ I h) ?_
 rintro v i ⟨x,e,d,f,c⟩
 exact Constant_none (isnot_none_gen ⟨.bl _,e,d,by rw [f.dG];rfl,c⟩)
def tB (t:TE):TT:=λU H Q=>t U H λx H1=> ∃c,x= .bl c/\Q c H1
def oM (h:PC X op a b t) (h1:behindInMarks op b=false:=by first | exact JZ _ (by decide) (by decide) | rfl):PE X (.Compare a [op] [b] pos) t:=λc s U H Q I d=>wpAny_Compare1 (h c s U H Q I d) h1
def pG (h:PC X op a b t) (h1:behindInMarks op b=false:=by first | exact JZ _ (by decide) (by decide) | rfl):PT X (.Compare a [op] [b] pos) (tB t):=by
 intro e s U H Q I l
 refine wpAny_isTrue_Compare1 (aG (h e s U H _ I l) λv o h1=>aG h1 λu m k=>aG k λc n ⟨x,j,i,f,g⟩=> ?_) h1
 obtain⟨d,rfl,q⟩:=g
 cases f
 exact wpAny_truthy_bool ⟨j,i,q⟩
variable {tA tB':TT}{rest:List Expr}
def Fo (t u:TT):TT:=λU H Q=>t U H λc H1=>if c=k9 then u U H1 Q else Q y9 H1
def A9 (t u:TT):TT:=λU H Q=>t U H λc H1=>if c=k9 then Q k9 H1 else u U H1 Q
def uj (t:TT):TT:=λU H Q=>t U H λc H1=>Q (!c) H1
def Cz (d:PT X a tA):PW X (.BoolOp .And [a] pos) tA:=by
 intro g b s U H Q I h
 refine isTrue_and (aG (d b s U H Q I h) λc f e=> ?_)
 cases c with
 | true=>exact isTrue_and_nil e
 | false=>exact e
def Fv (d:PT X a tA):PW X (.BoolOp .Or [a] pos) tA:=by
 intro g b s U H Q I h
 refine isTrue_or (aG (d b s U H Q I h) λc f e=> ?_)
 cases c with
 | false=>exact isTrue_or_nil e
 | true=>exact e
def vv (k:PT X a tA) (l:PW X (.BoolOp .And (b::rest) pos) tB'):PW X (.BoolOp .And (a::b::rest) pos) (Fo tA tB'):=by
 intro j d s U H Q I h
 refine isTrue_and (aG (k d s U H _ I h) ?_)
 rintro c i ⟨g,f,e⟩
 cases c with
 | true=>exact l j d i U g Q f e
 | false=>exact⟨g,f,e⟩
def Dq (k:PT X a tA) (l:PW X (.BoolOp .Or (b::rest) pos) tB'):PW X (.BoolOp .Or (a::b::rest) pos) (A9 tA tB'):=by
 intro j d s U H Q I h
 refine isTrue_or (aG (k d s U H _ I h) ?_)
 rintro c i ⟨g,f,e⟩
 cases c with
 | true=>exact⟨g,f,e⟩
 | false=>exact l j d i U g Q f e
def CW (e:PT X a tA):PT X (.UnaryOp .Not a pos) (uj tA):=by
 intro b s U H Q I h
 exact isTrue_not (e b s U H (λc d=>Q (!c) d) I h)
def oK {op}(h:PE X a t):PE X (.BoolOp op [a] pos) t:=λb s U H Q I c=>BoolOp_one (h b s U H Q I c)
end
def bu (K:Aa4) (H:Hp) (a:Addr) (xs:List V):Prop:=
 Rd H a (.lst xs) ∨
  ∃(o:Obj) (b:Array Value) (n:Nat),K.lookup a=some o/\o.cls= .type "list" /\o.dict=none/\o.data= .seq b n/\b.size<=sizeLine/\Vals xs b.toList
def cJ (K:Aa4) (H:Hp) (a:Addr) (xs:List V):Prop:=
 Rd H a (.tup xs) ∨
  ∃(o:Obj) (b:Array Value) (n:Nat),K.lookup a=y0 o/\o.cls= .type "tuple" /\o.data= .seq b n/\b.size<=sizeLine/\Vals xs b.toList
noncomputable def Ds:Value->Option V
 | .none=>y0 .aj
 | .bool b=>y0 (.bl b)
 | .int i _=>y0 (.int i)
 | .str x _=>y0 (.str x)
 | .bytes b _=>y0 (.hR b)
 | .float b _=>y0 (.gY b)
 | .ref a=>y0 (.ref a)
 | .type n=>y0 (.ty n)
 | _=>u0
def RelV.abs (r:RelV x u):Ds u=y0 x:=by
 cases x with
 | aj=>cases r;rfl
 | bl _=>cases r;rfl
 | int _=>obtain⟨t,rfl⟩:=r;rfl
 | str _=>obtain⟨t,rfl⟩:=r;rfl
 | hR _=>obtain⟨t,rfl⟩:=r;rfl
 | gY _=>obtain⟨t,rfl⟩:=r;rfl
 | ref _=>cases r;rfl
 | ty _=>cases r;rfl
theorem RelV.inj (r:RelV x u) (q:RelV y u):x=y:=Ae5.inj (r.abs.symm.trans q.abs)
theorem Vals.inj: ∀ {xs ys}{us},Vals xs us->Vals ys us->xs=ys
 | _,_,_,.nil,.nil=>rfl
 | _,_,_,.cons r t,.cons b a=>by rw [r.inj b,Vals.inj t a]
section
variable {X:Cx}{y8:List (Addr×Obj)}{U:St}{H:Hp}{s:Shared}{a:Addr}{xs ys:List V}
def bu.of {K:Aa4}(h:H a=y0 (.lst xs)):bu K H a xs:= .inl (.inl h)
def Inv.list (I:Inv X y8 U H s) (h:bu X.K H a xs): ∃i:List Value,Vals xs i/\PlainL s.heap a i.toArray/\xs.length<=sizeLine:=by
 rcases h with h | ⟨o,i,n,f,d,c,b,g,r⟩
 ·obtain⟨z,i,n,r,e⟩:=h.ok I.aN
  exact⟨i,r,⟨_,n,e,rfl,rfl,rfl⟩,z⟩
 ·refine⟨i.toList,r,⟨o,n,I.bO a o f,d,c,by simpa using b⟩,?_⟩
  have e:=r.length
  simp only [Ah1]at e
  omega
def Inv.tuple (I:Inv X y8 U H s) (h:cJ X.K H a xs): ∃i:List Value,Vals xs i/\IsTup s.heap a i.toArray/\xs.length<=sizeLine:=by
 rcases h with h | ⟨o,i,n,d,c,b,f,r⟩
 ·obtain⟨z,i,r,p⟩:=h.ok I.aN
  exact⟨i,r,p.is,z⟩
 ·refine⟨i.toList,r,⟨o,I.bO a o d,c,n,by simpa using b⟩,?_⟩
  have e:=r.length
  simp only [Ah1]at e
  omega
def Inv.dE (I:Inv X y8 U H s) (h:bu X.K H a xs) (h':bu X.K H a ys):xs=ys:=by
 obtain⟨c,r,⟨o,n,e,_,_,d⟩,_⟩:=I.list h
 obtain⟨b,j,⟨k,l,f,_,_,g⟩,_⟩:=I.list h'
 rw [e]at f;cases f
 rw [d]at g
 injection g with i _
 have:c=b:=by simpa using congrArg Array.toList i
 subst this
 exact r.inj j
def Inv.el (I:Inv X y8 U H s) (h:cJ X.K H a xs) (h':cJ X.K H a ys):xs=ys:=by
 obtain⟨c,r,⟨o,e,_,n,d⟩,_⟩:=I.tuple h
 obtain⟨b,j,⟨k,f,_,l,g⟩,_⟩:=I.tuple h'
 rw [e]at f;cases f
 rw [d]at g
 injection g with i _
 have:c=b:=by simpa using congrArg Array.toList i
 subst this
 exact r.inj j
end
abbrev Cx.dc (X:Cx) (E:Value->Shared->Prop):Cx:= { X with xe:=E }
abbrev Cx.eK (X:Cx):Cx:=X.dc λ_ _=>False
theorem Cx.Ok.dc {X:Cx}(ok:X.Ok) (E:Value->Shared->Prop):(X.dc E).Ok:=
 ⟨ok.mod,ok.kind,ok.glob,ok.blt,ok.above,ok.inj,ok.has,ok.km,ok.hd,ok.frames,ok.ic,ok.kI,ok.bs,ok.gm,ok.eG,ok.eR,ok.cT,ok.h9⟩
def Cx.Ok.b6 {X:Cx}(ok:(X.dc E).Ok):X.Ok:=
 ⟨ok.mod,ok.kind,ok.glob,ok.blt,ok.above,ok.inj,ok.has,ok.km,ok.hd,ok.frames,ok.ic,ok.kI,ok.bs,ok.gm,ok.eG,ok.eR,ok.cT,ok.h9⟩
section
variable {X:Cx}{y8:List (Addr×Obj)}{U:St}{H:Hp}{s:Shared}{E:Value->Shared->Prop}
theorem Inv.dc (I:Inv X y8 U H s) (E):Inv (X.dc E) y8 U H s:=⟨I.ok.dc E,I.os,I.bare,I.base,I.loc,I.cell,I.free,I.bH,I.pin,I.aN,I.len⟩
theorem Inv.b6 (I:Inv (X.dc E) y8 U H s):Inv X y8 U H s:=⟨I.ok.b6,I.os,I.bare,I.base,I.loc,I.cell,I.free,I.bH,I.pin,I.aN,I.len⟩
theorem SP.b6 (h:SP (X.dc E) y8 D f s'):SP X y8 D f s':=by
 cases f with
 | next=>obtain⟨b,a,I,q⟩:=h;exact⟨b,a,I.b6,q⟩
 | brk=>obtain⟨b,a,I,q⟩:=h;exact⟨b,a,I.b6,q⟩
 | cont=>obtain⟨b,a,I,q⟩:=h;exact⟨b,a,I.b6,q⟩
 | ret u=>obtain⟨v,b,a,I,r,q⟩:=h;exact⟨v,b,a,I.b6,r,q⟩
end
section
variable {X:Cx}{st:Stmt}{rest:List Stmt}{t u:TS}{e:Expr}{te:TE}{pos:Pos}
def Ej:TS:=λD U H=>D.nx U H
def tZ (t u:TS):TS:=λD U H=>t { D with nx:=u D } U H
def B0:cN X [] Ej:=λ_ _ U H _ I h=>wpAny_execs_nil ⟨U,H,I,h⟩
def Dj (h1:PS X st t) (h2:cN X rest u):cN X (st::rest) (tZ t u):=by
 intro a s U H D I h
 refine wpAny_execs_cons (aG (h1 a s U H { D with nx:=u D } I h) λf b q=> ?_)
 cases f with
 | next=>
  obtain⟨e,d,c,q⟩:=q
  exact h2 a b e d D c q
 | ret v=>exact q
 | brk=>exact q
 | cont=>exact q
def Di (h1:PS X st t):cN X [st] t:=by
 intro a s U H D I h
 refine wpAny_execs_cons (aG (h1 a s U H D I h) λf b q=> ?_)
 cases f with
 | next=>exact wpAny_execs_nil q
 | ret v=>exact q
 | brk=>exact q
 | cont=>exact q
def Inv.quiet (I:Inv X y8 U H s):interactive X.env=false:=by simp [interactive,I.ok.kind]
def E6 (a:TE):TS:=λD U H=>a U H λ_ H1=>D.nx U H1
def rH (g:PE X e te) (b:swapsWith e u0 pos.line X.env=pure false:=by rfl):PS X (.Expr e pos) (E6 te):=by
 intro a s U H D I h
 exact wpAny_Expr_any (aG (g a s U H _ I h) λv i ⟨x,f,d,j,c⟩=>⟨U,f,d,c⟩) I.quiet b
def yG (a:TE):TS:=λD U H=>a U H D.rt
def tY (g:PE X e te):PS X (.Return (y0 e) pos) (yG te):=by
 intro a s U H D I h
 exact wpAny_Return_some (aG (g a s U H _ I h) λv i ⟨x,d,c,f,b⟩=>⟨x,U,d,c,f,b⟩)
def BW (c:TT) (t u:TS):TS:=λD U H=>c U H λb H1=>if b=k9 then t D U H1 else u D U H1
def Ce (k:PT X c tc) (l:cN X a t) (m:cN X b u):PS X (.If c a b pos) (BW tc t u):=by
 intro e s U H D I h
 refine wpAny_If (aG (k e s U H _ I h) ?_)
 rintro d g ⟨j,i,f⟩
 cases d with
 | true=>exact l e g U j D i f
 | false=>exact m e g U j D i f
end
abbrev TG:=V->St->Hp->(St->Hp->Prop)->Prop
abbrev iL:=List V->St->Hp->(St->Hp->Prop)->Prop
def PG (X:Cx) (a:Expr) (t:TG):Prop:=
 ∀(y8:List (Addr×Obj)) (s:Shared) (U:St) (H:Hp) (v:V) (u:Value) (Q:St->Hp->Prop),Inv X y8 U H s->RelV v u->t v U H Q →
  wpAny (model X.prog X.w) X.A (assign a X.env u) (λ_ s'=> ∃b H',Inv X y8 b H' s'/\Q b H') X.xe s
def iV (X:Cx) (ts:List Expr) (t:iL):Prop:=
 ∀(y8:List (Addr×Obj)) (s:Shared) (U:St) (H:Hp) (c:List V) (b:List Value) (Q:St->Hp->Prop),Inv X y8 U H s->Vals c b->t c U H Q →
  wpAny (model X.prog X.w) X.A (assignInOrder ((assignEach ts X.env).map (·.2)) b) (λ_ s'=> ∃a H',Inv X y8 a H' s'/\Q a H') X.xe s
abbrev p7:=V->V->V->Hp->(Hp->Prop)->Prop
def om (X:Cx) (t:p7):Prop:=
 ∀(y8:List (Addr×Obj)) (s:Shared) (U:St) (H:Hp) (o i v:V) (b a u:Value) (Q:Hp->Prop),Inv X y8 U H s->RelV o b->RelV i a->RelV v u->t o i v H Q →
  wpAny (model X.prog X.w) X.A (setItem b a u) (λ_ s'=> ∃H',Inv X y8 U H' s'/\Q H') X.xe s
section
variable {X:Cx}{pos:Pos}
def XQ (i:Nat):TG:=λv U H Q=>Q (U.set i (y0 v)) H
def si (c:X.N.Nodup) (b:X.N[i]? =y0 x) (d:iC X.env.scope x) (e:X.fn x=k9\/X.env.scope.names.lookup x=y0 .local:=by first | exact .inl rfl | exact .inr rfl | assumption):PG X (.Name x pos) (XQ i):=by
 intro a s U H v u Q I r h
 exact wpAny_assign_Name (Wn I c b d r (λg f=>⟨_,H,f,h⟩) e)
def vH:iL:=λa U H Q=>a= []/\Q U H
def vE (t:TG) (u:iL):iL:=λb U H Q=> ∃v r,b=v::r/\t v U H λa H'=>u r a H' Q
def uf:iV X [] vH:=by
 intro a s U H c b Q I r h
 obtain⟨e,h⟩:=h
 subst e
 cases r
 exact assignInOrder_nil ⟨U,H,I,h⟩
def uY (h1:PG X e t) (h2:iV X es u)
 (i:(assignEach (e::es) X.env).map (·.2)=assign e X.env::(assignEach es X.env).map (·.2):=by rfl):iV X (e::es) (vE t u):=by
 intro a s U H n m Q I r h
 obtain⟨v,l,b,h⟩:=h
 subst b
 cases r with
 | cons r g=>
  rw [i]
  refine assignInOrder_cons (aG (h1 a s U H _ _ _ I r h) ?_)
  rintro _ k ⟨c,j,f,d⟩
  exact h2 a k c j _ _ Q f g d
def Ew (K:Aa4) (n:Nat) (t:iL):TG:=λv U H Q=> ∃a xs,v= .ref a/\cJ K H a xs/\xs.length=n/\t xs U H Q
def BG (q:X.calm=k9) (h:iV X es t)
 (g:(assignEach es X.env).length=n:=by rfl) (d:(assignEach es X.env).findIdx? (·.1)=none:=by rfl):PG X (.Tuple es k pos) (Ew X.K n t):=by
 intro c s U H v u Q I r f
 obtain⟨a,w,i,m,j,f⟩:=f
 subst i
 cases r
 obtain⟨x,rv,y,A⟩:=I.tuple m
 refine assign_Tuple_tuple (I.ok.hd q) y (by simp [g,←j,rv.length]) d λp z=> ?_
 have l:Inv X c U H { s with heap:=p }:=I.kept λb o e=>z b o (Ac2 (Ab5 e)) e
 exact h c _ U H w _ Q l (by simpa using rv) f
def Ec (c a:TE) (t:p7):TG:=λv U H Q=>c U H λo H1=>a U H1 λi H2=>t o i v H2 λb=>Q U b
def pq (D:PE X o to) (b:PE X i ti) (k:om X t)
 (e: ∀v,assign (.Subscript o i pos) X.env v=(do
   let j ←holding [v] (eval o X.env)
   let q ←holding [v,j] (eval i X.env)
   standAt pos
   holding [v,j,q] (setItem j q v)
   release [v,j,q] []):=by intro _;rfl):PG X (.Subscript o i pos) (Ec to ti t):=by
 intro a s U H v u Q I r h
 rw [e]
 refine wpAny_bind (wpAny_holding (aG (D a s U H _ I h) ?_))
 rintro j B ⟨x,p,g,d,f⟩
 refine wpAny_bind (wpAny_holding (aG (b a B U p _ g f) ?_))
 rintro q A ⟨y,n,c,w,m⟩
 refine wpAny_bind (wpAny_standAt (wpAny_bind (wpAny_holding (aG (k a A U n x y v j q u _ c d w r m) ?_))))
 rintro _ E ⟨z,l,C⟩
 exact wpAny_release ⟨U,z,l,C⟩
def gJ (a:TE) (g:TG):TS:=λD U H=>a U H λx H1=>g x U H1 D.nx
def nB (j:PE X e te) (l:PG X tg g) (f:swapsWithSole [tg] e pos.line X.env=pure false:=by rfl) (m:swappedStores [tg] e X.env=pure none:=by rfl)
 (h1:(assignEach [tg] X.env).map (·.2)= [assign tg X.env]:=by rfl):PS X (.Assign [tg] e pos) (gJ te g):=by
 intro a s U H D I h
 refine wpAny_Assign_stores (aG (j a s U H _ I h) λv k ⟨x,i,d,b,c⟩=> ?_) f m
 rw [h1]
 exact aG (l a k U i x v _ d b c) λ_ n q=>q
def By (j:X.N.Nodup) (b:X.N[i]? =y0 x) (n:iC X.env.scope x) (o:PE X e te) (l:swapsWith e (y0 (.Name x pos')) pos.line X.env=pure false:=by rfl) (f:X.fn x=k9\/X.env.scope.names.lookup x=y0 .local:=by first | exact .inl rfl | exact .inr rfl | assumption):
 PS X (.Assign [.Name x pos'] e pos) (gJ te (XQ i)):=by
 intro a s U H D I h
 refine wpAny_Assign_Name (aG (o a s U H _ I h) λv q ⟨y,m,k,d,g⟩=> ?_) l
 exact Wn k j b n d (λp c=>⟨_,m,c,g⟩) f
end
section
variable {X:Cx}{pos:Pos}
def uJ (c:TT) (e:TS):TS:=λD U H=> ∃W:Nat->St->Hp->Prop,(∃ m,W m U H)/\ ∀m U H,W m U H →
 c U H λb H1=>if b=k9 then ∃N:St->Hp->Prop,(∀ d H',N d H'-> ∃a,a<m/\W a d H')/\e { D with nx:=N,ct:=N,bk:=D.nx } U H1 else D.nx U H1
def BD (y:PassesOwn (model X.prog X.w) X.A X.env X.xe) (E:PT X c tc) (G:cN X body tb):PS X (.While c body [] pos) (uJ tc tb):=by
 intro a s U H D I h
 obtain⟨W,⟨A,L⟩,d⟩:=h
 refine wpAny_While (codeAny_whileLoop (λn F=> ∃t z,Inv X a t z F/\W n t z) ?_ A ⟨U,H,I,L⟩)
 rintro n K ⟨i,x,B,C⟩
 refine wpAny_passesOwn y (aG (E a K i x _ B (d n i x C)) ?_)
 rintro b J ⟨w,r,j⟩
 cases b with
 | true=>
  obtain⟨N,u,j⟩:=j
  refine wpAny_passesOwn y (aG (G a J i w _ r j) λf M k=> ?_)
  cases f with
  | next=>
   obtain⟨g,e,p,m⟩:=k
   obtain⟨q,o,l⟩:=u g e m
   exact⟨q,o,g,e,p,l⟩
  | cont=>
   obtain⟨g,e,p,m⟩:=k
   obtain⟨q,o,l⟩:=u g e m
   exact⟨q,o,g,e,p,l⟩
  | brk=>exact k
  | ret v=>exact k
 | false=>
  exact wpAny_execs_nil ⟨i,w,r,j⟩
end
structure It where
 go:Nat->Hp->Prop
 ek:Nat->Hp->V->Hp->Prop
 stop:Nat->Hp->Prop
def Z6 (X:Cx) (a:List (Addr×Obj)) (H:Hp) (b:Addr):Prop:=
 H b=u0/\b≠X.env.locals/\b∉X.fs/\(b∈X.ex\/X.s₀.heap.objs.size<=b)/\(∀ x c,X.env.cells.lookup x=y0 c->c≠b)/\ ∀p∈X.pn++a,p.1≠b
def Inv.dn (I:Inv X y8 U H s) (a:s.heap.objs.size<=b) (d:H' b=u0):Z6 X y8 H' b:=by
 refine⟨d,Nat.ne_of_gt (Ab3 I.lt a),I.lX a,.inr (Ab8 I.sz a),λx c e z=> ?_,λp f z=> ?_⟩
 ·obtain⟨v,q⟩:=I.cell x c e
  exact absurd (Ab3 q.lt (by rw [z];exact a)) (Ae7 _)
 ·exact absurd (Ab3 (Ab5 (I.pin p f).1) (by rw [z];exact a)) (Ae7 _)
structure gE (P:Program) (w:World) (K:Aa4) (tg:Expr) (J:It) (fp:List Addr) (it:Addr) (tn:Nat->Heap->Prop):Prop where
 mem:it∈fp
 obj: ∀i h,tn i h-> ∀b∈fp,∃o,h.get? b=y0 o/\ ∀v,o.data≠ .cell v
 keep: ∀i h h',tn i h->(∀ b∈fp,∀o,h.get? b=y0 o->h'.get? b=y0 o)->tn i h'
 item: ∀(X:Cx),X.prog=P->X.w=w->X.K=K->X.calm=k9-> ∀(i:Nat) (y8:List (Addr×Obj)) (s:Shared) (U:St) (H:Hp) (E:Value->Shared->Prop),Inv X y8 U H s->(∀ b∈fp,Z6 X y8 H b)->tn i s.heap->J.go i H →
  wpAny (model P w) X.A (pyNext (.ref it)) (λr s1=> ∃u,r=y0 u ∧
   wpAny (model P w) X.A (letOwnedTupleGo tg (.ref it) u) (λ_ s2=> ∃x H',Inv X y8 U H' s2/\RelV x u/\J.ek i H x H'/\tn (i+1) s2.heap/\ ∀b∈fp,H' b=u0) E s1) E s
 done: ∀(X:Cx),X.prog=P->X.w=w->X.K=K->X.calm=k9-> ∀(i:Nat) (y8:List (Addr×Obj)) (s:Shared) (U:St) (H:Hp) (E:Value->Shared->Prop),Inv X y8 U H s->(∀ b∈fp,Z6 X y8 H b)->tn i s.heap->J.stop i H →
  wpAny (model P w) X.A (pyNext (.ref it)) (λr s1=>r=u0/\Inv X y8 U H s1) E s
 self: ∀(A:Around) (i:Nat) (s:Shared) (Q:Value->Shared->Prop) (E:Value->Shared->Prop),tn i s.heap->Q (.ref it) s->wpAny (model P w) A (pyIter (.ref it)) Q E s
abbrev TI:=St->Hp->(It->Hp->Prop)->Prop
def oe (X:Cx) (a:List (Addr×Obj)) (U:St) (tg:Expr) (R:It->Hp->Prop) (c:Value) (e:Shared):Prop:=
 ∃(f:Addr) (fp:List Addr) (d:Nat->Heap->Prop) (J:It) (H':Hp),c= .ref f/\Inv X a U H' e/\gE X.prog X.w X.K tg J fp f d/\d 0 e.heap/\(∀ b∈fp,Z6 X a H' b)/\R J H'
def PI (X:Cx) (tg a:Expr) (c:TI):Prop:=
 ∀(y8:List (Addr×Obj)) (s:Shared) (U:St) (H:Hp) (R:It->Hp->Prop),Inv X y8 U H s->c U H R →
  wpAny (model X.prog X.w) X.A (eval a X.env) (λv b=>wpAny (model X.prog X.w) X.A (pyIter v) (oe X y8 U tg R) X.xe b) X.xe s
def xS (e:s.heap.get? it=y0 o) (d:o.cls= .type n) (b:o.data= .fields vs)
 (c: ["enumerate", "zip", "dict_itemiterator", "dict_reverseitemiterator", "odict_iterator", "itertools.zip_longest", "itertools.pairwise"].contains n=false) (a:Q () s):wpAny M A (letOwnedTupleGo tg (.ref it) u) Q E s:=by
 unfold letOwnedTupleGo
 cases tg<;>first
  | exact wpAny_pure a
  | (cases u<;>first
      | exact wpAny_pure a
      | (refine wpAny_bind (wpAny_load e ?_)
         rw [d,b]
         show wpAny M A (if (["enumerate", "zip", "dict_itemiterator", "dict_reverseitemiterator", "odict_iterator", "itertools.zip_longest", "itertools.pairwise"].contains n&&vs[0]? ==some (rawInt _))=true then _ else _) Q E s
         rw [if_neg (by intro h;rw [c,Bool.false_and]at h;cases h)]
         exact wpAny_pure a))
noncomputable def lA (K:Aa4) (a:Addr):It:=
 ⟨λi H=> ∃xs x,bu K H a xs/\xs[i]? =y0 x,λi H x H'=>H'=H/\ ∀xs,bu K H a xs->xs[i]? =y0 x,λi H=> ∃xs,bu K H a xs/\xs.length<=i⟩
noncomputable def iu (K:Aa4) (a:Addr):It:=
 ⟨λi H=> ∃xs x,cJ K H a xs/\xs[i]? =y0 x,λi H x H'=>H'=H/\ ∀xs,cJ K H a xs->xs[i]? =y0 x,λi H=> ∃xs,cJ K H a xs/\xs.length<=i⟩
def iP (a:Int) (n:Nat):It:=⟨λi _=>i<n,λi H x H'=>H'=H/\x= .int (a+i),λi _=>n<=i⟩
def Bx {K:Aa4}(a it):gE P w K tg (lA K a) [it] it (λi h=>h.IsListIter it a i) where
 mem:=by simp
 obj:=λi h f b j=>by
  have e:=by simpa using j
  subst e
  obtain⟨o,e,c,d⟩:=f
  exact⟨o,e,λv z=>by rw [d]at z;cases z⟩
 keep:=λi h t f k=>f.at λo e=>k it (by simp) o e
 item:=by
  intro X A L q M i g s U H E I m f D
  subst A L q
  obtain⟨S,x,n,B⟩:=D
  obtain⟨y,rv,p,O⟩:=I.list n
  obtain⟨u,R,Q⟩:=rv.get B
  obtain⟨G,r,V,F,C,J⟩:=m it (by simp)
  refine wpAny_pyNext_list_item f p.isList (by simpa using R) λt l Y=> ?_
  have N:Inv X g U H { s with heap:=t }:=I.turned (λb o j e=>(Y.2 b j).trans e) G r F C J
  obtain⟨o,e,c,d⟩:=id l
  exact⟨u,rfl,xS e c d (by decide) ⟨x,H,N,Q,⟨rfl,λys W=>by rw [I.dE W n];exact B⟩,l,λb j=>(m b j).1⟩⟩
 done:=by
  intro X A L q M i g s U H E I m f D
  subst A L q
  obtain⟨S,n,B⟩:=D
  obtain⟨y,rv,p,O⟩:=I.list n
  obtain⟨G,r,V,F,C,J⟩:=m it (by simp)
  have Z:=rv.length
  exact wpAny_pyNext_list_end (I.ok.hd M) f p.isList (by simp;omega) λt T=>⟨rfl,I.turned (λb o j e=>T b o j e) G r F C J⟩
 self:=λ_ _ _ _ _ f h=>wpAny_pyIter_listiter f h
def j8 {K:Aa4}(a it):gE P w K tg (iu K a) [it] it (λi h=>h.IsTupleIter it a i) where
 mem:=by simp
 obj:=λi h f b j=>by
  have e:=by simpa using j
  subst e
  obtain⟨o,e,c,d⟩:=f
  exact⟨o,e,λv z=>by rw [d]at z;cases z⟩
 keep:=λi h t f k=>f.at λo e=>k it (by simp) o e
 item:=by
  intro X A L q M i g s U H E I m f D
  subst A L q
  obtain⟨S,x,n,B⟩:=D
  obtain⟨y,rv,p,O⟩:=I.tuple n
  obtain⟨u,R,Q⟩:=rv.get B
  obtain⟨G,r,V,F,C,J⟩:=m it (by simp)
  refine wpAny_pyNext_tuple_item f (p) (by simpa using R) λt l Y=> ?_
  have N:Inv X g U H { s with heap:=t }:=I.turned (λb o j e=>(Y.2 b j).trans e) G r F C J
  obtain⟨o,e,c,d⟩:=id l
  exact⟨u,rfl,xS e c d (by decide) ⟨x,H,N,Q,⟨rfl,λys W=>by rw [I.el W n];exact B⟩,l,λb j=>(m b j).1⟩⟩
 done:=by
  intro X A L q M i g s U H E I m f D
  subst A L q
  obtain⟨S,n,B⟩:=D
  obtain⟨y,rv,p,O⟩:=I.tuple n
  obtain⟨G,r,V,F,C,J⟩:=m it (by simp)
  have Z:=rv.length
  exact wpAny_pyNext_tuple_end (I.ok.hd M) f (p) (by simp;omega) λt T=>⟨rfl,I.turned (λb o j e=>T b o j e) G r F C J⟩
 self:=λ_ _ _ _ _ f h=>wpAny_pyIter_tupleiter f h
def w9 {K:Aa4}(it) (lo) (n):gE P w K tg (iP lo n) [it] it (λi h=>IsRangeIter h it (lo+(i:Nat)*1) ((n:Int)-(i:Nat)) 1) where
 mem:=by simp
 obj:=λi h a b d=>by
  have e:=by simpa using d
  subst e
  exact⟨_,a,λv z=>by
   have F:=z
   cases F⟩
 keep:=λi h l a k=>k it (by simp) _ a
 item:=by
  intro X A B y m i c s U H E I g a q
  subst A B y
  obtain⟨u,j,L,r,p,x⟩:=g it (by simp)
  have W:=Walks.range (prog:=X.prog) (w:=X.w) (I.ok.hd m) it lo 1 n
  refine W.item i s _ _ q a λv l tk G f C=> ?_
  obtain⟨t,rfl⟩:=G
  have D:Inv X c U H { s with heap:=l,toks:=tk }:=I.turned (λb o d e=>C b o (by simpa using d) e) u j r p x
  refine⟨_,rfl,xS f rfl rfl (by decide) ⟨.int (lo+i),H,D,⟨t,?_⟩,⟨rfl,rfl⟩,f,λb d=>(g b d).1⟩⟩
  rw [Int.mul_one]
 done:=by
  intro X A B y m i c s U H E I g a q
  obtain⟨u,j,L,r,p,x⟩:=g it (by simp)
  exact wpAny_pyNext_range_end (I.ok.hd m) a (by have:n<=i:=q;omega) λl J=>⟨rfl,I.turned (λb o d e=>J b o d e) u j r p x⟩
 self:=λ_ _ _ _ _ a h=>wpAny_pyIter_rangeiter a h
section
variable {X:Cx}{tg:Expr}
def qX {a c:Int}(I:Inv X y8 U H s) (h1: -(2 ^ 62)<=a) (h2:a<2 ^ 62) (g: -(2 ^ 62)<=c) (f:c<2 ^ 62)
 (q:R (iP a (c-a).toNat) H):wpAny (model X.prog X.w) X.A (pyIter (.ref s.heap.objs.size)) (oe X y8 U tg R) E { s with heap:=s.heap.push { cls:= .type "range",data:= .fields #[.int a t,.int c u,.int 1 v] },toks:=tk }:=by
 refine wpAny_pyIter_range (IsRange.new ..) (small_one h1 h2 g f) ?_
 have d:Inv X y8 U H { s with heap:=s.heap.push { cls:= .type "range",data:= .fields #[.int a t,.int c u,.int 1 v] },toks:=tk }:=I.kept fun b o e=>Heap.get?_push_of_some _ e
 refine⟨(s.heap.push { cls:= .type "range",data:= .fields #[.int a t,.int c u,.int 1 v] }).objs.size,[(s.heap.push { cls:= .type "range",data:= .fields #[.int a t,.int c u,.int 1 v] }).objs.size],_,_,H,rfl,
  d.kept λb o e=>Aa8 _ e,w9 _ a (c-a).toNat,?_,λb j=> ?_,q⟩
 ·have h:a+ (0:Nat)*1=a:=by simp
  have i: ((c-a).toNat:Nat)- (0:Nat)=Builtin.Range.rangeSize a c 1:=by rw [rangeSize_one];split<;>omega
  rw [h,i]
  exact Ac1 _ rfl
 ·have e:b=(s.heap.push { cls:= .type "range",data:= .fields #[.int a t,.int c u,.int 1 v] }).objs.size:=by simpa using j
  subst e
  exact d.dn (Aa6 _) (d.aN.fresh (Aa6 _))
def BK (a:TA):TI:=λU H R=>a U H λb H1=> ∃j:Int,b= [.int j]/\ -(2 ^ 62)<=j/\j<2 ^ 62/\R (iP 0 j.toNat) H1
def E2 (a:TA):TI:=λU H R=>a U H λb H1=> ∃i j:Int,b= [.int i,.int j]/\(-(2 ^ 62)<=i/\i<2 ^ 62/\ -(2 ^ 62)<=j/\j<2 ^ 62)/\R (iP i (j-i).toNat) H1
def yN (n:Gl X "range") (k:X.mg "range" =none) (f:PA X [a] ta) (l:starEach [a] X.env= [(false,eval a X.env)]:=by rfl):PI X tg (.Call (.Name "range" p) [a] [] pos) (BK ta):=by
 intro b s U H R I h
 refine Call_ (XC I n k boot_range (PyProof.Rows.callWith_type1 (aG (f pos b s U H _ I h) λo w ⟨u,v,g,d,c⟩=> ?_) l rfl))
 obtain⟨j,e,c,m,q⟩:=c
 subst e
 cases d with
 | cons r i=>
  cases i
  obtain⟨t,rfl⟩:=r
  exact call_range_1 (qX g (by omega) (by omega) c m (by simpa using q))
def CC (w:Gl X "range") (n:X.mg "range" =none) (l:PA X [a,b] ta) (o:starEach [a,b] X.env= [(false,eval a X.env),(false,eval b X.env)]:=by rfl) (d:starEach [b] X.env= [(false,eval b X.env)]:=by rfl):
 PI X tg (.Call (.Name "range" p) [a,b] [] pos) (E2 ta):=by
 intro c s U H R I h
 refine Call_ (XC I w n boot_range (PyProof.Rows.callWith_type1 (aG (l pos c s U H _ I h) λz C ⟨A,B,m,k,f⟩=> ?_) (by rw [o,d]) (by rw [d];rfl)))
 obtain⟨i,j,e,⟨f,v,x,u⟩,q⟩:=f
 subst e
 cases k with
 | cons r g=>
  cases g with
  | cons y g=>
   cases g
   obtain⟨t,rfl⟩:=r
   obtain⟨D,rfl⟩:=y
   exact call_range_2 (qX m f v x u q)
def FK (c:TI) (g:TG) (d:TS):TS:=λD U H=>c U H λJ H1=> ∃W:Nat->Nat->St->Hp->Prop,(∃ m,W 0 m U H1)/\ ∀i m U H,W i m U H →
 (J.stop i H/\D.nx U H)\/(J.go i H/\ ∃N:St->Hp->Prop,(∀ b H',N b H'-> ∃a,a<m/\W (i+1) a b H')/\ ∀x H',J.ek i H x H'->g x U H' λe H2=>d { D with nx:=N,ct:=N,bk:=D.nx } e H2)
def QB (a:List Addr) (h:Heap):List (Addr×Obj):=a.filterMap λb=>(h.get? b).map λo=>(b,o)
def Wh (a:b∈fp) (e:h.get? b=y0 o):(b,o)∈QB fp h:=Al4.mpr ⟨b,a,by rw [e];rfl⟩
def wM (a:p∈QB fp h):p.1∈fp/\h.get? p.1=y0 p.2:=by
 obtain⟨b,d,e⟩:=Al4.mp a
 cases q:h.get? b with
 | none=>rw [q]at e;cases e
 | some o=>
  rw [q]at e
  have c:=Ae5.inj e
  subst c
  exact⟨d,q⟩
def Inv.pinned (I:Inv X y8 U H s) (j: ∀b∈fp,Z6 X y8 H b) (k: ∀b∈fp,∃o,s.heap.get? b=y0 o/\ ∀v,o.data≠ .cell v):Inv X (y8++QB fp s.heap) U H s:=
 I.bU λp i=>(Ac8.mp i).elim (λz=>I.pin p (Ab _ z)) λz=>by
  obtain⟨c,e⟩:=wM z
  obtain⟨g,f,h,_⟩:=j p.1 c
  obtain⟨o,a,d⟩:=k p.1 c
  rw [e]at a;cases a
  exact⟨e,g,f,h,d⟩
def Inv.bQ (I:Inv X (y8++pl) U H s):Inv X y8 U H s:=I.bU λp a=>I.pin p (Ab _ (Af0 _ a))
def yq (E:PassesOwn (model X.prog X.w) X.A X.env X.xe) (hc:X.calm=k9) (hi:PI X tg iter wi) (hg:PG X tg g) (q:cN X body tb)
 (hs: ∀x,foldedSetIterable iter X.env x=pure x:=by intro _;rfl):PS X (.For tg iter body [] pos) (FK wi g tb):=by
 intro a s U H D I h
 refine wpAny_For (aG (hi a s U H _ I h) λv s1 h1=>aG h1 λitv s2 h2=> ?_) hs
 obtain⟨it,B,S,J,H2,e,I2,T,Q,f2,W,⟨m0,w0⟩,K⟩:=h2
 subst e
 have k: ∀ {t},(∀ b∈B,t b=u0)-> ∀b∈B,Z6 X a t b:=λhn b q=>⟨hn b q,(f2 b q).2⟩
 refine codeAny_forLoop_any (λn s'=> ∃i z t,Inv X a z t s'/\S i s'.heap/\(∀ b∈B,t b=u0)/\W i n z t) ?_ m0 ⟨0,U,H2,I2,Q,λb q=>(f2 b q).1,w0⟩
 rintro n s3 ⟨i,A,L,Y,C,G,w3⟩
 rcases K i n A L w3 with⟨stop,qn⟩ | ⟨go,N,hN,step⟩
 ·refine wpAny_passesOwn E (aG (T.done X rfl rfl rfl hc i a s3 A L X.xe Y (k G) C stop) ?_)
  rintro r s4 ⟨P,I4⟩
  subst P
  exact wpAny_execs_nil ⟨A,L,I4,qn⟩
 ·refine wpAny_passesOwn E (aG (T.item X rfl rfl rfl hc i a s3 A L X.xe Y (k G) C go) ?_)
  rintro r s4 ⟨u,P,h4⟩
  subst P
  refine wpAny_passesOwn E (aG h4 ?_)
  rintro _ Z ⟨x,V,I5,r5,y5,y,M⟩
  have R:=I5.pinned (k M) (T.obj _ _ y)
  refine wpAny_passesOwn E (aG (hg _ Z A V x u _ R r5 (step x V y5)) ?_)
  rintro _ s6 ⟨U6,H6,I6,q6⟩
  refine wpAny_passesOwn E (aG (q _ s6 U6 H6 _ I6 q6) λf O w=> ?_)
  have j: ∀ {p}{c},Inv X (a++QB B Z.heap) p c O->N p c-> ∃m,m<n/\ ∃i z t,Inv X a z t O/\S i O.heap/\(∀ b∈B,t b=u0)/\W i m z t:=λ{p c} l F=>by
   obtain⟨m',hm,w7⟩:=hN p c F
   refine⟨m',hm,i+1,p,c,l.bQ,T.keep _ _ _ y λb q o e=>(l.pin (b,o) (Ab _ (Ab _ (Wh q e)))).1,λb q=> ?_,w7⟩
   obtain⟨o,e,d⟩:=T.obj _ _ y b q
   exact(l.pin (b,o) (Ab _ (Ab _ (Wh q e)))).2.1
  cases f with
  | next=>obtain⟨p,c,l,F⟩:=w;exact j l F
  | cont=>obtain⟨p,c,l,F⟩:=w;exact j l F
  | brk=>obtain⟨p,c,l,w⟩:=w;exact⟨p,c,l.bQ,w⟩
  | ret v=>obtain⟨x7,p,c,l,r7,w⟩:=w;exact⟨x7,p,c,l.bQ,r7,w⟩
end
abbrev R2:=V->V->Hp->VK->Prop
def b3 (X:Cx) (f:Value->Value->Sem Value) (r:R2):Prop:=
 ∀(y8:List (Addr×Obj)) (s:Shared) (U:St) (H:Hp) (x y:V) (v u:Value) (Q:VK),Inv X y8 U H s->RelV x v->RelV y u->r x y H Q →
  wpAny (model X.prog X.w) X.A (f v u) (EP X y8 U Q) X.xe s
def nT (X:Cx) (f:Value->Sem Value) (r:V->Hp->VK->Prop):Prop:=
 ∀(y8:List (Addr×Obj)) (s:Shared) (U:St) (H:Hp) (x:V) (v:Value) (Q:VK),Inv X y8 U H s->RelV x v->r x H Q →
  wpAny (model X.prog X.w) X.A (f v) (EP X y8 U Q) X.xe s
def xo (X:Cx) (f:Value) (r:List V->Hp->VK->Prop):Prop:=
 ∀(y8:List (Addr×Obj)) (s:Shared) (U:St) (H:Hp) (xs:List V) (a:List Value) (Q:VK),Inv X y8 U H s->Vals xs a->r xs H Q →
  wpAny (model X.prog X.w) X.A (call f a) (EP X y8 U Q) X.xe s
def DR (X:Cx) (r:V->Hp->(Bool->Hp->Prop)->Prop):Prop:=
 ∀(y8:List (Addr×Obj)) (s:Shared) (U:St) (H:Hp) (x:V) (v:Value) (Q:Bool->Hp->Prop),Inv X y8 U H s->RelV x v->r x H Q →
  wpAny (model X.prog X.w) X.A (truthy v) (TP X y8 U Q) X.xe s
def i6 (r:R2) (b a:TE):TE:=λU H Q=>b U H λx H1=>a U H1 λy H2=>r x y H2 Q
def E3 (r:V->Hp->VK->Prop) (a:TE):TE:=λU H Q=>a U H λx H1=>r x H1 Q
def rI (C:Int->Int->Prop) (g:Int->Int->V):R2:=λx y H Q=> ∃i j,x= .int i/\y= .int j/\C i j/\Q (g i j) H
def gI (g:Int->Int->V):R2:=λx y H Q=> ∃i j,x= .int i/\y= .int j/\Q (g i j) H
def rU (g:Int->V):V->Hp->VK->Prop:=λx H Q=> ∃i,x= .int i/\Q (g i) H
section
variable {X:Cx}{a b c:Expr}{ta tb tc:TE}{pos:Pos}
def nH (e:PE X a ta) (m:PE X b tb){R:V->V->Hp->Prop}(I:Inv X y8 U H s)
 (h:ta U H λx H1=>tb U H1 λy H2=>R x y H2){f:Value->Value->Sem Value}
 (g: ∀v u q x y H2,Inv X y8 U H2 q->RelV x v->RelV y u->R x y H2->wpAny (model X.prog X.w) X.A (f v u) Q X.xe q):
 wpAny (model X.prog X.w) X.A (eval a X.env) (λv i=>wpAny (model X.prog X.w) X.A (eval b X.env) (λu j=>wpAny (model X.prog X.w) X.A (f v u) Q X.xe j) X.xe i) X.xe s:=by
 refine aG (e y8 s U H _ I h) ?_
 rintro v p ⟨x,H1,l,d,k⟩
 refine aG (m y8 p U H1 _ l k) ?_
 rintro u q ⟨y,H2,c,o,n⟩
 exact g v u q x y H2 c d o n
def AK (l:b3 X (binaryOp op) r) (e:PE X a ta) (f:PE X b tb):PE X (.BinOp a op b pos) (i6 r ta tb):=by
 intro c s U H Q I h
 exact wpAny_BinOp (nH e f I h λv u j x y g d k i q=>l c j U g x y v u Q d k i q)
def rF (j:nT X (unaryOp op) r) (i:PE X a ta):PE X (.UnaryOp op a pos) (E3 r ta):=by
 intro b s U H Q I h
 exact UnaryOp_ (aG (i b s U H _ I h) λv c ⟨x,f,e,g,d⟩=>j b c U f x v Q e g d)
def lE {g:Int->Int->Int}
 (a: ∀ i j t u s Q E,C i j->Q (.int (g i j) s.toks) { s with toks:=s.toks+1 }->wpAny (model X.prog X.w) X.A (f (.int i t) (.int j u)) Q E s):
 b3 X f (rI C λi j=> .int (g i j)):=by
 intro b s U H x y v u Q I k d h
 obtain⟨i,j,rfl,rfl,c,q⟩:=h
 obtain⟨t,rfl⟩:=k
 obtain⟨e,rfl⟩:=d
 exact a i j t e s _ _ c ⟨.int (g i j),H,I.tok _,⟨_,rfl⟩,q⟩
def sr {g:Int->Int->Int}
 (a: ∀ i j t u s Q E,Q (.int (g i j) s.toks) { s with toks:=s.toks+1 }->wpAny (model X.prog X.w) X.A (f (.int i t) (.int j u)) Q E s):
 b3 X f (gI λi j=> .int (g i j)):=by
 intro b s U H x y v u Q I e c h
 obtain⟨i,j,rfl,rfl,q⟩:=h
 obtain⟨t,rfl⟩:=e
 obtain⟨d,rfl⟩:=c
 exact a i j t d s _ _ ⟨.int (g i j),H,I.tok _,⟨_,rfl⟩,q⟩
def la {g:Int->Int->Bool}
 (a: ∀ i j t u s Q E,Q (.bool (g i j)) s->wpAny (model X.prog X.w) X.A (f (.int i t) (.int j u)) Q E s):
 b3 X f (gI λi j=> .bl (g i j)):=by
 intro b s U H x y v u Q I e c h
 obtain⟨i,j,rfl,rfl,q⟩:=h
 obtain⟨t,rfl⟩:=e
 obtain⟨d,rfl⟩:=c
 exact a i j t d s _ _ ⟨.bl (g i j),H,I,rfl,q⟩
def DC (i j:Int):Prop:=0<j/\j<1073741824
def B4 (i j:Int):Prop:=0<=j/\j<=1000000/\i.natAbs<2 ^ 64
def hF (i j:Int):Prop:=(-(2 ^ 64)<i/\i<2 ^ 64)\/(-(2 ^ 64)<j/\j<2 ^ 64)
def hF.ok (h:hF i j):IntMulOk i j:=by
 rcases h with⟨a,b⟩ | ⟨a,b⟩
 ·exact .of_left (intBits_le_64 a b)
 ·exact .of_right (intBits_le_64 a b)
def A4:b3 X (binaryOp .Add) (gI λi j=> .int (i+j)):=sr λ_ _ _ _ _ _ _ q=>add_int q
def Bc:b3 X (binaryOp .Sub) (gI λi j=> .int (i-j)):=sr λ_ _ _ _ _ _ _ q=>sub_int q
def Eu:b3 X (binaryOp .Mult) (rI hF λi j=> .int (i*j)):=lE λ_ _ _ _ _ _ _ a q=>mul_int q a.ok
def vM:b3 X (binaryOp .FloorDiv) (rI DC λi j=> .int (i / j)):=lE λi j _ _ _ _ _ a q=>by
 have c:=a.1
 have b:=a.2
 exact floordiv_int (by omega) (by rw [Int.fdiv_eq_ediv_of_nonneg i (by omega)];exact q) (.inl (PyProof.noPylong_small (by omega)))
def ua:b3 X (binaryOp .Mod) (rI (λ_ j=>0<j) λi j=> .int (i % j)):=lE λi j _ _ _ _ _ a q=>by
 have b:=a
 exact mod_int' (by omega) (by rw [Int.fmod_eq_emod_of_nonneg i (by omega)];exact q)
def AE:b3 X (binaryOp .Pow) (rI B4 λi j=> .int (i ^ j.toNat)):=lE λ_ _ _ _ _ _ _ a q=>pow_int_small a.1 a.2.1 a.2.2 q
def vC {g:Int->Int}
 (a: ∀ i t s Q E,Q (.int (g i) s.toks) { s with toks:=s.toks+1 }->wpAny (model X.prog X.w) X.A (f (.int i t)) Q E s):
 nT X f (rU λi=> .int (g i)):=by
 intro b s U H x v Q I c h
 obtain⟨i,rfl,q⟩:=h
 obtain⟨t,rfl⟩:=c
 exact a i t s _ _ ⟨.int (g i),H,I.tok _,⟨_,rfl⟩,q⟩
def rb:nT X (unaryOp .USub) (rU λi=> .int (-i)):=vC λ_ _ _ _ _ q=>neg_int q
end
section
variable {X:Cx}{a b c:Expr}{ta tb tc:TE}{pos:Pos}
def zR (I:Inv X y8 U H s) (q:Q (.bl k) H) (e:k=k'):EP X y8 U Q (.bool k') s:=by
 subst e
 exact⟨.bl k,H,I,rfl,q⟩
def CQ:b3 X (compareOp .Lt) (gI λi j=> .bl (u9 (i<j))):=la λ_ _ _ _ _ _ _ q=>lt_int q
def Fb:b3 X (compareOp .LtE) (gI λi j=> .bl (u9 (i<=j))):=la λ_ _ _ _ _ _ _ q=>le_int q
def FJ:b3 X (compareOp .Gt) (gI λi j=> .bl (u9 (j<i))):=la λ_ _ _ _ _ _ _ q=>gt_int q
def vq:b3 X (compareOp .GtE) (gI λi j=> .bl (u9 (j<=i))):=la λ_ _ _ _ _ _ _ q=>ge_int q
def u3:b3 X (compareOp .Lt) (λx y H Q=> ∃i j,x= .str i/\y= .str j/\Q (.bl (u9 (i.cps.toList<j.cps.toList))) H):=by
 intro a s U H x y v u Q I c b h
 obtain⟨i,j,rfl,rfl,q⟩:=h
 obtain⟨t,rfl⟩:=c
 obtain⟨d,rfl⟩:=b
 exact lt_str (zR I q rfl)
def Ck:b3 X (compareOp .In) (λx y H Q=> ∃i j,x= .str i/\y= .str j/\Q (.bl (!(Builtin.Str.occurrences j i 0 j.length 1).isEmpty)) H):=by
 intro a s U H x y v u Q I c b h
 obtain⟨i,j,rfl,rfl,q⟩:=h
 obtain⟨t,rfl⟩:=c
 obtain⟨d,rfl⟩:=b
 exact in_str (zR I q rfl)
def AV (m:b3 X (compareOp op) r) (e:PE X a ta) (g:PE X b tb) (f:behindInMarks op b=y9):PE X (.Compare a [op] [b] pos) (i6 r ta tb):=by
 intro c s U H Q I h
 exact wpAny_Compare1 (nH e g I h λv u k x y i d l j q=>m c k U i x y v u Q d l j q) f
def pj (t:TE):TT:=λU H Q=>t U H λx H'=> ∃k,x= .bl k/\Q k H'
def Bg (F:b3 X (compareOp op) r) (i:PE X a ta) (n:PE X b tb) (m:behindInMarks op b=y9):PT X (.Compare a [op] [b] pos) (pj (i6 r ta tb)):=by
 intro d s U H Q I h
 refine wpAny_isTrue_Compare1 (aG (i d s U H _ I h) λv D ⟨x,w,l,g,j⟩=>aG (n d D U w _ l j) λu C ⟨y,t,f,A,q⟩=>
  aG (F d C U t x y v u _ f g A q) λc G ⟨z,B,p,o,k,e,E⟩=> ?_) m
 subst e
 cases o
 exact wpAny_truthy_bool ⟨B,p,E⟩
def nV (r d:R2) (e c f:TE):TE:=λU H Q=>e U H λx H1=>c U H1 λy H2=>r x y H2 λz a=> ∃k,z= .bl k ∧
 (if k=k9 then f U a λg b=>d y g b Q else Q (.bl y9) a)
def yI (T:b3 X (compareOp op) r) (g:b3 X (compareOp op') r') (q:PE X a ta) (F:PE X b tb) (D:PE X c tc)
 (E:lastMarks [op,op'] [b,c]=false:=by with_unfolding_all rfl):PE X (.Compare a [op,op'] [b,c] pos) (nV r r' ta tb tc):=by
 intro f s U H Q I h
 refine Compare_chain (aG (q f s U H _ I h) λv S ⟨x,M,B,p,w⟩=>chain_link (aG (F f S U M _ B w) λu P ⟨y,L,n,j,K⟩=>
  aG (T f P U L x y v u _ n p j K) λd R ⟨z,l,i,G,k,e,m⟩=> ?_)) E
 subst e
 cases G
 refine wpAny_truthy_bool ?_
 cases k with
 | false=>exact ite_ff ⟨.bl y9,l,i,rfl,m⟩
 | true=>exact ite_tt (chain_last (aG (D f R U l _ i m) λt N ⟨C,o,A,O,J⟩=>g f N U o y C u t Q A j O J))
def D3 (ho:b3 X (compareOp op) r) (g:b3 X (compareOp op') r') (w:PE X a ta) (N:PE X b tb) (K:PE X c tc)
 (M:lastMarks [op,op'] [b,c]=false:=by with_unfolding_all rfl):PT X (.Compare a [op,op'] [b,c] pos) (pj (nV r r' ta tb tc)):=by
 intro f s U H Q I h
 refine isTrue_chain (aG (w f s U H _ I h) λv s1 ⟨x,T,F,t,C⟩=>test_link (aG (N f s1 U T _ F C) λu Y ⟨y,S,n,j,R⟩=>
  aG (ho f Y U S x y v u _ n t j R) λd Z ⟨z,l,i,O,k,e,m⟩=> ?_)) M
 subst e
 cases O
 refine wpAny_truthy_bool ?_
 cases k with
 | false=>
  obtain⟨k',q,A⟩:=m
  cases q
  exact ite_ff ⟨l,i,A⟩
 | true=>
  refine ite_tt (test_last (aG (K f Z U l _ i m) λB V ⟨G,p,E,W,P⟩=>aG (g f V U p y G u B _ E j W P) ?_))
  rintro d' s5 ⟨z2,o,D,r5,k2,L,J⟩
  subst L
  cases r5
  exact wpAny_truthy_bool ⟨o,D,J⟩
def hY (K:Aa4) (x:V) (H:Hp) (k:Bool):Prop:=
 match x with
 | .aj=>k=y9
 | .bl b=>k=b
 | .int i=>k=(i != 0)
 | .str y=>y.length<=sizeLine/\k=((y.length:Int) != 0)
 | .hR y=>y.size<=sizeLine/\k=((y.size:Int) != 0)
 | .ref p=>(∃ xs,bu K H p xs/\k= !xs.isEmpty)\/(∃ xs,cJ K H p xs/\k= !xs.isEmpty)\/ ∃a,H p=y0 (.dK a)/\k= !a.isEmpty
 | _=>False
def J4 (r:KV kvs vs):(!vs.isEmpty)= !kvs.isEmpty:=by
 cases r<;>rfl
def QF (r:Vals xs its):(!its.toArray.isEmpty)= !xs.isEmpty:=by
 cases r<;>simp
def zB:(sizeLine:Nat)<2 ^ 63:=by rw [sizeLine_eq];decide
def X1:DR X (λx H Q=> ∃k,hY X.K x H k/\Q k H):=by
 intro o s U H x v Q I d h
 obtain⟨k,e,q⟩:=h
 have B:=zB
 have C:=sizeLine_eq
 cases x with
 | aj=>
  cases d
  have a:=e
  subst a
  exact truthy_none ⟨H,I,q⟩
 | bl b=>
  cases d
  have a:=e
  subst a
  exact wpAny_truthy_bool ⟨H,I,q⟩
 | int i=>
  obtain⟨t,rfl⟩:=d
  have a:=e
  subst a
  exact PySem.P.truthy_int ⟨H,I,q⟩
 | str y=>
  obtain⟨t,rfl⟩:=d
  obtain⟨A,a⟩:y.length<=sizeLine/\k=((y.length:Int) != 0):=e
  subst a
  exact PySem.P.truthy_str (by omega) ⟨H,I.tok _,q⟩
 | hR y=>
  obtain⟨t,rfl⟩:=d
  obtain⟨A,a⟩:y.size<=sizeLine/\k=((y.size:Int) != 0):=e
  subst a
  exact PySem.W.truthy_bytes (by omega) ⟨H,I.tok _,q⟩
 | ref p=>
  cases d
  have a:=e
  rcases a with⟨w,g,a⟩ | ⟨w,g,a⟩ | ⟨f,g,a⟩
  ·subst a
   obtain⟨l,r,n,u⟩:=I.list g
   have c:=r.length
   exact wpAny_truthy_list n.isList (by simp only [Ab2];omega) ⟨H,I.tok _,by rw [QF r];exact q⟩
  ·subst a
   obtain⟨l,r,n,u⟩:=I.tuple g
   have c:=r.length
   exact truthy_tuple n (by simp only [Ab2];omega) ⟨H,I.tok _,by rw [QF r];exact q⟩
  ·subst a
   obtain⟨u,z,j,r,m⟩:f.length<=sizeLine/\(p==sysModules)=y9/\ ∃j,KV f j/\s.heap.DictOf (QU X.prog X.w) p j:=I.aN p _ g
   have c:=Paired.length r
   exact wpAny_truthy_dict z m (by omega) ⟨H,I.tok _,by rw [J4 r];exact q⟩
 | _=>exact(e).elim
def yr (d:PE X a ta) (j: ∀i,isTrue a X.env i=(do let v ←i;standAt a.pos;holding [v] (truthy v))):
 PT X a (λU H Q=>ta U H λx H'=> ∃k,hY X.K x H' k/\Q k H'):=by
 intro b s U H Q I h
 exact isTrue_plain (aG (d b s U H _ I h) λv l ⟨x,g,f,c,e⟩=>X1 b l U g x v Q f c e) (j _)
def Q7:b3 X (binaryOp .Add) (λx y H Q=> ∃i j,x= .str i/\y= .str j/\i.length+j.length<=sizeLine/\Q (.str (i++j)) H):=by
 intro a s U H x y v u Q I e c h
 obtain⟨i,j,rfl,rfl,b,q⟩:=h
 obtain⟨t,rfl⟩:=e
 obtain⟨d,rfl⟩:=c
 exact add_str (λd tk=>⟨.str (i++j),H,I.tok _,⟨_,rfl⟩,q⟩) b
def JE (r:Vals [x] us): ∃u,us= [u]/\RelV x u:=by
 cases r with
 | cons a b=>cases b;exact⟨_,rfl,a⟩
def Z9 (r:Vals [x,y] us): ∃u i,us= [u,i]/\RelV x u/\RelV y i:=by
 cases r with
 | cons b a=>
  cases a with
  | cons d c=>cases c;exact⟨_,_,rfl,b,d⟩
def C5 (c:X.calm=k9):xo X (.builtin "max") (fun xs H Q=> ∃i j,xs= [.int i,.int j]/\Q (.int (if j>i then j else i)) H):=by
 intro b s U H xs f Q I r h
 obtain⟨i,j,rfl,q⟩:=h
 obtain⟨u,d,rfl,⟨t,rfl⟩,⟨g,rfl⟩⟩:=Z9 r
 refine max_two_ints (I.ok.hd c) λe tk k=>⟨_,H,I.kept k,?_,q⟩
 by_cases a:j>i
 ·rw [if_pos a,if_pos a];exact⟨_,rfl⟩
 ·rw [if_neg a,if_neg a];exact⟨_,rfl⟩
def ue (c:X.calm=k9):xo X (.builtin "min") (fun xs H Q=> ∃i j,xs= [.int i,.int j]/\Q (.int (if j<i then j else i)) H):=by
 intro b s U H xs f Q I r h
 obtain⟨i,j,rfl,q⟩:=h
 obtain⟨u,d,rfl,⟨t,rfl⟩,⟨g,rfl⟩⟩:=Z9 r
 refine min_two_ints (I.ok.hd c) λe tk k=>⟨_,H,I.kept k,?_,q⟩
 by_cases a:j<i
 ·rw [if_pos a,if_pos a];exact⟨_,rfl⟩
 ·rw [if_neg a,if_neg a];exact⟨_,rfl⟩
def qO:xo X (.type "int") (fun xs H Q=>(∃ i,xs= [.int i]/\Q (.int i) H)\/ ∃k,xs= [.bl k]/\Q (.int (if k then 1 else 0)) H):=by
 intro a s U H xs c Q I r h
 rcases h with⟨i,rfl,q⟩ | ⟨k,rfl,q⟩
 ·obtain⟨u,rfl,t,rfl⟩:=JE r
  exact call_int_int ⟨.int i,H,I,⟨_,rfl⟩,q⟩
 ·obtain⟨u,rfl,b⟩:=JE r
  cases b
  exact call_int_bool ⟨.int (if k then 1 else 0),H,I.tok _,⟨_,rfl⟩,q⟩
end
structure dZ (h:Heap) (x dx C:Addr) (mA:Str->Option Value):Prop where
 obj:h.get? x=y0 (Ah3 C dx)
 ns:h.Ns1 dx mA
 ne:dx≠x
def jN {h:Heap}(n:h.Ns1 dx mA): ∃i,h.get? dx=y0 i/\ ∀name,Ak4 name i=y0 (mA name):=by
 obtain⟨o,c,m,l,d,k,_,f⟩:=n
 refine⟨o,l,λname=> ?_⟩
 have e:=f name
 unfold nsFind findBy at e
 rw [← Array.find?_toList]at e
 unfold Ak4
 rw [d]
 dsimp only
 split
 ·rename_i y q
  rw [q]at e
  exact congrArg y0 e
 ·rename_i q
  rw [q]at e
  have a:c.toList.any (·.refKey)=false:=by
   rw [List.any_eq_false]
   intro y j
   obtain⟨z,t,b⟩:=k y (Array.mem_toList_iff.mp j)
   simp [DictEntry.refKey,b]
  have g: ¬c.toList.any (·.refKey)=true:=by rw [a];exact Ab1
  rw [if_neg g]
  exact congrArg y0 e
def dZ.look (I:dZ h x dx C mA): ∃i,PySem.W.InstAt h x (Ah3 C dx) C (y0 i)/\ ∀name,Ak4 name i=y0 (mA name):=
 let ⟨i,b,a⟩:=jN I.ns
 ⟨i,⟨I.obj,rfl,rfl,b⟩,a⟩
section
variable {prog:Program}{w:World}{A:Around}{E:Value->Shared->Prop}{s:Shared}{K:Aa4}{x dx C f:Addr}{mA:Str->Option Value}{name:Str}{v:Value}
def uE (X:K.In s.heap) (I:dZ s.heap x dx C mA) (b:Aj6 K C name=k9) (e:PySem.W.hasDictIn K C=k9)
 (f:Ah7 K (.ref C) name=y0 u0) (d:mA name=y0 v) (a:PySem.W.handedIn v=k9) (h:Q v { s with toks:=s.toks+1 }):
 wpAny (model prog w) A (getAttr (.ref x) name expr) Q E s:=by
 obtain⟨g,J,c⟩:=I.look
 exact PySem.W.get_value X J (Ak8 b).1 (PySem.W.findObj_own e f rfl (by rw [c,d])) a h
def yK (X:K.In s.heap) (I:dZ s.heap x dx C mA) (a:Aj6 K C name=k9)
 (e:Ah7 K (.ref C) name=y0 (y0 (.ref f))) (c:PySem.W.isFn K (.ref f)=k9) (g:mA name=u0) (h:Q (.ref f,[.ref x]) s):
 wpAny (model prog w) A (getMethod (.ref x) name pl) Q E s:=by
 obtain⟨b,J,d⟩:=I.look
 exact PySem.W.method_fn X J (Ak8 a).1 (Ak8 a).2 e (beq_iff_eq.mp c) (by show(Ak4 name b).map (·.isSome)=y0 y9;rw [d,g];rfl) h
def Fe (X:K.In s.heap) (I:dZ s.heap x dx C mA)
 (l:PySem.W.findIn K (.ref C) "__setattr__" =some (some (.builtin "object.__setattr__"))) (p:PySem.W.plainOver K C=true) (o:PySem.W.takerIn K C name=some none) (k:PySem.W.hasDictIn K C=true)
 (r:PySem.Within mA ns) (i:ns.length<=sizeLine)
 (h: ∀h',dZ h' x dx C (λy=>if y=name then y0 v else mA y)->Al8 dx s.heap h'->Q () { s with heap:=h',toks:=s.toks+2 }):
 wpAny (model prog w) A (setAttr (.ref x) name v) Q E s:=by
 obtain⟨B,J,t⟩:=I.look
 refine PySem.W.set_plain X J l (PySem.W.osa_open X J p o λb=> ?_)
 obtain⟨z,j,g⟩:=PySem.W.any_some k
 have q:=I.obj
 refine wpAny_bind (wpAny_pure (wpAny_bind (wpAny_bind (wpAny_loadPart q (wpAny_bind (PySem.W.Looks.here (PySem.W.looks_clsIn X j) ?_))))))
 rw [g]
 refine wpAny_pure (wpAny_bind (wpAny_pure (wpAny_bind ?_)))
 refine wpAny_nsSet1 I.ns λh' a c=> ?_
 obtain⟨u,m,n,f,d,e⟩:=a.count (PySem.Within.cons name v r)
 refine wpAny_bind (wpAny_lookBehind f (by rw [d];exact pastItsLine_dict (Ab8 e (by rw [Aa2];omega))) ?_)
 exact wpAny_pure (h _ ⟨(c.2 _ (Ne.symm I.ne)).trans I.obj,a,I.ne⟩ c)
def EC (X:K.In s.heap) (e:PySem.W.makesIn K C=k9)
 (b:PySem.W.findIn K (.ref C) "__init__" =some (some (.ref f))) (c:PySem.W.typeIn K (.ref f)=some (.type "function"))
 (h:codeAny (model prog w) (A.under (.builtin "type.__call__" ⟨.ref C::vs,kw⟩)) (.call (.ref f) ⟨.ref (s.heap.objs.size+1)::vs,kw⟩) (PySem.W.InitBack (s.heap.objs.size+1) R)
   { s with heap:=(s.heap.push Af8).push (Ah3 C s.heap.objs.size) }):
 codeAny (model prog w) A (.call (.ref C) ⟨vs,kw⟩) R s:=by
 obtain⟨i,g,d,t,j⟩:=s
 exact PySem.W.make_core (PySem.W.makes_of X e) (PySem.W.looks_findIn X b) (λa=>PySem.W.bind_fn X a c) (.inl rfl) h
end
noncomputable def ba (f:Str) (v:V):List (Str×V)->List (Str×V)
 | []=> [(f,v)]
 | (g,x)::r=>if g=f then(g,v)::r else(g,x)::ba f v r
theorem QC (f g) (v): ∀fs:List (Str×V),(ba f v fs).lookup g=if g=f then y0 v else fs.lookup g
 | []=>by
  show Ag6 g [(f,v)]=_
  by_cases h:g=f
  ·have a:=beq_iff_eq.mpr h
   simp only [Ag6,a,if_pos h]
  ·have a:=beq_eq_false_iff_ne.mpr h
   simp only [Ag6,a,if_neg h]
 | (k,x)::r=>by
  have c:=QC f g v r
  rw [show ba f v ((k,x)::r)=(if k=f then(k,v)::r else(k,x)::ba f v r)from rfl]
  by_cases b:k=f
  ·rw [if_pos b]
   by_cases h:g=k
   ·have a:=beq_iff_eq.mpr h
    simp only [Ag6,a,if_pos (h.trans b)]
   ·have a:=beq_eq_false_iff_ne.mpr h
    simp only [Ag6,a,if_neg (λe:g=f=>h (e.trans b.symm))]
  ·rw [if_neg b]
   by_cases h:g=k
   ·have a:=beq_iff_eq.mpr h
    simp only [Ag6,a,if_neg (λe:g=f=>b (h.symm.trans e))]
   ·have a:=beq_eq_false_iff_ne.mpr h
    simp only [Ag6,a]
    exact c
theorem JD (f) (v): ∀fs:List (Str×V),f∈(ba f v fs).map (·.1)/\ ∀g,g∈fs.map (·.1)->g∈(ba f v fs).map (·.1)
 | []=>⟨by simp [ba],λg h=>by simp at h⟩
 | (k,x)::r=>by
  obtain⟨i1,i2⟩:=JD f v r
  rw [show ba f v ((k,x)::r)=(if k=f then(k,v)::r else(k,x)::ba f v r)from rfl]
  by_cases a:k=f
  ·rw [if_pos a]
   subst a
   exact⟨by simp,λg h=>by simpa using h⟩
  ·rw [if_neg a]
   refine⟨?_,λg h=> ?_⟩
   ·rw [Ac0]
    exact Aa0 _ i1
   ·rw [Ac0]at h ⊢
    rcases Aa5.mp h with e | e
    ·exact Aa5.mpr (.inl e)
    ·exact Aa0 _ (i2 g e)
theorem ZA (f) (v): ∀fs:List (Str×V),(ba f v fs).length<=fs.length+1
 | []=>by simp [ba]
 | (k,x)::r=>by
  have b:=ZA f v r
  rw [show ba f v ((k,x)::r)=(if k=f then(k,v)::r else(k,x)::ba f v r)from rfl]
  by_cases a:k=f
  ·rw [if_pos a,Aa2,Aa2];omega
  ·rw [if_neg a,Aa2,Aa2];omega
def ck.some_of (r:ck (y0 v) o): ∃u,o=y0 u/\RelV v u:=by
 cases o with
 | none=>exact(r).elim
 | some u=>exact⟨u,rfl,r⟩
def ck.none_of (r:ck u0 o):o=none:=by
 cases o with
 | none=>rfl
 | some u=>exact(r).elim
def JR (r:RelV v u):PySem.W.handedIn u=true:=by
 cases v with
 | aj=>cases (r);rfl
 | bl b=>cases (r);rfl
 | int i=>obtain⟨t,e⟩:=(r);cases e;rfl
 | str x=>obtain⟨t,e⟩:=(r);cases e;rfl
 | hR b=>obtain⟨t,e⟩:=(r);cases e;rfl
 | gY b=>obtain⟨t,e⟩:=(r);cases e;rfl
 | ref a=>cases (r);rfl
 | ty n=>cases (r);rfl
section
variable {P:Program}{w:World}{H H':Hp}{h h':Heap}{a C dx:Addr}{fs fs':List (Str×V)}
def ZI (b:cM P w H h) (e:H a=y0 (.ins C dx fs)): ∃mA,dZ h a dx C mA/\(∀ f,ck (fs.lookup f) (mA f))/\PySem.Within mA (fs.map (·.1))/\fs.length<=1000/\H dx=y0 (.own a):=by
 obtain⟨d,z,ne,c,mA,n,r,q⟩:=(show aP P w H h a (.ins C dx fs)from b a _ e)
 exact⟨mA,⟨c,n,ne⟩,r,q,z,d⟩
end
structure cX (K:Aa4) (C:Addr):Prop where
 pg:Aj6 K C Str.empty=k9
 hd:PySem.W.hasDictIn K C=k9
 po:PySem.W.plainOver K C=k9
 sa:PySem.W.findIn K (.ref C) "__setattr__" =some (some (.builtin "object.__setattr__"))
def cX.get {K:Aa4}(c:cX K C) (f):Aj6 K C f=true:=c.pg
def b7 (K:Aa4) (C:Addr) (f:Str):Prop:=Ah7 K (.ref C) f=y0 u0
def b7.iM {K:Aa4}(n:b7 K C f):PySem.W.takerIn K C f=y0 none:=by
 unfold PySem.W.takerIn
 rw [show Ah7 K (.ref C) f=y0 u0 from n]
 rfl
structure Hi (K:Aa4) (C:Addr) (f:Str) (v:V) (u:Value):Prop where
 at_:Ah7 K (.ref C) f=y0 (y0 u)
 rel:RelV v u
 get:PySem.W.specialIn K u "__get__" =some none
 cp:PySem.W.copiedNames.contains f=y9
structure iR (K:Aa4) (C:Addr) (m:Str) (f:Addr):Prop where
 at_:Ah7 K (.ref C) m=y0 (y0 (.ref f))
 fn:PySem.W.isFn K (.ref f)=k9
 kp:Af5 K (.ref f)=k9
section
variable {X:Cx}{y8:List (Addr×Obj)}{U:St}{H:Hp}{s:Shared}{a C dx:Addr}{fs:List (Str×V)}{f:Str}{v:V}{A:Around}{E:Value->Shared->Prop}
def j9 (I:Inv X y8 U H s) (e:H a=y0 (.ins C dx fs)) (c:cX X.K C) (n:b7 X.K C f) (l:fs.lookup f=y0 v)
 (h: ∀u s',Inv X y8 U H s'->RelV v u->Q u s'):wpAny (model X.prog X.w) A (getAttr (.ref a) f b) Q E s:=by
 obtain⟨i,O,r,_,_,_⟩:=ZI I.aN e
 obtain⟨u,g,d⟩:=ck.some_of (by rw [← l];exact r f)
 exact uE I.bO O (c.get f) c.hd n g (JR d) (h u _ (I.tok _) d)
def wF (I:Inv X y8 U H s) (e:H a=y0 (.ins C dx fs)) (c:cX X.K C) (k:iR X.K C m g) (l:fs.lookup m=u0)
 (h:Q (.ref g,[.ref a]) s):wpAny (model X.prog X.w) A (getMethod (.ref a) m pl) Q E s:=by
 obtain⟨d,O,r,_,_,_⟩:=ZI I.aN e
 have b:=ck.none_of (by rw [← l];exact r m)
 exact yK I.bO O (c.get m) k.at_ k.fn b h
def J7 (I:Inv X y8 U H s) (e:H a=y0 (.ins C dx fs)) (c:cX X.K C) (n:b7 X.K C f) (D:fs.length<1000) (w:RelV y u)
 (h: ∀s',Inv X y8 U (aI H a (.ins C dx (ba f y fs))) s'->Q () s'):wpAny (model X.prog X.w) A (setAttr (.ref a) f u) Q E s:=by
 obtain⟨i,O,r,k,_,j⟩:=ZI I.aN e
 have t:(fs.map (·.1)).length<=sizeLine:=by rw [Ac,sizeLine_eq];omega
 refine Fe I.bO O c.sa c.po n.iM c.hd k t λp d B=>h _ ?_
 have m: ∃o,p.get? dx=y0 o:=let ⟨o,_,_,l,_⟩:=d.ns; ⟨o,l⟩
 refine I.write (by rw [e];exact True.intro) (.inr j) (λb q v z=>(B.2 b v).trans z) m ?_
 refine⟨by rw [xa O.ne];exact j,?_,O.ne,d.obj,_,d.ns,λg=> ?_,λg x=> ?_⟩
 ·have:=ZA f y fs;omega
 ·show ck ((ba f y fs).lookup g) (if g=f then y0 u else i g)
  rw [QC]
  by_cases q:g=f
  ·rw [if_pos q,if_pos q];exact w
  ·rw [if_neg q,if_neg q];exact r g
 ·by_cases q:g=f
  ·rw [q];exact(JD f y fs).1
  ·refine(JD f y fs).2 g (k g λz=>x ?_)
   show(if g=f then y0 u else i g)=u0
   rw [if_neg q];exact z
def Inv.made (I:Inv X y8 U H s):Inv X y8 U (aI (aI H s.heap.objs.size (.own (s.heap.objs.size+1))) (s.heap.objs.size+1) (.ins C s.heap.objs.size []))
 { s with heap:=(s.heap.push Af8).push (Ah3 C s.heap.objs.size) }:=by
 have a:(s.heap.push Af8).get? s.heap.objs.size=y0 Af8:=Ac1 s.heap rfl
 have g:=by
  have:=Ac1 (s.heap.push Af8) (o:=Ah3 C s.heap.objs.size) rfl
  rwa [Ai2]at this
 have c:(s.heap.push Af8).Ns s.heap.objs.size (λ_=>u0):=⟨Af8, #[],_,a,rfl,(λe h=>absurd h (by simp)),λ_=>rfl⟩
 have d:=I.laid (o:= .own (s.heap.objs.size+1)) (t':=s.toks) (λb u q=>Aa8 _ q) (Aa6 _) ⟨_,a⟩
 refine d.laid (λb u q=>Aa8 _ q) (Ak9 (Ai2 _ _)) ?_
 have ne:s.heap.objs.size≠s.heap.objs.size+1:=Ac2 (Ae4 _)
 refine⟨by rw [xa ne,jb],Af9 _,ne,g,λ_=>u0,(Heap.Ns1.of_empty c).at λo q=>Aa8 _ q,λ_=>True.intro,λy f=>absurd rfl f⟩
def oH (a:attributeBase e f env (eval e env)=eval e env)
 (h:wpAny (model prog w) A (eval e env) (λo i=>wpAny (model prog w) A (getAttr o f k9) Q E i) E s):wpAny (model prog w) A (eval (.Attribute e f pos) env) Q E s:=
 Attribute_any_ h (by rw [arm_eval_Attribute,a])
end
def Ap (K:Aa4) (b:TE) (f:Str):TE:=λU H Q=>b U H λx H1=> ∃a C dx fs v,x= .ref a/\H1 a=y0 (.ins C dx fs)/\cX K C/\b7 K C f/\fs.lookup f=y0 v/\Q v H1
def E5 (K:Aa4) (c b:TE) (f:Str):TS:=λD U H=>b U H λy H1=>c U H1 λx H2=> ∃a C dx fs,x= .ref a/\H2 a=y0 (.ins C dx fs)/\cX K C/\b7 K C f/\fs.length<1000 ∧
 D.nx U (aI H2 a (.ins C dx (ba f y fs)))
section
variable {X:Cx}{o e value:Expr}{f:Str}{pos pos' tpos:Pos}{ta tv:TE}
def ud (m:PE X e ta) (j:attributeBase e f X.env (eval e X.env)=eval e X.env):PE X (.Attribute e f pos) (Ap X.K ta f):=by
 intro b s U H Q I h
 refine oH j (aG (m b s U H _ I h) ?_)
 rintro u y ⟨x,k,g,o,a,C,t,fs,v,ex,p,c,n,l,q⟩
 subst ex
 obtain rfl:u=Value.ref a:=o
 exact j9 g p c n l λr w d i=>⟨v,k,d,i,q⟩
def vY (e:PE X o ta) (i:PE X value tv) (j:swapsWith value (y0 (.Attribute o f pos')) pos.line X.env=pure y9):PS X (.Assign [.Attribute o f pos'] value pos) (E5 X.K ta tv f):=by
 intro b s U H D I h
 refine plainObj_wpAny_Assign_Attribute (aG (i b s U H _ I h) λu v ⟨y,p,g,t,q⟩=>aG (e b v U p _ g q) λr E ⟨x,B,d,w,a,C,A,fs,ex,z,c,n,l,m⟩=> ?_) j
 subst ex
 obtain rfl:r=Value.ref a:=w
 exact J7 d z c n l t λF k=>⟨U,_,k,m⟩
end
section
variable {X:Cx}{y8:List (Addr×Obj)}{U:St}{H:Hp}{s:Shared}{A:Around}{E:Value->Shared->Prop}{Q:Value->Shared->Prop}{c:Value}{b:Bool}
inductive ey (K:Aa4) (H:Hp):V->Value->Prop where
 | aj:ey K H .aj (.type "NoneType")
 | bl (x:Bool):ey K H (.bl x) (.type "bool")
 | int (i:Int):ey K H (.int i) (.type "int")
 | str (x:Str):ey K H (.str x) (.type "str")
 | gY (x:UInt64):ey K H (.gY x) (.type "float")
 | lst {a:Addr}{xs:List V}(e:H a=y0 (.lst xs)):ey K H (.ref a) (.type "list")
 | dU {a:Addr}{o:Obj}{xs:List V}(e:H a=y0 (.dU o (.lst xs))):ey K H (.ref a) (.type "list")
 | tup {a:Addr}{xs:List V}(e:H a=y0 (.tup xs)):ey K H (.ref a) (.type "tuple")
 | dK {a:Addr}{kvs:List (d8×V)}(e:H a=y0 (.dK kvs)):ey K H (.ref a) (.type "dict")
 | dT {a:Addr}{kvs:List (List d8×V)}(e:H a=y0 (.dT kvs)):ey K H (.ref a) (.type "dict")
 | ins {a C dx:Addr}{fs:List (Str×V)}(e:H a=some (.ins C dx fs)) (cl:cX K C) (ha:PySem.W.findIn K (.ref C) "__class__" =some (some (.builtin "object.__class__")))
  (hn:PySem.W.specialIn K (.builtin "object.__class__") "__get__" =some (some (.builtin "getset_descriptor.__get__"))) (htk:PySem.W.takesIn K (.builtin "object.__class__")=some true)
  (hm:PySem.W.mroIn K C (.type "object")=some true):ey K H (.ref a) (.ref C)
def wk (I:Inv X y8 U H s) (d:RelV x u) (ty:ey X.K H x t) (e:Ak5 X.K t c=y0 b) (h: ∀tk,Q (.bool b) { s with toks:=tk }):
 wpAny (model X.prog X.w) A (call (.builtin "isinstance") [u,c]) Q E s:=by
 cases ty with
 | aj=>cases (show u=Value.none from d);exact Ad4 PySem.W.kitx_none I.bO True.intro e (λz=>nomatch z) h
 | bl y=>cases (show u=Value.bool y from d);exact Ad4 PySem.W.kitx_bool I.bO True.intro e (λz=>nomatch z) h
 | int i=>obtain⟨t,q⟩:=(show ∃t,u=Value.int i t from d);cases q;exact Ad4 PySem.W.kitx_int I.bO True.intro e (λz=>nomatch z) h
 | str y=>obtain⟨t,q⟩:=(show ∃t,u=Value.str y t from d);cases q;exact Ad4 PySem.W.kitx_str I.bO True.intro e (λz=>nomatch z) h
 | gY y=>obtain⟨t,q⟩:=(show ∃t,u=Value.float y t from d);cases q;exact Ad4 PySem.W.kitx_float I.bO True.intro e (λz=>nomatch z) h
 | @lst a k f=>
  cases (show u=Value.ref a from d)
  obtain⟨_,_,n,_,g⟩:=(show aP X.prog X.w H s.heap a (.lst k)from I.aN a _ f)
  exact Ad4 Al2 I.bO ⟨_,g,rfl⟩ e (λz=>nomatch z) h
 | @dU a D k f=>
  cases (show u=Value.ref a from d)
  obtain⟨_,_,_,n,_,g⟩:=(show aP X.prog X.w H s.heap a (.dU D (.lst k))from I.aN a _ f)
  exact Ad4 Al2 I.bO ⟨_,g,rfl⟩ e (λz=>nomatch z) h
 | @tup a k f=>
  cases (show u=Value.ref a from d)
  obtain⟨_,_,_,p⟩:=(show aP X.prog X.w H s.heap a (.tup k)from I.aN a _ f)
  obtain⟨o,g,l,_⟩:=p
  exact Ad4 PySem.W.kitx_tuple I.bO ⟨o,g,l⟩ e (λz=>nomatch z) h
 | @dK a j f=>
  cases (show u=Value.ref a from d)
  obtain⟨_,_,M,_,p⟩:=(show aP X.prog X.w H s.heap a (.dK j)from I.aN a _ f)
  obtain⟨o,F,G,g,l,_⟩:=p
  exact Ad4 PySem.W.kitx_dict I.bO ⟨o,g,l.1⟩ e (λz=>nomatch z) h
 | @dT a j f=>
  cases (show u=Value.ref a from d)
  obtain⟨_,_,k,_,o,F,G,g,l,_⟩:=(show aP X.prog X.w H s.heap a (.dT j)from I.aN a _ f)
  exact Ad4 PySem.W.kitx_dict I.bO ⟨o,g,l.1⟩ e (λz=>nomatch z) h
 | @ins a C K fs f r w v m B=>
  cases (show u=Value.ref a from d)
  obtain⟨L,O,_⟩:=ZI I.aN f
  obtain⟨N,J,_⟩:=O.look
  exact Ad4 (PySem.W.kitx_own (r.get _) r.hd w v m B) I.bO J e (λz=>nomatch z) h
end
structure aW (k:Nat) (A:Around):Prop where
 hd:A.handled=u0
 dp:A.depth+k+5<recursionLimit
 un:A.units+16*k+200<cLine
def aW.mono (r:aW k A) (h:j<=k):aW j A:=⟨r.hd,by have:=r.dp;omega,by have:=r.un;omega⟩
theorem aW.deeper (r:aW (k+1) A) (env):aW k (A.deeper env):=
 ⟨r.hd,by have:=r.dp;show A.depth+1+k+5<_;omega,by have:=r.un;show A.units+3+16*k+200<_;omega⟩
def q9 {A:Around}:(A.under (.builtin "type.__call__" ⟨.ref C::us,kw⟩)).depth=A.depth+1:=by
 first | rfl | simp [guardIds]
def z9 {A:Around}:(A.under (.builtin "type.__call__" ⟨.ref C::us,kw⟩)).units=A.units+1:=by
 first | rfl | simp [Code.isFrame]
def aW.make (r:aW (k+1) A) (C) (us) (kw):aW k (A.under (.builtin "type.__call__" ⟨.ref C::us,kw⟩)):=
 ⟨r.hd,by have:=r.dp;rw [q9];omega,by have:=r.un;rw [z9];omega⟩
theorem aW.depth (r:aW k A):A.depth<recursionLimit:=by have:=r.dp;omega
def nz:TA:=λ_ H Q=>Q [] H
def DM (a:TE) (b:TA):TA:=λU H Q=>a U H λx H1=>b U H1 λxs H2=>Q (x::xs) H2
section
variable {X:Cx}{e:Expr}{es:List Expr}{te:TE}{t:TA}{pos:Pos}
def Zk:PA X [] nz:=λ_ _ _ _ H Q I h=>Calls.spliced_nil ⟨[],H,I,.nil,h⟩
def Jc (f:PE X e te) (j:PA X es t) (k:starEach (e::es) X.env=(y9,eval e X.env)::starEach es X.env:=by rfl):PA X (e::es) (DM te t):=by
 intro b a s U H Q I h
 rw [k]
 refine Calls.spliced_cons (aG (f a s U H _ I h) ?_)
 rintro u q ⟨x,o,i,d,g⟩
 exact aG (j b a q U o _ i g) λr v ⟨l,n,c,p,m⟩=>⟨x::l,n,c,.cons d p,m⟩
def uT (t:TA):TE:=λU H Q=>t U H λxs H1=>xs.length<=sizeLine/\ ∀p,H1 p=u0->Q (.ref p) (aI H1 p (.tup xs))
def yB (t:TA):TE:=λU H Q=>t U H λxs H1=>xs.length<=sizeLine/\ ∀p,H1 p=u0->Q (.ref p) (aI H1 p (.lst xs))
def rS {x1}(h:PA X es t):PE X (.Tuple es x1 pos) (uT t):=by
 intro a s U H Q I g
 refine wpAny_Tuple_spliced (aG (h pos a s U H _ I g) λi d ⟨j,k,c,r,z,q⟩=>⟨by rw [← r.length];exact z,?_⟩)
 have f:=c.aN.fresh (Aa6 _)
 refine⟨.ref d.heap.objs.size,aI k d.heap.objs.size (.tup j),c.laid (λb u e=>Aa8 _ e) (Aa6 _) ?_,rfl,q _ f⟩
 exact⟨z,i,r,⟨_,Ac1 _ rfl,rfl,rfl,_,rfl⟩⟩
def Ci (h:PA X es t):PE X (.List es pos) (yB t):=by
 intro a s U H Q I g
 refine wpAny_List_spliced (aG (h pos a s U H _ I g) λi d ⟨j,k,c,r,z,q⟩=>⟨by rw [← r.length];exact z,?_⟩)
 have f:=c.aN.fresh (Aa6 _)
 refine⟨.ref d.heap.objs.size,aI k d.heap.objs.size (.lst j),c.laid (λb u e=>Aa8 _ e) (Aa6 _) ?_,rfl,q _ f⟩
 exact⟨z,i,0,r,Ac1 _ rfl⟩
end
abbrev Sp:=List V->Hp->VK->XK->Prop
abbrev fR:=List Env->Hp->Shared->XK->Value->Shared->Prop
structure d5 (P:Program) (w:World) (K:Aa4) (mg:Str->Option Value) (base:Heap) (A:Around) (outer:List Env) (s:Shared) (H:Hp):Prop where
 frames:A.frames=y0 outer
 mod:Mod K mg base
 bs: ∀b o,base.get? b=y0 o->s.heap.get? b=y0 o/\H b=u0
 gm:base.objs.size<=s.heap.objs.size
 cT:s.heap.FunFrames base outer
 h9: ∀b∈bZ outer,H b=u0
 aN:cM P w H s.heap
 bare:AllBare s.gens
def CE (a:List Env) (P:Program) (w:World) (H:Hp) (s:Shared) (Q:VK) (u:Value) (s':Shared):Prop:=
 ∃v H',s'.os=s.os/\AllBare s'.gens/\Un (bZ a) [] H H' s.heap s'.heap/\cM P w H' s'.heap/\RelV v u/\Q v H'
def CR (b:fR) (a:List Env) (P:Program) (w:World) (H:Hp) (s:Shared) (Q:VK) (E:XK) (r:Result) (s':Shared):Prop:=
 match r with
 | .ok (.ret u)=>CE a P w H s Q u s'
 | .ok _=>False
 | .error e=>b a H s E e s'
structure bc (P:Program) (w:World) (K:Aa4) (mg:Str->Option Value) (base:Heap) (CX:fR) (k:Nat) (f:Addr) (fd:FuncData) (ps:List Str) (sp:Sp):Prop where
 len: ∀vs H Q E,sp vs H Q E->vs.length=ps.length
 run: ∀(A:Around) (outer:List Env) (s:Shared) (H:Hp) (args:Args) (us:List Value) (vs:List V) (Q:VK) (E:XK),aW k A->d5 P w K mg base A outer s H->BindsTo s fd args (ps.zip us)->Vals vs us->sp vs H Q E →
  codeAny (model P w) A (.call (.ref f) args) (CR CX outer P w H s Q E) s
def d5.make {K:Aa4}(e:d5 P w K mg base A outer s H) (C) (us) (kw):
 d5 P w K mg base (A.under (.builtin "type.__call__" ⟨.ref C::us,kw⟩)) outer s H:=⟨by first | exact e.frames | (simpa [pushEnvs]using e.frames),e.mod,e.bs,e.gm,e.cT,e.h9,e.aN,e.bare⟩
section
variable {X:Cx}{y8:List (Addr×Obj)}{U:St}{H:Hp}{s s':Shared}
def Inv.gw (I:Inv X y8 U H s):d5 X.prog X.w X.K X.mg X.base X.A X.stack s H:=
 ⟨I.ok.frames,I.ok.mod,I.bs,Ab8 I.ok.gm I.sz,I.stack,I.cx,I.aN,I.bare⟩
def Inv.after (I:Inv X y8 U H s) (h:CE X.stack X.prog X.w H s Q u s'):EP X y8 U Q u s':=by
 obtain⟨v,f,i,a,un,c,r,q⟩:=h
 obtain⟨j,g,d,t,e⟩:=s'
 obtain rfl:e=s.os:=i
 exact⟨v,f,I.call un c a (λb z=>absurd z (by simp)),r,q⟩
end
def oD (b:Sp) (a:List V) (E:XK) (t:TA):TE:=λU H Q=>t U H λc H1=>b (c++a) H1 Q E
def pM (C:Addr) (m:Str) (c:Sp) (b:List V) (E:XK) (d:TE) (t:TA):TE:=λU H Q=>d U H λx H1=> ∃a dx fs,x= .ref a/\H1 a=y0 (.ins C dx fs)/\fs.lookup m=u0 ∧
 t U H1 λe H2=>c (x::(e++b)) H2 Q E
def DN (C:Addr) (b:Sp) (a:List V) (E:XK) (t:TA):TE:=λU H Q=>t U H λc H1=> ∀x dx,H1 x=u0->H1 dx=u0->dx≠x →
 b (.ref x::(c++a)) (aI (aI H1 dx (.own x)) x (.ins C dx [])) (λv H2=>v= .aj/\Q (.ref x) H2) E
def Binds (K:Aa4) (c:FuncData) (b:List Str) (ds:List Value):Prop:=
 ∀(s:Shared) (a:List Value),K.In s.heap->(a++ds).length=b.length->BindsTo s c ⟨a,[]⟩ (b.zip (a++ds))
def Binds.all {K:Aa4}(h: ∀us:List Value,us.length=ps.length->bindArgs fd ⟨us,[]⟩=pure (ps.zip us)):Binds K fd ps []:=λs us _ a=>by
 rw [Ad0]at a ⊢
 exact .of_eq (h us a)
def Ws (a:fR) (X:Cx) (E:XK):Prop:= ∀(y8:List (Addr×Obj)) (U:St) (H:Hp) (s:Shared) (e:Value) (s':Shared),Inv X y8 U H s->a X.stack H s E e s'->X.xe e s'
section
variable {X:Cx}{CX:fR}{k:Nat}{f C:Addr}{fd:FuncData}{ps:List Str}{sp:Sp}{dvs:List V}{ds:List Value}{E:XK}{x m:Str}{p pos apos:Pos}{e o:Expr}{es:List Expr}{ta:TE}{t:TA}
def xX (F:bc X.prog X.w X.K X.mg X.base CX k f fd ps sp) (m:aW k X.A) (l:Binds X.K fd ps ds) (c:Vals dvs ds) (j:Ws CX X E)
 (I:Inv X y8 U H s) (r:Vals vs us) (h:sp (vs++dvs) H Q E):wpAny (model X.prog X.w) X.A (call (.ref f) us) (EP X y8 U Q) X.xe s:=by
 have b:=r.append c
 have i:(us++ds).length=ps.length:=by rw [← b.length];exact F.len _ _ _ _ h
 refine wpAny_call (codeAny_mono (F.run X.A X.stack s H ⟨us,[]⟩ (us++ds) (vs++dvs) Q E m I.gw (l s us I.bO i) b h) λr g a=> ?_)
 cases r with
 | error e=>exact j y8 U H s e g I a
 | ok d=>
  cases d with
  | ret u=>exact I.after a
  | next=>exact False.elim a
  | brk=>exact False.elim a
  | cont=>exact False.elim a
def Cy (F:bc X.prog X.w X.K X.mg X.base CX k f fd ps sp) (m:aW k X.A) (u:Gl X x) (j:X.mg x=y0 (.ref f)) (v:Af5 X.K (.ref f)=k9) (l:Binds X.K fd ps ds) (i:Vals dvs ds) (n:Ws CX X E)
 (g:PA X (e::es) t) (c:(x==("__debug__" :Str))=false:=by decide) (o:starEach (e::es) X.env=(false,eval e X.env)::starEach es X.env:=by rfl) (b:(backTo pos (starEach es X.env)).any (·.1)=false:=by rfl):
 PE X (.Call (.Name x p) (e::es) [] pos) (oD sp dvs E t):=by
 intro a s U H Q I h
 refine wpAny_Call_Name_kw (Qr I u j ?_ c)
 refine Al I.ok.mod.gX v (aG (g pos a s U H _ I h) λw A ⟨y,z,d,r,q⟩=>⟨d.bO,?_⟩) o b
 exact xX F m l i n d r q
def AB (F:bc X.prog X.w X.K X.mg X.base CX k f fd ps sp) (l:aW k X.A) (d:Gl X x) (i:X.mg x=y0 (.ref f)) (e:Af5 X.K (.ref f)=k9) (j:Binds X.K fd ps ds) (c:Vals dvs ds) (g:Ws CX X E)
 (a:(x==("__debug__" :Str))=false:=by decide):PE X (.Call (.Name x p) [] [] pos) (oD sp dvs E nz):=by
 intro b s U H Q I h
 refine wpAny_Call_Name_kw (Qr I d i ?_ a)
 exact PySem.W.callWith_K0 I.bO e (xX F l j c g I .nil h)
def vU (K:PE X o ta) (c:cX X.K C) (n:iR X.K C m f) (F:bc X.prog X.w X.K X.mg X.base CX k f fd ps sp) (z:aW k X.A) (y:Binds X.K fd ps ds) (w:Vals dvs ds) (G:Ws CX X E) (v:PA X (e::es) t)
 (g:starEach (e::es) X.env=(y9,eval e X.env)::starEach es X.env:=by rfl) (d:(backTo pos (starEach es X.env)).any (·.1)=false:=by rfl)
 (B:eval (.Call (.Attribute o m apos) (e::es) [] pos) X.env=(do
   let J ←eval o X.env
   standAt apos.atName
   let (f,first) ←holding [J] (getMethod J m pl)
   callWith pos f first (backTo pos (starEach (e::es) X.env)) (backToKw pos (keywordEach [] X.env))):=by rfl):
 PE X (.Call (.Attribute o m apos) (e::es) [] pos) (pM C m sp dvs E ta t):=by
 intro b s U H Q I h
 refine PySem.W.methodCall_KW (aG (K b s U H _ I h) λu L ⟨x,D,j,M,a,O,fs,ex,N,l,q⟩=> ?_) B
 subst ex
 obtain rfl:u=Value.ref a:=M
 refine wF j N c n l ?_
 refine Al I.ok.mod.gX n.kp (aG (v pos b L U D _ j q) λP S ⟨p,R,i,r,A⟩=>⟨i.bO,?_⟩) g d
 exact xX (vs:= .ref a::p) F z y w G i (.cons rfl r) A
def ye (t:PE X o ta) (c:cX X.K C) (e:iR X.K C m f) (F:bc X.prog X.w X.K X.mg X.base CX k f fd ps sp) (n:aW k X.A) (j:Binds X.K fd ps ds) (g:Vals dvs ds) (r:Ws CX X E)
 (p:eval (.Call (.Attribute o m apos) [] [] pos) X.env=(do
   let i ←eval o X.env
   standAt apos.atName
   let (f,first) ←holding [i] (getMethod i m pl)
   callWith pos f first (backTo pos (starEach [] X.env)) (backToKw pos (keywordEach [] X.env))):=by rfl):
 PE X (.Call (.Attribute o m apos) [] [] pos) (pM C m sp dvs E ta nz):=by
 intro b s U H Q I h
 refine PySem.W.methodCall_KW (aG (t b s U H _ I h) λu A ⟨x,z,d,v,a,y,fs,ex,w,l,q⟩=> ?_) p
 subst ex
 obtain rfl:u=Value.ref a:=v
 refine wF d w c e l ?_
 exact PySem.W.callWith_K0 d.bO e.kp (xX (vs:= [.ref a]) F n j g r d (.cons rfl .nil) q)
structure Mk (K:Aa4) (C f:Addr):Prop where
 makes:PySem.W.makesIn K C=k9
 init:PySem.W.findIn K (.ref C) "__init__" =some (some (.ref f))
 fn:PySem.W.isFn K (.ref f)=k9
 kp:Af5 K (.ref C)=k9
def CK (M:Mk X.K C f) (F:bc X.prog X.w X.K X.mg X.base CX k f fd ps sp) (o:aW (k+1) X.A) (n:Binds X.K fd ps ds) (l:Vals dvs ds)
 (q:Ws CX X E) (I:Inv X y8 U H s) (r:Vals vs us)
 (h: ∀x dx,H x=u0->H dx=u0->dx≠x->sp (.ref x::(vs++dvs)) (aI (aI H dx (.own x)) x (.ins C dx [])) (λv H2=>v= .aj/\Q (.ref x) H2) E):
 wpAny (model X.prog X.w) X.A (call (.ref C) us) (EP X y8 U Q) X.xe s:=by
 have c:=h (s.heap.objs.size+1) s.heap.objs.size (I.aN.fresh (Af3 _)) (I.aN.fresh (Aa6 _)) (Ac2 (Ae4 _))
 have b:=Inv.made (C:=C) I
 have d:Vals (V.ref (s.heap.objs.size+1)::(vs++dvs)) (Value.ref (s.heap.objs.size+1)::(us++ds)):= .cons rfl (r.append l)
 have i:=by
  have e:=d.length
  rw [F.len _ _ _ _ c]at e
  exact e.symm
 refine wpAny_call (EC I.bO M.makes M.init (beq_iff_eq.mp M.fn) (codeAny_mono (F.run _ X.stack _ _ ⟨Value.ref (s.heap.objs.size+1)::us,[]⟩ (Value.ref (s.heap.objs.size+1)::(us++ds)) _ _ E (o.make C us [])
  (b.gw.make C us []) (n _ (Value.ref (s.heap.objs.size+1)::us) b.bO i) d c) λr m a=> ?_))
 cases r with
 | error e=>exact q y8 U _ _ e m b a
 | ok g=>
  cases g with
  | ret u=>
   obtain⟨v,t,p,rv,j,w⟩:=b.after a
   subst j
   exact⟨rv,⟨V.ref (s.heap.objs.size+1),t,p,rfl,w⟩⟩
  | next=>exact False.elim a
  | brk=>exact False.elim a
  | cont=>exact False.elim a
def ya (M:Mk X.K C f) (F:bc X.prog X.w X.K X.mg X.base CX k f fd ps sp) (m:aW (k+1) X.A) (u:Gl X x) (j:X.mg x=y0 (.ref C)) (l:Binds X.K fd ps ds) (i:Vals dvs ds) (n:Ws CX X E)
 (g:PA X (e::es) t) (c:(x==("__debug__" :Str))=false:=by decide) (o:starEach (e::es) X.env=(false,eval e X.env)::starEach es X.env:=by rfl) (b:(backTo pos (starEach es X.env)).any (·.1)=false:=by rfl):
 PE X (.Call (.Name x p) (e::es) [] pos) (DN C sp dvs E t):=by
 intro a s U H Q I h
 refine wpAny_Call_Name_kw (Qr I u j ?_ c)
 refine Al I.ok.mod.gX M.kp (aG (g pos a s U H _ I h) λv z ⟨w,y,d,r,q⟩=>⟨d.bO,?_⟩) o b
 exact CK M F m l i n d r q
end
section
variable {X:Cx}{CX:fR}{k:Nat}{f C:Addr}{fd:FuncData}{ps ks:List Str}{sp:Sp}{E:XK}{x m:Str}{p pos apos kpos:Pos}{e o:Expr}{es:List Expr}{kws:List Keyword}{te ta:TE}{t tk:TA}{nm:Option Str}
structure He (K:Aa4) (fd:FuncData) (ps ks:List Str) (g:List Value->List Value->List Value) (gV:List V->List V->List V):Prop where
 to: ∀(s:Shared) (us ws:List Value),K.In s.heap->(g us ws).length=ps.length->BindsTo s fd ⟨us,ks.zip ws⟩ (ps.zip (g us ws))
 rel: ∀ {vs:List V}{us:List Value}{zs:List V}{ws:List Value},Vals vs us->Vals zs ws->Vals (gV vs zs) (g us ws)
variable {g:List Value->List Value->List Value}{gV:List V->List V->List V}
end
structure Ww (N P:List Str) (sc:Scope):Prop where
 kind:sc.kind= .function
 co:sc.isCoroutine=y9
 gen:sc.isGenerator=y9
 nd:N.Nodup
 pre:N.take P.length=P
 par: ∀x∈P,sc.names.lookup x=y0 .local\/sc.names.lookup x=y0 .cell
 hJ: ∀y∈sc.names,y.2≠ .free
theorem xR {a:Str->Option NameKind}: ∀ {i}{m},(∀ v,(x,v)∉i)->bindL a i m x=m x
 | [],_,_=>rfl
 | (n,v)::r,m,h=>by
  unfold bindL
  rw [xR λw b=>h w (Aa0 _ b)]
  split
  ·have:x≠n:=by rintro rfl;exact h v Aa
   simp [this]
  ·rfl
theorem zQ {a:Str->Option NameKind}: ∀ {i}{m},(∀ v,(x,v)∉i)->bindC a i m x=m x
 | [],_,_=>rfl
 | (n,v)::r,m,h=>by
  unfold bindC
  rw [zQ λw b=>h w (Aa0 _ b)]
  split
  ·rfl
  ·have:x≠n:=by rintro rfl;exact h v Aa
   simp [this]
theorem wP {a:Str->Option NameKind}: ∀ {P:List Str}{vs}{i:Nat}{m},P.Nodup->P[i]? =y0 x->vs[i]? =y0 v->a x=y0 .local →
 bindL a (P.zip vs) m x=y0 v
 | [],_,_,_,_,h,_,_=>by simp at h
 | _::_,[],_,_,_,_,h,_=>by simp at h
 | p::P,w::vs,0,m,d,c,b,e=>by
  simp at c b;subst c;subst b
  show bindL a ((p,w)::P.zip vs) m p=_
  unfold bindL
  rw [xR λv f=>(Ag.mp d).1 (List.of_mem_zip f).1,if_pos e]
  simp
 | p::P,w::vs,i+1,m,d,c,b,e=>by
  unfold bindL
  exact wP (Ag.mp d).2 (by simpa using c) (by simpa using b) e
theorem QN {a:Str->Option NameKind}: ∀ {P:List Str}{vs}{i:Nat}{m},P.Nodup->P[i]? =y0 x->vs[i]? =y0 v->a x≠y0 .local →
 bindC a (P.zip vs) m x=y0 v
 | [],_,_,_,_,h,_,_=>by simp at h
 | _::_,[],_,_,_,_,h,_=>by simp at h
 | p::P,w::vs,0,m,d,c,b,e=>by
  simp at c b;subst c;subst b
  show bindC a ((p,w)::P.zip vs) m p=_
  unfold bindC
  rw [zQ λv f=>(Ag.mp d).1 (List.of_mem_zip f).1,if_neg e]
  simp
 | p::P,w::vs,i+1,m,d,c,b,e=>by
  unfold bindC
  exact QN (Ag.mp d).2 (by simpa using c) (by simpa using b) e
def WB (N:List Str) (vs:List V):St:=vs.map y0++Aa1 (N.length-vs.length) u0
noncomputable def jM (CX:fR) (P:Program) (w:World) (K:Aa4) (mg:Str->Option Value) (base:Heap) (N:List Str) (y7:Str) (scope:Scope) (f:Addr) (cd:Value) (A:Around) (outer:List Env) (s:Shared) (H:Hp) (E:XK):Cx where
 prog:=P
 w:=w
 K:=K
 mg:=mg
 base:=base
 A:=A.deeper (envOfC y7 scope s.heap.objs.size f cd)
 N:=N
 s₀:=s
 H₀:=H
 env:=envOfC y7 scope s.heap.objs.size f cd
 outer:=outer
 stack:=envOfC y7 scope s.heap.objs.size f cd::outer
 ex:= []
 calm:=k9
 fn:=λ_=>k9
 pn:= []
 xe:=λe s'=>wpAny (model P w) (A.deeper (envOfC y7 scope s.heap.objs.size f cd)) (leaving (envOfC y7 scope s.heap.objs.size f cd) e) (λ_ s''=>CX outer H s E e s'') (λe' s''=>CX outer H s E e' s'') s'
def XZ {a:Scope}(h:a.names.lookup x=y0 .cell): ∃c,(cellsFrom n a.names []).lookup x=y0 c:=by
 have q:=Aj9 a.names n [] (.inl h)
 exact Ae8.mp q
def Bf {K:Aa4}
 (S:Ww N ps scope) (hd:A.handled=u0) (e0:d5 P w K mg base A outer s H) (hl:vs.length=ps.length) (r:Vals vs us)
 (x:InCallC s s.heap.objs.size (bindL (envOfC y7 scope s.heap.objs.size f cd).kindOf (ps.zip us) λ_=>u0) (cellsFrom (s.heap.objs.size+1) scope.names []) (bindC (envOfC y7 scope s.heap.objs.size f cd).kindOf (ps.zip us) λ_=>u0) s1):
 Inv (jM CX P w K mg base N y7 scope f cd A outer s H E) [] (WB N vs) H s1:=by
 have hpl:ps.length<=N.length:=by have:=congrArg List.length S.pre;rw [Ae9]at this;omega
 obtain⟨h1,tk,rfl,hk⟩:=x.done
 have noA: ∀b:Addr,b∉(jM CX P w K mg base N y7 scope f cd A outer s H E).ex:=λb z=>absurd (show b∈([]:List Addr)from z) (by simp)
 refine⟨⟨e0.mod,S.kind,rfl,rfl,Aa6 _,λy z c h1 h2=> ?_,λy hy=> ?_,λy c _ h=> ?_,λ_=>hd,Around.frames_deeper e0.frames,.inr ⟨rfl,rfl⟩,λb z=>absurd z (noA b),e0.bs,e0.gm,λb _ _=>noA b,λb z=>absurd z (noA b),e0.cT,e0.h9⟩,
  rfl,e0.bare,Un.kept hk,⟨_,x.toInCall.ns,λi y v h1 h2 h3=> ?_⟩,λy c h=>⟨_,x.cell y c h⟩,e0.aN.fresh (Aa6 _),λy c h=> ?_,λp hp=>absurd (show p∈([]:List (Addr×Obj))from hp) (by simp),e0.aN.kept hk,?_⟩
 ·exact name_of_addr x.apart (PySem.mem_of_lookup h1) (PySem.mem_of_lookup h2)
 ·have hy:=hy
  rcases hy with hy | hy
  ·exact XZ hy
  ·exact absurd rfl (S.hJ _ (PySem.mem_of_lookup hy))
 ·exact Ag1 (x.above y c (PySem.mem_of_lookup h))
 ·have hi:i<vs.length:=by
   unfold WB at h2
   by_cases hi:i<vs.length
   ·exact hi
   ·rw [Ad8 (by simpa using hi)]at h2
    rw [Ak]at h2
    split at h2<;>cases h2
  have ha:vs[i]? =y0 v:=by
   unfold WB at h2
   rw [Ad2 (by simpa using hi),Ad1]at h2
   cases e:vs[i]? with
   | none=>rw [e]at h2;cases h2
   | some a=>rw [e]at h2;cases h2;rfl
  obtain⟨u,hu,rv⟩:=r.get ha
  have hp:ps[i]? =y0 y:=by
   rw [← S.pre,List.getElem?_take_of_lt (by omega)];exact h1
  have ndP:ps.Nodup:=by rw [← S.pre];exact S.nd.sublist (List.take_sublist _ _)
  refine⟨u,rv,?_⟩
  rcases S.par y (Ai6 hp)with k | k
  ·exact .inl ⟨k,wP ndP hp hu k⟩
  ·obtain⟨c,e⟩:=XZ k
   refine .inr ⟨.inl k,c,e,?_⟩
   have q:=x.cell y c e
   rw [QN ndP hp hu (by show scope.names.lookup y≠_;rw [k];decide)]at q
   exact q
 ·exact e0.aN.fresh (Ag1 (x.above y c (PySem.mem_of_lookup h)))
 ·unfold WB
  show _=N.length
  rw [Aa3,Ac,Ad5]
  omega
def uL {K:Aa4}{dV kV doc pm cdv ct oc:Value}
 (lk:K.lookup f=y0 ⟨oc,od,.func (PySem.W.fnOf name y7 params body scope dV kV doc pm an cdv ct),osl⟩) (hcd:PySem.W.codeIn K cdv y7=k9) (S:Ww N ps scope)
 (len: ∀vs H Q E,sp vs H Q E->vs.length=ps.length)
 (hbody: ∀ A outer s H vs Q E,aW k (A.deeper (envOfC y7 scope s.heap.objs.size f cdv))->sp vs H Q E →
   ∃t,cN (jM CX P w K mg base N y7 scope f cdv A outer s H E) body t/\t { nx:=λ_ H'=>Q .aj H',rt:=Q } (WB N vs) H):
 bc P w K mg base CX (k+1) f (PySem.W.fnOf name y7 params body scope dV kV doc pm an cdv ct) ps sp:=by
 refine⟨len,λA outer s H args us vs Q E hr e0 hb r hsp=> ?_⟩
 have hl:=len _ _ _ _ hsp
 have KX:=e0.mod.gX.keeps λb o e=>(e0.bs b o e).1
 have lim:=e0.mod.nolimit.keeps λb o e=>(e0.bs b o e).1
 have hkind: ∀y∈ps.zip us,scope.names.lookup y.1=y0 .local\/(scope.names.lookup y.1=y0 .cell/\((cellsFrom (s.heap.objs.size+1) scope.names []).lookup y.1).isSome=k9):=by
  rintro ⟨n,v⟩ hy
  rcases S.par n (List.of_mem_zip hy).1 with q | q
  ·exact .inl q
  ·exact .inr ⟨q,Aj9 _ _ _ (.inl q)⟩
 refine codeAny_call_function hr.depth (KX _ _ lk) rfl S.co S.gen rfl (PySem.W.codeRec_of KX hcd) (hb _ _ _ _ ?_)
 refine wpAny_newFunctionEnv_cells S.kind hkind λenv he s1 x=> ?_
 subst he
 refine⟨lim.keeps x.toInCall.keep,codeAny_func ?_⟩
 obtain⟨t,ht,hq⟩:=hbody A outer s H vs Q E (hr.deeper _) hsp
 have I:Inv (jM CX P w K mg base N y7 scope f cdv A outer s H E) [] (WB N vs) H s1:=Bf S hr.hd e0 hl r x
 refine wpAny_mono (ht [] s1 (WB N vs) H _ I hq) (λfl s' hs=> ?_) λe s' hs=>hs
 have fin: ∀ {U'}{H'}{v}{u},Inv (jM CX P w K mg base N y7 scope f cdv A outer s H E) [] U' H' s'->RelV v u->Q v H'->CE outer P w H s Q u s':=
  λ{U' H' v u} J rv q=>⟨v,H',J.os,J.bare,J.base,J.aN,rv,q⟩
 cases fl with
 | ret u=>
  obtain⟨v,U',H',J,rv,q⟩:=hs
  exact fin J rv q
 | next=>
  obtain⟨U',H',J,q⟩:=hs
  exact fin (v:=V.aj) J rfl q
 | brk=>
  obtain⟨_,_,_,q⟩:=hs
  exact False.elim q
 | cont=>
  obtain⟨_,_,_,q⟩:=hs
  exact False.elim q
section
variable {X:Cx}{x:Str}{p pos:Pos}{e:Expr}{es:List Expr}{t:TA}{id T:String}{r:List V->Hp->VK->Prop}
def nA (r:List V->Hp->VK->Prop) (t:TA):TE:=λU H Q=>t U H λa H1=>r a H1 Q
def xj (k:xo X (.builtin id) r) (w:Gl X x) (m:X.mg x=none) (n:bootBuiltins x=some (.builtin id)) (g:PA X (e::es) t) (d:x≠ "__name__" :=by decide) (c:(x==("__debug__" :Str))=false:=by decide)
 (u:starEach (e::es) X.env=(y9,eval e X.env)::starEach es X.env:=by rfl) (b:(backTo pos (starEach es X.env)).any (·.1)=false:=by rfl):PE X (.Call (.Name x p) (e::es) [] pos) (nA r t):=by
 intro a s U H Q I h
 refine wpAny_Call_Name_kw (XC I w m n ?_ d c)
 exact PyProof.Rows.callWith_builtin1 (aG (g pos a s U H _ I h) λl v ⟨o,q,j,f,i⟩=>k a v U q o l Q j f i) u b
def Zu (k:xo X (.type T) r) (w:Gl X x) (m:X.mg x=none) (n:bootBuiltins x=some (.type T)) (g:PA X (e::es) t) (d:x≠ "__name__" :=by decide) (c:(x==("__debug__" :Str))=false:=by decide)
 (u:starEach (e::es) X.env=(y9,eval e X.env)::starEach es X.env:=by rfl) (b:(backTo pos (starEach es X.env)).any (·.1)=false:=by rfl):PE X (.Call (.Name x p) (e::es) [] pos) (nA r t):=by
 intro a s U H Q I h
 refine wpAny_Call_Name_kw (XC I w m n ?_ d c)
 exact PyProof.Rows.callWith_type1 (aG (g pos a s U H _ I h) λl v ⟨o,q,j,f,i⟩=>k a v U q o l Q j f i) u b
end
end L2
namespace HT
open PySem PyProof.Rows
section
variable {prog:Program}{w:World}{A:Around}{E:Value->Shared->Prop}{s:Shared}
def gj (x:IsTup s.heap t vs.toArray) (v:IsTup s.heap b ws.toArray) (p:vs≠ [])
 (h1:ws= []->Q (.ref t) s) (h2:ws≠ []->Q (.ref s.heap.objs.size) { s with heap:=s.heap.push { cls:= .type "tuple",data:= .seq (vs++ws).toArray } })
 (h:vs.length+ws.length<=sizeLine):wpAny (model prog w) A (binaryOp .Add (.ref t) (.ref b)) Q E s:=by
 obtain⟨⟨q,dd,i,sl⟩,g,u,n,r⟩:=id x
 obtain⟨⟨o,c,j,d⟩,a,k,m,l⟩:=id v
 subst u r k l
 have e:vs.toArray++ws.toArray=(vs++ws).toArray:=by simp
 by_cases f:ws= []
 ·exact concat_meets ⟨_,g,rfl⟩ ⟨_,a,rfl⟩ noFill_tuple_add seq_tuple_add PySem.F.slot_tuple_add PySem.F.entry_tuple_add (PySem.F.args_tuple_add_2 _ _)
   (tuple_addW1 t b vs.toArray ws.toArray n m dd c sl d (by simpa using p) (by simp [f])) ⟨g,a,h1 f⟩
 ·refine concat_meets ⟨_,g,rfl⟩ ⟨_,a,rfl⟩ noFill_tuple_add seq_tuple_add PySem.F.slot_tuple_add PySem.F.entry_tuple_add (PySem.F.args_tuple_add_2 _ _)
   (tuple_addW2 t b vs.toArray ws.toArray n m dd c sl d (by simpa using p) (by simpa using f) (by rw [Ab2,Ab2];exact h)) ⟨g,a,?_⟩
  rw [e]
  exact h2 f
def aK (n d:Nat):Option Int->Nat
 | none=>d
 | some v=>if v<0 then(v+(n:Int)).toNat else min v.toNat n
def AN (n d) (b:d<=n) (o):aK n d o<=n:=by
 cases o with
 | none=>exact b
 | some v=>
  show(if v<0 then(v+ n).toNat else min v.toNat n)<=n
  by_cases a:v<0
  ·rw [if_pos a];omega
  ·rw [if_neg a];exact Nat.min_le_right _ _
def ot (v) (n d:Nat):(if v<0 then max (v+(n:Int)) 0 else min v (n:Int))=((aK n d (y0 v):Nat):Int):=by
 show(if v<0 then max (v+ n) 0 else min v n)=(((if v<0 then(v+(n:Int)).toNat else min v.toNat n):Nat))
 by_cases a:v<0
 ·simp only [if_pos a];omega
 ·simp only [if_neg a];omega
def Q5 (b a) (n:Nat):Builtin.Slice.sliceAdjust b a 1 (n:Int)=(((aK n 0 b:Nat):Int),((aK n n a:Nat):Int)):=by
 have c: ¬(1<0):=by omega
 refine Prod.ext ?_ ?_
 ·cases b with
  | none=>rfl
  | some v=>exact ot v n 0
 ·cases a with
  | none=>rfl
  | some v=>exact ot v n n
def w5 (i j:Nat):Builtin.Slice.slicePlaces (i:Int) (j:Int) 1=j-i:=by
 unfold Builtin.Slice.slicePlaces
 have a:(1:Int)>0:=by omega
 simp only [Int.ediv_one]
 split<;>omega
def WH (p:IsPart v o) (h:Q o s):wpAny (model prog w) A (Builtin.Slice.slicePartIndex v) Q E s:=by
 cases p with
 | none=>exact slicePart_none h
 | int i t=>exact slicePart_int h
def bR {a b:Option Int}{Q:Int×Int×Nat->Shared->Prop}(e:s.heap.IsSliceOf sl vl vu .none) (f:IsPart vl a) (g:IsPart vu b)
 (h:Q (((aK n 0 a:Nat):Int),1,aK n n b-aK n 0 a) s):wpAny (model prog w) A (Builtin.Slice.sliceApplied (.ref sl) (pure (n:Int))) Q E s:=by
 obtain⟨j,c,i,d⟩:=id e
 refine wpAny_bind (wpAny_bind (wpAny_field c d (x:=vl) rfl (wpAny_bind (wpAny_field c d (x:=vu) rfl (wpAny_bind (wpAny_field c d rfl (wpAny_pure ?_)))))))
 refine wpAny_bind (slicePart_none ?_)
 refine wpAny_bind (WH f (wpAny_bind (WH g (wpAny_bind (wpAny_pure ?_)))))
 show wpAny _ _ (match Builtin.Slice.sliceAdjust a b 1 (n:Int)with | (a,b)=>pure (a,(1:Int),Builtin.Slice.slicePlaces a b 1)) _ _ s
 rw [Q5 a b n]
 show wpAny _ _ (pure (((aK n 0 a:Nat):Int),1,Builtin.Slice.slicePlaces ((aK n 0 a:Nat)) ((aK n n b:Nat)) 1)) _ _ s
 rw [w5]
 exact wpAny_pure h
def yZ (xs:Array Value) (i k:Nat):((Ab7 k).filterMap λ(m:Nat)=>xs[((i:Int)+(m:Int)*1).toNat]?).toArray=((xs.toList.drop i).take k).toArray:=by
 have e:(λ(m:Nat)=>xs[(i+(m:Int)*1).toNat]?)=λm=>xs[i+m]? :=by
  funext m
  have:(i+(m:Int)*1).toNat=i+m:=by omega
  rw [this]
 rw [e]
 have:=pick_run xs i k
 rw [List.filterMap_map]at this
 have a:((λx=>xs[x]?)∘λx=>i+x)=λm=>xs[i+m]? :=rfl
 rw [a]at this
 rw [this]
def cq {b c:Option Int}(d:IsTup s.heap t k7) (j:s.heap.IsSliceOf sl vl vu .none) (n:IsPart vl b) (l:IsPart vu c)
 (p: ¬(aK k7.size 0 b=0/\aK k7.size k7.size c=k7.size))
 (h:Q (.ref s.heap.objs.size) { s with heap:=s.heap.push { cls:= .type "tuple",data:= .seq ((k7.toList.drop (aK k7.size 0 b)).take (aK k7.size k7.size c-aK k7.size 0 b)).toArray } })
 (k:k7.size<=sizeLine):wpAny (model prog w) A (getItem (.ref t) (.ref sl)) Q E s:=by
 have a:=by
  show((k7.toList.drop (aK k7.size 0 b)).take (aK k7.size k7.size c-aK k7.size 0 b)).toArray.size<=sizeLine
  rw [Ab2,Ae9,Ai4,Ah1]
  omega
 have u:aK k7.size k7.size c<=k7.size:=AN _ _ (Aa6 _) c
 obtain⟨o,g,f,m⟩:=id j
 have e:s.TypeIs (.ref sl) "slice" :=⟨o,g,f⟩
 unfold getItem
 try with_reducible refine wpAny_holding ?_
 first | refine wpAny_bind (wpAny_pure ?_) | skip
 refine wpAny_bind (wpAny_sequenceKey d.typeIs (by decide) ?_)
 refine wpAny_bind (wpAny_callSpecial?_slot d.typeIs PyProof.Rows.slot_tuple_getitem
  (wpAny_call_entry PyProof.Rows.slot_tuple_getitem d.typeIs entry_tuple_getitem ?_ (args_tuple_getitem _ _)))
 show wpAny _ _ (Builtin.Tuple.tupleItemsOf (.ref t) >>= _) _ _ s
 refine wpAny_bind (tupleItemsOf_ d ?_)
 refine wpAny_bind (wpAny_typeOf e ?_)
 rw [if_pos (by decide)]
 refine wpAny_bind (bR j n l ?_)
 have i: ¬((((aK k7.size 0 b:Nat):Int)==0&&(1:Int)==1&&(aK k7.size k7.size c-aK k7.size 0 b)==k7.size)=k9):=by
  intro q
  rw [Aa9,Aa9]at q
  have r:=eq_of_beq q.1.1
  have v:=eq_of_beq q.2
  exact p ⟨by omega,by omega⟩
 show wpAny _ _ (if (((aK k7.size 0 b:Nat):Int)==0&&(1:Int)==1&&(aK k7.size k7.size c-aK k7.size 0 b)==k7.size)=k9 then _ else _) _ _ s
 rw [if_neg i,yZ]
 first
  | exact wpAny_bind (wpAny_newObj_type (wpAny_pure ⟨_,rfl,wpAny_pure h⟩) a)
  | exact wpAny_bind (wpAny_newObj_type (wpAny_bind (wpAny_pure (wpAny_pure ⟨_,rfl,wpAny_pure h⟩))) a)
  | exact wpAny_bind (wpAny_bind (wpAny_newObj_type (wpAny_pure (wpAny_pure ⟨_,rfl,wpAny_pure h⟩)) a))
  | exact wpAny_bind (wpAny_bind (wpAny_newObj_type (wpAny_pure ⟨_,rfl,wpAny_pure h⟩) a))
end
end HT
namespace L2
open PySem PySem.Spec PyProof.Rows
abbrev TO:=St->Hp->(Option Int->Hp->Prop)->Prop
def PO (X:Cx) (e:Option Expr) (t:TO):Prop:=
 ∀(y8:List (Addr×Obj)) (s:Shared) (U:St) (H:Hp) (Q:Option Int->Hp->Prop),Inv X y8 U H s->t U H Q →
  wpAny (model X.prog X.w) X.A (evalPart e X.env) (λu s'=> ∃o H',Inv X y8 U H' s'/\IsPart u o/\Q o H') X.xe s
def AU:TO:=λ_ H Q=>Q u0 H
def EK (t:TE):TO:=λU H Q=>t U H λx H1=> ∃i,x= .int i/\Q (y0 i) H1
section
variable {X:Cx}{e:Expr}{te:TE}{lo hi:Option Expr}{tl th:TO}{pos p2:Pos}
def rk:PO X u0 AU:=by
 intro a s U H Q I h
 exact wpAny_pure ⟨u0,H,I,.none,h⟩
def JL (h:PE X e te):PO X (y0 e) (EK te):=by
 intro a s U H Q I g
 refine aG (h a s U H _ I g) ?_
 rintro u j ⟨x,f,d,b,c⟩
 obtain⟨i,rfl,q⟩:=c
 obtain⟨t,rfl⟩:=b
 exact⟨y0 i,f,d,.int i t,q⟩
def fv (X:Cx) (r:V->Option Int->Option Int->Hp->VK->Prop):Prop:=
 ∀(y8:List (Addr×Obj)) (s:Shared) (U:St) (H:Hp) (x:V) (v b a:Value) (lo hi:Option Int) (sl:Addr) (Q:VK),Inv X y8 U H s->RelV x v->s.heap.IsSliceOf sl b a .none->IsPart b lo->IsPart a hi->r x lo hi H Q →
  ∃T id,typeLookup (.type T) "__getitem__" =pure (some (.builtin id))/\s.TypeIs v T/\wpAny (model X.prog X.w) X.A (getItem v (.ref sl)) (EP X y8 U Q) X.xe s
def fv.or (h:fv X r) (h':fv X r'):fv X (λx lo hi H Q=>r x lo hi H Q\/r' x lo hi H Q):=by
 intro a s U H x v c f lo hi sl Q I g d e b q
 rcases q with q | q
 ·exact h a s U H x v c f lo hi sl Q I g d e b q
 ·exact h' a s U H x v c f lo hi sl Q I g d e b q
def vy (r:V->Option Int->Option Int->Hp->VK->Prop) (d:TE) (b a:TO):TE:=λU H Q=>d U H λx H1=>b U H1 λl H2=>a U H2 λu c=>r x l u c Q
def jI (y:fv X r) (G:PE X e te) (k:PO X lo tl) (w:PO X hi th):PE X (.Subscript e (.Slice lo hi u0 p2) pos) (vy r te tl th):=by
 intro a s U H Q I h
 refine Subscript_ (aG (G a s U H _ I h) ?_)
 rintro v J ⟨x,E,p,m,n⟩
 refine wpAny_Slice (aG (k a J U E _ p n) λd F ⟨l,D,i,A,B⟩=>aG (w a F U D _ i B) ?_)
 rintro f c ⟨u,g,z,t,L⟩
 refine wpAny_pure ?_
 have o:Inv X a U g { c with heap:=c.heap.push { cls:= .type "slice",data:= .fields #[d,f,.none] } }:=z.kept fun b M q=>Heap.get?_push_of_some _ q
 obtain⟨T,id,j,C,K⟩:=y a { c with heap:=c.heap.push { cls:= .type "slice",data:= .fields #[d,f,.none] } } U g x v d f l u c.heap.objs.size Q o m (Heap.IsSliceOf.new ..) A t L
 exact tail_any C j K (by with_unfolding_all rfl)
noncomputable def i7 (xs:List V) (a b:Option Int):List V:=(xs.drop (HT.aK xs.length 0 a)).take (HT.aK xs.length xs.length b-HT.aK xs.length 0 a)
def XD (xs) (lo hi):(i7 xs lo hi).length<=xs.length:=by
 unfold i7
 rw [Ae9,Ai4]
 omega
def nG (K:Aa4):V->Option Int->Option Int->Hp->VK->Prop:=λx lo hi H Q=> ∃a xs,x= .ref a/\cJ K H a xs ∧
 ¬(HT.aK xs.length 0 lo=0/\HT.aK xs.length xs.length hi=xs.length)/\ ∀p,H p=u0->Q (.ref p) (aI H p (.tup (i7 xs lo hi)))
def uH:fv X (nG X.K):=by
 intro i s U H x v u y f g sl Q I t m n l h
 obtain⟨a,d,rfl,o,p,q⟩:=h
 cases t
 obtain⟨e,r,k,j⟩:=I.tuple o
 have c:e.toArray.size=d.length:=by rw [Ab2];exact r.length.symm
 refine⟨"tuple",_,PyProof.Rows.slot_tuple_getitem.lookup,k.typeIs,?_⟩
 refine HT.cq k m n l (by rw [c];exact p) ?_ (by rw [c];exact j)
 rw [c]
 refine⟨.ref s.heap.objs.size,_,I.laid (λb w q=>Aa8 _ q) (Aa6 _) ?_,rfl,q _ (I.aN.fresh (Aa6 _))⟩
 exact⟨Ab8 (XD d f g) j,_,(r.drop (HT.aK d.length 0 f)).take (HT.aK d.length d.length g-HT.aK d.length 0 f),di.new _ _⟩
def Az (K:Aa4):R2:=λx y H Q=> ∃a b xs ys,x= .ref a/\y= .ref b/\cJ K H a xs/\cJ K H b ys/\xs≠ []/\xs.length+ys.length<=sizeLine ∧
 (ys= []->Q (.ref a) H)/\(ys≠ []-> ∀p,H p=u0->Q (.ref p) (aI H p (.tup (xs++ys))))
def Vals.dy (r:Vals xs us):us= []↔xs= []:=by
 cases r with
 | nil=>simp
 | cons _ _=>simp
def C7:b3 X (binaryOp .Add) (Az X.K):=by
 intro e s U H x y v u Q I t p h
 obtain⟨a,b,B,A,rfl,rfl,i,k,r,g,j,m⟩:=h
 cases t
 cases p
 obtain⟨l,d,o,_⟩:=I.tuple i
 obtain⟨f,c,n,_⟩:=I.tuple k
 refine HT.gj o n (λz=>r (d.dy.mp z)) (λz=>⟨.ref a,H,I,rfl,j (c.dy.mp z)⟩) (λz=> ?_) (by rw [← d.length,←c.length];exact g)
 refine⟨.ref s.heap.objs.size,_,I.laid (λb C q=>Aa8 _ q) (Aa6 _) ?_,rfl,m (λw=>z (c.dy.mpr w)) _ (I.aN.fresh (Aa6 _))⟩
 exact⟨by rw [Aa3];exact g,_,d.append c,di.new _ _⟩
end
noncomputable def dt (n:Nat) (i:Int):Option Nat:=if 0<=i then(if i<n then y0 i.toNat else u0)else if -(n:Int)<=i then y0 (i+n).toNat else u0
def aQ {a:Type}(xs:List a) (i:Int):Option a:=(dt xs.length i).bind λj=>xs[j]?
def pZ (h:dt n i=y0 j):seqIndex? i n=y0 j/\j<n/\ -(n:Int)<=i/\i<n:=by
 unfold dt at h
 by_cases b:0<=i
 ·rw [if_pos b]at h
  by_cases a:i<n
  ·rw [if_pos a]at h
   have e:=Ae5.inj h
   exact⟨by rw [seqIndex_of b a,e],by omega,by omega,a⟩
  ·rw [if_neg a]at h;cases h
 ·rw [if_neg b]at h
  by_cases a: - n<=i
  ·rw [if_pos a]at h
   have e:=Ae5.inj h
   exact⟨by rw [seqIndex_neg (by omega) a,e],by omega,a,by omega⟩
  ·rw [if_neg a]at h;cases h
def ZV (h:aQ xs i=y0 v): ∃j,seqIndex? i xs.length=y0 j/\xs[j]? =y0 v/\j<xs.length/\ -(xs.length:Int)<=i/\i<xs.length:=by
 unfold aQ at h
 cases e:dt xs.length i with
 | none=>rw [e]at h;cases h
 | some j=>
  rw [e]at h
  obtain⟨d,c,b,a⟩:=pZ e
  exact⟨j,d,h,c,b,a⟩
def zk {j:Nat}(h:xs[j]? =y0 v):aQ xs (j:Int)=y0 v:=by
 have a:=(Ab9.mp h).1
 have e:dt xs.length j=y0 j:=by
  unfold dt
  rw [if_pos (by omega),if_pos (by omega)];simp
 unfold aQ;rw [e];exact h
def wU (b:Expr):Prop:= ∀o i,subscripted b y9 o i=operate [o,i] (getItem o i)
def ft (X:Cx) (r:R2):Prop:=
 ∀(value a:Expr) (y8:List (Addr×Obj)) (s:Shared) (U:St) (H:Hp) (x y:V) (v u:Value) (Q:VK),Inv X y8 U H s->RelV x v->RelV y u->r x y H Q →
  subscripted a y9 v u=operate [v,u] (getItem v u)->wpAny (model X.prog X.w) X.A (subscriptTail value a v u) (EP X y8 U Q) X.xe s
def uG (X:Cx) (id:String) (r:V->List V->Hp->VK->Prop):Prop:=
 ∀(y8:List (Addr×Obj)) (s:Shared) (U:St) (H:Hp) (x:V) (xs:List V) (v:Value) (a:List Value) (Q:VK),Inv X y8 U H s->RelV x v->Vals xs a->r x xs H Q →
  wpAny (model X.prog X.w) X.A (call (.builtin id) (v::a)) (EP X y8 U Q) X.xe s
section
variable {X:Cx}{a b:Expr}{ta tb:TE}{pos:Pos}
def ft.or (h:ft X r) (h':ft X r'):ft X (λx y H Q=>r x y H Q\/r' x y H Q):=by
 intro a b c s U H x y v u Q I d f q e
 rcases q with q | q
 ·exact h a b c s U H x y v u Q I d f q e
 ·exact h' a b c s U H x y v u Q I d f q e
def pf (g:ft X r) (e:PE X a ta) (f:PE X b tb) (i:wU b):PE X (.Subscript a b pos) (i6 r ta tb):=by
 intro c s U H Q I h
 exact Subscript_ (nH e f I h λv u l x y j d m k q=>g a b c l U j x y v u Q d m k q (i _ _))
def tJ (K:Aa4):R2:=λx y H Q=> ∃p xs i v,x= .ref p/\y= .int i/\bu K H p xs/\aQ xs i=y0 v/\Q v H
def oX (K:Aa4):R2:=λx y H Q=> ∃p xs i v,x= .ref p/\y= .int i/\cJ K H p xs/\aQ xs i=y0 v/\Q v H
def pk:R2:=λx y H Q=> ∃z i c,x= .str z/\y= .int i/\z.length<=sizeLine/\aQ z.cps.toList i=y0 c/\Q (.str ⟨#[c]⟩) H
def gB:ft X (tJ X.K):=by
 intro c k a s U H x y v u Q I G E h n
 obtain⟨p,L,i,z,rfl,rfl,B,F,q⟩:=h
 cases G
 obtain⟨t,rfl⟩:=E
 obtain⟨d,r,e,K⟩:=I.list B
 obtain⟨j,b,D,M,o,C⟩:=ZV F
 obtain⟨w,m,g⟩:=r.get D
 have A:=r.length
 have J:=zB
 have fin:EP X a U Q w s:=⟨z,H,I,g,q⟩
 by_cases l:0<=i
 ·have f:=by
   rw [seqIndex_of l C]at b
   exact Ae5.inj b
  exact item_listR e.isList l (by omega) (by rw [f];simpa using m) fin n
 ·have f:(i+ d.toArray.size).toNat=j:=by
   rw [seqIndex_neg (by omega) o]at b
   rw [Ab2,←A]
   exact Ae5.inj b
  exact subscriptTail_builtinR e.isList.typeIs slot_list_getitem.lookup
   (wpAny_getItem_list_neg e.isList (by omega) (by rw [Ab2]<;>omega) (by omega) (by rw [f];simpa using m) ⟨rfl,fin⟩) n
def av:ft X (oX X.K):=by
 intro b d a s U H x y v u Q I B o h l
 obtain⟨p,J,i,z,rfl,rfl,g,A,q⟩:=h
 cases B
 obtain⟨t,rfl⟩:=o
 obtain⟨m,r,e,G⟩:=I.tuple g
 obtain⟨j,C,n,K,D,F⟩:=ZV A
 obtain⟨w,k,c⟩:=r.get n
 have f:=r.length
 have E:=zB
 have fin:EP X a U Q w s:=⟨z,H,I,c,q⟩
 exact subscriptTail_builtinR e.typeIs slot_tuple_getitem.lookup
  (getItem_tuple e (by omega) (by omega) (by rw [Ab2,←f];exact C) (by simpa using k) ⟨rfl,fin⟩) l
def Jx:ft X pk:=by
 intro a b d s U H x y v u Q I w p h n
 obtain⟨z,i,c,rfl,rfl,B,r,q⟩:=h
 obtain⟨t,rfl⟩:=w
 obtain⟨D,rfl⟩:=p
 obtain⟨j,e,o,C,f,l⟩:=ZV r
 have k:z.cps.toList.length=z.length:=by simp [Str.length]
 rw [k]at e f l
 have A:=zB
 exact tail_any (typeIs_str s z t) slot_str_getitem.lookup (getItem_str (by
  have g:u9 (i< -(2 ^ 63:Int))=false:=decide_eq_false (by omega)
  have m:u9 (i>=2 ^ 63)=false:=decide_eq_false (by omega)
  rw [g,m,Bool.or_false]) (by rw [e];simpa using o) ⟨.str ⟨#[c]⟩,H,I.tok _,⟨_,rfl⟩,q⟩) n
def FT (K:Aa4):R2:=λx y H Q=>tJ K x y H Q\/oX K x y H Q\/pk x y H Q
def vS:ft X (FT X.K):=gB.or (av.or Jx)
def X5 (a:List Value) (n j) (u):Obj.mapSeq (·.setIfInBounds j u) { cls:= .type "list",data:= .seq a.toArray n }= { cls:= .type "list",data:= .seq (a.set j u).toArray n }:=by
 simp [Obj.mapSeq]
theorem Inv.lst (I:Inv X y8 U H s) (h:H p=y0 (.lst xs)):
 ∃ i n,Vals xs i/\s.heap.get? p=y0 { cls:= .type "list",data:= .seq i.toArray n }/\xs.length<=sizeLine:=by
 obtain⟨z,i,n,r,e⟩:=I.aN p _ h
 exact⟨i,n,r,e,z⟩
def Inv.hG {c a:List Value}(I:Inv X y8 U H s) (h:H p=y0 (.lst xs))
 (j:s.heap.get? p=y0 { cls:= .type "list",data:= .seq c.toArray n }) (d:f { cls:= .type "list",data:= .seq c.toArray n }= { cls:= .type "list",data:= .seq a.toArray n' }) (r:Vals ys a) (g:ys.length<=sizeLine) (t):
 Inv X y8 U (aI H p (.lst ys)) { s with heap:=s.heap.update p f,toks:=t }:=by
 have e:(s.heap.update p f).get? p=y0 { cls:= .type "list",data:= .seq a.toArray n' }:=by
  rw [Ai3 f j (by rw [d]<;>rfl),d]
 refine I.write (by rw [h];trivial) (.inl rfl) (λb u i q=>(Ah9 _ _ (Ne.symm i)).trans q) ⟨_,e⟩ ?_
 exact⟨g,a,n',r,e⟩
def FH:V->V->V->Hp->(Hp->Prop)->Prop:=λo i v H Q=> ∃p xs k j,o= .ref p/\i= .int k/\H p=y0 (.lst xs)/\dt xs.length k=y0 j/\Q (aI H p (.lst (xs.set j v)))
def WY:om X FH:=by
 intro g s U H o i v E G u Q I y A rv h
 obtain⟨p,D,k,j,rfl,rfl,m,B,q⟩:=h
 cases y
 obtain⟨t,rfl⟩:=A
 obtain⟨a,n,r,e,z⟩:=I.lst m
 obtain⟨b,F,w,f⟩:=pZ B
 have c:=r.length
 have C:=zB
 have x:=
  I.hG m e (X5 a n j u) (r.set rv j) (by rw [Ac5];exact z) s.toks
 by_cases l:0<=k
 ·have d:=by
   rw [seqIndex_of l f]at b
   exact Ae5.inj b
  exact PySem.W.ki_setAt e l (by omega) (by rw [Ab2,←c];exact f) (by rw [d];exact⟨_,x,q⟩)
 ·have d:(k+ a.toArray.size).toNat=j:=by
   rw [seqIndex_neg (by omega) w]at b
   rw [Ab2,←c]
   exact Ae5.inj b
  exact PySem.W.ki_setBack e (by omega) (by rw [Ab2,←c];exact w) (by omega) (by rw [d];exact⟨_,x,q⟩)
def xQ (lo hi) (n):(sliceBounds lo hi u0 n).1=((HT.aK n 0 lo:Nat):Int)/\(sliceBounds lo hi u0 n).2.1=((HT.aK n n hi:Nat):Int)/\(sliceBounds lo hi u0 n).2.2=1:=by
 refine⟨?_,?_,rfl⟩
 ·cases lo with
  | none=>simp [sliceBounds,HT.aK]
  | some i=>
   simp only [sliceBounds,HT.aK,Option.getD_none,show(1:Int)>0 by decide,if_true]
   by_cases h:i<0
   ·simp only [h,if_true]<;>omega
   ·simp only [h,if_false]<;>omega
 ·cases hi with
  | none=>simp [sliceBounds,HT.aK]
  | some i=>
   simp only [sliceBounds,HT.aK,Option.getD_none,show(1:Int)>0 by decide,if_true]
   by_cases h:i<0
   ·simp only [h,if_true]<;>omega
   ·simp only [h,if_false]<;>omega
def QL (a:List Value) (lo hi):slicePick a.toArray lo hi u0=((a.drop (HT.aK a.length 0 lo)).take (HT.aK a.length a.length hi-HT.aK a.length 0 lo)).toArray:=by
 obtain⟨b,d,c⟩:=xQ lo hi a.toArray.size
 unfold slicePick
 rw [b,d,c]
 simp only [sliceRange_one,pick_run,Ab2]<;>rfl
def nI (K:Aa4):V->Option Int->Option Int->Hp->VK->Prop:=λx lo hi H Q=> ∃a xs,x= .ref a/\bu K H a xs/\ ∀p,H p=u0->Q (.ref p) (aI H p (.lst (i7 xs lo hi)))
def fZ:fv X (nI X.K):=by
 intro g s U H x v t w e f sl Q I p l n j h
 obtain⟨a,d,rfl,o,q⟩:=h
 cases p
 obtain⟨m,r,i,k⟩:=I.list o
 have c:=r.length
 refine⟨"list",_,slot_list_getitem.lookup,i.isList.typeIs,?_⟩
 refine wpAny_getItem_list_slice i.isList l n j .none (by simp) ?_ (by rw [Ab2]<;>omega)
 rw [QL,←c]
 refine⟨.ref s.heap.objs.size,_,I.laid (λb u q=>Aa8 _ q) (Aa6 _) ?_,rfl,q _ (I.aN.fresh (Aa6 _))⟩
 exact⟨Ab8 (XD d e f) k,_,0,(r.drop (HT.aK d.length 0 e)).take (HT.aK d.length d.length f-HT.aK d.length 0 e),Ac1 _ rfl⟩
def zF:V->Bool
 | .aj=>k9
 | .bl _=>k9
 | .int _=>k9
 | .str _=>k9
 | _=>y9
noncomputable def gb:V->V->Bool
 | .aj,.aj=>k9
 | .bl a,.bl b=>a==b
 | .bl a,.int b=>(if a then 1 else 0)==b
 | .int a,.bl b=>a==(if b then 1 else 0)
 | .int a,.int b=>a==b
 | .str a,.str b=>a==b
 | _,_=>y9
def BR (e:RelV y u) (c:RelV x v) (f:zF y=k9) (fx:zF x=k9):SeqAt.EqAt A s u v (gb y x):=by
 cases y with
 | aj=>
  cases e
  cases x with
  | aj=>cases c;exact SeqAt.EqAt.same _
  | bl b=>cases c;exact SeqAt.EqAt.none_bool b
  | int b=>obtain⟨t,rfl⟩:=c;exact SeqAt.EqAt.none_int b t
  | str b=>obtain⟨t,rfl⟩:=c;exact SeqAt.EqAt.none_str b t
  | _=>exact absurd (fx) Ab1
 | bl a=>
  cases e
  cases x with
  | aj=>cases c;exact SeqAt.EqAt.bool_none a
  | bl b=>cases c;exact SeqAt.EqAt.bool_bool a b
  | int b=>obtain⟨t,rfl⟩:=c;exact SeqAt.EqAt.bool_int a b t
  | str b=>obtain⟨t,rfl⟩:=c;exact SeqAt.EqAt.bool_str a b t
  | _=>exact absurd (fx) Ab1
 | int a=>
  obtain⟨d,rfl⟩:=e
  cases x with
  | aj=>cases c;exact SeqAt.EqAt.int_none a d
  | bl b=>cases c;exact SeqAt.EqAt.int_bool a d b
  | int b=>obtain⟨t,rfl⟩:=c;exact SeqAt.EqAt.int_int a d b t
  | str b=>obtain⟨t,rfl⟩:=c;exact SeqAt.EqAt.int_str a d b t
  | _=>exact absurd (fx) Ab1
 | str a=>
  obtain⟨d,rfl⟩:=e
  cases x with
  | aj=>cases c;exact SeqAt.EqAt.str_none a d
  | bl b=>cases c;exact SeqAt.EqAt.str_bool a d b
  | int b=>obtain⟨t,rfl⟩:=c;exact SeqAt.EqAt.str_int a d b t
  | str b=>obtain⟨t,rfl⟩:=c;exact SeqAt.EqAt.str_str a d b t
  | _=>exact absurd (fx) Ab1
 | _=>exact absurd (f) Ab1
def d9 (x:V) (u:Value):Bool:=match u with
 | .none=>gb .aj x
 | .bool b=>gb (.bl b) x
 | .int i _=>gb (.int i) x
 | .str z _=>gb (.str z) x
 | _=>y9
def pd (r:RelV y u) (f:zF y=k9):d9 x u=gb y x:=by
 cases y with
 | aj=>cases r;rfl
 | bl b=>cases r;rfl
 | int i=>obtain⟨t,rfl⟩:=r;rfl
 | str z=>obtain⟨t,rfl⟩:=r;rfl
 | _=>exact absurd (f) Ab1
theorem xB : ∀ {xs}{us},Vals xs us->xs.all zF=k9->us.any (d9 x)=xs.any λy=>gb y x
 | _,_,.nil,_=>rfl
 | y::xs,u::us,.cons r t,f=>by
  rw [Ag8,Aa9]at f
  rw [Ag7,Ag7,pd r f.1,xB t f.2]
theorem wu (b:RelV x v) (fx:zF x=k9): ∀ {xs}{us},Vals xs us->xs.all zF=k9-> ∀u∈us,SeqAt.EqAt A s u v (d9 x u)
 | _,_,.nil,_=>λu a=>by cases a
 | y::xs,u::us,.cons r t,f=>λc a=>by
  rw [Ag8,Aa9]at f
  rcases Aa5.mp a with rfl | a
  ·rw [pd r f.1];exact BR r b f.1 fx
  ·exact wu b fx t f.2 c a
def hU (x:V) (xs:List V):Bool:=xs.any λy=>gb y x
def pF (K:Aa4) (neg:Bool):R2:=λx y H Q=> ∃p xs,y= .ref p/\(bu K H p xs\/cJ K H p xs)/\zF x=k9/\xs.all zF=k9/\Q (.bl (if neg then !hU x xs else hU x xs)) H
def Bv:b3 X (compareOp .In) (pF X.K y9):=by
 intro e s U H x y v u Q I f i h
 obtain⟨p,j,rfl,b,fx,fs,q⟩:=h
 cases i
 rcases b with b | b
 ·obtain⟨a,r,c,g⟩:=I.list b
  refine SeqAt.in_listAt (d9 x) c.isList (λw d=>wu f fx r fs w (by simpa using d)) ⟨.bl _,H,I,rfl,?_⟩
  rw [show a.toArray.any (d9 x)=a.any (d9 x)by simp,xB r fs]
  exact q
 ·obtain⟨a,r,c,g⟩:=I.tuple b
  refine SeqAt.in_tupleAt (d9 x) c (λw d=>wu f fx r fs w (by simpa using d)) ⟨.bl _,H,I,rfl,?_⟩
  rw [show a.toArray.any (d9 x)=a.any (d9 x)by simp,xB r fs]
  exact q
def ZQ:b3 X (compareOp .NotIn) (pF X.K k9):=by
 intro e s U H x y v u Q I f i h
 obtain⟨p,j,rfl,b,fx,fs,q⟩:=h
 cases i
 rcases b with b | b
 ·obtain⟨a,r,c,g⟩:=I.list b
  refine SeqAt.notIn_listAt (d9 x) c.isList (λw d=>wu f fx r fs w (by simpa using d)) ⟨.bl _,H,I,rfl,?_⟩
  rw [show a.toArray.any (d9 x)=a.any (d9 x)by simp,xB r fs]
  exact q
 ·obtain⟨a,r,c,g⟩:=I.tuple b
  refine SeqAt.notIn_tupleAt (d9 x) c (λw d=>wu f fx r fs w (by simpa using d)) ⟨.bl _,H,I,rfl,?_⟩
  rw [show a.toArray.any (d9 x)=a.any (d9 x)by simp,xB r fs]
  exact q
def zO:b3 X (compareOp .NotIn) (λx y H Q=> ∃i j,x= .str i/\y= .str j/\Q (.bl (!(!(Builtin.Str.occurrences j i 0 j.length 1).isEmpty))) H):=by
 intro a s U H x y v u Q I c b h
 obtain⟨i,j,rfl,rfl,q⟩:=h
 obtain⟨t,rfl⟩:=c
 obtain⟨d,rfl⟩:=b
 exact notIn_str ⟨.bl _,H,I,rfl,q⟩
def wN:xo X (.builtin "len") (fun xs H Q=> ∃p ys,xs= [.ref p]/\(bu X.K H p ys\/cJ X.K H p ys)/\Q (.int ys.length) H):=by
 intro f s U H xs k Q I r h
 obtain⟨p,ys,rfl,b,q⟩:=h
 obtain⟨u,rfl,i⟩:=JE r
 cases i
 have j:=zB
 rcases b with b | b
 ·obtain⟨c,e,d,g⟩:=I.list b
  have a:=e.length
  exact Calls.call_len_list d.isList (by simp only [Ab2]<;>omega) ⟨.int ys.length,H,I.tok _,⟨s.toks+1,by rw [Ab2,a]⟩,q⟩
 ·obtain⟨c,e,d,g⟩:=I.tuple b
  have a:=e.length
  exact len_tuple d (by simp only [Ab2]<;>omega) ⟨.int ys.length,H,I.tok _,⟨s.toks+1,by rw [Ab2,a]⟩,q⟩
def qR:xo X (.builtin "len") (fun xs H Q=> ∃z,xs= [.str z]/\z.length<=sizeLine/\Q (.int z.length) H):=by
 intro a s U H xs d Q I r h
 obtain⟨z,rfl,c,q⟩:=h
 obtain⟨u,rfl,t,rfl⟩:=JE r
 have b:=zB
 exact len_str (by omega) ⟨.int z.length,H,I.tok _,⟨_,rfl⟩,q⟩
def zh:xo X (.type "tuple") (fun xs H Q=> ∃p ys,xs= [.ref p]/\((bu X.K H p ys/\ ∀l,H l=none->Q (.ref l) (aI H l (.tup ys)))\/(cJ X.K H p ys/\Q (.ref p) H))):=by
 intro a s U H xs w Q I r h
 obtain⟨p,ys,rfl,h⟩:=h
 obtain⟨u,rfl,v⟩:=JE r
 cases v
 rcases h with⟨f,q⟩ | ⟨f,q⟩
 ·obtain⟨c,i,g,m⟩:=I.list f
  have j:=i.length
  refine call_tuple_list g.isList (λd t=> ?_) (by simp only [Ab2]<;>omega)
  have k:Inv X a U H { s with heap:=d }:=I.kept t
  have n:Inv X a U (aI H d.objs.size (.tup ys)) { s with heap:=d.push { cls:= .type "tuple",data:= .seq c.toArray } }:=
   k.laid (λb o e=>Aa8 _ e) (Aa6 _) (show aP X.prog X.w _ _ _ (.tup ys)from⟨m,c,i,di.new _ _⟩)
  exact⟨.ref d.objs.size,_,n,rfl,q _ (k.aN.fresh (Aa6 _))⟩
 ·obtain⟨c,i,g,m⟩:=I.tuple f
  exact call_tuple_same g ⟨.ref p,H,I,rfl,q⟩
def tr (K:Aa4) (T:String) (x:V) (H:Hp):Prop:=match x with
 | .str _=>T= "str"
 | .int _=>T= "int"
 | .ref p=>(T= "list" /\ ∃xs,bu K H p xs)\/(T= "tuple" /\ ∃o,K.lookup p=some o/\o.cls= .type "tuple" /\o.dict=none) ∨
  (T= "dict" /\((∃ a,H p=some (.dK a))\/ ∃a,H p=some (.dT a)))\/(T= "set" /\ ∃S n,H p=some (.set S n))
 | _=>False
def vj (I:Inv X y8 U H s) (r:RelV x v) (ty:tr X.K T x H):
 s.TypeIs v T/\ ∀a,v= .ref a-> ∃ob,s.heap.get? a=y0 ob/\ob.dict=none:=by
 cases x with
 | str z=>
  obtain⟨t,rfl⟩:=r
  cases (ty)
  exact⟨typeIs_str s z t,λ_ e=>nomatch e⟩
 | int i=>
  obtain⟨t,rfl⟩:=r
  cases (ty)
  exact⟨typeIs_int s i t,λ_ e=>nomatch e⟩
 | ref p=>
  cases r
  rcases ty with⟨rfl,m,j⟩ | ⟨rfl,o,b,k,d⟩ | ⟨rfl,b⟩ | ⟨rfl,S,n,b⟩
  ·obtain⟨l,_,h,_⟩:=I.list j
   refine⟨h.isList.typeIs,λa e=> ?_⟩
   cases e
   obtain⟨o,n,e,c,d,_⟩:=h
   exact⟨o,e,d⟩
  ·refine⟨⟨o,I.bO p o b,k⟩,λa e=> ?_⟩
   cases e
   exact⟨o,I.bO _ o b,d⟩
  ·have z: ∃o,s.heap.get? p=y0 o/\o.ExactDict:=by
    rcases b with⟨g,b⟩ | ⟨g,b⟩
    ·obtain⟨_,_,_,_,o,_,_,e,ex,_⟩:=I.aN p _ b
     exact⟨o,e,ex⟩
    ·obtain⟨_,_,_,_,o,_,_,e,ex,_⟩:=I.aN p _ b
     exact⟨o,e,ex⟩
   obtain⟨o,e,ex⟩:=z
   refine⟨⟨o,e,ex.1⟩,λa f=> ?_⟩
   cases f
   exact⟨o,e,ex.2.1⟩
  ·obtain⟨o,_,_,_,e,ex,_⟩:=I.aN p _ b
   refine⟨⟨o,e,ex.1⟩,λa f=> ?_⟩
   cases f
   exact⟨o,e,ex.2.1⟩
 | _=>exact False.elim ty
def BQ (K:Aa4) (T:String) (r:V->List V->Hp->VK->Prop) (a:TE) (t:TA):TE:=λU H Q=>a U H λx H1=>tr K T x H1/\t U H1 λxs H2=>r x xs H2 Q
variable {o e:Expr}{es:List Expr}{to:TE}{t:TA}{name:Str}{apos k6:Pos}{T id:String}{r:V->List V->Hp->VK->Prop}
def DZ (G:PlainAttrs T) (g:Slot T name id) (i:typeOf (.builtin id)=pure (.type "method_descriptor")) (u:uG X id r) (K:PE X o to) (n:PA X (e::es) t)
 (d:attributeBase o name X.env (eval o X.env)=eval o X.env:=by rfl)
 (f:((backTo k6 (starEach (e::es) X.env)).all (λx=> !x.1)&&(backToKw k6 (keywordEach [] X.env)).all (λx=>x.1.isSome)
   &&u9 ((e::es).length+([]:List Keyword).length+(if ([]:List Keyword).isEmpty then 0 else 1)<30))=true:=by rfl)
 (c:(apos.endLine==k6.line)=true:=by rfl) (y:starEach (e::es) X.env=(y9,eval e X.env)::starEach es X.env:=by rfl) (b:(backTo k6 (starEach es X.env)).any (·.1)=false:=by rfl):
 PE X (.Call (.Attribute o name apos) (e::es) [] k6) (BQ X.K T r to t):=by
 intro a s U H Q I h
 refine wpAny_Call_method_late d f c rfl (aG (K a s U H _ I h) ?_)
 rintro v F ⟨x,B,k,j,ty,p⟩
 obtain⟨J,D⟩:=vj k j ty
 refine⟨T,id,G,g,i,J,D,?_⟩
 have l:=n k6 a F U B _ k p
 rw [y]at l ⊢
 refine Calls.callWith_builtin (by show(y9||(backTo k6 (starEach es X.env)).any (·.1))=y9;rw [b]<;>rfl) (Calls.evalArgs_plain ?_)
 exact aG l λq E ⟨w,A,m,C,z⟩=>u a E U A x w v q Q m j C z
end
def lG (X:Cx) (id:String) (r:V->List V->Hp->VK->Prop):Prop:=
 ∀(y8:List (Addr×Obj)) (s:Shared) (U:St) (H:Hp) (x:V) (xs:List V) (v:Value) (a:List Value) (Q:VK),Inv X y8 U H s->RelV x v->Vals xs a->r x xs H Q →
  wpAny (model X.prog X.w) X.A (call (.builtin id) (v::a)) (EP X y8 U Q) X.xe s
def Vals.one: ∀ {x}{us},Vals [x] us-> ∃u,us= [u]/\RelV x u
 | _,_,.cons r .nil=>⟨_,rfl,r⟩
theorem Vals.rep (h:Vals xs us): ∀k:Nat,Vals (Aa1 k xs).flatten (Aa1 k us).flatten
 | 0=> .nil
 | k+1=>by
  exact Vals.append h (Vals.rep h k)
theorem XM (its): ∀ k (a:List Value),
 List.foldl (λi x2=>i++x2) a.toArray (Aa1 k its.toArray)=(a++(Aa1 k its).flatten).toArray
 | 0,a=>by simp
 | k+1,a=>by
  have e:a.toArray++its.toArray=(a++its).toArray:=by simp
  have b:(a++its)++(Aa1 k its).flatten=a++(Aa1 (k+1) its).flatten:=by
   rw [Ad,Aj8,Af2]
  rw [← b,←XM its k (a++its),←e,Ad,Ae1]
section
variable {X:Cx}{y8:List (Addr×Obj)}{U:St}{H:Hp}{s:Shared}{l b:Addr}{xs ys zs:List V}
def Inv.mf {b a:List Value}(I:Inv X y8 U H s) (h:H l=y0 (.lst xs))
 (e:s.heap.get? l=y0 { cls:= .type "list",data:= .seq b.toArray n }) (i:f b.toArray=a.toArray) (g:Vals ys a) (d:ys.length<=sizeLine):
 Inv X y8 U (aI H l (.lst ys)) { s with heap:=s.heap.update l (Obj.mapSeq f),toks:=t' }:=by
 have q:=PySem.IsL.update e f
 rw [i]at q
 refine I.write (by rw [h];exact trivial) (.inl rfl) (λk u j c=>(Ah9 s.heap (Obj.mapSeq f) (Ne.symm j)).trans c) ⟨_,q⟩ ?_
 exact⟨d,a,_,g,q⟩
def Inv.kv (I:Inv X y8 U H s) (b:Vals ys its) (a:ys.length<=sizeLine):
 Inv X y8 U (aI H s.heap.objs.size (.lst ys)) { s with heap:=s.heap.push { cls:= .type "list",data:= .seq its.toArray },toks:=t' }:=
 I.laid (λ_ _ q=>Aa8 _ q) (Aa6 _) ⟨a,its,0,b,Ac1 _ rfl⟩
theorem Inv.fresh (I:Inv X y8 U H s):H s.heap.objs.size=none:=I.aN.fresh (Aa6 _)
def Inv.m7 (I:Inv X y8 U H s) (a:H l=y0 (.lst xs)):xs.length<=sizeLine/\ ∃ i n,Vals xs i/\xs.length=i.length/\s.heap.get? l=y0 { cls:= .type "list",data:= .seq i.toArray n }:=by
 obtain⟨z,i,n,r,e⟩:=I.aN l _ a
 exact⟨z,i,n,r,r.length,e⟩
def BF (h:n<=sizeLine):Builtin.List.listTooLong n=false:=by
 exact decide_eq_false (by omega)
end
section
variable {X:Cx}
def B5:V->List V->Hp->VK->Prop:=λx a H Q=> ∃l xs y,x= .ref l/\a= [y]/\H l=y0 (.lst xs)/\xs.length<sizeLine/\Q .aj (aI H l (.lst (xs++ [y])))
def Aq:lG X "list.append" B5:=by
 intro b s U H x k v j Q I f rv h
 obtain⟨l,m,y,rfl,rfl,c,i,q⟩:=h
 cases f
 obtain⟨u,rfl,d⟩:=rv.one
 obtain⟨z,a,n,r,g,e⟩:=I.m7 c
 refine call_meets F.slot_list_append ⟨_,e,rfl⟩ F.entry_list_append (F.args_list_append_2 _ _) (PySem.list_append l a.toArray n u (by rw [Ab2];omega)) ⟨e,?_⟩
 refine⟨.aj,_,I.mf c e (by simp) (r.append (.cons d .nil)) ?_,rfl,q⟩
 rw [Aa3,Ak7]
 omega
def uw (xs:List α) (k):(Aa1 k xs).flatten.length=k*xs.length:=by simp
end
end L2
namespace Att
open PySem PySem.W PySem.Calls PyProof.Rows
def Wz : ∀ i vs,WellAll P h vs (i.map WData.int)->IntsAre vs i:=by
 intro i
 induction i with
 | nil=>
  intro vs w
  cases w
  exact .nil
 | cons n i c=>
  intro vs w
  cases w with
  | cons a b=>
   cases a
   exact .cons _ _ (c _ b)
def FV {l:OpenLaw}(m:l.most=y0 n)
 (b:l.row.toRowW.claim.pre args=k9) (k:WellAll P h vals args):
 ∃a vs i,vals= [Value.ref a]/\args= [WData.list (i.map WData.int)]/\h.get? a=y0 { cls:= .type "list",data:= .seq vs.toArray }/\IntsAre vs i/\i.length<=n:=by
 have g:WShape.hasAll [] args [.list .int]=true:=(pre_splitW b).1
 have p:l.pre.holds [] { args:=args }=true:=(pre_splitW b).2
 obtain⟨d,r,rfl,w,t⟩:=hasAllW_cons g
 obtain rfl:=hasAllW_nil t
 obtain⟨y,rfl,u⟩:=hasW_list w
 obtain⟨i,rfl⟩:=items_int u
 have c:i.length<=n:=by
  have f:=by
   have f:=(holds_andW p).1
   rw [m]at f
   exact f
  have j:=condW_of f (w_not (w_lt w_lit (w_len_list (w_arg rfl))))
  refine Nat.le_of_not_lt λq=> ?_
  have o:=by omega
  first
   | (rw [decide_eq_true o]at j;exact absurd j (by decide))
   | (simp at j;omega)
 cases k with
 | cons s v=>
  cases v
  cases s with
  | list x e=>exact⟨_,_,i,rfl,rfl,x,Wz i _ e,c⟩
def EN (l:OpenLaw) (args):l.row.toRowW.claim.post args (.bool k9) args=true:=
 postW_of
  (show WShape.has [] (.bool k9) .bool=k9 by first | rfl | decide | simp [WShape.armsAll])
  (show (WTm.eq .res (.lit (.bool k9))).value [] { args:=args,res:=y0 (.bool k9),after:=args }=y0 (.bool (k9==k9))from w_eq_bool (w_res rfl) w_lit) rfl
def dP {l:OpenLaw}
 (y:l.most=y0 n) (k:d.params.defaults= [])
 (call: ∀ w j i mg O L o S cd J a vs M,
   Ground q loose [] XP w j mg O i.heap->YP w i.heap →
   i.heap.get? L=y0 o->o.data= .func (docDef d.name d.params d.body d.scope S cd J)->i.heap.CodeRec cd d.name->mg d.name=y0 (.ref L) →
   i.heap.get? a=y0 { cls:= .type "list",data:= .seq vs.toArray }->IntsAre vs M->M.length<=n->i.gens= #[] →
   codeAny (model l.prog w) callerA (.call (.ref L) ⟨[.ref a],[]⟩) (λr s'=>r= .ok (.ret (.bool k9))/\OldK i.heap s'.heap/\s'.os=i.os/\AllBare s'.gens) i):
 WalkO q loose XP YP l.row.toRowW d [] (λf vs=>PySem.call f vs):=by
 intro w j i mg O G Y L o S cd J F kV K z h t p H s u N g v E m D
 obtain rfl:F= .none:=Dflts.none t k
 obtain rfl:kV= .none:=Dflts.noKw t
 obtain⟨a,vs,M,rfl,rfl,e,b,c⟩:=FV y g m
 refine enter_call (codeAny_mono (call w j i mg O L o S cd J a vs M G Y K (fd_plain z) h p e b c H) λr s' A=> ?_)
 obtain⟨rfl,C,I,x⟩:=A
 exact⟨.inl ⟨.bool k9,.bool k9,[],rfl,λ_=>rfl,.bool k9,EN l _,λ_=>⟨Ak0.nil,λ_ B=>(nomatch B)⟩⟩,C,I,x⟩
end Att
namespace L2
open PySem PySem.Spec PyProof.Rows
theorem QR: ∀ {vs}{i},IntsAre vs i->Vals (i.map V.int) vs
 | _,_,.nil=> .nil
 | _,_,.cons n t h=> .cons ⟨t,rfl⟩ (QR h)
def ny (H:Hp):Prop:= ∀b,H b=u0\/ ∃o xs,H b=y0 (.dU o (.lst xs))
def vV {K:Aa4}
 (T:K.In s₁.heap) (l:s₁.heap.Ns mainGlobals mg) (c:s₁.heap.Ns builtinsNs mb) (N: ∀x:Str,x≠ "__name__" ->mb x=bootBuiltins x) (t:s₁.heap.NoLimit) (hg:s₁.gens= #[])
 (D:s₁.heap.get? a=y0 { cls:= .type "list",data:= .seq vs.toArray }) (Q:IntsAre vs ns) (S:ns.length<=sizeLine) (hr:aW k callerA)
 (F: ∀base:Heap,K.In base->base.Ns mainGlobals mg->bc P w K mg base CX k fa fd [x] sp) (i: ∀ s u,BindsTo s fd ⟨[u],[]⟩ [(x,u)])
 (J: ∀H:Hp,ny H->bu K H a (ns.map V.int)->sp [.ref a] H (λv _=>v= .bl k9) λ_ _ _=>False)
 (I: ∀H e s',CX [] H s₁ (λ_ _ _=>False) e s'->False):
 codeAny (model P w) callerA (.call (.ref fa) ⟨[.ref a],[]⟩) (λr s'=>r= .ok (.ret (.bool k9))/\OldK s₁.heap s'.heap/\s'.os=s₁.os/\AllBare s'.gens) s₁:=by
 have rv:=QR Q
 have A:=Q.length
 have g: ∀H:Hp,ny H->bu K H a (ns.map V.int)->cM P w H s₁.heap->(∀ b,H b≠u0->b=a)->(H a≠u0->K.lookup a=u0) →
  codeAny (model P w) callerA (.call (.ref fa) ⟨[.ref a],[]⟩) (λr s'=>r= .ok (.ret (.bool k9))/\OldK s₁.heap s'.heap/\s'.os=s₁.os/\AllBare s'.gens) s₁:=by
  intro H U hS j W Y
  have cn: ∀ {b}{o},s₁.heap.get? b=y0 o->H b=u0->(fQ s₁.heap H).get? b=y0 o:=λe n=>Em e n
  have M: ∀ {b}{o}{E}{G},s₁.heap.get? b=y0 o->o.data= .dict E G->H b=none:=λ{b o E G} e d=>by
   cases q:H b with
   | none=>rfl
   | some u=>
    have L:=W b (by rw [q];simp)
    subst L
    rw [D]at e;cases e
    have d':=d
    cases d'
  have f: ∀ {b}{m},s₁.heap.Ns b m->(fQ s₁.heap H).Ns b m:=λ{b m} ⟨o,E,G,e,d,r⟩=>⟨o,E,G,cn e (M e d),d,r⟩
  have B:K.In (fQ s₁.heap H):=λb o e=>cn (T b o e) (by
   cases q:H b with
   | none=>rfl
   | some u=>
    have L:b=a:=W b (by rw [q];simp)
    subst L
    rw [Y (by rw [q];simp)]at e;cases e)
  have hM:Mod K mg (fQ s₁.heap H):=⟨B,f l,⟨mb,f c,N⟩,let ⟨mc,h1,h2⟩:=t; ⟨mc,f h1,h2⟩⟩
  have e0:d5 P w K mg (fQ s₁.heap H) callerA [] s₁ H:=⟨rfl,hM,λb o e=>Fp e,Ak9 (Ao _ _),trivial,λb c=>absurd (show b∈([]:List Addr)from c) (by simp),j,.of_eq hg⟩
  refine codeAny_mono ((F _ B (f l)).run callerA [] s₁ H ⟨[.ref a],[]⟩ [.ref a] [.ref a] _ _ hr e0 (i s₁ (.ref a)) (.cons rfl .nil) (J H U hS)) λr s' h=> ?_
  cases r with
  | error e=>exact(I H e s' h).elim
  | ok X=>
   cases X with
   | next=>exact False.elim h
   | brk=>exact False.elim h
   | cont=>exact False.elim h
   | ret u=>
    obtain⟨v,H',os,y,un,C,r',q⟩:=h
    have Z:v= .bl true:=q
    subst Z
    obtain rfl:u=Value.bool true:=r'
    refine⟨rfl,OldK.of_keep λb o e=> ?_,os,y⟩
    cases q:H b with
    | none=>exact un.keep b o e q (by intro z;exact absurd (show b∈([]:List Addr)from z) (by simp)) (by simp)
    | some u=>
     rcases U b with z | ⟨ob,xs,z⟩
     ·rw [q]at z;cases z
     ·have z2:=un.cv b ob _ z
      obtain⟨R,_⟩:=j b _ z
      obtain⟨e2,_⟩:=C b _ z2
      rw [e]at R;cases R
      exact e2
 cases O:K.lookup a with
 | some o=>
  have e:=T a o O
  rw [D]at e
  cases e
  refine g (λ_=>u0) (λ_=> .inl rfl) (.inr ⟨_,vs.toArray,_,O,rfl,rfl,rfl,by rw [Ab2,A];exact S,by simpa using rv⟩) (λb u z=>by have p:(none:Option HO)=y0 u:=z;cases p) (λb z=>absurd rfl z) λz=>absurd rfl z
 | none=>
  refine g (fun b=>if b=a then some (.dU { cls:= .type "list",data:= .seq vs.toArray } (.lst (ns.map V.int)))else none) (fun b=> ?_) (.inl (.inr ⟨{ cls:= .type "list",data:= .seq vs.toArray },if_pos rfl⟩)) (fun b u z=> ?_) (fun b z=> ?_) fun _=>O
  ·by_cases c:b=a
   ·exact .inr ⟨_,_,if_pos c⟩
   ·exact .inl (if_neg c)
  ·by_cases c:b=a
   ·have p:=(if_pos c).symm.trans z
    cases p
    subst c
    exact⟨D,by rw [Ac];exact S,vs,_,rv,D⟩
   ·have p:=(if_neg c).symm.trans z
    cases p
  ·by_cases c:b=a
   ·exact c
   ·exact absurd (if_neg c) z
abbrev Hb {K:Aa4}{h:Heap}(_:K.In h):Aa4:=K
def fN {l:PySem.W.OpenLaw}{K:Params->Aa4}{A:World->fR}{C:World->Sp}
 (D:l.most=y0 n) (r:n<=sizeLine) (t:d.params.defaults= []) (M:aW k callerA)
 (L: ∀ w h,YP w h->(K w.params).In h)
 (F: ∀ w mg J h,(K w.params).In h->h.Ns mainGlobals mg->mg d.name=y0 (.ref J) →
   ∃fd:FuncData,(∀ s u,BindsTo s fd ⟨[u],[]⟩ [(x,u)]) ∧
    ∀base:Heap,(K w.params).In base->base.Ns mainGlobals mg->bc l.prog w (K w.params) mg base (A w) k J fd [x] (C w))
 (p: ∀ w H a (j:List Int),j.length<=n->ny H->bu (K w.params) H a (j.map V.int)->C w [.ref a] H (λv _=>v= .bl k9) λ_ _ _=>False)
 (m: ∀ w H s e s',A w [] H s (λ_ _ _=>False) e s'->False):
 PySem.W.WalkO q loose XP YP l.row.toRowW d [] (λf vs=>PySem.call f vs):=by
 refine Att.dP D t λw z i mg U J o W T E a vs j G Y X S I y g c b R=> ?_
 have B:=L w _ Y
 obtain⟨fd,N,O⟩:=F w mg J _ B G.T.g y
 exact vV B G.T.g G.T.b G.T.builtins G.T.nolimit R g c (Ab8 b r) M O N (λH Q P=>p w H a j b Q P) λH e s'=>m w H i e s'
noncomputable def EY (s:Stmt):Arguments:=match s with
 | .FunctionDef _ a _ _ _ _ _ _ _ _=>a
 | _=> { posonlyargs:= [],args:= [],vararg:=u0,kwonlyargs:= [],kw_defaults:= [],kwarg:=u0,defaults:= [] }
def JB (s:Stmt):List Stmt:=match s with
 | .FunctionDef _ _ b _ _ _ _ _ _ _=>b
 | _=> []
noncomputable def Jl (s:Stmt):Scope:=match s with
 | .FunctionDef _ _ _ _ _ _ a _ _ _=>a
 | _=> { kind:= .function,names:= [],isGenerator:=y9,isCoroutine:=y9 }
abbrev kj:fR:=λ_ _ _ _ _ _=>False
abbrev E0:XK:=λ_ _ _=>False
structure h8 (K:Aa4) (x y7:Str) (st:Stmt) (f:Addr) (fd:FuncData):Prop where
 ex: ∃(oc:Value) (od:Option Addr) (kV doc pm:Value) (an:Option Addr) (cdv ct:Value) (osl:Array (Option Value)),
  fd=PySem.W.fnOf x y7 (EY st) (JB st) (Jl st) .none kV doc pm an cdv ct/\K.lookup f=y0 ⟨oc,od,.func fd,osl⟩/\PySem.W.codeIn K cdv y7=k9
 kp:Af5 K (.ref f)=k9
def XB (h:n<=1000):n<sizeLine:=Nat.lt_of_le_of_lt h (by decide)
section
variable {X:Cx}
def pv (i)(d:X.N[i]? =some x:=by rfl) (c:gs X.env.scope x:=by first | exact Or.inl rfl | exact Or.inr (Or.inl rfl) | exact Or.inr (Or.inr rfl)) (b:(x==("__debug__" :Str))=false:=by decide)
 (a:(x==("__classdict__" :Str))=false:=by decide):PE X (.Name x pos) (lS i):=Zx d c b a
end
def mO {A B:Prop}(h:B):if y9=k9 then A else B:=by
 exact h
def mK {A B:Prop}(h:A):if k9=k9 then A else B:=by
 exact h
end L2
set_option maxHeartbeats 4000000
namespace L2
open PySem PySem.Spec PyProof.Rows
noncomputable def qf (env:Env) (a:List (Str×Addr)) (y:Str×NameKind):List (Str×Addr):=
 if y.2== .free then(match env.cells.lookup y.1 with | some c=>(y.1,c)::a | none=>a)else a
def qF (a:Scope) (env:Env):List (Str×Addr):=a.names.foldl (qf env) []
theorem oO : ∀(a:List (Str×NameKind)) i,(∀ y∈a,y.2= .free-> ∃c,env.cells.lookup y.1=y0 c) →
 (do
   let mut j:=i
   for (name,kind) in a do
    if kind== .free then j:=(name,←cellOf env name)::j
   return j:Sem (List (Str×Addr)))=pure (a.foldl (qf env) i)
 | [],i,_=>by simp
 | (n,k)::r,i,h=>by
  have f:=λj=>oO r j λy g=>h y (Aa0 _ g)
  by_cases d:k= .free
  ·subst d
   obtain⟨c,b⟩:=h (n,.free) Aa rfl
   have b:=b
   have e:qf env i (n,.free)=(n,c)::i:=by
    show(if (NameKind.free==NameKind.free)=k9 then(match env.cells.lookup n with | some c=>(n,c)::i | none=>i)else i)=_
    rw [if_pos (show (NameKind.free==NameKind.free)=k9 from rfl),b]
   rw [Ae1,e,←f]
   simp [cellOf,b]
  ·have l:(k==NameKind.free)=false:=by simpa using d
   have e:qf env i (n,k)=i:=by
    show(if (k==NameKind.free)=k9 then _ else i)=_
    rw [l,if_neg Ab1]
   rw [Ae1,e,←f]
   simp [d]
def zK (h: ∀y∈scope.names,y.2= .free-> ∃c,env.cells.lookup y.1=y0 c):closureFor scope env=pure (qF scope env):=
 oO scope.names [] h
theorem ZB : ∀(a:List (Str×NameKind)) i,(∀ x c,i.lookup x=y0 c->env.cells.lookup x=y0 c)-> ∀x c,(a.foldl (qf env) i).lookup x=y0 c->env.cells.lookup x=y0 c
 | [],_,h=>h
 | (n,k)::r,i,h=>by
  refine ZB r (qf env i (n,k)) λx c e=> ?_
  unfold qf at e
  split at e
  ·split at e
   ·rename_i f d
    rw [Ab4]at e
    cases b:x==n with
    | true=>
     rw [b]at e
     have:x=n:=by simpa using b
     subst this
     cases e
     exact d
    | false=>rw [b]at e;exact h x c e
   ·exact h x c e
  ·exact h x c e
theorem wO (d:env.cells.lookup x=y0 c): ∀(a:List (Str×NameKind)) j,((x,.free)∈a\/ ∃i,j.lookup x=y0 i)-> ∃i,(a.foldl (qf env) j).lookup x=y0 i
 | [],j,h=>h.elim (λz=>absurd z (by simp)) id
 | (n,k)::r,j,h=>by
  refine wO d r (qf env j (n,k)) ?_
  have b:(∃ i,j.lookup x=y0 i)-> ∃i,(qf env j (n,k)).lookup x=y0 i:=by
   rintro ⟨i,e⟩
   unfold qf
   split
   ·split
    ·rw [Ab4]
     cases x==n with
     | true=>exact⟨_,rfl⟩
     | false=>exact⟨i,e⟩
    ·exact⟨i,e⟩
   ·exact⟨i,e⟩
  rcases h with h | h
  ·rcases Aa5.mp h with h | h
   ·cases h
    refine .inr ⟨c,?_⟩
    show Ag6 x (if (NameKind.free==NameKind.free)=k9 then(match env.cells.lookup x with | some c=>(x,c)::j | none=>j)else j)=_
    rw [if_pos (show (NameKind.free==NameKind.free)=k9 from rfl),d]
    simp
   ·exact .inl h
  ·exact .inr (b h)
def ZP (I:Nat->Shared->Prop)
 (k: ∀n s,I n s->wpAny (model prog w) A (pyNext it) (λr j=>match r with
   | none=>R (.ok .next) j
   | some v=>wpAny (model prog w) A (letOwnedTupleGo tg it v) (λ_ i=>wpAny (model prog w) A (assign tg env v) (λ_ M=>
    wpAny (model prog w) A (forIn ifs k9 λc r=>if r=k9 then do let ok ←isTrue c env (eval c env);pure (ForInStep.yield ok)else pure (ForInStep.yield r)) (λok q=>
     if ok=k9 then wpAny (model prog w) A (eval elt env) (λx J=>
      wpAny (model prog w) A (call (.builtin "list.append") [acc,x]) (fun _ L=> ∃m,m<n/\I m L) (notedBy (model prog w) A env fun e s'=>R (.error e) s') J) (notedBy (model prog w) A env fun e s'=>R (.error e) s') q
     else ∃m,m<n/\I m q) (notedBy (model prog w) A env λe s'=>R (.error e) s') M) (notedBy (model prog w) A env λe s'=>R (.error e) s') i) (notedBy (model prog w) A env λe s'=>R (.error e) s') j) (notedBy (model prog w) A env λe s'=>R (.error e) s') s)
 (n) (h:I n s):codeAny (model prog w) A (.compLoop (.ListComp elt [⟨tg,iter,ifs,0⟩] scope pos) 0 it acc env) R s:=by
 refine codeAny_loop rfl I (λn s p=> ?_) n h
 refine wpAny_noted ?_
 rw [compTurn_list]
 refine wpAny_bind (wpAny_standAt (wpAny_bind (wpAny_mono (k n s p) (λr j d=> ?_) λ_ _ a=>a)))
 cases r with
 | none=>exact wpAny_pure d
 | some v=>
  refine wpAny_bind (wpAny_mono d (λ_ i f=> ?_) λ_ _ a=>a)
  refine wpAny_bind (wpAny_mono f (λ_ M o=>wpAny_bind (wpAny_mono o (λok q b=> ?_) λ_ _ a=>a)) λ_ _ a=>a)
  cases ok with
  | false=>exact wpAny_pure ⟨rfl,b⟩
  | true=>
   exact wpAny_bind (wpAny_bind (wpAny_mono b (λx J l=>wpAny_bind (wpAny_mono l (λ_ L g=>wpAny_pure (wpAny_pure ⟨rfl,g⟩)) λ_ _ a=>a)) λ_ _ a=>a))
theorem xT : ∀ i n j,(x,NameKind.cell)∉i->(cellsFrom n i j).lookup x=j.lookup x
 | [],_,_,_=>rfl
 | (y,k)::r,n,j,h=>by
  unfold cellsFrom
  split
  ·rename_i a
   have a:=by simpa using a
   subst a
   rw [xT r (n+1) _ λz=>h (Aa0 _ z),Ab4]
   cases b:x==y with
   | true=>
    have:x=y:=by simpa using b
    subst this
    exact absurd Aa h
   | false=>rfl
  ·exact xT r n j λz=>h (Aa0 _ z)
theorem XU : ∀ i (h:Heap) j J,(j.lookup x=y0 c->J\/(h.IsCell c u0/\(x,NameKind.cell)∈i\/h.IsCell c u0/\J))-> ∀lo,lo<=h.objs.size →
 (cellsFrom h.objs.size i j).lookup x=y0 c->j.lookup x=y0 c\/(lo<=c/\(x,NameKind.cell)∈i/\(pushCells h i).IsCell c u0)
 | [],_,_,_,_,_,_,e=> .inl e
 | (y,k)::r,h,j,J,n,lo,d,e=>by
  unfold cellsFrom at e
  unfold pushCells
  split at e
  ·rename_i a
   rw [if_pos a]
   have a:=by simpa using a
   subst a
   have e:(cellsFrom (h.push { cls:= .type "cell",data:= .cell none }).objs.size r ((y,h.objs.size)::j)).lookup x=some c:=by rw [Heap.size_push];exact e
   rcases XU r (h.push { cls:= .type "cell",data:= .cell none }) _ True (fun _=> .inl trivial) lo (by rw [Heap.size_push];omega) e with q | ⟨f,g,m⟩
   ·rw [Ab4]at q
    cases l:x==y with
    | true=>
     rw [l]at q
     have:x=y:=by simpa using l
     subst this
     cases q
     exact .inr ⟨d,List.mem_cons_self,(show (h.push { cls:= .type "cell",data:= .cell none }).IsCell h.objs.size none from⟨_,Heap.get?_push_size _ rfl,rfl⟩).keeps fun b o e=>pushCells_keeps r _ b o e⟩
    | false=>
     rw [l]at q
     exact .inl q
   ·exact .inr ⟨f,Aa0 _ g,m⟩
  ·rename_i a
   rw [if_neg a]
   rcases XU r h j True (λ_=> .inl trivial) lo d e with q | ⟨f,g,m⟩
   ·exact .inl q
   ·exact .inr ⟨f,Aa0 _ g,m⟩
theorem lW: ∀(j) (n) (i),(∀ x c,i.lookup x=y0 c->c<n)->(∀ x y c,i.lookup x=y0 c->i.lookup y=y0 c->x=y) →
 ∀x y c,(cellsFrom n j i).lookup x=y0 c->(cellsFrom n j i).lookup y=y0 c->x=y
 | [],_,_,_,a=>a
 | (z,k)::r,n,i,b,a=>by
  unfold cellsFrom
  split
  ·have look: ∀x c,((z,n)::i).lookup x=y0 c->(x=z/\c=n)\/(i.lookup x=y0 c):=λx c e=>by
    rw [Ab4]at e
    cases d:x==z with
    | true=>
     rw [d]at e
     cases e
     exact .inl ⟨by simpa using d,rfl⟩
    | false=>
     rw [d]at e
     exact .inr e
   refine lW r (n+1) _ (λx c e=> ?_) λx y c f h=> ?_
   ·rcases look x c e with⟨_,q⟩ | q
    ·exact q▸Ae4 n
    ·exact Nat.lt_succ_of_lt (b x c q)
   ·rcases look x c f with⟨o,m⟩ | p<;>rcases look y c h with⟨g,l⟩ | q
    ·rw [o,g]
    ·exact absurd (m▸b y c q) (Ae7 _)
    ·exact absurd (l▸b x c p) (Ae7 _)
    ·exact a x y c p q
  ·exact lW r n i b a
theorem XH : ∀(a:List (Str×NameKind)) i,(a.foldl (qf env) i).lookup x=y0 c->i.lookup x=y0 c\/(x,NameKind.free)∈a
 | [],_,h=> .inl h
 | (y,k)::r,i,h=>by
  rcases XH r _ h with q | q
  ·unfold qf at q
   split at q
   ·rename_i b
    have b:=by simpa using b
    subst b
    split at q
    ·rw [Ab4]at q
     cases d:x==y with
     | true=>
      have:x=y:=by simpa using d
      subst this
      exact .inr Aa
     | false=>
      rw [d]at q
      exact .inl q
    ·exact .inl q
   ·exact .inl q
  ·exact .inr (Aa0 _ q)
theorem WN {env:Env}: ∀ {b:List (Str×NameKind)}{x},
 ((b.map λ(n,k)=>if(k==NameKind.free&&env.scope.kind== .function&&env.kindOf n==y0 .cell)then(n,NameKind.cell)else(n,k)).lookup x=y0 .cell ∨
   (b.map λ(n,k)=>if(k==NameKind.free&&env.scope.kind== .function&&env.kindOf n==y0 .cell)then(n,NameKind.cell)else(n,k)).lookup x=y0 .free)->(x,.free)∈b\/(x,.cell)∈b
 | [],_,h=>by simp at h
 | (n,k)::r,x,h=>by
  have e:= @WN env r x
  rw [Ac0]at h
  by_cases a:(k==NameKind.free&&env.scope.kind== .function&&env.kindOf n==y0 .cell)=k9
  ·have f:=by
    rw [Aa9,Aa9]at a
    simpa using a.1.1
   subst f
   simp only [a,if_true,Ab4]at h
   cases c:x==n with
   | true=>
    have:x=n:=by simpa using c
    subst this
    exact .inl Aa
   | false=>
    rw [c]at h
    exact(e h).imp (Aa0 _) (Aa0 _)
  ·have d:=Ai.mpr a
   simp only [d,Af7,if_false,Ab4]at h
   cases c:x==n with
   | true=>
    have:x=n:=by simpa using c
    subst this
    rw [c]at h
    rcases h with h | h
    ·have:k= .cell:=by simpa using h
     subst this
     exact .inr Aa
    ·have:k= .free:=by simpa using h
     subst this
     exact .inl Aa
   | false=>
    rw [c]at h
    exact(e (by simpa using h)).imp (Aa0 _) (Aa0 _)
theorem oG: ∀ {a:List (Str×NameKind)}{x}{k i},(a.map Prod.fst).Nodup->(x,k)∈a->(x,i)∈a->k=i
 | (y,j)::r,x,k,i,d,f,e=>by
  rw [Ac0,Ag]at d
  rcases Aa5.mp f with b | b<;>rcases Aa5.mp e with c | c
  ·cases b;cases c;rfl
  ·cases b;exact absurd (Ae.mpr ⟨_,c,rfl⟩) d.1
  ·cases c;exact absurd (Ae.mpr ⟨_,b,rfl⟩) d.1
  ·exact oG d.2 b c
theorem JW: ∀ {a:List (Str×NameKind)}{x}{k},(a.map Prod.fst).Nodup->(x,k)∈a->a.lookup x=y0 k
 | (y,j)::r,x,k,b,h=>by
  rw [Ac0,Ag]at b
  rw [Ab4]
  rcases Aa5.mp h with e | e
  ·cases e;simp
  ·have:(x==y)=false:=by
    cases c:x==y with
    | false=>rfl
    | true=>
     have:x=y:=by simpa using c
     subst this
     exact absurd (Ae.mpr ⟨_,e,rfl⟩) b.1
   rw [this]
   exact JW b.2 e
def gS (a:Scope) (C:Addr) (env:Env):List (Str×Addr):=cellsFrom (C+1) a.names (qF a env)
def zv 
 (d:Q (newEnv scope s.heap.objs.size globals (cellsFrom (s.heap.objs.size+1) scope.names cl) y7 u0 .none (y0 env) builtinsNs) { s with heap:=pushCells (s.heap.push { cls:= .type "dict",data:= .dict #[] }) scope.names }):
 wpAny M A (newFunctionEnv scope globals cl [] y7 u0 .none (y0 env)) Q E s:=by
 simp only [newFunctionEnv,Option.isSome_some,if_true]
 refine wpAny_bind (wpAny_alloc ?_)
 refine wpAny_bind (wpAny_layCells _ (λname a b=>by cases c:a==NameKind.cell<;>simp [c]) _ _ _ _ ?_)
 rw [show ({ s with heap:=s.heap.push { cls:= .type "dict",data:= .dict #[] } }:Shared).heap.objs.size=s.heap.objs.size+1 from Heap.size_push ..]
 refine wpAny_bind ?_
 exact wpAny_pure (wpAny_pure d)
noncomputable def je (X:Cx) (N:List Str) (a:Scope) (C:Addr) (b:List Addr) (s:Shared) (H:Hp):Cx where
 prog:=X.prog
 w:=X.w
 K:=X.K
 mg:=X.mg
 base:=X.base
 A:=X.A
 N:=N
 s₀:=s
 H₀:=H
 env:=compEnvC a (gS a C X.env) C X.env
 outer:=X.stack
 stack:=X.stack
 ex:=b
 fn:=λx=>u9 (a.names.lookup x=y0 .cell)
 calm:=X.calm
 pn:= []
 xe:=λ_ _=>False
def cm (X:Cx):List Nat->List Str->Prop
 | [],[]=>True
 | j::a,x::xs=>X.N[j]? =y0 x/\(X.env.kindOf x=y0 .cell\/X.env.kindOf x=y0 .free)/\cm X a xs
 | _,_=>False
theorem cm.get {U:St}: ∀ {aE}{xs}{i:Nat}{x}{v},cm X aE xs->xs[i]? =y0 x->(aE.map λj=>(U[j]?).join)[i]? =y0 (y0 v) →
 ∃j:Nat,X.N[j]? =y0 x/\U[j]? =y0 (y0 v)/\(X.env.kindOf x=y0 .cell\/X.env.kindOf x=y0 .free)
 | [],[],_,_,_,_,e,_=>by simp at e
 | [],_::_,_,_,_,h,_,_=>h.elim
 | _::_,[],_,_,_,h,_,_=>h.elim
 | j::d,g::xs,0,x,v,h,b,a=>by
  obtain⟨f,c,_⟩:=h
  simp at b
  subst b
  refine⟨j,f,?_,c⟩
  have a:y0 ((U[j]?).join)=y0 (y0 v):=by simpa using a
  have a:=Ae5.inj a
  cases q:U[j]? with
  | none=>rw [q]at a;cases a
  | some z=>rw [q]at a;have:z=y0 v:=a;rw [this]
 | j::d,g::xs,i+1,x,v,h,b,a=>cm.get h.2.2 (by simpa using b) (by simpa using a)
theorem cm.length : ∀ {aE}{xs},cm X aE xs->aE.length=xs.length
 | [],[],_=>rfl
 | [],_::_,h=>h.elim
 | _::_,[],h=>h.elim
 | _::_,_::_,h=>congrArg (· +1) (cm.length h.2.2)
def kH (k:Nat) (aE:List Nat) (U:St):St:=Aa1 k u0++aE.map λ(j:Nat)=>(U[j]?).join
def fD (X:Cx) (a:List Expr) (t:TT):Prop:=
 ∀(y8:List (Addr×Obj)) (s:Shared) (U:St) (H:Hp) (Q:Bool->Hp->Prop),Inv X y8 U H s->t U H Q →
  wpAny (model X.prog X.w) X.A (forIn a k9 λc r=>if r=k9 then do let ok ←isTrue c X.env (eval c X.env);pure (ForInStep.yield ok)else pure (ForInStep.yield r)) (TP X y8 U Q) X.xe s
def yu:TT:=λ_ H Q=>Q k9 H
def tI :fD X [] yu:=λ_ _ _ H _ I h=>wpAny_tests_nil ⟨H,I,h⟩
def rN (h:PT X c t):fD X [c] t:=λa s U H Q I b=>wpAny_tests_one (h a s U H Q I b)
def yS (J:It) (g:TG) (j:TT) (l:TE) (n:St) (k:Hp) (Q:VK):Prop:= ∃W:Nat->Nat->List V->St->Hp->Prop,(∃ m,W 0 m [] n k)/\ ∀i m ys Z H,W i m ys Z H →
 (J.stop i H/\ys.length<=sizeLine/\ ∀D,H D=u0->Q (.ref D) (aI H D (.lst ys))) ∨
 (J.go i H/\ys.length<sizeLine/\ ∃N:List V->St->Hp->Prop,(∀ a d H',N a d H'-> ∃f,f<m/\W (i+1) f a d H') ∧
   ∀x H',J.ek i H x H'->g x Z H' λc H2=>j c H2 λb e=>if b=k9 then l c e λy h=>N (ys++ [y]) c h else N ys c e)
abbrev iz (a:Type):=Addr->List Addr->Shared->Hp->a
def kO (k:Nat) (aE:List Nat) (a:TI) (g:iz TG) (b:iz TT) (c:iz TE):TE:=λU H Q=>a U H λJ H1=> ∀C fp s,yS J (g C fp s H1) (b C fp s H1) (c C fp s H1) (kH k aE U) H1 Q
def Inv.adopt (I:Inv X y8 U H s) (t:Z6 X y8 H D) (A:X.s₀.heap.objs.size<=D)
 (e:s.heap.get? D=y0 { cls:= .type "list",data:= .seq its.toArray n }) (r:Vals ys its) (y:ys.length<=sizeLine):Inv X y8 U (aI H D (.lst ys)) s:=by
 obtain⟨m,E,F,G,j,l⟩:=t
 have a: ∀b o,H b=y0 o->aI H D (.lst ys) b=y0 o:=λb o q=>by rw [xa (zb q m)];exact q
 have d: ∀b o,X.s₀.heap.get? b=y0 o->b≠D:=λb o q z=>by rw [z]at q;exact absurd (Ab3 (Ab5 q) A) (Ae7 _)
 refine⟨I.ok,I.os,I.bare,⟨I.base.keep,I.base.slot,λb o f w B=> ?_,I.base.there,λb h q=>a b _ (I.base.cI b h q),λb o u q=>a b _ (I.base.cv b o u q),λb C q=> ?_⟩,I.loc,I.cell,?_,λx c q=> ?_,λp i=> ?_,λb u q=> ?_,I.len⟩
 ·rw [xa (d b o f)];exact I.base.free b o f w B
 ·obtain⟨more,k⟩:=I.base.cF b C q
  exact⟨more,a b _ k⟩
 ·rw [xa (Ne.symm E)];exact I.free
 ·rw [xa (j x c q)];exact I.bH x c q
 ·obtain⟨v,a2,a3⟩:=I.pin p i
  exact⟨v,by rw [xa (l p i)];exact a2,a3⟩
 ·by_cases g:b=D
  ·subst g
   rw [jb]at q
   cases q
   exact⟨y,its,n,r,e⟩
  ·rw [xa g]at q
   exact(I.aN b u q).cP (λ_ _ _ z=>z) (λc z=>a c _ z) λc h z=>a c _ z
theorem Zj {env:Env}: ∀ {b:List (Str×NameKind)}{x},b.lookup x=y0 .free →
 ((b.map λ(n,k)=>if(k==NameKind.free&&env.scope.kind== .function&&env.kindOf n==y0 .cell)then(n,NameKind.cell)else(n,k)).lookup x=y0 .cell ∨
   (b.map λ(n,k)=>if(k==NameKind.free&&env.scope.kind== .function&&env.kindOf n==y0 .cell)then(n,NameKind.cell)else(n,k)).lookup x=y0 .free)
 | [],_,h=>by simp at h
 | (n,k)::r,x,h=>by
  have e:= @Zj env r x
  rw [Ac0]
  rw [Ab4]at h
  cases d:x==n with
  | true=>
   rw [d]at h
   have f:=by simpa using h
   subst f
   by_cases a:(NameKind.free==NameKind.free&&env.scope.kind== .function&&env.kindOf n==y0 .cell)=k9
   ·simp only [a,if_true,Ab4,d]
    first | exact .inl rfl | exact .inl trivial | simp
   ·have c:=Ai.mpr a
    simp only [c,Af7,if_false,Ab4,d]
    first | exact .inr rfl | exact .inr trivial | simp
  | false=>
   rw [d]at h
   have q:=e h
   by_cases a:(k==NameKind.free&&env.scope.kind== .function&&env.kindOf n==y0 .cell)=k9
   ·simp only [a,if_true,Ab4,d]
    exact q
   ·have c:=Ai.mpr a
    simp only [c,Af7,if_false,Ab4,d]
    exact q
structure zN (X:Cx) (scope:Scope) (N:List Str) (k:Nat) (aE:List Nat):Prop where
 kind:scope.kind= .function
 nd:(scope.names.map Prod.fst).Nodup
 names: ∀y∈scope.names,y.2= .local->scope.names.lookup y.1=y0 .local
 free: ∀y∈scope.names,y.2= .free->X.env.kindOf y.1=y0 .cell\/X.env.kindOf y.1=y0 .free
 gd: ∀x∈N.drop k,scope.names.lookup x=y0 .free
 aE:cm X aE (N.drop k)
 le:k<=N.length
structure Hc (sc scope:Scope) (N:List Str) (k:Nat):Prop where
 kind:scope.kind= .function
 nd:(scope.names.map Prod.fst).Nodup
 names: ∀y∈scope.names,y.2= .local->scope.names.lookup y.1=y0 .local
 free: ∀y∈scope.names,y.2= .free->sc.names.lookup y.1=y0 .cell\/sc.names.lookup y.1=y0 .free
 gd: ∀x∈N.drop k,scope.names.lookup x=y0 .free
 le:k<=N.length
section
variable {X:Cx}{elt tg iter:Expr}{ifs:List Expr}{scope:Scope}{pos p0:Pos}{N:List Str}{k:Nat}{aE:List Nat}{wi:TI}{g:iz TG}{tc:iz TT}{te:iz TE}
def X9 (ok:zN X scope N k aE) (a:Inv X y8 U H2 s2) (J: ∀b∈fp,Z6 X y8 H2 b) (P: ∀b∈fp,b<s2.heap.objs.size)
 (w:s2.heap.objs.size<=C) (L:h₁.Ns C m) (g: ∀b o,s2.heap.get? b=y0 o->h₁.get? b=y0 o)
 (d: ∀x c,(gS scope C X.env).lookup x=y0 c->(qF scope X.env).lookup x=y0 c\/(C+1<=c/\(x,NameKind.cell)∈scope.names/\h₁.IsCell c u0)):
 Inv (je X N scope C fp s2 H2) [] (kH k aE U) H2 { s2 with heap:=h₁,toks:=tk }:=by
 have sub: ∀x c,(qF scope X.env).lookup x=y0 c->X.env.cells.lookup x=y0 c:=ZB scope.names [] λx c e=>by simp at e
 have D: ∀x,(x,NameKind.free)∈scope.names-> ∃c,(qF scope X.env).lookup x=y0 c:=λx H=>by
  obtain⟨c,A⟩:=a.ok.has x (ok.free _ H rfl)
  exact wO A scope.names [] (.inl H)
 have lt: ∀x c,(qF scope X.env).lookup x=y0 c->c<C+1:=λx c e=>by
  obtain⟨v,o,G,_⟩:=a.cell x c (sub x c e)
  exact Nat.lt_succ_of_le (Ab8 (Ag1 (Ab5 G)) w)
 have inj:=lW scope.names _ _ lt λx y c E I=>a.ok.inj x y c (sub x c E) (sub y c I)
 have keep: ∀x c,(x,NameKind.free)∈scope.names->(qF scope X.env).lookup x=y0 c->(gS scope C X.env).lookup x=y0 c:=λx c H e=>by
  unfold gS
  rw [xT scope.names _ _ λz=>by cases oG ok.nd H z]
  exact e
 have B: ∀x,_∈scope.names\/(x,NameKind.cell)∈scope.names-> ∃c,(gS scope C X.env).lookup x=y0 c:=λx s=>by
  rcases s with s | s
  ·obtain⟨c,A⟩:=D x s
   exact⟨c,keep x c s A⟩
  ·exact Ae8.mp (Aj9 scope.names _ (qF scope X.env) (.inl (JW ok.nd s)))
 refine⟨⟨a.ok.mod,ok.kind,a.ok.glob,a.ok.blt,w,inj,λx s=>B x (WN s),λx c t e=> ?_,a.ok.hd,a.ok.frames,.inl rfl,λb n=>⟨?_,λx c e=> ?_⟩,
  λb o e=>a.bs b o e,Ab8 a.ok.gm a.sz,λb o e n=> ?_,λb n z=>(Aa5.mp (a.du b z)).elim (J b n).2.1 (J b n).2.2.1,a.stack,a.cx⟩,
  rfl,a.bare,Un.kept g,⟨m,L,λi x v R h e3=> ?_⟩,λx c e=> ?_,a.aN.fresh w,λx c e=> ?_,λp V=>absurd (show p∈([]:List (Addr×Obj))from V) (by simp),a.aN.kept g,?_⟩
 ·have t:=of_decide_eq_true t
  rcases d x c e with q | q
  ·rcases XH scope.names [] q with z | z
   ·simp at z
   ·have:=JW ok.nd z
    rw [t]at this
    cases this
  ·exact Ab8 w (Ab8 (Af3 C) q.1)
 ·show b≠C
  exact Ac2 (Ab3 (P b n) w)
 ·rcases d x c e with q | q
  ·exact(J b n).2.2.2.2.1 x c (sub x c q)
  ·exact Ne.symm (Ac2 (Ab3 (P b n) (Ab8 w (Ab8 (Af3 C) q.1))))
 ·rcases (J b n).2.2.2.1 with z | z
  ·exact a.ok.eG b o e z
  ·have E:=Ab5 e
   have I:=a.ok.gm
   exact absurd (Ab3 E (Ab8 I z)) (Ae7 _)
 ·have f:k<=i:=by
   by_cases f:i<k
   ·have h:(Aa1 k u0++aE.map λ(j:Nat)=>(U[j]?).join)[i]? =y0 _:=h
    rw [Ad2 (by simpa using f),Ak,if_pos f]at h
    cases h
   ·omega
  have F:(N.drop k)[i-k]? =y0 x:=by
   rw [List.getElem?_drop,show k+(i-k)=i by omega];exact R
  have K:(aE.map λ(j:Nat)=>(U[j]?).join)[i-k]? =y0 (y0 v):=by
   have h:(Aa1 k u0++aE.map λ(j:Nat)=>(U[j]?).join)[i]? =y0 _:=h
   rw [Ad8 (by simpa using f),Ad5]at h
   exact h
  obtain⟨j,W,T,Q⟩:=ok.aE.get (U:=U) F K
  obtain⟨m2,Z,S⟩:=a.loc
  obtain⟨u,r,l⟩:=S j x v W T (.inr (Q.elim (λz=> .inl z) λz=> .inr z))
  refine⟨u,r,.inr ?_⟩
  have t:=ok.gd x (Ai6 F)
  refine⟨Zj t,?_⟩
  obtain⟨c,A⟩:=D x (PySem.mem_of_lookup t)
  refine⟨c,keep x c (PySem.mem_of_lookup t) A,?_⟩
  rcases l with⟨Y,_⟩ | ⟨_,c',O,o,G,M⟩
  ·rcases Q with z | z<;>(rw [Y]at z;cases z)
  ·have d:=sub x c A
   rw [O]at d
   cases d
   exact⟨o,g _ o G,M⟩
 ·rcases d x c e with q | q
  ·obtain⟨v,o,G,M⟩:=a.cell x c (sub x c q)
   exact⟨v,o,g c o G,M⟩
  ·exact⟨u0,q.2.2⟩
 ·rcases d x c e with q | q
  ·exact a.bH x c (sub x c q)
  ·exact a.aN.fresh (Ab8 w (Ab8 (Af3 C) q.1))
 ·show(Aa1 k u0++aE.map λ(j:Nat)=>(U[j]?).join).length=N.length
  have E:=ok.aE.length
  have I:=ok.le
  rw [Aa3,Ad5,Ac,E,Ai4]
  omega
def xP (use) (hc:X.calm=k9) (ok:zN X scope N k aE) (hi:PI X tg iter wi)
 (hg: ∀C fp s H,PG (je X N scope C fp s H) tg (g C fp s H)) (ht: ∀C fp s H,fD (je X N scope C fp s H) ifs (tc C fp s H)) (he: ∀C fp s H,PE (je X N scope C fp s H) elt (te C fp s H))
 (hs: ∀x,foldedSetIterable iter X.env x=pure x)
 (I:Inv X y8 U H s) (h:kO k aE wi g tc te U H Q)
 (fin: ∀(D C:Addr) (oC:Obj) (m:Str->Option Value) (H4:Hp) (s4:Shared),Inv X (y8++ [(C,oC)]) U H4 s4->Z6 X y8 H4 C->Q (.ref D) H4->(∀ h:Heap,h.get? C=y0 oC->h.Ns C m) →
   compPost (model X.prog X.w) X.A X.xe use Q' (.ref D) C (.ok .next) s4):
 wpAny (model X.prog X.w) X.A (comprehension (.ListComp elt [⟨tg,iter,ifs,0⟩] scope pos) scope X.env p0 (newList []) y9 (eval iter X.env) use) Q' X.xe s:=by
 have hcl:closureFor scope X.env=pure _:=zK λy hy hf=>I.ok.has y.1 (ok.free y hy hf)
 refine wpAny_comprehension_free (use:=use) rfl hs hcl ok.kind ok.names (aG (hi y8 s U H _ I h) λv s1 h1=>aG h1 λitv s2 h2=> ?_)
 obtain⟨it,fp,tn,J,H2,e,I2,T,st2,f2,hW⟩:=h2
 subst e
 refine wpAny_newObj_type (zv ?_)
 dsimp only
 generalize hHp:s2.heap.push { cls:= .type "list",dict:=none,data:= .seq ([]:List Value).toArray }=HP
 have hCs:HP.objs.size=s2.heap.objs.size+1:=by rw [← hHp,Ai2]
 generalize hDD:s2.heap.objs.size=D at hCs ⊢
 have hns0:(HP.push { cls:= .type "dict",data:= .dict #[] }).Ns HP.objs.size fun _=>none:=Heap.Ns.new HP _
 have hlk: ∀x c,(gS scope HP.objs.size X.env).lookup x=some c->(qF scope X.env).lookup x=some c\/(HP.objs.size+1<=c/\(x,NameKind.cell)∈scope.names/\(pushCells (HP.push { cls:= .type "dict",data:= .dict #[] }) scope.names).IsCell c none):=fun x c e=>by
  refine XU scope.names _ _ True (λ_=> .inl trivial) _ (by rw [Ai2];exact Aa6 _) ?_
  rw [Ai2]
  exact e
 generalize hh1:pushCells _ scope.names=h₁ at hlk ⊢
 have hns₁:h₁.Ns HP.objs.size λ_=>none:=by rw [← hh1];exact hns0.keeps (pushCells_keeps _ _)
 have hk1: ∀b o,HP.get? b=y0 o->h₁.get? b=y0 o:=λb o e=>by
  rw [← hh1]
  exact pushCells_keeps _ _ b o (Aa8 _ e)
 generalize hCC:HP.objs.size=C at hCs hns₁ hlk ⊢
 have hDC:D≠C:=by rw [hCs];exact Ac2 (Ae4 _)
 have hle:s2.heap.objs.size<=C:=by rw [hDD,hCs];exact Af3 _
 have hleD:s2.heap.objs.size<=D:=Ak9 hDD
 have fo: ∀b∈fp,b<D:=λb hb=>by
  obtain⟨o,eo,_⟩:=T.obj _ _ st2 b hb
  rw [← hDD]
  exact Ab5 eo
 have old: ∀b o,s2.heap.get? b=y0 o->h₁.get? b=y0 o:=λb o e=>by
  exact hk1 b o (hHp▸Aa8 _ e)
 have hacc:h₁.get? D=y0 { cls:= .type "list",data:= .seq ([]:List Value).toArray }:=by
  refine hk1 _ _ ?_
  rw [← hHp,←hDD]
  exact Ac1 _ rfl
 obtain⟨W,⟨m0,w0⟩,turn⟩:=hW C fp s2
 have I3:Inv _ [] _ H2 { s2 with heap:=h₁,toks:=s2.toks }:=
  X9 ok I2 f2 (λb hb=>by rw [hDD];exact fo b hb) hle hns₁ old hlk
 have st3:tn 0 h₁:=T.keep _ _ _ st2 λb _ o e=>old b o e
 have hch: ∀b∈fp,(b∈X.ex\/X.s₀.heap.objs.size<=b)/\b≠X.env.locals/\(∀ x c,X.env.cells.lookup x=y0 c->c≠b)/\ ∀p∈X.pn++y8,p.1≠b:=λb hb=>⟨(f2 b hb).2.2.2.1,(f2 b hb).2.1,(f2 b hb).2.2.2.2.1,(f2 b hb).2.2.2.2.2⟩
 have FD: ∀ {H':Hp},H' D=u0->Z6 X y8 H' D:=λhn=>I2.dn hleD hn
 have FC: ∀ {H':Hp},H' C=u0->Z6 X y8 H' C:=λhn=>I2.dn hle hn
 have sub: ∀x c,(qF scope X.env).lookup x=y0 c->X.env.cells.lookup x=y0 c:=ZB scope.names [] λx c e=>by simp at e
 have hDst:D∉bZ X.stack:=λz=>(Aa5.mp (I2.du D z)).elim (FD (H':=λ_=>u0) rfl).2.1 (FD (H':=λ_=>u0) rfl).2.2.1
 have hDc: ∀x c,(gS scope C X.env).lookup x=y0 c->c≠D:=λx c e=>by
  rcases hlk x c e with q | q
  ·exact(FD (H':=λ_=>u0) rfl).2.2.2.2.1 x c (sub x c q)
  ·exact Ne.symm (Ac2 (Ab3 (by rw [hCs];exact Nat.lt_succ_of_lt (Ae4 _)) q.1))
 have loop: ∀s₃:Shared,s₃= { s2 with heap:=h₁,toks:=s2.toks } →
  codeAny (model X.prog X.w) X.A (.compLoop (.ListComp elt [⟨tg,iter,ifs,0⟩] scope pos) 0 (.ref it) (.ref D) (compEnvC scope (gS scope C X.env) C X.env))
   (compPost (model X.prog X.w) X.A X.xe use Q' (.ref D) C) s₃:=by
  rintro s₃ rfl
  refine ZP (λn s'=> ∃i ys its kk Z H',Inv (je X N scope C fp s2 H2) [] Z H' s'/\tn i s'.heap/\(∀ b∈fp,H' b=u0)/\H' D=u0/\s'.heap.get? D=y0 { cls:= .type "list",data:= .seq (its:List Value).toArray kk }/\Vals ys its/\W i n ys Z H')
   ?_ m0 ⟨0,[],[],0,_,H2,I3,st3,λb hb=>(f2 b hb).1,I2.aN.fresh hleD,hacc,.nil,w0⟩
  rintro n s3 ⟨i,ys,its,kk,Z,H3,I3,st3,fr3,hD3,eD3,rv3,w3⟩
  have IP:Inv (je X N scope C fp s2 H2) [(D,{ cls:= .type "list",data:= .seq its.toArray kk })] Z H3 s3:=I3.bU fun p hp=>by
   have e:p=(D,{ cls:= .type "list",data:= .seq its.toArray kk }):=by simpa using hp
   subst e
   exact⟨eD3,hD3,hDC,hDst,λv z=>by cases z⟩
  have fpok: ∀ {H':Hp},(∀ b∈fp,H' b=u0)-> ∀b∈fp,Z6 (je X N scope C fp s2 H2) [(D,{ cls:= .type "list",data:= .seq its.toArray kk })] H' b:=fun {H'} hn b hb=>by
   refine⟨hn b hb,I3.ok.kI b hb |>.1,I3.ok.eR b hb,.inl hb,I3.ok.kI b hb |>.2,λp hp=> ?_⟩
   have e:p=(D,{ cls:= .type "list",data:= .seq its.toArray kk }):=by
    have hp:p∈([]:List (Addr×Obj))++ [(D,{ cls:= .type "list",data:= .seq its.toArray kk })]:=hp
    simpa using hp
   rw [e]
   exact Ne.symm (Ac2 (fo b hb))
  rcases turn i n ys Z H3 w3 with⟨stop,hz,q⟩ | ⟨go,hz,NN,hN,step⟩
  ·refine aG (T.done (je X N scope C fp s2 H2) rfl rfl rfl hc i _ s3 Z H3 _ IP (fpok fr3) st3 stop) ?_
   rintro r s4 ⟨hr,I4⟩
   subst hr
   have eD4:=(I4.pin _ (Ab _ Aa)).1
   have I5:Inv X y8 U H3 s4:=I2.g0 (ch:=fp) I4.os I4.base I4.aN I4.bare hch
   have I6:=I5.adopt (FD hD3) (Ab8 I2.sz hleD) eD4 rv3 hz
   obtain⟨m,⟨oC,es,ep,hoC,hdC,hr⟩,_⟩:=I4.loc
   have fC:Z6 X y8 (aI H3 D (.lst ys)) C:=FC (by rw [xa (Ne.symm hDC)];exact I4.free)
   have I7:Inv X (y8++ [(C,oC)]) U (aI H3 D (.lst ys)) s4:=I6.bU λp hp=>(Ac8.mp hp).elim (λz=>I6.pin p (Ab _ z)) λz=>by
    have e:p=(C,oC):=by simpa using z
    subst e
    exact⟨hoC,fC.1,fC.2.1,fC.2.2.1,λv z=>by rw [hdC]at z;cases z⟩
   exact fin D C oC m _ s4 I7 fC (q D hD3) λh e=>⟨oC,es,ep,e,hdC,hr⟩
  ·refine aG (T.item (je X N scope C fp s2 H2) rfl rfl rfl hc i _ s3 Z H3 _ IP (fpok fr3) st3 go) ?_
   rintro r s4 ⟨u,hr,h4⟩
   subst hr
   refine aG h4 ?_
   rintro _ s5 ⟨x,H5,I5,r5,y5,st5,fr5⟩
   have I5':=I5.pinned (fpok fr5) (T.obj _ _ st5)
   refine wpAny_mono (hg C fp s2 H2 _ s5 Z H5 x u _ I5' r5 (step x H5 y5)) (λ_ s6 ⟨U6,H6,I6,q6⟩=> ?_) λ_ _ z=>False.elim z
   refine wpAny_mono (ht C fp s2 H2 _ s6 U6 H6 _ I6 q6) (λb s7 ⟨H7,I7,q7⟩=> ?_) λ_ _ z=>False.elim z
   have hp5: ∀b∈fp,∃o,s5.heap.get? b=y0 o:=λb hb=>let ⟨o,e,_⟩:=T.obj _ _ st5 b hb; ⟨o,e⟩
   cases b with
   | false=>
    rw [if_neg Ab1]at q7 ⊢
    obtain⟨m',hm,w7⟩:=hN _ _ _ q7
    refine⟨m',hm,i+1,ys,its,kk,U6,H7,I7.bU λp hp=>absurd hp (by simp),T.keep _ _ _ st5 λb hb o e=>(I7.pin (b,o) (Ab _ (Ab _ (Wh hb e)))).1,λb hb=> ?_,?_,?_,rv3,w7⟩
    ·obtain⟨o,e⟩:=hp5 b hb
     exact(I7.pin (b,o) (Ab _ (Ab _ (Wh hb e)))).2.1
    ·exact(I7.pin _ (Ab _ (Af0 _ Aa))).2.1
    ·exact(I7.pin _ (Ab _ (Af0 _ Aa))).1
   | true=>
    rw [if_pos rfl]at q7 ⊢
    refine wpAny_mono (he C fp s2 H2 _ s7 U6 H7 _ I7 q7) (λy s8 ⟨yv,H8,I8,r8,q8⟩=> ?_) λ_ _ z=>False.elim z
    have pD:=I8.pin _ (Ab _ (Af0 _ Aa))
    have eD8:s8.heap.get? D=y0 { cls:= .type "list",data:= .seq its.toArray kk }:=pD.1
    have hD8:H8 D=none:=pD.2.1
    have u7:=rv3.length
    refine call_meets F.slot_list_append ⟨_,eD8,rfl⟩ F.entry_list_append (F.args_list_append_2 _ _) (PySem.list_append D its.toArray kk y (by rw [Ab2];omega)) ⟨eD8,?_⟩
    obtain⟨m',hm,w8⟩:=hN _ _ _ q8
    have IQ:Inv (je X N scope C fp s2 H2) (QB fp s5.heap) U6 H8 s8:=I8.bU λp hp=>I8.pin p (Ab _ (Ab _ hp))
    have e9:=PySem.IsL.update eD8 (·.push y)
    rw [show its.toArray.push y=(its++ [y]).toArray by simp]at e9
    have I9:Inv (je X N scope C fp s2 H2) (QB fp s5.heap) U6 H8 { s8 with heap:=s8.heap.update D (Obj.mapSeq (·.push y)),toks:=s8.toks }:=
     IQ.turned (it:=D) (λb o hb e=>(Ah9 s8.heap (Obj.mapSeq (·.push y)) (Ne.symm hb)).trans e) hD8 hDC (.inr hleD) hDc λp hp=>by
      have hp:p∈([]:List (Addr×Obj))++QB fp s5.heap:=hp
      have:=fo p.1 (wM (by simpa using hp)).1
      exact Ac2 this
    refine⟨m',hm,i+1,ys++ [yv],its++ [y],_,U6,H8,I9.bU λp hp=>absurd hp (by simp),T.keep _ _ _ st5 λb hb o e=>(I9.pin (b,o) (Ab _ (Wh hb e))).1,λb hb=> ?_,hD8,e9,rv3.append (.cons r8 .nil),w8⟩
    obtain⟨o,e⟩:=hp5 b hb
    exact(I9.pin (b,o) (Ab _ (Wh hb e))).2.1
 exact codeAny_compStart_list (loop _ rfl) (T.self _ 0 _ _ _ st3 (loop _ rfl))
def FL (ok:zN X scope N k aE) (j:PI X tg iter wi)
 (w: ∀C fp s H,PG (je X N scope C fp s H) tg (g C fp s H)) (t: ∀C fp s H,fD (je X N scope C fp s H) ifs (tc C fp s H)) (v: ∀C fp s H,PE (je X N scope C fp s H) elt (te C fp s H))
 (n:X.calm=true:=by rfl) (r: ∀x,foldedSetIterable iter X.env x=pure x:=by intro _;rfl):PE X (.ListComp elt [⟨tg,iter,ifs,0⟩] scope pos) (kO k aE wi g tc te):=by
 intro f s U H Q I h
 refine xP u0 n ok j w t v r I h λD C A m l z i a q c=> ?_
 have u:=i.pin _ (Ab _ (Ab _ Aa))
 refine⟨m,c _ u.1,λy d=>⟨.ref D,l,?_,rfl,q⟩⟩
 exact(i.bQ).turned (λb o p e=>d.extBut b o p e) a.1 a.2.1 a.2.2.2.1 a.2.2.2.2.1 a.2.2.2.2.2
def J5 (u:X.N.Nodup) (d:X.N[i]? =y0 x) (J:iC X.env.scope x) (ok:zN X scope N k aE) (p:PI X tg iter wi)
 (L: ∀C fp s H,PG (je X N scope C fp s H) tg (g C fp s H)) (F: ∀C fp s H,fD (je X N scope C fp s H) ifs (tc C fp s H)) (K: ∀C fp s H,PE (je X N scope C fp s H) elt (te C fp s H))
 (j:swapsWith (.ListComp elt [⟨tg,iter,ifs,0⟩] scope p0) (y0 (.Name x pos')) pos.line X.env=pure true:=by rfl)
 (z:X.calm=true:=by rfl) (E: ∀x,foldedSetIterable iter X.env x=pure x:=by intro _;rfl) (t:X.fn x=k9\/X.env.scope.names.lookup x=y0 .local:=by first | exact .inl rfl | exact .inr rfl | assumption):
 PS X (.Assign [.Name x pos'] (.ListComp elt [⟨tg,iter,ifs,0⟩] scope p0) pos) (gJ (kO k aE wi g tc te) (XQ i)):=by
 intro l s U H D I h
 rw [exec_Assign_Name_used _ _ _ _ j]
 refine wpAny_bind (wpAny_standAt (wpAny_bind ?_))
 refine wpAny_bind (wpAny_mono (xP _ z ok p L F K E I h λB C Q m r P w a q c=> ?_) (λ_ O y=>wpAny_pure (wpAny_pure y)) λ_ _ e=>e)
 refine wpAny_assign_Name (Wn w u d J (v:= .ref B) rfl (λR n=> ?_) t)
 have G:=n.pin _ (Ab _ (Ab _ Aa))
 refine⟨m,c _ G.1,λM f=>⟨_,r,?_,q⟩⟩
 exact(n.bQ).turned (λb o A e=>f.extBut b o A e) a.1 a.2.1 a.2.2.2.1 a.2.2.2.2.1 a.2.2.2.2.2
end
noncomputable def lL (K:Aa4) (a:Addr) (n:Nat):It:=
 ⟨λi H=> ∃xs,bu K H a xs/\xs.length=n/\i<n,λi H x H'=>H'=H/\ ∀xs,bu K H a xs->xs[n-1-i]? =y0 x,λi _=>i=n⟩
def ES {K:Aa4}(a it) (n):gE P w K tg (lL K a n) [it] it (λi h=>h.IsRevIter it a ((n:Int)-1-((i:Nat):Int))) where
 mem:=by simp
 obj:=λi h f b j=>by
  have e:=by simpa using j
  subst e
  obtain⟨o,e,c,d⟩:=f
  exact⟨o,e,λv z=>by rw [d]at z;cases z⟩
 keep:=λi h x f k=>f.at λo e=>k it (by simp) o e
 item:=by
  intro X y F r J i g s U H E I q f m
  subst y F r
  obtain⟨L,G,hl,Z⟩:=m
  obtain⟨S,rv,p,hz⟩:=I.list G
  have M:L[n-1-i]? =y0 (L[n-1-i]'(by omega)):=Aa7 (by omega)
  obtain⟨u,R,O⟩:=rv.get M
  obtain⟨C,t,V,B,A,D⟩:=q it (by simp)
  have e: n-1- (i:Nat)=((n-1-i:Nat):Int):=by omega
  have f:=f
  rw [e]at f
  refine wpAny_pyNext_rev_item f p.isList (by simpa using R) λx l Y=> ?_
  have N:Inv X g U H { s with heap:=x }:=I.turned (λb o j e=>(Y.2 b j).trans e) C t B A D
  have Q: (n-1-i:Nat)-1= n-1-((i+1:Nat):Int):=by omega
  rw [Q]at l
  obtain⟨o,e,c,d⟩:=id l
  exact⟨u,rfl,xS e c d (by decide) ⟨_,H,N,O,⟨rfl,λys W=>by rw [I.dE W G];exact M⟩,l,λb j=>(q b j).1⟩⟩
 done:=by
  intro X y F r J i g s U H E I q f m
  subst y F r
  have m:=m
  subst m
  obtain⟨C,t,V,B,A,D⟩:=q it (by simp)
  have e: i-1-((i:Nat):Int)= -1:=by omega
  have f:=f
  rw [e]at f
  exact wpAny_pyNext_rev_end (I.ok.hd J) f λx T=>⟨rfl,I.turned (λb o j e=>T b o j e) C t B A D⟩
 self:=λ_ _ _ _ _ f h=>wpAny_pyIter_revIter f h
section
variable {X:Cx}{tg:Expr}
def Fm (K:Aa4) (b:TA):TI:=λU H R=>b U H λc H1=> ∃a xs,c= [.ref a]/\bu K H1 a xs/\R (lL K a xs.length) H1
def ni (B:Gl X "reversed") (w:X.mg "reversed" =none) (n:PA X [a] ta) (y:starEach [a] X.env= [(false,eval a X.env)]:=by rfl):PI X tg (.Call (.Name "reversed" p) [a] [] pos) (Fm X.K ta):=by
 intro f s U H R I h
 refine Call_ (XC I B w boot_reversed (PyProof.Rows.callWith_type1 (aG (n pos f s U H _ I h) λD j ⟨E,A,i,m,t⟩=> ?_) y rfl))
 obtain⟨b,d,e,u,q⟩:=t
 subst e
 cases m with
 | cons r v=>
  cases v
  cases r
  obtain⟨k,rv,z,C⟩:=i.list u
  refine call_reversed_list z.isList ?_
  have g:k.toArray.size=d.length:=by rw [Ab2];exact rv.length.symm
  rw [g]
  have l:(j.heap.push (revObj b (d.length-1))).IsRevIter j.heap.objs.size b (d.length-1- (0:Nat)):=by
   refine⟨_,Ac1 _ rfl,rfl,?_⟩
   rw [show d.length-1- (0:Nat)=(d.length:Int)-1 by lia]<;>rfl
  refine wpAny_pyIter_revIter l ?_
  refine⟨j.heap.objs.size,[j.heap.objs.size],_,_,A,rfl,i.kept λb o e=>Aa8 _ e,ES b _ d.length,l,λc x=> ?_,q⟩
  have e:=by simpa using x
  subst e
  exact i.dn (Aa6 _) (i.aN.fresh (Aa6 _))
end
structure Hj (P:Program) (w:World) (K:Aa4) (mg:Str->Option Value) (base:Heap) (k:Nat) (x:Str) (ps:List Str) (sp:Sp):Prop where
 ex: ∃f fd,bc P w K mg base kj k f fd ps sp/\Binds K fd ps []/\Af5 K (.ref f)=k9/\mg x=y0 (.ref f)
open PySem PySem.Spec PySem.Calls PySem.W PyProof.Rows
structure gk (K:Frag) (C:Addr):Prop where
 ga:findIn K (.ref C) "__getattribute__" =some (some (.builtin "BaseException.__getattribute__"))
 gn:findIn K (.ref C) "__getattr__" =some none
 cl:findIn K (.ref C) "__class__" =some (some (.builtin "object.__class__"))
 get:specialIn K (.builtin "object.__class__") "__get__" =some (some (.builtin "getset_descriptor.__get__"))
 set:takesIn K (.builtin "object.__class__")=some true
 obj:mroIn K C (.type "object")=some true
 bas:mroIn K C (.type "BaseException")=some true
 slf:kitCls K (.ref C) (.ref C)=y0 k9
 cls:(clsIn K C).isSome=k9
def ExcAt (h:Heap) (x C:Addr):Prop:= ∃o,h.get? x=y0 o/\o.cls= .ref C
def ExcAt.type (e:ExcAt h x C):Looks M h (typeOf (.ref x)) (.ref C):=by
 obtain⟨o,a,b⟩:=e
 rw [← b]
 exact(Looks.ld a).andThen Looks.now
section
variable {prog:Program}{w:World}{A:Around}{E:Value->Shared->Prop}{s:Shared}{K:Frag}{x C:Addr}
def wS (X:K.In s.heap) (I:ExcAt s.heap x C) (Z:gk K C) (a:R (.ok (.ret (.ref C))) s):
 codeAny (model prog w) A (.call (.builtin "getset_descriptor.__get__") ⟨[.builtin "object.__class__",.ref x,tp],[]⟩) R s:=by
 obtain⟨b,c,dd,g,d⟩:=s
 have e:=I.type (M:=model prog w)
 have f:=looks_mroIn (M:=model prog w) X Z.obj
 refine codeAny_call_builtin KF.slot_gs.plain KF.entry_gs (KF.slot_gs.check _ _ _ _ _ _ _ _ KF.type_class (KF.args_gs _ _ _) ?_)
 unfold Builtin.«getset_descriptor.__get__» Builtin.Getset_descriptor.descrGet
 rw [dga_obj]
 refine wpAny_bind (wpAny_pure ?_)
 unfold Builtin.Getset_descriptor.descrGetter Builtin.Getset_descriptor.descrCheckInstance Builtin.Getset_descriptor.descrNameAndClass isInstance
 simp only [KF.owner_class]
 repeat lk
 refine⟨Code.quiet_builtin _ (by decide +kernel),codeAny_builtin KF.entry_class ?_⟩
 unfold Builtin.«object.__class__» shownTypeOf
 repeat lk
 exact a
def qQ (X:K.In s.heap) (I:ExcAt s.heap x C) (Z:gk K C) (n:Q (y0 (.ref C)) { s with toks:=s.toks+1 }):
 wpAny (model prog w) A (getAttr? (.ref x) "__class__") Q E s:=by
 obtain⟨b,d,dd,y,e⟩:=s
 have g:=I.type (M:=model prog w)
 have r:=looks_findIn (M:=model prog w) X Z.ga
 have o:=looks_findIn (M:=model prog w) X Z.gn
 have k:=looks_findIn (M:=model prog w) X Z.cl
 have m:=looks_specialIn (M:=model prog w) X Z.get
 have u:=looks_takesIn (M:=model prog w) X Z.set
 have v:=looks_mroIn (M:=model prog w) X Z.bas
 have c:Looks (model prog w) b (Builtin.ObjectAttr.find (.ref x) (.ref C) "__class__") (.bind (.builtin "getset_descriptor.__get__") (.builtin "object.__class__")):=by
  unfold Builtin.ObjectAttr.find
  refine k.andThen ?_
  refine Looks.andThen (show Looks (model prog w) b (Builtin.ObjectAttr.getOf (some (.builtin "object.__class__"))) (some (.builtin "getset_descriptor.__get__"))from m) ?_
  unfold Builtin.ObjectAttr.dataDescriptor?
  refine Looks.andThen (a:=y0 (.builtin "getset_descriptor.__get__",.builtin "object.__class__")) (u.andThen ?_) (Looks.tag Looks.now)
  exact Looks.now
 have i: ∀ A tk Q E t,Q (.done (.ret (.ref C))) ⟨b,d,dd,t,e⟩ →
  wpAny _ A (Builtin.«object.__getattribute__» ⟨[.ref x,.str "__class__" tk],[]⟩) Q E ⟨b,d,dd,t,e⟩:=fun A tk Q E t j=>by
  unfold Builtin.«object.__getattribute__»
  refine wpAny_bind (wpAny_of_eq (a:=(Value.ref x,[Value.str "__class__" tk])) rfl ?_)
  dsimp only
  refine wpAny_bind (wpAny_of_eq (a:=("__class__" :Str)) rfl ?_)
  refine wpAny_bind (g.at (wpAny_bind (c.at ?_)))
  show wpAny _ _ (Builtin.ObjectAttr.bindTo _ _ _ _) _ _ _
  unfold Builtin.ObjectAttr.bindTo
  dsimp only
  exact wpAny_bind (wpAny_holding (wpAny_call (wS X I Z (wpAny_pure j))))
 have f: ∀ A h Q E t,Q () ⟨b,d,dd,t,e⟩ →
  wpAny (model prog w) A (checkBuiltinCall "BaseException.__getattribute__" ⟨[.ref x,h],[]⟩) Q E ⟨b,d,dd,t,e⟩:=fun A h Q E t j=>by
  have q:builtinKind "BaseException.__getattribute__" =some .slot:=by decide +kernel
  have l:splitId "BaseException.__getattribute__" =some ("BaseException", "__getattribute__"):=by decide +kernel
  have p:=F.args_bexc_ga (.ref x) h
  simp only [checkBuiltinCall,q,l]
  refine wpAny_bind ((g.andThen v:Looks (model prog w) b (isInstance (.ref x) (.type "BaseException")) true).at ?_)
  rw [if_neg (by decide)]
  exact wpAny_of_eq p j
 unfold getAttr? getAttrBy? getAttrBy
 refine wpAny_bind (wpAny_mkText (wpAny_bind (wpAny_attempt (wpAny_holding (wpAny_bind (g.at (wpAny_bind (r.at ?_))))))))
 show wpAny _ _ (getAttrByItsOwn _ _ _ _ _ _) _ _ _
 unfold getAttrByItsOwn hookBefore
 refine wpAny_bind (o.at ?_)
 refine wpAny_bind (wpAny_attempt (wpAny_holding ?_))
 show wpAny _ _ (boundAndCalled (.builtin "BaseException.__getattribute__") (.ref x) _) _ _ _
 unfold boundAndCalled
 refine wpAny_bind (wpAny_of_eq (F.excAttr_ValueError.ga.bind _) ?_)
 refine wpAny_call (codeAny_call_builtin F.excAttr_ValueError.ga.plain F.entry_bexc_ga (f _ _ _ _ _ (i _ _ _ _ _ ?_)))
 show wpAny _ _ (handedOut (.ref C)) _ _ _
 exact handed_on rfl (wpAny_pure n)
end
def JK {K:Frag}(Z:gk K C):KitX K (.ref x) (.ref C) (λh=>ExcAt h x C) where
 ty:=λ_ _ _ I=>I.type
 it:=λM h X _=>(kit_cls X Z.slf).2.1
 ne:=λh f dd d n sl X a=>by
  rw [Ai]
  intro q
  have e:=Value.ref.inj (beq_iff_eq.mp q)
  subst e
  have z:=Z.cls
  cases b:K.lookup C with
  | none=>simp [clsIn,b]at z
  | some o=>
   have c:=X C o b
   rw [a]at c
   cases c
   simp [clsIn,b]at z
 ca:=λX I k=>qQ X I Z k
noncomputable def X8 (x C:Addr) (a:Option Addr):HO:= .ext λh=> ∃o,h.get? x=y0 o/\o.cls= .ref C/\notCls o=k9/\ ∀dx,a=y0 dx->o.dict=y0 dx
def DU (e:h.get? x=y0 o) (f:o.cls= .ref C) (d:notCls o=k9) (c: ∀dx,od=y0 dx->o.dict=y0 dx):aP P w H h x (X8 x C od):=
 ⟨⟨o,e,f,d,c⟩,⟨o,e⟩,λi g ⟨o,a,b⟩ k=>⟨o,k o a,b⟩⟩
def rl (K:Frag):List V->Hp->VK->Prop:=λxs H Q=> ∃x C a b,gk K C/\H x=y0 (X8 x C a) ∧
 ((∃ (D:Addr),xs= [.ref x,.ref D]/\kitOne K (.ref C) (.ref D)=y0 b)\/(∃ (T:String),xs= [.ref x,.ty T]/\kitOne K (.ref C) (.type T)=y0 b) ∨
   ∃(t:Addr) (ds:List Addr),xs= [.ref x,.ref t]/\H t=y0 (.tup (ds.map V.ref))/\kitAny K (.ref C) (ds.map Value.ref)=y0 b)/\Q (.bl b) H
theorem JQ: ∀ {ds:List Addr}{us},Vals (ds.map V.ref) us->us=ds.map Value.ref
 | [],_,.nil=>rfl
 | _::_,_,.cons r t=>by
  cases r
  rw [JQ t]
  rfl
def xZ :xo X (.builtin "isinstance") (rl X.K):=by
 intro f s U H E B Q I r h
 obtain⟨x,C,G,b,Z,p,j,q⟩:=h
 have ex:ExcAt s.heap x C:=let ⟨o,a,b,_⟩:=(I.aN x _ p).1; ⟨o,a,b⟩
 obtain⟨D,rfl,e⟩ | ⟨T,rfl,e⟩ | ⟨t,A,rfl,l,e⟩:=j
 ·obtain⟨u,g,rfl,d,c⟩:=Z9 r
  cases d
  cases c
  exact kia_one (JK Z) I.bO ex e (λz=>nomatch z) λtk=>⟨.bl b,H,I.tok tk,rfl,q⟩
 ·obtain⟨u,g,rfl,d,c⟩:=Z9 r
  cases d
  cases c
  exact kia_one (JK Z) I.bO ex e (λz=>nomatch z) λtk=>⟨.bl b,H,I.tok tk,rfl,q⟩
 ·obtain⟨u,g,rfl,d,c⟩:=Z9 r
  cases d
  cases c
  obtain⟨_,k,rv,o,v,m,_,n,i⟩:=I.aN t _ l
  rw [JQ rv]at i
  obtain⟨F,y,w,sl⟩:=o
  subst m i
  exact kia_tup (JK Z) I.bO ex v e (λz=>nomatch z) λtk=>⟨.bl b,H,I.tok tk,rfl,q⟩
def DK (h h':Heap):Prop:= ∀b o,h.get? b=y0 o-> ∃o',h'.get? b=y0 o'/\o'.dict=o.dict
def DK.refl (h):DK h h:=λ_ o e=>⟨o,e,rfl⟩
theorem DK.trans (x:DK a b) (y:DK b c):DK a c:=λi o e=>
 let ⟨j,g,f⟩:=x i o e
 let ⟨d,h,k⟩:=y i j g
 ⟨d,h,k.trans f⟩
def KD {b:Type}:Sem b->Prop
 | .pure _=>True
 | .raise _=>True
 | .unsupported _=>True
 | .finish _=>True
 | .register _ _=>True
 | .rule _ k=>KD (k ())
 | .at _ k=>KD (k ())
 | .load _ _ k=> ∀o,KD (k o)
 | .update _ _ f k=>(∀ o,(f o).dict=o.dict/\(o.isFreed=y9->(f o).isFreed=y9))/\KD (k ())
 | .alloc _ k=> ∀a,KD (k a)
 | .loadIfAlive _ k=> ∀o,KD (k o)
 | .point _ k=>KD (k ())
 | .fresh k=> ∀t,KD (k t)
 | .ask k=> ∀t,KD (k t)
 | .handled _ k=> ∀t,KD (k t)
 | .stack k=> ∀t,KD (k t)
 | .thread k=> ∀t,KD (k t)
 | _=>False
theorem KD.bind (c: ∀a,KD (f a))(h:KD m):KD (m.bind f):=by
 induction m with
 | pure a=>exact c a
 | raise _=>exact trivial
 | unsupported _=>exact trivial
 | finish _=>exact trivial
 | register _ _=>exact trivial
 | rule _ k b=>exact b () h
 | «at» _ k b=>exact b () h
 | load _ _ k b=>exact λo=>b o (h o)
 | update _ _ _ k b=>exact⟨h.1,b () h.2⟩
 | alloc _ k b=>exact λo=>b o (h o)
 | loadIfAlive _ k b=>exact λo=>b o (h o)
 | point _ k b=>exact b () h
 | fresh k b=>exact λo=>b o (h o)
 | ask k b=>exact λo=>b o (h o)
 | handled _ k b=>exact λo=>b o (h o)
 | stack k b=>exact λo=>b o (h o)
 | thread k b=>exact λo=>b o (h o)
 | _=>exact False.elim h
theorem DK.push (h) (o):DK h (h.push o):=λb u e=>⟨u,Aa8 _ e,rfl⟩
theorem DK.update (h) (a)(c: ∀o,(f o).dict=o.dict/\(o.isFreed=y9->(f o).isFreed=y9)):DK h (h.update a f):=λb u e=>by
 by_cases q:a=b
 ·subst q
  exact⟨f u,Ai3 f e ((c u).2 (Heap.get?_some_iff.mp e).2),(c u).1⟩
 ·exact⟨u,by rw [Ah9 _ _ q];exact e,rfl⟩
def uD : ∀ {p}{s},KD t->DK h0 s.heap->Sem.wp M Y t Q E p s →
 Sem.wp M Y t (λa p s'=>Q a p s'/\DK h0 s'.heap) (λe p s'=>E e p s'/\DK h0 s'.heap) p s:=by
 induction t with
 | pure a=>exact λk d h=>⟨h,d⟩
 | raise _=>exact λk d h=>⟨h,d⟩
 | unsupported _=>exact λk d h=>h
 | finish _=>exact λk d h=>h
 | register _ _=>exact λk d h=>h
 | rule _ t b=>exact λk d h=>b () k d h
 | «at» _ t b=>exact λk d h=>b () k d h
 | load _ _ t b=>exact λk d ⟨o,e,h⟩=>⟨o,e,b o (k o) d h⟩
 | update a _ f t b=>exact λk d ⟨e,h⟩=>⟨e,b () k.2 (d.trans (DK.update _ _ k.1)) h⟩
 | alloc o t b=>exact λk d h=>b _ (k _) (d.trans (DK.push _ _)) h
 | loadIfAlive _ t b=>exact λk d h=>b _ (k _) d h
 | point _ t b=>exact λk d h=>b () k d h
 | fresh t b=>exact λk d h=>b _ (k _) d h
 | ask t b=>exact λk d h=>b _ (k _) d h
 | handled _ t b=>exact λk d h=>b _ (k _) d h
 | stack t b=>exact λk d h=>b _ (k _) d h
 | thread t b=>exact λk d h=>b _ (k _) d h
 | _=>exact λk=>False.elim k
def wK (k:KD t) (h:wpAny M A t Q E s):
 wpAny M A t (λa s'=>Q a s'/\DK s.heap s'.heap) (λe s'=>E e s'/\DK s.heap s'.heap) s:=λY p b=>uD k (DK.refl _) (h Y p b)
def JT (v):KD (fieldsOf v):=by
 cases v<;>first | exact trivial | skip
 refine KD.bind (λo=> ?_) λ_=>trivial
 split<;>exact trivial
def wy (v) (i):KD (field v i):=by
 refine KD.bind (λo=> ?_) (JT v)
 split<;>exact trivial
def wW {c:Bool}(e:KD a) (d:KD b):KD (if c then a else b):=by cases c<;>assumption
def Xr (v) (i) (x):KD (setField v i x):=by
 cases v<;>first | exact trivial | skip
 refine KD.bind (λo=> ?_) λ_=>trivial
 split
 ·split
  ·refine⟨λo=> ?_,trivial⟩
   obtain⟨c,d,a,sl⟩:=o
   cases a<;>exact⟨rfl,λz=>z⟩
  ·exact trivial
 ·exact trivial
def XJ (f) (b):KD (entryPlaceOf f b):=by
 refine KD.bind (λo=> ?_) λ_=>trivial
 split<;>exact trivial
def JS (a b c d e) (p):KD (EntryCells.newEntry a b c d e p):=by
 have f: ∀g:Array Value,KD (if g.size>sizeLine+2 then do
  unsupported "record:memory"
  else newObjAsIs (Value.type "traceback") (Data.fields g)):=fun g=>by
  split
  ·exact trivial
  ·unfold newObjAsIs
   exact λ_=>trivial
 exact f _
theorem j3: ∀l:List Env,KD (readyFrames l)
 | []=>trivial
 | env::outer=>by
  unfold readyFrames
  split
  ·refine KD.bind (λo=> ?_) λ_=>trivial
   refine wW trivial ?_
   refine KD.bind (λi=> ?_) ?_
   ·refine KD.bind (λb=> ?_) ?_
    ·refine KD.bind (λ_=>j3 outer) ⟨λo=>⟨rfl,λz=> ?_⟩,trivial⟩
     obtain⟨c,d,a,sl⟩:=o
     cases a<;>exact z
    ·unfold keptBack
     split
     ·refine wW trivial ?_
      refine KD.bind (λ_=> trivial) ?_
      exact λ_=>trivial
     ·exact trivial
   ·unfold behindIsImport
    refine wW trivial (wW trivial ?_)
    exact KD.bind (λ_=> trivial) (wy _ _)
  ·exact trivial
def W7 (env):KD (PySem.frameOf env):=by
 refine KD.bind (λl=> ?_) λ_=>trivial
 refine KD.bind (λo=> ?_) ?_
 ·split<;>exact trivial
 ·unfold frameObject
  split
  ·exact trivial
  ·exact KD.bind (λ_=> trivial) (j3 _)
def tN (e) (env):KD (noteFrame e env):=by
 unfold noteFrame
 split
 ·refine KD.bind (λf=> ?_) (wy _ _)
  have d:KD (do setField e 1 (← EntryCells.newEntry f (← PySem.frameOf env) .none (rawInt ‹Addr›) .none (← entryPlaceOf ‹Addr› (f != .none)))):=
   KD.bind (λa=>KD.bind (λb=>KD.bind (λc=>Xr _ _ _) (JS _ _ _ _ _ _)) (XJ _ _)) (W7 env)
  refine wW ?_ d
  refine KD.bind (λx=> ?_) (wy _ _)
  refine wW trivial ?_
  exact KD.bind (λ_=>d) (Xr _ _ _)
 ·exact trivial
def QA (e) (f):KD (setFlight e f):=by
 refine KD.bind (λx=> ?_) (wy _ _)
 exact wW (Xr _ _ _) trivial
def ZF (env) (e):KD (leaving env e):=KD.bind (λ_=>QA e u0) (tN e env)
def aP.there (x:aP P w H h a o): ∃u,h.get? a=y0 u:=by
 cases o with
 | lst c=>exact⟨_,x.2.choose_spec.choose_spec.2⟩
 | tup c=>obtain⟨_,_,_,u,e,_⟩:=x;exact⟨u,e⟩
 | dK b=>obtain⟨_,_,_,_,u,_,_,e,_⟩:=x;exact⟨u,e⟩
 | dT b=>obtain⟨_,_,_,_,u,_,_,e,_⟩:=x;exact⟨u,e⟩
 | set S n=>obtain⟨u,_,_,_,e,_⟩:=x;exact⟨u,e⟩
 | ins C k fs=>obtain⟨_,_,_,e,_⟩:=x;exact⟨_,e⟩
 | own y=>exact x
 | xd fs=>obtain⟨_,⟨u,_,_,e,_⟩,_⟩:=x;exact⟨u,e⟩
 | gu g d=>obtain⟨_,_,_,e⟩:=x;exact⟨_,e⟩
 | dU i u=>exact⟨_,x.1⟩
 | gL l=>exact⟨_,show h.get? a=y0 _ from x⟩
 | met f y=>exact⟨_,show h.get? a=y0 _ from x⟩
 | ext j=>exact x.2.1
def cE (P:Program) (w:World):fR:=λouter H s E e s'=> ∃(x C t:Addr) (B:Heap) (H':Hp) (a:Option Addr),e= .ref x/\s'.os=s.os/\AllBare s'.gens ∧
 Aj1 B outer x (.ref C) (.ref t) s'.heap/\Un (bZ outer) [] H H' s.heap s'.heap/\cM P w H' s'.heap ∧
 (∀ b o,s'.heap.get? b=y0 o->((∃ u,H' b=y0 u)\/ ∃u,s.heap.get? b=y0 u)->b∉bZ outer->B.get? b=y0 o)/\s.heap.get? x=u0/\(∀ dx,a=y0 dx-> ∃o,s'.heap.get? x=y0 o/\o.dict=y0 dx)/\E (.ref C) a H'
noncomputable def eE (C t:Addr) (a:Option Addr):Obj:= { cls:= .ref C,dict:=a,data:= .fields #[.ref t,.none,.none,.none,.bool y9,.none] }
section
variable {P:Program}{w:World}{K:Frag}{mg:Str->Option Value}{base:Heap}{N:List Str}{y7:Str}{scope:Scope}{f:Addr}{cd:Value}{A:Around}{outer:List Env}{s:Shared}{H:Hp}{E:XK}
def JG (I:Inv (jM (cE P w) P w K mg base N y7 scope f cd A outer s H E) y8 U H1 s2)
 (he:s2.heap.get? e=y0 (eE C t od)) (new:s.heap.get? e=u0) (h0:H1 e=u0) (q:E (.ref C) od H1):(jM (cE P w) P w K mg base N y7 scope f cd A outer s H E).xe (.ref e) s2:=by
 have ff:=I.stack
 have fb0:=funFrames_hide (as:=e::bZ _) ff λenv he a ha=>Aa0 _ (Al4.mpr ⟨env,he,ha⟩)
 have free:=I.cx
 have fe:e∉bZ _:=λhm=>by
  obtain⟨_,o,ho,nf⟩:=ff.mem hm
  rw [he]at ho
  cases ho
  exact nf _ rfl
 refine wpAny_mono (wK (ZF _ _) (wpAny_leaving_firstW (E:=λ_ _=>False)
  (Q:=λ_ s'=>Heap.LeftW (hideAll s2.heap (e::bZ (envOfC y7 scope s.heap.objs.size f cd::outer))) _ e (.ref C) (.ref t) s2.heap s'.heap/\s'= { s2 with heap:=s'.heap })
  I.ok.frames fb0 rfl he (λb o z=>of_hideAll _ z) (hideAll_none _ (Aa ..)) rfl rfl rfl λh' hL=>⟨hL,rfl⟩)) (λ_ s' ⟨⟨hL,hs⟩,dk⟩=> ?_) (λ_ _ z=>z.1.elim)
 obtain⟨k1,k2,k3,x4⟩:=hL
 obtain⟨h2,g2,d2,t2,o2⟩:=s'
 simp only [Shared.mk.injEq]at hs
 obtain⟨-,rfl,rfl,rfl,rfl⟩:=hs
 have mR: ∀b o,s2.heap.get? b=y0 o->b≠e->b∉bZ _->(hideAll s2.heap (e::bZ (envOfC y7 scope s.heap.objs.size f cd::outer))).get? b=y0 o:=λb o z ne n=>hideAll_get _ z (by rw [Aa5];exact λq=>q.elim ne n)
 have toH: ∀b o,s2.heap.get? b=y0 o->b≠e->b∉bZ _->h2.get? b=y0 o:=λb o z ne n=>k1 b o (mR b o z ne n)
 have slotH: ∀b o,b∈bZ _->s2.heap.get? b=y0 o-> ∃sl,h2.get? b=y0 { o with slots:=sl }:=λb o hb z=>by
  obtain⟨_,o',z',nf⟩:=ff.mem hb
  rw [z]at z'
  cases z'
  exact x4 b o z nf
 have cut: ∀b,b∉bZ outer->b≠s.heap.objs.size->b∉bZ (envOfC y7 scope s.heap.objs.size f cd::outer):=λb n1 n2 hb=>by
  rcases Aa5.mp (show b∈s.heap.objs.size::bZ outer from hb)with z | z
  ·exact n2 z
  ·exact n1 z
 have old: ∀b o,s.heap.get? b=y0 o->b≠s.heap.objs.size:=λb o z=>Ac2 (Ab5 z)
 have olde: ∀b o,s.heap.get? b=y0 o->b≠e:=λb o z q=>by rw [q,new]at z;cases z
 have dM: ∀b u,H1 b=y0 u->b≠e/\b∉bZ _:=λb u z=>⟨λq=>(by simp_all),λhb=>(by rw [free b hb]at z;cases z)⟩
 refine⟨e,C,t,_,H1,od,rfl,I.os,I.bare,⟨k1,hideAll_none _ (Aa ..),k2.2.2,k3⟩,⟨λb o z n hb hx=> ?_,λb o z n hb hx=> ?_,I.base.free,λb o z hx=> ?_,I.base.cI,I.base.cv,I.base.cF⟩,λb u z=> ?_,λb o z hc hb=> ?_,new,λdx z=> ?_,q⟩
 ·exact toH b o (I.base.keep b o z n hb hx) (olde b o z) (cut b hb (old b o z))
 ·obtain⟨sl,z1⟩:=I.base.slot b o z n hb hx
  obtain⟨sl2,z2⟩:=slotH b _ (Aa0 _ hb) z1
  exact⟨sl2,z2⟩
 ·obtain⟨o',z1⟩:=I.base.there b o z hx
  by_cases hb:b∈bZ (envOfC y7 scope s.heap.objs.size f cd::outer)
  ·obtain⟨sl,z2⟩:=slotH b o' hb z1
   exact⟨_,z2⟩
  ·exact⟨o',toH b o' z1 (olde b o z) hb⟩
 ·refine(I.aN b u z).cP (λc v hc z1=> ?_) (λ_ z1=>z1) λ_ _ z1=>z1
  obtain rfl | hc:=hc
  ·exact toH c v z1 (dM c u z).1 (dM c u z).2
  ·exact toH c v z1 (dM c _ hc).1 (dM c _ hc).2
 ·have two: ∃o2,s2.heap.get? b=y0 o2/\b≠e/\b∉bZ (envOfC y7 scope s.heap.objs.size f cd::outer):=by
   obtain⟨u,hu⟩ | ⟨u,hu⟩:=hc
   ·obtain⟨o2,z2⟩:=(I.aN b u hu).there
    exact⟨o2,z2,dM b u hu⟩
   ·obtain⟨o2,z2⟩:=I.base.there b u hu (by show b∉([]:List Addr);simp)
    exact⟨o2,z2,olde b u hu,cut b hb (old b u hu)⟩
  obtain⟨o2,z2,nb⟩:=two
  have z3:=toH b o2 z2 nb.1 nb.2
  rw [show h2.get? b=y0 o from z]at z3
  cases z3
  exact mR b _ z2 nb.1 nb.2
 ·obtain⟨o',e1,e2⟩:=dk e _ he
  exact⟨o',e1,e2.trans z⟩
def WU (I:Inv (jM (cE P w) P w K mg base N y7 scope f cd A outer s H E) y8 U H1 s2)
 (b:Heap.MadeExcOf s2.heap h' e (.ref C) vs) (q:E (.ref C) u0 H1):(jM (cE P w) P w K mg base N y7 scope f cd A outer s H E).xe (.ref e) { s2 with heap:=h' }:=by
 obtain⟨t,d,_⟩:=b.there
 refine JG (I.kept b.keeps) d ?_ ?_ q
 ·cases z:s.heap.get? e with
  | none=>rfl
  | some u=>
   obtain⟨c,a⟩:=I.base.there e u z (by show e∉ [];simp)
   rw [b.new]at a
   cases a
 ·cases z:H1 e with
  | none=>rfl
  | some u=>
   obtain⟨c,a⟩:=(I.aN e u z).there
   rw [b.new]at a
   cases a
end
def Dd {K:Frag}(X:K.In h) (q:excIn K C bmB newId=k9):
 ∃J L nm i bs j sn sub ab col dd k0 k1 k2 k3 k5 mN,h.get? C=some (excClassObj nm i C L bs J j sn sub ab col dd k0 k1 k2 k3 k5 newId)/\h.Ns L mN/\mN "__init__" =none/\OwnTail h bmB J:=by
 unfold excIn at q
 split at q
 next dd n sl g=>
  split at q
  next s r k0 k1 k2 k3 nn k5 f o=>
   simp only [Aa9,beq_iff_eq,Bool.not_eq_true']at q
   obtain⟨⟨⟨⟨⟨rfl,rfl⟩,d⟩,m⟩,c⟩,e⟩:=q
   obtain⟨nm,bs,k,b,i,j,sn,sub,ab,col,p⟩:=n
   dsimp only at f d c e
   subst f d
   have a:sl= #[k0,k1,k2,k3,y0 (.builtin nn),k5]:=by
    cases sl with
    | mk l=>exact congrArg Array.mk o
   subst a
   exact⟨r,b,nm,i,bs,j,sn,sub,ab,col,dd,k0,k1,k2,k3,k5,_,X _ _ g,.of_isNs (isNs_of_in X c),nsMap_none_of_in X c e,tail_of_in X m⟩
  next=>cases q
 next=>cases q
section
variable {P:Program}{w:World}{K:Frag}{mg:Str->Option Value}{base:Heap}{N:List Str}{y7:Str}{scope:Scope}{f:Addr}{cd:Value}{A:Around}{outer:List Env}{s:Shared}{H:Hp}{E:XK}
abbrev Xz:List Value:= [.type "ValueError",.type "Exception",.type "BaseException",.type "object"]
def pY (C:Addr) (E:XK) (t:TA):TS:=λ_ U H=>t U H λa H1=>a.length<=sizeLine/\E (.ref C) u0 H1
def vG (Q:excIn K C Xz "ValueError.__new__" =true) (R:mg x=some (.ref C)) (hg:Gl (jM (cE P w) P w K mg base N y7 scope f cd A outer s H E) x)
 (L:PA (jM (cE P w) P w K mg base N y7 scope f cd A outer s H E) (e::es) t)
 (B:starEach (e::es) (envOfC y7 scope s.heap.objs.size f cd)=(y9,eval e (envOfC y7 scope s.heap.objs.size f cd))::starEach es (envOfC y7 scope s.heap.objs.size f cd):=by rfl)
 (k:(backTo k6 (starEach es (envOfC y7 scope s.heap.objs.size f cd))).any (·.1)=false:=by rfl) (M:(x==("__debug__" :Str))=false:=by decide):
 PS (jM (cE P w) P w K mg base N y7 scope f cd A outer s H E) (.Raise (y0 (.Call (.Name x np) (e::es) [] k6)) u0 pos) (pY C E t):=by
 intro c l U W D I h
 obtain⟨bm,X,u,J,bs,m,G,sub,o,d,dd,n,v,p,r,y,F,S,O,i,T⟩:=Dd I.mod.gX Q
 refine wpAny_Raise_call_subT (nm:=u) (q:=J) (N:=X) (bs:=bs) (hdct:=m) (sn:=G) (sub:=sub) (ab:=o) (col:=d) (dd:=dd) (k0:=n) (k1:=v) (k2:=p) (k3:=r) (k5:=y)
  PySem.F.excBase_ValueError (mN:=F) (T.hasType PySem.F.excBase_ValueError.hasBase) (I.ok.hd rfl) ?_ i (Qr I hg R ⟨rfl,?_⟩ M)
 ·show(backTo k6 (starEach (e::es) (envOfC y7 scope s.heap.objs.size f cd))).any _=y9
  rw [B]
  show(y9||(backTo k6 _).any _)=y9
  rw [k]
  rfl
 ·have Z:=L k6 c l U W _ I h
  show wpAny _ _ (evalArgs _ k9 (backTo k6 (starEach (e::es) (envOfC y7 scope s.heap.objs.size f cd))) []) _ _ l
  have b:wpAny _ _ (spliced (backTo k6 (starEach (e::es) (envOfC y7 scope s.heap.objs.size f cd)))) _ _ l:=Z
  rw [B]at b ⊢
  exact Calls.evalArgs_plain (aG b λus s2 ⟨vs,H2,g,Y,z,V⟩=>⟨rfl,by rw [← Y.length];exact z,g.bk _ _ S,O.keeps g.bk,T.keeps g.bk,λh' a j=>WU g j V⟩)
def h8.tw {st:Stmt}(F:h8 K x y7 st f fd) (S:Ww N ps (Jl st)) (len: ∀vs H Q E,sp vs H Q E->vs.length=ps.length)
 (a: ∀ i A outer s H vs Q E,aW k (A.deeper (envOfC y7 (Jl st) s.heap.objs.size f i))->sp vs H Q E →
   ∃t,cN (jM (cE P w) P w K mg base N y7 (Jl st) f i A outer s H E) (JB st) t/\t { nx:=λ_ H'=>Q .aj H',rt:=Q } (WB N vs) H):bc P w K mg base (cE P w) (k+1) f fd ps sp:=by
 obtain⟨j,m,kV,d,o,n,i,l,e,rfl,h,b⟩:=F.ex
 exact uL h b S len λA outer s H vs Q E g c=>a i A outer s H vs Q E g c
def CM:PassesOwn (model P w) (A.deeper (envOfC y7 scope s.heap.objs.size f cd)) (envOfC y7 scope s.heap.objs.size f cd) (jM (cE P w) P w K mg base N y7 scope f cd A outer s H E).xe:=
 PassesOwn.leaving
end
section
variable {X:Cx}{y8:List (Addr×Obj)}{U:St}{H:Hp}{s:Shared}
def Inv.fL (I:Inv X y8 U H s) (f:Al8 X.env.locals s.heap h') (l:h'.Ns X.env.locals m')
 (m: ∀(i:Nat) (x:Str) (v:V),X.N[i]? =y0 x->U'[i]? =y0 (y0 v)->gs X.env.scope x-> ∃u,RelV v u/\pQ X.env h' m' x u) (len:U'.length=X.N.length):Inv X y8 U' H { s with heap:=h',toks:=t' }:=by
 have a: ∀b o,X.s₀.heap.get? b=y0 o->b≠X.env.locals:=λb o e=>Ac2 (Ab3 (Ab5 e) I.ok.above)
 refine⟨I.ok,I.os,I.bare,⟨λb o e n k h=>(f.2 b (a b o e)).trans (I.base.keep b o e n k h),λb o e n k h=> ?_,I.base.free,λb o e h=> ?_,I.base.cI,I.base.cv,I.base.cF⟩,⟨m',l,m⟩,λy c e=> ?_,I.free,I.bH,λp q=> ?_,λb u e=> ?_,len⟩
 ·obtain⟨sl,j⟩:=I.base.slot b o e n k h
  exact⟨sl,(f.2 b (a b o e)).trans j⟩
 ·obtain⟨t,j⟩:=I.base.there b o e h
  exact⟨t,(f.2 b (a b o e)).trans j⟩
 ·obtain⟨v,z⟩:=I.cell y c e
  exact⟨v,z.sameBut f (I.fX y c e)⟩
 ·obtain⟨e,n,ne,r⟩:=I.pin p q
  exact⟨(f.2 p.1 ne).trans e,n,ne,r⟩
 ·refine(I.aN b u e).cP (λc v d z=>(f.2 c ?_).trans z) (λ_ z=>z) λ_ _ z=>z
  intro g
  obtain d | d:=d
  ·rw [← d,g,I.free]at e;cases e
  ·rw [g,I.free]at d;cases d
def Inv.ig (I:Inv X y8 U H s) (l:H D=u0) (h1:D≠X.env.locals) (i: ∀x c,X.env.cells.lookup x=y0 c->c≠D) (k: ∀p∈X.pn++y8,p.1≠D) (d: ∀b u,X.s₀.heap.get? b=y0 u->b≠D)
 (new:aP X.prog X.w (aI H D o) s.heap D o):Inv X y8 U (aI H D o) s:=by
 have a: ∀b u,H b=y0 u->aI H D o b=y0 u:=λb u q=>by rw [xa (zb q l)];exact q
 refine⟨I.ok,I.os,I.bare,⟨I.base.keep,I.base.slot,λb u e n r=> ?_,I.base.there,λb g q=>a b _ (I.base.cI b g q),λb u v q=>a b _ (I.base.cv b u v q),λb t q=> ?_⟩,I.loc,I.cell,?_,λx c q=> ?_,λp h=> ?_,λb u q=> ?_,I.len⟩
 ·rw [xa (d b u e)];exact I.base.free b u e n r
 ·obtain⟨more,j⟩:=I.base.cF b t q
  exact⟨more,a b _ j⟩
 ·rw [xa (Ne.symm h1)];exact I.free
 ·rw [xa (i x c q)];exact I.bH x c q
 ·obtain⟨m,a2,a3⟩:=I.pin p h
  exact⟨m,by rw [xa (k p h)];exact a2,a3⟩
 ·by_cases f:b=D
  ·subst f
   rw [jb]at q
   cases q
   exact new
  ·rw [xa f]at q
   exact(I.aN b u q).cP (λ_ _ _ z=>z) (λc z=>a c _ z) λc g z=>a c _ z
def En (I:Inv X y8 U H s) (C:X.N.Nodup) (p:X.N[i]? =y0 n) (q:X.env.scope.names.lookup n=y0 .local)
 (h: ∀s',Inv X y8 (U.set i u0) H s'->Q () s'):wpAny M A (do bindName X.env n .none;unbindBehindTheSuite X.env n hp) Q E s:=by
 have f:(X.env.scope.kind== .class||(X.env.scope.kind== .module&&X.env.locals != X.env.globals))=false:=by rw [I.ok.kind];rfl
 have D:X.env.kindOf n=y0 .local:=q
 have o:i<U.length:=by rw [I.len];exact(Ab9.mp p).1
 refine wpAny_bind (wpAny_bindName (Wn I C p (.inl q) (v:= .aj) rfl (λL w=> ?_) (.inr q)))
 obtain⟨m,G,a⟩:=w.loc
 have b:(m n).isSome=true:=by
  obtain⟨u,_,l⟩:=a i n .aj p (Ac4 o) (.inl q)
  obtain⟨_,e⟩ | ⟨z,_⟩:=l
  ·rw [e];rfl
  ·rcases z with z | z<;>(rw [D]at z;cases z)
 refine wpAny_onRaise ?_
 refine wpAny_bind (wpAny_point (wpAny_bind ?_))
 unfold deleteName
 simp only [D,f]
 refine wpAny_bind (wpAny_nsDel_keeps G λK v x g=> ?_)
 rw [b]
 refine wpAny_pure (wpAny_point (h _ ?_))
 refine w.fL g x (λj y F B t J=> ?_) (by rw [Ac5];exact I.len)
 have d:j≠i:=λz=>by
  subst z
  rw [Ac4 o]at t
  cases t
 rw [Ac7 (Ne.symm d)]at t
 obtain⟨u,r,l⟩:=a j y F B (by rw [Ac7 (Ne.symm d)];exact t) J
 refine⟨u,r,?_⟩
 obtain⟨k,e⟩ | ⟨k,c,e,z⟩:=l
 ·refine .inl ⟨k,?_⟩
  have:y≠n:=λe=>d (WJ C B (e▸p))
  simp [this,e]
 ·exact .inr ⟨k,c,e,z.sameBut g (w.fX y c e)⟩
end
def qT {K:Frag}(X:K.In s.heap) (I:ExcAt s.heap x C) (z:kitCls K (.ref C) (.ref W)=some true) (f:mroIn K W (.type "BaseException")=some true) (c:Q true s):
 wpAny (model prog w) A (excMatches (.ref x) (.ref W)) Q E s:=by
 obtain⟨a,k,dd,m,l⟩:=s
 obtain⟨d,e,g⟩:=kit_cls X z
 have b:=looks_mroIn (M:=model prog w) X f
 have i:=I.type (M:=model prog w)
 have h:Looks (model prog w) a (isInstance _ _) false:=d.andThen (Looks.of_pure tc_notTuple)
 have j:Looks _ a (isExcClass _) true:=e.andThen b
 repeat lk
 exact c
def QS {k s':Shared}(i:Inv X y8 U H1 k) (y:s'.os=k.os) (g:AllBare s'.gens) (un:Un (bZ X.stack) [] H1 H' k.heap s'.heap) (p:cM X.prog X.w H' s'.heap)
 (comp: ∀b o,s'.heap.get? b=y0 o->((∃ u,H' b=y0 u)\/ ∃u,k.heap.get? b=y0 u)->b∉bZ X.stack->B.get? b=y0 o) (f:Aj1 B X.stack x (.ref C) (.ref t) h6) (sm:s'.heap.UpToSlots h6):Inv X y8 U H' { s' with heap:=h6 }:=by
 have dM: ∀c u,H' c=y0 u->c∉bZ X.stack:=λc u z d=>by
  obtain⟨_,o,e,_⟩:=i.stack.mem d
  have:=un.free c o e (i.cx c d) (by simp)
  rw [this]at z
  cases z
 refine i.g0 (s':= { s' with heap:=h6 }) (ch:= []) y ⟨λb o e n a h=> ?_,λb o e n a h=> ?_,un.free,λb o e h=> ?_,un.cI,un.cv,un.cF⟩ (λb u e=> ?_) g λb a=>absurd a (by simp)
 ·exact f.1 b o (comp b o (un.keep b o e n a h) (.inr ⟨o,e⟩) a)
 ·obtain⟨sl,m⟩:=un.slot b o e n a h
  obtain⟨_,l,j,r⟩:=i.stack.mem a
  rw [e]at j
  cases j
  obtain⟨q,s⟩:=sm b _ m r
  exact⟨q,s⟩
 ·obtain⟨l,m⟩:=un.there b o e h
  by_cases a:b∈bZ X.stack
  ·obtain⟨_,w,j,_⟩:=f.2.2.1.mem a
   exact⟨w,j⟩
  ·exact⟨l,f.1 b l (comp b l m (.inr ⟨o,e⟩) a)⟩
 ·refine(p b u e).cP (λc v d z=> ?_) (λ_ z=>z) λ_ _ z=>z
  obtain rfl | d:=d
  ·exact f.1 c v (comp c v z (.inl ⟨u,e⟩) (dM c u e))
  ·exact f.1 c v (comp c v z (.inl ⟨_,d⟩) (dM c _ d))
def ZS {R:Heap->Prop}(k:KD t) (h: ∀i:Unit->Shared->Prop,(∀ h',R h'->i () { s with heap:=h' })->wpAny M A t i E s) (g: ∀h',R h'->DK s.heap h'->Q () { s with heap:=h' }):wpAny M A t Q E s:=
 wpAny_mono (wK k (h (λ_ a=> ∃h',a= { s with heap:=h' }/\R h') λh' r=>⟨h',rfl,r⟩)) (λ_ a ⟨⟨h',e,r⟩,b⟩=>by subst e;exact g h' r b) (λ_ _ z=>z.1)
def yp 
 (h:X.stack=X.env::X.outer) (hf:X.env.frame=some X.env.locals) (hex:X.ex= []) (hW:Gl X wx) (hmW:X.mg wx=some (.ref W)) (T:mroIn X.K W (.type "BaseException")=some true) (hN:X.N.Nodup) (g:X.N[M]? =some n) (f:X.env.scope.names.lookup n=some .local)
 (hiv:X.N[iv]? =some v) (H:X.env.scope.names.lookup v=some .local) (hs2:swapsWith (.Name n np) (some (.Name v vp)) ap.line X.env=pure false) (Q:(wx==("__debug__" :Str))=false) (hdn:(n==("__debug__" :Str))=false)
 (i:Inv X y8 U H1 s1) (hq:cE X.prog X.w X.stack H1 s1 (λV od H2=> ∃C,V= .ref C/\gk X.K C/\kitCls X.K (.ref C) (.ref W)=y0 k9 ∧
   ∀x,H2 x=u0->D.nx (((U.set M (y0 (.ref x))).set iv (y0 (.ref x))).set M u0) (aI H2 x (X8 x C od))) ev s'):
 wpAny (model X.prog X.w) X.A (noteFrame ev X.env) (λ_ s2=>wpAny (model X.prog X.w) X.A (setFlight ev u0) (λ_ s3=>wpAny (model X.prog X.w) X.A (handleBy ev X.env [.ExceptHandler (y0 (.Name wx wq)) (y0 n) [.Assign [.Name v vp] (.Name n np) ap] hp]) (SP X y8 D) X.xe s3) X.xe s2) X.xe s':=by
 obtain⟨x,s,N,B,H',od,rfl,os,j,fl,un,l,comp,new,f9,C,hC,Z,kc,q2⟩:=hq
 cases hC
 have hfr:X.A.frames=y0 (X.env::X.outer):=by rw [← h];exact i.ok.frames
 have fl0:Aj1 B (X.env::X.outer) x (.ref s) (.ref N) s'.heap:=by rw [← h];exact fl
 refine ZS (R:=λw=>Heap.HeldW B (X.env::X.outer) x (.ref s) (.ref N) X.env.locals w/\s'.heap.UpToSlots w) (tN _ _) (λQ' k=>wpAny_looks_onW hfr hf fl0 λw a b=>k w ⟨a,b⟩) ?_
 rintro w ⟨J,E⟩ dk4
 refine ZS (R:=λr=>Aj1 B (X.env::X.outer) x (.ref s) (.ref N) r/\w.UpToSlots r) (QA _ _) (λQ' k=>wpAny_landsW J λr a b=>k r ⟨a,b⟩) ?_
 rintro r ⟨q,K⟩ P
 have F:=QS i os j un l comp (by rw [h];exact q) (E.trans K)
 have ex5:ExcAt r x s:=q.there
 refine wpAny_handleBy_cons (codeAny_handlers_test (Calls.Name_function_global F.ok.kind hW (Calls.loadGlobal_global (by rw [F.ok.glob];exact F.mod.glob.keeps F.bk) hmW ?_) Q)) (λz=>nomatch z)
 refine qT F.bO ex5 kc T ?_
 refine codeAny_handlers_suite_as ?_
 refine ZS (R:=λt=>Aj1 B (X.env::X.outer) x (.ref s) (.ref N) t/\r.UpToSlots t) (QA _ _) (λQ' k=>lands_againW q λt a b=>k t ⟨a,b⟩) ?_
 rintro t ⟨G,Y⟩ dk6
 have I6:=QS i os j un l comp (by rw [h];exact G) ((E.trans K).trans Y)
 have A:H' x=none:=by
  cases z:H' x with
  | none=>rfl
  | some u=>
   obtain⟨o,O⟩:=(l x u z).there
   have nf:x∉bZ X.stack:=λhx=>by
    obtain⟨_,o2,e2,_⟩:=i.stack.mem hx
    rw [new]at e2
    cases e2
   have e3:=comp x o O (.inl ⟨u,z⟩) nf
   rw [fl.2.1]at e3
   cases e3
 have d: ∀b o,s1.heap.get? b=y0 o->b≠x:=λb o z e=>by rw [e,new]at z;cases z
 obtain⟨o6,vs6,e6,c6,d6,_⟩:=G.first
 have I7:Inv X y8 U (aI H' x (X8 x s od)) { s' with heap:=t }:=by
  refine I6.ig A (λz=> ?_) (λy c z=> ?_) (λp hp=> ?_) (λb u z=> ?_) (DU e6 c6 (by unfold notCls;rw [d6]) λdx z=> ?_)
  ·obtain⟨m,⟨o,_,_,L,_⟩,_⟩:=i.loc
   exact d _ o L z.symm
  ·obtain⟨_,o,L,_⟩:=i.cell y c z
   exact d c o L
  ·exact d p.1 _ (i.pin p hp).1
  ·obtain⟨o,L⟩:=i.base.there b u z (by rw [hex];simp)
   exact d b o L
  ·obtain⟨o,e0,d0⟩:=f9 dx z
   obtain⟨o',O,d1⟩:=((dk4.trans P).trans dk6) x o e0
   have:=e6.symm.trans O
   cases this
   exact d1.trans d0
 refine Wn I7 hN g (.inl f) (v:= .ref x) rfl (λs8 I8=> ?_) (.inr f)
 have hiU:M<U.length:=by rw [i.len];exact(Ab9.mp g).1
 obtain⟨m8,hn8,hl8⟩:=I8.loc
 obtain⟨u8,r8,l8⟩:=hl8 M n _ g (Ac4 hiU) (.inl f)
 cases r8
 have I:X.env.kindOf n=y0 .local:=f
 have em:m8 n=y0 (.ref x):=by
  rcases l8 with⟨_,z⟩ | ⟨z,_⟩
  ·exact z
  ·rcases z with z | z<;>(rw [I]at z;cases z)
 refine wpAny_execs_cons (wpAny_Assign_Name (wpAny_Name (wpAny_loadName_local I8.ok.kind I hn8 em ?_) hdn) hs2)
 refine Wn I8 hN hiv (.inl H) (v:= .ref x) rfl (λs9 I9=> ?_) (.inr H)
 refine wpAny_execs_nil ?_
 exact En I9 hN g f λs10 S=>⟨_,_,S,q2 x A⟩
def b5 (X:Cx) (h n v:Str) (d i j k e:Pos) (st:Stmt) (t:TS):Prop:=
 ∀(y8:List (Addr×Obj)) (s:Shared) (U:St) (H:Hp) (D:gQ) (c:Flow->Shared->Prop),Inv X y8 U H s->t D U H->(∀ s b H',Inv X y8 b H' s->D.nx b H'->c .next s) →
  wpAny (model X.prog X.w) X.A (execs [st] X.env) c (λa s'=>wpAny (model X.prog X.w) X.A (noteFrame a X.env) (λ_ f=>wpAny (model X.prog X.w) X.A (setFlight a u0) (λ_ g=>wpAny (model X.prog X.w) X.A (handleBy a X.env [.ExceptHandler (y0 (.Name h d)) (y0 n) [.Assign [.Name v i] (.Name n j) k] e]) (SP X y8 D) X.xe g) X.xe f) X.xe s') s
def EB (h1:b5 X wx n v wq vp np ap hp a t):PS X (.Try [a] [.ExceptHandler (y0 (.Name wx wq)) (y0 n) [.Assign [.Name v vp] (.Name n np) ap] hp] [] [] pos) t:=by
 intro b s U H D I h
 exact wpAny_Try_except (h1 b s U H D _ I h λf d c e q=>wpAny_execs_nil ⟨d,c,e,q⟩)
def F7 (K:Aa4) (b tk:TE):TE:=λU H Q=>b U H λx H1=>tk U H1 λy H2=>y= .int (-1)/\ ∃a xs,x= .ref a/\bu K H2 a xs/\ ∀p,H2 p=u0->Q (.ref p) (aI H2 p (.lst xs.reverse))
theorem XY: ∀ {xs}{us},Vals xs us->Vals xs.reverse us.reverse
 | _,_,.nil=> .nil
 | _::_,_::_,.cons r t=>by
  rw [Aj7,Aj7]
  exact(XY t).append (.cons r .nil)
def Ay {e st:Expr}(D:PE X e te) (G:PE X st tk) (t: ∀l a,subscripted (.Slice u0 u0 (y0 st) p2) y9 l a=operate [l,a] (getItem l a):=by intro l a;with_unfolding_all rfl):PE X (.Subscript e (.Slice u0 u0 (y0 st) p2) pos) (F7 X.K te tk):=by
 intro c s U H Q I h
 refine Subscript_ (aG (D c s U H _ I h) ?_)
 rintro v E ⟨x,A,n,k,m⟩
 refine wpAny_Slice ?_
 refine wpAny_pure (wpAny_pure ?_)
 refine aG (G c E U A _ n m) ?_
 rintro K j ⟨y,B,u,p,F⟩
 obtain⟨rfl,a,J,rfl,C,q⟩:=F
 obtain⟨d,rfl⟩:=p
 cases k
 have f:Inv X c U B { j with heap:=j.heap.push { cls:= .type "slice",data:= .fields #[.none,.none,.int (-1) d] } }:=u.kept fun b z q=>Heap.get?_push_of_some _ q
 obtain⟨w,r,i,o⟩:=f.list C
 have g:=r.length
 refine tail_any i.isList.typeIs slot_list_getitem.lookup ?_ (t _ _)
 refine wpAny_getItem_list_slice i.isList (Heap.IsSliceOf.new ..) .none .none (.int (-1) d) (by decide) ?_ (by simp_all)
 rw [krv_pick]
 refine⟨.ref _,_,f.laid (λb z q=>Aa8 _ q) (Aa6 _) ?_,rfl,q _ (f.aN.fresh (Aa6 _))⟩
 exact⟨by rw [List.length_reverse];exact o,_,0,XY r,Ac1 _ rfl⟩
def bc.calm {K:Frag}(F:bc P w K mg base (cE P w) k f fd ps sp)
 (h: ∀vs H Q E,sp0 vs H Q E->sp vs H Q (λ_ _ _=>False)):bc P w K mg base kj k f fd ps sp0:=by
 refine⟨λvs H Q E q=>F.len vs H Q _ (h _ _ _ _ q),λA a s H b g vs Q E l n i j m=>codeAny_mono (F.run A a s H b g vs Q _ l n i j (h _ _ _ _ m)) λres p c=> ?_⟩
 cases res with
 | ok d=>
  cases d with
  | ret u=>exact c
  | next=>exact c
  | brk=>exact c
  | cont=>exact c
 | error o=>
  obtain⟨x,C,t,B,r,_,_,_,_,_,_,_,_,_,_,e⟩:=c
  exact e
def DI:bootBuiltins "ValueError" =some (.type "ValueError"):=by decide +kernel
noncomputable def hZ (x:Str):It:=⟨λi _=> ∃c,x.cps[i]? =y0 c,λi H y H'=>H'=H/\ ∃c,x.cps[i]? =y0 c/\y= .str ⟨#[c]⟩,λi _=>x.cps[i]? =u0⟩
def J6 {K:PySem.W.Frag}(it) (x) (t):gE P w K tg (hZ x) [it] it (λi h=>h.IsStrIter it "str_ascii_iterator" x t i) where
 mem:=by simp
 obj:=λi h a b g=>by
  have e:=by simpa using g
  subst e
  obtain⟨o,e,c,d⟩:=a
  exact⟨o,e,λv z=>by rw [d]at z;cases z⟩
 keep:=λi h n a k=>by
  obtain⟨o,e,c,d⟩:=a
  exact⟨o,k it (by simp) o e,c,d⟩
 item:=by
  intro X G M C A i f s U H E I l a q
  obtain⟨c,B⟩:=q
  obtain⟨u,m,J,r,p,y⟩:=l it (by simp)
  refine wpAny_pyNext_ascii_item a B λn j N=> ?_
  have D:Inv X f U H { s with heap:=n,toks:=s.toks+1 }:=I.turned (λb o g e=>(N.2 b g).trans e) u m r p y
  obtain⟨o,e,L,d⟩:=id j
  exact⟨_,rfl,xS e L d (by decide) ⟨.str ⟨#[c]⟩,H,D,⟨_,rfl⟩,⟨rfl,c,B,rfl⟩,j,λb g=>(l b g).1⟩⟩
 done:=by
  intro X G M C A i f s U H E I l a q
  obtain⟨u,m,J,r,p,y⟩:=l it (by simp)
  exact wpAny_pyNext_ascii_end (I.ok.hd A) a q λn F=>⟨rfl,I.turned (λb o g e=>F b o g e) u m r p y⟩
 self:=λ_ _ _ _ _ a h=>wpAny_pyIter_striter_ascii a h
def yV {K:PySem.W.Frag}(it) (x) (t):gE P w K tg (hZ x) [it] it (λi h=>h.IsStrIter it "str_iterator" x t i) where
 mem:=by simp
 obj:=λi h a b g=>by
  have e:=by simpa using g
  subst e
  obtain⟨o,e,c,d⟩:=a
  exact⟨o,e,λv z=>by rw [d]at z;cases z⟩
 keep:=λi h n a k=>by
  obtain⟨o,e,c,d⟩:=a
  exact⟨o,k it (by simp) o e,c,d⟩
 item:=by
  intro X G M C A i f s U H E I l a q
  obtain⟨c,B⟩:=q
  obtain⟨u,m,J,r,p,y⟩:=l it (by simp)
  refine wpAny_pyNext_wide_item a B λn j N=> ?_
  have D:Inv X f U H { s with heap:=n,toks:=s.toks+1 }:=I.turned (λb o g e=>(N.2 b g).trans e) u m r p y
  obtain⟨o,e,L,d⟩:=id j
  exact⟨_,rfl,xS e L d (by decide) ⟨.str ⟨#[c]⟩,H,D,⟨_,rfl⟩,⟨rfl,c,B,rfl⟩,j,λb g=>(l b g).1⟩⟩
 done:=by
  intro X G M C A i f s U H E I l a q
  obtain⟨u,m,J,r,p,y⟩:=l it (by simp)
  exact wpAny_pyNext_wide_end (I.ok.hd A) a q λn F=>⟨rfl,I.turned (λb o g e=>F b o g e) u m r p y⟩
 self:=λ_ _ _ _ _ a h=>wpAny_pyIter_striter_wide a h
def CO (K:Aa4) (b:TE):TI:=λU H R=>b U H λx H1=>(∃ a,x= .ref a/\(∃ xs,bu K H1 a xs)/\R (lA K a) H1)\/(∃ a,x= .ref a/\(∃ xs,cJ K H1 a xs)/\R (iu K a) H1)\/ ∃z,x= .str z/\R (hZ z) H1
def mq (r:PE X l tl):PI X tg l (CO X.K tl):=by
 intro g s U H R I h
 refine aG (r g s U H _ I h) ?_
 rintro v d ⟨x,i,c,j,u⟩
 obtain⟨a,e,⟨y,k⟩,q⟩ | ⟨a,e,⟨y,k⟩,q⟩ | ⟨z,e,q⟩:=u
 ·subst e
  cases j
  obtain⟨m,rv,p,w⟩:=c.list k
  refine wpAny_pyIter_list p.isList ?_
  refine⟨d.heap.objs.size,[d.heap.objs.size],_,_,i,rfl,c.kept λb o e=>Aa8 _ e,Bx a _,⟨_,Ac1 _ rfl,rfl,rfl⟩,λb f=> ?_,q⟩
  have e:=by simpa using f
  subst e
  exact c.dn (Aa6 _) (c.aN.fresh (Aa6 _))
 ·subst e
  cases j
  obtain⟨m,rv,p,w⟩:=c.tuple k
  refine wpAny_pyIter_tuple (p) ?_
  refine⟨d.heap.objs.size,[d.heap.objs.size],_,_,i,rfl,c.kept λb o e=>Aa8 _ e,j8 a _,⟨_,Ac1 _ rfl,rfl,rfl⟩,λb f=> ?_,q⟩
  have e:=by simpa using f
  subst e
  exact c.dn (Aa6 _) (c.aN.fresh (Aa6 _))
 ·subst e
  obtain⟨t,rfl⟩:=j
  cases n:z.cps.all (· <128)with
  | true=>
   refine wpAny_pyIter_ascii n ?_
   refine⟨d.heap.objs.size,[d.heap.objs.size],_,_,i,rfl,c.kept λb o e=>Aa8 _ e,J6 _ z t,⟨_,Ac1 _ rfl,rfl,rfl⟩,λb f=> ?_,q⟩
   have e:=by simpa using f
   subst e
   exact c.dn (Aa6 _) (c.aN.fresh (Aa6 _))
  | false=>
   refine wpAny_pyIter_wide n ?_
   refine⟨d.heap.objs.size,[d.heap.objs.size],_,_,i,rfl,c.kept λb o e=>Aa8 _ e,yV _ z t,⟨_,Ac1 _ rfl,rfl,rfl⟩,λb f=> ?_,q⟩
   have e:=by simpa using f
   subst e
   exact c.dn (Aa6 _) (c.aN.fresh (Aa6 _))
section
variable {X:Cx}
def Vals.kr (r:Vals xs us){i:Nat}(h:us[i]? =y0 u): ∃x,xs[i]? =y0 x/\RelV x u:=by
 have e:=r.length
 have d:=(Ab9.mp h).1
 have a:i<xs.length:=by lia
 obtain⟨f,b,c⟩:=r.get (Aa7 a)
 rw [h]at b
 cases b
 exact⟨_,Aa7 a,c⟩
def yA (bs:List Bool):(Ab7 bs.length).all (λi=>bs.getD i y9)=bs.all id:=by
 induction bs with
 | nil=>rfl
 | cons b bs a=>
  rw [Aa2,List.range_succ_eq_map,Ag8,Al7,Ag8,←a]
  rfl
def D6 {bs:List Bool}(r:Vals (bs.map V.bl) its):TruthOf P w A (λi v=>its.toArray[i]? =y0 v) (λi=>bs.getD i y9):=by
 intro i v s Q E f d
 obtain⟨x,a,g⟩:=r.kr (by simpa using f)
 rw [Ad1]at a
 cases c:bs[i]? with
 | none=>rw [c]at a;cases a
 | some b=>
  rw [c]at a
  cases a
  cases g
  refine wpAny_truthy_bool ?_
  have e:bs.getD i y9=b:=by rw [Ac3,c];rfl
  rw [← e]
  exact d
def vQ (m:X.calm=k9):xo X (.builtin "all") (fun xs H Q=> ∃p,∃bs:List Bool,xs= [.ref p]/\bu X.K H p (bs.map V.bl)/\Q (.bl (bs.all id)) H):=by
 intro c s U H xs x Q I r h
 obtain⟨p,bs,rfl,k,q⟩:=h
 obtain⟨u,rfl,n⟩:=JE r
 cases n
 obtain⟨d,rv,f,w⟩:=I.list k
 have a:=rv.length
 rw [Ac]at a
 refine call_all_walk (wpAny_pyIter_list f.isList ?_)
 have g:p≠s.heap.objs.size:=by
  obtain⟨o,v,_⟩:=f.isList
  exact Ac2 (Ab5 v)
 refine⟨s.heap.objs.size,_,_,_,_,_,λi=>bs.getD i y9,rfl,Walks.list (A:=X.A.in1) (I.ok.hd m) _ p g d.toArray,⟨⟨_,Ac1 _ rfl,rfl,rfl⟩,f.isList.at λo e=>Aa8 _ e⟩,D6 rv,λl tk t=> ?_⟩
 have j:Inv X c U H { s with heap:=l,toks:=tk }:=I.kept λb o e=>t b o (by simp;exact Ac2 (Ab5 e)) (Aa8 _ e)
 refine⟨.bl _,H,j,?_,q⟩
 show _=_
 rw [Ab2,←a,yA]
def fk:List Int->Int
 | []=>0
 | i::r=>i+fk r
theorem ZM: ∀(xs) (x),fk (xs++ [x])=fk xs+x
 | [],x=>by simp [fk]
 | y::a,x=>by
  show y+fk (a++ [x])=y+fk a+x
  rw [ZM a x];omega
theorem Jz (a:List Int): ∀j,j<=a.length->preSum (λi=>a.getD i 0) j=fk (a.take j)
 | 0,_=>rfl
 | j+1,h=>by
  rw [preSum,Jz a j (by omega),List.take_succ,Aa7 (by omega)]
  show _=fk (a.take j++ [a[j]])
  rw [ZM,Ac3,Aa7 (by omega)]
  rfl
end
section
variable {X:Cx}
theorem ww: ∀ {ss}{us},Vals (ss.map V.str) us->StrsAre us ss
 | [],us,r=>by cases r;exact .nil
 | z::ss,us,r=>by
  cases r with
  | cons h t=>
   obtain⟨k,rfl⟩:=h
   exact .cons _ _ (ww t)
theorem rg: ∀ {us}{ss},StrsAre us ss->Vals (ss.map V.str) us
 | _,_,.nil=> .nil
 | _,_,.cons _ _ h=> .cons ⟨_,rfl⟩ (rg h)
def JM:xo X (.builtin "sorted") (fun xs H Q=> ∃p,∃ss:List Str,xs= [.ref p]/\bu X.K H p (ss.map V.str)/\ss.length<64/\ ∀i,i.Perm ss->sortedS i=true-> ∀l,H l=none->Q (.ref l) (aI H l (.lst (i.map V.str)))):=by
 intro f s U H xs x Q I r h
 obtain⟨p,ss,rfl,k,w,q⟩:=h
 obtain⟨u,rfl,v⟩:=JE r
 cases v
 obtain⟨d,rv,n,g⟩:=I.list k
 have a:=rv.length
 rw [Ac]at a
 refine sorted_strs n.isList (ww rv) (by lia) λc i m a2 a3=> ?_
 obtain⟨e,t⟩:=sortedAll_at s.heap d c
 have j:i.length<=sizeLine:=by rw [a2.length_eq];rw [Ac]at g;exact g
 refine⟨.ref _,_,I.laid (λb o e=>sortedAll_old e) (Af3 _) (show aP X.prog X.w _ _ _ (.lst _)from⟨by rw [Ac];exact j,c.toList,e,rg m,by simpa [seqObj]using t⟩),rfl,q i a2 a3 _ (I.aN.fresh (Af3 _))⟩
end
section
variable {X:Cx}
def gN (x:Str) (n:Nat):Str:=⟨(Aa1 n x.cps).foldl (· ++ ·) #[]⟩
theorem jO : ∀ n (a b:Array α),((Aa1 n a).foldl (· ++ ·) b).toList=b.toList++(Aa1 n a.toList).flatten
 | 0,a,b=>by simp
 | n+1,a,b=>by
  rw [Ad,Ae1,jO n,Ad,Aj8]
  simp
def xD (x) (n):(gN x n).cps.toList=(Aa1 n x.cps.toList).flatten:=by
 unfold gN
 rw [jO]
 simp
def A7 (x) (n):(gN x n).length=x.length*n:=by
 show(gN x n).cps.size=x.cps.size*n
 rw [← Ah1,xD]
 simp [Nat.mul_comm]
def sE {a b:Str}(h:a.cps.toList=b.cps.toList):a=b:=by
 cases a;cases b
 simp [Str.mk.injEq]
 exact Array.toList_inj.mp h
def BZ:b3 X (binaryOp .Mult) (λx y H Q=> ∃z k,x= .str z/\y= .int k/\0<=k/\k<=1000/\z.length*k.toNat<=1000000/\Q (.str (gN z k.toNat)) H):=by
 intro y8 s U H x y v u Q I rx ry h
 obtain⟨z,k,rfl,rfl,h0,h1,hl,q⟩:=h
 obtain⟨t,rfl⟩:=rx
 obtain⟨t',rfl⟩:=ry
 have hsz:(gN z k.toNat).length<=sizeLine:=by rw [A7];exact Ab8 hl (by decide)
 refine P.mul_str (by
  have a: ¬k< -(2 ^ 63:Int):=by lia
  have b: ¬k>=2 ^ 63:=by lia
  rw [decide_eq_false a,decide_eq_false b];rfl) (λc1 c2=> ?_) (λc1 c2=> ?_) ?_
 ·have hk:=by omega
  have:(2:Int) ^ 63-1>=(z.length:Int)*k:=by
   have e:((z.length*k.toNat:Nat):Int)=(z.length:Int)*k:=by rw [Int.natCast_mul,Al3 h0]
   have:=hl
   lia
  have:=Int.le_ediv_of_mul_le (c:=k) (by omega) (by omega)
  lia
 ·unfold Builtin.Str.tooLong
  exact decide_eq_false (by have:sizeLine>=1000000:=by decide
                            lia)
 ·by_cases c1:k<1
  ·have hk:k=0:=by lia
   subst hk
   rw [if_pos c1]
   exact⟨by decide,.str _,H,I.kept λb o e=>e,⟨_,rfl⟩,q⟩
  ·rw [if_neg c1]
   by_cases c2:(k==1||z.length==0)=k9
   ·rw [if_pos c2]
    have e:gN z k.toNat=z:=by
     apply sE
     rw [xD]
     obtain c | c:=Bool.or_eq_true_iff.mp c2
     ·have:k=1:=by simpa using c
      subst this
      simp
     ·have:z.cps.toList= []:=by
       have c:z.length=0:=by simpa using c
       have c:z.cps.size=0:=c
       rw [← Ah1]at c
       exact Ag3 c
      rw [this]
      simp
    rw [e]at q
    exact⟨.str z,H,I,⟨t,rfl⟩,q⟩
   ·rw [if_neg c2]
    exact⟨hsz,.str _,H,I.kept λb o e=>e,⟨_,rfl⟩,q⟩
def FG:b3 X (binaryOp .Add) (λx y H Q=> ∃a b ys,x= .ref a/\y= .ref b/\cJ X.K H a []/\cJ X.K H b ys/\Q (.ref b) H):=by
 intro k s U H x y v u Q I G F h
 obtain⟨a,b,ys,rfl,rfl,t,A,q⟩:=h
 cases G
 cases F
 obtain⟨B,r,E,_⟩:=I.tuple t
 obtain⟨c,J,D,_⟩:=I.tuple A
 cases r
 obtain⟨⟨C,dd,m,sl⟩,o,z,n,w⟩:=id E
 obtain⟨⟨l,g,e,i⟩,d,f,p,j⟩:=id D
 subst z w f j
 exact concat_meets ⟨_,o,rfl⟩ ⟨_,d,rfl⟩ noFill_tuple_add seq_tuple_add PySem.F.slot_tuple_add PySem.F.entry_tuple_add (PySem.F.args_tuple_add_2 _ _)
  (tuple_addW0 a b _ c.toArray n p dd g sl i rfl) ⟨o,d,.ref b,H,I,rfl,q⟩
def DX (z:X.calm=k9):xo X (.builtin "sum") (fun xs H Q=> ∃p,∃j:List Int,xs= [.ref p]/\bu X.K H p (j.map V.int)/\Q (.int (fk j)) H):=by
 intro g s U H xs K Q I r h
 obtain⟨p,j,rfl,w,q⟩:=h
 obtain⟨u,rfl,E⟩:=JE r
 cases E
 obtain⟨l,rv,m,J⟩:=I.list w
 have a:=rv.length
 rw [Ac]at a
 refine call_sum_walkG (wpAny_pyIter_list m.isList ?_)
 have f:p<s.heap.objs.size:=by
  obtain⟨o,G,_⟩:=m.isList
  exact Ab5 G
 have d:s.heap.objs.size<(s.heap.push { cls:= .type "list_iterator",data:= .fields #[.ref p,.int 0 0] }).objs.size:=Heap.lt_size (Heap.get?_push_size _ rfl)
 refine⟨s.heap.objs.size,_,_,_,_,_,λi=>j.getD i 0,rfl,Walks.list (A:=X.A.in1) (I.ok.hd z) _ p (Ac2 f) l.toArray,⟨⟨_,Ac1 _ rfl,rfl,rfl⟩,m.isList.at λo e=>Aa8 _ e⟩,λb c=> ?_,λi v B=> ?_,λy tk D F=> ?_⟩
 ·simp [or_false]at c
  obtain rfl | rfl:=c
  ·exact d
  ·exact Aj3 f d
 ·obtain⟨x,k,C⟩:=rv.kr (by simpa using B)
  rw [Ad1]at k
  cases c:j[i]? with
  | none=>rw [c]at k;cases k
  | some b=>
   rw [c]at k
   cases k
   obtain⟨t,rfl⟩:=C
   exact⟨t,by show Value.int b t=Value.int (j.getD i 0) t;rw [Ac3,c];rfl⟩
 ·have n:Inv X g U H { s with heap:=y,toks:=tk }:=I.kept λb o e=>F b o (by simp;exact Ac2 (Ab5 e)) (Aa8 _ e)
  refine⟨.int _,H,n,⟨D,?_⟩,q⟩
  rw [Ab2,←a,Jz j _ (Aa6 _),Ak1]
theorem Wu: ∀ {j}{i},Vals (j.map V.int) i-> ∃ps:List (Int×Tok),i=ps.map (λp=> .int p.1 p.2)/\ps.map (·.1)=j
 | [],i,r=>by cases r;exact⟨[],rfl,rfl⟩
 | n::j,i,r=>by
  cases r with
  | cons h t=>
   obtain⟨k,rfl⟩:=h
   obtain⟨ps,a,b⟩:=Wu t
   exact⟨(n,k)::ps,by rw [a];rfl,by rw [← b];rfl⟩
def Qw (f:Int->Int->Bool):List Int->Int->Int
 | [],a=>a
 | b::r,a=>Qw f r (if f b a then b else a)
theorem JP (f): ∀ l b a,Qw f (l++ [b]) a=if f b (Qw f l a)then b else Qw f l a
 | [],b,a=>rfl
 | c::l,b,a=>by
  show Qw f (l++ [b]) _=_
  rw [JP f l b]
  rfl
theorem W1 (f) (val:Nat->Int): ∀n,val (argBest (λi j=>f (val i) (val j)) n)=Qw f ((Ab7 n).map λi=>val (i+1)) (val 0)
 | 0=>rfl
 | n+1=>by
  have a:=W1 f val n
  rw [List.range_succ,Ae0,Ac0,Ah4,JP,←a,argBest]
  by_cases q:f (val (n+1)) (val (argBest (λi j=>f (val i) (val j)) n))=k9
  ·simp only [q,if_true]
  ·simp only [q,if_false,Af7]
def rV {c:List (Int×Tok)}(e:c.map (·.1)=n::ns) (f)
 (h:(intItems c.toArray)[argBest (λi j=>f (numAt c.toArray i) (numAt c.toArray j)) (c.toArray.size-1)]? =y0 v): ∃t,v= .int (Qw f ns n) t:=by
 obtain⟨t,rfl⟩:=intItems_at h
 refine⟨t,?_⟩
 rw [W1 f (numAt c.toArray)]
 have g:=by
  have:=congrArg List.length e
  simpa using this
 have d: ∀i,numAt c.toArray i=(n::ns).getD i 0:=λi=>by
  rw [← e,Ac3,Ad1]
  unfold numAt
  rw [List.getElem?_toArray]
  all_goals (cases c[i]? )
 have k:(Ab7 (c.toArray.size-1)).map (λi=>numAt c.toArray (i+1))=ns:=by
  rw [Ab2,g,Nat.add_sub_cancel]
  apply List.ext_getElem
  ·simp
  ·intro i a b
   simp only [List.getElem_map,List.getElem_range,d]
   rw [Ac3,List.getElem?_cons_succ,Aa7 b]
   rfl
 rw [k,d 0]
 rfl
def Ba (j:X.calm=k9):xo X (.builtin "max") (fun xs H Q=> ∃p n,∃i:List Int,xs= [.ref p]/\bu X.K H p ((n::i).map V.int)/\Q (.int (Qw (fun a b=>decide (a>b)) i n)) H):=by
 intro d s U H xs B Q I r h
 obtain⟨p,n,i,rfl,g,q⟩:=h
 obtain⟨u,rfl,x⟩:=JE r
 cases x
 obtain⟨m,rv,w,A⟩:=I.list g
 obtain⟨c,rfl,k⟩:=Wu rv
 have f:s.heap.IsList p (intItems c.toArray):=by
  have e:intItems c.toArray=(c.map λp=>Value.int p.1 p.2).toArray:=by simp [intItems]
  rw [e]
  exact w.isList
 refine max_intList (I.ok.hd j) f (by grind) λv z tk l y=> ?_
 obtain⟨t,rfl⟩:=rV k (λa b=>decide _) l
 exact⟨.int _,H,I.kept λb o e=>y b o e,⟨t,rfl⟩,q⟩
def FI (j:X.calm=k9):xo X (.builtin "min") (fun xs H Q=> ∃p n,∃i:List Int,xs= [.ref p]/\bu X.K H p ((n::i).map V.int)/\Q (.int (Qw (fun a b=>decide (a<b)) i n)) H):=by
 intro d s U H xs B Q I r h
 obtain⟨p,n,i,rfl,g,q⟩:=h
 obtain⟨u,rfl,x⟩:=JE r
 cases x
 obtain⟨m,rv,w,A⟩:=I.list g
 obtain⟨c,rfl,k⟩:=Wu rv
 have f:s.heap.IsList p (intItems c.toArray):=by
  have e:intItems c.toArray=(c.map λp=>Value.int p.1 p.2).toArray:=by simp [intItems]
  rw [e]
  exact w.isList
 refine min_intList (I.ok.hd j) f (by grind) λv z tk l y=> ?_
 obtain⟨t,rfl⟩:=rV k (λa b=>decide _) l
 exact⟨.int _,H,I.kept λb o e=>y b o e,⟨t,rfl⟩,q⟩
def qz (lo) (d n) (a:d<=n):(match lo with | none=>(d:Int) | some i=>max 0 (min (if i<0 then i+n else i) n))=((HT.aK n d lo:Nat):Int)/\HT.aK n d lo<=n:=by
 cases lo with
 | none=>exact⟨rfl,a⟩
 | some i=>
  by_cases q:i<0
  ·simp [HT.aK,q,if_true];lia
  ·simp [HT.aK,q,if_false];lia
def QQ (x:Str) (a b:Option Int):Builtin.Str.strSliceIndices a b 1 x.length=(Ab7 (HT.aK x.length x.length b-HT.aK x.length 0 a)).map λk=>HT.aK x.length 0 a+k:=by
 have f:=qz a 0 x.length (Af9 _)
 have c:=qz b x.length x.length (Aa6 _)
 have e:Builtin.Str.strSliceIndices a b 1 x.length=sliceRange ((HT.aK x.length 0 a:Nat)) ((HT.aK x.length x.length b:Nat)) 1:=by
  rw [← f.1,←c.1]
  cases a<;>cases b<;>rfl
 rw [e]
 unfold sliceRange
 simp only [show (1:Int)>0 by decide,if_true,Int.ediv_one,Int.one_mul]
 have d:(if ((HT.aK x.length 0 a:Nat))<((HT.aK x.length x.length b:Nat):Int)then((HT.aK x.length x.length b:Nat))-((HT.aK x.length 0 a:Nat):Int)+1-1 else 0).toNat=HT.aK x.length x.length b-HT.aK x.length 0 a:=by
  split<;>lia
 rw [d]
 refine List.map_congr_left λk _=> ?_
 lia
noncomputable def iq (x:Str) (a b:Option Int):Str:=⟨((x.cps.toList.drop (HT.aK x.length 0 a)).take (HT.aK x.length x.length b-HT.aK x.length 0 a)).toArray⟩
def yc (x) (lo hi):Txt.slice x lo hi=iq x lo hi:=by
 have c:=(qz lo 0 x.length (Af9 _)).2
 have a:=(qz hi x.length x.length (Aa6 _)).2
 by_cases q:HT.aK x.length 0 lo<=HT.aK x.length x.length hi
 ·have e:=StrLaws.sliceText_nat x q a
  rw [show iq x lo hi=⟨((x.cps.toList.drop _).take _).toArray⟩from rfl,←e]
  unfold Txt.slice StrLaws.sliceText
  rw [QQ x lo hi,StrLaws.strSliceIndices_plain q a]
 ·have b:HT.aK x.length x.length hi-HT.aK x.length 0 lo=0:=by lia
  unfold Txt.slice iq
  rw [QQ x lo hi,b]
  rw [if_neg (by simp;lia)]
  simp
def mQ:V->Option Int->Option Int->Hp->VK->Prop:=λx lo hi H Q=> ∃z,x= .str z/\z.length<=sizeLine/\Q (.str (iq z lo hi)) H
def Qt:fv X mQ:=by
 intro a s U H x v r w i g sl Q I p d n m h
 obtain⟨z,rfl,j,q⟩:=h
 obtain⟨t,rfl⟩:=p
 refine⟨"str",_,F.slot_str_getitem.lookup,typeIs_str _ _ _,?_⟩
 have fin: ∀f k,EP X a U Q (.str (Txt.slice z i g) f) { s with toks:=k }:=λf k=>by
  rw [yc]
  exact⟨.str _,H,I.kept (t':=k) λb o e=>e,⟨_,rfl⟩,q⟩
 have c:(Txt.slice z i g).length<=sizeLine:=Ab8 (Txt.slice_le z _ _) j
 cases n<;>cases m
 ·exact wpAny_getItem_str_slice (l:=u0) (u:=u0) (st:=u0) d rfl (post_val_or_str ⟨c,fin⟩)
 ·exact wpAny_getItem_str_slice (l:=u0) (u:=y0 (_,_)) (st:=u0) d rfl (post_val_or_str ⟨c,fin⟩)
 ·exact wpAny_getItem_str_slice (l:=y0 (_,_)) (u:=u0) (st:=u0) d rfl (post_val_or_str ⟨c,fin⟩)
 ·exact wpAny_getItem_str_slice (l:=y0 (_,_)) (u:=y0 (_,_)) (st:=u0) d rfl (post_val_or_str ⟨c,fin⟩)
theorem wH: ∀ {ss}{i},Vals (ss.map V.str) i-> ∃ps:List (Str×Tok),i=strValues ps/\ps.map (·.1)=ss
 | [],i,r=>by cases r;exact⟨[],rfl,rfl⟩
 | n::c,i,r=>by
  cases r with
  | cons h t=>
   obtain⟨k,rfl⟩:=h
   obtain⟨ps,a,b⟩:=wH t
   exact⟨(n,k)::ps,by rw [a];rfl,by rw [← b];rfl⟩
def vm (K:Aa4):V->List V->Hp->VK->Prop:=λx a H Q=> ∃z p,∃ss:List Str,x= .str z/\a= [.ref p]/\bu K H p (ss.map V.str)/\JoinOk z ss=k9/\Q (.str (Str.join z ss)) H
def AM:lG X "str.join" (vm X.K):=by
 intro c s U H x y v w Q I n rv h
 obtain⟨z,p,f,rfl,rfl,g,a,q⟩:=h
 obtain⟨t,rfl⟩:=n
 obtain⟨u,rfl,i⟩:=rv.one
 cases i
 obtain⟨l,rv,m,r⟩:=I.list g
 obtain⟨A,rfl,j⟩:=wH rv
 refine SC.join m.isList j a λd k=>⟨.str _,H,I.kept λb o e=>e,⟨d,?_⟩,q⟩
 show Value.str (Builtin.Str.glued z f) d=_
 rw [StrLaws.glued_eq_join]
end
open PySem PySem.Spec PyProof.Rows PySem.MeetsSeq
section
variable {X:Cx}
abbrev rE:=V->Hp->Prop
def sQ (X:Cx) (T:String) (ty:rE):Prop:= ∀(y8:List (Addr×Obj)) (s:Shared) (U:St) (H:Hp) (x:V) (v:Value),Inv X y8 U H s->RelV x v->ty x H->s.TypeIs v T/\ ∀a,v= .ref a-> ∃ob,s.heap.get? a=y0 ob/\ob.dict=u0
def ER (ty:rE) (r:V->List V->Hp->VK->Prop) (a:TE) (t:TA):TE:=λU H Q=>a U H λx H1=>ty x H1/\t U H1 λxs H2=>r x xs H2 Q
def rR {T id:String}(K:PlainAttrs T) (f:Slot T name id) (i:typeOf (.builtin id)=pure (.type "method_descriptor")) (D:sQ X T ty) (z:lG X id r) (M:PE X o to) (q:PA X (e::es) t)
 (c:attributeBase o name X.env (eval o X.env)=eval o X.env)
 (d:((backTo k6 (starEach (e::es) X.env)).all (λx=> !x.1)&&(backToKw k6 (keywordEach [] X.env)).all (λx=>x.1.isSome)
   &&u9 ((e::es).length+([]:List Keyword).length+(if ([]:List Keyword).isEmpty then 0 else 1)<30))=k9)
 (b:(apos.endLine==k6.line)=k9) (B:starEach (e::es) X.env=(y9,eval e X.env)::starEach es X.env) (g:(backTo k6 (starEach es X.env)).any (·.1)=y9):
 PE X (.Call (.Attribute o name apos) (e::es) [] k6) (ER ty r to t):=by
 intro a s U H Q I h
 refine wpAny_Call_method_late c d b rfl (aG (M a s U H _ I h) ?_)
 rintro v n ⟨x,l,k,j,w,u⟩
 obtain⟨L,G⟩:=D a n U l x v k j w
 refine⟨T,id,K,f,i,L,G,?_⟩
 have m:=q k6 a n U l _ k u
 rw [B]at m ⊢
 refine Calls.callWith_builtin (by assumption) (Calls.evalArgs_plain ?_)
 exact aG m λy J ⟨A,E,p,F,C⟩=>z a J U E x A v y Q p j F C
def sD:sQ X "str" (fun x _=> ∃z,x= .str z):=by
 intro a s U H x v I r h
 obtain⟨z,rfl⟩:=h
 obtain⟨t,rfl⟩:=r
 exact⟨typeIs_str s z t,λ_ e=>nomatch e⟩
end
def ZC {g f:Option Int}(a:IsTup s.heap t vs) (e:s.heap.IsSliceOf sl vl vu .none) (i:IsPart vl g) (j:IsPart vu f)
 (m:HT.aK vs.size 0 g=0) (h1:HT.aK vs.size vs.size f=vs.size) (h:Q (.ref t) s):wpAny (model prog w) A (getItem (.ref t) (.ref sl)) Q E s:=by
 obtain⟨k,c,d,l⟩:=id e
 have b:s.TypeIs (.ref sl) "slice" :=⟨k,c,d⟩
 unfold getItem
 try with_reducible refine wpAny_holding ?_
 refine wpAny_bind (wpAny_sequenceKey a.typeIs rfl (wpAny_bind (wpAny_callSpecial?_slot a.typeIs PyProof.Rows.slot_tuple_getitem
  (wpAny_call_entry PyProof.Rows.slot_tuple_getitem a.typeIs PyProof.Rows.entry_tuple_getitem ?_ (PyProof.Rows.args_tuple_getitem _ _)))))
 show wpAny _ _ (Builtin.Tuple.tupleItemsOf _ >>= _) _ _ s
 refine wpAny_bind (tupleItemsOf_ a (wpAny_bind (wpAny_typeOf b ?_)))
 refine wpAny_bind (HT.bR e i j ?_)
 show wpAny _ _ (if _=k9 then _ else _) _ _ s
 rw [if_pos (by simp_all)]
 refine wpAny_bind (wpAny_bind (wpAny_typeOf a.typeIs (wpAny_pure ?_)))
 exact wpAny_bind (wpAny_rule (wpAny_pure ⟨_,rfl,wpAny_pure h⟩))
section
variable {X:Cx}
def mX (K:Aa4):V->Option Int->Option Int->Hp->VK->Prop:=λx lo hi H Q=> ∃a xs,x= .ref a/\cJ K H a xs/\HT.aK xs.length 0 lo=0/\HT.aK xs.length xs.length hi=xs.length/\Q (.ref a) H
def Dm:fv X (mX X.K):=by
 intro d s U H x v t u w o sl Q I m i k g h
 obtain⟨a,j,rfl,l,f,n,q⟩:=h
 cases m
 obtain⟨c,r,e,p⟩:=I.tuple l
 have b:c.toArray.size=j.length:=by rw [Ab2];exact r.length.symm
 refine⟨"tuple",_,PyProof.Rows.slot_tuple_getitem.lookup,e.typeIs,?_⟩
 exact ZC e i k g (by rw [b];exact f) (by rw [b];exact n) ⟨.ref a,H,I,rfl,q⟩
end
end L2
set_option maxHeartbeats 8000000
namespace L2
open PySem PySem.Spec PyProof.Rows
open Sem (wp)
abbrev K2:=List (Int ⊕ List Int)
section
variable (prog:Program) (w:World)
inductive wQ (h:Heap):K2->List Value->Prop
 | nil:wQ h [] []
 | int {i:Int}{t:Tok}{ks:K2}{vs:List Value}:wQ h ks vs->wQ h (.inl i::ks) (.int i t::vs)
 | tup {l:List Int}{a:Addr}{ks:K2}{vs:List Value}:IsTupleKey (intKind prog w) h l a->wQ h ks vs->wQ h (.inr l::ks) (.ref a::vs)
end
abbrev WK:=Int×List Int×List Int
def rM (l:List Int):Int:=reduceHash (Builtin.Tuple.tupleHashOf (l.map hashInt))
def yL (k:WK):Int:=reduceHash (Builtin.Tuple.tupleHashOf [hashInt k.1,rM k.2.1,rM k.2.2])
def B9 (x:WK×Addr×Value):DictEntry:=⟨yL x.1,.ref x.2.1,x.2.2⟩
noncomputable def DW (a:Addr) (xs:List (WK×Addr×Value)):HO:= .ext λh=>(a==sysModules)=y9/\xs.length<=sizeLine/\(xs.map (·.1)).Nodup/\ ∃o es b,h.get? a=y0 o/\o.ExactDict/\o.data= .dict es b/\es.toList=xs.map B9
section
variable {X:Cx}{y8:List (Addr×Obj)}{U:St}{H:Hp}{s:Shared}{a b:Addr}{k:WK}{xs:List (WK×Addr×Value)}{r:Value}{A:Around}{E:Value->Shared->Prop}
def n7 (I:Inv X y8 U H s):sysModules<s.heap.objs.size:=by
 have h:=(I.mod.glob.keeps I.bk).lt
 exact Aj3 (by decide) h
end
open PySem.AutoSeq1 (wpAny_loadPart')
open MeetsSeq MeetsSeq2 MeetsSeq3 SeqRoads2 PySem.SeqAt
open PySem PySem.Spec PyProof.Rows PyProof.Rows.KTD PyProof.V
def lF:PyData->V
 | .int i=> .int i
 | .str x=> .str x
 | .bool b=> .bl b
 | _=> .aj
def Dg (a:flatData d=k9) (h:Flat u d):RelV (lF d) u:=by
 cases d with
 | none=>rw [h.none_inv];rfl
 | bool b=>rw [h.bool_inv];rfl
 | int i=>obtain⟨t,rfl⟩:=h.int_inv;exact⟨t,rfl⟩
 | str x=>obtain⟨t,rfl⟩:=h.str_inv;exact⟨t,rfl⟩
 | list _=>cases a
 | tuple _=>cases a
 | dict _=>cases a
abbrev iZ (T:List (Str×PyData)):List (Str×Dat):=T.map λp=>(p.1,Dat.flat p.2)
section
variable {k:Str}{h:Heap}{P:Value->Prop}
def t5 (e:k=x):datumAt k ((x,d)::T)=y0 d:=if_pos (decide_eq_true e)
def pC (e: ¬k=x):datumAt k ((x,d)::T)=datumAt k T:=if_neg (by simp [e])
theorem tR: ∀(T){d},datumAt k T=y0 d->inKeys k (iZ T)=k9
 | [],_,q=>by cases q
 | (x,a)::T,d,q=>by
  show(u9 (k=x)||inKeys k (iZ T))=k9
  by_cases e:k=x
  ·rw [decide_eq_true e];rfl
  ·rw [pC e]at q;rw [tR T q,Al9]
def vh (q: ∀v,Flat v d->P v):Opened h P (.flat d):=by
 cases d with
 | none=>exact q _ Flat.none
 | bool b=>exact q _ (Flat.bool b)
 | int i=>exact λt=>q _ (Flat.int i t)
 | str x=>exact λt=>q _ (Flat.str x t)
 | list _=>exact q
 | tuple _=>exact q
 | dict _=>exact q
theorem Z3: ∀(T),(∀ d v,datumAt k T=y0 d->Flat v d->P v)->EachL h k P (iZ T)
 | [],_=>trivial
 | (x,d)::T,q=>by
  by_cases e:k=x
  ·exact eachL_hit e (vh λv f=>q d v (t5 e) f)
  ·exact eachL_miss e (Z3 T λb v a f=>q b v ((pC e).trans a) f)
end
def lK (K:Aa4) (a:Addr) (T:List (Str×PyData)):Prop:=tabLook flatLooks (λb=>K.lookup b) a T=k9
section
variable {X:Cx}{y8:List (Addr×Obj)}{U:St}{H:Hp}{s:Shared}
def Eh (I:Inv X y8 U H s) (b:lK X.K a T):Here s.heap s.heap a (iZ T):=
 ⟨(tab_of_look (λ_ _ x=>flat_of_looks x) I.bO b).text,λ_ _ e=>e⟩
def Dk (T) (h: ∀p∈T,flatData p.2=k9):((iZ T).all λp=>KTD.plain p.2)=true:=by
 rw [Al7,Af]
 rintro ⟨x,d⟩ a
 have:=h _ a
 cases d<;>first | rfl | cases this
def Au (K:Aa4):R2:=λx y H Q=> ∃a T k d,x= .ref a/\y= .str k/\lK K a T/\(∀ p∈T,flatData p.2=k9)/\datumAt k T=y0 d/\flatData d=k9/\Q (lF d) H
def D2:ft X (Au X.K):=by
 intro b c g s U H x y v u Q I p o h n
 obtain⟨a,T,k,d,rfl,rfl,j,l,i,m,q⟩:=h
 cases p
 obtain⟨t,rfl⟩:=o
 refine item_textA (Eh I j) (Dk T l) (tR T i) (Z3 T λr w e f=> ?_) n
 rw [i]at e
 cases e
 exact⟨lF d,H,I.tok _,Dg m f,q⟩
def EH {i:Nat}(k:X.N[i]? =y0 x) (n:gs X.env.scope x) (I:Inv X y8 U H s) (e:U[i]? =y0 (y0 v)) (q: ∀u,RelV v u->Q u s)
 (b:(x==("__debug__" :Str))=false) (d:(x==("__classdict__" :Str))=false):wpAny (model X.prog X.w) X.A (eval (.Name x p) X.env) Q E s:=by
 obtain⟨m,h,j⟩:=I.loc
 obtain⟨u,r,l⟩:=j i x v k e n
 have q:=q u r
 obtain⟨a,z⟩ | ⟨a | a,c,f,g⟩:=l
 ·exact wpAny_Name (wpAny_loadName_local I.ok.kind a h z q) b
 ·exact wpAny_Name (wpAny_loadName_cell I.ok.kind a f g q) b
 ·exact wpAny_Name (wpAny_loadName_free I.ok.kind a f g q d) b
def EG:xo X (.type "str") (fun xs H Q=> ∃i:Int,xs= [.int i]/\i.natAbs.log2<1920/\Q (.str (Str.ofString (toString i))) H):=by
 intro a s U H xs d Q I r h
 obtain⟨i,rfl,b,q⟩:=h
 obtain⟨u,rfl,c⟩:=r.one
 obtain⟨t,rfl⟩:=c
 exact PySem.P.str_of_int b ⟨.str _,H,I.tok _,⟨_,rfl⟩,q⟩
def W5:List (Str×Str)->List (Option Expr)->List Expr->Prop
 | [],ks,c=>ks= []/\c= []
 | (x,y)::r,ks,c=> ∃j p d e b a,ks=y0 (.Constant (.str x) j p)::b/\c= .Constant (.str y) d e::a/\W5 r b a
theorem zU: ∀ {T}{ks}{vs},W5 T ks vs->ks.all (·.isSome)=k9/\ks.length=T.length/\vs.length=T.length
 | [],_,_,⟨rfl,rfl⟩=>⟨rfl,rfl,rfl⟩
 | (x,y)::r,_,_,⟨j,p,f,g,d,c,rfl,rfl,ok⟩=>by
  obtain⟨e,b,a⟩:=zU ok
  exact⟨by simpa using e,by simp [b],by simp [a]⟩
theorem XA : ∀ {T}{ks}{vs}{s}{Q},W5 T ks vs →
 (∀ i us t,Carries (strKind X.prog X.w) us i->FlatPairs PyData.str i (T.map λp=>(PyData.str p.1,PyData.str p.2))->i.map (·.1)=T.map (·.1)->Q us { s with toks:=t }) →
 wpAny (model X.prog X.w) X.A (evalPairs (pairTrees ks vs X.env pos)) Q X.xe s
 | [],_,_,s,Q,⟨rfl,rfl⟩,q=>pairTrees_nil_walk (q [] [] s.toks trivial .nil rfl)
 | (x,y)::r,_,_,s,Q,⟨j,p,d,e,b,a,rfl,rfl,ok⟩,q=>
  pairTrees_cons_walk (Calls.Constant_str (Calls.Constant_str (XA ok λi us t c f m=>q ((x,.str y _)::i) _ t ⟨strKind_is _ _ _ _,rfl,c⟩ (.cons (Flat.str y _) f) (by simp [m]))))
theorem Jw {K:Type} [DecidableEq K]: ∀(more a:List (K×Value)),((a++more).map (·.1)).Nodup->merged a more=a++more
 | [],a,_=>by simp [merged]
 | p::more,a,h=>by
  have e:stored a p.1 p.2=a++ [p]:=by
   unfold stored
   rw [if_neg]
   intro z
   obtain⟨b,c,e⟩:=List.any_eq_true.mp z
   rw [Ae0,List.nodup_append]at h
   exact h.2.2 b.1 (List.mem_map_of_mem c) p.1 (by simp) (of_decide_eq_true e)
  show merged (stored a p.1 p.2) more=_
  rw [e,Jw more (a++ [p]) (by simpa using h)]
  simp
def F4 {i:Nat}(ok:W5 T ks vs) (j:T≠ []) (w:T.length<=15) (n:(T.map (·.1)).Nodup)
 (B:X.N[i]? =some x) (J:gs X.env.scope x) (A:(x==("__debug__" :Str))=false) (g:(x==("__classdict__" :Str))=false):
 PE X (.Subscript (.Dict ks vs p1) (.Name x p2) pos) (λU H Q=> ∃k y,U[i]? =y0 (y0 (.str k))/\T.lookup k=y0 y/\Q (.str y) H):=by
 intro e s U H Q I ⟨k,y,o,d,q⟩
 obtain⟨E,a2,a3⟩:=zU ok
 have K:=n7 I
 refine Subscript_ (wpAny_Dict_walk E (a2.trans a3.symm) (λz=>j (List.length_eq_zero_iff.mp (by simp_all))) (by lia) (XA ok λa G t c f m=>⟨a,c,Heap.DictOf.new _,λD dd L=> ?_⟩))
 have h:Inv X e U H { s with heap:=D,toks:=t+G.length }:=I.kept λb u z=>(L.2 b (Ac2 (Ab5 z))).trans (Aa8 _ z)
 refine EH B J h o (λu F=> ?_) A g
 obtain⟨tk,rfl⟩:=F
 rw [Jw a [] (by simp_all),Ag4]at dd
 refine item_tab_any PyProof.V.same_str (strKind_is _ _ _ _) ⟨beq_eq_false_iff_ne.mpr (Ne.symm (Ac2 K)),a,dd,f⟩ (dv:= .str y) ?_ (λv l=> ?_) rfl
 ·clear ok j w n a2 a3 f m
  induction T with
  | nil=>cases d
  | cons p T r=>
   rw [Ab4]at d
   by_cases z:k=p.1
   ·subst z
    rw [beq_self_eq_true]at d
    cases d
    simp [PySem.Spec.lookup,PyProof.V.same_str]
   ·rw [beq_eq_false_iff_ne.mpr z]at d
    have:=r d
    have C: ¬p.1=k:=λq=>z q.symm
    simp [PySem.Spec.lookup,PyProof.V.same_str,C,this]
 ·obtain⟨M,rfl⟩:=l.str_inv
  exact⟨.str y,H,h.tok _,⟨_,rfl⟩,q⟩
end
section
variable {X:Cx}
def vJ:lG X "str.startswith" (fun x vs H Q=> ∃z y:Str,x= .str z/\vs= [.str y]/\Q (.bl (Txt.startswith z y)) H):=by
 intro a s U H x vs v d Q I c rv h
 obtain⟨z,y,rfl,rfl,q⟩:=h
 obtain⟨t,rfl⟩:=c
 obtain⟨u,rfl,b⟩:=rv.one
 obtain⟨e,rfl⟩:=b
 exact SC.startswith ⟨.bl _,H,I,rfl,q⟩
def Bl:xo X (.type "int") (fun xs H Q=> ∃ z n,xs= [.str z]/\z.length<=640/\PySem.intText? z=some n/\Q (.int n) H):=by
 intro a s U H xs e Q I r h
 obtain⟨z,n,rfl,c,b,q⟩:=h
 obtain⟨u,rfl,d⟩:=r.one
 obtain⟨t,rfl⟩:=d
 exact PySem.W.KIN.call_text b c ⟨.int n,H,I.tok _,⟨_,rfl⟩,q⟩
end
def mI (a:Int) (n:Nat):It:=⟨λi _=>i<n,λi H x H'=>H'=H/\x= .int (a+(i:Nat)*2),λi _=>n<=i⟩
def FN {K:Aa4}(it) (lo) (n):gE P w K tg (mI lo n) [it] it (λi h=>IsRangeIter h it (lo+(i:Nat)*2) ((n:Int)-(i:Nat)) 2) where
 mem:=by simp
 obj:=λi h a b d=>by
  have e:=by simpa using d
  subst e
  exact⟨_,a,λv z=>by
   have C:=z
   cases C⟩
 keep:=λi h l a k=>k it (by simp) _ a
 item:=by
  intro X G L A m i c s U H E I g a q
  obtain⟨u,j,J,r,p,x⟩:=g it (by simp)
  refine(Walks.range (I.ok.hd m) it lo 2 n).item i s _ _ q a λv l tk D f y=> ?_
  obtain⟨t,rfl⟩:=D
  have B:Inv X c U H { s with heap:=l,toks:=tk }:=I.turned (λb o d e=>y b o (by simpa using d) e) u j r p x
  exact⟨_,rfl,xS f rfl rfl (by decide) ⟨.int (lo+ i*2),H,B,⟨t,rfl⟩,⟨rfl,rfl⟩,f,λb d=>(g b d).1⟩⟩
 done:=by
  intro X G L A m i c s U H E I g a q
  obtain⟨u,j,J,r,p,x⟩:=g it (by simp)
  exact wpAny_pyNext_range_end (I.ok.hd m) a (by have:n<=i:=q;omega) λl F=>⟨rfl,I.turned (λb o d e=>F b o d e) u j r p x⟩
 self:=λ_ _ _ _ _ a h=>wpAny_pyIter_rangeiter a h
def jX (a b):Builtin.Range.rangeSize a b 2=(((b-a+1) / 2).toNat:Int):=by
 unfold Builtin.Range.rangeSize
 split<;>lia
def F9 (h1: -(2 ^ 60)<=a) (h2:a<2 ^ 60) (d: -(2 ^ 60)<=b) (c:b<2 ^ 60):Builtin.Range.small a b 2=true:=by
 unfold Builtin.Range.small
 rw [jX]
 simp [Builtin.Range.rangeFitsLong,if_true]
 omega
section
variable {X:Cx}{tg:Expr}
def E4 (a:TA):TI:=λU H R=>a U H λb H1=> ∃i j:Int,b= [.int i,.int j,.int 2]/\(-(2 ^ 60)<=i/\i<2 ^ 60/\ -(2 ^ 60)<=j/\j<2 ^ 60)/\R (mI i ((j-i+1) / 2).toNat) H1
def EM (G:Gl X "range") (B:X.mg "range" =none) (y:PA X [a,b,c] ta) (D:starEach [a,b,c] X.env= [(false,eval a X.env),(false,eval b X.env),(false,eval c X.env)]) (g:starEach [b,c] X.env= [(false,eval b X.env),(false,eval c X.env)]):
 PI X tg (.Call (.Name "range" p) [a,b,c] [] pos) (E4 ta):=by
 intro d s U H R I h
 refine Call_ (XC I G B boot_range (PyProof.Rows.callWith_type1 (aG (y pos d s U H _ I h) λM n ⟨N,v,z,x,l⟩=> ?_) (by rw [D,g]) (by rw [g];rfl)))
 obtain⟨i,j,e,⟨l,F,K,E⟩,q⟩:=l
 subst e
 cases x with
 | cons r f=>
  cases f with
  | cons L f=>
   cases f with
   | cons m f=>
    cases f
    obtain⟨t,rfl⟩:=r
    obtain⟨J,rfl⟩:=L
    obtain⟨u,rfl⟩:=m
    refine call_range_3 (by decide) ?_ (Or.inl (PyProof.noPylong_small (by decide)))
    refine wpAny_pyIter_range (IsRange.new ..) (F9 l F K E) ?_
    have k:Inv X d U v { n with heap:=n.heap.push { cls:= .type "range",data:= .fields #[.int i t,.int j J,.int 2 u] },toks:=n.toks }:=z.kept fun b o e=>Heap.get?_push_of_some _ e
    refine⟨_,[_],_,_,v,rfl,k.kept λb o e=>Aa8 _ e,FN _ i ((j-i+1) / 2).toNat,?_,λb C=> ?_,q⟩
    ·have w:i+ (0:Nat)*2=i:=by simp
     have A:((((j-i+1) / 2).toNat))- (0:Nat)=Builtin.Range.rangeSize i j 2:=by rw [jX];lia
     rw [w,A]
     exact Ac1 _ rfl
    ·cases Ab6.mp C
     exact k.dn (Aa6 _) (k.aN.fresh (Aa6 _))
end
open PySem PySem.Spec PySem.Calls PySem.W PyProof.Rows
def QI:List Value->Bool
 | []=>y9
 | x::r=>match x with
  | .ref _=>QI r
  | _=>x::r==Xz
theorem Wo {P:List Value->Prop}(a:P Xz) (h1: ∀c r,P r->P (.ref c::r)): ∀ {l},QI l=k9->P l
 | [],e=>by cases e
 | x::r,e=>by
  unfold QI at e
  split at e
  ·exact h1 _ _ (Wo a h1 e)
  ·rw [beq_iff_eq.mp e];exact a
def QP (self)(e:QI l=k9):refuseLoop self "__setattr__" l=pure ():=
 Wo (P:=fun l=>refuseLoop self "__setattr__" l=pure ()) (PySem.F.store_ValueError.passes self) (fun c r h=>by rw [refuseLoop_ref];exact h) e
def ZN (e:QI l=true):l.contains (.type "object")=true:=
 Wo (P:=λl=>l.contains _=k9) (by decide +kernel) (λc r h=>by rw [List.contains_cons,h,Al9]) e
def J8 (e:QI l=true):l.contains (.type "BaseException")=true:=
 Wo (P:=λl=>l.contains _=k9) (by decide +kernel) (λc r h=>by rw [List.contains_cons,h,Al9]) e
def J2 (e:QI l=k9):l.isEmpty=false:=
 Wo (P:=λl=>l.isEmpty=y9) rfl (λc r h=>rfl) e
def ir (K:Frag) (C:Addr):Bool:=(clsIn K C).any λcd=>QI cd.mro&&cd.hasDict
def oI {K:Frag}(h:ir K C=k9): ∃cd,clsIn K C=y0 cd/\QI cd.mro=k9/\cd.hasDict=true:=by
 obtain⟨cd,b,a⟩:=PySem.W.any_some h
 rw [Aa9]at a
 exact⟨cd,b,a.1,a.2⟩
section
variable {prog:Program}{w:World}{A:Around}{E:Value->Shared->Prop}{s:Shared}{K:Frag}{x C t:Addr}{f:Str}{u:Value}
def Dn (X:K.In s.heap) (j:s.heap.get? x=some (eE C t none)) (O:ir K C=true) (D:findIn K (.ref C) "__setattr__" =some (some (.builtin "object.__setattr__"))) (v:findIn K (.ref C) f=some none)
 (h: ∀h',(∀ b o,b≠x->s.heap.get? b=y0 o->h'.get? b=y0 o)->h'.get? x=y0 (eE C t (y0 s.heap.objs.size))->h'.Ns1 s.heap.objs.size (λy=>if y=f then y0 u else u0)->Q () { s with heap:=h',toks:=s.toks+2 }):
 wpAny (model prog w) A (setAttr (.ref x) f u) Q E s:=by
 obtain⟨H,n,p,z⟩:=oI O
 have I:PySem.W.InstAt s.heap x _ C none:=⟨j,rfl,rfl,trivial⟩
 refine PySem.W.set_plain X I D ?_
 have c:=PySem.F.store_object
 have sub:Looks (model prog w) s.heap (isInstance _ _) true:=I.type.andThen (looks_mroIn X (by unfold mroIn;rw [n,Ac9,if_neg (by rw [J2 p];decide),ZN p]))
 have N:Looks (model prog w) s.heap (mroOf (.ref C)) H.mro:=(looks_clsIn X n).andThen .now
 have J:=looks_findIn (M:=model prog w) X v
 refine codeAny_call_builtin c.slot.plain c.entry (@check_slot _ _ _ { s with toks:=s.toks+1 } "object.__setattr__" "object" "__setattr__" _ [.str f s.toks,u] [] _ c.kind c.split sub (c.args _ _ u) ?_)
 rw [osa_eq,refuse_eq]
 refine wpAny_bind (wpAny_bind (I.type.here (s:= { s with toks:=s.toks+1 }) (wpAny_bind (N.here (s:= { s with toks:=s.toks+1 }) ?_))))
 rw [QP _ p]
 refine wpAny_pure (wpAny_bind (I.type.here (s:= { s with toks:=s.toks+1 }) (wpAny_bind (J.here (s:= { s with toks:=s.toks+1 }) (wpAny_bind (wpAny_pure ?_))))))
 have a:(s.heap.push { cls:= .type "dict",data:= .dict #[] }).get? x=some _:=Heap.get?_push_of_some _ j
 have i:=Ac2 (Ab5 j)
 refine wpAny_bind (wpAny_pure (wpAny_bind (wpAny_bind (wpAny_loadPart j (wpAny_bind (PySem.W.Looks.here (PySem.W.looks_clsIn X n) ?_))))))
 rw [z]
 have r:((s.heap.push { cls:= .type "dict",data:= .dict #[] }).update x fun o=> { o with dict:=some s.heap.objs.size }).get? s.heap.objs.size=some { cls:= .type "dict",data:= .dict #[] }:=
  (Al1 _ _ _ _ i.symm).trans (Ac1 _ rfl)
 have q:((s.heap.push { cls:= .type "dict",data:= .dict #[] }).update x fun o=> { o with dict:=some s.heap.objs.size }).Ns s.heap.objs.size (fun _=>none):=
  ⟨_, #[],_,r,rfl,λe L=>absurd L (by simp),λ_=>rfl⟩
 refine wpAny_bind (wpAny_alloc (wpAny_bind (wpAny_update a (wpAny_pure ?_))))
 refine wpAny_bind (wpAny_pure (wpAny_bind (wpAny_nsSet1 (Heap.Ns1.of_empty q) λh' g d=> ?_)))
 obtain⟨P,F,G,m,k,l⟩:=g.count (PySem.Within.cons f u PySem.Within.nil)
 refine wpAny_bind (wpAny_lookBehind m (by rw [k];exact pastItsLine_dict (Ab8 l (by rw [Aa2,Ag0,sizeLine_eq];omega))) ?_)
 refine wpAny_pure (h h' (λb o B e=> ?_) ?_ g)
 ·exact(d.2 b (Ac2 (Ab5 e))).trans ((Al1 _ _ _ _ B).trans (Aa8 _ e))
 ·exact(d.2 x i).trans (Ai3 _ a rfl)
end
noncomputable def XF (K:Frag) (C:Addr):Bool:=match K.lookup C with
 | some ⟨.type "type",_,.cls cd,sl⟩=>(match cd.mro,sl.toList with
  | .ref c::a,[_,_,_,_,y0 (.builtin n),_]=>c==C&&(n== "ValueError.__new__" &&(!cd.hasDel&&(tailIn K Xz a&&nsOkIn K cd.ns)))
  | _,_=>y9)
 | _=>y9
def zC {K:Frag}(X:K.In h) (q:XF K C=k9):
 ∃J L nm i bs j sn sub ab col dd k0 k1 k2 k3 k5 mN,h.get? C=y0 (excClassObj nm i C L bs J j sn sub ab col dd k0 k1 k2 k3 k5 "ValueError.__new__")/\h.Ns L mN/\OwnTail h Xz J:=by
 unfold XF at q
 split at q
 next dd m sl f=>
  split at q
  next r p k0 k1 k2 k3 nn k5 e n=>
   simp only [Aa9,beq_iff_eq,Bool.not_eq_true']at q
   obtain⟨rfl,rfl,c,k,d⟩:=q
   obtain⟨nm,bs,g,b,i,j,sn,sub,ab,col,o⟩:=m
   dsimp only at e c d
   subst e c
   have a:sl= #[k0,k1,k2,k3,y0 (.builtin "ValueError.__new__"),k5]:=by
    cases sl with
    | mk l=>exact congrArg Array.mk n
   subst a
   exact⟨p,b,nm,i,bs,j,sn,sub,ab,col,dd,k0,k1,k2,k3,k5,_,X _ _ f,.of_isNs (isNs_of_in X d),tail_of_in X k⟩
  next=>cases q
 next=>cases q
section
variable {prog:Program}{w:World}{A:Around}{E:Value->Shared->Prop}{h:Heap}{g:Array GenState}{d:Drawn}{t:Nat}{os:OsState}{K:Frag}{C fI:Addr}
def XR (h:Heap) (C:Addr) (rest:List Value):Heap:=(h.push { cls:= .type "tuple",data:= .seq rest.toArray }).push (eE C h.objs.size none)
def Qv {rest:List Value}(e:h.get? b=y0 o):(XR h C rest).get? b=y0 o:=Aa8 _ (Aa8 _ e)
def QX {rest:List Value}:(XR h C rest).get? (h.objs.size+1)=y0 (eE C h.objs.size u0):=by
 have:=Heap.get?_push_size (h.push { cls:= .type "tuple",data:= .seq rest.toArray }) (o:=eE C h.objs.size none) rfl
 rwa [Ai2]at this
def uI {rest:List Value}{Q:Value->Shared->Prop}(X:K.In h) (s:XF K C=true) (l:findIn K (.ref C) "__init__" =some (some (.ref fI))) (p:typeIn K (.ref fI)=some (.type "function")) (c:rest.length<=sizeLine)
 (q:wpAny (model prog w) (A.under (.builtin "type.__call__" ⟨.ref C::rest,[]⟩)) (call (.ref fI) (.ref (h.objs.size+1)::rest)) (fun r s'=>r= .none/\Q (.ref (h.objs.size+1)) s') E ⟨XR h C rest,g,d,t,os⟩):
 wpAny (model prog w) A (call (.ref C) rest) Q E ⟨h,g,d,t,os⟩:=by
 obtain⟨n,O,N,D,bs,y,V,sub,G,u,dd,z,P,I,L,R,U,a,J,T⟩:=zC X s
 have F:=PySem.F.excBase_ValueError
 have H:=tc_lookup
 have S:=tc_bind (.ref C)
 have B:(⟨h,g,d,t,os⟩:Shared).TypeIs (.ref C) "type" :=⟨_,a,rfl⟩
 refine wpAny_call (codeAny_of_tree ?_)
 show wpAny _ _ _ _ _ _
 repeat (any_goals (first | assumption | with_reducible refine wpAny_loadPart_at a ?_ | wp_step))
 refine⟨rfl,codeAny_call_builtin_at (Code.quiet_builtin _ (by decide +kernel)) entry_typeCall (wpAny_check_type_call_sub a ?_)⟩
 repeat (first | with_reducible refine wpAny_loadPart_at a ?_ | with_reducible refine wpAny_madeBy_exc a ?_ | wp_step)
 refine codeAny_call_builtin_code (Code.quiet_builtin _ F.quiet) (wpAny_check_new_subT F T a (codeAny_exc_new_subT F T a ?_ c))
 show wpAny _ _ _ _ _ ⟨XR h C rest,g,d,t,os⟩
 have k:K.In (XR h C rest):=λb o e=>Qv (X b o e)
 have i:=Qv (C:=C) (rest:=rest) a
 have f:(XR h C rest).get? (h.objs.size+1)=y0 { cls:= .ref C,data:= .fields #[.ref h.objs.size,.none,.none,.none,.bool y9,.none] }:=QX
 have j:(Value.ref C::n).contains (.ref C)=true:=by simp
 unfold isInstance
 repeat (first | with_reducible refine wpAny_loadPart_at f ?_ | (with_reducible refine wpAny_isSubtype_exc i ?_;rw [j]) | wp_step)
 show wpAny _ _ (typeLookup (.ref C) _) _ _ _
 refine(looks_findIn (M:=model prog w) k l).at ?_
 refine wpAny_holding (wpAny_bind ((bind_fn (M:=model prog w) k (.ref (h.objs.size+1)) p).at ?_))
 refine wpAny_bind (wpAny_mono q (λr s' v=> ?_) λ_ _ x=>x)
 obtain⟨rfl,m⟩:=v
 wp_walk
 exact m
end
def eS (x C t:Addr) (a:Option Addr):HO:= .ext λh=>h.get? x=y0 (eE C t a)
def oQ (e:h.get? x=y0 (eE C t od)):aP P w H h x (eS x C t od):=⟨e,⟨_,e⟩,λ_ _ z k=>k _ z⟩
def hB (H:Hp) (x:Addr):Hp:=λb=>if b=x then u0 else H b
def mF (h:b≠x):hB H x b=H b:=if_neg h
def zZ :hB H x x=none:=if_pos rfl
section
variable {X:Cx}{y8:List (Addr×Obj)}{U:St}{H:Hp}{s:Shared}
def Inv.forget (I:Inv X y8 U H s) (a:H x=y0 (.ext i)):Inv X y8 U (hB H x) s:=by
 have ne: ∀b o,H b=y0 o->(∀ i,o≠ .ext i)->hB H x b=y0 o:=λb o q n=>by
  rw [mF (λe=>by rw [e,a]at q;cases q;exact n _ rfl)];exact q
 have nn: ∀b,H b=u0->hB H x b=none:=λb q=>by
  unfold hB
  split
  ·rfl
  ·exact q
 refine⟨I.ok,I.os,I.bare,⟨I.base.keep,I.base.slot,λb u e n a=>nn b (I.base.free b u e n a),I.base.there,λb f q=>ne b _ (I.base.cI b f q) (λ_ z=>by cases z),λb u v q=>ne b _ (I.base.cv b u v q) (λ_ z=>by cases z),λb k q=> ?_⟩,
  I.loc,I.cell,nn _ I.free,λy c q=>nn _ (I.bH y c q),λp j=> ?_,λb u q=> ?_,I.len⟩
 ·obtain⟨more,g⟩:=I.base.cF b k q
  exact⟨more,ne b _ g (λ_ z=>by cases z)⟩
 ·obtain⟨h,a2,a3⟩:=I.pin p j
  exact⟨h,nn _ a2,a3⟩
 ·by_cases d:b=x
  ·rw [d,zZ]at q;cases q
  ·rw [mF d]at q
   exact(I.aN b u q).cP (λ_ _ _ z=>z) (λc z=>ne c _ z (λ_ z=>by cases z)) λc f z=>ne c _ z (λ_ z=>by cases z)
def Inv.stored (I:Inv X y8 U H s) (j:H x=y0 (eS x C t u0)) (p:RelV y u) (k: ∀b o,b≠x->s.heap.get? b=y0 o->h'.get? b=y0 o)
 (e:h'.get? x=y0 (eE C t (y0 s.heap.objs.size))) (l:h'.Ns1 s.heap.objs.size (λz=>if z=f then y0 u else u0)):
 Inv X y8 U (aI (aI H s.heap.objs.size (.xd [(f,y)])) x (eS x C t (y0 s.heap.objs.size))) { s with heap:=h',toks:=t' }:=by
 have c:=(I.aN x _ j).1
 have d:=Ac2 (Ab5 c)
 have m:(h'.update x λ_=>eE C t u0).get? x=y0 _:=Ai3 _ e rfl
 have i: ∀b,b≠x->(h'.update x λ_=>eE C t u0).get? b=h'.get? b:=λb a=>Al1 _ _ _ _ a
 have n:=I.laid (o:= .xd [(f,y)]) (t':=t') (λb o q=>by
  by_cases a:b=x
  ·subst a;rw [c]at q;cases q;exact m
  ·rw [i b a];exact k b o a q) (Aa6 _) ⟨_,l.at λo q=>(by rw [i _ d.symm];exact q),λg=>by
   by_cases h:g=f
   ·rw [if_pos h]
    subst h
    show ck (match g==g with | true=>y0 y | false=>u0) _
    rw [beq_self_eq_true]
    exact p
   ·rw [if_neg h]
    show ck (match g==f with | true=>y0 y | false=>u0) _
    rw [beq_eq_false_iff_ne.mpr h]
    exact trivial⟩
 refine n.write (by rw [xa d,j];exact True.intro) (.inl rfl) (λb o a q=> ?_) ⟨_,e⟩ (oQ e)
 exact(i b a).symm.trans q
end
structure k4 (K:Frag) (C:Addr) (f:Str):Prop where
 cls:XF K C=k9
 ov:ir K C=k9
 sa:findIn K (.ref C) "__setattr__" =some (some (.builtin "object.__setattr__"))
 no:findIn K (.ref C) f=y0 u0
 kp:keepIn K (.ref C)=k9
def EA (K:Frag) (c b:TE) (f:Str):TS:=λD U H=>b U H λy H1=>c U H1 λx H2=> ∃a C t,x= .ref a/\H2 a=y0 (eS a C t u0)/\k4 K C f/\ ∀dx,H2 dx=u0->dx≠a->D.nx U (aI (aI H2 dx (.xd [(f,y)])) a (eS a C t (y0 dx)))
def BJ (l:PE X o ta) (n:PE X value tv) (p:swapsWith value (y0 (.Attribute o f pos')) pos.line X.env=pure y9):PS X (.Assign [.Attribute o f pos'] value pos) (EA X.K ta tv f):=by
 intro b s U H D I h
 refine plainObj_wpAny_Assign_Attribute (aG (n b s U H _ I h) λu A ⟨y,v,m,z,q⟩=>aG (l b A U v _ m q) λw G ⟨x,F,g,B,a,C,t,ex,i,c,r⟩=> ?_) p
 subst ex
 obtain rfl:w=Value.ref a:=B
 have d:=(g.aN a _ i).1
 exact Dn g.bO d c.ov c.sa c.no λE k e j=>⟨U,_,g.stored i z k e j,r _ (g.aN.fresh (Aa6 _)) (Nat.ne_of_gt (Ab5 d))⟩
def vw (K:Frag) (f:Str):Sp:=λb H Q _=> ∃a v C t,b= [.ref a,v]/\H a=y0 (eS a C t u0)/\k4 K C f/\ ∀dx,H dx=u0->dx≠a->Q .aj (aI (aI H dx (.xd [(f,v)])) a (eS a C t (y0 dx)))
structure xY (K:Frag) (f:Str) (fI:Addr) (fd:FuncData) (ps:List Str):Prop where
 ex: ∃x y7 st N n1 n2 p1 p2 p3 p4,h8 K x y7 st fI fd/\ps= [n1,n2]/\N= [n1,n2]/\Ww N ps (Jl st)/\JB st= [.Assign [.Attribute (.Name n1 p1) f p2] (.Name n2 p3) p4]/\(n1==("__debug__" :Str))=false/\(n2==("__debug__" :Str))=false ∧
  (n1==("__classdict__" :Str))=false/\(n2==("__classdict__" :Str))=false
 bd:Binds K fd ps []
 fn:typeIn K (.ref fI)=y0 (.type "function")
def ui {K:Frag}(Z:xY K f fI fd ps):bc P w K mg base (cE P w) 1 fI fd ps (vw K f):=by
 obtain⟨x,j,G,N,d,g,D,B,y,I,F,rfl,rfl,S,l,r,k,o,p⟩:=Z.ex
 refine h8.tw F S (λm H Q E ⟨a,v,C,t,e,_⟩=>by subst e;rfl) ?_
 rintro n A b s H m Q E h ⟨a,v,C,t,e,u,c,q⟩
 subst e
 rw [l]
 have v1:gs _ d:=(S.par d (by simp)).elim .inl λz=> .inr (.inl z)
 have v2:gs _ g:=(S.par g (by simp)).elim .inl λz=> .inr (.inl z)
 refine⟨_,Di (BJ (Zx (i:=0) rfl v1 r o) (Zx (i:=1) rfl v2 k p) rfl),?_⟩
 exact⟨v,rfl,.ref a,rfl,a,C,t,rfl,u,c,q⟩
def Bz {M:Model}{A:Around}{E:Value->Shared->Prop}{s:Shared}{env:Env}{v:Sem Value}{K:Frag}{C:Addr}{Q:Flow->Shared->Prop}(l:XF K C=k9) (n:A.handled=u0)
 (h:wpAny M A v (λv i=> ∃e t j,v= .ref e/\K.In i.heap/\i.heap.get? e=y0 (eE C t j)/\E (.ref e) i) E s):wpAny M A (raiseStmt env (y0 v) u0) Q E s:=by
 refine wpAny_bind (wpAny_mono h (λv i q=> ?_) λ_ _ x=>x)
 obtain⟨e,t,j,rfl,X,o,k⟩:=q
 obtain⟨f,G,D,u,bs,p,N,sub,w,m,dd,r,H,y,B,J,L,c,z,T⟩:=zC X l
 have b:(Value.ref C::f).contains (.type "BaseException")=true:=by rw [List.contains_cons,T.hasType PySem.F.excBase_ValueError.hasBase,Bool.or_true]
 have a:i.heap.get? e=y0 { cls:= .ref C,dict:=j,data:= .fields #[.ref t,.none,.none,.none,.bool y9,.none] }:=o
 obtain⟨F,g,d,tk,I⟩:=i
 repeat (first | with_reducible refine wpAny_loadPart_at a ?_ | with_reducible refine wpAny_loadPart_at c ?_ | (with_reducible refine wpAny_isSubtype_exc c ?_;rw [b]) | wp_step)
 exact wpAny_raiseNew_none n k
section
variable {P:Program}{w:World}{K:Frag}{mg:Str->Option Value}{base:Heap}{N:List Str}{y7:Str}{scope:Scope}{f:Addr}{cd:Value}{A:Around}{outer:List Env}{s:Shared}{H:Hp}{E:XK}
def su (C:Addr) (a:Str) (E:XK) (t:TA):TS:=λ_ U H=>t U H λb H1=> ∃v,b= [v]/\ ∀dx,H1 dx=u0->E (.ref C) (y0 dx) (aI H1 dx (.xd [(a,v)]))
def Fs (p:k4 K C fl) (R:findIn K (.ref C) "__init__" =some (some (.ref fI))) (Z:xY K fl fI fd ps) (hm:mg x=some (.ref C)) (hg:Gl (jM (cE P w) P w K mg base N y7 scope f cd A outer s H E) x)
 (hr:aW 2 (A.deeper (envOfC y7 scope s.heap.objs.size f cd))) (V:PA (jM (cE P w) P w K mg base N y7 scope f cd A outer s H E) [e] t)
 (he:starEach [e] (envOfC y7 scope s.heap.objs.size f cd)=(false,eval e (envOfC y7 scope s.heap.objs.size f cd))::starEach [] (envOfC y7 scope s.heap.objs.size f cd):=by rfl) (W:(x==("__debug__" :Str))=false:=by decide):
 PS (jM (cE P w) P w K mg base N y7 scope f cd A outer s H E) (.Raise (y0 (.Call (.Name x np) [e] [] k6)) u0 pos) (su C fl E t):=by
 intro j s1 U H1 D I h
 rw [arm_exec_Raise]
 refine wpAny_bind (wpAny_standAt (Bz p.cls (I.ok.hd rfl) ?_))
 refine wpAny_bind (wpAny_mono (wpAny_Call_Name_kw (Qr I hg hm ?_ W)) (λv s3 h3=>wpAny_bind (wpAny_standAt (wpAny_pure h3))) λ_ _ x=>x)
 refine callWith_K I.ok.mod.gX p.kp (aG (V k6 j s1 U H1 _ I h) λY a ⟨vs,l,i,r,v,L,q⟩=>⟨i.bO,?_⟩) he rfl
 subst L
 obtain⟨u,rfl,y⟩: ∃u,Y= [u]/\RelV v u:=by
  cases r with
  | cons y r2=>cases r2;exact⟨_,rfl,y⟩
 have B:=i.laid (h':=XR a.heap C [u]) (t':=a.toks) (λb o z=>Qv z) (Af3 _) (oQ QX)
 have d:l _=none:=i.aN.fresh (Af3 _)
 refine uI i.bO p.cls R Z.fn (show 1<=sizeLine by rw [sizeLine_eq];decide) ?_
 have F:=ui (P:=P) (w:=w) (mg:=mg) (base:=base) Z
 have T:ps.length=2:=by obtain⟨_,_,_,_,_,_,_,_,_,_,_,rfl,_⟩:=Z.ex;rfl
 refine wpAny_call (codeAny_mono (F.run _ _ _ _ ⟨[.ref _,u],[]⟩ [.ref _,u] [.ref _,v]
  (λJ Q=>J= .aj/\ ∃c,l c=u0/\c≠a.heap.objs.size+1/\Q=aI (aI (aI l (a.heap.objs.size+1) (eS (a.heap.objs.size+1) C a.heap.objs.size u0)) c (.xd [(fl,v)])) (a.heap.objs.size+1) (eS (a.heap.objs.size+1) C a.heap.objs.size (y0 c)))
  (λ_ _ _=>False) (hr.make C [u] []) (B.gw.make C [u] []) (by
    have:=Z.bd ⟨XR a.heap C [u],a.gens,a.drawn,a.toks,a.os⟩ [.ref (a.heap.objs.size+1),u] B.bO (by rw [Ad0,T];rfl)
    rwa [Ad0]at this) (.cons rfl (.cons y .nil)) ⟨_,v,C,a.heap.objs.size,rfl,jb,p,λc z ne=>⟨rfl,c,by rw [xa ne]at z;exact z,ne,rfl⟩⟩) λres s' k=> ?_)
 cases res with
 | error L=>
  obtain⟨_,_,_,_,_,_,_,_,_,_,_,_,_,_,_,z⟩:=k
  exact z.elim
 | ok G=>
  cases G with
  | ret u'=>
   obtain⟨J,Q,m,rv,rfl,c,S,O,rfl⟩:=B.after k
   refine⟨rv,_,a.heap.objs.size,y0 c,rfl,m.bO,(m.aN _ _ jb).1,?_⟩
   have M:=m.forget jb
   have X:hB (aI (aI (aI l (a.heap.objs.size+1) (eS (a.heap.objs.size+1) C a.heap.objs.size u0)) c (.xd [(fl,v)])) (a.heap.objs.size+1) (eS (a.heap.objs.size+1) C a.heap.objs.size (y0 c))) (a.heap.objs.size+1)=aI l c (.xd [(fl,v)]):=by
    funext b
    by_cases n:b=a.heap.objs.size+1
    ·rw [n,zZ,xa (Ne.symm O),d]
    ·rw [mF n,xa n]
     by_cases g:b=c
     ·rw [g,jb,jb]
     ·rw [xa g,xa g,xa n]
   rw [X]at M
   refine JG M (m.aN _ _ jb).1 (Heap.get?_none_of_le (Ab8 i.sz (Af3 _))) ?_ (q c S)
   rw [xa (Ne.symm O),d]
  | next=>exact False.elim k
  | brk=>exact False.elim k
  | cont=>exact False.elim k
end
section
variable {prog:Program}{w:World}{A:Around}{E:Value->Shared->Prop}{s:Shared}{K:Frag}{x C dx:Addr}{fl:Str}{u:Value}{ox:Obj}{mA:Str->Option Value}
def uZ (X:K.In s.heap) (p:s.heap.get? x=y0 ox) (B:ox.cls= .ref C) (v:notCls ox=k9) (z:ox.dict=y0 dx) (o:s.heap.Ns1 dx mA) (F:mA fl=y0 u) (D:handedIn u=k9) (P:ir K C=k9) (y:findIn K (.ref C) fl=y0 u0)
 (m:findIn K (.ref C) "__getattribute__" =some (some (.builtin "BaseException.__getattribute__"))) (O:findIn K (.ref C) "__getattr__" =some none)
 (h:Q u { s with toks:=s.toks+1 }):wpAny (model prog w) A (getAttr (.ref x) fl b) Q E s:=by
 obtain⟨R,a,c,n⟩:=oI P
 obtain⟨k,g,d,t,H⟩:=s
 dsimp only at X p o h
 obtain⟨L,i,j⟩:=jN o
 have I:PySem.W.InstAt k x ox C (y0 L):=⟨p,B,v,by rw [z];exact i⟩
 have f:findObj K C _ fl=y0 _:=PySem.W.findObj_own (by unfold hasDictIn;rw [a];exact n) y rfl (by rw [j,F])
 have r:=I.type (M:=model prog w)
 have N:=looks_findIn (M:=model prog w) X m
 have J:=looks_findIn (M:=model prog w) X O
 have G:=looks_find (M:=model prog w) X I f
 have sub:Looks (model prog w) k (isInstance (.ref x) (.type "BaseException")) true:=I.type.andThen (looks_mroIn X (by unfold mroIn;rw [a,Option.bind_some,if_neg (by rw [J2 c];decide),J8 c]))
 have q:=PySem.F.attrBase_ValueError
 have S:=q.ga.bind (.ref x)
 have e:(b&&onTheHeap (Value.builtin "BaseException.__getattribute__"))=false:=by cases b<;>rfl
 unfold getAttr getAttrBy
 refine wpAny_bind (wpAny_mkText (wpAny_holding (wpAny_bind (r.at (wpAny_bind (N.at ?_))))))
 have l:(Value.builtin "BaseException.__getattribute__" ==Value.builtin "object.__getattribute__")=false:=by decide +kernel
 dsimp only
 rw [l,Bool.and_false,if_neg (by decide)]
 unfold getAttrByItsOwn hookBefore
 refine wpAny_bind (J.at (wpAny_bind (wpAny_attempt (wpAny_holding ?_))))
 unfold callGetattribute
 rw [e,if_neg (by decide)]
 repeat (any_goals (first | assumption | wp_step))
 refine codeAny_call_builtin q.ga.plain PySem.F.entry_bexc_ga (@check_slot (model prog w) _ _ ⟨k,g,d,t+1,H⟩ "BaseException.__getattribute__" "BaseException" "__getattribute__" (.ref x) [.str fl t] [] _ (by decide +kernel) (by decide +kernel) sub (PySem.F.args_bexc_ga (.ref x) (.str fl t)) ?_)
 refine wpAny_bind (wpAny_pure (wpAny_bind (wpAny_pure (wpAny_bind (r.at (wpAny_bind (G.at ?_)))))))
 refine wpAny_pure ?_
 show wpAny _ _ (handedOut u) _ _ _
 rw [handedOut_of D]
 exact wpAny_pure h
end
structure iO (K:Frag) (C:Addr) (f:Str):Prop where
 ov:ir K C=k9
 no:findIn K (.ref C) f=y0 u0
 ga:findIn K (.ref C) "__getattribute__" =some (some (.builtin "BaseException.__getattribute__"))
 gh:findIn K (.ref C) "__getattr__" =some none
def Aw (K:Frag) (b:TE) (f:Str):TE:=λU H Q=>b U H λx H1=> ∃a C dx v,x= .ref a/\H1 a=y0 (X8 a C (y0 dx))/\H1 dx=y0 (.xd [(f,v)])/\iO K C f/\Q v H1
def EL (B:PE X e ta) (w:attributeBase e f X.env (eval e X.env)=eval e X.env):PE X (.Attribute e f pos) (Aw X.K ta f):=by
 intro b s U H Q I h
 refine oH w (aG (B b s U H _ I h) ?_)
 rintro u D ⟨x,z,d,F,a,C,i,v,ex,G,E,c,q⟩
 subst ex
 obtain rfl:u=Value.ref a:=F
 obtain⟨o,A,p,m,n⟩:=(d.aN a _ G).1
 obtain⟨l,t,r⟩: ∃l,D.heap.Ns1 i l/\ ∀g,ck _ _:=d.aN i _ E
 have j:=r f
 rw [show Ag6 f [_]=y0 v by simp [Ag6]]at j
 obtain⟨J,y,k⟩:=ck.some_of j
 exact uZ d.bO A p m (n i rfl) t y (JR k) c.ov c.no c.ga c.gh ⟨v,z,d.tok _,k,q⟩
def dI (a:List Int):HO:= .dK (a.map λk=>(.inl k,.bl k9))
def Ef (K:Frag) (W:Addr) (d:Sp) (t:TA) (i b e:Nat):TS:=λD U H=>t U H λf H1=>d f H1 (λy H2=>D.nx (U.set i (y0 y)) H2) λa c H2=> ∃C,a= .ref C/\gk K C/\kitCls K (.ref C) (.ref W)=y0 k9 ∧
 ∀x,H2 x=u0->D.nx (((U.set b (y0 (.ref x))).set e (y0 (.ref x))).set b u0) (aI H2 x (X8 x C c))
def yw 
 (V: ∀a b, ¬X.xe a b) (J:X.stack=X.env::X.outer) (Y:X.env.frame=y0 X.env.locals) (E:X.ex= []) (F:bc X.prog X.w X.K X.mg X.base (cE X.prog X.w) k f fd ps sp) (hr:aW k X.A) (hg:Gl X fx) (hm:X.mg fx=y0 (.ref f))
 (hk:keepIn X.K (.ref f)=true) (hb:Binds X.K fd ps []) (Z:PA X (e::es) t) (hW:Gl X wx) (L:X.mg wx=some (.ref W)) (B:mroIn X.K W (.type "BaseException")=some true) (N:X.N.Nodup) (P:X.N[i]? =some gx) (d:X.env.scope.names.lookup gx=some .local) (M:X.N[ie]? =some n) (l:X.env.scope.names.lookup n=some .local)
 (K:X.N[iv]? =y0 v) (x:X.env.scope.names.lookup v=y0 .local)
 (hs:swapsWith (.Call (.Name fx p) (e::es) [] cp) (y0 (.Name gx gp)) aq.line X.env=pure false:=by rfl) (C:swapsWith (.Name n np) (y0 (.Name v vp)) ap.line X.env=pure false:=by rfl)
 (w:(fx==("__debug__" :Str))=false:=by decide) (o:(wx==("__debug__" :Str))=false:=by decide) (G:(n==("__debug__" :Str))=false:=by decide) (he:starEach (e::es) X.env=(false,eval e X.env)::starEach es X.env:=by rfl) (m:(backTo cp (starEach es X.env)).any (·.1)=false:=by rfl):
 b5 X wx n v wq vp np ap hp (.Assign [.Name gx gp] (.Call (.Name fx p) (e::es) [] cp) aq) (Ef X.K W sp t i ie iv):=by
 intro c s U H D Qn I h Q
 refine wpAny_execs_cons (wpAny_Assign_Name ?_ hs)
 refine wpAny_Call_Name_kw (Qr I hg hm ?_ w)
 refine callWith_K (h₀:=X.base) I.ok.mod.gX hk (wpAny_mono (Z cp c s U H _ I h) (λA O ⟨vs,H1,g,r,q⟩=>⟨g.bO,?_⟩) λ_ _ z=>(V _ _ z).elim) he m
 have T:(A++ []).length=ps.length:=by rw [Ad0,←r.length];exact F.len _ _ _ _ q
 refine wpAny_call (codeAny_mono (F.run X.A X.stack O H1 ⟨A,[]⟩ _ vs _ _ hr g.gw (hb O A g.bO T) (by simp_all) q) λres s' j=> ?_)
 cases res with
 | ok S=>
  cases S with
  | ret u=>
   obtain⟨y,H2,R,ry,q2⟩:=g.after j
   exact Wn R N P (.inl d) ry (λs9 I9=>wpAny_execs_nil (Q _ _ _ I9 q2)) (.inr d)
  | next=>exact False.elim j
  | brk=>exact False.elim j
  | cont=>exact False.elim j
 | error ev=>exact yp J Y E hW L B N M l K x C o G g j
section
variable {X:Cx}
def yX {T:List (Str×Str)}(a:T.lookup k=y0 y):PySem.Spec.lookup (.str k) (T.map λp=>(PyData.str p.1,PyData.str p.2))=y0 (.str y):=by
 induction T with
 | nil=>cases a
 | cons p T b=>
  rw [Ab4]at a
  by_cases z:k=p.1
  ·subst z
   rw [beq_self_eq_true]at a
   cases a
   simp [PySem.Spec.lookup,PyProof.V.same_str]
  ·rw [beq_eq_false_iff_ne.mpr z]at a
   have:=b a
   have c: ¬p.1=k:=λq=>z q.symm
   simp [PySem.Spec.lookup,PyProof.V.same_str,c,this]
def F5 (ok:W5 T ks vs) (E:T≠ []) (R:T.length<=15) (P:(T.map (·.1)).Nodup) (O:PE X e te) (j:wU e):
 PE X (.Subscript (.Dict ks vs p1) e pos) (λU H Q=>te U H λv H1=> ∃k y,v= .str k/\T.lookup k=y0 y/\Q (.str y) H1):=by
 intro d s U H Q I h
 obtain⟨G,a2,a3⟩:=zU ok
 have L:=n7 I
 refine Subscript_ (wpAny_Dict_walk G (a2.trans a3.symm) (λz=>E (List.length_eq_zero_iff.mp (by simp_all))) (by lia) (XA ok λa K t c f m=>⟨a,c,Heap.DictOf.new _,λF dd M=> ?_⟩))
 have D:Inv X d U H { s with heap:=F,toks:=t+K.length }:=I.kept λb u z=>(M.2 b (Ac2 (Ab5 z))).trans (Aa8 _ z)
 rw [Jw a [] (by simp_all),Ag4]at dd
 have l:=I.aN.fresh (Aa6 _)
 have B:=D.pinned (λb z=>by cases Ab6.mp z;exact I.dn (Aa6 _) l) (λb z=>by
  cases Ab6.mp z
  obtain⟨o,w,x,p,_,g,_⟩:=id dd
  exact⟨o,p,λv e=>by rw [g]at e;cases e⟩)
 refine aG (O _ _ U H _ B h) ?_
 rintro u N ⟨v,H1,r,rv,k,y,C,J,q⟩
 subst C
 obtain⟨tk,rfl⟩:=rv
 obtain⟨o,w,x,p,g⟩:=id dd
 have n:=(r.pin _ (Ab _ (Ab _ (Wh (Ab6.mpr rfl) p)))).1
 have i:N.heap.DictOf _ s.heap.objs.size a:=⟨o,w,x,n,g⟩
 refine item_tab_any PyProof.V.same_str (strKind_is _ _ _ _) ⟨beq_eq_false_iff_ne.mpr (Ne.symm (Ac2 L)),a,i,f⟩ (yX J) (λv A=> ?_) (j _ _)
 obtain⟨S,rfl⟩:=A.str_inv
 exact⟨.str y,H1,r.bQ.tok _,⟨_,rfl⟩,q⟩
end
end L2
set_option genSizeOfSpec false
namespace M
abbrev Tx:=List Nat
def oB: ∃n:Nat,n=1000000:=⟨_,rfl⟩
noncomputable def bA:Nat:=Ag9 oB
def Gc:bA=1000000:=Af4 oB
def sj: ∃n:Int,n=1073741824:=⟨_,rfl⟩
noncomputable def eA:Int:=Ag9 sj
def GT:eA=1073741824:=Af4 sj
def pJ: ∃n:Int,n=2 ^ 62:=⟨_,rfl⟩
noncomputable def fE:Int:=Ag9 pJ
def GI:fE=2 ^ 62:=Af4 pJ
def pW: ∃n:Int,n=2 ^ 64:=⟨_,rfl⟩
noncomputable def dN:Int:=Ag9 pW
def GR:dN=2 ^ 64:=Af4 pW
def tV: ∃n:Int,n=1000000:=⟨_,rfl⟩
noncomputable def BP:Int:=Ag9 tV
def Kl:BP=1000000:=Af4 tV
def sM: ∃n:Nat,n=2 ^ 64:=⟨_,rfl⟩
noncomputable def kW:Nat:=Ag9 sM
def GL:kW=2 ^ 64:=Af4 sM
inductive D where
 | aj
 | bl (b:Bool)
 | int (i:Int)
 | str (s:Tx)
 | tup (xs:List D)
 | lst (xs:List D)
 | ref (r:Nat)
 | exc (c:String) (fs:List (Tx×D))
 | err (c f:String) (d:D)
inductive W where
 | v (d:D)
 | own (xs:List D)
 | bor (xs:List D)
abbrev WK:=Int×List Int×List Int
inductive Cell where
 | lst (xs:List D)
 | f9 (ks:List WK)
 | hQ (ks:List Int)
 | obj (c:String) (fs:List (String×D))
abbrev AH:=List Cell
abbrev Sl:=List (Option W)
inductive R (α:Type) where
 | ok (a:α) (h:AH)
 | exc (d:D) (h:AH)
 | fail
def R.bind {b c:Type}:R b->(b->AH->R c)->R c
 | .ok a h,f=>f a h
 | .exc d h,_=> .exc d h
 | .fail,_=> .fail
inductive O where
 | next (Z:Sl) (h:AH)
 | ret (w:W) (h:AH)
 | brk (Z:Sl) (h:AH)
 | cont (Z:Sl) (h:AH)
 | exc (d:D) (h:AH)
 | fail
def O.seq:O->(Sl->AH->O)->O
 | .next Z h,f=>f Z h
 | o,_=>o
def R.c7 {b:Type}:R b->(b->AH->O)->O
 | .ok a h,f=>f a h
 | .exc d h,_=> .exc d h
 | .fail,_=> .fail
section
variable {α β:Type}
@[simp] theorem R.aa (a) (h) (f:α->AH->R β):(R.ok a h).bind f=f a h:=rfl
@[simp] theorem R.aC (a) (h) (f:α->AH->O):(R.ok a h).c7 f=f a h:=rfl
@[simp] theorem O.cz (Z) (h) (f):(O.next Z h).seq f=f Z h:=rfl
@[simp] theorem O.ec (w) (h) (f):(O.ret w h).seq f= .ret w h:=rfl
@[simp] theorem O.gg (d) (h) (f):(O.exc d h).seq f= .exc d h:=rfl
end
inductive Op where
 | add | sub | mul | fdiv | mod | pow | shl | shr | band | bor | bxor
 deriving DecidableEq
inductive Cp where
 | eq | ne | lt | le | gt | ge | mem | bz | md
 deriving DecidableEq
inductive Ty where
 | aj | bool | int | str | list | tuple
 deriving DecidableEq
inductive Mt where
 | join | starts
 deriving DecidableEq
inductive Bi where
 | len | int | list | tuple | sum | all | any | sorted | divmod | str | min | max | abs
 deriving DecidableEq
set_option genInjectivity false
mutual
inductive E where
 | var (i:Nat)
 | con (x:String)
 | int (i:Int)
 | bl (b:Bool)
 | aj
 | str (s:Tx)
 | tup (es:Es)
 | lst (es:Es)
 | bin (o:Op) (a b:E)
 | cmp (o:Cp) (a b:E)
 | chain (o p:Cp) (a b c:E)
 | b9 (neg:Bool) (a:E)
 | neg (a:E)
 | not (a:E)
 | and (a b:E)
 | or (a b:E)
 | call (f:String) (es:Es)
 | bi (b:Bi) (es:Es)
 | dj (a:E) (t:Ty)
 | cc (a:E) (one:Bool) (ts:List String)
 | ix (a b:E)
 | sl (a lo hi:E)
 | fG (a lo:E)
 | eW (a hi:E)
 | rev (a:E)
 | comp (tg:List Nat) (one:Bool) (k:Nat) (aE:List Nat) (it:It) (u6:Bool) (c elt:E)
 | share (a:E)
 | dz (m:Mt) (a:E) (es:Es)
 | eC (c:String) (a:E)
 | dg (kvs:List (Tx×Tx)) (i:Nat)
 | iF (kvs:List (Tx×Tx)) (a:E)
 | dO (a:E)
 | bg (a:E)
 | fld (i:Nat) (c f:String)
 | xf (i:Nat) (f:String)
 | ai (i:Nat) (c m q:String) (es:Es)
 | make (c q:String) (es:Es)
inductive Es where
 | nil
 | cons (e:E) (es:Es)
inductive It where
 | seq (e:E)
 | aJ (a:E)
 | cb (a b:E)
 | rev (e:E)
 | zip (a b:E)
 | enum (e:E)
 | bM (a b:E)
end
set_option genInjectivity true
mutual
inductive S where
 | set (i:Nat) (e:E)
 | ae (i:Nat) (e:E)
 | iH (is:List Nat) (e:E)
 | dD (i:Nat) (k e:E)
 | bB (o k e:E)
 | app (i:Nat) (e:E)
 | freeze (i:Nat)
 | ex (e:E)
 | ret (e:E)
 | iff (c:E) (a b:Ss)
 | dX (n:Nat) (c:E) (b:Ss)
 | for (tg:List Nat) (one:Bool) (it:It) (b:Ss)
 | eV (i:Nat) (f:String) (es:Es) (k:String) (nm iv:Nat)
 | bW (i:Nat) (c f:String) (e:E)
 | bF (c f:String) (e:E)
 | hA
inductive Ss where
 | nil
 | cons (s:S) (ss:Ss)
end
noncomputable section
mutual
@[simp,reducible] noncomputable def Gm:D->Bool
 | .ref _=>y9
 | .tup xs=>Gg xs
 | .lst xs=>Gg xs
 | .exc _ _=>y9
 | .err _ _ _=>y9
 | _=>k9
@[simp,reducible] noncomputable def Gg:List D->Bool
 | []=>k9
 | x::xs=>Gm x&&Gg xs
end
mutual
@[simp,reducible] noncomputable def dep:D->Nat
 | .tup xs=>G8 xs+1
 | .lst xs=>G8 xs+1
 | _=>0
@[simp,reducible] noncomputable def G8:List D->Nat
 | []=>0
 | x::xs=>max (dep x) (G8 xs)
end
@[reducible] def GK (a b:D):Bool:=Gm a&&Gm b&&u9 (dep a<150)
mutual
@[simp] noncomputable def res (h:AH):D->D
 | .ref r=>match h[r]? with
  | some (.lst xs)=> .lst xs
  | _=> .ref r
 | .tup xs=> .tup (G6 h xs)
 | .lst xs=> .lst (G6 h xs)
 | d=>d
@[simp] noncomputable def G6 (h:AH):List D->List D
 | []=> []
 | x::xs=>res h x::G6 h xs
end
mutual
@[simp] noncomputable def cO:D->D->Bool
 | .aj,.aj=>k9
 | .bl a,.bl b=>a==b
 | .int i,.int j=>i==j
 | .bl a,.int j=>(a.toNat:Int)==j
 | .int i,.bl b=>i==(b.toNat:Int)
 | .str s,.str t=>s==t
 | .tup xs,.tup ys=>GM xs ys
 | .lst xs,.lst ys=>GM xs ys
 | _,_=>y9
@[simp] noncomputable def GM:List D->List D->Bool
 | [],[]=>k9
 | x::xs,y::ys=>cO x y&&GM xs ys
 | _,_=>y9
end
def c9 (s:Tx):List D:=s.map λc=> .str [c]
def W.d:W->Option D
 | .v d=>y0 d
 | .own xs=>y0 (.lst xs)
 | .bor _=>u0
def W.arg:W->W
 | .own xs=> .bor xs
 | w=>w
@[simp] theorem W.eN (d):(W.v d).arg= .v d:=rfl
@[simp] theorem W.fM (xs):(W.own xs).arg= .bor xs:=rfl
@[simp] theorem W.f6 (xs):(W.bor xs).arg= .bor xs:=rfl
def W.dd (h:AH):W->D
 | .v d=>res h d
 | .own xs=> .lst (G6 h xs)
 | .bor xs=> .lst (G6 h xs)
noncomputable def W.bX (h:AH):W->Option (List D)
 | .v (.lst xs)=>y0 xs
 | .own xs=>y0 xs
 | .bor xs=>y0 xs
 | .v (.ref r)=>match h[r]? with
  | some (.lst xs)=>y0 xs
  | _=>u0
 | _=>u0
noncomputable def W.seq? (h:AH):W->Option (List D)
 | .v (.tup xs)=>y0 xs
 | .v (.lst xs)=>y0 xs
 | .own xs=>y0 xs
 | .bor xs=>y0 xs
 | .v (.ref r)=>match h[r]? with
  | some (.lst xs)=>y0 xs
  | _=>u0
 | _=>u0
def R.of {b:Type}(h:AH):Option b->R b
 | some a=> .ok a h
 | none=> .fail
@[simp] abbrev aH (d:D) (h:AH):R W:= .ok (.v d) h
def GU (h:AH):W->Option Bool
 | .v .aj=>y0 y9
 | .v (.bl b)=>y0 b
 | .v (.int i)=>y0 (i != 0)
 | .v (.str s)=>if s.length<=bA then y0 (!s.isEmpty)else u0
 | .v (.tup xs)=>y0 (!xs.isEmpty)
 | .v (.lst xs)=>y0 (!xs.isEmpty)
 | .own xs=>y0 (!xs.isEmpty)
 | .bor xs=>y0 (!xs.isEmpty)
 | _=>u0
@[simp] theorem R.ag (h) (a:α):R.of h (y0 a)= .ok a h:=rfl
@[simp] theorem W.dQ (d):(W.v d).d=y0 d:=rfl
@[simp] theorem W.gZ (xs):(W.own xs).d=y0 (.lst xs):=rfl
@[simp] theorem W.AD (h) (d):(W.v d).dd h=res h d:=rfl
@[simp] theorem W.nc (h) (xs):(W.own xs).dd h= .lst (G6 h xs):=rfl
@[simp] theorem W.mJ (h) (xs):(W.bor xs).dd h= .lst (G6 h xs):=rfl
@[simp] theorem W.i8 (h) (xs):(W.v (.lst xs)).bX h=y0 xs:=rfl
@[simp] theorem W.gf (h) (xs):(W.own xs).bX h=y0 xs:=rfl
@[simp] theorem Gp (h) (b):GU h (.v (.bl b))=y0 b:=rfl
noncomputable def F2 (i j:Int):Option Int:=
 if 0<=i then(if 0<=j then y0 ((i.toNat &&& j.toNat:Nat):Int)else y0 ((i.toNat-(i.toNat &&& (-j-1).toNat):Nat):Int))else u0
def Ei (i j:Int):Option Int:=if 0<=i/\0<=j then y0 ((i.toNat ||| j.toNat:Nat):Int)else u0
def BE (i j:Int):Option Int:=if 0<=i/\0<=j then y0 ((i.toNat ^^^ j.toNat:Nat):Int)else u0
def Gi (o:Op) (i j:Int):Option Int:=match o with
 | .add=>y0 (i+j)
 | .sub=>y0 (i-j)
 | .mul=>if(-(dN)<i/\i<dN)\/(-(dN)<j/\j<dN)then y0 (i*j)else u0
 | .fdiv=>if 0<j/\j<eA then y0 (i / j)else u0
 | .mod=>if 0<j then y0 (i % j)else u0
 | .pow=>if 0<=j/\j<=BP/\i.natAbs<kW then y0 (i ^ j.toNat)else u0
 | .shl=>if 0<=j/\j<=BP/\i.natAbs<kW then y0 (i*2 ^ j.toNat)else u0
 | .shr=>if 0<=j then y0 (i / 2 ^ j.toNat)else u0
 | .band=>F2 i j
 | .bor=>Ei i j
 | .bxor=>BE i j
def W.int? :W->Option Int
 | .v (.int i)=>y0 i
 | _=>u0
def W.bq :W->Option Tx
 | .v (.str s)=>y0 s
 | _=>u0
def W.f5 :W->Option (List D)
 | .v (.tup s)=>y0 s
 | _=>u0
def Ky (xs a:List D) (h:AH):R W:=if xs.length+a.length<=bA then .ok (.own (xs++a)) h else .fail
def Ko (xs:List D) (j:Int) (h:AH):R W:=if -1000<=j/\j<=1000/\xs.length*j.toNat<=bA then .ok (.own (Aa1 j.toNat xs).flatten) h else .fail
def Kv (a b:W) (h:AH):R W:=match a.bq,b.bq with
 | some s,y0 t=>if s.length+t.length<=bA then aH (.str (s++t)) h else .fail
 | _,_=>match a.f5,b.f5 with
  | some xs,y0 ys=>if xs.length+ys.length<=bA then aH (.tup (xs++ys)) h else .fail
  | _,_=>match a.bX h,b.bX h with
   | some xs,y0 ys=>Ky xs ys h
   | _,_=> .fail
noncomputable def W.gH (h:AH):W->Option (List D)
 | .own xs=>y0 xs
 | .bor xs=>y0 xs
 | .v (.ref r)=>match h[r]? with
  | some (.lst xs)=>y0 xs
  | _=>u0
 | _=>u0
def Kw (a b:W) (h:AH):R W:=match a.bq,b.int? with
 | some s,y0 j=>if 0<=j/\j<=1000/\s.length*j.toNat<=bA then aH (.str (Aa1 j.toNat s).flatten) h else .fail
 | _,_=>match a.gH h,b.int? with
  | some xs,y0 j=>Ko xs j h
  | _,_=> .fail
def GC (o:Op) (a b:W) (h:AH):R W:=match a.int?,b.int? with
 | some i,y0 j=>(R.of h (Gi o i j)).bind λk h=>aH (.int k) h
 | _,_=>match o with
  | .add=>Kv a b h
  | .mul=>Kw a b h
  | _=> .fail
def inD (x:D) (xs:List D):Bool:=xs.any λy=>cO y x
@[simp,reducible] def flat:D->Bool
 | .aj=>k9
 | .bl _=>k9
 | .int _=>k9
 | .str _=>k9
 | _=>y9
def Kr (a b:W) (h:AH):Option Bool:=match b.dd h with
 | .lst ys=>if Gm (a.dd h)&&Gg ys&&u9 (G8 ys<140)then y0 (inD (a.dd h) ys)else u0
 | _=>u0
def Ka (a b:W) (h:AH):Option Bool:=match a.bq,b.bq with
 | some s,y0 t=>match s with
  | [c]=>y0 (t.contains c)
  | _=>u0
 | _,_=>match a.d,b.seq? h with
  | some d,y0 xs=>if flat d&&xs.all flat then y0 (inD d xs)else Kr a b h
  | _,_=>u0
noncomputable def Km (o:Cp) (i j:Int):Option Bool:=match o with
 | .lt=>y0 (u9 (i<j))
 | .le=>y0 (u9 (i<=j))
 | .gt=>y0 (u9 (j<i))
 | .ge=>y0 (u9 (j<=i))
 | _=>u0
def Kn (o:Cp) (i j:Tx):Option Bool:=match o with
 | .lt=>y0 (u9 (i<j))
 | .ge=>y0 (!u9 (i<j))
 | _=>u0
def Kq:W->W->Option Bool
 | .v .aj,.v (.bl _)=>y0 y9
 | .v (.bl b),.v (.bl c)=>y0 (b==c)
 | _,_=>u0
def Gs (o:Cp) (a b:W) (h:AH):Option Bool:=match o with
 | .eq=>if GK (a.dd h) (b.dd h)then y0 (cO (a.dd h) (b.dd h))else u0
 | .ne=>if GK (a.dd h) (b.dd h)then y0 (!cO (a.dd h) (b.dd h))else u0
 | .mem=>Ka a b h
 | .bz=>(Ka a b h).map (!·)
 | .md=>Kq a b
 | o=>match a.int?,b.int? with
  | some i,y0 j=>Km o i j
  | _,_=>match a.bq,b.bq with
   | some s,y0 t=>Kn o s t
   | _,_=>u0
noncomputable def dt (n:Nat) (i:Int):Option Nat:=if 0<=i then(if i<n then y0 i.toNat else u0)else if -(n:Int)<=i then y0 (i+n).toNat else u0
def aQ {a:Type}(xs:List a) (i:Int):Option a:=(dt xs.length i).bind λj=>xs[j]?
def cR (a b:W) (h:AH):Option D:=match b.int? with
 | some i=>match a.bq with
  | some s=>if s.length<=bA then(aQ s i).map λc=> .str [c]else u0
  | none=>(a.seq? h).bind λxs=>aQ xs i
 | none=>u0
def aK (n d:Nat):Option Int->Nat
 | none=>d
 | some v=>if v<0 then(v+n).toNat else min v.toNat n
noncomputable def cut {a:Type}(xs:List a) (b c:Option Int):List a:=(xs.drop (aK xs.length 0 b)).take (aK xs.length xs.length c-aK xs.length 0 b)
def dW (a:W) (c b:Option Int) (h:AH):R W:=match a.bq with
 | some s=>if s.length<=bA then aH (.str (cut s c b)) h else .fail
 | none=>match a.f5 with
  | some xs=>aH (.tup (cut xs c b)) h
  | none=>match a.bX h with
   | some xs=> .ok (.own (cut xs c b)) h
   | none=> .fail
def Kk:List D->Option Int
 | []=>y0 0
 | .int i::r=>(Kk r).map (i+ ·)
 | _::_=>u0
def Kc:List D->Option (List Int)
 | []=>y0 []
 | .int i::r=>(Kc r).map (i:: ·)
 | _::_=>u0
def GQ:List D->Option (List Tx)
 | []=>y0 []
 | .str s::r=>(GQ r).map (s:: ·)
 | _::_=>u0
def Bb:List Int->Option Int
 | []=>u0
 | i::r=>y0 (r.foldl (λa b=>if b>a then b else a) i)
def D7:List Int->Option Int
 | []=>u0
 | i::r=>y0 (r.foldl (λa b=>if b<a then b else a) i)
def GV (x:Tx):List Tx->List Tx
 | []=> [x]
 | y::ys=>if y<x then y::GV x ys else x::y::ys
def GA:List Tx->List Tx
 | []=> []
 | x::xs=>GV x (GA xs)
def GG (s:Tx):List Tx->Tx
 | []=> []
 | [x]=>x
 | x::y::r=>x++s++GG s (y::r)
def G9:List D->Option (List Bool)
 | []=>y0 []
 | .bl b::r=>(G9 r).map (b:: ·)
 | _::_=>u0
def ml (b:Bi) (w:W) (h:AH):R W:=match b with
 | .len=>match w.bq with
  | some s=>if s.length<=bA then aH (.int s.length) h else .fail
  | none=>(R.of h (w.seq? h)).bind λxs h=>aH (.int xs.length) h
 | .int=>match w with
  | .v (.int i)=>aH (.int i) h
  | .v (.bl b)=>aH (.int (b.toNat:Int)) h
  | _=> .fail
 | .list=>(R.of h (w.seq? h)).bind λxs h=> .ok (.own xs) h
 | .tuple=>(R.of h (w.seq? h)).bind λxs h=>aH (.tup xs) h
 | .sum=>(R.of h ((w.bX h).bind λxs=>if xs.length<=bA then Kk xs else u0)).bind λi h=>aH (.int i) h
 | .all=>(R.of h ((w.bX h).bind G9)).bind λbs h=>aH (.bl (bs.all id)) h
 | .any=>(R.of h ((w.bX h).bind G9)).bind λbs h=>aH (.bl (bs.any id)) h
 | .max=>(R.of h (((w.bX h).bind Kc).bind Bb)).bind λi h=>aH (.int i) h
 | .min=>(R.of h (((w.bX h).bind Kc).bind D7)).bind λi h=>aH (.int i) h
 | .sorted=>(R.of h ((w.bX h).bind GQ)).bind λa h=>if a.length<64 then .ok (.own ((GA a).map .str)) h else .fail
 | _=> .fail
def mP (m:Mt) (x:W) (h:AH):Bool:=match m with
 | .join=>x.bq.isSome
 | .starts=>x.bq.isSome
@[simp] theorem vT (s) (h):mP .join (.v (.str s)) h=true:=rfl
@[simp] theorem vN (s) (h):mP .starts (.v (.str s)) h=true:=rfl
def GS (s t:Tx):Option Bool:=match t with
 | [c]=>y0 (u9 (s.head? =y0 c))
 | _=>u0
def rZ:Nat->List D->List D
 | _,[]=> []
 | i,d::ds=> .tup [.int (i:Int),d]::rZ (i+1) ds
def mz (m:Mt) (x:W) (ws:List W) (h:AH):R W:=match m,ws with
 | .join,[w]=>(R.of h x.bq).bind λs h=>(R.of h ((w.bX h).bind GQ)).bind λa h=>if(GG s a).length<=bA/\a.length<=bA/\s.length<=bA then aH (.str (GG s a)) h else .fail
 | .starts,[w]=>(R.of h x.bq).bind λs h=>(R.of h w.bq).bind λt h=>(R.of h (GS s t)).bind λb h=>aH (.bl b) h
 | _,_=> .fail
def DY (b:Bi) (i j:Int) (h:AH):R W:=match b with
 | .divmod=>if 0<j/\j<eA then aH (.tup [.int (i / j),.int (i % j)]) h else .fail
 | .min=>aH (.int (if j<i then j else i)) h
 | .max=>aH (.int (if j>i then j else i)) h
 | _=> .fail
def c5 (b:Bi) (ws:List W) (h:AH):R W:=match ws with
 | [w]=>ml b w h
 | [v,w]=>(R.of h v.int?).bind λi h=>(R.of h w.int?).bind λj h=>DY b i j h
 | _=> .fail
@[simp] theorem Gw (o) (i j) (h):GC o (.v (.int i)) (.v (.int j)) h=(R.of h (Gi o i j)).bind λk h=>aH (.int k) h:=rfl
@[simp] theorem xb (i j):Gi .add i j=y0 (i+j):=rfl
@[simp] theorem jn (i j):Gi .sub i j=y0 (i-j):=rfl
@[simp] theorem Qd (s u) (h):GC .add (.v (.str s)) (.v (.str u)) h=if s.length+u.length<=bA then aH (.str (s++u)) h else .fail:=rfl
@[simp] theorem xL (s u) (h):GC .add (.v (.tup s)) (.v (.tup u)) h=if s.length+u.length<=bA then aH (.tup (s++u)) h else .fail:=rfl
@[simp] theorem mS (s u) (h):GC .add (.v (.lst s)) (.own u) h=if s.length+u.length<=bA then .ok (.own (s++u)) h else .fail:=rfl
@[simp] theorem AL (s u) (h):GC .add (.v (.lst s)) (.bor u) h=if s.length+u.length<=bA then .ok (.own (s++u)) h else .fail:=rfl
@[simp] theorem pL (s u) (h):GC .add (.own s) (.own u) h=if s.length+u.length<=bA then .ok (.own (s++u)) h else .fail:=rfl
@[simp] theorem Dc (s u) (h):GC .add (.bor s) (.own u) h=if s.length+u.length<=bA then .ok (.own (s++u)) h else .fail:=rfl
@[simp] theorem Qo (i j) (h):Gs .lt (.v (.int i)) (.v (.int j)) h=y0 (u9 (i<j)):=rfl
@[simp] theorem WM (i j) (h):Gs .gt (.v (.int i)) (.v (.int j)) h=y0 (u9 (j<i)):=rfl
@[simp] theorem Hf (a b) (h):Gs .eq a b h=if GK (a.dd h) (b.dd h)then y0 (cO (a.dd h) (b.dd h))else none:=rfl
@[simp] theorem Hh (a b) (h):Gs .ne a b h=if GK (a.dd h) (b.dd h)then y0 (!cO (a.dd h) (b.dd h))else none:=rfl
@[simp] theorem int?_int (i):(W.v (.int i)).int? =y0 i:=rfl
@[simp] theorem len_str (s) (h):c5 .len [.v (.str s)] h=if s.length<=bA then aH (.int s.length) h else .fail:=rfl
@[simp] theorem tj (s) (h):c5 .len [.v (.lst s)] h=aH (.int s.length) h:=rfl
@[simp] theorem int_int (i) (h):c5 .int [.v (.int i)] h=aH (.int i) h:=rfl
@[simp] theorem ZZ (b) (h):c5 .int [.v (.bl b)] h=aH (.int (b.toNat:Int)) h:=rfl
@[simp] theorem DA (s) (h):c5 .tuple [.own s] h=aH (.tup s) h:=rfl
@[simp] theorem EW (s) (h):c5 .sum [.own s] h=(R.of h (if s.length<=bA then Kk s else u0)).bind λi h=>aH (.int i) h:=rfl
@[simp] theorem zL (i j) (h):c5 .min [.v (.int i),.v (.int j)] h=aH (.int (if j<i then j else i)) h:=rfl
@[simp] theorem xJ (i j) (h):c5 .max [.v (.int i),.v (.int j)] h=aH (.int (if j>i then j else i)) h:=rfl
@[simp] theorem Jx (s) (i) (h):cR (.v (.str s)) (.v (.int i)) h=if s.length<=bA then(aQ s i).map λc=> .str [c]else none:=rfl
@[simp] theorem av (s) (i) (h):cR (.v (.tup s)) (.v (.int i)) h=aQ s i:=rfl
@[simp] theorem zG (s) (i) (h):cR (.v (.lst s)) (.v (.int i)) h=aQ s i:=rfl
@[simp] theorem Jh (s) (i) (h):cR (.own s) (.v (.int i)) h=aQ s i:=rfl
@[simp] theorem pK (s) (lo hi) (h):dW (.v (.lst s)) lo hi h= .ok (.own (cut s lo hi)) h:=rfl
@[simp] theorem Bj (s) (lo hi) (h):dW (.bor s) lo hi h= .ok (.own (cut s lo hi)) h:=rfl
abbrev cX:=List (String×String)
noncomputable def GN (a:cX):Nat->String->List String
 | 0,_=> []
 | n+1,c=>c::match a.lookup c with
  | some b=>GN a n b
  | none=> []
noncomputable def Cu:W->Option Ty
 | .v .aj=>y0 .aj
 | .v (.bl _)=>y0 .bool
 | .v (.int _)=>y0 .int
 | .v (.str _)=>y0 .str
 | .v (.tup _)=>y0 .tuple
 | .v (.lst _)=>y0 .list
 | .own _=>y0 .list
 | .bor _=>y0 .list
 | .v (.ref _)=>u0
 | .v (.exc _ _)=>u0
 | .v (.err _ _ _)=>u0
def Ty.le:Ty->Ty->Bool
 | .bool,.int=>k9
 | a,b=>u9 (a=b)
def dj (t:Ty) (w:W):Option Bool:=(Cu w).map λu=>u.le t
def cc (a:cX) (w:W) (ts:List String):Option Bool:=match w with
 | .v (.exc c [])=>y0 (ts.any (GN a 8 c).contains)
 | .v (.err c _ _)=>y0 (ts.any (GN a 8 c).contains)
 | _=>u0
@[simp] def Gk:Sl->Nat->Option W
 | [],_=>u0
 | x::_,0=>x
 | _::r,n+1=>Gk r n
@[simp] def GE:Sl->Nat->W->Sl
 | [],_,_=> []
 | _::r,0,w=>y0 w::r
 | x::r,n+1,w=>x::GE r n w
def Gn (Z:Sl) (i:Nat):Option W:=match Gk Z i with
 | some (.own xs)=>y0 (.bor xs)
 | o=>o
@[simp] theorem GY (e:Gk Z i=y0 (.own xs)):Gn Z i=y0 (.bor xs):=by simp [Gn,e]
@[simp] theorem Kh (e:Gk Z i=y0 (.v d)):Gn Z i=y0 (.v d):=by simp [Gn,e]
@[simp] theorem G7 (e:Gk Z i=y0 (.bor xs)):Gn Z i=y0 (.bor xs):=by simp [Gn,e]
@[simp] noncomputable def aR:List Nat->List D->Sl->Option Sl
 | [],[],Z=>y0 Z
 | i::is,d::ds,Z=>aR is ds (GE Z i (.v d))
 | _,_,_=>u0
def Gz (tg:List Nat) (one:Bool) (d:D) (Z:Sl):Option Sl:=match one with
 | true=>match tg with
  | [i]=>y0 (GE Z i (.v d))
  | _=>u0
 | false=>match d with
  | .tup ds=>aR tg ds Z
  | _=>u0
noncomputable def Gx (step:D->AH->R (Option D)):List D->AH->R (List D)
 | [],h=> .ok [] h
 | d::ds,h=>match step d h with
  | .ok o h1=>match Gx step ds h1 with
   | .ok r h2=> .ok (match o with | some x=>x::r | none=>r) h2
   | _=> .fail
  | _=> .fail
structure Fx where
 call:String->List W->AH->R W
 cl:cX
 con:List (String×D)
noncomputable def GJ (h:AH):Option W->Option (Nat×String×List (String×D))
 | some (.v (.ref r))=>match h[r]? with
  | some (.obj c fs)=>y0 (r,c,fs)
  | _=>u0
 | _=>u0
noncomputable def ba (f:String) (d:D):List (String×D)->List (String×D)
 | []=> [(f,d)]
 | (g,x)::r=>if g=f then(g,d)::r else(g,x)::ba f d r
def bg (i:Int):Tx:=(toString i).toList.map Char.toNat
noncomputable def Kt (w:W) (h:AH):R W:=match w with
 | .v (.int i)=>if 0<=i/\i<1000 then aH (.str (bg i)) h else .fail
 | _=> .fail
@[simp] theorem FW (i) (h):Kt (.v (.int i)) h=if 0<=i/\i<1000 then aH (.str (bg i)) h else .fail:=rfl
def iA (s:Tx):Option Nat:=(Ab7 100).find? λn=>u9 (bg (n:Int)=s)
def Ku (w:W) (h:AH):R W:=match w with
 | .v (.str s)=>(R.of h (iA s)).bind λn h=>aH (.int (n:Int)) h
 | _=> .fail
@[simp] theorem jY (s) (h):Ku (.v (.str s)) h=(R.of h (iA s)).bind λn h=>aH (.int (n:Int)) h:=rfl
noncomputable def Kx (T:List (Tx×D)) (w:W) (h:AH):R W:=match w with
 | .v (.str k)=>match T.lookup k with
  | some d=>if flat d then aH d h else .fail
  | none=> .fail
 | _=> .fail
noncomputable def uC (T:List (Tx×D)) (ws:List W) (h:AH):R W:=match ws with
 | [.v (.str k),.v z]=>match T.lookup k with
  | some d=>if flat d then aH d h else .fail
  | none=>if flat z then aH z h else .fail
 | _=> .fail
noncomputable def GP (T:List (Tx×Tx)) (o:Option W) (h:AH):R W:=match o with
 | some (.v (.str k))=>match T.lookup k with
  | some t=>aH (.str t) h
  | none=> .fail
 | _=> .fail
@[simp] theorem vg (T) (k) (h):GP T (y0 (.v (.str k))) h=match T.lookup k with
 | some t=>aH (.str t) h
 | none=> .fail:=rfl
mutual
@[simp] noncomputable def eval (F:Fx):E->Sl->AH->R W
 | .var i,Z,h=>match Gn Z i with
  | some w=> .ok w h
  | none=> .fail
 | .con x,_,h=>match F.con.lookup x with
  | some d=>aH d h
  | none=> .fail
 | .int i,_,h=>aH (.int i) h
 | .bl b,_,h=>aH (.bl b) h
 | .aj,_,h=>aH .aj h
 | .str s,_,h=>aH (.str s) h
 | .tup es,Z,h=>(Gq F es Z h).bind λds h=>aH (.tup ds) h
 | .lst es,Z,h=>(Gq F es Z h).bind λds h=> .ok (.own ds) h
 | .bin o a b,Z,h=>(eval F a Z h).bind λx h=>(eval F b Z h).bind λy h=>GC o x y h
 | .cmp o a b,Z,h=>(eval F a Z h).bind λx h=>(eval F b Z h).bind λy h=>(R.of h (Gs o x y h)).bind λc h=>aH (.bl c) h
 | .chain o p a b c,Z,h=>(eval F a Z h).bind λx h=>(eval F b Z h).bind λy h=>(R.of h (Gs o x y h)).bind λt h=>match t with
  | true=>(eval F c Z h).bind λz h=>(R.of h (Gs p y z h)).bind λc h=>aH (.bl c) h
  | false=>aH (.bl y9) h
 | .b9 neg a,Z,h=>(eval F a Z h).bind λx h=>match x with
  | .v .aj=>aH (.bl (!neg)) h
  | _=>aH (.bl neg) h
 | .neg a,Z,h=>(eval F a Z h).bind λx h=>(R.of h x.int?).bind λi h=>aH (.int (-i)) h
 | .not a,Z,h=>(eval F a Z h).bind λx h=>(R.of h (GU h x)).bind λc h=>aH (.bl (!c)) h
 | .and a b,Z,h=>(eval F a Z h).bind λx h=>(R.of h (GU h x)).bind λc h=>match c with
  | true=>eval F b Z h
  | false=> .ok x h
 | .or a b,Z,h=>(eval F a Z h).bind λx h=>(R.of h (GU h x)).bind λc h=>match c with
  | true=> .ok x h
  | false=>eval F b Z h
 | .call f es,Z,h=>(Gj F es Z h).bind λws h=>F.call f (ws.map W.arg) h
 | .bi b es,Z,h=>(Gj F es Z h).bind λws h=>c5 b ws h
 | .dj a t,Z,h=>(eval F a Z h).bind λx h=>(R.of h (dj t x)).bind λc h=>aH (.bl c) h
 | .cc a _ ts,Z,h=>(eval F a Z h).bind λx h=>(R.of h (cc F.cl x ts)).bind λc h=>aH (.bl c) h
 | .ix a b,Z,h=>(eval F a Z h).bind λx h=>(eval F b Z h).bind λy h=>(R.of h (cR x y h)).bind λd h=>aH d h
 | .sl a lo hi,Z,h=>(eval F a Z h).bind λx h=>(eval F lo Z h).bind λl h=>(R.of h l.int?).bind λl h=>(eval F hi Z h).bind λu h=>(R.of h u.int?).bind λu h=>dW x (y0 l) (y0 u) h
 | .fG a lo,Z,h=>(eval F a Z h).bind λx h=>(eval F lo Z h).bind λl h=>(R.of h l.int?).bind λl h=>dW x (y0 l) u0 h
 | .eW a hi,Z,h=>(eval F a Z h).bind λx h=>(eval F hi Z h).bind λu h=>(R.of h u.int?).bind λu h=>dW x u0 (y0 u) h
 | .rev a,Z,h=>(eval F a Z h).bind λx h=>(R.of h (x.bX h)).bind λxs h=> .ok (.own xs.reverse) h
 | .comp tg one k aE it u6 c elt,Z,h=>(Gr F it Z h).bind λds h=>
  if ds.length<=bA then
   (Gx (λd h=>match Gz tg one d (Aa1 k u0++aE.map λj=>Gn Z j)with
     | none=> .fail
     | some Z'=>(if u6 then(eval F c Z' h).bind λx h=>R.of h (GU h x)else .ok k9 h).bind λb h=>match b with
      | true=>(eval F elt Z' h).bind λy h=>(R.of h y.d).bind λy h=> .ok (y0 y) h
      | false=> .ok u0 h) ds h).bind λys h=> .ok (.own ys) h
  else .fail
 | .share a,Z,h=>(eval F a Z h).bind λx h=>match x with
  | .own xs=>if Gg xs then aH (.ref h.length) (h++ [.lst xs])else .fail
  | _=> .fail
 | .dz m a es,Z,h=>(eval F a Z h).bind λx h=>if mP m x h then(Gj F es Z h).bind λws h=>mz m x ws h else .fail
 | .eC c a,Z,h=>match F.con.lookup c with
  | some (.exc _ (r::T))=>(eval F a Z h).bind λw h=>Kx (r::T) w h
  | _=> .fail
 | .dg T i,Z,h=>GP T (Gk Z i) h
 | .iF T a,Z,h=>(eval F a Z h).bind λw h=>GP T (y0 w) h
 | .dO a,Z,h=>(eval F a Z h).bind λw h=>Kt w h
 | .bg a,Z,h=>(eval F a Z h).bind λw h=>Ku w h
 | .xf i f,Z,h=>match Gk Z i with
  | some (.v (.err _ g d))=>if g=f then .ok (.v d) h else .fail
  | _=> .fail
 | .fld i c f,Z,h=>match GJ h (Gk Z i)with
  | some (_,c',fs)=>if c'=c then(R.of h (fs.lookup f)).bind λd h=>aH d h else .fail
  | none=> .fail
 | .ai i c m q es,Z,h=>match GJ h (Gk Z i)with
  | some (r,c',fs)=>if c'=c/\(fs.lookup m).isNone=k9 then(Gj F es Z h).bind λws h=>F.call q (.v (.ref r)::ws.map W.arg) h else .fail
  | none=> .fail
 | .make c q es,Z,h=>(Gj F es Z h).bind λws h=>(F.call q (.v (.ref h.length)::ws.map W.arg) (h++ [.obj c []])).bind λw h'=>match w with
  | .v .aj=>aH (.ref h.length) h'
  | _=> .fail
@[simp] noncomputable def Gj (F:Fx):Es->Sl->AH->R (List W)
 | .nil,_,h=> .ok [] h
 | .cons e es,Z,h=>(eval F e Z h).bind λw h=>(Gj F es Z h).bind λws h=> .ok (w::ws) h
@[simp] noncomputable def Gq (F:Fx):Es->Sl->AH->R (List D)
 | .nil,_,h=> .ok [] h
 | .cons e es,Z,h=>(eval F e Z h).bind λw h=>(R.of h w.d).bind λd h=>(Gq F es Z h).bind λds h=> .ok (d::ds) h
@[simp] noncomputable def Gr (F:Fx):It->Sl->AH->R (List D)
 | .seq e,Z,h=>(eval F e Z h).bind λw h=>match w with
  | .v (.str s)=> .ok (c9 s) h
  | .v (.tup xs)=> .ok xs h
  | .v (.lst xs)=> .ok xs h
  | .own xs=> .ok xs h
  | .bor xs=> .ok xs h
  | _=> .fail
 | .aJ a,Z,h=>(eval F a Z h).bind λw h=>(R.of h w.int?).bind λn h=>if -(fE)<=n/\n<fE then .ok ((Ab7 n.toNat).map λ(i:Nat)=> .int (i:Int)) h else .fail
 | .cb a b,Z,h=>(eval F a Z h).bind λw h=>(R.of h w.int?).bind λi h=>(eval F b Z h).bind λw h=>(R.of h w.int?).bind λj h=>
  if(-(fE)<=i/\i<fE)/\(-(fE)<=j/\j<fE)then .ok ((Ab7 (j-i).toNat).map λ(k:Nat)=> .int (i+(k:Int))) h else .fail
 | .bM a b,Z,h=>(eval F a Z h).bind λw h=>(R.of h w.int?).bind λi h=>(eval F b Z h).bind λw h=>(R.of h w.int?).bind λj h=>
  if(-(eA)<=i/\i<eA)/\(-(eA)<=j/\j<eA)then .ok ((Ab7 ((j-i+1) / 2).toNat).map λ(k:Nat)=> .int (i+(k:Int)*2)) h else .fail
 | .rev e,Z,h=>(eval F e Z h).bind λw h=>match w with
  | .v (.lst xs)=> .ok xs.reverse h
  | .own xs=> .ok xs.reverse h
  | .bor xs=> .ok xs.reverse h
  | _=> .fail
 | .enum e,Z,h=>(eval F e Z h).bind λw h=>match w with
  | .v (.tup xs)=> .ok (rZ 0 xs) h
  | _=> .fail
 | .zip a b,Z,h=>(eval F a Z h).bind λx h=>(eval F b Z h).bind λy h=>match x,y with
  | .own xs,.v (.tup ys)=> .ok ((xs.zip ys).map λp=> .tup [p.1,p.2]) h
  | _,_=> .fail
end
noncomputable def lb:W->Option (List D)
 | .v (.str s)=>y0 (c9 s)
 | .v (.tup xs)=>y0 xs
 | .v (.lst xs)=>y0 xs
 | .own xs=>y0 xs
 | _=>u0
noncomputable def ll:W->Option (List D)
 | .v (.str s)=>y0 (c9 s)
 | .v (.tup xs)=>y0 xs
 | .v (.lst xs)=>y0 xs
 | .bor xs=>y0 xs
 | _=>u0
def yy:W->Option (List D)
 | .v (.lst xs)=>y0 xs.reverse
 | .own xs=>y0 xs.reverse
 | _=>u0
def vi:W->Option (List D)
 | .v (.lst xs)=>y0 xs.reverse
 | .bor xs=>y0 xs.reverse
 | _=>u0
@[simp] theorem Kf (xs):lb (.v (.tup xs))=y0 xs:=rfl
@[simp] theorem Ke (xs):lb (.v (.lst xs))=y0 xs:=rfl
@[simp] theorem GX (xs):lb (.own xs)=y0 xs:=rfl
@[simp] theorem Ki (xs):ll (.v (.tup xs))=y0 xs:=rfl
@[simp] theorem Kj (xs):ll (.v (.lst xs))=y0 xs:=rfl
@[simp] theorem Kd (xs):ll (.bor xs)=y0 xs:=rfl
@[simp] def GF:E->Option Nat
 | .var i=>y0 i
 | _=>u0
@[simp] def GD (F:Fx) (it:It) (Z:Sl) (h:AH):R (List D):=match it with
 | .seq e=>match GF e with
  | some i=>R.of h ((Gk Z i).bind ll)
  | none=>(eval F e Z h).bind λw h=>R.of h (lb w)
 | .rev e=>match GF e with
  | some i=>R.of h ((Gk Z i).bind vi)
  | none=>(eval F e Z h).bind λw h=>R.of h (yy w)
 | it=>Gr F it Z h
noncomputable def GB (b:D->Sl->Option Sl) (a:Sl->AH->O):List D->Sl->AH->O
 | [],Z,h=> .next Z h
 | d::ds,Z,h=>match b d Z with
  | none=> .fail
  | some e=>match a e h with
   | .next c h2=>GB b a ds c h2
   | .cont c h2=>GB b a ds c h2
   | .brk c h2=> .next c h2
   | o=>o
noncomputable def Gv (c:Sl->AH->R Bool) (a:Sl->AH->O):Nat->Sl->AH->O
 | 0,_,_=> .fail
 | n+1,Z,h=>(c Z h).c7 λb h1=>match b with
  | false=> .next Z h1
  | true=>match a Z h1 with
   | .next d h2=>Gv c a n d h2
   | .cont d h2=>Gv c a n d h2
   | .brk d h2=> .next d h2
   | o=>o
def Gf (F:Fx) (e:E) (Z:Sl) (h:AH):R Bool:=(eval F e Z h).bind λx h=>R.of h (GU h x)
def GO:D->Bool
 | .exc _ _=>k9
 | .err _ _ d=>Gm d
 | _=>y9
def Kg (d:D) (n:Nat) (h:AH):AH:=if GO d then h.take n else h
def Kp (call:String->List W->AH->R W) (e:cX) (b:Option Nat) (f k:String) (nm c:Nat) (Z:Sl):R (List W)->O
 | .ok a h=>match call f (a.map W.arg) h with
  | .ok w h=>match b with
   | none=> .next Z h
   | some i=>match w with
    | .v d=> .next (GE Z i (.v d)) h
    | _=> .fail
  | .exc d h1=>match cc e (.v d) [k]with
   | some true=> .next ((GE (GE Z nm (.v d)) c (.v d)).set nm u0) (Kg d h.length h1)
   | _=> .fail
  | .fail=> .fail
 | _=> .fail
def Ks (w b a:W) (Z:Sl) (h:AH):O:=match w,b,a with
 | .v d,.v (.ref r),.v (.int j)=>match h[r]? with
  | some (.lst xs)=>match dt xs.length j with
   | some n=>if flat d then .next Z (h.set r (.lst (xs.set n d)))else .fail
   | none=> .fail
  | _=> .fail
 | _,_,_=> .fail
mutual
@[simp] noncomputable def exec (F:Fx):S->Sl->AH->O
 | .set i e,Z,h=>(eval F e Z h).c7 λw h=>match w with
  | .bor _=> .fail
  | w=> .next (GE Z i w) h
 | .ae i e,Z,h=>(eval F e Z h).c7 λw h=>match w.d with
  | some d=> .next (GE Z i (.v d)) h
  | none=> .fail
 | .iH is e,Z,h=>(eval F e Z h).c7 λw h=>match w with
  | .v (.tup ds)=>match aR is ds Z with
   | some Z'=> .next Z' h
   | none=> .fail
  | _=> .fail
 | .dD i k e,Z,h=>(eval F e Z h).c7 λw h=>match Gk Z i with
  | some (.own xs)=>(eval F k Z h).c7 λkw h=>match w,kw with
   | .v d,.v (.int j)=>if flat d then(match dt xs.length j with
    | some n=> .next (GE Z i (.own (xs.set n d))) h
    | none=> .fail)else .fail
   | _,_=> .fail
  | _=> .fail
 | .bB o k e,Z,h=>(eval F e Z h).c7 λw h=>(eval F o Z h).c7 λow h=>(eval F k Z h).c7 λkw h=>Ks w ow kw Z h
 | .app i e,Z,h=>match Gk Z i with
  | some (.own xs)=>(eval F e Z h).c7 λw h=>match w.d with
   | some d=>if xs.length<bA then .next (GE Z i (.own (xs++ [d]))) h else .fail
   | none=> .fail
  | _=> .fail
 | .freeze i,Z,h=>match Gk Z i with
  | some (.own xs)=> .next (GE Z i (.v (.lst xs))) h
  | _=> .next Z h
 | .ex e,Z,h=>(eval F e Z h).c7 λ_ h=> .next Z h
 | .ret e,Z,h=>match GF e with
  | some i=>match Gk Z i with
   | some (.bor _)=> .fail
   | some w=> .ret w h
   | none=> .fail
  | none=>(eval F e Z h).c7 λw h=>match w with
   | .bor _=> .fail
   | w=> .ret w h
 | .iff c a b,Z,h=>(Gf F c Z h).c7 λt h=>match t with
  | true=>execs F a Z h
  | false=>execs F b Z h
 | .dX n c b,Z,h=>Gv (λZ h=>Gf F c Z h) (λZ h=>execs F b Z h) n Z h
 | .for tg one it b,Z,h=>(GD F it Z h).c7 λds h=>GB (Gz tg one) (λZ h=>execs F b Z h) ds Z h
 | .bF c f e,Z,h=>(Gq F (.cons e .nil) Z h).c7 λds h=>match ds with
  | [d]=> .exc (.err c f d) h
  | _=> .fail
 | .eV i f es k nm iv,Z,h=>Kp F.call F.cl (y0 i) f k nm iv Z (Gj F es Z h)
 | .bW i c f e,Z,h=>(eval F e Z h).c7 λw h=>match w with
  | .v d=>match GJ h (Gk Z i)with
   | some (r,c',fs)=>if c'=c/\Gm d=k9/\fs.length<100 then .next Z (h.set r (.obj c (ba f d fs)))else .fail
   | none=> .fail
  | _=> .fail
 | .hA,_,_=> .fail
@[simp] noncomputable def execs (F:Fx):Ss->Sl->AH->O
 | .nil,Z,h=> .next Z h
 | .cons s ss,Z,h=>(exec F s Z h).seq λZ h=>execs F ss Z h
end
structure Fn where
 ps:Nat
 n:Nat
 body:Ss
structure Prog where
 fns:List (String×Fn)
 cl:cX
 con:List (String×D)
def W.keep:W->Bool
 | .v d=>Gm d
 | .own xs=>Gg xs
 | .bor _=>k9
def fin (n:Nat) (w:W) (h:AH):R W:=if h.length=n then .ok w h else if w.keep then .ok w (h.take n)else .ok w h
noncomputable def Gu (n:Nat):O->R W
 | .ret w h=>match w with
  | .bor _=> .fail
  | w=>fin n w h
 | .next _ h=>fin n (.v .aj) h
 | .exc d h=> .exc d h
 | _=> .fail
@[simp] theorem Ga (d) (h h':AH) (e:h'.length=h.length):Gu h.length (.ret (.v d) h')= .ok (.v d) h':=by simp [Gu,fin,e]
@[simp] theorem Gy (xs) (h h':AH) (e:h'.length=h.length):Gu h.length (.ret (.own xs) h')= .ok (.own xs) h':=by simp [Gu,fin,e]
@[simp] theorem GH (Z) (h h':AH) (e:h'.length=h.length):Gu h.length (.next Z h')= .ok (.v .aj) h':=by simp [Gu,fin,e]
@[simp] theorem Kb (d) (n) (h):Gu n (.exc d h)= .exc d h:=rfl
def run (F:Fx) (d:Fn) (ws:List W) (h:AH):R W:=if ws.length=d.ps then Gu h.length (execs F d.body (ws.map y0++Aa1 (d.n-d.ps) u0) h)else .fail
def call (p:Prog):Nat->String->List W->AH->R W
 | 0,_,_,_=> .fail
 | k+1,f,a,h=>match p.fns.lookup f with
  | some d=>run ⟨call p k,p.cl,p.con⟩ d a h
  | none=> .fail
def Gb (e:p.fns.lookup f=y0 d) (k) (ws) (h) (a:ws.length=d.ps):
 call p (k+1) f ws h=Gu h.length (execs ⟨call p k,p.cl,p.con⟩ d.body (ws.map y0++Aa1 (d.n-d.ps) u0) h):=by
 rw [call,e]
 simp [run,a]
end
end M
namespace L2.MS
open PySem PySem.Spec
structure Ge where
 K:Aa4
 ca:String->Addr
 cl:M.cX
 own:List String
 ma:String->Addr
structure eh (Y:Ge) (c:String):Prop where
 k:gk Y.K (Y.ca c)
 own: ∀t∈Y.own,Ak5 Y.K (.ref (Y.ca c)) (.ref (Y.ca t))=y0 ((M.GN Y.cl 8 c).contains t)
 ve:PySem.W.kitOne Y.K (.ref (Y.ca c)) (.type "ValueError")=some ((M.GN Y.cl 8 c).contains "ValueError")
structure Gh where
 fz:Addr->Prop
 aO:Nat->Addr
 n:Nat
def gA (Y:Ge) (G:Gh) (H:Hp) (a:Addr) (vs:List V):Prop:=(G.fz a/\H a=y0 (.tup vs)) ∨
 ∃(o:Obj) (b:Array Value) (n:Nat),Y.K.lookup a=some o/\o.cls= .type "tuple" /\o.dict=none/\o.data= .seq b n/\b.size<=sizeLine/\Vals vs b.toList
def rr (Y:Ge) (a:Addr) (vs:List V):Prop:= ∃(o:Obj) (b:Array Value) (n:Nat),Y.K.lookup a=some o/\o.cls= .type "list" /\o.dict=none/\o.data= .seq b n/\b.size<=sizeLine/\Vals vs b.toList
def ij (Y:Ge) (G:Gh) (H:Hp) (a:Addr) (vs:List V):Prop:=(G.fz a/\Rd H a (.lst vs))\/rr Y a vs
def gA.sq (h:gA Y G H a vs):cJ Y.K H a vs:=h.elim (λz=> .inl (.inl z.2)) λ⟨o,b,n,e,d,_,c⟩=> .inr ⟨o,b,n,e,d,c⟩
def ij.sq (h:ij Y G H a vs):bu Y.K H a vs:=h.elim (λz=> .inl z.2) λz=> .inr z
def aD (s:M.Tx):Str:=⟨s.toArray⟩
def iD:M.D->PyData
 | .int i=> .int i
 | .str s=> .str (aD s)
 | .bl b=> .bool b
 | _=> .none
def g9 (T:List (M.Tx×M.D)):List (Str×PyData):=T.map λp=>(aD p.1,iD p.2)
def yJ (Y:Ge) (a:Addr) (T:List (M.Tx×M.D)):Prop:=lK Y.K a (g9 T)
mutual
def aA (Y:Ge) (G:Gh) (H:Hp):M.D->V->Prop
 | .aj,v=>v= .aj
 | .bl b,v=>v= .bl b
 | .int i,v=>v= .int i
 | .str s,v=>v= .str (aD s)
 | .tup ds,v=> ∃a vs,v= .ref a/\gA Y G H a vs/\af Y G H ds vs
 | .lst ds,v=> ∃a vs,v= .ref a/\ij Y G H a vs/\af Y G H ds vs
 | .ref r,v=>r<G.n/\v= .ref (G.aO r)
 | .exc c fs,v=>(fs= []/\ ∃x,v= .ref x/\G.fz x/\H x=y0 (X8 x (Y.ca c) u0)/\eh Y c)\/(fs≠ []/\ ∃a,v= .ref a/\yJ Y a fs)
 | .err c f d,v=> ∃x dx u,v= .ref x/\G.fz x/\G.fz dx/\H x=y0 (X8 x (Y.ca c) (y0 dx))/\H dx=y0 (.xd [(Str.ofString f,u)])/\eh Y c/\iO Y.K (Y.ca c) (Str.ofString f)/\aA Y G H d u
def af (Y:Ge) (G:Gh) (H:Hp):List M.D->List V->Prop
 | [],vs=>vs= []
 | d::ds,vs=> ∃v r,vs=v::r/\aA Y G H d v/\af Y G H ds r
end
def sZ (k:M.WK):M.D:= .tup [.int k.1,.tup (k.2.1.map .int),.tup (k.2.2.map .int)]
def bx (Y:Ge) (G:Gh) (H:Hp) (a:Addr):M.Cell->Prop
 | .lst xs=>M.Gg xs=k9/\ ∃d,H a=y0 (.lst d)/\af Y G H xs d
 | .f9 ks=> ∃xs,H a=y0 (DW a xs)/\xs.map (·.1)=ks/\ ∀x∈xs,aA Y G H (sZ x.1) (.ref x.2.1)
 | .hQ ks=>H a=y0 (dI ks)
 | .obj c fs=>M.Gg (fs.map (·.2))=k9/\ ∃dx b,H a=y0 (.ins (Y.ca c) dx ((fs.map λp=>Str.ofString p.1).zip b))/\af Y G H (fs.map (·.2)) b
structure ak (Y:Ge) (G:Gh) (h:M.AH) (H:Hp):Prop where
 len:h.length=G.n
 any: ∀r c,h[r]? =y0 c-> ¬G.fz (G.aO r)/\bx Y G H (G.aO r) c
 inj: ∀r s,r<G.n->s<G.n->G.aO r=G.aO s->r=s
 live: ∀a,G.fz a-> ∃o,H a=y0 o
def dF (G:Gh) (a:Addr):Prop:= ∀r,r<G.n->G.aO r≠a
structure Ext (G:Gh) (H:Hp) (G':Gh) (H':Hp):Prop where
 keep: ∀a o,H a=y0 o->dF G a->H' a=y0 o
 le:G.n<=G'.n
 aO: ∀r,r<G.n->G'.aO r=G.aO r
 new: ∀r,G.n<=r->r<G'.n->H (G'.aO r)=u0
 fz: ∀a,G.fz a->G'.fz a
 old: ∀a,G'.fz a->G.fz a\/H a=u0
 cells: ∀r,r<G.n->(∃ o,H (G.aO r)=y0 o)-> ∃o,H' (G.aO r)=y0 o
def ao (Y:Ge) (G:Gh) (H:Hp):M.W->V->Prop
 | .v d,v=>aA Y G H d v
 | .own xs,v=> ∃a b,v= .ref a/\ ¬G.fz a/\dF G a/\H a=y0 (.lst b)/\af Y G H xs b
 | .bor xs,v=> ∃a b,v= .ref a/\dF G a/\Rd H a (.lst b)/\af Y G H xs b
def eZ:M.W->Bool
 | .own _=>k9
 | .bor _=>k9
 | _=>y9
structure au (Y:Ge) (G:Gh) (Z:M.Sl) (h:M.AH) (U:St) (H:Hp):Prop where
 len:Z.length=U.length
 slot: ∀i w,M.Gk Z i=y0 w-> ∃v,U[i]? =y0 (y0 v)/\ao Y G H w v
 apart: ∀i j xs w a,i≠j->M.Gk Z i=y0 (.own xs)->M.Gk Z j=y0 w->eZ w=k9->U[i]? =y0 (y0 (.ref a))->U[j]? ≠y0 (y0 (.ref a))
 heap:ak Y G h H
section
variable {Y:Ge}{G G' G1 G2:Gh}{H H' H1 H2:Hp}{h h':M.AH}{Z:M.Sl}{U:St}
def ak.cell (R:ak Y G h H) (r) (xs) (e:h[r]? =y0 (M.Cell.lst xs)): ¬G.fz (G.aO r)/\ ∃vs,H (G.aO r)=y0 (.lst vs)/\af Y G H xs vs:=⟨(R.any r _ e).1,(R.any r _ e).2.2⟩
def ak.pure (R:ak Y G h H) (r:Nat) (xs) (e:h[r]? =y0 (M.Cell.lst xs)):M.Gg xs=true:=(R.any r _ e).2.1
theorem ak.obj (R:ak Y G h H) (r) (c) (fs) (e:h[r]? =y0 (M.Cell.obj c fs)): ¬G.fz (G.aO r)/\M.Gg (fs.map (·.2))=k9/\ ∃dx us,H (G.aO r)=y0 (.ins (Y.ca c) dx ((fs.map λp=>Str.ofString p.1).zip us))/\af Y G H (fs.map (·.2)) us:=R.any r _ e
def ak.lt (R:ak Y G h H)(e:h[r]? =y0 c):r<G.n:=by rw [← R.len];exact(Ab9.mp e).1
def ak.at (R:ak Y G h H)(a:i<G.n): ∃c,h[i]? =y0 c:=⟨_,Aa7 (by rw [R.len];exact a)⟩
def bx.there (z:bx Y G H a c): ∃o,H a=y0 o:=by
 cases c with
 | lst d=>obtain⟨_,_,z,_⟩:=z;exact⟨_,z⟩
 | f9 b=>obtain⟨_,z,_⟩:=z;exact⟨_,z⟩
 | hQ b=>exact⟨_,z⟩
 | obj c fs=>obtain⟨_,_,_,z,_⟩:=z;exact⟨_,z⟩
def ak.kl (r:ak Y G h H)(a:i<G.n): ¬G.fz (G.aO i):=let ⟨_,e⟩:=r.at a;(r.any i _ e).1
def ak.off (r:ak Y G h H)(c:G.fz a):dF G a:=λi b z=>r.kl b (z▸c)
theorem ak.there (r:ak Y G h H)(a:i<G.n): ∃o,H (G.aO i)=y0 o:=let ⟨_,e⟩:=r.at a;(r.any i _ e).2.there
def Ext.refl:Ext G H G H:=⟨λ_ _ e _=>e,Aa6 _,λ_ _=>rfl,λr b a=>absurd b (Al6.mpr a),λ_ z=>z,λ_ z=> .inl z,λ_ _ z=>z⟩
theorem Ext.none (e:Ext G H G' H') (f:ak Y G h H)(z:H' a=u0):H a=none:=by
 cases q:H a with
 | none=>rfl
 | some o=>
  by_cases b:dF G a
  ·rw [e.keep a o q b]at z;cases z
  ·unfold dF at b
   have: ∃r,r<G.n/\G.aO r=a:=Ad9 λg=>b λr f z=>g ⟨r,f,z⟩
   obtain⟨r,c,rfl⟩:=this
   obtain⟨i,d⟩:=e.cells r c ⟨o,q⟩
   rw [z]at d;cases d
def Ext.off (e:Ext G H G' H')(d:H a=y0 o) (b:dF G a):dF G' a:=λr f z=>by
 by_cases c:r<G.n
 ·rw [e.aO r c]at z;exact b r c z
 ·have:=e.new r (Nat.not_lt.mp c) f
  rw [z,d]at this;cases this
def Ext.trans (b:Ext G H G1 H1) (f:ak Y G h H) (d:Ext G1 H1 G2 H2):Ext G H G2 H2 where
 keep:=λa o z e=>d.keep a o (b.keep a o z e) (b.off z e)
 le:=Ab8 b.le d.le
 aO:=λr c=>by rw [d.aO r (Ab3 c b.le),b.aO r c]
 new:=λr i g=>by
  by_cases c:r<G1.n
  ·rw [d.aO r c];exact b.new r i c
  ·exact b.none f (d.new r (Nat.not_lt.mp c) g)
 fz:=λa z=>d.fz a (b.fz a z)
 old:=λa z=>(d.old a z).elim (λz=>b.old a z) λz=> .inr (b.none f z)
 cells:=λr c z=>by
  have:=d.cells r (Ab3 c b.le) (by rw [b.aO r c];exact b.cells r c z)
  rwa [b.aO r c]at this
def Ext.rd (e:Ext G H G' H')(z:Rd H a u) (b:dF G a):Rd H' a u:=z.elim (λz=> .inl (e.keep a _ z b)) λ⟨o,z⟩=> .inr ⟨o,e.keep a _ z b⟩
structure Mon (G:Gh) (H:Hp) (G':Gh) (H':Hp):Prop where
 keep: ∀a o,G.fz a->H a=y0 o->H' a=y0 o
 le:G.n<=G'.n
 aO: ∀r,r<G.n->G'.aO r=G.aO r
 fz: ∀a,G.fz a->G'.fz a
def Ext.mon (e:Ext G H G' H') (b:ak Y G h H):Mon G H G' H':=⟨λa o z q=>e.keep a o q (b.off z),e.le,e.aO,e.fz⟩
def Mon.rd (e:Mon G H G' H')(z:Rd H a u) (b:G.fz a):Rd H' a u:=z.elim (λz=> .inl (e.keep a _ b z)) λ⟨o,z⟩=> .inr ⟨o,e.keep a _ b z⟩
mutual
theorem aA.mon (e:Mon G H G' H'): ∀ {d:M.D}{v:V},aA Y G H d v->aA Y G' H' d v
 | .aj,_,z=>z
 | .bl _,_,z=>z
 | .int _,_,z=>z
 | .str _,_,z=>z
 | .tup _,_,⟨a,vs,z1,z2,z3⟩=>⟨a,vs,z1,z2.elim (λz=> .inl ⟨e.fz a z.1,e.keep a _ z.1 z.2⟩) λz=> .inr z,af.mon e z3⟩
 | .lst _,_,⟨a,vs,z1,z2,z3⟩=>⟨a,vs,z1,z2.elim (λz=> .inl ⟨e.fz a z.1,e.rd z.2 z.1⟩) .inr,af.mon e z3⟩
 | .ref r,_,⟨z1,z2⟩=>⟨Ab3 z1 e.le,by rw [e.aO r z1];exact z2⟩
 | .exc c fs,_,z=>z.imp (λ⟨z0,x,z1,z2,z3,z4⟩=>⟨z0,x,z1,e.fz x z2,e.keep x _ z2 z3,z4⟩) id
 | .err c f d,_,⟨x,dx,u,z1,z2,z3,z4,z5,z6,z7,z8⟩=>⟨x,dx,u,z1,e.fz x z2,e.fz dx z3,e.keep x _ z2 z4,e.keep dx _ z3 z5,z6,z7,aA.mon e z8⟩
theorem af.mon (e:Mon G H G' H'): ∀ {ds:List M.D}{vs:List V},af Y G H ds vs->af Y G' H' ds vs
 | [],_,z=>z
 | _::_,_,⟨v,r,z1,z2,z3⟩=>⟨v,r,z1,aA.mon e z2,af.mon e z3⟩
end
theorem bx.mon (e:Mon G H G' H')(k: ∀o,H a=y0 o->H' a=y0 o) (z:bx Y G H a c):bx Y G' H' a c:=by
 cases c with
 | lst g=>obtain⟨f,n,b,d⟩:=z;exact⟨f,n,k _ b,d.mon e⟩
 | f9 i=>obtain⟨g,b,d,h⟩:=z;exact⟨g,k _ b,d,λx l=>(h x l).mon e⟩
 | hQ i=>exact k _ z
 | obj c fs=>obtain⟨f,j,m,b,d⟩:=z;exact⟨f,j,m,k _ b,d.mon e⟩
def aA.ext (e:Ext G H G' H') (a:ak Y G h H)(z:aA Y G H d v):aA Y G' H' d v:=z.mon (e.mon a)
def af.ext (e:Ext G H G' H') (a:ak Y G h H)(z:af Y G H d v):af Y G' H' d v:=z.mon (e.mon a)
theorem ao.ext (e:Ext G H G' H') (f:ak Y G h H)(z:ao Y G H w v):ao Y G' H' w v:=by
 cases w with
 | v d=>exact aA.ext e f z
 | own k=>
  obtain⟨a,j,i,l,c,b,g⟩:=z
  refine⟨a,j,i,λq=> ?_,e.off b c,e.keep a _ b c,af.ext e f g⟩
  obtain q | q:=e.old a q
  ·exact l q
  ·rw [b]at q;cases q
 | bor k=>
  obtain⟨a,j,i,c,b,g⟩:=z
  refine⟨a,j,i,?_,e.rd b c,af.ext e f g⟩
  obtain b | ⟨o,b⟩:=b
  ·exact e.off b c
  ·exact e.off b c
theorem au.ext (s:au Y G Z h U H) (e:Ext G H G' H') (b:ak Y G' h' H'):au Y G' Z h' U H' where
 len:=s.len
 slot:=λi w z=>let ⟨v,a,c⟩:=s.slot i w z; ⟨v,a,c.ext e s.heap⟩
 apart:=s.apart
 heap:=b
theorem af.length: ∀ {ds}{vs},af Y G H ds vs->ds.length=vs.length
 | [],_,rfl=>rfl
 | _::_,_,⟨_,_,rfl,_,z⟩=>congrArg (· +1) (af.length z)
theorem af.get: ∀ {ds}{vs}{i:Nat}{d},af Y G H ds vs->ds[i]? =y0 d-> ∃v,vs[i]? =y0 v/\aA Y G H d v
 | [],_,_,_,_,e=>by simp at e
 | _::_,_,0,_,⟨v,_,rfl,z,_⟩,e=>by simp at e;subst e;exact⟨v,rfl,z⟩
 | _::_,_,i+1,_,⟨_,_,rfl,_,z⟩,e=>by
  obtain⟨v,b,a⟩:=af.get z (by simpa using e)
  exact⟨v,by simpa using b,a⟩
theorem af.append: ∀ {ds es}{vs us},af Y G H ds vs->af Y G H es us->af Y G H (ds++es) (vs++us)
 | [],_,_,_,rfl,z=>z
 | _::_,_,_,_,⟨v,r,rfl,a,b⟩,z=>⟨v,r++_,rfl,a,af.append b z⟩
theorem af.drop: ∀ {ds}{vs}(n),af Y G H ds vs->af Y G H (ds.drop n) (vs.drop n)
 | _,_,0,z=>z
 | [],_,_+1,rfl=>rfl
 | _::_,_,n+1,⟨_,_,rfl,_,z⟩=>af.drop n z
theorem af.take: ∀ {ds}{vs}(n),af Y G H ds vs->af Y G H (ds.take n) (vs.take n)
 | _,_,0,_=>rfl
 | [],_,_+1,rfl=>rfl
 | _::_,_,n+1,⟨v,r,rfl,a,z⟩=>⟨v,r.take n,rfl,a,af.take n z⟩
theorem af.reverse: ∀ {ds}{vs},af Y G H ds vs->af Y G H ds.reverse vs.reverse
 | [],_,rfl=>rfl
 | _::_,_,⟨v,r,rfl,a,z⟩=>by
  rw [Aj7,Aj7]
  exact(af.reverse z).append ⟨v,[],rfl,a,rfl⟩
theorem af.set (z:aA Y G H d v): ∀ {ds}{vs} i,af Y G H ds vs->af Y G H (ds.set i d) (vs.set i v)
 | [],_,_,rfl=>rfl
 | _::_,_,0,⟨_,r,rfl,_,a⟩=>⟨v,r,rfl,z,a⟩
 | _::_,_,i+1,⟨u,r,rfl,b,a⟩=>⟨u,r.set i v,rfl,b,af.set z i a⟩
def Gh.more (G:Gh) (a:Addr):Gh:= { G with fz:=λb=>G.fz b\/b=a }
def jD (o) (b:H p=u0):Ext G H G (aI H p o) where
 keep:=λa u z _=>by rw [xa (zb z b)];exact z
 le:=Aa6 _
 aO:=λ_ _=>rfl
 new:=λr d c=>absurd d (Al6.mpr c)
 fz:=λ_ z=>z
 old:=λ_ z=> .inl z
 cells:=λr _ ⟨u,z⟩=>⟨u,by rw [xa (zb z b)];exact z⟩
def Qj (o) (b:H p=u0):Ext G H (G.more p) (aI H p o) where
 keep:=λa u z _=>by rw [xa (zb z b)];exact z
 le:=Aa6 _
 aO:=λ_ _=>rfl
 new:=λr d c=>absurd d (Al6.mpr c)
 fz:=λ_ z=> .inl z
 old:=λa z=>z.elim .inl λe=> .inr (e▸b)
 cells:=λr _ ⟨u,z⟩=>⟨u,by rw [xa (zb z b)];exact z⟩
def ak.new (r:ak Y G h H)(o) (b:H p=u0):ak Y G h (aI H p o) where
 len:=r.len
 any:=λi c z=>⟨(r.any i c z).1,(r.any i c z).2.mon ((jD o b).mon r) λu q=>by rw [xa (zb q b)];exact q⟩
 inj:=r.inj
 live:=λa z=>let ⟨u,q⟩:=r.live a z; ⟨u,by rw [xa (zb q b)];exact q⟩
def ak.fU (r:ak Y G h H)(o) (b:H p=u0):ak Y (G.more p) h (aI H p o) where
 len:=r.len
 any:=λi c z=>by
  obtain⟨g,d⟩:=r.any i c z
  obtain⟨u,f⟩:=d.there
  exact⟨λq=>q.elim g (zb f b),d.mon ((Qj o b).mon r) λu q=>by rw [xa (zb q b)];exact q⟩
 inj:=r.inj
 live:=λa z=>z.elim (λz=>let ⟨u,q⟩:=r.live a z; ⟨u,by rw [xa (zb q b)];exact q⟩) λe=>⟨o,by rw [e];exact jb⟩
def Jn (a):Mon G H (G.more a) H:=⟨λ_ _ _ z=>z,Aa6 _,λ_ _=>rfl,λ_ z=> .inl z⟩
theorem Ext.more (e:Ext G H G1 H1)(c:H a=Option.none):Ext G H (G1.more a) H1:=
 ⟨e.keep,e.le,e.aO,e.new,λb z=> .inl (e.fz b z),λb z=>z.elim (λz=>e.old b z) λz=> .inr (z▸c),e.cells⟩
theorem ak.more (r:ak Y G h H)(d:dF G a) (f: ∃o,H a=y0 o):ak Y (G.more a) h H where
 len:=r.len
 any:=λi c z=>⟨λq=>q.elim (r.any i c z).1 λe=>d i (r.lt z) e,(r.any i c z).2.mon (Jn a) λ_ q=>q⟩
 inj:=r.inj
 live:=λb z=>z.elim (λz=>r.live b z) λe=>e▸f
theorem ao.more (z:ao Y G H w v) (l:eZ w=k9->v≠ .ref a):ao Y (G.more a) H w v:=by
 cases w with
 | v d=>exact aA.mon (Jn a) z
 | own j=>
  obtain⟨b,i,c,k,f,g,h⟩:=z
  exact⟨b,i,c,λq=>q.elim k λe=>l rfl (e▸c),f,g,h.mon (Jn a)⟩
 | bor j=>
  obtain⟨b,i,c,f,g,h⟩:=z
  exact⟨b,i,c,f,g,h.mon (Jn a)⟩
theorem au.more (s:au Y G Z h U H)(b:dF G a) (f: ∃o,H a=y0 o) (d: ∀ i w,M.Gk Z i=y0 w->eZ w=k9->U[i]? ≠y0 (y0 (.ref a))):au Y (G.more a) Z h U H where
 len:=s.len
 slot:=λi w z=>by
  obtain⟨v,c,g⟩:=s.slot i w z
  exact⟨v,c,g.more λq e=>d i w z q (e▸c)⟩
 apart:=s.apart
 heap:=s.heap.more b f
def aF (Z:M.Sl) (U:St) (H:Hp):M.W->V->Prop
 | .v _,_=>True
 | .own _,v=> ∃a,v= .ref a/\H a=u0
 | .bor _,v=> ∃(i:Nat) (w:M.W),M.Gk Z i=y0 w/\eZ w=k9/\U[i]? =y0 (y0 v)
def aF.back (e:Ext G H G1 H1) (c:ak Y G h H)(z:aF Z U H1 w v):aF Z U H w v:=by
 cases w with
 | v d=>trivial
 | own b=>obtain⟨a,f,g⟩:=z;exact⟨a,f,e.none c g⟩
 | bor b=>exact z
def au.cH (s:au Y G Z h U H)(e:M.Gk Z i=y0 w) (l:eZ w=k9) (q:U[i]? =y0 (y0 (.ref a))): ∃o,H a=y0 o:=by
 obtain⟨v,f,g⟩:=s.slot i w e
 rw [q]at f
 cases f
 cases w with
 | v d=>cases l
 | own j=>obtain⟨b,k,f,_,_,c,_⟩:=g;cases f;exact⟨_,c⟩
 | bor j=>
  obtain⟨b,k,f,_,c,_⟩:=g
  cases f
  obtain c | ⟨o,c⟩:=c
  ·exact⟨_,c⟩
  ·exact⟨_,c⟩
def n5 (Y:Ge) (E:XK) (d:M.D) (G:Gh) (H:Hp):Prop:=(∀ c,d= .exc c []->eh Y c->E (.ref (Y.ca c)) u0 H) ∧
 ∀c f a,d= .err c f a->eh Y c->iO Y.K (Y.ca c) (Str.ofString f)-> ∀dx u,G.fz dx->H dx=y0 (.xd [(Str.ofString f,u)])->aA Y G H a u->E (.ref (Y.ca c)) (y0 dx) H
def ar {b:Type}(Y:Ge) (E:XK) (G:Gh) (H:Hp) (r:M.R b) (P:b->M.AH->Gh->Hp->Prop):Prop:=match r with
 | .ok a h'=> ∀G' H',Ext G H G' H'->ak Y G' h' H'->P a h' G' H'
 | .exc d h'=> ∀G' H',Ext G H G' H'->ak Y G' h' H'->n5 Y E d G' H'
 | .fail=>False
def ar.on (p:ar Y E G H r P) (e:Ext G H G1 H1) (i:ak Y G h H):ar Y E G1 H1 r P:=by
 cases r with
 | ok a j=>exact λc f g b=>p c f (e.trans i g) b
 | exc d j=>exact λc f g b=>p c f (e.trans i g) b
 | fail=>exact p
def tD (Y:Ge) (E:XK) (m:M.Sl->M.AH->M.R M.W):TE:=λU H Q=> ∃G Z h,au Y G Z h U H/\ar Y E G H (m Z h) λw h' G' H'=> ∀v,ao Y G' H' w v->aF Z U H w v->Q v H'
def cS (Y:Ge) (E:XK) (m:M.Sl->M.AH->M.R Bool):TT:=λU H Q=> ∃G Z h,au Y G Z h U H/\ar Y E G H (m Z h) λb _ _ H'=>Q b H'
def Ja (b:ak Y G0 h0 H0) (a:Ext G0 H0 G H) (s:au Y G Z h U H)
 (p:ar Y E G0 H0 ((m Z h).bind f) P)
 (k: ∀w v h1 G1 H1,Ext G0 H0 G1 H1->Ext G H G1 H1->au Y G1 Z h1 U H1->ao Y G1 H1 w v->aF Z U H w v->ar Y E G0 H0 (f w h1) P->Q v H1):tD Y E m U H Q:=by
 refine⟨G,Z,h,s,?_⟩
 cases q:m Z h with
 | ok w h1=>
  rw [q]at p
  exact λG1 H1 e g v c i=>k w v h1 G1 H1 (a.trans b e) e (s.ext e g) c i p
 | exc d h1=>rw [q]at p;exact ar.on p a b
 | fail=>rw [q]at p;exact p
def JI (c:ak Y G0 h0 H0) (a:Ext G0 H0 G H) (s:au Y G Z h U H)
 (p:ar Y E G0 H0 ((m Z h).bind f) P)
 (k: ∀b h1 G1 H1,Ext G0 H0 G1 H1->Ext G H G1 H1->au Y G1 Z h1 U H1->ar Y E G0 H0 (f b h1) P->Q b H1):cS Y E m U H Q:=by
 refine⟨G,Z,h,s,?_⟩
 cases q:m Z h with
 | ok w h1=>
  rw [q]at p
  exact λG1 H1 e g=>k w h1 G1 H1 (a.trans c e) e (s.ext e g) p
 | exc d h1=>rw [q]at p;exact ar.on p a c
 | fail=>rw [q]at p;exact p
def ik (Y:Ge) (E:XK) (m:M.Sl->M.AH->M.R (List M.D)):TA:=λU H Q=> ∃G Z h,au Y G Z h U H/\ar Y E G H (m Z h) λds _ G' H'=> ∀a,af Y G' H' ds a->Q a H'
def a8 (Y:Ge) (G:Gh) (H:Hp):List M.W->List V->Prop
 | [],a=>a= []
 | w::b,a=> ∃v r,a=v::r/\ao Y G H w v/\a8 Y G H b r
theorem a8.ext (e:Ext G H G' H') (a:ak Y G h H): ∀ {ws}{vs},a8 Y G H ws vs->a8 Y G' H' ws vs
 | [],_,z=>z
 | _::_,_,⟨v,r,c,d,b⟩=>⟨v,r,c,ao.ext e a d,a8.ext e a b⟩
theorem a8.length: ∀ {ws}{vs},a8 Y G H ws vs->ws.length=vs.length
 | [],_,rfl=>rfl
 | _::_,_,⟨_,_,rfl,_,z⟩=>congrArg (· +1) (a8.length z)
def eU (Y:Ge) (E:XK) (m:M.Sl->M.AH->M.R (List M.W)):TA:=λU H Q=> ∃G Z h,au Y G Z h U H/\ar Y E G H (m Z h) λb _ G' H'=> ∀a,a8 Y G' H' b a->Q a H'
def qS (b:ak Y G0 h0 H0) (a:Ext G0 H0 G H) (s:au Y G Z h U H)
 (p:ar Y E G0 H0 ((m Z h).bind f) P)
 (k: ∀ds vs h1 G1 H1,Ext G0 H0 G1 H1->Ext G H G1 H1->au Y G1 Z h1 U H1->af Y G1 H1 ds vs->ar Y E G0 H0 (f ds h1) P->Q vs H1):ik Y E m U H Q:=by
 refine⟨G,Z,h,s,?_⟩
 cases q:m Z h with
 | ok w h1=>
  rw [q]at p
  exact λG1 H1 e c vs z=>k w vs h1 G1 H1 (a.trans b e) e (s.ext e c) z p
 | exc d h1=>rw [q]at p;exact ar.on p a b
 | fail=>rw [q]at p;exact p
def Qs (b:ak Y G0 h0 H0) (a:Ext G0 H0 G H) (s:au Y G Z h U H)
 (p:ar Y E G0 H0 ((m Z h).bind f) P)
 (k: ∀ds vs h1 G1 H1,Ext G0 H0 G1 H1->Ext G H G1 H1->au Y G1 Z h1 U H1->a8 Y G1 H1 ds vs->ar Y E G0 H0 (f ds h1) P->Q vs H1):eU Y E m U H Q:=by
 refine⟨G,Z,h,s,?_⟩
 cases q:m Z h with
 | ok w h1=>
  rw [q]at p
  exact λG1 H1 e c vs z=>k w vs h1 G1 H1 (a.trans b e) e (s.ext e c) z p
 | exc d h1=>rw [q]at p;exact ar.on p a b
 | fail=>rw [q]at p;exact p
theorem ar.of (p:ar Y E G H ((M.R.of h o).bind f) P): ∃b,o=y0 b/\ar Y E G H (f b h) P:=by
 cases o with
 | none=>exact p.elim
 | some b=>exact⟨b,rfl,p⟩
def ar.at (p:ar Y E G H (.ok a h) P) (e:Ext G H G1 H1) (b:ak Y G1 h H1):P a h G1 H1:=p G1 H1 e b
def m3 (e:Ext G H G1 H1) (s:au Y G1 Z h U H1) (x:au Y G Z h' U H)(r:ao Y G1 H1 w v) (f:aF Z U H w v) (c:w.d=y0 d):
 ∃G2,Ext G H G2 H1/\au Y G2 Z h U H1/\aA Y G2 H1 d v/\Mon G1 H1 G2 H1:=by
 cases w with
 | v A=>cases c;exact⟨G1,e,s,r,⟨λ_ _ _ z=>z,Aa6 _,λ_ _=>rfl,λ_ z=>z⟩⟩
 | own t=>
  cases c
  obtain⟨a,p,rfl,y,n,j,u⟩:=r
  obtain⟨b,m,g⟩:=f
  cases m
  refine⟨G1.more a,e.more g,s.more n ⟨_,j⟩ λi w q l z=> ?_,⟨a,p,rfl,.inl ⟨.inr rfl,.inl j⟩,u.mon (Jn a)⟩,Jn a⟩
  obtain⟨o,k⟩:=x.cH q l z
  rw [g]at k;cases k
 | bor t=>cases c
end
open PySem PySem.Spec PyProof.Rows
mutual
def RV (hp:Heap):M.D->Value->Prop
 | .aj,u=>u= .none
 | .bl b,u=>u= .bool b
 | .int i,u=> ∃t,u= .int i t
 | .str s,u=> ∃t,u= .str (aD s) t
 | .tup ds,u=> ∃(a:Addr) (its:List Value),u= .ref a/\IsTup hp a its.toArray/\cg hp ds its
 | .lst ds,u=> ∃(a:Addr) (its:List Value),u= .ref a/\hp.IsList a its.toArray/\cg hp ds its
 | .ref _,_=>False
 | .exc _ _,_=>False
 | .err _ _ _,_=>False
def cg (hp:Heap):List M.D->List Value->Prop
 | [],us=>us= []
 | d::ds,us=> ∃u r,us=u::r/\RV hp d u/\cg hp ds r
end
theorem cg.length : ∀ {ds}{us},cg hp ds us->ds.length=us.length
 | [],_,rfl=>rfl
 | _::_,_,⟨_,_,rfl,_,z⟩=>congrArg (· +1) (cg.length z)
theorem cg.get : ∀ {ds}{us}{j:Nat}{u},cg hp ds us->us[j]? =y0 u-> ∃d,ds[j]? =y0 d/\RV hp d u
 | [],_,_,_,rfl,e=>by simp at e
 | d::_,_,0,_,⟨v,_,rfl,z,_⟩,e=>by simp at e;subst e;exact⟨d,rfl,z⟩
 | _::_,_,j+1,_,⟨_,_,rfl,_,z⟩,e=>by
  obtain⟨v,b,a⟩:=cg.get z (by simpa using e)
  exact⟨v,by simpa using b,a⟩
section
variable {X:Cx}{Y:Ge}{G:Gh}{H:Hp}{h:M.AH}{y8:List (Addr×Obj)}{U:St}{s:Shared}
mutual
theorem aA.iB (I:Inv X y8 U H s) (hK:X.K=Y.K): ∀ {d:M.D}{x:V}{u:Value},aA Y G H d x->RelV x u->M.Gm d=k9->RV s.heap d u
 | .aj,_,_,rfl,r,_=>r
 | .bl _,_,_,rfl,r,_=>r
 | .int _,_,_,rfl,r,_=>r
 | .str _,_,_,rfl,r,_=>r
 | .tup ds,_,_,⟨a,vs,rfl,z2,z3⟩,r,n=>by
  cases r
  obtain⟨its,r1,p1,_⟩:=I.tuple (hK▸z2.sq)
  exact⟨a,its,rfl,p1,af.iB I hK z3 r1 (by simpa [M.Gm]using n)⟩
 | .lst ds,_,_,⟨a,vs,rfl,z2,z3⟩,r,n=>by
  cases r
  obtain⟨its,r1,p1,_⟩:=I.list (hK▸z2.sq)
  exact⟨a,its,rfl,p1.isList,af.iB I hK z3 r1 (by simpa [M.Gm]using n)⟩
 | .ref _,_,_,_,_,n=>by simp [M.Gm]at n
 | .exc _ _,_,_,_,_,n=>by simp [M.Gm]at n
 | .err _ _ _,_,_,_,_,n=>by simp [M.Gm]at n
theorem af.iB (I:Inv X y8 U H s) (hK:X.K=Y.K): ∀ {ds:List M.D}{xs:List V}{us:List Value},af Y G H ds xs->Vals xs us->M.Gg ds=k9->cg s.heap ds us
 | [],_,_,rfl,.nil,_=>rfl
 | d::ds,_,_,⟨v,r,rfl,z1,z2⟩,.cons r1 r2,n=>by
  have n':M.Gm d=k9/\M.Gg ds=true:=by simpa [M.Gg]using n
  exact⟨_,_,rfl,aA.iB I hK z1 r1 n'.1,af.iB I hK z2 r2 n'.2⟩
end
mutual
theorem aA.rv (I:Inv X y8 U H s) (hK:X.K=Y.K) (hr:ak Y G h H): ∀ {d:M.D}{x:V}{u:Value},aA Y G H d x->RelV x u->M.Gm (M.res h d)=k9->RV s.heap (M.res h d) u
 | .aj,_,_,rfl,r,_=>r
 | .bl _,_,_,rfl,r,_=>r
 | .int _,_,_,rfl,r,_=>r
 | .str _,_,_,rfl,r,_=>r
 | .tup ds,_,_,⟨a,vs,rfl,z2,z3⟩,r,n=>by
  cases r
  obtain⟨its,r1,p1,_⟩:=I.tuple (hK▸z2.sq)
  rw [M.res]at n ⊢
  exact⟨a,its,rfl,p1,af.rv I hK hr z3 r1 (by simpa [M.Gm]using n)⟩
 | .lst ds,_,_,⟨a,vs,rfl,z2,z3⟩,r,n=>by
  cases r
  obtain⟨its,r1,p1,_⟩:=I.list (hK▸z2.sq)
  rw [M.res]at n ⊢
  exact⟨a,its,rfl,p1.isList,af.rv I hK hr z3 r1 (by simpa [M.Gm]using n)⟩
 | .ref i,_,_,⟨hi,e⟩,r,n=>by
  subst e
  cases r
  rw [M.res]at n ⊢
  cases q:h[i]? with
  | none=>rw [q]at n;simp [M.Gm]at n
  | some c=>
   cases c with
   | lst xs=>
    rw [q]at n
    obtain⟨_,vs,z2,z3⟩:=hr.cell i xs q
    obtain⟨its,r1,p1,_⟩:=I.list (bu.of (K:=X.K) z2)
    exact⟨_,its,rfl,p1.isList,af.iB I hK z3 r1 (by simpa [M.Gm]using n)⟩
   | f9 ks=>rw [q]at n;simp [M.Gm]at n
   | obj c fs=>rw [q]at n;simp [M.Gm]at n
   | hQ ks=>rw [q]at n;simp [M.Gm]at n
 | .exc _ _,_,_,_,_,n=>by simp [M.res,M.Gm]at n
 | .err _ _ _,_,_,_,_,n=>by simp [M.res,M.Gm]at n
theorem af.rv (I:Inv X y8 U H s) (hK:X.K=Y.K) (hr:ak Y G h H): ∀ {ds:List M.D}{xs:List V}{us:List Value},af Y G H ds xs->Vals xs us->M.Gg (M.G6 h ds)=k9->cg s.heap (M.G6 h ds) us
 | [],_,_,rfl,.nil,_=>rfl
 | d::ds,_,_,⟨v,r,rfl,z1,z2⟩,.cons r1 r2,n=>by
  rw [M.G6]at n ⊢
  have n':M.Gm (M.res h d)=k9/\M.Gg (M.G6 h ds)=true:=by simpa [M.Gg]using n
  exact⟨_,_,rfl,aA.rv I hK hr z1 r1 n'.1,af.rv I hK hr z2 r2 n'.2⟩
end
theorem ao.rv (I:Inv X y8 U H s) (i:X.K=Y.K) (j:ak Y G h H)(z:ao Y G H w x) (r:RelV x u) (n:M.Gm (w.dd h)=k9):RV s.heap (w.dd h) u:=by
 cases w with
 | v d=>exact aA.rv I i j z r n
 | own k=>
  obtain⟨a,l,rfl,_,_,c,e⟩:=z
  cases r
  obtain⟨b,g,f,_⟩:=I.list (bu.of c)
  exact⟨a,b,rfl,f.isList,af.rv I i j e g (by simp_all)⟩
 | bor k=>
  obtain⟨a,l,rfl,_,c,e⟩:=z
  cases r
  obtain⟨b,g,f,_⟩:=I.list (.inl c)
  exact⟨a,b,rfl,f.isList,af.rv I i j e g (by simp_all)⟩
end
def wA (h:aD a=aD b):a=b:=by
 have:=congrArg Str.cps h
 simpa [aD]using this
def WQ {xs c:List Value}(h1:IsTup hp a xs.toArray) (h2:IsTup hp a c.toArray):xs=c:=by
 obtain⟨o,f,_,n,e⟩:=h1
 obtain⟨g,b,_,h,d⟩:=h2
 rw [f]at b;cases b
 rw [e]at d;cases d
 rfl
def QH {b:Heap}{xs d:List Value}(h1:b.IsList a xs.toArray) (h2:b.IsList a d.toArray):xs=d:=by
 obtain⟨o,g,_,n,f⟩:=h1
 obtain⟨h,c,_,i,e⟩:=h2
 rw [g]at c;cases c
 rw [f]at e;cases e
 rfl
def Qx (h1:IsTup hp a xs) (h2:hp.IsList a ys):False:=by
 obtain⟨o,d,e,_⟩:=h1
 obtain⟨f,b,c,_⟩:=h2
 rw [d]at b;cases b
 rw [e]at c
 exact absurd c (by decide)
mutual
theorem RV.inj {hp:Heap}: ∀ {d e:M.D}{u:Value},RV hp d u->RV hp e u->d=e
 | .aj,e,_,rfl,q=>by cases e<;>first | rfl | (simp [RV]at q)
 | .bl _,e,_,rfl,q=>by cases e<;>first | (simp [RV]at q;done) | (have q:=q;simp [RV]at q;try rw [q])
 | .int _,e,_,⟨t,rfl⟩,q=>by cases e<;>first | (simp [RV]at q;done) | (have q:=q;simp [RV]at q;try rw [q])
 | .str _,e,_,⟨t,rfl⟩,q=>by
  cases e with
  | str z=>
   obtain⟨t',q⟩:=q
   injection q with q1 q2
   rw [wA q1]
  | _=>simp [RV]at q
 | .tup ds,e,_,⟨a,its,rfl,p,r⟩,q=>by
  cases e with
  | tup es=>
   obtain⟨b,its2,e,p2,r2⟩:=q
   cases e
   cases WQ p p2
   rw [cg.inj r r2]
  | lst es=>
   obtain⟨b,its2,e,p2,r2⟩:=q
   cases e
   exact(Qx p p2).elim
  | _=>simp [RV]at q
 | .lst ds,e,_,⟨a,its,rfl,p,r⟩,q=>by
  cases e with
  | lst es=>
   obtain⟨b,its2,e,p2,r2⟩:=q
   cases e
   cases QH p p2
   rw [cg.inj r r2]
  | tup es=>
   obtain⟨b,its2,e,p2,r2⟩:=q
   cases e
   exact(Qx p2 p).elim
  | _=>simp [RV]at q
 | .ref _,_,_,q,_=>q.elim
 | .exc _ _,_,_,q,_=>q.elim
 | .err _ _ _,_,_,q,_=>q.elim
theorem cg.inj {hp:Heap}: ∀ {d e:List M.D}{u:List Value},cg hp d u->cg hp e u->d=e
 | [],e,_,rfl,q=>by
  cases e with
  | nil=>rfl
  | cons a b=>obtain⟨_,_,z,_⟩:=q;cases z
 | d::ds,e,_,⟨u,r,rfl,z1,z2⟩,q=>by
  cases e with
  | nil=>cases (show _::_= []from q)
  | cons a b=>
   obtain⟨_,_,z,y1,y2⟩:=q
   cases z
   rw [RV.inj z1 y1,cg.inj z2 y2]
end
mutual
theorem RV.refl {hp:Heap}: ∀ {d:M.D}{u:Value},RV hp d u->M.cO d d=k9
 | .aj,_,_=>rfl
 | .bl _,_,_=>by simp
 | .int _,_,_=>by simp
 | .str _,_,_=>by simp
 | .tup ds,_,⟨_,_,_,_,r⟩=>by rw [M.cO];exact cg.refl r
 | .lst ds,_,⟨_,_,_,_,r⟩=>by rw [M.cO];exact cg.refl r
 | .ref _,_,q=>q.elim
 | .exc _ _,_,q=>q.elim
 | .err _ _ _,_,q=>q.elim
theorem cg.refl {hp:Heap}: ∀ {d:List M.D}{u:List Value},cg hp d u->M.GM d d=k9
 | [],_,_=>rfl
 | d::ds,_,⟨_,_,_,z1,z2⟩=>by rw [M.GM,RV.refl z1,cg.refl z2];rfl
end
def il (xs c:List M.D) (j:Nat):Bool:=match xs[j]?,c[j]? with
 | some a,y0 b=>M.cO a b
 | _,_=>k9
def WE (n) (e):(Ab7 (n+1)).all e=(e 0&&(Ab7 n).all λj=>e (j+1)):=by
 rw [List.range_succ_eq_map,Ag8,Al7];rfl
theorem qU: ∀(xs ys),xs.length=ys.length->(Ab7 xs.length).all (il xs ys)=M.GM xs ys
 | [],[],_=>rfl
 | [],_::_,h=>by simp at h
 | _::_,[],h=>by simp at h
 | x::xs,y::ys,h=>by
  rw [Aa2,WE,M.GM]
  have a:=qU xs ys (by simpa using h)
  rw [← a]
  rfl
theorem j2: ∀(xs ys),M.GM xs ys=k9->xs.length=ys.length
 | [],[],_=>rfl
 | [],_::_,h=>by simp at h
 | _::_,[],h=>by simp at h
 | x::xs,y::ys,h=>by
  rw [M.GM,Aa9]at h
  rw [Aa2,Aa2,j2 xs ys h.2]
def td (h:xs.length≠ys.length):M.GM xs ys=false:=by
 cases e:M.GM xs ys with
 | false=>rfl
 | true=>exact absurd (j2 xs ys e) h
open SeqAt in
structure dr (A:Around) (s:Shared) (u v:Value) (b:Bool):Prop where
 rc:RcAt A s u v b
 ne:RcNeAt A s u v (!b)
 eq:EqAt A s u v b
section
open SeqAt
variable {A:Around}{s:Shared}
theorem jy: ∀ {ds}{j:Nat}{d},ds[j]? =y0 d->M.dep d<=M.G8 ds
 | [],_,_,e=>by simp at e
 | x::a,0,d,e=>by simp at e;subst e;simp only [M.G8];omega
 | x::a,j+1,d,e=>by
  have:=jy (by simpa using e)
  simp only [M.G8]
  omega
def lJ (b:Bool):((if b then(1:Int)else 0))=((b.toNat:Nat):Int):=by cases b<;>rfl
def ph (a b):(aD a==aD b)=(a==b):=by
 by_cases h:a=b
 ·subst h;simp
 ·have c:=λe=>h (wA e)
  rw [beq_eq_false_iff_ne.mpr h,beq_eq_false_iff_ne.mpr c]
def Ez (f:s.heap.IsList l its.toArray) (g:s.heap.IsList b its2.toArray) (i:cg s.heap xs its) (m:cg s.heap ys its2) (k:A.units<cLine)
 (y: ∀(j:Nat) a c u v,xs[j]? =y0 a->ys[j]? =y0 c->RV s.heap a u->RV s.heap c v->EqAt A.in1 s u v (M.cO a c)):dr A s (.ref l) (.ref b) (M.GM xs ys):=by
 have n: ∀ j z (w:j<its2.toArray.size),EqAt A.in1 s its.toArray[j] its2.toArray[j] (il xs ys j):=λj z w=>by
  obtain⟨a,q,t⟩:=i.get (j:=j) (u:=its.toArray[j]) (by simp)
  obtain⟨c,o,x⟩:=m.get (j:=j) (u:=its2.toArray[j]) (by simp)
  have:=y j a c _ _ q o t x
  unfold il
  rw [q,o]
  exact this
 have r:=i.length
 have B:=m.length
 have two:RcAt A s (.ref l) (.ref b) (M.GM xs ys)/\RcNeAt A s (.ref l) (.ref b) (!M.GM xs ys):=by
  by_cases p:xs.length=ys.length
  ·have d:its.toArray.size=its2.toArray.size:=by simp;lia
   have e:(Ab7 its.toArray.size).all (il xs ys)=M.GM xs ys:=by
    rw [Ab2,←r];exact qU xs ys p
   have a:=RcAt.lists f g d k n
   have c:=RcNeAt.lists f g d k n
   rw [e]at a c
   exact⟨a,c⟩
  ·have d:(its.toArray.size != its2.toArray.size)=true:=by simp;lia
   rw [td p]
   exact⟨RcAt.lists_lengths f g d k,RcNeAt.lists_lengths f g d k⟩
 refine⟨two.1,two.2,?_⟩
 by_cases h:l=b
 ·subst h
  cases QH f g
  cases cg.inj i m
  rw [cg.refl i]
  exact EqAt.same _
 ·exact EqAt.of_refs h two.1
def Z5 (h:IsTup s.heap l its.toArray) (i:IsTup s.heap b its2.toArray) (f:cg s.heap xs its) (k:cg s.heap ys its2) (o:A.units<cLine)
 (y: ∀(j:Nat) a c u v,xs[j]? =y0 a->ys[j]? =y0 c->RV s.heap a u->RV s.heap c v->EqAt A.in1 s u v (M.cO a c)):dr A s (.ref l) (.ref b) (M.GM xs ys):=by
 have m: ∀ j z (w:j<its2.toArray.size),EqAt A.in1 s its.toArray[j] its2.toArray[j] (il xs ys j):=λj z w=>by
  obtain⟨a,p,r⟩:=f.get (j:=j) (u:=its.toArray[j]) (by simp)
  obtain⟨c,n,x⟩:=k.get (j:=j) (u:=its2.toArray[j]) (by simp)
  have:=y j a c _ _ p n r x
  unfold il
  rw [p,n]
  exact this
 have q:=f.length
 have t:=k.length
 have e:((Ab7 (min its.toArray.size its2.toArray.size)).all (il xs ys)&&its.toArray.size==its2.toArray.size)=M.GM xs ys:=by
  rw [Ab2,Ab2,←q,←t]
  by_cases g:xs.length=ys.length
  ·rw [← g,Nat.min_self,qU xs ys g];simp
  ·rw [td g];simp [g]
 have a:=RcAt.tuples h i o m
 have c:=RcNeAt.tuples h i o m
 rw [e]at a c
 refine⟨a,c,?_⟩
 by_cases d:l=b
 ·subst d
  cases WQ h i
  cases cg.inj f k
  rw [cg.refl f]
  exact EqAt.same _
 ·exact EqAt.of_refs d a
def dr.of (h:dr A s u v b) (e:b=b'):dr A s u v b':=e▸h
def mG: ∀(n:Nat) (d e:M.D) (A:Around) (u v:Value),M.dep d<=n->A.units+n<cLine->RV s.heap d u->RV s.heap e v->dr A s u v (M.cO d e):=by
 intro n
 induction n with
 | zero=>
  intro d e A u v y N m f
  have c:A.units<cLine:=by omega
  cases d with
  | aj=>
   cases (show u= .none from m)
   cases e with
   | aj=>cases (show v= .none from f);exact⟨RcAt.none_none,RcNeAt.none_none,EqAt.same _⟩
   | bl b=>cases (show v= .bool b from f);exact⟨RcAt.none_bool b,RcNeAt.none_bool b,EqAt.none_bool b⟩
   | int i=>obtain⟨t,rfl⟩:=f;exact⟨RcAt.none_int i t,RcNeAt.none_int i t,EqAt.none_int i t⟩
   | str z=>obtain⟨t,rfl⟩:=f;exact⟨RcAt.none_str _ t,RcNeAt.none_str _ t,EqAt.none_str _ t⟩
   | tup o=>obtain⟨a,k,rfl,p,_⟩:=f;exact⟨RcAt.none_tuple p c,RcNeAt.none_tuple p c,EqAt.none_tuple p c⟩
   | lst o=>obtain⟨a,k,rfl,p,_⟩:=f;exact⟨RcAt.none_list p c,RcNeAt.none_list p c,EqAt.none_list p c⟩
   | ref _=>exact f.elim
   | exc _ _=>exact f.elim
   | err _ _ _=>exact f.elim
  | bl x=>
   cases (show u= .bool x from m)
   cases e with
   | aj=>cases (show v= .none from f);exact⟨RcAt.bool_none x,RcNeAt.bool_none x,EqAt.bool_none x⟩
   | bl b=>cases (show v= .bool b from f);exact⟨RcAt.bool_bool x b,RcNeAt.bool_bool x b,EqAt.bool_bool x b⟩
   | int i=>obtain⟨t,rfl⟩:=f;exact(dr.mk (RcAt.bool_int x i t) (RcNeAt.bool_int x i t) (EqAt.bool_int x i t)).of (by rw [lJ];rfl)
   | str z=>obtain⟨t,rfl⟩:=f;exact⟨RcAt.bool_str x _ t,RcNeAt.bool_str x _ t,EqAt.bool_str x _ t⟩
   | tup o=>obtain⟨a,k,rfl,p,_⟩:=f;exact⟨RcAt.bool_tuple x p c,RcNeAt.bool_tuple x p c,EqAt.bool_tuple x p c⟩
   | lst o=>obtain⟨a,k,rfl,p,_⟩:=f;exact⟨RcAt.bool_list x p c,RcNeAt.bool_list x p c,EqAt.bool_list x p c⟩
   | ref _=>exact f.elim
   | exc _ _=>exact f.elim
   | err _ _ _=>exact f.elim
  | int x=>
   obtain⟨g,rfl⟩:=m
   cases e with
   | aj=>cases (show v= .none from f);exact⟨RcAt.int_none x g,RcNeAt.int_none x g,EqAt.int_none x g⟩
   | bl b=>cases (show v= .bool b from f);exact(dr.mk (RcAt.int_bool x g b) (RcNeAt.int_bool x g b) (EqAt.int_bool x g b)).of (by rw [lJ];rfl)
   | int i=>obtain⟨t,rfl⟩:=f;exact⟨RcAt.int_int x g i t,RcNeAt.int_int x g i t,EqAt.int_int x g i t⟩
   | str z=>obtain⟨t,rfl⟩:=f;exact⟨RcAt.int_str x g _ t,RcNeAt.int_str x g _ t,EqAt.int_str x g _ t⟩
   | tup o=>obtain⟨a,k,rfl,p,_⟩:=f;exact⟨RcAt.int_tuple x g p c,RcNeAt.int_tuple x g p c,EqAt.int_tuple x g p c⟩
   | lst o=>obtain⟨a,k,rfl,p,_⟩:=f;exact⟨RcAt.int_list x g p c,RcNeAt.int_list x g p c,EqAt.int_list x g p c⟩
   | ref _=>exact f.elim
   | exc _ _=>exact f.elim
   | err _ _ _=>exact f.elim
  | str x=>
   obtain⟨g,rfl⟩:=m
   cases e with
   | aj=>cases (show v= .none from f);exact⟨RcAt.str_none _ g,RcNeAt.str_none _ g,EqAt.str_none _ g⟩
   | bl b=>cases (show v= .bool b from f);exact⟨RcAt.str_bool _ g b,RcNeAt.str_bool _ g b,EqAt.str_bool _ g b⟩
   | int i=>obtain⟨t,rfl⟩:=f;exact⟨RcAt.str_int _ g i t,RcNeAt.str_int _ g i t,EqAt.str_int _ g i t⟩
   | str z=>obtain⟨t,rfl⟩:=f;exact(dr.mk (RcAt.str_str _ g _ t) (RcNeAt.str_str _ g _ t) (EqAt.str_str _ g _ t)).of (by rw [ph];rfl)
   | tup o=>obtain⟨a,k,rfl,p,_⟩:=f;exact⟨RcAt.str_tuple _ g p c,RcNeAt.str_tuple _ g p c,EqAt.str_tuple _ g p c⟩
   | lst o=>obtain⟨a,k,rfl,p,_⟩:=f;exact⟨RcAt.str_list _ g p c,RcNeAt.str_list _ g p c,EqAt.str_list _ g p c⟩
   | ref _=>exact f.elim
   | exc _ _=>exact f.elim
   | err _ _ _=>exact f.elim
  | tup C=>simp only [M.dep]at y;omega
  | lst C=>simp only [M.dep]at y;omega
  | ref _=>exact m.elim
  | exc _ _=>exact m.elim
  | err _ _ _=>exact m.elim
 | succ n w=>
  intro d e A u v y N m f
  have c:A.units<cLine:=by omega
  cases d with
  | tup C=>
   obtain⟨l,B,rfl,h,H⟩:=m
   have r:M.G8 C<=n:=by simp only [M.dep]at y;omega
   cases e with
   | aj=>cases (show v= .none from f);exact⟨RcAt.tuple_none h c,RcNeAt.tuple_none h c,EqAt.tuple_none h c⟩
   | bl b=>cases (show v= .bool b from f);exact⟨RcAt.tuple_bool b h c,RcNeAt.tuple_bool b h c,EqAt.tuple_bool b h c⟩
   | int i=>obtain⟨t,rfl⟩:=f;exact⟨RcAt.tuple_int i t h c,RcNeAt.tuple_int i t h c,EqAt.tuple_int i t h c⟩
   | str z=>obtain⟨t,rfl⟩:=f;exact⟨RcAt.tuple_str _ t h c,RcNeAt.tuple_str _ t h c,EqAt.tuple_str _ t h c⟩
   | tup o=>
    obtain⟨a,k,rfl,p,q⟩:=f
    rw [M.cO]
    exact Z5 h p H q c λj I K F D E L J G=>(w I K A.in1 F D (Ab8 (jy E) r) (by show A.units+1+n<cLine;omega) J G).eq
   | lst o=>obtain⟨a,k,rfl,p,_⟩:=f;exact⟨RcAt.tuple_list h p c,RcNeAt.tuple_list h p c,EqAt.tuple_list h p c⟩
   | ref _=>exact f.elim
   | exc _ _=>exact f.elim
   | err _ _ _=>exact f.elim
  | lst C=>
   obtain⟨l,B,rfl,h,H⟩:=m
   have r:M.G8 C<=n:=by simp only [M.dep]at y;omega
   cases e with
   | aj=>cases (show v= .none from f);exact⟨RcAt.list_none h c,RcNeAt.list_none h c,EqAt.list_none h c⟩
   | bl b=>cases (show v= .bool b from f);exact⟨RcAt.list_bool b h c,RcNeAt.list_bool b h c,EqAt.list_bool b h c⟩
   | int i=>obtain⟨t,rfl⟩:=f;exact⟨RcAt.list_int i t h c,RcNeAt.list_int i t h c,EqAt.list_int i t h c⟩
   | str z=>obtain⟨t,rfl⟩:=f;exact⟨RcAt.list_str _ t h c,RcNeAt.list_str _ t h c,EqAt.list_str _ t h c⟩
   | lst o=>
    obtain⟨a,k,rfl,p,q⟩:=f
    rw [M.cO]
    exact Ez h p H q c λj I K F D E L J G=>(w I K A.in1 F D (Ab8 (jy E) r) (by show A.units+1+n<cLine;omega) J G).eq
   | tup o=>obtain⟨a,k,rfl,p,_⟩:=f;exact⟨RcAt.list_tuple h p c,RcNeAt.list_tuple h p c,EqAt.list_tuple h p c⟩
   | ref _=>exact f.elim
   | exc _ _=>exact f.elim
   | err _ _ _=>exact f.elim
  | aj=>exact w .aj e A u v (by simp) (by omega) m f
  | bl x=>exact w _ e A u v (by simp) (by omega) m f
  | int x=>exact w _ e A u v (by simp) (by omega) m f
  | str x=>exact w _ e A u v (by simp) (by omega) m f
  | ref _=>exact m.elim
  | exc _ _=>exact m.elim
  | err _ _ _=>exact m.elim
end
def ax (Y:Ge) (E:XK) (G:Gh) (H:Hp) (r:M.R M.W) (Q:VK):Prop:=ar Y E G H r λw _ G' H'=> ∀v,ao Y G' H' w v->aF [] [] H w v->Q v H'
section
variable {X:Cx}{Y:Ge}{G:Gh}{H:Hp}{h:M.AH}{y8:List (Addr×Obj)}{U:St}{s:Shared}{Q:VK}{E:XK}
theorem ax.v (p:ax Y E G H (.ok (.v d) h) Q) (a:ak Y G h H){v:V}(z:aA Y G H d v):Q v H:=p G H Ext.refl a v z trivial
def ak.iN (c:ak Y G h H)(b:H a=u0): ¬G.fz a:=λq=>by
 obtain⟨o,z⟩:=c.live a q
 rw [b]at z;cases z
def ak.iW (d:ak Y G h H)(c:H a=u0):dF G a:=λr b e=>by
 obtain⟨o,q⟩:=d.there b
 rw [e,c]at q;cases q
theorem ax.own (p:ax Y E G H (.ok (.own xs) h) Q) (c:ak Y G h H) (z:af Y G H xs vs) (a) (b:H a=u0):Q (.ref a) (aI H a (.lst vs)):=
 p G _ (jD _ b) (c.new _ b) _ ⟨a,vs,rfl,c.iN b,c.iW b,jb,z.ext (jD _ b) c⟩ ⟨a,rfl,b⟩
theorem ax.tup (p:ax Y E G H (.ok (.v (.tup xs)) h) Q) (c:ak Y G h H) (z:af Y G H xs vs) (a) (b:H a=u0):Q (.ref a) (aI H a (.tup vs)):=
 p _ _ (Qj _ b) (c.fU _ b) _ ⟨a,vs,rfl,.inl ⟨.inr rfl,jb⟩,z.ext (Qj _ b) c⟩ trivial
theorem ax.of (p:ax Y E G H ((M.R.of h o).bind f) Q): ∃b,o=y0 b/\ax Y E G H (f b h) Q:=ar.of p
def ax.mk (p:ar Y E G0 H0 r λw _ G' H'=> ∀v,ao Y G' H' w v->aF Z U H0 w v->Q v H') (e:Ext G0 H0 G H) (g:ak Y G0 h0 H0):ax Y E G H r Q:=by
 cases r with
 | ok w l=>
  refine λG' H' c b v j h=>p G' H' (e.trans g c) b v j ?_
  cases w with
  | v d=>trivial
  | own m=>obtain⟨a,f,k⟩:=h;exact⟨a,f,e.none g k⟩
  | bor m=>obtain⟨i,w,f,_⟩:=h;simp at f
 | exc d l=>exact λG' H' c b=>p G' H' (e.trans g c) b
 | fail=>exact p
theorem ao.lst (k:ak Y G h H)(z:ao Y G H w v) (e:w.bX h=y0 xs): ∃a vs,v= .ref a/\bu Y.K H a vs/\af Y G H xs vs:=by
 cases w with
 | v d=>
  cases d with
  | lst i=>cases e;obtain⟨a,vs,f,g,b⟩:=z;exact⟨a,vs,f,g.sq,b⟩
  | ref r=>
   obtain⟨l,f⟩:=z
   have e:(match h[r]? with | some (M.Cell.lst zs)=>y0 zs | _=>u0)=y0 xs:=e
   cases q:h[r]? with
   | none=>rw [q]at e;cases e
   | some c=>
    cases c with
    | lst i=>
     rw [q]at e
     cases e
     obtain⟨_,vs,g,b⟩:=k.cell r _ q
     exact⟨_,vs,f,bu.of g,b⟩
    | f9 j=>rw [q]at e;cases e
    | obj c fs=>rw [q]at e;cases e
    | hQ j=>rw [q]at e;cases e
  | aj=>cases e
  | bl _=>cases e
  | int _=>cases e
  | str _=>cases e
  | tup _=>cases e
  | exc _ _=>cases e
  | err _ _ _=>cases e
 | own i=>cases e;obtain⟨a,vs,f,_,_,g,b⟩:=z;exact⟨a,vs,f,bu.of g,b⟩
 | bor i=>cases e;obtain⟨a,vs,f,_,g,b⟩:=z;exact⟨a,vs,f,.inl g,b⟩
theorem ao.nO (k:ak Y G h H)(z:ao Y G H w v) (e:w.gH h=y0 xs): ∃a vs,v= .ref a/\Rd H a (.lst vs)/\af Y G H xs vs:=by
 cases w with
 | v d=>
  cases d with
  | ref r=>
   obtain⟨l,f⟩:=z
   have e:(match h[r]? with | some (M.Cell.lst zs)=>y0 zs | _=>u0)=y0 xs:=e
   cases q:h[r]? with
   | none=>rw [q]at e;cases e
   | some c=>
    cases c with
    | lst i=>
     rw [q]at e
     cases e
     obtain⟨_,vs,g,b⟩:=k.cell r _ q
     exact⟨_,vs,f,.inl g,b⟩
    | f9 j=>rw [q]at e;cases e
    | obj c fs=>rw [q]at e;cases e
    | hQ j=>rw [q]at e;cases e
  | _=>cases e
 | own i=>cases e;obtain⟨a,vs,f,_,_,g,b⟩:=z;exact⟨a,vs,f,.inl g,b⟩
 | bor i=>cases e;obtain⟨a,vs,f,_,g,b⟩:=z;exact⟨a,vs,f,g,b⟩
theorem ao.seq (j:ak Y G h H)(z:ao Y G H w v) (e:w.seq? h=y0 xs): ∃a vs,v= .ref a/\(bu Y.K H a vs\/cJ Y.K H a vs)/\af Y G H xs vs:=by
 have b:w.bX h=y0 xs-> ∃a vs,v= .ref a/\(bu Y.K H a vs\/cJ Y.K H a vs)/\af Y G H xs vs:=λe=>by
  obtain⟨a,vs,f,g,c⟩:=z.lst j e
  exact⟨a,vs,f,.inl g,c⟩
 cases w with
 | v d=>
  cases d with
  | tup i=>cases e;obtain⟨a,vs,f,g,c⟩:=z;exact⟨a,vs,f,.inr g.sq,c⟩
  | lst i=>exact b e
  | ref r=>exact b e
  | aj=>cases e
  | bl _=>cases e
  | int _=>cases e
  | str _=>cases e
  | exc _ _=>cases e
  | err _ _ _=>cases e
 | own i=>exact b e
 | bor i=>exact b e
def Fq (I:Inv X y8 U H s)(r:Rd H a (.lst vs)):vs.length<=sizeLine/\ ∃ i n,Vals vs i/\vs.length=i.length/\s.heap.get? a=y0 { cls:= .type "list",data:= .seq i.toArray n }:=by
 obtain⟨z,i,n,r,e⟩:=r.ok I.aN
 exact⟨z,i,n,r,r.length,e⟩
def qo:M.bA<=sizeLine:=by rw [M.Gc];decide
def Eo (K:Aa4):R2:=λx y H Q=> ∃l b xs zs,x= .ref l/\y= .ref b/\bu K H l xs/\bu K H b zs/\xs.length+zs.length<=sizeLine/\ ∀p,H p=u0->Q (.ref p) (aI H p (.lst (xs++zs)))
def Cv:b3 X (binaryOp .Add) (Eo X.K):=by
 intro k s U H x y v u Q I K G h
 obtain⟨l,b,O,M,rfl,rfl,B,z,N,q⟩:=h
 cases K
 cases G
 obtain⟨c,r,F,_⟩:=I.list B
 obtain⟨a,p,E,_⟩:=I.list z
 have L:=r.length
 have P:=p.length
 have J:c.toArray++a.toArray=(c++a).toArray:=by simp
 obtain⟨⟨D,dd,o,sl⟩,t,C,n,A⟩:=id F.isList
 obtain⟨⟨m,g,e,i⟩,d,f,w,j⟩:=id E.isList
 subst C A f j
 refine concat_meets ⟨_,t,rfl⟩ ⟨_,d,rfl⟩ noFill_list_add seq_list_add PySem.F.slot_list_add PySem.F.entry_list_add (PySem.F.args_list_add_2 _ _) (list_addW l b c.toArray a.toArray n w dd g sl i (by simp_all)) ⟨t,d,?_⟩
 rw [J]
 exact⟨.ref _,_,I.kv (r.append p) (by simp_all),rfl,q _ I.fresh⟩
def BY:R2:=λx y H Q=> ∃l k xs,x= .ref l/\y= .int k/\Rd H l (.lst xs)/\ -(2 ^ 63)<=k/\k<2 ^ 63/\xs.length*k.toNat<=sizeLine ∧
 ∀p,H p=u0->Q (.ref p) (aI H p (.lst (Aa1 k.toNat xs).flatten))
def Dt:b3 X (binaryOp .Mult) BY:=by
 intro j s U H x y v u Q I J D h
 obtain⟨l,k,L,rfl,rfl,A,K,C,o,q⟩:=h
 cases J
 obtain⟨t,rfl⟩:=D
 obtain⟨z,b,n,r,w,e⟩:=Fq I A
 have d:b.toArray.size*k.toNat<=sizeLine:=by rw [Ab2,←w];exact o
 have g: ¬b.toArray.size*k.toNat>(2 ^ 63-1) / 8:=by
  have: sizeLine<=(2 ^ 63-1) / 8:=by decide
  lia
 have i: ¬(!Builtin.List.listFitsIndex k)=true:=by
  rw [fitsIndex_both K C]
  exact Ab1
 have c: ¬Builtin.List.listTooLong (b.toArray.size*k.toNat)=true:=by
  rw [BF d]
  exact Ab1
 have f:List.foldl (λG p=>G++p) #[] (Aa1 (if b.toArray.isEmpty=k9 then 0 else k.toNat) b.toArray)=(Aa1 k.toNat b).flatten.toArray:=by
  have E:=λm=>by
   have:=XM b m []
   rw [Ag4]at this
   exact this
  rw [E]
  cases b with
  | nil=>simp
  | cons a M=>rw [if_neg (by simp)]
 refine wpAny_binaryOp_repeat_ref rfl ⟨_,e,rfl⟩ (λB=>typeIs_int B k t) noFill_list_mul F.fills_int_mul F.slot_int_rmul repeat_list F.slot_int_index.lookup
  (call_meets F.slot_int_rmul (typeIs_int s k t) F.entry_int_rmul (F.args_int_rmul_2 _ _) (int___rmul___int_list k t l b.toArray n)
    ⟨e,rfl,⟨_,e,rfl⟩,call_meets F.slot_list_mul ⟨_,e,rfl⟩ F.entry_list_mul (F.args_list_mul_2 _ _) (AutoListH.list___mul___list_int_3 l b.toArray n k t i g c) ⟨e,?_⟩⟩)
 rw [f]
 exact⟨.ref _,_,I.kv (r.rep k.toNat) (by rw [uw,Nat.mul_comm];exact o),rfl,q _ I.fresh⟩
theorem af.rep (z:af Y G H ds vs): ∀k:Nat,af Y G H (Aa1 k ds).flatten (Aa1 k vs).flatten
 | 0=>rfl
 | k+1=>by
  exact z.append (af.rep z k)
noncomputable def kG:M.Op->Operator
 | .add=> .Add | .sub=> .Sub | .mul=> .Mult | .fdiv=> .FloorDiv | .mod=> .Mod | .pow=> .Pow | .shl=> .LShift | .shr=> .RShift | .band=> .BitAnd | .bor=> .BitOr | .bxor=> .BitXor
def DP (Y:Ge) (E:XK) (o:M.Op):R2:=λx y H Q=> ∃G h b a,ak Y G h H/\ao Y G H b x/\ao Y G H a y/\ax Y E G H (M.GC o b a h) Q
def jw (s t):aD s++aD t=aD (s++t):=by
 show Str.mk _=Str.mk _
 simp [aD]
def Wb (s):(aD s).length=s.length:=by
 show s.toArray.size=s.length
 simp
def lh:M.Op->Bool
 | .shl=>y9
 | .shr=>y9
 | .band=>y9
 | .bor=>y9
 | .bxor=>y9
 | _=>k9
def vo (d:lh o=k9)(e:M.Gi o i j=y0 k)(I:Inv X y8 U H s) (b:RelV (.int i) v) (a:RelV (.int j) u) (q:Q (.int k) H):
 wpAny (model X.prog X.w) X.A (binaryOp (kG o) v u) (EP X y8 U Q) X.xe s:=by
 cases o with
 | add=>cases e;exact A4 y8 s U H _ _ v u Q I b a ⟨i,j,rfl,rfl,q⟩
 | sub=>cases e;exact Bc y8 s U H _ _ v u Q I b a ⟨i,j,rfl,rfl,q⟩
 | mul=>
  simp only [M.Gi,M.GR,M.GL]at e
  split at e
  ·rename_i c;cases e;exact Eu y8 s U H _ _ v u Q I b a ⟨i,j,rfl,rfl,c,q⟩
  ·cases e
 | fdiv=>
  simp only [M.Gi,M.GT,M.GL]at e
  split at e
  ·rename_i c;cases e;exact vM y8 s U H _ _ v u Q I b a ⟨i,j,rfl,rfl,c,q⟩
  ·cases e
 | mod=>
  simp only [M.Gi,M.GL]at e
  split at e
  ·rename_i c;cases e;exact ua y8 s U H _ _ v u Q I b a ⟨i,j,rfl,rfl,c,q⟩
  ·cases e
 | pow=>
  simp only [M.Gi,M.Kl,M.GL]at e
  split at e
  ·rename_i c;cases e;exact AE y8 s U H _ _ v u Q I b a ⟨i,j,rfl,rfl,c,q⟩
  ·cases e
 | shl=>cases d
 | shr=>cases d
 | band=>cases d
 | bor=>cases d
 | bxor=>cases d
theorem ao.int (z:ao Y G H w v) (e:w.int? =y0 i):v= .int i:=by
 cases w with
 | v d=>
  cases d with
  | int j=>cases e;exact z
  | _=>cases e
 | _=>cases e
theorem ao.str (z:ao Y G H w v) (e:w.bq =y0 i):v= .str (aD i):=by
 cases w with
 | v d=>
  cases d with
  | str j=>cases e;exact z
  | _=>cases e
 | _=>cases e
theorem ao.tup (z:ao Y G H w v) (e:w.f5 =y0 xs): ∃a vs,v= .ref a/\gA Y G H a vs/\af Y G H xs vs:=by
 cases w with
 | v d=>
  cases d with
  | tup j=>cases e;exact z
  | _=>cases e
 | _=>cases e
def uP (o) (R:lh o=k9) (A:X.K=Y.K):b3 X (binaryOp (kG o)) (DP Y E o):=by
 intro d s U H x y v u Q I t r ⟨G,h,T,V,l,w,C,p⟩
 have S:=qo
 unfold M.GC at p
 split at p
 ·rename_i i j f g
  obtain⟨k,e,p⟩:=p.of
  cases w.int f
  cases C.int g
  exact vo R e I t r (p.v l rfl)
 ·split at p
  · -- add
    unfold M.Kv at p
    split at p
    ·rename_i a b f g
     cases w.str f
     cases C.str g
     split at p
     ·rename_i c
      exact Q7 d s U H _ _ v u Q I t r ⟨_,_,rfl,rfl,by rw [Wb,Wb];lia,by rw [jw];exact p.v l rfl⟩
     ·exact p.elim
    ·split at p
     ·rename_i N O f g
      obtain⟨a,n,rfl,q,m⟩:=w.tup f
      obtain⟨b,J,rfl,F,B⟩:=C.tup g
      split at p
      ·rename_i c
       have L:=m.length
       have P:=B.length
       by_cases ex:n= []
       ·subst ex
        have:N= []:=Ag3 L
        subst this
        exact FG d s U H _ _ v u Q I t r ⟨a,b,J,rfl,rfl,A▸q.sq,A▸F.sq,p.v l ⟨b,J,rfl,F,B⟩⟩
       refine C7 d s U H _ _ v u Q I t r ⟨a,b,n,J,rfl,rfl,A▸q.sq,A▸F.sq,ex,by lia,λe=> ?_,λe D K=>p.tup l (m.append B) D K⟩
       ·subst e
        have:O= []:=Ag3 P
        subst this
        rw [Ad0]at p
        exact p.v l ⟨a,n,rfl,q,m⟩
      ·exact p.elim
     ·split at p
      ·rename_i N O f g
       obtain⟨a,n,rfl,q,m⟩:=w.lst l f
       obtain⟨b,J,rfl,F,B⟩:=C.lst l g
       unfold M.Ky at p
       split at p
       ·have L:=m.length
        have P:=B.length
        exact Cv d s U H _ _ v u Q I t r ⟨a,b,n,J,rfl,rfl,A▸q,A▸F,by lia,λD K=>p.own l (m.append B) D K⟩
       ·exact p.elim
      ·exact p.elim
  · -- mul
    unfold M.Kw at p
    split at p
    ·rename_i z j f g
     cases w.str f
     cases C.int g
     split at p
     ·rename_i c
      rw [M.Gc]at c
      refine BZ d s U H _ _ v u Q I t r ⟨_,j,rfl,rfl,c.1,c.2.1,by rw [Wb];exact c.2.2,?_⟩
      have e:gN (aD z) j.toNat=aD (Aa1 j.toNat z).flatten:=by
       apply sE
       rw [xD]
       rfl
      rw [e]
      exact p.v l rfl
     ·exact p.elim
    split at p
    ·rename_i N j f g
     obtain⟨a,n,rfl,q,m⟩:=w.nO l f
     cases C.int g
     unfold M.Ko at p
     split at p
     ·rename_i c
      have L:=m.length
      exact Dt d s U H _ _ v u Q I t r ⟨a,j,n,rfl,rfl,q,by lia,by lia,by rw [← L];lia,λD K=>p.own l (m.rep j.toNat) D K⟩
     ·exact p.elim
    ·exact p.elim
  ·exact p.elim
noncomputable def eu:M.Cp->CmpOp
 | .eq=> .Eq | .ne=> .NotEq | .lt=> .Lt | .le=> .LtE | .gt=> .Gt | .ge=> .GtE | .mem=> .In | .bz=> .NotIn | .md=> .Is
def hX (Y:Ge) (o:M.Cp):R2:=λx y H Q=> ∃G h c a b,ak Y G h H/\ao Y G H c x/\ao Y G H a y/\M.Gs o c a h=y0 b/\Q (.bl b) H
def XE:M.Cp->Bool
 | .mem=>k9
 | .bz=>k9
 | _=>k9
def uO (e:M.Km o i j=y0 b)(I:Inv X y8 U H s) (c:RelV (.int i) v) (a:RelV (.int j) u) (q:Q (.bl b) H):
 wpAny (model X.prog X.w) X.A (compareOp (eu o) v u) (EP X y8 U Q) X.xe s:=by
 cases o with
 | lt=>cases e;exact CQ y8 s U H _ _ v u Q I c a ⟨i,j,rfl,rfl,q⟩
 | le=>cases e;exact Fb y8 s U H _ _ v u Q I c a ⟨i,j,rfl,rfl,q⟩
 | gt=>cases e;exact FJ y8 s U H _ _ v u Q I c a ⟨i,j,rfl,rfl,q⟩
 | ge=>cases e;exact vq y8 s U H _ _ v u Q I c a ⟨i,j,rfl,rfl,q⟩
 | _=>cases e
def vb (d:X.K=Y.K)(j:aW k X.A):b3 X (compareOp .Eq) (hX Y .eq):=by
 intro a s U H x y v u Q I n m ⟨G,h,o,p,b,f,i,l,e,q⟩
 simp only [M.Gs]at e
 split at e
 ·rename_i c
  cases e
  have g:=by simpa [M.GK]using c
  exact(mG 150 _ _ X.A v u (by lia) (by have:=j.un;lia) (i.rv I d f n g.1.1) (l.rv I d f m g.1.2)).rc _ _ _ _ ⟨.bl _,H,I,rfl,q⟩
 ·cases e
def C1 (d:X.K=Y.K)(j:aW k X.A):b3 X (compareOp .NotEq) (hX Y .ne):=by
 intro a s U H x y v u Q I n m ⟨G,h,o,p,b,f,i,l,e,q⟩
 simp only [M.Gs]at e
 split at e
 ·rename_i c
  cases e
  have g:=by simpa [M.GK]using c
  exact(mG 150 _ _ X.A v u (by lia) (by have:=j.un;lia) (i.rv I d f n g.1.1) (l.rv I d f m g.1.2)).ne _ _ _ _ ⟨.bl _,H,I,rfl,q⟩
 ·cases e
end
def PE.imp (h:PE X e t) (k: ∀U H Q,t' U H Q->t U H Q):PE X e t':=λa s U H Q I q=>h a s U H Q I (k _ _ _ q)
def PT.imp (h:PT X e t) (k: ∀U H Q,t' U H Q->t U H Q):PT X e t':=λa s U H Q I q=>h a s U H Q I (k _ _ _ q)
def PA.imp (h:PA X e t) (k: ∀U H Q,t' U H Q->t U H Q):PA X e t':=λb a s U H Q I q=>h b a s U H Q I (k _ _ _ q)
section
variable {X:Cx}{Y:Ge}{G:Gh}{H:Hp}{h:M.AH}{y8:List (Addr×Obj)}{U:St}{s:Shared}{Q:VK}{E:XK}
def a8.one (z:a8 Y G H [w] vs): ∃v,vs= [v]/\ao Y G H w v:=by
 obtain⟨v,r,rfl,a,b⟩:=z
 cases (show r= []from b)
 exact⟨v,rfl,a⟩
def a8.two (z:a8 Y G H [w,w'] vs): ∃v i,vs= [v,i]/\ao Y G H w v/\ao Y G H w' i:=by
 obtain⟨v,r,rfl,b,c⟩:=z
 obtain⟨i,rfl,a⟩:=c.one
 exact⟨v,i,rfl,b,a⟩
def nv (Y:Ge) (E:XK) (b:M.Bi):List V->Hp->VK->Prop:=λxs H Q=> ∃G h a,ak Y G h H/\a8 Y G H a xs/\ax Y E G H (M.c5 b a h) Q
def mY {K:Aa4}(h:bu K H a vs\/cJ K H a vs):bu K H a vs\/cJ K H a vs:=h
noncomputable def lx:M.Bi->Bool
 | .len=>k9 | .int=>k9 | .tuple=>k9 | .min=>k9 | .max=>k9 | .sum=>k9 | .all=>k9 | .sorted=>k9
 | _=>y9
noncomputable def oN:M.Bi->Value
 | .len=> .builtin "len" | .int=> .type "int" | .list=> .type "list" | .tuple=> .type "tuple" | .sum=> .builtin "sum" | .all=> .builtin "all" | .any=> .builtin "any"
 | .sorted=> .builtin "sorted" | .divmod=> .builtin "divmod" | .str=> .type "str" | .min=> .builtin "min" | .max=> .builtin "max" | .abs=> .builtin "abs"
def ax.of2 {f:α->β->M.AH->M.R M.W}(p:ax Y E G H ((M.R.of h o).bind λa h=>(M.R.of h o').bind λb h=>f a b h) Q): ∃a b,o=y0 a/\o'=y0 b/\ax Y E G H (f a b h) Q:=by
 obtain⟨a,e,p⟩:=p.of
 obtain⟨b,c,p⟩:=p.of
 exact⟨a,b,e,c,p⟩
theorem oF : ∀ {xs}{vs}{bs},M.G9 xs=y0 bs->af Y G H xs vs->vs=bs.map V.bl
 | [],_,_,e,z=>by cases e;exact z
 | x::xs,_,bs,e,⟨v,r,d,f,a⟩=>by
  subst d
  cases x with
  | bl b=>
   obtain⟨g,c,rfl⟩:=Ae3.mp (e)
   cases (f)
   rw [oF c a];rfl
  | _=>cases e
theorem pV : ∀ {xs}{vs}{n},M.Kk xs=y0 n->af Y G H xs vs-> ∃j:List Int,vs=j.map V.int/\n=fk j
 | [],_,_,e,z=>by cases e;exact⟨[],z,rfl⟩
 | x::xs,_,n,e,⟨v,r,b,c,d⟩=>by
  subst b
  cases x with
  | int i=>
   have e:=e
   obtain⟨k,a,rfl⟩:=Ae3.mp e
   obtain⟨j,g,f⟩:=pV a d
   cases (c)
   exact⟨i::j,by rw [g];rfl,by rw [f];rfl⟩
  | _=>cases e
theorem jz : ∀ {xs}{vs}{i},M.Kc xs=y0 i->af Y G H xs vs->vs=i.map V.int
 | [],_,_,e,z=>by cases e;exact z
 | x::xs,_,i,e,⟨v,r,d,f,a⟩=>by
  subst d
  cases x with
  | int b=>
   obtain⟨g,c,rfl⟩:=Ae3.mp (e)
   cases (f)
   rw [jz c a];rfl
  | _=>cases e
theorem wL : ∀ {xs}{vs}{i},M.GQ xs=y0 i->af Y G H xs vs->vs=(i.map aD).map V.str
 | [],_,_,e,z=>by cases e;exact z
 | x::xs,_,i,e,⟨v,r,d,f,a⟩=>by
  subst d
  cases x with
  | str b=>
   obtain⟨g,c,rfl⟩:=Ae3.mp (e)
   cases (show v= .str (aD b)from f)
   rw [wL c a];rfl
  | _=>cases e
theorem qZ : ∀(ts:List M.Tx),af Y G H (ts.map .str) ((ts.map aD).map V.str)
 | []=>rfl
 | t::ts=>⟨_,_,rfl,rfl,qZ ts⟩
theorem oy (x): ∀ {ys},ys.Pairwise (λa b=> ¬b<a)->(M.GV x ys).Pairwise (λa b=> ¬b<a)
 | [],_=>List.pairwise_singleton _ _
 | y::ys,h=>by
  have e:=Ah5.mp h
  unfold M.GV
  split
  ·rename_i q
   refine Ah5.mpr ⟨λz d=> ?_,oy x e.2⟩
   have:z=x\/z∈ys:=by
    have g: ∀ {x}{ys},z∈M.GV x ys->z=x\/z∈ys:=by
     intro x ys
     induction ys with
     | nil=>intro h;simp [M.GV]at h;exact .inl h
     | cons y ys f=>
      intro h
      unfold M.GV at h
      split at h
      ·rcases Aa5.mp h with h | h
       ·exact .inr (h▸Aa)
       ·exact(f h).imp id (Aa0 _)
      ·rcases Aa5.mp h with h | h
       ·exact .inl h
       ·exact .inr h
    exact g d
   rcases this with rfl | d
   ·exact λc=>List.lt_irrefl _ (List.lt_trans c q)
   ·exact e.1 z d
  ·rename_i q
   refine Ah5.mpr ⟨λz d=> ?_,h⟩
   rcases Aa5.mp d with rfl | d
   ·exact q
   ·exact List.le_trans q (e.1 z d)
theorem oo: ∀xs:List M.Tx,(M.GA xs).Pairwise (λa b=> ¬b<a)
 | []=> .nil
 | x::xs=>oy x (oo xs)
theorem Xp (x): ∀ys:List M.Tx,(M.GV x ys).Perm (x::ys)
 | []=> .refl _
 | y::ys=>by
  unfold M.GV
  by_cases q:y<x
  ·rw [if_pos q]
   exact((Xp x ys).cons y).trans (.swap x y ys)
  ·rw [if_neg q]
theorem Zg: ∀xs:List M.Tx,(M.GA xs).Perm xs
 | []=> .refl _
 | x::xs=>(Xp x (M.GA xs)).trans ((Zg xs).cons x)
theorem sW: ∀ {l}{p},risingS p l=k9->(p::l).Pairwise (λa b=> ¬b.cps.toList<a.cps.toList)
 | [],p,_=>List.pairwise_singleton _ _
 | x::r,p,h=>by
  have h:(!ltCps x.cps.toList p.cps.toList&&risingS x r)=true:=h
  rw [Aa9,ltCps_eq]at h
  have e:=by simpa using h.1
  have d:=sW h.2
  refine Ah5.mpr ⟨λz c=> ?_,d⟩
  rcases Aa5.mp c with rfl | c
  ·exact e
  ·exact List.le_trans e ((Ah5.mp d).1 z c)
def yo (s):aD s.cps.toList=s:=by cases s;simp [aD]
def As (f:ss.Perm (ts.map aD)) (c:sortedS ss=k9):ss=(M.GA ts).map aD:=by
 have h:=by
  have:=f.map (λs=>s.cps.toList)
  rw [Ag5]at this
  have e:((λs:Str=>s.cps.toList)∘aD)=id:=by funext t;simp [aD]
  rw [e,List.map_id]at this
  exact this
 have g:(ss.map λs=>s.cps.toList).Pairwise (λa b=> ¬b<a):=by
  rw [Al5]
  cases ss with
  | nil=>exact .nil
  | cons p l=>exact sW c
 have d:=List.Perm.eq_of_pairwise (λa b _ _ x y=>List.le_antisymm x y) g (oo ts) (h.trans (Zg ts).symm)
 rw [← d,Ag5]
 have e:(aD∘λs:Str=>s.cps.toList)=id:=by funext t;exact yo t
 rw [e,List.map_id]
def vt (i): ∀n:Int,Qw (λa b=>u9 (a>b)) i n=i.foldl (λa b=>if b>a then b else a) n:=by
 induction i with
 | nil=>intro n;rfl
 | cons m i c=>
  intro n
  show Qw _ i _=_
  rw [c,Ae1]
  simp only [decide_eq_true_eq]
def BH (i): ∀n:Int,Qw (λa b=>u9 (a<b)) i n=i.foldl (λa b=>if b<a then b else a) n:=by
 induction i with
 | nil=>intro n;rfl
 | cons m i c=>
  intro n
  show Qw _ i _=_
  rw [c,Ae1]
  simp [decide_eq_true_eq]
def vn (b) (B:lx b=k9) (A:X.K=Y.K) (D:X.calm=k9):xo X (oN b) (nv Y E b):=by
 intro c s U H xs t Q I r ⟨G,h,ws,f,K,p⟩
 have hL:=qo
 unfold M.c5 at p
 split at p
 ·rename_i w
  obtain⟨v,rfl,z⟩:=K.one
  cases b with
  | len=>
   simp only [M.ml]at p
   split at p
   ·rename_i y e
    cases z.str e
    split at p
    ·exact qR c s U H _ t Q I r ⟨_,rfl,by rw [Wb];lia,by rw [Wb];exact p.v f rfl⟩
    ·exact p.elim
   ·obtain⟨F,e,p⟩:=p.of
    obtain⟨a,o,rfl,g,m⟩:=z.seq f e
    refine wN c s U H _ t Q I r ⟨a,o,rfl,A▸mY g,?_⟩
    rw [← m.length]
    exact p.v f rfl
  | int=>
   simp [M.ml]at p
   split at p
   ·cases (z)
    exact qO c s U H _ t Q I r (.inl ⟨_,rfl,p.v f rfl⟩)
   ·rename_i k
    cases (z)
    refine qO c s U H _ t Q I r (.inr ⟨_,rfl,?_⟩)
    have:=p.v f rfl
    cases k<;>exact this
   ·exact p.elim
  | list=>cases B
  | tuple=>
   obtain⟨F,e,J⟩:=p.of
   clear p
   cases w with
   | v d=>
    cases d with
    | tup L=>
     cases e
     obtain⟨a,o,rfl,g,m⟩:=z
     exact zh c s U H _ t Q I r ⟨a,o,rfl,.inr ⟨A▸g.sq,J.v f ⟨a,o,rfl,g,m⟩⟩⟩
    | lst L=>
     obtain⟨a,o,rfl,g,m⟩:=ao.lst f z e
     exact zh c s U H _ t Q I r ⟨a,o,rfl,.inl ⟨A▸g,λl x=>J.tup f m l x⟩⟩
    | ref q=>
     obtain⟨a,o,rfl,g,m⟩:=ao.lst f z e
     exact zh c s U H _ t Q I r ⟨a,o,rfl,.inl ⟨A▸g,λl x=>J.tup f m l x⟩⟩
    | aj=>cases e
    | bl _=>cases e
    | int _=>cases e
    | str _=>cases e
    | exc _ _=>cases e
    | err _ _ _=>cases e
   | own L=>
    obtain⟨a,o,rfl,g,m⟩:=ao.lst f z e
    exact zh c s U H _ t Q I r ⟨a,o,rfl,.inl ⟨A▸g,λl x=>J.tup f m l x⟩⟩
   | bor L=>
    obtain⟨a,o,rfl,g,m⟩:=ao.lst f z e
    exact zh c s U H _ t Q I r ⟨a,o,rfl,.inl ⟨A▸g,λl x=>J.tup f m l x⟩⟩
  | divmod=>cases B
  | min=>
   obtain⟨n,e,p⟩:=p.of
   obtain⟨is,C,u⟩:=Ac6.mp e
   obtain⟨F,N,O⟩:=Ac6.mp C
   obtain⟨a,o,rfl,g,m⟩:=ao.lst f z N
   cases jz O m
   cases is with
   | nil=>cases u
   | cons i is=>
    cases u
    refine FI D c s U H _ t Q I r ⟨a,i,is,rfl,A▸g,?_⟩
    rw [BH]
    exact p.v f rfl
  | max=>
   obtain⟨n,e,p⟩:=p.of
   obtain⟨is,C,u⟩:=Ac6.mp e
   obtain⟨F,N,O⟩:=Ac6.mp C
   obtain⟨a,o,rfl,g,m⟩:=ao.lst f z N
   cases jz O m
   cases is with
   | nil=>cases u
   | cons i is=>
    cases u
    refine Ba D c s U H _ t Q I r ⟨a,i,is,rfl,A▸g,?_⟩
    rw [vt]
    exact p.v f rfl
  | sum=>
   obtain⟨n,e,p⟩:=p.of
   obtain⟨F,C,u⟩:=Ac6.mp e
   split at u
   rotate_left
   ·cases u
   obtain⟨a,o,rfl,g,m⟩:=ao.lst f z C
   obtain⟨P,rfl,rfl⟩:=pV u m
   exact DX D c s U H _ t Q I r ⟨a,P,rfl,A▸g,p.v f rfl⟩
  | all=>
   obtain⟨bs,e,p⟩:=p.of
   obtain⟨F,C,u⟩:=Ac6.mp e
   obtain⟨a,o,rfl,g,m⟩:=ao.lst f z C
   cases oF u m
   exact vQ D c s U H _ t Q I r ⟨a,bs,rfl,A▸g,p.v f rfl⟩
  | any=>cases B
  | sorted=>
   obtain⟨Z,e,p⟩:=p.of
   obtain⟨F,C,u⟩:=Ac6.mp e
   obtain⟨a,o,rfl,g,m⟩:=ao.lst f z C
   cases wL u m
   split at p
   ·rename_i x
    refine JM c s U H _ t Q I r ⟨a,Z.map aD,rfl,A▸g,by rw [Ac];exact x,λW V T l x=> ?_⟩
    rw [As V T]
    exact p.own f (qZ _) l x
   ·exact p.elim
  | str=>cases B
  | abs=>cases B
 ·rename_i w w'
  obtain⟨v,v',rfl,z,S⟩:=K.two
  obtain⟨i,j,e,R,p⟩:=p.of2
  cases z.int e
  cases S.int R
  cases b with
  | divmod=>cases B
  | min=>exact ue D c s U H _ t Q I r ⟨i,j,rfl,p.v f rfl⟩
  | max=>exact C5 D c s U H _ t Q I r ⟨i,j,rfl,p.v f rfl⟩
  | len=>exact p.elim
  | int=>exact p.elim
  | list=>cases B
  | tuple=>exact p.elim
  | sum=>exact p.elim
  | all=>exact p.elim
  | any=>cases B
  | sorted=>exact p.elim
  | str=>cases B
  | abs=>cases B
 ·exact p.elim
noncomputable def eM:M.Ty->String
 | .aj=> "NoneType" | .bool=> "bool" | .int=> "int" | .str=> "str" | .list=> "list" | .tuple=> "tuple"
def ju (K): ∀ u t,t≠ .aj->Ak5 K (.type (eM u)) (.type (eM t))=y0 (M.Ty.le u t):=by
 intro u t a
 cases u<;>cases t<;>first | exact absurd rfl a | kernel_rfl
def Cg (Y:Ge):List V->Hp->VK->Prop:=λxs H Q=> ∃G h w x t b,xs= [x,.ty (eM t)]/\t≠ .aj/\ak Y G h H/\ao Y G H w x/\M.dj t w=y0 b/\Q (.bl b) H
def Bm (D:X.K=Y.K):xo X (.builtin "isinstance") (Cg Y):=by
 intro k s U H S P Q I r ⟨G,h,w,x,t,b,K,g,R,z,e,q⟩
 subst K
 obtain⟨u,O,rfl,j,L⟩:=Z9 r
 cases L
 have fin: ∀tk,EP X k U Q _ { s with toks:=tk }:=λtk=>⟨.bl b,H,I.tok tk,rfl,q⟩
 have lst: ∀ {a}{m},x= .ref a->Rd H a (.lst m)->M.Ty.le .list t=b->wpAny (model X.prog X.w) X.A (call (.builtin "isinstance") [u,.type (eM t)]) (EP X k U Q) X.xe s:=by
  intro a m ex rd J
  subst ex J
  obtain rd | ⟨o,rd⟩:=rd
  ·exact wk I j (.lst rd) (ju _ .list t g) fin
  ·exact wk I j (.dU rd) (ju _ .list t g) fin
 cases w with
 | v d=>
  cases d with
  | aj=>cases e;cases (z);exact wk I j .aj (ju _ .aj t g) fin
  | bl c=>cases e;cases (z);exact wk I j (.bl c) (ju _ .bool t g) fin
  | int i=>cases e;cases (z);exact wk I j (.int i) (ju _ .int t g) fin
  | str y=>cases e;cases (z);exact wk I j (.str _) (ju _ .str t g) fin
  | tup p=>
   cases e
   obtain⟨a,m,rfl,f,E⟩:=z
   obtain⟨_,f⟩ | ⟨o,B,n,C,A,F,_⟩:=f
   ·exact wk I j (.tup f) (ju _ .tuple t g) fin
   ·cases j
    exact Ad4 PySem.W.kitx_tuple I.bO ⟨o,I.bO a o (D▸C),A⟩ (ju _ .tuple t g) (λz=>nomatch z) fin
  | lst p=>
   cases e
   obtain⟨a,m,l,f,E⟩:=z
   obtain f | ⟨o,B,n,C,A,F,_⟩:=f
   ·exact lst l f.2 rfl
   ·subst l
    cases j
    exact Ad4 Al2 I.bO ⟨o,I.bO a o (D▸C),A⟩ (ju _ .list t g) (λz=>nomatch z) fin
  | ref N=>cases e
  | exc c fs=>cases e
  | err _ _ _=>cases e
 | own p=>cases e;obtain⟨a,m,l,_,_,f,_⟩:=z;exact lst l (.inl f) rfl
 | bor p=>cases e;obtain⟨a,m,l,_,f,_⟩:=z;exact lst l f rfl
def JX (l:X.K=Y.K) (o:ak Y G h H)(z:ao Y G H w x) (e:M.GU h w=y0 b):hY X.K x H b:=by
 have lst: ∀ {a}{f}{g},x= .ref a->bu X.K H a f->af Y G H g f->(!g.isEmpty)=b->hY X.K x H b:=by
  intro a f g ex rd rs m
  subst ex m
  refine .inl ⟨f,rd,?_⟩
  cases g with
  | nil=>cases (show f= []from rs);rfl
  | cons _ _=>obtain⟨_,_,rfl,_⟩:=rs;rfl
 cases w with
 | v d=>
  cases d with
  | aj=>cases e;cases (z);exact rfl
  | bl _=>cases e;cases (z);exact rfl
  | int _=>cases e;cases (z);exact rfl
  | str y=>
   cases (z)
   have e:(if y.length<=M.bA then y0 (!y.isEmpty)else u0)=y0 b:=e
   split at e
   ·rename_i c
    cases e
    refine⟨by rw [Wb];have:=qo;lia,?_⟩
    rw [Wb]
    cases y with
    | nil=>rfl
    | cons a r=>
     have:((((a::r).length:Nat):Int) != 0)=true:=by
      rw [Aa2,bne_iff_ne];lia
     rw [this];rfl
   ·cases e
  | tup g=>
   cases e
   obtain⟨a,f,rfl,i,rs⟩:=z
   refine .inr (.inl ⟨f,l▸i.sq,?_⟩)
   cases g with
   | nil=>cases (show f= []from rs);rfl
   | cons _ _=>obtain⟨_,_,rfl,_⟩:=rs;rfl
  | lst g=>cases e;obtain⟨a,f,j,i,k⟩:=z;exact lst j (l▸i.sq) k rfl
  | ref n=>cases e
  | exc c fs=>cases e
  | err _ _ _=>cases e
 | own g=>cases e;obtain⟨a,f,j,_,_,i,k⟩:=z;exact lst j (bu.of i) k rfl
 | bor g=>cases e;obtain⟨a,f,j,_,i,k⟩:=z;exact lst j (.inl i) k rfl
end
abbrev Xd (x:String):Str:=Str.ofString x
example:("len" :Str)=Xd "len" :=rfl
structure fb where
 fl:List (String×String)
 mt:List (String×String×String)
 ea:List (String×String)
 ms:List String
 er:List (String×String)
structure Cf where
 sc:Scope
 N:List Str
 fns:List String
 own:List String
 c3:List String
 cG:List String
 ob:fb
noncomputable def zS (a:Scope) (x:Str):Bool:=match a.names.lookup x with
 | some .local=>k9
 | some .cell=>k9
 | some .free=>k9
 | _=>y9
def ia (a:Scope) (x:Str):Bool:=match a.names.lookup x with
 | some .globalImplicit=>k9
 | _=>y9
def hV (a:Scope) (x:Str):Bool:=match a.names.lookup x with
 | some .local=>k9
 | some .cell=>k9
 | _=>y9
def cQ (x:Str):Bool:= !(x==("__debug__" :Str))&& !(x==("__classdict__" :Str))
noncomputable def ly:M.Bi->String
 | .len=> "len" | .int=> "int" | .list=> "list" | .tuple=> "tuple" | .sum=> "sum" | .all=> "all" | .any=> "any" | .sorted=> "sorted" | .divmod=> "divmod" | .str=> "str" | .min=> "min" | .max=> "max" | .abs=> "abs"
noncomputable def cj:List String:= ["len", "int", "list", "tuple", "sum", "all", "any", "sorted", "divmod", "str", "min", "max", "abs", "isinstance", "bool", "range", "reversed", "zip", "enumerate", "set", "ValueError"]
def mM:Expr->Str->Bool
 | .Name y _,x=>y==x
 | _,_=>y9
def bG (a:Scope) (x:String) (e:Expr):Bool:=mM e (Xd x)&&ia a (Xd x)&&cQ (Xd x)
def tM:M.Mt->String
 | .join=> "join" | .starts=> "startswith"
def tK:M.Mt->Bool
 | .join=>k9 | .starts=>k9
def mD:Expr->Bool
 | .Call _ [] _ _=>y9
 | _=>k9
noncomputable def JA (cf:Cf):List String->List Expr->Bool
 | [],[]=>k9
 | t::a,e::es=>bG cf.sc t e&&cf.own.contains t&&JA cf a es
 | _,_=>y9
def lD:Expr->Bool
 | .UnaryOp .USub (.Constant (.int 1) _ _) _=>k9
 | _=>y9
noncomputable def Jq (cf:Cf):List Nat->List Expr->Bool
 | [],[]=>k9
 | i::is,.Name x _::es=>u9 (cf.N[i]? =y0 x)&&hV cf.sc x&&Jq cf is es
 | _,_=>y9
def Xf (cf:Cf) (tg:List Nat) (one:Bool) (e:Expr):Bool:=match one,e with
 | true,.Name x p=>(match tg with | [_]=>k9 | _=>y9)&&Jq cf tg [.Name x p]
 | false,.Tuple es _ _=>Jq cf tg es
 | _,_=>y9
def Qa:Expr->Bool
 | .Starred .. =>y9
 | _=>k9
def we:Expr->Bool
 | .Slice .. =>y9
 | _=>k9
def Zh:Expr->Bool
 | .Set .. =>y9
 | _=>k9
noncomputable def WA (cf:Cf):List Nat->List Str->Bool
 | [],[]=>k9
 | j::a,x::xs=>u9 (cf.N[j]? =y0 x)&&u9 (cf.sc.names.lookup x=y0 .cell\/cf.sc.names.lookup x=y0 .free)&&WA cf a xs
 | _,_=>y9
def wT (cf:Cf) (a:Scope) (N:List Str) (k:Nat) (aE:List Nat):Bool:=
 u9 (a.kind= .function)&&u9 (a.names.map Prod.fst).Nodup&&a.names.all (λy=>u9 (y.2= .local->a.names.lookup y.1=y0 .local))&&
 a.names.all (λy=>u9 (y.2= .free->cf.sc.names.lookup y.1=y0 .cell\/cf.sc.names.lookup y.1=y0 .free))&&(N.drop k).all (λx=>u9 (a.names.lookup x=y0 .free))&&
 WA cf aE (N.drop k)&&u9 (k<=N.length)&&decide N.Nodup&&decide aE.Nodup
def vA:Expr->List Str
 | .Name x _=> [x]
 | .Tuple es _ _=>es.filterMap λ| .Name x _=>y0 x | _=>u0
 | _=> []
def zu (cf:Cf) (t:Expr) (aE:List Nat):List Str:=vA t++aE.filterMap λj=>cf.N[j]?
def eO:M.E->Bool
 | .share _=>y9
 | .not a=>eO a
 | .and a b=>eO a&&eO b
 | .or a b=>eO a&&eO b
 | _=>k9
def b0 {P:Prop}(h:y9=k9):P:=nomatch h
set_option backward.match.sparseCases false
def lC {a:Type}(l:List a) (f:a->List a->Bool):Bool:=match l with
 | x::r=>f x r
 | _=>y9
def oS {a:Type}(l:Option a) (f:a->Bool):Bool:=match l with
 | some x=>f x
 | _=>y9
@[elab_as_elim] theorem kC {P:List α->Prop}(k: ∀x r,f x r=k9->P (x::r)): ∀l,lC l f=k9->P l:=by rintro (_|_)<;>first | exact b0 | exact k _ _
@[elab_as_elim] theorem kS {P:Option α->Prop}(k: ∀x,f x=k9->P (y0 x)): ∀l,oS l f=k9->P l:=by rintro (_|_)<;>first | exact b0 | exact k _
def Xq (e:Expr) (f:Str->Bool):Bool:=match e with
 | .Name x _=>f x
 | _=>y9
@[elab_as_elim] theorem Qq {P:Expr->Prop}(k: ∀x p,f x=k9->P (.Name x p)): ∀e,Xq e f=k9->P e:=by rintro (_|_)<;>first | exact b0 | exact k _ _
def Zt (e:Expr) (f:Const->Bool):Bool:=match e with
 | .Constant x _ _=>f x
 | _=>y9
@[elab_as_elim] theorem wt {P:Expr->Prop}(k: ∀x n p,f x=k9->P (.Constant x n p)): ∀e,Zt e f=k9->P e:=by rintro (_|_)<;>first | exact b0 | exact k _ _ _
def lz (e:Expr) (f:List Expr->Bool):Bool:=match e with
 | .Tuple x _ _=>f x
 | _=>y9
@[elab_as_elim] theorem mU {P:Expr->Prop}(k: ∀x n p,f x=k9->P (.Tuple x n p)): ∀e,lz e f=k9->P e:=by rintro (_|_)<;>first | exact b0 | exact k _ _ _
def tH (e:Expr) (f:List Expr->Bool):Bool:=match e with
 | .List x _=>f x
 | _=>y9
@[elab_as_elim] theorem yE {P:Expr->Prop}(k: ∀x p,f x=k9->P (.List x p)): ∀e,tH e f=k9->P e:=by rintro (_|_)<;>first | exact b0 | exact k _ _
def oU (e:Expr) (f:Expr->Operator->Expr->Bool):Bool:=match e with
 | .BinOp x o y _=>f x o y
 | _=>y9
@[elab_as_elim] theorem yW {P:Expr->Prop}(k: ∀x o y p,f x o y=k9->P (.BinOp x o y p)): ∀e,oU e f=k9->P e:=by rintro (_|_)<;>first | exact b0 | exact k _ _ _ _
def kX (e:Expr) (f:Expr->List CmpOp->List Expr->Bool):Bool:=match e with
 | .Compare x o y _=>f x o y
 | _=>y9
@[elab_as_elim] theorem mC {P:Expr->Prop}(k: ∀x o y p,f x o y=k9->P (.Compare x o y p)): ∀e,kX e f=k9->P e:=by rintro (_|_)<;>first | exact b0 | exact k _ _ _ _
def nE (e:Expr) (f:UnaryOp->Expr->Bool):Bool:=match e with
 | .UnaryOp o x _=>f o x
 | _=>y9
@[elab_as_elim] theorem oj {P:Expr->Prop}(k: ∀o x p,f o x=k9->P (.UnaryOp o x p)): ∀e,nE e f=k9->P e:=by rintro (_|_)<;>first | exact b0 | exact k _ _ _
def lY (e:Expr) (f:BoolOp->List Expr->Pos->Bool):Bool:=match e with
 | .BoolOp o x p=>f o x p
 | _=>y9
@[elab_as_elim] theorem oq {P:Expr->Prop}(k: ∀o x p,f o x p=k9->P (.BoolOp o x p)): ∀e,lY e f=k9->P e:=by rintro (_|_)<;>first | exact b0 | exact k _ _ _
def Jo (e:Expr) (f:Expr->List Expr->List Keyword->Pos->Bool):Bool:=match e with
 | .Call g x l p=>f g x l p
 | _=>y9
@[elab_as_elim] theorem wm {P:Expr->Prop}(k: ∀g x l p,f g x l p=k9->P (.Call g x l p)): ∀e,Jo e f=k9->P e:=by rintro (_|_)<;>first | exact b0 | exact k _ _ _ _
def eX (e:Expr) (f:Expr->Expr->Bool):Bool:=match e with
 | .Subscript x y _=>f x y
 | _=>y9
@[elab_as_elim] theorem fq {P:Expr->Prop}(k: ∀x y p,f x y=k9->P (.Subscript x y p)): ∀e,eX e f=k9->P e:=by rintro (_|_)<;>first | exact b0 | exact k _ _ _
def kh (e:Expr) (f:Option Expr->Option Expr->Option Expr->Bool):Bool:=match e with
 | .Slice x y z _=>f x y z
 | _=>y9
@[elab_as_elim] theorem lr {P:Expr->Prop}(k: ∀x y z p,f x y z=k9->P (.Slice x y z p)): ∀e,kh e f=k9->P e:=by rintro (_|_)<;>first | exact b0 | exact k _ _ _ _
def r9 (e:Expr) (f:Expr->List Comprehension->Scope->Bool):Bool:=match e with
 | .ListComp y g s _=>f y g s
 | _=>y9
@[elab_as_elim] theorem rT {P:Expr->Prop}(k: ∀y g s p,f y g s=k9->P (.ListComp y g s p)): ∀e,r9 e f=k9->P e:=by rintro (_|_)<;>first | exact b0 | exact k _ _ _ _
def WO (e:Expr) (f:Expr->Str->Pos->Bool):Bool:=match e with
 | .Attribute x n p=>f x n p
 | _=>y9
@[elab_as_elim] theorem WV {P:Expr->Prop}(k: ∀x n p,f x n p=k9->P (.Attribute x n p)): ∀e,WO e f=k9->P e:=by rintro (_|_)<;>first | exact b0 | exact k _ _ _
def ng (e:Expr) (f:List (Option Expr)->List Expr->Bool):Bool:=match e with
 | .Dict x y _=>f x y
 | _=>y9
@[elab_as_elim] theorem sU {P:Expr->Prop}(k: ∀x y p,f x y=k9->P (.Dict x y p)): ∀e,ng e f=k9->P e:=by rintro (_|_)<;>first | exact b0 | exact k _ _ _
def fh (e:Stmt) (f:List Expr->Expr->Bool):Bool:=match e with
 | .Assign t v _=>f t v
 | _=>y9
@[elab_as_elim] theorem fV {P:Stmt->Prop}(k: ∀t v p,f t v=k9->P (.Assign t v p)): ∀e,fh e f=k9->P e:=by rintro (_|_)<;>first | exact b0 | exact k _ _ _
def nW (e:Stmt) (f:Expr->Bool):Bool:=match e with
 | .Expr v _=>f v
 | _=>y9
@[elab_as_elim] theorem n9 {P:Stmt->Prop}(k: ∀v p,f v=k9->P (.Expr v p)): ∀e,nW e f=k9->P e:=by rintro (_|_)<;>first | exact b0 | exact k _ _
def o9 (e:Stmt) (f:Option Expr->Bool):Bool:=match e with
 | .Return v _=>f v
 | _=>y9
@[elab_as_elim] theorem Ft {P:Stmt->Prop}(k: ∀v p,f v=k9->P (.Return v p)): ∀e,o9 e f=k9->P e:=by rintro (_|_)<;>first | exact b0 | exact k _ _
def ri (e:Stmt) (f:Expr->List Stmt->List Stmt->Bool):Bool:=match e with
 | .If x y z _=>f x y z
 | _=>y9
@[elab_as_elim] theorem ug {P:Stmt->Prop}(k: ∀x y z p,f x y z=k9->P (.If x y z p)): ∀e,ri e f=k9->P e:=by rintro (_|_)<;>first | exact b0 | exact k _ _ _ _
def oT (e:Stmt) (f:Expr->List Stmt->List Stmt->Bool):Bool:=match e with
 | .While x y z _=>f x y z
 | _=>y9
@[elab_as_elim] theorem A3 {P:Stmt->Prop}(k: ∀x y z p,f x y z=k9->P (.While x y z p)): ∀e,oT e f=k9->P e:=by rintro (_|_)<;>first | exact b0 | exact k _ _ _ _
def sA (e:Stmt) (f:Expr->Expr->List Stmt->List Stmt->Bool):Bool:=match e with
 | .For t i y z _=>f t i y z
 | _=>y9
@[elab_as_elim] theorem DL {P:Stmt->Prop}(k: ∀t i y z p,f t i y z=k9->P (.For t i y z p)): ∀e,sA e f=k9->P e:=by rintro (_|_)<;>first | exact b0 | exact k _ _ _ _ _
def sY (e:Stmt) (f:Option Expr->Option Expr->Bool):Bool:=match e with
 | .Raise x y _=>f x y
 | _=>y9
@[elab_as_elim] theorem E7 {P:Stmt->Prop}(k: ∀x y p,f x y=k9->P (.Raise x y p)): ∀e,sY e f=k9->P e:=by rintro (_|_)<;>first | exact b0 | exact k _ _ _
set_option backward.match.sparseCases true
def vB (cf:Cf) (i:Nat) (x:Str):Bool:=u9 (cf.N[i]? =y0 x)&&zS cf.sc x&&cQ x
def kZ {a:Type}(l:List a) (b:Bool):Bool:=l.isEmpty&&b
noncomputable def sd (e:Stmt) (f:List Stmt->List ExceptHandler->Bool):Bool:=match e with
 | .Try a b c d _=>kZ c (kZ d (f a b))
 | _=>y9
noncomputable def rq (e:ExceptHandler) (f:Option Expr->Option Str->List Stmt->Bool):Bool:=match e with
 | .ExceptHandler a b c _=>f a b c
noncomputable def jF:List (M.Tx×M.Tx)->List (Option Expr)->List Expr->Bool
 | [],l,r=>l.isEmpty&&r.isEmpty
 | (x,y)::T,l,r=>lC l λe ks=>lC r λa b=>oS e λe=>Zt e λc=>Zt a λd=>u9 (c= .str (aD x))&&u9 (d= .str (aD y))&&jF T ks b
mutual
noncomputable def jd (cf:Cf):M.E->Expr->Bool
 | .var i,e=>Xq e (vB cf i)
 | .con c,e=>bG cf.sc c e
 | .int i,e=>Zt e λj=>u9 (j= .int i)
 | .bl i,e=>Zt e λj=>u9 (j= .bool i)
 | .aj,e=>Zt e λj=>u9 (j= .none)
 | .str i,e=>Zt e λj=>u9 (j= .str (aD i))
 | .tup es,e=>lz e λxs=>u9 (xs.length<=1000)&&bt cf es xs
 | .lst es,e=>tH e λxs=>u9 (xs.length<=1000)&&bt cf es xs
 | .bin o a b,e=>oU e λx p y=>u9 (p=kG o)&&lh o&&jd cf a x&&jd cf b y
 | .cmp o a b,e=>kX e λx p y=>lC y λy r=>u9 (p= [eu o]/\r= [])&&XE o&&Zh y&&jd cf a x&&jd cf b y
 | .chain o q a b c,e=>kX e λx p y=>lC y λy r=>lC r λz r=>u9 (p= [eu o,eu q]/\r= [])&&XE o&&XE q&&Zh z&&jd cf a x&&jd cf b y&&jd cf c z
 | .b9 neg a,e=>kX e λx p y=>lC y λy r=>Zt y λj=>u9 (p= [if neg then .IsNot else .Is]/\r= [])&&u9 (j= .none)&&jd cf a x
 | .neg a,e=>nE e λo x=>u9 (o= .USub)&&jd cf a x
 | .not a,e=>nE e λo x=>u9 (o= .Not)&&jd cf a x
 | .and a b,e=>lY e λo x p=>lC x λx r=>lC r λy r=>u9 (o= .And)&&jd cf a x&&bif r.isEmpty then jd cf b y else jd cf b (.BoolOp .And (y::r) p)
 | .or a b,e=>lY e λo x p=>lC x λx r=>lC r λy r=>u9 (o= .Or)&&jd cf a x&&bif r.isEmpty then jd cf b y else jd cf b (.BoolOp .Or (y::r) p)
 | .call f es,e=>Jo e λg xs l _=>kZ l (bG cf.sc f g&&cf.fns.contains f&&bt cf es xs)
 | .bi b es,e=>Jo e λg xs l _=>kZ l (lC xs λx r=>bG cf.sc (ly b) g&&lx b&&bt cf es (x::r))
 | .dj a t,e=>Jo e λg xs l _=>kZ l (lC xs λx r=>lC r λy r=>kZ r (bG cf.sc "isinstance" g&&bG cf.sc (eM t) y&&decide (t≠ .aj)&&Qa x&&jd cf a x))
 | .cc a one ts,e=>Jo e fun g xs l _=>kZ l (lC xs fun x r=>lC r fun y r=>kZ r (bG cf.sc "isinstance" g&&Qa x&&jd cf a x&&bif one then(lC ts fun t r=>kZ r (bG cf.sc t y&&(decide (t= "ValueError")||cf.own.contains t)))else(lz y fun zs=>decide (zs.length<=1000)&&JA cf ts zs)))
 | .ix a b,e=>eX e λx y=>we y&&jd cf a x&&jd cf b y
 | .sl a lo hi,e=>eX e λx y=>kh y λl u z=>oS l λl=>oS u λu=>z.isNone&&jd cf a x&&jd cf lo l&&jd cf hi u
 | .fG a lo,e=>eX e λx y=>kh y λl u z=>oS l λl=>u.isNone&&z.isNone&&jd cf a x&&jd cf lo l
 | .eW a hi,e=>eX e λx y=>kh y λl u z=>oS u λu=>l.isNone&&z.isNone&&jd cf a x&&jd cf hi u
 | .rev a,e=>eX e λx y=>kh y λl u z=>oS z λz=>l.isNone&&u.isNone&&lD z&&jd cf a x
 | .comp tg one k aE it u6 c elt,e=>r9 e λy g scope=>lC g λg r=>
  u9 (g.is_async=0/\r= [])&&wT cf scope (zu cf g.target aE) k aE&&tg.all (λi=>u9 (i<k))&&Xf { cf with sc:=scope,N:=zu cf g.target aE } tg one g.target&&cL cf it g.iter&&jd { cf with sc:=scope,N:=zu cf g.target aE } elt y&&
   bif u6 then(lC g.ifs λz r=>kZ r (eO c&&jd { cf with sc:=scope,N:=zu cf g.target aE } c z))else g.ifs.isEmpty
 | .share a,e=>jd cf a e
 | .dz m a es,e=>Jo e λg xs l q=>kZ l (lC xs λx r=>kZ r (WO g λo n p=>u9 (n=Xd (tM m))&&tK m&&(p.endLine==q.line)&&mD o&&jd cf a o&&bt cf es [x]))
 | .eC c a,e=>eX e λg y=>bG cf.sc c g&&we y&&jd cf a y
 | .dg T i,e=>eX e λd x=>ng d λks vs=>Xq x λx=>jF T ks vs&&u9 (T≠ [])&&u9 (T.length<=15)&&u9 (T.map (·.1)).Nodup&&vB cf i x
 | .iF T a,e=>eX e λd x=>ng d λks vs=>jF T ks vs&&u9 (T≠ [])&&u9 (T.length<=15)&&u9 (T.map (·.1)).Nodup&&we x&&jd cf a x
 | .dO a,e=>Jo e λg xs l _=>kZ l (lC xs λx r=>kZ r (bG cf.sc "str" g&&Qa x&&jd cf a x))
 | .bg a,e=>Jo e λg xs l _=>kZ l (lC xs λx r=>kZ r (bG cf.sc "int" g&&Qa x&&jd cf a x))
 | .xf i f,e=>WO e λx n _=>Xq x λx=>vB cf i x&&u9 (n=Xd f)
 | .fld i c f,e=>WO e λx n _=>Xq x λx=>vB cf i x&&u9 (n=Xd f)&&cf.ob.fl.contains (c,f)
 | .ai i c m q es,e=>Jo e λg ys l s=>kZ l (WO g λx n p=>Xq x λx=>vB cf i x&&u9 (n=Xd m)&&cf.ob.mt.contains (c,m,q)&&(p.endLine==s.line)&&u9 (ys.length<=20)&&bt cf es ys)
 | .make c q es,e=>Jo e λg ys l _=>kZ l (lC ys λx r=>bG cf.sc c g&&cf.ob.ea.contains (c,q)&&bt cf es (x::r))
noncomputable def bt (cf:Cf):M.Es->List Expr->Bool
 | .nil,xs=>xs.isEmpty
 | .cons e es,xs=>lC xs λx xs=>Qa x&&jd cf e x&&bt cf es xs
noncomputable def cL (cf:Cf):M.It->Expr->Bool
 | .seq a,e=>Zh e&&jd cf a e
 | .aJ a,e=>Jo e λg xs l _=>kZ l (lC xs λx r=>kZ r (bG cf.sc "range" g&&Qa x&&jd cf a x))
 | .cb a b,e=>Jo e λg xs l _=>kZ l (lC xs λx r=>lC r λy r=>kZ r (bG cf.sc "range" g&&Qa x&&Qa y&&jd cf a x&&jd cf b y))
 | .rev a,e=>Jo e λg xs l _=>kZ l (lC xs λx r=>kZ r (bG cf.sc "reversed" g&&Qa x&&jd cf a x))
 | .zip _ _,_=>y9
 | .enum _,_=>y9
 | .bM a b,e=>Jo e λg xs l _=>kZ l (lC xs λx r=>lC r λy r=>lC r λz r=>kZ r (Zt z λc=>u9 (c= .int 2)&&bG cf.sc "range" g&&Qa x&&Qa y&&jd cf a x&&jd cf b y))
end
def wo:Expr->Bool
 | .ListComp .. =>y9
 | .SetComp .. =>y9
 | .DictComp .. =>y9
 | _=>k9
def jj:Expr->Bool
 | .Tuple .. =>y9
 | _=>k9
def qp (cf:Cf) (i:Nat) (x:Str):Bool:=u9 (cf.N[i]? =y0 x)&&u9 (cf.sc.names.lookup x=y0 .local)
def ZE (cf:Cf) (i:Nat) (x:Str):Bool:=u9 (cf.N[i]? =y0 x)&&hV cf.sc x
def l7 (cf:Cf) (i:Nat) (m:Str) (e:Expr) (a:Pos):Bool:=WO e λx n p=>Xq x λx=>vB cf i x&&u9 (n=m)&&(p.endLine==a.line)
def mE (cf:Cf):M.It->Expr->Bool
 | .seq a,e=>Zh e&&jd cf a e
 | .aJ a,e=>cL cf (.aJ a) e
 | .cb a b,e=>cL cf (.cb a b) e
 | .rev a,e=>cL cf (.rev a) e
 | .bM a b,e=>cL cf (.bM a b) e
 | .zip _ _,_=>y9
 | .enum _,_=>y9
def n3:M.It->Expr->Bool
 | .enum _,e=> !jj e
 | .zip _ _,e=> !jj e
 | _,_=>k9
def lU:M.S->Bool
 | .freeze _=>k9
 | _=>y9
def mi (cf:Cf) (k:String) (nm f:Nat) (c:List ExceptHandler):Bool:=lC c λx r=>kZ r (rq x λw n b=>oS w λw=>oS n λn=>lC b λa r=>kZ r (fh a λe y=>lC e λt r=>kZ r (Xq t λv=>Xq y λd=>
 bG cf.sc k w&&cf.cG.contains k&&u9 (d=n)&&qp cf nm n&&(cQ n&&qp cf f v))))
noncomputable def mj (cf:Cf) (i:Nat) (f:String) (b:List Stmt) (q:List Expr->Bool):Bool:=lC b λs r=>kZ r (fh s λc e=>lC c λt r=>kZ r (Xq t λa=>Jo e λg xs l _=>kZ l (lC xs λx r=>qp cf i a&&bG cf.sc f g&&cf.fns.contains f&&q (x::r))))
mutual
noncomputable def m1 (cf:Cf):M.S->Stmt->Bool
 | .set i e,st=>fh st λts v=>lC ts λt r=>Xq t λx=>kZ r (ZE cf i x&&jd cf e v)
 | .ae i e,st=>fh st λts v=>lC ts λt r=>Xq t λx=>kZ r (ZE cf i x&&jd cf e v)
 | .iH is e,st=>fh st λts v=>lC ts λt r=>lz t λts=>kZ r (Jq cf is ts&&jj v&&jd cf e v)
 | .dD i kx e,st=>fh st λts v=>lC ts λt r=>eX t λx y=>Xq x λx=>kZ r (vB cf i x&&we y&&jj v&&wo v&&jd cf kx y&&jd cf e v)
 | .bB o kx e,st=>fh st λts v=>lC ts λt r=>eX t λx y=>kZ r (we y&&jj v&&wo v&&jd cf o x&&jd cf kx y&&jd cf e v)
 | .app i e,st=>nW st λc=>Jo c λf xs l p=>kZ l (lC xs λv r=>kZ r (l7 cf i "append" f p&&Qa v&&jd cf e v))
 | .freeze _,_=>y9
 | .ex e,st=>nW st λv=>wo v&&jd cf e v
 | .ret e,st=>o9 st λv=>oS v λv=>jd cf e v
 | .iff c a b,st=>ri st λx ys zs=>eO c&&jd cf c x&&b8 cf a ys&&b8 cf b zs
 | .dX _ c b,st=>oT st λx ys zs=>kZ zs (eO c&&jd cf c x&&b8 cf b ys)
 | .for tg one it b,st=>sA st λt iter ys zs=>kZ zs (n3 it t&&Xf cf tg one t&&mE cf it iter&&b8 cf b ys)
 | .bF c f e,st=>sY st λa b=>oS a λa=>Jo a λg xs l _=>kZ l (lC xs λx r=>kZ r (b.isNone&&bG cf.sc c g&&cf.ob.er.contains (c,f)&&bt cf (.cons e .nil) [x]))
 | .eV i f es k nm iv,st=>sd st λb hs=>mi cf k nm iv hs&&mj cf i f b (λxs=>bt cf es xs)
 | .bW i c f e,st=>fh st λts v=>lC ts λt r=>WO t λx n _=>Xq x λx=>kZ r (vB cf i x&&u9 (n=Xd f)&&cf.ob.fl.contains (c,f)&&jj v&&wo v&&jd cf e v)
 | .hA,_=>k9
noncomputable def b8 (cf:Cf):M.Ss->List Stmt->Bool
 | .nil,sts=>sts.isEmpty
 | .cons s ss,sts=>bif lU s then b8 cf ss sts else lC sts λst sts=>m1 cf s st&&b8 cf ss sts
end
structure Eg (X:Cx) (k:Nat) (x:Str) (ps:List Str) (sp:Sp):Prop where
 ex: ∃f fd,bc X.prog X.w X.K X.mg X.base (cE X.prog X.w) k f fd ps sp/\Binds X.K fd ps []/\Af5 X.K (.ref f)=k9/\X.mg x=y0 (.ref f)
def lI:M.W->Bool
 | .own _=>y9
 | _=>k9
def fK (Y:Ge) (m:List M.W->M.AH->M.R M.W):Sp:=λb H Q E=> ∃G h a,ak Y G h H/\a8 Y G H a b/\(∀ w∈a,lI w=k9)/\ax Y E G H (m a h) Q
structure Go (Y:Ge) (F:M.Fx) (X:Cx) (E:XK) (k:Nat) (cf:Cf):Prop where
 N:X.N=cf.N
 K:X.K=Y.K
 cl:F.cl=Y.cl
 ow:cf.own=Y.own
 nd:cf.N.Nodup
 gz: ∀x,zS cf.sc x=k9->gs X.env.scope x
 iG: ∀x,cf.sc.names.lookup x=y0 .local->X.env.scope.names.lookup x=y0 .local
 hH: ∀x,hV cf.sc x=k9->iC X.env.scope x/\(X.fn x=k9\/X.env.scope.names.lookup x=y0 .local)
 kg: ∀x,(cf.sc.names.lookup x=y0 .cell\/cf.sc.names.lookup x=y0 .free)->X.env.kindOf x=y0 .cell\/X.env.kindOf x=y0 .free
 gl: ∀x,ia cf.sc x=k9->Gl X x
 calm:X.calm=k9
 room:aW k X.A
 dH:aW (k+1) X.A
 pass:Ws (cE X.prog X.w) X E
 blt: ∀x,x∈cj->X.mg (Xd x)=u0
 con: ∀x d,F.con.lookup x=y0 d-> ∃u v,X.mg (Xd x)=y0 u/\RelV v u/\ ∀G H,aA Y G H d v
 fn: ∀f,cf.fns.contains f=k9-> ∃ps,Eg X k (Xd f) ps (fK Y (F.call f))
 cls: ∀c,cf.own.contains c=k9->X.mg (Xd c)=y0 (.ref (Y.ca c))
 fld: ∀c f,cf.ob.fl.contains (c,f)=k9->cX X.K (Y.ca c)/\b7 X.K (Y.ca c) (Xd f)
 gP: ∀c m q,cf.ob.mt.contains (c,m,q)=k9->cX X.K (Y.ca c)/\ ∃fa fd ps,iR X.K (Y.ca c) (Xd m) fa/\bc X.prog X.w X.K X.mg X.base (cE X.prog X.w) k fa fd ps (fK Y (F.call q))/\Binds X.K fd ps []
 ea: ∀c q,cf.ob.ea.contains (c,q)=k9->X.mg (Xd c)=y0 (.ref (Y.ca c))/\ ∃fa fd ps,Mk X.K (Y.ca c) fa/\bc X.prog X.w X.K X.mg X.base (cE X.prog X.w) k fa fd ps (fK Y (F.call q))/\Binds X.K fd ps []
@[elab_as_elim] theorem kE {P:List α->Prop}(k:b=k9->P []): ∀l,kZ l b=k9->P l:=by rintro (_|_)<;>first | exact b0 | exact k
@[elab_as_elim] theorem Cn {P:Stmt->Prop}(k: ∀a b p,f a b=k9->P (.Try a b [] [] p)): ∀e,sd e f=k9->P e:=by
 rintro (_|_)<;>first | exact b0 | exact λh=>kE (λh=>kE (λh=>k _ _ _ h) _ h) _ h
@[elab_as_elim] theorem BV {P:ExceptHandler->Prop}(k: ∀a b c p,f a b c=k9->P (.ExceptHandler a b c p)): ∀e,rq e f=k9->P e
 | .ExceptHandler _ _ _ _,h=>k _ _ _ _ h
def a2 (h:(a&&b)=k9):a=k9/\b=true:=Bool.and_eq_true_iff.mp h
def a3 (h:(a&&b&&c)=k9):a=k9/\b=k9/\c=true:=⟨(a2 (a2 h).1).1,(a2 (a2 h).1).2,(a2 h).2⟩
def a4 (h:(a&&b&&c&&d)=k9):a=k9/\b=k9/\c=k9/\d=true:=⟨(a3 (a2 h).1).1,(a3 (a2 h).1).2.1,(a3 (a2 h).1).2.2,(a2 h).2⟩
def a5 (h:(a&&b&&c&&d&&e)=k9):a=k9/\b=k9/\c=k9/\d=k9/\e=true:=⟨(a2 (a4 h).1).1,(a2 (a4 h).1).2,(a4 h).2⟩
def a6 (h:(a&&b&&c&&d&&e&&f)=k9):a=k9/\b=k9/\c=k9/\d=k9/\e=k9/\f=true:=⟨(a2 (a5 h).1).1,(a2 (a5 h).1).2,(a5 h).2⟩
def a7 (h:(a&&b&&c&&d&&e&&f&&g)=k9):a=k9/\b=k9/\c=k9/\d=k9/\e=k9/\f=k9/\g=true:=⟨(a2 (a6 h).1).1,(a2 (a6 h).1).2,(a6 h).2⟩
def nn (h:o.isNone=k9):o=none:=Af6.mp h
def gr (h:vB cf i x=k9):cf.N[i]? =y0 x/\zS cf.sc x=k9/\cQ x=true:=⟨of_decide_eq_true (a3 h).1,(a3 h).2⟩
def wb (h:bG sc x e=true): ∃p,e= .Name (Xd x) p/\ia sc (Xd x)=true/\(Xd x==("__debug__" :Str))=false:=by
 unfold bG at h
 rw [Aa9,Aa9]at h
 obtain⟨⟨b,c⟩,a⟩:=h
 unfold cQ at a
 rw [Aa9]at a
 cases e with
 | Name y p=>
  have:y=Xd x:=by simpa [mM]using b
  subst this
  exact⟨p,rfl,c,by simpa using a.1⟩
 | _=>simp [mM]at b
def zl (h:x∈cj):Xd x≠("__name__" :Str):=by
 have:(cj.all λx=>decide (Xd x≠ "__name__"))=true:=by decide +kernel
 exact of_decide_eq_true (Af.mp this x h)
section
variable {Y:Ge}{F:M.Fx}{X:Cx}{E:XK}{k:Nat}{cf:Cf}
section
variable {G:Gh}{H:Hp}{h:M.AH}{Z:M.Sl}{U:St}{Q:VK}
def ar.val (p:ar Y E G0 H0 (.ok w h) λw _ G' H'=> ∀v,ao Y G' H' w v->aF Z U H0 w v->Q v H') (e:Ext G0 H0 G H) (a:ak Y G h H) (z:ao Y G H w v) (f:aF Z U H0 w v):Q v H:=
 p G H e a v z f
end
def Cd (c:Go Y F X E k cf)(j:cf.N[i]? =y0 x) (l:zS cf.sc x=k9) (b:cQ x=k9):PE X (.Name x pos) (tD Y E (M.eval F (.var i))):=by
 unfold cQ at b
 rw [Aa9]at b
 refine PE.imp (Zx (by rw [c.N];exact j) (c.gz x l) (by simpa using b.1) (by simpa using b.2)) λU H Q u=> ?_
 obtain⟨G,Z,h,s,p⟩:=u
 rw [M.eval]at p
 cases q:M.Gk Z i with
 | none=>simp [M.Gn,q]at p;exact p.elim
 | some w=>
  obtain⟨v,e,r⟩:=s.slot i w q
  refine⟨v,e,?_⟩
  cases w with
  | v d=>
   rw [M.Kh q]at p
   exact ar.val p Ext.refl s.heap r trivial
  | own o=>
   rw [M.GY q]at p
   obtain⟨a,m,f,y,n,g,t⟩:=r
   exact ar.val p Ext.refl s.heap ⟨a,m,f,n,.inl g,t⟩ ⟨i,_,q,rfl,e⟩
  | bor o=>
   rw [M.G7 q]at p
   exact ar.val p Ext.refl s.heap r ⟨i,_,q,rfl,e⟩
def B6 (f:Go Y F X E k cf)(l:bG cf.sc c e=k9):PE X e (tD Y E (M.eval F (.con c))):=by
 obtain⟨p,rfl,j,m⟩:=wb l
 cases q:F.con.lookup c with
 | none=>
  intro b s U H Q I ⟨G,Z,h,g,a⟩
  rw [M.eval,q]at a
  exact a.elim
 | some d=>
  obtain⟨u,v,i,rv,rd⟩:=f.con c d q
  refine PE.imp (zM (f.gl _ j) i rv m) λU H Q n=> ?_
  obtain⟨G,Z,h,g,a⟩:=n
  rw [M.eval,q]at a
  exact ar.val a Ext.refl g.heap (rd G H) trivial
def DQ :PE X (.Constant (.int i) j pos) (tD Y E (M.eval F (.int i))):=PE.imp mv λU H Q ⟨G,Z,h,s,p⟩=>ar.val p Ext.refl s.heap rfl trivial
def Et :PE X (.Constant (.bool i) j pos) (tD Y E (M.eval F (.bl i))):=PE.imp AO λU H Q ⟨G,Z,h,s,p⟩=>ar.val p Ext.refl s.heap rfl trivial
def yz :PE X (.Constant .none j pos) (tD Y E (M.eval F .aj)):=PE.imp Ep λU H Q ⟨G,Z,h,s,p⟩=>ar.val p Ext.refl s.heap rfl trivial
def C4 :PE X (.Constant (.str (aD i)) j pos) (tD Y E (M.eval F (.str i))):=PE.imp ET λU H Q ⟨G,Z,h,s,p⟩=>ar.val p Ext.refl s.heap rfl trivial
section
variable {a b c:M.E}{x y z:Expr}{pos:Pos}
def t7 (q:Go Y F X E k cf)(B:lh o=k9) (g:PE X x (tD Y E (M.eval F a))) (m:PE X y (tD Y E (M.eval F b))):PE X (.BinOp x (kG o) y pos) (tD Y E (M.eval F (.bin o a b))):=by
 refine PE.imp (AK (uP (E:=E) o B q.K) g m) λU H Q z=> ?_
 obtain⟨G,Z,h,s,p⟩:=z
 refine Ja s.heap Ext.refl s p λj v1 L K I e A d f C t=> ?_
 refine Ja s.heap e d t λw v2 r i D l c v u J n=> ?_
 exact⟨i,r,j,w,v.heap,f.ext c d.heap,u,ax.mk n l s.heap⟩
def xV (z:aA Y G H d v) (f:M.flat d=k9):zF v=true:=by
 cases d with
 | aj=>cases (z);rfl
 | bl _=>cases (z);rfl
 | int _=>cases (z);rfl
 | str _=>cases (z);rfl
 | _=>exact absurd (f) Ab1
theorem qL : ∀ {ds}{vs},af Y G H ds vs->ds.all M.flat=k9->vs.all zF=k9
 | [],_,rfl,_=>rfl
 | d::ds,_,⟨v,r,rfl,a,b⟩,f=>by
  rw [Ag8,Aa9]at f ⊢
  exact⟨xV a f.1,qL b f.2⟩
def uW (z:aA Y G H d v) (y:aA Y G H e u) (f:M.flat d=k9) (c:M.flat e=k9):gb v u=M.cO d e:=by
 cases d with
 | aj=>
  cases (z)
  cases e with
  | aj=>cases (y);rfl
  | bl _=>cases (y);rfl
  | int _=>cases (y);rfl
  | str _=>cases (y);rfl
  | _=>exact absurd (c) Ab1
 | bl a=>
  cases (z)
  cases e with
  | aj=>cases (y);rfl
  | bl _=>cases (y);rfl
  | int j=>cases (y);show(_==j)=(a.toNat==j);rw [lJ]
  | str _=>cases (y);rfl
  | _=>exact absurd (c) Ab1
 | int i=>
  cases (z)
  cases e with
  | aj=>cases (y);rfl
  | bl b=>cases (y);show(i==(if b then(1:Int)else 0))=(i== b.toNat);rw [lJ]
  | int _=>cases (y);rfl
  | str _=>cases (y);rfl
  | _=>exact absurd (c) Ab1
 | str i=>
  cases (z)
  cases e with
  | aj=>cases (y);rfl
  | bl _=>cases (y);rfl
  | int _=>cases (y);rfl
  | str j=>cases (y);exact ph i j
  | _=>exact absurd (c) Ab1
 | _=>exact absurd (f) Ab1
theorem o3 (z:aA Y G H d v) (b:M.flat d=k9): ∀ {ds}{vs},af Y G H ds vs->ds.all M.flat=k9->hU v vs=M.inD d ds
 | [],_,rfl,_=>rfl
 | e::ds,_,⟨u,r,rfl,c,g⟩,f=>by
  rw [Ag8,Aa9]at f
  have a:=o3 z b g f.2
  unfold hU M.inD at a ⊢
  rw [Ag7,Ag7,a,uW c z f.1 b]
def ao.ky (z:ao Y G H w v) (e:w.d=y0 d) (f:M.flat d=k9):aA Y G H d v:=by
 cases w with
 | v b=>cases e;exact z
 | own a=>cases e;exact absurd (f) Ab1
 | bor a=>cases e
theorem rA (b: ∀c y,RV hp c y->ee y=M.cO c d): ∀ {ys}{us},cg hp ys us->us.any ee=M.inD d ys
 | [],_,rfl=>rfl
 | c::ys,_,⟨u,r,rfl,e,f⟩=>by
  have a:=rA b f
  unfold M.inD at a ⊢
  rw [Ag7,Ag7,a,b c u e]
def CG (e:aW k X.A)(p:M.G8 ys<140) (n:RV s.heap d v) (rs:cg s.heap ys its): ∃i:Value->Bool,(∀ c y,RV s.heap c y->i y=M.cO c d)/\ ∀y,y∈its.toArray->SeqAt.EqAt X.A.in1 s y v (i y):=by
 have f: ∃i:Value->Bool,∀c y,RV s.heap c y->i y=M.cO c d:=⟨λy=> @u9 (∃ a,RV s.heap a y/\M.cO a d=k9) (Aj2 _),λc y z=>by
  cases q:M.cO c d with
  | true=>exact @decide_eq_true _ (Aj2 _) ⟨c,z,q⟩
  | false=>exact @decide_eq_false _ (Aj2 _) λ⟨d,l,g⟩=>by rw [RV.inj l z,q]at g;cases g⟩
 obtain⟨i,h⟩:=f
 refine⟨i,h,λy o=> ?_⟩
 obtain⟨j,m⟩:=List.getElem?_of_mem (List.mem_toArray.mp o)
 obtain⟨a,b,rd⟩:=rs.get m
 rw [h a y rd]
 exact(mG 140 a _ X.A.in1 y v (by have:=jy b;lia) (by have:=e.un;lia) rd n).eq
def Cq (l:X.K=Y.K)(d:aW k X.A) (neg:Bool){x y:V}(I:Inv X y8 U H s) (D:RelV x v) (B:RelV y u){b:Bool}(n:ak Y G h H)
 (r:ao Y G H w1 x) (z:ao Y G H w2 y) (e:M.Kr w1 w2 h=y0 b) (q:Q (.bl (if neg then !b else b)) H):wpAny (model X.prog X.w) X.A (compareOp (if neg then .NotIn else .In) v u) (EP X y8 U Q) X.xe s:=by
 unfold M.Kr at e
 split at e
 ·rename_i w t
  split at e
  ·rename_i c
   cases e
   have p:=by simpa using c
   have A:=r.rv I l n D p.1.1
   have o:=z.rv I l n B (by simp_all)
   rw [t]at o
   obtain⟨a,f,rfl,i,rs⟩:=o
   obtain⟨g,C,m⟩:=CG d p.2 A rs
   have j:f.toArray.any g=M.inD (w1.dd h) w:=by rw [List.any_toArray];exact rA C rs
   cases neg with
   | true=>exact SeqAt.notIn_listAt g i m ⟨.bl _,H,I,rfl,by rw [j];exact q⟩
   | false=>exact SeqAt.in_listAt g i m ⟨.bl _,H,I,rfl,by rw [j];exact q⟩
  ·cases e
 ·cases e
def pO (n:X.K=Y.K)(o:aW k X.A) (neg:Bool){x y:V}(I:Inv X y8 U H s) (g:RelV x v) (f:RelV y u){b:Bool}(A:ak Y G h H)
 (m:ao Y G H w1 x) (t:ao Y G H w2 y) (e:M.Ka w1 w2 h=y0 b) (q:Q (.bl (if neg then !b else b)) H):wpAny (model X.prog X.w) X.A (compareOp (if neg then .NotIn else .In) v u) (EP X y8 U Q) X.xe s:=by
 unfold M.Ka at e
 split at e
 ·rename_i i j l p
  split at e
  ·rename_i c
   cases e
   cases m.str l
   cases t.str p
   have w:(!(Builtin.Str.occurrences (aD j) (aD [c]) 0 (aD j).length 1).isEmpty)=j.contains c:=by
    have:=PySem.StrLaws.found_one (aD j) c
    refine this.trans ?_
    rw [Bool.eq_iff_iff,decide_eq_true_eq,Ad6]
    simp [aD]
   cases neg with
   | true=>exact zO y8 s U H _ _ v u Q I g f ⟨_,_,rfl,rfl,by rw [w];exact q⟩
   | false=>exact Ck y8 s U H _ _ v u Q I g f ⟨_,_,rfl,rfl,by rw [w];exact q⟩
  ·cases e
 ·split at e
  ·rename_i d D l p
   split at e
   ·rename_i c
    rw [Aa9]at c
    cases e
    have z:=m.ky l c.1
    obtain⟨a,C,rfl,B,r⟩:=t.seq A p
    rw [← o3 z c.1 r c.2]at q
    cases neg with
    | true=>exact ZQ y8 s U H _ _ v u Q I g f ⟨a,C,rfl,n▸mY B,xV z c.1,qL r c.2,q⟩
    | false=>exact Bv y8 s U H _ _ v u Q I g f ⟨a,C,rfl,n▸mY B,xV z c.1,qL r c.2,q⟩
   ·exact Cq n o neg I g f A m t e q
  ·cases e
def Dp:b3 X (compareOp .GtE) (λx y H Q=> ∃i j,x= .str i/\y= .str j/\Q (.bl (!u9 (i.cps.toList<j.cps.toList))) H):=by
 intro a s U H x y v u Q I d c ⟨i,j,ex,b,q⟩
 subst ex b
 obtain⟨t,rfl⟩:=d
 obtain⟨e,rfl⟩:=c
 exact PySem.P.ge_str (zR I q rfl)
def WF (w:Go Y F X E k cf) (o) (J:XE o=k9):b3 X (compareOp (eu o)) (hX Y o):=by
 have g: ∀ {o},(∀ a d h b,M.Gs o a d h=y0 b->(∃ i j,M.W.int? a=y0 i/\M.W.int? d=y0 j/\M.Km o i j=y0 b)\/(∃ i j,M.W.bq a=y0 i/\M.W.bq d=y0 j/\M.Kn o i j=y0 b))->b3 X (compareOp (eu o)) (hX Y o):=by
  intro o C f s U H x y v u Q I n m ⟨G,h,a,d,b,B,p,r,e,q⟩
  obtain⟨i,j,z,l,A⟩ | ⟨i,j,z,l,A⟩:=C a d h b e
  ·cases p.int z
   cases r.int l
   exact uO A I n m q
  ·cases p.str z
   cases r.str l
   cases o with
   | lt=>
    cases A
    refine u3 f s U H _ _ v u Q I n m ⟨_,_,rfl,rfl,?_⟩
    have:u9 ((aD i).cps.toList<(aD j).cps.toList)=u9 (i<j):=decide_eq_decide.mpr (by simp [aD])
    exact q
   | ge=>
    cases A
    have:u9 ((aD i).cps.toList<(aD j).cps.toList)=u9 (i<j):=decide_eq_decide.mpr (by simp [aD])
    exact Dp f s U H _ _ v u Q I n m ⟨_,_,rfl,rfl,q⟩
   | _=>cases A
 have mk: ∀ {o}{a d}{h:M.AH}{b},(match M.W.int? a,M.W.int? d with
  | some i,y0 j=>M.Km o i j
  | _,_=>match M.W.bq a,M.W.bq d with
   | some s,y0 t=>M.Kn o s t
   | _,_=>u0)=y0 b->(∃ i j,M.W.int? a=y0 i/\M.W.int? d=y0 j/\M.Km o i j=y0 b)\/(∃ i j,M.W.bq a=y0 i/\M.W.bq d=y0 j/\M.Kn o i j=y0 b):=by
  intro o a d h b e
  split at e
  ·rename_i i j z l;exact .inl ⟨i,j,z,l,e⟩
  ·split at e
   ·rename_i i j z l;exact .inr ⟨i,j,z,l,e⟩
   ·cases e
 cases o with
 | eq=>exact vb w.K w.room
 | ne=>exact C1 w.K w.room
 | lt=>exact g λa d h b e=>mk (h:=h) e
 | le=>exact g λa d h b e=>mk (h:=h) e
 | gt=>exact g λa d h b e=>mk (h:=h) e
 | ge=>exact g λa d h b e=>mk (h:=h) e
 | mem=>
  intro f s U H x y v u Q I n m ⟨G,h,a,d,b,B,p,r,e,q⟩
  exact pO w.K w.room y9 I n m B p r e q
 | bz=>
  intro f s U H x y v u Q I n m ⟨G,h,a,d,b,B,p,r,e,q⟩
  have e:(M.Ka a d h).map (!·)=y0 b:=e
  cases l:M.Ka a d h with
  | none=>rw [l]at e;cases e
  | some c=>
   rw [l]at e
   cases e
   exact pO w.K w.room k9 I n m B p r l q
 | md=>
  intro f s U H x y v u Q I n m ⟨G,h,a,d,b,B,p,r,e,q⟩
  have e:M.Kq a d=y0 b:=e
  unfold M.Kq at e
  split at e
  ·cases e
   cases p
   cases r
   cases n
   obtain⟨t,rfl⟩:=m
   exact wpAny_is_plain rfl (zR I q rfl)
  ·cases e
   cases p
   cases r
   obtain⟨t,rfl⟩:=n
   obtain⟨D,rfl⟩:=m
   exact PyProof.Rows.is_bool (zR I q rfl)
  ·cases e
def wz (h:Zh e=k9):behindInMarks o e=false:=by
 cases e<;>first | rfl | (simp [Zh]at h)
def rK (C:Go Y F X E k cf)(s:au Y G Z h U H)
 (p:ar Y E G H ((M.eval F a Z h).bind λx h=>(M.eval F b Z h).bind λy h=>(M.R.of h (M.Gs o x y h)).bind λc h=> .ok c h) λc _ _ H'=>R (.bl c) H'):
 i6 (hX Y o) (tD Y E (M.eval F a)) (tD Y E (M.eval F b)) U H R:=by
 refine Ja s.heap Ext.refl s p λn v1 J I B i w g j z t=> ?_
 refine Ja s.heap i g t λv v2 r l A q d f u D e=> ?_
 obtain⟨c,m,e⟩:=e.of
 exact⟨l,r,n,v,c,f.heap,j.ext d g.heap,u,m,e.at q f.heap⟩
def ar.map {f:α->β}(p:ar Y E G H (r.bind λa h=> .ok (f a) h) P):ar Y E G H r λa h G' H'=>P (f a) h G' H':=by
 cases r with
 | ok a h=>exact p
 | exc d h=>exact p
 | fail=>exact p
def Wj (r:M.R α) (f) (g:β->M.AH->M.R γ):(r.bind f).bind g=r.bind λa h=>(f a h).bind g:=by cases r<;>rfl
def yP (j:Go Y F X E k cf)(A:XE o=k9) (u:Zh y=k9) (l:PE X x (tD Y E (M.eval F a))) (n:PE X y (tD Y E (M.eval F b))):PE X (.Compare x [eu o] [y] pos) (tD Y E (M.eval F (.cmp o a b))):=by
 refine PE.imp (AV (WF j o A) l n (wz u)) λU H Q z=> ?_
 obtain⟨G,Z,h,s,p⟩:=z
 rw [M.eval]at p
 refine rK j s ?_
 have t:ar Y E G H (((M.eval F a Z h).bind λx h=>(M.eval F b Z h).bind λy h=>(M.R.of h (M.Gs o x y h)).bind λc h=> .ok c h).bind λc h=> .ok (M.W.v (.bl c)) h) λw _ i g=> ∀v,ao Y i g w v->aF Z U H w v->Q v g:=by
  simpa only [Wj,M.R.aa]using p
 have f:=t.map
 cases q:(M.eval F a Z h).bind λx h=>(M.eval F b Z h).bind λy h=>(M.R.of h _).bind λc h=> .ok c h with
 | ok c m=>rw [q]at f;exact λi g e r=>f i g e r _ rfl trivial
 | exc d m=>rw [q]at f;exact f
 | fail=>rw [q]at f;exact f
def yt (g:Go Y F X E k cf)(v:XE o=k9) (t:Zh y=k9) (i:PE X x (tD Y E (M.eval F a))) (m:PE X y (tD Y E (M.eval F b))):PT X (.Compare x [eu o] [y] pos) (cS Y E (M.Gf F (.cmp o a b))):=by
 refine PT.imp (Bg (WF g o v) i m (wz t)) λU H Q u=> ?_
 obtain⟨G,Z,h,s,p⟩:=u
 unfold M.Gf at p
 rw [M.eval]at p
 refine rK g s ?_
 have f:=by
  simpa only [Wj,M.R.aa,M.Gp,M.R.ag]using p
 cases q:(M.eval F a Z h).bind λx h=>(M.eval F b Z h).bind λy h=>(M.R.of h _).bind λc h=> .ok c h with
 | ok c l=>rw [q]at f;exact λj r e n=>⟨c,rfl,f j r e n⟩
 | exc d l=>rw [q]at f;exact f
 | fail=>rw [q]at f;exact f
end
end
section
variable {Y:Ge}{F:M.Fx}{X:Cx}{E:XK}{k:Nat}{cf:Cf}{a b c:M.E}{x y z:Expr}{pos:Pos}
def Wy (r:M.R α):(r.bind λw h=> .ok w h)=r:=by cases r<;>rfl
def Dz (l:Go Y F X E k cf) (f:PE X x (tD Y E (M.eval F a))) (m: ∀i,isTrue x X.env i=(do let v ←i;standAt x.pos;holding [v] (truthy v))):PT X x (cS Y E (M.Gf F a)):=by
 refine PT.imp (yr f m) λU H Q o=> ?_
 obtain⟨G,Z,h,s,p⟩:=o
 refine Ja s.heap Ext.refl s p λg v1 r n j d u c e w b=> ?_
 cases q:M.GU r g with
 | none=>rw [q]at b;exact b.elim
 | some t=>
  rw [q]at b
  exact⟨t,JX l.K c.heap e q,b n j d c.heap⟩
def yx (e:PE X x ta):PE X (.UnaryOp .Not x pos) (λU H Q=>ta U H λv H1=> ∃t,hY X.K v H1 t/\Q (.bl (!t)) H1):=by
 intro a s U H Q I h
 refine UnaryOp_ (aG (e a s U H _ I h) ?_)
 rintro v k ⟨x,H1,g,d,t,f,i⟩
 exact not_of (aG (X1 a k U H1 x v (λc l=>Q (.bl (!c)) l) g d ⟨t,f,i⟩) λc m ⟨j,b,q⟩=>⟨.bl (!c),j,b,rfl,q⟩)
def Dh (g:Go Y F X E k cf) (f:PE X x (tD Y E (M.eval F a))):PE X (.UnaryOp .Not x pos) (tD Y E (M.eval F (.not a))):=by
 refine PE.imp (yx f) λU H Q i=> ?_
 obtain⟨G,Z,h,s,p⟩:=i
 refine Ja s.heap Ext.refl s p λm v1 r o n d j c e l b=> ?_
 obtain⟨t,q,b⟩:=b.of
 exact⟨t,JX g.K c.heap e q,ar.val b d c.heap rfl trivial⟩
def Cc (f:PT X x (cS Y E (M.Gf F a))):PT X (.UnaryOp .Not x pos) (cS Y E (M.Gf F (.not a))):=by
 refine PT.imp (CW f) λU H Q c=> ?_
 obtain⟨G,Z,h,s,p⟩:=c
 unfold M.Gf at p
 rw [M.eval]at p
 have e:ar Y E G H ((M.Gf F a Z h).bind λt h=> .ok (!t) h) λb _ _ d=>Q b d:=by
  unfold M.Gf
  simpa only [Wj,M.R.aa,M.Gp,M.R.ag]using p
 exact⟨G,Z,h,s,e.map⟩
def Bh {rest:List Expr}(g:PE X x ta) (k:PE X (.BoolOp .And (y::rest) pos) tb):PE X (.BoolOp .And (x::y::rest) pos) (λU H Q=>ta U H λv H1=> ∃t,hY X.K v H1 t/\if t=k9 then tb U H1 Q else Q v H1):=by
 intro a s U H Q I h
 refine BoolOp_and (aG (g a s U H _ I h) ?_)
 rintro v n ⟨x,H1,j,d,t,i,l⟩
 refine aG (X1 a n U H1 x v (λc f=>if c=k9 then tb U f Q else Q x f) j d ⟨t,i,l⟩) λc m o=> ?_
 obtain⟨e,b,q⟩:=o
 cases c with
 | true=>exact k a m U e Q b q
 | false=>exact⟨x,e,b,d,q⟩
def Fh {rest:List Expr}(g:PE X x ta) (k:PE X (.BoolOp .Or (y::rest) pos) tb):PE X (.BoolOp .Or (x::y::rest) pos) (λU H Q=>ta U H λv H1=> ∃t,hY X.K v H1 t/\if t=k9 then Q v H1 else tb U H1 Q):=by
 intro a s U H Q I h
 refine BoolOp_or (aG (g a s U H _ I h) ?_)
 rintro v n ⟨x,H1,j,d,t,i,l⟩
 refine aG (X1 a n U H1 x v (λc f=>if c=k9 then Q x f else tb U f Q) j d ⟨t,i,l⟩) λc m o=> ?_
 obtain⟨e,b,q⟩:=o
 cases c with
 | false=>exact k a m U e Q b q
 | true=>exact⟨x,e,b,d,q⟩
def pX (o:Go Y F X E k cf){rest:List Expr}(i:PE X x (tD Y E (M.eval F a))) (m:PE X (.BoolOp .And (y::rest) pos) (tD Y E (M.eval F b))):PE X (.BoolOp .And (x::y::rest) pos) (tD Y E (M.eval F (.and a b))):=by
 refine PE.imp (Bh i m) λU H Q w=> ?_
 obtain⟨G,Z,h,s,p⟩:=w
 refine Ja s.heap Ext.refl s p λB v1 L K D d z e f j c=> ?_
 obtain⟨t,q,c⟩:=c.of
 refine⟨t,JX o.K e.heap f q,?_⟩
 cases t with
 | true=>
  exact Ja s.heap d e (by rw [Wy];exact c) λJ v2 I A C l g u r v n=>ar.val n l u.heap r (v.back d s.heap)
 | false=>
  exact ar.val c d e.heap f j
def tf (o:Go Y F X E k cf){rest:List Expr}(i:PE X x (tD Y E (M.eval F a))) (m:PE X (.BoolOp .Or (y::rest) pos) (tD Y E (M.eval F b))):PE X (.BoolOp .Or (x::y::rest) pos) (tD Y E (M.eval F (.or a b))):=by
 refine PE.imp (Fh i m) λU H Q w=> ?_
 obtain⟨G,Z,h,s,p⟩:=w
 refine Ja s.heap Ext.refl s p λB v1 L K D d z e f j c=> ?_
 obtain⟨t,q,c⟩:=c.of
 refine⟨t,JX o.K e.heap f q,?_⟩
 cases t with
 | false=>
  exact Ja s.heap d e (by rw [Wy];exact c) λJ v2 I A C l g u r v n=>ar.val n l u.heap r (v.back d s.heap)
 | true=>
  exact ar.val c d e.heap f j
def CJ :M.Gf F (.and a b) Z h=(M.Gf F a Z h).bind λt h=>match t with
 | true=>M.Gf F b Z h
 | false=> .ok y9 h:=by
 unfold M.Gf
 rw [M.eval]
 simp only [Wj]
 congr 1
 funext w h1
 cases q:M.GU h1 w with
 | none=>rfl
 | some t=>
  cases t with
  | true=>rfl
  | false=>simp [q]
def vD :M.Gf F (.or a b) Z h=(M.Gf F a Z h).bind λt h=>match t with
 | true=> .ok k9 h
 | false=>M.Gf F b Z h:=by
 unfold M.Gf
 rw [M.eval]
 simp only [Wj]
 congr 1
 funext w h1
 cases q:M.GU h1 w with
 | none=>rfl
 | some t=>
  cases t with
  | false=>rfl
  | true=>simp [q]
def wZ {rest:List Expr}(j:PT X x (cS Y E (M.Gf F a))) (m:PW X (.BoolOp .And (y::rest) pos) (cS Y E (M.Gf F b))):PW X (.BoolOp .And (x::y::rest) pos) (cS Y E (M.Gf F (.and a b))):=by
 intro z c r U H Q I ⟨G,Z,h,s,p⟩
 refine vv j m z c r U H Q I ?_
 rw [CJ]at p
 refine JI s.heap Ext.refl s p λt D v o d A g e=> ?_
 cases t with
 | true=>
  exact JI s.heap d g (f:=λw h=> .ok w h) (by rw [Wy];exact e) λC B k n l i u q=>q k n l u.heap
 | false=>
  exact e v o d g.heap
def tu {rest:List Expr}(j:PT X x (cS Y E (M.Gf F a))) (m:PW X (.BoolOp .Or (y::rest) pos) (cS Y E (M.Gf F b))):PW X (.BoolOp .Or (x::y::rest) pos) (cS Y E (M.Gf F (.or a b))):=by
 intro z c r U H Q I ⟨G,Z,h,s,p⟩
 refine Dq j m z c r U H Q I ?_
 rw [vD]at p
 refine JI s.heap Ext.refl s p λt D v o d A g e=> ?_
 cases t with
 | false=>
  exact JI s.heap d g (f:=λw h=> .ok w h) (by rw [Wy];exact e) λC B k n l i u q=>q k n l u.heap
 | true=>
  exact e v o d g.heap
def AY (e:PE X x (tD Y E (M.eval F a))):PE X (.UnaryOp .USub x pos) (tD Y E (M.eval F (.neg a))):=by
 refine PE.imp (rF rb e) λU H Q g=> ?_
 obtain⟨G,Z,h,s,p⟩:=g
 refine Ja s.heap Ext.refl s p λk v1 n m l c i f d j b=> ?_
 obtain⟨t,q,b⟩:=b.of
 exact⟨t,d.int q,ar.val b c f.heap rfl trivial⟩
def sN (r:ao Y G H w v):(v= .aj)↔w= .v .aj:=by
 constructor
 ·intro e
  subst e
  cases w with
  | v d=>
   cases d with
   | aj=>rfl
   | bl _=>cases (r)
   | int _=>cases (r)
   | str _=>cases (r)
   | tup _=>obtain⟨_,_,e,_⟩:=r;cases e
   | lst _=>obtain⟨_,_,e,_⟩:=r;cases e
   | ref _=>obtain⟨_,e⟩:=r;cases e
   | exc _ _=>rcases r with⟨_,_,e,_⟩ | ⟨_,_,e,_⟩<;>cases e
   | err _ _ _=>obtain⟨_,_,_,e,_⟩:=r;cases e
  | own _=>obtain⟨_,_,e,_⟩:=r;cases e
  | bor _=>obtain⟨_,_,e,_⟩:=r;cases e
 ·intro e
  subst e
  exact r
def me (neg:Bool):M.W->Bool
 | .v .aj=> !neg
 | _=>neg
def rL :M.eval F (.b9 neg a) Z h=(M.eval F a Z h).bind λw h=>M.aH (.bl (me neg w)) h:=by
 rw [M.eval]
 congr 1
 funext w h1
 cases w with
 | v d=>cases d<;>rfl
 | own _=>rfl
 | bor _=>rfl
def pB (r:ao Y G H w v) (neg:Bool):(if neg then !u9 (v= .aj)else u9 (v= .aj))=me neg w:=by
 by_cases a:v= .aj
 ·have b:=(sN r).mp a
  subst b a
  cases neg<;>rfl
 ·have b:=λe=>a ((sN r).mpr e)
  have c:=decide_eq_false a
  rw [c]
  have f:me neg w=neg:=by
   cases w with
   | v d=>cases d<;>first | rfl | exact absurd rfl b
   | own _=>rfl
   | bor _=>rfl
  rw [f]
  cases neg<;>rfl
def Dy (c:PE X x (tD Y E (M.eval F a))):PE X (.Compare x [if neg then .IsNot else .Is] [.Constant .none j pos'] pos) (tD Y E (M.eval F (.b9 neg a))):=by
 have b: ∀U H Q,tD Y E (M.eval F (.b9 neg a)) U H Q->tD Y E _ U H λv d=>Q (.bl (if neg then !u9 (v= .aj)else decide _)) d:=λU H Q k=>by
  obtain⟨G,Z,h,s,p⟩:=k
  rw [rL]at p
  refine Ja s.heap Ext.refl s p λn v1 q o d e l i f m g=> ?_
  rw [pB f neg]
  exact ar.val g e i.heap rfl trivial
 cases neg with
 | true=>exact PE.imp (oM (o8 c)) b
 | false=>exact PE.imp (oM (tO c)) b
def uK (i:PE X x (tD Y E (M.eval F a))):PT X (.Compare x [if neg then .IsNot else .Is] [.Constant .none j pos'] pos) (cS Y E (M.Gf F (.b9 neg a))):=by
 have g: ∀U H Q,cS Y E (M.Gf F (.b9 neg a)) U H Q->tD Y E _ U H λv b=>Q (if neg then !u9 (v= .aj)else decide _) b:=λU H Q B=>by
  obtain⟨G,Z,h,s,p⟩:=B
  unfold M.Gf at p
  rw [rL,Wj]at p
  refine Ja s.heap Ext.refl s p λI v1 J z b k C y l D u=> ?_
  rw [pB l neg]
  exact u z b k y.heap
 have fin: ∀U H Q,cS Y E _ U H Q->tD Y E (M.eval F a) U H λv b=> ∃c,V.bl _= .bl c/\Q c b:=λU H Q t=>by
  obtain⟨G,Z,h,s,p⟩:=g U H Q t
  refine⟨G,Z,h,s,?_⟩
  cases q:M.eval F a Z h with
  | ok w n=>rw [q]at p;exact λm A e o v r f=>⟨_,rfl,p m A e o v r f⟩
  | exc d n=>rw [q]at p;exact p
  | fail=>rw [q]at p;exact p
 cases neg with
 | true=>exact PT.imp (pG (o8 i)) fin
 | false=>exact PT.imp (pG (tO i)) fin
def Q4 (h:Zh e'=k9):lastMarks [o,o'] [e,e']=false:=wz h
def q3 (Q:Go Y F X E k cf)(s:au Y G Z h U H)
 (m: ∀b h' G' H',P (.v (.bl b)) h' G' H'->R (.bl b) H') (p:ar Y E G H (M.eval F (.chain o o' a b c) Z h) P):
 nV (hX Y o) (hX Y o') (tD Y E (M.eval F a)) (tD Y E (M.eval F b)) (tD Y E (M.eval F c)) U H R:=by
 refine Ja s.heap Ext.refl s p λA v1 h1 W O v K r x L D=> ?_
 refine Ja s.heap v r D λu v2 C y N l f e n T d=> ?_
 obtain⟨t,j,d⟩:=d.of
 refine⟨y,C,A,u,t,e.heap,x.ext f r.heap,n,j,t,rfl,?_⟩
 cases t with
 | true=>
  refine Ja s.heap l e d λw v3 I J S z i q B V g=> ?_
  obtain⟨t,j,g⟩:=g.of
  exact⟨J,I,u,w,t,q.heap,n.ext i e.heap,B,j,m _ _ _ _ (g.at z q.heap)⟩
 | false=>
  exact m _ _ _ _ (d.at l e.heap)
def F0 (e:Go Y F X E k cf)(l:XE o=k9) (d:XE o'=k9) (g:Zh z=k9) (f:PE X x (tD Y E (M.eval F a))) (j:PE X y (tD Y E (M.eval F b))) (i:PE X z (tD Y E (M.eval F c))):
 PE X (.Compare x [eu o,eu o'] [y,z] pos) (tD Y E (M.eval F (.chain o o' a b c))):=
 PE.imp (yI (WF e o l) (WF e o' d) f j i (Q4 g)) λU H Q ⟨G,Z,h,s,p⟩=>q3 e s (λb n m r q=>q _ rfl trivial) p
def q5 (i:Go Y F X E k cf)(B:XE o=k9) (g:XE o'=k9) (n:Zh z=k9) (m:PE X x (tD Y E (M.eval F a))) (t:PE X y (tD Y E (M.eval F b))) (r:PE X z (tD Y E (M.eval F c))):
 PT X (.Compare x [eu o,eu o'] [y,z] pos) (cS Y E (M.Gf F (.chain o o' a b c))):=by
 refine PT.imp (D3 (WF i o B) (WF i o' g) m t r (Q4 n)) λU H Q A=> ?_
 obtain⟨G,Z,h,s,p⟩:=A
 refine q3 i s (P:=λw _ _ f=> ∀b,w= .v (.bl b)->Q b f) (λb l j f q=>⟨b,rfl,q b rfl⟩) ?_
 unfold M.Gf at p
 cases q:M.eval F _ Z h with
 | ok w l=>rw [q]at p;exact λj f e u b v=>by subst v;exact p j f e u
 | exc d l=>rw [q]at p;exact p
 | fail=>rw [q]at p;exact p
end
def Za (h:Qa e=k9):starEach (e::es) env=(y9,eval e env)::starEach es env:=by
 cases e<;>first | rfl | (simp [Qa]at h)
def jk (h: ∀e∈es,Qa e=k9):(backTo pos (starEach es env)).any (·.1)=false:=by
 induction es with
 | nil=>rfl
 | cons e r b=>
  rw [Za (h e Aa)]
  show(y9||(backTo pos _).any _)=y9
  rw [b λc a=>h c (Aa0 _ a)]
  rfl
section
variable {Y:Ge}{F:M.Fx}{X:Cx}{E:XK}{k:Nat}{cf:Cf}{a b c:M.E}{x y z:Expr}{pos:Pos}{es:M.Es}{xs:List Expr}
def Ff:PA X [] (ik Y E (M.Gq F .nil)):=PA.imp Zk λU H Q ⟨G,Z,h,s,p⟩=>p G H Ext.refl s.heap [] rfl
def CH (u:Qa x=k9) (k:PE X x (tD Y E (M.eval F a))) (o:PA X xs (ik Y E (M.Gq F es))):PA X (x::xs) (ik Y E (M.Gq F (.cons a es))):=by
 refine PA.imp (Jc k o (Za u)) λU H Q z=> ?_
 obtain⟨G,Z,h,s,p⟩:=z
 refine Ja s.heap Ext.refl s p λD v1 L K I g A w j l c=> ?_
 obtain⟨d,q,c⟩:=c.of
 obtain⟨B,n,f,rd,_⟩:=m3 g w s j l q
 refine qS s.heap n f c λC e J y t m b v r i=> ?_
 exact i y t m v.heap (v1::e) ⟨v1,e,rfl,rd.ext b f.heap,r⟩
def FZ:PA X [] (eU Y E (M.Gj F .nil)):=PA.imp Zk λU H Q ⟨G,Z,h,s,p⟩=>p G H Ext.refl s.heap [] rfl
def um (o:Qa x=k9) (i:PE X x (tD Y E (M.eval F a))) (k:PA X xs (eU Y E (M.Gj F es))):PA X (x::xs) (eU Y E (M.Gj F (.cons a es))):=by
 refine PA.imp (Jc i k (Za o)) λU H Q t=> ?_
 obtain⟨G,Z,h,s,p⟩:=t
 refine Ja s.heap Ext.refl s p λy v1 C B z e u d g v m=> ?_
 refine Qs s.heap e d m λw c A r n j b q l f=> ?_
 exact f r n j q.heap (v1::c) ⟨v1,c,rfl,g.ext b d.heap,l⟩
def BS (z:xs.length<=1000) (a: ∀Z h ds h',M.Gq F es Z h= .ok ds h'->ds.length=xs.length) (m:PA X xs (ik Y E (M.Gq F es))):PE X (.Tuple xs n pos) (tD Y E (M.eval F (.tup es))):=by
 refine PE.imp (rS m) λU H Q x=> ?_
 obtain⟨G,Z,h,s,p⟩:=x
 rw [M.eval]at p
 cases q:M.Gq F es Z h with
 | ok e j=>
  have r:=a _ _ _ _ q
  refine qS s.heap Ext.refl s (f:=λds h=>if ds.length=xs.length then M.aH (.tup ds) h else .fail) (P:=λw h' o k=> ∀v,ao Y o k w v->aF Z U H w v->Q v k) ?_ λds B I D C l y u g b=> ?_
  ·rw [q]at p ⊢
   show ar Y E G H (if e.length=xs.length then M.aH _ j else .fail) _
   rw [if_pos r]
   exact p
  ·by_cases i:ds.length=xs.length
   ·rw [if_pos i]at b
    have A:=g.length
    exact⟨Ag1 (XB (by lia)),λt c=>ax.tup (ax.mk b l s.heap) u.heap g t c⟩
   ·rw [if_neg i]at b;exact b.elim
 | exc d j=>rw [q]at p;exact⟨G,Z,h,s,by rw [q];exact p⟩
 | fail=>rw [q]at p;exact p.elim
def yH (y:xs.length<=1000) (a: ∀Z h ds h',M.Gq F es Z h= .ok ds h'->ds.length=xs.length) (m:PA X xs (ik Y E (M.Gq F es))):PE X (.List xs pos) (tD Y E (M.eval F (.lst es))):=by
 refine PE.imp (Ci m) λU H Q u=> ?_
 obtain⟨G,Z,h,s,p⟩:=u
 rw [M.eval]at p
 cases q:M.Gq F es Z h with
 | ok e j=>
  have o:=a _ _ _ _ q
  refine qS s.heap Ext.refl s (f:=λds h=>if ds.length=xs.length then .ok (.own ds) h else .fail) (P:=λw h' n k=> ∀v,ao Y n k w v->aF Z U H w v->Q v k) ?_ λds A D C B l x t g b=> ?_
  ·rw [q]at p ⊢
   show ar Y E G H (if e.length=xs.length then .ok _ j else .fail) _
   rw [if_pos o]
   exact p
  ·by_cases i:ds.length=xs.length
   ·rw [if_pos i]at b
    have z:=g.length
    exact⟨Ag1 (XB (by lia)),λr c=>ax.own (ax.mk b l s.heap) t.heap g r c⟩
   ·rw [if_neg i]at b;exact b.elim
 | exc d j=>rw [q]at p;exact⟨G,Z,h,s,by rw [q];exact p⟩
 | fail=>rw [q]at p;exact p.elim
def uU (r:ao Y G H w v):ao Y G H w.arg v:=by
 cases w with
 | v d=>exact r
 | own e=>obtain⟨a,h,g,_,b,c,f⟩:=r;exact⟨a,h,g,b,.inl c,f⟩
 | bor e=>exact r
theorem Zq : ∀ {ws}{vs},a8 Y G H ws vs->a8 Y G H (ws.map M.W.arg) vs
 | [],_,z=>z
 | _::_,_,⟨v,r,b,c,a⟩=>⟨v,r,b,uU c,Zq a⟩
def Wp (ws:List M.W): ∀w∈ws.map M.W.arg,lI w=true:=λw a=>by
 obtain⟨u,_,rfl⟩:=Ae.mp a
 cases u<;>rfl
def BI (a:Go Y F X E k cf)(y:bG cf.sc f g=k9) (j:cf.fns.contains f=k9) (c: ∀e∈x::xs,Qa e=k9) (l:PA X (x::xs) (eU Y E (M.Gj F es))):PE X (.Call g (x::xs) [] pos) (tD Y E (M.eval F (.call f es))):=by
 obtain⟨p,rfl,r,z⟩:=wb y
 obtain⟨u,I,L,b,q,m,o⟩:=(a.fn f j).imp λu h=>h.ex
 refine PE.imp (Cy b a.room (a.gl _ r) o m q .nil a.pass l z (Za (c _ Aa)) (jk λe v=>c e (Aa0 _ v))) λU H Q B=> ?_
 obtain⟨G,Z,h,s,p⟩:=B
 refine Qs s.heap Ext.refl s p λn J C A K d D w i t=> ?_
 rw [Ad0]
 exact⟨A,C,_,w.heap,Zq i,Wp n,ax.mk t d s.heap⟩
def ur (a:Go Y F X E k cf)(m:bG cf.sc f g=k9) (c:cf.fns.contains f=k9):PE X (.Call g [] [] pos) (tD Y E (M.eval F (.call f .nil))):=by
 obtain⟨p,rfl,j,n⟩:=wb m
 obtain⟨l,q,r,b,i,d,e⟩:=(a.fn f c).imp λl h=>h.ex
 refine PE.imp (AB b a.room (a.gl _ j) e d i .nil a.pass n) λU H Q o=> ?_
 obtain⟨G,Z,h,s,p⟩:=o
 have p:=p
 exact⟨G,h,_,s.heap,Zq (ws:= []) rfl,Wp [],ax.mk p Ext.refl s.heap⟩
def AA (b:M.Bi) (a:lx b=k9):bootBuiltins (Xd (ly b))=y0 (oN b):=by
 cases b<;>first | (exact absurd (show y9=k9 from a) Ab1) | decide +kernel
def oz (b):ly b∈cj:=by cases b<;>decide
def vW (c:Go Y F X E k cf){b:M.Bi}(r:lx b=k9) (A:bG cf.sc (ly b) g=k9) (t: ∀e∈x::xs,Qa e=k9) (i:PA X (x::xs) (eU Y E (M.Gj F es))):PE X (.Call g (x::xs) [] pos) (tD Y E (M.eval F (.bi b es))):=by
 obtain⟨p,rfl,m,o⟩:=wb A
 have l:=c.blt _ (oz b)
 have f:=zl (oz b)
 have j:=AA b r
 have q:xo X _ (nv Y E b):=vn b r c.K c.calm
 have a: ∀U H Q,tD Y E (M.eval F (.bi b es)) U H Q->nA (nv Y E b) (eU Y E _) U H Q:=λU H Q C=>by
  obtain⟨G,Z,h,s,p⟩:=C
  refine Qs s.heap Ext.refl s p λw J D B K u I d v y=> ?_
  exact⟨B,D,w,d.heap,v,ax.mk y u s.heap⟩
 have d:=Za (env:=X.env) (es:=xs) (t _ Aa)
 have n:=jk (env:=X.env) (pos:=pos) λe z=>t e (Aa0 _ z)
 cases b with
 | len=>exact PE.imp (xj q (c.gl _ m) l j i f o d n) a
 | divmod=>cases r
 | min=>exact PE.imp (xj q (c.gl _ m) l j i f o d n) a
 | max=>exact PE.imp (xj q (c.gl _ m) l j i f o d n) a
 | int=>exact PE.imp (Zu q (c.gl _ m) l j i f o d n) a
 | list=>cases r
 | tuple=>exact PE.imp (Zu q (c.gl _ m) l j i f o d n) a
 | sum=>exact PE.imp (xj q (c.gl _ m) l j i f o d n) a
 | all=>exact PE.imp (xj q (c.gl _ m) l j i f o d n) a
 | any=>cases r
 | sorted=>exact PE.imp (xj q (c.gl _ m) l j i f o d n) a
 | str=>cases r
 | abs=>cases r
def cn (h:mD o=k9) (w):attributeBase o n env w=w:=by
 cases o with
 | Call f a b p=>
  cases a with
  | nil=>exact absurd (h) Ab1
  | cons x a=>cases f<;>rfl
 | _=>rfl
theorem J0 (z): ∀ts:List M.Tx,Str.join (aD z) (ts.map aD)=aD (M.GG z ts)
 | []=>rfl
 | [t]=>rfl
 | t::u::r=>by
  have a:=J0 z (u::r)
  simp only [Ac0,Str.join,M.GG]at a ⊢
  rw [a,jw,jw]
theorem QZ {z:M.Tx}: ∀ts:List M.Tx,(M.GG z ts).length+z.length=(ts.map λt=>t.length+z.length).sum+(if ts= []then z.length else 0)
 | []=>by simp [M.GG]
 | [t]=>by simp [M.GG]
 | t::u::r=>by
  have a:=QZ (z:=z) (u::r)
  simp only [M.GG,List.sum_cons]at a ⊢
  simp at a ⊢
  omega
theorem Z0 (z): ∀ts:List M.Tx,((ts.map aD).map (·.length)).sum+(ts.map aD).length*(aD z).length=(ts.map λt=>t.length+z.length).sum
 | []=>by simp
 | t::ts=>by
  have a:=Z0 z ts
  simp only [Ac0,List.sum_cons,Wb,Aa2,Nat.succ_mul]at a ⊢
  omega
def W8 {z t:M.Tx}{b:Bool}(h:M.GS z t=y0 b):Txt.startswith (aD z) (aD t)=b:=by
 unfold M.GS at h
 split at h
 ·rename_i c
  cases h
  cases z with
  | nil=>rfl
  | cons a r=>
   have d:(aD [c]).length=1:=rfl
   have e:(aD (a::r)).length=r.length+1:=by rw [Wb];rfl
   unfold Txt.startswith
   by_cases q:a=c<;>simp [Builtin.Str.subAt,aD,Str.length,q]
 ·cases h
def EF (go:Go Y F X E k cf)(hm:tK m=k9) (O:(apos.endLine==k6.line)=k9) (R:mD o=k9) (j:Qa x=k9) (P:PE X o (tD Y E (M.eval F a))) (S:PA X [x] (eU Y E (M.Gj F es))):
 PE X (.Call (.Attribute o (Xd (tM m)) apos) [x] [] k6) (tD Y E (M.eval F (.dz m a es))):=by
 cases m with
 | starts=>
  refine PE.imp (rR PySem.F.plainAttrs_str PySem.F.slot_str_startswith PySem.F.type_str_startswith sD vJ P S (cn R _) (by rw [Za j];rfl) O (Za j) rfl) λU H Q L=> ?_
  obtain⟨G,Z,h,s,p⟩:=L
  refine Ja s.heap Ext.refl s p λw1 v1 h1 G1 H1 q N J v f1 e=> ?_
  split at e
  ·rename_i D
   obtain⟨z,i⟩:=Ae8.mp (D)
   cases v.str i
   refine⟨⟨_,rfl⟩,?_⟩
   refine Qs s.heap q J e λy us h2 G2 H2 B n l I d=> ?_
   cases y with
   | nil=>exact d.elim
   | cons w r=>
    cases r with
    | cons _ _=>exact d.elim
    | nil=>
     obtain⟨u,rfl,A⟩:=I.one
     have d:=d
     obtain⟨z',f,V⟩:=d.of
     obtain⟨t,C,p4⟩:=V.of
     obtain⟨b,K,T⟩:=p4.of
     rw [i]at f
     cases f
     cases A.str C
     refine⟨aD z,aD t,rfl,rfl,?_⟩
     rw [W8 K]
     exact(ax.mk T B s.heap).v l.heap rfl
  ·exact e.elim
 | join=>
  refine PE.imp (rR PySem.F.plainAttrs_str PySem.F.slot_str_join PySem.F.type_str_join sD AM P S (cn R _) (by rw [Za j];rfl) O (Za j) rfl) λU H Q L=> ?_
  obtain⟨G,Z,h,s,p⟩:=L
  refine Ja s.heap Ext.refl s p λw1 v1 h1 G1 H1 q N J v f1 e=> ?_
  split at e
  ·rename_i D
   obtain⟨z,i⟩:=Ae8.mp (D)
   cases v.str i
   refine⟨⟨_,rfl⟩,?_⟩
   refine Qs s.heap q J e λy us h2 G2 H2 B n l I d=> ?_
   cases y with
   | nil=>exact d.elim
   | cons w r=>
    cases r with
    | cons _ _=>exact d.elim
    | nil=>
     obtain⟨u,rfl,A⟩:=I.one
     have d:=d
     obtain⟨z',f,d⟩:=d.of
     obtain⟨g,C,d⟩:=d.of
     rw [i]at f
     cases f
     obtain⟨ys,K,q4⟩:=Ac6.mp C
     obtain⟨b,vs,rfl,y2,y3⟩:=ao.lst l.heap A K
     cases wL q4 y3
     split at d
     ·rename_i c
      rw [M.Gc]at c
      refine⟨aD z,b,g.map aD,rfl,rfl,go.K▸y2,?_,?_⟩
      ·unfold JoinOk
       rw [StrLaws.joinTotal]
       have W:=QZ (z:=z) g
       have hs:=Z0 z g
       have: ¬(((g.map aD).map (·.length)).sum+(g.map aD).length*(aD z).length>sizeLine):=by
        have:sizeLine>=3000000:=by decide
        split at W<;>lia
       rw [show Builtin.Str.tooLong _=y9 from decide_eq_false this]
       rfl
      ·rw [J0]
       exact(ax.mk d B s.heap).v l.heap rfl
     ·exact d.elim
  ·exact e.elim
def Dl (a b):(aD a==aD b)=(a==b):=by
 rw [Bool.eq_iff_iff,beq_iff_eq,beq_iff_eq]
 exact⟨λe=>by simpa [aD]using e,λe=>by rw [e]⟩
def u2 (e:Go Y F X E k cf)(i:t≠ .aj) (D:bG cf.sc "isinstance" g=true) (K:bG cf.sc (eM t) y=true) (l:Qa x=true) (u:PE X x (tD Y E (M.eval F a))):PE X (.Call g [x,y] [] pos) (tD Y E (M.eval F (.dj a t))):=by
 obtain⟨p,rfl,C,I⟩:=wb D
 obtain⟨q,rfl,n,A⟩:=wb K
 have b:eM t∈cj:=by cases t<;>first | exact absurd rfl i | decide
 have z:bootBuiltins (Xd (eM t))=y0 (.type (eM t)):=by cases t<;>first | exact absurd rfl i | decide +kernel
 have bi:bootBuiltins _=y0 _:=boot_isinstance
 have d: "isinstance" ∈cj:=by decide
 have f:PE X (.Name (Xd (eM t)) q) (tC (.ty (eM t))):=rB (e.gl _ n) (e.blt _ b) z rfl (zl b) A
 refine PE.imp (xj (Bm e.K) (e.gl _ C) (e.blt _ d) bi (Jc u (Jc f Zk) (Za l)) (zl d) I (Za l) rfl) λU H Q L=> ?_
 obtain⟨G,Z,h,s,p⟩:=L
 rw [M.eval]at p
 refine Ja s.heap Ext.refl s p λB v1 N J R o O m r P j=> ?_
 obtain⟨c,w,j⟩:=j.of
 exact⟨J,N,B,v1,t,c,rfl,i,m.heap,r,w,ar.val j o m.heap (v:= .bl c) rfl trivial⟩
theorem sk (a:Go Y F X E k cf): ∀ {ts}{zs},JA cf ts zs=k9->PA X zs (λ_ H Q=>Q (ts.map λt=> .ref (Y.ca t)) H)/\(∀ t∈ts,t∈Y.own)/\ts.length=zs.length
 | [],[],_=>⟨Zk,λ_ h=>absurd h (by simp),rfl⟩
 | [],_::_,h=>by simp [JA]at h
 | _::_,[],h=>by simp [JA]at h
 | t::ts,z::zs,h=>by
  unfold JA at h
  rw [Aa9,Aa9]at h
  obtain⟨⟨g,c⟩,f⟩:=h
  obtain⟨p,rfl,d,e⟩:=wb g
  obtain⟨i1,i2,i3⟩:=sk a f
  refine⟨?_,λu b=> ?_,congrArg (· +1) i3⟩
  ·exact Jc (zM (v:= .ref (Y.ca t)) (a.gl _ d) (a.cls t c) rfl e) i1
  ·rcases Aa5.mp b with rfl | b
   ·rw [← a.ow];exact Ad6.mp c
   ·exact i2 u b
theorem jP {c:String}(a:eh Y c): ∀ {ts:List String},(∀ t∈ts,t∈Y.own)->PySem.W.kitAny Y.K (.ref (Y.ca c)) ((ts.map Y.ca).map Value.ref)=y0 (ts.any (M.GN Y.cl 8 c).contains)
 | [],_=>rfl
 | t::ts,h=>by
  rw [Ac0,Ac0,PySem.W.kitAny,a.own t (h t Aa),Ag7]
  cases e:(M.GN Y.cl 8 c).contains t with
  | true=>rfl
  | false=>
   exact jP a λu b=>h u (Aa0 _ b)
def sJ {b:Bool}(r:ao Y G H w v) (e:M.cc cl w ts=y0 b): ∃c x j,v= .ref x/\H x=y0 (X8 x (Y.ca c) j)/\eh Y c/\b=ts.any (M.GN cl 8 c).contains:=by
 unfold M.cc at e
 split at e
 ·rename_i c
  obtain⟨_,x,a,_,h,g⟩ | ⟨z,_⟩:=r
  ·exact⟨c,x,u0,a,h,g,(Ae5.inj e).symm⟩
  ·exact absurd rfl z
 ·rename_i c f d
  obtain⟨x,i,u,a,m,h,g,n,k,l,o⟩:=r
  exact⟨c,x,y0 i,a,g,k,(Ae5.inj e).symm⟩
 ·cases e
def yh (d:Go Y F X E k cf)(m:t= "ValueError" \/cf.own.contains t=true) (S:bG cf.sc "isinstance" g=true) (V:bG cf.sc t y=true) (e:Qa x=true) (D:PE X x (tD Y E (M.eval F a))):
 PE X (.Call g [x,y] [] pos) (tD Y E (M.eval F (.cc a k9 [t]))):=by
 obtain⟨p,rfl,P,T⟩:=wb S
 obtain⟨q,rfl,u,w⟩:=wb V
 have bi:=boot_isinstance
 have j: "isinstance" ∈cj:=by decide
 have fin: ∀ v,PE X _ (tC v)->(∀ c,eh Y c-> ∀x b,b= [t].any (M.GN Y.cl 8 c).contains-> ∀f H Q,H x=y0 _->Q (.bl b) H->rl X.K [.ref x,v] H Q) →
  PE X (.Call (.Name _ p) [x,.Name (Xd t) q] [] pos) (tD Y E (M.eval F (.cc a k9 [t]))):=λv L o=>by
  refine PE.imp (xj xZ (d.gl _ P) (d.blt _ j) bi (Jc D (Jc L Zk) (Za e)) (zl j) T (Za e) rfl) λU H Q W=> ?_
  obtain⟨G,Z,h,s,p⟩:=W
  refine Ja s.heap Ext.refl s p λw1 v1 h1 G1 O B e1' R C f1 n=> ?_
  obtain⟨b,I,n⟩:=n.of
  obtain⟨c,K,f,rfl,N,J,A⟩:=sJ C I
  rw [d.cl]at A
  exact o c J K b A f O Q N (ar.val n B R.heap rfl trivial)
 by_cases r:cf.own.contains t=k9
 ·refine fin (.ref _) (zM (d.gl _ u) (d.cls t r) rfl w) λc i x b l f H Q e q=> ?_
  have o:=i.own t (by rw [← d.ow];exact Ad6.mp r)
  refine⟨x,Y.ca c,f,b,d.K▸i.k,e,.inl ⟨Y.ca t,rfl,?_⟩,q⟩
  rw [d.K,o,l]
  simp
 ·have m:=m.elim id λz=>absurd z r
  subst m
  have hU: "ValueError" ∈cj:=by decide
  refine fin (.ty "ValueError") (rB (d.gl _ u) (d.blt _ hU) DI rfl (zl hU) w) fun c i x b l f H Q e q=> ?_
  refine⟨x,Y.ca c,f,b,d.K▸i.k,e,.inr (.inl ⟨"ValueError",rfl,?_⟩),q⟩
  rw [d.K,i.ve,l]
  simp
def An (d:Go Y F X E k cf)(r:zs.length<=1000) (D:bG cf.sc "isinstance" g=true) (K:JA cf ts zs=true) (o:Qa x=true) (v:PE X x (tD Y E (M.eval F a))):
 PE X (.Call g [x,.Tuple zs n p2] [] pos) (tD Y E (M.eval F (.cc a y9 ts))):=by
 obtain⟨p,rfl,B,I⟩:=wb D
 have bi:=boot_isinstance
 have e: "isinstance" ∈cj:=by decide
 obtain⟨i1,i2,i3⟩:=sk d K
 refine PE.imp (xj xZ (d.gl _ B) (d.blt _ e) bi (Jc v (Jc (rS i1) Zk) (Za o)) (zl e) I (Za o) rfl) λU H Q L=> ?_
 obtain⟨G,Z,h,s,p⟩:=L
 refine Ja s.heap Ext.refl s p λP v1 T S R q N C u O i=> ?_
 obtain⟨b,w,i⟩:=i.of
 obtain⟨c,z,J,rfl,l,j,m⟩:=sJ u w
 rw [d.cl]at m
 refine⟨?_,λt f=> ?_⟩
 ·rw [Ac,i3];exact Ag1 (XB r)
 have A:=C.heap.fU (.tup (ts.map λt=> .ref (Y.ca t))) f
 have y:=q.trans s.heap (Qj (.tup (ts.map λt=> .ref (Y.ca t))) f)
 refine⟨z,Y.ca c,J,b,d.K▸j.k,?_,.inr (.inr ⟨t,ts.map Y.ca,rfl,?_,?_⟩),ar.val i y A rfl trivial⟩
 ·rw [xa (zb l f)];exact l
 ·rw [jb,Ag5];rfl
 ·rw [d.K,jP j i2,m]
def Hg (xs:List α) (i):M.aQ xs i=L2.aQ xs i:=rfl
theorem af.aQ (z:af Y G H ds vs) (e:M.aQ ds i=y0 d): ∃v,L2.aQ vs i=y0 v/\aA Y G H d v:=by
 unfold M.aQ at e
 unfold L2.aQ
 rw [z.length]at e
 cases q:M.dt vs.length i with
 | none=>rw [q]at e;cases e
 | some j=>
  rw [q]at e
  obtain⟨v,c,b⟩:=z.get (e)
  refine⟨v,?_,b⟩
  have a:L2.dt vs.length i=y0 j:=q
  rw [a]
  exact c
def jL (a:we y=k9):wU y:=by
 intro o i
 cases y<;>first | rfl | (simp [we]at a)
def Bq (u:Go Y F X E k cf) (R:we y=k9) (B:PE X x (tD Y E (M.eval F a))) (D:PE X y (tD Y E (M.eval F b))):PE X (.Subscript x y pos) (tD Y E (M.eval F (.ix a b))):=by
 refine PE.imp (pf vS B D (jL R)) λU H Q S=> ?_
 obtain⟨G,Z,h,s,p⟩:=S
 refine Ja s.heap Ext.refl s p λC v1 h1 G1 H1 A T w g f1 L=> ?_
 refine Ja s.heap A w L λw2 v2 K W H2 r n o N f2 j=> ?_
 obtain⟨d,q,j⟩:=j.of
 have g:=g.ext n w.heap
 unfold M.cR at q
 split at q
 ·rename_i i O
  cases N.int O
  split at q
  ·rename_i m P
   cases g.str P
   split at q
   ·rename_i V
    cases c:M.aQ m i with
    | none=>rw [c]at q;cases q
    | some J=>
     rw [c]at q
     cases q
     refine .inr (.inr ⟨aD m,i,J,rfl,rfl,by rw [Wb];have:=qo;lia,?_,ar.val j r o.heap rfl trivial⟩)
     have:(aD m).cps.toList=m:=by simp [aD]
     exact c
   ·cases q
  ·cases c:C.seq? K with
   | none=>rw [c]at q;cases q
   | some ds=>
    rw [c]at q
    obtain⟨l,t,rfl,f,I⟩:=g.seq o.heap c
    obtain⟨v,e,rd⟩:=I.aQ (q)
    have z:=ar.val j r o.heap rd trivial
    obtain f | f:=f
    ·exact .inl ⟨l,t,i,v,rfl,rfl,u.K▸f,e,z⟩
    ·exact .inr (.inl ⟨l,t,i,v,rfl,rfl,u.K▸f,e,z⟩)
 ·cases q
end
section
variable {Y:Ge}{F:M.Fx}{X:Cx}{E:XK}{k:Nat}{cf:Cf}{a b c:M.E}{x y z:Expr}{pos p2:Pos}
def mw (xs:List α) (lo hi):M.cut xs lo hi=(xs.drop (HT.aK xs.length 0 lo)).take (HT.aK xs.length xs.length hi-HT.aK xs.length 0 lo):=by
 unfold M.cut
 have e: ∀d o,M.aK xs.length d o=HT.aK xs.length d o:=λd o=>by cases o<;>rfl
 rw [e,e]
theorem af.cut (z:af Y G H ds vs) (lo hi):af Y G H (M.cut ds lo hi) (i7 vs lo hi):=by
 rw [mw]
 rw [z.length]
 exact(z.drop _).take _
def nS {d b:Option Int}(n:ak Y G0 h0 H0) (e:Ext G0 H0 G H) (i:ak Y G h H) (r:ao Y G H w v)
 (p:ar Y E G0 H0 (M.dW w d b h) λw _ G' H'=> ∀v,ao Y G' H' w v->aF Z U H0 w v->Q v H'):((nI Y.K v d b H Q\/nG Y.K v d b H Q)\/mX Y.K v d b H Q)\/mQ v d b H Q:=by
 unfold M.dW at p
 split at p
 ·rename_i z q
  cases r.str q
  split at p
  ·rename_i c
   have t:=qo
   refine .inr ⟨_,rfl,by rw [Wb];lia,?_⟩
   have s:iq (aD z) d b=aD (M.cut z d b):=by
    unfold iq
    rw [Wb,mw]
    simp [aD]
   exact ax.v (ax.mk p e n) i rfl
  ·exact p.elim
 ·split at p
  ·rename_i m q
   obtain⟨l,f,rfl,j,g⟩:=r.tup q
   by_cases c:HT.aK f.length 0 d=0/\HT.aK f.length f.length b=f.length
   ·have o:M.cut m d b=m:=by
     rw [mw,g.length,c.1,c.2,List.drop_zero,Nat.sub_zero,←g.length,Ak1]
    rw [o]at p
    exact .inl (.inr ⟨l,f,rfl,j.sq,c.1,c.2,p G H e i _ ⟨l,f,rfl,j,g⟩ trivial⟩)
   ·exact .inl (.inl (.inr ⟨l,f,rfl,j.sq,c,λa k=>ax.tup (ax.mk p e n) i (g.cut d b) a k⟩))
  ·split at p
   ·rename_i m q
    obtain⟨l,f,rfl,j,g⟩:=r.lst i q
    exact .inl <| .inl <| .inl ⟨l,f,rfl,j,λa k=>ax.own (ax.mk p e n) i (g.cut d b) a k⟩
   ·exact p.elim
def AZ (K:Aa4):V->Option Int->Option Int->Hp->VK->Prop:=λx lo hi H Q=>((nI K x lo hi H Q\/nG K x lo hi H Q)\/mX K x lo hi H Q)\/mQ x lo hi H Q
def m9:fv X (AZ X.K):=((fZ.or uH).or Dm).or Qt
def A0 (A:Go Y F X E k cf){m e:M.E}(r:PE X x (tD Y E (M.eval F a))) (o:PE X l (tD Y E (M.eval F m))) (y:PE X u (tD Y E (M.eval F e))):PE X (.Subscript x (.Slice (y0 l) (y0 u) u0 p2) pos) (tD Y E (M.eval F (.sl a m e))):=by
 refine PE.imp (jI m9 r (JL o) (JL y)) λU H Q J=> ?_
 obtain⟨G,Z,h,s,p⟩:=J
 refine Ja s.heap Ext.refl s p λP v1 h1 G1 S n K g q O B=> ?_
 refine Ja s.heap n g B λw2 v2 T N R w b f C W p2=> ?_
 obtain⟨i,I,p2⟩:=p2.of
 refine⟨i,C.int I,?_⟩
 refine Ja s.heap w f p2 λL v3 h3 G3 V t d D z f3 c=> ?_
 obtain⟨j,v,c⟩:=c.of
 exact⟨j,z.int v,A.K▸nS s.heap t D.heap ((q.ext b g.heap).ext d f.heap) c⟩
def Ed (n:Go Y F X E k cf){d:M.E}(j:PE X x (tD Y E (M.eval F a))) (f:PE X l (tD Y E (M.eval F d))):PE X (.Subscript x (.Slice (y0 l) u0 u0 p2) pos) (tD Y E (M.eval F (.fG a d))):=by
 refine PE.imp (jI m9 j (JL f) rk) λU H Q u=> ?_
 obtain⟨G,Z,h,s,p⟩:=u
 refine Ja s.heap Ext.refl s p λz v1 K J B e v c g y o=> ?_
 refine Ja s.heap e c o λI v2 C w A m b r q D p2=> ?_
 obtain⟨i,t,p2⟩:=p2.of
 exact⟨i,q.int t,n.K▸nS s.heap m r.heap (g.ext b c.heap) p2⟩
def Er (l:Go Y F X E k cf)(f:PE X x (tD Y E (M.eval F a))) (j:PE X u (tD Y E (M.eval F hi))):PE X (.Subscript x (.Slice u0 (y0 u) u0 p2) pos) (tD Y E (M.eval F (.eW a hi))):=by
 refine PE.imp (jI m9 f rk (JL j)) λU H Q r=> ?_
 obtain⟨G,Z,h,s,p⟩:=r
 refine Ja s.heap Ext.refl s p λy v1 J I A d t c e w m=> ?_
 refine Ja s.heap d c m λD v2 B v z g b o n C p2=> ?_
 obtain⟨i,q,p2⟩:=p2.of
 exact⟨i,n.int q,l.K▸nS s.heap g o.heap (e.ext b c.heap) p2⟩
def uy {st:Expr}(h:lD st=k9): ∃k p q,st= .UnaryOp .USub (.Constant (.int 1) k p) q:=by
 unfold lD at h
 split at h
 ·exact⟨_,_,_,rfl⟩
 ·cases h
def FP (r:Go Y F X E k cf){st:Expr}(d:lD st=k9) (i:PE X x (tD Y E (M.eval F a))):PE X (.Subscript x (.Slice u0 u0 (y0 st) p2) pos) (tD Y E (M.eval F (.rev a))):=by
 obtain⟨v,y,B,rfl⟩:=uy d
 refine PE.imp (Ay i (rF rb mv)) λU H Q t=> ?_
 obtain⟨G,Z,h,s,p⟩:=t
 refine Ja s.heap Ext.refl s p λA v1 I D C f u e g w c=> ?_
 obtain⟨z,q,c⟩:=c.of
 obtain⟨l,j,rfl,m,n⟩:=g.lst e.heap q
 exact⟨1,rfl,rfl,l,j,rfl,r.K▸m,λo b=>ax.own (ax.mk c f s.heap) e.heap n.reverse o b⟩
def Gh.cell (G:Gh) (a:Addr):Gh:= { G with aO:=λr=>if r=G.n then a else G.aO r,n:=G.n+1 }
def Q3 (a):Mon G H (G.cell a) H:=⟨λ_ _ _ z=>z,Af3 _,λr b=>by show(if r=G.n then a else G.aO r)=_;rw [if_neg (by lia)],λ_ z=>z⟩
def j0 {a:Addr}{c:M.Cell}(d:ak Y G h H) (n: ¬G.fz a) (l:dF G a) (z:bx Y G H a c):ak Y (G.cell a) (h++ [c]) H where
 len:=by rw [Aa3,d.len];rfl
 any:=λr g q=>by
  show ¬G.fz (if r=G.n then a else G.aO r)/\bx Y (G.cell a) H (if r=G.n then a else G.aO r) g
  by_cases i:r=G.n
  ·rw [if_pos i]
   rw [i,←d.len,Ad8 (Aa6 _),Nat.sub_self]at q
   cases q
   exact⟨n,z.mon (Q3 a) λ_ e=>e⟩
  ·rw [if_neg i]
   have j:r<G.n:=by
    have:=(Ab9.mp q).1
    rw [Aa3,d.len]at this
    simp at this
    omega
   rw [Ad2 (by rw [d.len];exact j)]at q
   exact⟨(d.any r g q).1,(d.any r g q).2.mon (Q3 a) λ_ e=>e⟩
 inj:=λr s m k e=>by
  have m:r<G.n+1:=m
  have k:s<G.n+1:=k
  have e:(if r=G.n then a else G.aO r)=(if s=G.n then a else G.aO s):=e
  by_cases f:r=G.n
  ·by_cases b:s=G.n
   ·omega
   ·rw [if_pos f,if_neg b]at e
    exact absurd e.symm (l s (by omega))
  ·by_cases b:s=G.n
   ·rw [if_neg f,if_pos b]at e
    exact absurd e (l r (by omega))
   ·rw [if_neg f,if_neg b]at e
    exact d.inj r s (by omega) (by omega) e
 live:=d.live
def WP {a:Addr}(f:ak Y G h H) (b: ¬G.fz a) (d:dF G a) (e:H a=y0 (.lst vs)) (z:af Y G H xs vs) (c:M.Gg xs=k9):ak Y (G.cell a) (h++ [.lst xs]) H:=j0 f b d ⟨c,vs,e,z⟩
def yY {a:Addr}(d:ak Y G h H) (b: ¬G.fz a) (c:dF G a)(e:H a=y0 (.ins (Y.ca c0) dx0 [])):ak Y (G.cell a) (h++ [.obj c0 []]) H:=j0 d b c ⟨rfl,dx0,[],e,rfl⟩
def jJ {a:Addr}(e:Ext G0 H0 G H) (f:H0 a=u0):Ext G0 H0 (G.cell a) H where
 keep:=e.keep
 le:=Ab8 e.le (Af3 _)
 aO:=λr d=>by show(if r=G.n then a else G.aO r)=_;rw [if_neg (by have:=e.le;omega)];exact e.aO r d
 new:=λr g c=>by
  have c:r<G.n+1:=c
  show H0 (if r=G.n then a else G.aO r)=u0
  by_cases b:r=G.n
  ·rw [if_pos b];exact f
  ·rw [if_neg b];exact e.new r g (by omega)
 fz:=e.fz
 old:=e.old
 cells:=e.cells
def AG (n:PE X x (tD Y E (M.eval F a))):PE X x (tD Y E (M.eval F (.share a))):=by
 refine PE.imp n λU H Q z=> ?_
 obtain⟨G,Z,h,s,p⟩:=z
 refine Ja s.heap Ext.refl s p λt v1 e g C j A i m o b=> ?_
 cases t with
 | own c=>
  obtain⟨l,B,rfl,u,w,q,y⟩:=m
  obtain⟨D,r,k⟩:=o
  cases r
  have b:ar Y E G H (if M.Gg c=k9 then M.aH _ (e++ [.lst c])else .fail) _:=b
  by_cases f:M.Gg c=k9
  rotate_left
  ·rw [if_neg f]at b;exact b.elim
  rw [if_pos f]at b
  refine ar.val b (jJ j k) (WP i.heap u w q y f) ?_ trivial
  show e.length<g.n+1/\V.ref l= .ref (if e.length=g.n then l else g.aO e.length)
  rw [i.heap.len,if_pos rfl]
  exact⟨Ae4 _,rfl⟩
 | v d=>exact b.elim
 | bor c=>exact b.elim
end
structure jr (Y:Ge) (J:It) (ds:List M.D) (C:Gh->Hp->Prop):Prop where
 go: ∀i G H,C G H->i<ds.length->J.go i H
 ek: ∀i G H x H',C G H->i<ds.length->J.ek i H x H'-> ∃G',Ext G H G' H'/\(∀ h,ak Y G h H->ak Y G' h H')/\ ∃d,ds[i]? =y0 d/\aA Y G' H' d x
 stop: ∀i G H,C G H->ds.length<=i->i<=ds.length->J.stop i H
 keep: ∀G H G' H' h,C G H->Ext G H G' H'->ak Y G h H->C G' H'
noncomputable def Jk (Z:M.Sl) (U:St) (H:Hp):Hp:=λa=>open Classical in if ∃(i:Nat) (xs:List M.D),M.Gk Z i=y0 (.own xs)/\U[i]? =y0 (y0 (.ref a))then u0 else H a
def ew (Y:Ge) (E:XK) (a:Bool) (m:M.Sl->M.AH->M.R (List M.D)):TI:=λU H R=> ∃G Z h,au Y G Z h U H/\ar Y E G H (m Z h) λds _ G' H'=> ∀J C,jr Y J ds C->C G' H'->(a=k9->C G' (Jk Z U H'))->R J H'
def PI.imp (h:PI X tg e t) (k: ∀U H R,t' U H R->t U H R):PI X tg e t':=λa s U H R I q=>h a s U H R I (k _ _ _ q)
section
variable {Y:Ge}{F:M.Fx}{X:Cx}{E:XK}{k:Nat}{cf:Cf}{a b c:M.E}{x y z tg:Expr}{pos p2:Pos}{lp:Bool}
def iI (Y:Ge) (G:Gh) (H:Hp) (l:Addr) (vs:List V):Prop:=(Rd H l (.lst vs)/\dF G l)\/rr Y l vs
def CL (Y:Ge) (ds:List M.D) (l:Addr) (vs:List V) (G:Gh) (H:Hp):Prop:=iI Y G H l vs/\af Y G H ds vs
def iI.sq (z:iI Y G H l vs):bu Y.K H l vs:=z.elim (λz=> .inl z.1) .inr
def ij.lq (z:ij Y G H l vs) (a:ak Y G h H):iI Y G H l vs:=z.elim (λz=> .inl ⟨z.2,a.off z.1⟩) .inr
def CL.keep (z:CL Y ds l vs G H) (e:Ext G H G' H') (d:ak Y G h H):CL Y ds l vs G' H':=by
 obtain⟨a,c⟩:=z
 refine⟨?_,c.ext e d⟩
 obtain⟨a,b⟩ | a:=a
 ·refine .inl ⟨e.rd a b,?_⟩
  obtain a | ⟨o,a⟩:=a
  ·exact e.off a b
  ·exact e.off a b
 ·exact .inr a
def CL.walk {K:Aa4}(d:K=Y.K):jr Y (lA K l) ds (CL Y ds l vs) where
 go:=by
  rintro i G H ⟨b,c⟩ a
  obtain⟨v,e,_⟩:=c.get (Aa7 a)
  exact⟨vs,v,d▸b.sq,e⟩
 ek:=by
  rintro i G H x g ⟨b,c⟩ a ⟨e,y⟩
  subst e
  obtain⟨v,e,rd⟩:=c.get (Aa7 a)
  have:=y vs (d▸b.sq)
  rw [e]at this
  cases this
  exact⟨G,Ext.refl,λ_ q=>q,_,Aa7 a,rd⟩
 stop:=λi G H ⟨b,c⟩ a _=>⟨vs,d▸b.sq,by rw [← c.length];exact a⟩
 keep:=λG H j g h z e f=>z.keep e f
def CT (Y:Ge) (ds:List M.D) (l:Addr) (vs:List V) (G:Gh) (H:Hp):Prop:=gA Y G H l vs/\af Y G H ds vs
def gA.mon (z:gA Y G H l vs) (e:Mon G H G' H'):gA Y G' H' l vs:=z.elim (λz=> .inl ⟨e.fz l z.1,e.keep l _ z.1 z.2⟩) λz=> .inr z
def CT.walk {K:Aa4}(d:K=Y.K):jr Y (iu K l) ds (CT Y ds l vs) where
 go:=by
  rintro i G H ⟨b,c⟩ a
  obtain⟨v,e,_⟩:=c.get (Aa7 a)
  exact⟨vs,v,d▸b.sq,e⟩
 ek:=by
  rintro i G H x g ⟨b,c⟩ a ⟨e,y⟩
  subst e
  obtain⟨v,e,rd⟩:=c.get (Aa7 a)
  have:=y vs (d▸b.sq)
  rw [e]at this
  cases this
  exact⟨G,Ext.refl,λ_ q=>q,_,Aa7 a,rd⟩
 stop:=λi G H ⟨b,c⟩ a _=>⟨vs,d▸b.sq,by rw [← c.length];exact a⟩
 keep:=λG H j g h z e f=>⟨z.1.mon (e.mon f),z.2.ext e f⟩
def CL.eJ {K:Aa4}(d:K=Y.K):jr Y (lL K l vs.length) ds.reverse (CL Y ds l vs) where
 go:=λi G H ⟨c,b⟩ a=>⟨vs,d▸c.sq,rfl,by rw [← b.length];simpa using a⟩
 ek:=by
  rintro i G H x k ⟨c,b⟩ a ⟨e,y⟩
  subst e
  obtain⟨v,e,rd⟩:=b.reverse.get (Aa7 a)
  have:=y vs (d▸c.sq)
  have f:i<vs.length:=by rw [← b.length];simpa using a
  rw [List.getElem?_reverse f,this]at e
  cases e
  exact⟨G,Ext.refl,λ_ q=>q,_,Aa7 a,rd⟩
 stop:=by
  rintro i G H ⟨c,b⟩ a j
  have m:=b.length
  rw [List.length_reverse]at a j
  show i=vs.length
  omega
 keep:=λG H n k h z e g=>z.keep e g
def qH {b:Int}:jr Y (iP b n) ((Ab7 n).map λ(i:Nat)=>M.D.int (b+(i:Int))) (λ_ _=>True) where
 go:=λi G H _ a=>show i<n by simpa using a
 ek:=λi G H x d _ a c=>by
  obtain⟨e,y⟩:=c
  subst e y
  have a:=by simpa using a
  exact⟨G,Ext.refl,λ_ q=>q,.int (b+i),by simp [a],rfl⟩
 stop:=λi G H _ a _=>show n<=i by simpa using a
 keep:=λ_ _ _ _ _ _ _ _=>trivial
def qC {z:M.Tx}:jr Y (hZ (aD z)) (M.c9 z) (λ_ _=>True) where
 go:=λi G H _ a=>by
  have a:=by simpa [M.c9]using a
  exact⟨z[i],by simp [aD,a]⟩
 ek:=λi G H x g _ a f=>by
  obtain⟨e,c,b,d⟩:=f
  subst e d
  have a:=by simpa [M.c9]using a
  have b:=by simpa [aD]using b
  exact⟨G,Ext.refl,λ_ q=>q,.str [c],by simp [M.c9,b],rfl⟩
 stop:=λi G H _ a _=>by
  have a:=by simpa [M.c9]using a
  show(aD z).cps[i]? =u0
  simp [aD,a]
 keep:=λ_ _ _ _ _ _ _ _=>trivial
def xk (a: ¬ ∃ i xs,M.Gk Z i=y0 (.own xs)/\U[i]? =y0 (y0 (.ref l))):Jk Z U H l=H l:=by
 unfold Jk
 rw [if_neg a]
def Js (s:au Y G Z h U H)(e:M.Gk Z i=y0 (.own xs)) (j:U[i]? =y0 (y0 (.ref l))): ¬G.fz l/\dF G l/\ ∃vs,H l=y0 (.lst vs)/\af Y G H xs vs:=by
 obtain⟨v,b,a,vs,g,c,d,f,k⟩:=s.slot i _ e
 rw [j]at b
 cases b
 cases g
 exact⟨c,d,vs,f,k⟩
def jt (s:au Y G Z h U H):Mon G H G (Jk Z U H):=by
 refine⟨λa o z e=> ?_,Aa6 _,λ_ _=>rfl,λ_ z=>z⟩
 rw [xk λ⟨i,d,b,c⟩=>(Js s b c).1 z]
 exact e
def uc (q:Go Y F X E k cf) (B:PE X x (tD Y E (M.eval F a))):PI X tg x (ew Y E y9 (M.Gr F (.seq a))):=by
 refine PI.imp (mq B) λU H R I=> ?_
 obtain⟨G,Z,h,s,p⟩:=I
 refine Ja s.heap Ext.refl s p λD v1 K o e t L r m N c=> ?_
 have lst: ∀ {f},ar Y E G H (.ok f K) (λf x A y=> ∀J C,jr Y J f C->C A y->(y9=k9->C A (Jk Z U y))->R J y)->(∃ l b,v1= .ref l/\iI Y o e l b/\af Y o e f b) →
  (∃ a,v1= .ref a/\(∃ u,bu X.K e a u)/\R _ e)\/(∃ a,v1= .ref a/\(∃ u,cJ X.K e a u)/\R (iu X.K a) e)\/ ∃z,v1= .str z/\R (hZ z) e:=λ{f} p ⟨l,b,g,i,n⟩=>
  .inl ⟨l,g,⟨b,q.K▸i.sq⟩,p o e t r.heap _ _ (CL.walk q.K) ⟨i,n⟩ λz=>absurd z Ab1⟩
 cases D with
 | v d=>
  cases d with
  | tup f=>
   obtain⟨l,b,rfl,i,j⟩:=m
   exact .inr (.inl ⟨l,rfl,⟨b,q.K▸i.sq⟩,c o e t r.heap _ _ (CT.walk q.K) ⟨i,j⟩ λz=>absurd z Ab1⟩)
  | lst f=>obtain⟨l,b,g,i,j⟩:=m;exact lst c ⟨l,b,g,i.lq r.heap,j⟩
  | aj=>exact c.elim
  | bl _=>exact c.elim
  | int _=>exact c.elim
  | str z=>
   cases (show v1= .str (aD z)from m)
   exact .inr (.inr ⟨_,rfl,c o e t r.heap _ _ qC trivial λz=>absurd z Ab1⟩)
  | ref _=>exact c.elim
  | exc _ _=>exact c.elim
  | err _ _ _=>exact c.elim
 | own f=>obtain⟨l,b,g,_,j,n,w⟩:=m;exact lst c ⟨l,b,g,.inl ⟨.inl n,j⟩,w⟩
 | bor f=>obtain⟨l,b,g,j,n,w⟩:=m;exact lst c ⟨l,b,g,.inl ⟨n,j⟩,w⟩
def DF (n:Int):((Ab7 n.toNat).map λ(i:Nat)=>M.D.int (i:Int))=(Ab7 n.toNat).map λ(i:Nat)=>M.D.int (0+(i:Int)):=by
 congr 1;funext i;rw [Int.zero_add]
def ZT: "range" ∈cj:=by decide
def jB (d:Go Y F X E k cf)(r:bG cf.sc "range" g=true) (e:Qa x=true) (j:PE X x (tD Y E (M.eval F a))):PI X tg (.Call g [x] [] pos) (ew Y E lp (M.Gr F (.aJ a))):=by
 obtain⟨p,rfl,m,z⟩:=wb r
 refine PI.imp (yN (d.gl _ m) (d.blt _ ZT) (Jc j Zk (Za e)) (Za e)) λU H R u=> ?_
 obtain⟨G,Z,h,s,p⟩:=u
 refine Ja s.heap Ext.refl s p λy v1 A t l f v o i w b=> ?_
 obtain⟨n,q,b⟩:=b.of
 split at b
 ·rename_i c
  rw [M.GI]at c
  cases i.int q
  rw [DF]at b
  exact⟨n,rfl,c.1,c.2,b t l f o.heap _ _ qH trivial λ_=>trivial⟩
 ·exact b.elim
def jC (i:Go Y F X E k cf)(J:bG cf.sc "range" g=true) (l:Qa x=true) (f:Qa y=true) (u:PE X x (tD Y E (M.eval F a))) (z:PE X y (tD Y E (M.eval F b))):PI X tg (.Call g [x,y] [] pos) (ew Y E lp (M.Gr F (.cb a b))):=by
 obtain⟨p,rfl,j,S⟩:=wb J
 refine PI.imp (CC (i.gl _ j) (i.blt _ ZT) (Jc u (Jc z Zk (Za f)) (Za l)) (by rw [Za l,Za f];rfl) (Za f)) λU H R K=> ?_
 obtain⟨G,Z,h,s,p⟩:=K
 refine Ja s.heap Ext.refl s p λO v1 W V P r L I t N e=> ?_
 obtain⟨n,q,e⟩:=e.of
 refine Ja s.heap r I e λT v2 j v B w o D C Q d=> ?_
 obtain⟨m,A,d⟩:=d.of
 split at d
 ·rename_i c
  rw [M.GI]at c
  cases t.int q
  cases C.int A
  exact⟨n,m,rfl,⟨c.1.1,c.1.2,c.2.1,c.2.2⟩,d v B w D.heap _ _ qH trivial λ_=>trivial⟩
 ·exact d.elim
def EO {b:Int}:jr Y (mI b n) ((Ab7 n).map λ(i:Nat)=>M.D.int (b+(i:Int)*2)) (λ_ _=>True) where
 go:=λi G H _ a=>show i<n by simpa using a
 ek:=λi G H x d _ a c=>by
  obtain⟨e,y⟩:=c
  subst e y
  have a:=by simpa using a
  exact⟨G,Ext.refl,λ_ q=>q,.int (b+ i*2),by simp [a],rfl⟩
 stop:=λi G H _ a _=>show n<=i by simpa using a
 keep:=λ_ _ _ _ _ _ _ _=>trivial
def WC (f:Go Y F X E k cf)(I:bG cf.sc "range" g=true) (j:Qa x=true) (e:Qa y=true) (t:PE X x (tD Y E (M.eval F a))) (w:PE X y (tD Y E (M.eval F b))):PI X tg (.Call g [x,y,.Constant (.int 2) n2 p2] [] pos) (ew Y E lp (M.Gr F (.bM a b))):=by
 obtain⟨p,rfl,i,Q⟩:=wb I
 refine PI.imp (EM (f.gl _ i) (f.blt _ ZT) (Jc t (Jc w (Jc (mv) Zk (Za rfl)) (Za e)) (Za j)) (by rw [Za j,Za e];rfl) (by rw [Za e];rfl)) λU H R J=> ?_
 obtain⟨G,Z,h,s,p⟩:=J
 refine Ja s.heap Ext.refl s p λN v1 V T O o K D r L d=> ?_
 obtain⟨n,q,d⟩:=d.of
 refine Ja s.heap o D d λS v2 i u A v l C B P p2=> ?_
 obtain⟨m,z,p2⟩:=p2.of
 split at p2
 ·rename_i c
  rw [M.GT]at c
  cases r.int q
  cases B.int z
  exact⟨n,m,rfl,⟨by omega,by omega,by omega,by omega⟩,p2 u A v C.heap _ _ EO trivial λ_=>trivial⟩
 ·exact p2.elim
def nC: "reversed" ∈cj:=by decide
def Fu (o:Go Y F X E k cf)(N:bG cf.sc "reversed" g=true) (y:Qa x=true) (D:PE X x (tD Y E (M.eval F a))):PI X tg (.Call g [x] [] pos) (ew Y E false (M.Gr F (.rev a))):=by
 obtain⟨p,rfl,L,T⟩:=wb N
 refine PI.imp (ni (o.gl _ L) (o.blt _ nC) (Jc D Zk (Za y)) (Za y)) λU H R O=> ?_
 obtain⟨G,Z,h,s,p⟩:=O
 refine Ja s.heap Ext.refl s p λI v1 P t m B Q A q S b=> ?_
 have lst: ∀ {e},ar Y E G H (.ok e.reverse P) (λe x w u=> ∀J C,jr Y J e C->C w u->(y9=k9->C w (Jk Z U u))->R J u)->(∃ l c,v1= .ref l/\iI Y t m l c/\af Y t m e c) →
  ∃a K,[v1]= [.ref a]/\bu X.K m a K/\R _ m:=λ{e} p ⟨l,c,f,n,i⟩=>
  ⟨l,c,by rw [f],o.K▸n.sq,p t m B A.heap _ _ (CL.eJ o.K) ⟨n,i⟩ λz=>absurd z Ab1⟩
 cases I with
 | v d=>
  cases d with
  | lst e=>obtain⟨l,c,f,n,j⟩:=q;exact lst b ⟨l,c,f,n.lq A.heap,j⟩
  | tup _=>exact b.elim
  | aj=>exact b.elim
  | bl _=>exact b.elim
  | int _=>exact b.elim
  | str _=>exact b.elim
  | ref _=>exact b.elim
  | exc _ _=>exact b.elim
  | err _ _ _=>exact b.elim
 | own e=>obtain⟨l,c,f,_,j,i,r⟩:=q;exact lst b ⟨l,c,f,.inl ⟨.inl i,j⟩,r⟩
 | bor e=>obtain⟨l,c,f,j,i,r⟩:=q;exact lst b ⟨l,c,f,.inl ⟨i,j⟩,r⟩
end
section
variable {Y:Ge}{F:M.Fx}{X:Cx}{E:XK}{k:Nat}{cf:Cf}
theorem Jf: ∀(Z) (i j) (w),M.Gk (M.GE Z i w) j=if j=i/\i<Z.length then y0 w else M.Gk Z j
 | [],i,j,w=>by simp
 | x::r,0,0,w=>by simp
 | x::r,0,j+1,w=>by simp
 | x::r,i+1,0,w=>by simp
 | x::r,i+1,j+1,w=>by
  have:=Jf r i j w
  simp only [M.GE,M.Gk,this,Aa2]
  by_cases h:j=i/\i<r.length
  ·rw [if_pos h,if_pos (by omega)]
  ·rw [if_neg h,if_neg (by omega)]
theorem Xn: ∀(Z) (i) (w),(M.GE Z i w).length=Z.length
 | [],_,_=>rfl
 | _::_,0,_=>rfl
 | _::r,i+1,w=>by simp [Xn r i w]
theorem jp: ∀ {Z}{i}{w},M.Gk Z i=y0 w->i<Z.length
 | [],_,_,e=>by simp at e
 | _::_,0,_,_=>by simp
 | _::r,i+1,w,e=>by
  have:=jp (by simpa using e)
  simp;omega
theorem au.set (s:au Y G Z h U H)(r:ao Y G H w v)
 (o:eZ w=k9-> ∀ j J,j≠i->M.Gk Z j=y0 J->eZ J=k9-> ∀a,v= .ref a->U[j]? ≠y0 (y0 (.ref a))):au Y G (M.GE Z i w) h (U.set i (y0 v)) H where
 len:=by rw [Xn,Ac5];exact s.len
 slot:=λj J e=>by
  rw [Jf]at e
  by_cases c:j=i/\i<Z.length
  ·rw [if_pos c]at e
   cases e
   obtain⟨rfl,c⟩:=c
   exact⟨v,Ac4 (by rw [← s.len];exact c),r⟩
  ·rw [if_neg c]at e
   have B:=λz=>c ⟨z,by subst z;exact jp e⟩
   obtain⟨t,u,y⟩:=s.slot j J e
   exact⟨t,by rw [Ac7 (Ne.symm B)];exact u,y⟩
 apart:=λp q A J a b f d m l=>by
  rw [Jf]at f d
  by_cases k:p=i/\i<Z.length
  ·rw [if_pos k]at f
   cases f
   obtain⟨rfl,k⟩:=k
   rw [if_neg (λz=>b z.1.symm)]at d
   rw [Ac4 (by rw [← s.len];exact k)]at l
   cases l
   rw [Ac7 b]
   exact o rfl q J (Ne.symm b) d m a rfl
  ·rw [if_neg k]at f
   have n:=λz=>k ⟨z,by subst z;exact jp f⟩
   rw [Ac7 (Ne.symm n)]at l
   by_cases g:q=i/\i<Z.length
   ·rw [if_pos g]at d
    cases d
    obtain⟨rfl,g⟩:=g
    rw [Ac4 (by rw [← s.len];exact g)]
    intro z
    cases z
    exact o m p _ n f rfl a rfl l
   ·rw [if_neg g]at d
    have x:=λz=>g ⟨z,by subst z;exact jp d⟩
    rw [Ac7 (Ne.symm x)]
    exact s.apart p q A J a b f d m l
 heap:=s.heap
def au.dq (s:au Y G Z h U H)(r:aA Y G H d v):au Y G (M.GE Z i (.v d)) h (U.set i (y0 v)) H:=s.set r λz=>by cases z
def fS:List Nat->List V->St->St
 | i::is,v::a,U=>fS is a (U.set i (y0 v))
 | _,_,U=>U
theorem JH : ∀ {is}{ds}{vs}{Z j}{U},M.aR is ds Z=y0 j->af Y G H ds vs->au Y G Z h U H->au Y G j h (fS is vs U) H/\is.length=vs.length
 | [],[],_,_,_,_,e,rfl,s=>by cases e;exact⟨s,rfl⟩
 | [],_::_,_,_,_,_,e,_,_=>by simp [M.aR]at e
 | _::_,[],_,_,_,_,e,_,_=>by simp [M.aR]at e
 | i::is,d::ds,_,_,_,_,e,⟨v,r,rfl,b,c⟩,s=>by
  obtain⟨f,a⟩:=JH (by simpa [M.aR]using e) c (s.dq b)
  exact⟨f,congrArg (· +1) a⟩
def gM (Y:Ge) (tg:List Nat) (one:Bool):TG:=λv U H Q=>match one with
 | true=> ∃i,tg= [i]/\Q (U.set i (y0 v)) H
 | false=> ∃G ds b a,v= .ref a/\gA Y G H a b/\af Y G H ds b/\tg.length=b.length/\Q (fS tg b U) H
theorem jR (b:Go Y F X E k cf): ∀ {is}{es},Jq cf is es=k9->iV X es (λvs U H Q=>vs.length=is.length/\Q (fS is vs U) H)
 | [],[],_=>λa s U H vs f Q I r h=>by
  have c:=Ag3 h.1
  subst c
  exact uf a s U H [] f Q I r ⟨rfl,h.2⟩
 | [],_::_,h=>by simp [Jq]at h
 | _::_,[],h=>by simp [Jq]at h
 | i::is,e::es,h=>by
  cases e with
  | Name x p=>
   simp only [Jq,Aa9,decide_eq_true_eq]at h
   obtain⟨⟨m,j⟩,l⟩:=h
   have g:=jR b l
   have c:=b.hH x j
   have d:=uY (si (pos:=p) (by rw [b.N];exact b.nd) (by rw [b.N];exact m) c.1 c.2) g
   intro a s U H vs f Q I r q
   refine d a s U H vs f Q I r ?_
   cases vs with
   | nil=>simp at q
   | cons v vs=>
    refine⟨v,vs,rfl,?_⟩
    exact⟨by simpa using q.1,q.2⟩
  | _=>simp [Jq]at h
theorem rY : ∀ {is}{es},Jq cf is es=k9->(assignEach es env).length=is.length/\(assignEach es env).findIdx? (·.1)=u0
 | [],[],_=>⟨rfl,rfl⟩
 | [],_::_,h=>by simp [Jq]at h
 | _::_,[],h=>by simp [Jq]at h
 | i::is,e::es,h=>by
  cases e with
  | Name x p=>
   simp only [Jq,Aa9]at h
   obtain⟨c,b⟩:=rY h.2
   have a:assignEach (.Name x p::es) env=(y9,assign (.Name x p) env)::assignEach es env:=rfl
   rw [a]
   refine⟨congrArg (· +1) c,?_⟩
   rw [List.findIdx?_cons]
   simp [b]
  | _=>simp [Jq]at h
def zt (d:Go Y F X E k cf)(h:Xf cf tg one e=k9):PG X e (gM Y tg one):=by
 cases one with
 | true=>
  cases e with
  | Name x p=>
   simp [Xf,Aa9]at h
   cases tg with
   | nil=>simp at h
   | cons i r=>
    cases r with
    | cons _ _=>simp at h
    | nil=>
     simp only [Jq,Aa9,decide_eq_true_eq]at h
     obtain⟨_,⟨y,w⟩,_⟩:=h
     have g:=d.hH x w
     have c:=si (pos:=p) (by rw [d.N];exact d.nd) (by rw [d.N];exact y) g.1 g.2
     intro b s U H v u Q I r q
     obtain⟨j,e,q⟩:=q
     cases e
     exact c b s U H v u Q I r q
  | _=>simp [Xf]at h
 | false=>
  cases e with
  | Tuple B n p=>
   have h:=h
   obtain⟨m,f⟩:=rY h
   have c:=BG (k:=n) (pos:=p) d.calm (jR d h) m f
   intro b s U H v u Q I r q
   obtain⟨G,z,t,a,rfl,o,A,l,q⟩:=q
   exact c b s U H _ u Q I r ⟨a,t,rfl,d.K▸o.sq,l.symm,l.symm,q⟩
  | _=>simp [Xf]at h
def Wm (k) (l): ∀ i,M.Gk (Aa1 k u0++l) (k+i)=M.Gk l i:=by
 induction k with
 | zero=>intro i;simp
 | succ k a=>intro i;rw [Ad,show k+1+i=(k+i)+1 by lia];exact a i
def qr (k) (l): ∀ {i},i<k->M.Gk (Aa1 k u0++l) i=none:=by
 induction k with
 | zero=>intro i h;lia
 | succ k a=>
  intro i h
  cases i with
  | zero=>rfl
  | succ i=>rw [Ad];exact a (by lia)
theorem Zy: ∀(l) (i),M.Gk l i=(l[i]?).join
 | [],_=>by simp
 | _::_,0=>by simp
 | _::r,i+1=>by simpa using Zy r i
def jG (s:au Y G Z h U H)(e:M.Gn Z j=y0 w): ∃v,U[j]? =y0 (y0 v)/\ao Y G H w v/\(eZ w=k9-> ∃i,M.Gk Z j=y0 i/\eZ i=k9)/\lI w=true:=by
 unfold M.Gn at e
 cases q:M.Gk Z j with
 | none=>rw [q]at e;cases e
 | some i=>
  obtain⟨v,b,c⟩:=s.slot j i q
  rw [q]at e
  cases i with
  | v d=>cases e;exact⟨v,b,c,λz=>(by cases z),rfl⟩
  | own f=>cases e;obtain⟨a,l,g,o,k,m,n⟩:=c;exact⟨v,b,⟨a,l,g,k,.inl m,n⟩,λ_=>⟨_,rfl,rfl⟩,rfl⟩
  | bor f=>cases e;exact⟨v,b,c,λ_=>⟨_,rfl,rfl⟩,rfl⟩
def hO (k:Nat) (aE:List Nat) (Z:M.Sl):M.Sl:=Aa1 k u0++aE.map λj=>M.Gn Z j
def ux (s:au Y G Z h U H) (kk) (aE)(d:Ub.length=kk+aE.length) (f: ∀i,i<aE.length->Ub[kk+i]? =y0 ((U[aE.getD i 0]?).join)):
 au Y G (hO kk aE Z) h Ub H where
 len:=by unfold hO;rw [Aa3,Ad5,Ac,d]
 slot:=λi w e=>by
  unfold hO at e
  by_cases g:i<kk
  ·rw [qr kk _ g]at e;cases e
  ·obtain⟨j,rfl⟩: ∃j,i=kk+j:=⟨i-kk,by omega⟩
   rw [Wm,Zy,Ad1]at e
   cases q:aE[j]? with
   | none=>rw [q]at e;cases e
   | some c=>
    rw [q]at e
    have e:=e
    obtain⟨v,k,l,_⟩:=jG s e
    have n:=(Ab9.mp q).1
    refine⟨v,?_,l⟩
    rw [f j n,Ac3,q]
    show y0 ((U[c]?).join)=_
    rw [k]
    rfl
 apart:=λi j u w a o b t p r=>by
  exfalso
  unfold hO at b
  by_cases g:i<kk
  ·rw [qr kk _ g]at b;cases b
  ·obtain⟨m,rfl⟩: ∃j,i=kk+j:=⟨i-kk,by omega⟩
   rw [Wm,Zy,Ad1]at b
   cases q:aE[m]? with
   | none=>rw [q]at b;cases b
   | some c=>
    rw [q]at b
    have b:=b
    obtain⟨_,_,_,_,z⟩:=jG s b
    cases z
 heap:=s.heap
end
theorem jf {env:Env}{d:NameKind}(g:d≠ .free): ∀ {b:List (Str×NameKind)}{x},b.lookup x=y0 d →
 (b.map λ(n,k)=>if(k==NameKind.free&&env.scope.kind== .function&&env.kindOf n==y0 .cell)then(n,NameKind.cell)else(n,k)).lookup x=y0 d
 | [],_,h=>by simp at h
 | (n,k)::r,x,h=>by
  have i:= @jf env d g r x
  rw [Ac0]
  rw [Ab4]at h
  cases c:x==n with
  | true=>
   rw [c]at h
   have e:=by simpa using h
   subst e
   have j:(k==NameKind.free)=false:=by simpa using g
   simp only [j,Bool.false_and,Af7,if_false,Ab4,c]
  | false=>
   rw [c]at h
   have q:=i h
   by_cases a:(k==NameKind.free&&env.scope.kind== .function&&env.kindOf n==y0 .cell)=k9
   ·simp only [a,if_true,Ab4,c]
    exact q
   ·have f:=Ai.mpr a
    simp only [f,Af7,if_false,Ab4,c]
    exact q
section
variable {Y:Ge}{F:M.Fx}{X:Cx}{E:XK}{k:Nat}{cf:Cf}
structure iy (cf:Cf) (scope:Scope) (N:List Str) (k:Nat) (aE:List Nat):Prop where
 kind:scope.kind= .function
 yj:(scope.names.map Prod.fst).Nodup
 names: ∀y∈scope.names,y.2= .local->scope.names.lookup y.1=y0 .local
 free: ∀y∈scope.names,y.2= .free->cf.sc.names.lookup y.1=y0 .cell\/cf.sc.names.lookup y.1=y0 .free
 gd: ∀x∈N.drop k,scope.names.lookup x=y0 .free
 aE:WA cf aE (N.drop k)=k9
 le:k<=N.length
 nd:N.Nodup
def wE (h:wT cf scope N kk aE=k9):iy cf scope N kk aE:=by
 simp only [wT,Aa9,decide_eq_true_eq,Af]at h
 obtain⟨⟨⟨⟨⟨⟨⟨⟨k,i⟩,c⟩,b⟩,f⟩,d⟩,e⟩,g⟩,l⟩:=h
 exact⟨k,i,λy a=>c y a,λy a=>b y a,λx j=>f x j,d,e,g⟩
theorem qP (a:Go Y F X E k cf): ∀ {aE}{xs},WA cf aE xs=k9->cm X aE xs
 | [],[],_=>trivial
 | [],_::_,h=>by simp [WA]at h
 | _::_,[],h=>by simp [WA]at h
 | j::e,x::xs,h=>by
  simp only [WA,Aa9,decide_eq_true_eq]at h
  obtain⟨⟨d,c⟩,b⟩:=h
  exact⟨by rw [a.N];exact d,a.kg x c,qP a b⟩
def xN (a:Go Y F X E k cf)(h:iy cf scope N kk aE):zN X scope N kk aE:=
 ⟨h.kind,h.yj,h.names,λy b c=>a.kg y.1 (h.free y b c),h.gd,qP a h.aE,h.le⟩
def x0 (h:zS sc x=k9):sc.names.lookup x=y0 .local\/sc.names.lookup x=y0 .cell\/sc.names.lookup x=y0 .free:=by
 unfold zS at h
 split at h
 ·rename_i q;exact .inl q
 ·rename_i q;exact .inr (.inl q)
 ·rename_i q;exact .inr (.inr q)
 ·cases h
def zX (h:hV sc x=k9):sc.names.lookup x=y0 .local\/sc.names.lookup x=y0 .cell:=by
 unfold hV at h
 split at h
 ·rename_i q;exact .inl q
 ·rename_i q;exact .inr q
 ·cases h
def wJ (h:ia sc x=k9):sc.names.lookup x=y0 .globalImplicit:=by
 unfold ia at h
 split at h
 ·rename_i q;exact q
 ·cases h
def Xw (a:Go Y F X E k cf)(h:iy cf scope N kk aE) (C:Addr) (o:List Addr) (s:Shared) (H:Hp):Go Y F (je X N scope C o s H) E0 k { cf with sc:=scope,N:=N } where
 N:=rfl
 K:=a.K
 cl:=a.cl
 ow:=a.ow
 nd:=h.nd
 gz:=λx b=>by
  rcases x0 b with q | q | q
  ·exact .inl (jf (by decide) q)
  ·exact .inr (.inl (jf (by decide) q))
  ·exact .inr (Zj q)
 iG:=λx b=>jf (by decide) b
 hH:=λx b=>by
  rcases zX b with q | q
  ·exact⟨.inl (jf (by decide) q),.inr (jf (by decide) q)⟩
  ·exact⟨.inr (jf (by decide) q),.inl (decide_eq_true q)⟩
 kg:=λx b=>by
  rcases b with q | q
  ·exact .inl (jf (by decide) q)
  ·exact Zj q
 gl:=λx b=>jf (by decide) (wJ b)
 calm:=a.calm
 room:=a.room
 dH:=a.dH
 pass:=λc U A y e n _ l=>by
  obtain⟨x,w,t,B,z,_,_,_,_,_,_,_,_,_,_,m⟩:=l
  exact m.elim
 blt:=a.blt
 con:=a.con
 fn:=λf i=>by
  obtain⟨d,j,r,v,p,u,g⟩:=(a.fn f i).imp λd h=>h.ex
  exact⟨d,⟨j,r,v,p,u,g⟩⟩
 cls:=a.cls
 fld:=a.fld
 gP:=a.gP
 ea:=a.ea
theorem wY: ∀(is) (vs) (U) (j),j∉is->(fS is vs U)[j]? =U[j]?
 | [],_,_,_,_=>rfl
 | _::_,[],_,_,_=>rfl
 | i::is,v::vs,U,j,h=>by
  show(fS is vs (U.set i (y0 v)))[j]? =U[j]?
  rw [wY is vs _ j λz=>h (Aa0 _ z),Ac7 (λz:i=j=>h (by rw [z];exact Aa))]
theorem ZD: ∀(is) (vs) (U),(fS is vs U).length=U.length
 | [],_,_=>rfl
 | _::_,[],_=>rfl
 | i::is,v::vs,U=>by
  show(fS is vs (U.set i (y0 v))).length=U.length
  rw [ZD is vs,Ac5]
def aa (e:M.Gz tg one d Z=y0 Z') (r:aA Y G H d x) (s:au Y G Z h U H)
 (f: ∀q,au Y G Z' h q H->(∀ j,j∉tg->q[j]? =U[j]?)->q.length=U.length->Q q H):gM Y tg one x U H Q:=by
 cases one with
 | true=>
  cases tg with
  | nil=>cases e
  | cons i o=>
   cases o with
   | cons _ _=>cases e
   | nil=>
    cases e
    exact⟨i,rfl,f _ (s.dq r) (λj c=>Ac7 λz=>c (by simp [z])) (Ac5 ..)⟩
 | false=>
  cases d with
  | tup l=>
   obtain⟨a,b,rfl,n,g⟩:=r
   obtain⟨m,k⟩:=JH (e) g s
   exact⟨G,l,b,a,rfl,n,g,k,f _ m (λj c=>wY tg b U j c) (ZD tg b U)⟩
  | _=>cases e
def ZO {step:M.D->M.AH->M.R (Option M.D)}: ∀ {ds}{h}{d}{h'},M.Gx step ds h≠ .exc d h'
 | [],_,_,_=>λe=>by cases e
 | x::ds,h,d,h'=>λe=>by
  rw [M.Gx]at e
  split at e
  ·split at e<;>cases e
  ·cases e
def qW {step:M.D->M.AH->M.R (Option M.D)}(e:M.Gx step (x::ds) h= .ok ys hf): ∃o h1 r,step x h= .ok o h1/\M.Gx step ds h1= .ok r hf/\ys=(match o with | some y=>y::r | none=>r):=by
 rw [M.Gx]at e
 split at e
 ·rename_i o h1 a
  split at e
  ·rename_i r c b
   cases e
   exact⟨o,h1,r,a,b,rfl⟩
  ·cases e
 ·cases e
def kK (F:M.Fx) (tg:List Nat) (one:Bool) (f:M.Sl) (a:Bool) (c elt:M.E):M.D->M.AH->M.R (Option M.D):=λd h=>match M.Gz tg one d f with
 | none=> .fail
 | some e=>(if a then(M.eval F c e h).bind λx h=>M.R.of h (M.GU h x)else .ok k9 h).bind λb h=>match b with
  | true=>(M.eval F elt e h).bind λy h=>(M.R.of h y.d).bind λy h=> .ok (y0 y) h
  | false=> .ok u0 h
def CV :M.eval F (.comp tg one kk aE it u6 c elt) Z h=(M.Gr F it Z h).bind λds h=>
 if ds.length<=M.bA then(M.Gx (kK F tg one (hO kk aE Z) u6 c elt) ds h).bind λys h=> .ok (.own ys) h else .fail:=by
 rw [M.eval];rfl
noncomputable def W4 (F:M.Fx) (a:Bool) (c:M.E):M.Sl->M.AH->M.R Bool:=λZ h=>if a then M.Gf F c Z h else .ok k9 h
def Xh {r:M.R α}(e:r.bind f= .ok b h): ∃a h1,r= .ok a h1/\f a h1= .ok b h:=by
 cases r with
 | ok a h1=>exact⟨a,h1,rfl,e⟩
 | exc d h1=>cases e
 | fail=>cases e
def zT (a:Zh iter=k9): ∀v,foldedSetIterable iter env v=pure v:=λv=>by cases iter<;>first | rfl | (simp [Zh]at a)
def sI (htk: ∀i∈tg,i<kk)(h0:tD Y E (M.eval F (.comp tg one kk aE it u6 c elt)) U H Q):
 kO kk aE (ew Y E y9 (M.Gr F it)) (λ_ _ _ _=>gM Y tg one) (λ_ _ _ _=>cS Y E0 (W4 F u6 c)) (λ_ _ _ _=>tD Y E0 (M.eval F elt)) U H Q:=by
 obtain⟨G,Z,h,s,p⟩:=h0
 rw [CV]at p
 refine⟨G,Z,h,s,?_⟩
 cases qi:M.Gr F it Z h with
 | exc d g=>rw [qi]at p;exact p
 | fail=>rw [qi]at p;exact p
 | ok f h1=>
  rw [qi]at p
  intro G1 H1 e1 y J C N c0 _ Ca fp st
  have p:ar Y E G H (if f.length<=M.bA then(M.Gx _ f h1).bind λys h=> .ok _ h else .fail) λw g q k=> ∀v,ao Y q k w v->aF Z U H w v->Q v k:=p
  by_cases hL:f.length<=M.bA
  rotate_left
  ·rw [if_neg hL]at p;exact p.elim
  rw [if_pos hL]at p
  cases qc:M.Gx (kK F tg one _ u6 c elt) f h1 with
  | exc d g=>exact absurd qc ZO
  | fail=>rw [qc]at p;exact p.elim
  | ok ys hf=>
   rw [qc]at p
   have p:=p
   have hLs:=qo
   refine⟨λi m yv Ub k=> ∃q g done rest,(m=f.length-i/\i<=f.length/\done.length<=i)/\Ext G1 H1 q k/\ak Y q g k/\C q k/\af Y q k done yv ∧
    M.Gx (kK F tg one (hO kk aE Z) u6 c elt) (f.drop i) g= .ok rest hf/\ys=done++rest/\Ub.length=kk+aE.length/\ ∀j,j<aE.length->Ub[kk+j]? =y0 ((U[aE.getD j 0]?).join),⟨f.length,?_⟩,?_⟩
   ·refine⟨G1,h1,[],ys,⟨by simp,Af9 _,Aa6 _⟩,Ext.refl,y,c0,rfl,qc,rfl,?_,λj X=> ?_⟩
    ·unfold kH;rw [Aa3,Ad5,Ac]
    ·unfold kH
     rw [Ad8 (by simp),Ad5,Nat.add_sub_cancel_left,Ad1,Aa7 X,Ac3,Aa7 X]
     rfl
   ·rintro i m yv Ub k ⟨q,g,done,rest,⟨rfl,hi',hd⟩,L,e,K,rd,W,u,l,A⟩
    have ldone:=rd.length
    by_cases t:i<f.length
    ·refine .inr ⟨N.go i q k K t,by lia,_,λyv' Ub' V w=>⟨f.length-(i+1),by lia,w⟩,λx V hy=> ?_⟩
     obtain⟨G4,x4,hx4,d,ed,rdx⟩:=N.ek i q k x V K t hy
     have K:=N.keep _ _ _ _ g K x4 e
     have rd:=rd.ext x4 e
     have L:=L.trans y x4
     have e:=hx4 _ e
     have edr:f.drop i=d::f.drop (i+1):=by
      rw [Ae6 t]
      rw [Aa7 t]at ed
      cases ed
      rfl
     rw [edr]at W
     obtain⟨o,h2,r,O,R,er⟩:=qW W
     unfold kK at O
     cases qb:M.Gz tg one d (hO kk aE Z)with
     | none=>rw [qb]at O;cases O
     | some Z'=>
      rw [qb]at O
      have so:=s.ext (e1.trans s.heap L) e
      have sb:=ux so kk aE l A
      refine aa qb rdx sb λU2 s2 same P=> ?_
      have n: ∀j,j<aE.length->U2[kk+j]? =y0 _:=λj X=>by
       rw [same _ λz=>by have:=htk _ z;lia];exact A j X
      obtain⟨b,h3,I,a⟩:=Xh (show (W4 F u6 c Z' g).bind _=_ from O)
      refine⟨G4,Z',g,s2,?_⟩
      rw [I]
      intro G3 H3 S T
      have s3:=s2.ext S T
      cases b with
      | false=>
       refine mO ?_
       have a:=a
       cases a
       exact⟨G3,_,done,r,⟨rfl,by lia,by lia⟩,L.trans y S,T,N.keep _ _ _ _ g K S e,rd.ext S e,R,by rw [u,er],by rw [P];exact l,n⟩
      | true=>
       refine mK ?_
       obtain⟨w,h4,qe,a⟩:=Xh (a)
       refine⟨G3,Z',h3,s3,?_⟩
       rw [qe]
       intro G4 H4 e4 hr4 v rw' fw
       obtain⟨dd,h5,qd,a⟩:=Xh (a)
       cases qw:w.d with
       | none=>rw [qw]at qd;cases qd
       | some d'=>
        rw [qw]at qd
        cases qd
        cases (a)
        have s4:=s3.ext e4 hr4
        obtain⟨G5,e5,s5,rdv,m5⟩:=m3 e4 s4 s3 rw' fw qw
        have B:=S.trans e e5
        refine⟨G5,_,done++ [dd],r,⟨rfl,by lia,by rw [Aa3,Ak7];lia⟩,L.trans y B,s5.heap,N.keep _ _ _ _ g K B e,(rd.ext B e).append ⟨v,[],rfl,rdv,rfl⟩,R,?_,by rw [P];exact l,n⟩
        rw [u,er]
        simp
    ·have ei:i=f.length:=by lia
     subst ei
     rw [List.drop_length]at W
     cases (W)
     rw [Ad0]at u
     subst u
     exact .inl ⟨N.stop _ q k K (Aa6 _) (Aa6 _),by lia,λD hD=>ax.own (ax.mk p (e1.trans s.heap L) s.heap) e rd D hD⟩
def BC (f:Go Y F X E k cf)(b:iy cf scope N kk aE)
 (l:aE.length=(N.drop kk).length) (e:Xf { cf with sc:=scope,N:=N } tg one t=k9) (d: ∀i∈tg,i<kk) (a:Zh iter=k9)
 (g:PI X t iter (ew Y E y9 (M.Gr F it)))
 (m: ∀C fp s H,PE (je X N scope C fp s H) y (tD Y E0 (M.eval F elt)))
 (h: ∀C fp s H,fD (je X N scope C fp s H) ifs (cS Y E0 (W4 F u6 c))):
 PE X (.ListComp y [⟨t,iter,ifs,0⟩] scope pos) (tD Y E (M.eval F (.comp tg one kk aE it u6 c elt))):=
 PE.imp (FL (xN f b) g (λC fp s H=>zt (Xw f b C fp s H) e) h m f.calm (zT a)) λU H Q j=>sI d j
def jU (a:Go Y F X E k cf)(n:cf.N[i]? =y0 x) (r:hV cf.sc x=k9)(h:swapsWith (.ListComp y [⟨t,iter,ifs,0⟩] scope p0) (y0 (.Name x pos2)) pos.line X.env=pure k9) (e:iy cf scope N kk aE)
 (o:aE.length=(N.drop kk).length) (f:Xf { cf with sc:=scope,N:=N } tg one t=k9) (j: ∀i∈tg,i<kk) (d:Zh iter=k9)
 (m:PI X t iter (ew Y E y9 (M.Gr F it)))
 (u: ∀C fp s H,PE (je X N scope C fp s H) y (tD Y E0 (M.eval F elt)))
 (p: ∀C fp s H,fD (je X N scope C fp s H) ifs (cS Y E0 (W4 F u6 c))):
 PS X (.Assign [.Name x pos2] (.ListComp y [⟨t,iter,ifs,0⟩] scope p0) pos) (gJ (tD Y E (M.eval F (.comp tg one kk aE it u6 c elt))) (XQ i)):=by
 have l:=a.hH x r
 have g:=J5 (by rw [a.N];exact a.nd) (by rw [a.N];exact n) l.1 (xN a e) m (λC fp s H=>zt (Xw a e C fp s H) f) p u h a.calm (zT d) l.2
 exact λb s U H D I q=>g b s U H D I (sI j q)
def qD (b:Go Y F X E k cf)(h1:cf.N[i]? =y0 x) (h2:zS cf.sc x=k9) (a:cQ x=k9):PE X (.Name x p) (lS i):=by
 unfold cQ at a
 rw [Aa9]at a
 exact Zx (by rw [b.N];exact h1) (b.gz x h2) (by simpa using a.1) (by simpa using a.2)
theorem oY (k): ∀ T,KTD.datumAt (aD k) (g9 T)=(T.lookup k).map iD
 | []=>rfl
 | (x,d)::T=>by
  show(if u9 (aD k=aD x)=k9 then y0 (iD d)else KTD.datumAt (aD k) (g9 T))=_
  rw [Ab4]
  by_cases e:k=x
  ·subst e
   rw [if_pos (decide_eq_true rfl),beq_self_eq_true]
   rfl
  ·rw [if_neg (by simpa using λz=>e (wA z)),beq_eq_false_iff_ne.mpr e,oY k T]
def uF (T): ∀p∈g9 T,flatData p.2=true:=by
 intro p a
 obtain⟨⟨x,d⟩,_,rfl⟩:=Ae.mp a
 cases d<;>rfl
def j4 (h:M.flat d=k9):aA Y G H d (lF (iD d))/\flatData (iD d)=true:=by
 cases d<;>first | exact⟨rfl,rfl⟩ | cases h
def BN (b:Go Y F X E k cf)(q:F.con.lookup c=y0 (.exc n T)) (ne:T≠ []): ∃a,X.mg (Xd c)=y0 (.ref a)/\lK X.K a (g9 T):=by
 obtain⟨u,v,f,rv,rd⟩:=b.con c _ q
 rcases rd ⟨λ_=>False,λ_=>0,0⟩ (λ_=>u0)with⟨z,_⟩ | ⟨_,a,e,d⟩
 ·exact absurd z ne
 ·subst e
  cases rv
  exact⟨a,f,b.K▸d⟩
def CI (l:Go Y F X E k cf)(N:bG cf.sc c g=k9) (P:we y=k9) (A:PE X y (tD Y E (M.eval F a))):PE X (.Subscript g y pos) (tD Y E (M.eval F (.eC c a))):=by
 obtain⟨t,rfl,V,B⟩:=wb N
 have nN:(∀ n T,F.con.lookup c=y0 (.exc n T)->T= [])->PE X (.Subscript (.Name (Xd c) t) y pos) (tD Y E (M.eval F (.eC c a))):=by
  intro o i s U H Q I ⟨G,Z,h,st,f⟩
  rw [M.eval]at f
  split at f
  ·rename_i n r T q;cases o n _ q
  ·exact f.elim
 by_cases w: ∃n T,F.con.lookup c=y0 (.exc n T)/\T≠ []
 ·obtain⟨n,T,q,ne⟩:=w
  obtain⟨b,D,J⟩:=BN l q ne
  refine PE.imp (pf D2 (zM (v:= .ref b) (l.gl _ V) D rfl B) A (jL P)) λU H Q S=> ?_
  obtain⟨G,Z,h,s,p⟩:=S
  obtain⟨R,T,rfl⟩:=List.exists_cons_of_ne_nil ne
  rw [M.eval,q]at p
  refine Ja s.heap Ext.refl s p λw1 v1 h1 O K u W L x f1 e=> ?_
  unfold M.Kx at e
  split at e
  ·rename_i j
   cases (show v1= .str (aD j)from x)
   split at e
   ·rename_i d C
    split at e
    ·rename_i m
     exact⟨b,g9 (R::T),aD j,iD d,rfl,rfl,J,uF _,by rw [oY,C];rfl,(j4 (Y:=Y) (G:=O) (H:=K) m).2,ar.val e u L.heap (j4 m).1 trivial⟩
    ·exact e.elim
   ·exact e.elim
  ·exact e.elim
 ·exact nN λn T q=>Ad9 λz=>w ⟨n,T,q,z⟩
theorem xW: ∀ {T}{ks}{vs},jF T ks vs=k9->W5 (T.map λp=>(aD p.1,aD p.2)) ks vs
 | [],ks,vs,h=>⟨Ae2.mp (a2 h).1,Ae2.mp (a2 h).2⟩
 | (x,y)::T,ks,vs,h=>by
  refine kC (λe ks h=> ?_) ks h
  refine kC (λf vs h=> ?_) vs h
  refine kS (λe h=> ?_) e h
  refine wt (λc n p h=> ?_) e h
  refine wt (λd n p h=> ?_) f h
  obtain⟨g,b,a⟩:=a3 h
  cases of_decide_eq_true g
  cases of_decide_eq_true b
  exact⟨_,_,_,_,_,_,rfl,rfl,xW a⟩
theorem nK (k): ∀(T:List (M.Tx×M.Tx)),(T.map λp=>(aD p.1,aD p.2)).lookup (aD k)=(T.lookup k).map aD
 | []=>rfl
 | (x,y)::T=>by
  rw [Ac0,Ab4,Ab4]
  rw [Dl]
  cases k==x with
  | true=>rfl
  | false=>exact nK k T
def A5 (f:Go Y F X E k cf)(n:jF T ks vs=k9) (u:T≠ []) (o:T.length<=15) (g:(T.map (·.1)).Nodup) (h1:cf.N[i]? =y0 x) (h2:zS cf.sc x=k9) (c:cQ x=k9):
 PE X (.Subscript (.Dict ks vs p1) (.Name x p2) pos) (tD Y E (M.eval F (.dg T i))):=by
 unfold cQ at c
 rw [Aa9]at c
 refine PE.imp (F4 (xW n) (by simp_all) (by simp_all) ?_ (by rw [f.N];exact h1) (f.gz x h2) (by simpa using c.1) (by simpa using c.2)) λU H Q m=> ?_
 ·rw [Ag5]
  have e:((·.1)∘λp:M.Tx×M.Tx=>(aD p.1,aD p.2))=aD∘(·.1):=rfl
  rw [e,←Ag5]
  exact Ak0.map _ (λa b z q=>z (wA q)) g
 obtain⟨G,Z,h,s,p⟩:=m
 rw [M.eval]at p
 unfold M.GP at p
 split at p
 ·rename_i d e
  obtain⟨v,j,r⟩:=s.slot i _ e
  cases (show v= .str (aD d)from r)
  split at p
  ·rename_i t l
   exact⟨aD d,aD t,j,by rw [nK,l];rfl,ar.val p Ext.refl s.heap rfl trivial⟩
  ·exact p.elim
 ·exact p.elim
def uk (C:Go Y F X E k cf)(r:jF T ks vs=k9) (y:T≠ []) (v:T.length<=15) (d:(T.map (·.1)).Nodup) (m:we x=k9) (j:PE X x (tD Y E (M.eval F a))):
 PE X (.Subscript (.Dict ks vs i) x pos) (tD Y E (M.eval F (.iF T a))):=by
 refine PE.imp (F5 (xW r) (by simp_all) (by simp_all) ?_ j (jL m)) λU H Q o=> ?_
 ·rw [Ag5]
  have e:((·.1)∘λp:M.Tx×M.Tx=>(aD p.1,aD p.2))=aD∘(·.1):=rfl
  rw [e,←Ag5]
  exact Ak0.map _ (λa b z q=>z (wA q)) d
 obtain⟨G,Z,h,s,p⟩:=o
 refine Ja s.heap Ext.refl s p λA v1 I D B f u n g w i=> ?_
 unfold M.GP at i
 split at i
 ·rename_i c e
  cases e
  cases (show v1= .str (aD c)from g)
  split at i
  ·rename_i t l
   exact⟨aD c,aD t,rfl,by rw [nK,l];rfl,(ax.mk i f s.heap).v n.heap rfl⟩
  ·exact i.elim
 ·exact i.elim
def qJ (i):Str.ofString (toString i)=aD (M.bg i):=by
 unfold aD M.bg
 rw [Str.ofString_eq_toList]
def DH {i:Int}(h:0<=i/\i<1000):i.natAbs.log2<1920:=by
 have a:i.natAbs<2 ^ 10:=by lia
 by_cases z:i.natAbs=0
 ·rw [z];decide
 ·exact Aj3 ((Nat.log2_lt z).mpr a) (by decide)
def AR (d:Go Y F X E k cf)(q:bG cf.sc "str" g=true) (e:Qa x=true) (m:PE X x (tD Y E (M.eval F a))):PE X (.Call g [x] [] pos) (tD Y E (M.eval F (.dO a))):=by
 obtain⟨p,rfl,n,r⟩:=wb q
 have c: "str" ∈cj:=by decide
 refine PE.imp (Zu EG (d.gl _ n) (d.blt _ c) (by decide +kernel) (Jc m Zk (Za e)) (zl c) r (Za e) rfl) λU H Q t=> ?_
 obtain⟨G,Z,h,s,p⟩:=t
 refine Ja s.heap Ext.refl s p λw v1 A z y j u o l v b=> ?_
 unfold M.Kt at b
 split at b
 ·rename_i i
  cases (l)
  split at b
  ·rename_i f
   exact⟨i,rfl,DH f,qJ i▸ar.val b j o.heap rfl trivial⟩
  ·exact b.elim
 ·exact b.elim
def Fl (d:Go Y F X E k cf)(t:bG cf.sc "int" g=true) (e:Qa x=true) (j:PE X x (tD Y E (M.eval F a))):PE X (.Call g [x] [] pos) (tD Y E (M.eval F (.bg a))):=by
 obtain⟨p,rfl,o,u⟩:=wb t
 have b: "int" ∈cj:=by decide
 refine PE.imp (Zu Bl (d.gl _ o) (d.blt _ b) (by decide +kernel) (Jc j Zk (Za e)) (zl b) u (Za e) rfl) λU H Q v=> ?_
 obtain⟨G,Z,h,s,p⟩:=v
 refine Ja s.heap Ext.refl s p λB v1 I D C f w r i A c=> ?_
 unfold M.Ku at c
 split at c
 ·rename_i z
  cases (show v1= .str (aD z)from i)
  obtain⟨n,q,m⟩:=c.of
  have y:=Ai1.mp (List.mem_of_find?_eq_some q)
  have l:=of_decide_eq_true (List.find?_some (p:=λn:Nat=>decide _) q)
  subst l
  refine⟨_,n,rfl,?_,qJ n▸PySem.W.KIN.num_reads (by lia) (by lia),ar.val m f r.heap rfl trivial⟩
  rw [← qJ]
  exact Ab8 (PySem.W.KT.len_num (by lia) (by lia)) (by decide)
 ·exact c.elim
def rP (h:Str.ofString a=Str.ofString b):a=b:=by
 rw [Str.ofString_eq_toList,Str.ofString_eq_toList]at h
 have e:=by
  have:=congrArg (λs:Str=>s.cps.toList) h
  simpa using this
 have inj: ∀(l m:List Char),l.map Char.toNat=m.map Char.toNat->l=m:=by
  intro l
  induction l with
  | nil=>intro m q;cases m with | nil=>rfl | cons _ _=>cases q
  | cons c l f=>
   intro m q
   cases m with
   | nil=>cases q
   | cons d m=>
    simp [List.cons.injEq]at q
    rw [Char.toNat_inj.mp q.1,f m q.2]
 exact String.toList_inj.mp (inj _ _ e)
def QD (e:M.GJ h o=y0 (r,c,fs)):o=y0 (.v (.ref r))/\h[r]? =y0 (.obj c fs):=by
 unfold M.GJ at e
 split at e
 ·split at e
  ·rename_i q
   cases e
   exact⟨rfl,q⟩
  ·cases e
 ·cases e
def Xy (s:au Y G Z h U H)(e:M.GJ h (M.Gk Z i)=y0 (r,c,fs)):U[i]? =y0 (y0 (.ref (G.aO r))):=by
 obtain⟨b,g⟩:=QD e
 obtain⟨v,d,f⟩:=s.slot i _ b
 obtain⟨_,a⟩:=(show r<G.n/\v= .ref (G.aO r)from f)
 rw [d,a]
abbrev fB (fs:List (String×M.D)):List Str:=fs.map λp=>Str.ofString p.1
section
variable {G:Gh}{H:Hp}
def ZY (a b):(Xd a==Str.ofString b)=(a==b):=by
 cases q:a==b with
 | true=>rw [eq_of_beq q];exact beq_self_eq_true _
 | false=>exact beq_eq_false_iff_ne.mpr λz=>(beq_eq_false_iff_ne.mp q) (rP z)
theorem tL : ∀ {fs}{us},af Y G H (fs.map (·.2)) us->fs.lookup f=y0 d-> ∃v,((fB fs).zip us).lookup (Xd f)=y0 v/\aA Y G H d v
 | [],_,_,e=>by cases e
 | (g,x)::fs,_,⟨v,r,rfl,a,b⟩,e=>by
  rw [Ab4]at e
  show ∃w,(((Str.ofString g),v)::(fB fs).zip r).lookup (Xd f)=y0 w/\_
  rw [Ab4,ZY]
  cases q:f==g with
  | true=>rw [q]at e;cases e;exact⟨v,rfl,a⟩
  | false=>rw [q]at e;exact tL b e
theorem xE : ∀ {fs}{us:List V},fs.lookup f=u0->((fB fs).zip us).lookup (Xd f)=u0
 | [],_,_=>rfl
 | (g,x)::fs,[],_=>rfl
 | (g,x)::fs,v::r,e=>by
  rw [Ab4]at e
  show(((Str.ofString g),v)::(fB fs).zip r).lookup (Xd f)=u0
  rw [Ab4,ZY]
  cases q:f==g with
  | true=>rw [q]at e;cases e
  | false=>rw [q]at e;exact xE e
theorem WW (rv:aA Y G H d v): ∀ {fs}{us},af Y G H (fs.map (·.2)) us-> ∃i,af Y G H ((M.ba f d fs).map (·.2)) i/\L2.ba (Xd f) v ((fB fs).zip us)=(fB (M.ba f d fs)).zip i
 | [],_,z=>by cases z;exact⟨[v],⟨v,[],rfl,rv,rfl⟩,rfl⟩
 | (g,x)::fs,_,⟨u,r,rfl,e,c⟩=>by
  show ∃i,af Y G H ((if g=f then(g,d)::fs else(g,x)::M.ba f d fs).map (·.2)) i/\(if Str.ofString g=Xd f then(Str.ofString g,v)::(fB fs).zip r else(Str.ofString g,u)::L2.ba (Xd f) v ((fB fs).zip r))=(fB (if g=f then(g,d)::fs else(g,x)::M.ba f d fs)).zip i
  by_cases q:g=f
  ·rw [if_pos q,if_pos (congrArg Str.ofString q)]
   exact⟨v::r,⟨v,r,rfl,rv,c⟩,rfl⟩
  ·rw [if_neg q,if_neg λz=>q (rP z)]
   obtain⟨i,a,b⟩:=WW rv c
   exact⟨u::i,⟨u,i,rfl,e,a⟩,by rw [b];rfl⟩
theorem sG (a:M.Gm d=k9): ∀ {fs},M.Gg (fs.map (·.2))=k9->M.Gg ((M.ba f d fs).map (·.2))=k9
 | [],_=>by show(M.Gm d&&k9)=k9;rw [a];rfl
 | (g,x)::fs,z=>by
  have z:(M.Gm x&&M.Gg (fs.map (·.2)))=true:=z
  rw [Aa9]at z
  show M.Gg ((if g=f then(g,d)::fs else(g,x)::M.ba f d fs).map (·.2))=k9
  by_cases q:g=f
  ·rw [if_pos q];show(M.Gm d&&M.Gg (fs.map (·.2)))=k9;rw [a,z.2];rfl
  ·rw [if_neg q];show(M.Gm x&&M.Gg ((M.ba f d fs).map (·.2)))=k9;rw [z.1,sG a z.2];rfl
end
def yg (a:Go Y F X E k cf)(h1:cf.N[i]? =y0 x) (h2:zS cf.sc x=k9) (t:cQ x=k9):PE X (.Attribute (.Name x p1) (Xd f) pos) (tD Y E (M.eval F (.xf i f))):=by
 refine PE.imp (EL (qD a h1 h2 t) rfl) λU H Q w=> ?_
 obtain⟨G,Z,h,s,p⟩:=w
 rw [M.eval]at p
 split at p
 ·rename_i c g d q
  split at p
  ·rename_i r
   subst r
   obtain⟨v,e,m,l,u,rfl,y,z,j,n,A,b,o⟩:=s.slot i _ q
   exact⟨_,e,m,Y.ca c,l,u,rfl,j,n,a.K▸b,ar.val p Ext.refl s.heap o trivial⟩
  ·exact p.elim
 ·exact p.elim
def Ey (a:Go Y F X E k cf)(h1:cf.N[i]? =y0 x) (h2:zS cf.sc x=k9) (u:cQ x=k9) (b:cf.ob.fl.contains (c,f)=k9):PE X (.Attribute (.Name x p1) (Xd f) pos) (tD Y E (M.eval F (.fld i c f))):=by
 refine PE.imp (ud (qD a h1 h2 u) rfl) λU H Q y=> ?_
 obtain⟨G,Z,h,s,p⟩:=y
 rw [M.eval]at p
 cases q:M.GJ h (M.Gk Z i)with
 | none=>rw [q]at p;exact p.elim
 | some o=>
  obtain⟨r,t,fs⟩:=o
  rw [q]at p
  dsimp only at p
  split at p
  ·rename_i g
   subst g
   obtain⟨d,w,p⟩:=p.of
   obtain⟨z,m⟩:=QD q
   obtain⟨A,_,j,B,n,l⟩:=s.heap.obj r _ fs m
   obtain⟨v,e,rv⟩:=tL l w
   exact⟨_,Xy s q,G.aO r,Y.ca t,j,_,v,rfl,n,(a.fld _ _ b).1,(a.fld _ _ b).2,e,ar.val p Ext.refl s.heap rv trivial⟩
  ·exact p.elim
def tG (e:Ext G H G1 H1) (a:r<G.n):ao Y G1 H1 (.v (.ref r)) (.ref (G.aO r)):=⟨Ab3 a e.le,by rw [e.aO r a]⟩
def oh (c:attributeBase o name env (eval o env)=eval o env) (b:methodCallForm args.length (backTo pos (starEach args env)) (backToKw pos (keywordEach [] env))=k9) (a:(apos.endLine==pos.line)=k9):
 eval (.Call (.Attribute o name apos) args [] pos) env=(do
  let i ←eval o env
  standAt apos.atName
  let (f,first) ←holding [i] (getMethod i name (do return (← importBound o env).getD k9))
  callWith pos f first (backTo pos (starEach args env)) (backToKw pos (keywordEach [] env))):=by
 have d:methodCallForm (args.length+([]:List Keyword).length) _ _=true:=b
 have e:methodCallPos k9 o env apos pos=pure pos:=by unfold methodCallPos;simp [a]
 rw [arm_eval_Call,c]
 unfold methodCall
 rw [d]
 simp only [e,calleeOf,if_true,pure_bind]
def F1 (h: ∀e∈args,Qa e=k9) (d:args.length<29):methodCallForm args.length (backTo pos (starEach args env)) (backToKw pos (keywordEach [] env))=true:=by
 unfold methodCallForm
 have a:(backTo pos (starEach args env)).all (λx=> !x.1)=true:=by
  have:=jk (env:=env) (pos:=pos) h
  rw [Af]
  intro x b
  rw [List.any_eq_false]at this
  simpa using this x b
 rw [a]
 have c:(backToKw pos (keywordEach [] env))= []:=rfl
 rw [c]
 simp
 lia
def EJ (a:Go Y F X E k cf)(h1:cf.N[i]? =y0 x) (h2:zS cf.sc x=k9) (S:cQ x=k9) (I:cf.ob.mt.contains (c,m,q0)=k9) (v:(apos.endLine==pos.line)=k9) (l:ys.length<20) (f: ∀e∈y::ys,Qa e=k9) (A:PA X (y::ys) (eU Y E (M.Gj F es))):
 PE X (.Call (.Attribute (.Name x J) (Xd m) apos) (y::ys) [] pos) (tD Y E (M.eval F (.ai i c m q0 es))):=by
 obtain⟨B,fa,fd,ps,L,b,O⟩:=a.gP c m q0 I
 refine PE.imp (vU (qD a h1 h2 S) B L b a.room O .nil a.pass A (Za (f _ Aa)) (jk λe P=>f e (Aa0 _ P)) (oh rfl (F1 f (by simp;lia)) v)) λU H Q V=> ?_
 obtain⟨G,Z,h,s,p⟩:=V
 rw [M.eval]at p
 cases q:M.GJ h (M.Gk Z i)with
 | none=>rw [q]at p;exact p.elim
 | some o=>
  obtain⟨r,c',fs⟩:=o
  rw [q]at p
  dsimp only at p
  split at p
  ·rename_i C
   obtain⟨rfl,l⟩:=C
   obtain⟨n,u⟩:=QD q
   obtain⟨W,_,D,us,K,ru⟩:=s.heap.obj r _ fs u
   have d:r<G.n:=by rw [← s.heap.len];exact(Ab9.mp u).1
   refine⟨_,Xy s q,G.aO r,D,_,rfl,K,xE (Af6.mp l),?_⟩
   refine Qs s.heap Ext.refl s p λt N h1 T H1 n j R z J=> ?_
   rw [Ad0]
   refine⟨T,h1,.v _::t.map M.W.arg,R.heap,⟨.ref _,N,rfl,tG j d,Zq z⟩,λw g=> ?_,ax.mk J n s.heap⟩
   obtain rfl | g:=Aa5.mp g
   ·rfl
   ·exact Wp t w g
  ·exact p.elim
def w6 (a:Go Y F X E k cf)(h1:cf.N[i]? =y0 x) (h2:zS cf.sc x=k9) (y:cQ x=k9) (t:cf.ob.mt.contains (c,m,q0)=k9) (g:(apos.endLine==pos.line)=k9):
 PE X (.Call (.Attribute (.Name x p1) (Xd m) apos) [] [] pos) (tD Y E (M.eval F (.ai i c m q0 .nil))):=by
 obtain⟨B,I,L,N,j,b,v⟩:=a.gP c m q0 t
 refine PE.imp (ye (qD a h1 h2 y) B j b a.room v .nil a.pass (oh rfl rfl g)) λU H Q A=> ?_
 obtain⟨G,Z,h,s,p⟩:=A
 rw [M.eval]at p
 cases q:M.GJ h (M.Gk Z i)with
 | none=>rw [q]at p;exact p.elim
 | some o=>
  obtain⟨r,O,fs⟩:=o
  rw [q]at p
  dsimp only at p
  split at p
  ·rename_i l
   obtain⟨rfl,f⟩:=l
   obtain⟨C,e⟩:=QD q
   obtain⟨D,_,n,K,u,J⟩:=s.heap.obj r _ fs e
   have d:r<G.n:=by rw [← s.heap.len];exact(Ab9.mp e).1
   refine⟨_,Xy s q,G.aO r,n,_,rfl,u,xE (Af6.mp f),?_⟩
   have p:=p
   refine⟨G,h,[.v _],s.heap,⟨.ref _,[],rfl,tG Ext.refl d,rfl⟩,λw z=> ?_,ax.mk p Ext.refl s.heap⟩
   cases Ab6.mp z
   rfl
  ·exact p.elim
def vr (o:Go Y F X E k cf)(hg:bG cf.sc c g=k9) (hm:cf.ob.ea.contains (c,q0)=k9) (N: ∀e∈y::ys,Qa e=k9) (S:PA X (y::ys) (eU Y E (M.Gj F es))):
 PE X (.Call g (y::ys) [] pos) (tD Y E (M.eval F (.make c q0 es))):=by
 obtain⟨p0,rfl,g2,T⟩:=wb hg
 obtain⟨D,fa,fd,ps,mk,t,bd⟩:=o.ea c q0 hm
 refine PE.imp (ya mk t o.dH (o.gl _ g2) D bd .nil o.pass S T (Za (N _ Aa)) (jk λe he=>N e (Aa0 _ he))) λU H Q qq=> ?_
 obtain⟨G,Z,h,s,p⟩:=qq
 refine Qs s.heap Ext.refl s p λL vs l f z I e1' j R b=> ?_
 intro a n q O ne
 rw [Ad0]
 have K:aI z n (.own a) a=none:=by rw [xa (Ne.symm ne)];exact q
 have x1:Ext f z f (aI z n (.own a)):=jD _ O
 have r2:=j.heap.new (.own a) O
 have P:Ext f _ f (aI _ a (.ins (Y.ca c) n [])):=jD _ K
 have r3:=r2.new (.ins (Y.ca c) n []) K
 have kl:=j.heap.iN q
 have r4:=yY r3 kl (j.heap.iW q) jb
 have u:=jJ (x1.trans j.heap P) q
 have r:=by
  show l.length<f.n+1/\V.ref a= .ref (if l.length=f.n then a else f.aO l.length)
  rw [j.heap.len,if_pos rfl]
  exact⟨Ae4 _,rfl⟩
 refine⟨f.cell a,l++ [.obj c []],.v (.ref l.length)::L.map M.W.arg,r4,⟨.ref a,vs,rfl,r,a8.ext u j.heap (Zq R)⟩,λw C=> ?_,?_⟩
 ·obtain rfl | C:=Aa5.mp C
  ·rfl
  ·exact Wp L w C
 ·cases A:F.call q0 _ (l++ [.obj c []])with
  | fail=>rw [A]at b;exact b.elim
  | exc d W=>
   rw [A]at b
   exact λx B m i=>b x B ((I.trans s.heap u).trans s.heap m) i
  | ok w W=>
   rw [A]at b
   intro x B m i v rv _
   cases w with
   | own _=>exact b.elim
   | bor _=>exact b.elim
   | v d=>
    cases d with
    | aj=>
     refine⟨rv,?_⟩
     have b:=b
     have J:=r.1
     exact b x B ((I.trans s.heap u).trans s.heap m) i _ ⟨Ab3 J m.le,by rw [m.aO _ J];exact r.2⟩ trivial
    | _=>exact b.elim
end
def PW.ef (h:PT X (.BoolOp op vs pos) t):PW X (.BoolOp op vs pos) t:=λb a s U H Q I q=>by
 have:=h a s U H Q I q
 exact this
theorem qv : ∀ {es}{xs}{Z}{h}{ds}{h'},bt cf es xs=k9->M.Gq F es Z h= .ok ds h'->ds.length=xs.length
 | .nil,xs,_,_,_,_,c,e=>by
  cases Ae2.mp c
  rw [M.Gq]at e;cases e;rfl
 | .cons a es,xs,Z,h,ds,h',c,e=>by
  refine kC (λx r c=> ?_) xs c
  obtain⟨w,k,f,e⟩:=Xh e
  obtain⟨d,i,g,e⟩:=Xh e
  obtain⟨r,j,b,e⟩:=Xh e
  cases e
  rw [Aa2,Aa2,qv (a2 c).2 b]
theorem Qe : ∀ {es}{xs},bt cf es xs=k9-> ∀e∈xs,Qa e=k9
 | .nil,xs,c=>by
  cases Ae2.mp c
  intro e b;cases b
 | .cons a es,xs,c=>by
  refine kC (λx r c=> ?_) xs c
  intro e b
  rcases Aa5.mp b with rfl | b
  ·exact(a3 c).1
  ·exact Qe (a2 c).2 e b
theorem zD : ∀ {aE}{xs},WA cf aE xs=k9->aE.length=xs.length
 | [],[],_=>rfl
 | [],_::_,h=>by simp [WA]at h
 | _::_,[],h=>by simp [WA]at h
 | j::a,x::xs,h=>by
  simp only [WA,Aa9]at h
  exact congrArg (· +1) (zD h.2)
def xy (h:Jo e f=k9):Zh e=true:=by
 refine wm (λg x l p h=> ?_) e h
 rfl
def ZR (h:cL cf it e=k9):Zh e=true:=by
 cases it with
 | seq a=>exact(a2 h).1
 | aJ a=>exact xy h
 | cb a b=>exact xy h
 | rev a=>exact xy h
 | zip a b=>exact b0 h
 | enum a=>exact b0 h
 | bM a b=>exact xy h
section
variable {Y:Ge}{F:M.Fx}{k:Nat}
def bo (a:Go Y F X E k cf) (r:PE X x (tD Y E (M.eval F m))) (b: ∀i,isTrue x X.env i=(do let v ←i;standAt x.pos;holding [v] (truthy v))):PE X x (tD Y E (M.eval F m))/\(eO m=k9->PT X x (cS Y E (M.Gf F m))):=⟨r,λ_=>Dz a r b⟩
mutual
theorem Xc: ∀(m:M.E){X:Cx}{E:XK}{cf:Cf}{e:Expr},Go Y F X E k cf->jd cf m e=k9->PE X e (tD Y E (M.eval F m))/\(eO m=k9->PT X e (cS Y E (M.Gf F m)))
 | .var i,X,E,cf,e,go,h=>by
  refine Qq (λx p h=> ?_) e h
  obtain⟨h1,h2,h3⟩:=gr h
  exact bo go (Cd go h1 h2 h3) λ_=>rfl
 | .con c,X,E,cf,e,go,h=>by
  have r:=B6 go h
  obtain⟨p,rfl,_,_⟩:=wb h
  exact bo go r λ_=>rfl
 | .int i,X,E,cf,e,go,h=>by
  refine wt (λx n p h=> ?_) e h
  cases of_decide_eq_true h;exact bo go DQ λ_=>rfl
 | .bl i,X,E,cf,e,go,h=>by
  refine wt (λx n p h=> ?_) e h
  cases of_decide_eq_true h;exact bo go Et λ_=>rfl
 | .aj,X,E,cf,e,go,h=>by
  refine wt (λx n p h=> ?_) e h
  cases of_decide_eq_true h;exact bo go yz λ_=>rfl
 | .str i,X,E,cf,e,go,h=>by
  refine wt (λx n p h=> ?_) e h
  cases of_decide_eq_true h;exact bo go C4 λ_=>rfl
 | .tup es,X,E,cf,e,go,h=>by
  refine mU (λx n p h=> ?_) e h
  obtain⟨h1,h2⟩:=a2 h
  exact bo go (BS (of_decide_eq_true h1) (λZ hh ds h' q=>qv h2 q) (fO es go h2)) λ_=>rfl
 | .lst es,X,E,cf,e,go,h=>by
  refine yE (λx p h=> ?_) e h
  obtain⟨h1,h2⟩:=a2 h
  exact bo go (yH (of_decide_eq_true h1) (λZ hh ds h' q=>qv h2 q) (fO es go h2)) λ_=>rfl
 | .bin o a b,X,E,cf,e,go,h=>by
  refine yW (λx o y p h=> ?_) e h
  obtain⟨h0,ho,h1,h2⟩:=a4 h
  cases of_decide_eq_true h0
  exact bo go (t7 go ho (Xc a go h1).1 (Xc b go h2).1) λ_=>rfl
 | .cmp o a b,X,E,cf,e,go,h=>by
  refine mC (λx o y p h=> ?_) e h
  refine kC (λy r h=> ?_) y h
  obtain⟨h0,ho,hs,h1,h2⟩:=a5 h
  obtain⟨rfl,rfl⟩:=of_decide_eq_true h0
  exact⟨yP go ho hs (Xc a go h1).1 (Xc b go h2).1,λ_=>yt go ho hs (Xc a go h1).1 (Xc b go h2).1⟩
 | .chain o q a b c,X,E,cf,e,go,h=>by
  refine mC (λx o y p h=> ?_) e h
  refine kC (λy r h=> ?_) y h
  refine kC (λz r h=> ?_) r h
  obtain⟨h0,ho,hq,hs,h1,h2,h3⟩:=a7 h
  obtain⟨rfl,rfl⟩:=of_decide_eq_true h0
  exact⟨F0 go ho hq hs (Xc a go h1).1 (Xc b go h2).1 (Xc c go h3).1,λ_=>q5 go ho hq hs (Xc a go h1).1 (Xc b go h2).1 (Xc c go h3).1⟩
 | .b9 neg a,X,E,cf,e,go,h=>by
  refine mC (λx o y p h=> ?_) e h
  refine kC (λy r h=> ?_) y h
  refine wt (λj n p h=> ?_) y h
  obtain⟨h0,h1,h2⟩:=a3 h
  obtain⟨rfl,rfl⟩:=of_decide_eq_true h0
  cases of_decide_eq_true h1
  exact⟨Dy (Xc a go h2).1,λ_=>uK (Xc a go h2).1⟩
 | .neg a,X,E,cf,e,go,h=>by
  refine oj (λo x p h=> ?_) e h
  cases of_decide_eq_true (a2 h).1
  exact bo go (AY (Xc a go (a2 h).2).1) λ_=>rfl
 | .not a,X,E,cf,e,go,h=>by
  refine oj (λo x p h=> ?_) e h
  cases of_decide_eq_true (a2 h).1
  exact⟨Dh go (Xc a go (a2 h).2).1,λt=>Cc ((Xc a go (a2 h).2).2 t)⟩
 | .and a b,X,E,cf,e,go,h=>by
  refine oq (λo x p h=> ?_) e h
  refine kC (λx r h=> ?_) x h
  refine kC (λy r h=> ?_) r h
  obtain⟨h0,h1,h2⟩:=a3 h
  cases of_decide_eq_true h0
  cases r with
  | nil=>exact⟨pX go (Xc a go h1).1 (oK (Xc b go h2).1),λt=>(wZ ((Xc a go h1).2 (a2 t).1) (Cz ((Xc b go h2).2 (a2 t).2))).pt⟩
  | cons z r=>exact⟨pX go (Xc a go h1).1 (Xc b go h2).1,λt=>(wZ ((Xc a go h1).2 (a2 t).1) (PW.ef ((Xc b go h2).2 (a2 t).2))).pt⟩
 | .or a b,X,E,cf,e,go,h=>by
  refine oq (λo x p h=> ?_) e h
  refine kC (λx r h=> ?_) x h
  refine kC (λy r h=> ?_) r h
  obtain⟨h0,h1,h2⟩:=a3 h
  cases of_decide_eq_true h0
  cases r with
  | nil=>exact⟨tf go (Xc a go h1).1 (oK (Xc b go h2).1),λt=>(tu ((Xc a go h1).2 (a2 t).1) (Fv ((Xc b go h2).2 (a2 t).2))).pt⟩
  | cons z r=>exact⟨tf go (Xc a go h1).1 (Xc b go h2).1,λt=>(tu ((Xc a go h1).2 (a2 t).1) (PW.ef ((Xc b go h2).2 (a2 t).2))).pt⟩
 | .call f es,X,E,cf,e,go,h=>by
  refine wm (λg x l p h=> ?_) e h
  refine kE (λh=> ?_) l h
  obtain⟨h1,h2,h3⟩:=a3 h
  cases x with
  | nil=>
   cases es with
   | cons _ _=>exact b0 h3
   | nil=>
    have r:=ur (pos:=p) go h1 h2
    obtain⟨p,rfl,_,_⟩:=wb h1
    exact bo go r λ_=>rfl
  | cons x r=>
   have r:=BI (pos:=p) go h1 h2 (Qe h3) (cZ es go h3)
   obtain⟨p,rfl,_,_⟩:=wb h1
   exact bo go r λ_=>rfl
 | .bi b es,X,E,cf,e,go,h=>by
  refine wm (λg x l p h=> ?_) e h
  refine kE (λh=> ?_) l h
  refine kC (λx r h=> ?_) x h
  obtain⟨h1,h2,h3⟩:=a3 h
  have r:=vW (pos:=p) go h2 h1 (Qe h3) (cZ es go h3)
  obtain⟨p,rfl,_,_⟩:=wb h1
  exact bo go r λ_=>rfl
 | .dj a t,X,E,cf,e,go,h=>by
  refine wm (λg x l p h=> ?_) e h
  refine kE (λh=> ?_) l h
  refine kC (λx r h=> ?_) x h
  refine kC (λy r h=> ?_) r h
  refine kE (λh=> ?_) r h
  obtain⟨h1,h2,h3,h4,h5⟩:=a5 h
  have r:=u2 (pos:=p) go (of_decide_eq_true h3) h1 h2 h4 (Xc a go h5).1
  obtain⟨p,rfl,_,_⟩:=wb h1
  exact bo go r λ_=>rfl
 | .cc a one ts,X,E,cf,e,go,h=>by
  refine wm (λg x l p h=> ?_) e h
  refine kE (λh=> ?_) l h
  refine kC (λx r h=> ?_) x h
  refine kC (λy r h=> ?_) r h
  refine kE (λh=> ?_) r h
  obtain⟨h1,h2,h3,h4⟩:=a4 h
  have fin:PE X (.Call g [x,y] [] p) (tD Y E (M.eval F (.cc a one ts))):=by
   cases one with
   | true=>
    refine kC (λt r h=> ?_) ts h4
    refine kE (λh=> ?_) r h
    obtain⟨h5,h6⟩:=a2 h
    simp only [Bool.or_eq_true,decide_eq_true_eq]at h6
    exact yh go h6 h1 h5 h2 (Xc a go h3).1
   | false=>
    refine mU (λzs n p h=> ?_) y h4
    exact An go (of_decide_eq_true (a2 h).1) h1 (a2 h).2 h2 (Xc a go h3).1
  obtain⟨p,rfl,_,_⟩:=wb h1
  exact bo go fin λ_=>rfl
 | .ix a b,X,E,cf,e,go,h=>by
  refine fq (λx y p h=> ?_) e h
  obtain⟨h1,h2,h3⟩:=a3 h
  exact bo go (Bq go h1 (Xc a go h2).1 (Xc b go h3).1) λ_=>rfl
 | .sl a lo hi,X,E,cf,e,go,h=>by
  refine fq (λx y p h=> ?_) e h
  refine lr (λl u z p2 h=> ?_) y h
  refine kS (λl h=> ?_) l h
  refine kS (λu h=> ?_) u h
  obtain⟨h0,h1,h2,h3⟩:=a4 h
  cases nn h0
  exact bo go (A0 go (Xc a go h1).1 (Xc lo go h2).1 (Xc hi go h3).1) λ_=>rfl
 | .fG a lo,X,E,cf,e,go,h=>by
  refine fq (λx y p h=> ?_) e h
  refine lr (λl u z p2 h=> ?_) y h
  refine kS (λl h=> ?_) l h
  obtain⟨h0,h1,h2,h3⟩:=a4 h
  cases nn h0;cases nn h1
  exact bo go (Ed go (Xc a go h2).1 (Xc lo go h3).1) λ_=>rfl
 | .eW a hi,X,E,cf,e,go,h=>by
  refine fq (λx y p h=> ?_) e h
  refine lr (λl u z p2 h=> ?_) y h
  refine kS (λu h=> ?_) u h
  obtain⟨h0,h1,h2,h3⟩:=a4 h
  cases nn h0;cases nn h1
  exact bo go (Er go (Xc a go h2).1 (Xc hi go h3).1) λ_=>rfl
 | .rev a,X,E,cf,e,go,h=>by
  refine fq (λx y p h=> ?_) e h
  refine lr (λl u z p2 h=> ?_) y h
  refine kS (λz h=> ?_) z h
  obtain⟨h0,h1,h2,h3⟩:=a4 h
  cases nn h0;cases nn h1
  exact bo go (FP go h2 (Xc a go h3).1) λ_=>rfl
 | .comp tg one kk aE it u6 c elt,X,E,cf,e,go,h=>by
  refine rT (λy g s p h=> ?_) e h
  refine kC (λg r h=> ?_) g h
  obtain⟨t,iter,ifs,z⟩:=g
  obtain⟨h0,h1,h2,h3,h4,h5,h6⟩:=a7 h
  obtain⟨rfl,rfl⟩:=of_decide_eq_true h0
  simp only [Af,decide_eq_true_eq]at h2
  have sc:=wE h1
  have ht: ∀C fp w H,fD (je X (zu cf t aE) s C fp w H) ifs (cS Y E0 (W4 F u6 c)):=λC fp w H=>by
   have gc:=Xw go sc C fp w H
   cases u6 with
   | true=>
    refine kC (λz r h=> ?_) ifs h6
    refine kE (λh=> ?_) r h
    exact rN ((Xc c gc (a2 h).2).2 (a2 h).1)
   | false=>
    cases Ae2.mp h6
    intro y8 s1 U H1 Q I ⟨G,Z,h,st,p⟩
    exact tI y8 s1 U H1 Q I (p G H1 Ext.refl st.heap)
  exact bo go (BC go sc (zD sc.aE) h3 h2 (ZR h4) (iS it go h4) (λC fp s H=>(Xc elt (Xw go sc C fp s H) h5).1) ht) λ_=>rfl
 | .share a,X,E,cf,e,go,h=>⟨AG (Xc a go h).1,λt=>b0 t⟩
 | .eC c a,X,E,cf,e,go,h=>by
  refine fq (λx y p h=> ?_) e h
  obtain⟨h1,h2,h3⟩:=a3 h
  exact bo go (CI go h1 h2 (Xc a go h3).1) λ_=>rfl
 | .dg T i,X,E,cf,e,go,h=>by
  refine fq (λd x p h=> ?_) e h
  refine sU (λks vs q h=> ?_) d h
  refine Qq (λx q2 h=> ?_) x h
  obtain⟨h1,h2,h3,h4,h⟩:=a5 h
  obtain⟨h5,h6,h7⟩:=gr h
  exact bo go (A5 go h1 (of_decide_eq_true h2) (of_decide_eq_true h3) (of_decide_eq_true h4) h5 h6 h7) λ_=>rfl
 | .iF T a,X,E,cf,e,go,h=>by
  refine fq (λd x p h=> ?_) e h
  refine sU (λks vs q h=> ?_) d h
  obtain⟨h1,h2,h3,h4,h5,h6⟩:=a6 h
  exact bo go (uk go h1 (of_decide_eq_true h2) (of_decide_eq_true h3) (of_decide_eq_true h4) h5 (Xc a go h6).1) λ_=>rfl
 | .dO a,X,E,cf,e,go,h=>by
  refine wm (λg x l p h=> ?_) e h
  refine kE (λh=> ?_) l h
  refine kC (λx r h=> ?_) x h
  refine kE (λh=> ?_) r h
  obtain⟨h1,h2,h3⟩:=a3 h
  exact bo go (AR go h1 h2 (Xc a go h3).1) λ_=>rfl
 | .bg a,X,E,cf,e,go,h=>by
  refine wm (λg x l p h=> ?_) e h
  refine kE (λh=> ?_) l h
  refine kC (λx r h=> ?_) x h
  refine kE (λh=> ?_) r h
  obtain⟨h1,h2,h3⟩:=a3 h
  exact bo go (Fl go h1 h2 (Xc a go h3).1) λ_=>rfl
 | .xf i f,X,E,cf,e,go,h=>by
  refine WV (λx n q h=> ?_) e h
  refine Qq (λx p h=> ?_) x h
  obtain⟨h,h0⟩:=a2 h
  obtain⟨h1,h2,h3⟩:=gr h
  cases of_decide_eq_true h0
  exact bo go (yg go h1 h2 h3) λ_=>rfl
 | .fld i c f,X,E,cf,e,go,h=>by
  refine WV (λx n q h=> ?_) e h
  refine Qq (λx p h=> ?_) x h
  obtain⟨h,h0,h4⟩:=a3 h
  obtain⟨h1,h2,h3⟩:=gr h
  cases of_decide_eq_true h0
  exact bo go (Ey go h1 h2 h3 h4) λ_=>rfl
 | .ai i c m q es,X,E,cf,e,go,h=>by
  refine wm (λg ys l p h=> ?_) e h
  refine kE (λh=> ?_) l h
  refine WV (λx n p2 h=> ?_) g h
  refine Qq (λx p1 h=> ?_) x h
  obtain⟨h,h0,h4,h6,h7,h5⟩:=a6 h
  obtain⟨h1,h2,h3⟩:=gr h
  cases of_decide_eq_true h0
  cases ys with
  | cons y ys=>exact bo go (EJ go h1 h2 h3 h4 h6 (of_decide_eq_true h7) (Qe h5) (cZ es go h5)) λ_=>rfl
  | nil=>
   cases es with
   | cons _ _=>exact b0 h5
   | nil=>exact bo go (w6 go h1 h2 h3 h4 h6) λ_=>rfl
 | .make c q es,X,E,cf,e,go,h=>by
  refine wm (λg x l p h=> ?_) e h
  refine kE (λh=> ?_) l h
  refine kC (λx r h=> ?_) x h
  obtain⟨h1,h2,h3⟩:=a3 h
  exact bo go (vr go h1 h2 (Qe h3) (cZ es go h3)) λ_=>rfl
 | .dz m a es,X,E,cf,e,go,h=>by
  refine wm (λg x l p h=> ?_) e h
  refine kE (λh=> ?_) l h
  refine kC (λx r h=> ?_) x h
  refine kE (λh=> ?_) r h
  refine WV (λo n q h=> ?_) g h
  obtain⟨h1,h2,h3,h4,h5,h6⟩:=a6 h
  cases of_decide_eq_true h1
  exact bo go (EF go h2 h3 h4 (Qe h6 _ Aa) (Xc a go h5).1 (cZ es go h6)) λ_=>rfl
theorem fO: ∀(es:M.Es){X:Cx}{E:XK}{cf:Cf}{xs:List Expr},Go Y F X E k cf->bt cf es xs=k9->PA X xs (ik Y E (M.Gq F es))
 | .nil,X,E,cf,xs,go,h=>by
  cases Ae2.mp h
  exact Ff
 | .cons a es,X,E,cf,xs,go,h=>by
  refine kC (λx r h=> ?_) xs h
  obtain⟨h1,h2,h3⟩:=a3 h
  exact CH h1 (Xc a go h2).1 (fO es go h3)
theorem cZ: ∀(es:M.Es){X:Cx}{E:XK}{cf:Cf}{xs:List Expr},Go Y F X E k cf->bt cf es xs=k9->PA X xs (eU Y E (M.Gj F es))
 | .nil,X,E,cf,xs,go,h=>by
  cases Ae2.mp h
  exact FZ
 | .cons a es,X,E,cf,xs,go,h=>by
  refine kC (λx r h=> ?_) xs h
  obtain⟨h1,h2,h3⟩:=a3 h
  exact um h1 (Xc a go h2).1 (cZ es go h3)
theorem iS: ∀(it:M.It){X:Cx}{E:XK}{cf:Cf}{tg e:Expr},Go Y F X E k cf->cL cf it e=k9->PI X tg e (ew Y E y9 (M.Gr F it))
 | .seq a,X,E,cf,tg,e,go,h=>uc go (Xc a go (a2 h).2).1
 | .aJ a,X,E,cf,tg,e,go,h=>by
  refine wm (λg x l p h=> ?_) e h
  refine kE (λh=> ?_) l h
  refine kC (λx r h=> ?_) x h
  refine kE (λh=> ?_) r h
  obtain⟨h1,h2,h3⟩:=a3 h
  exact jB go h1 h2 (Xc a go h3).1
 | .cb a b,X,E,cf,tg,e,go,h=>by
  refine wm (λg x l p h=> ?_) e h
  refine kE (λh=> ?_) l h
  refine kC (λx r h=> ?_) x h
  refine kC (λy r h=> ?_) r h
  refine kE (λh=> ?_) r h
  obtain⟨h1,h2,h3,h4,h5⟩:=a5 h
  exact jC go h1 h2 h3 (Xc a go h4).1 (Xc b go h5).1
 | .rev a,X,E,cf,tg,e,go,h=>by
  refine wm (λg x l p h=> ?_) e h
  refine kE (λh=> ?_) l h
  refine kC (λx r h=> ?_) x h
  refine kE (λh=> ?_) r h
  obtain⟨h1,h2,h3⟩:=a3 h
  exact Fu go h1 h2 (Xc a go h3).1
 | .zip a b,X,E,cf,tg,e,go,h=>b0 h
 | .enum a,X,E,cf,tg,e,go,h=>b0 h
 | .bM a b,X,E,cf,tg,e,go,h=>by
  refine wm (λg x l p h=> ?_) e h
  refine kE (λh=> ?_) l h
  refine kC (λx r h=> ?_) x h
  refine kC (λy r h=> ?_) r h
  refine kC (λz r h=> ?_) r h
  refine kE (λh=> ?_) r h
  refine wt (λc n p h=> ?_) z h
  obtain⟨h0,h1,h2,h3,h4,h5⟩:=a6 h
  cases of_decide_eq_true h0
  exact WC go h1 h2 h3 (Xc a go h4).1 (Xc b go h5).1
end
end
structure Bs where
 G:Gh
 H:Hp
 h:M.AH
structure aZ (Y:Ge) (B:Bs) (G:Gh) (Z:M.Sl) (h:M.AH) (U:St) (H:Hp):Prop where
 st:au Y G Z h U H
 ext:Ext B.G B.H G H
 hr:ak Y B.G B.h B.H
 own: ∀i xs a,M.Gk Z i=y0 (.own xs)->U[i]? =y0 (y0 (.ref a))->B.H a=u0
def aT (Y:Ge) (E:XK) (B:Bs) (o:M.O) (D:gQ):Prop:=match o with
 | .next Z h=> ∀G U H,aZ Y B G Z h U H->D.nx U H
 | .ret w h=> ∀G v H,Ext B.G B.H G H->ak Y G h H->ao Y G H w v->aF [] [] B.H w v->D.rt v H
 | .brk Z h=> ∀G U H,aZ Y B G Z h U H->D.bk U H
 | .cont Z h=> ∀G U H,aZ Y B G Z h U H->D.ct U H
 | .exc d h=> ∀G H,Ext B.G B.H G H->ak Y G h H->n5 Y E d G H
 | .fail=>False
def cA (Y:Ge) (E:XK) (m:M.Sl->M.AH->M.O):TS:=λD U H=> ∃B G Z h,aZ Y B G Z h U H/\aT Y E B (m Z h) D
def PS.imp {st:Stmt}(h:PS X st t) (k: ∀D U H,t' D U H->t D U H):PS X st t':=λa s U H D I q=>h a s U H D I (k _ _ _ q)
def cN.imp {st:List Stmt}(h:cN X st t) (k: ∀D U H,t' D U H->t D U H):cN X st t':=λa s U H D I q=>h a s U H D I (k _ _ _ q)
section
variable {Y:Ge}{E:XK}{B:Bs}{G G1:Gh}{Z:M.Sl}{h h1:M.AH}{U:St}{H H1:Hp}{D:gQ}
def aZ.on (s:aZ Y B G Z h U H) (e:Ext G H G1 H1) (a:ak Y G1 h1 H1):aZ Y B G1 Z h1 U H1:=⟨s.st.ext e a,s.ext.trans s.hr e,s.hr,s.own⟩
theorem aT.exc (s:aZ Y B G Z h U H) (p:aT Y E B (.exc d h1) D):ar Y E G H (.exc d h1) P:=λa b e c=>p a b (s.ext.trans s.hr e) c
def Wi (s:aZ Y B G Z h U H) (p:aT Y E B ((m Z h).c7 f) D)
 (k: ∀w v h1 G1 H1,Ext G H G1 H1->aZ Y B G1 Z h1 U H1->ao Y G1 H1 w v->aF Z U H w v->aT Y E B (f w h1) D->Q v H1):tD Y E m U H Q:=by
 refine⟨G,Z,h,s.st,?_⟩
 cases q:m Z h with
 | ok w h1=>rw [q]at p;exact λG1 H1 e b v a c=>k w v h1 G1 H1 e (s.on e b) a c p
 | exc d h1=>rw [q]at p;exact aT.exc s p
 | fail=>rw [q]at p;exact p
def X2 (s:aZ Y B G Z h U H) (p:aT Y E B ((m Z h).c7 f) D)
 (k: ∀b h1 G1 H1,Ext G H G1 H1->aZ Y B G1 Z h1 U H1->aT Y E B (f b h1) D->Q b H1):cS Y E m U H Q:=by
 refine⟨G,Z,h,s.st,?_⟩
 cases q:m Z h with
 | ok w h1=>rw [q]at p;exact λG1 H1 e a=>k w h1 G1 H1 e (s.on e a) p
 | exc d h1=>rw [q]at p;exact aT.exc s p
 | fail=>rw [q]at p;exact p
theorem aZ.set (p:aZ Y B G Z h U H) (e:Ext G H G1 H1) (s:aZ Y B G1 Z h1 U H1) (r:ao Y G1 H1 w v) (f:aF Z U H w v) (x: ∀xs,w≠ .bor xs):aZ Y B G1 (M.GE Z i w) h1 (U.set i (y0 v)) H1:=by
 refine⟨s.st.set r λu j A t g m a y z=> ?_,s.ext,s.hr,λj xs a g k=> ?_⟩
 ·cases w with
  | v d=>cases u
  | bor xs=>exact x xs rfl
  | own xs=>
   obtain⟨b,n,l⟩:=f
   subst y
   cases n
   obtain⟨o,q⟩:=p.st.cH g m z
   rw [l]at q;cases q
 ·rw [Jf]at g
  by_cases c:j=i/\i<Z.length
  ·rw [if_pos c]at g
   cases g
   obtain⟨rfl,c⟩:=c
   rw [Ac4 (by rw [← s.st.len];exact c)]at k
   cases k
   obtain⟨b,n,l⟩:=f
   cases n
   exact p.ext.none p.hr l
  ·rw [if_neg c]at g
   have t:=λz=>c ⟨z,by subst z;exact jp g⟩
   rw [Ac7 (Ne.symm t)]at k
   exact s.own j xs a g k
def aZ.fz (a:aZ Y B G Z h U H) (e:Ext G H G1 H1) (s:aZ Y B G1 Z h1 U H1) (r:ao Y G1 H1 w v) (f:aF Z U H w v) (c:w.d=y0 d): ∃G2,Ext G H G2 H1/\aZ Y B G2 Z h1 U H1/\aA Y G2 H1 d v:=by
 obtain⟨G2,b,g,rd,_⟩:=m3 e s.st a.st r f c
 exact⟨G2,b,⟨g,a.ext.trans a.hr b,s.hr,s.own⟩,rd⟩
def aZ.dq (s:aZ Y B G Z h U H) (r:aA Y G H d v):aZ Y B G (M.GE Z i (.v d)) h (U.set i (y0 v)) H:=aZ.set s Ext.refl s r trivial λa z=>by cases z
theorem aZ.aR: ∀ {is}{ds}{vs}{Z j}{U},M.aR is ds Z=y0 j->af Y G H ds vs->aZ Y B G Z h U H->aZ Y B G j h (fS is vs U) H/\is.length=vs.length
 | [],[],_,_,_,_,e,rfl,s=>by cases e;exact⟨s,rfl⟩
 | [],_::_,_,_,_,_,e,_,_=>by simp [M.aR]at e
 | _::_,[],_,_,_,_,e,_,_=>by simp [M.aR]at e
 | i::is,d::ds,_,_,_,_,e,⟨v,r,rfl,b,c⟩,s=>by
  obtain⟨f,a⟩:=aZ.aR (by simpa [M.aR]using e) c (s.dq b)
  exact⟨f,congrArg (· +1) a⟩
def tU (e:M.Gz tg one d Z=y0 Z') (r:aA Y G H d x) (s:aZ Y B G Z h U H) (c: ∀j,aZ Y B G Z' h j H->Q j H):gM Y tg one x U H Q:=by
 cases one with
 | true=>
  cases tg with
  | nil=>cases e
  | cons i g=>
   cases g with
   | cons _ _=>cases e
   | nil=>
    cases e
    exact⟨i,rfl,c _ (s.dq r)⟩
 | false=>
  cases d with
  | tup f=>
   obtain⟨a,n,rfl,m,b⟩:=r
   obtain⟨l,k⟩:=aZ.aR (e) b s
   exact⟨G,f,n,a,rfl,m,b,k,c _ l⟩
  | _=>cases e
def aZ.write (s:aZ Y B G Z h U H) (f:M.Gk Z i=y0 (.own xs)) (n:U[i]? =y0 (y0 (.ref a))) (r:af Y G H ys us):aZ Y B G (M.GE Z i (.own ys)) h U (aI H a (.lst us)):=by
 obtain⟨J,of,vs,ha,_⟩:=Js s.st f n
 have P:=s.own i xs a f n
 have mon:Mon G H G (aI H a (.lst us)):=⟨λb o z q=>by rw [xa (λe:b=a=>J (e▸z))];exact q,Aa6 _,λ_ _=>rfl,λ_ z=>z⟩
 have W:=jp f
 have F:ak Y G h (aI H a (.lst us)):=by
  refine⟨s.st.heap.len,λq c e=>⟨(s.st.heap.any q c e).1,(s.st.heap.any q c e).2.mon mon λo z=>by rw [xa (of q (s.st.heap.lt e))];exact z⟩,s.st.heap.inj,λb z=> ?_⟩
  obtain⟨o,q⟩:=s.st.heap.live b z
  exact⟨o,by rw [xa (λe:b=a=>J (e▸z))];exact q⟩
 refine⟨⟨by rw [Xn];exact s.st.len,λj w e=> ?_,λp q E w b C l m R X=> ?_,F⟩,⟨λb o q x=> ?_,s.ext.le,s.ext.aO,s.ext.new,s.ext.fz,s.ext.old,λq K z=> ?_⟩,s.hr,λj E b l m=> ?_⟩
 ·rw [Jf]at e
  by_cases c:j=i/\i<Z.length
  ·rw [if_pos c]at e
   cases e
   obtain⟨rfl,_⟩:=c
   exact⟨.ref a,n,a,us,rfl,J,of,jb,r.mon mon⟩
  ·rw [if_neg c]at e
   have Q:=λz=>c ⟨z,by subst z;exact jp e⟩
   obtain⟨v,y,N⟩:=s.st.slot j w e
   refine⟨v,y,?_⟩
   cases w with
   | v d=>exact aA.mon mon N
   | own V=>
    obtain⟨b,bs,rfl,S,L,k,A⟩:=N
    have u:b≠a:=λz=>s.st.apart i j xs _ a (Ne.symm Q) f e rfl n (z▸y)
    exact⟨b,bs,rfl,S,L,by rw [xa u];exact k,A.mon mon⟩
   | bor V=>
    obtain⟨b,bs,rfl,L,k,A⟩:=N
    have u:b≠a:=λz=>s.st.apart i j xs _ a (Ne.symm Q) f e rfl n (z▸y)
    refine⟨b,bs,rfl,L,?_,A.mon mon⟩
    obtain k | ⟨o,k⟩:=k
    ·exact .inl (by rw [xa u];exact k)
    ·exact .inr ⟨o,by rw [xa u];exact k⟩
 ·rw [Jf]at l m
  have I: ∃g,M.Gk Z p=y0 (.own g):=by
   by_cases c:p=i/\i<Z.length
   ·exact⟨xs,by rw [c.1];exact f⟩
   ·rw [if_neg c]at l;exact⟨E,l⟩
  have O: ∃t,M.Gk Z q=y0 t/\eZ t=true:=by
   by_cases c:q=i/\i<Z.length
   ·exact⟨.own xs,by rw [c.1];exact f,rfl⟩
   ·rw [if_neg c]at m;exact⟨w,m,R⟩
  obtain⟨g,I⟩:=I
  obtain⟨t,O,D⟩:=O
  exact s.st.apart p q g t b C I O D X
 ·rw [xa (λe:b=a=>by rw [e,P]at q;cases q)]
  exact s.ext.keep b o q x
 ·obtain⟨o,T⟩:=s.ext.cells q K z
  have:B.G.aO q≠a:=λe=>by
   have:=of q (Ab3 K s.ext.le)
   rw [s.ext.aO q K]at this
   exact this e
  exact⟨o,by rw [xa this];exact T⟩
 ·rw [Jf]at l
  by_cases c:j=i/\i<Z.length
  ·obtain⟨rfl,_⟩:=c
   rw [n]at m
   cases m
   exact P
  ·rw [if_neg c]at l;exact s.own j E b l m
theorem xF: ∀(xs) (n){d},M.Gg xs=k9->M.Gm d=k9->M.Gg (xs.set n d)=k9
 | [],_,_,_,_=>rfl
 | x::xs,0,d,h,a=>by
  have h:=h
  rw [Aa9]at h
  show(M.Gm d&&M.Gg xs)=k9
  rw [a,h.2];rfl
 | x::xs,n+1,d,h,a=>by
  have h:=h
  rw [Aa9]at h
  show(M.Gm x&&M.Gg (xs.set n d))=k9
  rw [h.1,xF xs n h.2 a];rfl
def aZ.gR (s:aZ Y B G Z h U H) (p:h[r]? =y0 c0) (z:bx Y G (aI H (G.aO r) o1) (G.aO r) c1):aZ Y B G Z (h.set r c1) U (aI H (G.aO r) o1):=by
 have u:=(Ab9.mp p).1
 have g:=s.st.heap.lt p
 have m:=s.st.heap.kl g
 have mon:Mon G H G (aI H _ o1):=⟨λb o w q=>by rw [xa (λe:b=G.aO r=>m (e▸w))];exact q,Aa6 _,λ_ _=>rfl,λ_ w=>w⟩
 have l:ak Y G (h.set r c1) (aI H (G.aO r) o1):=by
  refine⟨by rw [Ac5];exact s.st.heap.len,λq c e=> ?_,s.st.heap.inj,λb w=> ?_⟩
  ·by_cases c:q=r
   ·subst c
    rw [Ac4 u]at e
    cases e
    exact⟨m,z⟩
   ·rw [Ac7 (Ne.symm c)]at e
    exact⟨(s.st.heap.any q _ e).1,(s.st.heap.any q _ e).2.mon mon λo w=>by rw [xa λx=>c (s.st.heap.inj q r (s.st.heap.lt e) g x)];exact w⟩
  ·obtain⟨o,q⟩:=s.st.heap.live b w
   exact⟨o,by rw [xa (λe:b=G.aO r=>m (e▸w))];exact q⟩
 refine⟨⟨s.st.len,λj w e=> ?_,s.st.apart,l⟩,⟨λb o q i=> ?_,s.ext.le,s.ext.aO,s.ext.new,s.ext.fz,s.ext.old,λq C w=> ?_⟩,s.hr,s.own⟩
 ·obtain⟨v,t,n⟩:=s.st.slot j w e
  refine⟨v,t,?_⟩
  cases w with
  | v d=>exact aA.mon mon n
  | own D=>
   obtain⟨b,bs,rfl,A,f,a,k⟩:=n
   exact⟨b,bs,rfl,A,f,by rw [xa (Ne.symm (f r g))];exact a,k.mon mon⟩
  | bor D=>
   obtain⟨b,bs,rfl,f,a,k⟩:=n
   refine⟨b,bs,rfl,f,?_,k.mon mon⟩
   obtain a | ⟨o,a⟩:=a
   ·exact .inl (by rw [xa (Ne.symm (f r g))];exact a)
   ·exact .inr ⟨o,by rw [xa (Ne.symm (f r g))];exact a⟩
 ·have E:b≠G.aO r:=λe=>by
   by_cases c:r<B.G.n
   ·exact i r c (by rw [← s.ext.aO r c];exact e.symm)
   ·have:=s.ext.new r (Nat.not_lt.mp c) g
    rw [← e,q]at this
    cases this
  rw [xa E]
  exact s.ext.keep b o q i
 ·by_cases c:B.G.aO q=G.aO r
  ·exact⟨_,by rw [c];exact jb⟩
  ·obtain⟨o,y⟩:=s.ext.cells q C w
   exact⟨o,by rw [xa c];exact y⟩
def QY (c:ak Y G h H) (a:r<G.n) (o):Mon G H G (aI H (G.aO r) o):=⟨λb o w q=>by rw [xa (λe:b=G.aO r=>c.kl a (e▸w))];exact q,Aa6 _,λ_ _=>rfl,λ_ w=>w⟩
def aZ.cell (s:aZ Y B G Z h U H) (a:h[r]? =y0 (.lst xs)) (b:M.Gg ys=k9) (z:af Y G H ys us):aZ Y B G Z (h.set r (.lst ys)) U (aI H (G.aO r) (.lst us)):=
 s.gR a ⟨b,us,jb,z.mon (QY s.st.heap (s.st.heap.lt a) _)⟩
def aZ.i5 (s:aZ Y B G Z h U H) (a:h[r]? =y0 (.obj c0 xs)) (b:M.Gg (ys.map (·.2))=k9) (z:af Y G H (ys.map (·.2)) us):aZ Y B G Z (h.set r (.obj c0 ys)) U (aI H (G.aO r) (.ins (Y.ca c0) dx0 ((ys.map λp=>Str.ofString p.1).zip us))):=
 s.gR a ⟨b,dx0,us,jb,z.mon (QY s.st.heap (s.st.heap.lt a) _)⟩
def aZ.freeze (s:aZ Y B G Z h U H) (k:M.Gk Z i=y0 (.own xs)): ∃G',aZ Y B G' (M.GE Z i (.v (.lst xs))) h U H:=by
 obtain⟨v,n,a,y,rfl,E,of,r,rs⟩:=s.st.slot i _ k
 have x:=s.own i xs a k n
 refine⟨G.more a,⟨⟨by rw [Xn];exact s.st.len,λj w e=> ?_,λp q m w b l d f g D=> ?_,s.st.heap.more of ⟨_,r⟩⟩,s.ext.more x,s.hr,λj m b d f=> ?_⟩⟩
 ·rw [Jf]at e
  by_cases c:j=i/\i<Z.length
  ·rw [if_pos c]at e
   cases e
   obtain⟨rfl,_⟩:=c
   exact⟨.ref a,n,a,y,rfl,.inl ⟨.inr rfl,.inl r⟩,rs.mon (Jn a)⟩
  ·rw [if_neg c]at e
   have C:=λz=>c ⟨z,by subst z;exact jp e⟩
   obtain⟨v,o,A⟩:=s.st.slot j w e
   exact⟨v,o,A.more λg u=>s.st.apart i j xs w a (Ne.symm C) k e g n (u▸o)⟩
 ·rw [Jf]at d f
  by_cases c:p=i/\i<Z.length
  ·rw [if_pos c]at d;cases d
  ·rw [if_neg c]at d
   by_cases t:q=i/\i<Z.length
   ·rw [if_pos t]at f;cases f;cases g
   ·rw [if_neg t]at f;exact s.st.apart p q m w b l d f g D
 ·rw [Jf]at d
  by_cases c:j=i/\i<Z.length
  ·rw [if_pos c]at d;cases d
  ·rw [if_neg c]at d;exact s.own j m b d f
end
structure gT (Y:Ge) (F:M.Fx) (X:Cx) (E:XK) (k:Nat) (cf:Cf):Prop extends Go Y F X E k cf where
 g5:PassesOwn (model X.prog X.w) X.A X.env X.xe
 ic:X.stack=X.env::X.outer
 n6:X.env.frame=y0 X.env.locals
 ex:X.ex= []
 c3: ∀c,cf.c3.contains c=true->ia cf.sc (Xd c)=true->(Xd c==("__debug__" :Str))=false->eh Y c/\ ∀(np k6 pos:Pos) (e:Expr) (es:List Expr) (t:TA),PA X (e::es) t->(∀ e'∈e::es,Qa e'=true) →
  PS X (.Raise (y0 (.Call (.Name (Xd c) np) (e::es) [] k6)) u0 pos) (pY (Y.ca c) E t)
 lQ: ∀c f,cf.ob.er.contains (c,f)=true->ia cf.sc (Xd c)=true->(Xd c==("__debug__" :Str))=false->eh Y c/\iO Y.K (Y.ca c) (Xd f)/\ ∀(np k6 pos:Pos) (e:Expr) (t:TA),PA X [e] t->Qa e=true →
  PS X (.Raise (y0 (.Call (.Name (Xd c) np) [e] [] k6)) u0 pos) (su (Y.ca c) (Xd f) E t)
 cG: ∀c,cf.cG.contains c=true->PySem.W.mroIn X.K (Y.ca c) (.type "BaseException")=some true/\cf.own.contains c=true
section
variable {Y:Ge}{F:M.Fx}{X:Cx}{E:XK}{k:Nat}{cf:Cf}
def JN (h:ZE cf i x=k9):cf.N[i]? =y0 x/\hV cf.sc x=true:=by
 simpa [ZE]using h
def Zw (h:qp cf i x=k9):cf.N[i]? =y0 x/\cf.sc.names.lookup x=y0 .local:=by
 simpa [qp]using h
def Ha (q:tD Y E (M.eval F (.share a)) U H Q):tD Y E (M.eval F a) U H Q:=by
 obtain⟨G,Z,h,s,p⟩:=q
 refine Ja s.heap Ext.refl s p λt v1 e g A j y i m n b=> ?_
 cases t with
 | own c=>
  obtain⟨l,z,rfl,u,w,o,x⟩:=m
  obtain⟨B,r,k⟩:=n
  cases r
  have b:ar Y E G H (if M.Gg c=k9 then M.aH _ (e++ [.lst c])else .fail) _:=b
  by_cases f:M.Gg c=k9
  rotate_left
  ·rw [if_neg f]at b;exact b.elim
  rw [if_pos f]at b
  refine ar.val b (jJ j k) (WP i.heap u w o x f) ?_ trivial
  show e.length<g.n+1/\V.ref l= .ref (if e.length=g.n then l else g.aO e.length)
  rw [i.heap.len,if_pos rfl]
  exact⟨Ae4 _,rfl⟩
 | v d=>exact b.elim
 | bor c=>exact b.elim
def ji (h:wo v=k9):swapsWith v t l env=pure false:=by
 cases v<;>first | rfl | (simp [wo]at h)
def JO (a:Go Y F X E k cf)(b:ZE cf i x=k9) (f:PE X v (tD Y E (M.eval F m))) (d:swapsWith v (y0 (.Name x p)) pos.line X.env=pure y9):
 PS X (.Assign [.Name x p] v pos) (gJ (tD Y E (M.eval F m)) (XQ i)):=by
 obtain⟨e,c⟩:=JN b
 have b:=a.hH x c
 exact By (by rw [a.N];exact a.nd) (by rw [a.N];exact e) b.1 f d b.2
def sP:M.E->Bool
 | .share _=>k9
 | .comp .. =>k9
 | _=>y9
def A1 (h:jd cf m v=k9) (a:sP m=y9):wo v=true:=by
 cases v with
 | ListComp _ _ _ _=>cases m<;>first | exact b0 h | (exact absurd (a) Am0)
 | SetComp _ _ _ _=>cases m<;>first | exact b0 h | (exact absurd (a) Am0)
 | DictComp _ _ _ _ _=>cases m<;>first | exact b0 h | (exact absurd (a) Am0)
 | _=>rfl
def FE (d:Cf) (a:Bool) (b:List Expr) (c:M.E):Bool:=bif a then(lC b λz r=>kZ r (eO c&&jd d c z))else b.isEmpty
def D9 (h:jd cf (.comp tg one kk aE it u6 c elt) v=k9): ∃y t iter ifs scope p0,v= .ListComp y [⟨t,iter,ifs,0⟩] scope p0 ∧
 iy cf scope (zu cf t aE) kk aE/\(∀ i∈tg,i<kk)/\Xf { cf with sc:=scope,N:=zu cf t aE } tg one t=k9/\cL cf it iter=k9/\jd { cf with sc:=scope,N:=zu cf t aE } elt y=k9 ∧
 FE { cf with sc:=scope,N:=zu cf t aE } u6 ifs c=true:=by
 refine rT (λy g s p h=> ?_) v h
 refine kC (λg r h=> ?_) g h
 obtain⟨t,iter,ifs,z⟩:=g
 obtain⟨f,k,a,j,b,e,d⟩:=a7 h
 obtain⟨rfl,rfl⟩:=of_decide_eq_true f
 simp [decide_eq_true_eq]at a
 exact⟨y,t,iter,ifs,s,p,rfl,wE k,a,j,b,e,d⟩
def Ax (e:Go Y F X E k cf)(n:ZE cf i x=k9)(h:jd cf (.comp tg one kk aE it u6 c elt) v=k9):
 PS X (.Assign [.Name x p] v pos) (gJ (tD Y E (M.eval F (.comp tg one kk aE it u6 c elt))) (XQ i)):=by
 have D:=(Xc _ e h).1
 obtain⟨y,t,g,d,a,w,rfl,l,K,P,m,B,o⟩:=D9 h
 obtain⟨b,q⟩: ∃b,swapsWith (.ListComp y [⟨t,g,d,0⟩] a w) (y0 (.Name x p)) pos.line X.env=pure b:=⟨_,rfl⟩
 cases b with
 | false=>exact JO e n D q
 | true=>
  obtain⟨A,R⟩:=JN n
  have J: ∀C j s H,fD (je X _ a C j s H) d (cS Y E0 (W4 F u6 c)):=λC j s H=>by
   have L:=Xw e l C j s H
   cases u6 with
   | true=>
    refine kC (λz r h=> ?_) d o
    refine kE (λh=> ?_) r h
    exact rN ((Xc c L (a2 h).2).2 (a2 h).1)
   | false=>
    cases Ae2.mp o
    intro f O U u Q I ⟨G,Z,h,N,p⟩
    exact tI f O U u Q I (p G u Ext.refl N.heap)
  exact jU e A R q l (zD l.aE) P K (ZR m) (iS it e m) (λC j s H=>(Xc elt (Xw e l C j s H) B).1) J
def Jb (a:Go Y F X E k cf)(c:ZE cf i x=k9)(h:jd cf m v=k9) (b:sP m=y9):PS X (.Assign [.Name x p] v pos) (gJ (tD Y E (M.eval F m)) (XQ i)):=
 JO a c (Xc m a h).1 (ji (A1 h b))
theorem mr (b:Go Y F X E k cf)(c:ZE cf i x=k9): ∀ m,jd cf m v=k9->PS X (.Assign [.Name x p] v pos) (gJ (tD Y E (M.eval F m)) (XQ i))
 | .share a,h=>PS.imp (mr b c a h) λD U H q=>Ha q
 | .comp ..,h=>Ax b c h
 | .var _,h=>Jb b c h rfl
 | .con _,h=>Jb b c h rfl
 | .int _,h=>Jb b c h rfl
 | .bl _,h=>Jb b c h rfl
 | .aj,h=>Jb b c h rfl
 | .str _,h=>Jb b c h rfl
 | .tup _,h=>Jb b c h rfl
 | .lst _,h=>Jb b c h rfl
 | .bin ..,h=>Jb b c h rfl
 | .cmp ..,h=>Jb b c h rfl
 | .chain ..,h=>Jb b c h rfl
 | .b9 ..,h=>Jb b c h rfl
 | .neg _,h=>Jb b c h rfl
 | .not _,h=>Jb b c h rfl
 | .and ..,h=>Jb b c h rfl
 | .or ..,h=>Jb b c h rfl
 | .call ..,h=>Jb b c h rfl
 | .bi ..,h=>Jb b c h rfl
 | .dj ..,h=>Jb b c h rfl
 | .cc ..,h=>Jb b c h rfl
 | .ix ..,h=>Jb b c h rfl
 | .sl ..,h=>Jb b c h rfl
 | .fG ..,h=>Jb b c h rfl
 | .eW ..,h=>Jb b c h rfl
 | .rev _,h=>Jb b c h rfl
 | .dz ..,h=>Jb b c h rfl
 | .eC ..,h=>Jb b c h rfl
 | .dg ..,h=>Jb b c h rfl
 | .iF ..,h=>Jb b c h rfl
 | .dO _,h=>Jb b c h rfl
 | .bg _,h=>Jb b c h rfl
 | .fld ..,h=>Jb b c h rfl
 | .xf ..,h=>Jb b c h rfl
 | .ai ..,h=>Jb b c h rfl
 | .make ..,h=>Jb b c h rfl
def DD (o:Go Y F X E k cf)(n:ZE cf i x=k9)(h:jd cf m v=k9):PS X (.Assign [.Name x p] v pos) (cA Y E (M.exec F (.set i m))):=by
 refine PS.imp (mr o n m h) λD U H q=> ?_
 obtain⟨B,G,Z,h,s,p⟩:=q
 refine Wi s p λw v t l g b j c e a=> ?_
 cases w with
 | bor f=>exact a.elim
 | v d=>exact a l _ g (aZ.set s b j c e λf z=>by cases z)
 | own r=>exact a l _ g (aZ.set s b j c e λf z=>by cases z)
def B2 (l:Go Y F X E k cf)(c:ZE cf i x=k9)(h:jd cf m v=k9):PS X (.Assign [.Name x p] v pos) (cA Y E (M.exec F (.ae i m))):=by
 refine PS.imp (mr l c m h) λD U H r=> ?_
 obtain⟨B,G,Z,h,s,p⟩:=r
 refine Wi s p λw v y u j b o e g a=> ?_
 cases q:w.d with
 | none=>rw [q]at a;exact a.elim
 | some d=>
  rw [q]at a
  obtain⟨f,t,n,rd⟩:=aZ.fz s b o e g q
  exact a f _ j (n.dq rd)
def C3 :swapsWithSole [.Tuple ts n p] v l env=pure false:=by
 cases v<;>rfl
def QV (h:jj v=k9):swappedStores [.Tuple ts n p] v env=pure none:=by
 cases v<;>first | rfl | (simp [jj]at h)
def yn (e:Go Y F X E k cf)(l:Jq cf is ts=k9) (f:jj v=k9)(h:jd cf m v=k9):PS X (.Assign [.Tuple ts n p] v pos) (cA Y E (M.exec F (.iH is m))):=by
 refine PS.imp (nB (Xc m e h).1 (zt e (one:=y9) l) C3 (QV f) rfl) λD U H u=> ?_
 obtain⟨B,G,Z,h,s,p⟩:=u
 refine Wi s p λw v x t o y r g z a=> ?_
 cases w with
 | v d=>
  cases d with
  | tup b=>
   have a:aT Y E B (match M.aR is b Z with | some c=> .next c x | none=> .fail) D:=a
   cases q:M.aR is b Z with
   | none=>rw [q]at a;exact a.elim
   | some c=>
    rw [q]at a
    exact tU (show M.Gz is y9 (.tup b) Z=y0 c from q) g r λi j=>a t i o j
  | _=>exact a.elim
 | own _=>exact a.elim
 | bor _=>exact a.elim
def XN :swapsWithSole [.Subscript x y p] v l env=pure false:=by
 cases v<;>rfl
def WG :swappedStores [.Subscript x y p] v env=pure none:=by
 cases v<;>rfl
def sS (a:we y=k9) (v):assign (.Subscript x y p) env v=(do
 let i ←holding [v] (eval x env)
 let j ←holding [v,i] (eval y env)
 standAt p
 holding [v,i,j] (setItem i j v)
 release [v,i,j] []):=by
 cases y<;>first | rfl | (simp [we]at a)
def Q1 (a:M.flat d=k9) (z:aA Y G H d v):aA Y G' H' d v:=by
 cases d with
 | aj=>exact z
 | bl _=>exact z
 | int _=>exact z
 | str _=>exact z
 | _=>exact absurd (a) Ab1
def X7 (a:M.flat d=k9):M.Gm d=true:=by
 cases d<;>first | rfl | exact absurd (a) Ab1
def WT (c:Go Y F X E k cf)(P:we y=k9)(S:jd cf o x=k9) (R:jd cf kx y=k9) (h:jd cf m v=k9):PS X (.Assign [.Subscript x y p] v pos) (cA Y E (M.exec F (.bB o kx m))):=by
 refine PS.imp (nB (Xc m c h).1 (pq (Xc o c S).1 (Xc kx c R).1 WY (sS P)) XN WG rfl) λD U H Q=> ?_
 obtain⟨B,G,Z,h,s,p⟩:=Q
 refine Wi s p λw v h1 G1 H1 V O t f1 K=> ?_
 refine Wi O K λW ov h2 G2 H2 e2 g L f2 J=> ?_
 refine Wi g J λkw iv h3 i N u e C f3 a=> ?_
 unfold M.Ks at a
 split at a
 ·rename_i d r j
  split at a
  ·rename_i b q
   split at a
   ·rename_i n l
    split at a
    ·rename_i f
     obtain⟨T,z⟩:=(ao.ext u g.st.heap L)
     subst z
     cases (C)
     have rd:aA Y i N d v:=Q1 f t
     obtain⟨_,I,A,rv⟩:=e.st.heap.cell r b q
     refine⟨_,I,j,n,rfl,rfl,A,by rw [← rv.length];exact l,?_⟩
     exact a i U _ (e.cell q (xF b n (e.st.heap.pure r b q) (X7 f)) (af.set rd n rv))
    ·exact a.elim
   ·exact a.elim
  ·exact a.elim
 ·exact a.elim
def Fz (h:l7 cf i m e k6=k9): ∃x p apos,e= .Attribute (.Name x p) m apos/\cf.N[i]? =y0 x/\zS cf.sc x=k9/\cQ x=k9/\(apos.endLine==k6.line)=true:=by
 refine WV (λx n q h=> ?_) e h
 refine Qq (λx p h=> ?_) x h
 obtain⟨h,c,b⟩:=a3 h
 obtain⟨f,d,a⟩:=gr h
 cases of_decide_eq_true c
 exact⟨_,_,_,rfl,f,d,a,b⟩
def BA (j:Go Y F X E k cf)(I:l7 cf i "append" f k6=true) (e:Qa v=true)(h:jd cf m v=true):PS X (.Expr (.Call f [v] [] k6) pos) (cA Y E (M.exec F (.app i m))):=by
 obtain⟨x,p,r,rfl,o,Q,c,z⟩:=Fz I
 unfold cQ at c
 rw [Aa9]at c
 have pv:=Zx (pos:=p) (by rw [j.N];exact o) (j.gz x Q) (by simpa using c.1) (by simpa using c.2)
 refine PS.imp (rH (DZ PySem.F.plainAttrs_list PySem.F.slot_list_append PySem.F.type_list_append Aq pv (Jc (Xc m j h).1 Zk (Za e)) rfl (by rw [Za e];rfl) z (Za e) rfl) (ji rfl)) λD U H T=> ?_
 obtain⟨B,G,Z,h,s,p⟩:=T
 rw [M.exec]at p
 cases q:M.Gk Z i with
 | none=>rw [q]at p;exact p.elim
 | some S=>
  rw [q]at p
  cases S with
  | v d=>exact p.elim
  | bor g=>exact p.elim
  | own g=>
   obtain⟨v0,n,a,P,rfl,z2,z3,N,z5⟩:=s.st.slot i _ q
   refine⟨.ref a,n,.inl ⟨rfl,P,bu.of N⟩,?_⟩
   refine Wi s p λw v o G1 H1 A R C L b=> ?_
   cases l:w.d with
   | none=>rw [l]at b;exact b.elim
   | some d=>
    rw [l]at b
    obtain⟨K,W,y,rd⟩:=aZ.fz s A R C L l
    have b:aT Y E B (if g.length<M.bA then .next _ o else .fail) D:=b
    by_cases t:g.length<M.bA
    ·rw [if_pos t]at b
     obtain⟨V,of,O,J,rs⟩:=Js y.st q n
     have u:=rs.length
     exact⟨a,O,v,rfl,rfl,J,by have:=qo;lia,b K U _ (y.write q n (rs.append ⟨v,[],rfl,rd,rfl⟩))⟩
    ·rw [if_neg t]at b;exact b.elim
def ZU (a:Go Y F X E k cf)(h1:cf.N[i]? =y0 x) (h2:zS cf.sc x=k9) (L:cQ x=k9) (g:cf.ob.fl.contains (c,f)=k9) (J:wo v=k9) (h:jd cf m v=k9):PS X (.Assign [.Attribute (.Name x j) (Xd f) p2] v pos) (cA Y E (M.exec F (.bW i c f m))):=by
 refine PS.imp (vY (qD a h1 h2 L) (Xc m a h).1 (ji J)) λD U H N=> ?_
 obtain⟨B,G,Z,h,s,p⟩:=N
 refine Wi s p λw v h1 n H1 Q e t S j=> ?_
 cases w with
 | own _=>exact j.elim
 | bor _=>exact j.elim
 | v d=>
  cases q:M.GJ h1 (M.Gk Z i)with
  | none=>rw [q]at j;exact j.elim
  | some o=>
   obtain⟨r,K,fs⟩:=o
   rw [q]at j
   dsimp only at j
   split at j
   ·rename_i z
    obtain⟨rfl,y,R⟩:=z
    obtain⟨V,l⟩:=QD q
    obtain⟨T,O,A,W,C,I⟩:=e.st.heap.obj r _ fs l
    obtain⟨u,b,P⟩:=WW (t) I
    refine⟨_,Xy e.st q,n.aO r,Y.ca K,A,_,rfl,C,(a.fld _ _ g).1,(a.fld _ _ g).2,?_,?_⟩
    ·rw [List.length_zip,Ac];lia
    ·rw [P]
     exact j n U _ (e.i5 l (sG y O) b)
   ·exact j.elim
def J9 (c:Go Y F X E k cf)(h1:cf.N[i]? =y0 x) (h2:zS cf.sc x=k9) (e:cQ x=k9) (L:we y=k9)(O:jd cf kx y=k9) (h:jd cf m v=k9):PS X (.Assign [.Subscript (.Name x p) y p2] v pos) (cA Y E (M.exec F (.dD i kx m))):=by
 unfold cQ at e
 rw [Aa9]at e
 have pv:=Zx (pos:=p) (by rw [c.N];exact h1) (c.gz x h2) (by simpa using e.1) (by simpa using e.2)
 refine PS.imp (nB (Xc m c h).1 (pq pv (Xc kx c O).1 WY (sS L)) XN WG rfl) λD U H N=> ?_
 obtain⟨B,G,Z,h,s,p⟩:=N
 refine Wi s p λw v h1 G1 H1 P o t Q b=> ?_
 cases q:M.Gk Z i with
 | none=>rw [q]at b;exact b.elim
 | some K=>
  rw [q]at b
  cases K with
  | v d=>exact b.elim
  | bor C=>exact b.elim
  | own C=>
   obtain⟨v0,f,a,V,rfl,W,z3,S,z5⟩:=o.st.slot i _ q
   refine⟨.ref a,f,?_⟩
   refine Wi o b λkw iv h2 g I T l J f2 p2=> ?_
   split at p2
   ·rename_i d j
    split at p2
    ·rename_i z
     split at p2
     ·rename_i n r
      cases (J)
      have rd:aA Y g I d v:=Q1 z t
      obtain⟨R,of,A,u,rs⟩:=Js l.st q f
      refine⟨_,A,j,n,rfl,rfl,u,by rw [← rs.length];exact r,?_⟩
      exact p2 g U _ (l.write q f (af.set rd n rs))
     ·exact p2.elim
    ·exact p2.elim
   ·exact p2.elim
end
section
variable {Y:Ge}{E:XK}{B:Bs}{G:Gh}{Z:M.Sl}{h:M.AH}{U:St}{H:Hp}{D:gQ}
def vP (b:M.Gk Z i=y0 (.own xs)) (c:U[i]? =y0 (y0 (.ref a))):Jk Z U H a=none:=by
 unfold Jk
 rw [if_pos ⟨i,xs,b,c⟩]
def J1 (e:Jk Z U H a=y0 o):H a=y0 o:=by
 unfold Jk at e
 split at e
 ·cases e
 ·exact e
def Be (s:au Y G Z h U H):ak Y G h (Jk Z U H) where
 len:=s.heap.len
 any:=λr c e=>⟨(s.heap.any r c e).1,(s.heap.any r c e).2.mon (jt s) λo z=>by rw [xk λ⟨i,f,b,d⟩=>(Js s b d).2.1 r (s.heap.lt e) rfl];exact z⟩
 inj:=s.heap.inj
 live:=λa z=>by
  obtain⟨o,q⟩:=s.heap.live a z
  exact⟨o,by rw [xk λ⟨i,f,b,d⟩=>(Js s b d).1 z];exact q⟩
def n0 (G:Gh) (Z:M.Sl) (h:M.AH) (U:St) (H:Hp):Bs:=⟨G,Jk Z U H,h⟩
def jE (s:aZ Y B G Z h U H):Ext B.G B.H G (Jk Z U H) where
 keep:=λa o e b=>by
  rw [xk λ⟨i,d,c,f⟩=>by rw [s.own i d a c f]at e;cases e]
  exact s.ext.keep a o e b
 le:=s.ext.le
 aO:=s.ext.aO
 new:=s.ext.new
 fz:=s.ext.fz
 old:=s.ext.old
 cells:=λr g z=>by
  obtain⟨o,q⟩:=s.ext.cells r g z
  refine⟨o,?_⟩
  rw [xk λj=>by
   obtain⟨i,d,c,f⟩:=j
   obtain⟨u,z⟩:=z
   rw [s.own i d _ c f]at z
   cases z]
  exact q
def C0 (s:aZ Y B G Z h U H):aZ Y (n0 G Z h U H) G Z h U H where
 st:=s.st
 ext:=⟨λa o e _=>J1 e,Aa6 _,λ_ _=>rfl,λr h1 h2=>absurd h1 (Al6.mpr h2),λ_ z=>z,λ_ z=> .inl z,λr hr ⟨o,z⟩=>⟨o,J1 z⟩⟩
 hr:=Be s.st
 own:=λi xs a e1 e2=>vP e1 e2
def QK (s:aZ Y B G Z h U H)(b:aZ Y (n0 G Z h U H) G2 Z2 h2 U2 H2):aZ Y B G2 Z2 h2 U2 H2:=
 ⟨b.st,(jE s).trans s.hr b.ext,s.hr,λi c a d e=>(jE s).none s.hr (b.own i c a d e)⟩
def Bu (s:aZ Y B G Z h U H)(p:aT Y E B o D):aT Y E (n0 G Z h U H) o D:=by
 cases o with
 | next l j=>exact λb g c i=>p b g c (QK s i)
 | brk l j=>exact λb g c i=>p b g c (QK s i)
 | cont l j=>exact λb g c i=>p b g c (QK s i)
 | ret w j=>
  refine λb v c e k r f=>p b v c ((jE s).trans s.hr e) k r ?_
  cases w with
  | v d=>trivial
  | own q=>obtain⟨a,m,n⟩:=f;exact⟨a,m,(jE s).none s.hr n⟩
  | bor q=>exact f
 | exc d j=>exact λb c e k=>p b c ((jE s).trans s.hr e) k
 | fail=>exact p
end
section
variable {Y:Ge}{F:M.Fx}{X:Cx}{E:XK}{k:Nat}{cf:Cf}
def CL.hide (s:au Y G Z h U H) (c:CL Y ds l vs G H) (b: ¬ ∃ i xs,M.Gk Z i=y0 (.own xs)/\U[i]? =y0 (y0 (.ref l))):CL Y ds l vs G (Jk Z U H):=by
 obtain⟨a,d⟩:=c
 refine⟨?_,d.mon (jt s)⟩
 obtain⟨a,e⟩ | a:=a
 ·refine .inl ⟨?_,e⟩
  obtain a | ⟨o,a⟩:=a
  ·exact .inl (by rw [xk b];exact a)
  ·exact .inr ⟨o,by rw [xk b];exact a⟩
 ·exact .inr a
def CL.g4 (s:au Y G Z h U H) (a:ij Y G H l vs) (b:af Y G H ds vs):CL Y ds l vs G (Jk Z U H):=by
 refine⟨?_,b.mon (jt s)⟩
 obtain a | a:=a
 ·exact(CL.hide s ⟨.inl ⟨a.2,s.heap.off a.1⟩,b⟩ λ⟨j,e,c,d⟩=>(Js s c d).1 a.1).1
 ·exact .inr a
def CT.hide (s:au Y G Z h U H) (c:CT Y ds l vs G H):CT Y ds l vs G (Jk Z U H):=⟨c.1.mon (jt s),c.2.mon (jt s)⟩
def Qz (h:M.GF a=y0 i):a= .var i:=by
 cases a<;>first | (cases h;rfl) | cases h
def uQ (h:jd cf (.var i) e=k9): ∃x p,e= .Name x p/\cf.N[i]? =y0 x/\zS cf.sc x=k9/\cQ x=true:=by
 refine Qq (λx p h=> ?_) e h
 exact⟨_,_,rfl,gr h⟩
def lZ (b:Go Y F X E k cf)(h:jd cf (.var i) e=k9):PE X e (lS i):=by
 obtain⟨x,p,rfl,d,c,a⟩:=uQ h
 unfold cQ at a
 rw [Aa9]at a
 exact Zx (by rw [b.N];exact d) (b.gz x c) (by simpa using a.1) (by simpa using a.2)
def qN (s:au Y G Z h U H)(e:M.Gk Z i=y0 w) (o:w= .v (.lst xs)\/w= .bor xs):
 ∃l vs,U[i]? =y0 (y0 (.ref l))/\CL Y xs l vs G H/\CL Y xs l vs G (Jk Z U H):=by
 obtain⟨v,f,r⟩:=s.slot i w e
 obtain rfl | rfl:=o
 ·obtain⟨l,vs,rfl,a,b⟩:=r
  exact⟨l,vs,f,⟨a.lq s.heap,b⟩,CL.g4 s a b⟩
 ·obtain⟨l,vs,rfl,a,b,k⟩:=r
  have c:CL Y xs l vs G H:=⟨.inl ⟨b,a⟩,k⟩
  refine⟨l,vs,f,c,c.hide s λ⟨j,m,d,n⟩=> ?_⟩
  have g:j≠i:=λz=>by rw [z,e]at d;cases d
  exact s.apart j i m _ l g d e rfl n f
def QM (p:au Y G0 Z h0 U H0) (s:au Y G Z h U H)(r:ao Y G H w v) (f:aF Z U H0 w v) (n:w= .v (.lst xs)\/w= .own xs):
 ∃l vs,v= .ref l/\CL Y xs l vs G H/\CL Y xs l vs G (Jk Z U H):=by
 obtain rfl | rfl:=n
 ·obtain⟨l,vs,rfl,b,a⟩:=r
  exact⟨l,vs,rfl,⟨b.lq s.heap,a⟩,CL.g4 s b a⟩
 ·obtain⟨l,vs,rfl,b,a,g,m⟩:=r
  obtain⟨t,i,d⟩:=f
  cases i
  have c:CL Y xs l vs G H:=⟨.inl ⟨.inl g,a⟩,m⟩
  refine⟨l,vs,rfl,c,c.hide s λ⟨j,q,e,k⟩=> ?_⟩
  obtain⟨o,z⟩:=p.cH e rfl k
  rw [d]at z;cases z
def uM (g:Go Y F X E k cf)(Q:jd cf a e=k9):PI X tg e (ew Y E k9 (M.GD F (.seq a))):=by
 cases q:M.GF a with
 | some i=>
  cases Qz q
  refine PI.imp (mq (lZ g Q)) λU H R P=> ?_
  obtain⟨G,Z,h,s,p⟩:=P
  have p:ar Y E G H (M.R.of h _) λx _ o j=> ∀J C,jr Y J x C->C o j->(k9=k9->C o _)->R J j:=p
  cases u:M.Gk Z i with
  | none=>rw [u]at p;exact p.elim
  | some w=>
   rw [u]at p
   have lst: ∀ {b},_->ar Y E G H (.ok b h) (λx _ o j=> ∀J C,jr Y J x C->C o j->(k9=k9->C o (Jk Z U j))->R J j) →
    ∃v,U[i]? =y0 (y0 v)/\((∃ a,v= .ref a/\(∃ b,bu X.K H a b)/\R (lA X.K a) H)\/(∃ a,v= .ref a/\(∃ b,cJ X.K H a b)/\R (iu X.K a) H)\/ ∃z,v= .str z/\R (hZ z) H):=λ{b} O p=>by
    obtain⟨l,m,t,A,N⟩:=qN s u O
    exact⟨_,t,.inl ⟨l,rfl,⟨m,g.K▸A.1.sq⟩,p G H Ext.refl s.heap _ _ (CL.walk g.K) A λ_=>N⟩⟩
   cases w with
   | v d=>
    cases d with
    | lst b=>exact lst (.inl rfl) p
    | tup b=>
     obtain⟨v,t,l,m,rfl,y,L⟩:=s.slot i _ u
     have c:CT Y b l m G H:=⟨y,L⟩
     exact⟨_,t,.inr (.inl ⟨l,rfl,⟨m,g.K▸y.sq⟩,p G H Ext.refl s.heap _ _ (CT.walk g.K) c λ_=>c.hide s⟩)⟩
    | aj=>exact p.elim
    | bl _=>exact p.elim
    | int _=>exact p.elim
    | str z=>
     obtain⟨v,t,r⟩:=s.slot i _ u
     cases (show v= .str (aD z)from r)
     exact⟨_,t,.inr (.inr ⟨_,rfl,p G H Ext.refl s.heap _ _ qC trivial λ_=>trivial⟩)⟩
    | ref _=>exact p.elim
    | exc _ _=>exact p.elim
    | err _ _ _=>exact p.elim
   | bor b=>exact lst (.inr rfl) p
   | own b=>exact p.elim
 | none=>
  refine PI.imp (mq (Xc a g Q).1) λU H R P=> ?_
  obtain⟨G,Z,h,s,p⟩:=P
  have p:=by
   unfold M.GD at p
   dsimp only at p
   rw [q]at p
   exact p
  refine Ja s.heap Ext.refl s p λT v1 V D n I W B K S f=> ?_
  have lst: ∀ {b},_->ar Y E G H (.ok b V) (λx _ o j=> ∀J C,jr Y J x C->C o j->(k9=k9->C o (Jk Z U j))->R J j) →
   ((∃ a,v1= .ref a/\(∃ b,bu X.K n a b)/\R _ n)\/(∃ a,v1= .ref a/\(∃ b,cJ X.K n a b)/\R (iu X.K a) n)\/ ∃z,v1= .str z/\R (hZ z) n):=λ{b} O p=>by
   obtain⟨l,m,t,A,N⟩:=QM s B K S O
   exact .inl ⟨l,t,⟨m,g.K▸A.1.sq⟩,p D n I B.heap _ _ (CL.walk g.K) A λ_=>N⟩
  cases T with
  | v d=>
   cases d with
   | lst b=>exact lst (.inl rfl) f
   | tup b=>
    obtain⟨l,m,rfl,y,L⟩:=K
    have c:CT Y b l m D n:=⟨y,L⟩
    exact .inr (.inl ⟨l,rfl,⟨m,g.K▸y.sq⟩,f D n I B.heap _ _ (CT.walk g.K) c λ_=>c.hide B⟩)
   | aj=>exact f.elim
   | bl _=>exact f.elim
   | int _=>exact f.elim
   | str z=>
    cases (show v1= .str (aD z)from K)
    exact .inr (.inr ⟨_,rfl,f D n I B.heap _ _ qC trivial λ_=>trivial⟩)
   | ref _=>exact f.elim
   | exc _ _=>exact f.elim
   | err _ _ _=>exact f.elim
  | own b=>exact lst (.inr rfl) f
  | bor b=>exact f.elim
def CD (e:Go Y F X E k cf)(Q:bG cf.sc "reversed" g=true) (o:Qa x=true) (I:jd cf a x=true):PI X tg (.Call g [x] [] pos) (ew Y E true (M.GD F (.rev a))):=by
 obtain⟨W,rfl,K,h3⟩:=wb Q
 cases q:M.GF a with
 | some i=>
  cases Qz q
  refine PI.imp (ni (e.gl _ K) (e.blt _ nC) (Jc (lZ e I) Zk (Za o)) (Za o)) λU H R D=> ?_
  obtain⟨G,Z,h,s,p⟩:=D
  have p:ar Y E G H (M.R.of h _) λm _ j f=> ∀J C,jr Y J m C->C j f->(k9=k9->C j _)->R J f:=p
  cases r:M.Gk Z i with
  | none=>rw [r]at p;exact p.elim
  | some w=>
   rw [r]at p
   have lst: ∀ {b},(w= .v _\/w= .bor b)->ar Y E G H (.ok b.reverse h) (λm _ j f=> ∀J C,jr Y J m C->C j f->(k9=k9->C j (Jk Z U f))->R J f) →
    ∃v,U[i]? =y0 (y0 v)/\ ∃a b,[v]= [.ref a]/\bu X.K H a b/\R (lL X.K a b.length) H:=λ{b} B p=>by
    obtain⟨l,y,u,n,A⟩:=qN s r B
    exact⟨_,u,l,y,rfl,e.K▸n.1.sq,p G H Ext.refl s.heap _ _ (CL.eJ e.K) n λ_=>A⟩
   cases w with
   | v d=>
    cases d with
    | lst b=>exact lst (.inl rfl) p
    | tup _=>exact p.elim
    | aj=>exact p.elim
    | bl _=>exact p.elim
    | int _=>exact p.elim
    | str _=>exact p.elim
    | ref _=>exact p.elim
    | exc _ _=>exact p.elim
    | err _ _ _=>exact p.elim
   | bor b=>exact lst (.inr rfl) p
   | own b=>exact p.elim
 | none=>
  refine PI.imp (ni (e.gl _ K) (e.blt _ nC) (Jc (Xc a e I).1 Zk (Za o)) (Za o)) λU H R D=> ?_
  obtain⟨G,Z,h,s,p⟩:=D
  have p:=by
   unfold M.GD at p
   dsimp only at p
   rw [q]at p
   exact p
  refine Ja s.heap Ext.refl s p λt v1 T S z N V L O P c=> ?_
  have lst: ∀ {b},(t= .v _\/t= .own b)->ar Y E G H (.ok b.reverse T) (λm _ j f=> ∀J C,jr Y J m C->C j f->(k9=k9->C j (Jk Z U f))->R J f) →
   ∃a b,[v1]= [.ref a]/\bu X.K z a b/\R _ z:=λ{b} B p=>by
   obtain⟨l,y,u,n,A⟩:=QM s L O P B
   exact⟨l,y,by rw [u],e.K▸n.1.sq,p S z N L.heap _ _ (CL.eJ e.K) n λ_=>A⟩
  cases t with
  | v d=>
   cases d with
   | lst b=>exact lst (.inl rfl) c
   | tup _=>exact c.elim
   | aj=>exact c.elim
   | bl _=>exact c.elim
   | int _=>exact c.elim
   | str _=>exact c.elim
   | ref _=>exact c.elim
   | exc _ _=>exact c.elim
   | err _ _ _=>exact c.elim
  | own b=>exact lst (.inr rfl) c
  | bor b=>exact c.elim
def u5 (d:Go Y F X E k cf)(s:n3 it tg=k9) (h:mE cf it e=k9):PI X tg e (ew Y E k9 (M.GD F it))/\Zh e=true:=by
 cases it with
 | seq a=>exact⟨uM d (a2 h).2,(a2 h).1⟩
 | aJ a=>
  refine wm (λg x l p h=> ?_) e h
  refine kE (λh=> ?_) l h
  refine kC (λx r h=> ?_) x h
  refine kE (λh=> ?_) r h
  obtain⟨j,f,i⟩:=a3 h
  exact⟨jB d j f (Xc a d i).1,rfl⟩
 | cb a b=>
  refine wm (λg x l p h=> ?_) e h
  refine kE (λh=> ?_) l h
  refine kC (λx r h=> ?_) x h
  refine kC (λy r h=> ?_) r h
  refine kE (λh=> ?_) r h
  obtain⟨j,f,i,m,o⟩:=a5 h
  exact⟨jC d j f i (Xc a d m).1 (Xc b d o).1,rfl⟩
 | rev a=>
  refine wm (λg x l p h=> ?_) e h
  refine kE (λh=> ?_) l h
  refine kC (λx r h=> ?_) x h
  refine kE (λh=> ?_) r h
  obtain⟨j,f,i⟩:=a3 h
  exact⟨CD d j f i,rfl⟩
 | zip _ _=>exact b0 h
 | bM a b=>
  refine wm (λg x l p h=> ?_) e h
  refine kE (λh=> ?_) l h
  refine kC (λx r h=> ?_) x h
  refine kC (λy r h=> ?_) r h
  refine kC (λz r h=> ?_) r h
  refine kE (λh=> ?_) r h
  refine wt (λc n p h=> ?_) z h
  obtain⟨q,j,f,i,m,o⟩:=a6 h
  cases of_decide_eq_true q
  exact⟨WC d j f i (Xc a d m).1 (Xc b d o).1,rfl⟩
 | enum _=>exact b0 h
end
section
variable {Y:Ge}{G G0:Gh}{H H0:Hp}{h:M.AH}
def Gh.cut (G:Gh) (n:Nat):Gh:= { G with n:=n }
mutual
theorem aA.cut (n:Nat): ∀ {d:M.D}{v:V},M.Gm d=k9->aA Y G H d v->aA Y (G.cut n) H d v
 | .aj,_,_,z=>z
 | .bl _,_,_,z=>z
 | .int _,_,_,z=>z
 | .str _,_,_,z=>z
 | .tup _,_,q,⟨a,vs,z1,z2,z3⟩=>⟨a,vs,z1,z2,af.ej n (by simpa [M.Gm]using q) z3⟩
 | .lst _,_,q,⟨a,vs,z1,z2,z3⟩=>⟨a,vs,z1,z2,af.ej n (by simpa [M.Gm]using q) z3⟩
 | .ref r,_,q,_=>by simp [M.Gm]at q
 | .exc c fs,_,q,z=>by simp [M.Gm]at q
 | .err c f d,_,q,z=>by simp [M.Gm]at q
theorem af.ej (n:Nat): ∀ {ds:List M.D}{vs:List V},M.Gg ds=k9->af Y G H ds vs->af Y (G.cut n) H ds vs
 | [],_,_,z=>z
 | d::ds,_,q,⟨v,r,z1,z2,z3⟩=>by
  have q':M.Gm d=k9/\M.Gg ds=true:=by simpa [M.Gg]using q
  exact⟨v,r,z1,aA.cut n q'.1 z2,af.ej n q'.2 z3⟩
end
theorem WI: ∀l:List Int,M.Gg (l.map M.D.int)=k9
 | []=>rfl
 | _::l=>WI l
def CS (k):M.Gm (sZ k)=true:=by
 show(k9&&(M.Gg _&&(M.Gg _&&k9)))=k9
 rw [WI,WI];rfl
theorem ak.cut (r:ak Y G h H)(g:n<=G.n):ak Y (G.cut n) (h.take n) H where
 len:=by rw [Ae9,r.len];exact Ai9 g
 any:=λi c e=>by
  have l:i<n:=by
   have:=(Ab9.mp e).1
   rw [Ae9]at this
   omega
  rw [List.getElem?_take_of_lt l]at e
  obtain⟨o,f⟩:=r.any i c e
  refine⟨o,?_⟩
  cases c with
  | lst k=>obtain⟨a,s,d,b⟩:=f;exact⟨a,s,d,af.ej n a b⟩
  | f9 m=>obtain⟨k,d,b,t⟩:=f;exact⟨k,d,b,λx v=>aA.cut n (CS x.1) (t x v)⟩
  | hQ m=>exact f
  | obj c fs=>obtain⟨a,p,q,d,b⟩:=f;exact⟨a,p,q,d,af.ej n a b⟩
 inj:=λi j w u e=>r.inj i j (Ab3 w g) (Ab3 u g) e
 live:=r.live
theorem Ext.cut (e:Ext G0 H0 G H):Ext G0 H0 (G.cut G0.n) H:=⟨e.keep,Aa6 _,e.aO,λr a b=>absurd a (Al6.mpr b),e.fz,e.old,e.cells⟩
theorem ao.cut (n) (c:n<=G.n)(q:w.keep=k9) (i: ∀xs,w≠ .bor xs) (z:ao Y G H w v):ao Y (G.cut n) H w v:=by
 cases w with
 | v d=>exact aA.cut n q z
 | own xs=>
  obtain⟨a,k,g,h,b,e,f⟩:=z
  exact⟨a,k,g,h,λr j=>b r (Ab3 j c),e,af.ej n q f⟩
 | bor xs=>exact absurd rfl (i xs)
end
section
variable {Y:Ge}{F:M.Fx}{X:Cx}{E:XK}{k:Nat}{cf:Cf}
def FO (c:Go Y F X E k cf)(a:wo v=k9)(h:jd cf m v=k9):PS X (.Expr v pos) (cA Y E (M.exec F (.ex m))):=by
 refine PS.imp (rH (Xc m c h).1 (ji a)) λD U H g=> ?_
 obtain⟨B,G,Z,h,s,p⟩:=g
 exact Wi s p λw v n f b i e j l d=>d f U b e
def FU (s:aZ Y B G Z h U H)(f:aF Z U H w v) (c: ∀xs,w≠ .bor xs):aF [] [] B.H w v:=by
 cases w with
 | v d=>trivial
 | own xs=>obtain⟨a,b,e⟩:=f;exact⟨a,b,s.ext.none s.hr e⟩
 | bor xs=>exact absurd rfl (c xs)
def CU (o:Go Y F X E k cf)(h:jd cf m v=k9):PS X (.Return (y0 v) pos) (cA Y E (M.exec F (.ret m))):=by
 cases q:M.GF m with
 | some i=>
  cases Qz q
  refine PS.imp (tY (lZ o h)) λD U H g=> ?_
  obtain⟨B,G,Z,h,s,p⟩:=g
  rw [M.exec,q]at p
  dsimp only at p
  cases c:M.Gk Z i with
  | none=>rw [c]at p;exact p.elim
  | some w=>
   rw [c]at p
   obtain⟨v,l,r⟩:=s.st.slot i w c
   refine⟨v,l,?_⟩
   cases w with
   | bor b=>exact p.elim
   | v d=>exact p G v H s.ext s.st.heap r trivial
   | own b=>
    have x:=r
    obtain⟨a,A,rfl,_⟩:=x
    exact p G _ H s.ext s.st.heap r ⟨a,rfl,s.own i b a c l⟩
 | none=>
  refine PS.imp (tY (Xc m o h).1) λD U H g=> ?_
  obtain⟨B,G,Z,h,s,p⟩:=g
  have p:aT Y E B ((M.eval F m Z h).c7 λw h=>match w with
   | .bor _=> .fail
   | w=> .ret w h) D:=by
   rw [M.exec,q]at p;exact p
  refine Wi s p λw v C t n y e j u f=> ?_
  cases w with
  | bor b=>exact f.elim
  | v d=>exact f t v n e.ext e.st.heap j trivial
  | own b=>exact f t v n e.ext e.st.heap j (FU s u λb z=>by cases z)
def C8 (j:PT X x (cS Y E (M.Gf F c))) (i:cN X ys (cA Y E (M.execs F a))) (k:cN X zs (cA Y E (M.execs F b))):PS X (.If x ys zs pos) (cA Y E (M.exec F (.iff c a b))):=by
 refine PS.imp (Ce j i k) λD U H l=> ?_
 obtain⟨B,G,Z,h,s,p⟩:=l
 refine X2 s p λt g f n m e d=> ?_
 cases t with
 | true=>exact mK ⟨B,f,Z,g,e,d⟩
 | false=>exact mO ⟨B,f,Z,g,e,d⟩
def W9 {st:Stmt}(h1:PS X st (cA Y E (M.exec F s))) (h2:cN X sts (cA Y E (M.execs F ss))):cN X (st::sts) (cA Y E (M.execs F (.cons s ss))):=by
 refine cN.imp (Dj h1 h2) λD U H g=> ?_
 obtain⟨B,G,Z,h,e,p⟩:=g
 rw [M.execs]at p
 refine⟨B,G,Z,h,e,?_⟩
 cases q:M.exec F s Z h with
 | next b a=>rw [q]at p;exact λc i j f=>⟨B,c,b,a,f,p⟩
 | ret w a=>rw [q]at p;exact p
 | brk b a=>rw [q]at p;exact p
 | cont b a=>rw [q]at p;exact p
 | exc d a=>rw [q]at p;exact p
 | fail=>rw [q]at p;exact p
def uq:cN X [] (cA Y E (M.execs F .nil)):=cN.imp B0 λD U H ⟨B,G,Z,h,s,p⟩=>p G U H s
def xO (h2:cN X sts (cA Y E (M.execs F ss))):cN X sts (cA Y E (M.execs F (.cons (.freeze i) ss))):=by
 refine cN.imp h2 λD U H a=> ?_
 obtain⟨B,G,Z,h,s,p⟩:=a
 rw [M.execs,M.exec]at p
 cases q:M.Gk Z i with
 | none=>rw [q]at p;exact⟨B,G,Z,h,s,p⟩
 | some w=>
  rw [q]at p
  cases w with
  | v d=>exact⟨B,G,Z,h,s,p⟩
  | bor c=>exact⟨B,G,Z,h,s,p⟩
  | own c=>
   obtain⟨b,e⟩:=s.freeze q
   exact⟨B,b,_,h,e,p⟩
def El (J:gT Y F X E k cf)(A:PT X x (cS Y E (M.Gf F c))) (C:cN X ys (cA Y E (M.execs F b))):PS X (.While x ys [] pos) (cA Y E (M.exec F (.dX n c b))):=by
 refine PS.imp (BD J.g5 A C) λD U H K=> ?_
 obtain⟨B,G,Z,h,s,p⟩:=K
 refine⟨λm U H=> ∃G Z h,aZ Y B G Z h U H/\aT Y E B (M.Gv (λZ h=>M.Gf F c Z h) (λZ h=>M.execs F b Z h) m Z h) D,⟨n,G,Z,h,s,p⟩,?_⟩
 rintro m U H ⟨G,Z,h,s,p⟩
 cases m with
 | zero=>exact p.elim
 | succ m=>
  refine X2 s p λt r y I L v a=> ?_
  cases t with
  | false=>exact mO (a y U I v)
  | true=>
   refine mK ⟨_,λu z w=>⟨m,Ae4 _,w⟩,B,y,Z,r,v,?_⟩
   have a:aT Y E B (match M.execs F b Z r with
    | .next f g=>M.Gv (λZ h=>M.Gf F c Z h) (λZ h=>M.execs F b Z h) m f g
    | .cont f g=>M.Gv (λZ h=>M.Gf F c Z h) (λZ h=>M.execs F b Z h) m f g
    | .brk f g=> .next f g
    | o=>o) D:=a
   cases q:M.execs F b Z r with
   | next i e=>rw [q]at a;exact λj u z l=>⟨j,i,e,l,a⟩
   | cont i e=>rw [q]at a;exact λj u z l=>⟨j,i,e,l,a⟩
   | ret w e=>rw [q]at a;exact a
   | brk i e=>rw [q]at a;exact a
   | exc d e=>rw [q]at a;exact a
   | fail=>rw [q]at a;exact a
def ub (y:gT Y F X E k cf)(he:n3 it t=k9) (ht:Xf cf tg one t=k9) (hi:mE cf it iter=k9) (hb:cN X ys (cA Y E (M.execs F b))):
 PS X (.For t iter ys [] pos) (cA Y E (M.exec F (.for tg one it b))):=by
 obtain⟨li,ls⟩:=u5 y.toGo he hi
 refine PS.imp (yq y.g5 y.calm li (zt y.toGo ht) hb (zT ls)) λD U H qq=> ?_
 obtain⟨B,G,Z,h,s,p⟩:=qq
 rw [M.exec]at p
 refine⟨G,Z,h,s.st,?_⟩
 cases q:M.GD F it Z h with
 | exc d h1=>rw [q]at p;exact aT.exc s p
 | fail=>rw [q]at p;exact p
 | ok j h1=>
  rw [q]at p
  intro G1 H1 e hr J C z c0 A
  have V:=s.on e hr
  have p1:=Bu V p
  have cB:=A rfl
  have s2:=C0 V
  refine⟨λi m I u=> ∃n v r,(m=j.length-i/\i<=j.length)/\aZ Y _ n v r I u/\aT Y E _ (M.GB _ (λZ h=>M.execs F b Z h) (j.drop i) v r) D,
   ⟨j.length,G1,Z,h1,⟨by simp,Af9 _⟩,s2,p1⟩,?_⟩
  rintro i m I u ⟨n,v,r,⟨rfl,hi'⟩,l,a⟩
  have R:=z.keep _ _ _ _ _ cB l.ext l.hr
  by_cases g:i<j.length
  ·refine .inr ⟨z.go i n u R g,_,λU2 H2 w=>⟨j.length-(i+1),by omega,w⟩,λx P hy=> ?_⟩
   obtain⟨G4,x4,T,d,W,O⟩:=z.ek i n u x P R g hy
   have l:=l.on x4 (T _ l.st.heap)
   have Q:j.drop i=d::j.drop (i+1):=by
    rw [Ae6 g]
    rw [Aa7 g]at W
    cases W
    rfl
   rw [Q,M.GB]at a
   cases K:M.Gz tg one d v with
   | none=>rw [K]at a;exact a.elim
   | some L=>
    rw [K]at a
    refine tU K O l λU2 s3=>⟨_,G4,L,r,s3,?_⟩
    have a:aT Y E _ (match M.execs F b L r with
     | .next f c=>M.GB _ (λZ h=>M.execs F b Z h) _ f c
     | .cont f c=>M.GB _ (λZ h=>M.execs F b Z h) _ f c
     | .brk f c=> .next f c
     | o=>o) D:=a
    cases q:M.execs F b L r with
    | next f c=>rw [q]at a;exact λS U3 H3 N=>⟨S,f,c,⟨rfl,by omega⟩,N,a⟩
    | cont f c=>rw [q]at a;exact λS U3 H3 N=>⟨S,f,c,⟨rfl,by omega⟩,N,a⟩
    | ret w c=>rw [q]at a;exact a
    | brk f c=>rw [q]at a;exact a
    | exc d c=>rw [q]at a;exact a
    | fail=>rw [q]at a;exact a
  ·have ei:i=j.length:=by lia
   subst ei
   rw [List.drop_length]at a
   exact .inl ⟨z.stop _ n u R (Aa6 _) (Aa6 _),a n I u l⟩
theorem qG: ∀(Z) (i j),M.Gk (Z.set i u0) j=if j=i then u0 else M.Gk Z j
 | [],i,j=>by simp
 | x::r,0,0=>by simp
 | x::r,0,j+1=>by simp
 | x::r,i+1,0=>by simp
 | x::r,i+1,j+1=>by simpa using qG r i j
def aZ.clear (s:aZ Y B G Z h U H):aZ Y B G (Z.set i u0) h (U.set i u0) H:=by
 have ne: ∀ {j w},M.Gk _ j=y0 w->j≠i/\M.Gk Z j=y0 w:=λ{j w} e=>by
  rw [qG]at e
  split at e
  ·cases e
  ·rename_i c;exact⟨c,e⟩
 have f: ∀ {j},j≠i->(U.set i u0)[j]? =U[j]? :=λ{j} c=>Ac7 (Ne.symm c)
 refine⟨⟨by rw [Ac5,Ac5];exact s.st.len,λj w e=> ?_,λp q k w a g b d m l=> ?_,s.st.heap⟩,s.ext,s.hr,λj k a b d=> ?_⟩
 ·obtain⟨c,e⟩:=ne e
  obtain⟨v,n,r⟩:=s.st.slot j w e
  exact⟨v,by rw [f c];exact n,r⟩
 ·obtain⟨t,b⟩:=ne b
  obtain⟨o,d⟩:=ne d
  rw [f t]at l
  rw [f o]
  exact s.st.apart p q k w a g b d m l
 ·obtain⟨c,b⟩:=ne b
  rw [f c]at d
  exact s.own j k a b d
def j7 (j:gT Y F X E k cf)(z:bG cf.sc c g=k9) (o:cf.ob.er.contains (c,f)=k9) (l:bt cf (.cons e .nil) [x]=k9):
 PS X (.Raise (y0 (.Call g [x] [] k6)) u0 pos) (cA Y E (M.exec F (.bF c f e))):=by
 obtain⟨J,rfl,w,A⟩:=wb z
 obtain⟨n,u,y⟩:=j.lQ c f o w A
 refine PS.imp (y _ _ _ _ _ (fO _ j.toGo l) (Qe l _ Aa)) λD U H C=> ?_
 obtain⟨B,G,Z,h,s,p⟩:=C
 rw [M.exec]at p
 refine⟨G,Z,h,s.st,?_⟩
 cases q:M.Gq F _ Z h with
 | exc d I=>rw [q]at p;exact aT.exc s p
 | fail=>rw [q]at p;exact p
 | ok b I=>
  rw [q]at p
  intro N L m i K r
  cases b with
  | nil=>exact p.elim
  | cons d b=>
   cases b with
   | cons _ _=>exact p.elim
   | nil=>
    obtain⟨v,O,rfl,rd,rfl⟩:=r
    refine⟨v,rfl,λt a=> ?_⟩
    exact(p _ _ ((s.ext.trans s.hr m).trans s.hr (Qj _ a)) (i.fU _ a)).2 c f d rfl n u t v (.inr rfl) jb (rd.ext (Qj _ a) i)
def D1 (a:eh Y c) (d:w∈Y.own) (b:(M.GN Y.cl 8 c).contains w=k9):PySem.W.kitCls Y.K (.ref (Y.ca c)) (.ref (Y.ca w))=y0 true:=by
 have h:=a.own w d
 rw [b]at h
 unfold Ak5 at h
 split at h
 ·rename_i e
  have e:=by simpa using e
  rw [← e]
  exact a.k.slf
 ·exact h
theorem Go.eK (a:Go Y F X E k cf):Go Y F X.eK E0 k cf:=⟨a.N,a.K,a.cl,a.ow,a.nd,a.gz,a.iG,a.hH,a.kg,a.gl,a.calm,a.room,a.dH,λb U H s e r _ j=>by
 obtain⟨x,q,t,B,u,_,_,_,_,_,_,_,_,_,_,l⟩:=j
 exact l.elim,a.blt,a.con,λf g=>by
 obtain⟨c,i,n,p,m,o,d⟩:=(a.fn f g).imp λc h=>h.ex
 exact⟨c,⟨i,n,p,m,o,d⟩⟩,a.cls,a.fld,a.gP,a.ea⟩
theorem PS.eK {st:Stmt}(h:PS X.eK st t):PS X st t:=λa s U H D I q=>wpAny_mono (h a s U H D (I.dc _) q) (λ_ _ z=>SP.b6 z) λ_ _ z=>False.elim z
def b5.imp {st:Stmt}(h:b5 X wx n v wq vp np ap hp st t) (k: ∀D U H,t' D U H->t D U H):b5 X wx n v wq vp np ap hp st t':=λa s U H D c I q b=>h a s U H D c I (k _ _ _ q) b
def yC (m:gT Y F X E k cf)(P:cf.own.contains c=k9) (K:aZ Y B G1 Z h1 U H1) (o:Ext G1 H1 G2 H2) (h:ak Y G2 h2 H2)
 (p:aT Y E B (match M.cc F.cl (.v d) [c]with
   | some true=> .next ((M.GE (M.GE Z nm (.v d)) L (.v d)).set nm u0) (M.Kg d h1.length h2)
   | _=> .fail) D):
 n5 Y (λJ i H2=> ∃C,J= .ref C/\gk X.eK.K C/\PySem.W.kitCls X.eK.K (.ref C) (.ref (Y.ca c))=y0 k9/\ ∀x,H2 x=u0->D.nx (((U.set nm (y0 (.ref x))).set L (y0 (.ref x))).set nm u0) (aI H2 x (X8 x C i))) d G2 H2:=by
 have g: ∀ a i,M.cc F.cl _ [c]=y0 ([c].any (M.GN F.cl 8 a).contains)->eh Y a->(∃ n,Ext G1 H1 n H2/\ak Y n (M.Kg d h1.length h2) H2/\ ∀y,H2 y=u0->aA Y (n.more y) (aI H2 y (X8 y (Y.ca a) i)) d (.ref y)) →
  ∃C,Value.ref _= .ref C/\gk X.eK.K C/\PySem.W.kitCls X.eK.K _ _=y0 k9/\ ∀y,H2 y=u0->D.nx (((U.set nm (y0 (.ref y))).set L (y0 (.ref y))).set nm u0) (aI H2 y (X8 y C i)):=λa i ix e ⟨n,j,b,s⟩=>by
  rw [ix]at p
  cases r: [c].any (M.GN F.cl 8 a).contains with
  | false=>rw [r]at p;exact p.elim
  | true=>
   rw [r]at p
   have O:(M.GN Y.cl 8 a).contains c=true:=by rw [← m.cl];simpa using r
   refine⟨_,rfl,m.K▸e.k,m.K▸D1 e (by rw [← m.ow];exact Ad6.mp P) O,λy f=> ?_⟩
   have N:=(K.on j b).on (Qj _ f) (b.fU (X8 y (Y.ca a) i) f)
   have rd:=s y f
   exact p _ _ _ ((N.dq rd).dq rd).clear
 have z:=K.st.heap.len
 have j:=z▸o.cut
 have b:ak Y _ (h2.take h1.length) H2:=h.cut (by rw [z];exact o.le)
 refine⟨λa t e=> ?_,λa w v t e I G u A l H=> ?_⟩
 ·subst t
  exact g a u0 rfl e ⟨_,j,b,λy f=> .inl ⟨rfl,y,rfl,.inr rfl,jb,e⟩⟩
 ·subst t
  cases q:M.Gm v with
  | true=>exact g a _ rfl e ⟨_,j,by rw [M.Kg,show M.GO (.err a w v)=k9 from q,if_pos rfl];exact b,λy f=>⟨y,G,u,rfl,.inr rfl,.inl A,jb,by rw [xa (zb l f)];exact l,e,I,(aA.cut h1.length q H).ext (Qj _ f) b⟩⟩
  | false=>exact g a _ rfl e ⟨G2,o,by rw [M.Kg,show M.GO (.err a w v)=y9 from q,if_neg Ab1];exact h,λy f=>⟨y,G,u,rfl,.inr rfl,.inl A,jb,by rw [xa (zb l f)];exact l,e,I,H.ext (Qj _ f) h⟩⟩
def DE (b:gT Y F X E k cf)(hg:bG cf.sc f g=k9) (S:cf.fns.contains f=k9) (r:bt cf es (x::xs)=k9)
 (hw:bG cf.sc c (.Name (Xd c) p1)=k9) (hc:cf.cG.contains c=k9) (T:qp cf i a=k9) (N:qp cf nm n=k9) (j:cQ n=k9) (hv:qp cf iv v=k9):
 b5 X.eK (Xd c) n v p1 vp np ap hp (.Assign [.Name a gp] (.Call g (x::xs) [] cp) aq) (cA Y E λZ h=>M.Kp F.call F.cl (y0 i) f c nm iv Z (M.Gj F es Z h)):=by
 obtain⟨p0,rfl,w,h3⟩:=wb hg
 obtain⟨_,_,L,h5⟩:=wb hw
 obtain⟨ps,fa,fd,t,bd,W,hm⟩:=(b.fn f S).imp λps h=>h.ex
 obtain⟨hb,K⟩:=b.cG c hc
 obtain⟨a1,a2⟩:=Zw T
 obtain⟨O,Q⟩:=Zw N
 obtain⟨v1,v2⟩:=Zw hv
 have m:=Qe r
 unfold cQ at j
 rw [Aa9]at j
 refine b5.imp (yw (λ_ _ z=>z) b.ic b.n6 b.ex t b.room (b.gl _ w) hm W bd (cZ es b.toGo.eK r) (b.gl _ L) (b.cls c K) hb (by show X.N.Nodup;rw [b.N];exact b.nd) (by show X.N[i]? =_;rw [b.N];exact a1) (b.iG a a2) (by show X.N[nm]? =_;rw [b.N];exact O) (b.iG n Q) (by show X.N[iv]? =_;rw [b.N];exact v1) (b.iG v v2)
  (ji rfl) (ji rfl) h3 h5 (by simpa using j.1) (Za (m _ Aa)) (jk λe r=>m e (Aa0 _ r))) λD U H ⟨B,G,Z,h,s,p⟩=> ?_
 refine⟨G,Z,h,s.st,?_⟩
 dsimp only at p
 cases q:M.Gj F es Z h with
 | exc d A=>rw [q]at p;exact p.elim
 | fail=>rw [q]at p;exact p.elim
 | ok ws A=>
  rw [q]at p
  intro G1 H1 P o vs R
  have J:=s.on P o
  refine⟨G1,A,_,o,Zq R,Wp ws,?_⟩
  unfold M.Kp at p
  dsimp only at p
  cases y:F.call f _ A with
  | fail=>rw [y]at p;exact p.elim
  | ok V w=>
   rw [y]at p
   intro C I u l v' rv _
   cases V with
   | own _=>exact p.elim
   | bor _=>exact p.elim
   | v d=>exact p C _ I ((J.on u l).dq rv)
  | exc d w=>
   rw [y]at p
   exact λC I u l=>yC b K J u l p
def vI (h:mi cf c nm iv hs=k9): ∃w n v q J L i,hs= [.ExceptHandler (y0 w) (y0 n) [.Assign [.Name v q] (.Name n J) L] i]/\bG cf.sc c w=k9/\cf.cG.contains c=k9/\qp cf nm n=k9/\cQ n=k9/\qp cf iv v=true:=by
 refine kC (λx r h=> ?_) hs h
 refine kE (λh=> ?_) r h
 refine BV (λw n b p h=> ?_) x h
 refine kS (λw h=> ?_) w h
 refine kS (λn h=> ?_) n h
 refine kC (λa r h=> ?_) b h
 refine kE (λh=> ?_) r h
 refine fV (λk y p h=> ?_) a h
 refine kC (λt r h=> ?_) k h
 refine kE (λh=> ?_) r h
 refine Qq (λv p h=> ?_) t h
 refine Qq (λm p h=> ?_) y h
 obtain⟨l,g,j,e,d⟩:=a5 h
 obtain⟨d,f⟩:=a2 d
 cases of_decide_eq_true j
 exact⟨_,_,_,_,_,_,_,rfl,l,g,e,d,f⟩
def Bp (h:mj cf i f ys q=k9): ∃a g x xs L j J,ys= [.Assign [.Name a L] (.Call g (x::xs) [] j) J]/\qp cf i a=k9/\bG cf.sc f g=k9/\cf.fns.contains f=k9/\q (x::xs)=true:=by
 refine kC (λs r h=> ?_) ys h
 refine kE (λh=> ?_) r h
 refine fV (λb e p h=> ?_) s h
 refine kC (λt r h=> ?_) b h
 refine kE (λh=> ?_) r h
 refine Qq (λa p h=> ?_) t h
 refine wm (λg xs l p h=> ?_) e h
 refine kE (λh=> ?_) l h
 refine kC (λx r h=> ?_) xs h
 exact⟨_,_,_,_,_,_,_,rfl,a4 h⟩
def vZ (q:gT Y F X E k cf)(l:mi cf c nm iv hs=k9) (d:mj cf i f ys (λxs=>bt cf es xs)=k9):PS X (.Try ys hs [] [] pos) (cA Y E (M.exec F (.eV i f es c nm iv))):=by
 obtain⟨_,y,x,xs,_,_,_,rfl,r,g,o,t⟩:=Bp d
 obtain⟨w,n,v,C,I,J,z,rfl,b,m,e,j,u⟩:=vI l
 have a:=b
 obtain⟨A,rfl,_,_⟩:=wb b
 refine PS.eK (EB (b5.imp (DE q g o t a m r e j u) λD U H ⟨B,G,Z,h,s,p⟩=>⟨B,G,Z,h,s,?_⟩))
 exact p
end
section
variable {Y:Ge}{F:M.Fx}{k:Nat}{X:Cx}{E:XK}{cf:Cf}
mutual
theorem Bn (go:gT Y F X E k cf): ∀(m:M.S){st:Stmt},m1 cf m st=k9->PS X st (cA Y E (M.exec F m))
 | .set i e,st,h=>by
  refine fV (λts v p h=> ?_) st h
  refine kC (λt r h=> ?_) ts h
  refine Qq (λx p1 h=> ?_) t h
  refine kE (λh=> ?_) r h
  exact DD go.toGo (a2 h).1 (a2 h).2
 | .ae i e,st,h=>by
  refine fV (λts v p h=> ?_) st h
  refine kC (λt r h=> ?_) ts h
  refine Qq (λx p1 h=> ?_) t h
  refine kE (λh=> ?_) r h
  exact B2 go.toGo (a2 h).1 (a2 h).2
 | .iH is e,st,h=>by
  refine fV (λts v p h=> ?_) st h
  refine kC (λt r h=> ?_) ts h
  refine mU (λx n p1 h=> ?_) t h
  refine kE (λh=> ?_) r h
  obtain⟨h1,h2,h3⟩:=a3 h
  exact yn go.toGo h1 h2 h3
 | .dD i kx e,st,h=>by
  refine fV (λts v p h=> ?_) st h
  refine kC (λt r h=> ?_) ts h
  refine fq (λx y p1 h=> ?_) t h
  refine Qq (λx p2 h=> ?_) x h
  refine kE (λh=> ?_) r h
  obtain⟨h0,h4,_,h5,h6,h7⟩:=a6 h
  obtain⟨h1,h2,h3⟩:=gr h0
  exact J9 go.toGo h1 h2 h3 h4 h6 h7
 | .bB o kx e,st,h=>by
  refine fV (λts v p h=> ?_) st h
  refine kC (λt r h=> ?_) ts h
  refine fq (λx y p1 h=> ?_) t h
  refine kE (λh=> ?_) r h
  obtain⟨h1,_,_,h4,h5,h6⟩:=a6 h
  exact WT go.toGo h1 h4 h5 h6
 | .app i e,st,h=>by
  refine n9 (λc p h=> ?_) st h
  refine wm (λf x l q h=> ?_) c h
  refine kE (λh=> ?_) l h
  refine kC (λv r h=> ?_) x h
  refine kE (λh=> ?_) r h
  obtain⟨h1,h2,h3⟩:=a3 h
  exact BA go.toGo h1 h2 h3
 | .bW i c f e,st,h=>by
  refine fV (λts v p h=> ?_) st h
  refine kC (λt r h=> ?_) ts h
  refine WV (λx n p1 h=> ?_) t h
  refine Qq (λx p2 h=> ?_) x h
  refine kE (λh=> ?_) r h
  obtain⟨h0,hn,h4,_,h5,h6⟩:=a6 h
  obtain⟨h1,h2,h3⟩:=gr h0
  cases of_decide_eq_true hn
  exact ZU go.toGo h1 h2 h3 h4 h5 h6
 | .hA,st,h=>λy8 s U H D I ⟨B,G,Z,h,s',p⟩=>p.elim
 | .freeze _,st,h=>b0 h
 | .ex e,st,h=>by
  refine n9 (λv p h=> ?_) st h
  exact FO go.toGo (a2 h).1 (a2 h).2
 | .ret e,st,h=>by
  refine Ft (λv p h=> ?_) st h
  refine kS (λv h=> ?_) v h
  exact CU go.toGo h
 | .iff c a b,st,h=>by
  refine ug (λx y z p h=> ?_) st h
  obtain⟨h0,h1,h2,h3⟩:=a4 h
  exact C8 ((Xc c go.toGo h1).2 h0) (cY go a h2) (cY go b h3)
 | .dX n c b,st,h=>by
  refine A3 (λx y z p h=> ?_) st h
  refine kE (λh=> ?_) z h
  obtain⟨h0,h1,h2⟩:=a3 h
  exact El go ((Xc c go.toGo h1).2 h0) (cY go b h2)
 | .for tg one it b,st,h=>by
  refine DL (λt i y z p h=> ?_) st h
  refine kE (λh=> ?_) z h
  obtain⟨h1,h2,h3,h4⟩:=a4 h
  exact ub go h1 h2 h3 (cY go b h4)
 | .bF c f e,st,h=>by
  refine E7 (λx y p h=> ?_) st h
  refine kS (λx h=> ?_) x h
  refine wm (λg x l q h=> ?_) x h
  refine kE (λh=> ?_) l h
  refine kC (λx r h=> ?_) x h
  refine kE (λh=> ?_) r h
  obtain⟨h0,h1,h2,h3⟩:=a4 h
  cases nn h0
  exact j7 go h1 h2 h3
 | .eV i f es k nm iv,st,h=>by
  refine Cn (λb hs p h=> ?_) st h
  obtain⟨h0,h1⟩:=a2 h
  exact vZ go h0 h1
theorem cY (go:gT Y F X E k cf): ∀(m:M.Ss){sts:List Stmt},b8 cf m sts=k9->cN X sts (cA Y E (M.execs F m))
 | .nil,sts,h=>by
  cases Ae2.mp h
  exact uq
 | .cons s ss,sts,h=>by
  cases q:lU s with
  | true=>
   cases s with
   | freeze i=>exact xO (cY go ss h)
   | _=>cases q
  | false=>
   have h:(bif lU s then b8 cf ss sts else lC sts λst sts=>m1 cf s st&&b8 cf ss sts)=true:=h
   rw [q]at h
   refine kC (λst r h=> ?_) sts h
   exact W9 (Bn go s (a2 h).1) (cY go ss (a2 h).2)
end
end
section
variable {P:Program}{w:World}{K:Aa4}{mg:Str->Option Value}{base:Heap}{N:List Str}{y7:Str}{scope:Scope}{f:Addr}{cd:Value}{A:Around}{outer:List Env}{s:Shared}{H:Hp}{E:XK}
def Q9:Ws (cE P w) (jM (cE P w) P w K mg base N y7 scope f cd A outer s H E) E:=by
 intro y8 U H1 s1 ev s' I hq
 obtain⟨x,C,t,B,H',od,rfl,os,bare,fl,un,aN,comp,new,hd,hE⟩:=hq
 have I':=QS I os bare un aN comp fl λb o z _=>⟨o.slots,z⟩
 have ff:=fl.2.2.1
 refine wpAny_mono (wK (ZF _ _) (wpAny_leaves_onW (Q:=λ_ s2=> ∃h2,s2= { s' with heap:=h2 }/\Aj1 B outer x _ _ h2/\s'.heap.UpToSlots h2) (E:=λ_ _=>False) I.ok.frames rfl fl λh2 x1 x4=>⟨h2,rfl,x1,x4⟩)) (λ_ s2 z=> ?_) λ_ _ z=>z.1.elim
 obtain⟨⟨h2,rfl,x1,x4⟩,dk⟩:=z
 have free:=I'.cx
 have slotH: ∀b o,b∈bZ _->s'.heap.get? b=y0 o-> ∃sl,h2.get? b=y0 { o with slots:=sl }:=λb o hb z=>by
  obtain⟨_,o',z',nf⟩:=ff.mem hb
  rw [z]at z'
  cases z'
  exact x4 b o z nf
 have toH:=λb o z c n=>x1.1 b o (comp b o z c n)
 have cut: ∀b,b∉bZ outer->b≠s.heap.objs.size->b∉bZ (envOfC y7 scope s.heap.objs.size f cd::outer):=λb n1 n2 hb=>by
  rcases Aa5.mp (hb)with z | z
  ·exact n2 z
  ·exact n1 z
 have old: ∀b o,s.heap.get? b=y0 o->b≠s.heap.objs.size:=λb o z=>Ac2 (Ab5 z)
 have dM: ∀b u,H' b=y0 u->b∉bZ _:=λb u z hb=>by rw [free b hb]at z;cases z
 have in1:=λb o z=>I.base.there b o z (by show b∉ [];simp)
 refine⟨x,C,t,B,H',od,rfl,os.trans I.os,bare,x1,⟨λb o z n hb hx=> ?_,λb o z n hb hx=> ?_,I'.base.free,λb o z hx=> ?_,I'.base.cI,I'.base.cv,I'.base.cF⟩,λb u z=> ?_,λb o z hc hb=> ?_,?_,λdx z=> ?_,hE⟩
 ·exact toH b o (I'.base.keep b o z n hb hx) (.inr (in1 b o z)) (cut b hb (old b o z))
 ·obtain⟨sl,z1⟩:=I'.base.slot b o z n hb hx
  obtain⟨sl2,z2⟩:=slotH b _ (Aa0 _ hb) z1
  exact⟨sl2,z2⟩
 ·obtain⟨o',z1⟩:=I'.base.there b o z hx
  by_cases hb:b∈bZ (envOfC y7 scope s.heap.objs.size f cd::outer)
  ·obtain⟨sl,z2⟩:=slotH b o' hb z1
   exact⟨_,z2⟩
  ·exact⟨o',toH b o' z1 (.inr (in1 b o z)) hb⟩
 ·refine(aN b u z).cP (λc v hc z1=> ?_) (λ_ z1=>z1) λ_ _ z1=>z1
  obtain rfl | hc:=hc
  ·exact toH c v z1 (.inl ⟨u,z⟩) (dM c u z)
  ·exact toH c v z1 (.inl ⟨_,hc⟩) (dM c _ hc)
 ·have two: ∃o2,s'.heap.get? b=y0 o2/\((∃ u,H' b=y0 u)\/ ∃u,s1.heap.get? b=y0 u)/\b∉bZ (envOfC y7 scope s.heap.objs.size f cd::outer):=by
   obtain⟨u,hu⟩ | ⟨u,hu⟩:=hc
   ·obtain⟨o2,z2⟩:=(aN b u hu).there
    exact⟨o2,z2,.inl ⟨u,hu⟩,dM b u hu⟩
   ·obtain⟨o2,z2⟩:=I'.base.there b u hu (by show b∉ [];simp)
    exact⟨o2,z2,.inr (in1 b u hu),cut b hb (old b u hu)⟩
  obtain⟨o2,z2,c2,nb⟩:=two
  have z3:=toH b o2 z2 c2 nb
  rw [show h2.get? b=y0 o from z]at z3
  cases z3
  exact comp b _ z2 c2 nb
 ·cases z:s.heap.get? x with
  | none=>rfl
  | some u=>
   obtain⟨o2,z2⟩:=in1 x u z
   rw [new]at z2
   cases z2
 ·obtain⟨o,e1,e2⟩:=hd dx z
  obtain⟨o',e3,e4⟩:=dk x o e1
  exact⟨o',e3,e4.trans e2⟩
end
structure Txt (K:Aa4) (mg:Str->Option Value) (f:String) where
 st:Stmt
 fa:Addr
 fd:FuncData
 N:List Str
 ps:List Str
structure kT {K:Aa4}{mg:Str->Option Value}{f:String}(t:Txt K mg f) (d:M.Fn) (fns own c3 cG:List String) (ob:fb):Prop where
 fn: ∃x y7,h8 K x y7 t.st t.fa t.fd
 bd:Binds K t.fd t.ps []
 sc:Ww t.N t.ps (Jl t.st)
 n:t.N.length=d.n
 p:t.ps.length=d.ps
 le:d.ps<=d.n
 D4:b8 ⟨Jl t.st,t.N,fns,own,c3,cG,ob⟩ d.body (JB t.st)=k9
structure mT (Y:Ge) (p:M.Prog) (mg:Str->Option Value) (own c3 cG:List String) (ob:fb):Prop where
 cl:p.cl=Y.cl
 ow:own=Y.own
 blt: ∀x,x∈cj->mg (Xd x)=u0
 con: ∀x d,p.con.lookup x=y0 d-> ∃u v,mg (Xd x)=y0 u/\RelV v u/\ ∀G H,aA Y G H d v
 cls: ∀c,own.contains c=k9->mg (Xd c)=y0 (.ref (Y.ca c))
 c3: ∀c,c3.contains c=true->eh Y c/\PySem.W.excIn Y.K (Y.ca c) Xz "ValueError.__new__" =true/\mg (Xd c)=some (.ref (Y.ca c))
 lQ: ∀c f,ob.er.contains (c,f)=true->eh Y c/\iO Y.K (Y.ca c) (Xd f)/\k4 Y.K (Y.ca c) (Xd f)/\mg (Xd c)=some (.ref (Y.ca c))/\ ∃fI fd ps,PySem.W.findIn Y.K (.ref (Y.ca c)) "__init__" =some (some (.ref fI))/\xY Y.K (Xd f) fI fd ps
 cG: ∀c,cG.contains c=true->PySem.W.mroIn Y.K (Y.ca c) (.type "BaseException")=some true/\own.contains c=true
 fld: ∀c f,ob.fl.contains (c,f)=k9->cX Y.K (Y.ca c)/\b7 Y.K (Y.ca c) (Xd f)
 gP: ∀c m q,ob.mt.contains (c,m,q)=k9->cX Y.K (Y.ca c)/\ob.ms.contains q=k9/\iR Y.K (Y.ca c) (Xd m) (Y.ma q)
 ea: ∀c q,ob.ea.contains (c,q)=k9->mg (Xd c)=y0 (.ref (Y.ca c))/\ob.ms.contains q=k9/\Mk Y.K (Y.ca c) (Y.ma q)
section
variable {P:Program}{w:World}{Y:Ge}{mg:Str->Option Value}{base:Heap}{p:M.Prog}{own c3 cG fns:List String}{ob:fb}
def vk (m:ak Y G h H) (r:a8 Y G H ws vs) (x: ∀w∈ws,lI w=k9) (p:N.length=n):aZ Y ⟨G,H,h⟩ G (ws.map y0++Aa1 (n-ws.length) u0) h (WB N vs) H:=by
 have u:=r.length
 have get: ∀ {i}{w},M.Gk (ws.map y0++Aa1 (n-ws.length) u0) i=y0 w->ws[i]? =y0 w:=λ{i w} e=>by
  rw [Zy]at e
  by_cases f:i<ws.length
  ·rw [Ad2 (by simpa using f),Ad1]at e
   cases q:ws[i]? with
   | none=>rw [q]at e;cases e
   | some C=>rw [q]at e;exact e
  ·rw [Ad8 (by simpa using f),Ak]at e
   split at e<;>cases e
 have g: ∀ {ws}{vs}{i:Nat}{w},a8 Y G H ws vs->ws[i]? =y0 w-> ∃v,vs[i]? =y0 v/\ao Y G H w v:=by
  intro ws
  induction ws with
  | nil=>intro vs i w _ e;simp at e
  | cons a r s=>
   intro vs i w ⟨v,D,c,t,y⟩ e
   subst c
   cases i with
   | zero=>simp at e;subst e;exact⟨v,rfl,t⟩
   | succ i=>
    obtain⟨o,B,z⟩:=s y (by assumption)
    exact⟨o,by simpa using B,z⟩
 have b: ∀ {i}{d},M.Gk _ i≠y0 (.own d):=λ{i d} e=>by
  have:=x _ (Ai6 (get e))
  cases this
 refine⟨⟨?_,λi w e=> ?_,λi j d w a A c=>absurd c b,m⟩,Ext.refl,m,λi d a c=>absurd c b⟩
 ·unfold WB
  rw [Aa3,Aa3,Ac,Ac,Ad5,Ad5,p,u]
 ·obtain⟨v,l,k⟩:=g r (get e)
  refine⟨v,?_,k⟩
  unfold WB
  have f:=(Ab9.mp l).1
  rw [Ad2 (by simp_all),Ad1,l]
  rfl
def Cj (m:ak Y G h H) (p:ax Y E G H (M.Gu h.length o) Q):aT Y E ⟨G,H,h⟩ o { nx:=λ_ H'=>Q .aj H',rt:=Q }:=by
 have g: ∀ {w}{c}{b}{H'}{v},_->ax Y E G H (M.fin h.length w c) Q->Ext G H b H'->ak Y b c H'->ao Y b H' w v->aF [] [] H w v->Q v H':=λ{w c b H' v} l p e a r f=>by
  unfold M.fin at p
  split at p
  ·exact p b H' e a v r f
  ·split at p
   ·rename_i n
    have k:=e.cut
    rw [m.len]at p
    exact p _ H' k (a.cut e.le) v (r.cut G.n e.le n l) f
   ·exact p b H' e a v r f
 cases o with
 | next Z c=>exact λb q H' j=>g (λi z=>by cases z) p j.ext j.st.heap rfl trivial
 | ret w c=>
  cases w with
  | bor i=>exact p.elim
  | v d=>exact λb v H' e a r f=>g (λi z=>by cases z) p e a r f
  | own i=>exact λb v H' e a r f=>g (λi z=>by cases z) p e a r f
 | exc d c=>exact p
 | brk Z c=>exact p.elim
 | cont Z c=>exact p.elim
 | fail=>exact p.elim
end
section
variable {P:Program}{w:World}{Y:Ge}{mg:Str->Option Value}{base:Heap}{p:M.Prog}{own c3 cG fns:List String}{ob:fb}
def rp (P:Program) (w:World) (Y:Ge) (mg:Str->Option Value) (base:Heap) (p:M.Prog) (k:Nat) (f:String):Prop:=
 ∃ps a fd,bc P w Y.K mg base (cE P w) (2*k+1) a fd ps (fK Y (M.call p k f))/\Binds Y.K fd ps []/\Af5 Y.K (.ref a)=k9/\mg (Xd f)=y0 (.ref a)
def rj (P:Program) (w:World) (Y:Ge) (mg:Str->Option Value) (base:Heap) (p:M.Prog) (k:Nat) (q:String):Prop:=
 ∃ps fd,bc P w Y.K mg base (cE P w) (2*k+1) (Y.ma q) fd ps (fK Y (M.call p k q))/\Binds Y.K fd ps []
def mV (i:mT Y p mg own c3 cG ob){t:Txt Y.K mg f}(ok:kT t d fns own c3 cG ob) (hf:p.fns.lookup f=y0 d) (k) (ih: ∀g,fns.contains g=k9->rp P w Y mg base p k g) (im: ∀q,ob.ms.contains q=k9->rj P w Y mg base p k q):
 bc P w Y.K mg base (cE P w) (2*(k+1)+1) t.fa t.fd t.ps (fK Y (M.call p (k+1) f)):=by
 have a: ∀ {j}{h},j.length≠d.ps->M.call p (k+1) f j h= .fail:=λ{j h} B=>by
  rw [M.call,hf]
  simp [M.run,B]
 have n:=λ{j h} B=>M.Gb hf k j h B
 obtain⟨x,y7,F⟩:=ok.fn
 refine h8.tw F ok.sc (λvs H Q E ⟨G,h,j,U,rs,no,q⟩=> ?_) λcdv A X s H vs Q E b ⟨G,h,j,U,rs,no,q⟩=> ?_
 ·by_cases o:j.length=d.ps
  ·rw [← rs.length,o,ok.p]
  ·rw [a o]at q;exact q.elim
 ·by_cases o:j.length=d.ps
  rotate_left
  ·rw [a o]at q;exact q.elim
  rw [n o]at q
  refine⟨cA Y E (M.execs ⟨M.call p k,p.cl,p.con⟩ d.body),cY (k:=2*k+1) ?_ d.body ok.D4,?_⟩
  ·refine { N:=rfl,K:=rfl,cl:=i.cl,ow:=i.ow,nd:=ok.sc.nd,gz:=λx l=>x0 l,iG:=λx l=>l,hH:=λx l=>⟨zX l,.inl rfl⟩,kg:=λx l=>l,gl:=λx l=>wJ l,calm:=rfl,room:=b.mono (by lia),dH:=b,pass:=Q9,blt:=i.blt,con:=i.con,fn:=λg v=> ?_,cls:=i.cls,fld:=i.fld,gP:=λc m q R=> ?_,ea:=λc q R=> ?_,g5:=CM,ic:=rfl,n6:=rfl,ex:=rfl,c3:=λc S v O=> ?_,lQ:=λc f S v O=> ?_,cG:=i.cG }
   ·obtain⟨J,fa,L,y,u,h3,h4⟩:=ih g v
    exact⟨J,⟨fa,L,y,u,h3,h4⟩⟩
   ·obtain⟨C,V,W⟩:=i.gP c m q R
    obtain⟨J,L,y,u⟩:=im q V
    exact⟨C,_,L,J,W,y,u⟩
   ·obtain⟨C,V,W⟩:=i.ea c q R
    obtain⟨J,L,y,u⟩:=im q V
    exact⟨C,_,L,J,W,y,u⟩
   ·obtain⟨D,ei,T⟩:=i.c3 c S
    refine⟨D,λnp r pos e es t I z=> ?_⟩
    exact vG ei T (wJ v) I (Za (z _ Aa)) (jk λe he=>z e (Aa0 _ he)) O
   ·obtain⟨D,xg,xe,T,fI,L,J,hi,Z⟩:=i.lQ c f S
    exact⟨D,xg,λnp r pos e t I z=>Fs xe hi Z T (wJ v) (b.mono (by lia)) I (Za z) O⟩
  ·refine⟨⟨G,H,h⟩,G,j.map y0++Aa1 _ u0,h,?_,Cj U q⟩
   have:=vk U rs no ok.n
   rw [o]at this
   exact this
def tF (f) (fa) (fd) (ps):bc P w Y.K mg base (cE P w) (2*0+1) fa fd ps (fK Y (M.call p 0 f)):=
 ⟨λg H Q E ⟨G,h,c,e,rs,d,q⟩=>q.elim,λA a s H b i g Q E _ _ _ _ ⟨G,h,c,e,rs,d,q⟩=>q.elim⟩
def B3 (j:mT Y p mg own c3 cG ob) (all: ∀f,fns.contains f=k9-> ∃d,p.fns.lookup f=y0 d/\ ∃t:Txt Y.K mg f,kT t d fns own c3 cG ob/\Af5 Y.K (.ref t.fa)=k9/\mg (Xd f)=y0 (.ref t.fa))
 (a: ∀q,ob.ms.contains q=k9-> ∃d,p.fns.lookup q=y0 d/\ ∃t:Txt Y.K mg q,kT t d fns own c3 cG ob/\t.fa=Y.ma q): ∀k,(∀ f,fns.contains f=k9->rp P w Y mg base p k f)/\ ∀q,ob.ms.contains q=k9->rj P w Y mg base p k q:=by
 intro k
 induction k with
 | zero=>
  refine⟨λf g=> ?_,λq e=> ?_⟩
  ·obtain⟨d,b,t,ok,i,h⟩:=all f g
   exact⟨t.ps,t.fa,t.fd,tF f _ _ _,ok.bd,i,h⟩
  ·obtain⟨d,b,t,ok,l⟩:=a q e
   exact⟨t.ps,t.fd,tF q _ _ _,ok.bd⟩
 | succ k c=>
  refine⟨λf g=> ?_,λq e=> ?_⟩
  ·obtain⟨d,b,t,ok,i,h⟩:=all f g
   exact⟨t.ps,t.fa,t.fd,mV j ok b k c.1 c.2,ok.bd,i,h⟩
  ·obtain⟨d,b,t,ok,l⟩:=a q e
   exact⟨t.ps,t.fd,l▸mV j ok b k c.1 c.2,ok.bd⟩
def nU (K:Aa4):Sp:=λc H Q _=> ∃(a:Addr) (b:List Int),c= [.ref a]/\bu K H a (b.map V.int)/\b.length<=63/\ ∀H',Q (.bl k9) H'
theorem J3 : ∀(a:List Int),af Y G H (a.map M.D.int) (a.map V.int)
 | []=>rfl
 | n::a=>⟨_,_,rfl,rfl,J3 a⟩
def Ee (F:bc P w Y.K mg base (cE P w) n fa fd ps (fK Y (M.call p k "law"))) (eP: ∀i:List Int,i.length<=63-> ∃h',M.call p k "law" [.v (.lst (i.map .int))] []= .ok (.v (.bl true)) h'):
 bc P w Y.K mg base kj n fa fd ps (nU Y.K):=by
 refine bc.calm F ?_
 rintro A H Q E ⟨a,i,l,d,h,q⟩
 subst l
 obtain⟨h',j⟩:=eP i h
 have fin: ∀G:Gh,ak Y G [] H->ij Y G H a _->fK Y (M.call p k "law") [.ref a] H Q (fun _ _ _=>False):=fun G m t=>by
  refine⟨G,[],[.v (.lst _)],m,⟨.ref a,[],rfl,⟨a,i.map V.int,rfl,t,J3 i⟩,rfl⟩,λw x=> ?_,?_⟩
  ·cases Ab6.mp x;rfl
  ·rw [j]
   intro y u _ _ v r _
   cases (r)
   exact q u
 obtain d | d:=d
 ·refine fin ⟨λb=>b=a,λ_=>0,0⟩ ⟨rfl,λr c e=>by simp at e,λr s g=>absurd g (Ai8 _),λb f=> ?_⟩ (.inl ⟨rfl,d⟩)
  subst f
  obtain z | ⟨o,z⟩:=d
  ·exact⟨_,z⟩
  ·exact⟨_,z⟩
 ·exact fin ⟨λ_=>False,λ_=>0,0⟩ ⟨rfl,λr c e=>by simp at e,λr s g=>absurd g (Ai8 _),λb f=>f.elim⟩ (.inr d)
def walk {l:PySem.W.OpenLaw}{K:Params->Aa4}(k) (n:aW k callerA) (c:l.most=y0 63) (b:d.params.defaults= [])
 (j: ∀ w h,YP w h->(K w.params).In h)
 (F: ∀ w mg i h,(K w.params).In h->h.Ns mainGlobals mg->mg d.name=y0 (.ref i) →
   ∃fd:FuncData,(∀ s u,BindsTo s fd ⟨[u],[]⟩ [(x,u)])/\ ∀base:Heap,(K w.params).In base->base.Ns mainGlobals mg->bc l.prog w (K w.params) mg base kj k i fd [x] (nU (K w.params))):
 PySem.W.WalkO q loose XP YP l.row.toRowW d [] (λf vs=>PySem.call f vs):=
 L2.fN c (by decide) b n j F (λ_ _ a g e _ m=>⟨a,g,rfl,m,e,λ_=>rfl⟩) λ_ _ _ _ _ z=>z
end
open PySem PySem.W PyProof.Rows KTD
theorem wX {f g:Str->Option (Str×Value)}: ∀ {l:List Str},(∀ n∈l,f n=g n)->l.filterMap f=l.filterMap g
 | [],_=>rfl
 | a::l,h=>by rw [Ah2,Ah2,h a Aa,wX λn b=>h n (Aa0 _ b)]
theorem XW: ∀ {a:List Str}{us:List Value},a.Nodup->us.length=a.length->a.filterMap (λn=>((a.zip us).lookup n).map (n, ·))=a.zip us
 | [],us,_,_=>rfl
 | p::a,[],_,h=>by cases h
 | p::a,u::us,d,h=>by
  have b:=Ag.mp d
  rw [List.zip_cons_cons,List.filterMap_cons_some (by rw [List.lookup_cons_self];rfl)]
  congr 1
  refine(wX λn c=> ?_).trans (XW b.2 (Nat.succ.inj h))
  rw [Ab4,beq_eq_false_iff_ne.mpr (λe=>b.1 (e▸c):n≠p)]
def yU {a:List Str}{us:List Value}(h:us.length=a.length)(b:n∈a):((a.zip us).lookup n).isSome=true:=by
 induction a generalizing us with
 | nil=>cases b
 | cons p a c=>
  cases us with
  | nil=>cases h
  | cons u us=>
   rw [List.zip_cons_cons,Ab4]
   cases e:n==p with
   | true=>rfl
   | false=>exact c (Nat.succ.inj h) ((Aa5.mp b).resolve_left (beq_eq_false_iff_ne.mp e))
abbrev dA (a:FuncData):List Str:=a.params.args.map (·.arg)
def Z8 (h1:fd.params.posonlyargs= []) (h2:fd.params.vararg=u0) (h3:fd.params.kwonlyargs= []) (h4:fd.params.kwarg=u0) (h5:fd.defaults= .none) (nd:(dA fd).Nodup)(hl:us.length=(dA fd).length):bindArgs fd ⟨us,[]⟩=pure ((dA fd).zip us):=by
 have e: ∀k,((dA fd).take k).filter (λn=>(((dA fd).zip us).lookup n).isNone)= []:=λk=>List.filter_eq_nil_iff.mpr λn hn=>by
  have:=yU hl (Ah0 hn)
  cases q:((dA fd).zip us).lookup n with
  | none=>rw [q]at this;cases this
  | some _=>simp
 have f:=XW nd hl
 obtain⟨n,q,⟨po,as,va,ko,kd,ka,df⟩,b,sc,g,cl,d,kV,doc,pm,an,cd,ct,bi⟩:=fd
 cases h1
 cases h2
 cases h3
 cases h4
 cases h5
 refine(if_neg ?_).trans ((if_neg ?_).trans ?_)
 ·simpa using Ak9 hl
 ·exact λz=>by
   have z':=(congrArg (λl:List Str=> !l.isEmpty) (e _)).symm.trans z
   cases z'
 ·refine Eq.trans ?_ (congrArg pure f)
  rw [show ∀k,List.drop k (none.getD #[]).toList= []from λk=>List.drop_nil,List.zip_nil_right]
  exact congrArg (λl:List Str=>(pure (l.filterMap λn=>(((as.map (·.arg)).zip us).lookup n).map (n, ·)):Sem (List (Str×Value)))) (Ad0 (as.map (·.arg)))
noncomputable def kf (K:Frag) (a:Addr) (f:FuncData->List Stmt->Bool):Bool:=match K.lookup a with
 | some ⟨_,_,.func fd,_⟩=>(match fd.body with
  | .stmts b=>f fd b
  | _=>y9)
 | _=>y9
def nj {K:Frag}(h:kf K a f=k9): ∃i j fd sl b,K.lookup a=y0 ⟨i,j,.func fd,sl⟩/\fd.body= .stmts b/\f fd b=true:=by
 unfold kf at h
 split at h
 ·rename_i e
  split at h
  ·rename_i c
   exact⟨_,_,_,_,_,e,c,h⟩
  ·cases h
 ·cases h
def iU (K:Frag) (a:Addr) (b:FuncData) (N:List Str):Prop:=
 (b.globals=mainGlobals/\b.builtins=builtinsNs/\b.closure= []/\b.defaults= .none)/\codeIn K b.code b.qualname=k9/\keepIn K (.ref a)=k9 ∧
 (b.params.posonlyargs.isEmpty=k9/\b.params.vararg.isNone=k9/\b.params.kwonlyargs.isEmpty=k9/\b.params.kwarg.isNone=k9) ∧
 b.scope.kind= .function/\b.scope.isCoroutine=y9/\b.scope.isGenerator=y9/\N.Nodup/\N.take (dA b).length=dA b/\(∀ x∈dA b,b.scope.names.lookup x=y0 .local\/b.scope.names.lookup x=y0 .cell)/\ ∀y∈b.scope.names,y.2≠ .free
instance {K:Frag}{a:Addr}{fd:FuncData}{N:List Str}:Decidable (iU K a fd N):=by unfold iU;infer_instance
def rW {K:Frag}(l:K.lookup a=y0 ⟨oc,od,.func fd,sl⟩) (k:fd.body= .stmts b) (p:iU K a fd N):
 ∃st x q,JB st=b/\Jl st=fd.scope/\h8 K x q st a fd/\Ww N (dA fd) fd.scope/\ ∀us:List Value,us.length=(dA fd).length->bindArgs fd ⟨us,[]⟩=pure ((dA fd).zip us):=by
 obtain⟨⟨g,bi,t,e⟩,n,i,⟨j,a2,a3,a4⟩,s,o,r,c,d,f,m⟩:=p
 refine⟨.FunctionDef fd.name fd.params b [] u0 [] fd.scope u0 fd.name ⟨0,0,0,0⟩,fd.name,fd.qualname,rfl,rfl,⟨⟨oc,od,fd.kwdefaults,fd.doc,fd.pyModule,fd.annotations,fd.code,fd.closureTuple,sl,?_,l,n⟩,i⟩,⟨s,o,r,c,d,f,m⟩,λus h=>Z8 (Ae2.mp j) (Af6.mp a2) (Ae2.mp a3) (Af6.mp a4) e (d▸(List.take_sublist _ _).nodup c) h⟩
 cases fd
 cases k
 cases g
 cases bi
 cases t
 cases e
 rfl
def iE:Option (Option Value)->Addr
 | some (y0 (.ref a))=>a
 | _=>0
abbrev bV (K:Frag) (c:String):Addr:=iE (nsIn K mainGlobals (Xd c))
abbrev kN (K:Frag) (c:String):Prop:=nsIn K mainGlobals (Xd c)=y0 (y0 (.ref (bV K c)))
noncomputable def f7 (K:Frag) (a:fb) (q:String):Addr:=match a.mt.find? (·.2.2==q)with
 | some (c,m,_)=>iE (findIn K (.ref (bV K c)) (Xd m))
 | none=>match a.ea.find? (·.2==q)with
  | some (c,_)=>iE (findIn K (.ref (bV K c)) "__init__")
  | none=>0
def pw (a:Scope):List Str:=a.names.filterMap λy=>if y.2= .local\/y.2= .cell then y0 y.1 else u0
def XP (K:Frag) (a:M.cX) (own:List String) (c:String):Prop:=((findIn K (.ref (bV K c)) "__getattribute__" =some (some (.builtin "BaseException.__getattribute__"))/\findIn K (.ref (bV K c)) "__getattr__" =some none/\findIn K (.ref (bV K c)) "__class__" =some (some (.builtin "object.__class__"))) ∧
 specialIn K (.builtin "object.__class__") "__get__" =some (some (.builtin "getset_descriptor.__get__"))/\takesIn K (.builtin "object.__class__")=some true/\mroIn K (bV K c) (.type "object")=some true/\mroIn K (bV K c) (.type "BaseException")=some true/\kitCls K (.ref (bV K c)) (.ref (bV K c))=some true/\(clsIn K (bV K c)).isSome=true) ∧
 (∀ t∈own,kitOne K (.ref (bV K c)) (.ref (bV K t))=some ((M.GN a 8 c).contains t))/\kitOne K (.ref (bV K c)) (.type "ValueError")=some ((M.GN a 8 c).contains "ValueError")/\kN K c
instance {K:Frag}{cl:M.cX}{own:List String}{c:String}:Decidable (XP K cl own c):=by unfold XP;infer_instance
def nR (K:Frag) (p:M.Prog) (g own c e:List String) (h:fb) (nm:List (String×List String)) (a:Addr) (f:String):Bool:=kf K a λfd b=>match p.fns.lookup f with
 | some d=>(λN=>u9 (iU K a fd N/\N.length=d.n/\(dA fd).length=d.ps/\d.ps<=d.n)&&b8 ⟨fd.scope,N,g,own,c,e,h⟩ d.body b) (((nm.lookup f).map λl=>l.map Xd).getD (pw fd.scope))
 | none=>y9
def mn {K:Frag}(mg) (h:nR K p fns own c3 cG ob nm a f=k9):
 ∃d,p.fns.lookup f=y0 d/\ ∃t:Txt K mg f,kT t d fns own c3 cG ob/\t.fa=a/\keepIn K (.ref a)=k9/\ ∃i J sl,K.lookup a=y0 ⟨i,J,.func t.fd,sl⟩/\t.ps=dA t.fd/\ ∀us:List Value,us.length=t.ps.length->bindArgs t.fd ⟨us,[]⟩=pure (t.ps.zip us):=by
 obtain⟨i,J,j,sl,b,l,r,h⟩:=nj h
 cases e:p.fns.lookup f with
 | none=>rw [e]at h;cases h
 | some d=>
  rw [e]at h
  generalize ((nm.lookup f).map λl=>l.map Xd).getD (pw j.scope)=N at h
  obtain⟨w,k⟩:=(Aa9 _ _).mp h
  obtain⟨q,v,m,o⟩:=of_decide_eq_true w
  obtain⟨s,x,n,rfl,u,F,c,g⟩:=rW l r q
  rw [← u]at c k
  exact⟨d,rfl,⟨s,a,j,_,dA j⟩,⟨⟨x,n,F⟩,.all g,c,v,m,o,k⟩,rfl,F.kp,i,J,sl,l,rfl,g⟩
noncomputable def rO (f n m:Str) (b:List Stmt):Bool:=lC b λst r=>kZ r (fh st λd v=>lC d λt r=>kZ r (WO t λx g _=>Xq x λa=>Xq v λc=>u9 (a=n)&&u9 (g=f)&&u9 (c=m)))
def DO (h:rO f n m b=k9): ∃i p2 j q,b= [.Assign [.Attribute (.Name n i) f p2] (.Name m j) q]:=by
 refine kC (λo r h=> ?_) b h
 refine kE (λh=> ?_) r h
 refine fV (λk v p h=> ?_) o h
 refine kC (λt r h=> ?_) k h
 refine kE (λh=> ?_) r h
 refine WV (λx g p h=> ?_) t h
 refine Qq (λa p h=> ?_) x h
 refine Qq (λc p h=> ?_) v h
 obtain⟨l,e,d⟩:=a3 h
 cases of_decide_eq_true l
 cases of_decide_eq_true e
 cases of_decide_eq_true d
 exact⟨_,_,_,_,rfl⟩
def o7 (K:Frag) (f:Str) (a:Addr):Bool:=kf K a λfd b=>match dA fd with
 | [n,m]=>u9 (iU K a fd [n,m]/\(n==("__debug__" :Str))=false/\(m==("__debug__" :Str))=false/\(n==("__classdict__" :Str))=false/\(m==("__classdict__" :Str))=false)&&rO f n m b
 | _=>y9
def ym {K:Frag}(h:o7 K f a=k9) (i:isFn K (.ref a)=k9): ∃fd ps,xY K f a fd ps:=by
 obtain⟨z,A,fd,sl,b,l,o,h⟩:=nj h
 split at h
 ·rename_i n m e
  obtain⟨y,s⟩:=(Aa9 _ _).mp h
  obtain⟨q,d⟩:=of_decide_eq_true y
  obtain⟨u,x,j,rfl,v,F,c,p⟩:=rW l o q
  obtain⟨t,r,g,w,k⟩:=DO s
  rw [← v]at c
  exact⟨fd,dA fd,⟨x,j,u,_,n,m,t,r,g,w,F,e,rfl,c,k,d⟩,.all p,beq_iff_eq.mp i⟩
 ·cases h
noncomputable def lV (K:Frag):M.D->Value->Bool
 | .int i,.int j _=>u9 (i=j)
 | .str s,.str t _=>u9 (aD s=t)
 | .exc _ fs,.ref a=> !fs.isEmpty&&tabLook flatLooks (λb=>K.lookup b) a (g9 fs)
 | _,_=>y9
def sy (K:Frag) (x:String) (d:M.D):Bool:=match nsIn K mainGlobals (Xd x)with
 | some (y0 u)=>lV K d u
 | _=>y9
def FX (h:lV Y.K d u=k9): ∃v,RelV v u/\ ∀G H,aA Y G H d v:=by
 unfold lV at h
 split at h
 ·cases of_decide_eq_true h
  exact⟨.int _,⟨_,rfl⟩,λ_ _=>rfl⟩
 ·cases of_decide_eq_true h
  exact⟨.str _,⟨_,rfl⟩,λ_ _=>rfl⟩
 ·obtain⟨a,b⟩:=(Aa9 _ _).mp h
  exact⟨.ref _,rfl,λ_ _=> .inr ⟨λe=>(by rw [e]at a;cases a),_,rfl,b⟩⟩
 ·cases h
theorem sC : ∀ {l:List (String×α)}{x}{d},l.lookup x=y0 d->(x,d)∈l
 | (k,v)::l,x,d,h=>by
  rw [Ab4]at h
  by_cases q:(x==k)=k9
  ·rw [q]at h;cases h;rw [eq_of_beq q];exact Aa
  ·rw [eq_false_of_ne_true q]at h;exact Aa0 _ (sC h)
abbrev sx (K:Frag) (C:Addr):Prop:=plainGet K C Str.empty=true/\hasDictIn K C=true/\plainOver K C=true/\findIn K (.ref C) "__setattr__" =some (some (.builtin "object.__setattr__"))
def nQ (K:Frag) (p:M.Prog) (b own d e:List String) (a:fb) (nm:List (String×List String)):Prop:=
 (∀ x∈cj,nsIn K mainGlobals (Xd x)=some none)/\(∀ x∈p.con,sy K x.1 x.2=true)/\(∀ c∈own,kN K c)/\(∀ c∈d,XP K p.cl own c/\excIn K (bV K c) Xz "ValueError.__new__" =true) ∧
 (∀ c∈a.er,XP K p.cl own c.1/\(XF K (bV K c.1)=true/\ir K (bV K c.1)=true/\findIn K (.ref (bV K c.1)) "__setattr__" =some (some (.builtin "object.__setattr__"))/\findIn K (.ref (bV K c.1)) (Xd c.2)=some none/\keepIn K (.ref (bV K c.1))=true) ∧
   findIn K (.ref (bV K c.1)) "__init__" =some (some (.ref (iE (findIn K (.ref (bV K c.1)) "__init__"))))/\o7 K (Xd c.2) (iE (findIn K (.ref (bV K c.1)) "__init__"))=true/\isFn K (.ref (iE (findIn K (.ref (bV K c.1)) "__init__")))=true) ∧
 (∀ c∈e,mroIn K (bV K c) (.type "BaseException")=some true/\own.contains c=true) ∧
 (∀ c∈a.fl,sx K (bV K c.1)/\findIn K (.ref (bV K c.1)) (Xd c.2)=y0 u0) ∧
 (∀ c∈a.mt,sx K (bV K c.1)/\a.ms.contains c.2.2=k9/\findIn K (.ref (bV K c.1)) (Xd c.2.1)=y0 (y0 (.ref (f7 K a c.2.2)))/\isFn K (.ref (f7 K a c.2.2))=k9/\keepIn K (.ref (f7 K a c.2.2))=k9) ∧
 (∀ c∈a.ea,kN K c.1/\a.ms.contains c.2=true/\makesIn K (bV K c.1)=true/\findIn K (.ref (bV K c.1)) "__init__" =some (some (.ref (f7 K a c.2)))/\isFn K (.ref (f7 K a c.2))=true/\keepIn K (.ref (bV K c.1))=true) ∧
 (∀ f∈b,kN K f/\nR K p b own d e a nm (bV K f) f=true)/\(∀ q∈a.ms,nR K p b own d e a nm (f7 K a q) q=true)/\b.contains "law" =true/\kf K (bV K "law") (fun fd _=>decide (dA fd= [("_law_script" :Str)]))=true
set_option synthInstance.maxSize 1000 in
instance {K:Frag}{p:M.Prog}{fns own c3 cG:List String}{ob:fb}{nm:List (String×List String)}:Decidable (nQ K p fns own c3 cG ob nm):=by unfold nQ;infer_instance
def qB  [BEq α] [LawfulBEq α] {l:List α}(h:l.contains x=k9):x∈l:=Ad6.mp h
def XP.ok {K:Frag}{p:M.Prog}(h:XP K p.cl own c):eh ⟨K,bV K,p.cl,own,f7 K ob⟩ c:=by
 obtain⟨⟨⟨a,a2,a3⟩,a4,a5,a6,a7,d,e⟩,b,c,_⟩:=h
 exact⟨⟨a,a2,a3,a4,a5,a6,a7,d,e⟩,b,c⟩
def hP {l:OpenLaw}{K:Frag}(p) (fns own c3 cG) (ob) (nm) (k) (X:K.In h) (G:h.Ns mainGlobals mg) (N:mg "law" =some (.ref fa)) (T:decide (nQ K p fns own c3 cG ob nm)=true)
 (eP: ∀S:List Int,S.length<=63-> ∃h',M.call p (k+1) "law" [.v (.lst (S.map .int))] []= .ok (.v (.bl true)) h'):
 ∃fd:FuncData,(∀ s v,BindsTo s fd ⟨[v],[]⟩ [("_law_script",v)])/\ ∀base:Heap,K.In base->base.Ns mainGlobals mg->bc l.prog w K mg base kj (2*(k+1)+1) fa fd ["_law_script"] (nU K):=by
 obtain⟨t1,t0,t2,t3,t4,V,t6,W,t8,O,H,E,L⟩:=of_decide_eq_true T
 have R:mT ⟨K,bV K,p.cl,own,f7 K ob⟩ p mg own c3 cG ob:=by
  refine⟨rfl,rfl,λx hx=>mg_none_of X G (t1 x hx),λx d n=> ?_,λc a=>mg_of X G (t2 c (qB a)),λc a=> ?_,λc f a=> ?_,λc a=>V c (qB a),λc f a=> ?_,λc m q a=> ?_,λc q a=> ?_⟩
  ·have z:=t0 (x,d) (sC n)
   unfold sy at z
   split at z
   ·rename_i u e
    obtain⟨v,r⟩:=FX (Y:=⟨K,bV K,p.cl,own,f7 K ob⟩) z
    exact⟨u,v,mg_of X G e,r⟩
   ·cases z
  ·have z:=t3 c (qB a)
   exact⟨z.1.ok,z.2,mg_of X G z.1.2.2.2⟩
  ·obtain⟨z,⟨j,b,o,g,y⟩,B,J,I⟩:=t4 (c,f) (qB a)
   obtain⟨fd,ps,i⟩:=ym J I
   exact⟨z.ok,⟨b,g,z.1.1.1,z.1.1.2.1⟩,⟨j,b,o,g,y⟩,mg_of X G z.2.2.2,_,fd,ps,B,i⟩
  ·obtain⟨⟨j,b,o,g⟩,y⟩:=t6 (c,f) (qB a)
   exact⟨⟨j,b,o,g⟩,y⟩
  ·obtain⟨⟨j,b,o,g⟩,y,B,J,I⟩:=W (c,m,q) (qB a)
   exact⟨⟨j,b,o,g⟩,y,B,J,I⟩
  ·obtain⟨j,b,o,g,y,B⟩:=t8 (c,q) (qB a)
   exact⟨mg_of X G j,b,o,g,y,B⟩
 have D: ∀f,fns.contains f=k9->mg (Xd f)=y0 (.ref (bV K f)):=λf F=>mg_of X G (O f (qB F)).1
 have e:bV K "law" =fa:=by
  have:=(D "law" E).symm.trans N
  cases this
  rfl
 obtain⟨d,n,t,ok,A,Q,oc,od,sl,lk,ep,bd⟩:=mn mg (O "law" (qB E)).2
 obtain⟨_,_,fd,_,_,C,_,z⟩:=nj L
 rw [lk]at C
 cases C
 have z:=ep.trans (of_decide_eq_true z)
 refine⟨t.fd,λs v=> .of_eq ((bd [v] (by rw [z];rfl)).trans (by rw [z];rfl)),λbase _ _=> ?_⟩
 have U:=B3 (P:=l.prog) (w:=w) (base:=base) R (λf F=>by
  obtain⟨d,n,t,ok,A,Q,_⟩:=mn mg (O f (qB F)).2
  exact⟨d,n,t,ok,A▸Q,A▸D f F⟩) (λq Z=>by
  obtain⟨d,n,t,ok,A,_⟩:=mn mg (H q (qB Z))
  exact⟨d,n,t,ok,A⟩) k
 have:=Ee (mV R ok n k U.1 U.2) eP
 rw [A,e,z]at this
 exact this
end L2.MS
namespace Wf
def mR (n:Nat) (a:List (Nat×Nat)):Prop:= ∀p∈a,p.1<n/\p.2<n
inductive TC (n t a:Nat):Nat->Prop
 | step {b:Nat}:a<n->b<n->t.testBit (a*n+b)=k9->TC n t a b
 | more {b c:Nat}:TC n t a b->b<n->c<n->t.testBit (b*n+c)=k9->TC n t a c
structure Hl (n t r:Nat):Prop where
 lt:r<2 ^ (n*n)
 bit: ∀a b,a<n->b<n->(r.testBit (a*n+b)=k9↔TC n t a b)
structure Hk (n t r:Nat):Prop where
 lt:r<2 ^ (n*n)
 sub: ∀a b,a<n->b<n->r.testBit (a*n+b)=k9->TC n t a b
 sup: ∀k,t.testBit k=k9->r.testBit k=k9
structure Hd (n t a:Nat) (re wa:List Nat):Prop where
 an:a<n
 nd:re.Nodup
 tc: ∀x∈re,TC n t a x
 wl: ∀x∈wa,x<n/\(x=a\/x∈re)
 cl: ∀x,(x=a\/x∈re)->x∉wa-> ∀b,b<n->t.testBit (x*n+b)=k9->b∈re
structure Lk (n t a:Nat) (re wa:List Nat) (h b:Nat):Prop where
 an:a<n
 nd:re.Nodup
 tc: ∀x∈re,TC n t a x
 wl: ∀x∈wa,x<n/\(x=a\/x∈re)
 cl: ∀x,(x=a\/x∈re)->x∉wa->x≠h-> ∀b,b<n->t.testBit (x*n+b)=k9->b∈re
 hn:h<n
 hr:h=a\/h∈re
 hb: ∀b',b'<b->t.testBit (h*n+b')=k9->b'∈re
end Wf
namespace M
abbrev ki:Tx:=[97,98,99,100,101,102,103,104,105,106,107,108,109,110,111,112,113,114,115,116,117,118,119,120,121,122]
abbrev d3:Tx:=[108,101,97,115,116]
abbrev fj:Tx:=[106,111,105,110,101,100]
abbrev dY:Tx:=[109,111,115,116]
abbrev gG:Tx:=[115,111,109,101,32,97,108,108]
abbrev gv:Tx:=[99,108,111,115,101,100]
abbrev c8:Tx:=[105,110]
abbrev eg:Tx:=[110,111,116]
abbrev gq:Tx:=[115,111,109,101,32]
abbrev gi:Tx:=[115,111,109,101]
abbrev fP:Tx:=[110,111,110,101]
abbrev fY:Tx:=[108,101,115,115]
abbrev lN:Tx:=[101,97,99,104,108,101,97,115,116]
abbrev fA:Tx:=[101,97,99,104]
abbrev fH:Tx:=[115,97,109,101]
abbrev e7:Tx:=[110,111,116,32]
abbrev lO:Tx:=[101,97,99,104,109,111,115,116]
abbrev gU:Tx:=[112,108,117,115]
abbrev eT:Tx:=[97,110,100]
abbrev gD:Tx:=[98,111,116,104]
abbrev iK:Tx:=[101,113,117,97,108]
abbrev kL:Tx:=[108,101,116,116,101,114]
abbrev kA:Tx:=[102,105,103,117,114,101]
abbrev kY:Tx:=[116,117,114,110,101,100]
abbrev lH:Tx:=[48,49,50,51,52,53,54,55,56,57]
abbrev nX:Tx:=[101,97,99,104,32,108,101,97,115,116,32]
abbrev kq:Tx:=[98,108,97,110,107]
abbrev lT:Tx:=[101,97,99,104,32,109,111,115,116,32]
abbrev eI:Tx:=[111,114]
abbrev ip:Tx:=[32,105,110,32]
abbrev g7:Tx:=[97,108,108]
abbrev fW:Tx:=[110,111]
abbrev kF:Tx:=[110,97,109,101]
abbrev fm:Tx:=[126,94]
abbrev o4:Tx:=[32,43,45,38,46,126,94,40,41,91,93,61]
abbrev pR:Tx:=[43,45,38,46,126,94,40,41,91,93,61]
abbrev mL:Tx:=[108,101,97,115,116,32]
abbrev lB:Tx:=[107,105,110,100]
abbrev nh:Tx:=[109,111,115,116,32]
abbrev S.r (c x:E):S:= .iff c (.cons (.ret x) .nil) .nil
abbrev E.v0:E:= .var 0
abbrev E.v1:E:= .var 1
abbrev E.v2:E:= .var 2
abbrev E.v3:E:= .var 3
abbrev E.v4:E:= .var 4
abbrev E.v5:E:= .var 5
abbrev E.v6:E:= .var 6
abbrev E.v7:E:= .var 7
abbrev E.v8:E:= .var 8
abbrev E.v9:E:= .var 9
abbrev E.i0:E:= .int 0
abbrev E.i1:E:= .int 1
abbrev E.i2:E:= .int 2
abbrev E.i3:E:= .int 3
abbrev E.i4:E:= .int 4
abbrev Es.a (x:E):Es:= .cons x .nil
abbrev Es.b (x y:E):Es:= .cons x (.cons y .nil)
abbrev Es.c (x y z:E):Es:= .cons x (.cons y (.cons z .nil))
abbrev Es.d (x y z u:E):Es:= .cons x (.cons y (.cons z (.cons u .nil)))
abbrev Es.f (x y z u v:E):Es:= .cons x (.cons y (.cons z (.cons u (.cons v .nil))))
abbrev Es.g (x y z u v w:E):Es:= .cons x (.cons y (.cons z (.cons u (.cons v (.cons w .nil)))))
abbrev Ss.a (x:S):Ss:= .cons x .nil
def jg:E:= .comp [0] k9 1 [] (.seq .v0) y9 (.bl k9) (.cmp .mem .v0 (.con "FIGURES"))
noncomputable def zx:Fn:=⟨2,2,.cons (.r (.or (.not (.chain .le .le .i1 (.bi .len (.a .v0)) .v1)) (.not (.bi .all (.a jg)))) (.bl y9)) (.a (.ret (.or (.cmp .eq .v0 (.str [48])) (.not (.dz .starts .v0 (.a (.str [48])))))))⟩
noncomputable def Wl:Fn:=⟨1,1,.cons (.r (.cmp .mem .v0 (.con "LETTERS")) (.str kL)) (.cons (.r (.cmp .mem .v0 (.con "FIGURES")) (.str kA)) (.cons (.r (.cmp .mem .v0 (.con "SINGLE_SIGNS")) (.str [115,105,110,103,108,101])) (.cons (.r (.cmp .eq .v0 (.str [32])) (.str kq)) (.a (.bF "NoText" "row" .aj)))))⟩
def Qg:Ss:= .cons (.ae 4 (.call "sort_of_sign" (.a .v3))) (.cons (.iff (.and (.cmp .eq .v4 .v2) (.cmp .mem .v4 (.tup (.b (.str kL) (.str kA))))) (.a (.dD 1 (.neg .i1) (.bin .add (.ix .v1 (.neg .i1)) .v3))) (.a (.iff (.cmp .ne .v4 (.str kq)) (.a (.app 1 .v3)) .nil))) (.a (.ae 2 .v4)))
def Wv:Fn:=⟨1,5,.cons (.set 1 (.lst .nil)) (.cons (.ae 2 (.str kq)) (.cons (.for [3] k9 (.seq .v0) Qg) (.a (.ret .v1))))⟩
noncomputable def qx:Fn:=⟨1,1,.cons (.iff (.cmp .eq .v0 (.con "MOST_WITHIN")) (.a (.bF "NoText" "row" .aj)) .nil) (.a (.ret (.bin .add .v0 .i1)))⟩
noncomputable def Xm:Fn:=⟨3,3,.cons (.bW 0 "Reader" "names" (.bin .add (.ix .v1 .i0) (.ix .v1 .i1))) (.cons (.bW 0 "Reader" "signs" .v2) (.a (.bW 0 "Reader" "place" .i0)))⟩
noncomputable def Wt:Fn:=⟨1,1,.cons (.r (.cmp .lt (.fld 0 "Reader" "place") (.bi .len (.a (.fld 0 "Reader" "signs")))) (.ix (.fld 0 "Reader" "signs") (.fld 0 "Reader" "place"))) (.a (.ret (.str [])))⟩
noncomputable def Xt:Fn:=⟨1,2,.cons (.ae 1 (.ai 0 "Reader" "here" "Reader.here" .nil)) (.cons (.bW 0 "Reader" "place" (.bin .add (.fld 0 "Reader" "place") .i1)) (.a (.ret .v1)))⟩
noncomputable def jh:Fn:=⟨2,2,.cons (.iff (.cmp .ne (.ai 0 "Reader" "take" "Reader.take" .nil) .v1) (.a (.bF "NoText" "row" .aj)) .nil) .nil⟩
def Ju:E:= .cmp .eq (.ai 0 "Reader" "here" "Reader.here" .nil) (.str eI)
noncomputable def wv:Ss:= .cons (.ex (.ai 0 "Reader" "take" "Reader.take" .nil)) (.a (.ae 2 (.tup (.c (.str eI) .v2 (.ai 0 "Reader" "part" "Reader.part" (.a .v1))))))
def qA:Fn:=⟨2,3,.cons (.ae 2 (.ai 0 "Reader" "part" "Reader.part" (.a .v1))) (.cons (.dX 100000 Ju wv) (.a (.ret .v2)))⟩
def jA:E:= .cmp .eq (.ai 0 "Reader" "here" "Reader.here" .nil) (.str eT)
noncomputable def wC:Ss:= .cons (.ex (.ai 0 "Reader" "take" "Reader.take" .nil)) (.a (.ae 2 (.tup (.c (.str eT) .v2 (.ai 0 "Reader" "unit" "Reader.unit" (.a .v1))))))
def ZJ:Fn:=⟨2,3,.cons (.ae 2 (.ai 0 "Reader" "unit" "Reader.unit" (.a .v1))) (.cons (.dX 100000 jA wC) (.a (.ret .v2)))⟩
def bK:Fn:=⟨2,3,.cons (.iff (.cmp .eq (.ai 0 "Reader" "here" "Reader.here" .nil) (.str eg)) (.cons (.ex (.ai 0 "Reader" "take" "Reader.take" .nil)) (.a (.ret (.tup (.b (.str eg) (.ai 0 "Reader" "unit" "Reader.unit" (.a (.call "one_deeper" (.a .v1))))))))) .nil) (.cons (.iff (.cmp .eq (.ai 0 "Reader" "here" "Reader.here" .nil) (.str [91])) (.cons (.ex (.ai 0 "Reader" "take" "Reader.take" .nil)) (.cons (.ae 2 (.ai 0 "Reader" "saying" "Reader.saying" (.a (.call "one_deeper" (.a .v1))))) (.cons (.ex (.ai 0 "Reader" "take_just" "Reader.take_just" (.a (.str [93])))) (.a (.ret .v2))))) .nil) (.a (.ret (.ai 0 "Reader" "fact" "Reader.fact" (.a .v1)))))⟩
noncomputable def bL:Fn:=⟨2,3,.cons (.ae 2 (.ai 0 "Reader" "here" "Reader.here" .nil)) (.cons (.iff (.cmp .mem .v2 (.tup (.b (.str gi) (.str fW)))) (.cons (.ex (.ai 0 "Reader" "take" "Reader.take" .nil)) (.a (.ret (.tup (.b .v2 (.ai 0 "Reader" "expression" "Reader.expression" (.a .v1))))))) .nil) (.cons (.r (.cmp .mem .v2 (.tup (.b (.str d3) (.str dY)))) (.ai 0 "Reader" "count_fact" "Reader.count_fact" (.b (.str []) .v1))) (.cons (.iff (.cmp .eq .v2 (.str fA)) (.cons (.ex (.ai 0 "Reader" "take" "Reader.take" .nil)) (.a (.ret (.ai 0 "Reader" "count_fact" "Reader.count_fact" (.b (.str fA) .v1))))) .nil) (.a (.ret (.ai 0 "Reader" "pair_fact" "Reader.pair_fact" (.a .v1)))))))⟩
noncomputable def aV:Fn:=⟨3,5,.cons (.ae 3 (.ai 0 "Reader" "take" "Reader.take" .nil)) (.cons (.iff (.cmp .bz .v3 (.tup (.b (.str d3) (.str dY)))) (.a (.bF "NoText" "row" .aj)) .nil) (.cons (.ae 4 (.ai 0 "Reader" "limit" "Reader.limit" .nil)) (.a (.ret (.tup (.c (.bin .add .v1 .v3) .v4 (.ai 0 "Reader" "expression" "Reader.expression" (.a .v2))))))))⟩
def bE:Fn:=⟨1,2,.cons (.ae 1 (.ai 0 "Reader" "take" "Reader.take" .nil)) (.cons (.iff (.not (.call "is_written" (.b .v1 (.con "MOST_FIGURES")))) (.a (.bF "NoText" "row" .aj)) .nil) (.a (.ret (.bg .v1))))⟩
noncomputable def a9:Fn:=⟨2,4,.cons (.ae 2 (.ai 0 "Reader" "expression" "Reader.expression" (.a .v1))) (.cons (.ae 3 (.ai 0 "Reader" "take" "Reader.take" .nil)) (.cons (.iff (.cmp .bz .v3 (.tup (.b (.str c8) (.str [61])))) (.a (.bF "NoText" "row" .aj)) .nil) (.a (.ret (.tup (.c (.eC "SORTS" .v3) .v2 (.ai 0 "Reader" "expression" "Reader.expression" (.a .v1))))))))⟩
def xc:E:= .cmp .mem (.ai 0 "Reader" "here" "Reader.here" .nil) (.tup (.b (.str [43]) (.str [45])))
noncomputable def Zc:Ss:= .cons (.ae 3 (.eC "SORTS" (.ai 0 "Reader" "take" "Reader.take" .nil))) (.a (.ae 2 (.tup (.c .v3 .v2 (.ai 0 "Reader" "term" "Reader.term" (.a .v1))))))
def aX:Fn:=⟨2,4,.cons (.ae 2 (.ai 0 "Reader" "term" "Reader.term" (.a .v1))) (.cons (.dX 100000 xc Zc) (.a (.ret .v2)))⟩
def xA:E:= .cmp .eq (.ai 0 "Reader" "here" "Reader.here" .nil) (.str [38])
noncomputable def WD:Ss:= .cons (.ex (.ai 0 "Reader" "take" "Reader.take" .nil)) (.a (.ae 2 (.tup (.c (.str gD) .v2 (.ai 0 "Reader" "factor" "Reader.factor" (.a .v1))))))
def xK:Fn:=⟨2,3,.cons (.ae 2 (.ai 0 "Reader" "factor" "Reader.factor" (.a .v1))) (.cons (.dX 100000 xA WD) (.a (.ret .v2)))⟩
def xw:E:= .cmp .eq (.ai 0 "Reader" "here" "Reader.here" .nil) (.str [46])
noncomputable def Zv:Ss:= .cons (.ex (.ai 0 "Reader" "take" "Reader.take" .nil)) (.a (.ae 2 (.tup (.c (.str fj) .v2 (.ai 0 "Reader" "atom" "Reader.atom" (.a .v1))))))
def zE:Fn:=⟨2,3,.cons (.ae 2 (.ai 0 "Reader" "atom" "Reader.atom" (.a .v1))) (.cons (.dX 100000 xw Zv) (.a (.ret .v2)))⟩
def bN:Fn:=⟨2,4,.cons (.ae 2 (.ai 0 "Reader" "take" "Reader.take" .nil)) (.cons (.r (.cmp .mem .v2 (.tup (.b (.str [126]) (.str [94])))) (.tup (.b (.eC "SORTS" .v2) (.ai 0 "Reader" "atom" "Reader.atom" (.a (.call "one_deeper" (.a .v1))))))) (.cons (.iff (.cmp .eq .v2 (.str [40])) (.cons (.ae 3 (.ai 0 "Reader" "expression" "Reader.expression" (.a (.call "one_deeper" (.a .v1))))) (.cons (.ex (.ai 0 "Reader" "take_just" "Reader.take_just" (.a (.str [41])))) (.a (.ret .v3)))) .nil) (.cons (.r (.cmp .mem .v2 (.tup (.c (.str fH) (.str g7) (.str fP)))) (.tup (.a .v2))) (.cons (.r (.cmp .mem .v2 (.fld 0 "Reader" "names")) (.tup (.b (.str kF) .v2))) (.a (.bF "NoText" "row" .aj))))))⟩
def xh:Fn:=⟨2,5,.cons (.iff (.not (.dj .v1 .str)) (.a (.bF "NoText" "row" .aj)) .nil) (.cons (.ae 2 (.call "signs_of" (.a .v1))) (.cons (.ae 3 (.make "Reader" "Reader.__init__" (.b .v0 .v2))) (.cons (.ae 4 (.ai 3 "Reader" "saying" "Reader.saying" (.a .i0))) (.cons (.iff (.cmp .lt (.fld 3 "Reader" "place") (.bi .len (.a .v2))) (.a (.bF "NoText" "row" .aj)) .nil) (.a (.ret .v4))))))⟩
def XG:Fn:=⟨2,2,.cons (.ret (.bi .sum (.a (.sl .v0 .v1 (.bin .add .v1 .i1))))) .nil⟩
def Wr:Fn:=⟨2,3,.cons (.ae 2 (.call "_law_cell" (.b .v0 .v1))) (.cons (.r (.cmp .eq (.bin .mod (.call "_law_cell" (.b .v0 .i0)) .i2) .i1) (.lst (.c (.bin .fdiv .v2 (.ix (.lst (.b .i1 .i2)) (.bi .int (.a (.cmp .eq .v1 .i0))))) .i1 (.int 60)))) (.a (.ret (.lst (.c (.bin .add (.bin .mod .v2 (.int 1000000093)) (.int 5)) .i0 (.int 900))))))⟩
noncomputable def Qu:Fn:=⟨2,4,.cons (.bB .v0 .i2 (.bin .sub (.ix .v0 .i2) .i1)) (.cons (.r (.cmp .lt (.ix .v0 .i2) .i0) .i0) (.cons (.iff (.cmp .eq (.ix .v0 .i1) .i1) (.cons (.ae 2 (.bin .mod (.ix .v0 .i0) .v1)) (.cons (.bB .v0 .i0 (.bin .fdiv (.ix .v0 .i0) .v1)) (.a (.ret .v2)))) .nil) (.cons (.bB .v0 .i0 (.bin .mod (.bin .add (.bin .add (.bin .mul (.ix .v0 .i0) (.int 48817)) (.bin .mul (.int 65029) (.ix .v0 .i2))) (.int 501)) (.int 1000000093))) (.cons (.ae 3 (.bin .mod (.bin .mul (.ix .v0 .i0) (.bin .add (.bin .fdiv (.ix .v0 .i0) (.int 2053)) (.int 613))) (.int 998244353))) (.a (.ret (.bin .mod (.bin .mod (.bin .add (.bin .mul .v3 .v3) (.ix .v0 .i0)) (.int 1000000087)) .v1)))))))⟩
noncomputable def xm:E:= .comp [0] k9 1 [5,6,2,3] (.aJ .v1) y9 (.bl k9) (.bin .add (.bin .add (.eW .v1 .v2) (.ix .v3 (.bin .mod (.bin .add (.bin .add .v4 .i1) (.bin .mul .i3 .v0)) (.int 26)))) (.fG .v1 .v2))
noncomputable def jm:E:= .comp [0] k9 1 [4,3] (.aJ .v1) y9 (.bl k9) (.ix .v1 (.bin .mod (.bin .add .v2 (.bin .mul .i3 .v0)) (.int 16)))
noncomputable def zm:E:= .comp [0] k9 1 [2,3] (.aJ .v1) y9 (.bl k9) (.eW (.bin .add (.str [113]) (.bin .mul (.ix .v1 .v2) (.int 7))) (.bin .add .v0 .i1))
noncomputable def qm:E:= .comp [0] k9 1 [2,3,0] (.aJ .v1) y9 (.bl k9) (.ix .v1 (.bin .mod (.bin .add .v2 (.bin .mul (.bin .add .i1 (.bin .mul .i2 (.bin .mod (.bin .fdiv .v3 (.int 104)) (.int 6)))) .v0)) (.int 26)))
def jx:Fn:=⟨2,7,.cons (.ae 2 (.str ki)) (.cons (.ae 3 (.bin .mod (.bin .fdiv .v0 .i4) (.int 26))) (.cons (.r (.cmp .eq (.bin .mod .v0 .i4) .i0) qm) (.cons (.r (.cmp .eq (.bin .mod .v0 .i4) .i1) zm) (.cons (.iff (.cmp .eq (.bin .mod .v0 .i4) .i2) (.cons (.ae 4 (.lst (.cons (.str [110,111,116,97]) (.cons (.str [111,114,98]) (.cons (.str [97,110,100,121]) (.cons (.str [105,110,110]) (.cons (.str [97,108,108,115]) (.cons (.str [115,97,109,101,121]) (.g (.str [110,111,110,101,97]) (.str [101,97,99,104,115]) (.str [108,101,97,115,116,115]) (.str [109,111,115,116,121]) (.str [115,111,109,101,115]) (.str [110,111,97])))))))))) (.cons (.ae 4 (.bin .add .v4 (.lst (.d (.str [107,105,110,100,97]) (.str [116,105,101,115]) (.str [115,97,121,115]) (.str [105]))))) (.a (.ret jm)))) .nil) (.cons (.ae 5 (.eW (.bin .add (.str [113]) (.bin .mul (.ix .v2 .v3) (.int 6))) (.bin .add .i1 (.bin .mod (.bin .fdiv .v0 (.int 104)) (.int 7))))) (.cons (.ae 6 (.bin .mod (.bin .fdiv .v0 (.int 728)) (.bin .add (.bi .len (.a .v5)) .i1))) (.a (.ret xm))))))))⟩
def Xe:E:= .comp [0] k9 1 [4,5] (.seq .v9) k9 (.cmp .bz .v0 (.bin .add .v1 .v2)) .v0
def zi:E:= .comp [0] k9 1 [8] (.seq .v3) y9 (.bl k9) (.bin .add (.eW .v1 (.int 7)) .v0)
def Qf:E:= .comp [0] k9 1 [3,6] (.aJ .v7) y9 (.bl k9) (.ix .v1 (.call "_law_next" (.b .v2 (.int 26))))
def Wc:Ss:= .cons (.ae 7 (.bin .add .i1 (.call "_law_next" (.b .v6 (.int 8))))) (.cons (.ae 8 (.dz .join (.str []) (.a Qf))) (.cons (.iff (.cmp .mem .v8 (.bin .add .v4 .v5)) (.cons (.ae 9 zi) (.a (.ae 8 (.ix Xe .i0)))) .nil) (.a (.app 5 .v8))))
def qk:Fn:=⟨3,10,.cons (.ae 3 (.str ki)) (.cons (.ae 4 (.lst (.cons (.str gi) (.cons (.str fW) (.cons (.str d3) (.cons (.str dY) (.cons (.str fA) (.cons (.str c8) (.cons (.str eT) (.cons (.str eI) (.g (.str eg) (.str fH) (.str g7) (.str fP) (.str lB) (.str [116,105,101])))))))))))) (.cons (.set 5 (.lst (.a (.str [115,97,121])))) (.cons (.for [6] k9 (.seq (.bin .add (.bin .mul (.lst (.cons (.share (.call "_law_purse" (.b .v0 .i1))) .nil)) .v1) (.bin .mul (.lst (.cons (.share (.call "_law_purse" (.b .v0 .i2))) .nil)) .v2))) Wc) (.a (.ret (.fG .v5 .i1))))))⟩
def Jr:Fn:=⟨1,6,.cons (.set 1 (.share (.call "_law_purse" (.b .v0 .i0)))) (.cons (.ae 2 (.call "_law_next" (.b .v1 (.int 5)))) (.cons (.ae 3 (.call "_law_next" (.b .v1 (.int 5)))) (.cons (.ae 4 (.call "_law_next" (.b .v1 (.bin .pow (.int 10) (.int 8))))) (.cons (.ae 5 (.call "_law_family" (.b (.bin .fdiv .v4 .i2) (.bin .add .v2 .v3)))) (.cons (.iff (.cmp .eq (.bin .mod .v4 .i2) .i1) (.a (.ae 5 (.rev .v5))) .nil) (.cons (.iff (.cmp .eq (.bin .mod (.call "_law_cell" (.b .v0 .i0)) .i2) .i1) (.a (.ae 5 (.call "_law_any_names" (.c .v0 .v2 .v3)))) .nil) (.a (.ret (.tup (.b (.bi .tuple (.a (.bi .sorted (.a (.eW .v5 .v2))))) (.bi .tuple (.a (.bi .sorted (.a (.fG .v5 .v2)))))))))))))))⟩
def Qp:E:= .comp [0] k9 1 [] (.seq .v1) y9 (.bl k9) (.tup (.b (.str kF) .v0))
def xH:Fn:=⟨2,3,.cons (.ae 2 (.bin .add Qp (.lst (.c (.tup (.a (.str fH))) (.tup (.a (.str g7))) (.tup (.a (.str fP))))))) (.a (.ret (.ix .v2 (.call "_law_next" (.b .v0 (.bi .len (.a .v2)))))))⟩
def Wd:Fn:=⟨3,6,.cons (.ae 3 .i0) (.cons (.iff (.cmp .gt .v1 .i0) (.a (.ae 3 (.call "_law_next" (.b .v0 (.int 9))))) .nil) (.cons (.r (.cmp .eq .v3 .i0) (.call "_law_leaf" (.b .v0 .v2))) (.cons (.ae 4 (.call "_law_expression" (.c .v0 (.bin .sub .v1 .i1) .v2))) (.cons (.r (.cmp .lt .v3 .i3) (.tup (.b (.ix (.lst (.b (.str kY) (.str gv))) (.bin .sub .v3 .i1)) .v4))) (.cons (.ae 5 (.call "_law_expression" (.c .v0 (.bin .sub .v1 .i1) .v2))) (.a (.ret (.tup (.c (.ix (.lst (.g (.str gU) (.str fY) (.str gD) (.str fj) (.str fY) (.str fj))) (.bin .sub .v3 .i3)) .v4 .v5)))))))))⟩
def zw:Fn:=⟨2,5,.cons (.ae 2 (.call "_law_next" (.b .v0 (.int 8)))) (.cons (.ae 3 (.call "_law_expression" (.c .v0 (.call "_law_next" (.b .v0 .i4)) .v1))) (.cons (.r (.cmp .lt .v2 .i2) (.tup (.c (.ix (.lst (.b (.str c8) (.str iK))) .v2) .v3 (.call "_law_expression" (.c .v0 (.call "_law_next" (.b .v0 .i3)) .v1))))) (.cons (.r (.cmp .lt .v2 .i4) (.tup (.b (.ix (.lst (.b (.str gi) (.str fW))) (.bin .sub .v2 .i2)) .v3))) (.cons (.ae 4 (.call "_law_next" (.b .v0 (.ix (.lst (.c (.int 5) (.int 18) (.int 100))) (.call "_law_next" (.b .v0 .i3)))))) (.a (.ret (.tup (.c (.ix (.lst (.d (.str d3) (.str dY) (.str lN) (.str lO))) (.bin .sub .v2 .i4)) .v4 .v3))))))))⟩
def Ji:Fn:=⟨3,5,.cons (.ae 3 .i0) (.cons (.iff (.cmp .gt .v1 .i0) (.a (.ae 3 (.call "_law_next" (.b .v0 (.int 6))))) .nil) (.cons (.r (.cmp .lt .v3 .i3) (.call "_law_fact" (.b .v0 .v2))) (.cons (.ae 4 (.call "_law_saying" (.c .v0 (.bin .sub .v1 .i1) .v2))) (.cons (.r (.cmp .eq .v3 .i3) (.tup (.b (.str eg) .v4))) (.a (.ret (.tup (.c (.ix (.lst (.b (.str eT) (.str eI))) (.bin .sub .v3 .i4)) .v4 (.call "_law_saying" (.c .v0 (.bin .sub .v1 .i1) .v2))))))))))⟩
noncomputable def XS:Fn:=⟨1,1,.cons (.r (.cmp .mem (.ix .v0 .i0) (.tup (.b (.str gU) (.str fY)))) .i0) (.cons (.r (.cmp .mem (.ix .v0 .i0) (.tup (.b (.str gD) (.str fj)))) (.bin .add .i1 (.bi .int (.a (.cmp .eq (.ix .v0 .i0) (.str fj)))))) (.a (.ret .i3)))⟩
def az:Fn:=⟨2,6,.cons (.ae 2 (.ix .v0 .i0)) (.cons (.ae 3 .v2) (.cons (.iff (.cmp .eq .v2 (.str kF)) (.a (.ae 3 (.ix .v0 .i1))) .nil) (.cons (.iff (.cmp .mem .v2 (.tup (.b (.str kY) (.str gv)))) (.a (.ae 3 (.bin .add (.ix (.str fm) (.bi .int (.a (.cmp .eq .v2 (.str gv))))) (.call "_law_text" (.b (.ix .v0 .i1) .i3))))) .nil) (.cons (.iff (.cmp .lt (.call "_law_level" (.a .v0)) .i3) (.cons (.ae 4 (.dg [(gU,[32,43,32]),(fY,[32,45,32]),(gD,[32,38,32]),(fj,[32,46,32])] 2)) (.cons (.ae 5 (.call "_law_level" (.a .v0))) (.a (.ae 3 (.bin .add (.bin .add (.call "_law_text" (.b (.ix .v0 .i1) .v5)) .v4) (.call "_law_text" (.b (.ix .v0 .i2) (.bin .add .v5 .i1)))))))) .nil) (.cons (.r (.cmp .lt (.call "_law_level" (.a .v0)) .v1) (.bin .add (.bin .add (.str [40]) .v3) (.str [41]))) (.a (.ret .v3)))))))⟩
noncomputable def ql:Fn:=⟨1,1,.cons (.ret (.bin .sub (.bin .sub .i2 (.bi .int (.a (.cmp .eq (.ix .v0 .i0) (.str eT))))) (.bin .mul .i2 (.bi .int (.a (.cmp .eq (.ix .v0 .i0) (.str eI))))))) .nil⟩
def bI:Fn:=⟨2,6,.cons (.ae 2 (.ix .v0 .i0)) (.cons (.iff (.cmp .mem .v2 (.tup (.b (.str eT) (.str eI)))) (.cons (.ae 3 (.call "_law_saying_level" (.a .v0))) (.a (.ae 4 (.bin .add (.bin .add (.bin .add (.bin .add (.call "_law_saying_text" (.b (.ix .v0 .i1) .v3)) (.str [32])) .v2) (.str [32])) (.call "_law_saying_text" (.b (.ix .v0 .i2) (.bin .add .v3 .i1))))))) (.a (.iff (.cmp .eq .v2 (.str eg)) (.a (.ae 4 (.bin .add (.str e7) (.call "_law_saying_text" (.b (.ix .v0 .i1) .i2))))) (.a (.iff (.cmp .mem .v2 (.tup (.b (.str c8) (.str iK)))) (.cons (.ae 5 (.ix (.lst (.b (.str [32,61,32]) (.str ip))) (.bi .int (.a (.cmp .eq .v2 (.str c8)))))) (.a (.ae 4 (.bin .add (.bin .add (.call "_law_text" (.b (.ix .v0 .i1) .i0)) .v5) (.call "_law_text" (.b (.ix .v0 .i2) .i0)))))) (.a (.iff (.cmp .mem .v2 (.tup (.b (.str gi) (.str fW)))) (.a (.ae 4 (.bin .add (.bin .add .v2 (.str [32])) (.call "_law_text" (.b (.ix .v0 .i1) .i0))))) (.cons (.ae 2 (.dg [(d3,mL),(dY,nh),(lN,nX),(lO,lT)] 2)) (.a (.ae 4 (.bin .add (.bin .add (.bin .add .v2 (.dO (.ix .v0 .i1))) (.str [32])) (.call "_law_text" (.b (.ix .v0 .i2) .i0))))))))))))) (.cons (.r (.cmp .lt (.call "_law_saying_level" (.a .v0)) .v1) (.bin .add (.bin .add (.str [91]) .v4) (.str [93]))) (.a (.ret .v4))))⟩
def jl:E:= .comp [0] k9 1 [0,1] (.aJ (.bi .len (.a .v1))) y9 (.bl k9) (.call "_law_same" (.b (.ix .v1 .v0) (.ix .v2 .v0)))
def xq:Fn:=⟨2,2,.cons (.iff (.dj .v1 .tuple) (.cons (.r (.or (.not (.dj .v0 .tuple)) (.cmp .ne (.bi .len (.a .v0)) (.bi .len (.a .v1)))) (.bl y9)) (.a (.ret (.bi .all (.a jl))))) .nil) (.cons (.r (.dj .v1 .str) (.and (.dj .v0 .str) (.cmp .eq .v0 .v1))) (.a (.ret (.and (.dj .v0 .int) (.and (.not (.dj .v0 .bool)) (.cmp .eq .v0 .v1))))))⟩
noncomputable def QG:Fn:=⟨1,2,.cons (.ae 1 (.str ki)) (.a (.ret (.bin .add (.bi .int (.a (.cmp .mem .v0 .v1))) (.bin .mul .i2 (.bi .int (.a (.cmp .mem .v0 (.str lH))))))))⟩
def wc:E:= .cmp .lt .v2 (.bi .len (.a .v0))
def Zf:E:= .and (.cmp .lt .v3 (.bi .len (.a .v0))) (.cmp .eq (.call "_law_sort" (.a (.ix .v0 .v3))) (.call "_law_sort" (.a (.ix .v0 .v2))))
def wj:Ss:= .cons (.ae 3 (.bin .add .v3 .i1)) .nil
def Qb:Ss:= .cons (.ae 3 (.bin .add .v2 .i1)) (.cons (.iff (.cmp .gt (.call "_law_sort" (.a (.ix .v0 .v2))) .i0) (.a (.dX 100000 Zf wj)) (.a (.r (.cmp .bz (.ix .v0 .v2) (.str o4)) .aj))) (.cons (.iff (.cmp .ne (.ix .v0 .v2) (.str [32])) (.a (.app 1 (.sl .v0 .v2 .v3))) .nil) (.a (.ae 2 .v3))))
def bp:Fn:=⟨1,4,.cons (.set 1 (.lst .nil)) (.cons (.ae 2 .i0) (.cons (.dX 100000 wc Qb) (.a (.ret (.bin .add .v1 (.lst (.a (.str []))))))))⟩
def bh:Fn:=⟨4,6,.cons (.ae 4 (.ix .v0 .v1)) (.cons (.r (.cmp .mem .v4 (.tup (.c (.str fH) (.str g7) (.str fP)))) (.tup (.b (.tup (.a .v4)) (.bin .add .v1 .i1)))) (.cons (.r (.cmp .mem .v4 .v3) (.tup (.b (.tup (.b (.str kF) .v4)) (.bin .add .v1 .i1)))) (.cons (.r (.or (.cmp .eq .v2 (.int 20)) (.cmp .bz .v4 (.tup (.c (.str [126]) (.str [94]) (.str [40]))))) .aj) (.cons (.iff (.cmp .eq .v4 (.str [40])) (.cons (.ae 5 (.call "_law_chain_of" (.f .v0 (.bin .add .v1 .i1) (.bin .add .v2 .i1) .i0 .v3))) (.cons (.r (.or (.b9 false .v5) (.cmp .ne (.ix .v0 (.ix .v5 .i1)) (.str [41]))) .aj) (.a (.ret (.tup (.b (.ix .v5 .i0) (.bin .add (.ix .v5 .i1) .i1))))))) .nil) (.cons (.ae 5 (.call "_law_atom_of" (.d .v0 (.bin .add .v1 .i1) (.bin .add .v2 .i1) .v3))) (.cons (.r (.b9 false .v5) .aj) (.a (.ret (.tup (.b (.tup (.b (.ix (.lst (.b (.str kY) (.str gv))) (.bi .int (.a (.cmp .eq .v4 (.str [94]))))) (.ix .v5 .i0))) (.ix .v5 .i1)))))))))))⟩
def zc:E:= .and (.b9 k9 .v5) (.cmp .mem (.ix .v0 (.ix .v5 .i1)) .v6)
def wg:Ss:= .cons (.ae 7 (.iF [([43],gU),([45],fY),([38],gD),([46],fj)] (.ix .v0 (.ix .v5 .i1)))) (.cons (.ae 8 (.call "_law_chain_of" (.f .v0 (.bin .add (.ix .v5 .i1) .i1) .v2 (.bin .add .v3 .i1) .v4))) (.cons (.r (.b9 false .v8) .aj) (.a (.ae 5 (.tup (.b (.tup (.c .v7 (.ix .v5 .i0) (.ix .v8 .i0))) (.ix .v8 .i1)))))))
def aS:Fn:=⟨5,9,.cons (.r (.cmp .eq .v3 .i3) (.call "_law_atom_of" (.d .v0 .v1 .v2 .v4))) (.cons (.ae 5 (.call "_law_chain_of" (.f .v0 .v1 .v2 (.bin .add .v3 .i1) .v4))) (.cons (.ae 6 (.ix (.lst (.c (.lst (.b (.str [43]) (.str [45]))) (.lst (.a (.str [38]))) (.lst (.a (.str [46]))))) .v3)) (.cons (.dX 100000 zc wg) (.a (.ret .v5)))))⟩
def aB:Fn:=⟨4,7,.cons (.ae 4 (.str [])) (.cons (.iff (.cmp .eq (.ix .v0 .v1) (.str fA)) (.cons (.ae 4 (.str fA)) (.a (.ae 1 (.bin .add .v1 .i1)))) .nil) (.cons (.ae 5 (.ix (.sl .v0 .v1 (.bin .add .v1 .i2)) (.neg .i1))) (.cons (.r (.or (.cmp .bz (.ix .v0 .v1) (.tup (.b (.str d3) (.str dY)))) (.or (.cmp .eq .v5 (.str [])) (.cmp .ne (.call "_law_sort" (.a (.ix .v5 .i0))) .i2))) .aj) (.cons (.r (.or (.cmp .gt (.bi .len (.a .v5)) .i2) (.and (.cmp .eq (.bi .len (.a .v5)) .i2) (.cmp .eq (.ix .v5 .i0) (.str [48])))) .aj) (.cons (.ae 6 (.call "_law_chain_of" (.f .v0 (.bin .add .v1 .i2) .v2 .i0 .v3))) (.cons (.r (.b9 false .v6) .aj) (.a (.ret (.tup (.b (.tup (.c (.bin .add .v4 (.ix .v0 .v1)) (.bg .v5) (.ix .v6 .i0))) (.ix .v6 .i1)))))))))))⟩
def bj:Fn:=⟨4,7,.cons (.r (.cmp .mem (.ix .v0 .v1) (.tup (.c (.str fA) (.str d3) (.str dY)))) (.call "_law_counted_of" (.d .v0 .v1 .v2 .v3))) (.cons (.iff (.cmp .mem (.ix .v0 .v1) (.tup (.b (.str gi) (.str fW)))) (.cons (.ae 4 (.call "_law_chain_of" (.f .v0 (.bin .add .v1 .i1) .v2 .i0 .v3))) (.cons (.r (.b9 false .v4) .aj) (.a (.ret (.tup (.b (.tup (.b (.ix .v0 .v1) (.ix .v4 .i0))) (.ix .v4 .i1))))))) .nil) (.cons (.ae 5 (.call "_law_chain_of" (.f .v0 .v1 .v2 .i0 .v3))) (.cons (.r (.or (.b9 false .v5) (.cmp .bz (.ix .v0 (.ix .v5 .i1)) (.tup (.b (.str c8) (.str [61]))))) .aj) (.cons (.ae 6 (.call "_law_chain_of" (.f .v0 (.bin .add (.ix .v5 .i1) .i1) .v2 .i0 .v3))) (.cons (.r (.b9 false .v6) .aj) (.a (.ret (.tup (.b (.tup (.c (.ix (.lst (.b (.str c8) (.str iK))) (.bi .int (.a (.cmp .eq (.ix .v0 (.ix .v5 .i1)) (.str [61]))))) (.ix .v5 .i0) (.ix .v6 .i0))) (.ix .v6 .i1))))))))))⟩
def bJ:Fn:=⟨4,5,.cons (.r (.cmp .bz (.ix .v0 .v1) (.tup (.b (.str eg) (.str [91])))) (.call "_law_fact_of" (.d .v0 .v1 .v2 .v3))) (.cons (.r (.cmp .eq .v2 (.int 20)) .aj) (.cons (.iff (.cmp .eq (.ix .v0 .v1) (.str eg)) (.cons (.ae 4 (.call "_law_unit_of" (.d .v0 (.bin .add .v1 .i1) (.bin .add .v2 .i1) .v3))) (.cons (.r (.b9 false .v4) .aj) (.a (.ret (.tup (.b (.tup (.b (.str eg) (.ix .v4 .i0))) (.ix .v4 .i1))))))) .nil) (.cons (.ae 4 (.call "_law_row_of" (.f .v0 (.bin .add .v1 .i1) (.bin .add .v2 .i1) .i0 .v3))) (.cons (.r (.or (.b9 false .v4) (.cmp .ne (.ix .v0 (.ix .v4 .i1)) (.str [93]))) .aj) (.a (.ret (.tup (.b (.ix .v4 .i0) (.bin .add (.ix .v4 .i1) .i1)))))))))⟩
def ze:E:= .and (.b9 k9 .v5) (.cmp .eq (.ix .v0 (.ix .v5 .i1)) .v6)
def Zi:Ss:= .cons (.ae 7 (.call "_law_row_of" (.f .v0 (.bin .add (.ix .v5 .i1) .i1) .v2 (.bin .add .v3 .i1) .v4))) (.cons (.r (.b9 false .v7) .aj) (.a (.ae 5 (.tup (.b (.tup (.c .v6 (.ix .v5 .i0) (.ix .v7 .i0))) (.ix .v7 .i1))))))
def bb:Fn:=⟨5,8,.cons (.r (.cmp .eq .v3 .i2) (.call "_law_unit_of" (.d .v0 .v1 .v2 .v4))) (.cons (.ae 5 (.call "_law_row_of" (.f .v0 .v1 .v2 (.bin .add .v3 .i1) .v4))) (.cons (.ae 6 (.ix (.lst (.b (.str eI) (.str eT))) .v3)) (.cons (.dX 100000 ze Zi) (.a (.ret .v5)))))⟩
def Qm:Fn:=⟨2,4,.cons (.ae 2 (.call "_law_signs" (.a .v1))) (.cons (.r (.b9 false .v2) .aj) (.cons (.ae 3 (.call "_law_row_of" (.f .v2 .i0 .i0 .i0 (.bin .add (.ix .v0 .i0) (.ix .v0 .i1))))) (.cons (.r (.or (.b9 false .v3) (.cmp .lt (.ix .v3 .i1) (.bin .sub (.bi .len (.a .v2)) .i1))) .aj) (.a (.ret (.ix .v3 .i0))))))⟩
def jq:E:= .comp [0] k9 1 [1] (.aJ (.int 15)) y9 (.bl k9) (.cmp .eq .v0 .v1)
def jH:Fn:=⟨2,3,.cons (.ae 2 (.lst (.c (.cc .v0 true ["NoText"]) (.cc .v0 true ["NoName"]) (.cc .v0 true ["NoSize"])))) (.cons (.ae 2 (.bin .add .v2 (.lst (.c (.cc .v0 true ["NoPair"]) (.cc .v0 true ["NoCode"]) (.cc .v0 true ["Crowded"]))))) (.cons (.ae 2 (.bin .add .v2 (.lst (.c (.cc .v0 true ["TooBig"]) (.cc .v0 true ["NoWorld"]) (.cc .v0 true ["NoRenaming"]))))) (.cons (.ae 2 (.bin .add .v2 (.lst (.c (.cc .v0 true ["NoNumber"]) (.cc .v0 true ["Broken"]) (.cc .v0 true ["Kept"]))))) (.cons (.ae 2 (.bin .add .v2 (.lst (.c (.cc .v0 true ["Unlike"]) (.cc .v0 true ["NoRow"]) (.cc .v0 true ["NoStand"]))))) (.cons (.r (.or (.not (.cc .v0 true ["WorldError"])) (.not (.cc .v0 true ["ValueError"]))) (.bl false)) (.a (.ret (.cmp .eq .v2 jq))))))))⟩
def jo:Fn:=⟨2,6,.cons (.ae 2 (.lst (.cons (.str [40]) (.cons (.str [41]) (.cons (.str [91]) (.cons (.str [93]) (.cons (.str [126]) (.cons (.str [94]) (.cons (.str [46]) (.cons (.str [38]) (.cons (.str [43]) (.cons (.str [45]) (.cons (.str [61]) (.cons (.str [32]) (.g (.str e7) (.str [32,97,110,100,32]) (.str [32,111,114,32]) (.str [101,97,99,104,32]) (.str gq) (.str [48])))))))))))))))) (.cons (.ae 2 (.bin .add .v2 (.lst (.cons (.str [49,50]) (.cons (.str [48,48,55]) (.cons (.str [97]) (.cons (.str [113]) (.cons (.str fH) (.cons (.str ip) (.cons (.str fP) (.cons (.str lB) (.g (.str [65]) (.str [95]) (.str [10]) (.str [9]) (.str [48,48]) (.str [108,101,97,115,116,32,50,32]))))))))))))) (.cons (.ae 3 (.call "_law_next" (.b .v1 .i3))) (.cons (.ae 4 (.call "_law_next" (.b .v1 (.bin .add (.bi .len (.a .v0)) .i1)))) (.cons (.ae 5 (.ix .v2 (.call "_law_next" (.b .v1 (.int 32))))) (.a (.ret (.bin .add (.bin .add (.eW .v0 .v4) (.ix (.lst (.c .v5 .v5 (.str []))) .v3)) (.fG .v0 (.bin .add .v4 (.ix (.lst (.c .i0 .i1 .i1)) .v3))))))))))⟩
def xi:Ss:= .cons (.ae 5 (.call "_law_next" (.b .v1 .i2))) (.a (.iff (.cmp .eq .v2 .i0) (.a (.ae 0 (.bin .add (.bin .add (.ix (.lst (.b (.str e7) (.str [91]))) .v5) .v0) (.ix (.lst (.b (.str []) (.str [93]))) .v5)))) (.a (.iff (.cmp .eq .v2 .i1) (.a (.ae 0 (.bin .add (.ix (.str fm) .v5) .v0))) (.a (.ae 0 (.bin .add (.bin .add (.ix (.lst (.b (.str [126,40]) (.str [40]))) .v5) .v0) (.str [41]))))))))
def Zp:Fn:=⟨3,6,.cons (.ae 3 (.bin .add (.int 15) (.call "_law_next" (.b .v1 (.int 8))))) (.cons (.for [4] true (.aJ .v3) xi) (.cons (.r (.cmp .eq .v2 .i0) .v0) (.a (.ret (.bin .add (.str gq) .v0)))))⟩
def Xg:Ss:= .cons (.ae 4 (.call "_law_changed" (.b .v4 .v2))) .nil
def Xi:Fn:=⟨3,7,.cons (.ae 3 (.bin .add (.ix .v0 .i0) (.ix .v0 .i1))) (.cons (.ae 4 (.call "_law_saying_text" (.b (.call "_law_saying" (.c .v1 (.call "_law_next" (.b .v1 .i3)) .v3)) .i0))) (.cons (.iff (.cmp .eq (.call "_law_next" (.b .v2 (.int 6))) .i3) (.cons (.ae 5 (.call "_law_next" (.b .v2 .i3))) (.cons (.iff (.cmp .gt .v5 .i0) (.a (.ae 4 (.ix (.call "_law_leaf" (.b .v2 .v3)) (.neg .i1)))) .nil) (.a (.ae 4 (.call "_law_nested" (.c .v4 .v2 .v5)))))) .nil) (.cons (.for [6] true (.aJ (.call "_law_next" (.b .v2 .i4))) Xg) (.a (.ret .v4)))))⟩
noncomputable def Xv:Fn:=⟨2,5,.cons (.ae 2 .aj) (.cons (.ae 3 .aj) (.cons (.eV 2 "read_saying" (.b .v0 .v1) "WorldError" 4 3) (.a (.ret (.tup (.b .v2 .v3))))))⟩
def wI:Ss:= .cons (.ae 3 (.call "_law_drawn_text" (.cons .v1 (.cons (.share (.call "_law_purse" (.b .v0 .v2))) (.cons (.share (.call "_law_purse" (.b .v0 (.bin .add .v2 .i1)))) .nil))))) (.cons (.ae 4 (.call "_law_read" (.b .v1 .v3))) (.cons (.iH [5,6] (.call "_law_told" (.b .v1 .v3))) (.cons (.r (.and (.b9 false .v4) (.or (.not (.call "_law_only" (.b .v6 .i0))) (.b9 true (.xf 6 "row")))) (.bl false)) (.a (.r (.and (.b9 true .v4) (.or (.b9 true .v6) (.not (.call "_law_same" (.b .v5 .v4))))) (.bl false))))))
def mm:Fn:=⟨1,8,.cons (.ae 1 (.call "_law_words" (.a .v0))) (.cons (.for [2] true (.bM .i3 (.bi .max (.b .i4 (.bi .min (.b (.int 27) (.bi .len (.a .v0))))))) wI) (.cons (.ae 7 (.ix (.lst (.f .aj (.int 5) (.lst (.a (.str gG))) (.tup (.a (.str gG))) (.bl true))) (.call "_law_next" (.cons (.share (.call "_law_purse" (.b .v0 .i3))) (.a (.int 5)))))) (.cons (.iH [5,6] (.call "_law_told" (.b .v1 .v7))) (.a (.ret (.and (.call "_law_only" (.b .v6 .i0)) (.b9 false (.xf 6 "row"))))))))⟩
def prog:Prog:=⟨[("is_written",zx),("sort_of_sign",Wl),("signs_of",Wv),("one_deeper",qx),("Reader.__init__",Xm),("Reader.here",Wt),("Reader.take",Xt),("Reader.take_just",jh),("Reader.saying",qA),("Reader.part",ZJ),("Reader.unit",bK),("Reader.fact",bL),("Reader.count_fact",aV),("Reader.limit",bE),("Reader.pair_fact",a9),("Reader.expression",aX),("Reader.term",xK),("Reader.factor",zE),("Reader.atom",bN),("read_saying",xh),("_law_cell",XG),("_law_purse",Wr),("_law_next",Qu),("_law_family",jx),("_law_any_names",qk),("_law_words",Jr),("_law_leaf",xH),("_law_expression",Wd),("_law_fact",zw),("_law_saying",Ji),("_law_level",XS),("_law_text",az),("_law_saying_level",ql),("_law_saying_text",bI),("_law_same",xq),("_law_sort",QG),("_law_signs",bp),("_law_atom_of",bh),("_law_chain_of",aS),("_law_counted_of",aB),("_law_fact_of",bj),("_law_unit_of",bJ),("_law_row_of",bb),("_law_read",Qm),("_law_only",jH),("_law_changed",jo),("_law_nested",Zp),("_law_drawn_text",Xi),("_law_told",Xv),("law",mm)],[("WorldError", "ValueError"),("NoSize", "WorldError"),("NoPair", "WorldError"),("NoName", "WorldError"),("NoCode", "WorldError"),("NoText", "WorldError"),("Crowded", "WorldError"),("TooBig", "WorldError"),("NoWorld", "WorldError"),("NoRenaming", "WorldError"),("NoNumber", "WorldError"),("Broken", "WorldError"),("Kept", "WorldError"),("Unlike", "WorldError"),("NoRow", "WorldError"),("NoStand", "WorldError")],[("FIGURES",.str lH),("LETTERS",.str ki),("SINGLE_SIGNS",.str pR),("MOST_WITHIN",.int 20),("MOST_FIGURES",.int 2),("SORTS",.exc "" [([43],.str gU),([45],.str fY),([126],.str kY),([94],.str gv),(c8,.str c8),([61],.str iK)])]⟩
abbrev k8 (m:Nat):Fx:=⟨call prog m,prog.cl,prog.con⟩
theorem xv (f): ∀ ds,(∀ d∈ds,step d h= .ok (f d) h)->Gx step ds h= .ok (ds.filterMap f) h
 | [],_=>rfl
 | d::ds,a=>by
  have c:=xv f ds λd b=>a d (Aa0 _ b)
  rw [Gx,a d Aa]
  simp only [c]
  cases q:f d<;>simp [q]
def De (f) (g:Gr F it Z h= .ok ds h) (o:ds.length<=bA)
 (e: ∀d∈ds,∃i b,Gz tg one d (Aa1 k u0++aE.map λj=>Gn Z j)=y0 i/\Gf F c i h= .ok b h/\(if b=k9 then ∃w y,eval F elt i h= .ok w h/\w.d=y0 y/\f d=y0 y else f d=u0)):
 eval F (.comp tg one k aE it k9 c elt) Z h= .ok (.own (ds.filterMap f)) h:=by
 rw [eval,g,R.aa,if_pos o,xv f]
 ·rfl
 intro d l
 obtain⟨i,b,r,p,a⟩:=e d l
 rw [r]
 show((Gf F c i h).bind _)=_
 rw [p]
 cases b with
 | true=>
  obtain⟨w,y,n,q,m⟩:=a
  simp [n,q,m]
 | false=>
  rw [if_neg (by simp)]at a
  simp [a]
def zo (f) (b:Gr F it Z h= .ok ds h) (l:ds.length<=bA)
 (a: ∀d∈ds,∃i,Gz tg one d (Aa1 k u0++aE.map λj=>Gn Z j)=y0 i/\ ∃w,eval F elt i h= .ok w h/\w.d=y0 (f d)):
 eval F (.comp tg one k aE it y9 c elt) Z h= .ok (.own (ds.map f)) h:=by
 rw [eval,b,R.aa,if_pos l,xv (λd=>y0 (f d))]
 ·simp [List.filterMap_eq_map']
 intro d e
 obtain⟨i,n,w,g,m⟩:=a d e
 rw [n]
 simp [g,m]
def ZG (bnd) (body) (d) (ds) (Z) (h):GB bnd body (d::ds) Z h=match bnd d Z with
 | none=> .fail
 | some c=>match body c h with
  | .next a b=>GB bnd body ds a b
  | .cont a b=>GB bnd body ds a b
  | .brk a b=> .next a b
  | o=>o:=rfl
def Jj (a:bnd d Z=y0 Z1) (b:body Z1 h= .next Z2 h2):GB bnd body (d::ds) Z h=GB bnd body ds Z2 h2:=by
 rw [ZG,a];simp [b]
def BX (a:bnd d Z=y0 Z1) (b:body Z1 h= .exc e h2):GB bnd body (d::ds) Z h= .exc e h2:=by
 rw [ZG,a];simp [b]
@[simp] theorem GW (i) (d) (Z):Gz [i] k9 d Z=y0 (GE Z i (.v d)):=rfl
@[simp] theorem GZ (tg) (ds) (Z):Gz tg y9 (.tup ds) Z=aR tg ds Z:=rfl
@[simp] theorem yf (i j):Gi .mod i j=if 0<j then y0 (i % j)else none:=rfl
@[simp] theorem uv (i j):Gi .fdiv i j=if 0<j/\j<eA then y0 (i / j)else none:=rfl
def JC (a b:Nat) (h:a<2 ^ 64):Gi .mul (a:Int) (b:Int)=y0 ((a*b:Nat):Int):=by
 have c:(-dN< a/\ a<dN)\/(-dN< b/\ b<dN):=by rw [GR];omega
 show(if _ then _ else _)=_
 rw [if_pos c,Int.natCast_mul]
def gu (m)(a:d∈(Ab7 m).map λ(i:Nat)=>D.int (i:Int)): ∃i:Nat,i<m/\d= .int (i:Int):=by
 obtain⟨i,b,rfl⟩:=Ae.mp a
 exact⟨i,Ai1.mp b,rfl⟩
def qu {m:Nat}(e:eval F a Z h= .ok (.v (.int (m:Int))) h) (c:m<=1000000):Gr F (.aJ a) Z h= .ok ((Ab7 m).map λ(i:Nat)=> .int (i:Int)) h:=by
 have b: -fE<= m/\ m<fE:=by rw [GI];lia
 rw [Gr,e,R.aa,int?_int,R.ag,R.aa,if_pos b,Ad7]
end M
local macro_rules | `(tactic| simp_all [$xs,*]) => `(tactic| simp only [M.exec, M.execs, M.Gf, M.eval, M.Gj, M.Gq, M.Gr, M.GD, M.GF, M.Gn, M.Gk, M.GE, M.aR, M.R.aa, M.R.aC, M.R.ag, M.O.cz, M.O.ec, M.O.gg, M.W.dQ, M.W.gZ, M.W.eN, M.W.fM, M.W.f6, Ac0, Ah4, Ai5, Ag4, Nat.reduceSub, Ad, Al0, M.Gp, Ai7, Aj5, M.Gw, Ac9, M.Kj, M.Kd, M.Ki, M.GX, M.Ke, M.Kf, M.int?_int, M.Ga, M.Gy, M.Kb, M.GH, M.GW, M.GZ, $xs,*])
namespace M
def za (e:exec F s Z h= .next Z1 h1):execs F (.cons s ss) Z h=execs F ss Z1 h1:=by rw [execs,e,O.cz]
def ja (e:exec F s Z h= .ret w h1):execs F (.cons s ss) Z h= .ret w h1:=by rw [execs,e,O.ec]
def zg (e:Gf F c Z h= .ok k9 h1):exec F (.iff c a b) Z h=execs F a Z h1:=by rw [exec,e,R.aC]
def Zm (e:Gf F c Z h= .ok y9 h1):exec F (.iff c a b) Z h=execs F b Z h1:=by rw [exec,e,R.aC]
def Xu (a:GF e=u0) (q:eval F e Z h= .ok (.own xs) h1):exec F (.ret e) Z h= .ret (.own xs) h1:=by
 rw [exec,a];simp [q,R.aC]
def jc (a:GF e=u0) (q:eval F e Z h= .ok (.v d) h1):exec F (.ret e) Z h= .ret (.v d) h1:=by
 rw [exec,a];simp [q,R.aC]
def PH (h:AH):Prop:= ∀r,r<h.length-> ∃a f m:Int,h[r]? =y0 (.lst [.int a,.int f,.int m])
def Wq (e:h[r]? =y0 (.lst xs)) (i):cR (.v (.ref r)) (.v (.int i)) h=aQ xs i:=by
 simp [cR,W.bq,W.seq?,e]
def kQ (x y z:D):aQ [x,y,z] 0=y0 x:=rfl
def sh (x y z:D):aQ [x,y,z] 1=y0 y:=rfl
def kb (x y z:D):aQ [x,y,z] 2=y0 z:=rfl
theorem PH.set (P:PH h) (r) (a f m):PH (h.set r (.lst [.int a,.int f,.int m])):=λq b=>by
 rw [Ac5]at b
 by_cases e:q=r
 ·subst e
  exact⟨a,f,m,by rw [Ac4 b]⟩
 ·obtain⟨d,c,g,i⟩:=P q b
  exact⟨d,c,g,by rw [Ac7 (λh=>e h.symm),i]⟩
def PH.nil:PH []:=λr a=>absurd a (Ai8 _)
def PH.app (P:PH h) (a f m):PH (h++ [.lst [.int a,.int f,.int m]]):=λq b=>by
 by_cases e:q<h.length
 ·rw [Ad2 e]
  exact P q e
 ·simp at b
  have:q=h.length:=by lia
  subst this
  exact⟨a,f,m,by simp⟩
theorem PH.take (P:PH h) (n):PH (h.take n):=λq a=>by
 rw [Ae9]at a
 rw [List.getElem?_take,if_pos (by lia)]
 exact P q (by lia)
def xC (c:eval F e Z h= .ok (.v d) h) (g:Gn Z i=y0 (.v (.ref r))) (a:h[r]? =y0 (.lst xs)) (k:dt xs.length j=y0 n) (f:flat d=k9) (b:h2=h.set r (.lst (xs.set n d))):
 exec F (.bB (.var i) (.int j) e) Z h= .next Z h2:=by
 subst b
 simp only [exec,c,R.aC,eval,g,Ks,a,k,f,if_true]
def uA (a b) (h: -(2:Int) ^ 64<b/\b<2 ^ 64):Gi .mul a b=y0 (a*b):=by
 have c:(-dN<a/\a<dN)\/(-dN<b/\b<dN):=by rw [GR];exact .inr h
 show(if _ then _ else _)=_
 rw [if_pos c]
def zz (a b) (h: -(2:Int) ^ 64<a/\a<2 ^ 64):Gi .mul a b=y0 (a*b):=by
 have c:(-dN<a/\a<dN)\/(-dN<b/\b<dN):=by rw [GR];exact .inl h
 show(if _ then _ else _)=_
 rw [if_pos c]
def xn (a b) (h:0<b):Gi .mod a b=y0 (a % b):=by
 rw [yf,if_pos h]
def Jy (a b) (h:0<b) (h2:b<1073741824):Gi .fdiv a b=y0 (a / b):=by
 rw [uv,if_pos ⟨h,by rw [GT];exact h2⟩]
def Jv (i j) (h):Gs .eq (.v (.int i)) (.v (.int j)) h=y0 (u9 (i=j)):=by
 rfl
def Ze (k)(P:PH h) (j:r<h.length) (H:0<m) (T:m<1073741824):
 ∃(v:Nat) (h':AH),v<m/\PH h'/\h'.length=h.length/\call prog (k+1) "_law_next" [.v (.ref r),.v (.int (m:Int))] h= .ok (.v (.int (v:Int))) h':=by
 obtain⟨a,f,g,x⟩:=P r j
 rw [Gb (d:=Qu) rfl _ _ _ rfl]
 have e:(h.set r (.lst [.int a,.int f,.int (g-1)]))[r]? =y0 _:=Ac4 j
 have K: ∀F Z,Gn Z 0=y0 _->exec F (.bB .v0 (.int 2) (.bin .sub (.ix .v0 (.int 2)) (.int 1))) Z h= .next Z (h.set r (.lst [.int a,.int f,.int (g-1)])):=λF Z q=>
  xC (d:= .int (g-1)) (n:=2) (by simp only [eval,q,Wq x,R.aa,kb,R.ag,Gw,jn]) q x rfl rfl rfl
 simp only [Qu]
 rw [za (K _ _ rfl)]
 have c:(0:Int)<(m:Int):=by omega
 by_cases q:g-1<0
 ·refine⟨0,_,H,P.set r a f (g-1),by rw [Ac5],?_⟩
  simp_all [Wq e,kb,Qo,q,decide_true]
  rw [Ga _ _ _ (by rw [Ac5])]
  rfl
 by_cases t:f=1
 ·subst t
  have s:((h.set r (.lst [.int a,.int 1,.int (g-1)])).set r (.lst [.int (a / m),.int 1,.int (g-1)]))[r]? =y0 _:=Ac4 (by rw [Ac5];exact j)
  have l: ∀F Z,Gn Z 0=y0 _->Gn Z 1=y0 (.v (.int (m:Int)))->exec F (.bB .v0 (.int 0) (.bin .fdiv (.ix .v0 (.int 0)) .v1)) Z _= .next Z ((h.set r (.lst [.int a,.int 1,.int (g-1)])).set r (.lst [.int (a / m),.int 1,.int (g-1)])):=λF Z i O=>
   xC (d:= .int (a / m)) (n:=0) (by simp only [eval,i,O,Wq e,R.aa,kQ,R.ag,Gw,Jy a m c (by omega)]) i e rfl rfl rfl
  refine⟨(a % m).toNat,_,?_,(P.set r a 1 (g-1)).set r (a / m) 1 (g-1),by rw [Ac5,Ac5],?_⟩
  ·have:=Aj4 a c
   have:=Ah6 a (Am c)
   omega
  ·have o:(((a % m).toNat:Nat):Int)=a % m:=Al3 (Ah6 a (Am c))
   show Gu _ (execs _ _ [y0 (.v (.ref r)),y0 (.v (.int (m:Int))),u0,u0] _)=_
   rw [za (Z1:= [y0 (.v (.ref r)),y0 (.v (.int (m:Int))),u0,u0]) (h1:=h.set r (.lst [.int a,.int 1,.int (g-1)])) (by simp_all [Wq e,kb,Qo,q,decide_false])]
   rw [ja (w:= .v (.int (a % m))) (h1:=(h.set r (.lst [.int a,.int 1,.int (g-1)])).set r (.lst [.int (a / m),.int 1,.int (g-1)]))]
   ·rw [Ga _ _ _ (by rw [Ac5,Ac5]),o]
   ·rw [zg (h1:=h.set r (.lst [.int a,.int 1,.int (g-1)])) (by simp_all [Wq e,sh,Jv,decide_true])]
    rw [za (Z1:= [y0 (.v (.ref r)),y0 (.v (.int (m:Int))),y0 (.v (.int (a % m))),u0]) (h1:=h.set r (.lst [.int a,.int 1,.int (g-1)])) (by simp_all [Wq e,kQ,xn a m c])]
    rw [za (l _ _ rfl rfl)]
    simp_all []
 ·generalize u:(a*48817+65029*(g-1)+501) % 1000000093=A
  have Q:0<=A/\A<1000000093:=by
   rw [← u]
   exact⟨Ah6 _ (by decide),Aj4 _ (by decide)⟩
  have s:((h.set r (.lst [.int a,.int f,.int (g-1)])).set r (.lst [.int A,.int f,.int (g-1)]))[r]? =y0 (.lst [.int A,.int f,.int (g-1)]):=Ac4 (by rw [Ac5];exact j)
  have S:Gi .mul a 48817=y0 (a*48817):=uA a 48817 (by decide)
  have G:Gi .mul 65029 (g-1)=y0 (65029*(g-1)):=zz _ _ (by decide)
  have L:Gi .mod (a*48817+65029*(g-1)+501) 1000000093=y0 A:=by rw [xn _ _ (by decide),u]
  have l: ∀F Z,Gn Z 0=y0 (.v (.ref r))->exec F (.bB .v0 (.int 0) (.bin .mod (.bin .add (.bin .add (.bin .mul (.ix .v0 (.int 0)) (.int 48817)) (.bin .mul (.int 65029) (.ix .v0 (.int 2)))) (.int 501)) (.int 1000000093))) Z (h.set r (.lst [.int a,.int f,.int (g-1)]))= .next Z ((h.set r (.lst [.int a,.int f,.int (g-1)])).set r (.lst [.int A,.int f,.int (g-1)])):=λF Z i=>
   xC (d:= .int A) (n:=0) (by simp only [eval,i,Wq e,R.aa,kQ,kb,R.ag,Gw,S,G,xb,L]) i e rfl rfl rfl
  generalize p:A*(A / 2053+613) % 998244353=B
  have N:0<=B/\B<998244353:=by
   rw [← p]
   exact⟨Ah6 _ (by decide),Aj4 _ (by decide)⟩
  have I:Gi .mul A (A / 2053+613)=y0 (A*(A / 2053+613)):=zz _ _ (by omega)
  have y:Gi .mul B B=y0 (B*B):=zz _ _ (by omega)
  have C:Gi .fdiv A 2053=y0 (A / 2053):=Jy _ _ (by decide) (by decide)
  have D:Gi .mod (A*(A / 2053+613)) 998244353=y0 B:=by rw [xn _ _ (by decide),p]
  have z:Gi .mod (B*B+A) 1000000087=y0 ((B*B+A) % 1000000087):=xn _ _ (by decide)
  have M:Gi .mod ((B*B+A) % 1000000087) m=y0 ((B*B+A) % 1000000087 % m):=xn _ _ c
  refine⟨((B*B+A) % 1000000087 % m).toNat,_,?_,(P.set r a f (g-1)).set r A f (g-1),by rw [Ac5,Ac5],?_⟩
  ·have:=Aj4 ((B*B+A) % 1000000087) c
   have:=Ah6 ((B*B+A) % 1000000087) (Am c)
   omega
  ·have o:((((B*B+A) % 1000000087 % m).toNat:Nat):Int)=(B*B+A) % 1000000087 % m:=Al3 (Ah6 _ (Am c))
   have J:exec (k8 k) (.r (.cmp .lt (.ix .v0 (.int 2)) (.int 0)) (.int 0)) [y0 (.v (.ref r)),y0 (.v (.int (m:Int))),u0,u0] (h.set r (.lst [.int a,.int f,.int (g-1)]))= .next [y0 (.v (.ref r)),y0 (.v (.int (m:Int))),u0,u0] (h.set r (.lst [.int a,.int f,.int (g-1)])):=by
    simp_all [Wq e,kb,Qo,q,decide_false]
   have E: ∀b,exec (k8 k) (.iff (.cmp .eq (.ix .v0 (.int 1)) (.int 1)) b .nil) [y0 (.v (.ref r)),y0 (.v (.int (m:Int))),u0,u0] (h.set r (.lst [.int a,.int f,.int (g-1)]))= .next [y0 (.v (.ref r)),y0 (.v (.int (m:Int))),u0,u0] (h.set r (.lst [.int a,.int f,.int (g-1)])):=by
    intro b
    simp_all [Wq e,sh,Jv,t,decide_false]
   show Gu _ (execs _ _ [y0 (.v (.ref r)),y0 (.v (.int (m:Int))),u0,u0] _)=_
   rw [za J,za (E _),za (l _ _ rfl)]
   simp_all [Wq s,kQ,C,xb,I,D,y,z,M]
   rw [Ga _ _ _ (by rw [Ac5,Ac5]),o]
abbrev bC (a:List Int):W:= .v (.lst (a.map .int))
theorem QO: ∀xs:List Int,Kk (xs.map .int)=y0 xs.sum
 | []=>rfl
 | x::xs=>by simp [Kk,QO xs]
def EX (f:α->β) (xs) (lo hi):cut (xs.map f) lo hi=(cut xs lo hi).map f:=by
 simp [cut,List.map_take]
def Dr (xs:List α) (lo hi):(cut xs lo hi).length<=xs.length:=by
 simp [cut,Ai4]
 lia
def m6 (k) (ns) (b:ns.length<=63) (j) (h): ∃c:Int,call prog (k+1) "_law_cell" [bC ns,.v (.int (j:Int))] h= .ok (.v (.int c)) h:=by
 rw [Gb rfl _ _ _ rfl]
 have a:(cut ns (y0 j) (y0 (j+1))).length<=bA:=by
  have:=Dr ns (y0 j) (y0 (j+1))
  rw [Gc];lia
 refine⟨(cut ns (y0 j) (y0 (j+1))).sum,?_⟩
 simp_all [XG,xb,pK,EX,EW,QO,Ac,a,if_true]
def jv (k) (ns) (i:ns.length<=63) (j) (h): ∃a f g:Int,call prog (k+2) "_law_purse" [bC ns,.v (.int (j:Int))] h= .ok (.own [.int a,.int f,.int g]) h:=by
 obtain⟨c,e⟩:=m6 k ns i j h
 obtain⟨l,s⟩:=m6 k ns i 0 h
 rw [Gb rfl _ _ _ rfl]
 have m:Gi .mod l 2=y0 _:=xn _ _ (by decide)
 have o:Gi .mod c 1000000093=y0 _:=xn _ _ (by decide)
 have n: ∀b:Bool,∃z,aQ [D.int 1,D.int 2] (b.toNat:Nat)=y0 (.int z)/\0<z/\z<1073741824:=λb=>by
  cases b
  ·exact⟨1,rfl,by decide,by decide⟩
  ·exact⟨2,rfl,by decide,by decide⟩
 obtain⟨z,r,t,p⟩:=n (u9 (j=0))
 have u:Gi .fdiv c z=y0 _:=Jy _ _ t p
 have d:=s
 by_cases q:l % 2=1
 ·refine⟨c / z,1,60,?_⟩
  simp_all [Wr,bC,e,d,m,Jv,q,decide_true,ZZ,Jh,r,u]
 ·refine⟨c % 1000000093+5,0,900,?_⟩
  simp_all [Wr,bC,e,d,m,Jv,q,decide_false,o,xb]
abbrev bP:Tx:= ki
def taken:List Tx:= [gi,fW,d3,dY,fA,c8,eT,eI,eg,fH,g7,fP,lB,[116,105,101],[115,97,121]]
structure qs (t:Tx):Prop where
 lo:1<=t.length
 hi:t.length<=8
 ib: ∀c∈t,97<=c/\c<=122
 free:t∉taken
def rm: ∀t∈taken,(113)∉t:=by decide
def EE: ∀t∈taken,2<=t.length:=by decide
def yQ (i:Nat) (h:i<26):aQ bP (i:Int)=y0 (97+i):=by
 have: ∀i:Nat,i<26->aQ bP i=y0 (97+i):=by decide
 exact this i h
def wG (xs:List α) (n:Nat):cut xs u0 (y0 (n:Int))=xs.take n:=by
 have a: ¬((n:Int)<0):=by lia
 simp only [cut,aK,a,if_false,Ad7,List.drop_zero,Nat.sub_zero]
 by_cases q:n<=xs.length
 ·rw [Ai9 q]
 ·rw [Nat.min_eq_right (by lia),Ak3 (Aa6 _),Ak3 (by lia)]
def X0 (xs:List α) (n:Nat):cut xs (y0 (n:Int)) u0=xs.drop n:=by
 have a: ¬((n:Int)<0):=by lia
 simp [cut,aK,a,Ad7]
 by_cases q:n<=xs.length
 ·rw [Ai9 q,Ak3 (by simp)]
 ·rw [Nat.min_eq_right (by lia),Ah8 (Aa6 _),Ah8 (by lia),List.take_nil]
def Qt (s) (lo hi) (h) (a:s.length<=bA):dW (.v (.str s)) lo hi h= .ok (.v (.str (cut s lo hi))) h:=by
 show(if s.length<=bA then _ else _)=_
 rw [if_pos a]
def mul_str (s) (n:Nat) (h) (a:n<=1000) (h2:s.length*n<=1000000):GC .mul (.v (.str s)) (.v (.int (n:Int))) h= .ok (.v (.str (Aa1 n s).flatten)) h:=by
 show(if 0<=(n:Int)/\(n:Int)<=1000/\s.length*(n:Int).toNat<=bA then _ else _)=_
 rw [if_pos ⟨by lia,by lia,by rw [Gc,Ad7];exact h2⟩,Ad7]
def add_str (s u) (h) (a:s.length+u.length<=1000000):GC .add (.v (.str s)) (.v (.str u)) h= .ok (.v (.str (s++u))) h:=by
 rw [Qd,if_pos (by rw [Gc];exact a)]
def Jm (i:Nat) (a:i<26) (h):cR (.v (.str bP)) (.v (.int (i:Int))) h=y0 (.str [97+i]):=by
 rw [Jx,if_pos (by rw [Gc];decide),yQ i a]
 rfl
def qy (f:Nat->α) (m) (h:m<=8) (d: ∀i,i<8-> ∀j,j<8->i≠j->f i≠f j):((Ab7 m).map f).Nodup:=by
 rw [List.Nodup,Al5]
 refine Ak0.imp_of_mem ?_ (List.nodup_range)
 intro a b g e c
 exact d a (by have:=Ai1.mp g;lia) b (by have:=Ai1.mp e;lia) c
def WL (a b:Nat) (c:0<b):Gi .mod (a:Int) (b:Int)=y0 ((a % b:Nat):Int):=by
 rw [xn _ _ (by lia)];rfl
def wR (a b:Nat) (c:0<b) (h2:b<1073741824):Gi .fdiv (a:Int) (b:Int)=y0 ((a / b:Nat):Int):=by
 rw [Jy _ _ (by lia) (by lia)];rfl
def QE (a b:Nat):Gi .add (a:Int) (b:Int)=y0 ((a+b:Nat):Int):=rfl
def eF (c k:Nat):Tx:= [97+(c / 4 % 26+(1+2*(c / 104 % 6))*k) % 26]
def j6 (c k:Nat):Tx:=(113::Aa1 7 (97+c / 4 % 26)).take (k+1)
noncomputable def bD:List Tx:= [[110,111,116,97],[111,114,98],[97,110,100,121],[105,110,110],[97,108,108,115],[115,97,109,101,121],[110,111,110,101,97],[101,97,99,104,115],[108,101,97,115,116,115],[109,111,115,116,121],[115,111,109,101,115],[110,111,97],[107,105,110,100,97],[116,105,101,115],[115,97,121,115],[105]]
def gO (c k:Nat):Tx:=bD.getD ((c / 4 % 26+3*k) % 16) []
def Xx (c:Nat):Tx:=(113::Aa1 6 (97+c / 4 % 26)).take (1+c / 104 % 7)
noncomputable def j5 (c k:Nat):Tx:=(Xx c).take (c / 728 % ((Xx c).length+1))++ [97+(c / 4 % 26+1+3*k) % 26]++(Xx c).drop (c / 728 % ((Xx c).length+1))
def vO (n x:Nat):(Aa1 n [x]).flatten=Aa1 n x:=by
 induction n with
 | zero=>rfl
 | succ n a=>rw [Ad,Aj8,a];rfl
def ZL (c):(Xx c).length<=7:=by simp [Xx];omega
def vX: ∀p,p<26*6-> ∀i,i<8-> ∀j,j<8->i≠j->(p / 6+(1+2*(p % 6))*i) % 26≠(p / 6+(1+2*(p % 6))*j) % 26:=by decide +kernel
def Dx (f) (e:f<26) (d) (c:d<6) (i) (a:i<8) (j) (b:j<8) (ne:i≠j):(f+(1+2*d)*i) % 26≠(f+(1+2*d)*j) % 26:=by
 have:=vX (f*6+d) (by lia) i a j b ne
 rwa [show _ / 6=f by lia,show(f*6+d) % 6=d by lia]at this
def DJ: ∀f,f<26-> ∀i,i<8-> ∀j,j<8->i≠j->bD.getD ((f+3*i) % 16) []≠bD.getD ((f+3*j) % 16) []:=by decide +kernel
def CP: ∀f,f<26-> ∀i,i<8-> ∀j,j<8->i≠j->(f+1+3*i) % 26≠(f+1+3*j) % 26:=by decide +kernel
def Fw: ∀i,i<16->1<=(bD.getD i []).length/\(bD.getD i []).length<=8/\(∀ c∈bD.getD i [],97<=c/\c<=122)/\bD.getD i []∉taken:=by decide +kernel
def hI (c):c / 4 % 26<26:=Ai0 _ (by decide)
def uV (c): ∀i,i<8-> ∀j,j<8->i≠j->eF c i≠eF c j:=λi a j b ne e=>by
 have:=Dx _ (hI c) (c / 104 % 6) (Ai0 _ (by decide)) i a j b ne
 simp only [eF,List.cons.injEq,and_true]at e
 lia
def Fi (c): ∀i,i<8-> ∀j,j<8->i≠j->j6 c i≠j6 c j:=λi a j b ne e=>by
 have:=congrArg List.length e
 simp [j6]at this
 lia
def Fy (c): ∀i,i<8-> ∀j,j<8->i≠j->gO c i≠gO c j:=λi a j b ne=>DJ _ (hI c) i a j b ne
def y4 (c): ∀i,i<8-> ∀j,j<8->i≠j->j5 c i≠j5 c j:=λi a j b ne e=>by
 have:=CP _ (hI c) i a j b ne
 simp [j5,and_true]at e
 lia
def CA (c k):qs (eF c k):=by
 have h:=Ai0 (c / 4 % 26+(1+2*(c / 104 % 6))*k) (show 0<26 by decide)
 refine⟨Aa6 _,by simp [eF],λx a=> ?_,λb=> ?_⟩
 ·simp only [eF,Ab6]at a
  omega
 ·have:=EE _ b
  simp [eF]at this
def BL (c k):qs (j6 c k):=by
 have h:=hI c
 have d:(j6 c k).length=min (k+1) 8:=by simp [j6];lia
 refine⟨by lia,by lia,λx a=> ?_,λb=> ?_⟩
 ·have a:=Ah0 a
  simp only [Aa5,Aj0]at a
  lia
 ·refine rm _ b ?_
  simp [j6]
def Cr (c k):qs (gO c k):=by
 have:=Fw _ (Ai0 (c / 4 % 26+3*k) (show 0<16 by decide))
 exact⟨this.1,this.2.1,this.2.2.1,this.2.2.2⟩
def BM (c k):qs (j5 c k):=by
 have h:=hI c
 have f:=Ai0 (c / 4 % 26+1+3*k) (show 0<26 by decide)
 have b: ∀x∈Xx c,97<=x/\x<=122:=λx a=>by
  have a:=Ah0 a
  simp only [Aa5,Aj0]at a
  lia
 have g:(j5 c k).length=(Xx c).length+1:=by
  have:=Ai0 (c / 728) (show 0<(Xx c).length+1 by lia)
  simp [j5,Ag0]
  lia
 refine⟨by lia,by have:=ZL c;lia,λx a=> ?_,λe=> ?_⟩
 ·simp only [j5,Ac8,Ab6]at a
  obtain(a | a) | a:=a
  ·exact b x (Ah0 a)
  ·lia
  ·exact b x (List.mem_of_mem_drop a)
 ·refine rm _ e ?_
  have d: 113∈Xx c:=by
   have:1+c / 104 % 7=(c / 104 % 7)+1:=by lia
   rw [Xx,this,List.take_succ_cons]
   exact Aa
  rw [← Ak6 _ (Xx c)]at d
  simp only [j5,Ac8]
  obtain q | q:=Ac8.mp d
  ·exact .inl (.inl q)
  ·exact .inr q
def zk (xs:List α) (i) (h:i<xs.length):aQ xs (i:Int)=xs[i]? :=by
 have:(i)< xs.length:=by omega
 simp [aQ,dt,this]
def BU (i:Nat) (h:i<16):aQ (bD.map D.str) (i:Int)=y0 (.str (bD.getD i [])):=by
 have:i<(bD.map D.str).length:=by simpa [bD]using h
 have e:=zk _ i this
 rw [e,Ad1]
 have a:=by simpa [bD]using h
 rw [Aa7 a,Ac3,Aa7 a]
 rfl
def Xb (i j:Nat) (h):Gs .eq (.v (.int (i:Int))) (.v (.int (j:Int))) h=y0 (u9 (i=j)):=by
 rw [Jv]
 congr 1
 exact decide_eq_decide.mpr (by lia)
def yl (c m:Nat) (h) (p:m<=8):eval F qm [y0 (.v (.int (c:Int))),y0 (.v (.int (m:Int))),y0 (.v (.str bP)),y0 (.v (.int ((c / 4 % 26:Nat):Int))),x4,x5,x6] h= .ok (.own (((Ab7 m).map (eF c)).map .str)) h:=by
 rw [qm,zo (λd=>match d with | .int i=> .str (eF c i.toNat) | d=>d) (qu (m:=m) (by simp_all []) (by lia)) (by simp;rw [Gc];lia)]
 ·simp [Function.comp_def]
 ·intro d a
  obtain⟨i,o,rfl⟩:=gu _ a
  refine⟨_,rfl,.v (.str (eF c i)),?_,by simp⟩
  have f:Gi .fdiv c 104=y0 _:=wR c 104 (by decide) (by decide)
  have l:Gi .mod _ 6=y0 _:=WL (c / 104) 6 (by decide)
  have b:Gi .mul 2 _=y0 ((2*(c / 104 % 6):Nat):Int):=JC 2 _ (by decide)
  have n:Gi .add 1 _=y0 _:=QE 1 (2*(c / 104 % 6))
  have j:Gi .mul _ (i:Int)=y0 (((1+2*(c / 104 % 6))*i:Nat):Int):=JC _ _ (by lia)
  have e:=QE (c / 4 % 26) ((1+2*(c / 104 % 6))*i)
  have k:Gi .mod _ 26=y0 (((c / 4 % 26+(1+2*(c / 104 % 6))*i) % 26:Nat):Int):=WL _ 26 (by decide)
  have g:=Jm ((c / 4 % 26+(1+2*(c / 104 % 6))*i) % 26) (Ai0 _ (by decide)) h
  simp_all [f,l,b,n,j,e,k,g]
  rfl
def yO (c m:Nat) (h) (l:m<=8):eval F zm [y0 (.v (.int (c:Int))),y0 (.v (.int (m:Int))),y0 (.v (.str bP)),y0 (.v (.int ((c / 4 % 26:Nat):Int))),x4,x5,x6] h= .ok (.own (((Ab7 m).map (j6 c)).map .str)) h:=by
 rw [zm,zo (λd=>match d with | .int i=> .str (j6 c i.toNat) | d=>d) (qu (m:=m) (by simp_all []) (by lia)) (by simp;rw [Gc];lia)]
 ·simp [Function.comp_def]
 ·intro d a
  obtain⟨i,k,rfl⟩:=gu _ a
  refine⟨[y0 _,y0 _,y0 _],rfl,.v (.str (j6 c i)),?_,by simp⟩
  have e:=Jm _ (hI c) h
  have g:GC .mul (.v (.str [97+c / 4 % 26])) (.v (.int 7)) h= .ok (.v (.str (Aa1 7 (97+c / 4 % 26)))) h:=by
   have:=mul_str [97+c / 4 % 26] 7 h (by decide) (by simp)
   exact this
  have b:GC .add (.v (.str [113])) (.v (.str (Aa1 7 _))) h= .ok (.v (.str (113::Aa1 7 (97+c / 4 % 26)))) h:=add_str _ _ h (by simp)
  have j:Gi .add i 1=y0 _:=QE i 1
  have f:dW (.v (.str (113::Aa1 7 (97+c / 4 % 26)))) u0 (y0 (i+1:Nat)) h= .ok (.v (.str (j6 c i))) h:=by
   rw [Qt _ _ _ _ (by simp [Gc]),wG]
   rfl
  simp only [eval,Gn,Gk,R.aa,R.ag,e,g,b,Gw,j,int?_int,f]
def E8 (c m:Nat) (h) (k:m<=8):eval F jm [y0 (.v (.int (c:Int))),y0 (.v (.int (m:Int))),y0 (.v (.str bP)),y0 (.v (.int ((c / 4 % 26:Nat):Int))),y0 (.v (.lst (bD.map .str))),x5,x6] h= .ok (.own (((Ab7 m).map (gO c)).map .str)) h:=by
 rw [jm,zo (λd=>match d with | .int i=> .str (gO c i.toNat) | d=>d) (qu (m:=m) (by simp_all []) (by lia)) (by simp;rw [Gc];lia)]
 ·simp [Function.comp_def]
 ·intro d a
  obtain⟨i,j,rfl⟩:=gu _ a
  refine⟨_,rfl,.v (.str (gO c i)),?_,by simp⟩
  have e:Gi .mul 3 i=y0 _:=JC 3 i (by decide)
  have f:=QE (c / 4 % 26) (3*i)
  have b:Gi .mod _ 16=y0 (((c / 4 % 26+3*i) % 16:Nat):Int):=WL _ 16 (by decide)
  have g:=BU ((c / 4 % 26+3*i) % 16) (Ai0 _ (by decide))
  simp only [eval,Gn,Gk,GE,Ad,Al0,Ai5,Ag4,Ac0,R.aa,R.ag,Gw,e,f,b,zG]
  rw [g]
  rfl
def F8 (c m:Nat) (h) (p:m<=8):eval F xm [y0 (.v (.int (c:Int))),y0 (.v (.int (m:Int))),y0 (.v (.str bP)),y0 (.v (.int ((c / 4 % 26:Nat):Int))),x4,y0 (.v (.str (Xx c))),y0 (.v (.int ((c / 728 % ((Xx c).length+1):Nat):Int)))] h= .ok (.own (((Ab7 m).map (j5 c)).map .str)) h:=by
 rw [xm,zo (λd=>match d with | .int i=> .str (j5 c i.toNat) | d=>d) (qu (m:=m) (by simp_all []) (by lia)) (by simp;rw [Gc];lia)]
 ·simp [Function.comp_def]
 ·intro d f
  obtain⟨i,o,rfl⟩:=gu _ f
  refine⟨_,rfl,.v (.str (j5 c i)),?_,by simp⟩
  have sl:=ZL c
  have b:(Xx c).length<=bA:=by rw [Gc];lia
  have j:Gi .add _ 1=y0 ((c / 4 % 26+1:Nat):Int):=QE _ 1
  have l:Gi .mul 3 i=y0 _:=JC 3 i (by decide)
  have g:=QE (c / 4 % 26+1) (3*i)
  have n:Gi .mod _ 26=y0 (((c / 4 % 26+1+3*i) % 26:Nat):Int):=WL _ 26 (by decide)
  have k:=Jm ((c / 4 % 26+1+3*i) % 26) (Ai0 _ (by decide)) h
  have e:=Qt _ u0 (y0 ((c / 728 % ((Xx c).length+1):Nat))) h b
  have a:=Qt _ (y0 ((c / 728 % ((Xx c).length+1):Nat))) u0 h b
  rw [wG]at e
  rw [X0]at a
  simp only [eval,Gn,Gk,GE,Ad,Al0,Ai5,Ag4,Ac0,Ah4,R.aa,R.ag,Gw,j,l,g,n,k,e,a,int?_int]
  rw [add_str _ _ _ (by simp;lia),R.aa]
  simp only [a,R.aa]
  rw [add_str _ _ _ (by simp;omega)]
  rfl
def FR (k c m:Nat) (h) (a:m<=8): ∃ts:List Tx,ts.length=m/\ts.Nodup/\(∀ t∈ts,qs t)/\call prog (k+1) "_law_family" [.v (.int (c:Int)),.v (.int (m:Int))] h= .ok (.own (ts.map .str)) h:=by
 rw [Gb rfl _ _ _ rfl]
 have u:Gi .fdiv (c:Int) 4=y0 _:=wR c 4 (by decide) (by decide)
 have y:Gi .mod _ 26=y0 ((c / 4 % 26:Nat):Int):=WL _ 26 (by decide)
 have d:Gi .mod (c:Int) 4=y0 _:=WL c 4 (by decide)
 have j:Gs .eq _ (.v (.int 0)) h=y0 _:=Xb (c % 4) 0 h
 have f:Gs .eq _ (.v (.int 1)) h=y0 _:=Xb (c % 4) 1 h
 have g:Gs .eq _ (.v (.int 2)) h=y0 (u9 (c % 4=2)):=Xb (c % 4) 2 h
 simp only [jx]
 show ∃ts:List Tx,_/\_/\_/\Gu _ (execs _ _ [y0 (.v (.int (c:Int))),y0 (.v (.int (m:Int))),u0,u0,u0,u0,u0] h)=_
 rw [za rfl]
 rw [za (Z1:= [y0 (.v (.int (c:Int))),y0 (.v (.int (m:Int))),y0 (.v (.str bP)),y0 (.v (.int ((c / 4 % 26:Nat):Int))),u0,u0,u0]) (h1:=h) (by simp_all [u,y])]
 by_cases o:c % 4=0
 ·refine⟨(Ab7 m).map (eF c),by simp,qy _ m a (uV c),λt b=> ?_,?_⟩
  ·obtain⟨i,_,rfl⟩:=Ae.mp b
   exact CA c i
  ·rw [ja (w:= .own (((Ab7 m).map (eF c)).map .str)) (h1:=h) ((zg (h1:=h) (by simp_all [d,j,decide_eq_true o])).trans (ja (Xu rfl (yl c m h a)))),Gy _ _ _ rfl]
 rw [za (Z1:= [y0 (.v (.int (c:Int))),y0 (.v (.int (m:Int))),y0 (.v (.str bP)),y0 (.v (.int ((c / 4 % 26:Nat):Int))),u0,u0,u0]) (h1:=h) (by simp_all [d,j,decide_eq_false o])]
 by_cases l:c % 4=1
 ·refine⟨(Ab7 m).map (j6 c),by simp,qy _ m a (Fi c),λt b=> ?_,?_⟩
  ·obtain⟨i,_,rfl⟩:=Ae.mp b
   exact BL c i
  ·rw [ja (w:= .own (((Ab7 m).map (j6 c)).map .str)) (h1:=h) ((zg (h1:=h) (by simp_all [d,f,decide_eq_true l])).trans (ja (Xu rfl (yO c m h a)))),Gy _ _ _ rfl]
 rw [za (Z1:= [y0 (.v (.int (c:Int))),y0 (.v (.int (m:Int))),y0 (.v (.str bP)),y0 (.v (.int ((c / 4 % 26:Nat):Int))),u0,u0,u0]) (h1:=h) (by simp_all [d,f,decide_eq_false l])]
 by_cases n:c % 4=2
 ·refine⟨(Ab7 m).map (gO c),by simp,qy _ m a (Fy c),λt b=> ?_,?_⟩
  ·obtain⟨i,_,rfl⟩:=Ae.mp b
   exact Cr c i
  ·rw [ja (w:= .own (((Ab7 m).map (gO c)).map .str)) (h1:=h) ?_,Gy _ _ _ rfl]
   rw [zg (h1:=h) (by simp_all [d,g,decide_eq_true n])]
   rw [za (Z1:= [y0 (.v (.int (c:Int))),y0 (.v (.int (m:Int))),y0 (.v (.str bP)),y0 (.v (.int ((c / 4 % 26:Nat):Int))),y0 (.v (.lst ((bD.take 12).map .str))),u0,u0]) (h1:=h) (by simp_all [];rfl)]
   rw [za (Z1:= [y0 (.v (.int (c:Int))),y0 (.v (.int (m:Int))),y0 (.v (.str bP)),y0 (.v (.int ((c / 4 % 26:Nat):Int))),y0 (.v (.lst (bD.map .str))),u0,u0]) (h1:=h) (by simp_all [mS];rw [if_pos (by rw [Gc];decide)];rfl)]
   exact ja (Xu rfl (E8 c m h a))
 rw [za (Z1:= [y0 (.v (.int (c:Int))),y0 (.v (.int (m:Int))),y0 (.v (.str bP)),y0 (.v (.int ((c / 4 % 26:Nat):Int))),u0,u0,u0]) (h1:=h) (by simp_all [d,g,decide_eq_false n])]
 have sl:=ZL c
 have z:(Xx c).length<=bA:=by rw [Gc];omega
 have r:=Jm (c / 4 % 26) (hI c) h
 have C:GC .mul (.v (.str [97+c / 4 % 26])) (.v (.int 6)) h= .ok (.v (.str (Aa1 6 (97+c / 4 % 26)))) h:=by
  have:=mul_str [97+c / 4 % 26] 6 h (by decide) (by simp)
  rw [vO]at this
  exact this
 have s:GC .add (.v (.str [113])) (.v (.str (Aa1 6 (97+c / 4 % 26)))) h= .ok (.v (.str (113::Aa1 6 (97+c / 4 % 26)))) h:=add_str _ _ h (by simp)
 have x:Gi .fdiv (c:Int) 104=y0 ((c / 104:Nat):Int):=wR c 104 (by decide) (by decide)
 have B:Gi .mod ((c / 104:Nat):Int) 7=y0 ((c / 104 % 7:Nat):Int):=WL _ 7 (by decide)
 have q:Gi .add 1 ((c / 104 % 7:Nat):Int)=y0 ((1+c / 104 % 7:Nat):Int):=QE 1 _
 have v:dW (.v (.str (113::Aa1 6 (97+c / 4 % 26)))) u0 (y0 ((1+c / 104 % 7:Nat):Int)) h= .ok (.v (.str (Xx c))) h:=by
  rw [Qt _ _ _ _ (by simp [Gc]),wG]
  rfl
 have p:Gi .fdiv (c:Int) 728=y0 ((c / 728:Nat):Int):=wR c 728 (by decide) (by decide)
 have A:Gi .add ((Xx c).length:Int) 1=y0 (((Xx c).length+1:Nat):Int):=QE _ 1
 have e:=WL (c / 728) ((Xx c).length+1) (by omega)
 rw [za (Z1:= [y0 (.v (.int (c:Int))),y0 (.v (.int (m:Int))),y0 (.v (.str bP)),y0 (.v (.int ((c / 4 % 26:Nat):Int))),u0,y0 (.v (.str (Xx c))),u0]) (h1:=h) (by simp only [exec,eval,Gn,Gk,GE,R.aa,R.ag,r,C,s,Gw,x,B,q,int?_int,v,R.aC,W.dQ])]
 rw [za (Z1:= [y0 (.v (.int (c:Int))),y0 (.v (.int (m:Int))),y0 (.v (.str bP)),y0 (.v (.int ((c / 4 % 26:Nat):Int))),u0,y0 (.v (.str (Xx c))),y0 (.v (.int ((c / 728 % ((Xx c).length+1):Nat):Int)))]) (h1:=h) (by simp only [exec,eval,Gj,Gn,Gk,GE,R.aa,R.ag,Gw,p,len_str,z,if_true,A,e,R.aC,W.dQ])]
 refine⟨(Ab7 m).map (j5 c),by simp,qy _ m a (y4 c),λt b=> ?_,?_⟩
 ·obtain⟨i,_,rfl⟩:=Ae.mp b
  exact BM c i
 ·rw [ja (w:= .own (((Ab7 m).map (j5 c)).map .str)) (h1:=h) (Xu rfl (F8 c m h a)),Gy _ _ _ rfl]
theorem JF {I:AH->Prop}{Q:D->Prop}: ∀ ds,(∀ d∈ds,∀h,I h-> ∃y h',step d h= .ok (y0 y) h'/\I h'/\Q y)-> ∀h,I h-> ∃ys h',Gx step ds h= .ok ys h'/\I h'/\ys.length=ds.length/\ ∀y∈ys,Q y
 | [],_,h,i=>⟨[],h,rfl,i,rfl,λ_ m=>absurd m (Ab0)⟩
 | d::ds,b,h,i=>by
  obtain⟨y,n,c,i1,f⟩:=b d Aa h i
  obtain⟨ys,l,g,i2,j,k⟩:=JF ds (λd e=>b d (Aa0 _ e)) n i1
  refine⟨y::ys,l,by rw [Gx,c];simp only [g],i2,by simp [j],λz a=> ?_⟩
  rcases Aa5.mp a with rfl | a
  ·exact f
  ·exact k z a
def uN {I:AH->Prop}{Q:D->Prop}(l:Gr F it Z h= .ok ds h) (m:ds.length<=bA) (i0:I h)
 (o: ∀d∈ds,∀h,I h-> ∃J,Gz tg one d (Aa1 k u0++aE.map λj=>Gn Z j)=y0 J/\ ∃w y h',eval F elt J h= .ok w h'/\w.d=y0 y/\I h'/\Q y):
 ∃ys h',eval F (.comp tg one k aE it y9 c elt) Z h= .ok (.own ys) h'/\I h'/\ys.length=ds.length/\ ∀y∈ys,Q y:=by
 obtain⟨step,s,g⟩: ∃step:D->AH->R _,eval F (.comp tg one k aE it y9 c elt) Z h=(Gx step ds h).bind (λys h=> .ok (.own ys) h) ∧
  ∀d h J w y h',Gz tg one d (Aa1 k u0++aE.map λj=>Gn Z j)=y0 J->eval F elt J h= .ok w h'->w.d=y0 y->step d h= .ok (y0 y) h':=
  ⟨_,by rw [eval,l,R.aa,if_pos m],λd h J w y h' a f b=>by simp [a,f,b]⟩
 obtain⟨ys,h',e,r⟩:=JF ds (λd n h i=>by
  obtain⟨J,a,w,y,h',f,b,p,q⟩:=o d n h i
  exact⟨y,h',g d h J w y h' a f b,p,q⟩) h i0
 exact⟨ys,h',by rw [s,e,R.aa],r⟩
theorem ww: ∀ts:List Tx,GQ (ts.map .str)=y0 ts
 | []=>rfl
 | t::ts=>by simp [GQ,ww ts]
theorem oW (s): ∀ts:List Tx,inD (.str s) (ts.map .str)=u9 (s∈ts)
 | []=>rfl
 | t::ts=>by
  have a:=oW s ts
  simp only [inD]at a
  by_cases q:t=s
  ·subst q
   simp [inD]
  ·have b: ¬s=t:=λe=>q e.symm
   simp only [inD,Ac0,Ag7,a,Aa5,b,false_or]
   simp [q]
def Df (ts:List Tx):(ts.map D.str).all flat=true:=by simp
def xu (s) (ts:List Tx) (w) (h) (a:w.seq? h=y0 (ts.map .str)) (h2:w.bq =u0):Ka (.v (.str s)) w h=y0 (u9 (s∈ts)):=by
 unfold Ka
 rw [h2]
 simp only [W.bq,W.dQ,a,Df,Bool.true_and,if_true,oW]
theorem jQ  [DecidableEq α]: ∀(l m:List α),l.Nodup->(∀ x∈l,x∈m)->l.length<=m.length
 | [],_,_,_=>Af9 _
 | x::l,m,d,a=>by
  have c:=(Ag.mp d)
  have h:=jQ l (m.erase x) c.2 λy b=>by
   have:y≠x:=λe=>c.1 (e▸b)
   exact(List.mem_erase_of_ne this).mpr (a y (Aa0 _ b))
  have g:=List.length_erase_of_mem (a x Aa)
  have f:=List.length_pos_of_mem (a x Aa)
  simp only [Aa2]
  omega
theorem og: ∀i:List Nat,GG [] (i.map λc=> [c])=i
 | []=>rfl
 | [c]=>rfl
 | c::d::r=>by
  have:=og (d::r)
  simp only [Ac0,GG,Ad0]at this ⊢
  rw [this]
  rfl
def W6 {a:List D}(h: ∀y∈a,∃c,(97<=c/\c<=122)/\y= .str [c]): ∃i:List Nat,a=(i.map λc=> [c]).map .str/\ ∀c∈i,97<=c/\c<=122:=by
 induction a with
 | nil=>exact⟨[],rfl,λ_ h=>absurd h Ab0⟩
 | cons y a g=>
  obtain⟨c,k,e⟩:=h y Aa
  obtain⟨i,l,f⟩:=g λy j=>h y (Aa0 _ j)
  refine⟨c::i,by rw [e,l];rfl,λd b=> ?_⟩
  obtain rfl | b:=Aa5.mp b
  ·exact k
  ·exact f d b
def aw:List Tx:=taken.take 14
def Wx:Tx:= [115,97,121]
def ZW (t):t∈taken↔t∈aw\/t=Wx:=by
 have:taken=aw++ [Wx]:=rfl
 rw [this,Ac8,Ab6]
structure Nm (ts:List Tx):Prop where
 nd:ts.Nodup
 good: ∀t∈ts,qs t
def Nm.snoc (h:Nm ts)(f:qs t) (g:t∉ts):Nm (ts++ [t]):=by
 refine⟨?_,λx c=> ?_⟩
 ·rw [List.nodup_append]
  refine⟨h.nd,by simp,?_⟩
  intro a i b d e
  rw [Ab6]at d
  subst d
  subst e
  exact g i
 ·obtain c | c:=Ac8.mp c
  ·exact h.good x c
  ·rw [Ab6]at c
   exact c▸f
noncomputable abbrev zy (s a b:W) (ts:List Tx) (x6 x7 x8 x9:Option W):Sl:= [y0 s,y0 a,y0 b,y0 (.v (.str bP)),y0 (.v (.lst (aw.map .str))),y0 (.own ((Wx::ts).map .str)),x6,x7,x8,x9]
def CF (P:PH h) (E:r<h.length) (B:n<=8):
 ∃i:List Nat,∃h',i.length=n/\(∀ c∈i,97<=c/\c<=122)/\PH h'/\h'.length=h.length ∧
  eval (k8 (k+1)) Qf (zy s a b ts (y0 (.v (.ref r))) (y0 (.v (.int (n:Int)))) x8 x9) h= .ok (.own ((i.map λc=> [c]).map .str)) h':=by
 obtain⟨q,h',e,⟨t,u⟩,A,x⟩:=uN (F:=(k8 (k+1))) (tg:= [0]) (one:=true) (k:=1) (aE:= [3,6]) (it:= .aJ .v7) (elt:= .ix .v1 (.call "_law_next" (.b .v2 (.int 26)))) (Z:=zy s a b ts (some (.v (.ref r))) (some (.v (.int n))) x8 x9)
  (I:=λh'=>PH h'/\h'.length=h.length) (Q:=λy=> ∃c,(97<=c/\c<=122)/\y= .str [c]) (qu (m:=n) (by simp_all []) (by lia)) (by simp;rw [Gc];lia) ⟨P,rfl⟩ (λd D l ⟨z,C⟩=>by
    obtain⟨v,g,p,w,G,f⟩:=Ze k z (show r<l.length by lia) (show 0<26 by decide) (by decide)
    have f:call prog _ "_law_next" [.v _,.v (.int 26)] l= .ok _ g:=f
    refine⟨[y0 _,y0 _,y0 _],rfl,.v _,.str [97+v],g,?_,rfl,⟨w,by lia⟩,97+v,by lia,rfl⟩
    simp [Gn,f,Jm v p g,R.ag])
 obtain⟨i,j,o⟩:=W6 x
 refine⟨i,h',?_,o,t,u,?_⟩
 ·have:q.length=i.length:=by rw [j];simp
  rw [← this,A]
  simp
 ·rw [Qf,e,j]
def yM (i:t.length<=8):
 eval F zi (zy s a b ts x6 x7 (y0 (.v (.str t))) x9) h= .ok (.own ((bP.map λc=>t.take 7++ [c]).map .str)) h:=by
 have g:t.length<=bA:=by rw [Gc];lia
 rw [zi,zo (ds:=c9 bP) (λd=>match d with | .str u=> .str (t.take 7++u) | d=>d) (by simp_all []) (by rw [Gc];decide)]
 ·simp [c9]
 ·intro d e
  obtain⟨c,j,rfl⟩:=Ae.mp e
  refine⟨[y0 _,y0 _],rfl,.v _,?_,rfl⟩
  have f:dW (.v (.str t)) u0 (y0 7) h= .ok (.v (.str (t.take 7))) h:=by
   rw [Qt _ _ _ _ g]
   exact congrArg (λx=>R.ok (W.v _) h) (wG t 7)
  simp only [eval,Gn,Gk,R.aa,R.ag,int?_int,f]
  exact add_str _ _ h (by simp;lia)
def WX (ts) (h) (a:ts.length<=100):GC .add (.v (.lst (aw.map .str))) (.bor ((Wx::ts).map .str)) h= .ok (.own ((aw++Wx::ts).map .str)) h:=by
 rw [AL,if_pos (by rw [Gc];simp [aw,taken];lia),Ae0]
def DB {us:List Tx}(g:ts.length<=100) (e:us.length<=100):
 eval F Xe (zy s a b ts x6 x7 x8 (y0 (.v (.lst (us.map .str))))) h= .ok (.own ((us.filter λu=> !u9 (u∈aw++Wx::ts)).map .str)) h:=by
 rw [Xe,De (ds:=us.map .str) (λd=>match d with | .str u=>if u∈aw++Wx::ts then u0 else y0 (.str u) | _=>u0) (by simp_all []) (by rw [Gc];simp;omega)]
 ·congr 2
  rw [List.filterMap_map]
  induction us with
  | nil=>rfl
  | cons u us c=>
   by_cases q:u∈aw++Wx::ts
   ·rw [List.filterMap_cons_none (by simp only [Function.comp,q,if_true]),List.filter_cons_of_neg (by simp only [q,Ai7];simp)]
    exact c (by simp at e;omega)
   ·rw [List.filterMap_cons_some (b:= .str u) (by simp only [Function.comp,q,if_false]),List.filter_cons_of_pos (by simp only [q,decide_false,Aj5]),Ac0,c (by simp at e;omega)]
 ·intro d f
  obtain⟨u,_,rfl⟩:=Ae.mp f
  refine⟨[y0 (.v (.str u)),y0 (.v (.lst (aw.map .str))),y0 (.bor ((Wx::ts).map .str))], !u9 (u∈aw++Wx::ts),rfl,?_,?_⟩
  ·simp only [Gf,eval,Gn,Gk,R.aa,WX ts h g,Gs,xu u (aw++Wx::ts) (.own ((aw++Wx::ts).map .str)) h rfl rfl,Option.map_some,R.ag,Gp]
  ·by_cases q:u∈aw++Wx::ts
   ·simp only [q,decide_true,Ai7,Af7,if_false,if_true]
   ·simp only [q,decide_false,Aj5,if_true,if_false]
    exact⟨_,_,rfl,rfl,rfl⟩
def ED {t:Tx}(k:ts.length<=7): ∃c r,(97<=c/\c<=122)/\t.take 7++ [c]∉aw++Wx::ts/\((bP.map λc=>t.take 7++ [c]).filter λu=> !u9 (u∈aw++Wx::ts))=(t.take 7++ [c])::r:=by
 cases q:((bP.map λc=>t.take 7++ [c]).filter λu=> !u9 (u∈aw++Wx::ts))with
 | nil=>
  have j:=List.filter_eq_nil_iff.mp q
  have i:=λu a=>by
   by_cases d:u∈aw++Wx::ts
   ·exact d
   ·exact absurd (by simp [d,Aj5]) (j u a)
  have g:(bP.map λc=>t.take 7++ [c]).Nodup:=by
   rw [List.Nodup,Al5]
   refine Ak0.imp ?_ (show bP.Pairwise (· ≠ ·)by decide)
   intro x y ne e
   simp [and_true]at e
   exact ne e
  have f:=jQ _ _ g i
  simp [aw,taken]at f
  omega
 | cons u r=>
  have a:u∈((bP.map λc=>t.take 7++ [c]).filter λu=> !u9 (u∈aw++Wx::ts)):=by rw [q];exact Aa
  rw [List.mem_filter]at a
  obtain⟨c,h,e⟩:=Ae.mp a.1
  have b: ∀c∈bP,97<=c/\c<=122:=by decide
  refine⟨c,r,b c h,?_,by rw [e]⟩
  rw [e]
  simpa using a.2
def QT (x) (r:List α):aQ (x::r) 0=y0 x:=by
 have: 0< (x::r).length:=by simp
 simp [aQ,dt,this]
def Bd (P:PH h) (M:r<h.length) (N:Nm ts) (G:ts.length<=7):
 ∃t J V L h',Nm (ts++ [t])/\PH h'/\h'.length=h.length ∧
  execs (k8 (k+1)) Wc (zy s a b ts (y0 (.v (.ref r))) x7 x8 x9) h= .next (zy s a b (ts++ [t]) (y0 (.v (.ref r))) J V L) h':=by
 obtain⟨v,g,hv,T,X,m⟩:=Ze k P M (show 0<8 by decide) (by decide)
 have m:call prog _ "_law_next" [.v _,.v (.int 8)] h= .ok _ g:=m
 have I:Gi .add 1 (v:Int)=y0 _:=QE 1 v
 obtain⟨d,e,Y,C,E,l2,K⟩:=CF (k:=k) (s:=s) (a:=a) (b:=b) (ts:=ts) (x8:=x8) (x9:=x9) (n:=1+v) T (show r<g.length by omega) (by omega)
 have z: ∀t:Tx,t.length<=8->(∀ c∈t,97<=c/\c<=122)->1<=t.length->t∉aw++Wx::ts->Nm _:=λt Q o g j=>by
  refine N.snoc ⟨g,Q,o,λw=>j ?_⟩ λw=>j ?_
  ·rcases (ZW t).mp w with q | q
   ·exact Af0 _ q
   ·exact Ab _ (q▸Aa)
  ·exact Ab _ (Aa0 _ w)
 have y:((Wx::ts).map D.str).length<bA:=by rw [Gc];simp;omega
 simp only [Wc]
 rw [za (Z1:=zy s a b ts (y0 (.v (.ref r))) (y0 (.v (.int ((1+v:Nat):Int)))) x8 x9) (h1:=g) (by simp_all [m,I];rfl)]
 have H:d.length<=bA/\(d.map λc=> [c]).length<=bA/\([]:Tx).length<=bA:=by
  rw [Ac,Gc];exact⟨by omega,by omega,Af9 _⟩
 have l:exec (k8 (k+1)) (.ae 8 (.dz .join (.str []) (.a Qf))) (zy s a b ts (y0 (.v (.ref r))) (y0 (.v (.int ((1+v:Nat):Int)))) x8 x9) g= .next (zy s a b ts (y0 (.v (.ref r))) (y0 (.v (.int ((1+v:Nat):Int)))) (y0 (.v (.str d))) x9) e:=by
  simp only [exec,eval,Gj,R.aa,vT,if_true,K,mz,W.bq,R.ag,W.gf,Ac9,ww,og,if_pos H,R.aC,W.dQ,GE]
 rw [za l]
 have f:Gf (k8 (k+1)) (.cmp .mem .v8 (.bin .add .v4 .v5)) (zy s a b ts (y0 (.v (.ref r))) (y0 (.v (.int ((1+v:Nat):Int)))) (y0 (.v (.str d))) x9) e= .ok (u9 (d∈aw++Wx::ts)) e:=by
  simp only [Gf,eval,Gn,Gk,R.aa,WX ts e (by omega),Gs,xu d _ (.own ((aw++Wx::ts).map .str)) e rfl rfl,R.ag,Gp]
 by_cases q:d∈aw++Wx::ts
 ·rw [decide_eq_true q]at f
  obtain⟨c,Z,p,j,A⟩:=ED (ts:=ts) (t:=d) G
  obtain⟨U,u⟩: ∃U,U=bP.map λc=>d.take 7++ [c]:=⟨_,rfl⟩
  rw [← u]at A
  have S:U.length<=100:=by rw [u];simp
  have B:=yM (F:=(k8 (k+1))) (s:=s) (a:=a) (b:=b) (ts:=ts) (x6:=y0 (.v (.ref r))) (x7:=y0 (.v (.int ((1+v:Nat):Int)))) (x9:=x9) (h:=e) (t:=d) (by omega)
  rw [← u]at B
  have i0:exec (k8 (k+1)) (.ae 8 (.ix Xe (.int 0))) (zy s a b ts (y0 (.v (.ref r))) (y0 (.v (.int ((1+v:Nat):Int)))) (y0 (.v (.str d))) (y0 (.v (.lst (U.map .str))))) e= .next (zy s a b ts (y0 (.v (.ref r))) (y0 (.v (.int ((1+v:Nat):Int)))) (y0 (.v (.str (d.take 7++ [c])))) (y0 (.v (.lst (U.map .str))))) e:=by
   simp only [exec,eval,DB (F:=(k8 (k+1))) (s:=s) (a:=a) (b:=b) (x6:=y0 (.v (.ref r))) (x7:=y0 (.v (.int ((1+v:Nat):Int)))) (x8:=y0 (.v (.str d))) (h:=e) (ts:=ts) (us:=U) (by omega) S,A,R.aa,Jh,Ac0,QT,R.ag,R.aC,W.dQ,GE]<;>rfl
  refine⟨d.take 7++ [c],y0 (.v (.int ((1+v:Nat):Int))),y0 (.v (.str (d.take 7++ [c]))),y0 (.v (.lst (U.map .str))),e,z _ (by simp;omega) (λx i=> ?_) (by simp) j,E,by omega,?_⟩
  ·rcases Ac8.mp i with i | i
   ·exact C x (Ah0 i)
   ·rw [Ab6]at i;exact i▸p
  ·rw [za (Z1:=zy s a b ts (y0 (.v (.ref r))) (y0 (.v (.int ((1+v:Nat):Int)))) (y0 (.v (.str (d.take 7++ [c])))) (y0 (.v (.lst (U.map .str))))) (h1:=e)]
   ·simp only [execs,exec,Gk,eval,Gn,R.aC,W.dQ,y,if_true,GE,O.cz]
    simp [zy]
   ·rw [zg f,za (Z1:=zy s a b ts (y0 (.v (.ref r))) (y0 (.v (.int ((1+v:Nat):Int)))) (y0 (.v (.str d))) (y0 (.v (.lst (U.map .str))))) (h1:=e) (by simp only [exec,B,R.aC,W.gZ,GE]),za i0]
    rfl
 ·rw [decide_eq_false q]at f
  refine⟨d,y0 (.v (.int ((1+v:Nat):Int))),y0 (.v (.str d)),x9,e,z d (by omega) C (by omega) q,E,by omega,?_⟩
  rw [za ((Zm f).trans rfl)]
  simp only [execs,exec,Gk,eval,Gn,R.aC,W.dQ,y,if_true,GE,O.cz]
  simp [zy]
theorem rn : ∀(rs:List Nat) ts x6 x7 x8 x9 h,PH h->(∀ r∈rs,r<h.length)->Nm ts->ts.length+rs.length<=8-> ∃us L i J j h',Nm us/\us.length=ts.length+rs.length/\PH h'/\h'.length=h.length ∧
 GB (Gz [6] k9) (λZ h=>execs (k8 (k+1)) Wc Z h) (rs.map .ref) (zy s a b ts x6 x7 x8 x9) h= .next (zy s a b us L i J j) h'
 | [],ts,x6,x7,x8,x9,h,P,c,N,d=>⟨ts,x6,x7,x8,x9,h,N,by simp,P,rfl,rfl⟩
 | r::rs,ts,x6,x7,x8,x9,h,P,c,N,d=>by
  simp only [Aa2]at d
  obtain⟨t,i,J,j,z,n,x,A,f⟩:=Bd P (c r Aa) N (by omega)
  obtain⟨us,y,e,u,l,v,g,p,w,B,o⟩:=rn rs (ts++ [t]) (y0 (.v (.ref r))) i J j z x (λq m=>by have:=c q (Aa0 _ m);omega) n (by simp;omega)
  refine⟨us,y,e,u,l,v,g,by simp at p ⊢;omega,w,by omega,?_⟩
  rw [Ac0,Jj rfl f,o]
def ZX (n r):(Aa1 n [D.ref r]).flatten=(Aa1 n r).map .ref:=by
 induction n with
 | zero=>rfl
 | succ n a=>rw [Ad,Aj8,a];rfl
def o5 (xs) (n:Nat) (h) (b:n<=1000) (a:xs.length*n<=1000000):GC .mul (.own xs) (.v (.int (n:Int))) h= .ok (.own (Aa1 n xs).flatten) h:=by
 show Ko xs n h=_
 rw [Ko,if_pos ⟨by lia,by lia,by rw [Ad7,Gc];exact a⟩,Ad7]
def Ea (a:Gg xs=k9) (b:n<=h.length): ∃h',Gu n (.ret (.own xs) h)= .ok (.own xs) h'/\h'=h.take n:=by
 by_cases q:h.length=n
 ·exact⟨h,by simp [Gu,fin,q],by rw [← q,Ak1]⟩
 ·exact⟨h.take n,by simp [Gu,fin,q,W.keep,a],rfl⟩
def oA (a:Gm d=k9) (b:n<=h.length): ∃h',Gu n (.ret (.v d) h)= .ok (.v d) h'/\h'=h.take n:=by
 by_cases q:h.length=n
 ·exact⟨h,by simp [Gu,fin,q],by rw [← q,Ak1]⟩
 ·exact⟨h.take n,by simp [Gu,fin,q,W.keep,a],rfl⟩
theorem Zs: ∀ts:List Tx,Gg (ts.map .str)=k9
 | []=>rfl
 | t::ts=>by simp [Zs ts]
def Xj (a:Gj F es Z h= .ok ws h) (c:F.call f (ws.map W.arg) h= .ok (.own xs) h) (b:Gg xs=k9):eval F (.share (.call f es)) Z h= .ok (.v (.ref h.length)) (h++ [.lst xs]):=by
 simp only [eval,a,R.aa,c,b,if_true]
def zV (k) (ns) (p:ns.length<=63) (K T) (hK:K<=4) (hT:T<=4) (h:AH) (P:PH h): ∃ts h',Nm ts/\ts.length=K+T/\PH h'/\h'.length=h.length ∧
 call prog (k+3) "_law_any_names" [bC ns,.v (.int (K:Int)),.v (.int (T:Int))] h= .ok (.own (ts.map .str)) h':=by
 rw [Gb (d:=qk) rfl _ _ _ rfl]
 obtain⟨g,e,c,y⟩:=jv k ns p 1 h
 obtain⟨a2,j,l,G⟩:=jv k ns p 2 _
 have U:=P.app g e c
 have S:=U.app a2 j l
 obtain⟨i,X,B,V,E,h',N,o,z,v,A⟩:=rn (k:=k+1) (s:=bC ns) (a:= .v (.int (K:Int))) (b:= .v (.int (T:Int))) (Aa1 K h.length++Aa1 T (h.length+1)) [] u0 u0 u0 u0 _ S (λr J=>by
  rw [Aa3,Aa3]
  rcases Ac8.mp J with q | q
  ·rw [(Aj0.mp q).2];simp;omega
  ·rw [(Aj0.mp q).2];simp) ⟨List.nodup_nil,λ_ h=>absurd h Ab0⟩ (by simp;omega)
 simp only [Aa3,Ad5,Ag0,Nat.zero_add]at o
 have M:call prog _ "_law_purse" [bC ns,.v _] h= .ok (.own [.int g,.int e,.int c]) h:=y
 have C:call prog (k+2) "_law_purse" [bC ns,.v (.int 2)] (h++ [.lst [.int g,.int e,.int c]])= .ok (.own [.int a2,.int j,.int l]) (h++ [.lst [.int g,.int e,.int c]]):=G
 obtain⟨x,Q,u⟩:=Ea (xs:=i.map .str) (n:=h.length) (h:=h') (Zs i) (by rw [v,Aa3,Aa3];omega)
 refine⟨i,x,N,o,u▸z.take _,by rw [u,Ae9,v,Aa3,Aa3];omega,?_⟩
 simp only [qk]
 show Gu _ (execs _ _ [y0 (bC ns),y0 (.v (.int (K:Int))),y0 (.v (.int (T:Int))),u0,u0,u0,u0,u0,u0,u0] h)=_
 rw [za (Z1:= [y0 (bC ns),y0 (.v (.int (K:Int))),y0 (.v (.int (T:Int))),y0 (.v (.str bP)),u0,u0,u0,u0,u0,u0]) (h1:=h) rfl]
 rw [za (Z1:= [y0 (bC ns),y0 (.v (.int (K:Int))),y0 (.v (.int (T:Int))),y0 (.v (.str bP)),y0 (.v (.lst (aw.map .str))),u0,u0,u0,u0,u0]) (h1:=h) rfl]
 rw [za (Z1:=zy (bC ns) (.v (.int (K:Int))) (.v (.int (T:Int))) [] u0 u0 u0 u0) (h1:=h) rfl]
 have Y:GC .mul (.own [.ref h.length]) (.v (.int (K:Int))) (h++ [.lst [.int g,.int e,.int c]])= .ok (.own ((Aa1 K h.length).map .ref)) (h++ [.lst [.int g,.int e,.int c]]):=by
  rw [o5 _ _ _ (by omega) (by simp;omega),ZX]
 have H:GC .mul (.own [.ref (h.length+1)]) (.v (.int (T:Int))) (h++ [.lst [.int g,.int e,.int c]]++ [.lst [.int a2,.int j,.int l]])= .ok (.own ((Aa1 T (h.length+1)).map .ref)) (h++ [.lst [.int g,.int e,.int c]]++ [.lst [.int a2,.int j,.int l]]):=by
  rw [o5 _ _ _ (by omega) (by simp;omega),ZX]
 have I:(h++ [Cell.lst [.int g,.int e,.int c]]).length=h.length+1:=by simp
 have L:exec (k8 (k+2)) (.for [6] true (.seq (.bin .add (.bin .mul (.lst (.cons (.share (.call "_law_purse" (.b .v0 (.int 1)))) .nil)) .v1) (.bin .mul (.lst (.cons (.share (.call "_law_purse" (.b .v0 (.int 2)))) .nil)) .v2))) Wc) (zy (bC ns) (.v (.int (K:Int))) (.v (.int (T:Int))) [] none none none none) h= .next (zy (bC ns) (.v (.int (K:Int))) (.v (.int (T:Int))) i X B V E) h':=by
  have O:=Xj (F:=(k8 (k+2))) (f:= "_law_purse") (es:= .cons .v0 (.a (.int 1))) (Z:=zy (bC ns) (.v (.int (K:Int))) (.v (.int (T:Int))) [] none none none none) (h:=h) (ws:= [bC ns,.v (.int 1)]) (xs:= [D.int g,D.int e,D.int c]) rfl M rfl
  have t:=Xj (F:=(k8 (k+2))) (f:= "_law_purse") (es:= .cons .v0 (.a (.int 2))) (Z:=zy (bC ns) (.v (.int (K:Int))) (.v (.int (T:Int))) [] none none none none) (h:=h++ [Cell.lst [D.int g,D.int e,D.int c]]) (ws:= [bC ns,.v (.int 2)]) (xs:= [D.int a2,D.int j,D.int l]) rfl C rfl
  rw [I]at t
  rw [exec,GD]
  simp only [GF]
  rw [eval,eval,eval,Gq,O]
  simp only [R.aa,W.dQ,R.ag,Gq]
  rw [show eval (k8 (k+2)) .v1 (zy (bC ns) (.v (.int (K:Int))) (.v (.int (T:Int))) [] u0 u0 u0 u0) (h++ [.lst [.int g,.int e,.int c]])= .ok (.v (.int (K:Int))) (h++ [.lst [.int g,.int e,.int c]])from rfl,R.aa,Y,R.aa,eval,eval,Gq,t]
  simp only [R.aa,W.dQ,R.ag,Gq]
  rw [show eval (k8 (k+2)) .v2 (zy (bC ns) (.v (.int (K:Int))) (.v (.int (T:Int))) [] u0 u0 u0 u0) (h++ [.lst [.int g,.int e,.int c]]++ [.lst [.int a2,.int j,.int l]])= .ok (.v (.int (T:Int))) (h++ [.lst [.int g,.int e,.int c]]++ [.lst [.int a2,.int j,.int l]])from rfl,R.aa,H,R.aa,pL,if_pos (by rw [Gc];simp;omega),R.aa,GX,R.ag,R.aC,←Ae0,A]
 rw [za L]
 rw [ja (w:= .own (i.map .str)) (h1:=h') ?_,Q]
 refine Xu rfl ?_
 have:=X0 ((Wx::i).map D.str) 1
 have m:cut ((Wx::i).map D.str) (y0 1) u0=i.map .str:=this
 simp only [eval,Gn,Gk,R.aa,int?_int,R.ag,Bj,m]
theorem Xp (x): ∀ys:List Tx,(GV x ys).Perm (x::ys)
 | []=> .refl _
 | y::ys=>by
  unfold GV
  by_cases q:y<x
  ·rw [if_pos q]
   exact((Xp x ys).cons y).trans (.swap x y ys)
  ·rw [if_neg q]
theorem Zg: ∀xs:List Tx,(GA xs).Perm xs
 | []=> .refl _
 | x::xs=>(Xp x (GA xs)).trans ((Zg xs).cons x)
def Nm.perm (h:Nm a) (p:b.Perm a):Nm b:=⟨p.nodup_iff.mpr h.nd,λt c=>h.good t (p.mem_iff.mp c)⟩
def Nm.rev (h:Nm a):Nm a.reverse:=h.perm (List.reverse_perm a)
abbrev aL (ts:List Tx):D:= .tup (ts.map .str)
abbrev wD (K T:List Tx):D:= .tup [aL K,aL T]
def AX:Gi .pow 10 8=y0 ((100000000:Nat):Int):=by
 have:(0:Int)<=8/\ 8<=BP/\(10:Int).natAbs<kW:=by rw [Kl,GL];decide
 show(if _ then _ else _)=_
 rw [if_pos this]
 rfl
def zI (ts) (h) (a:ts.length<64):c5 .sorted [.own (ts.map .str)] h= .ok (.own ((GA ts).map .str)) h:=by
 show(R.of h ((y0 _).bind GQ)).bind _=_
 rw [Ac9,ww,R.ag,R.aa,if_pos a]
def p8 (c) (h):Gs .eq (.v (.int (c % 2))) (.v (.int 1)) h=y0 (u9 (c % 2=1)):=Jv _ _ h
noncomputable abbrev iT (s:W) (r K T n:Nat) (ts:List Tx):Sl:= [y0 s,y0 (.v (.ref r)),y0 (.v (.int (K:Int))),y0 (.v (.int (T:Int))),y0 (.v (.int (n:Int))),y0 (.v (.lst (ts.map .str)))]
def Bk (k) (ns) (t:ns.length<=63) (h) (P:PH h): ∃K T h',K.length<=4/\T.length<=4/\Nm (K++T)/\PH h'/\h'.length=h.length/\call prog (k+4) "_law_words" [bC ns] h= .ok (.v (wD K T)) h':=by
 rw [Gb (d:=Jr) rfl _ _ _ rfl]
 obtain⟨l,j,i,p⟩:=jv _ ns t 0 h
 have p:call prog _ "_law_purse" [bC ns,.v _] h= .ok _ h:=p
 have P1:=P.app l j i
 have l1:(h++ [Cell.lst [D.int l,D.int j,D.int i]]).length=h.length+1:=by simp
 obtain⟨K,m,hK,P2,l2,s⟩:=Ze _ P1 (show h.length<(h++ [Cell.lst [D.int l,D.int j,D.int i]]).length by omega) (show 0<5 by decide) (by decide)
 obtain⟨T,u,hT,L,l3,r⟩:=Ze _ P2 (show h.length<m.length by omega) (show 0<5 by decide) (by decide)
 obtain⟨n,b,hn,C,l4,e4⟩:=Ze (k+2) L (show h.length<u.length by omega) (show 0<100000000 by decide) (by decide)
 have s:call prog (k+3) "_law_next" [.v _,.v (.int 5)] _= .ok _ m:=s
 have r:call prog (k+3) "_law_next" [.v (.ref h.length),.v (.int 5)] m= .ok (.v (.int (T:Int))) u:=r
 obtain⟨fs,y,A,H,e5⟩:=FR (k+2) (n / 2) (K+T) b (by omega)
 obtain⟨o,e⟩:=m6 (k+2) ns t 0 b
 have e:call prog (k+3) "_law_cell" [bC ns,.v (.int 0)] b= .ok (.v (.int o)) b:=e
 obtain⟨V,Q,Na,O,J,l5,G⟩:=zV k ns t K T (by omega) (by omega) b C
 have d1:Gi .fdiv (n:Int) 2=y0 ((n / 2:Nat):Int):=wR n 2 (by decide) (by decide)
 have z:Gi .mod (n:Int) 2=y0 ((n % 2:Nat):Int):=WL n 2 (by decide)
 have x:Gi .mod o 2=y0 (o % 2):=xn _ _ (by decide)
 have d4:=QE K T
 have B:Gs .eq (.v (.int ((n % 2:Nat):Int))) (.v (.int 1)) b=y0 (u9 (n % 2=1)):=Xb (n % 2) 1 b
 simp only [Jr]
 show ∃K T h',_/\_/\_/\_/\_/\Gu _ (execs _ _ [y0 (bC ns),u0,u0,u0,u0,u0] h)=_
 have p1:=Xj (F:=(k8 (k+3))) (f:= "_law_purse") (es:= .cons .v0 (.a (.int 0))) (Z:= [some (bC ns),none,none,none,none,none]) (h:=h) (ws:= [bC ns,.v (.int 0)]) (xs:= [D.int l,D.int j,D.int i]) rfl p rfl
 rw [za (Z1:= [y0 (bC ns),y0 (.v (.ref h.length)),u0,u0,u0,u0]) (h1:=h++ [Cell.lst [D.int l,D.int j,D.int i]]) (by rw [exec,p1];rfl)]
 rw [za (Z1:= [y0 (bC ns),y0 (.v (.ref h.length)),y0 (.v (.int (K:Int))),u0,u0,u0]) (h1:=m) (by simp_all [s])]
 rw [za (Z1:= [y0 (bC ns),y0 (.v (.ref h.length)),y0 (.v (.int (K:Int))),y0 (.v (.int (T:Int))),u0,u0]) (h1:=u) (by simp_all [r])]
 rw [za (Z1:= [y0 (bC ns),y0 (.v (.ref h.length)),y0 (.v (.int (K:Int))),y0 (.v (.int (T:Int))),y0 (.v (.int (n:Int))),u0]) (h1:=b) (by simp_all [AX,e4])]
 rw [za (Z1:=iT (bC ns) h.length K T n fs) (h1:=b) (by simp_all [d1,d4,e5])]
 have b1: ∃g:List Tx,Nm g/\g.length=K+T/\exec (k8 (k+3)) (.iff (.cmp .eq (.bin .mod .v4 (.int 2)) (.int 1)) (.a (.ae 5 (.rev .v5))) .nil) (iT (bC ns) h.length K T n fs) b= .next (iT (bC ns) h.length K T n g) b:=by
  by_cases q:n % 2=1
  ·refine⟨fs.reverse,Nm.rev ⟨A,H⟩,by simp [y],?_⟩
   rw [zg (h1:=b) (by simp_all [z,B,decide_eq_true q])]
   simp_all [W.i8]
   rw [← List.map_reverse]
  ·refine⟨fs,⟨A,H⟩,y,?_⟩
   rw [Zm (h1:=b) (by simp_all [z,B,decide_eq_false q])]
   rfl
 obtain⟨g,I,lt,X⟩:=b1
 rw [za X]
 have Y: ∃a c,Nm a/\a.length=K+T/\PH c/\c.length=b.length/\exec (k8 (k+3)) (.iff (.cmp .eq (.bin .mod (.call "_law_cell" (.b .v0 (.int 0))) (.int 2)) (.int 1)) (.a (.ae 5 (.call "_law_any_names" (.c .v0 .v2 .v3)))) .nil) (iT (bC ns) h.length K T n g) b= .next (iT (bC ns) h.length K T n a) c:=by
  by_cases q:o % 2=1
  ·refine⟨V,Q,Na,O,J,l5,?_⟩
   rw [zg (h1:=b) (by simp only [bC]at e;simp_all [e,x,p8,decide_eq_true q])]
   simp only [bC]at G
   simp_all [G]
  ·refine⟨g,b,I,lt,C,rfl,?_⟩
   rw [Zm (h1:=b) (by simp only [bC]at e;simp_all [e,x,p8,decide_eq_false q])]
   rfl
 obtain⟨a,c,Nu,lu,N,l6,S⟩:=Y
 rw [za S]
 have U:(a.take K).length=K:=by rw [Ae9];omega
 have lt2:(a.drop K).length=T:=by rw [Ai4];omega
 have pm:(GA (a.take K)++GA (a.drop K)).Perm a:=by
  have:=(Zg (a.take K)).append (Zg (a.drop K))
  rwa [Ak6]at this
 have M:Gm (wD (GA (a.take K)) (GA (a.drop K)))=true:=by simp [Zs]
 obtain⟨h7,v,E⟩:=oA (d:=wD (GA (a.take K)) (GA (a.drop K))) (n:=h.length) (h:=c) M (by omega)
 refine⟨GA (a.take K),GA (a.drop K),h7,?_,?_,Nu.perm pm,E▸N.take _,by rw [E,Ae9];omega,?_⟩
 ·rw [(Zg _).length_eq];omega
 ·rw [(Zg _).length_eq];omega
 rw [ja (w:= .v (wD (GA (a.take K)) (GA (a.drop K)))) (h1:=c) ?_,v]
 refine jc rfl ?_
 have c1:cut (a.map D.str) u0 (y0 (K:Int))=(a.take K).map .str:=by rw [wG,List.map_take]
 have c2:cut (a.map D.str) (y0 (K:Int)) u0=(a.drop K).map .str:=by rw [X0,List.map_drop]
 have s1:=zI (a.take K) c (by omega)
 have s2:=zI (a.drop K) c (by omega)
 simp only [eval,Gq,Gj,Gn,Gk,R.aa,int?_int,R.ag,pK,c1,c2,s1,s2,DA,W.dQ]
inductive Ex where
 | name (t:Tx)
 | same
 | all
 | none
 | turned (a:Ex)
 | closed (a:Ex)
 | plus (a b:Ex)
 | less (a b:Ex)
 | both (a b:Ex)
 | joined (a b:Ex)
abbrev xl:Tx:= [110,97,109,101]
abbrev Qh:Tx:= [115,97,109,101]
abbrev Xo:Tx:= [97,108,108]
abbrev wh:Tx:= [110,111,110,101]
abbrev Qi:Tx:= [112,108,117,115]
abbrev qh:Tx:= [108,101,115,115]
abbrev Jp:Tx:= [98,111,116,104]
abbrev We:Tx:= [106,111,105,110,101,100]
abbrev Wa:Tx:= [116,117,114,110,101,100]
abbrev Xa:Tx:= [99,108,111,115,101,100]
noncomputable def ay:Ex->D
 | .name t=> .tup [.str xl,.str t]
 | .same=> .tup [.str Qh]
 | .all=> .tup [.str Xo]
 | .none=> .tup [.str wh]
 | .turned a=> .tup [.str Wa,ay a]
 | .closed a=> .tup [.str Xa,ay a]
 | .plus a b=> .tup [.str Qi,ay a,ay b]
 | .less a b=> .tup [.str qh,ay a,ay b]
 | .both a b=> .tup [.str Jp,ay a,ay b]
 | .joined a b=> .tup [.str We,ay a,ay b]
def Ex.wf (N:List Tx):Ex->Prop
 | .name t=>t∈N
 | .turned a=>a.wf N
 | .closed a=>a.wf N
 | .plus a b=>a.wf N/\b.wf N
 | .less a b=>a.wf N/\b.wf N
 | .both a b=>a.wf N/\b.wf N
 | .joined a b=>a.wf N/\b.wf N
 | _=>True
noncomputable def Ex.dp:Ex->Nat
 | .turned a=>a.dp+1
 | .closed a=>a.dp+1
 | .plus a b=>max a.dp b.dp+1
 | .less a b=>max a.dp b.dp+1
 | .both a b=>max a.dp b.dp+1
 | .joined a b=>max a.dp b.dp+1
 | _=>0
def uu (N) (c:N.length<=100) (h):eval F Qp [a,y0 (.v (aL N)),x] h= .ok (.own (N.map λt=>ay (.name t))) h:=by
 rw [Qp,zo (ds:=N.map .str) (λd=> .tup [.str xl,d]) (by simp_all []) (by rw [Gc];simp;lia)]
 ·simp [ay]
 ·intro d b
  exact⟨[y0 _],rfl,_,rfl,rfl⟩
def my (k r) (N) (i:N.length<=100)(P:PH h) (j:r<h.length): ∃e h',e.wf N/\e.dp=0/\PH h'/\h'.length=h.length/\call prog (k+2) "_law_leaf" [.v (.ref r),.v (aL N)] h= .ok (.v (ay e)) h':=by
 obtain⟨v,b,p,o,a,d⟩:=Ze k P j (show 0<N.length+3 by omega) (by omega)
 have l: ∃e,Ex.wf N e/\e.dp=0/\((N.map λt=>ay (.name t))++ [ay .same,ay .all,ay .none])[v]? =y0 (ay e):=by
  by_cases q:v<N.length
  ·refine⟨.name N[v],Ak2 q,rfl,?_⟩
   rw [Ad2 (by simpa using q),Ad1,Aa7 q]
   rfl
  ·rw [Ad8 (by simpa using Nat.not_lt.mp q),Ac]
   have:v-N.length=0\/v-N.length=1\/v-N.length=2:=by omega
   rcases this with q | q | q<;>rw [q]
   ·exact⟨.same,trivial,rfl,rfl⟩
   ·exact⟨.all,trivial,rfl,rfl⟩
   ·exact⟨.none,trivial,rfl,rfl⟩
 obtain⟨e,n,g,m⟩:=l
 refine⟨e,b,n,g,o,a,?_⟩
 have f:((N.map λt=>ay (.name t))++ [ay .same,ay .all,ay .none]).length=N.length+3:=by simp
 have c:=zk ((N.map λt=>ay (.name t))++ [ay .same,ay .all,ay .none]) v (by omega)
 rw [m]at c
 rw [Gb rfl _ _ _ rfl]
 simp only [xH]
 show Gu _ (execs _ _ [y0 (.v (.ref r)),y0 (.v (aL N)),u0] h)=_
 rw [za (Z1:= [y0 (.v (.ref r)),y0 (.v (aL N)),y0 (.v (.lst ((N.map λt=>ay (.name t))++ [ay .same,ay .all,ay .none])))]) (h1:=h)]
 ·rw [ja (jc rfl ?_),Ga _ _ _ a]
  simp_all [tj,f,d,zG,c]
 ·rw [exec,eval,uu N i h,R.aa]
  simp only [eval,Gq,R.aa,W.dQ,R.ag,pL]
  rw [if_pos (by rw [Gc];simp;omega)]
  rfl
def AQ (s:Nat) (h1:0<s) (h2:s<3): ∃f:Ex->Ex,(∀ a,(f a).dp=a.dp+1)/\(∀ N a,a.wf N->(f a).wf N)/\ ∃t,aQ [D.str Wa,.str Xa] ((s:Int)-1)=y0 (.str t)/\ ∀a,ay (f a)= .tup [.str t,ay a]:=by
 match s,h1,h2 with
 | 1,_,_=>exact⟨.turned,λ_=>rfl,λ_ _ h=>h,Wa,rfl,λ_=>rfl⟩
 | 2,_,_=>exact⟨.closed,λ_=>rfl,λ_ _ h=>h,Xa,rfl,λ_=>rfl⟩
 | s+3,_,h=>exact absurd h (by lia)
def Cw (s:Nat) (h1:3<=s) (h2:s<9): ∃f:Ex->Ex->Ex,(∀ a b,(f a b).dp=max a.dp b.dp+1)/\(∀ N a b,a.wf N->b.wf N->(f a b).wf N)/\ ∃t,aQ [D.str Qi,.str qh,.str Jp,.str We,.str qh,.str We] ((s:Int)-3)=y0 (.str t)/\ ∀a b,ay (f a b)= .tup [.str t,ay a,ay b]:=by
 match s,h1,h2 with
 | 3,_,_=>exact⟨.plus,λ_ _=>rfl,λ_ _ _ h g=>⟨h,g⟩,Qi,rfl,λ_ _=>rfl⟩
 | 4,_,_=>exact⟨.less,λ_ _=>rfl,λ_ _ _ h g=>⟨h,g⟩,qh,rfl,λ_ _=>rfl⟩
 | 5,_,_=>exact⟨.both,λ_ _=>rfl,λ_ _ _ h g=>⟨h,g⟩,Jp,rfl,λ_ _=>rfl⟩
 | 6,_,_=>exact⟨.joined,λ_ _=>rfl,λ_ _ _ h g=>⟨h,g⟩,We,rfl,λ_ _=>rfl⟩
 | 7,_,_=>exact⟨.less,λ_ _=>rfl,λ_ _ _ h g=>⟨h,g⟩,qh,rfl,λ_ _=>rfl⟩
 | 8,_,_=>exact⟨.joined,λ_ _=>rfl,λ_ _ _ h g=>⟨h,g⟩,We,rfl,λ_ _=>rfl⟩
 | s+9,_,h=>exact absurd h (by lia)
theorem Zl (r) (N) (j:N.length<=100): ∀(d k:Nat) (h:AH),PH h->r<h.length-> ∃e h',e.wf N/\e.dp<=d/\PH h'/\h'.length=h.length/\call prog (k+d+3) "_law_expression" [.v (.ref r),.v (.int (d:Int)),.v (aL N)] h= .ok (.v (ay e)) h'
 | 0,k,h,P,v=>by
  obtain⟨e,c,B,D,n,o,i⟩:=my k r N j P v
  refine⟨e,c,B,Ak9 D,n,o,?_⟩
  rw [Gb (d:=Wd) rfl _ _ _ rfl]
  have z:Gs .gt (.v (.int ((0:Nat):Int))) (.v (.int 0)) h=y0 false:=rfl
  have l:Gs .eq (.v (.int 0)) (.v (.int 0)) h=y0 true:=Xb 0 0 h
  simp_all [Wd,z,l,i]
  rw [Ga _ _ _ o]
 | d+1,k,h,P,v=>by
  obtain⟨s,c,K,n,o,i⟩:=Ze (k+d+2) P v (show 0<9 by decide) (by decide)
  have i:call prog (k+d+3) "_law_next" [.v (.ref r),.v (.int 9)] h= .ok (.v (.int (s:Int))) c:=i
  have z:Gs .gt (.v (.int ((d+1:Nat):Int))) (.v (.int 0)) h=y0 true:=by
   rw [WM];congr 1;exact decide_eq_true (by omega)
  have l: ∀h,Gs .eq (.v (.int (s:Int))) (.v (.int 0)) h=y0 (u9 (s=0)):=λh=>Xb s 0 h
  have G:Gi .sub ((d+1:Nat):Int) 1=y0 (d:Int):=by rw [jn];congr 1;omega
  rw [show k+(d+1)+3=k+d+4 by omega,Gb (d:=Wd) rfl _ _ _ rfl]
  simp only [Wd]
  show ∃e h',_/\_/\_/\_/\Gu _ (execs _ _ [y0 (.v (.ref r)),y0 (.v (.int ((d+1:Nat):Int))),y0 (.v (aL N)),u0,u0,u0] h)=_
  rw [za (Z1:= [y0 (.v (.ref r)),y0 (.v (.int ((d+1:Nat):Int))),y0 (.v (aL N)),y0 (.v (.int 0)),u0,u0]) (h1:=h) rfl]
  rw [za (Z1:= [y0 (.v (.ref r)),y0 (.v (.int ((d+1:Nat):Int))),y0 (.v (aL N)),y0 (.v (.int (s:Int))),u0,u0]) (h1:=c) (by simp_all [z,i])]
  by_cases F:s=0
  ·obtain⟨e,g,B,D,m,L,q⟩:=my (k+d+1) r N j n (show r<c.length by omega)
   refine⟨e,g,B,by omega,m,by omega,?_⟩
   rw [ja (w:= .v (ay e)) (h1:=g) (by simp_all [l,decide_eq_true F,q]),Ga _ _ _ (by omega)]
  ·obtain⟨a,g,E,Q,m,L,q⟩:=Zl r N j d k c n (by omega)
   rw [za (Z1:= [y0 (.v (.ref r)),y0 (.v (.int ((d+1:Nat):Int))),y0 (.v (aL N)),y0 (.v (.int (s:Int))),u0,u0]) (h1:=c) (by simp_all [l,decide_eq_false F])]
   rw [za (Z1:= [y0 (.v (.ref r)),y0 (.v (.int ((d+1:Nat):Int))),y0 (.v (aL N)),y0 (.v (.int (s:Int))),y0 (.v (ay a)),u0]) (h1:=g) (by simp_all [G,q])]
   by_cases M:s<3
   ·obtain⟨f,p,C,t,x,y⟩:=AQ s (by omega) M
    have u:Gs .lt (.v (.int (s:Int))) (.v (.int 3)) g=y0 true:=by
     rw [Qo];congr 1;exact decide_eq_true (by omega)
    refine⟨f a,g,C N a E,by rw [p];omega,m,by omega,?_⟩
    rw [ja (w:= .v (ay (f a))) (h1:=g) (by simp_all [u,jn,Jh,x,y]),Ga _ _ _ (by omega)]
   ·obtain⟨f,p,C,t,x,y⟩:=Cw s (by omega) K
    obtain⟨b,A,H,O,I,R,J⟩:=Zl r N j d k g m (by omega)
    have u:Gs .lt (.v (.int (s:Int))) (.v (.int 3)) g=y0 false:=by
     rw [Qo];congr 1;exact decide_eq_false (by omega)
    refine⟨f a b,A,C N a b E H,by rw [p];omega,I,by omega,?_⟩
    rw [za (Z1:= [y0 (.v (.ref r)),y0 (.v (.int ((d+1:Nat):Int))),y0 (.v (aL N)),y0 (.v (.int (s:Int))),y0 (.v (ay a)),u0]) (h1:=g) (by simp_all [u])]
    rw [za (Z1:= [y0 (.v (.ref r)),y0 (.v (.int ((d+1:Nat):Int))),y0 (.v (aL N)),y0 (.v (.int (s:Int))),y0 (.v (ay a)),y0 (.v (ay b))]) (h1:=A) (by simp_all [G,J])]
    rw [ja (w:= .v (ay (f a b))) (h1:=A) (by simp_all [jn,Jh,x,y]),Ga _ _ _ (by omega)]
def Je (s t) (h):Gs .eq (.v (.str s)) (.v (.str t)) h=y0 (s==t):=by simp [GK]
def Zn (t) (ts) (h):Gs .mem (.v (.str t)) (.v (aL ts)) h=y0 (u9 (t∈ts)):=xu t ts (.v (aL ts)) h rfl rfl
def qa (e:Gf F c Z h= .ok y9 h):execs F (.cons (.iff c a .nil) ss) Z h=execs F ss Z h:=za (Zm e)
def zf (e:Gf F c Z h= .ok k9 h) (r:exec F s Z h= .ret w h):execs F (.cons (.iff c (.cons s .nil) .nil) ss) Z h= .ret w h:=ja ((zg e).trans (ja r))
def xx (x y) (r:List D):aQ (x::y::r) 1=y0 y:=by
 have:=zk (x::y::r) 1 (by simp)
 exact this
abbrev zd:Tx:= [108,101,97,115,116]
abbrev Jg:Tx:= [109,111,115,116]
abbrev wn:Tx:= [101,97,99,104,108,101,97,115,116]
abbrev Xs:Tx:= [101,97,99,104,109,111,115,116]
abbrev jK:Tx:= [105,110]
abbrev zj:Tx:= [101,113,117,97,108]
abbrev qj:Tx:= [115,111,109,101]
abbrev WR:Tx:= [110,111]
inductive Fc where
 | fF (a b:Ex)
 | gy (a b:Ex)
 | eY (a:Ex)
 | aj (a:Ex)
 | cnt (s:Tx) (k:Nat) (a:Ex)
def cC:Fc->D
 | .fF a b=> .tup [.str jK,ay a,ay b]
 | .gy a b=> .tup [.str zj,ay a,ay b]
 | .eY a=> .tup [.str qj,ay a]
 | .aj a=> .tup [.str WR,ay a]
 | .cnt s k a=> .tup [.str s,.int (k:Int),ay a]
def Fc.wf (N:List Tx):Fc->Prop
 | .fF a b=>a.wf N/\b.wf N
 | .gy a b=>a.wf N/\b.wf N
 | .eY a=>a.wf N
 | .aj a=>a.wf N
 | .cnt s k a=>(s∈ [zd,Jg,wn,Xs]/\k<100)/\a.wf N
def Fc.dp:Fc->Nat
 | .fF a b=>max a.dp b.dp
 | .gy a b=>max a.dp b.dp
 | .eY a=>a.dp
 | .aj a=>a.dp
 | .cnt _ _ a=>a.dp
def C6 (s:Nat) (a:4<=s) (b:s<8): ∃t∈ [zd,Jg,wn,Xs],aQ [D.str zd,.str Jg,.str wn,.str Xs] ((s:Int)-4)=y0 (.str t):=by
 match s,a,b with
 | 4,_,_=>exact⟨zd,by decide,rfl⟩
 | 5,_,_=>exact⟨Jg,by decide,rfl⟩
 | 6,_,_=>exact⟨wn,by decide,rfl⟩
 | 7,_,_=>exact⟨Xs,by decide,rfl⟩
 | s+8,_,h=>exact absurd h (by lia)
abbrev kM (r:Nat) (N:List Tx) (x2 x3 x4:Option W):Sl:= [y0 (.v (.ref r)),y0 (.v (aL N)),x2,x3,x4]
def sL (k r) (N) (G:N.length<=100)(P:PH h) (M:r<h.length): ∃f h',Fc.wf N f/\f.dp<=3/\PH h'/\h'.length=h.length/\call prog (k+7) "_law_fact" [.v (.ref r),.v (aL N)] h= .ok (.v (cC f)) h':=by
 obtain⟨s,g,O,U,Y,q⟩:=Ze _ P M (show 0<8 by decide) (by decide)
 have q:call prog (k+6) "_law_next" [.v _,.v (.int 8)] h= .ok (.v (.int (s:Int))) g:=q
 obtain⟨d,J,Z,T,l2,B⟩:=Ze (k+5) U (show r<g.length by omega) (show 0<4 by decide) (by decide)
 have B:call prog (k+6) "_law_next" [.v (.ref r),.v (.int 4)] g= .ok (.v (.int (d:Int))) J:=B
 obtain⟨a,e,o,da,x,l3,F⟩:=Zl r N G d (k+3-d) J T (by omega)
 rw [show k+3-d+d+3=k+6 by omega]at F
 rw [Gb (d:=zw) rfl _ _ _ rfl]
 simp only [zw]
 show ∃f h',_/\_/\_/\_/\Gu _ (execs _ _ (kM r N u0 u0 u0) h)=_
 rw [za (Z1:=kM r N (y0 (.v (.int (s:Int)))) u0 u0) (h1:=g) (by simp_all [q])]
 rw [za (Z1:=kM r N (y0 (.v (.int (s:Int)))) (y0 (.v (ay a))) u0) (h1:=e) (by simp_all [B,F])]
 by_cases I:s<2
 ·obtain⟨c,m,H,A,R,l⟩:=Ze (k+5) x (show r<e.length by omega) (show 0<3 by decide) (by decide)
  have l:call prog (k+6) "_law_next" [.v (.ref r),.v (.int 3)] e= .ok (.v (.int (c:Int))) m:=l
  obtain⟨b,i,E,W,v,S,n⟩:=Zl r N G c (k+3-c) m A (by omega)
  rw [show k+3-c+c+3=k+6 by omega]at n
  have z:Gs .lt (.v (.int (s:Int))) (.v (.int 2)) e=y0 true:=by
   rw [Qo];congr 1;exact decide_eq_true (by omega)
  obtain⟨f,wf,C,t,p,y⟩: ∃f:Fc,f.wf N/\f.dp<=3/\ ∃t,aQ [D.str jK,.str zj] (s:Int)=y0 (.str t)/\cC f= .tup [.str t,ay a,ay b]:=by
   match s,I with
   | 0,_=>exact⟨.fF a b,⟨o,E⟩,by simp only [Fc.dp];omega,jK,rfl,rfl⟩
   | 1,_=>exact⟨.gy a b,⟨o,E⟩,by simp only [Fc.dp];omega,zj,rfl,rfl⟩
   | s+2,h=>exact absurd h (by omega)
  refine⟨f,i,wf,C,v,by omega,?_⟩
  rw [ja (w:= .v (cC f)) (h1:=i) (by simp_all [z,Jh,p,l,n,y]),Ga _ _ _ (by omega)]
 rw [qa (by
  have z:Gs .lt (.v (.int (s:Int))) (.v (.int 2)) e=y0 false:=by
   rw [Qo];congr 1;exact decide_eq_false (by omega)
  simp_all [z])]
 by_cases Q:s<4
 ·have z:Gs .lt (.v (.int (s:Int))) (.v (.int 4)) e=y0 true:=by
   rw [Qo];congr 1;exact decide_eq_true (by omega)
  obtain⟨f,wf,C,t,p,y⟩: ∃f:Fc,f.wf N/\f.dp<=3/\ ∃t,aQ [D.str qj,.str WR] ((s:Int)-2)=y0 (.str t)/\cC f= .tup [.str t,ay a]:=by
   match s,I,Q with
   | 0,h,_=>exact absurd h (by omega)
   | 1,h,_=>exact absurd h (by omega)
   | 2,_,_=>exact⟨.eY a,o,by simp only [Fc.dp];omega,qj,rfl,rfl⟩
   | 3,_,_=>exact⟨.aj a,o,by simp only [Fc.dp];omega,WR,rfl,rfl⟩
   | s+4,_,h=>exact absurd h (by omega)
  refine⟨f,e,wf,C,x,by omega,?_⟩
  rw [ja (w:= .v (cC f)) (h1:=e) (by simp_all [z,jn,Jh,p,y]),Ga _ _ _ (by omega)]
 rw [qa (by
  have z:Gs .lt (.v (.int (s:Int))) (.v (.int 4)) e=y0 false:=by
   rw [Qo];congr 1;exact decide_eq_false (by omega)
  simp_all [z])]
 obtain⟨c,m,H,A,R,l⟩:=Ze (k+5) x (show r<e.length by omega) (show 0<3 by decide) (by decide)
 have l:call prog (k+6) "_law_next" [.v (.ref r),.v (.int 3)] e= .ok (.v (.int (c:Int))) m:=l
 obtain⟨u,L,V,X⟩: ∃u:Nat,aQ [D.int 5,.int 18,.int 100] (c:Int)=y0 (.int (u:Int))/\0<u/\u<=100:=by
  match c,H with
  | 0,_=>exact⟨5,rfl,by decide,by decide⟩
  | 1,_=>exact⟨18,rfl,by decide,by decide⟩
  | 2,_=>exact⟨100,rfl,by decide,by decide⟩
  | c+3,h=>exact absurd h (by omega)
 obtain⟨j,i,hj,v,S,n⟩:=Ze (k+5) A (show r<m.length by omega) V (by omega)
 have n:call prog (k+6) "_law_next" [.v (.ref r),.v (.int (u:Int))] m= .ok (.v (.int (j:Int))) i:=n
 obtain⟨t,p,K⟩:=C6 s (by omega) O
 refine⟨.cnt t j a,i,⟨⟨p,by omega⟩,o⟩,by simp only [Fc.dp];omega,v,by omega,?_⟩
 rw [za (Z1:=kM r N (y0 (.v (.int (s:Int)))) (y0 (.v (ay a))) (y0 (.v (.int (j:Int))))) (h1:=i) (by simp_all [Jh,l,L,n])]
 rw [ja (w:= .v (cC (.cnt t j a))) (h1:=i) (by simp_all [jn,Jh,K,cC]),Ga _ _ _ (by omega)]
abbrev Xk:Tx:= [110,111,116]
abbrev js:Tx:= [97,110,100]
abbrev jV:Tx:= [111,114]
inductive Sy where
 | fact (f:Fc)
 | neg (a:Sy)
 | cV (a b:Sy)
 | cW (a b:Sy)
def bS:Sy->D
 | .fact f=>cC f
 | .neg a=> .tup [.str Xk,bS a]
 | .cV a b=> .tup [.str js,bS a,bS b]
 | .cW a b=> .tup [.str jV,bS a,bS b]
def Sy.wf (N:List Tx):Sy->Prop
 | .fact f=>f.wf N
 | .neg a=>a.wf N
 | .cV a b=>a.wf N/\b.wf N
 | .cW a b=>a.wf N/\b.wf N
def Sy.dp:Sy->Nat
 | .fact f=>f.dp
 | .neg a=>a.dp+1
 | .cV a b=>max a.dp b.dp+1
 | .cW a b=>max a.dp b.dp+1
abbrev kB (r d:Nat) (N:List Tx) (x3 x4:Option W):Sl:= [y0 (.v (.ref r)),y0 (.v (.int (d:Int))),y0 (.v (aL N)),x3,x4]
theorem xI (r) (N) (l:N.length<=100): ∀(d k:Nat) (h:AH),PH h->r<h.length-> ∃s h',Sy.wf N s/\s.dp<=d+3/\PH h'/\h'.length=h.length/\call prog (k+d+8) "_law_saying" [.v (.ref r),.v (.int (d:Int)),.v (aL N)] h= .ok (.v (bS s)) h'
 | 0,k,h,P,v=>by
  obtain⟨f,c,wf,o,n,p,i⟩:=sL k r N l P v
  refine⟨.fact f,c,wf,by simpa [Sy.dp]using o,n,p,?_⟩
  rw [Gb (d:=Ji) rfl _ _ _ rfl]
  have z:Gs .gt (.v (.int ((0:Nat):Int))) (.v (.int 0)) h=y0 false:=rfl
  have H:Gs .lt (.v (.int 0)) (.v (.int 3)) h=y0 true:=rfl
  have i:call prog (k+0+7) "_law_fact" [.v (.ref r),.v (aL N)] h= .ok (.v (cC f)) c:=i
  simp_all [Ji,z,H,i,bS]
  rw [Ga _ _ _ p]
 | d+1,k,h,P,v=>by
  obtain⟨s,c,L,n,p,i⟩:=Ze (k+d+7) P v (show 0<6 by decide) (by decide)
  have i:call prog (k+d+8) "_law_next" [.v (.ref r),.v (.int 6)] h= .ok (.v (.int (s:Int))) c:=i
  have z:Gs .gt (.v (.int ((d+1:Nat):Int))) (.v (.int 0)) h=y0 true:=by
   rw [WM];congr 1;exact decide_eq_true (by omega)
  have C:Gi .sub ((d+1:Nat):Int) 1=y0 (d:Int):=by rw [jn];congr 1;omega
  rw [show k+(d+1)+8=k+d+9 by omega,Gb (d:=Ji) rfl _ _ _ rfl]
  simp only [Ji]
  show ∃e h',_/\_/\_/\_/\Gu _ (execs _ _ (kB r (d+1) N u0 u0) h)=_
  rw [za (Z1:=kB r (d+1) N (y0 (.v (.int 0))) u0) (h1:=h) rfl]
  rw [za (Z1:=kB r (d+1) N (y0 (.v (.int (s:Int)))) u0) (h1:=c) (by simp_all [z,i])]
  by_cases O:s<3
  ·obtain⟨f,g,wf,o,m,I,j⟩:=sL (k+d+1) r N l n (show r<c.length by omega)
   have j:call prog (k+d+8) "_law_fact" [.v (.ref r),.v (aL N)] c= .ok (.v (cC f)) g:=j
   have u:Gs .lt (.v (.int (s:Int))) (.v (.int 3)) c=y0 true:=by
    rw [Qo];congr 1;exact decide_eq_true (by omega)
   refine⟨.fact f,g,wf,by simp only [Sy.dp];omega,m,by omega,?_⟩
   rw [ja (w:= .v (bS (.fact f))) (h1:=g) (by simp_all [u,j,bS]),Ga _ _ _ (by omega)]
  ·obtain⟨a,g,q,M,m,I,j⟩:=xI r N l d k c n (by omega)
   rw [qa (by
    have u:Gs .lt (.v (.int (s:Int))) (.v (.int 3)) c=y0 false:=by
     rw [Qo];congr 1;exact decide_eq_false (by omega)
    simp_all [u])]
   rw [za (Z1:=kB r (d+1) N (y0 (.v (.int (s:Int)))) (y0 (.v (bS a)))) (h1:=g) (by simp_all [C,j])]
   have y:Gs .eq (.v (.int (s:Int))) (.v (.int 3)) g=y0 (u9 (s=3)):=Xb s 3 g
   by_cases A:s=3
   ·refine⟨.neg a,g,q,by simp only [Sy.dp];omega,m,by omega,?_⟩
    rw [ja (w:= .v (bS (.neg a))) (h1:=g) (by simp_all [y,decide_eq_true A,bS]),Ga _ _ _ (by omega)]
   ·obtain⟨b,B,x,K,E,Q,G⟩:=xI r N l d k g m (by omega)
    obtain⟨f,wf,o,t,J,F⟩: ∃f:Sy,f.wf N/\f.dp<=d+1+3/\ ∃t,aQ [D.str js,.str jV] ((s:Int)-4)=y0 (.str t)/\bS f= .tup [.str t,bS a,bS b]:=by
     have:s=4\/s=5:=by omega
     rcases this with rfl | rfl
     ·exact⟨.cV a b,⟨q,x⟩,by simp only [Sy.dp];omega,js,rfl,rfl⟩
     ·exact⟨.cW a b,⟨q,x⟩,by simp only [Sy.dp];omega,jV,rfl,rfl⟩
    refine⟨f,B,wf,o,E,by omega,?_⟩
    rw [qa (by simp_all [y,decide_eq_false A])]
    rw [ja (w:= .v (bS f)) (h1:=B) (by simp_all [jn,Jh,J,C,G,F]),Ga _ _ _ (by omega)]
def aY:Ex->Nat
 | .plus _ _=>0
 | .less _ _=>0
 | .both _ _=>1
 | .joined _ _=>2
 | _=>3
def br (c:Bool) (o k:Nat) (t:Tx):Tx:=if c then o::(t++ [k])else t
noncomputable def bT:Ex->Tx
 | .name t=>t
 | .same=>Qh
 | .all=>Xo
 | .none=>wh
 | .turned a=>126::br (u9 (aY a<3)) 40 41 (bT a)
 | .closed a=>94::br (u9 (aY a<3)) 40 41 (bT a)
 | .plus a b=>br (u9 (aY a<0)) 40 41 (bT a)++(32::43::32::br (u9 (aY b<1)) 40 41 (bT b))
 | .less a b=>br (u9 (aY a<0)) 40 41 (bT a)++(32::45::32::br (u9 (aY b<1)) 40 41 (bT b))
 | .both a b=>br (u9 (aY a<1)) 40 41 (bT a)++(32::38::32::br (u9 (aY b<2)) 40 41 (bT b))
 | .joined a b=>br (u9 (aY a<2)) 40 41 (bT a)++(32::46::32::br (u9 (aY b<3)) 40 41 (bT b))
def Wk (c) (o k) (t):(br c o k t).length<=t.length+2:=by unfold br;split<;>simp
def XI (c) (o k) (t):t.length<=(br c o k t).length:=by unfold br;split<;>simp<;>lia
def zq (a l:Nat) (h):Gs .lt (.v (.int (a:Int))) (.v (.int (l:Int))) h=y0 (u9 (a<l)):=by
 rw [Qo];congr 1;rw [decide_eq_decide];omega
section
variable {m:Nat}{h:AH}{a b:Ex}
def Z4 (x y z:D):aQ [x,y,z] 2=y0 z:=rfl
end
def qI (m) (h) (e):call prog (m+1) "_law_level" [.v (ay e)] h= .ok (.v (.int (aY e:Nat))) h:=by
 cases e with
 | name t=>rw [Gb rfl _ _ _ rfl,show execs _ _ _ h= .ret (.v (.int 3)) h from rfl,Ga _ _ _ rfl];rfl
 | same=>rw [Gb rfl _ _ _ rfl,show execs _ _ _ h= .ret (.v (.int 3)) h from rfl,Ga _ _ _ rfl];rfl
 | all=>rw [Gb rfl _ _ _ rfl,show execs _ _ _ h= .ret (.v (.int 3)) h from rfl,Ga _ _ _ rfl];rfl
 | none=>rw [Gb rfl _ _ _ rfl,show execs _ _ _ h= .ret (.v (.int 3)) h from rfl,Ga _ _ _ rfl];rfl
 | turned a=>rw [Gb rfl _ _ _ rfl,show execs _ _ _ h= .ret (.v (.int 3)) h from rfl,Ga _ _ _ rfl];rfl
 | closed a=>rw [Gb rfl _ _ _ rfl,show execs _ _ _ h= .ret (.v (.int 3)) h from rfl,Ga _ _ _ rfl];rfl
 | plus a b=>rw [Gb rfl _ _ _ rfl,show execs _ _ _ h= .ret (.v (.int 0)) h from rfl,Ga _ _ _ rfl];rfl
 | less a b=>rw [Gb rfl _ _ _ rfl,show execs _ _ _ h= .ret (.v (.int 0)) h from rfl,Ga _ _ _ rfl];rfl
 | both a b=>rw [Gb rfl _ _ _ rfl,show execs _ _ _ h= .ret (.v (.int 1)) h from rfl,Ga _ _ _ rfl];rfl
 | joined a b=>rw [Gb rfl _ _ _ rfl,show execs _ _ _ h= .ret (.v (.int 2)) h from rfl,Ga _ _ _ rfl];rfl
abbrev tS (d:D) (l:Nat) (x2 x3 x4 x5:Option W):Sl:= [y0 (.v d),y0 (.v (.int (l:Int))),x2,x3,x4,x5]
def iY:Ss:= .cons (.r (.cmp .lt (.call "_law_level" (.a .v0)) .v1) (.bin .add (.bin .add (.str [40]) .v3) (.str [41]))) (.a (.ret .v3))
def kJ:Ss:= .cons (.ae 4 (.dg [(gU,[32,43,32]),(fY,[32,45,32]),(gD,[32,38,32]),(fj,[32,46,32])] 2)) (.cons (.ae 5 (.call "_law_level" (.a .v0))) (.a (.ae 3 (.bin .add (.bin .add (.call "_law_text" (.b (.ix .v0 (.int 1)) .v5)) .v4) (.call "_law_text" (.b (.ix .v0 (.int 2)) (.bin .add .v5 (.int 1))))))))
def gK:Ss:= .cons (.iff (.cmp .lt (.call "_law_level" (.a .v0)) (.int 3)) kJ .nil) iY
section
variable {m l:Nat}{h:AH}{a b e:Ex}{x2 x3 x4 x5:Option W}{t:Tx}
def p9 (b:t.length<=900000):execs (k8 (m+1)) iY (tS (ay e) l x2 (y0 (.v (.str t))) x4 x5) h= .ret (.v (.str (br (u9 (aY e<l)) 40 41 t))) h:=by
 have a:Gf (k8 (m+1)) (.cmp .lt (.call "_law_level" (.a .v0)) .v1) (tS (ay e) l x2 (some (.v (.str t))) x4 x5) h= .ok (decide (aY e<l)) h:=by
  simp_all [qI,zq]
 unfold iY
 cases q:u9 (aY e<l)with
 | true=>
  rw [q]at a
  refine zf a (jc rfl ?_)
  simp_all [Qd]
  rw [if_pos (by rw [Gc];simp;lia)]
  simp only [R.aa,Qd]
  rw [if_pos (by rw [Gc];simp;lia)]
  rfl
 | false=>
  rw [q]at a
  rw [qa a]
  rfl
def mh (a:aY e=3) (b:t.length<=900000):execs (k8 (m+1)) gK (tS (ay e) l x2 (y0 (.v (.str t))) x4 x5) h= .ret (.v (.str (br (u9 (aY e<l)) 40 41 t))) h:=by
 unfold gK
 rw [qa,p9 b]
 have:=zq (aY e) 3 h
 rw [a]at this
 have z:Gs .lt _ (.v (.int 3)) h=y0 false:=this
 simp_all [qI,a,z]
def yd (s:Tx) (g k:Nat) (d:aY e=k) (p:ay e= .tup [.str s,ay a,ay b]) (c:(s,g,k)∈ [(Qi,43,0),(qh,45,0),(Jp,38,1),(We,46,2)]) (t:(bT a).length+(bT b).length<=800000)
 (r: ∀l:Nat,call prog (m+1) "_law_text" [.v (ay a),.v (.int (l:Int))] h= .ok (.v (.str (br (decide (aY a<l)) 40 41 (bT a)))) h) (n: ∀l:Nat,call prog (m+1) "_law_text" [.v (ay b),.v (.int (l:Int))] h= .ok (.v (.str (br (decide (aY b<l)) 40 41 (bT b)))) h):
 execs (k8 (m+1)) gK (tS (ay e) l (y0 (.v (.str s))) x3 x4 x5) h= .ret (.v (.str (br (u9 (aY e<l)) 40 41 (br (u9 (aY a<k)) 40 41 (bT a)++(32::g::32::br (u9 (aY b<k+1)) 40 41 (bT b)))))) h:=by
 have v:=Wk (u9 (aY a<k)) 40 41 (bT a)
 have u:=Wk (u9 (aY b<k+1)) 40 41 (bT b)
 have q:k<3:=by
  simp only [Aa5,Ab0,or_false,Prod.mk.injEq]at c
  omega
 have i: ∀h,GP [(gU,[32,43,32]),(fY,[32,45,32]),(gD,[32,38,32]),(fj,[32,46,32])] (y0 (.v (.str s))) h=aH (.str [32,g,32]) h:=by
  simp only [Aa5,Ab0,or_false,Prod.mk.injEq]at c
  rcases c with⟨rfl,rfl,rfl⟩ | ⟨rfl,rfl,rfl⟩ | ⟨rfl,rfl,rfl⟩ | ⟨rfl,rfl,rfl⟩<;>exact λ_=>rfl
 have f:=r k
 have j:=n (k+1)
 have o:((k:Int)+1)=((k+1:Nat):Int):=by omega
 unfold gK
 rw [za (Z1:=tS _ l (y0 (.v (.str s))) (y0 (.v (.str (br (u9 (aY a<k)) 40 41 (bT a)++(32::g::32::br (u9 (aY b<k+1)) 40 41 (bT b)))))) (y0 (.v (.str [32,g,32]))) (y0 (.v (.int (k:Int))))) (h1:=h),p9 (by simp;omega)]
 rw [zg (h1:=h)]
 ·unfold kJ
  rw [za (Z1:=tS (ay e) l (y0 (.v (.str s))) x3 (y0 (.v (.str [32,g,32]))) x5) (h1:=h) (by simp_all [i])]
  rw [za (Z1:=tS (ay e) l (y0 (.v (.str s))) x3 (y0 (.v (.str [32,g,32]))) (y0 (.v (.int (k:Int))))) (h1:=h) (by simp_all [qI,d])]
  rw [za (Z1:=tS _ l _ _ _ _) (h1:=h)]
  ·rfl
  ·simp_all [p,av,xx,Z4,f,Qd]
   rw [if_pos (by rw [Gc];simp;omega)]
   simp only [R.aa,xb,R.ag,o,Ac0,Ah4,W.eN,j,Qd]
   rw [if_pos (by rw [Gc];simp;omega)]
   simp only [R.aC,W.dQ,Af2,Ai5,Ag4]
 ·have:=zq (aY e) 3 h
  rw [d,decide_eq_true q]at this
  have z:Gs .lt _ (.v (.int 3)) h=y0 true:=this
  simp_all [qI,d,z]
end
def sH (i:Nat) (c:Nat) (h:AH) (a:(i,c)∈ [(0,126),(1,94)]):cR (.v (.str fm)) (.v (.int (i:Int))) h=y0 (.str [c]):=by
 rw [Jx,if_pos (by rw [Gc];decide)]
 simp [Prod.mk.injEq]at a
 rcases a with⟨rfl,rfl⟩ | ⟨rfl,rfl⟩<;>rfl
def Fj (h:AH): ∀(e:Ex),(bT e).length<=700000-> ∀m,e.dp+1<=m-> ∀l:Nat,call prog (m+1) "_law_text" [.v (ay e),.v (.int (l:Int))] h= .ok (.v (.str (br (decide (aY e<l)) 40 41 (bT e)))) h:=by
 have two: ∀(e a b:Ex) (s:Tx) (g k:Nat),aY e=k->ay e= .tup [.str s,ay a,ay b]->bT e=br (u9 (aY a<k)) 40 41 (bT a)++(32::g::32::br (u9 (aY b<k+1)) 40 41 (bT b))->e.dp=max a.dp b.dp+1->(s,g,k)∈ [_,_,_,_] →
  ((bT a).length<=700000-> ∀m,a.dp+1<=m-> ∀l:Nat,call prog (m+1) "_law_text" [.v (ay a),.v (.int (l:Int))] h= .ok (.v (.str (br (decide (aY a<l)) 40 41 (bT a)))) h)->((bT b).length<=700000-> ∀m,b.dp+1<=m-> ∀l:Nat,call prog (m+1) "_law_text" [.v (ay b),.v (.int (l:Int))] h= .ok (.v (.str (br (decide (aY b<l)) 40 41 (bT b)))) h) →
  (bT e).length<=700000-> ∀m,e.dp+1<=m-> ∀l:Nat,call prog (m+1) "_law_text" [.v (ay e),.v (.int (l:Int))] h= .ok (.v (.str (br (decide (aY e<l)) 40 41 (bT e)))) h:=fun e a b s g k w A y E u i j c m p l=>by
  have G:=XI (u9 (aY a<k)) 40 41 (bT a)
  have F:=XI (u9 (aY b<k+1)) 40 41 (bT b)
  rw [y]at c
  simp only [Aa3,Aa2]at c
  obtain⟨n,rfl⟩: ∃n,m=n+1:=⟨m-1,by omega⟩
  have B:=yd (m:=n) (l:=l) (h:=h) (x3:=y0 (.v (.str s))) (x4:=u0) (x5:=u0) s g k w A u (by omega) (i (by omega) n (by omega)) (j (by omega) n (by omega))
  rw [Gb (d:=az) rfl _ _ _ rfl]
  have v:execs (k8 (n+1)) az.body (tS (ay e) l u0 u0 u0 u0) h=execs (k8 (n+1)) gK (tS (ay e) l (y0 (.v (.str s))) (y0 (.v (.str s))) u0 u0) h:=by
   rw [A]
   simp only [az]
   simp only [Aa5,Ab0,or_false,Prod.mk.injEq]at u
   rcases u with⟨rfl,_,_⟩ | ⟨rfl,_,_⟩ | ⟨rfl,_,_⟩ | ⟨rfl,_,_⟩
   ·rw [za (Z1:=tS (.tup [.str Qi,ay a,ay b]) l (y0 (.v (.str Qi))) u0 u0 u0) (h1:=h) rfl,za (Z1:=tS (.tup [.str Qi,ay a,ay b]) l (y0 (.v (.str Qi))) (y0 (.v (.str Qi))) u0 u0) (h1:=h) rfl,qa rfl,qa rfl];rfl
   ·rw [za (Z1:=tS (.tup [.str qh,ay a,ay b]) l (y0 (.v (.str qh))) u0 u0 u0) (h1:=h) rfl,za (Z1:=tS (.tup [.str qh,ay a,ay b]) l (y0 (.v (.str qh))) (y0 (.v (.str qh))) u0 u0) (h1:=h) rfl,qa rfl,qa rfl];rfl
   ·rw [za (Z1:=tS (.tup [.str Jp,ay a,ay b]) l (y0 (.v (.str Jp))) u0 u0 u0) (h1:=h) rfl,za (Z1:=tS (.tup [.str Jp,ay a,ay b]) l (y0 (.v (.str Jp))) (y0 (.v (.str Jp))) u0 u0) (h1:=h) rfl,qa rfl,qa rfl];rfl
   ·rw [za (Z1:=tS (.tup [.str We,ay a,ay b]) l (y0 (.v (.str We))) u0 u0 u0) (h1:=h) rfl,za (Z1:=tS (.tup [.str We,ay a,ay b]) l (y0 (.v (.str We))) (y0 (.v (.str We))) u0 u0) (h1:=h) rfl,qa rfl,qa rfl];rfl
  show Gu _ (execs _ _ (tS (ay e) l u0 u0 u0 u0) h)=_
  rw [v,B,Ga _ _ _ rfl,y]
 have f: ∀(e:Ex) (s t:Tx),aY e=3->bT e=t->t.length<=700000->(∀ m (l:Nat),execs (k8 (m+1)) az.body (tS (ay e) l u0 u0 u0 u0) h=execs (k8 (m+1)) gK (tS (ay e) l (y0 (.v (.str s))) (y0 (.v (.str t))) u0 u0) h) →
  ∀m,e.dp+1<=m-> ∀l:Nat,call prog (m+1) "_law_text" [.v (ay e),.v (.int (l:Int))] h= .ok (.v (.str (br (decide (aY e<l)) 40 41 (bT e)))) h:=fun e s t w C c v m p l=>by
  obtain⟨n,rfl⟩: ∃n,m=n+1:=⟨m-1,by omega⟩
  rw [Gb (d:=az) rfl _ _ _ rfl]
  show Gu _ (execs _ _ (tS (ay e) l u0 u0 u0 u0) h)=_
  rw [v n l,mh w (by omega),Ga _ _ _ rfl,C]
 intro e
 induction e with
 | name t=>intro c;exact f _ xl t rfl rfl c λm l=>by simp only [az];rw [za (Z1:=tS (.tup [.str xl,.str t]) l (y0 (.v (.str xl))) u0 u0 u0) (h1:=h) rfl,za (Z1:=tS (.tup [.str xl,.str t]) l (y0 (.v (.str xl))) (y0 (.v (.str xl))) u0 u0) (h1:=h) rfl,za (Z1:=tS (.tup [.str xl,.str t]) l (y0 (.v (.str xl))) (y0 (.v (.str t))) u0 u0) (h1:=h) rfl,qa rfl];rfl
 | same=>intro c;exact f _ Qh Qh rfl rfl c λm l=>by simp only [az];rw [za (Z1:=tS (.tup [.str Qh]) l (y0 (.v (.str Qh))) u0 u0 u0) (h1:=h) rfl,za (Z1:=tS (.tup [.str Qh]) l (y0 (.v (.str Qh))) (y0 (.v (.str Qh))) u0 u0) (h1:=h) rfl,qa rfl,qa rfl];rfl
 | all=>intro c;exact f _ Xo Xo rfl rfl c λm l=>by simp only [az];rw [za (Z1:=tS (.tup [.str Xo]) l (y0 (.v (.str Xo))) u0 u0 u0) (h1:=h) rfl,za (Z1:=tS (.tup [.str Xo]) l (y0 (.v (.str Xo))) (y0 (.v (.str Xo))) u0 u0) (h1:=h) rfl,qa rfl,qa rfl];rfl
 | none=>intro c;exact f _ wh wh rfl rfl c λm l=>by simp only [az];rw [za (Z1:=tS (.tup [.str wh]) l (y0 (.v (.str wh))) u0 u0 u0) (h1:=h) rfl,za (Z1:=tS (.tup [.str wh]) l (y0 (.v (.str wh))) (y0 (.v (.str wh))) u0 u0) (h1:=h) rfl,qa rfl,qa rfl];rfl
 | turned a q=>
  intro c m p l
  have D:=XI (u9 (aY a<3)) 40 41 (bT a)
  have o:=c
  simp only [bT,Aa2]at o
  simp only [Ex.dp]at p
  obtain⟨n,rfl⟩: ∃n,m=n+1:=⟨m-1,by omega⟩
  have x:call prog (n+1) "_law_text" [.v (ay a),.v (.int 3)] h= .ok (.v (.str (br (decide (aY a<3)) 40 41 (bT a)))) h:=q (by omega) n (by omega) 3
  rw [Gb (d:=az) rfl _ _ _ rfl]
  simp only [az]
  show Gu _ (execs _ _ (tS (ay (.turned a)) l u0 u0 u0 u0) h)=_
  rw [za (Z1:=tS (ay (.turned a)) l (y0 (.v (.str Wa))) u0 u0 u0) (h1:=h) rfl,za (Z1:=tS (ay (.turned a)) l (y0 (.v (.str Wa))) (y0 (.v (.str Wa))) u0 u0) (h1:=h) rfl,qa rfl]
  rw [za (Z1:=tS (ay (.turned a)) l (y0 (.v (.str Wa))) (y0 (.v (.str (bT (.turned a))))) u0 u0) (h1:=h)]
  ·have:=mh (m:=n) (l:=l) (h:=h) (e:= .turned a) (x2:=y0 (.v (.str Wa))) (x4:=u0) (x5:=u0) (t:=bT (.turned a)) rfl (by omega)
   simp only [gK,kJ,iY]at this
   rw [this,Ga _ _ _ rfl]
  ·rw [zg (h1:=h) rfl]
   have z:eval (k8 (n+1)) (.bi .int (.a (.cmp .eq .v2 (.str gv)))) (tS (ay (.turned a)) l (y0 (.v (.str Wa))) (y0 (.v (.str Wa))) u0 u0) h= .ok (.v (.int (0:Nat))) h:=rfl
   have r:eval (k8 (n+1)) (.ix (.str fm) (.bi .int (.a (.cmp .eq .v2 (.str gv))))) (tS (ay (.turned a)) l (y0 (.v (.str Wa))) (y0 (.v (.str Wa))) u0 u0) h= .ok (.v (.str [126])) h:=by
    rw [eval,show eval (k8 (n+1)) (.str fm) (tS (ay (.turned a)) l (y0 (.v (.str Wa))) (y0 (.v (.str Wa))) u0 u0) h= .ok (.v (.str fm)) h from rfl,R.aa,z,R.aa,sH 0 126 h (by decide)];rfl
   rw [za (Z1:=tS (ay (.turned a)) l (y0 (.v (.str Wa))) (y0 (.v (.str (bT (.turned a))))) u0 u0) (h1:=h)]
   ·rfl
   ·rw [exec,eval,r]
    simp only [ay]
    simp_all [av,xx,x,Qd]
    rw [if_pos (by rw [Gc];simp;have:=Wk (u9 (aY a<3)) 40 41 (bT a);omega)]
    rfl
 | closed a q=>
  intro c m p l
  have D:=XI (u9 (aY a<3)) 40 41 (bT a)
  have o:=c
  simp only [bT,Aa2]at o
  simp only [Ex.dp]at p
  obtain⟨n,rfl⟩: ∃n,m=n+1:=⟨m-1,by omega⟩
  have x:call prog (n+1) "_law_text" [.v (ay a),.v (.int 3)] h= .ok (.v (.str (br (decide (aY a<3)) 40 41 (bT a)))) h:=q (by omega) n (by omega) 3
  rw [Gb (d:=az) rfl _ _ _ rfl]
  simp only [az]
  show Gu _ (execs _ _ (tS (ay (.closed a)) l u0 u0 u0 u0) h)=_
  rw [za (Z1:=tS (ay (.closed a)) l (y0 (.v (.str Xa))) u0 u0 u0) (h1:=h) rfl,za (Z1:=tS (ay (.closed a)) l (y0 (.v (.str Xa))) (y0 (.v (.str Xa))) u0 u0) (h1:=h) rfl,qa rfl]
  rw [za (Z1:=tS (ay (.closed a)) l (y0 (.v (.str Xa))) (y0 (.v (.str (bT (.closed a))))) u0 u0) (h1:=h)]
  ·have:=mh (m:=n) (l:=l) (h:=h) (e:= .closed a) (x2:=y0 (.v (.str Xa))) (x4:=u0) (x5:=u0) (t:=bT (.closed a)) rfl (by omega)
   simp only [gK,kJ,iY]at this
   rw [this,Ga _ _ _ rfl]
  ·rw [zg (h1:=h) rfl]
   have z:eval (k8 (n+1)) (.bi .int (.a (.cmp .eq .v2 (.str gv)))) (tS (ay (.closed a)) l (y0 (.v (.str Xa))) (y0 (.v (.str Xa))) u0 u0) h= .ok (.v (.int (1:Nat))) h:=rfl
   have r:eval (k8 (n+1)) (.ix (.str fm) (.bi .int (.a (.cmp .eq .v2 (.str gv))))) (tS (ay (.closed a)) l (y0 (.v (.str Xa))) (y0 (.v (.str Xa))) u0 u0) h= .ok (.v (.str [94])) h:=by
    rw [eval,show eval (k8 (n+1)) (.str fm) (tS (ay (.closed a)) l (y0 (.v (.str Xa))) (y0 (.v (.str Xa))) u0 u0) h= .ok (.v (.str fm)) h from rfl,R.aa,z,R.aa,sH 1 94 h (by decide)];rfl
   rw [za (Z1:=tS (ay (.closed a)) l (y0 (.v (.str Xa))) (y0 (.v (.str (bT (.closed a))))) u0 u0) (h1:=h)]
   ·rfl
   ·rw [exec,eval,r]
    simp only [ay]
    simp_all [av,xx,x,Qd]
    rw [if_pos (by rw [Gc];simp;have:=Wk (u9 (aY a<3)) 40 41 (bT a);omega)]
    rfl
 | plus a b i j=>exact two _ a b Qi 43 0 rfl rfl rfl rfl (by decide) i j
 | less a b i j=>exact two _ a b qh 45 0 rfl rfl rfl rfl (by decide) i j
 | both a b i j=>exact two _ a b Jp 38 1 rfl rfl rfl rfl (by decide) i j
 | joined a b i j=>exact two _ a b We 46 2 rfl rfl rfl rfl (by decide) i j
abbrev zW:Tx:= [101,97,99,104,32,108,101,97,115,116]
abbrev X6:Tx:= [101,97,99,104,32,109,111,115,116]
def wd (s:Tx):Tx:=if s=wn then zW else if s=Xs then X6 else s
def fT:Fc->Tx
 | .fF a b=>bT a++(32::105::110::32::bT b)
 | .gy a b=>bT a++(32::61::32::bT b)
 | .eY a=>qj++32::bT a
 | .aj a=>WR++32::bT a
 | .cnt s k a=>wd s++32::(bg k++32::bT a)
def vf :eval F (.neg (.int 1)) Z h= .ok (.v (.int (-1))) h:=rfl
def bw:Sy->Nat
 | .cV _ _=>1
 | .cW _ _=>0
 | _=>2
def sT:Sy->Tx
 | .fact f=>fT f
 | .neg a=>110::111::116::32::br (u9 (bw a<2)) 91 93 (sT a)
 | .cV a b=>br (u9 (bw a<1)) 91 93 (sT a)++(32::(js++32::br (u9 (bw b<2)) 91 93 (sT b)))
 | .cW a b=>br (u9 (bw a<0)) 91 93 (sT a)++(32::(jV++32::br (u9 (bw b<1)) 91 93 (sT b)))
def B8 (s) (wf:s.wf N): ∃c ds,bS s= .tup (.str c::ds)/\(∀ h,uC [(eI,.int 1),(eT,.int 2)] [.v (.str c),.v (.int 3)] h=aH (.int ((bw s:Int)+1)) h)/\(bw s:Int)=2-(if c==js then 1 else 0)-2*(if c==jV then 1 else 0):=by
 cases s with
 | fact f=>
  cases f with
  | fF a b=>exact⟨jK,_,rfl,λ_=>rfl,rfl⟩
  | gy a b=>exact⟨zj,_,rfl,λ_=>rfl,rfl⟩
  | eY a=>exact⟨qj,_,rfl,λ_=>rfl,rfl⟩
  | aj a=>exact⟨WR,_,rfl,λ_=>rfl,rfl⟩
  | cnt s j a=>
   have d:=wf.1.1
   simp [or_false]at d
   obtain rfl | rfl | rfl | rfl:=d
   ·exact⟨zd,_,rfl,λ_=>rfl,rfl⟩
   ·exact⟨Jg,_,rfl,λ_=>rfl,rfl⟩
   ·exact⟨wn,_,rfl,λ_=>rfl,rfl⟩
   ·exact⟨Xs,_,rfl,λ_=>rfl,rfl⟩
 | neg a=>exact⟨Xk,_,rfl,λ_=>rfl,rfl⟩
 | cV a b=>exact⟨js,_,rfl,λ_=>rfl,rfl⟩
 | cW a b=>exact⟨jV,_,rfl,λ_=>rfl,rfl⟩
def XX (m) (h)(s) (wf:s.wf N):call prog (m+1) "_law_saying_level" [.v (bS s)] h= .ok (.v (.int (bw s:Nat))) h:=by
 obtain⟨d,e,c,_,a⟩:=B8 s wf
 rw [Gb rfl _ _ _ rfl]
 simp only [ql]
 show Gu _ (execs _ _ [y0 (.v (bS s))] h)=_
 have bi: ∀b:Bool,c5 .int [.v (.bl b)] h= .ok (.v (.int (if b then 1 else 0))) h:=λb=>by cases b<;>rfl
 rw [c,a]
 simp_all [av,QT,Je,bi,jn,zz 2 _ (by decide)]
abbrev uS (d:D) (l:Nat) (x2 x3 x4 x5:Option W):Sl:= [y0 (.v d),y0 (.v (.int (l:Int))),x2,x3,x4,x5]
def nF:Ss:= .cons (.r (.cmp .lt (.call "_law_saying_level" (.a .v0)) .v1) (.bin .add (.bin .add (.str [91]) .v4) (.str [93]))) (.a (.ret .v4))
def u4 (wf:e.wf N) (b:t.length<=900000):execs (k8 (m+1)) nF (uS (bS e) l x2 x3 (y0 (.v (.str t))) x5) h= .ret (.v (.str (br (u9 (bw e<l)) 91 93 t))) h:=by
 have a:Gf (k8 (m+1)) (.cmp .lt (.call "_law_saying_level" (.a .v0)) .v1) (uS (bS e) l x2 x3 (some (.v (.str t))) x5) h= .ok (decide (bw e<l)) h:=by
  simp_all [XX m h e wf,zq]
 unfold nF
 cases q:u9 (bw e<l)with
 | true=>
  rw [q]at a
  refine zf a (jc rfl ?_)
  simp_all [Qd]
  rw [if_pos (by rw [Gc];simp;lia)]
  simp only [R.aa,Qd]
  rw [if_pos (by rw [Gc];simp;lia)]
  rfl
 | false=>
  rw [q]at a
  rw [qa a]
  rfl
def vF (e):br (u9 (aY e<0)) 40 41 (bT e)=bT e:=by simp [br]
def w4 (s t) (h) (a:s.length+t.length<=900000):GC .add (.v (.str s)) (.v (.str t)) h= .ok (.v (.str (s++t))) h:=by
 rw [Qd,if_pos (by rw [Gc];lia)]
def iX:S:= .iff (.cmp .mem .v2 (.tup (.b (.str eT) (.str eI)))) (.cons (.ae 3 (.call "_law_saying_level" (.a .v0))) (.a (.ae 4 (.bin .add (.bin .add (.bin .add (.bin .add (.call "_law_saying_text" (.b (.ix .v0 (.int 1)) .v3)) (.str [32])) .v2) (.str [32])) (.call "_law_saying_text" (.b (.ix .v0 (.int 2)) (.bin .add .v3 (.int 1)))))))) (.a (.iff (.cmp .eq .v2 (.str eg)) (.a (.ae 4 (.bin .add (.str e7) (.call "_law_saying_text" (.b (.ix .v0 (.int 1)) (.int 2)))))) (.a (.iff (.cmp .mem .v2 (.tup (.b (.str c8) (.str iK)))) (.cons (.ae 5 (.ix (.lst (.b (.str [32,61,32]) (.str ip))) (.bi .int (.a (.cmp .eq .v2 (.str c8)))))) (.a (.ae 4 (.bin .add (.bin .add (.call "_law_text" (.b (.ix .v0 (.int 1)) (.int 0))) .v5) (.call "_law_text" (.b (.ix .v0 (.int 2)) (.int 0))))))) (.a (.iff (.cmp .mem .v2 (.tup (.b (.str gi) (.str fW)))) (.a (.ae 4 (.bin .add (.bin .add .v2 (.str [32])) (.call "_law_text" (.b (.ix .v0 (.int 1)) (.int 0)))))) (.cons (.ae 2 (.dg [(d3,mL),(dY,nh),(lN,nX),(lO,lT)] 2)) (.a (.ae 4 (.bin .add (.bin .add (.bin .add .v2 (.dO (.ix .v0 (.int 1)))) (.str [32])) (.call "_law_text" (.b (.ix .v0 (.int 2)) (.int 0)))))))))))))
def AW:bI.body= .cons (.ae 2 (.ix .v0 (.int 0))) (.cons iX nF):=rfl
def Zb (e:exec F s Z h= .next Z1 h1):execs F (.cons s .nil) Z h= .next Z1 h1:=by rw [execs,e];rfl
def i9 (wf:e.wf N) (b:bS e= .tup (.str hd::ds)) (a:t.length<=900000)
 (q:exec (k8 (m+1)) iX (uS (bS e) l (y0 (.v (.str hd))) u0 u0 u0) h= .next (uS (bS e) l x2 x3 (y0 (.v (.str t))) x5) h):call prog (m+2) "_law_saying_text" [.v (bS e),.v (.int (l:Int))] h= .ok (.v (.str (br (decide (bw e<l)) 91 93 t))) h:=by
 rw [Gb rfl _ _ _ rfl,AW]
 show Gu _ (execs _ _ (uS _ l u0 u0 u0 u0) h)=_
 rw [za (Z1:=uS (bS e) l (y0 (.v (.str hd))) u0 u0 u0) (h1:=h) (by rw [b];simp_all [av,QT]),za q,u4 wf a,Ga _ _ _ rfl]
section
variable {m l:Nat}{h:AH}{N:List Tx}
def tW (s w) (f) (wf:f.wf N) (g:cC f= .tup [.str s,ay a,ay b]) (c:(s,w)∈ [(jK,(ip:Tx)),(zj,[32,61,32])]) (k:(bT a).length+(bT b).length<=800000)
 (j:call prog (m+1) "_law_text" [.v (ay a),.v (.int 0)] h= .ok (.v (.str (bT a))) h) (i:call prog (m+1) "_law_text" [.v (ay b),.v (.int 0)] h= .ok (.v (.str (bT b))) h):
 call prog (m+2) "_law_saying_text" [.v (cC f),.v (.int (l:Int))] h= .ok (.v (.str (br (decide (2<l)) 91 93 (bT a++w++bT b)))) h:=by
 have n:w.length<=4:=by
  simp only [Aa5,Ab0,or_false,Prod.mk.injEq]at c
  rcases c with⟨rfl,rfl⟩ | ⟨rfl,rfl⟩<;>decide
 refine i9 (e:= .fact f) (x2:=y0 (.v (.str s))) (x3:=u0) (x5:=y0 (.v (.str w))) wf g (by simp;omega) ?_
 show exec _ iX _ h= .next _ h
 have d:execs (k8 (m+1)) (.cons (.ae 5 (.ix (.lst (.b (.str [32,61,32]) (.str ip))) (.bi .int (.a (.cmp .eq .v2 (.str c8)))))) (.a (.ae 4 (.bin .add (.bin .add (.call "_law_text" (.b (.ix .v0 (.int 1)) (.int 0))) .v5) (.call "_law_text" (.b (.ix .v0 (.int 2)) (.int 0))))))) (uS (cC f) l (some (.v (.str s))) none none none) h
  = .next (uS (cC f) l (y0 (.v (.str s))) u0 (y0 (.v (.str (bT a++w++bT b)))) (y0 (.v (.str w)))) h:=by
  rw [za (Z1:=uS (cC f) l (y0 (.v (.str s))) u0 u0 (y0 (.v (.str w)))) (h1:=h) (by
   simp only [Aa5,Ab0,or_false,Prod.mk.injEq]at c
   rcases c with⟨rfl,rfl⟩ | ⟨rfl,rfl⟩<;>rfl)]
  refine Zb ?_
  rw [g]
  simp_all [av,xx,Z4,j,w4 (bT a) w h (by omega),i,w4 (bT a++w) (bT b) h (by simp;omega)]
 simp only [Aa5,Ab0,or_false,Prod.mk.injEq]at c
 obtain⟨rfl,rfl⟩ | ⟨rfl,rfl⟩:=c
 ·exact(Zm (h1:=h) rfl).trans (Zb ((Zm (h1:=h) rfl).trans (Zb ((zg (h1:=h) rfl).trans d))))
 ·exact(Zm (h1:=h) rfl).trans (Zb ((Zm (h1:=h) rfl).trans (Zb ((zg (h1:=h) rfl).trans d))))
def pN (s) (f) (wf:f.wf N) (d:cC f= .tup [.str s,ay a]) (b:s∈ [qj,WR]) (i:(bT a).length<=800000) (g:call prog (m+1) "_law_text" [.v (ay a),.v (.int 0)] h= .ok (.v (.str (bT a))) h):
 call prog (m+2) "_law_saying_text" [.v (cC f),.v (.int (l:Int))] h= .ok (.v (.str (br (decide (2<l)) 91 93 (s++ [32]++bT a)))) h:=by
 have j:s.length<=4:=by
  simp only [Aa5,Ab0,or_false]at b
  rcases b with rfl | rfl<;>decide
 refine i9 (e:= .fact f) (x2:=y0 (.v (.str s))) (x3:=u0) (x5:=u0) wf d (by simp;omega) ?_
 show exec _ iX (uS (cC f) l (y0 (.v (.str s))) u0 u0 u0) h= .next (uS (cC f) l (y0 (.v (.str s))) u0 (y0 (.v (.str (s++ [32]++bT a)))) u0) h
 have c:execs (k8 (m+1)) (.a (.ae 4 (.bin .add (.bin .add .v2 (.str [32])) (.call "_law_text" (.b (.ix .v0 (.int 1)) (.int 0)))))) (uS (cC f) l (some (.v (.str s))) none none none) h
  = .next (uS (cC f) l (y0 (.v (.str s))) u0 (y0 (.v (.str (s++ [32]++bT a)))) u0) h:=by
  refine Zb ?_
  rw [d]
  simp_all [av,xx,g,w4 s [32] h (by simp;omega),w4 (s++ [32]) (bT a) h (by simp;omega)]
 simp only [Aa5,Ab0,or_false]at b
 rcases b with rfl | rfl
 ·rw [d]at c ⊢;exact(Zm (h1:=h) rfl).trans (Zb ((Zm (h1:=h) rfl).trans (Zb ((Zm (h1:=h) rfl).trans (Zb ((zg (h1:=h) rfl).trans c))))))
 ·rw [d]at c ⊢;exact(Zm (h1:=h) rfl).trans (Zb ((Zm (h1:=h) rfl).trans (Zb ((Zm (h1:=h) rfl).trans (Zb ((zg (h1:=h) rfl).trans c))))))
def FQ (s) (k:Nat) (n:k<1000) (f) (wf:f.wf N) (g:cC f= .tup [.str s,.int (k:Int),ay a]) (c:s∈ [zd,Jg,wn,Xs]) (j:(wd s).length+(bg k).length+(bT a).length<=800000) (i:call prog (m+1) "_law_text" [.v (ay a),.v (.int 0)] h= .ok (.v (.str (bT a))) h):
 call prog (m+2) "_law_saying_text" [.v (cC f),.v (.int (l:Int))] h= .ok (.v (.str (br (decide (2<l)) 91 93 (wd s++ [32]++bg k++ [32]++bT a)))) h:=by
 refine i9 (e:= .fact f) (x2:=y0 (.v (.str (wd s++ [32])))) (x3:=u0) (x5:=u0) wf g (by simp;omega) ?_
 show exec _ iX (uS (cC f) l (y0 (.v (.str s))) u0 u0 u0) h= .next (uS (cC f) l (y0 (.v (.str (wd s++ [32])))) u0 (y0 (.v (.str (wd s++ [32]++bg k++ [32]++bT a)))) u0) h
 have d:(0:Int)<=(k:Int)/\(k:Int)<1000:=by omega
 have b:execs (k8 (m+1)) (.cons (.ae 2 (.dg [(d3,mL),(dY,nh),(lN,nX),(lO,lT)] 2)) (.a (.ae 4 (.bin .add (.bin .add (.bin .add .v2 (.dO (.ix .v0 (.int 1)))) (.str [32])) (.call "_law_text" (.b (.ix .v0 (.int 2)) (.int 0))))))) (uS (cC f) l (some (.v (.str s))) none none none) h
  = .next (uS (cC f) l (y0 (.v (.str (wd s++ [32])))) u0 (y0 (.v (.str (wd s++ [32]++bg k++ [32]++bT a)))) u0) h:=by
  rw [za (Z1:=uS (cC f) l (y0 (.v (.str (wd s++ [32])))) u0 u0 u0) (h1:=h) (by
   simp only [Aa5,Ab0,or_false]at c
   rcases c with rfl | rfl | rfl | rfl<;>rfl)]
  refine Zb ?_
  rw [g]
  simp_all [av,xx,Z4,FW,if_pos d,w4 (wd s++ [32]) (bg k) h (by simp;omega),w4 (wd s++ [32]++bg k) [32] h (by simp;omega),i,w4 (wd s++ [32]++bg k++ [32]) (bT a) h (by simp;omega)]
 rw [g]at b ⊢
 simp only [Aa5,Ab0,or_false]at c
 rcases c with rfl | rfl | rfl | rfl
 ·exact(Zm (h1:=h) rfl).trans (Zb ((Zm (h1:=h) rfl).trans (Zb ((Zm (h1:=h) rfl).trans (Zb ((Zm (h1:=h) rfl).trans b))))))
 ·exact(Zm (h1:=h) rfl).trans (Zb ((Zm (h1:=h) rfl).trans (Zb ((Zm (h1:=h) rfl).trans (Zb ((Zm (h1:=h) rfl).trans b))))))
 ·exact(Zm (h1:=h) rfl).trans (Zb ((Zm (h1:=h) rfl).trans (Zb ((Zm (h1:=h) rfl).trans (Zb ((Zm (h1:=h) rfl).trans b))))))
 ·exact(Zm (h1:=h) rfl).trans (Zb ((Zm (h1:=h) rfl).trans (Zb ((Zm (h1:=h) rfl).trans (Zb ((Zm (h1:=h) rfl).trans b))))))
def BB (wf:a.wf N) (e:(sT a).length<=700000) (c: ∀l:Nat,call prog (m+1) "_law_saying_text" [.v (bS a),.v (.int (l:Int))] h= .ok (.v (.str (br (decide (bw a<l)) 91 93 (sT a)))) h):
 call prog (m+2) "_law_saying_text" [.v (bS (.neg a)),.v (.int (l:Int))] h= .ok (.v (.str (br (decide (bw (.neg a)<l)) 91 93 (sT (.neg a))))) h:=by
 have d:=Wk (u9 (bw a<2)) 91 93 (sT a)
 have b:call prog _ "_law_saying_text" [.v _,.v (.int 2)] h= .ok _ h:=c 2
 refine i9 (x2:=y0 (.v (.str Xk))) (x3:=u0) (x5:=u0) wf rfl (by simp [sT,Aa2];lia) ?_
 refine(Zm rfl).trans (Zb ((zg rfl).trans (Zb ?_)))
 simp only [bS]
 simp_all [av,xx,b,w4 e7 (br (u9 (bw a<2)) 91 93 (sT a)) h (by simp;lia)]
 rfl
def sv (s) (k) (e) (d:e.wf N) (g:bS e= .tup [.str s,bS a,bS b]) (p:bw e=k) (c:(s,k)∈ [(js,1),(jV,0)]) (t:(sT a).length+(sT b).length<=700000) (q: ∀l:Nat,call prog (m+1) "_law_saying_text" [.v (bS a),.v (.int (l:Int))] h= .ok (.v (.str (br (decide (bw a<l)) 91 93 (sT a)))) h) (i: ∀l:Nat,call prog (m+1) "_law_saying_text" [.v (bS b),.v (.int (l:Int))] h= .ok (.v (.str (br (decide (bw b<l)) 91 93 (sT b)))) h):
 call prog (m+2) "_law_saying_text" [.v (bS e),.v (.int (l:Int))] h= .ok (.v (.str (br (decide (bw e<l)) 91 93 (br (decide (bw a<k)) 91 93 (sT a)++ [32]++s++ [32]++br (decide (bw b<k+1)) 91 93 (sT b))))) h:=by
 have v:=Wk (u9 (bw a<k)) 91 93 (sT a)
 have r:=Wk (u9 (bw b<k+1)) 91 93 (sT b)
 have u:s.length<=3:=by
  simp only [Aa5,Ab0,or_false,Prod.mk.injEq]at c
  rcases c with⟨rfl,rfl⟩ | ⟨rfl,rfl⟩<;>decide
 have j:=q k
 have o:=i (k+1)
 have n:((k:Int)+1)=((k+1:Nat):Int):=by omega
 refine i9 (x2:=y0 (.v (.str s))) (x3:=y0 (.v (.int (k:Int)))) (x5:=u0) d g (by simp;omega) ?_
 have f:execs (k8 (m+1)) (.cons (.ae 3 (.call "_law_saying_level" (.a .v0))) (.a (.ae 4 (.bin .add (.bin .add (.bin .add (.bin .add (.call "_law_saying_text" (.b (.ix .v0 (.int 1)) .v3)) (.str [32])) .v2) (.str [32])) (.call "_law_saying_text" (.b (.ix .v0 (.int 2)) (.bin .add .v3 (.int 1)))))))) (uS (bS e) l (some (.v (.str s))) none none none) h
  = .next (uS (bS e) l (y0 (.v (.str s))) (y0 (.v (.int (k:Int)))) (y0 (.v (.str (br (u9 (bw a<k)) 91 93 (sT a)++ [32]++s++ [32]++br (u9 (bw b<k+1)) 91 93 (sT b))))) u0) h:=by
  rw [za (Z1:=uS (bS e) l (y0 (.v (.str s))) (y0 (.v (.int (k:Int)))) u0 u0) (h1:=h) (by simp_all [XX m h e d,p])]
  refine Zb ?_
  rw [g]
  simp_all [av,xx,Z4,j,xb,n,o,w4 (br (u9 (bw a<k)) 91 93 (sT a)) [32] h (by simp;omega),w4 (br (u9 (bw a<k)) 91 93 (sT a)++ [32]) s h (by simp;omega),w4 (br (u9 (bw a<k)) 91 93 (sT a)++ [32]++s) [32] h (by simp;omega),w4 (br (u9 (bw a<k)) 91 93 (sT a)++ [32]++s++ [32]) (br (u9 (bw b<k+1)) 91 93 (sT b)) h (by simp;omega)]
 simp only [Aa5,Ab0,or_false,Prod.mk.injEq]at c
 rcases c with⟨rfl,rfl⟩ | ⟨rfl,rfl⟩
 ·exact(zg rfl).trans f
 ·exact(zg rfl).trans f
end
def Co (h): ∀ s,s.wf N->(sT s).length<=600000-> ∀m,s.dp+3<=m-> ∀l:Nat,call prog (m+1) "_law_saying_text" [.v (bS s),.v (.int (l:Int))] h= .ok (.v (.str (br (decide (bw s<l)) 91 93 (sT s)))) h:=by
 intro s
 induction s with
 | fact f=>
  intro wf d m c l
  simp only [Sy.dp]at c
  obtain⟨n,rfl⟩: ∃n,m=n+1:=⟨m-1,by omega⟩
  have g: ∀e:Ex,(bT e).length<=700000->e.dp+1<=n->call prog _ "_law_text" [.v _,.v _] h= .ok _ h:=fun e t q=>by
   have:=Fj h e t n q 0
   rw [vF]at this
   exact this
  cases f with
  | fF a b=>
   simp only [sT,fT,Aa3,Aa2]at d
   simp only [Fc.dp]at c
   have:=tW (l:=l) jK ip _ wf rfl (by decide) (by omega) (g a (by omega) (by omega)) (g b (by omega) (by omega))
   simp only [Af2]at this
   exact this
  | gy a b=>
   simp only [sT,fT,Aa3,Aa2]at d
   simp only [Fc.dp]at c
   have:=tW (l:=l) zj [32,61,32] _ wf rfl (by decide) (by omega) (g a (by omega) (by omega)) (g b (by omega) (by omega))
   simp only [Af2]at this
   exact this
  | eY a=>
   simp only [sT,fT,Aa3,Aa2]at d
   simp only [Fc.dp]at c
   have:=pN (l:=l) qj (.eY a) wf rfl (by decide) (by omega) (g a (by omega) (by omega))
   simp only [Af2]at this
   exact this
  | aj a=>
   simp only [sT,fT,Aa3,Aa2]at d
   simp only [Fc.dp]at c
   have:=pN (l:=l) WR (.aj a) wf rfl (by decide) (by omega) (g a (by omega) (by omega))
   simp only [Af2]at this
   exact this
  | cnt s k a=>
   simp only [sT,fT,Aa3,Aa2]at d
   simp only [Fc.dp]at c
   have:=FQ (l:=l) s k (Aj3 wf.1.2 (by decide)) (.cnt s k a) wf rfl wf.1.1 (by omega) (g a (by omega) (by omega))
   simp only [Af2]at this
   exact this
 | neg a o=>
  intro wf d m c l
  simp only [Sy.dp]at c
  have u:=XI (u9 (bw a<2)) 91 93 (sT a)
  simp only [sT,Aa2]at d
  obtain⟨n,rfl⟩: ∃n,m=n+1:=⟨m-1,by omega⟩
  exact BB wf (by omega) (o wf (by omega) n (by omega))
 | cV a b i j=>
  intro wf d m c l
  simp only [Sy.dp]at c
  have r:=XI (u9 (bw a<1)) 91 93 (sT a)
  have p:=XI (u9 (bw b<2)) 91 93 (sT b)
  simp only [sT,Aa3,Aa2]at d
  obtain⟨n,rfl⟩: ∃n,m=n+1:=⟨m-1,by omega⟩
  have:=sv (l:=l) js 1 (.cV a b) wf rfl rfl (by decide) (by omega) (i wf.1 (by omega) n (by omega)) (j wf.2 (by omega) n (by omega))
  simpa [sT]using this
 | cW a b i j=>
  intro wf d m c l
  simp only [Sy.dp]at c
  have r:=XI (u9 (bw a<0)) 91 93 (sT a)
  have p:=XI (u9 (bw b<1)) 91 93 (sT b)
  simp only [sT,Aa3,Aa2]at d
  obtain⟨n,rfl⟩: ∃n,m=n+1:=⟨m-1,by omega⟩
  have:=sv (l:=l) jV 0 (.cW a b) wf rfl rfl (by decide) (by omega) (i wf.1 (by omega) n (by omega)) (j wf.2 (by omega) n (by omega))
  simpa [sT]using this
def xz (m: ∀t∈N,t.length<=8): ∀ e,e.wf N->(bT e).length+7<=16*2 ^ e.dp:=by
 intro e
 have d: ∀a b c:Nat,a+7<=16*2 ^ b->b<=c->a+7<=16*2 ^ c:=λa b c i h=>Ab8 i (Ag2 _ (Af1 (by decide) h))
 induction e with
 | name t=>intro wf;have:=m t wf;simp only [bT,Ex.dp];omega
 | same=>intro _;decide
 | all=>intro _;decide
 | none=>intro _;decide
 | turned a j=>intro wf;have:=j wf;have b:=Wk (u9 (aY a<3)) 40 41 (bT a);simp only [bT,Ex.dp,Aa2,Ad3];omega
 | closed a j=>intro wf;have:=j wf;have b:=Wk (u9 (aY a<3)) 40 41 (bT a);simp only [bT,Ex.dp,Aa2,Ad3];omega
 | plus a b f g=>intro wf;have i:=d _ _ (max a.dp b.dp) (f wf.1) (by omega);have h:=d _ _ (max a.dp b.dp) (g wf.2) (by omega);have l:=Wk (u9 (aY a<0)) 40 41 (bT a);have k:=Wk (u9 (aY b<1)) 40 41 (bT b);simp only [bT,Ex.dp,Aa3,Aa2,Ad3];omega
 | less a b f g=>intro wf;have i:=d _ _ (max a.dp b.dp) (f wf.1) (by omega);have h:=d _ _ (max a.dp b.dp) (g wf.2) (by omega);have l:=Wk (u9 (aY a<0)) 40 41 (bT a);have k:=Wk (u9 (aY b<1)) 40 41 (bT b);simp only [bT,Ex.dp,Aa3,Aa2,Ad3];omega
 | both a b f g=>intro wf;have i:=d _ _ (max a.dp b.dp) (f wf.1) (by omega);have h:=d _ _ (max a.dp b.dp) (g wf.2) (by omega);have l:=Wk (u9 (aY a<1)) 40 41 (bT a);have k:=Wk (u9 (aY b<2)) 40 41 (bT b);simp only [bT,Ex.dp,Aa3,Aa2,Ad3];omega
 | joined a b f g=>intro wf;have i:=d _ _ (max a.dp b.dp) (f wf.1) (by omega);have h:=d _ _ (max a.dp b.dp) (g wf.2) (by omega);have l:=Wk (u9 (aY a<2)) 40 41 (bT a);have k:=Wk (u9 (aY b<3)) 40 41 (bT b);simp only [bT,Ex.dp,Aa3,Aa2,Ad3];omega
def vL: ∀k:Nat,k<1000->(bg (k:Int)).length<=20:=by
 intro k a
 have h:(toString (k:Int))=Nat.repr k:=rfl
 unfold bg
 rw [h,Ac,String.length_toList]
 exact Ab8 ((Nat.length_repr_le_iff (by decide)).mpr (Aj3 a (by decide))) (Aa6 _)
def AJ (e: ∀t∈N,t.length<=8) (f) (wf:f.wf N):(fT f).length+9<=100*2 ^ f.dp:=by
 have d: ∀a b c:Nat,a+7<=16*2 ^ b->b<=c->a+7<=16*2 ^ c:=λa b c g h=>Ab8 g (Ag2 _ (Af1 (by decide) h))
 cases f with
 | fF a b=>have g:=d _ _ (max a.dp b.dp) (xz e a wf.1) (by lia);have h:=d _ _ (max a.dp b.dp) (xz e b wf.2) (by lia);simp [fT,Fc.dp,Aa3,Aa2];lia
 | gy a b=>have g:=d _ _ (max a.dp b.dp) (xz e a wf.1) (by lia);have h:=d _ _ (max a.dp b.dp) (xz e b wf.2) (by lia);simp [fT,Fc.dp,Aa3,Aa2];lia
 | eY a=>have g:=xz e a wf;simp [fT,Fc.dp,Aa3,Aa2,Ag0];lia
 | aj a=>have g:=xz e a wf;simp [fT,Fc.dp,Aa3,Aa2,Ag0];lia
 | cnt s k a=>
  have g:=xz e a wf.2
  have h:=vL k (Aj3 wf.1.2 (by decide))
  have j:0<2 ^ a.dp:=Nat.pow_pos (by decide)
  have l:(wd s).length<=10:=by
   have i:=wf.1.1
   simp [Aa5,Ab0,or_false]at i
   rcases i with rfl | rfl | rfl | rfl<;>decide
  simp [fT,Fc.dp,Aa3,Aa2];lia
def A6 (j: ∀t∈N,t.length<=8): ∀ s,s.wf N->(sT s).length+9<=100*2 ^ s.dp:=by
 have d: ∀a b c:Nat,a+9<=100*2 ^ b->b<=c->a+9<=100*2 ^ c:=λa b c i g=>Ab8 i (Ag2 _ (Af1 (by decide) g))
 intro s
 induction s with
 | fact f=>exact AJ j f
 | neg a k=>intro wf;have:=k wf;have b:=Wk (u9 (bw a<2)) 91 93 (sT a);simp only [sT,Sy.dp,Aa2,Ad3];omega
 | cV a b h e=>intro wf;have i:=d _ _ (max a.dp b.dp) (h wf.1) (by omega);have g:=d _ _ (max a.dp b.dp) (e wf.2) (by omega);have m:=Wk (u9 (bw a<1)) 91 93 (sT a);have l:=Wk (u9 (bw b<2)) 91 93 (sT b);simp only [sT,Sy.dp,Aa3,Aa2,Ag0,Ad3];omega
 | cW a b h e=>intro wf;have i:=d _ _ (max a.dp b.dp) (h wf.1) (by omega);have g:=d _ _ (max a.dp b.dp) (e wf.2) (by omega);have m:=Wk (u9 (bw a<0)) 91 93 (sT a);have l:=Wk (u9 (bw b<1)) 91 93 (sT b);simp only [sT,Sy.dp,Aa3,Aa2,Ag0,Ad3];omega
abbrev d7 (N T:List Tx) (p:Nat):List (String×D):= [("names",aL N),("signs",.lst (T.map .str)),("place",.int (p:Int))]
def rh (g:AH) (N T:List Tx) (p:Nat):AH:=g++ [Cell.obj "Reader" (d7 N T p)]
def Ct (g) (N T) (p):(rh g N T p).length=g.length+1:=by simp [rh]
def Xl (g) (N T) (p q):(rh g N T q).length=(rh g N T p).length:=by simp [rh]
def Jt (g) (N T) (p):GJ (rh g N T p) (y0 (.v (.ref g.length)))=y0 (g.length, "Reader",d7 N T p):=by simp [GJ,rh]
def CB (g) (N T) (p q):(rh g N T p).set g.length (.obj "Reader" (d7 N T q))=rh g N T q:=by simp [rh]
section
variable {F:Fx}{g:AH}{N T:List Tx}{p:Nat}{Z:Sl}
def yi (a:Gk Z 0=y0 (.v (.ref g.length))):eval F (.fld 0 "Reader" "names") Z (rh g N T p)= .ok (.v (aL N)) (rh g N T p):=by
 rw [eval,a,Jt];rfl
def fJ (b:Gk Z 0=y0 (.v (.ref g.length))) (a:((d7 N T p).lookup m).isNone=k9) (e:Gj F es Z (rh g N T p)= .ok ws (rh g N T p)):
 eval F (.ai 0 "Reader" m q es) Z (rh g N T p)=F.call q (.v (.ref g.length)::ws.map W.arg) (rh g N T p):=by
 rw [eval,b,Jt]
 simp [a,e,R.aa]
end
def tx (N T) (p):(d7 N T p).lookup "signs" =some (.lst (T.map .str)):=rfl
def nr (N T) (p):(d7 N T p).lookup "place" =some (.int (p:Int)):=rfl
def tk (T:List Tx) (p:Nat):Tx:=T.getD p []
def pE {T:List Tx}(h:p<T.length):(T.map D.str)[p]? =y0 (.str (tk T p)):=by
 simp [tk,h]
def X4 (h: ¬p<T.length):tk T p= []:=by
 simp only [tk,Ac3]
 rw [List.getElem?_eq_none (by omega)];rfl
def tE (m) (g) (N T) (p):call prog (m+1) "Reader.here" [.v (.ref g.length)] (rh g N T p)= .ok (.v (.str (tk T p))) (rh g N T p):=by
 rw [Gb rfl _ _ _ rfl]
 simp only [Wt]
 show Gu _ (execs _ _ [y0 (.v (.ref g.length))] _)=_
 have z:Gs .lt (.v (.int p)) (.v (.int ((T.map D.str).length))) (rh g N T p)=y0 (u9 (p<T.length)):=by
  rw [zq,Ac]
 have b:c5 .len [.v (.lst (T.map D.str))] (rh g N T p)= .ok (.v (.int ((T.map D.str).length))) (rh g N T p):=rfl
 have a:Gf (k8 m) (.cmp .lt (.fld 0 "Reader" "place") (.bi .len (.a (.fld 0 "Reader" "signs")))) [some (.v (.ref g.length))] (rh g N T p)= .ok (decide (p<T.length)) (rh g N T p):=by
  simp_all [Jt,tx,nr,if_true,b,z,aH]
 by_cases q:p<T.length
 ·rw [decide_eq_true q]at a
  rw [zf a (jc rfl ?_),Ga _ _ _ rfl]
  simp_all [Jt,tx,nr,if_true,zG,zk (T.map D.str) p (by simpa using q),pE q]
 ·rw [decide_eq_false q]at a
  rw [qa a,ja rfl,Ga _ _ _ rfl,X4 q]
def Cs (N T) (p q:Nat):ba "place" (.int (q:Int)) (d7 N T p)=d7 N T q:=rfl
def EV (N T) (p):(d7 N T p).length<100:=by show 3<100;decide
def CN (m) (g) (N T) (p):call prog (m+2) "Reader.take" [.v (.ref g.length)] (rh g N T p)= .ok (.v (.str (tk T p))) (rh g N T (p+1)):=by
 rw [Gb rfl _ _ _ rfl]
 simp only [Xt]
 show Gu _ (execs _ _ [y0 _,u0] _)=_
 have a:=fJ (F:=(k8 (m+1))) (N:=N) (T:=T) (p:=p) (Z:= [y0 (.v (.ref g.length)),u0]) (m:= "here") (q:= "Reader.here") (es:= .nil) rfl rfl rfl
 have a:=a.trans (tE m g N T p)
 rw [za (Z1:= [y0 _,y0 _]) (by rw [exec,a];rfl)]
 have b:eval (k8 (m+1)) (.bin .add (.fld 0 "Reader" "place") (.int 1)) [some (.v (.ref g.length)),some (.v (.str (tk T p)))] (rh g N T p)= .ok (.v (.int (p+1:Nat))) (rh g N T p):=by
  have z:Gi .add p 1=y0 ((p+1:Nat):Int):=by rw [xb];rfl
  simp_all [Jt,nr,if_true,z]
 rw [za (Z1:= [y0 _,y0 (.v _)])]
 ·rw [ja rfl,Ga _ _ _ (Xl g N T p _)]
 ·rw [exec,b]
  rw [R.aC]
  show(match GJ _ (y0 _)with | some (r,c,fs)=>_ | none=>_)=_
  rw [Jt]
  show(if _ then _ else _)=_
  rw [if_pos ⟨rfl,rfl,EV N T p⟩,Cs,CB]
section
variable {m:Nat}{g:AH}{N T:List Tx}{p:Nat}{Z:Sl}
def XV (a:Gk Z 0=y0 (.v (.ref g.length))):eval (k8 (m+1)) (.ai 0 "Reader" "here" "Reader.here" .nil) Z (rh g N T p)= .ok (.v (.str (tk T p))) (rh g N T p):=
 (fJ (ws:= []) a rfl rfl).trans (tE m g N T p)
def zp (a:Gk Z 0=y0 (.v (.ref g.length))):eval (k8 (m+2)) (.ai 0 "Reader" "take" "Reader.take" .nil) Z (rh g N T p)= .ok (.v (.str (tk T p))) (rh g N T (p+1)):=
 (fJ (ws:= []) a rfl rfl).trans (CN m g N T p)
def xU (a:Gk Z 0=y0 (.v (.ref g.length))):exec (k8 (m+2)) (.ex (.ai 0 "Reader" "take" "Reader.take" .nil)) Z (rh g N T p)= .next Z (rh g N T (p+1)):=by
 rw [exec,zp a];rfl
def W3 (t) (a:Gk Z 0=y0 (.v (.ref g.length))):Gf (k8 (m+1)) (.cmp .eq (.ai 0 "Reader" "here" "Reader.here" .nil) (.str t)) Z (rh g N T p)= .ok (tk T p==t) (rh g N T p):=by
 rw [Gf,eval,XV a]
 simp only [R.aa,eval,Je,R.ag,Gp,aH]
end
def xp (F) (Z) (h) (a b):eval F (.tup (.b (.str a) (.str b))) Z h= .ok (.v (aL [a,b])) h:=by
 simp_all [];rfl
def JJ (F) (Z) (h) (a b c):eval F (.tup (.c (.str a) (.str b) (.str c))) Z h= .ok (.v (aL [a,b,c])) h:=by
 simp_all [];rfl
def oJ (m) (g) (N T) (p) (t) (b:tk T p=t):call prog (m+3) "Reader.take_just" [.v (.ref g.length),.v (.str t)] (rh g N T p)= .ok (.v .aj) (rh g N T (p+1)):=by
 rw [Gb rfl _ _ _ rfl]
 simp only [jh]
 show Gu _ (execs _ _ [y0 _,y0 _] _)=_
 have z:Gs .ne (.v (.str (tk T p))) (.v (.str t)) (rh g N T (p+1))=y0 false:=by
  rw [b];simp [GK]
 have a:Gf (k8 (m+2)) (.cmp .ne (.ai 0 "Reader" "take" "Reader.take" .nil) .v1) [some (.v (.ref g.length)),some (.v (.str t))] (rh g N T p)= .ok false (rh g N T (p+1)):=by
  rw [Gf,eval,zp rfl]
  simp only [R.aa,eval,Gn,Gk,z,R.ag,Gp,aH]
 rw [za (by rw [Zm a];rfl)]
 show Gu _ (.next _ _)=_
 rw [GH _ _ _ (Xl g N T p _)]
def DS (m w:Nat) (h) (c:w<20):call prog (m+1) "one_deeper" [.v (.int (w:Int))] h= .ok (.v (.int ((w+1:Nat):Int))) h:=by
 rw [Gb rfl _ _ _ rfl]
 have z:Gs .eq (.v (.int w)) (.v (.int 20)) h=y0 false:=by
  have:=Xb w 20 h
  rw [decide_eq_false (by lia)]at this
  exact this
 have b:Gi .add w 1=y0 ((w+1:Nat):Int):=by rw [xb];rfl
 have a:prog.con.lookup "MOST_WITHIN" =some _:=rfl
 simp_all [qx,z,b,a]
abbrev oV:List (Tx×D):= [([43],.str Qi),([45],.str qh),([126],.str Wa),([94],.str Xa),(c8,.str c8),([61],.str iK)]
def zA (m):(k8 m).con.lookup "SORTS" =some (.exc "" oV):=rfl
def Wg (e:Gk Z i=y0 (.v d)):eval F (.var i) Z h= .ok (.v d) h:=by
 rw [eval,Gn,e]
def m4 (e:Gk Z i=y0 (.v (.str t))) (a b):Gf F (.cmp .mem (.var i) (.tup (.b (.str a) (.str b)))) Z h= .ok (u9 (t∈ [a,b])) h:=by
 rw [Gf,eval,Wg e,R.aa,xp,R.aa,Zn];rfl
def rQ (e:Gk Z i=y0 (.v (.str t))) (a b c):Gf F (.cmp .mem (.var i) (.tup (.c (.str a) (.str b) (.str c)))) Z h= .ok (u9 (t∈ [a,b,c])) h:=by
 rw [Gf,eval,Wg e,R.aa,JJ,R.aa,Zn];rfl
def kn (e:Gk Z i=y0 (.v (.str t))) (a):Gf F (.cmp .eq (.var i) (.str a)) Z h= .ok (t==a) h:=by
 rw [Gf,eval,Wg e,R.aa,eval]
 simp only [R.aa,Je,R.ag,Gp]
def mu (c:F.con.lookup "SORTS" =some (.exc "" oV)) (e:eval F a Z h= .ok (.v (.str t)) h1) (b:(t,s)∈ [(([43]:Tx),Qi),([45],qh),([126],Wa),([94],Xa),(c8,jK),([61],zj)]):eval F (.eC "SORTS" a) Z h= .ok (.v (.str s)) h1:=by
 rw [eval,c]
 show((eval _ _ _ _).bind _)=_
 rw [e,R.aa]
 simp only [Aa5,Ab0,or_false,Prod.mk.injEq]at b
 rcases b with⟨rfl,rfl⟩ | ⟨rfl,rfl⟩ | ⟨rfl,rfl⟩ | ⟨rfl,rfl⟩ | ⟨rfl,rfl⟩ | ⟨rfl,rfl⟩<;>rfl
def XL:prog.con.lookup "FIGURES" =some (.str lH):=rfl
def Br:prog.con.lookup "MOST_FIGURES" =some (.int 2):=rfl
def t9 (n):G9 (Aa1 n (.bl k9))=y0 (Aa1 n k9):=by
 induction n with
 | zero=>rfl
 | succ n a=>rw [Ad,G9,a];rfl
abbrev Qk:Tx:= [108,101,116,116,101,114]
abbrev zn:Tx:= [102,105,103,117,114,101]
abbrev kU:Tx:= [115,105,110,103,108,101]
abbrev Qc:Tx:= [98,108,97,110,107]
abbrev b4:Tx:= lH
abbrev eD:Tx:= pR
noncomputable def aM (c:Nat):Tx:=if bP.contains c=k9 then Qk else if b4.contains c=k9 then zn else if eD.contains c=k9 then kU else Qc
def dm (c:Nat):Prop:=aM c≠Qc\/c=32
def Qy (c) (t) (h):Gs .mem (.v (.str [c])) (.v (.str t)) h=y0 (t.contains c):=rfl
def JU:prog.con.lookup "LETTERS" =some (.str bP):=rfl
def jT:prog.con.lookup "SINGLE_SIGNS" =some (.str eD):=rfl
def zJ (a:F.con.lookup x=y0 (.str t)) (e:Gk Z 0=y0 (.v (.str [c]))):Gf F (.cmp .mem .v0 (.con x)) Z h= .ok (t.contains c) h:=by
 rw [Gf,eval,Wg e,R.aa,eval,a]
 simp only [R.aa,Qy,R.ag,Gp]
def Eb (m c) (h) (f:dm c):call prog (m+1) "sort_of_sign" [.v (.str [c])] h= .ok (.v (.str (aM c))) h:=by
 rw [Gb rfl _ _ _ rfl]
 simp only [Wl]
 unfold aM
 by_cases a:bP.contains c=k9
 ·rw [if_pos a,zf (by rw [zJ JU rfl,a]) (jc rfl rfl),Ga _ _ _ rfl]
 ·rw [if_neg a,qa (by rw [zJ JU rfl,eq_false_of_ne_true a])]
  by_cases b:b4.contains c=k9
  ·rw [if_pos b,zf (by rw [zJ XL rfl,b]) (jc rfl rfl),Ga _ _ _ rfl]
  ·rw [if_neg b,qa (by rw [zJ XL rfl,eq_false_of_ne_true b])]
   by_cases d:eD.contains c=k9
   ·rw [if_pos d,zf (by rw [zJ jT rfl,d]) (jc rfl rfl),Ga _ _ _ rfl]
   ·rw [if_neg d,qa (by rw [zJ jT rfl,eq_false_of_ne_true d])]
    have e:c=32:=by
     rcases f with z | z
     ·unfold aM at z;rw [if_neg a,if_neg b,if_neg d]at z;exact absurd rfl z
     ·exact z
    subst e
    rw [zf (by rw [kn rfl];rfl) (jc rfl rfl),Ga _ _ _ rfl]
def et (a:Tx) (c:Nat):Prop:=aM c=a/\(aM c=Qk\/aM c=zn)
instance (a:Tx) (c:Nat):Decidable (et a c):=inferInstanceAs (Decidable (_/\_))
def bY (x:List Tx×Tx) (c:Nat):List Tx×Tx:=
 if et x.2 c then(x.1.dropLast++ [x.1.getLastD []++ [c]],aM c)else if aM c≠Qc then(x.1++ [[c]],aM c)else(x.1,aM c)
abbrev c4 (t:Tx) (S:List Tx) (a:Tx) (x y:Option W):Sl:= [y0 (.v (.str t)),y0 (.own (S.map .str)),y0 (.v (.str a)),x,y]
def iw (S:List Tx) (a:Tx) (n:Nat):Prop:=(a=Qk\/a=zn->S≠ [])/\S.length<=n/\ ∀x∈S,x.length<=n
def QW {S:List Tx}(h:iw S a n):iw (bY (S,a) c).1 (bY (S,a) c).2 (n+1):=by
 unfold bY
 split
 ·rename_i q
  have q:et a c:=q
  have d:=h.1 (by rcases q.2 with z | z<;>rw [← q.1,z]<;>simp)
  refine⟨λ_=>by simp,?_,λx b=> ?_⟩
  ·show(S.dropLast++_).length<=_
   have:=h.2.1
   simp;lia
  ·obtain b | b:=Ac8.mp b
   ·exact Ah (h.2.2 x ((List.dropLast_prefix S).subset b))
   ·rw [Ab6.mp b]
    have:S.getLastD []∈S:=by
     rw [List.getLastD_eq_getLast?,List.getLast?_eq_getLast d];exact List.getLast_mem d
    have:=h.2.2 _ this
    rw [Aa3];exact Nat.succ_le_succ this
 ·split
  ·refine⟨λ_=>by simp,by have:=h.2.1;simp;exact this,λx b=> ?_⟩
   obtain b | b:=Ac8.mp b
   ·exact Ah (h.2.2 x b)
   ·rw [Ab6.mp b];simp
  ·rename_i q
   refine⟨λz=> ?_,Ah h.2.1,λx b=>Ah (h.2.2 x b)⟩
   have q:=Aj.mp q
   have z:aM c=Qk\/aM c=zn:=z
   rw [q]at z
   rcases z with z | z<;>exact absurd z (by decide)
def WS (xs) (x:α):aQ (xs++ [x]) (-1)=y0 x/\dt (xs++ [x]).length (-1)=y0 xs.length:=by
 have:dt (xs++ [x]).length (-1)=y0 xs.length:=by
  unfold dt
  congr 1;simp;omega
 refine⟨?_,this⟩
 unfold aQ
 rw [this];simp
def rf (m) (h) (t){S:List Tx}(j:iw S a n) (r:n<=900000) (o:dm c) (y):
 execs (k8 (m+1)) Qg (c4 t S a (y0 (.v (.str [c]))) y) h= .next (c4 t (bY (S,a) c).1 (bY (S,a) c).2 (y0 (.v (.str [c]))) (y0 (.v (.str (aM c))))) h:=by
 have l:=Eb m c h o
 simp only [Qg]
 rw [za (Z1:=c4 t S a (y0 (.v (.str [c]))) (y0 (.v (.str (aM c))))) (h1:=h) (by simp_all [l])]
 have e:Gf (k8 (m+1)) (.and (.cmp .eq .v4 .v2) (.cmp .mem .v4 (.tup (.b (.str kL) (.str kA))))) (c4 t S a (y0 (.v (.str [c]))) (y0 (.v (.str (aM c))))) h= .ok (u9 (et a c)) h:=by
  have i:eval (k8 (m+1)) (.cmp .eq .v4 .v2) (c4 t S a (y0 (.v (.str [c]))) (y0 (.v (.str (aM c))))) h= .ok (.v (.bl (aM c==a))) h:=by
   simp_all [Je]
  have p:eval (k8 (m+1)) (.cmp .mem .v4 (.tup (.b (.str kL) (.str kA)))) (c4 t S a (y0 (.v (.str [c]))) (y0 (.v (.str (aM c))))) h= .ok (.v (.bl (u9 (aM c∈ [Qk,zn])))) h:=by
   rw [eval,Wg rfl,R.aa,xp,R.aa,Zn];rfl
  rw [Gf,eval,i]
  simp only [R.aa,Gp,R.ag]
  by_cases q:aM c=a
  ·rw [show (aM c==a)=k9 from by simp [q]]
   simp only [p,R.aa,Gp,R.ag]
   congr 1
   rw [decide_eq_decide]
   unfold et
   simp [q]
  ·rw [show (aM c==a)=y9 from by simp [q]]
   have: ¬et a c:=λz=>q z.1
   simp [Gp,this]
 unfold bY
 by_cases q:et a c
 ·rw [decide_eq_true q]at e
  have f:S≠ []:=j.1 (by rcases q.2 with z | z<;>rw [← q.1,z]<;>simp)
  obtain⟨b,x,rfl⟩: ∃b x,S=b++ [x]:=⟨S.dropLast,S.getLast f,(List.dropLast_concat_getLast f).symm⟩
  have s:=j.2.2 x (by simp)
  rw [za (Z1:=c4 t (b++ [x++ [c]]) a (y0 (.v (.str [c]))) (y0 (.v (.str (aM c))))) (h1:=h)]
  ·simp only [if_pos q]
   simp_all []
   simp
  ·rw [zg e]
   have k:=WS (b.map D.str) (.str x)
   have i:eval (k8 (m+1)) (.bin .add (.ix .v1 (.neg (.int 1))) .v3) (c4 t (b++ [x]) a (y0 (.v (.str [c]))) (y0 (.v (.str (aM c))))) h= .ok (.v (.str (x++ [c]))) h:=by
    rw [eval,eval,eval,Gn]
    simp only [Gk,R.aa,eval,aH,int?_int,R.ag,Ae0,Ac0,Ah4]
    rw [show cR (.bor (b.map D.str++ [D.str x])) (.v (.int (-1))) h=y0 (.str x)from k.1]
    simp only [R.ag,R.aa,Gn,Gk,Qd]
    rw [if_pos (by rw [Gc];simp;omega)]
   rw [za (Z1:=c4 t (b++ [x++ [c]]) a (y0 (.v (.str [c]))) (y0 (.v (.str (aM c))))) (h1:=h)]
   ·rfl
   ·rw [exec,i,R.aC]
    simp only [Gk,eval,aH,R.aa,R.aC,int?_int,R.ag,Ae0,Ac0,Ah4,flat,if_true,k.2,GE]
    simp
 ·rw [decide_eq_false q]at e
  rw [if_neg q]
  by_cases d:aM c≠Qc
  ·rw [if_pos d]
   rw [za (Z1:=c4 t (S++ [[c]]) a (y0 (.v (.str [c]))) (y0 (.v (.str (aM c))))) (h1:=h)]
   ·simp_all []
   ·rw [Zm e,za (Z1:=c4 t (S++ [[c]]) a (y0 (.v (.str [c]))) (y0 (.v (.str (aM c))))) (h1:=h)]
    ·rfl
    ·have g:Gf (k8 (m+1)) (.cmp .ne .v4 (.str kq)) (c4 t S a (y0 (.v (.str [c]))) (y0 (.v (.str (aM c))))) h= .ok k9 h:=by
      have z:Gs .ne (.v (.str (aM c))) (.v (.str Qc)) h=y0 true:=by simp [GK,d]
      simp_all [z]
     rw [zg g]
     have:=j.2.1
     simp_all []
     rw [if_pos (by rw [Gc];simp;omega)]
     simp
  ·rw [if_neg d]
   rw [za (Z1:=c4 t S a (y0 (.v (.str [c]))) (y0 (.v (.str (aM c))))) (h1:=h)]
   ·simp_all []
   ·rw [Zm e,za (Z1:=c4 t S a (y0 (.v (.str [c]))) (y0 (.v (.str (aM c))))) (h1:=h)]
    ·rfl
    ·have g:Gf (k8 (m+1)) (.cmp .ne .v4 (.str kq)) (c4 t S a (y0 (.v (.str [c]))) (y0 (.v (.str (aM c))))) h= .ok y9 h:=by
      have d:aM c=Qc:=Aj.mp d
      have z:Gs .ne (.v (.str (aM c))) (.v (.str Qc)) h=y0 false:=by rw [d];simp [GK]
      simp_all [z]
     rw [Zm g];rfl
theorem px (m) (h) (t): ∀ i,(∀ c∈i,dm c)-> ∀ {S}{a}{n} x y,iw S a n->n+i.length<=900000 →
 ∃J j,GB (Gz [3] k9) (λZ h=>execs (k8 (m+1)) Qg Z h) (c9 i) (c4 t S a x y) h= .next (c4 t (i.foldl bY (S,a)).1 (i.foldl bY (S,a)).2 J j) h
 | [],_,S,a,n,x,y,_,_=>⟨x,y,rfl⟩
 | c::i,d,S,a,n,x,y,e,f=>by
  have k:n+(i.length+1)<=900000:=f
  have b:=rf m h t e (by omega) (d c Aa) y
  obtain⟨J,j,g⟩:=px m h t i (λc q=>d c (Aa0 _ q)) (y0 (.v (.str [c]))) (y0 (.v (.str (aM c)))) (QW e) (by omega)
  refine⟨J,j,?_⟩
  rw [show c9 (c::i)= .str [c]::c9 i from rfl,Jj rfl b]
  exact g
def Ar (m) (h) (t) (d: ∀c∈t,dm c) (f:t.length<=900000):call prog (m+2) "signs_of" [.v (.str t)] h= .ok (.own ((t.foldl bY ([],Qc)).1.map .str)) h:=by
 rw [Gb rfl _ _ _ rfl]
 simp only [Wv]
 rw [za rfl,za rfl]
 obtain⟨x,y,b⟩:=px m h t t d u0 u0 (S:= []) (a:=Qc) (n:=0) ⟨λz=>absurd z (by decide),Aa6 _,λx e=>by cases e⟩ (by lia)
 rw [za (Z1:=c4 t (t.foldl bY _).1 (t.foldl bY _).2 x y)]
 ·rw [ja rfl,Gy _ _ _ rfl]
 ·rw [exec]
  exact b
abbrev bf:D:= .err "NoText" "row" .aj
def Q8 (m c) (h) (f: ¬dm c):call prog (m+1) "sort_of_sign" [.v (.str [c])] h= .exc bf h:=by
 rw [Gb rfl _ _ _ rfl]
 simp only [Wl]
 have q:aM c=Qc/\c≠32:=by unfold dm at f;exact⟨Aj.mp λz=>f (.inl z),λz=>f (.inr z)⟩
 have e:bP.contains c=y9/\b4.contains c=y9/\eD.contains c=false:=by
  have z:=q.1
  unfold aM at z
  split at z
  ·exact absurd z (by decide)
  ·split at z
   ·exact absurd z (by decide)
   ·split at z
    ·exact absurd z (by decide)
    ·rename_i a b d
     exact⟨eq_false_of_ne_true a,eq_false_of_ne_true b,eq_false_of_ne_true d⟩
 rw [qa (by rw [zJ JU rfl,e.1]),qa (by rw [zJ XL rfl,e.2.1]),qa (by rw [zJ jT rfl,e.2.2]),qa (by rw [kn rfl];congr 1;simp [q.2])]
 rfl
theorem ou (m) (h) (t): ∀ i,(∃ c∈i, ¬dm c)-> ∀ {S}{a}{n} x y,iw S a n->n+i.length<=900000 →
 GB (Gz [3] k9) (λZ h=>execs (k8 (m+1)) Qg Z h) (c9 i) (c4 t S a x y) h= .exc bf h
 | [],b,S,a,n,x,y,_,_=>by obtain⟨_,z,_⟩:=b;cases z
 | c::i,b,S,a,n,x,y,g,j=>by
  have l:n+(i.length+1)<=900000:=j
  rw [show c9 (c::i)= .str [c]::c9 i from rfl]
  by_cases q:dm c
  ·rw [Jj rfl (rf m h t g (by omega) q y)]
   refine ou m h t i ?_ _ _ (QW g) (by omega)
   obtain⟨d,e,f⟩:=b
   rcases Aa5.mp e with rfl | e
   ·exact absurd q f
   ·exact⟨d,e,f⟩
  ·have k:=Q8 m c h q
   refine BX (Z1:=c4 t S a (y0 (.v (.str [c]))) y) rfl ?_
   simp only [Qg]
   rw [execs,show exec (k8 (m+1)) (.ae 4 (.call "sort_of_sign" (.a .v3))) (c4 t S a (some (.v (.str [c]))) y) h= .exc bf h by simp_all [k];rfl]
   rfl
def jS (m) (h) (t) (d: ∃c∈t, ¬dm c) (f:t.length<=900000):call prog (m+2) "signs_of" [.v (.str t)] h= .exc bf h:=by
 rw [Gb rfl _ _ _ rfl]
 simp only [Wv]
 rw [za rfl,za (Z1:=c4 t [] Qc u0 u0) rfl]
 have b:=ou m h t t d u0 u0 (S:= []) (a:=Qc) (n:=0) ⟨λz=>absurd z (by decide),Aa6 _,λx e=>by cases e⟩ (by omega)
 rw [execs,exec,show GD (k8 (m+1)) (.seq .v0) (c4 t [] Qc u0 u0) h= .ok (c9 t) h from rfl,R.aC,b]
 rfl
def cK (c:Nat):Nat:=(bP.contains c).toNat+2*(b4.contains c).toNat
def Q6 (m c) (h):call prog (m+1) "_law_sort" [.v (.str [c])] h= .ok (.v (.int (cK c:Nat))) h:=by
 rw [Gb rfl _ _ _ rfl]
 simp only [QG]
 have a:=Qy c bP h
 have b:=Qy c b4 h
 have d:Gi .mul 2 ((b4.contains c).toNat)=y0 ((2*(b4.contains c).toNat:Nat):Int):=JC 2 _ (by decide)
 rw [za (Z1:= [y0 (.v (.str [c])),y0 (.v (.str bP))]) rfl]
 rw [ja (jc rfl (by simp_all [a,b,ZZ,d,xb];rfl))]
 exact Ga _ _ _ rfl
def iQ (c) (h:bP.contains c=k9):b4.contains c=false:=by
 have z: ∀c∈bP,b4.contains c=false:=by decide
 exact z c (Ad6.mp h)
def jW (c d) (b:0<cK c):(aM c=Qk\/aM c=zn)/\(cK d=cK c↔aM d=aM c):=by
 have a:Qk≠zn/\kU≠Qk/\kU≠zn/\Qc≠Qk/\Qc≠zn/\zn≠Qk:=by decide
 unfold cK at b ⊢
 unfold aM
 cases l:bP.contains c with
 | true=>
  rw [iQ c l]
  cases e:bP.contains d with
  | true=>rw [iQ d e];simp
  | false=>
   cases g:b4.contains d with
   | true=>simp [a]
   | false=>cases eD.contains d<;>simp [a]
 | false=>
  rw [l]at b
  cases f:b4.contains c with
  | false=>rw [f]at b;exact absurd b (by decide)
  | true=>
   cases e:bP.contains d with
   | true=>rw [iQ d e];simp [a]
   | false=>
    cases g:b4.contains d with
    | true=>simp
    | false=>cases eD.contains d<;>simp [a]
def mx (c) (a:cK c=0):aM c=kU\/aM c=Qc:=by
 unfold cK at a
 unfold aM
 cases l:bP.contains c with
 | true=>rw [l]at a;simp at a
 | false=>
  cases f:b4.contains c with
  | true=>rw [l,f]at a;simp at a
  | false=>cases eD.contains c<;>simp
theorem X3 (s) (b:s=Qk\/s=zn): ∀ w S (x:Tx),(∀ c∈w,aM c=s)->w.foldl bY (S++ [x],s)=(S++ [x++w],s)
 | [],S,x,_=>by simp
 | c::w,S,x,h=>by
  have a:=h c Aa
  rw [Ae1,bY,if_pos ⟨a,by rw [a];exact b⟩]
  simp only [List.dropLast_concat,List.getLastD_concat,a]
  rw [X3 s b w S (x++ [c]) λd e=>h d (Aa0 _ e)]
  simp
theorem WZ (s): ∀t:Tx,∃w r,t=w++r/\(∀ c∈w,aM c=s)/\ ∀d i,r=d::i->aM d≠s
 | []=>⟨[],[],rfl,(λ_ h=>by cases h),λ_ _ h=>by cases h⟩
 | c::t=>by
  by_cases q:aM c=s
  ·obtain⟨w,r,e,f,b⟩:=WZ s t
   exact⟨c::w,r,by rw [e];rfl,λd a=>(Aa5.mp a).elim (λz=>z▸q) (f d),b⟩
  ·exact⟨[],c::t,rfl,(λ_ h=>by cases h),λd i e=>by cases e;exact q⟩
noncomputable abbrev cw (t:Tx) (S:List Tx) (i:Nat) (x:Option W):Sl:= [y0 (.v (.str t)),y0 (.own (S.map .str)),y0 (.v (.int (i:Int))),x]
def zH (t p r) (c) (a:t=p++c::r) (b:t.length<=90000) (h):cR (.v (.str t)) (.v (.int (p.length:Nat))) h=y0 (.str [c]):=by
 rw [Jx,if_pos (by rw [Gc];omega),zk _ _ (by rw [a];simp),a]
 simp
def mZ (t) (i:Nat) (c:t.length<=90000)(b:Gk Z 0=y0 (.v (.str t))) (a:Gk Z j=y0 (.v (.int (i:Int)))):eval F (.cmp .lt (.var j) (.bi .len (.a .v0))) Z h= .ok (.v (.bl (u9 (i<t.length)))) h:=by
 have e:c5 .len [.v (.str t)] h=aH (.int t.length) h:=by rw [len_str,if_pos (by rw [Gc];omega)]
 simp_all [b,a,e,zq]
theorem rX (m) (h) (t) (S) (p0) (c) (r0) (i:t=p0++c::r0) (n:0<cK c) (a:t.length<=90000): ∀ w p r f,t=p++(w++r)->(∀ d∈w,aM d=aM c)->(∀ d J,r=d::J->aM d≠aM c)->w.length<f →
 Gv (Gf (k8 (m+1)) Zf) (λZ h=>execs (k8 (m+1)) wj Z h) f (cw t S p0.length (y0 (.v (.int (p.length:Nat))))) h= .next (cw t S p0.length (y0 (.v (.int ((p.length+w.length:Nat):Int))))) h
 | w,p,r,0,_,_,_,l=>absurd l (Ai8 _)
 | [],p,r,f+1,g,_,s,_=>by
  have z:Gf (k8 (m+1)) Zf (cw t S p0.length (y0 (.v (.int (p.length:Nat))))) h= .ok y9 h:=by
   unfold Gf Zf
   rw [eval,mZ t p.length a rfl rfl]
   cases r with
   | nil=>rw [decide_eq_false (by rw [g];simp)];simp_all []
   | cons d J=>
    rw [decide_eq_true (by rw [g];simp)]
    have v:=λq=>s d J rfl ((jW c d n).2.mp q)
    have k:=Q6 m d h
    have o:=Q6 m c h
    have j:=Xb (cK d) (cK c) h
    rw [decide_eq_false v]at j
    have i1:=zH t p J d g a h
    have i2:=zH t p0 r0 c i a h
    simp_all [i1,i2,k,o,j]
  rw [Gv,z]
  simp
 | d::w,p,r,f+1,g,u,s,l=>by
  have z:Gf (k8 (m+1)) Zf (cw t S p0.length (y0 (.v (.int (p.length:Nat))))) h= .ok k9 h:=by
   unfold Gf Zf
   rw [eval,mZ t p.length a rfl rfl,decide_eq_true (by rw [g];simp)]
   have k:=Q6 m d h
   have o:=Q6 m c h
   have j:=Xb (cK d) (cK c) h
   rw [decide_eq_true ((jW c d n).2.mpr (u d Aa))]at j
   have i1:=zH t p (w++r) d g a h
   have i2:=zH t p0 r0 c i a h
   simp_all [i1,i2,k,o,j]
  have b:execs (k8 (m+1)) wj (cw t S p0.length (y0 (.v (.int (p.length:Nat))))) h= .next (cw t S p0.length (y0 (.v (.int ((p++ [d]).length:Nat))))) h:=by
   simp only [wj]
   have:((p.length:Nat):Int)+1=((p++ [d]).length:Nat):=by simp
   simp_all [xb,this]
  rw [Gv,z]
  simp only [R.aC,b]
  rw [rX m h t S p0 c r0 i n a w (p++ [d]) r f (by rw [g];simp) (λe x=>u e (Aa0 _ x)) s (Nat.lt_of_succ_lt_succ l)]
  simp only [Aa3,Aa2,Ag0,Nat.zero_add]
  rw [show p.length+1+w.length=p.length+(w.length+1)by omega]
def nD :execs F (.cons s .nil) Z h=exec F s Z h:=by
 rw [execs]
 cases exec F s Z h<;>rfl
def vK (p u r:Tx):cut (p++(u++r)) (y0 (p.length:Nat)) (y0 ((p.length+u.length:Nat):Int))=u:=by
 have b: ¬((p.length:Nat):Int)<0:=by omega
 have a: ¬((p.length+u.length:Nat):Int)<0:=by omega
 simp only [cut,aK,b,a,if_false,Ad7,Aa3]
 rw [Ai9 (by omega),Ai9 (by omega),List.drop_left,show p.length+u.length-p.length=u.length by omega,List.take_left]
def rC (m) (h) (t) (S) (p u r) (c:Nat) (b:Tx) (g:u=c::b) (a:t=p++(u++r)) (e:t.length<=90000) (i:S.length<=90000):
 execs (k8 (m+1)) (.cons (.iff (.cmp .ne (.ix .v0 .v2) (.str [32])) (.a (.app 1 (.sl .v0 .v2 .v3))) .nil) (.a (.ae 2 .v3))) (cw t S p.length (y0 (.v (.int ((p.length+u.length:Nat):Int))))) h= .next (cw t (if c=32 then S else S++ [u]) (p.length+u.length) (y0 (.v (.int ((p.length+u.length:Nat):Int))))) h:=by
 have i1:=zH t p (b++r) c (by rw [a,g];rfl) e h
 have ne:Gs .ne (.v (.str [c])) (.v (.str [32])) h=y0 (!u9 (c=32)):=by
  by_cases q:c=32
  ·subst q;rfl
  ·simp [GK,q]
 by_cases q:c=32
 ·rw [if_pos q,qa (by simp_all [i1,ne,decide_eq_true q])]
  simp_all []
 ·rw [if_neg q]
  have f:dW (.v (.str t)) (y0 (p.length:Nat)) (y0 ((p.length+u.length:Nat):Int)) h= .ok (.v (.str u)) h:=by
   show(if t.length<=bA then aH (.str (cut t _ _)) h else _)=_
   rw [if_pos (by rw [Gc];omega),a,vK]
  have d:(S.map D.str).length<bA:=by rw [Gc,Ac];omega
  rw [za (Z1:=cw t (S++ [u]) p.length (y0 (.v (.int ((p.length+u.length:Nat):Int))))) (h1:=h)]
  ·simp_all []
  ·rw [zg (h1:=h) (by simp_all [i1,ne,decide_eq_false q]),nD]
   simp_all [f,d,if_true,Ae0]
   simp only [cw,Ae0,Ac0,Ah4]
def A2 (c:Nat) (h:AH):Gs .bz (.v (.str [c])) (.v (.str o4)) h=y0 (!(u9 (c=32)||eD.contains c)):=by
 show(y0 _).map _=_
 congr 2
def Bt (m) (h) (t) (s:t.length<=90000): ∀ f r p S a x,t=p++r->p.foldl bY ([],Qc)=(S,a)->(∀ c J,r=c::J-> ¬et a c)->r.length<f->S.length<=p.length →
 ((∀ c∈r,dm c)-> ∃L,Gv (Gf (k8 (m+1)) wc) (λZ h=>execs (k8 (m+1)) Qb Z h) f (cw t S p.length x) h= .next (cw t (t.foldl bY ([],Qc)).1 t.length L) h) ∧
 ((∃ c∈r, ¬dm c)->Gv (Gf (k8 (m+1)) wc) (λZ h=>execs (k8 (m+1)) Qb Z h) f (cw t S p.length x) h= .ret (.v .aj) h):=by
 intro f
 induction f with
 | zero=>intro r p S a x _ _ _ P;exact absurd P (Ai8 _)
 | succ f ih=>
  intro r p S a x b Y hb P hn
  have B:Gf (k8 (m+1)) wc (cw t S p.length x) h= .ok (u9 (p.length<t.length)) h:=by
   unfold Gf wc
   rw [mZ t p.length s rfl rfl]
   rfl
  have W:p.length<=t.length:=by rw [b];simp
  cases r with
  | nil=>
   rw [Ad0]at b
   subst b
   refine⟨λ_=>⟨x,?_⟩,λ⟨_,z,_⟩=>by cases z⟩
   rw [Gv,B,decide_eq_false (Ae7 _),Y]
   rfl
  | cons c r=>
   have B:Gf (k8 (m+1)) wc (cw t S p.length x) h= .ok k9 h:=by rw [B,decide_eq_true (by rw [b];simp)]
   have Q:=hb c r rfl
   have es:=Q6 m c h
   have i1:=zH t p r c b s h
   have T:((p.length:Nat):Int)+1=((p.length+1:Nat):Int):=rfl
   have gt:Gs .gt (.v (.int (cK c:Nat))) (.v (.int 0)) h=y0 (u9 (0<cK c)):=by
    rw [WM];congr 1;exact decide_eq_decide.mpr (by omega)
   have next: ∀ u l D,c::r=u++l->(∃ N,u=c::N)->(∀ d∈u,dm d)->u.foldl bY (S,a)=(if c=32 then S else S++ [u],D)->(∀ d J,l=d::J-> ¬et D d) →
    execs (k8 (m+1)) Qb (cw t S p.length x) h= .next (cw t (if c=32 then S else S++ [u]) (p.length+u.length) (y0 (.v (.int ((p.length+u.length:Nat):Int))))) h →
    ((∀ I∈c::r,dm I)-> ∃L,Gv (Gf (k8 (m+1)) wc) (λZ h=>execs (k8 (m+1)) Qb Z h) (f+1) (cw t S p.length x) h= .next (cw t (t.foldl bY ([],Qc)).1 t.length L) h) ∧
    ((∃ I∈c::r, ¬dm I)->Gv (Gf (k8 (m+1)) wc) (λZ h=>execs (k8 (m+1)) Qb Z h) (f+1) (cw t S p.length x) h= .ret (.v .aj) h):=λu l D C ⟨N,e2⟩ F fu bd E=>by
    have lu:(c::r).length=u.length+l.length:=by rw [C,Aa3]
    have u1:1<=u.length:=by rw [e2];simp
    have:=ih l (p++u) (if c=32 then S else S++ [u]) D (y0 (.v (.int ((p.length+u.length:Nat):Int)))) (by rw [b,C,Af2]) (by rw [List.foldl_append,Y,fu]) bd (by omega) (by
     rw [Aa3]
     split
     ·omega
     ·rw [Aa3];simp;omega)
    rw [Aa3]at this
    rw [Gv,B]
    simp only [R.aC,E]
    refine⟨λM=>this.1 λd i=>M d (by rw [C];exact Ab _ i),λ⟨d,i,nk⟩=>this.2 ⟨d,?_,nk⟩⟩
    rw [C]at i
    exact(Ac8.mp i).elim (λz=>absurd (F d z) nk) id
   by_cases q:0<cK c
   ·obtain⟨w,l,e,o,X⟩:=WZ (aM c) r
    have H:=(jW c c q).1
    have nb: ∀d,aM d=aM c->dm d:=λd i=> .inl (by rw [i];rcases H with z | z<;>rw [z]<;>decide)
    have K:c≠32:=λz=>by subst z;exact absurd q (by decide)
    refine next (c::w) l (aM c) (by rw [e];rfl) ⟨w,rfl⟩ (λd i=>(Aa5.mp i).elim (λz=>nb d (by rw [z])) λz=>nb d (o d z)) ?_ (λd J O z=>X d J O z.1) ?_
    ·rw [if_neg K,Ae1,bY,if_neg Q,if_pos (by rcases H with z | z<;>rw [z]<;>decide),X3 (aM c) H w S [c] o]
     rfl
    ·have V:=rX m h t S p c r b q s w (p++ [c]) l 100000 (by rw [b,e];simp) o X (by
      have:w.length<=t.length:=by rw [b,e];simp;omega
      omega)
     rw [Aa3,Ak7]at V
     simp only [Qb]
     rw [za (Z1:=cw t S p.length (y0 (.v (.int ((p.length+1:Nat):Int))))) (h1:=h) (by simp_all [xb,T])]
     rw [za (Z1:=cw t S p.length (y0 (.v (.int ((p.length+1+w.length:Nat):Int))))) (h1:=h) (by
      rw [zg (h1:=h) (by simp_all [i1,es,gt,decide_eq_true q]),nD,exec]
      exact V)]
     rw [show p.length+1+w.length=p.length+(c::w).length by rw [Aa2];omega]
     exact rC m h t S p (c::w) l c w rfl (by rw [b,e];rfl) s (by omega)
   ·have n:cK c=0:=by omega
    have A: ∀G,execs (k8 (m+1)) (.cons (.ae 3 (.bin .add .v2 (.int 1))) G) (cw t S p.length x) h=execs (k8 (m+1)) G (cw t S p.length (y0 (.v (.int ((p.length+1:Nat):Int))))) h:=λG=>za (by simp_all [xb,T])
    have U:Gf (k8 (m+1)) (.cmp .gt (.call "_law_sort" (.a (.ix .v0 .v2))) (.int 0)) (cw t S p.length (some (.v (.int ((p.length+1:Nat):Int))))) h= .ok false h:=by simp_all [i1,es,gt,decide_eq_false q]
    have j:=A2 c h
    by_cases k:dm c
    ·have g:(u9 (c=32)||eD.contains c)=true:=by
      rcases mx c n with z | z
      ·have:eD.contains c=true:=by
        unfold aM at z
        split at z
        ·exact absurd z (by decide)
        ·split at z
         ·exact absurd z (by decide)
         ·split at z
          ·assumption
          ·exact absurd z (by decide)
       rw [this,Al9]
      ·rcases k with y | y
       ·exact absurd z y
       ·rw [decide_eq_true y];rfl
     rw [g]at j
     refine next [c] r (aM c) rfl ⟨[],rfl⟩ (λd i=>by cases Ab6.mp i;exact k) ?_ (λd J O z=> ?_) ?_
     ·rw [Ae1,List.foldl_nil,bY,if_neg Q]
      rcases mx c n with z | z
      ·rw [if_pos (by rw [z];decide),if_neg (λy=>by subst y;exact absurd z (by decide))]
      ·have y:c=32:=k.elim (λy=>absurd z y) id
       rw [if_neg (λy=>y z),if_pos y]
     ·rcases mx c n with y | y<;>rw [y]at z<;>rcases z.2 with v | v<;>rw [z.1]at v<;>exact absurd v (by decide)
     ·simp only [Qb]
      rw [A,za (Z1:=cw t S p.length (y0 (.v (.int ((p.length+1:Nat):Int))))) (h1:=h) (by
       rw [Zm U,qa (by simp_all [i1,j])]
       rfl)]
      exact rC m h t S p [c] r c [] rfl b s (by omega)
    ·refine⟨λM=>absurd (M c Aa) k,λ_=> ?_⟩
     have g:(u9 (c=32)||eD.contains c)=false:=by
      rw [decide_eq_false (λz=>k (.inr z)),Bool.false_or]
      cases z:eD.contains c with
      | false=>rfl
      | true=>
       refine absurd (.inl ?_) k
       unfold cK at n
       unfold aM
       cases y:bP.contains c with
       | true=>rw [y]at n;simp at n
       | false=>
        cases v:b4.contains c with
        | true=>rw [y,v]at n;simp at n
        | false=>rw [if_neg Ab1,if_neg Ab1,if_pos z];decide
     rw [g]at j
     rw [Gv,B]
     simp only [R.aC]
     have E:execs (k8 (m+1)) Qb (cw t S p.length x) h= .ret (.v .aj) h:=by
      simp only [Qb]
      rw [A]
      exact ja (by rw [Zm U];exact zf (by simp_all [i1,j]) rfl)
     rw [E]
def jZ (m:Nat) (h:AH) (t:Tx) (k:t.length<=90000):((∀ c∈t,dm c)->call prog (m+2) "_law_signs" [.v (.str t)] h= .ok (.own ((t.foldl bY ([],Qc)).1.map .str++ [.str []])) h)/\((∃ c∈t, ¬dm c)->call prog (m+2) "_law_signs" [.v (.str t)] h= .ok (.v .aj) h):=by
 have o:=Bt m h t k 100000 t [] [] Qc u0 rfl rfl (λc r _ z=>by have:=z.1;rcases z.2 with y | y<;>rw [this]at y<;>exact absurd y (by decide)) (by omega) (Aa6 _)
 have b: ∀g,execs (k8 (m+1)) bp.body [y0 (.v (.str t)),u0,u0,u0] h=g->call prog (m+2) "_law_signs" [.v (.str t)] h=Gu h.length g:=fun g e=>by rw [Gb (d:=bp) rfl _ _ _ rfl,←e];rfl
 refine⟨λi=> ?_,λi=> ?_⟩
 ·obtain⟨q,e⟩:=o.1 i
  have f:(t.foldl bY ([],Qc)).1.length<=t.length:=by
   have l: ∀(t:Tx) (S:List Tx) (a:Tx) (n:Nat),iw S a n->(t.foldl bY (S,a)).1.length<=n+t.length:=by
    intro t
    induction t with
    | nil=>intro S a n f;exact f.2.1
    | cons c t j=>intro S a n f;have:(t.foldl bY (bY (S,a) c)).1.length<=n+1+t.length:=j _ _ _ (QW (c:=c) f);simp only [Ae1,Aa2];omega
   have:=l t [] Qc 0 ⟨λz=>absurd z (by decide),Aa6 _,λx p=>by cases p⟩
   omega
  rw [b (.ret (.own ((t.foldl bY ([],Qc)).1.map .str++ [.str []])) h)]
  ·exact Gy _ _ _ rfl
  ·simp only [bp]
   rw [za (Z1:= [y0 (.v (.str t)),y0 (.own []),u0,u0]) (h1:=h) rfl,za (Z1:=cw t [] 0 u0) (h1:=h) rfl,za (by rw [exec];exact e)]
   rw [ja (h1:=h) (Xu rfl (by
    simp_all [Dc]
    rw [if_pos (by rw [Gc];simp;omega)]))]
 ·have e:=o.2 i
  rw [b (.ret (.v .aj) h)]
  ·exact Ga _ _ _ rfl
  ·simp only [bp]
   rw [za (Z1:= [y0 (.v (.str t)),y0 (.own []),u0,u0]) (h1:=h) rfl,za (Z1:=cw t [] 0 u0) (h1:=h) rfl]
   exact ja (by rw [exec];exact e)
abbrev PR:=Nat->Option (D×Nat)
def nb (t:Tx):Nat:=if t∈ [([40]:Tx),[41],[91],[93]]then 0 else 1
def dB (T:List Tx) (p:Nat):Nat:=((T.drop p).map nb).sum
inductive Gd:Nat->D->Prop
 | str {n:Nat}(s:Tx):Gd n (.str s)
 | int {n:Nat}(i:Nat):Gd n (.int (i:Int))
 | tup {n:Nat}{ds:List D}(hl:ds.length<=100) (h: ∀x∈ds,Gd n x):Gd (n+1) (.tup ds)
def Gd.mono {n m:Nat}{d:D}(h:Gd n d) (e:n<=m):Gd m d:=by
 induction h generalizing m with
 | str s=>exact .str s
 | int i=>exact .int i
 | tup b _ a=>
  obtain⟨k,rfl⟩: ∃k,m=k+1:=⟨m-1,by omega⟩
  exact .tup b λx c=>a x c (by omega)
theorem W2: ∀ {ds:List D},(∀ x∈ds,Gm x=k9)->Gg ds=k9
 | [],_=>rfl
 | x::b,h=>by rw [Gg,h x Aa,W2 λy a=>h y (Aa0 _ a)];rfl
def Gd.ref {n:Nat}{d:D}(h:Gd n d):Gm d=true:=by
 induction h with
 | str s=>rfl
 | int i=>rfl
 | @tup n b _ _ a=>
  exact W2 a
def zP {T:List Tx}{p:Nat}(h:p<T.length):dB T p=nb (tk T p)+dB T (p+1):=by
 unfold dB
 rw [Ae6 h,Ac0,List.sum_cons,tk,Ac3,Aa7 h]
 rfl
def xG (T:List Tx) (p:Nat):dB T (p+1)<=dB T p:=by
 by_cases h:p<T.length
 ·rw [zP h];omega
 ·unfold dB;rw [Ah8 (by omega),Ah8 (by omega)];exact Aa6 _
def OK (T:List Tx) (p:Nat) (r:Option (D×Nat)):Prop:= ∀d q,r=y0 (d,q)->p<q/\q<=T.length/\ ∃n,Gd n d/\n+dB T q<=dB T p
theorem OK.none (T:List Tx) (p:Nat):OK T p none:=λ_ _ e=>by cases e
def xr {T:List Tx}{p:Nat}{t:Tx}(h:tk T p=t) (a:t≠ []):p<T.length:=by
 refine Nat.lt_of_not_le λz=>a ?_
 rw [← h,X4 (by omega)]
noncomputable def fy (T:List Tx) (op:Tx->Option Tx) (sub:PR):Nat->D->Nat->Option (D×Nat)
 | 0,_,_=>u0
 | f+1,d,q=>match op (tk T q)with
  | none=>y0 (d,q)
  | some s=>match sub (q+1)with
   | none=>u0
   | some (e,a)=>fy T op sub f (.tup [.str s,d,e]) a
def dJ (T:List Tx) (op:Tx->Option Tx) (sub:PR):PR:=λp=>match sub p with
 | none=>u0
 | some (d,q)=>fy T op sub (T.length+1) d q
theorem pe {T:List Tx}{op:Tx->Option Tx}{sub:PR}(c: ∀p,OK T p (sub p)) (i: ∀t s,op t=y0 s->t≠ []/\nb t=1) (p:Nat): ∀(f:Nat) (d:D) (q n:Nat),p<q->q<=T.length->Gd n d->n+dB T q<=dB T p->OK T p (fy T op sub f d q)
 | 0,_,_,_,_,_,_,_=>OK.none T p
 | f+1,d,q,n,w,v,h,j=>by
  unfold fy
  cases e:op (tk T q)with
  | none=>exact λC a z=>by cases z;exact⟨w,v,n,h,j⟩
  | some s=>
   obtain⟨m,a2⟩:=i _ _ e
   have l:=xr (T:=T) (p:=q) rfl m
   cases o:sub (q+1)with
   | none=>exact OK.none T p
   | some x=>
    obtain⟨b,a⟩:=x
    obtain⟨B,u,k,r,A⟩:=c (q+1) b a o
    have y:=zP l
    rw [a2]at y
    refine pe c i p f _ a (max n k+1) (by omega) u (.tup (by simp) λx g=> ?_) (by omega)
    simp only [Aa5,Ab0,or_false]at g
    rcases g with rfl | rfl | rfl
    ·exact .str s
    ·exact h.mono (Nat.le_max_left ..)
    ·exact r.mono (Nat.le_max_right ..)
def xM {T:List Tx}{op:Tx->Option Tx}{sub:PR}(a: ∀p,OK T p (sub p)) (h: ∀t s,op t=y0 s->t≠ []/\nb t=1) (p:Nat):OK T p (dJ T op sub p):=by
 unfold dJ
 cases e:sub p with
 | none=>exact OK.none T p
 | some x=>
  obtain⟨d,q⟩:=x
  obtain⟨g,c,k,b,f⟩:=a p d q e
  exact pe a h p _ d q k g c b f
def cU (o s:Tx):Tx->Option Tx:=λt=>if t=o then y0 s else u0
def fg:Tx->Option Tx:=λt=>if t= [43]then y0 Qi else if t= [45]then y0 qh else u0
def lP (T:List Tx) (a:PR):PR:=dJ T (cU [46] We) a
def lj (T:List Tx) (a:PR):PR:=dJ T (cU [38] Jp) (lP T a)
def dR (T:List Tx) (a:PR):PR:=dJ T fg (lj T a)
noncomputable def e8 (N T:List Tx) (b:Option PR):PR:=λp=>
 if tk T p∈ [Qh,Xo,wh]then y0 (.tup [.str (tk T p)],p+1)
 else if tk T p∈N then y0 (.tup [.str xl,.str (tk T p)],p+1)
 else match b with
  | none=>u0
  | some a=>
   if tk T p= [126]then(a (p+1)).map λx=>(.tup [.str Wa,x.1],x.2)
   else if tk T p= [94]then(a (p+1)).map λx=>(.tup [.str Xa,x.1],x.2)
   else if tk T p= [40]then(dR T a (p+1)).bind λx=>if tk T x.2= [41]then y0 (x.1,x.2+1)else u0
   else u0
def pA (N T:List Tx):Nat->PR
 | 0=>e8 N T u0
 | n+1=>e8 N T (y0 (pA N T n))
def ZH (o s:Tx) (h:o≠ []/\nb o=1): ∀t u,cU o s t=y0 u->t≠ []/\nb t=1:=λt u e=>by
 unfold cU at e
 split at e
 ·rename_i z;rw [z];exact h
 ·cases e
def qV: ∀t u,fg t=y0 u->t≠ []/\nb t=1:=λt u e=>by
 unfold fg at e
 split at e
 ·rename_i z;rw [z];decide
 ·split at e
  ·rename_i z;rw [z];decide
  ·cases e
def wB {T:List Tx}{a:PR}(h: ∀p,OK T p (a p)):(∀ p,OK T p (lP T a p))/\(∀ p,OK T p (lj T a p))/\ ∀p,OK T p (dR T a p):=by
 have c: ∀p,OK T p (lP T a p):=λp=>xM h (ZH _ _ (by decide)) p
 have b: ∀p,OK T p (lj T a p):=λp=>xM c (ZH _ _ (by decide)) p
 exact⟨c,b,λp=>xM b qV p⟩
def r6 {T:List Tx}{p:Nat}{ds:List D}(a:p<T.length) (c:nb (tk T p)=1) (b:ds.length<=100) (h: ∀x∈ds,Gd 0 x):OK T p (y0 (.tup ds,p+1)):=λd q e=>by
 cases e
 have:=zP a
 exact⟨Ae4 p,a,1,.tup b h,by omega⟩
def pP {N T:List Tx}(o: ∀t∈N,t≠ []/\nb t=1){c:Option PR}(h: ∀a,c=y0 a-> ∀p,OK T p (a p)) (p:Nat):OK T p (e8 N T c p):=by
 unfold e8
 split
 ·rename_i z
  have w:tk T p≠ []/\nb (tk T p)=1:=by
   simp only [Aa5,Ab0,or_false]at z
   rcases z with z | z | z<;>rw [z]<;>decide
  exact r6 (xr rfl w.1) w.2 (by simp) λx g=>by rw [Ab6.mp g];exact .str _
 ·split
  ·rename_i z
   have w:=o _ z
   refine r6 (xr rfl w.1) w.2 (by simp) λx g=> ?_
   simp only [Aa5,Ab0,or_false]at g
   rcases g with rfl | rfl<;>exact .str _
  ·cases c with
   | none=>exact OK.none T p
   | some a=>
    have m:=h a rfl
    have un: ∀(s:Tx),tk T p≠ []/\nb (tk T p)=1->OK T p ((a (p+1)).map λx=>(.tup [.str s,x.1],x.2)):=λs w d q e=>by
     obtain⟨⟨b,j⟩,i,f⟩:=Ae3.mp e
     dsimp only at f
     cases f
     obtain⟨u,n,k,l,r⟩:=m (p+1) b _ i
     have v:=zP (xr (T:=T) (p:=p) rfl w.1)
     refine⟨by omega,n,k+1,.tup (by simp) λx g=> ?_,by omega⟩
     simp only [Aa5,Ab0,or_false]at g
     rcases g with rfl | rfl
     ·exact .str _
     ·exact l
    dsimp only
    split
    ·rename_i z;exact un Wa (by rw [z];decide)
    ·split
     ·rename_i z;exact un Xa (by rw [z];decide)
     ·split
      ·intro d q e
       obtain⟨⟨b,j⟩,i,f⟩:=Ac6.mp e
       obtain⟨u,n,k,l,r⟩:=(wB m).2.2 (p+1) b j i
       dsimp only at f
       split at f
       ·rename_i z
        cases f
        have:=xG T p
        have:=xG T j
        exact⟨by omega,xr z (by decide),k,l,by omega⟩
       ·cases f
      ·exact OK.none T p
theorem ZK {N T:List Tx}(b: ∀t∈N,t≠ []/\nb t=1): ∀n p,OK T p (pA N T n p)
 | 0,p=>pP b (λa e=>by cases e) p
 | n+1,p=>pP b (λa e q=>by cases e;exact ZK b n q) p
theorem Zz {Y:Type}{T:List Tx}{op:Tx->Option Tx}{sub:PR}(u: ∀p,OK T p (sub p)){c:Sl->AH->R Bool}{bd:Sl->AH->O}{H:Nat->AH}{Z:D->Nat->Y->Sl}{X:O->Prop}
 (m: ∀o,X o->(∃ e h,o= .exc e h)\/ ∃w h,o= .ret w h)
 (n: ∀d q y,q<=T.length->op (tk T q)=u0->c (Z d q y) (H q)= .ok y9 (H q)) (r: ∀d q y s,q<T.length->op (tk T q)=y0 s->c (Z d q y) (H q)= .ok k9 (H q))
 (v: ∀d q y s e i,q<T.length->op (tk T q)=y0 s->sub (q+1)=y0 (e,i)-> ∃j,bd (Z d q y) (H q)= .next (Z (.tup [.str s,d,e]) i j) (H i))
 (B: ∀d q y s,q<T.length->op (tk T q)=y0 s->sub (q+1)=u0->X (bd (Z d q y) (H q))) (C: ∀t s,op t=y0 s->t≠ []): ∀(f k:Nat) (d:D) (q:Nat) (y:Y),f<=k->T.length<q+f->q<=T.length →
 (match fy T op sub f d q with
 | some (J,i)=> ∃j,Gv c bd k (Z d q y) (H q)= .next (Z J i j) (H i)
 | none=>X (Gv c bd k (Z d q y) (H q)))
 | 0,k,d,q,y,_,F,A=>by omega
 | f+1,0,d,q,y,I,_,_=>by omega
 | f+1,k+1,d,q,y,I,F,A=>by
  unfold fy
  cases e:op (tk T q)with
  | none=>exact⟨y,by rw [Gv,n d q y A e];rfl⟩
  | some s=>
   have g:=xr (T:=T) (p:=q) rfl (C _ _ e)
   have t:=r d q y s g e
   cases l:sub (q+1)with
   | none=>
    have x:=B d q y s g e l
    have:Gv c bd (k+1) (Z d q y) (H q)=bd (Z d q y) (H q):=by
     rw [Gv,t]
     rcases m _ x with⟨a,b,z⟩ | ⟨a,b,z⟩<;>simp only [R.aC,z]
    dsimp only
    rw [this];exact x
   | some x=>
    obtain⟨a,i⟩:=x
    obtain⟨j,z⟩:=v d q y s a i g e l
    obtain⟨K,G,_⟩:=u (q+1) a i l
    have E:=Zz u m n r v B C f k (.tup [.str s,d,a]) i j (by omega) (by omega) G
    have:Gv c bd (k+1) (Z d q y) (H q)=Gv c bd k (Z (.tup [.str s,d,a]) i j) (H i):=by
     rw [Gv,t]
     simp only [R.aC,z]
    dsimp only
    rw [this];exact E
section
variable {F:Fx}{e:E}{Z:Sl}{h h1:AH}{d:D}{ss:Ss}
def qE (a:GF e=u0) (q:eval F e Z h= .exc d h1):execs F (.cons (.ret e) ss) Z h= .exc d h1:=by
 rw [execs,exec,a]
 simp [q]
 rfl
def zr {i:Nat}(q:eval F e Z h= .exc d h1):execs F (.cons (.ae i e) ss) Z h= .exc d h1:=by
 rw [execs,exec,q];rfl
def sf (q:eval F e Z h= .exc d h1):execs F (.cons (.ex e) ss) Z h= .exc d h1:=by
 rw [execs,exec,q];rfl
def Ql {i:Nat}(q:eval F e Z h= .ok (.v d) h1):execs F (.cons (.ae i e) ss) Z h=execs F ss (GE Z i (.v d)) h1:=by
 rw [execs,exec,q];rfl
def nL (d:eval F a Z h= .ok (.v d1) h1):(∀ d2 h2,eval F b Z h1= .ok (.v d2) h2->eval F (.tup (.cons a (.cons b .nil))) Z h= .ok (.v (.tup [d1,d2])) h2)/\ ∀x h2,eval F b Z h1= .exc x h2->eval F (.tup (.cons a (.cons b .nil))) Z h= .exc x h2:=by
 refine⟨λd2 h2 c=> ?_,λx h2 c=> ?_⟩<;>(rw [eval,Gq,d];simp only [R.aa,W.dQ,R.ag,Gq];rw [c];rfl)
def kR {a b c:E}{d1 d2:D}{h2:AH}(f:eval F a Z h= .ok (.v d1) h1) (e:eval F b Z h1= .ok (.v d2) h2):(∀ j i,eval F c Z h2= .ok (.v j) i->eval F (.tup (.cons a (.cons b (.cons c .nil)))) Z h= .ok (.v (.tup [d1,d2,j])) i)/\ ∀x i,eval F c Z h2= .exc x i->eval F (.tup (.cons a (.cons b (.cons c .nil)))) Z h= .exc x i:=by
 refine⟨λj i d=> ?_,λx i d=> ?_⟩<;>(rw [eval,Gq,f];simp only [R.aa,W.dQ,R.ag,Gq];rw [e];simp only [R.aa,W.dQ,R.ag];rw [d];rfl)
end
def Dv (m) (h):call prog (m+1) "one_deeper" [.v (.int 20)] h= .exc bf h:=rfl
def Q0 (m) (g) (N T) (p) (t) (b:tk T p≠t):call prog (m+3) "Reader.take_just" [.v (.ref g.length),.v (.str t)] (rh g N T p)= .exc bf (rh g N T (p+1)):=by
 rw [Gb rfl _ _ _ rfl]
 simp only [jh]
 show Gu _ (execs _ _ [y0 (.v (.ref g.length)),y0 (.v (.str t))] _)=_
 have z:Gs .ne (.v (.str (tk T p))) (.v (.str t)) (rh g N T (p+1))=y0 true:=by simp [GK,b]
 have a:Gf (k8 (m+2)) (.cmp .ne (.ai 0 "Reader" "take" "Reader.take" .nil) .v1) [some (.v (.ref g.length)),some (.v (.str t))] (rh g N T p)= .ok true (rh g N T (p+1)):=by
  rw [Gf,eval,zp rfl]
  simp only [R.aa,eval,Gn,Gk,z,R.ag,Gp,aH]
 rw [execs,zg a]
 rfl
def Zr {m:Nat}{g:AH}{N T:List Tx}{p:Nat}{Z:Sl}{q k:String}{i j:Nat}{w:D}(a:Gk Z 0=y0 (.v (.ref g.length))) (h1:Gk Z i=y0 (.v w)) (b:((d7 N T p).lookup k).isNone=k9):
 eval (k8 m) (.ai 0 "Reader" k q (.a (.var i))) Z (rh g N T p)=call prog m q [.v (.ref g.length),.v w] (rh g N T p):=by
 have e:Gj (k8 m) (.a (.var i)) Z (rh g N T p)= .ok [.v w] (rh g N T p):=by
  simp [Gn,h1,R.ag]
 rw [fJ a b e];rfl
def QJ {w:Nat}(b:w<20) (a:Gk Z 0=y0 (.v (.ref g.length))) (h1:Gk Z 1=y0 (.v (.int (w:Int)))) (c:((d7 N T p).lookup k).isNone=k9):
 eval (k8 (m+1)) (.ai 0 "Reader" k q (.a (.call "one_deeper" (.a .v1)))) Z (rh g N T p)=call prog (m+1) q [.v (.ref g.length),.v (.int ((w+1:Nat):Int))] (rh g N T p):=by
 have e:Gj (k8 (m+1)) (.a (.call "one_deeper" (.a .v1))) Z (rh g N T p)= .ok [.v (.int (w+1:Nat))] (rh g N T p):=by
  simp only [Gj,eval,Gn,h1,R.aa,Ac0,Ah4,W.eN,DS m w _ b]
 rw [fJ a c e];rfl
def qt (a:Gk Z 0=y0 (.v (.ref g.length))) (h1:Gk Z 1=y0 (.v (.int 20))) (b:((d7 N T p).lookup k).isNone=k9):
 eval (k8 (m+1)) (.ai 0 "Reader" k q (.a (.call "one_deeper" (.a .v1)))) Z (rh g N T p)= .exc bf (rh g N T p):=by
 have e:Gj (k8 (m+1)) (.a (.call "one_deeper" (.a .v1))) Z (rh g N T p)= .exc bf (rh g N T p):=by
  simp only [Gj,eval,Gn,h1,Dv m]
  rfl
 rw [eval,a,Jt]
 simp only [b,e]
 rfl
def RP (g:AH) (N T:List Tx) (nm:String) (w p m:Nat) (r:Option (D×Nat)):Prop:=match r with
 | some (d,q)=>call prog m nm [.v (.ref g.length),.v (.int (w:Int))] (rh g N T p)= .ok (.v d) (rh g N T q)
 | none=> ∃q,call prog m nm [.v (.ref g.length),.v (.int (w:Int))] (rh g N T p)= .exc bf (rh g N T q)
abbrev rs (g:AH) (w:Nat) (x:Option W):Sl:= [y0 (.v (.ref g.length)),y0 (.v (.int (w:Int))),x]
abbrev cD (g:AH) (w:Nat) (x y:Option W):Sl:= [y0 (.v (.ref g.length)),y0 (.v (.int (w:Int))),x,y]
def kP {g:AH}{N T:List Tx}{m w:Nat}{nm k q:String}{o s:Tx}{sub:PR}(P:prog.fns.lookup nm=y0 ⟨2,3,.cons (.ae 2 (.ai 0 "Reader" k q (.a .v1))) (.cons (.dX 100000 (.cmp .eq (.ai 0 "Reader" "here" "Reader.here" .nil) (.str o)) (.cons (.ex (.ai 0 "Reader" "take" "Reader.take" .nil)) (.a (.ae 2 (.tup (.c (.str s) .v2 (.ai 0 "Reader" k q (.a .v1)))))))) (.a (.ret .v2)))⟩)
 (R: ∀p,((d7 N T p).lookup k).isNone=k9) (M: ∀p,OK T p (sub p)) (I: ∀p,RP g N T q w p (m+2) (sub p)) (U:o≠ []) (V:T.length<=90000) (p:Nat):RP g N T nm w p (m+3) (dJ T (cU o s) sub p):=by
 have v: ∀(p:Nat) (x:Option W),eval (k8 (m+2)) (.ai 0 "Reader" k q (.a .v1)) (rs g w x) (rh g N T p)=call prog (m+2) q [.v (.ref g.length),.v (.int (w:Int))] (rh g N T p):=fun p x=>Zr (j:=0) rfl rfl (R p)
 have C: ∀J,execs (k8 (m+2)) (.cons (.ae 2 (.ai 0 "Reader" k q (.a .v1))) (.cons (.dX 100000 (.cmp .eq (.ai 0 "Reader" "here" "Reader.here" .nil) (.str o)) (.cons (.ex (.ai 0 "Reader" "take" "Reader.take" .nil)) (.a (.ae 2 (.tup (.c (.str s) .v2 (.ai 0 "Reader" k q (.a .v1)))))))) (.a (.ret .v2)))) (rs g w none) (rh g N T p)=J->call prog (m+3) nm [.v (.ref g.length),.v (.int (w:Int))] (rh g N T p)=Gu (rh g N T p).length J:=fun J e=>by rw [Gb P _ _ _ rfl,←e];rfl
 have r:=I p
 unfold dJ
 cases e:sub p with
 | none=>
  rw [e]at r
  obtain⟨i,r⟩:=r
  exact⟨i,C _ (zr (by rw [v];exact r))⟩
 | some x=>
  obtain⟨d,A⟩:=x
  rw [e]at r
  obtain⟨_,Q,_⟩:=M p d A e
  have K: ∀B,execs (k8 (m+2)) (.cons (.ae 2 (.ai 0 "Reader" k q (.a .v1))) B) (rs g w none) (rh g N T p)=execs (k8 (m+2)) B (rs g w (some (.v d))) (rh g N T A):=fun B=>Ql (by rw [v];exact r)
  have n: ∀(d:D) (f:Nat),execs (k8 (m+2)) (.cons (.ex (.ai 0 "Reader" "take" "Reader.take" .nil)) (.a (.ae 2 (.tup (.c (.str s) .v2 (.ai 0 "Reader" k q (.a .v1))))))) (rs g w (some (.v d))) (rh g N T f)=execs (k8 (m+2)) (.a (.ae 2 (.tup (.c (.str s) .v2 (.ai 0 "Reader" k q (.a .v1)))))) (rs g w (some (.v d))) (rh g N T (f+1)):=fun d f=>za (xU rfl)
  have O:=λ(d:D) (f:Nat)=>kR (F:=(k8 (m+2))) (a:= .str s) (b:= .var 2) (c:= .ai 0 "Reader" k q (.a .v1)) (Z:=rs g w (some (.v d))) (h:=rh g N T f) (d1:= .str s) (d2:=d) rfl rfl
  have l:=Zz (Y:=Unit) (T:=T) (op:=cU o s) M (H:=rh g N T) (Z:=λd _ _=>rs g w (y0 (.v d))) (X:=λo=> ∃q,o= .exc bf (rh g N T q))
   (c:=fun Z h=>Gf (k8 (m+2)) (.cmp .eq (.ai 0 "Reader" "here" "Reader.here" .nil) (.str o)) Z h) (bd:=fun Z h=>execs (k8 (m+2)) (.cons (.ex (.ai 0 "Reader" "take" "Reader.take" .nil)) (.a (.ae 2 (.tup (.c (.str s) .v2 (.ai 0 "Reader" k q (.a .v1))))))) Z h)
   (λo ⟨q,z⟩=> .inl ⟨_,_,z⟩)
   (λd f _ _ z=>by
     show Gf _ _ _ _=_
     rw [W3 o rfl,show(tk T f==o)=y9 from beq_eq_false_iff_ne.mpr λy=>by unfold cU at z;rw [if_pos y]at z;cases z])
   (λd f _ E _ z=>by
     show Gf _ _ _ _=_
     rw [W3 o rfl,show(tk T f==o)=k9 from beq_iff_eq.mpr (Ad9 λy=>by unfold cU at z;rw [if_neg y]at z;cases z)])
   (λd f _ E e i _ z G=>⟨(),by
     have:E=s:=by unfold cU at z;split at z<;>cases z;rfl
     subst this
     have a:=I (f+1)
     rw [G]at a
     show execs _ _ _ _=_
     rw [n,Ql ((O d (f+1)).1 e _ (by rw [v];exact a))]
     rfl⟩)
   (λd f _ E _ z G=>by
     have a:=I (f+1)
     rw [G]at a
     obtain⟨i,a⟩:=a
     refine⟨i,?_⟩
     show execs _ _ _ _=_
     rw [n,zr ((O d (f+1)).2 _ _ (by rw [v];exact a))])
   (λt u z=>(by unfold cU at z;split at z<;>cases z;rename_i y;rw [y];exact U)) (T.length+1) 100000 d A () (by omega) (by omega) Q
  dsimp only
  cases L:fy T (cU o s) sub (T.length+1) d A with
  | none=>
   rw [L]at l
   obtain⟨i,l⟩:=l
   refine⟨i,C (.exc bf (rh g N T i)) ?_⟩
   rw [K,execs,exec,show Gv _ _ _ _ _=_ from l]
   rfl
  | some y=>
   obtain⟨S,i⟩:=y
   rw [L]at l
   obtain⟨_,l⟩:=l
   show call prog (m+3) nm _ _=_
   rw [C (.ret (.v S) (rh g N T i)) (by
    rw [K,za (by rw [exec];exact l)]
    exact ja rfl)]
   exact Ga _ _ _ (Xl ..)
section
variable {g:AH}{N T:List Tx}{m w:Nat}
def oR (a:Gk Z 0=y0 (.v (.ref g.length))):Gf (k8 (m+2)) xc Z (rh g N T p)= .ok (u9 (tk T p∈ [[43],[45]])) (rh g N T p):=by
 rw [xc,Gf,eval,XV a]
 simp only [R.aa]
 rw [xp]
 simp only [R.aa,Zn,R.ag,Gp,aH]
def zY (h:fg t=y0 s):(t,s)∈ [(([43]:Tx),Qi),([45],qh),([126],Wa),([94],Xa),(c8,jK),([61],zj)]/\t∈ [([43]:Tx),[45]]:=by
 unfold fg at h
 split at h
 ·rename_i z;cases h;subst z;decide
 ·split at h
  ·rename_i z;cases h;subst z;decide
  ·cases h
def uz (K: ∀p,OK T p (sub p)) (E: ∀p,RP g N T "Reader.term" w p (m+2) (sub p)) (P:T.length<=90000) (p):RP g N T "Reader.expression" w p (m+3) (dJ T fg sub p):=by
 have v: ∀ p x y,eval (k8 (m+2)) (.ai 0 "Reader" "term" "Reader.term" (.a .v1)) (cD g w x y) (rh g N T p)=call prog (m+2) "Reader.term" [.v (.ref g.length),.v (.int (w:Int))] (rh g N T p):=fun p x y=>Zr (j:=0) rfl rfl rfl
 have A: ∀G,execs (k8 (m+2)) aX.body (cD g w u0 u0) (rh g N T p)=G->call prog (m+3) "Reader.expression" [.v (.ref g.length),.v (.int (w:Int))] (rh g N T p)=Gu (rh g N T p).length G:=fun G e=>by rw [Gb rfl _ _ _ rfl,←e];rfl
 have r:=E p
 unfold dJ
 simp only [aX]at A
 cases e:sub p with
 | none=>
  rw [e]at r
  obtain⟨i,r⟩:=r
  exact⟨i,A _ (zr (by rw [v];exact r))⟩
 | some x=>
  obtain⟨d,B⟩:=x
  rw [e]at r
  obtain⟨_,M,_⟩:=K p d B e
  have J: ∀C,execs (k8 (m+2)) (.cons (.ae 2 (.ai 0 "Reader" "term" "Reader.term" (.a .v1))) C) (cD g w none none) (rh g N T p)=execs (k8 (m+2)) C (cD g w (some (.v d)) none) (rh g N T B):=fun C=>Ql (by rw [v];exact r)
  have l: ∀ d f y s,fg (tk T f)=some s->execs (k8 (m+2)) Zc (cD g w (some (.v d)) y) (rh g N T f)=execs (k8 (m+2)) (.a (.ae 2 (.tup (.c .v3 .v2 (.ai 0 "Reader" "term" "Reader.term" (.a .v1)))))) (cD g w (some (.v d)) (some (.v (.str s)))) (rh g N T (f+1)):=fun d f y s z=>by
   rw [Zc]
   exact Ql (mu (zA _) (zp rfl) (zY z).1)
  have L:=λd f s=>kR (F:=(k8 (m+2))) (a:= .var 3) (b:= .var 2) (c:= .ai 0 "Reader" "term" "Reader.term" (.a .v1)) (Z:=cD g w (some (.v d)) (some (.v (.str s)))) (h:=rh g N T f) rfl rfl
  have k:=Zz K (H:=rh g N T) (Z:=λd _ y=>cD g w (y0 (.v d)) y) (X:=λo=> ∃q,o= .exc bf (rh g N T q))
   (c:=λZ h=>Gf (k8 (m+2)) xc Z h) (bd:=λZ h=>execs (k8 (m+2)) Zc Z h)
   (λo ⟨q,z⟩=> .inl ⟨_,_,z⟩)
   (λd f _ _ z=>by
     show Gf _ _ _ _=_
     rw [oR rfl,decide_eq_false λy=> ?_]
     simp only [Aa5,Ab0,or_false]at y
     unfold fg at z
     rcases y with y | y
     ·rw [if_pos y]at z;cases z
     ·rw [if_neg (by rw [y];decide),if_pos y]at z;cases z)
   (λd f _ n _ z=>by
     show Gf _ _ _ _=_
     rw [oR rfl,decide_eq_true (zY z).2])
   (λd f y n e i _ z D=>⟨y0 (.v (.str n)),by
     have a:=E (f+1)
     rw [D]at a
     show execs _ _ _ _=_
     rw [l d f y n z,Ql ((L d (f+1) n).1 e _ (by rw [v];exact a))]
     rfl⟩)
   (λd f y n _ z D=>by
     have a:=E (f+1)
     rw [D]at a
     obtain⟨i,a⟩:=a
     refine⟨i,?_⟩
     show execs _ _ _ _=_
     rw [l d f y n z,zr ((L d (f+1) n).2 _ _ (by rw [v];exact a))])
   (λt u z=>(qV t u z).1) (T.length+1) 100000 d B u0 (by omega) (by omega) M
  dsimp only
  cases I:fy T fg sub (T.length+1) d B with
  | none=>
   rw [I]at k
   obtain⟨i,k⟩:=k
   refine⟨i,A (.exc bf (rh g N T i)) ?_⟩
   rw [J,execs,exec,show Gv _ _ _ _ _=_ from k]
   rfl
  | some y=>
   obtain⟨O,i⟩:=y
   rw [I]at k
   obtain⟨_,k⟩:=k
   show call prog (m+3) "Reader.expression" _ _=_
   rw [A (.ret (.v O) (rh g N T i)) (by
    rw [J,za (by rw [exec];exact k)]
    exact ja rfl)]
   exact Ga _ _ _ (Xl ..)
def dh (N:List Tx):Prop:= ∀t∈N,t≠ []/\nb t=1/\t≠ [126]/\t≠ [94]/\t≠ [40]
def pa (O:dh N)(o:match deep with
 | none=>w=20
 | some a=>w<20/\(∀ p,RP g N T "Reader.atom" (w+1) p (m+3) (a p))/\ ∀p,RP g N T "Reader.expression" (w+1) p (m+3) (dR T a p)) (p):RP g N T "Reader.atom" w p (m+4) (e8 N T deep p):=by
 have j: ∀L,execs (k8 (m+3)) bN.body (cD g w u0 u0) (rh g N T p)=L->call prog (m+4) "Reader.atom" [.v (.ref g.length),.v (.int (w:Int))] (rh g N T p)=Gu (rh g N T p).length L:=fun L e=>by rw [Gb rfl _ _ _ rfl,←e];rfl
 simp only [bN]at j
 have c: ∀t,execs (k8 (m+3)) (.cons (.ae 2 (.ai 0 "Reader" "take" "Reader.take" .nil)) t) (cD g w none none) (rh g N T p)=execs (k8 (m+3)) t (cD g w (some (.v (.str (tk T p)))) none) (rh g N T (p+1)):=fun t=>Ql (zp rfl)
 have fin: ∀ {d}{q},Gu (rh g N T p).length (.ret (.v d) (rh g N T q))= .ok (.v d) (rh g N T q):=λ{d q}=>Ga _ _ _ (Xl ..)
 have i:Gf (k8 (m+3)) (.cmp .mem .v2 (.tup (.b (.str [126]) (.str [94])))) (cD g w (y0 (.v (.str (tk T p)))) u0) (rh g N T (p+1))= .ok (u9 (tk T p∈ [[126],[94]])) (rh g N T (p+1)):=m4 rfl _ _
 have C:Gf (k8 (m+3)) (.cmp .mem .v2 (.tup (.c (.str fH) (.str g7) (.str fP)))) (cD g w (y0 (.v (.str (tk T p)))) u0) (rh g N T (p+1))= .ok (u9 (tk T p∈ [Qh,Xo,wh])) (rh g N T (p+1)):=rQ rfl _ _ _
 have l:Gf (k8 (m+3)) (.cmp .eq .v2 (.str [40])) (cD g w (y0 (.v (.str (tk T p)))) u0) (rh g N T (p+1))= .ok (tk T p== [40]) (rh g N T (p+1)):=kn rfl _
 have G:Gf (k8 (m+3)) (.cmp .mem .v2 (.fld 0 "Reader" "names")) (cD g w (some (.v (.str (tk T p)))) none) (rh g N T (p+1))= .ok (decide (tk T p∈N)) (rh g N T (p+1)):=by
  rw [Gf,eval,Wg rfl,R.aa,yi rfl]
  simp only [R.aa,Zn,R.ag,Gp,aH]
 have A:tk T p≠ [126]->tk T p≠ [94]->tk T p≠ [40]-> ∀r,r=(if tk T p∈ [Qh,Xo,wh]then y0 (.tup [.str (tk T p)],p+1)else if tk T p∈N then y0 (.tup [.str xl,.str (tk T p)],p+1)else u0)->RP g N T "Reader.atom" w p (m+4) r:=fun U a2 a3 r W=>by
  rw [decide_eq_false (by simp [U,a2])]at i
  rw [beq_eq_false_iff_ne.mpr a3]at l
  subst W
  by_cases z:tk T p∈ [Qh,Xo,wh]
  ·rw [if_pos z]
   rw [decide_eq_true z]at C
   show call _ _ _ _ _=_
   rw [j (.ret (.v (.tup [.str (tk T p)])) (rh g N T (p+1))) (by rw [c,qa i,qa l];exact zf C (jc rfl (by simp_all [])))]
   exact fin
  ·rw [if_neg z]
   rw [decide_eq_false z]at C
   by_cases y:tk T p∈N
   ·rw [if_pos y]
    rw [decide_eq_true y]at G
    show call _ _ _ _ _=_
    rw [j (.ret (.v (.tup [.str xl,.str (tk T p)])) (rh g N T (p+1))) (by rw [c,qa i,qa l,qa C];exact zf G (jc rfl (by simp_all [])))]
    exact fin
   ·rw [if_neg y]
    rw [decide_eq_false y]at G
    refine⟨p+1,?_⟩
    rw [j (.exc bf (rh g N T (p+1))) (by rw [c,qa i,qa l,qa C,qa G];rfl)]
    rfl
 by_cases n:tk T p∈ [([126]:Tx),[94]]
 ·rw [decide_eq_true n]at i
  have H:tk T p∉ [Qh,Xo,wh]:=by
   simp only [Aa5,Ab0,or_false]at n
   rcases n with z | z<;>rw [z]<;>decide
  have J:tk T p∉N:=λy=>by
   obtain⟨_,_,b1,Y,_⟩:=O _ y
   simp only [Aa5,Ab0,or_false]at n
   exact n.elim b1 Y
  have sg: ∃s,(tk T p,s)∈ [(([43]:Tx),Qi),([45],qh),([126],Wa),([94],Xa),(c8,jK),([61],zj)]/\ ∀a:PR,(if tk T p= [126]then(a (p+1)).map λx=>(D.tup [.str Wa,x.1],x.2)else if tk T p= [94]then(a (p+1)).map λx=>(.tup [.str Xa,x.1],x.2)else if tk T p= [40]then(dR T a (p+1)).bind λx=>if tk T x.2= [41]then y0 (x.1,x.2+1)else u0 else u0)=(a (p+1)).map λx=>(.tup [.str s,x.1],x.2):=by
   simp only [Aa5,Ab0,or_false]at n
   rcases n with z | z
   ·exact⟨Wa,by rw [z];decide,λa=>by rw [if_pos z]⟩
   ·exact⟨Xa,by rw [z];decide,λa=>by rw [if_neg (by rw [z];decide),if_pos z]⟩
  obtain⟨s,X,I⟩:=sg
  have K:=nL (F:=(k8 (m+3))) (a:= .eC "SORTS" .v2) (b:= .ai 0 "Reader" "atom" "Reader.atom" (.a (.call "one_deeper" (.a .v1)))) (Z:=cD g w (some (.v (.str (tk T p)))) none) (h:=rh g N T (p+1)) (mu (zA _) (Wg rfl) X)
  unfold e8
  rw [if_neg H,if_neg J]
  cases deep with
  | none=>
   have o:w=20:=o
   subst o
   refine⟨p+1,?_⟩
   rw [j (.exc bf (rh g N T (p+1))) (by
    rw [c,execs,zg i,qE rfl (K.2 _ _ (qt (m:=m+2) rfl rfl rfl))]
    rfl)]
   rfl
  | some a=>
   obtain⟨M,S,_⟩:=o
   dsimp only
   rw [I a]
   have f:=S (p+1)
   have E:=QJ (m:=m+2) (g:=g) (N:=N) (T:=T) (p:=p+1) (Z:=cD g w (y0 (.v (.str (tk T p)))) u0) (q:= "Reader.atom") (k:= "atom") M rfl rfl rfl
   cases e:a (p+1)with
   | none=>
    rw [e]at f
    obtain⟨B,f⟩:=f
    refine⟨B,?_⟩
    rw [j (.exc bf (rh g N T B)) (by
     rw [c,execs,zg i,qE rfl (K.2 _ _ (by rw [E];exact f))]
     rfl)]
    rfl
   | some x=>
    obtain⟨d,q⟩:=x
    rw [e]at f
    show call _ _ _ _ _=_
    rw [j (.ret (.v (.tup [.str s,d])) (rh g N T q)) (by
     rw [c]
     exact ja (by rw [zg i];exact ja (jc rfl (K.1 _ _ (by rw [E];exact f)))))]
    exact fin
 ·have v:tk T p≠ [126]/\tk T p≠ [94]:=by simpa using n
  by_cases u:tk T p= [40]
  ·rw [decide_eq_false n]at i
   rw [show (tk T p== [40])=k9 from beq_iff_eq.mpr u]at l
   have H:tk T p∉ [Qh,Xo,wh]:=by rw [u];decide
   have J:tk T p∉N:=λy=>(O _ y).2.2.2.2 u
   unfold e8
   rw [if_neg H,if_neg J]
   cases deep with
   | none=>
    have o:w=20:=o
    subst o
    refine⟨p+1,?_⟩
    rw [j (.exc bf (rh g N T (p+1))) (by
     rw [c,qa i,execs,zg l,zr (qt (m:=m+2) rfl rfl rfl)]
     rfl)]
    rfl
   | some a=>
    obtain⟨M,_,V⟩:=o
    dsimp only
    rw [if_neg v.1,if_neg v.2,if_pos u]
    have f:=V (p+1)
    have E:=QJ (m:=m+2) (g:=g) (N:=N) (T:=T) (p:=p+1) (Z:=cD g w (y0 (.v (.str (tk T p)))) u0) (q:= "Reader.expression") (k:= "expression") M rfl rfl rfl
    cases e:dR T a (p+1)with
    | none=>
     rw [e]at f
     obtain⟨B,f⟩:=f
     refine⟨B,?_⟩
     rw [j (.exc bf (rh g N T B)) (by
      rw [c,qa i,execs,zg l,zr (by rw [E];exact f)]
      rfl)]
     rfl
    | some x=>
     obtain⟨d,q⟩:=x
     rw [e]at f
     have P: ∀t,execs (k8 (m+3)) (.cons (.ae 3 (.ai 0 "Reader" "expression" "Reader.expression" (.a (.call "one_deeper" (.a .v1))))) t) (cD g w (some (.v (.str (tk T p)))) none) (rh g N T (p+1))=execs (k8 (m+3)) t (cD g w (some (.v (.str (tk T p)))) (some (.v d))) (rh g N T q):=fun t=>Ql (by rw [E];exact f)
     have Q:=fJ (F:=(k8 (m+3))) (g:=g) (N:=N) (T:=T) (p:=q) (Z:=cD g w (y0 (.v (.str (tk T p)))) (y0 (.v d))) (m:= "take_just") (q:= "Reader.take_just") (es:= .cons (.str [41]) .nil) (ws:= [.v (.str [41])]) rfl rfl rfl
     show RP g N T _ w p (m+4) (if tk T q= [41]then y0 (d,q+1)else u0)
     by_cases z:tk T q= [41]
     ·rw [if_pos z]
      show call _ _ _ _ _=_
      rw [j (.ret (.v d) (rh g N T (q+1))) (by
       rw [c,qa i]
       refine ja ?_
       rw [zg l,P,za (Z1:=cD g w (y0 (.v (.str (tk T p)))) (y0 (.v d))) (h1:=rh g N T (q+1)) (by rw [exec,Q,show(k8 (m+3)).call "Reader.take_just" _ _=_ from oJ m g N T q [41] z];rfl)]
       exact ja rfl)]
      exact fin
     ·rw [if_neg z]
      refine⟨q+1,?_⟩
      rw [j (.exc bf (rh g N T (q+1))) (by
       rw [c,qa i,execs,zg l,P,sf (by rw [Q];exact Q0 m g N T q [41] z)]
       rfl)]
      rfl
  ·unfold e8
   refine A v.1 v.2 u _ ?_
   cases deep with
   | none=>rfl
   | some a=>dsimp only;rw [if_neg v.1,if_neg v.2,if_neg u]
end
theorem dh.nb {N:List Tx}(h:dh N): ∀t∈N,t≠ []/\nb t=1:=λt a=>⟨(h t a).1,(h t a).2.1⟩
def sR (b:T.length<=90000) (c: ∀p,OK T p (a p)) (h: ∀p,RP g N T "Reader.atom" w p (m+4) (a p)): ∀p,RP g N T "Reader.expression" w p (m+7) (dR T a p):=by
 obtain⟨f,d,_⟩:=wB c
 have i: ∀p,RP g N T "Reader.factor" w p (m+5) (lP T a p):=kP rfl (fun _=>rfl) c h (by decide) b
 have e: ∀p,RP g N T "Reader.term" w p (m+6) (lj T a p):=kP rfl (fun _=>rfl) f i (by decide) b
 exact uz d e b
theorem Q2 (a:dh N) (b:T.length<=90000): ∀n,n<=20-> ∀m,(∀ p,RP g N T "Reader.atom" (20-n) p (4*n+m+4) (pA N T n p))/\ ∀p,RP g N T "Reader.expression" (20-n) p (4*n+m+7) (dR T (pA N T n) p)
 | 0,_,m=>by
  have h: ∀p,RP g N T "Reader.atom" 20 p (m+4) (pA N T 0 p):=pa a rfl
  rw [show 4*0+m=m by omega]
  exact⟨h,sR b (ZK a.nb 0) h⟩
 | n+1,c,m=>by
  obtain⟨i1,i2⟩:=Q2 a b n (by omega) m
  have e:20-(n+1)+1=20-n:=by omega
  have h: ∀p,RP g N T "Reader.atom" (20-(n+1)) p (4*n+m+4+4) (pA N T (n+1) p):=pa a ⟨by omega,fun p=>by
   rw [e]
   obtain⟨i1,_⟩:=Q2 a b n (by omega) (m+3)
   exact i1 p,λp=>by rw [e];exact i2 p⟩
  rw [show 4*(n+1)+m=4*n+m+4 by omega]
  exact⟨h,sR b (ZK a.nb (n+1)) h⟩
def eL:Tx->Option Tx:=λt=>if t=jK then y0 jK else if t= [61]then y0 zj else u0
def fi (t:Tx):Bool:=(u9 (1<=t.length)&&u9 (t.length<=2))&&t.all b4.contains&&(t== [48]|| !u9 (t.head? =y0 48))
def gW (t:Tx):Option Nat:=if fi t=k9 then iA t else u0
noncomputable def qM (T:List Tx) (x:PR) (a:Tx):PR:=λp=>
 if tk T p∈ [zd,Jg]then(gW (tk T (p+1))).bind λk=>(x (p+2)).map λy=>(.tup [.str (a++tk T p),.int (k:Int),y.1],y.2)else u0
abbrev Zd:Tx:= [101,97,99,104]
def eQ (T:List Tx) (x:PR):PR:=λp=>
 if tk T p∈ [qj,WR]then(x (p+1)).map λy=>(.tup [.str (tk T p),y.1],y.2)
 else if tk T p∈ [zd,Jg]then qM T x [] p
 else if tk T p=Zd then qM T x Zd (p+1)
 else(x p).bind λy=>(eL (tk T y.2)).bind λs=>(x (y.2+1)).map λz=>(.tup [.str s,y.1,z.1],z.2)
def nY {T:List Tx}{a p q0:Nat}{x:PR}(m: ∀p,OK T p (x p)) (r:a<=p) (t:1+dB T p<=dB T a) (f:D->List D) (i: ∀d n,Gd n d-> ∀y∈f d,Gd n y) (h: ∀d,(f d).length<=100):OK T a ((x p).map λy=>(.tup (f y.1),y.2)):=λd q e=>by
 obtain⟨⟨b,o⟩,g,c⟩:=Ae3.mp e
 dsimp only at c
 cases c
 obtain⟨u,l,k,j,s⟩:=m p b _ g
 exact⟨by omega,l,k+1,.tup (h b) (i b k j),by omega⟩
def kz {T:List Tx}{p:Nat}(h:tk T p≠ []/\nb (tk T p)=1):1+dB T (p+1)<=dB T p:=by
 have:=zP (xr (T:=T) (p:=p) rfl h.1);lia
def tX {T:List Tx}{x:PR}(c: ∀p,OK T p (x p)) (b:Tx) (p:Nat):OK T p (qM T x b p):=by
 unfold qM
 split
 ·rename_i z
  cases e:gW (tk T _)with
  | none=>exact OK.none T p
  | some k=>
   have w:tk T p≠ []/\nb (tk T p)=1:=by
    simp [or_false]at z
    rcases z with z | z<;>rw [z]<;>decide
   have:=kz w
   have:dB T (p+2)<=dB T _:=xG T _
   refine nY (q0:=0) c (by lia) (by lia) (λd=> [.str _,.int k,d]) (λd n g y a=> ?_) λd=>by simp
   simp [or_false]at a
   obtain rfl | rfl | rfl:=a
   ·exact .str _
   ·exact .int _
   ·exact g
 ·exact OK.none T p
def oZ (f: ∀p,OK T p (x p)) (p):OK T p (eQ T x p):=by
 unfold eQ
 split
 ·rename_i z
  have w:tk T p≠ []/\nb (tk T p)=1:=by
   simp [or_false]at z
   rcases z with z | z<;>rw [z]<;>decide
  refine nY (q0:=0) f (by lia) (kz w) (λd=> [.str _,d]) (λd n g y h=> ?_) λd=>by simp
  simp [or_false]at h
  obtain rfl | rfl:=h
  ·exact .str _
  ·exact g
 ·split
  ·exact tX f [] p
  ·split
   ·intro d q e
    obtain⟨u,m,k,l,t⟩:=tX f Zd _ d q e
    have:=xG T p
    exact⟨by lia,m,k,l,by lia⟩
   ·intro d q e
    obtain⟨⟨a,i⟩,r,e⟩:=Ac6.mp e
    obtain⟨s,c,e⟩:=Ac6.mp e
    obtain⟨⟨b,A⟩,o,e⟩:=Ae3.mp e
    dsimp only at e c o
    cases e
    obtain⟨v,a2,k,a3,a4⟩:=f p a i r
    obtain⟨u,m,j,l,t⟩:=f _ b q o
    have w:tk T i≠ []/\nb (tk T i)=1:=by
     unfold eL at c
     split at c
     ·rename_i z;rw [z];decide
     ·split at c
      ·rename_i z;rw [z];decide
      ·cases c
    have:=kz w
    refine⟨by lia,m,max k j+1,.tup (by simp) λy h=> ?_,by lia⟩
    simp [or_false]at h
    obtain rfl | rfl | rfl:=h
    ·exact .str _
    ·exact a3.mono (Nat.le_max_left ..)
    ·exact l.mono (Nat.le_max_right ..)
def gF (T:List Tx) (b:PR) (a:Option PR):PR:=λp=>
 if tk T p=Xk then match a with
  | none=>u0
  | some u=>(u (p+1)).map λy=>(.tup [.str Xk,y.1],y.2)
 else if tk T p= [91]then match a with
  | none=>u0
  | some u=>(dJ T (cU jV jV) (dJ T (cU js js) u) (p+1)).bind λy=>if tk T y.2= [93]then y0 (y.1,y.2+1)else u0
 else b p
def pU (N T:List Tx):Nat->PR
 | 0=>gF T (eQ T (dR T (pA N T 0))) u0
 | n+1=>gF T (eQ T (dR T (pA N T (n+1)))) (y0 (pU N T n))
def kD (T:List Tx) (u:PR):PR:=dJ T (cU js js) u
def dw (T:List Tx) (u:PR):PR:=dJ T (cU jV jV) (kD T u)
def XO (b: ∀p,OK T p (u p)):(∀ p,OK T p (kD T u p))/\ ∀p,OK T p (dw T u p):=by
 have a: ∀p,OK T p (kD T u p):=λp=>xM b (ZH _ _ (by decide)) p
 exact⟨a,λp=>xM a (ZH _ _ (by decide)) p⟩
def pT (l: ∀p,OK T p (fc p))(h: ∀a,deep=y0 a-> ∀p,OK T p (a p)) (p):OK T p (gF T fc deep p):=by
 unfold gF
 split
 ·rename_i z
  cases deep with
  | none=>exact OK.none T p
  | some u=>
   refine nY (q0:=0) (h u rfl) (by omega) (kz (by rw [z];decide)) (λd=> [.str Xk,d]) (λd n g y i=> ?_) λd=>by simp
   simp only [Aa5,Ab0,or_false]at i
   rcases i with rfl | rfl
   ·exact .str _
   ·exact g
 ·split
  ·cases deep with
   | none=>exact OK.none T p
   | some u=>
    intro d q e
    obtain⟨⟨b,f⟩,j,c⟩:=Ac6.mp e
    obtain⟨s,r,k,m,o⟩:=(XO (h u rfl)).2 (p+1) b f j
    dsimp only at c
    split at c
    ·rename_i z
     cases c
     have:=xG T p
     have:=xG T f
     exact⟨by omega,xr z (by decide),k,m,by omega⟩
    ·cases c
  ·exact l p
theorem wV (b: ∀t∈N,t≠ []/\nb t=1): ∀n p,OK T p (pU N T n p)
 | 0,p=>pT (oZ (wB (ZK b 0)).2.2) (λa e=>by cases e) p
 | n+1,p=>pT (oZ (wB (ZK b (n+1))).2.2) (λa e q=>by cases e;exact wV b n q) p
def xt (t) (ts) (h):Gs .bz (.v (.str t)) (.v (aL ts)) h=y0 (!u9 (t∈ts)):=by
 show(Ka _ _ _).map _=_
 rw [show Ka (.v (.str t)) (.v (aL ts)) h=y0 (decide _)from Zn t ts h];rfl
def tm (e:Gk Z i=y0 (.v (.str t))) (a b):Gf F (.cmp .bz (.var i) (.tup (.b (.str a) (.str b)))) Z h= .ok (!u9 (t∈ [a,b])) h:=by
 rw [Gf,eval,Wg e,R.aa,xp,R.aa,xt];rfl
def vx (m) (t) (x) (h) (j:t.length<=90000):eval (k8 m) (.bi .all (.a jg)) [y0 (.v (.str t)),x] h= .ok (.v (.bl (t.all b4.contains))) h:=by
 have e:eval (k8 m) jg [y0 (.v (.str t)),x] h= .ok (.own ((c9 t).map λd=>match d with | .str [c]=> .bl (b4.contains c) | _=> .aj)) h:=by
  refine zo (λd=>match d with | .str [c]=> .bl (b4.contains c) | _=> .aj) rfl (by rw [Gc];simp [c9];omega) ?_
  intro d a
  obtain⟨c,k,rfl⟩:=Ae.mp a
  refine⟨[y0 (.v (.str [c]))],rfl,.v (.bl (b4.contains c)),?_,rfl⟩
  rw [eval,Wg rfl,R.aa,eval,show(k8 m).con.lookup "FIGURES" =_ from XL]
  simp only [R.aa,Qy,R.ag]
 have i:(c9 t).map (λd=>match d with | .str [c]=>D.bl (b4.contains c) | _=> .aj)=(t.map b4.contains).map .bl:=by
  simp [c9,Ag5]
 rw [i]at e
 rw [eval,Gj,e]
 show((R.of h ((W.bX h (.own _)).bind G9)).bind _)=_
 have f: ∀bs:List Bool,G9 (bs.map .bl)=y0 bs:=λbs=>by
  induction bs with
  | nil=>rfl
  | cons b bs g=>rw [Ac0,G9,g];rfl
 rw [show W.bX h (.own ((t.map b4.contains).map D.bl))=y0 ((t.map b4.contains).map D.bl)from rfl,Ac9,f]
 simp only [R.ag,R.aa,aH]
 rw [Al7]
 rfl
def E1 (m) (t) (h) (g:t.length<=90000):call prog (m+1) "is_written" [.v (.str t),.v (.int 2)] h= .ok (.v (.bl (fi t))) h:=by
 rw [Gb rfl _ _ _ rfl]
 simp only [zx]
 show Gu _ (execs _ _ [y0 (.v (.str t)),y0 (.v (.int 2))] h)=_
 have b:Gs .le (.v (.int 1)) (.v (.int t.length)) h=y0 (u9 (1<=t.length)):=by
  show y0 (decide _)=_
  congr 1;exact decide_eq_decide.mpr (by omega)
 have l:Gs .le (.v (.int t.length)) (.v (.int 2)) h=y0 (u9 (t.length<=2)):=by
  show y0 (decide _)=_
  congr 1;exact decide_eq_decide.mpr (by omega)
 have c:c5 .len [.v (.str t)] h= .ok (.v (.int t.length)) h:=by
  show(if _ then _ else _)=_
  rw [if_pos (by rw [Gc];omega)]
 have i:=vx m t (y0 (.v (.int 2))) h g
 have e:eval (k8 m) (.chain .le .le (.int 1) (.bi .len (.a .v0)) .v1) [y0 (.v (.str t)),y0 (.v (.int 2))] h= .ok (.v (.bl (u9 (1<=t.length)&&u9 (t.length<=2)))) h:=by
  cases q:u9 (1<=t.length)<;>(rw [q]at b;simp_all [c,b,l];try rfl)
 have a:Gf (k8 m) (.or (.not (.chain .le .le (.int 1) (.bi .len (.a .v0)) .v1)) (.not (.bi .all (.a jg)))) [y0 (.v (.str t)),y0 (.v (.int 2))] h= .ok (!((u9 (1<=t.length)&&u9 (t.length<=2))&&t.all b4.contains)) h:=by
  have d:eval (k8 m) (.not (.bi .all (.a jg))) [y0 (.v (.str t)),y0 (.v (.int 2))] h= .ok (.v (.bl (!t.all b4.contains))) h:=by
   rw [eval,i];rfl
  have k:eval (k8 m) (.not (.chain .le .le (.int 1) (.bi .len (.a .v0)) .v1)) [y0 (.v (.str t)),y0 (.v (.int 2))] h= .ok (.v (.bl (!(u9 (1<=t.length)&&u9 (t.length<=2))))) h:=by
   rw [eval,e];rfl
  rw [Gf,eval,k]
  simp only [R.aa,Gp,R.ag]
  cases (u9 (1<=t.length)&&u9 (t.length<=2))with
  | true=>simp only [Ai7,d,R.aa,Gp,R.ag,Bool.true_and]
  | false=>simp only [Aj5,R.aa,Gp,R.ag,Bool.false_and]
 unfold fi
 cases q:((u9 (1<=t.length)&&u9 (t.length<=2))&&t.all b4.contains)with
 | false=>
  rw [q]at a
  rw [zf a (jc rfl rfl),Ga _ _ _ rfl]
  rfl
 | true=>
  rw [q]at a
  rw [qa a]
  have j:eval (k8 m) (.dz .starts .v0 (.a (.str [48]))) [y0 (.v (.str t)),y0 (.v (.int 2))] h= .ok (.v (.bl (u9 (t.head? =y0 48)))) h:=by
   simp_all [vN,if_true,mz,GS]
   rfl
  have f:eval (k8 m) (.cmp .eq .v0 (.str [48])) [y0 (.v (.str t)),y0 (.v (.int 2))] h= .ok (.v (.bl (t== [48]))) h:=by
   simp_all [Je]
  rw [ja,Ga _ _ _ rfl]
  refine jc rfl ?_
  rw [eval,f]
  simp only [R.aa,Gp,R.ag,Bool.true_and]
  cases t== [48]with
  | true=>rfl
  | false=>
   show eval _ (.not _) _ _=_
   rw [eval,j];rfl
def Fd:(b4.all λc=>(iA [c]).isSome&&(c==48||b4.all λd=>(iA [c,d]).isSome))=true:=by decide +kernel
def tT (h:fi t=k9): ∃k,iA t=y0 k:=by
 simp only [fi,Aa9,Bool.or_eq_true]at h
 obtain⟨⟨⟨i,g⟩,f⟩,a⟩:=h
 have e:=Af.mp Fd
 have b:=Af.mp f
 match t,i,g,b,a with
 | [c],_,_,b,_=>
  have:=e c (Ad6.mp (b c (by simp)))
  rw [Aa9]at this
  exact Ae8.mp this.1
 | [c,d],_,_,b,a=>
  have:=e c (Ad6.mp (b c (by simp)))
  rw [Aa9,Bool.or_eq_true]at this
  rcases this.2 with z | z
  ·have z:=beq_iff_eq.mp z
   subst z
   rcases a with a | a
   ·exact absurd a (by simp)
   ·exact absurd a (by simp)
  ·exact Ae8.mp (Af.mp z d (Ad6.mp (b d (by simp))))
section
variable {g:AH}{N T:List Tx}{m w:Nat}
def Cb (j: ∀t∈T,t.length<=90000) (p):call prog (m+3) "Reader.limit" [.v (.ref g.length)] (rh g N T p)=match gW (tk T p)with
 | some k=> .ok (.v (.int k)) (rh g N T (p+1))
 | none=> .exc bf (rh g N T (p+1)):=by
 have l:(tk T p).length<=90000:=by
  by_cases q:p<T.length
  ·exact j _ (by rw [tk,Ac3,Aa7 q];exact Ak2 q)
  ·rw [X4 q];decide
 have b:=E1 (m+1) (tk T p) (rh g N T (p+1)) l
 have h:=Br
 have f: ∀c,execs (k8 (m+2)) bE.body [y0 (.v (.ref g.length)),u0] (rh g N T p)=c->call prog (m+3) "Reader.limit" [.v (.ref g.length)] (rh g N T p)=Gu (rh g N T p).length c:=fun c e=>by rw [Gb rfl _ _ _ rfl,←e];rfl
 simp only [bE]at f
 have a: ∀d,execs (k8 (m+2)) (.cons (.ae 1 (.ai 0 "Reader" "take" "Reader.take" .nil)) d) [some (.v (.ref g.length)),none] (rh g N T p)=execs (k8 (m+2)) d [some (.v (.ref g.length)),some (.v (.str (tk T p)))] (rh g N T (p+1)):=fun d=>Ql (zp rfl)
 unfold gW
 cases q:fi (tk T p)with
 | false=>
  rw [q]at b
  rw [if_neg Ab1,f (.exc bf (rh g N T (p+1))) (by
   rw [a,execs,zg (h1:=rh g N T (p+1)) (by simp_all [h,b])]
   rfl)]
  rfl
 | true=>
  rw [q]at b
  obtain⟨k,i⟩:=tT q
  rw [if_pos rfl,i,f (.ret (.v (.int k)) (rh g N T (p+1))) (by
   rw [a,qa (by simp_all [h,b])]
   exact ja (jc rfl (by simp_all [jY,i])))]
  exact Ga _ _ _ (Xl ..)
def tP (E: ∀t∈T,t.length<=90000) (H: ∀p,RP g N T "Reader.expression" w p (m+3) (x p)) (ah) (I:ah.length<=10) (p):match qM T x ah p with
 | some (d,q)=>call prog (m+4) "Reader.count_fact" [.v (.ref g.length),.v (.str ah),.v (.int (w:Int))] (rh g N T p)= .ok (.v d) (rh g N T q)
 | none=> ∃q,call prog (m+4) "Reader.count_fact" [.v (.ref g.length),.v (.str ah),.v (.int (w:Int))] (rh g N T p)= .exc bf (rh g N T q):=by
 have r: ∀u,execs (k8 (m+3)) aV.body [y0 (.v (.ref g.length)),y0 (.v (.str ah)),y0 (.v (.int (w:Int))),u0,u0] (rh g N T p)=u->call prog (m+4) "Reader.count_fact" [.v (.ref g.length),.v (.str ah),.v (.int (w:Int))] (rh g N T p)=Gu (rh g N T p).length u:=fun u e=>by rw [Gb rfl _ _ _ rfl,←e];rfl
 simp only [aV]at r
 have f: ∀l,execs (k8 (m+3)) (.cons (.ae 3 (.ai 0 "Reader" "take" "Reader.take" .nil)) l) [some (.v (.ref g.length)),some (.v (.str ah)),some (.v (.int (w:Int))),none,none] (rh g N T p)=execs (k8 (m+3)) l [some (.v (.ref g.length)),some (.v (.str ah)),some (.v (.int (w:Int))),some (.v (.str (tk T p))),none] (rh g N T (p+1)):=fun l=>Ql (zp rfl)
 have o:Gf (k8 (m+3)) (.cmp .bz .v3 (.tup (.b (.str d3) (.str dY)))) [y0 (.v (.ref g.length)),y0 (.v (.str ah)),y0 (.v (.int (w:Int))),y0 (.v (.str (tk T p))),u0] (rh g N T (p+1))= .ok (!u9 (tk T p∈ [zd,Jg])) (rh g N T (p+1)):=tm rfl _ _
 have s:=Cb (g:=g) (N:=N) (m:=m) E (p+1)
 have A:=fJ (F:=(k8 (m+3))) (N:=N) (T:=T) (p:=p+1) (Z:= [y0 (.v (.ref g.length)),y0 (.v (.str ah)),y0 (.v (.int (w:Int))),y0 (.v (.str (tk T p))),u0]) (m:= "limit") (q:= "Reader.limit") (es:= .nil) (ws:= []) rfl rfl rfl
 unfold qM
 by_cases z:tk T p∈ [zd,Jg]
 ·rw [if_pos z]
  rw [decide_eq_true z]at o
  cases e:gW (tk T (p+1))with
  | none=>
   rw [e]at s
   refine⟨p+2,?_⟩
   rw [r (.exc bf (rh g N T (p+2))) (by rw [f,qa o,zr (by rw [A];exact s)])]
   rfl
  | some k=>
   rw [e]at s
   have D: ∀l,execs (k8 (m+3)) (.cons (.ae 4 (.ai 0 "Reader" "limit" "Reader.limit" .nil)) l) [some (.v (.ref g.length)),some (.v (.str ah)),some (.v (.int (w:Int))),some (.v (.str (tk T p))),none] (rh g N T (p+1))=execs (k8 (m+3)) l [some (.v (.ref g.length)),some (.v (.str ah)),some (.v (.int (w:Int))),some (.v (.str (tk T p))),some (.v (.int (k:Int)))] (rh g N T (p+2)):=fun l=>Ql (by rw [A];exact s)
   have G:GC .add (.v (.str ah)) (.v (.str (tk T p))) (rh g N T (p+2))= .ok (.v (.str (ah++tk T p))) (rh g N T (p+2)):=by
    refine w4 _ _ _ ?_
    simp only [Aa5,Ab0,or_false]at z
    rcases z with z | z<;>rw [z]<;>simp<;>omega
   have C:=kR (F:=(k8 (m+3))) (a:= .bin .add .v1 .v3) (b:= .var 4) (c:= .ai 0 "Reader" "expression" "Reader.expression" (.a .v2)) (Z:= [some (.v (.ref g.length)),some (.v (.str ah)),some (.v (.int (w:Int))),some (.v (.str (tk T p))),some (.v (.int (k:Int)))]) (h:=rh g N T (p+2)) (h1:=rh g N T (p+2)) (d1:= .str (ah++tk T p)) (d2:= .int (k:Int)) (by simp_all [G]) rfl
   have v:=Zr (j:=0) (m:=m+3) (g:=g) (N:=N) (T:=T) (p:=p+2) (Z:= [y0 (.v (.ref g.length)),y0 (.v (.str ah)),y0 (.v (.int (w:Int))),y0 (.v (.str (tk T p))),y0 (.v (.int (k:Int)))]) (q:= "Reader.expression") (k:= "expression") (i:=2) rfl rfl rfl
   have n:=H (p+2)
   rw [Ac9]
   cases B:x (p+2)with
   | none=>
    rw [B]at n
    obtain⟨q,n⟩:=n
    refine⟨q,?_⟩
    rw [r (.exc bf (rh g N T q)) (by rw [f,qa o,D,qE rfl (C.2 _ _ (by rw [v];exact n))])]
    rfl
   | some y=>
    obtain⟨d,q⟩:=y
    rw [B]at n
    show call _ _ _ _ _=_
    rw [r (.ret (.v (.tup [.str (ah++tk T p),.int (k:Int),d])) (rh g N T q)) (by
     rw [f,qa o,D]
     exact ja (jc rfl (C.1 _ _ (by rw [v];exact n))))]
    exact Ga _ _ _ (Xl ..)
 ·rw [if_neg z]
  rw [decide_eq_false z]at o
  refine⟨p+1,?_⟩
  rw [r (.exc bf (rh g N T (p+1))) (by
   rw [f,execs,zg o]
   rfl)]
  rfl
end
section
variable {g:AH}{N T:List Tx}{m w:Nat}
def qK (h:eL t=y0 s):(t,s)∈ [(([43]:Tx),Qi),([45],qh),([126],Wa),([94],Xa),(c8,jK),([61],zj)]/\t∈ [jK,[61]]:=by
 unfold eL at h
 split at h
 ·rename_i z;cases h;subst z;decide
 ·split at h
  ·rename_i z;cases h;subst z;decide
  ·cases h
def pH (h:eL t=u0):t∉ [jK,[61]]:=λz=>by
 unfold eL at h
 simp only [Aa5,Ab0,or_false]at z
 rcases z with z | z
 ·rw [if_pos z]at h;cases h
 ·rw [if_neg (by rw [z];decide),if_pos z]at h;cases h
def BO {x:PR}(A: ∀p,RP g N T "Reader.expression" w p (m+3) (x p)) (p):RP g N T "Reader.pair_fact" w p (m+4) ((x p).bind fun y=>(eL (tk T y.2)).bind fun s=>(x (y.2+1)).map fun z=>(.tup [.str s,y.1,z.1],z.2)):=by
 have i: ∀u,execs (k8 (m+3)) a9.body (cD g w u0 u0) (rh g N T p)=u->call prog (m+4) "Reader.pair_fact" [.v (.ref g.length),.v (.int (w:Int))] (rh g N T p)=Gu (rh g N T p).length u:=fun u e=>by rw [Gb rfl _ _ _ rfl,←e];rfl
 simp only [a9]at i
 have l: ∀ p x y,eval (k8 (m+3)) (.ai 0 "Reader" "expression" "Reader.expression" (.a .v1)) (cD g w x y) (rh g N T p)=call prog (m+3) "Reader.expression" [.v (.ref g.length),.v (.int (w:Int))] (rh g N T p):=fun p x y=>Zr (j:=0) rfl rfl rfl
 have h:=A p
 cases e:x p with
 | none=>
  rw [e]at h
  obtain⟨q,h⟩:=h
  exact⟨q,i (.exc bf (rh g N T q)) (zr (by rw [l];exact h))⟩
 | some y=>
  obtain⟨d,q⟩:=y
  rw [e]at h
  rw [Ac9]
  dsimp only
  have t: ∀o,execs (k8 (m+3)) (.cons (.ae 2 (.ai 0 "Reader" "expression" "Reader.expression" (.a .v1))) (.cons (.ae 3 (.ai 0 "Reader" "take" "Reader.take" .nil)) o)) (cD g w none none) (rh g N T p)=execs (k8 (m+3)) o (cD g w (some (.v d)) (some (.v (.str (tk T q))))) (rh g N T (q+1)):=fun o=>by
   rw [Ql (by rw [l];exact h)]
   exact Ql (zp rfl)
  have k:Gf (k8 (m+3)) (.cmp .bz .v3 (.tup (.b (.str c8) (.str [61])))) (cD g w (y0 (.v d)) (y0 (.v (.str (tk T q))))) (rh g N T (q+1))= .ok (!u9 (tk T q∈ [jK,[61]])) (rh g N T (q+1)):=tm rfl _ _
  cases r:eL (tk T q)with
  | none=>
   rw [decide_eq_false (pH r)]at k
   refine⟨q+1,?_⟩
   rw [i (.exc bf (rh g N T (q+1))) (by
    rw [t,execs,zg k]
    rfl)]
   rfl
  | some s=>
   rw [decide_eq_true (qK r).2]at k
   rw [Ac9]
   have B:=kR (F:=(k8 (m+3))) (a:= .eC "SORTS" .v3) (b:= .var 2) (c:= .ai 0 "Reader" "expression" "Reader.expression" (.a .v1)) (Z:=cD g w (some (.v d)) (some (.v (.str (tk T q))))) (h2:=rh g N T (q+1)) (mu (zA _) (Wg rfl) (qK r).1) rfl
   have f:=A (q+1)
   cases v:x (q+1)with
   | none=>
    rw [v]at f
    obtain⟨n,f⟩:=f
    refine⟨n,?_⟩
    rw [i (.exc bf (rh g N T n)) (by rw [t,qa k,qE rfl (B.2 _ _ (by rw [l];exact f))])]
    rfl
   | some z=>
    obtain⟨b,n⟩:=z
    rw [v]at f
    show call _ _ _ _ _=_
    rw [i (.ret (.v (.tup [.str s,d,b])) (rh g N T n)) (by
     rw [t,qa k]
     exact ja (jc rfl (B.1 _ _ (by rw [l];exact f))))]
    exact Ga _ _ _ (Xl ..)
def uB (M: ∀t∈T,t.length<=90000) (J: ∀p,RP g N T "Reader.expression" w p (m+3) (x p)) (I: ∀p,RP g N T "Reader.expression" w p (m+4) (x p)) (p):RP g N T "Reader.fact" w p (m+5) (eQ T x p):=by
 have l: ∀K,execs (k8 (m+4)) bL.body (rs g w u0) (rh g N T p)=K->call prog (m+5) "Reader.fact" [.v (.ref g.length),.v (.int (w:Int))] (rh g N T p)=Gu (rh g N T p).length K:=fun K e=>by rw [Gb rfl _ _ _ rfl,←e];rfl
 simp only [bL]at l
 have u: ∀v,execs (k8 (m+4)) (.cons (.ae 2 (.ai 0 "Reader" "here" "Reader.here" .nil)) v) (rs g w none) (rh g N T p)=execs (k8 (m+4)) v (rs g w (some (.v (.str (tk T p))))) (rh g N T p):=fun v=>Ql (XV rfl)
 have f:Gf (k8 (m+4)) (.cmp .mem .v2 (.tup (.b (.str gi) (.str fW)))) (rs g w (y0 (.v (.str (tk T p))))) (rh g N T p)= .ok (u9 (tk T p∈ [qj,WR])) (rh g N T p):=m4 rfl _ _
 have o:Gf (k8 (m+4)) (.cmp .mem .v2 (.tup (.b (.str d3) (.str dY)))) (rs g w (y0 (.v (.str (tk T p))))) (rh g N T p)= .ok (u9 (tk T p∈ [zd,Jg])) (rh g N T p):=m4 rfl _ _
 have A:Gf (k8 (m+4)) (.cmp .eq .v2 (.str fA)) (rs g w (y0 (.v (.str (tk T p))))) (rh g N T p)= .ok (tk T p==Zd) (rh g N T p):=kn rfl _
 have n: ∀v,execs (k8 (m+4)) (.cons (.ex (.ai 0 "Reader" "take" "Reader.take" .nil)) v) (rs g w (some (.v (.str (tk T p))))) (rh g N T p)=execs (k8 (m+4)) v (rs g w (some (.v (.str (tk T p))))) (rh g N T (p+1)):=fun v=>za (xU rfl)
 have cnt: ∀ C L,eval (k8 (m+4)) (.ai 0 "Reader" "count_fact" "Reader.count_fact" (.b (.str C) .v1)) (rs g w (some (.v (.str (tk T p))))) (rh g N T L)=call prog (m+4) "Reader.count_fact" [.v (.ref g.length),.v (.str C),.v (.int (w:Int))] (rh g N T L):=fun C L=>fJ (ws:= [.v (.str C),.v (.int (w:Int))]) rfl rfl rfl
 have fin: ∀ {d}{q},Gu (rh g N T p).length (.ret (.v d) (rh g N T q))= .ok (.v d) (rh g N T q):=λ{d q}=>Ga _ _ _ (Xl ..)
 unfold eQ
 by_cases G:tk T p∈ [qj,WR]
 ·rw [if_pos G]
  rw [decide_eq_true G]at f
  have O:=nL (F:=(k8 (m+4))) (a:= .var 2) (b:= .ai 0 "Reader" "expression" "Reader.expression" (.a .v1)) (Z:=rs g w (some (.v (.str (tk T p))))) (h:=rh g N T (p+1)) (h1:=rh g N T (p+1)) (d1:= .str (tk T p)) rfl
  have B:=Zr (j:=0) (m:=m+4) (g:=g) (N:=N) (T:=T) (p:=p+1) (Z:=rs g w (y0 (.v (.str (tk T p))))) (q:= "Reader.expression") (k:= "expression") (i:=1) rfl rfl rfl
  have c:=I (p+1)
  cases e:x (p+1)with
  | none=>
   rw [e]at c
   obtain⟨q,c⟩:=c
   refine⟨q,?_⟩
   rw [l (.exc bf (rh g N T q)) (by rw [u,execs,zg f,n,qE rfl (O.2 _ _ (by rw [B];exact c))];rfl)]
   rfl
  | some y=>
   obtain⟨d,q⟩:=y
   rw [e]at c
   show call _ _ _ _ _=_
   rw [l (.ret (.v (.tup [.str (tk T p),d])) (rh g N T q)) (by
    rw [u]
    exact ja (by rw [zg f,n];exact ja (jc rfl (O.1 _ _ (by rw [B];exact c)))))]
   exact fin
 ·rw [if_neg G]
  rw [decide_eq_false G]at f
  by_cases H:tk T p∈ [zd,Jg]
  ·rw [if_pos H]
   rw [decide_eq_true H]at o
   have c:=tP (g:=g) (N:=N) (m:=m) M J [] (by decide) p
   cases e:qM T x [] p with
   | none=>
    rw [e]at c
    obtain⟨q,c⟩:=c
    refine⟨q,?_⟩
    rw [l (.exc bf (rh g N T q)) (by rw [u,qa f,execs,zg o,qE rfl (by rw [cnt];exact c)];rfl)]
    rfl
   | some y=>
    obtain⟨d,q⟩:=y
    rw [e]at c
    show call _ _ _ _ _=_
    rw [l (.ret (.v d) (rh g N T q)) (by
     rw [u,qa f]
     exact ja (by rw [zg o];exact ja (jc rfl (by rw [cnt];exact c))))]
    exact fin
  ·rw [if_neg H]
   rw [decide_eq_false H]at o
   by_cases E:tk T p=Zd
   ·rw [if_pos E]
    rw [show (tk T p==Zd)=k9 from beq_iff_eq.mpr E]at A
    have c:=tP (g:=g) (N:=N) (m:=m) M J Zd (by decide) (p+1)
    cases e:qM T x Zd (p+1)with
    | none=>
     rw [e]at c
     obtain⟨q,c⟩:=c
     refine⟨q,?_⟩
     rw [l (.exc bf (rh g N T q)) (by rw [u,qa f,qa o,execs,zg A,n,qE rfl (by rw [cnt];exact c)];rfl)]
     rfl
    | some y=>
     obtain⟨d,q⟩:=y
     rw [e]at c
     show call _ _ _ _ _=_
     rw [l (.ret (.v d) (rh g N T q)) (by
      rw [u,qa f,qa o]
      exact ja (by rw [zg A,n];exact ja (jc rfl (by rw [cnt];exact c))))]
     exact fin
   ·rw [if_neg E]
    rw [beq_eq_false_iff_ne.mpr E]at A
    have c:=BO (g:=g) (N:=N) (m:=m) J p
    have B:=Zr (j:=0) (m:=m+4) (g:=g) (N:=N) (T:=T) (p:=p) (Z:=rs g w (y0 (.v (.str (tk T p))))) (q:= "Reader.pair_fact") (k:= "pair_fact") (i:=1) rfl rfl rfl
    generalize ((x p).bind λy=>(eL (tk T y.2)).bind λs=>(x (y.2+1)).map λz=>(D.tup [.str s,y.1,z.1],z.2))=r at c ⊢
    cases r with
    | none=>
     obtain⟨q,c⟩:=c
     refine⟨q,?_⟩
     rw [l (.exc bf (rh g N T q)) (by rw [u,qa f,qa o,qa A,qE rfl (by rw [B];exact c)])]
     rfl
    | some y=>
     obtain⟨d,q⟩:=y
     show call _ _ _ _ _=_
     rw [l (.ret (.v d) (rh g N T q)) (by
      rw [u,qa f,qa o,qa A]
      exact ja (jc rfl (by rw [B];exact c)))]
     exact fin
def pb (H: ∀p,RP g N T "Reader.fact" w p (m+4) (fc p)) (o:match deep with
 | none=>w=20
 | some u=>w<20/\(∀ p,RP g N T "Reader.unit" (w+1) p (m+4) (u p))/\ ∀p,RP g N T "Reader.saying" (w+1) p (m+4) (dw T u p)) (p):RP g N T "Reader.unit" w p (m+5) (gF T fc deep p):=by
 have n: ∀B,execs (k8 (m+4)) bK.body (rs g w u0) (rh g N T p)=B->call prog (m+5) "Reader.unit" [.v (.ref g.length),.v (.int (w:Int))] (rh g N T p)=Gu (rh g N T p).length B:=fun B e=>by rw [Gb rfl _ _ _ rfl,←e];rfl
 simp only [bK]at n
 have l:Gf (k8 (m+4)) (.cmp .eq (.ai 0 "Reader" "here" "Reader.here" .nil) (.str eg)) (rs g w none) (rh g N T p)= .ok (tk T p==Xk) (rh g N T p):=W3 _ rfl
 have r:Gf (k8 (m+4)) (.cmp .eq (.ai 0 "Reader" "here" "Reader.here" .nil) (.str [91])) (rs g w none) (rh g N T p)= .ok (tk T p== [91]) (rh g N T p):=W3 _ rfl
 have f: ∀s,execs (k8 (m+4)) (.cons (.ex (.ai 0 "Reader" "take" "Reader.take" .nil)) s) (rs g w none) (rh g N T p)=execs (k8 (m+4)) s (rs g w none) (rh g N T (p+1)):=fun s=>za (xU rfl)
 have fin: ∀ {d}{q},Gu (rh g N T p).length (.ret (.v d) (rh g N T q))= .ok (.v d) (rh g N T q):=λ{d q}=>Ga _ _ _ (Xl ..)
 unfold gF
 by_cases v:tk T p=Xk
 ·rw [if_pos v]
  rw [show (tk T p==Xk)=k9 from beq_iff_eq.mpr v]at l
  have A:=nL (F:=(k8 (m+4))) (a:= .str eg) (b:= .ai 0 "Reader" "unit" "Reader.unit" (.a (.call "one_deeper" (.a .v1)))) (Z:=rs g w none) (h:=rh g N T (p+1)) (h1:=rh g N T (p+1)) (d1:= .str Xk) rfl
  cases deep with
  | none=>
   have o:w=20:=o
   subst o
   refine⟨p+1,?_⟩
   rw [n (.exc bf (rh g N T (p+1))) (by rw [execs,zg l,f,qE rfl (A.2 _ _ (qt (m:=m+3) rfl rfl rfl))];rfl)]
   rfl
  | some u=>
   obtain⟨C,I,_⟩:=o
   have t:=QJ (m:=m+3) (g:=g) (N:=N) (T:=T) (p:=p+1) (Z:=rs g w u0) (q:= "Reader.unit") (k:= "unit") C rfl rfl rfl
   have c:=I (p+1)
   dsimp only
   cases e:u (p+1)with
   | none=>
    rw [e]at c
    obtain⟨q,c⟩:=c
    refine⟨q,?_⟩
    rw [n (.exc bf (rh g N T q)) (by rw [execs,zg l,f,qE rfl (A.2 _ _ (by rw [t];exact c))];rfl)]
    rfl
   | some y=>
    obtain⟨d,q⟩:=y
    rw [e]at c
    show call _ _ _ _ _=_
    rw [n (.ret (.v (.tup [.str Xk,d])) (rh g N T q)) (ja (by rw [zg l,f];exact ja (jc rfl (A.1 _ _ (by rw [t];exact c)))))]
    exact fin
 ·rw [if_neg v]
  rw [beq_eq_false_iff_ne.mpr v]at l
  by_cases x:tk T p= [91]
  ·rw [if_pos x]
   rw [show (tk T p== [91])=k9 from beq_iff_eq.mpr x]at r
   cases deep with
   | none=>
    have o:w=20:=o
    subst o
    refine⟨p+1,?_⟩
    rw [n (.exc bf (rh g N T (p+1))) (by rw [qa l,execs,zg r,f,zr (qt (m:=m+3) rfl rfl rfl)];rfl)]
    rfl
   | some u=>
    obtain⟨C,_,J⟩:=o
    have t:=QJ (m:=m+3) (g:=g) (N:=N) (T:=T) (p:=p+1) (Z:=rs g w u0) (q:= "Reader.saying") (k:= "saying") C rfl rfl rfl
    have c:=J (p+1)
    show RP g N T _ w p (m+5) ((dw T u (p+1)).bind λy=>if tk T y.2= [93]then y0 (y.1,y.2+1)else u0)
    cases e:dw T u (p+1)with
    | none=>
     rw [e]at c
     obtain⟨q,c⟩:=c
     refine⟨q,?_⟩
     rw [n (.exc bf (rh g N T q)) (by rw [qa l,execs,zg r,f,zr (by rw [t];exact c)];rfl)]
     rfl
    | some y=>
     obtain⟨d,q⟩:=y
     rw [e]at c
     have E: ∀s,execs (k8 (m+4)) (.cons (.ae 2 (.ai 0 "Reader" "saying" "Reader.saying" (.a (.call "one_deeper" (.a .v1))))) s) (rs g w none) (rh g N T (p+1))=execs (k8 (m+4)) s (rs g w (some (.v d))) (rh g N T q):=fun s=>Ql (by rw [t];exact c)
     have G:=fJ (F:=(k8 (m+4))) (g:=g) (N:=N) (T:=T) (p:=q) (Z:=rs g w (y0 (.v d))) (m:= "take_just") (q:= "Reader.take_just") (es:= .cons (.str [93]) .nil) (ws:= [.v (.str [93])]) rfl rfl rfl
     rw [Ac9]
     dsimp only
     by_cases z:tk T q= [93]
     ·rw [if_pos z]
      show call _ _ _ _ _=_
      rw [n (.ret (.v d) (rh g N T (q+1))) (by
       rw [qa l]
       refine ja ?_
       rw [zg r,f,E,za (Z1:=rs g w (y0 (.v d))) (h1:=rh g N T (q+1)) (by rw [exec,G,show(k8 (m+4)).call "Reader.take_just" _ _=_ from oJ (m+1) g N T q [93] z];rfl)]
       exact ja rfl)]
      exact fin
     ·rw [if_neg z]
      refine⟨q+1,?_⟩
      rw [n (.exc bf (rh g N T (q+1))) (by rw [qa l,execs,zg r,f,E,sf (by rw [G];exact Q0 (m+1) g N T q [93] z)];rfl)]
      rfl
  ·rw [if_neg x]
   rw [beq_eq_false_iff_ne.mpr x]at r
   have c:=H p
   have D:=Zr (j:=0) (m:=m+4) (g:=g) (N:=N) (T:=T) (p:=p) (Z:=rs g w u0) (q:= "Reader.fact") (k:= "fact") (i:=1) rfl rfl rfl
   cases e:fc p with
   | none=>
    rw [e]at c
    obtain⟨q,c⟩:=c
    refine⟨q,?_⟩
    rw [n (.exc bf (rh g N T q)) (by rw [qa l,qa r,qE rfl (by rw [D];exact c)])]
    rfl
   | some y=>
    obtain⟨d,q⟩:=y
    rw [e]at c
    show call _ _ _ _ _=_
    rw [n (.ret (.v d) (rh g N T q)) (by
     rw [qa l,qa r]
     exact ja (jc rfl (by rw [D];exact c)))]
    exact fin
end
def rJ (a:T.length<=90000) (b: ∀p,OK T p (u p)) (h: ∀p,RP g N T "Reader.unit" w p (m+2) (u p)): ∀p,RP g N T "Reader.saying" w p (m+4) (dw T u p):=by
 have c: ∀p,RP g N T "Reader.part" w p (m+3) (kD T u p):=kP rfl (fun _=>rfl) b h (by decide) a
 exact kP rfl (λ_=>rfl) (XO b).1 c (by decide) a
def C2 (b:dh N) (c:T.length<=90000) (i: ∀t∈T,t.length<=90000): ∀n,n<=20-> ∀m,(∀ p,RP g N T "Reader.unit" (20-n) p (4*n+m+10) (pU N T n p))/\ ∀p,RP g N T "Reader.saying" (20-n) p (4*n+m+12) (dw T (pU N T n) p):=by
 have f: ∀n,n<=20-> ∀m p,RP g N T "Reader.fact" (20-n) p (4*n+m+9) (eQ T (dR T (pA N T n)) p):=fun n a m=>uB i (Q2 b c n a m).2 (Q2 b c n a (m+1)).2
 intro n
 induction n with
 | zero=>
  intro _ m
  have h: ∀p,RP g N T "Reader.unit" 20 p (4*0+m+10) (pU N T 0 p):=pb (f 0 (by decide) m) rfl
  exact⟨h,rJ c (wV b.nb 0) h⟩
 | succ n d=>
  intro a m
  have e:20-(n+1)+1=20-n:=by omega
  have h: ∀p,RP g N T "Reader.unit" (20-(n+1)) p (4*(n+1)+m+10) (pU N T (n+1) p):=pb (f (n+1) a m) ⟨by omega,fun p=>by
   rw [e,show 4*(n+1)+m+5+4=4*n+(m+3)+10 by omega];exact(d (by omega) (m+3)).1 p,λp=>by
   rw [e,show 4*(n+1)+m+5+4=4*n+(m+1)+12 by omega];exact(d (by omega) (m+1)).2 p⟩
  exact⟨h,rJ c (wV b.nb (n+1)) h⟩
abbrev cu (T:List Tx):D:= .lst (T.map .str++ [.str []])
def lR:Option (D×Nat)->D
 | none=> .aj
 | some (d,q)=> .tup [d,.int (q:Int)]
def Zo {p:Nat}(a:p<=T.length) (h):cR (.v (cu T)) (.v (.int (p:Int))) h=y0 (.str (tk T p)):=by
 rw [zG,zk _ _ (by simp;omega)]
 by_cases q:p<T.length
 ·rw [Ad2 (by simpa using q),pE q]
 ·rw [X4 q,Ad8 (by simp;omega)]
  have:p-(T.map D.str).length=0:=by simp;omega
  rw [this];rfl
abbrev ku:List (Tx×Tx):= [([43],gU),([45],fY),([38],gD),([46],fj)]
noncomputable abbrev eB (T N:List Tx) (p w k:Nat) (x5 x6 x7 x8:Option W):Sl:= [y0 (.v (cu T)),y0 (.v (.int (p:Int))),y0 (.v (.int (w:Int))),y0 (.v (.int (k:Int))),y0 (.v (aL N)),x5,x6,x7,x8]
def yk (t) (ts:List Tx) (h):Gs .mem (.v (.str t)) (.v (.lst (ts.map .str))) h=y0 (u9 (t∈ts)):=xu t ts (.v (.lst (ts.map .str))) h rfl rfl
def LC (T N:List Tx) (w k m:Nat) (x:PR):Prop:= ∀p,p<=T.length-> ∀h,call prog m "_law_chain_of" [.v (cu T),.v (.int (p:Int)),.v (.int (w:Int)),.v (.int (k:Int)),.v (aL N)] h= .ok (.v (lR (x p))) h
def nZ {w k m:Nat}{sm:List Tx}(hk:k<3) (E:aQ [D.lst [.str [43],.str [45]],.lst [.str [38]],.lst [.str [46]]] (k:Int)=y0 (.lst (sm.map .str)))
 (f: ∀t,(t∈sm-> ∃s,op t=y0 s/\ku.lookup t=y0 s)/\(t∉sm->op t=u0)) (G: ∀t s,op t=y0 s->t≠ []) (K: ∀p,OK T p (sub p)) (hT:T.length<=90000) (h1:LC T N w (k+1) m sub):LC T N w k (m+1) (dJ T op sub):=by
 intro p hp h
 have U:Gs .eq (.v (.int (k:Int))) (.v (.int 3)) h=y0 false:=by
  have:=Xb k 3 h
  rw [decide_eq_false (by omega)]at this
  exact this
 have L:((k:Nat):Int)+1=((k+1:Nat):Int):=rfl
 have u: ∀F,execs (k8 m) aS.body (eB T N p w k u0 u0 u0 u0) h=F->call prog (m+1) "_law_chain_of" [.v (cu T),.v (.int (p:Int)),.v (.int (w:Int)),.v (.int (k:Int)),.v (aL N)] h=Gu h.length F:=fun F e=>by rw [Gb (d:=aS) rfl _ _ _ rfl,←e];rfl
 simp only [aS]at u
 have M:=h1 p hp h
 have g: ∀A,execs (k8 m) (.cons (.r (.cmp .eq .v3 (.int 3)) (.call "_law_atom_of" (.d .v0 .v1 .v2 .v4))) (.cons (.ae 5 (.call "_law_chain_of" (.f .v0 .v1 .v2 (.bin .add .v3 (.int 1)) .v4))) (.cons (.ae 6 (.ix (.lst (.c (.lst (.b (.str [43]) (.str [45]))) (.lst (.a (.str [38]))) (.lst (.a (.str [46]))))) .v3)) A))) (eB T N p w k none none none none) h=execs (k8 m) A (eB T N p w k (some (.v (lR (sub p)))) (some (.v (.lst (sm.map .str)))) none none) h:=fun A=>by
  rw [qa (by simp_all [U]),za (Z1:=eB T N p w k (y0 (.v (lR (sub p)))) u0 u0 u0) (h1:=h) (by simp_all [xb,L,M])]
  exact za (by simp_all [Jh,E])
 unfold dJ
 cases e:sub p with
 | none=>
  rw [e]at g
  simp only [lR]at g
  rw [u (.ret (.v .aj) h) (by
   rw [g,za (Z1:=eB T N p w k (y0 (.v .aj)) (y0 (.v (.lst (sm.map .str)))) u0 u0) (h1:=h) (by
    rw [exec,Gv,show Gf (k8 m) zc (eB T N p w k (y0 (.v .aj)) (y0 (.v (.lst (sm.map .str)))) u0 u0) h= .ok y9 h by rw [zc];simp_all []]
    rfl)]
   exact ja rfl)]
  exact Ga _ _ _ rfl
 | some y=>
  obtain⟨d,C⟩:=y
  rw [e]at g
  simp only [lR]at g
  obtain⟨_,b2,_⟩:=K p d C e
  have r: ∀(d:D) (q:Nat),aQ [d,.int (q:Int)] 1=y0 (.int (q:Int)):=λd q=>rfl
  have V: ∀(d:D) (q:Nat),aQ [d,.int (q:Int)] 0=y0 d:=λd q=>rfl
  have l: ∀(d:D) (q:Nat) (y:Option W×Option W),q<=T.length->Gf (k8 m) zc (eB T N p w k (y0 (.v (.tup [d,.int (q:Int)]))) (y0 (.v (.lst (sm.map .str)))) y.1 y.2) h= .ok (u9 (tk T q∈sm)) h:=λd q y a=>by
   have i1:=Zo a h
   have i2:=yk (tk T q) sm h
   rw [zc]
   simp_all [av,r,i1,i2]
  have j: ∀(d:D) (q:Nat) (y:Option W×Option W) (s:Tx),q<T.length->op (tk T q)=y0 s->execs (k8 m) wg (eB T N p w k (y0 (.v (.tup [d,.int (q:Int)]))) (y0 (.v (.lst (sm.map .str)))) y.1 y.2) h=execs (k8 m) (.cons (.r (.b9 y9 .v8) .aj) (.a (.ae 5 (.tup (.b (.tup (.c .v7 (.ix .v5 (.int 0)) (.ix .v8 (.int 0)))) (.ix .v8 (.int 1))))))) (eB T N p w k (y0 (.v (.tup [d,.int (q:Int)]))) (y0 (.v (.lst (sm.map .str)))) (y0 (.v (.str s))) (y0 (.v (lR (sub (q+1)))))) h:=λd q y s a I=>by
   have i1:=Zo (Ag1 a) h
   have Q:ku.lookup (tk T q)=y0 s:=by
    by_cases z:tk T q∈sm
    ·obtain⟨s',n,S⟩:=(f _).1 z
     rw [I]at n;cases n;exact S
    ·rw [(f _).2 z]at I;cases I
   have R:=h1 (q+1) a h
   have P:((q:Nat):Int)+1=((q+1:Nat):Int):=rfl
   rw [wg]
   rw [za (Z1:=eB T N p w k (y0 (.v (.tup [d,.int (q:Int)]))) (y0 (.v (.lst (sm.map .str)))) (y0 (.v (.str s))) y.2) (h1:=h) (by
    have O:GP ku (y0 (.v (.str (tk T q)))) h= .ok (.v (.str s)) h:=by rw [vg,Q]
    simp_all [av,r,i1,O])]
   exact za (by simp_all [av,r,xb,P,L,R])
  have i:=Zz (Y:=Option W×Option W) (T:=T) (op:=op) K (H:=λ_=>h) (Z:=λd q y=>eB T N p w k (y0 (.v (.tup [d,.int (q:Int)]))) (y0 (.v (.lst (sm.map .str)))) y.1 y.2) (X:=λo=>o= .ret (.v .aj) h)
   (c:=λZ h=>Gf (k8 m) zc Z h) (bd:=λZ h=>execs (k8 m) wg Z h)
   (λo z=> .inr ⟨_,_,z⟩)
   (λd q y a z=>by
     show Gf _ _ _ _=_
     rw [l d q y a,decide_eq_false λv=>by obtain⟨s,n,_⟩:=(f _).1 v;rw [z]at n;cases n])
   (λd q y s a z=>by
     show Gf _ _ _ _=_
     rw [l d q y (Ag1 a),decide_eq_true (Ad9 λv=>by rw [(f _).2 v]at z;cases z)])
   (λd q y s b x a z B=>⟨(y0 (.v (.str s)),y0 (.v (.tup [b,.int (x:Int)]))),by
     show execs _ _ _ _=_
     rw [j d q y s a z,B,qa (by simp_all [lR])]
     simp_all [lR,av,V,r]⟩)
   (λd q y s a z B=>by
     show execs _ _ _ _=_
     rw [j d q y s a z,B]
     exact zf (by simp_all [lR]) rfl)
   G (T.length+1) 100000 d C (u0,u0) (by omega) (by omega) b2
  dsimp only
  cases J:fy T op sub (T.length+1) d C with
  | none=>
   rw [J]at i
   rw [u (.ret (.v .aj) h) (by
    rw [g]
    exact ja (by rw [exec];exact i))]
   exact Ga _ _ _ rfl
  | some y=>
   obtain⟨d',x⟩:=y
   rw [J]at i
   obtain⟨⟨y1,y2⟩,i⟩:=i
   rw [u (.ret (.v (.tup [d',.int (x:Int)])) h) (by
    rw [g,za (by rw [exec];exact i)]
    exact ja rfl)]
   exact Ga _ _ _ rfl
def LA (T N:List Tx) (w m:Nat) (nm:String) (x:PR):Prop:= ∀p,p<=T.length-> ∀h,call prog m nm [.v (cu T),.v (.int (p:Int)),.v (.int (w:Int)),.v (aL N)] h= .ok (.v (lR (x p))) h
noncomputable abbrev en (T N:List Tx) (p w:Nat) (x4 x5:Option W):Sl:= [y0 (.v (cu T)),y0 (.v (.int (p:Int))),y0 (.v (.int (w:Int))),y0 (.v (aL N)),x4,x5]
def CY (h1:LA T N w m "_law_atom_of" x):LC T N w 3 (m+1) x:=fun p b h=>by
 rw [Gb rfl _ _ _ rfl]
 simp only [aS]
 have e:=h1 p b h
 have a:Gs .eq (.v (.int (3:Nat))) (.v (.int 3)) h=y0 true:=Xb 3 3 h
 show Gu _ (execs _ _ (eB T N p w 3 u0 u0 u0 u0) h)=_
 rw [zf (w:= .v (lR (x p))) (by simp_all [a]) (jc rfl (by simp_all [e]))]
 exact Ga _ _ _ rfl
def se (c:T.length<=90000) (d: ∀p,OK T p (a p)) (h:LA T N w m "_law_atom_of" a):LC T N w 0 (m+4) (dR T a):=by
 obtain⟨g,e,_⟩:=wB d
 have b: ∀ o s,ku.lookup o=y0 s-> ∀t,(t∈ [o]-> ∃u,cU o s t=y0 u/\ku.lookup t=y0 u)/\(t∉ [o]->cU o s t=u0):=λo s f t=>⟨λz=>by
  rw [Ab6.mp z]
  exact⟨s,if_pos rfl,f⟩,λz=>if_neg λy=>z (by rw [y];simp)⟩
 have j:=nZ (by decide) rfl (b _ _ rfl) (λt s z=>(ZH _ _ (by decide) t s z).1) d c (CY h)
 have i:=nZ (by decide) rfl (b _ _ rfl) (λt s z=>(ZH _ _ (by decide) t s z).1) g c j
 refine nZ (sm:= [[43],[45]]) (by decide) rfl (λt=>⟨λz=> ?_,λz=> ?_⟩) (λt s z=>(qV t s z).1) e c i
 ·simp only [Aa5,Ab0,or_false]at z
  rcases z with rfl | rfl
  ·exact⟨Qi,rfl,rfl⟩
  ·exact⟨qh,rfl,rfl⟩
 ·unfold fg
  rw [if_neg λy=>z (by rw [y];simp),if_neg λy=>z (by rw [y];simp)]
def oP (Y:dh N){b:Option PR}(G: ∀a,b=y0 a-> ∀p,OK T p (a p)) (B:match b with
 | none=>w=20
 | some a=>w<20/\LA T N (w+1) m "_law_atom_of" a/\LC T N (w+1) 0 m (dR T a)):LA T N w (m+1) "_law_atom_of" (e8 N T b):=fun p V h=>by
 have i: ∀J,execs (k8 m) bh.body (en T N p w u0 u0) h=J->call prog (m+1) "_law_atom_of" [.v (cu T),.v (.int (p:Int)),.v (.int (w:Int)),.v (aL N)] h=Gu h.length J:=fun J e=>by rw [Gb (d:=bh) rfl _ _ _ rfl,←e];rfl
 simp only [bh]at i
 have i1:=Zo V h
 have C:((p:Nat):Int)+1=((p+1:Nat):Int):=rfl
 have L:((w:Nat):Int)+1=((w+1:Nat):Int):=rfl
 have n: ∀c,execs (k8 m) (.cons (.ae 4 (.ix .v0 .v1)) c) (en T N p w u0 u0) h=execs (k8 m) c (en T N p w (y0 (.v (.str (tk T p)))) u0) h:=λc=>za (by simp_all [i1])
 have f:Gf (k8 m) (.cmp .mem .v4 (.tup (.c (.str fH) (.str g7) (.str fP)))) (en T N p w (y0 (.v (.str (tk T p)))) u0) h= .ok (u9 (tk T p∈ [Qh,Xo,wh])) h:=rQ rfl _ _ _
 have k:Gf (k8 m) (.cmp .mem .v4 .v3) (en T N p w (y0 (.v (.str (tk T p)))) u0) h= .ok (u9 (tk T p∈N)) h:=by
  have:=Zn (tk T p) N h
  simp_all [this]
 have I:=Xb w 20 h
 have o:Gf (k8 m) (.or (.cmp .eq .v2 (.int 20)) (.cmp .bz .v4 (.tup (.c (.str [126]) (.str [94]) (.str [40]))))) (en T N p w (y0 (.v (.str (tk T p)))) u0) h= .ok (u9 (w=20)|| !u9 (tk T p∈ [[126],[94],[40]])) h:=by
  have M:eval (k8 m) (.cmp .eq .v2 (.int 20)) (en T N p w (y0 (.v (.str (tk T p)))) u0) h= .ok (.v (.bl (u9 (w=20)))) h:=by simp_all [show Gs .eq (.v (.int (w:Int))) (.v (.int 20)) h=_ from I]
  have l:eval (k8 m) (.cmp .bz .v4 (.tup (.c (.str [126]) (.str [94]) (.str [40])))) (en T N p w (y0 (.v (.str (tk T p)))) u0) h= .ok (.v (.bl (!u9 (tk T p∈ [[126],[94],[40]])))) h:=by
   rw [eval,Wg rfl,R.aa,JJ,R.aa,xt];rfl
  rw [Gf,eval,M]
  simp only [R.aa,Gp,R.ag]
  cases u9 (w=20)with
  | true=>rfl
  | false=>simp only [l,R.aa,Gp,R.ag,Bool.false_or]
 have t:Gf (k8 m) (.cmp .eq .v4 (.str [40])) (en T N p w (y0 (.v (.str (tk T p)))) u0) h= .ok (tk T p== [40]) h:=kn rfl _
 have fin: ∀ {d:D},Gu h.length (.ret (.v d) h)= .ok (.v d) h:=λ{d}=>Ga _ _ _ rfl
 unfold e8
 by_cases E:tk T p∈ [Qh,Xo,wh]
 ·rw [if_pos E]
  rw [decide_eq_true E]at f
  rw [i (.ret (.v (.tup [.tup [.str (tk T p)],.int ((p+1:Nat):Int)])) h) (by rw [n];exact zf f (jc rfl (by simp_all [xb,C])))]
  exact fin
 ·rw [if_neg E]
  rw [decide_eq_false E]at f
  by_cases F:tk T p∈N
  ·rw [if_pos F]
   rw [decide_eq_true F]at k
   rw [i (.ret (.v (.tup [.tup [.str xl,.str (tk T p)],.int ((p+1:Nat):Int)])) h) (by rw [n,qa f];exact zf k (jc rfl (by simp_all [xb,C])))]
   exact fin
  ·rw [if_neg F]
   rw [decide_eq_false F]at k
   have K:(u9 (w=20)|| !u9 (tk T p∈ [[126],[94],[40]]))=k9->call prog (m+1) "_law_atom_of" [.v (cu T),.v (.int (p:Int)),.v (.int (w:Int)),.v (aL N)] h= .ok (.v .aj) h:=fun z=>by
    rw [z]at o
    rw [i (.ret (.v .aj) h) (by rw [n,qa f,qa k];exact zf o rfl)]
    exact fin
   cases b with
   | none=>
    have B:w=20:=B
    exact K (by rw [decide_eq_true B];rfl)
   | some a=>
    obtain⟨Z,W,P⟩:=B
    dsimp only
    by_cases j:tk T p∈ [[126],[94],[40]]
    ·rw [decide_eq_false (by omega: ¬w=20),decide_eq_true j]at o
     have A:p<T.length:=xr rfl λz=>by rw [z]at j;exact absurd j (by decide)
     by_cases u:tk T p= [40]
     ·rw [if_neg (by rw [u];decide),if_neg (by rw [u];decide),if_pos u]
      rw [show (tk T p== [40])=k9 from beq_iff_eq.mpr u]at t
      have e:=P (p+1) A h
      have g: ∀c,execs (k8 m) (.cons (.ae 5 (.call "_law_chain_of" (.f .v0 (.bin .add .v1 (.int 1)) (.bin .add .v2 (.int 1)) (.int 0) .v3))) c) (en T N p w (some (.v (.str (tk T p)))) none) h=execs (k8 m) c (en T N p w (some (.v (.str (tk T p)))) (some (.v (lR (dR T a (p+1)))))) h:=fun c=>by
       have e:call prog m "_law_chain_of" [.v (cu T),.v (.int ((p+1:Nat):Int)),.v (.int ((w+1:Nat):Int)),.v (.int 0),.v (aL N)] h= .ok (.v (lR (dR T a (p+1)))) h:=e
       exact za (by simp_all [xb,C,L,e])
      cases l:dR T a (p+1)with
      | none=>
       rw [l]at g
       rw [i (.ret (.v .aj) h) (by
        rw [n,qa f,qa k,qa o]
        refine ja ?_
        rw [zg t,g]
        exact zf (by simp_all [lR]) rfl)]
       exact fin
      | some y=>
       obtain⟨d,q⟩:=y
       rw [l]at g
       obtain⟨_,U,_⟩:=(wB (G a rfl)).2.2 (p+1) d q l
       have i2:=Zo U h
       have v:aQ [d,D.int (q:Int)] 1=y0 (.int (q:Int)):=rfl
       have H:aQ [d,D.int (q:Int)] 0=y0 d:=rfl
       have ne:Gs .ne (.v (.str (tk T q))) (.v (.str [41])) h=y0 (!u9 (tk T q= [41])):=by
        by_cases z:tk T q= [41]
        ·rw [z];rfl
        ·simp [GK,z]
       have O:((q:Nat):Int)+1=((q+1:Nat):Int):=rfl
       rw [Ac9]
       dsimp only
       by_cases z:tk T q= [41]
       ·rw [if_pos z]
        rw [i (.ret (.v (.tup [d,.int ((q+1:Nat):Int)])) h) (by
         rw [n,qa f,qa k,qa o]
         refine ja ?_
         rw [zg t,g,qa (by simp_all [lR,av,v,i2,ne,decide_eq_true z])]
         exact ja (jc rfl (by simp_all [lR,av,H,v,xb,O])))]
        exact fin
       ·rw [if_neg z]
        rw [i (.ret (.v .aj) h) (by
         rw [n,qa f,qa k,qa o]
         refine ja ?_
         rw [zg t,g]
         exact zf (by simp_all [lR,av,v,i2,ne,decide_eq_false z]) rfl)]
        exact fin
     ·rw [beq_eq_false_iff_ne.mpr u]at t
      have e:=W (p+1) A h
      have g: ∀c,execs (k8 m) (.cons (.ae 5 (.call "_law_atom_of" (.d .v0 (.bin .add .v1 (.int 1)) (.bin .add .v2 (.int 1)) .v3))) c) (en T N p w (some (.v (.str (tk T p)))) none) h=execs (k8 m) c (en T N p w (some (.v (.str (tk T p)))) (some (.v (lR (a (p+1)))))) h:=fun c=>za (by simp_all [xb,C,L,e])
      have X: ∃s,aQ [D.str Wa,.str Xa] ((tk T p== [94]).toNat:Int)=y0 (.str s)/\ ∀r,(if tk T p= [126]then(a (p+1)).map λx=>(D.tup [.str Wa,x.1],x.2)else if tk T p= [94]then(a (p+1)).map λx=>(.tup [.str Xa,x.1],x.2)else r)=(a (p+1)).map λx=>(.tup [.str s,x.1],x.2):=by
       simp only [Aa5,Ab0,or_false]at j
       rcases j with z | z | z
       ·exact⟨Wa,by rw [z];rfl,λr=>by rw [if_pos z]⟩
       ·exact⟨Xa,by rw [z];rfl,λr=>by rw [if_neg (by rw [z];decide),if_pos z]⟩
       ·exact absurd z u
      obtain⟨s,S,Q⟩:=X
      rw [Q]
      cases l:a (p+1)with
      | none=>
       rw [l]at g
       rw [i (.ret (.v .aj) h) (by
        rw [n,qa f,qa k,qa o,qa t,g]
        exact zf (by simp_all [lR]) rfl)]
       exact fin
      | some y=>
       obtain⟨d,q⟩:=y
       rw [l]at g
       have v:aQ [d,D.int (q:Int)] 1=y0 (.int (q:Int)):=rfl
       have H:aQ [d,D.int (q:Int)] 0=y0 d:=rfl
       rw [i (.ret (.v (.tup [.tup [.str s,d],.int (q:Int)])) h) (by
        rw [n,qa f,qa k,qa o,qa t,g,qa (by simp_all [lR])]
        exact ja (jc rfl (by simp_all [lR,Je,ZZ,aH,Jh,S,av,H,v])))]
       exact fin
    ·rw [if_neg (λz=>j (by rw [z];decide)),if_neg (λz=>j (by rw [z];decide)),if_neg (λz=>j (by rw [z];decide))]
     exact K (by rw [decide_eq_false j];simp)
theorem W0 (b:dh N) (c:T.length<=90000): ∀n,n<=20-> ∀m,LA T N (20-n) (5*n+m+1) "_law_atom_of" (pA N T n)/\LC T N (20-n) 0 (5*n+m+5) (dR T (pA N T n))
 | 0,_,m=>by
  have h:LA T N 20 (5*0+m+1) "_law_atom_of" (pA N T 0):=oP b (fun a e=>by cases e) rfl
  exact⟨h,se c (ZK b.nb 0) h⟩
 | n+1,d,m=>by
  have e:20-(n+1)+1=20-n:=by omega
  have h:LA T N (20-(n+1)) (5*(n+1)+m+1) "_law_atom_of" (pA N T (n+1)):=by
   refine oP b (λa e q=>by cases e;exact ZK b.nb n q) ⟨by omega,?_,?_⟩
   ·rw [e,show 5*(n+1)+m=5*n+(m+4)+1 by omega];exact(W0 b c n (by omega) (m+4)).1
   ·rw [e,show 5*(n+1)+m=5*n+m+5 by omega];exact(W0 b c n (by omega) m).2
  exact⟨h,se c (ZK b.nb (n+1)) h⟩
def AI {T:List Tx}(l:a<=T.length):aQ (cut (T.map D.str++ [.str []]) (y0 (a:Int)) (y0 ((a+2:Nat):Int))) (-1)=y0 (.str (if a<T.length then tk T (a+1)else [])):=by
 have k: ¬((a:Nat):Int)<0:=by omega
 have j: ¬((a+2:Nat):Int)<0:=by omega
 have f:(T.map D.str++ [D.str []]).length=T.length+1:=by simp
 have b: ∀p,p<=T.length->(T.map D.str++ [D.str []])[p]? =y0 (.str (tk T p)):=λp i=>by
  have:=Zo i []
  rw [zG,zk _ _ (by simp;omega)]at this
  exact this
 simp only [cut,aK,k,j,if_false,Ad7,f]
 rw [show min a (T.length+1)=a by omega]
 by_cases q:a<T.length
 ·rw [if_pos q,show min (a+2) (T.length+1)=a+2 by omega,show a+2-a=2 by omega]
  have e:((T.map D.str++ [D.str []]).drop a).take 2= [.str (tk T a)]++ [.str (tk T (a+1))]:=by
   have d:a<(T.map D.str++ [D.str []]).length:=by rw [f];omega
   have g:a+1<(T.map D.str++ [D.str []]).length:=by rw [f];omega
   have c:=b a (by omega)
   have h:=b (a+1) (by omega)
   rw [Aa7 d]at c
   rw [Aa7 g]at h
   rw [Ae6 d,Ae6 g,Ae5.inj c,Ae5.inj h]
   rfl
  rw [e]
  exact(WS _ _).1
 ·have:a=T.length:=by omega
  subst this
  rw [if_neg (Ae7 _),show min (T.length+2) (T.length+1)=T.length+1 by omega,show T.length+1-T.length=1 by omega]
  have d:T.length<(T.map D.str++ [D.str []]).length:=by rw [f];omega
  have c:=b T.length (Aa6 _)
  rw [Aa7 d,X4 (Ae7 _)]at c
  rw [Ae6 d,Ae5.inj c]
  exact(WS [] _).1
def g6 (T:List Tx):Prop:= ∀t∈T,t.length<=90000/\ ∀c r,t=c::r->b4.contains c=k9->t.all b4.contains=k9
theorem g6.tk (h:g6 T) (p):(tk T p).length<=90000/\ ∀c r,tk T p=c::r->b4.contains c=k9->(tk T p).all b4.contains=true:=by
 by_cases q:p<T.length
 ·exact h _ (by rw [M.tk,Ac3,Aa7 q];exact Ak2 q)
 ·rw [X4 q];exact⟨by decide,λc r e=>by cases e⟩
noncomputable abbrev cy (T N:List Tx) (p w:Nat) (x4 x5 x6:Option W):Sl:= [y0 (.v (cu T)),y0 (.v (.int (p:Int))),y0 (.v (.int (w:Int))),y0 (.v (aL N)),x4,x5,x6]
def ra (c):(cK c=2)↔b4.contains c=true:=by
 unfold cK
 cases l:bP.contains c with
 | true=>rw [iQ c l];simp
 | false=>cases b4.contains c<;>simp
def pS {T N:List Tx}{w m:Nat}{x:PR}(W:g6 T) (hx:LC T N w 0 m x) (a:Nat) (J:a<=T.length) (b:Tx) (hl:b.length<=10) (h:AH) (hm:1<=m):
 execs (k8 m) (match aB.body with | .cons _ (.cons _ ss)=>ss | ss=>ss) (cy T N a w (y0 (.v (.str b))) u0 u0) h= .ret (.v (lR (qM T x b a))) h:=by
 obtain⟨m,rfl⟩: ∃k,m=k+1:=⟨m-1,by omega⟩
 have i1:=Zo J h
 have S:=AI J
 have a2:((a:Nat):Int)+2=((a+2:Nat):Int):=rfl
 have n1:eval (k8 (m+1)) (.neg (.int 1)) (cy T N a w (y0 (.v (.str b))) u0 u0) h= .ok (.v (.int (-1))) h:=rfl
 simp only [aB]
 rw [za (Z1:=cy T N a w (y0 (.v (.str b))) (y0 (.v (.str (if a<T.length then tk T (a+1)else [])))) u0) (h1:=h) (by
  have sl:dW (.v (cu T)) (y0 (a:Int)) (y0 ((a+2:Nat):Int)) h= .ok (.own (cut (T.map D.str++ [.str []]) (y0 (a:Int)) (y0 ((a+2:Nat):Int)))) h:=rfl
  simp_all [xb,a2,sl,Jh,S])]
 generalize H:(if a<T.length then tk T (a+1)else [])=f
 have l:eval (k8 (m+1)) (.cmp .bz (.ix .v0 .v1) (.tup (.b (.str d3) (.str dY)))) (cy T N a w (y0 (.v (.str b))) (y0 (.v (.str f))) u0) h= .ok (.v (.bl (!u9 (tk T a∈ [zd,Jg])))) h:=by
  have:=xt (tk T a) [zd,Jg] h
  rw [eval,eval,Wg rfl,R.aa,Wg rfl,R.aa,i1]
  simp only [R.ag,R.aa,aH]
  rw [xp,R.aa,this];rfl
 have M:eval (k8 (m+1)) (.cmp .eq .v5 (.str [])) (cy T N a w (y0 (.v (.str b))) (y0 (.v (.str f))) u0) h= .ok (.v (.bl (f== []))) h:=by simp_all [Je]
 have p: ∀ {c:E}{s:Ss},Gf (k8 (m+1)) c (cy T N a w (y0 (.v (.str b))) (y0 (.v (.str f))) u0) h= .ok k9 h->execs (k8 (m+1)) (.cons (.r c .aj) s) (cy T N a w (y0 (.v (.str b))) (y0 (.v (.str f))) u0) h= .ret (.v .aj) h:=λt=>zf t rfl
 unfold qM
 by_cases g:tk T a∈ [zd,Jg]
 ·rw [if_pos g]
  rw [decide_eq_true g]at l
  have G:a<T.length:=xr rfl λz=>by rw [z]at g;exact absurd g (by decide)
  rw [if_pos G]at H
  obtain⟨P,K⟩:=W.tk (a+1)
  rw [H]at P K ⊢
  cases f with
  | nil=>
   rw [show gW []=u0 from rfl]
   exact p (by
    rw [Gf,eval,l]
    simp only [Ai7,R.aa,Gp,R.ag]
    rw [eval,M];rfl)
  | cons c r=>
   have n:cR (.v (.str (c::r))) (.v (.int 0)) h=y0 (.str [c]):=by
    rw [Jx,if_pos (by rw [Gc];omega),show(0:Int)=((0:Nat):Int)from rfl,zk _ _ (by simp)]
    rfl
   have es:=Q6 m c h
   have Q:Gs .ne (.v (.int (cK c:Nat))) (.v (.int 2)) h=y0 (!u9 (cK c=2)):=by
    have:=Xb (cK c) 2 h
    by_cases z:cK c=2
    ·rw [z];simp [GK]
    ·have U: ¬((cK c:Nat):Int)=2:=by omega
     simp [GK,z,U]
   have A:Gf (k8 (m+1)) (.or (.cmp .bz (.ix .v0 .v1) (.tup (.b (.str d3) (.str dY)))) (.or (.cmp .eq .v5 (.str [])) (.cmp .ne (.call "_law_sort" (.a (.ix .v5 (.int 0)))) (.int 2)))) (cy T N a w (some (.v (.str b))) (some (.v (.str (c::r)))) none) h= .ok (!decide (cK c=2)) h:=by
    rw [Gf,eval,l]
    simp only [Ai7,R.aa,Gp,R.ag]
    rw [eval,M]
    simp only [show ((c::r:Tx)== [])=y9 from rfl,R.aa,Gp,R.ag]
    simp_all [n,es,Q]
   by_cases B:cK c=2
   ·have Y:=(ra c).mp B
    have F:=K c r rfl Y
    rw [decide_eq_true B]at A
    rw [qa A]
    have C:c5 .len [.v (.str (c::r))] h=aH (.int ((r.length+1:Nat):Int)) h:=by rw [len_str,if_pos (by rw [Gc];omega)];rfl
    have o:Gs .gt (.v (.int ((r.length+1:Nat):Int))) (.v (.int 2)) h=y0 (u9 (2<r.length+1)):=by rw [WM];congr 1;exact decide_eq_decide.mpr (by omega)
    have v:Gs .eq (.v (.int ((r.length+1:Nat):Int))) (.v (.int 2)) h=y0 (u9 (r.length+1=2)):=Xb (r.length+1) 2 h
    have q0:Gs .eq (.v (.str [c])) (.v (.str [48])) h=y0 (u9 (c=48)):=by rw [Je];congr 1;by_cases z:c=48<;>simp [z]
    have u:Gf (k8 (m+1)) (.or (.cmp .gt (.bi .len (.a .v5)) (.int 2)) (.and (.cmp .eq (.bi .len (.a .v5)) (.int 2)) (.cmp .eq (.ix .v5 (.int 0)) (.str [48])))) (cy T N a w (y0 (.v (.str b))) (y0 (.v (.str (c::r)))) u0) h= .ok (u9 (2<r.length+1)||(u9 (r.length+1=2)&&u9 (c=48))) h:=by
     cases I:u9 (2<r.length+1)with
     | true=>rw [I]at o;simp_all [C,aH,o];rfl
     | false=>
      rw [I]at o
      cases L:u9 (r.length+1=2)with
      | true=>rw [L]at v;simp_all [C,aH,o,v,n,q0];rfl
      | false=>rw [L]at v;simp_all [C,aH,o,v];rfl
    have i:fi (c::r)= !(u9 (2<r.length+1)||(u9 (r.length+1=2)&&u9 (c=48))):=by
     unfold fi
     rw [F,Bool.and_true]
     match r with
     | []=>by_cases z:c=48<;>simp [z]
     | [d]=>by_cases z:c=48<;>simp [z]
     | d::e::r'=>simp
    unfold gW
    rw [i]
    cases z:(u9 (2<r.length+1)||(u9 (r.length+1=2)&&u9 (c=48)))with
    | true=>
     rw [z]at u
     exact p u
    | false=>
     rw [z]at u i
     obtain⟨k,O⟩:=tT i
     have j:a+1<T.length:=xr H (by simp)
     have Z:call prog (m+1) "_law_chain_of" [.v (cu T),.v (.int ((a+2:Nat):Int)),.v (.int (w:Int)),.v (.int 0),.v (aL N)] h= .ok (.v (lR (x (a+2)))) h:=hx (a+2) j h
     rw [qa u,if_pos (by rfl),O,Ac9,za (Z1:=cy T N a w (y0 (.v (.str b))) (y0 (.v (.str (c::r)))) (y0 (.v (lR (x (a+2)))))) (h1:=h) (by simp_all [xb,a2,Z])]
     cases e3:x (a+2)with
     | none=>exact zf (by simp_all [lR]) rfl
     | some y=>
      obtain⟨d,q⟩:=y
      have V:aQ [d,D.int (q:Int)] 1=y0 (.int (q:Int)):=rfl
      have a0:aQ [d,D.int (q:Int)] 0=y0 d:=rfl
      have X:GC .add (.v (.str b)) (.v (.str (tk T a))) h= .ok (.v (.str (b++tk T a))) h:=by
       refine w4 _ _ _ ?_
       simp only [Aa5,Ab0,or_false]at g
       rcases g with z | z<;>rw [z]<;>simp<;>omega
      rw [qa (by simp_all [lR])]
      exact ja (jc rfl (by simp_all [lR,i1,X,jY,O,av,a0,V];rfl))
   ·rw [decide_eq_false B]at A
    have i:fi (c::r)=false:=by
     unfold fi
     have:(c::r:Tx).all b4.contains=false:=by
      rw [Ag8]
      cases z:b4.contains c with
      | true=>exact absurd ((ra c).mpr z) B
      | false=>rfl
     rw [this];simp
    unfold gW
    rw [i,if_neg Ab1]
    exact p A
 ·rw [if_neg g]
  rw [decide_eq_false g]at l
  exact p (by rw [Gf,eval,l];rfl)
def FF (k:g6 T) (l:LC T N w 0 (m+1) x) (p) (j:p<=T.length) (o:tk T p∈ [Zd,zd,Jg]) (h):call prog (m+2) "_law_counted_of" [.v (cu T),.v (.int (p:Int)),.v (.int (w:Int)),.v (aL N)] h= .ok (.v (lR (if tk T p=Zd then qM T x Zd (p+1)else qM T x [] p))) h:=by
 have a: ∀f,execs (k8 (m+1)) aB.body (cy T N p w u0 u0 u0) h=f->call prog (m+2) "_law_counted_of" [.v (cu T),.v (.int (p:Int)),.v (.int (w:Int)),.v (aL N)] h=Gu h.length f:=fun f e=>by rw [Gb (d:=aB) rfl _ _ _ rfl,←e];rfl
 have i1:=Zo j h
 have n:((p:Nat):Int)+1=((p+1:Nat):Int):=rfl
 have q:eval (k8 (m+1)) (.cmp .eq (.ix .v0 .v1) (.str fA)) (cy T N p w (y0 (.v (.str []))) u0 u0) h= .ok (.v (.bl (tk T p==Zd))) h:=by simp_all [i1,Je]
 have b:aB.body= .cons (.ae 4 (.str [])) (.cons (.iff (.cmp .eq (.ix .v0 .v1) (.str [101,97,99,104])) (.cons (.ae 4 (.str [101,97,99,104])) (.a (.ae 1 (.bin .add .v1 (.int 1))))) .nil) (match aB.body with | .cons _ (.cons _ g)=>g | g=>g)):=rfl
 by_cases c:tk T p=Zd
 ·have i:p<T.length:=xr c (by decide)
  rw [if_pos c,a (.ret (.v (lR (qM T x Zd (p+1)))) h) (by
   rw [b,za (Z1:=cy T N p w (y0 (.v (.str []))) u0 u0) (h1:=h) rfl,za (Z1:=cy T N (p+1) w (y0 (.v (.str Zd))) u0 u0) (h1:=h) (by
    rw [zg (h1:=h) (by rw [Gf,q,show(tk T p==Zd)=k9 from beq_iff_eq.mpr c];rfl),za (Z1:=cy T N p w (y0 (.v (.str Zd))) u0 u0) (h1:=h) rfl,nD]
    simp_all [xb,n])]
   exact pS k l (p+1) i Zd (by decide) h (by omega))]
  exact Ga _ _ _ rfl
 ·rw [if_neg c,a (.ret (.v (lR (qM T x [] p))) h) (by
   rw [b,za (Z1:=cy T N p w (y0 (.v (.str []))) u0 u0) (h1:=h) rfl,qa (by rw [Gf,q,show(tk T p==Zd)=y9 from beq_eq_false_iff_ne.mpr c];rfl)]
   exact pS k l p j [] (by decide) h (by omega))]
  exact Ga _ _ _ rfl
def C9 (O:g6 T) (C: ∀p,OK T p (x p)) (U:LC T N w 0 (m+1) x) (n:LC T N w 0 (m+2) x):LA T N w (m+3) "_law_fact_of" (eQ T x):=fun p H h=>by
 have j: ∀J,execs (k8 (m+2)) bj.body (cy T N p w u0 u0 u0) h=J->call prog (m+3) "_law_fact_of" [.v (cu T),.v (.int (p:Int)),.v (.int (w:Int)),.v (aL N)] h=Gu h.length J:=fun J e=>by rw [Gb (d:=bj) rfl _ _ _ rfl,←e];rfl
 simp only [bj]at j
 have i1:=Zo H h
 have S:((p:Nat):Int)+1=((p+1:Nat):Int):=rfl
 have fin: ∀ {d:D},Gu h.length (.ret (.v d) h)= .ok (.v d) h:=λ{d}=>Ga _ _ _ rfl
 have g:Gf (k8 (m+2)) (.cmp .mem (.ix .v0 .v1) (.tup (.c (.str fA) (.str d3) (.str dY)))) (cy T N p w u0 u0 u0) h= .ok (u9 (tk T p∈ [Zd,zd,Jg])) h:=by
  have:=Zn (tk T p) [Zd,zd,Jg] h
  rw [Gf,eval,eval,Wg rfl,R.aa,Wg rfl,R.aa,i1]
  simp only [R.ag,R.aa,aH]
  rw [JJ,R.aa,this];rfl
 have k:Gf (k8 (m+2)) (.cmp .mem (.ix .v0 .v1) (.tup (.b (.str gi) (.str fW)))) (cy T N p w u0 u0 u0) h= .ok (u9 (tk T p∈ [qj,WR])) h:=by
  have:=Zn (tk T p) [qj,WR] h
  rw [Gf,eval,eval,Wg rfl,R.aa,Wg rfl,R.aa,i1]
  simp only [R.ag,R.aa,aH]
  rw [xp,R.aa,this];rfl
 by_cases f:tk T p∈ [Zd,zd,Jg]
 ·rw [decide_eq_true f]at g
  have e:=FF O U p H f h
  have r:eQ T x p=if tk T p=Zd then qM T x Zd (p+1)else qM T x [] p:=by
   unfold eQ
   simp only [Aa5,Ab0,or_false]at f
   rcases f with z | z | z
   ·rw [if_neg (by rw [z];decide),if_neg (by rw [z];decide)]
    simp only [if_pos z]
   ·rw [if_neg (by rw [z];decide),if_pos (by rw [z];decide),if_neg (by rw [z];decide)]
   ·rw [if_neg (by rw [z];decide),if_pos (by rw [z];decide),if_neg (by rw [z];decide)]
  rw [r]
  generalize (if tk T p=Zd then qM T x Zd (p+1)else qM T x [] p)=y at e ⊢
  rw [j (.ret (.v (lR y)) h) (zf g (jc rfl (by simp_all [e])))]
  exact fin
 ·rw [decide_eq_false f]at g
  have K: ¬tk T p=Zd/\tk T p∉ [zd,Jg]:=by
   simp only [Aa5,Ab0,or_false,not_or]at f ⊢
   exact⟨f.1,f.2⟩
  unfold eQ
  by_cases t:tk T p∈ [qj,WR]
  ·rw [if_pos t]
   rw [decide_eq_true t]at k
   have E:p<T.length:=xr rfl λz=>by rw [z]at t;exact absurd t (by decide)
   have e:call prog (m+2) "_law_chain_of" [.v (cu T),.v (.int ((p+1:Nat):Int)),.v (.int (w:Int)),.v (.int 0),.v (aL N)] h= .ok (.v (lR (x (p+1)))) h:=n (p+1) E h
   have a: ∀c,execs (k8 (m+2)) (.cons (.ae 4 (.call "_law_chain_of" (.f .v0 (.bin .add .v1 (.int 1)) .v2 (.int 0) .v3))) c) (cy T N p w none none none) h=execs (k8 (m+2)) c (cy T N p w (some (.v (lR (x (p+1))))) none none) h:=fun c=>za (by simp_all [xb,S,e])
   cases o:x (p+1)with
   | none=>
    rw [o]at a
    rw [j (.ret (.v .aj) h) (by
     rw [qa g]
     exact ja (by rw [zg k,a];exact zf (by simp_all [lR]) rfl))]
    exact fin
   | some y=>
    obtain⟨d,q⟩:=y
    rw [o]at a
    have v:aQ [d,D.int (q:Int)] 1=y0 (.int (q:Int)):=rfl
    have G:aQ [d,D.int (q:Int)] 0=y0 d:=rfl
    rw [j (.ret (.v (.tup [.tup [.str (tk T p),d],.int (q:Int)])) h) (by
     rw [qa g]
     refine ja ?_
     rw [zg k,a,qa (by simp_all [lR])]
     exact ja (jc rfl (by simp_all [lR,i1,av,G,v])))]
    exact fin
  ·rw [if_neg t,if_neg K.2,if_neg K.1]
   rw [decide_eq_false t]at k
   have e:call prog (m+2) "_law_chain_of" [.v (cu T),.v (.int (p:Int)),.v (.int (w:Int)),.v (.int 0),.v (aL N)] h= .ok (.v (lR (x p))) h:=n p H h
   have a: ∀c,execs (k8 (m+2)) (.cons (.ae 5 (.call "_law_chain_of" (.f .v0 .v1 .v2 (.int 0) .v3))) c) (cy T N p w none none none) h=execs (k8 (m+2)) c (cy T N p w none (some (.v (lR (x p)))) none) h:=fun c=>za (by simp_all [e])
   cases o:x p with
   | none=>
    rw [o]at a
    rw [j (.ret (.v .aj) h) (by
     rw [qa g,qa k,a]
     exact zf (by simp_all [lR]) rfl)]
    exact fin
   | some y=>
    obtain⟨d,q⟩:=y
    rw [o]at a
    simp only [lR]at a
    obtain⟨_,P,_⟩:=C p d q o
    have i2:=Zo P h
    have v:aQ [d,D.int (q:Int)] 1=y0 (.int (q:Int)):=rfl
    have G:aQ [d,D.int (q:Int)] 0=y0 d:=rfl
    have M:((q:Nat):Int)+1=((q+1:Nat):Int):=rfl
    have Q:eval (k8 (m+2)) (.cmp .bz (.ix .v0 (.ix .v5 (.int 1))) (.tup (.b (.str c8) (.str [61])))) (cy T N p w u0 (y0 (.v (.tup [d,.int (q:Int)]))) u0) h= .ok (.v (.bl (!u9 (tk T q∈ [jK,[61]])))) h:=by
     have:=xt (tk T q) [jK,[61]] h
     have l:eval (k8 (m+2)) (.ix .v0 (.ix .v5 (.int 1))) (cy T N p w u0 (y0 (.v (.tup [d,.int (q:Int)]))) u0) h= .ok (.v (.str (tk T q))) h:=by simp_all [av,v,i2]
     rw [eval,l,R.aa,xp,R.aa,this];rfl
    have nn:eval (k8 (m+2)) (.b9 y9 .v5) (cy T N p w u0 (y0 (.v (.tup [d,.int (q:Int)]))) u0) h= .ok (.v (.bl y9)) h:=rfl
    have u:Gf (k8 (m+2)) (.or (.b9 y9 .v5) (.cmp .bz (.ix .v0 (.ix .v5 (.int 1))) (.tup (.b (.str c8) (.str [61]))))) (cy T N p w u0 (y0 (.v (.tup [d,.int (q:Int)]))) u0) h= .ok (!u9 (tk T q∈ [jK,[61]])) h:=by
     rw [Gf,eval,nn]
     simp only [R.aa,Gp,R.ag,Q]
    rw [Ac9]
    dsimp only
    cases i:eL (tk T q)with
    | none=>
     rw [decide_eq_false (pH i)]at u
     rw [j (.ret (.v .aj) h) (by
      rw [qa g,qa k,a]
      exact zf u rfl)]
     exact fin
    | some s=>
     obtain⟨_,F⟩:=qK i
     rw [decide_eq_true F]at u
     have I:q<T.length:=xr rfl λz=>by rw [z]at F;exact absurd F (by decide)
     have V:call prog (m+2) "_law_chain_of" [.v (cu T),.v (.int ((q+1:Nat):Int)),.v (.int (w:Int)),.v (.int 0),.v (aL N)] h= .ok (.v (lR (x (q+1)))) h:=n (q+1) I h
     have B: ∀c,execs (k8 (m+2)) (.cons (.ae 6 (.call "_law_chain_of" (.f .v0 (.bin .add (.ix .v5 (.int 1)) (.int 1)) .v2 (.int 0) .v3))) c) (cy T N p w none (some (.v (.tup [d,.int (q:Int)]))) none) h=execs (k8 (m+2)) c (cy T N p w none (some (.v (.tup [d,.int (q:Int)]))) (some (.v (lR (x (q+1)))))) h:=fun c=>za (by simp_all [av,v,xb,M,V])
     have X:aQ [D.str jK,.str zj] ((tk T q== [61]).toNat:Int)=y0 (.str s):=by
      unfold eL at i
      split at i
      ·rename_i z;cases i;rw [z];rfl
      ·split at i
       ·rename_i z;cases i;rw [z];rfl
       ·cases i
     rw [Ac9]
     cases L:x (q+1)with
     | none=>
      rw [L]at B
      rw [j (.ret (.v .aj) h) (by
       rw [qa g,qa k,a,qa u,B]
       exact zf (by simp_all [lR]) rfl)]
      exact fin
     | some z=>
      obtain⟨b,A⟩:=z
      rw [L]at B
      have f:aQ [b,D.int (A:Int)] 1=y0 (.int (A:Int)):=rfl
      have W:aQ [b,D.int (A:Int)] 0=y0 b:=rfl
      rw [j (.ret (.v (.tup [.tup [.str s,d,b],.int (A:Int)])) h) (by
       rw [qa g,qa k,a,qa u,B,qa (by simp_all [lR])]
       exact ja (jc rfl (by simp_all [lR,av,v,G,i2,Je,ZZ,aH,Jh,X,W,f])))]
      exact fin
noncomputable abbrev gC (T N:List Tx) (p w:Nat) (x4:Option W):Sl:= [y0 (.v (cu T)),y0 (.v (.int (p:Int))),y0 (.v (.int (w:Int))),y0 (.v (aL N)),x4]
def LW (T N:List Tx) (w k m:Nat) (x:PR):Prop:= ∀p,p<=T.length-> ∀h,call prog m "_law_row_of" [.v (cu T),.v (.int (p:Int)),.v (.int (w:Int)),.v (.int (k:Int)),.v (aL N)] h= .ok (.v (lR (x p))) h
def oE (x: ∀a,deep=y0 a-> ∀p,OK T p (a p)) (H:LA T N w m "_law_fact_of" fc) (v:match deep with
 | none=>w=20
 | some u=>w<20/\LA T N (w+1) m "_law_unit_of" u/\LW T N (w+1) 0 m (dw T u)):LA T N w (m+1) "_law_unit_of" (gF T fc deep):=fun p F h=>by
 have f: ∀B,execs (k8 m) bJ.body (gC T N p w u0) h=B->call prog (m+1) "_law_unit_of" [.v (cu T),.v (.int (p:Int)),.v (.int (w:Int)),.v (aL N)] h=Gu h.length B:=fun B e=>by rw [Gb rfl _ _ _ rfl,←e];rfl
 simp only [bJ]at f
 have i1:=Zo F h
 have G:((p:Nat):Int)+1=((p+1:Nat):Int):=rfl
 have E:((w:Nat):Int)+1=((w+1:Nat):Int):=rfl
 have fin: ∀ {d},Gu h.length (.ret (.v d) h)= .ok (.v d) h:=λ{d}=>Ga _ _ _ rfl
 have c:Gf (k8 m) (.cmp .bz (.ix .v0 .v1) (.tup (.b (.str eg) (.str [91])))) (gC T N p w u0) h= .ok (!u9 (tk T p∈ [Xk,[91]])) h:=by
  have:=xt (tk T p) [Xk,[91]] h
  rw [Gf,eval,eval,Wg rfl,R.aa,Wg rfl,R.aa,i1]
  simp only [R.ag,R.aa,aH]
  rw [xp,R.aa,this];rfl
 have g:Gf (k8 m) (.cmp .eq .v2 (.int 20)) (gC T N p w u0) h= .ok (u9 (w=20)) h:=by simp_all [show Gs .eq (.v (.int (w:Int))) (.v (.int 20)) h=_ from Xb w 20 h]
 have j:Gf (k8 m) (.cmp .eq (.ix .v0 .v1) (.str eg)) (gC T N p w u0) h= .ok (tk T p==Xk) h:=by simp_all [i1,Je]
 unfold gF
 by_cases l:tk T p∈ [Xk,[91]]
 ·rw [decide_eq_true l]at c
  have s:p<T.length:=xr rfl λz=>by rw [z]at l;exact absurd l (by decide)
  have n:tk T p=Xk\/tk T p= [91]:=by simpa using l
  cases deep with
  | none=>
   have v:w=20:=v
   rw [decide_eq_true v]at g
   have r:(if tk T p=Xk then u0 else if tk T p= [91]then u0 else fc p)=(none:Option (D×Nat)):=by
    rcases n with z | z
    ·rw [if_pos z]
    ·rw [if_neg (by rw [z];decide),if_pos z]
   show _=R.ok (W.v (lR (if tk T p=Xk then u0 else if tk T p= [91]then u0 else fc p))) h
   rw [r,f (.ret (.v .aj) h) (by rw [qa c];exact zf g rfl)]
   exact fin
  | some u=>
   obtain⟨O,J,L⟩:=v
   rw [decide_eq_false (by omega: ¬w=20)]at g
   by_cases t:tk T p=Xk
   ·rw [if_pos t]
    rw [show (tk T p==Xk)=k9 from beq_iff_eq.mpr t]at j
    have e:=J (p+1) s h
    have b: ∀i,execs (k8 m) (.cons (.ae 4 (.call "_law_unit_of" (.d .v0 (.bin .add .v1 (.int 1)) (.bin .add .v2 (.int 1)) .v3))) i) (gC T N p w none) h=execs (k8 m) i (gC T N p w (some (.v (lR (u (p+1)))))) h:=fun i=>za (by simp_all [xb,G,E,e])
    dsimp only
    cases k:u (p+1)with
    | none=>
     rw [k]at b
     rw [f (.ret (.v .aj) h) (by
      rw [qa c,qa g]
      exact ja (by rw [zg j,b];exact zf (by simp_all [lR]) rfl))]
     exact fin
    | some y=>
     obtain⟨d,q⟩:=y
     rw [k]at b
     have o:aQ [d,D.int (q:Int)] 1=y0 (.int (q:Int)):=rfl
     have A:aQ [d,D.int (q:Int)] 0=y0 d:=rfl
     rw [f (.ret (.v (.tup [.tup [.str Xk,d],.int (q:Int)])) h) (by
      rw [qa c,qa g]
      refine ja ?_
      rw [zg j,b,qa (by simp_all [lR])]
      exact ja (jc rfl (by simp_all [lR,av,A,o])))]
     exact fin
   ·have K:tk T p= [91]:=n.resolve_left t
    rw [if_neg t,if_pos K]
    rw [beq_eq_false_iff_ne.mpr t]at j
    have e:call prog m "_law_row_of" [.v (cu T),.v (.int ((p+1:Nat):Int)),.v (.int ((w+1:Nat):Int)),.v (.int 0),.v (aL N)] h= .ok (.v (lR (dw T u (p+1)))) h:=L (p+1) s h
    have b: ∀i,execs (k8 m) (.cons (.ae 4 (.call "_law_row_of" (.f .v0 (.bin .add .v1 (.int 1)) (.bin .add .v2 (.int 1)) (.int 0) .v3))) i) (gC T N p w none) h=execs (k8 m) i (gC T N p w (some (.v (lR (dw T u (p+1)))))) h:=fun i=>za (by simp_all [xb,G,E,e])
    show _=R.ok (W.v (lR ((dw T u (p+1)).bind λy=>if tk T y.2= [93]then y0 (y.1,y.2+1)else u0))) h
    cases k:dw T u (p+1)with
    | none=>
     rw [k]at b
     rw [f (.ret (.v .aj) h) (by
      rw [qa c,qa g,qa j,b]
      exact zf (by simp_all [lR]) rfl)]
     exact fin
    | some y=>
     obtain⟨d,q⟩:=y
     rw [k]at b
     obtain⟨_,M,_⟩:=(XO (x u rfl)).2 (p+1) d q k
     have i2:=Zo M h
     have o:aQ [d,D.int (q:Int)] 1=y0 (.int (q:Int)):=rfl
     have A:aQ [d,D.int (q:Int)] 0=y0 d:=rfl
     have I:((q:Nat):Int)+1=((q+1:Nat):Int):=rfl
     have ne:Gs .ne (.v (.str (tk T q))) (.v (.str [93])) h=y0 (!u9 (tk T q= [93])):=by
      by_cases z:tk T q= [93]
      ·rw [z];rfl
      ·simp [GK,z]
     rw [Ac9]
     dsimp only
     by_cases z:tk T q= [93]
     ·rw [if_pos z]
      rw [f (.ret (.v (.tup [d,.int ((q+1:Nat):Int)])) h) (by
       rw [qa c,qa g,qa j,b,qa (by simp_all [lR,av,o,i2,ne,decide_eq_true z])]
       exact ja (jc rfl (by simp_all [lR,av,A,o,xb,I])))]
      exact fin
     ·rw [if_neg z]
      rw [f (.ret (.v .aj) h) (by
       rw [qa c,qa g,qa j,b]
       exact zf (by simp_all [lR,av,o,i2,ne,decide_eq_false z]) rfl)]
      exact fin
 ·rw [decide_eq_false l]at c
  have C:tk T p≠Xk/\tk T p≠ [91]:=by simpa using l
  have e:=H p F h
  rw [if_neg C.1,if_neg C.2]
  rw [f (.ret (.v (lR (fc p))) h) (zf c (jc rfl (by simp_all [e])))]
  exact fin
noncomputable abbrev eH (T N:List Tx) (p w k:Nat) (x5 x6 x7:Option W):Sl:= [y0 (.v (cu T)),y0 (.v (.int (p:Int))),y0 (.v (.int (w:Int))),y0 (.v (.int (k:Int))),y0 (.v (aL N)),x5,x6,x7]
def vz (h1:LA T N w m "_law_unit_of" x):LW T N w 2 (m+1) x:=fun p b h=>by
 rw [Gb rfl _ _ _ rfl]
 simp only [bb]
 have e:=h1 p b h
 have a:Gs .eq (.v (.int (2:Nat))) (.v (.int 2)) h=y0 true:=Xb 2 2 h
 show Gu _ (execs _ _ (eH T N p w 2 u0 u0 u0) h)=_
 rw [zf (w:= .v (lR (x p))) (by simp_all [a]) (jc rfl (by simp_all [e]))]
 exact Ga _ _ _ rfl
def rG {w k m:Nat}(V:k<2) (B:aQ [D.str jV,.str js] (k:Int)=y0 (.str o)) (E:o≠ []) (G: ∀p,OK T p (sub p)) (S:T.length<=90000) (h1:LW T N w (k+1) m sub):LW T N w k (m+1) (dJ T (cU o o) sub):=by
 intro p Q h
 have M:Gs .eq (.v (.int (k:Int))) (.v (.int 2)) h=y0 false:=by
  have:=Xb k 2 h
  rw [decide_eq_false (by omega)]at this
  exact this
 have I:((k:Nat):Int)+1=((k+1:Nat):Int):=rfl
 have l: ∀C,execs (k8 m) bb.body (eH T N p w k u0 u0 u0) h=C->call prog (m+1) "_law_row_of" [.v (cu T),.v (.int (p:Int)),.v (.int (w:Int)),.v (.int (k:Int)),.v (aL N)] h=Gu h.length C:=fun C e=>by rw [Gb (d:=bb) rfl _ _ _ rfl,←e];rfl
 simp only [bb]at l
 have J:=h1 p Q h
 have f: ∀r,execs (k8 m) (.cons (.r (.cmp .eq .v3 (.int 2)) (.call "_law_unit_of" (.d .v0 .v1 .v2 .v4))) (.cons (.ae 5 (.call "_law_row_of" (.f .v0 .v1 .v2 (.bin .add .v3 (.int 1)) .v4))) (.cons (.ae 6 (.ix (.lst (.b (.str eI) (.str eT))) .v3)) r))) (eH T N p w k none none none) h=execs (k8 m) r (eH T N p w k (some (.v (lR (sub p)))) (some (.v (.str o))) none) h:=fun r=>by
  rw [qa (by simp_all [M]),za (Z1:=eH T N p w k (y0 (.v (lR (sub p)))) u0 u0) (h1:=h) (by simp_all [xb,I,J])]
  exact za (by simp_all [Jh,B])
 unfold dJ
 cases e:sub p with
 | none=>
  rw [e]at f
  simp only [lR]at f
  rw [l (.ret (.v .aj) h) (by
   rw [f,za (Z1:=eH T N p w k (y0 (.v .aj)) (y0 (.v (.str o))) u0) (h1:=h) (by
    rw [exec,Gv,show Gf (k8 m) ze (eH T N p w k (y0 (.v .aj)) (y0 (.v (.str o))) u0) h= .ok y9 h by rw [ze];simp_all []]
    rfl)]
   exact ja rfl)]
  exact Ga _ _ _ rfl
 | some y=>
  obtain⟨d,A⟩:=y
  rw [e]at f
  simp only [lR]at f
  obtain⟨_,P,_⟩:=G p d A e
  have u: ∀(d:D) (q:Nat),aQ [d,.int (q:Int)] 1=y0 (.int (q:Int)):=λd q=>rfl
  have O: ∀(d:D) (q:Nat),aQ [d,.int (q:Int)] 0=y0 d:=λd q=>rfl
  have j: ∀(d:D) (q:Nat) (y:Option W),q<=T.length->Gf (k8 m) ze (eH T N p w k (y0 (.v (.tup [d,.int (q:Int)]))) (y0 (.v (.str o))) y) h= .ok (tk T q==o) h:=λd q y a=>by
   have i1:=Zo a h
   rw [ze]
   simp_all [av,u,i1,Je]
  have i: ∀(d:D) (q:Nat) (y:Option W),q<T.length->execs (k8 m) Zi (eH T N p w k (y0 (.v (.tup [d,.int (q:Int)]))) (y0 (.v (.str o))) y) h=execs (k8 m) (.cons (.r (.b9 y9 .v7) .aj) (.a (.ae 5 (.tup (.b (.tup (.c .v6 (.ix .v5 (.int 0)) (.ix .v7 (.int 0)))) (.ix .v7 (.int 1))))))) (eH T N p w k (y0 (.v (.tup [d,.int (q:Int)]))) (y0 (.v (.str o))) (y0 (.v (lR (sub (q+1)))))) h:=λd q y a=>by
   have L:=h1 (q+1) a h
   have K:((q:Nat):Int)+1=((q+1:Nat):Int):=rfl
   rw [Zi]
   exact za (by simp_all [av,u,xb,K,I,L])
  have g:=Zz (Y:=Option W) (T:=T) (op:=cU o o) G (H:=λ_=>h) (Z:=λd q y=>eH T N p w k (y0 (.v (.tup [d,.int (q:Int)]))) (y0 (.v (.str o))) y) (X:=λo=>o= .ret (.v .aj) h)
   (c:=λZ h=>Gf (k8 m) ze Z h) (bd:=λZ h=>execs (k8 m) Zi Z h)
   (λo z=> .inr ⟨_,_,z⟩)
   (λd q y a z=>by
     show Gf _ _ _ _=_
     rw [j d q y a,show(tk T q==o)=y9 from beq_eq_false_iff_ne.mpr λv=>by unfold cU at z;rw [if_pos v]at z;cases z])
   (λd q y s a z=>by
     show Gf _ _ _ _=_
     rw [j d q y (Ag1 a),show(tk T q==o)=k9 from beq_iff_eq.mpr (Ad9 λv=>by unfold cU at z;rw [if_neg v]at z;cases z)])
   (λd q y s b n a z x=>⟨y0 (.v (.tup [b,.int (n:Int)])),by
     have:s=o:=by unfold cU at z;split at z<;>cases z;rfl
     subst this
     show execs _ _ _ _=_
     rw [i d q y a,x,qa (by simp_all [lR])]
     simp_all [lR,av,O,u]⟩)
   (λd q y s a z x=>by
     show execs _ _ _ _=_
     rw [i d q y a,x]
     exact zf (by simp_all [lR]) rfl)
   (λt s z=>(by unfold cU at z;split at z<;>cases z;rename_i v;rw [v];exact E)) (T.length+1) 100000 d A u0 (by omega) (by omega) P
  dsimp only
  cases F:fy T (cU o o) sub (T.length+1) d A with
  | none=>
   rw [F]at g
   rw [l (.ret (.v .aj) h) (by
    rw [f]
    exact ja (by rw [exec];exact g))]
   exact Ga _ _ _ rfl
  | some y=>
   obtain⟨R,n⟩:=y
   rw [F]at g
   obtain⟨U,g⟩:=g
   rw [l (.ret (.v (.tup [R,.int (n:Int)])) h) (by
    rw [f,za (by rw [exec];exact g)]
    exact ja rfl)]
   exact Ga _ _ _ rfl
def sV (a:T.length<=90000) (b: ∀p,OK T p (u p)) (h:LA T N w m "_law_unit_of" u):LW T N w 0 (m+3) (dw T u):=by
 have c:=rG (by decide) rfl (by decide) b a (vz h)
 exact rG (by decide) rfl (by decide) (XO b).1 a c
def Bw (b:dh N) (d:T.length<=90000) (i:g6 T): ∀n,n<=20-> ∀m,LA T N (20-n) (5*n+m+8) "_law_unit_of" (pU N T n)/\LW T N (20-n) 0 (5*n+m+11) (dw T (pU N T n)):=by
 have g:=λn c m=>C9 i (wB (ZK b.nb n)).2.2 (W0 b d n c m).2 (W0 b d n c (m+1)).2
 intro n
 induction n with
 | zero=>
  intro _ m
  have h:LA T N 20 (5*0+m+8) "_law_unit_of" (pU N T 0):=oE (fun a e=>by cases e) (g 0 (by decide) m) rfl
  exact⟨h,sV d (wV b.nb 0) h⟩
 | succ n f=>
  intro c m
  have e:20-(n+1)+1=20-n:=by omega
  have h:LA T N (20-(n+1)) (5*(n+1)+m+8) "_law_unit_of" (pU N T (n+1)):=by
   refine oE (λa e q=>by cases e;exact wV b.nb n q) (g (n+1) c m) ⟨by omega,?_,?_⟩
   ·rw [e,show 5*(n+1)+m+7=5*n+(m+4)+8 by omega];exact(f (by omega) (m+4)).1
   ·rw [e,show 5*(n+1)+m+7=5*n+(m+1)+11 by omega];exact(f (by omega) (m+1)).2
  exact⟨h,sV d (wV b.nb (n+1)) h⟩
def pI (x:Tx):Prop:=x≠ []/\ ∃s,(∀ c∈x,aM c=s)/\s≠Qc/\(s≠Qk->s≠zn-> ∃c,x= [c])
def Iv (S:List Tx) (a:Tx) (n:Nat):Prop:=S.length<=n/\(∀ x∈S,pI x/\x.length<=n)/\(a=Qk\/a=zn-> ∃b x,S=b++ [x]/\ ∀c∈x,aM c=a)
def Iv.step {S:List Tx}(h:Iv S a n):Iv (bY (S,a) c).1 (bY (S,a) c).2 (n+1):=by
 obtain⟨i,f,s⟩:=h
 unfold M.bY
 by_cases q:et a c
 ·rw [if_pos q]
  have m:a=Qk\/a=zn:=by rw [← q.1];exact q.2
  obtain⟨p,x,rfl,r⟩:=s m
  simp only [List.dropLast_concat,List.getLastD_concat]
  have j:=λd e=>(Ac8.mp e).elim (λz=>(r d z).trans q.1.symm) λz=>by rw [Ab6.mp z]
  refine⟨by simp at i ⊢;omega,λy b=> ?_,λ_=>⟨p,_,rfl,j⟩⟩
  rcases Ac8.mp b with b | b
  ·obtain⟨u,l⟩:=f y (Af0 _ b)
   exact⟨u,by omega⟩
  ·rw [Ab6.mp b]
   have:=(f x (by simp)).2
   refine⟨⟨by simp,aM c,j,by rcases q.2 with z | z<;>rw [z]<;>decide,λk o=>absurd q.2 (λz=>z.elim k o)⟩,by simp;omega⟩
 ·rw [if_neg q]
  by_cases g:aM c≠Qc
  ·rw [if_pos g]
   refine⟨by simpa using i,λy b=> ?_,λ_=>⟨S,[c],rfl,λd e=>by rw [Ab6.mp e]⟩⟩
   rcases Ac8.mp b with b | b
   ·obtain⟨u,l⟩:=f y b
    exact⟨u,by omega⟩
   ·rw [Ab6.mp b]
    exact⟨⟨by simp,aM c,λd e=>by rw [Ab6.mp e],g,λ_ _=>⟨c,rfl⟩⟩,by simp⟩
  ·rw [if_neg g]
   have t:=Aj.mp g
   refine⟨Ah i,λy b=>⟨(f y b).1,Ah (f y b).2⟩,λz=> ?_⟩
   have z:aM c=Qk\/aM c=zn:=z
   rw [t]at z
   rcases z with z | z<;>exact absurd z (by decide)
theorem Iv.fold: ∀(t:Tx){S}{a}{n},Iv S a n->Iv (t.foldl bY (S,a)).1 (t.foldl bY (S,a)).2 (n+t.length)
 | [],_,_,_,h=>h
 | c::t,S,a,n,h=>by
  have:=Iv.fold t (h.step (c:=c))
  rw [Ae1,Aa2,show n+(t.length+1)=n+1+t.length by omega]
  exact this
abbrev aU (t:Tx):List Tx:=(t.foldl bY ([],Qc)).1
def nJ (t):Iv (aU t) (t.foldl bY ([],Qc)).2 t.length:=by
 have:=Iv.fold t (S:= []) (a:=Qc) (n:=0) ⟨Aa6 _,(λ_ h=>by cases h),λz=>by rcases z with z | z<;>exact absurd z (by decide)⟩
 rwa [Nat.zero_add]at this
def eb :b4.contains c=k9↔aM c=zn:=by
 unfold aM
 constructor
 ·intro h
  rw [if_neg (λz=>by rw [iQ c z]at h;cases h),if_pos h]
 ·intro h
  split at h
  ·exact absurd h (by decide)
  ·split at h
   ·assumption
   ·split at h
    ·exact absurd h (by decide)
    ·exact absurd h (by decide)
def uo (h:t.length<=90000):g6 (aU t):=λx g=>by
 obtain⟨⟨_,s,a,_⟩,l⟩:=(nJ t).2.1 x g
 refine⟨by omega,λc r e f=> ?_⟩
 have:s=zn:=by rw [← a c (by rw [e];simp)];exact eb.mp f
 rw [Af]
 exact λd b=>eb.mpr ((a d b).trans this)
def dS (a:Tx) (c:Nat):Nat:=if et a c then 0 else if aM c≠Qc then nb [c]else 0
def nk:Tx->Tx->Nat
 | _,[]=>0
 | a,c::t=>dS a c+nk (aM c) t
def tq (h:pI x)(b: ∀c∈x,aM c=s) (h2:s=Qk\/s=zn):nb x=1:=by
 unfold nb
 rw [if_neg λz=> ?_]
 obtain⟨c,r,rfl⟩: ∃c r,x=c::r:=by
  cases x with
  | nil=>exact absurd rfl h.1
  | cons c r=>exact⟨c,r,rfl⟩
 have a:=b c Aa
 simp only [Aa5,Ab0,or_false]at z
 rcases z with z | z | z | z<;>cases z<;>rcases h2 with y | y<;>rw [y]at a<;>exact absurd a (by decide)
theorem j1: ∀(t){S}{a}{n},Iv S a n->((t.foldl bY (S,a)).1.map nb).sum=(S.map nb).sum+nk a t
 | [],_,_,_,_=>rfl
 | c::t,S,a,n,h=>by
  have e:bY (S,a) c=((bY (S,a) c).1,aM c):=by
   unfold bY
   split
   ·rfl
   ·split<;>rfl
  rw [Ae1,e,j1 t (by have:=h.step (c:=c);rw [e]at this;exact this),nk]
  have:((bY (S,a) c).1.map nb).sum=(S.map nb).sum+dS a c:=by
   unfold bY dS
   by_cases q:et a c
   ·rw [if_pos q,if_pos q]
    have b:a=Qk\/a=zn:=by rw [← q.1];exact q.2
    obtain⟨p,x,rfl,i⟩:=h.2.2 b
    have u:=(h.2.1 x (by simp)).1
    have j:=tq u i b
    have g:=λd m=>(Ac8.mp m).elim (λz=>i d z) λz=>by rw [Ab6.mp z,q.1]
    have l:=tq ⟨by simp,a,g,by rcases b with z | z<;>rw [z]<;>decide,λk o=>absurd b (λz=>z.elim k o)⟩ g b
    simp [j,l]
   ·rw [if_neg q,if_neg q]
    by_cases f:aM c≠Qc
    ·rw [if_pos f,if_pos f];simp
    ·rw [if_neg f,if_neg f];rfl
  rw [this];omega
def yF (t):dB (aU t) 0=nk Qc t:=by
 have:=j1 t (S:= []) (a:=Qc) ⟨Aa6 _,(λ_ h=>by cases h),λz=>by rcases z with z | z<;>exact absurd z (by decide)⟩
 unfold dB
 rw [List.drop_zero,this]
 simp
abbrev nu (t:Tx):Nat:=nk Qc t
def ro (t):nb t<=1:=by unfold nb;split<;>omega
def EI (a) (c):dS a c<=dS Qc c/\dS Qc c<=dS a c+1:=by
 have n: ¬et Qc c:=λz=>by rcases z.2 with y | y<;>rw [z.1]at y<;>exact absurd y (by decide)
 unfold dS
 have:=ro [c]
 split
 ·split<;>lia
 ·lia
def p6 (a t):nk a t<=nu t/\nu t<=nk a t+1:=by
 cases t with
 | nil=>exact⟨Aa6 _,Af9 _⟩
 | cons c t=>
  have:=EI a c
  show dS a c+_<=dS Qc c+_/\dS Qc c+_<=dS a c+_+1
  omega
theorem n4: ∀(s) (a t),nk a (s++t)<=nk a s+nu t/\nk a s+nu t<=nk a (s++t)+1
 | [],a,t=>by
  have:=p6 a t
  show nk a t<=0+nu t/\0+nu t<=nk a t+1
  omega
 | c::s,a,t=>by
  have:=n4 s (aM c) t
  rw [Ai5]
  simp only [nk]at this ⊢
  omega
def qg (s t):nu (s++t)<=nu s+nu t:=(n4 s Qc t).1
def EZ (s t):nu s+nu t<=nu (s++t)+1:=(n4 s Qc t).2
def B7 (m) (g) (K L T) (p:(K++L).length<=100):call prog (m+1) "Reader.__init__" [.v (.ref g.length),.v (wD K L),.v (.lst (T.map .str))] (g++ [Cell.obj "Reader" []])= .ok (.v .aj) (rh g (K++L) T 0):=by
 rw [Gb rfl _ _ _ rfl]
 simp only [Xm]
 show Gu _ (execs _ _ [y0 (.v (.ref g.length)),y0 (.v (wD K L)),y0 (.v (.lst (T.map .str)))] _)=_
 have t: ∀fs,GJ (g++ [Cell.obj "Reader" fs]) (some (.v (.ref g.length)))=some (g.length, "Reader",fs):=fun fs=>by simp [GJ]
 have u: ∀fs a,(g++ [Cell.obj "Reader" fs]).set g.length (.obj "Reader" a)=g++ [Cell.obj "Reader" a]:=fun fs a=>by simp
 have c: ∀ f e d fs,(∀ h,eval (k8 m) e [y0 (.v (.ref g.length)),y0 (.v (wD K L)),y0 (.v (.lst (T.map .str)))] h= .ok (.v d) h)->Gm d=k9->fs.length<100 →
  exec (k8 m) (.bW 0 "Reader" f e) [some (.v (.ref g.length)),some (.v (wD K L)),some (.v (.lst (T.map .str)))] (g++ [Cell.obj "Reader" fs])= .next [some (.v (.ref g.length)),some (.v (wD K L)),some (.v (.lst (T.map .str)))] (g++ [Cell.obj "Reader" (ba f d fs)]):=fun f e d fs v j n=>by
  rw [exec,v,R.aC]
  show(match GJ (g++ [Cell.obj "Reader" fs]) (some (.v (.ref g.length)))with | some (r,w,fs)=>_ | none=>_)=_
  rw [t]
  show(if _ then _ else _)=_
  rw [if_pos ⟨rfl,j,n⟩,u]
 have i: ∀(b:List Tx),Gg (b.map D.str)=true:=λb=>by
  induction b with
  | nil=>rfl
  | cons x b k=>simp [k]
 have l: ∀h,eval (k8 m) (.bin .add (.ix .v1 (.int 0)) (.ix .v1 (.int 1))) [y0 (.v (.ref g.length)),y0 (.v (wD K L)),y0 (.v (.lst (T.map .str)))] h= .ok (.v (aL (K++L))) h:=λh=>by
  have q:cR (.v (wD K L)) (.v (.int 0)) h=y0 (aL K):=rfl
  have o:cR (.v (wD K L)) (.v (.int 1)) h=y0 (aL L):=rfl
  have s:GC .add (.v (aL K)) (.v (aL L)) h= .ok (.v (aL (K++L))) h:=by
   show GC .add (.v (.tup (K.map .str))) (.v (.tup (L.map .str))) h=_
   rw [xL,if_pos (by rw [Gc];simp at p ⊢;omega),←Ae0]
  simp_all [q,o,s]
 rw [za (c "names" _ (aL (K++L)) [] l (i (K++L)) (by decide)),
  za (c "signs" _ (.lst (T.map .str)) _ (fun h=>by simp_all []) (by simp [Gm,i]) (by show 1<100;decide)),
  za (c "place" _ (.int 0) _ (fun h=>rfl) rfl (by show 2<100;decide))]
 show Gu _ (.next _ _)=_
 rw [GH _ _ _ (by simp)]
 rfl
noncomputable abbrev rt (K L:List Tx) (t:Tx) (g:AH) (x:Option W):Sl:= [y0 (.v (wD K L)),y0 (.v (.str t)),y0 (.v (.lst ((aU t).map .str))),y0 (.v (.ref g.length)),x]
def sO {R:R W}(h:F.call "Reader.saying" [.v (.ref g.length),.v (.int 0)] (rh g (K++L) (aU t) p)=R):eval F (.ai 3 "Reader" "saying" "Reader.saying" (.a (.int 0))) (rt K L t g none) (rh g (K++L) (aU t) p)=R:=by
 show(match GJ (rh g (K++L) (aU t) p) (y0 (.v (.ref g.length)))with | some (r,a,fs)=>_ | none=>_)=_
 rw [Jt]
 exact h
def A8 (m) (g) (K L) (e:(K++L).length<=100) (t) (b: ∀c∈t,dm c) (f:t.length<=90000):call prog (m+94) "read_saying" [.v (wD K L),.v (.str t)] g=Gu g.length (execs (k8 (m+93)) (.cons (.ae 4 (.ai 3 "Reader" "saying" "Reader.saying" (.a (.int 0)))) (.cons (.iff (.cmp .lt (.fld 3 "Reader" "place") (.bi .len (.a .v2))) (.a (.bF "NoText" "row" .aj)) .nil) (.a (.ret .v4)))) (rt K L t g none) (rh g (K++L) (aU t) 0)):=by
 rw [Gb rfl _ _ _ rfl]
 simp only [xh]
 show Gu _ (execs _ _ [y0 (.v (wD K L)),y0 (.v (.str t)),u0,u0,u0] g)=_
 rw [qa (by simp_all [];rfl)]
 have a:=Ar (m+91) g t b (by omega)
 rw [za (Z1:= [y0 (.v (wD K L)),y0 (.v (.str t)),y0 (.v (.lst ((aU t).map .str))),u0,u0]) (h1:=g) (by simp_all [a])]
 have d:=B7 (m+92) g K L (aU t) e
 rw [za (Z1:=rt K L t g u0) (h1:=rh g (K++L) (aU t) 0) (by simp_all [d,aH])]
def RQ (x:R W) (g:AH):Option D->Prop
 | some d=>x= .ok (.v d) g
 | none=> ∃h',x= .exc bf (g++h')
def B1 (K L) (u:(K++L).length<=100) (p:dh (K++L)) (t:Tx) (l:t.length<=90000): ∃r:Option D,(∀ d,r=y0 d-> ∃n,Gd n d/\n<=nu t)/\(∀ m g,RQ (call prog (m+94) "read_saying" [.v (wD K L),.v (.str t)] g) g r)/\ ∀m h,call prog (m+113) "_law_read" [.v (wD K L),.v (.str t)] h= .ok (.v (r.getD .aj)) h:=by
 by_cases k: ∀c∈t,dm c
 ·have s:(aU t).length<=90000:=by have:=(nJ t).1;omega
  have A: ∀x∈aU t,x.length<=90000:=λx O=>by have:=((nJ t).2.1 x O).2;omega
  obtain⟨r,a⟩: ∃r:Option D,r=match dw (aU t) (pU (K++L) (aU t) 20) 0 with
   | none=>u0
   | some (d,q)=>if q<(aU t).length then u0 else y0 d:=⟨_,rfl⟩
  have ok:=(XO (wV (T:=aU t) p.nb 20)).2 0
  refine⟨r,?_,λm g=> ?_,λm h=> ?_⟩
  ·intro d e
   cases f:dw (aU t) (pU (K++L) (aU t) 20) 0 with
   | none=>rw [f]at a;rw [a]at e;cases e
   | some y=>
    obtain⟨S,q⟩:=y
    rw [f]at a
    obtain⟨_,_,n,b,N⟩:=ok S q f
    dsimp only at a
    rw [a]at e
    split at e
    ·cases e
    ·cases e
     refine⟨n,b,?_⟩
     rw [yF]at N
     show n<=nk Qc t
     omega
  ·have i:=(C2 (g:=g) p s A 20 (by decide) (m+1)).2 0
   rw [show 4*20+(m+1)+12=m+93 by omega]at i
   rw [A8 m g K L u t k l]
   cases f:dw (aU t) (pU (K++L) (aU t) 20) 0 with
   | none=>
    rw [f]at a i
    subst a
    obtain⟨q,i⟩:=i
    refine⟨[Cell.obj "Reader" (d7 (K++L) (aU t) q)],?_⟩
    have i:call prog (m+93) "Reader.saying" [.v (.ref g.length),.v (.int 0)] (rh g (K++L) (aU t) 0)= .exc bf (rh g (K++L) (aU t) q):=i
    rw [execs,exec,sO (F:=(k8 (m+93))) i]
    rfl
   | some y=>
    obtain⟨d,q⟩:=y
    rw [f]at a i
    obtain⟨_,I,n,v,_⟩:=ok d q f
    have i:call prog (m+93) "Reader.saying" [.v (.ref g.length),.v (.int 0)] (rh g (K++L) (aU t) 0)= .ok (.v d) (rh g (K++L) (aU t) q):=i
    rw [za (Z1:=rt K L t g (y0 (.v d))) (h1:=rh g (K++L) (aU t) q) (by rw [exec,sO (F:=(k8 (m+93))) i];rfl)]
    have z:Gs .lt (.v (.int (q:Int))) (.v (.int (((aU t).map D.str).length:Int))) (rh g (K++L) (aU t) q)=y0 (u9 (q<(aU t).length)):=by
     rw [zq,Ac]
    have E:eval (k8 (m+93)) (.fld 3 "Reader" "place") (rt K L t g (some (.v d))) (rh g (K++L) (aU t) q)= .ok (.v (.int (q:Int))) (rh g (K++L) (aU t) q):=by
     rw [eval]
     show(match GJ (rh g (K++L) (aU t) q) (y0 (.v (.ref g.length)))with | some (_,U,fs)=>_ | none=>_)=_
     rw [Jt];rfl
    have P:eval (k8 (m+93)) (.bi .len (.a .v2)) (rt K L t g (y0 (.v d))) (rh g (K++L) (aU t) q)= .ok (.v (.int (((aU t).map D.str).length:Int))) (rh g (K++L) (aU t) q):=by
     simp_all [];rfl
    have j:Gf (k8 (m+93)) (.cmp .lt (.fld 3 "Reader" "place") (.bi .len (.a .v2))) (rt K L t g (some (.v d))) (rh g (K++L) (aU t) q)= .ok (decide (q<(aU t).length)) (rh g (K++L) (aU t) q):=by
     rw [Gf,eval,E,R.aa,P,R.aa,z];rfl
    dsimp only at a
    by_cases c:q<(aU t).length
    ·rw [if_pos c]at a
     subst a
     rw [decide_eq_true c]at j
     refine⟨[Cell.obj "Reader" (d7 (K++L) (aU t) q)],?_⟩
     rw [execs,zg j]
     rfl
    ·rw [if_neg c]at a
     subst a
     rw [decide_eq_false c]at j
     show Gu _ _=_
     rw [qa j,ja (w:= .v d) (h1:=rh g (K++L) (aU t) q) rfl]
     have:Gu g.length (.ret (.v d) (rh g (K++L) (aU t) q))= .ok (.v d) ((rh g (K++L) (aU t) q).take g.length):=by
      show fin _ _ _=_
      unfold fin
      rw [if_neg (by rw [Ct];omega),if_pos (by exact v.ref)]
     rw [this]
     simp [rh]
  ·rw [Gb (d:=Qm) rfl _ _ _ rfl]
   simp only [Qm]
   show Gu _ (execs _ _ [y0 (.v (wD K L)),y0 (.v (.str t)),u0,u0] h)=_
   have Q:=(jZ (m+110) h t l).1 k
   rw [za (Z1:= [y0 (.v (wD K L)),y0 (.v (.str t)),y0 (.v (cu (aU t))),u0]) (h1:=h) (by simp_all [Q])]
   rw [qa (by simp_all [])]
   have o:=(Bw p s (uo l) 20 (by decide) (m+1)).2 0 (Af9 _) h
   rw [show 5*20+(m+1)+11=m+112 by omega]at o
   have C:cR (.v (wD K L)) (.v (.int 0)) h=y0 (aL K):=rfl
   have B:cR (.v (wD K L)) (.v (.int 1)) h=y0 (aL L):=rfl
   have H:GC .add (.v (aL K)) (.v (aL L)) h= .ok (.v (aL (K++L))) h:=by
    show GC .add (.v (.tup (K.map .str))) (.v (.tup (L.map .str))) h=_
    rw [xL,if_pos (by rw [Gc];simp at u ⊢;omega),←Ae0]
   have o:call prog (m+112) "_law_row_of" [.v (cu (aU t)),.v (.int 0),.v (.int 0),.v (.int 0),.v (aL (K++L))] h= .ok (.v (lR (dw (aU t) (pU (K++L) (aU t) 20) 0))) h:=o
   rw [za (Z1:= [y0 (.v (wD K L)),y0 (.v (.str t)),y0 (.v (cu (aU t))),y0 (.v (lR (dw (aU t) (pU (K++L) (aU t) 20) 0)))]) (h1:=h) (by simp_all [C,B,H,o])]
   cases f:dw (aU t) (pU (K++L) (aU t) 20) 0 with
   | none=>
    rw [f]at a
    subst a
    rw [ja (w:= .v .aj) (h1:=h)]
    ·exact Ga _ _ _ rfl
    ·rw [zg (h1:=h) (by simp_all [lR])]
     exact ja rfl
   | some y=>
    obtain⟨d,q⟩:=y
    rw [f]at a
    obtain⟨_,I,n,v,_⟩:=ok d q f
    have j:Gf (k8 (m+112)) (.or (.b9 y9 .v3) (.cmp .lt (.ix .v3 (.int 1)) (.bin .sub (.bi .len (.a .v2)) (.int 1)))) [y0 (.v (wD K L)),y0 (.v (.str t)),y0 (.v (cu (aU t))),y0 (.v (lR (y0 (d,q))))] h= .ok (u9 (q<(aU t).length)) h:=by
     have z:Gs .lt (.v (.int (q:Int))) (.v (.int (((aU t).length:Nat):Int))) h=y0 (u9 (q<(aU t).length)):=zq ..
     have J:c5 .len [.v (cu (aU t))] h= .ok (.v (.int (((aU t).length+1:Nat):Int))) h:=by
      show R.ok (W.v (D.int ((((aU t).map D.str++ [D.str []]).length:Nat):Int))) h=_
      rw [show (((aU t).map D.str++ [D.str []]).length:Nat)=(aU t).length+1 by simp]
     have M:GC .sub (.v (.int (((aU t).length+1:Nat):Int))) (.v (.int 1)) h= .ok (.v (.int (((aU t).length:Nat):Int))) h:=by
      rw [Gw]
      show R.ok (W.v (D.int ((((aU t).length+1:Nat):Int)-1))) h=_
      rw [show ((((aU t).length+1:Nat):Int)-1)=(((aU t).length:Nat):Int)by omega]
     have G:cR (.v (.tup [d,.int (q:Int)])) (.v (.int 1)) h=y0 (.int (q:Int)):=rfl
     simp_all [lR,J,M,G,z]
    dsimp only at a
    by_cases c:q<(aU t).length
    ·rw [if_pos c]at a
     subst a
     rw [decide_eq_true c]at j
     rw [ja (w:= .v .aj) (h1:=h)]
     ·exact Ga _ _ _ rfl
     ·rw [zg j]
      exact ja rfl
    ·rw [if_neg c]at a
     subst a
     rw [decide_eq_false c]at j
     rw [qa j,ja (w:= .v d) (h1:=h) (by simp_all [lR];rfl)]
     exact Ga _ _ _ rfl
 ·have k: ∃c∈t, ¬dm c:=by
   refine Ad9 λz=>k λc h=>Ad9 λy=>z ⟨c,h,y⟩
  refine⟨u0,λd e=>(by cases e),λm g=>⟨[],?_⟩,λm h=> ?_⟩
  ·rw [Gb (d:=xh) rfl _ _ _ rfl]
   simp only [xh]
   show Gu _ (execs _ _ [y0 (.v (wD K L)),y0 (.v (.str t)),u0,u0,u0] g)=_
   rw [qa (by simp_all [];rfl),execs,show exec (k8 (m+93)) (.ae 2 (.call "signs_of" (.a .v1))) [some (.v (wD K L)),some (.v (.str t)),none,none,none] g= .exc bf g by simp_all [jS (m+91) g t k (by omega)];rfl,List.append_nil]
   rfl
  ·rw [Gb (d:=Qm) rfl _ _ _ rfl]
   simp only [Qm]
   show Gu _ (execs _ _ [y0 (.v (wD K L)),y0 (.v (.str t)),u0,u0] h)=_
   rw [za (Z1:= [y0 (.v (wD K L)),y0 (.v (.str t)),y0 (.v .aj),u0]) (h1:=h) (by simp_all [(jZ (m+110) h t l).2 k])]
   rw [ja (w:= .v .aj) (h1:=h)]
   ·exact Ga _ _ _ rfl
   ·rw [zg (h1:=h) (by simp_all [])]
    exact ja rfl
def Fg (n) (h):Gs .ne (.v (.int (n:Int))) (.v (.int (n:Int))) h=y0 false:=by simp [GK]
def same_str (m) (s) (h):call prog (m+1) "_law_same" [.v (.str s),.v (.str s)] h= .ok (.v (.bl true)) h:=by
 rw [Gb rfl _ _ _ rfl]
 simp only [xq]
 show Gu _ (execs _ _ [y0 (.v (.str s)),y0 (.v (.str s))] h)=_
 have a:eval (k8 m) (.cmp .eq .v0 .v1) [y0 (.v (.str s)),y0 (.v (.str s))] h= .ok (.v (.bl k9)) h:=by
  simp_all [Je,beq_self_eq_true]
 rw [qa rfl,zf rfl (jc rfl ?_),Ga _ _ _ rfl]
 rw [eval,show eval (k8 m) (.dj .v0 .str) [y0 (.v (.str s)),y0 (.v (.str s))] h= .ok (.v (.bl k9)) h from rfl]
 simp only [R.aa,Gp,R.ag,a]
def qY (m i:Nat) (h):call prog (m+1) "_law_same" [.v (.int (i:Int)),.v (.int (i:Int))] h= .ok (.v (.bl true)) h:=by
 rw [Gb rfl _ _ _ rfl]
 simp only [xq]
 show Gu _ (execs _ _ [y0 (.v (.int i)),y0 (.v (.int i))] h)=_
 have a:eval (k8 m) (.cmp .eq .v0 .v1) [y0 (.v (.int i)),y0 (.v (.int i))] h= .ok (.v (.bl k9)) h:=by
  have z:=by
   have:=Xb i i h
   rwa [decide_eq_true rfl]at this
  simp_all [z]
 rw [qa rfl,qa rfl,ja (jc rfl ?_),Ga _ _ _ rfl]
 rw [eval,show eval (k8 m) (.dj .v0 .int) [y0 (.v (.int i)),y0 (.v (.int i))] h= .ok (.v (.bl k9)) h from rfl]
 simp only [R.aa,Gp,R.ag]
 rw [eval,show eval (k8 m) (.not (.dj .v0 .bool)) [y0 (.v (.int i)),y0 (.v (.int i))] h= .ok (.v (.bl k9)) h from rfl]
 simp only [R.aa,Gp,R.ag,a]
def uR (h): ∀ n m d,Gd n d->call prog (m+n+1) "_law_same" [.v d,.v d] h= .ok (.v (.bl true)) h:=by
 intro n
 induction n with
 | zero=>
  intro m d g
  cases g with
  | str s=>exact same_str _ s h
  | int i=>exact qY _ i h
 | succ n j=>
  intro m d g
  cases g with
  | str s=>exact same_str _ s h
  | int i=>exact qY _ i h
  | @tup _ a q p=>
   rw [show m+(n+1)+1=(m+n+1)+1 by omega,Gb rfl _ _ _ rfl]
   simp only [xq]
   show Gu _ (execs _ _ [y0 (.v (.tup a)),y0 (.v (.tup a))] h)=_
   have f:eval (k8 (m+n+1)) (.bi .len (.a .v1)) [y0 (.v (.tup a)),y0 (.v (.tup a))] h= .ok (.v (.int (a.length:Int))) h:=rfl
   have c:eval (k8 (m+n+1)) (.bi .len (.a .v0)) [y0 (.v (.tup a)),y0 (.v (.tup a))] h= .ok (.v (.int (a.length:Int))) h:=rfl
   have k:eval (k8 (m+n+1)) jl [y0 (.v (.tup a)),y0 (.v (.tup a))] h= .ok (.own (((Ab7 a.length).map λ(i:Nat)=>D.int (i:Int)).map λ_=> .bl k9)) h:=by
    rw [jl,zo (ds:=(Ab7 a.length).map λ(i:Nat)=>D.int (i:Int)) (λ_=> .bl k9) ?_ (by rw [Gc];simp;omega)]
    ·intro d l
     obtain⟨i,b,rfl⟩:=Ae.mp l
     have b:=Ai1.mp b
     have ix: ∀h,cR (.v (.tup a)) (.v (.int (i:Int))) h=y0 a[i]:=λh=>by
      rw [av,zk a i b,Aa7 b]
     refine⟨[y0 (.v (.int (i:Int))),y0 (.v (.tup a)),y0 (.v (.tup a))],rfl,.v (.bl k9),?_,rfl⟩
     simp_all [ix,j m a[i] (p _ (Ak2 b))]
    ·rw [Gr,f]
     simp only [R.aa,int?_int,R.ag]
     rw [if_pos (by rw [GI];omega)]
     simp
   have e:eval (k8 (m+n+1)) (.bi .all (.a jl)) [y0 (.v (.tup a)),y0 (.v (.tup a))] h= .ok (.v (.bl k9)) h:=by
    rw [eval,Gj,k]
    have e:((Ab7 a.length).map λ(i:Nat)=>D.int (i:Int)).map (λ_=>D.bl k9)=Aa1 a.length (.bl k9):=by
     rw [List.map_const'];simp
    simp only [R.aa,Gj,e]
    show((R.of h ((W.bX h (.own _)).bind G9)).bind _)=_
    rw [show W.bX h (.own (Aa1 a.length (D.bl k9)))=y0 (Aa1 a.length (D.bl k9))from rfl,Ac9,t9]
    have: ∀n,(Aa1 n k9).all id=true:=by intro n;simp
    simp [this,aH]
   rw [ja (w:= .v (.bl k9)) (h1:=h),Ga _ _ _ rfl]
   rw [zg (h1:=h) rfl,qa]
   ·exact ja (jc rfl e)
   ·have o:eval (k8 (m+n+1)) (.cmp .ne (.bi .len (.a .v0)) (.bi .len (.a .v1))) [y0 (.v (.tup a)),y0 (.v (.tup a))] h= .ok (.v (.bl y9)) h:=by
     rw [eval,c,R.aa,f,R.aa,Fg];rfl
    rw [Gf,eval,show eval (k8 (m+n+1)) (.not (.dj .v0 .tuple)) [y0 (.v (.tup a)),y0 (.v (.tup a))] h= .ok (.v (.bl y9)) h from rfl]
    simp only [R.aa,Gp,R.ag,o]
def fx (e:exec F s Z h= .next Z1 h1) (g:Gu n (execs F ss Z1 h1)=r):Gu n (execs F (.cons s ss) Z h)=r:=by rw [za e];exact g
def lg (l:xs.length+ys.length<=16):GC .add (.v (.lst xs)) (.own ys) h= .ok (.own (xs++ys)) h:=by rw [mS,if_pos (by rw [Gc];omega)]
def vR (h:call prog m "read_saying" [.v w,.v x] g= .ok (.v d) g):call prog (m+1) "_law_told" [.v w,.v x] g= .ok (.v (.tup [d,.aj])) g:=by
 rw [Gb rfl _ _ _ rfl]
 simp only [Xv]
 rw [za rfl,za rfl]
 rw [za (Z1:= [y0 (.v w),y0 (.v x),y0 (.v d),y0 (.v .aj),u0])]
 ·rw [ja rfl]
  exact Ga _ _ _ rfl
 ·rw [exec]
  show(match call prog m "read_saying" [.v w,.v x] g with | .ok w h=>_ | .exc d a=>_ | .fail=>_)=_
  rw [h]
  rfl
def JY (h:call prog m "read_saying" [.v w,.v x] g= .exc bf (g++h')):call prog (m+1) "_law_told" [.v w,.v x] g= .ok (.v (.tup [.aj,bf])) g:=by
 rw [Gb rfl _ _ _ rfl]
 simp only [Xv]
 rw [za rfl,za rfl]
 rw [za (Z1:= [y0 (.v w),y0 (.v x),y0 (.v .aj),y0 (.v bf),u0])]
 ·rw [ja rfl]
  exact Ga _ _ _ rfl
 ·rw [exec]
  unfold Kp
  show(match call prog m "read_saying" [.v w,.v x] g with | .ok w h=>_ | .exc d a=>_ | .fail=>_)=_
  rw [h]
  show O.next _ (Kg bf g.length (g++h'))=_
  rw [show Kg bf g.length (g++h')=(g++h').take g.length from rfl,List.take_left' rfl]
  rfl
def D5 (m) (g) (w x) (a:dj .str (.v x)=y0 y9):call prog (m+1) "read_saying" [.v w,.v x] g= .exc bf (g++ []):=by
 rw [Gb rfl _ _ _ rfl,Ad0]
 simp only [xh]
 rw [execs,zg (h1:=g) (by simp_all [a])]
 rfl
def EU (h):Gs .eq (.v (.lst [.bl k9,.bl y9,.bl y9,.bl y9,.bl y9,.bl y9,.bl y9,.bl y9,.bl y9,.bl y9,.bl y9,.bl y9,.bl y9,.bl y9,.bl y9])) (.own (((Ab7 15).map λi:Nat=>D.int (i:Int)).map λd=> .bl (cO d (.int 0)))) h=y0 true:=by
 rfl
def tQ (k) (h):call prog (k+1) "_law_only" [.v bf,.v (.int 0)] h= .ok (.v (.bl true)) h:=by
 rw [Gb rfl _ _ _ rfl]
 simp only [jH]
 have a: ∀b,cc prog.cl (.v bf) b=y0 (b.any (GN prog.cl 8 "NoText").contains):=fun b=>rfl
 refine fx (by simp_all [a];rfl) ?_
 refine fx (by simp_all [a];rw [lg (by simp)];rfl) ?_
 refine fx (by simp_all [a];rw [lg (by simp)];rfl) ?_
 refine fx (by simp_all [a];rw [lg (by simp)];rfl) ?_
 refine fx (by simp_all [a];rw [lg (by simp)];rfl) ?_
 show Gu _ (execs _ _ [y0 (.v bf),y0 (.v (.int 0)),y0 (.v (.lst [.bl k9,.bl y9,.bl y9,.bl y9,.bl y9,.bl y9,.bl y9,.bl y9,.bl y9,.bl y9,.bl y9,.bl y9,.bl y9,.bl y9,.bl y9]))] h)=_
 rw [qa (by simp_all [a];rfl),ja]
 ·exact Ga _ _ _ rfl
 ·refine jc rfl ?_
  have e:eval (k8 k) jq [y0 (.v bf),y0 (.v (.int 0)),y0 (.v (.lst [.bl k9,.bl y9,.bl y9,.bl y9,.bl y9,.bl y9,.bl y9,.bl y9,.bl y9,.bl y9,.bl y9,.bl y9,.bl y9,.bl y9,.bl y9]))] h= .ok (.own (((Ab7 15).map λi:Nat=>D.int (i:Int)).map λd=> .bl (cO d (.int 0)))) h:=by
   rw [jq,zo (ds:=(Ab7 15).map λ(i:Nat)=>D.int (i:Int)) (λd=> .bl (cO d (.int 0))) ?_ (by rw [Gc];simp)]
   ·intro d c
    obtain⟨i,f,rfl⟩:=Ae.mp c
    exact⟨[y0 (.v (.int (i:Int))),y0 (.v (.int 0))],rfl,.v (.bl (cO (.int (i:Int)) (.int 0))),rfl,rfl⟩
   ·rw [Gr,eval]
    simp only [R.aa,int?_int,R.ag,aH]
    rw [if_pos (by rw [GI];omega)]
    rfl
  rw [eval]
  show(R.ok _ h).bind _=_
  rw [R.aa,e,R.aa]
  show(R.of h (Gs .eq (.v (.lst [.bl k9,.bl y9,.bl y9,.bl y9,.bl y9,.bl y9,.bl y9,.bl y9,.bl y9,.bl y9,.bl y9,.bl y9,.bl y9,.bl y9,.bl y9])) _ h)).bind _=_
  rw [EU]
  rfl
theorem rz: ∀t:Tx,(∀ c∈t,aM c=Qk)->nk Qk t=0
 | [],_=>rfl
 | c::t,h=>by
  have a:=h c Aa
  rw [nk,a,rz t λd b=>h d (Aa0 _ b),dS,if_pos ⟨a,.inl a⟩]
def CZ (h: ∀c∈t,aM c=Qk):nu t<=1:=by
 cases t with
 | nil=>exact Af9 _
 | cons c t=>
  have b:=h c Aa
  show dS Qc c+nk (aM c) t<=1
  rw [b,rz t λd a=>h d (Aa0 _ a)]
  unfold dS
  have:=ro [c]
  split
  ·omega
  ·split<;>omega
def D0: ∀c,97<=c->c<=122->aM c=Qk:=by
 intro c a b
 have: ∀i,i<26->aM (97+i)=Qk:=by decide
 have:=this (c-97) (by omega)
 rwa [show 97+(c-97)=c by omega]at this
def pz (g:qs t):nu t<=1:=CZ λc a=>D0 c (g.ib c a).1 (g.ib c a).2
def Dw (h: ∀t∈N,qs t):dh N:=λt a=>by
 have g:=h t a
 obtain⟨c,r,rfl⟩: ∃c r,t=c::r:=by
  cases t with
  | nil=>exact absurd g.lo (by simp)
  | cons c r=>exact⟨c,r,rfl⟩
 have b:=g.ib c Aa
 have ne: ∀x:Nat,x<97\/x=126->c::r≠ [x]:=λx d z=>by cases z;omega
 refine⟨by simp,?_,ne 126 (by omega),ne 94 (by omega),ne 40 (by omega)⟩
 unfold nb
 rw [if_neg λz=> ?_]
 simp only [Aa5,Ab0,or_false]at z
 rcases z with z | z | z | z<;>cases z<;>omega
def Z7 (e:nu [o]=0) (b:nu [k]=0):nu (br c o k t)<=nu t:=by
 unfold br
 split
 ·have a:=qg [o] (t++ [k])
  have d:=qg t [k]
  show nu ([o]++(t++ [k]))<=_
  lia
 ·exact Aa6 _
def XT (l: ∀t∈N,qs t): ∀e:Ex,e.wf N->nu (bT e)+1<=2*2 ^ e.dp:=by
 have d: ∀a b c:Nat,a+1<=2*2 ^ b->b<=c->a+1<=2*2 ^ c:=λa b c i g=>Ab8 i (Ag2 _ (Af1 (by decide) g))
 have one: ∀ c x t,nu [c]<=1->nu (c::br x 40 41 t)<=nu t+1:=λc x t m=>by
  have i:=qg [c] (br x 40 41 t)
  have g:=Z7 (c:=x) (o:=40) (k:=41) (t:=t) (by decide) (by decide)
  show nu ([c]++br x 40 41 t)<=_
  omega
 have two: ∀ c x y s t,nu [32,c,32]<=1->nu (br x 40 41 s++(32::c::32::br y 40 41 t))<=nu s+nu t+1:=λc x y s t m=>by
  have i:=qg (br x 40 41 s) ([32,c,32]++br y 40 41 t)
  have g:=qg [32,c,32] (br y 40 41 t)
  have p:=Z7 (c:=x) (o:=40) (k:=41) (t:=s) (by decide) (by decide)
  have n:=Z7 (c:=y) (o:=40) (k:=41) (t:=t) (by decide) (by decide)
  show nu (br x 40 41 s++([32,c,32]++br y 40 41 t))<=_
  omega
 intro e
 induction e with
 | name t=>intro wf;have:=pz (l t wf);simp only [bT,Ex.dp];omega
 | same=>intro _;decide
 | all=>intro _;decide
 | none=>intro _;decide
 | turned a j=>intro wf;have:=j wf;have:=one 126 (u9 (aY a<3)) (bT a) (by decide);simp only [bT,Ex.dp,Ad3];omega
 | closed a j=>intro wf;have:=j wf;have:=one 94 (u9 (aY a<3)) (bT a) (by decide);simp only [bT,Ex.dp,Ad3];omega
 | plus a b f h=>intro wf;have i:=d _ _ (max a.dp b.dp) (f wf.1) (by omega);have g:=d _ _ (max a.dp b.dp) (h wf.2) (by omega);have:=two 43 (u9 (aY a<0)) (u9 (aY b<1)) (bT a) (bT b) (by decide);simp only [bT,Ex.dp,Ad3];omega
 | less a b f h=>intro wf;have i:=d _ _ (max a.dp b.dp) (f wf.1) (by omega);have g:=d _ _ (max a.dp b.dp) (h wf.2) (by omega);have:=two 45 (u9 (aY a<0)) (u9 (aY b<1)) (bT a) (bT b) (by decide);simp only [bT,Ex.dp,Ad3];omega
 | both a b f h=>intro wf;have i:=d _ _ (max a.dp b.dp) (f wf.1) (by omega);have g:=d _ _ (max a.dp b.dp) (h wf.2) (by omega);have:=two 38 (u9 (aY a<1)) (u9 (aY b<2)) (bT a) (bT b) (by decide);simp only [bT,Ex.dp,Ad3];omega
 | joined a b f h=>intro wf;have i:=d _ _ (max a.dp b.dp) (f wf.1) (by omega);have g:=d _ _ (max a.dp b.dp) (h wf.2) (by omega);have:=two 46 (u9 (aY a<2)) (u9 (aY b<3)) (bT a) (bT b) (by decide);simp only [bT,Ex.dp,Ad3];omega
def F3: ∀k,k<100->nu (bg (k:Nat))<=1:=by decide +kernel
def yb (e: ∀t∈N,qs t) (f) (wf:f.wf N):nu (fT f)+1<=5*2 ^ f.dp:=by
 have d: ∀a b c:Nat,a+1<=2*2 ^ b->b<=c->a+1<=2*2 ^ c:=λa b c g h=>Ab8 g (Ag2 _ (Af1 (by decide) h))
 have two: ∀ w s t,nu w<=1->nu (s++(w++t))<=nu s+nu t+1:=λw s t o=>by
  have g:=qg s (w++t)
  have h:=qg w t
  omega
 cases f with
 | fF a b=>have g:=d _ _ (max a.dp b.dp) (XT e a wf.1) (by omega);have h:=d _ _ (max a.dp b.dp) (XT e b wf.2) (by omega);have:=two [32,105,110,32] (bT a) (bT b) (by decide);simp only [Fc.dp];show nu (bT a++([32,105,110,32]++bT b))+1<=_;omega
 | gy a b=>have g:=d _ _ (max a.dp b.dp) (XT e a wf.1) (by omega);have h:=d _ _ (max a.dp b.dp) (XT e b wf.2) (by omega);have:=two [32,61,32] (bT a) (bT b) (by decide);simp only [Fc.dp];show nu (bT a++([32,61,32]++bT b))+1<=_;omega
 | eY a=>
  have g:=XT e a wf;have:=qg (qj++ [32]) (bT a);have j:nu (qj++ [32])<=1:=by decide
  simp only [Fc.dp];show nu ((qj++ [32])++bT a)+1<=_;omega
 | aj a=>
  have g:=XT e a wf;have:=qg (WR++ [32]) (bT a);have j:nu (WR++ [32])<=1:=by decide
  simp only [fT,Fc.dp];show nu ((WR++ [32])++bT a)+1<=_;omega
 | cnt s k a=>
  have g:=XT e a wf.2
  have m:0<2 ^ a.dp:=Nat.pow_pos (by decide)
  have h:=F3 k wf.1.2
  have j:nu (wd s)<=2:=by
   have i:=wf.1.1
   simp only [Aa5,Ab0,or_false]at i
   rcases i with rfl | rfl | rfl | rfl<;>decide
  have l:nu [32]=0:=by decide
  have n:=qg (wd s) ([32]++(bg k++([32]++bT a)))
  have a2:=qg [32] (bg k++([32]++bT a))
  have a3:=qg (bg k) ([32]++bT a)
  have a4:=qg [32] (bT a)
  simp only [fT,Fc.dp]
  show nu (wd s++([32]++(bg k++([32]++bT a))))+1<=_
  omega
def E9 (l: ∀t∈N,qs t): ∀s:Sy,s.wf N->nu (sT s)+1<=5*2 ^ s.dp:=by
 have d: ∀a b c:Nat,a+1<=5*2 ^ b->b<=c->a+1<=5*2 ^ c:=λa b c g e=>Ab8 g (Ag2 _ (Af1 (by decide) e))
 have two: ∀ w x y s t,nu w<=1->nu (br x 91 93 s++(w++br y 91 93 t))<=nu s+nu t+1:=λw x y s t p=>by
  have g:=qg (br x 91 93 s) (w++br y 91 93 t)
  have e:=qg w (br y 91 93 t)
  have m:=Z7 (c:=x) (o:=91) (k:=93) (t:=s) (by decide) (by decide)
  have n:=Z7 (c:=y) (o:=91) (k:=93) (t:=t) (by decide) (by decide)
  omega
 intro s
 induction s with
 | fact f=>exact yb l f
 | neg a j=>
  intro wf
  have:=j wf
  have g:=qg e7 (br (u9 (bw a<2)) 91 93 (sT a))
  have e:=Z7 (c:=u9 (bw a<2)) (o:=91) (k:=93) (t:=sT a) (by decide) (by decide)
  have m:nu e7<=1:=by decide
  simp only [sT,Sy.dp,Ad3]
  show nu (e7++br (u9 (bw a<2)) 91 93 (sT a))+1<=_
  omega
 | cV a b h i=>
  intro wf
  have g:=d _ _ (max a.dp b.dp) (h wf.1) (by omega);have e:=d _ _ (max a.dp b.dp) (i wf.2) (by omega)
  have:=two (32::(js++ [32])) (u9 (bw a<1)) (u9 (bw b<2)) (sT a) (sT b) (by decide)
  simp only [sT,Sy.dp,Ad3]
  show nu (br _ 91 93 (sT a)++((32::(js++ [32]))++br _ 91 93 (sT b)))+1<=_
  omega
 | cW a b h i=>
  intro wf
  have g:=d _ _ (max a.dp b.dp) (h wf.1) (by omega);have e:=d _ _ (max a.dp b.dp) (i wf.2) (by omega)
  have:=two (32::(jV++ [32])) (u9 (bw a<0)) (u9 (bw b<1)) (sT a) (sT b) (by decide)
  simp only [sT,Sy.dp,Ad3]
  show nu (br _ 91 93 (sT a)++((32::(jV++ [32]))++br _ 91 93 (sT b)))+1<=_
  omega
noncomputable abbrev g8:List Tx:= [[40],[41],[91],[93],[126],[94],[46],[38],[43],[45],[61],[32],e7,[32,97,110,100,32],[32,111,114,32],[101,97,99,104,32],gq,[48]]
noncomputable abbrev iJ:List Tx:= [[49,50],[48,48,55],[97],[113],fH,ip,fP,lB,[65],[95],[10],[9],[48,48],[108,101,97,115,116,32,50,32]]
def Du: ∀x∈g8++iJ,x.length<=8/\nu x<=2:=by decide
def AF (t):nu (t.drop 1)<=nu t+1:=by
 cases t with
 | nil=>exact Af9 _
 | cons c t=>
  have h:=p6 (aM c) t
  show nu t<=dS Qc c+nk (aM c) t+1
  omega
def vc (t x) (p j) (b:j<=1):nu (t.take p++x++t.drop (p+j))<=nu t+nu x+2:=by
 have e:=qg (t.take p++x) (t.drop (p+j))
 have d:=qg (t.take p) x
 have a:=EZ (t.take p) (t.drop p)
 rw [Ak6]at a
 have c:nu (t.drop (p+j))<=nu (t.drop p)+1:=by
  match j,b with
  | 0,_=>exact Af3 _
  | 1,_=>rw [← List.drop_drop];exact AF _
 omega
def yT (k r) (t) (S:t.length<=80000)(P:PH h) (F:r<h.length): ∃t' h',t'.length<=t.length+8/\nu t'<=nu t+4/\PH h'/\h'.length=h.length/\call prog (k+2) "_law_changed" [.v (.str t),.v (.ref r)] h= .ok (.v (.str t')) h':=by
 obtain⟨s,b,n,Q,T,f⟩:=Ze k P F (show 0<3 by decide) (by decide)
 have f:call prog (k+1) "_law_next" [.v (.ref r),.v (.int 3)] h= .ok (.v (.int (s:Int))) b:=f
 obtain⟨p,l,Y,M,X,E⟩:=Ze k Q (show r<b.length by omega) (show 0<t.length+1 by omega) (by omega)
 obtain⟨c,a,B,v,Z,g⟩:=Ze k M (show r<l.length by omega) (show 0<32 by decide) (by decide)
 have g:call prog (k+1) "_law_next" [.v (.ref r),.v (.int 32)] l= .ok (.v (.int (c:Int))) a:=g
 have e:c<(g8++iJ).length:=B
 obtain⟨x,o⟩: ∃x,(g8++iJ)[c]? =y0 x:=⟨_,Aa7 e⟩
 have m:=Du x (Ai6 o)
 obtain⟨G,q⟩: ∃G,G=(g8++iJ).map D.str:=⟨_,rfl⟩
 have i:cR (.v (.lst G)) (.v (.int (c:Int))) a=y0 (.str x):=by
  rw [q,zG,zk _ _ (by rw [Ac];exact e),Ad1,o];rfl
 obtain⟨y,O,V,U⟩: ∃y,aQ [D.str x,.str x,.str []] (s:Int)=y0 (.str y)/\y.length<=8/\nu y<=2:=by
  match s,n with
  | 0,_=>exact⟨x,rfl,m⟩
  | 1,_=>exact⟨x,rfl,m⟩
  | 2,_=>exact⟨[],rfl,by decide,by decide⟩
  | s+3,h=>exact absurd h (by omega)
 obtain⟨j,H,J⟩: ∃j:Nat,aQ [D.int 0,.int 1,.int 1] (s:Int)=y0 (.int (j:Int))/\j<=1:=by
  match s,n with
  | 0,_=>exact⟨0,rfl,by decide⟩
  | 1,_=>exact⟨1,rfl,by decide⟩
  | 2,_=>exact⟨1,rfl,by decide⟩
  | s+3,h=>exact absurd h (by omega)
 refine⟨t.take p++y++t.drop (p+j),a,by simp;omega,by have:=vc t y p j J;omega,v,by omega,?_⟩
 rw [Gb (d:=jo) rfl _ _ _ rfl]
 simp only [jo]
 show Gu _ (execs _ _ [y0 (.v (.str t)),y0 (.v (.ref r)),u0,u0,u0,u0] h)=_
 rw [za (Z1:= [y0 (.v (.str t)),y0 (.v (.ref r)),y0 (.v (.lst (g8.map .str))),u0,u0,u0]) (h1:=h) rfl]
 rw [za (Z1:= [y0 (.v (.str t)),y0 (.v (.ref r)),y0 (.v (.lst G)),u0,u0,u0]) (h1:=h) (by
  have z:GC .add (.v (.lst (g8.map D.str))) (.own (iJ.map D.str)) h= .ok (.own G) h:=by
   rw [q,mS,if_pos (by rw [Gc];decide),Ae0]
  rw [exec,eval]
  show(((R.ok (.v (.lst (g8.map D.str))) h).bind λx h=>((R.ok (.own (iJ.map D.str)) h:R W).bind λy h=>GC .add x y h)).c7 λw h=>_)=_
  simp only [R.aa,z]
  rfl)]
 rw [za (Z1:= [y0 (.v (.str t)),y0 (.v (.ref r)),y0 (.v (.lst G)),y0 (.v (.int (s:Int))),u0,u0]) (h1:=b) (by simp_all [f])]
 have u:c5 .len [.v (.str t)] b= .ok (.v (.int (t.length:Int))) b:=by rw [len_str,if_pos (by rw [Gc];omega)]
 have C:GC .add (.v (.int (t.length:Int))) (.v (.int 1)) b= .ok (.v (.int ((t.length+1:Nat):Int))) b:=rfl
 rw [za (Z1:= [y0 (.v (.str t)),y0 (.v (.ref r)),y0 (.v (.lst G)),y0 (.v (.int (s:Int))),y0 (.v (.int (p:Int))),u0]) (h1:=l) (by simp_all [u,C,E])]
 rw [za (Z1:= [y0 (.v (.str t)),y0 (.v (.ref r)),y0 (.v (.lst G)),y0 (.v (.int (s:Int))),y0 (.v (.int (p:Int))),y0 (.v (.str x))]) (h1:=a) (by simp_all [g,i])]
 have N:dW (.v (.str t)) u0 (y0 (p:Int)) a= .ok (.v (.str (t.take p))) a:=by rw [Qt _ _ _ _ (by rw [Gc];omega),wG]
 have L:dW (.v (.str t)) (y0 ((p+j:Nat):Int)) u0 a= .ok (.v (.str (t.drop (p+j)))) a:=by rw [Qt _ _ _ _ (by rw [Gc];omega),X0]
 have A:Gi .add (p:Int) (j:Int)=y0 ((p+j:Nat):Int):=rfl
 have K:GC .add (.v (.str (t.take p))) (.v (.str y)) a= .ok (.v (.str (t.take p++y))) a:=by rw [Qd,if_pos (by rw [Gc];simp;omega)]
 have I:GC .add (.v (.str (t.take p++y))) (.v (.str (t.drop (p+j)))) a= .ok (.v (.str (t.take p++y++t.drop (p+j)))) a:=by rw [Qd,if_pos (by rw [Gc];simp;omega)]
 rw [ja (w:= .v (.str (t.take p++y++t.drop (p+j)))) (h1:=a) (jc rfl (by simp_all [N,L,Jh,O,H,A,K,I,aH])),Ga _ _ _ (by omega)]
noncomputable abbrev dC (t:Tx) (r q:Nat) (x3 x4 x5:Option W):Sl:= [y0 (.v (.str t)),y0 (.v (.ref r)),y0 (.v (.int (q:Int))),x3,x4,x5]
def JV (a t b) (f:nu a<=1) (d:nu b=0):nu (a++t++b)<=nu t+1:=by
 have c:=qg (a++t) b
 have e:=qg a t
 omega
def Cm (k r q) (A:q<3) (t) (z:t.length<=80000)(P:PH h) (x:r<h.length) (x3 x4 x5:Option W): ∃t' h' J,t'.length<=t.length+5/\nu t'<=nu t+1/\PH h'/\h'.length=h.length/\execs (k8 (k+1)) xi (dC t r q x3 x4 x5) h= .next (dC t' r q x3 x4 J) h':=by
 obtain⟨s,c,m,o,i,g⟩:=Ze k P x (show 0<2 by decide) (by decide)
 have g:call prog (k+1) "_law_next" [.v (.ref r),.v (.int 2)] h= .ok (.v (.int (s:Int))) c:=g
 have d: ∀a b:Tx,a.length<=90000->b.length<=90000->GC .add (.v (.str a)) (.v (.str b)) c= .ok (.v (.str (a++b))) c:=λa b e v=>by rw [Qd,if_pos (by rw [Gc];omega)]
 have y: ∀l,execs (k8 (k+1)) (.cons (.ae 5 (.call "_law_next" (.b .v1 (.int 2)))) l) (dC t r q x3 x4 x5) h=execs (k8 (k+1)) l (dC t r q x3 x4 (some (.v (.int (s:Int))))) c:=fun l=>za (by simp_all [g])
 unfold xi
 rw [y]
 have j:Gs .eq (.v (.int (q:Int))) (.v (.int 0)) c=y0 (u9 (q=0)):=Xb q 0 c
 have p:Gs .eq (.v (.int (q:Int))) (.v (.int 1)) c=y0 (u9 (q=1)):=Xb q 1 c
 by_cases n:q=0
 ·obtain⟨a,b,e,v,w,B,f,nb⟩: ∃a b:Tx,aQ [D.str e7,.str [91]] (s:Int)=y0 (.str a)/\aQ [D.str [],.str [93]] (s:Int)=y0 (.str b)/\a.length<=4/\b.length<=1/\nu a<=1/\nu b=0:=by
   match s,m with
   | 0,_=>exact⟨_,_,rfl,rfl,by decide,by decide,by decide,by decide⟩
   | 1,_=>exact⟨_,_,rfl,rfl,by decide,by decide,by decide,by decide⟩
   | s+2,h=>exact absurd h (by omega)
  refine⟨a++t++b,c,y0 (.v (.int (s:Int))),by simp;omega,JV a t b f nb,o,i,?_⟩
  rw [za (Z1:=dC (a++t++b) r q x3 x4 (y0 (.v (.int (s:Int))))) (h1:=c)]
  ·rfl
  ·rw [zg (h1:=c) (by simp_all [j,decide_eq_true n])]
   rw [za (Z1:=dC (a++t++b) r q x3 x4 (y0 (.v (.int (s:Int))))) (h1:=c) (by simp_all [Jh,e,v,d a t (by omega) (by omega),d (a++t) b (by simp;omega) (by omega)])]
   rfl
 ·by_cases u:q=1
  ·obtain⟨a,e,f⟩: ∃a:Nat,cR (.v (.str fm)) (.v (.int (s:Int))) c=y0 (.str [a])/\nu [a]<=1:=by
    match s,m with
    | 0,_=>exact⟨126,by rw [Jx,if_pos (by rw [Gc];decide)];rfl,by decide⟩
    | 1,_=>exact⟨94,by rw [Jx,if_pos (by rw [Gc];decide)];rfl,by decide⟩
    | s+2,h=>exact absurd h (by omega)
   refine⟨[a]++t++ [],c,y0 (.v (.int (s:Int))),by simp,JV [a] t [] f (by decide),o,i,?_⟩
   rw [Ad0]
   rw [za (Z1:=dC ([a]++t) r q x3 x4 (y0 (.v (.int (s:Int))))) (h1:=c)]
   ·rfl
   ·rw [Zm (h1:=c) (by simp_all [j,decide_eq_false n]),za (Z1:=dC ([a]++t) r q x3 x4 (y0 (.v (.int (s:Int))))) (h1:=c)]
    ·rfl
    ·rw [zg (h1:=c) (by simp_all [p,decide_eq_true u])]
     rw [za (Z1:=dC ([a]++t) r q x3 x4 (y0 (.v (.int (s:Int))))) (h1:=c) (by simp_all [e,d [a] t (by simp) (by omega)])]
     rfl
  ·obtain⟨a,e,w,f⟩: ∃a:Tx,aQ [D.str [126,40],.str [40]] (s:Int)=y0 (.str a)/\a.length<=2/\nu a<=1:=by
    match s,m with
    | 0,_=>exact⟨_,rfl,by decide,by decide⟩
    | 1,_=>exact⟨_,rfl,by decide,by decide⟩
    | s+2,h=>exact absurd h (by omega)
   refine⟨a++t++ [41],c,y0 (.v (.int (s:Int))),by simp;omega,JV a t [41] f (by decide),o,i,?_⟩
   rw [za (Z1:=dC (a++t++ [41]) r q x3 x4 (y0 (.v (.int (s:Int))))) (h1:=c)]
   ·rfl
   ·rw [Zm (h1:=c) (by simp_all [j,decide_eq_false n]),za (Z1:=dC (a++t++ [41]) r q x3 x4 (y0 (.v (.int (s:Int))))) (h1:=c)]
    ·rfl
    ·rw [Zm (h1:=c) (by simp_all [p,decide_eq_false u])]
     rw [za (Z1:=dC (a++t++ [41]) r q x3 x4 (y0 (.v (.int (s:Int))))) (h1:=c) (by simp_all [Jh,e,d a t (by omega) (by omega),d (a++t) [41] (by simp;omega) (by simp)])]
     rfl
theorem oa (k r q) (a:q<3) (x3): ∀ ds t h x4 x5,t.length+5*ds.length<=80000->PH h->r<h.length-> ∃t' h' j i,t'.length<=t.length+5*ds.length/\nu t'<=nu t+ds.length/\PH h'/\h'.length=h.length/\GB (Gz [4] k9) (λZ h=>execs (k8 (k+1)) xi Z h) ds (dC t r q x3 x4 x5) h= .next (dC t' r q x3 j i) h'
 | [],t,h,x4,x5,_,P,_=>⟨t,h,x4,x5,Aa6 _,Aa6 _,P,rfl,rfl⟩
 | d::ds,t,h,x4,x5,c,P,l=>by
  rw [Aa2]at c
  obtain⟨n,u,i,w,a2,s,v,b⟩:=Cm k r q a t (by omega) P l x3 (y0 (.v d)) x5
  obtain⟨f,o,e,m,z,y,p,x,g⟩:=oa k r q a x3 ds n u (y0 (.v d)) i (by omega) s (by omega)
  refine⟨f,o,e,m,by rw [Aa2];omega,by rw [Aa2];omega,p,by omega,?_⟩
  rw [Jj rfl b]
  exact g
def vd (k r q:Nat) (p:q<3) (t) (B:t.length<=70000)(P:PH h) (x:r<h.length): ∃t' h',t'.length<=t.length+120/\nu t'<=nu t+23/\PH h'/\h'.length=h.length/\call prog (k+2) "_law_nested" [.v (.str t),.v (.ref r),.v (.int (q:Int))] h= .ok (.v (.str t')) h':=by
 obtain⟨n,a,A,y,C,e⟩:=Ze k P x (show 0<8 by decide) (by decide)
 have e:call prog (k+1) "_law_next" [.v (.ref r),.v (.int 8)] h= .ok (.v (.int (n:Int))) a:=e
 have u:GC .add (.v (.int 15)) (.v (.int (n:Int))) a= .ok (.v (.int ((15+n:Nat):Int))) a:=by
  show R.ok (W.v (D.int (15+(n:Int)))) a=_
  rw [show (15+(n:Int))=((15+n:Nat):Int)by omega]
 obtain⟨c,b,m,o,s,a2,l,E,v⟩:=oa k r q p (y0 (.v (.int ((15+n:Nat):Int)))) ((Ab7 (15+n)).map λ(i:Nat)=>D.int (i:Int)) t a u0 u0 (by simp;omega) y (by omega)
 rw [Ac,List.length_range]at s a2
 rw [Gb (d:=Zp) rfl _ _ _ rfl]
 simp only [Zp]
 show ∃t' h',_/\_/\_/\_/\Gu _ (execs _ _ (dC t r q u0 u0 u0) h)=_
 rw [za (Z1:=dC t r q (y0 (.v (.int ((15+n:Nat):Int)))) u0 u0) (h1:=a) (by simp_all [e,u])]
 have z:GD (k8 (k+1)) (.aJ .v3) (dC t r q (y0 (.v (.int ((15+n:Nat):Int)))) u0 u0) a= .ok ((Ab7 (15+n)).map λ(i:Nat)=>D.int (i:Int)) a:=by
  show Gr _ _ _ _=_
  rw [Gr]
  simp only [eval,Gn,Gk,R.aa,int?_int,R.ag]
  rw [if_pos (by rw [GI];omega),Ad7]
 rw [za (Z1:=dC c r q (y0 (.v (.int ((15+n:Nat):Int)))) m o) (h1:=b) (by rw [exec,z];exact v)]
 have g:Gs .eq (.v (.int (q:Int))) (.v (.int 0)) b=y0 (u9 (q=0)):=Xb q 0 b
 by_cases j:q=0
 ·refine⟨c,b,by omega,by omega,l,by omega,?_⟩
  rw [ja (w:= .v (.str c)) (h1:=b),Ga _ _ _ (by omega)]
  rw [zg (h1:=b) (by simp_all [g,decide_eq_true j])]
  exact ja rfl
 ·refine⟨gq++c,b,by simp;omega,?_,l,by omega,?_⟩
  ·have:=qg gq c
   have:nu gq<=1:=by decide
   omega
  ·have f:GC .add (.v (.str gq)) (.v (.str c)) b= .ok (.v (.str (gq++c))) b:=by rw [Qd,if_pos (by rw [Gc];simp;omega)]
   rw [qa (by simp_all [g,decide_eq_false j]),ja (w:= .v (.str (gq++c))) (h1:=b) (jc rfl (by simp_all [f])),Ga _ _ _ (by omega)]
noncomputable abbrev de (K L:List Tx) (r u:Nat) (x3 x4 x5 x6:Option W):Sl:= [y0 (.v (wD K L)),y0 (.v (.ref r)),y0 (.v (.ref u)),x3,x4,x5,x6]
theorem oi (k r u) (K L) (x3 x5): ∀ ds t h x6,t.length+8*ds.length<=80000->PH h->u<h.length-> ∃t' h' q,t'.length<=t.length+8*ds.length/\nu t'<=nu t+4*ds.length/\PH h'/\h'.length=h.length/\GB (Gz [6] k9) (λZ h=>execs (k8 (k+2)) Xg Z h) ds (de K L r u x3 (y0 (.v (.str t))) x5 x6) h= .next (de K L r u x3 (y0 (.v (.str t'))) x5 q) h'
 | [],t,h,x6,_,P,_=>⟨t,h,x6,Aa6 _,Aa6 _,P,rfl,rfl⟩
 | d::ds,t,h,x6,e,P,i=>by
  rw [Aa2]at e
  obtain⟨b,a,p,a2,m,o,c⟩:=yT k u t (by omega) P i
  obtain⟨f,j,n,w,v,l,s,g⟩:=oi k r u K L x3 x5 ds b a (y0 (.v d)) (by omega) m (by omega)
  refine⟨f,j,n,by rw [Aa2];omega,by rw [Aa2];omega,l,by omega,?_⟩
  rw [Jj (Z1:=de K L r u x3 (y0 (.v (.str t))) x5 (y0 (.v d))) rfl (by
   unfold Xg
   rw [za (Z1:=de K L r u x3 (y0 (.v (.str b))) x5 (y0 (.v d))) (h1:=a) (by simp_all [c])]
   rfl)]
  exact g
def Av (d: ∀t∈N,qs t) (e) (wf:e.wf N) (c:e.dp=0): ∃t,t.length<=8/\nu t<=1/\ ∀h,cR (.v (ay e)) (.v (.int (-1))) h=y0 (.str t):=by
 cases e with
 | name t=>exact⟨t,(d t wf).hi,pz (d t wf),λ_=>rfl⟩
 | same=>exact⟨Qh,by decide,by decide,λ_=>rfl⟩
 | all=>exact⟨Xo,by decide,by decide,λ_=>rfl⟩
 | none=>exact⟨wh,by decide,by decide,λ_=>rfl⟩
 | turned a=>simp only [Ex.dp]at c;omega
 | closed a=>simp only [Ex.dp]at c;omega
 | plus a b=>simp only [Ex.dp]at c;omega
 | less a b=>simp only [Ex.dp]at c;omega
 | both a b=>simp only [Ex.dp]at c;omega
 | joined a b=>simp only [Ex.dp]at c;omega
abbrev mW:Ss:= .cons (.ae 5 (.call "_law_next" (.b .v2 (.int 3)))) (.cons (.iff (.cmp .gt .v5 (.int 0)) (.a (.ae 4 (.ix (.call "_law_leaf" (.b .v2 .v3)) (.neg (.int 1))))) .nil) (.a (.ae 4 (.call "_law_nested" (.c .v4 .v2 .v5)))))
def Bo (k r u) (K L) (w:(K++L).length<=100) (x: ∀t∈K++L,qs t) (t) (H:t.length<=60000)(P:PH h) (B:u<h.length): ∃t' h' i,t'.length<=t.length+128/\nu t'<=nu t+24/\PH h'/\h'.length=h.length/\execs (k8 (k+2)) mW (de K L r u (y0 (.v (aL (K++L)))) (y0 (.v (.str t))) u0 u0) h= .next (de K L r u (y0 (.v (aL (K++L)))) (y0 (.v (.str t'))) i u0) h':=by
 obtain⟨q,a,y,o,I,g⟩:=Ze (k+1) P B (show 0<3 by decide) (by decide)
 have g:call prog (k+2) "_law_next" [.v (.ref u),.v (.int 3)] h= .ok (.v (.int (q:Int))) a:=g
 have D: ∀j,execs (k8 (k+2)) (.cons (.ae 5 (.call "_law_next" (.b .v2 (.int 3)))) j) (de K L r u (some (.v (aL (K++L)))) (some (.v (.str t))) none none) h=execs (k8 (k+2)) j (de K L r u (some (.v (aL (K++L)))) (some (.v (.str t))) (some (.v (.int (q:Int)))) none) a:=fun j=>za (by simp_all [g])
 have fin: ∀(s:Tx) (h:AH),s.length<=t.length+8->nu s<=nu t+1->PH h->h.length=a.length-> ∃t' h' i,t'.length<=t.length+128/\nu t'<=nu t+24/\PH h'/\h'.length=a.length/\execs (k8 (k+2)) (.a (.ae 4 (.call "_law_nested" (.c .v4 .v2 .v5)))) (de K L r u (some (.v (aL (K++L)))) (some (.v (.str s))) (some (.v (.int (q:Int)))) none) h= .next (de K L r u (some (.v (aL (K++L)))) (some (.v (.str t'))) i none) h':=fun s h G p P l=>by
  obtain⟨t',h',f,a2,d,n,b⟩:=vd k u q y s (by omega) P (by omega)
  refine⟨t',h',y0 (.v (.int (q:Int))),by omega,by omega,d,by omega,?_⟩
  rw [za (Z1:=de K L r u (y0 (.v (aL (K++L)))) (y0 (.v (.str t'))) (y0 (.v (.int (q:Int)))) u0) (h1:=h') (by simp_all [b])]
  rfl
 have z:Gs .gt (.v (.int (q:Int))) (.v (.int 0)) a=y0 (u9 (0<q)):=by
  rw [WM];congr 1;rw [decide_eq_decide];omega
 unfold mW
 rw [D]
 by_cases c:0<q
 ·obtain⟨e,m,F,v,E,C,A⟩:=my k u (K++L) w o (by omega)
  obtain⟨s,G,p,ix⟩:=Av x e F v
  obtain⟨t',h',i,f,a2,d,n,b⟩:=fin s m (by omega) (by omega) E C
  refine⟨t',h',i,f,a2,d,by omega,?_⟩
  rw [za (Z1:=de K L r u (y0 (.v (aL (K++L)))) (y0 (.v (.str s))) (y0 (.v (.int (q:Int)))) u0) (h1:=m)]
  ·exact b
  ·rw [zg (h1:=a) (by simp_all [z,decide_eq_true c])]
   rw [za (Z1:=de K L r u (y0 (.v (aL (K++L)))) (y0 (.v (.str s))) (y0 (.v (.int (q:Int)))) u0) (h1:=m) (by simp_all [A,vf,ix])]
   rfl
 ·obtain⟨t',h',i,f,a2,d,n,b⟩:=fin t a (by omega) (by omega) o rfl
  refine⟨t',h',i,f,a2,d,by omega,?_⟩
  rw [qa (by simp_all [z,decide_eq_false c])]
  exact b
def DT (k r u) (K L) (p:(K++L).length<=100) (q: ∀t∈K++L,qs t)(P:PH h) (T:r<h.length) (hu:u<h.length): ∃t h',t.length<=90000/\nu t<=200/\PH h'/\h'.length=h.length/\call prog (k+13) "_law_drawn_text" [.v (wD K L),.v (.ref r),.v (.ref u)] h= .ok (.v (.str t)) h':=by
 obtain⟨d,f,hd,P1,l1,o⟩:=Ze (k+11) P T (show 0<3 by decide) (by decide)
 have o:call prog (k+12) "_law_next" [.v (.ref r),.v (.int 3)] h= .ok (.v (.int (d:Int))) f:=o
 obtain⟨s,a,A,ds,P2,l2,G⟩:=xI r (K++L) p d (k+4-d) f P1 (by omega)
 rw [show k+4-d+d+8=k+12 by omega]at G
 have X: ∀t∈K++L,t.length<=8:=λt W=>(q t W).hi
 have p5:(2:Nat) ^ s.dp<=32:=Ab8 (Af1 (by decide) (show s.dp<=5 by omega)) (by decide)
 have sl:=A6 X s A
 have sn:=E9 q s A
 have l:=Co a s A (by omega) (k+11) (by omega) 0
 rw [show br (u9 (bw s<0)) 91 93 (sT s)=sT s by simp [br]]at l
 have l:call prog (k+12) "_law_saying_text" [.v (bS s),.v (.int 0)] a= .ok (.v (.str (sT s))) a:=l
 obtain⟨v,e,hv,E,l3,C⟩:=Ze (k+11) P2 (show u<a.length by omega) (show 0<6 by decide) (by decide)
 have C:call prog (k+12) "_law_next" [.v (.ref u),.v (.int 6)] a= .ok (.v (.int (v:Int))) e:=C
 have U:Gs .eq (.v (.int (v:Int))) (.v (.int 3)) e=y0 (u9 (v=3)):=Xb v 3 e
 have j:Gf (k8 (k+12)) (.cmp .eq (.call "_law_next" (.b .v2 (.int 6))) (.int 3)) (de K L r u (some (.v (aL (K++L)))) (some (.v (.str (sT s)))) none none) a= .ok (decide (v=3)) e:=by
  simp_all [C,U]
 obtain⟨H,m,b,F,a2,Q,l4,Z⟩: ∃g h' b,g.length<=(sT s).length+128/\nu g<=nu (sT s)+24/\PH h'/\h'.length=e.length/\exec (k8 (k+12)) (.iff (.cmp .eq (.call "_law_next" (.b .v2 (.int 6))) (.int 3)) mW .nil) (de K L r u (some (.v (aL (K++L)))) (some (.v (.str (sT s)))) none none) a= .next (de K L r u (some (.v (aL (K++L)))) (some (.v (.str g))) b none) h':=by
  by_cases c:v=3
  ·rw [decide_eq_true c]at j
   obtain⟨g,h',b,F,a2,Y,l',N⟩:=Bo (k+10) r u K L p q (sT s) (by omega) E (by omega)
   refine⟨g,h',b,F,a2,Y,l',?_⟩
   rw [zg j]
   exact N
  ·rw [decide_eq_false c]at j
   refine⟨sT s,e,u0,by omega,by omega,E,rfl,?_⟩
   rw [Zm j]
   rfl
 obtain⟨n,z,hn,I,l5,x⟩:=Ze (k+11) Q (show u<m.length by omega) (show 0<4 by decide) (by decide)
 have x:call prog (k+12) "_law_next" [.v (.ref u),.v (.int 4)] m= .ok (.v (.int (n:Int))) z:=x
 obtain⟨B,y,y6,b1,V,M,l6,S⟩:=oi (k+10) r u K L (y0 (.v (aL (K++L)))) b ((Ab7 n).map λ(i:Nat)=>D.int (i:Int)) H z u0 (by simp;omega) I (by omega)
 rw [Ac,List.length_range]at b1 V
 refine⟨B,y,by omega,by omega,M,by omega,?_⟩
 rw [Gb (d:=Xi) rfl _ _ _ rfl]
 simp only [Xi]
 show Gu _ (execs _ _ (de K L r u u0 u0 u0 u0) h)=_
 have O:cR (.v (wD K L)) (.v (.int 0)) h=y0 (aL K):=rfl
 have J:cR (.v (wD K L)) (.v (.int 1)) h=y0 (aL L):=rfl
 have R:GC .add (.v (aL K)) (.v (aL L)) h= .ok (.v (aL (K++L))) h:=by
  show GC .add (.v (.tup (K.map .str))) (.v (.tup (L.map .str))) h=_
  rw [xL,if_pos (by rw [Gc];simp at p ⊢;omega),←Ae0]
 rw [za (Z1:=de K L r u (y0 (.v (aL (K++L)))) u0 u0 u0) (h1:=h) (by simp_all [O,J,R])]
 rw [za (Z1:=de K L r u (y0 (.v (aL (K++L)))) (y0 (.v (.str (sT s)))) u0 u0) (h1:=a) (by simp_all [o,G,l])]
 rw [za Z]
 have it:GD (k8 (k+12)) (.aJ (.call "_law_next" (.b .v2 (.int 4)))) (de K L r u (some (.v (aL (K++L)))) (some (.v (.str H))) b none) m= .ok ((List.range n).map fun(i:Nat)=>D.int (i:Int)) z:=by
  show Gr _ _ _ _=_
  rw [Gr]
  simp_all [x]
  rw [if_pos (by rw [GI];omega),Ad7]
 rw [za (Z1:=de K L r u (y0 (.v (aL (K++L)))) (y0 (.v (.str B))) b y6) (h1:=y) (by rw [exec,it];exact S)]
 rw [ja (w:= .v (.str B)) (h1:=y) rfl,Ga _ _ _ (by omega)]
abbrev l6 (a:List Int) (K L:List Tx) (x2 x3 x4 x5 x6:Option W):Sl:= [y0 (bC a),y0 (.v (wD K L)),x2,x3,x4,x5,x6,u0]
def sX (g:Gd n d) (b) (F) (i) (Z) (h) (e:Gn Z i=y0 (.v d)):eval F (.b9 b (.var i)) Z h= .ok (.v (.bl b)) h:=by
 cases g<;>cases b<;>simp only [eval,e,R.aa]
def AS (x:ns.length<=63)(nm:Nm (K++L)) (w:(K++L).length<=100){j:Nat}{x3 x4 x5 x6:Option W}{h:AH}(P:PH h): ∃O J M V h',PH h'/\execs (k8 219) wI (l6 ns K L (y0 (.v (.int (j:Int)))) x3 x4 x5 x6) h= .next (l6 ns K L (y0 (.v (.int (j:Int)))) O J M V) h':=by
 obtain⟨p,m,l,A⟩:=jv 217 ns x j h
 have z:=Xj (F:=(k8 219)) (f:= "_law_purse") (es:= .cons .v0 (.a .v2)) (Z:=l6 ns K L (some (.v (.int (j:Int)))) x3 x4 x5 x6) (h:=h) (ws:= [bC ns,.v (.int (j:Int))]) (xs:= [D.int p,D.int m,D.int l]) (by simp_all []<;>rfl) A rfl
 obtain⟨b,c⟩: ∃b,b=h++ [Cell.lst [D.int p,D.int m,D.int l]]:=⟨_,rfl⟩
 have U:PH b:=c▸P.app p m l
 have Y:b.length=h.length+1:=by rw [c];simp
 rw [← c]at z
 obtain⟨a2,q,u,N⟩:=jv 217 ns x (j+1) b
 have B:Gi .add (j:Int) 1=y0 ((j+1:Nat):Int):=by rw [xb];rfl
 have y:=Xj (F:=(k8 219)) (f:= "_law_purse") (es:= .cons .v0 (.a (.bin .add .v2 (.int 1)))) (Z:=l6 ns K L (some (.v (.int (j:Int)))) x3 x4 x5 x6) (h:=b) (ws:= [bC ns,.v (.int ((j+1:Nat):Int))]) (xs:= [D.int a2,D.int q,D.int u]) (by simp_all [B]<;>rfl) N rfl
 obtain⟨k,e⟩: ∃k,k=b++ [Cell.lst [D.int a2,D.int q,D.int u]]:=⟨_,rfl⟩
 have T:PH k:=e▸U.app a2 q u
 have n2:k.length=b.length+1:=by rw [e];simp
 rw [← e]at y
 obtain⟨t,a,lt,nt,v,l3,G⟩:=DT 206 h.length b.length K L w nm.good T (by omega) (by omega)
 have H:eval (k8 219) (.call "_law_drawn_text" (.cons .v1 (.cons (.share (.call "_law_purse" (.b .v0 .v2))) (.cons (.share (.call "_law_purse" (.b .v0 (.bin .add .v2 (.int 1))))) .nil)))) (l6 ns K L (some (.v (.int (j:Int)))) x3 x4 x5 x6) h= .ok (.v (.str t)) a:=by
  rw [eval,Gj,show eval (k8 219) .v1 (l6 ns K L (y0 (.v (.int (j:Int)))) x3 x4 x5 x6) h= .ok (.v (wD K L)) h from rfl,R.aa,Gj,z,R.aa,Gj,y,R.aa,Gj]
  exact G
 obtain⟨r,Q,E,C⟩:=B1 K L w (Dw nm.good) t lt
 have S:call prog 219 "_law_read" [.v (wD K L),.v (.str t)] a= .ok (.v (r.getD .aj)) a:=C 106 a
 have g:=E 124 a
 unfold wI
 rw [za (Z1:=l6 ns K L (y0 (.v (.int (j:Int)))) (y0 (.v (.str t))) x4 x5 x6) (h1:=a) (by rw [exec,H];rfl)]
 rw [za (Z1:=l6 ns K L (y0 (.v (.int (j:Int)))) (y0 (.v (.str t))) (y0 (.v (r.getD .aj))) x5 x6) (h1:=a) (by simp_all [S])]
 cases r with
 | none=>
  obtain⟨h',g⟩:=g
  have o:call prog 219 "_law_told" [.v (wD K L),.v (.str t)] a= .ok (.v (.tup [.aj,bf])) a:=JY g
  refine⟨y0 (.v (.str t)),y0 (.v .aj),y0 (.v .aj),y0 (.v bf),a,v,?_⟩
  rw [za (Z1:=l6 ns K L (y0 (.v (.int (j:Int)))) (y0 (.v (.str t))) (y0 (.v .aj)) (y0 (.v .aj)) (y0 (.v bf))) (h1:=a) (by simp_all [o]<;>rfl)]
  have i:call prog 219 "_law_only" [.v bf,.v (.int 0)] a= .ok (.v (.bl true)) a:=tQ 218 a
  rw [qa (by simp_all [i]<;>rfl),qa (by simp_all []<;>rfl)]
  rfl
 | some d=>
  have g:call prog 218 "read_saying" [.v (wD K L),.v (.str t)] a= .ok (.v d) a:=g
  have o:call prog 219 "_law_told" [.v (wD K L),.v (.str t)] a= .ok (.v (.tup [d,.aj])) a:=vR g
  obtain⟨n,s,X⟩:=Q d rfl
  refine⟨y0 (.v (.str t)),y0 (.v d),y0 (.v d),y0 (.v .aj),a,v,?_⟩
  rw [za (Z1:=l6 ns K L (y0 (.v (.int (j:Int)))) (y0 (.v (.str t))) (y0 (.v d)) (y0 (.v d)) (y0 (.v .aj))) (h1:=a) (by simp_all [o,Option.getD_some]<;>rfl)]
  have i:=uR a n (218-n) d s
  rw [show 218-n+n+1=219 by omega]at i
  have i1:=sX s y9 (k8 219) 4 (l6 ns K L (y0 (.v (.int (j:Int)))) (y0 (.v (.str t))) (y0 (.v d)) (y0 (.v d)) (y0 (.v .aj))) a rfl
  have i2:=sX s k9 (k8 219) 4 (l6 ns K L (y0 (.v (.int (j:Int)))) (y0 (.v (.str t))) (y0 (.v d)) (y0 (.v d)) (y0 (.v .aj))) a rfl
  rw [qa (by rw [Gf,eval,i1];rfl),qa (by
   have I:eval (k8 219) (.or (.b9 true .v6) (.not (.call "_law_same" (.b .v5 .v4)))) (l6 ns K L (some (.v (.int (j:Int)))) (some (.v (.str t))) (some (.v d)) (some (.v d)) (some (.v .aj))) a= .ok (.v (.bl false)) a:=by simp_all [i]<;>rfl
   rw [Gf,eval,i2]
   simp only [R.aa,Gp,R.ag,I])]
  rfl
theorem sF (c:ns.length<=63)(nm:Nm (K++L)) (b:(K++L).length<=100): ∀(a:List Nat) x2 x3 x4 x5 x6 h,PH h-> ∃O J i q M h',PH h' ∧
 GB (Gz [2] k9) (λZ h=>execs (k8 219) wI Z h) (a.map λ(j:Nat)=> .int (j:Int)) (l6 ns K L x2 x3 x4 x5 x6) h= .next (l6 ns K L O J i q M) h'
 | [],x2,x3,x4,x5,x6,h,P=>⟨x2,x3,x4,x5,x6,h,P,rfl⟩
 | j::a,x2,x3,x4,x5,x6,h,P=>by
  obtain⟨J,i,q,M,r,o,d⟩:=AS c nm b P
  obtain⟨g,k,e,l,p,m,n,f⟩:=sF c nm b a (y0 (.v (.int j))) J i q M r o
  refine⟨g,k,e,l,p,m,n,?_⟩
  rw [Ac0,Jj rfl d,f]
def eP (a:List Int) (t:a.length<=63): ∃h',call prog 220 "law" [.v (.lst (a.map .int))] []= .ok (.v (.bl true)) h':=by
 obtain⟨K,T,c,hK,hT,nm,P0,l0,J⟩:=Bk 215 a t [] PH.nil
 have G:(K++T).length<=100:=by simp;omega
 obtain⟨m,U,I⟩: ∃m:Nat,4<=m/\m<=27/\ ∀h,(c5 .min [.v (.int 27),.v (.int (a.length:Int))] h).bind (λx h=>c5 .max [.v (.int 4),x] h)= .ok (.v (.int (m:Int))) h:=by
  by_cases q:(a.length:Int)<27
  ·by_cases q2:a.length>4
   ·exact⟨a.length,by omega,by omega,λh=>by rw [zL,if_pos q,R.aa,xJ,if_pos (by omega)]⟩
   ·exact⟨4,by omega,by omega,λh=>by rw [zL,if_pos q,R.aa,xJ,if_neg (by omega)];rfl⟩
  ·exact⟨27,by omega,by omega,λh=>by rw [zL,if_neg q,R.aa,xJ,if_pos (by decide)];rfl⟩
 obtain⟨o,p,l,r,s,g,P7,Q⟩:=sF t nm G ((Ab7 ((m-2) / 2)).map λk=>3+k*2) u0 u0 u0 u0 u0 c P0
 obtain⟨A,z,y,N⟩:=jv 217 a t 3 g
 have H:=Xj (F:=(k8 219)) (f:= "_law_purse") (es:= .cons .v0 (.a (.int 3))) (Z:=l6 a K T o p l r s) (h:=g) (ws:= [bC a,.v (.int 3)]) (xs:= [D.int A,D.int z,D.int y]) (by simp_all []<;>rfl) N rfl
 obtain⟨e,i⟩: ∃e,e=g++ [Cell.lst [D.int A,D.int z,D.int y]]:=⟨_,rfl⟩
 have S:PH e:=i▸P7.app A z y
 have n8:e.length=g.length+1:=by rw [i];simp
 rw [← i]at H
 obtain⟨v,b,W,P9,l9,C⟩:=Ze 218 S (show g.length<e.length by omega) (show 0<5 by decide) (by decide)
 have C:call prog 219 "_law_next" [.v (.ref g.length),.v (.int 5)] e= .ok (.v (.int (v:Int))) b:=C
 obtain⟨x,hx,M⟩: ∃x:D,aQ [D.aj,.int 5,.lst [.str gG],.tup [.str gG],.bl k9] (v:Int)=y0 x/\dj .str (.v x)=y0 false:=by
  match v,W with
  | 0,_=>exact⟨_,rfl,rfl⟩
  | 1,_=>exact⟨_,rfl,rfl⟩
  | 2,_=>exact⟨_,rfl,rfl⟩
  | 3,_=>exact⟨_,rfl,rfl⟩
  | 4,_=>exact⟨_,rfl,rfl⟩
  | v+5,h=>exact absurd h (by omega)
 have E:call prog 219 "_law_told" [.v (wD K T),.v x] b= .ok (.v (.tup [.aj,bf])) b:=JY (D5 217 b (wD K T) x M)
 have B:call prog 219 "_law_only" [.v bf,.v (.int 0)] b= .ok (.v (.bl true)) b:=tQ 218 b
 obtain⟨O,ez,_⟩:=oA (d:= .bl k9) (n:=0) (h:=b) rfl (Af9 _)
 refine⟨O,?_⟩
 rw [Gb (d:=mm) rfl _ _ _ rfl]
 simp only [mm]
 show Gu 0 (execs _ _ [y0 (bC a),u0,u0,u0,u0,u0,u0,u0] [])=_
 rw [za (Z1:=l6 a K T u0 u0 u0 u0 u0) (h1:=c) (by simp only [bC]at J;simp_all [J])]
 rw [za (Z1:=l6 a K T o p l r s) (h1:=g) ?_]
 ·have u:eval (k8 219) (.call "_law_next" (.cons (.share (.call "_law_purse" (.b .v0 (.int 3)))) (.a (.int 5)))) (l6 a K T o p l r s) g= .ok (.v (.int (v:Int))) b:=by
   rw [eval,Gj,H,R.aa,Gj,show eval (k8 219) (.int 5) (l6 a K T o p l r s) e= .ok (.v (.int 5)) e from rfl,R.aa,Gj]
   exact C
  have P: ∀h,eval (k8 219) (.lst (.f .aj (.int 5) (.lst (.a (.str gG))) (.tup (.a (.str gG))) (.bl k9))) (l6 a K T o p l r s) h= .ok (.own [D.aj,.int 5,.lst [.str gG],.tup [.str gG],.bl k9]) h:=λh=>rfl
  rw [za (Z1:= [y0 (bC a),y0 (.v (wD K T)),o,p,l,r,s,y0 (.v x)]) (h1:=b) (by
   rw [exec,eval,P,R.aa,u,R.aa,Jh,hx];rfl)]
  rw [za (Z1:= [y0 (bC a),y0 (.v (wD K T)),o,p,l,y0 (.v .aj),y0 (.v bf),y0 (.v x)]) (h1:=b) (by simp_all [E]<;>rfl)]
  rw [ja (w:= .v (.bl k9)) (h1:=b) (jc rfl (by simp_all [B]<;>rfl)),ez]
 ·rw [exec]
  have Y:=I.2 c
  have L:c5 .len [bC a] c= .ok (.v (.int (a.length:Int))) c:=by rw [tj];simp
  have V: ∀m:Nat,m<=27->(-(eA)<=(3:Int)/\(3:Int)<eA)/\(-(eA)<=(m:Int)/\(m:Int)<eA):=λm U=>by rw [GT];omega
  have u:eval (k8 219) (.bi .max (.b (.int 4) (.bi .min (.b (.int 27) (.bi .len (.a .v0)))))) (l6 a K T u0 u0 u0 u0 u0) c= .ok (.v (.int (m:Int))) c:=by
   simp only [eval,Gj,Gn,Gk,R.aa,L]
   rw [← Y]
   cases c5 .min [.v (.int 27),.v (.int (a.length:Int))] c<;>rfl
  show((Gr (k8 219) (.bM (.int 3) (.bi .max (.b (.int 4) (.bi .min (.b (.int 27) (.bi .len (.a .v0))))))) (l6 a K T u0 u0 u0 u0 u0) c).c7 _)=_
  rw [Gr]
  rw [show eval (k8 219) (.int 3) (l6 a K T u0 u0 u0 u0 u0) c= .ok (.v (.int 3)) c from rfl,R.aa,int?_int,R.ag,R.aa,u,R.aa,int?_int,R.ag,R.aa,if_pos (V m I.1),R.aC]
  have X:((Ab7 (((m:Int)-3+1) / 2).toNat).map λ(k:Nat)=>D.int (3+(k:Int)*2))=((Ab7 ((m-2) / 2)).map λk=>3+k*2).map λ(j:Nat)=>D.int (j:Int):=by
   rw [Ag5,show(((m:Int)-3+1) / 2).toNat=(m-2) / 2 by omega]
   rfl
  rw [X]
  exact Q
end M
namespace L2.MS
open PySem PyProof.Rows
noncomputable def nM:List String:= ["is_written", "sort_of_sign", "signs_of", "one_deeper", "read_saying", "_law_cell", "_law_purse", "_law_next", "_law_family", "_law_any_names", "_law_words", "_law_leaf", "_law_expression", "_law_fact", "_law_saying", "_law_level", "_law_text", "_law_saying_level", "_law_saying_text", "_law_same", "_law_sort", "_law_signs", "_law_atom_of", "_law_chain_of", "_law_counted_of", "_law_fact_of", "_law_unit_of", "_law_row_of", "_law_read", "_law_only", "_law_changed", "_law_nested", "_law_drawn_text", "_law_told", "law"]
noncomputable def mB:List String:= ["WorldError", "NoSize", "NoPair", "NoName", "NoCode", "NoText", "Crowded", "TooBig", "NoWorld", "NoRenaming", "NoNumber", "Broken", "Kept", "Unlike", "NoRow", "NoStand"]
def nP:List String:= []
def nq:List String:= ["WorldError"]
noncomputable def uh:fb:=⟨[("Reader", "names"),("Reader", "signs"),("Reader", "place")],[("Reader", "here", "Reader.here"),("Reader", "take", "Reader.take"),("Reader", "take_just", "Reader.take_just"),("Reader", "saying", "Reader.saying"),("Reader", "part", "Reader.part"),("Reader", "unit", "Reader.unit"),("Reader", "fact", "Reader.fact"),("Reader", "count_fact", "Reader.count_fact"),("Reader", "limit", "Reader.limit"),("Reader", "pair_fact", "Reader.pair_fact"),("Reader", "expression", "Reader.expression"),("Reader", "term", "Reader.term"),("Reader", "factor", "Reader.factor"),("Reader", "atom", "Reader.atom")],[("Reader", "Reader.__init__")],["Reader.__init__", "Reader.here", "Reader.take", "Reader.take_just", "Reader.saying", "Reader.part", "Reader.unit", "Reader.fact", "Reader.count_fact", "Reader.limit", "Reader.pair_fact", "Reader.expression", "Reader.term", "Reader.factor", "Reader.atom"],[("NoText", "row")]⟩
def FA:List (String×List String):= []
end L2.MS
namespace PySem.W.Fast
def tw16628270819730910481:=Nat
def tw4034509002908331296:=Nat
def tw14388163548841914419:=Nat
def tw1077576918225002237:=Nat
def tw14444691640752529896:=Nat
def tw6115700921855427827:=Nat
def tw4788063047298803856:=Nat
def tw5361297707412212497:=Nat
def tw4919869309479293431:=Nat
def tw2793196829052267199:=Nat
def tw5959473331624955953:=Nat
def tw8107601897635783873:=Nat
def tw3449235820945486565:=Nat
def tw14872929259264821347:=Nat
def tw8025920807192893410:=Nat
def tw17290865807568212465:=Nat
def tw16037807650502267071:=Nat
def tw5681461399575904195:=Nat
def tw13454743560184487074:=Nat
def tw1267732780565008522:=Nat
def tw3047885076024306911:=Nat
def tw15347614242392303671:=Nat
def tw740637776654917000:=Nat
def tw7301412561493969512:=Nat
def tw9423084630554605888:=Nat
def tw2831479467360005001:=Nat
def tw11605229804752774763:=Nat
def tw8480474527219199347:=Nat
def tw7678463169664950365:=Nat
def tw7492638699762467096:=Nat
def tw7008391879519536084:=Nat
def tw3570583889473113225:=Nat
def tw16683122703498450740:=Nat
def tw11241089098079400096:=Nat
def tw7267345129038783402:=Nat
def tw548765514447150365:=Nat
def tw15977282370798496300:=Nat
def tw10510056058538485689:=Nat
def tw17745583019468215341:=Nat
def tw16198955049091948752:=Nat
def tw7897856894487642533:=Nat
def tw13021464955571047242:=Nat
def tw14074935394818564119:=Nat
def tw8965588998357592723:=Nat
def tw13021193334634605236:=Nat
def tw18119543620767798025:=Nat
def tw7340492465900257563:=Nat
def tw3439002485619247593:=Nat
def tw11590849020424986344:=Nat
def tw16693540233225828809:=Nat
def tw10998618350583953939:=Nat
def tw7910891824768391985:=Nat
def tw7473898473508311086:=Nat
def tw4574524477292301934:=Nat
def tw2118487137891174870:=Nat
def tw2058583809998936055:=Nat
def tw1900595785767758449:=Nat
def tw16827528637504463415:=Nat
def tw13386195933151336607:=Nat
def tw520690404257943324:=Nat
def tw11657655873169905344:=Nat
def tw2803361437653133615:=Nat
def tw18109396521910495396:=Nat
def tw13193444933274011784:=Nat
def tw17072662485831520353:=Nat
def tw8685655168234426227:=Nat
def tw14440710198234996703:=Nat
def tw5907570083652950339:=Nat
def tw11062555766371625261:=Nat
def tw2292829141861466235:=Nat
def tw11004817296792484878:=Nat
def tw15457148818918533889:=Nat
def tw8681023465665787831:=Nat
def tw2260586596385624878:=Nat
def tw9387700289898215914:=Nat
def tw11842108585265898259:=Nat
def tw8087127223712570638:=Nat
def tw13966168124381430598:=Nat
def tw11775062475812959132:=Nat
def tw17720165451363687340:=Nat
def tw18370269737878116800:=Nat
def tw9499300895119297656:=Nat
def tw16467685795550840944:=Nat
def tw8117295046734268308:=Nat
def tw5013972103458806787:=Nat
def tw851083257405960991:=Nat
def tw4429318904017193914:=Nat
def tw4041588797254728192:=Nat
def tw3257993583508819396:=Nat
def tw14435386503560111217:=Nat
def tw6461591167518055646:=Nat
def tw3058995299944227456:=Nat
def tw18404026429829938167:=Nat
def tw10470379205937823877:=Nat
def tw12502925716486578710:=Nat
def tw12934069452389141742:=Nat
def tw17242937227699500596:=Nat
def tw12450567416718831009:=Nat
def tw2202132897142531205:=Nat
def tw12149401511307729353:=Nat
def tw9500474284253947508:=Nat
def tw3447291486470272527:=Nat
def tw3770680290849534702:=Nat
def tw12242585678329766420:=Nat
def tw14097297464140521146:=Nat
def tw12489294345929398934:=Nat
def tw6573732171461457319:=Nat
def tw4605042992739586301:=Nat
def tw5154535716155125204:=Nat
def tw3613613235685899047:=Nat
def tw375754275971721980:=Nat
def tw15361750926551369337:=Nat
def tw3596186100050386676:=Nat
def tw1377726309611577256:=Nat
def tw10261646305617678898:=Nat
def tw3374927771971299992:=Nat
def tw11660225014780053686:=Nat
def tw9988837884872099588:=Nat
def tw10521423199830119974:=Nat
def tw16403671140329863636:=Nat
def tw11944068333697805195:=Nat
def tw15023016799006518146:=Nat
def tw9069886120241440183:=Nat
def tw5094115139769636024:=Nat
def tw3587525272310372637:=Nat
def tw3228831364340592235:=Nat
def tw2486157438982839182:=Nat
def tw2404149877097588688:=Nat
def tw1655871255796002185:=Nat
def tw15401685438974369966:=Nat
def tw14837567618219701077:=Nat
def tw13083453919855826154:=Nat
def tw10077586192801500527:=Nat
def tw1962999016835308704:=Nat
def tw15893465670881669508:=Nat
def tw7894160145227214876:=Nat
def tw6827219412104192947:=Nat
def tw17799851302639052028:=Nat
def tw11605112658558498815:=Nat
def tw636857371964919344:=Nat
def tw3137778090991393698:=Nat
def tw8307581372407197287:=Nat
def tw18385080707825325687:=Nat
def tw17128656121821905813:=Nat
def tw9504286331964362954:=Nat
def tw11392392946940198638:=Nat
def tw17131920785899559752:=Nat
def tw9207248097998330506:=Nat
def tw15053958731314352035:=Nat
def tw9260005983116619370:=Nat
def tw16690198167907051946:=Nat
def tw11080359835425256448:=Nat
def tw11468067628837580192:=Nat
def tw7048895738591423320:=Nat
def tw4410815839078732171:=Nat
def tw18140455349197567662:=Nat
def tw16394294239127067533:=Nat
def tw14713854901268673429:=Nat
def tw12293758398322475401:=Nat
def tw9339000368848676831:=Nat
def tw8639886764514666801:=Nat
def tw12294571305239636884:=Nat
def tw7812183161237706773:=Nat
def tw14440597075508208957:=Nat
def tw17720466874455497849:=Nat
def tw11645683226396068420:=Nat
def tw10886654723677320755:=Nat
def tw4252767899074603943:=Nat
def tw17737281262197002725:=Nat
def tw16524800871793275325:=Nat
def tw10834221045510838428:=Nat
def tw13324501074117805621:=Nat
def tw1319035533542195329:=Nat
def tw4248974019392042016:=Nat
def tw3772142750819893340:=Nat
def tw13266942382514680658:=Nat
def tw18217825983113591083:=Nat
def tw3193989105301716528:=Nat
def tw17100370269569317666:=Nat
def tw9911580783587785927:=Nat
def tw8949605588033513250:=Nat
def tw3505785086301987467:=Nat
def tw198285941651019394:=Nat
def tw17738785396821718923:=Nat
def tw15949145238580684102:=Nat
def tw7480829111698275694:=Nat
def tw17437730804879218803:=Nat
def tw17669373631915901202:=Nat
def tw15897314776417170693:=Nat
def tw7945147547271283707:=Nat
def tw9607517486224526072:=Nat
def tw17787241624238756920:=Nat
def tw17775070711188793672:=Nat
def tw13841921828371592128:=Nat
def tw17271075515974727618:=Nat
def tw15447075014601670176:=Nat
def tw747010811367104145:=Nat
def tw8183187066928425026:=Nat
def tw1737709830270230047:=Nat
def tw3928648853782736296:=Nat
def tw13387219704066536180:=Nat
def tw11210639265244136246:=Nat
def tw9730244999776388437:=Nat
def tw3627918199812308840:=Nat
def tw2057691694270223178:=Nat
def tw17318056965068208938:=Nat
def tw15280369382561854232:=Nat
def tw7949085204846571927:=Nat
def tw6175864016937003718:=Nat
def tw5416599541897565123:=Nat
def tw3637508526015891544:=Nat
def tw18161777391711142823:=Nat
def tw1404021223876286035:=Nat
def tw13044927008263819727:=Nat
def tw4137431479708513773:=Nat
def tw16934556217196870451:=Nat
def tw12170805731810708261:=Nat
def tw1753055290035539974:=Nat
def tw12943492185283086305:=Nat
def tw14686286183585718872:=Nat
def tw11923345792472147244:=Nat
def tw18011312439016762702:=Nat
def tw9926413883132698334:=Nat
def tw9538915267426253531:=Nat
def tw14942560484596987747:=Nat
def tw14015859432135289970:=Nat
def tw12811657377988490614:=Nat
def tw8810300562066769214:=Nat
def tw7376030278416072921:=Nat
def tw5362979190177704125:=Nat
def tw3359452119187432598:=Nat
def tw3192926212392208344:=Nat
def tw2336165746512234821:=Nat
def tw2099298725971051722:=Nat
def tw2097774067786539985:=Nat
def tw17128724628354486583:=Nat
def tw15425090104119934816:=Nat
def tw14658163222116294944:=Nat
def tw12095531180594836955:=Nat
def tw11607742052092761057:=Nat
def tw11283516532911533811:=Nat
def tw11002131592441526983:=Nat
def tw10730896806748933162:=Nat
def tw1031502284368844189:=Nat
def tw4195702296013018291:=Nat
def tw2868949392865061152:=Nat
def tw11686880928591044287:=Nat
def tw3039801172555856530:=Nat
def tw8935268022844154746:=Nat
def tw6138039162051484910:=Nat
def tw6727785688844799273:=Nat
def tw15066846925073921833:=Nat
def tw8721302109323287669:=Nat
def tw396490445497310524:=Nat
def tw3790731079974488396:=Nat
def tw16282023397480065688:=Nat
def tw1063405616745482902:=Nat
def tw12284966933453972672:=Nat
def tw1416837758514973718:=Nat
def tw1994522329176940251:=Nat
def tw10666809758022257333:=Nat
def tw7990530676919519231:=Nat
def tw4082344579779459268:=Nat
def tw11571285518524508583:=Nat
def tw4041205327620626632:=Nat
def tw13075161192155318932:=Nat
def tw7541783807659993989:=Nat
def tw16143945900249911640:=Nat
def tw1342506957899140504:=Nat
def tw6473411232712727595:=Nat
def tw16597072715500183995:=Nat
def tw12446056318102527355:=Nat
def tw476634451484227289:=Nat
def tw1805212500043170427:=Nat
def tw6465675294140249634:=Nat
def tw3200665035280532269:=Nat
def tw8106164168467902450:=Nat
def tw5370951530310451784:=Nat
def tw8940050297766894916:=Nat
def tw15987337328652970225:=Nat
def tw1999322364352817065:=Nat
def tw9770814786948577660:=Nat
def tw7322186691710973690:=Nat
def tw7986369344968761203:=Nat
def tw16288115684700968745:=Nat
def tw4875460864869496510:=Nat
def tw9287749908384329305:=Nat
def tw6026038908186891550:=Nat
def tw4563153168944980947:=Nat
def tw14281911591315844362:=Nat
def tw8730767909653461703:=Nat
def tw3450641808995273327:=Nat
def tw11684723400257872078:=Nat
def tw13127200681697903671:=Nat
def tw15761711781277492550:=Nat
def tw4400023887006420043:=Nat
def tw16499080854976433993:=Nat
def tw8901272369830052444:=Nat
def tw1623577537867785452:=Nat
def tw15088220350727841070:=Nat
def tw3416502036069549117:=Nat
def tw8849504464057608855:=Nat
def tw11183561378782519436:=Nat
def tw6498644160412060332:=Nat
def tw18436563421165395326:=Nat
def tw15157836471795889705:=Nat
def tw15674780340054184096:=Nat
def tw17293550145025829434:=Nat
def tw14642216198614986276:=Nat
def tw17169458090716154127:=Nat
def tw5123260419384129321:=Nat
def tw16391361646456789907:=Nat
def tw3779362064265892085:=Nat
def tw8411186457236495955:=Nat
def tw12849828637753265387:=Nat
def tw416531172656148190:=Nat
def tw8771845670404179218:=Nat
def tw4591693920758093369:=Nat
def tw834843821954014127:=Nat
def tw3846079191090820804:=Nat
def tw14390322976484505953:=Nat
def tw7729323345006591825:=Nat
def tw982381062805162690:=Nat
def tw17427374376576515437:=Nat
def tw5559818975736778004:=Nat
def tw6789950502832516291:=Nat
def tw10368874772447509858:=Nat
def tw7923701247097890997:=Nat
def tw14361675678835793694:=Nat
def tw2184467764675649622:=Nat
def tw17416692223635064300:=Nat
def tw5644683480950065709:=Nat
def tw1982881648641532697:=Nat
def tw15983056588110701343:=Nat
def tw12887725566609454338:=Nat
def tw6214686073021040794:=Nat
def tw13664926050263772228:=Nat
def tw1079478872968649822:=Nat
def tw15702595650644828286:=Nat
def tw15647173365482133462:=Nat
def tw15070739713405085431:=Nat
def tw2833317948142755469:=Nat
def tw15777390601297060448:=Nat
def tw9675467313847436930:=Nat
def tw16838721153802510590:=Nat
def tw9328042962760934785:=Nat
def tw4328372879559205827:=Nat
def tw804875252713720201:=Nat
def tw12764621882151041346:=Nat
def tw11300576659462902823:=Nat
def tw1647793522235445586:=Nat
def tw3644962850497479074:=Nat
def tw14988470470210124619:=Nat
def tw15302308623250706072:=Nat
def tw45029408498454542:=Nat
def tw6299189108567869566:=Nat
def tw5300659160180954400:=Nat
def tw4268116859453060492:=Nat
def tw14610004121465991471:=Nat
def tw269174131273599103:=Nat
def tw9964485258242147557:=Nat
def tw8520015072366609519:=Nat
def tw10221282792267698755:=Nat
def tw16673232070848538289:=Nat
def tw8085491861820284114:=Nat
def tw17584868338543344663:=Nat
def tw14339461871667378355:=Nat
def tw4092780654042112017:=Nat
def tw2245725876795850962:=Nat
def tw4808436860121228471:=Nat
def tw11140618039635397402:=Nat
def tw3259558161557728280:=Nat
def tw38035152510269354:=Nat
def tw8275524435459414183:=Nat
def tw8120340443319613035:=Nat
def tw12207281879196437912:=Nat
def tw13645553026913025357:=Nat
def tw17642312120711468960:=Nat
def tw17052945350316997323:=Nat
def tw2592337555695622001:=Nat
def tw3693027806300597002:=Nat
def tw11424005259042187547:=Nat
def tw15150109409057435572:=Nat
def tw17563305264733402704:=Nat
def tw16736714514525229482:=Nat
def tw16193542613778931275:=Nat
def tw15166257374743631682:=Nat
def tw218743344831465579:=Nat
def tw7835534055301741726:=Nat
def tw17586602336748790227:=Nat
def tw8471286790577673817:=Nat
def tw8651448014039055849:=Nat
def tw15672086979483128209:=Nat
def tw1885873736585990695:=Nat
def tw18072379027186100193:=Nat
def tw13999570520854143392:=Nat
def tw11131491606911575983:=Nat
def tw7384884237425446589:=Nat
def tw5835885871855303860:=Nat
def tw3498659067907512112:=Nat
def tw11575866005489491397:=Nat
def tw11163220026661235648:=Nat
def tw10891393903157537089:=Nat
def tw2392911577355932517:=Nat
def tw4868159735701849372:=Nat
def tw13294002235434650062:=Nat
def tw979242044932282114:=Nat
def tw4602711623264438702:=Nat
def tw3662818418536810089:=Nat
def tw12936325936004199446:=Nat
def tw7985007083009274812:=Nat
def tw17011447357230345302:=Nat
def tw1030339552062318328:=Nat
def tw16138900805260591400:=Nat
def tw11665914412260785140:=Nat
def tw3122979580864087751:=Nat
def tw12524773290271356259:=Nat
def tw8654998829130640342:=Nat
def tw6856080532062776946:=Nat
def tw10971202417138140368:=Nat
def tw16057712508176406489:=Nat
def tw17636763134382226217:=Nat
def tw7577906945576387366:=Nat
def tw15825288093704677413:=Nat
def tw8418128347142068454:=Nat
def tw15407545083240088379:=Nat
def tw5311219406925962393:=Nat
def tw12421318296297973607:=Nat
def tw804432011068525836:=Nat
def tw18054965529873093197:=Nat
def tw390907346625901860:=Nat
def tw8309932251507567448:=Nat
def tw3971654546487244989:=Nat
def tw11381467429542186435:=Nat
def tw18153084860647284538:=Nat
def tw14948388824338574610:=Nat
def tw18091173751410330337:=Nat
def tw14976801817312259969:=Nat
def tw16222473545938405222:=Nat
def tw9972413105325026614:=Nat
def tw5958138548143575175:=Nat
def tw4713226595278191267:=Nat
def tw13750056308601813187:=Nat
end PySem.W.Fast
open PySem PySem.W PyProof.Rows
set_option maxRecDepth 100000 in
set_option maxHeartbeats 0 in
theorem PySem.Challenge.cw_worldfind_k16_near_texts_holds : PySem.Challenge.rw_worldfind_k16_near_texts.Holds := by
 w_on;o_law;k_head;(case hw=>w_witness2)
 k_fill
 refine L2.MS.walk (l:=PySem.Challenge.rw_worldfind_k16_near_texts) (x:= "_law_script") (2*220+1) ⟨rfl,by decide,by decide⟩ rfl rfl (fun w h Y=>PySem.W.kIn_of Y) ?F
 case F=>
  intro w mg fa h KX G hmg
  exact L2.MS.hP M.prog L2.MS.nM L2.MS.mB L2.MS.nP L2.MS.nq L2.MS.uh L2.MS.FA 219 KX G hmg (by kernel_rfl) M.eP
