import PyProof.Rows.All
import Wide.All
import OpenK.AllK
import Wide.FinOn
import Lean
import PyProof.EqAt
import PyProof.EqKinds
import PyProof.TupleCall
import PyProof.NeKinds
import PyProof.NsDelKeeps
import KE.KRevSl
import PyProof.StrWalks
import PyProof.ConsumeWalk
import PyProof.SumWalk
import PyProof.Rows.SortStr
import PyProof.SumWalkG
import PyProof.StrCalls2
import PyProof.StrLawsIdx
import PyProof.WalkInts
import PyProof.StrOps2
import PyProof.SliceStr2
import PyProof.Draws
import PyProof.EnumMake
import PyProof.Rows.SetFrom
import PyProof.SetRoads
import PyProof.WalksMore
import PyProof.ListRange
import PyProof.TupleOfSeq
import PyProof.TupleOfGen
import PyProof.Rows.SortShell
import PyProof.ZipIter
import PyProof.DictStraight
import PyProof.TupleKey
import PyProof.DictRoadsH
import PyProof.DictTruth
import PyProof.Rows.TupTab
import KE.KTabLook
import PyProof.FString
import PyProof.CallStr
import KE.KIntText
import PyProof.Rows.Range3
import PyProof.DictRoads
import PyProof.Rows.StrNews2
import PySem.Challenge.RW_worldfind_k69_theories_by_rows
set_option Elab.async false
set_option linter.all false
set_option maxRecDepth 100000
set_option compiler.extract_closed false
local macro_rules | `(tactic| omega) => `(tactic| lia)
set_option bootstrap.genMatcherCode false
noncomputable section
open List renaming mem_cons → Aa, length_cons → Aa0, replicate → Aa1, not_mem_nil → Aa2, length_append → Aa3, mem_cons_self → Aa4, mem_cons_of_mem → Aa5, size_toArray → Aa9, getElem?_eq_getElem → Ab, mem_append_right → Ab0, length_map → Ab1, map_cons → Ab3, lookup_cons → Ab7, mem_singleton → Ab8, map_append → Ac0, getElem?_eq_some_iff → Ac2, range → Ac4, append_nil → Ac5, append_assoc → Ac6, mem_append → Ac8, replicate_succ → Ac9, length_set → Ad, getElem?_set_self → Ad0, getD_eq_getElem?_getD → Ad1, mem_map → Ad6, getElem?_set_ne → Ad7, nil_append → Ad8, getElem?_map → Ad9, cons_append → Ae, getElem?_append_left → Ae0, map_nil → Ae2, length_replicate → Ae3, isEmpty_iff → Ae5, getElem?_append_right → Ae6, mem_append_left → Ae7, length_take → Ae9, pairwise_cons → Af, map_map → Af0, nodup_cons → Af3, length_nil → Af4, foldl_cons → Ag2, eq_nil_of_length_eq_zero → Ag3, take_of_length_le → Ag4, length_singleton → Ag7, mem_of_mem_take → Ag9, extract_eq_drop_take → Ah, drop_eq_getElem_cons → Ah0, length_drop → Ah1, filterMap_cons → Ah3, any_cons → Ah5, all_cons → Ah6, lookup → Ai, flatten_cons → Ai0, mem_range → Ai3, take_length → Ai8, all_eq_true → Ai9, mem_of_getElem? → Aj, mem_replicate → Aj1, reverse_cons → Aj5, pairwise_singleton → Aj9, getElem?_replicate → Ak, Pairwise → Ak0, getElem_mem → Ak1, take_append_drop → Ak3, map_const' → Ak4, replicate_zero → Ak9, map_take → Al1, pairwise_map → Al2, foldl_append → Al3, perm_middle → Al6, nil_lt_cons → Al7, drop_length → Al8, any_eq_true → Al9
open PySem.W renaming Frag → Aa6, kia_one → Ae1, keepIn → Af7, emptyDict → Ag, instObj → Ah4, findIn → Ah8, plainGet → Aj4, cellsFrom_some → Aj6, lookIn → Ak2, plainGet_of → Ak5, callWith_K → Ak7, kitx_list → Al
open Nat renaming le_refl → Aa7, lt_of_lt_of_le → Ab5, pow_le_pow_right → Ab9, le_trans → Ac1, ne_of_lt → Ac3, le_succ → Ad2, one_le_two_pow → Ad3, pow_succ → Ae4, zero_le → Ae8, lt_succ_self → Af1, mul_le_mul_left → Af5, lt_irrefl → Af9, mod_lt → Ai2, lt_trans → Ai5, le_of_lt → Ai6, lt_succ_of_lt → Aj7, le_succ_of_le → Aj8, le_of_eq → Ak6, not_le → Al5
open PySem.Heap renaming get?_push_of_some → Aa8, get?_push_size → Ab6, lt_size → Ac, get?_update_other → Ah9, size_push → Ai4
open Bool renaming and_eq_true → Ab2, false_ne_true → Ab4, false_eq_true → Ag5, eq_false_iff → Ai1, not_false → Ak8, noConfusion → Am0
open Option renaming bind_eq_some_iff → Ac7, map_eq_some_iff → Ad4, bind_some → Ad5, isNone_iff_eq_none → Af8, map_some → Ag0, isSome_iff_exists → Ag1, some → Ag6
open Int renaming toNat_natCast → Af2, emod_nonneg → Ah7, emod_lt_of_pos → Aj3, toNat_of_nonneg → Al0, ne_of_gt → Am
open Classical renaming choose_spec → Af6, choose → Ag8, byContradiction → Aj0, propDecidable → Aj2
open Array renaming length_toList → Ah2, toList_inj → Ai7, toList → Al4
open Decidable renaming decide → u9
open Option renaming some → y0, none → u0
open Bool renaming true → k9, false → y9
namespace L2
open PySem PySem.Spec PyProof.Rows
abbrev dP:=Sum Int Str
def o9:dP->Value->Bool
 | .inl k,v=>Value.isInt k v
 | .inr x,v=>Value.isStrOf x v
def CB (w:World):dP->Int
 | .inl k=>hashInt k
 | .inr x=>hashStr w x
def Jd: ∀ {k}{v},o9 k v=k9->(∃ i t,k=Sum.inl i/\v=Value.int i t)\/(∃ x t,k=Sum.inr x/\v=Value.str x t)
 | .inl i,v,h=>by
  obtain⟨t,e⟩:=Value.isInt_shape h
  exact .inl ⟨i,t,rfl,e⟩
 | .inr x,v,h=>by
  obtain⟨t,e⟩:=Value.isStrOf_shape h
  exact .inr ⟨x,t,rfl,e⟩
def C3 (a b):u9 ((Sum.inl a:dP)=Sum.inl b)=(a==b):=by grind
def AI (a b):u9 ((Sum.inr a:dP)=Sum.inr b)=u9 (a=b):=by simp
def yA (a) (b):u9 ((Sum.inl a:dP)=Sum.inr b)=false:=decide_eq_false (λq=>nomatch q)
def yO (a) (b):u9 ((Sum.inr a:dP)=Sum.inl b)=false:=decide_eq_false (λq=>nomatch q)
noncomputable def ZV (prog:Program) (w:World):PySem.KeyKind prog w dP where
 is:=o9
 hash:=CB w
 inj:=λv a b l f=>by
  rcases Jd l with⟨i,t,rfl,rfl⟩ | ⟨x,t,rfl,rfl⟩
  ·rcases Jd f with⟨j,u,rfl,e⟩ | ⟨y,u,rfl,e⟩
   ·injection e with c _;rw [c]
   ·exact nomatch e
  ·rcases Jd f with⟨j,u,rfl,e⟩ | ⟨y,u,rfl,e⟩
   ·exact nomatch e
   ·injection e with c _;rw [c]
 byValue:=λk v h=>by
  rcases Jd h with⟨i,t,rfl,rfl⟩ | ⟨x,t,rfl,rfl⟩<;>rfl
 pyHash:=λd h=>by
  rcases Jd d with⟨i,t,rfl,rfl⟩ | ⟨x,t,rfl,rfl⟩
  ·exact wpAny_pyHash_int h
  ·exact wpAny_pyHash_str h
 eqBool:=λg d h=>by
  rcases Jd g with⟨i,t,rfl,rfl⟩ | ⟨x,t,rfl,rfl⟩
  ·rcases Jd d with⟨j,u,rfl,rfl⟩ | ⟨y,u,rfl,rfl⟩
   ·rw [C3]at h;exact wpAny_eqBool_int h
   ·rw [yA]at h;exact SeqAt.EqAt.int_str i t y u _ _ _ _ h
  ·rcases Jd d with⟨j,u,rfl,rfl⟩ | ⟨y,u,rfl,rfl⟩
   ·rw [yO]at h;exact SeqAt.EqAt.str_int x t j u _ _ _ _ h
   ·rw [AI]at h;exact wpAny_eqBool_str h
 «strs» :=λk x t v h=>by
  rcases Jd h with⟨i,u,rfl,e⟩ | ⟨y,u,rfl,e⟩
  ·exact nomatch e
  ·injection e with c _
   subst c
   cases v<;>rfl
inductive V where
 | az | bl (b:Bool) | int (i:Int) | str (x:Str) | ia (b:Array UInt8) | gH (b:UInt64) | ref (a:Addr) | ty (n:String)
 deriving DecidableEq
def RelV:V->Value->Prop
 | .az,u=>u=Value.none
 | .bl b,u=>u=Value.bool b
 | .int i,u=> ∃t,u=Value.int i t
 | .str x,u=> ∃t,u=Value.str x t
 | .ia b,u=> ∃t,u=Value.bytes b t
 | .gH b,u=> ∃t,u=Value.float b t
 | .ref a,u=>u=Value.ref a
 | .ty n,u=>u=Value.type n
abbrev Vals:List V->List Value->Prop:=Paired RelV
theorem Vals.length (r:Vals xs us):xs.length=us.length:=Paired.length r
theorem Vals.get: ∀ {xs}{us}{i:Nat}{x},Vals xs us->xs[i]? =y0 x-> ∃u,us[i]? =y0 u/\RelV x u
 | _,_,_,_,.nil,e=>by simp at e
 | _,_,0,_,.cons r _,e=>by simp at e;subst e;exact⟨_,rfl,r⟩
 | _,_,i+1,x,.cons _ t,e=>by
  obtain⟨u,b,a⟩:=Vals.get t (by simpa using e)
  exact⟨u,by simpa using b,a⟩
theorem Vals.set (r:RelV x u): ∀ {xs}{us} i,Vals xs us->Vals (xs.set i x) (us.set i u)
 | _,_,_,.nil=> .nil
 | _,_,0,.cons _ t=> .cons r t
 | _,_,i+1,.cons q t=> .cons q (Vals.set r i t)
theorem Vals.append: ∀ {xs ys}{us ws},Vals xs us->Vals ys ws->Vals (xs++ys) (us++ws)
 | _,_,_,_,.nil,s=>s
 | _,_,_,_,.cons r t,s=> .cons r (Vals.append t s)
theorem Vals.take: ∀ {xs}{us}(n),Vals xs us->Vals (xs.take n) (us.take n)
 | _,_,0,_=> .nil
 | _,_,_+1,.nil=> .nil
 | _,_,n+1,.cons r t=> .cons r (Vals.take n t)
theorem Vals.drop: ∀ {xs}{us}(n),Vals xs us->Vals (xs.drop n) (us.drop n)
 | _,_,0,r=>r
 | _,_,_+1,.nil=> .nil
 | _,_,n+1,.cons _ t=>Vals.drop n t
def c5:Option V->Option Value->Prop
 | some v,y0 u=>RelV v u
 | none,none=>True
 | _,_=>False
def KV {a:Type}:List (a×V)->List (a×Value)->Prop:=Paired λ(p:a×V) (q:a×Value)=>p.1=q.1/\RelV p.2 q.2
def kV:dP->V
 | .inl i=> .int i
 | .inr x=> .str x
inductive HO where
 | lst (xs:List V)
 | tup (xs:List V)
 | dK (kvs:List (dP×V)) | dT (kvs:List (List dP×V))
 | set (S:Int->Bool) (n:Nat)
 | ins (C dx:Addr) (fs:List (Str×V))
 | own (x:Addr)
 | xd (fs:List (Str×V))
 | met (f x:Addr)
 | fN (lo hi:Int)
 | dM (o:Obj) (u:HO)
 | gD (ps:Array Value)
 | ext (φ:Heap->Prop)
abbrev Hp:=Addr->Option HO
def aP (H:Hp) (a:Addr) (o:HO):Hp:=λb=>if b=a then y0 o else H b
def We :aP H a o a=y0 o:=by unfold aP;rw [if_pos rfl]
def Xa (h:b≠a):aP H a o b=H b:=by unfold aP;rw [if_neg h]
def jb {H:Hp}(h:H a=y0 o) (c:H b=u0):a≠b:=by
 intro e;subst e;rw [h]at c;cases c
def cZ (h:Heap) (a:Addr) (b:Array Value):Prop:= ∃o,h.get? a=some o/\o.cls= .type "tuple" /\o.dict=none/\ ∃n,o.data= .seq b n
def cZ.is (p:cZ h a u8):IsTup h a u8:=let ⟨o,e,c,_,n,d⟩:=p; ⟨o,e,c,n,d⟩
theorem cZ.lt (p:cZ h a u8):a<h.objs.size:=p.is.lt
def cZ.new (h:Heap) (u8):cZ (h.push { cls:= .type "tuple",data:= .seq u8 }) h.objs.size u8:=⟨_,Heap.get?_push_size _ rfl,rfl,rfl,_,rfl⟩
section
variable (P:Program) (w:World)
def aN (H:Hp) (h:Heap) (a:Addr):HO->Prop
 | .lst xs=>xs.length<=sizeLine/\ ∃(b:List Value) (n:Nat),Vals xs b/\h.get? a=y0 { cls:= .type "list",data:= .seq b.toArray n }
 | .tup xs=>xs.length<=sizeLine/\ ∃b:List Value,Vals xs b/\cZ h a b.toArray
 | .dK c=>c.length<=sizeLine/\(a==sysModules)=y9/\ ∃e,KV c e/\h.DictOf (ZV P w) a e
 | .dT c=>c.length<=sizeLine/\(a==sysModules)=y9/\ ∃xs:List (List dP×Addr×Value),
  Paired (λ(p:List dP×V) (q:List dP×Addr×Value)=>p.1=q.1/\H q.2.1=y0 (.tup (p.1.map kV))/\RelV p.2 q.2.2) c xs ∧
  ∃o es g,h.get? a=y0 o/\o.ExactDict/\o.data= .dict es g/\es.toList=xs.map (entryOfKey (tupleKind (ZV P w)))/\(xs.map (·.1)).Nodup
 | .set S n=>h.SetOf (intKind P w) a S n
 | .ins C dx fs=>H dx=y0 (.own a)/\fs.length<=1000/\dx≠a/\h.get? a=y0 (Ah4 C dx) ∧
  ∃mA,h.Ns1 dx mA/\(∀ f,c5 (fs.lookup f) (mA f))/\PySem.Within mA (fs.map (·.1))
 | .own _=> ∃o,h.get? a=y0 o
 | .xd fs=> ∃mA,h.Ns1 a mA/\ ∀f,c5 (fs.lookup f) (mA f)
 | .fN lo hi=> ∃t u v,h.get? a=y0 { cls:= .type "range",data:= .fields #[.int lo t,.int hi u,.int 1 v] }
 | .dM o u=>h.get? a=y0 o/\aN H h a u
 | .gD ps=>h.get? a=y0 { cls:= .none,data:= .fields ps }
 | .met f x=>h.get? a=y0 (PySem.W.methodObj (.ref f) (.ref x))
 | .ext d=>d h/\(∃ o,h.get? a=y0 o)/\ ∀h1 h2:Heap,d h1->(∀ o,h1.get? a=y0 o->h2.get? a=y0 o)->d h2
def cq (H:Hp) (h:Heap):Prop:= ∀a o,H a=y0 o->aN P w H h a o
end
section
variable {P:Program}{w:World}{H H':Hp}{h h':Heap}{a:Addr}{o:HO}
theorem aN.lt (x:aN P w H h a o):a<h.objs.size:=by
 cases o with
 | lst c=>obtain⟨_,_,_,_,e⟩:=x;exact Ac e
 | tup c=>obtain⟨_,_,_,p⟩:=x;exact p.lt
 | dK b=>obtain⟨_,_,_,_,o,_,_,e,_⟩:=x;exact Ac e
 | dT b=>obtain⟨_,_,_,_,o,_,_,e,_⟩:=x;exact Ac e
 | set S n=>obtain⟨o,_,_,_,e,_⟩:=x;exact Ac e
 | ins C j fs=>obtain⟨_,_,_,e,_⟩:=x;exact Ac e
 | own y=>obtain⟨_,e⟩:=x;exact Ac e
 | xd fs=>obtain⟨_,⟨_,_,_,e,_⟩,_⟩:=x;exact Ac e
 | fN l d=>obtain⟨_,_,_,e⟩:=x;exact Ac e
 | dM k u=>obtain⟨e,_⟩:=x;exact Ac e
 | gD g=>exact Ac (x)
 | met f y=>exact Ac (x)
 | ext i=>obtain⟨_,⟨_,e⟩,_⟩:=x;exact Ac e
theorem Paired.i5 : ∀ {i}{l₂},Paired F i l₂->(∀ a b,F a b->G a b)->Paired G i l₂
 | _,_,.nil,_=> .nil
 | _,_,.cons r t,f=> .cons (f _ _ r) (Paired.i5 t f)
def aN.de (x:aN P w H h a o) (k: ∀b u,(b=a\/H b=y0 (.own a))->h.get? b=y0 u->h'.get? b=y0 u)
 (F: ∀b,H b=y0 (.own a)->H' b=y0 (.own a)) (D: ∀b xs,H b=y0 (.tup xs)->H' b=y0 (.tup xs)):aN P w H' h' a o:=by
 induction o with
 | lst xs=>obtain⟨z,l,n,r,e⟩:=x;exact⟨z,l,n,r,k _ _ (.inl rfl) e⟩
 | tup xs=>obtain⟨z,l,r,g,e,c⟩:=x;exact⟨z,l,r,g,k _ _ (.inl rfl) e,c⟩
 | dK A=>obtain⟨z,y,I,r,g,i,j,e,c⟩:=x;exact⟨z,y,I,r,g,i,j,k _ _ (.inl rfl) e,c⟩
 | dT A=>
  obtain⟨z,y,xs,r,g,i,j,e,c⟩:=x
  exact⟨z,y,xs,Paired.i5 r λp q z=>⟨z.1,D _ _ z.2.1,z.2.2⟩,g,i,j,k _ _ (.inl rfl) e,c⟩
 | set S n=>obtain⟨g,i,j,t,e,c⟩:=x;exact⟨g,i,j,t,k _ _ (.inl rfl) e,c⟩
 | ins C M fs=>
  obtain⟨d,z,ne,e,s,⟨m,i,j,E,c⟩,r⟩:=x
  exact⟨F _ d,z,ne,k _ _ (.inl rfl) e,s,⟨m,i,j,k _ _ (.inr d) E,c⟩,r⟩
 | own y=>obtain⟨g,e⟩:=x;exact⟨g,k _ _ (.inl rfl) e⟩
 | xd fs=>obtain⟨s,⟨m,i,j,e,c⟩,r⟩:=x;exact⟨s,⟨m,i,j,k _ _ (.inl rfl) e,c⟩,r⟩
 | fN N J=>obtain⟨t,u,v,e⟩:=x;exact⟨t,u,v,k _ _ (.inl rfl) e⟩
 | dM g u G=>obtain⟨e,q⟩:=x;exact⟨k _ _ (.inl rfl) e,G q⟩
 | gD K=>
  have e:=x
  exact k a _ (.inl rfl) e
 | met f y=>
  have e:=x
  exact k a _ (.inl rfl) e
 | ext L=>obtain⟨p,⟨o,e⟩,B⟩:=x;exact⟨B _ _ p λo q=>k _ _ (.inl rfl) q,⟨o,k _ _ (.inl rfl) e⟩,B⟩
theorem cq.lt (x:cq P w H h) (e:H a=y0 o):a<h.objs.size:=(x a o e).lt
def cq.fresh (x:cq P w H h) (e:h.objs.size<=a):H a=none:=by
 cases q:H a with
 | none=>rfl
 | some u=>exact absurd (Ab5 (x.lt q) e) (Af9 _)
def cq.kept (x:cq P w H h) (k: ∀b u,h.get? b=y0 u->h'.get? b=y0 u):cq P w H h':=λa o e=>
 (x a o e).de (λb u _ q=>k b u q) (λ_ q=>q) λ_ _ q=>q
def cq.laid (x:cq P w H h) (k: ∀b u,h.get? b=y0 u->h'.get? b=y0 u) (g:h.objs.size<=a) (new:aN P w (aP H a o) h' a o):cq P w (aP H a o) h':=λb u e=>by
 have f:=x.fresh g
 by_cases d:b=a
 ·subst d;rw [We]at e;cases e;exact new
 ·rw [Xa d]at e
  exact(x b u e).de (λc v _ q=>k c v q) (λc q=>by rw [Xa (jb q f)];exact q) λc i q=>by rw [Xa (jb q f)];exact q
end
def Rd (H:Hp) (a:Addr) (u:HO):Prop:=H a=y0 u\/ ∃o,H a=y0 (.dM o u)
def Rd.ok (r:Rd H a u) (x:cq P w H h):aN P w H h a u:=by
 rcases r with r | ⟨o,r⟩
 ·exact x a u r
 ·obtain⟨_,q⟩:=x a _ r
  exact q
def kR:Option HO->Prop
 | some (.lst _)=>True
 | some (.dK _)=>True
 | some (.dT _)=>True
 | some (.set _ _)=>True
 | some (.ins _ _ _)=>True
 | some (.ext _)=>True
 | _=>False
section
variable {P:Program}{w:World}{H:Hp}{h h':Heap}{x e:Addr}{o':HO}
def cq.write (ok:cq P w H h) (j:kR (H x)) (n:e=x\/H e=y0 (.own x)) (k: ∀b u,b≠e->h.get? b=y0 u->h'.get? b=y0 u) (m: ∃u,h'.get? e=y0 u)
 (new:aN P w (aP H x o') h' x o'):cq P w (aP H x o') h':=λb u q=>by
 have d: ∀c y,H c=y0 (.own y)->c≠x:=λc y r z=>by subst z;rw [r]at j;exact j
 have f: ∀c l,H c=y0 (.tup l)->c≠x:=λc l r z=>by subst z;rw [r]at j;exact j
 by_cases i:b=x
 ·subst i;rw [We]at q;cases q;exact new
 ·rw [Xa i]at q
  by_cases a:b=e
  ·have o:H b=y0 (.own x):=by
    rcases n with z | z
    ·exact absurd (a.trans z) i
    ·rw [a];exact z
   rw [q]at o;cases o
   obtain⟨v,p⟩:=m
   exact⟨v,by rw [a];exact p⟩
  ·refine(ok b u q).de (λc v g r=>k c v ?_ r) (λc r=>by rw [Xa (d c b r)];exact r) λc l r=>by rw [Xa (f c l r)];exact r
   rcases g with rfl | g
   ·exact a
   ·rintro rfl
    rcases n with z | z
    ·exact d c b g z
    ·rw [g]at z;cases z;exact i rfl
end
structure Un (fs ex:List Addr) (H H':Hp) (h h':Heap):Prop where
 keep: ∀b o,h.get? b=y0 o->H b=u0->b∉fs->b∉ex->h'.get? b=y0 o
 slot: ∀b o,h.get? b=y0 o->H b=u0->b∈fs->b∉ex-> ∃sl,h'.get? b=y0 { o with slots:=sl }
 free: ∀b o,h.get? b=y0 o->H b=u0->b∉ex->H' b=u0
 there: ∀b o,h.get? b=y0 o->b∉ex-> ∃o',h'.get? b=y0 o'
 dh: ∀b xs,H b=y0 (.tup xs)->H' b=y0 (.tup xs)
 cX: ∀b o u,H b=y0 (.dM o u)->H' b=y0 (.dM o u)
 di: ∀b ps,H b=y0 (.gD ps)-> ∃more,H' b=y0 (.gD (ps++more))
section
variable {fs fs' ex ex':List Addr}{H H1 H2:Hp}{h h1 h2 h':Heap}{a x e:Addr}{o:HO}
def Un.any (u:Un fs ex H H1 h h1)(q:h.get? b=y0 ob) (n:H b=u0) (a:b∉ex): ∃sl,h1.get? b=y0 { ob with slots:=sl }:=by
 by_cases c:b∈fs
 ·exact u.slot b ob q n c a
 ·exact⟨ob.slots,u.keep b ob q n c a⟩
def Un.kept (k: ∀b u,h.get? b=y0 u->h'.get? b=y0 u):Un fs ex H H h h':=
 ⟨λb a q _ _ _=>k b a q,λb a q _ _ _=>⟨a.slots,k b a q⟩,λ_ _ _ n _=>n,λb a q _=>⟨a,k b a q⟩,λ_ _ q=>q,λ_ _ _ q=>q,λ_ c q=>⟨#[],by rw [q];simp⟩⟩
def Un.refl:Un fs ex H H h h:=Un.kept λ_ _ q=>q
def Un.laid (k: ∀b u,h.get? b=y0 u->h'.get? b=y0 u) (e:h.objs.size<=a) (c:H a=u0):Un fs ex H (aP H a o) h h' where
 keep:=λb u q _ _ _=>k b u q
 slot:=λb u q _ _ _=>⟨u.slots,k b u q⟩
 free:=λb u q n _=>by rw [Xa (Ac3 (Ab5 (Ac q) e))];exact n
 there:=λb u q _=>⟨u,k b u q⟩
 dh:=λb d q=>by rw [Xa (jb q c)];exact q
 cX:=λb u d q=>by rw [Xa (jb q c)];exact q
 di:=λb f q=>⟨#[],by rw [Xa (jb q c),q];simp⟩
def Un.write (c:kR (H x)) (j:e=x\/H e=y0 (.own x)) (k: ∀b u,b≠e->h.get? b=y0 u->h'.get? b=y0 u) (f: ∃u,h'.get? e=y0 u):Un fs ex H (aP H x o) h h':=by
 have g: ∀b,H b=u0->b≠x:=λb n z=>by subst z;rw [n]at c;exact c
 have i: ∀b,H b=u0->b≠e:=λb n z=>by
  subst z
  rcases j with r | r
  ·exact g b n r
  ·rw [n]at r;cases r
 have d: ∀b u,H b=y0 u-> ¬kR (y0 u)->b≠x:=λb u q l z=>by subst z;rw [q]at c;exact l c
 refine⟨λb u q n _ _=>k b u (i b n) q,λb u q n _ _=>⟨u.slots,k b u (i b n) q⟩,λb u q n _=>by rw [Xa (g b n)];exact n,λb u q _=> ?_,
  λb m q=>by rw [Xa (d b _ q λz=>z)];exact q,λb u m q=>by rw [Xa (d b _ q λz=>z)];exact q,λb p q=>⟨#[],by rw [Xa (d b _ q λz=>z),q];simp⟩⟩
 by_cases a:b=e
 ·subst a;exact f
 ·exact⟨u,k b u a q⟩
end
def eR (h:Heap) (H:Hp):List Addr:=(Ac4 h.objs.size).filter λa=>(H a).isSome
def fB (h:Heap) (H:Hp):Heap:=PySem.W.hideAll h (eR h H)
def Dm (h) (H):(fB h H).objs.size=h.objs.size:=PySem.W.hideAll_size _ _
def B4 (e:h.get? b=y0 o) (n:H b=u0):(fB h H).get? b=y0 o:=
 PySem.W.hideAll_get _ e λa=>by
  have q:=(List.mem_filter.mp a).2
  rw [n]at q;simp at q
def Di (e:(fB h H).get? b=y0 o):h.get? b=y0 o/\H b=none:=by
 have a:=PySem.W.of_hideAll (eR h H) e
 refine⟨a,?_⟩
 cases q:H b with
 | none=>rfl
 | some x=>
  have c:b∈eR h H:=List.mem_filter.mpr ⟨Ai3.mpr (Ac a),by simp [q]⟩
  have z:(fB h H).get? b=none:=PySem.W.hideAll_none (eR h H) c
  rw [z]at e;cases e
noncomputable def BF (g h:Heap) (L:Addr):List (Addr×Obj):=(Ac4 h.objs.size).filterMap λa=>if a=L\/(g.get? a).isSome=k9 then u0 else(h.get? a).map λo=>(a,o)
def Wk (g h:Heap) (L d:Addr):List (Addr×Obj):=(BF g h L).filter λp=>u9 (p.1≠d)
structure Mod (K:Aa6) (mg:Str->Option Value) (base:Heap):Prop where
 iO:K.In base
 glob:base.Ns mainGlobals mg
 blt: ∃mb,base.Ns builtinsNs mb/\ ∀x:Str,x≠ "__name__" ->mb x=bootBuiltins x
 nolimit:base.NoLimit
structure Cx where
 prog:Program
 w:World
 K:Aa6
 mg:Str->Option Value
 base:Heap
 A:Around
 N:List Str
 s₀:Shared
 H₀:Hp
 env:Env
 outer:List Env
 stack:List Env
 ex:List Addr
 fn:Str->Bool
 calm:Bool
 pn:List (Addr×Obj)
 xe:Value->Shared->Prop
def cA (l:List Env):List Addr:=l.filterMap (·.frame)
abbrev Cx.fs (X:Cx):List Addr:=cA X.outer
def gK (a:Scope) (x:Str):Prop:=a.names.lookup x=y0 .local\/a.names.lookup x=y0 .cell\/a.names.lookup x=y0 .free
def ir (a:Scope) (x:Str):Prop:=a.names.lookup x=y0 .local\/a.names.lookup x=y0 .cell
def EI (env:Env) (h:Heap) (m:Str->Option Value) (x:Str) (u:Value):Prop:=
 (env.kindOf x=y0 .local/\m x=y0 u)\/((env.kindOf x=y0 .cell\/env.kindOf x=y0 .free)/\ ∃c,env.cells.lookup x=y0 c/\h.IsCell c (y0 u))
structure Cx.Ok (X:Cx):Prop where
 mod:Mod X.K X.mg X.base
 kind:X.env.scope.kind= .function
 glob:X.env.globals=mainGlobals
 blt:X.env.builtins=builtinsNs
 above:X.s₀.heap.objs.size<=X.env.locals
 inj: ∀x y c,X.env.cells.lookup x=y0 c->X.env.cells.lookup y=y0 c->x=y
 has: ∀x,(X.env.kindOf x=y0 .cell\/X.env.kindOf x=y0 .free)-> ∃c,X.env.cells.lookup x=y0 c
 kA: ∀x c,X.fn x=k9->X.env.cells.lookup x=y0 c->X.s₀.heap.objs.size<=c
 hd:X.calm=k9->X.A.handled=u0
 frames:X.A.frames=y0 X.stack
 ip:X.stack=X.outer\/(X.stack=X.env::X.outer/\X.env.frame=y0 X.env.locals)
 lJ: ∀b∈X.ex,b≠X.env.locals/\ ∀x c,X.env.cells.lookup x=y0 c->c≠b
 bs: ∀b o,X.base.get? b=y0 o->X.s₀.heap.get? b=y0 o/\X.H₀ b=u0
 fY:X.base.objs.size<=X.s₀.heap.objs.size
 eO: ∀b o,X.base.get? b=y0 o->b∉X.ex
 eW: ∀b∈X.ex,b∉X.fs
 cw:X.s₀.heap.FunFrames X.base X.outer
 g8: ∀b∈X.fs,X.H₀ b=u0
structure Inv (X:Cx) (y8:List (Addr×Obj)) (U:List (Option V)) (H:Hp) (s:Shared):Prop where
 ok:X.Ok
 os:s.os=X.s₀.os
 bare:AllBare s.gens
 base:Un X.fs X.ex X.H₀ H X.s₀.heap s.heap
 loc: ∃m,s.heap.Ns X.env.locals m/\ ∀(i:Nat) (x:Str) (v:V),X.N[i]? =y0 x->U[i]? =y0 (y0 v)->gK X.env.scope x-> ∃u,RelV v u/\EI X.env s.heap m x u
 cell: ∀x c,X.env.cells.lookup x=y0 c-> ∃v,s.heap.IsCell c v
 free:H X.env.locals=u0
 bR: ∀x c,X.env.cells.lookup x=y0 c->H c=u0
 pin: ∀p∈X.pn++y8,s.heap.get? p.1=y0 p.2/\H p.1=u0/\p.1≠X.env.locals/\p.1∉X.fs/\ ∀v,p.2.data≠ .cell v
 aR:cq X.prog X.w H s.heap
 len:U.length=X.N.length
section
variable {X:Cx}{y8:List (Addr×Obj)}{U:List (Option V)}{H H':Hp}{s:Shared}{h':Heap}
def Cx.Ok.mR (ok:X.Ok)(e:X.base.get? b=y0 o):b∉X.fs:=λa=>by
 have:=(ok.cw.mem a).1
 rw [e]at this;cases this
theorem Inv.bs (I:Inv X y8 U H s): ∀b o,X.base.get? b=y0 o->s.heap.get? b=y0 o/\H b=none:=λb o e=>
 ⟨I.base.keep b o (I.ok.bs b o e).1 (I.ok.bs b o e).2 (I.ok.mR e) (I.ok.eO b o e),I.base.free b o (I.ok.bs b o e).1 (I.ok.bs b o e).2 (I.ok.eO b o e)⟩
def Inv.bk (I:Inv X y8 U H s): ∀b o,X.base.get? b=y0 o->s.heap.get? b=y0 o:=λb o e=>(I.bs b o e).1
theorem Inv.mod (I:Inv X y8 U H s):Mod X.K X.mg X.base:=I.ok.mod
def Inv.b0 (I:Inv X y8 U H s):X.K.In s.heap:=I.ok.mod.iO.keeps I.bk
theorem Inv.lt (I:Inv X y8 U H s):X.env.locals<s.heap.objs.size:=let ⟨_,a,_⟩:=I.loc;a.lt
def Inv.sz (I:Inv X y8 U H s):X.s₀.heap.objs.size<=s.heap.objs.size:=Ac1 I.ok.above (Ai6 I.lt)
def Inv.nK (I:Inv X y8 U H s)(h:s.heap.objs.size<=a):a∉X.fs:=λb=>by
 obtain⟨_,o,c,_⟩:=I.ok.cw.mem b
 exact absurd (Ab5 (Ac c) (Ac1 I.sz h)) (Af9 _)
def Inv.gT (I:Inv X y8 U H s): ∀x c,X.env.cells.lookup x=y0 c->c≠X.env.locals:=λx c e z=>by
 obtain⟨v,o,d,hd⟩:=I.cell x c e
 obtain⟨m,⟨f,h,g,a,b,_⟩,_⟩:=I.loc
 rw [z,a]at d;cases d;rw [b]at hd;cases hd
theorem Inv.cw (I:Inv X y8 U H s):s.heap.FunFrames X.base X.outer:=by
 have all: ∀ l,(∀ b∈cA l,b∈X.fs)->X.s₀.heap.FunFrames X.base l->s.heap.FunFrames X.base l:=by
  intro l
  induction l with
  | nil=>intro _ _;trivial
  | cons j r h=>
   intro f n
   obtain⟨m,⟨L,o,a,k,g,hd⟩,i⟩:=n
   have d:=f L (by unfold cA;rw [Ah3,a];exact Aa4)
   obtain⟨sl,e⟩:=I.base.slot L o g (I.ok.g8 L d) d λz=>I.ok.eW L z d
   exact⟨m,⟨L,_,a,k,e,hd⟩,h (λb c=>f b (by unfold cA;rw [Ah3,a];exact Aa5 _ c)) i⟩
 exact all X.outer (λ_ c=>c) I.ok.cw
theorem Inv.stack (I:Inv X y8 U H s):s.heap.FunFrames X.base X.stack:=by
 rcases I.ok.ip with e | ⟨e,b⟩
 ·rw [e];exact I.cw
 ·rw [e]
  obtain⟨m,a,_⟩:=I.loc
  refine .cons (by rw [I.ok.kind];decide) b a ?_ I.cw
  exact Heap.get?_none_of_le (Ac1 I.ok.fY I.ok.above)
def Inv.dc (I:Inv X y8 U H s): ∀b∈cA X.stack,b∈X.env.locals::X.fs:=λb a=>by
 rcases I.ok.ip with e | ⟨e,c⟩
 ·rw [e]at a;exact Aa5 _ a
 ·rw [e]at a
  unfold cA at a
  rw [Ah3,c]at a
  exact a
def Inv.cz (I:Inv X y8 U H s): ∀b∈cA X.stack,H b=none:=λb a=>by
 rcases Aa.mp (I.dc b a)with e | a
 ·rw [e];exact I.free
 ·obtain⟨_,o,c,_⟩:=I.ok.cw.mem a
  exact I.base.free b o c (I.ok.g8 b a) λz=>I.ok.eW b z a
def Inv.step {ch:List Addr}(I:Inv X y8 U H s)
 (h: ∀b∈ch,(b∈X.ex\/X.s₀.heap.objs.size<=b)/\b≠X.env.locals/\(∀ x c,X.env.cells.lookup x=y0 c->c≠b)/\ ∀p∈X.pn++y8,p.1≠b)
 (keep: ∀b o,b≠X.env.locals->b∉X.fs->b∉ch->s.heap.get? b=y0 o->H b=u0->h'.get? b=y0 o)
 (w: ∀b o,b≠X.env.locals->b∈X.fs->b∉ch->s.heap.get? b=y0 o->H b=u0-> ∃sl,h'.get? b=y0 { o with slots:=sl }) (free: ∀b o,b∉ch->s.heap.get? b=y0 o->H b=u0->H' b=u0)
 (there: ∀b o,b∉ch->s.heap.get? b=y0 o-> ∃o',h'.get? b=y0 o')
 (D: ∀b xs,H b=y0 (.tup xs)->H' b=y0 (.tup xs)) (F: ∀b o u,H b=y0 (.dM o u)->H' b=y0 (.dM o u)) (E: ∀b ps,H b=y0 (.gD ps)-> ∃more,H' b=y0 (.gD (ps++more)))
 (ns: ∀m,s.heap.Ns X.env.locals m->h'.Ns X.env.locals m) (J:cq X.prog X.w H' h') (R:AllBare g'):
 Inv X y8 U H' { s with heap:=h',gens:=g',drawn:=d',toks:=t' }:=by
 have C: ∀b o,X.s₀.heap.get? b=y0 o->b≠X.env.locals:=λb o e=>Ac3 (Ab5 (Ac e) I.ok.above)
 have j: ∀b o,X.s₀.heap.get? b=y0 o->b∉X.ex->b∉ch:=λb o e a y=>by
  rcases (h b y).1 with z | z
  ·exact a z
  ·exact absurd (Ab5 (Ac e) z) (Af9 _)
 have g: ∀x c,X.env.cells.lookup x=y0 c-> ∀v,s.heap.IsCell c v->h'.IsCell c v:=by
  rintro x c e v ⟨o,A,hd⟩
  have f:c∉ch:=λz=>(h c z).2.2.1 x c e rfl
  by_cases M:c∈X.fs
  ·obtain⟨sl,q⟩:=w c o (I.gT x c e) M f A (I.bR x c e)
   exact⟨_,q,hd⟩
  ·exact⟨o,keep c o (I.gT x c e) M f A (I.bR x c e),hd⟩
 refine⟨I.ok,I.os,R,⟨λb o e n y a=> ?_,λb o e n y a=> ?_,λb o e n a=> ?_,λb o e a=> ?_,λb xs e=>D b xs (I.base.dh b xs e),λb o xs e=>F b o xs (I.base.cX b o xs e),λb ps e=> ?_⟩,?_,λx c e=> ?_,?_,λx c e=> ?_,λp L=> ?_,J,I.len⟩
 ·exact keep b o (C b o e) y (j b o e a) (I.base.keep b o e n y a) (I.base.free b o e n a)
 ·obtain⟨sl,t⟩:=I.base.slot b o e n y a
  obtain⟨G,B⟩:=w b _ (C b o e) y (j b o e a) t (I.base.free b o e n a)
  exact⟨G,B⟩
 ·obtain⟨o',t⟩:=I.base.there b o e a
  exact free b o' (j b o e a) t (I.base.free b o e n a)
 ·obtain⟨o',t⟩:=I.base.there b o e a
  exact there b o' (j b o e a) t
 ·obtain⟨N,t⟩:=I.base.di b ps e
  obtain⟨P,B⟩:=E b _ t
  exact⟨N++P,by rw [B,Array.append_assoc]⟩
 ·obtain⟨m,Q,S⟩:=I.loc
  refine⟨m,ns m Q,λi x v t B O=> ?_⟩
  obtain⟨u,r,l⟩:=S i x v t B O
  refine⟨u,r,?_⟩
  rcases l with l | ⟨k,c,e,z⟩
  ·exact .inl l
  ·exact .inr ⟨k,c,e,g x c e _ z⟩
 ·obtain⟨v,z⟩:=I.cell x c e
  exact⟨v,g x c e v z⟩
 ·obtain⟨m,⟨o,_,_,A,_⟩,_⟩:=I.loc
  exact free _ o (λz=>(h _ z).2.1 rfl) A I.free
 ·obtain⟨v,o,A,hd⟩:=I.cell x c e
  exact free c o (λz=>(h c z).2.2.1 x c e rfl) A (I.bR x c e)
 ·obtain⟨e,n,ne,K,d⟩:=I.pin p L
  have f:p.1∉ch:=λz=>(h p.1 z).2.2.2 p L rfl
  exact⟨keep p.1 p.2 ne K f e n,free p.1 p.2 f e n,ne,K,d⟩
def Inv.un (I:Inv X y8 U H s) (u:Un X.fs [] H H' s.heap h') (g:cq X.prog X.w H' h'):Inv X y8 U H' { s with heap:=h',toks:=t' }:=by
 obtain⟨m,⟨o,p,q,h,r⟩,_⟩:=id I.loc
 obtain⟨sl,k⟩:=u.any h I.free (by simp)
 exact I.step (ch:= []) (λ_ z=>nomatch z) (λb o _ d _ e n=>u.keep b o e n d (by simp)) (λb o _ d _ e n=>u.slot b o e n d (by simp)) (λb o _ e n=>u.free b o e n (by simp)) (λb o _ e=>u.there b o e (by simp)) u.dh u.cX u.di (λt i=>by
  obtain⟨l,c,f,a,j⟩:=i
  rw [h]at a;cases a
  exact⟨_,c,f,k,j⟩) g I.bare
def Inv.call (I:Inv X y8 U H s) (u:Un (cA X.stack) ch H H' s.heap h') (j:cq X.prog X.w H' h') (v:AllBare g')
 (f: ∀b∈ch,(b∈X.ex\/X.s₀.heap.objs.size<=b)/\b≠X.env.locals/\(∀ x c,X.env.cells.lookup x=y0 c->c≠b)/\ ∀p∈X.pn++y8,p.1≠b):
 Inv X y8 U H' { s with heap:=h',gens:=g',drawn:=d',toks:=t' }:=by
 obtain⟨m,⟨o,y,A,k,r⟩,_⟩:=id I.loc
 obtain⟨sl,h⟩:=u.any k I.free λz=>(f _ z).2.1 rfl
 exact I.step f (λb o h q a e n=>u.keep b o e n (λz=>(Aa.mp (I.dc b z)).elim h q) a) (λb o _ _ a e n=>u.any e n a) (λb o a e n=>u.free b o e n a) (λb o a e=>u.there b o e a) u.dh u.cX u.di (λB l=>by
  obtain⟨w,g,i,d,t⟩:=l
  rw [k]at d;cases d
  exact⟨_,g,i,h,t⟩) j v
def Inv.turned (I:Inv X y8 U H s) (k: ∀b o,b≠it->s.heap.get? b=y0 o->h'.get? b=y0 o) (w:H it=u0) (f:it≠X.env.locals)
 (h1:it∈X.ex\/X.s₀.heap.objs.size<=it) (g: ∀x c,X.env.cells.lookup x=y0 c->c≠it) (h: ∀p∈X.pn++y8,p.1≠it):Inv X y8 U H { s with heap:=h',toks:=t' }:=by
 have d: ∀b u,H b=y0 u->b≠it:=λb u e z=>by rw [z,w]at e;cases e
 refine I.step (ch:= [it]) (λb t=> ?_) (λb o _ _ a e _=>k b o (λz=>a (by simp [z])) e) (λb o _ _ a e _=>⟨o.slots,k b o (λz=>a (by simp [z])) e⟩) (λ_ _ _ _ n=>n)
  (λb o a e=>⟨o,k b o (λz=>a (by simp [z])) e⟩) (λ_ _ e=>e) (λ_ _ _ e=>e) (λb A e=>⟨#[],by rw [e];simp⟩) (λm l=> ?_) (λb u e=> ?_) I.bare
 ·have e:=by simpa using t
  subst e
  exact⟨h1,f,g,h⟩
 ·obtain⟨o,j,y,i,r⟩:=l
  exact⟨o,j,y,k _ o (Ne.symm f) i,r⟩
 ·refine(I.aR b u e).de (λc v a q=>k c v ?_ q) (λ_ q=>q) λ_ _ q=>q
  rcases a with z | z
  ·rw [z];exact d b u e
  ·exact d c _ z
def Inv.tok (I:Inv X y8 U H s) (t):Inv X y8 U H { s with toks:=t }:=I.un Un.refl I.aR
theorem Inv.kept (I:Inv X y8 U H s) (k: ∀b u,s.heap.get? b=y0 u->h'.get? b=y0 u):Inv X y8 U H { s with heap:=h',toks:=t' }:=I.un (Un.kept k) (I.aR.kept k)
theorem Inv.laid (I:Inv X y8 U H s) (k: ∀b u,s.heap.get? b=y0 u->h'.get? b=y0 u) (c:s.heap.objs.size<=a) (new:aN X.prog X.w (aP H a o) h' a o):
 Inv X y8 U (aP H a o) { s with heap:=h',toks:=t' }:=I.un (Un.laid k c (I.aR.fresh c)) (I.aR.laid k c new)
theorem Inv.write (I:Inv X y8 U H s) (d:kR (H x)) (c:e=x\/H e=y0 (.own x)) (k: ∀b u,b≠e->s.heap.get? b=y0 u->h'.get? b=y0 u) (a: ∃u,h'.get? e=y0 u)
 (new:aN X.prog X.w (aP H x o) h' x o):Inv X y8 U (aP H x o) { s with heap:=h',toks:=t' }:=I.un (Un.write d c k a) (I.aR.write d c k a new)
def Inv.bJ (I:Inv X y8 U H s) (h: ∀p∈pins',s.heap.get? p.1=y0 p.2/\H p.1=u0/\p.1≠X.env.locals/\p.1∉X.fs/\ ∀v,p.2.data≠ .cell v):Inv X pins' U H s:=
 ⟨I.ok,I.os,I.bare,I.base,I.loc,I.cell,I.free,I.bR,λp a=>(Ac8.mp a).elim (λz=>I.pin p (Ae7 _ z)) (h p),I.aR,I.len⟩
def W5 {N:List Str}(d:N.Nodup){i j:Nat}(a:N[i]? =y0 x) (b:N[j]? =y0 x):i=j:=by
 obtain⟨g,c⟩:=Ac2.mp a
 obtain⟨f,e⟩:=Ac2.mp b
 exact(List.getElem_inj d).mp (c.trans e.symm)
def Dp (I:Inv X y8 U H s) (hN:X.N.Nodup) (hi:X.N[i]? =y0 x) (w:ir X.env.scope x) (r:RelV v u)
 (h: ∀s',Inv X y8 (U.set i (y0 v)) H s'->(∃ a,Heap.SameBut a s.heap s'.heap/\(a=X.env.locals\/X.env.cells.lookup x=y0 a))->Q () s') (hf:X.fn x=k9\/X.env.scope.names.lookup x=y0 .local:=by first | exact .inl rfl | exact .inr rfl | assumption):wpAny M A (storeName X.env x u) Q E s:=by
 obtain⟨m,hn,hl⟩:=id I.loc
 have L:(X.env.scope.kind== .class||(X.env.scope.kind== .module&&X.env.locals != X.env.globals))=false:=by rw [I.ok.kind];rfl
 have O:i<U.length:=by rw [I.len];exact(Ac2.mp hi).1
 have gT:=I.gT
 have g: ∀ {a}{K},(∃ o,s.heap.get? a=y0 o/\H a=u0)->Heap.SameBut a s.heap K->cq X.prog X.w H K:=λ{a K} ha f b ob e=>by
  obtain⟨_,_,B⟩:=ha
  refine(I.aR b ob e).de (λc T t q=>(f.2 c ?_).trans q) (λ_ q=>q) λ_ _ q=>q
  rintro rfl
  rcases t with rfl | t
  ·rw [B]at e;cases e
  ·rw [B]at t;cases t
 rcases w with D | D
 ·refine wpAny_storeName_local D hn (λK hn' f=> ?_) L
  obtain⟨oL,_,_,hoL,_⟩:=id hn
  refine h _ ⟨I.ok,I.os,I.bare,⟨λb o e n J w=> ?_,λb o e n J w=> ?_,I.base.free,λb o e w=> ?_,I.base.dh,I.base.cX,I.base.di⟩,⟨_,hn',λj y v' l C e3=> ?_⟩,λy c e=> ?_,I.free,I.bR,λp hp=> ?_,g ⟨oL,hoL,I.free⟩ f,by simpa using I.len⟩ ⟨_,f,.inl rfl⟩
  ·exact(f.2 b (Ac3 (Ab5 (Ac e) I.ok.above))).trans (I.base.keep b o e n J w)
  ·obtain⟨sl,l⟩:=I.base.slot b o e n J w
   exact⟨sl,(f.2 b (Ac3 (Ab5 (Ac e) I.ok.above))).trans l⟩
  ·obtain⟨W,l⟩:=I.base.there b o e w
   exact⟨W,(f.2 b (Ac3 (Ab5 (Ac e) I.ok.above))).trans l⟩
  ·by_cases G:j=i
   ·subst G
    rw [hi]at l;cases l
    rw [Ad0 O]at C
    cases C
    exact⟨u,r,.inl ⟨D,by simp⟩⟩
   ·rw [Ad7 (Ne.symm G)]at C
    obtain⟨Z,r',q⟩:=hl j y v' l C e3
    refine⟨Z,r',?_⟩
    rcases q with⟨k,e⟩ | ⟨k,c,e,z⟩
    ·refine .inl ⟨k,?_⟩
     have:y≠x:=λe=>G (W5 hN l (e▸hi))
     simp [this,e]
    ·exact .inr ⟨k,c,e,z.sameBut f (gT y c e)⟩
  ·obtain⟨T,z⟩:=I.cell y c e
   exact⟨T,z.sameBut f (gT y c e)⟩
  ·obtain⟨e,n,ne,Y,d⟩:=I.pin p hp
   exact⟨(f.2 p.1 ne).trans e,n,ne,Y,d⟩
 ·have F:X.fn x=true:=by
   rcases hf with z | z
   ·exact z
   ·rw [z]at D;cases D
  obtain⟨c,t⟩:=I.ok.has x (.inl D)
  obtain⟨T,z⟩:=I.cell x c t
  refine wpAny_storeName_cell I.ok.kind D t z (λK P f=> ?_)
  obtain⟨oc,N,S⟩:=id z
  refine h { s with heap:=K } ⟨I.ok,I.os,I.bare,⟨λb o e n J w=> ?_,λb o e n J w=> ?_,I.base.free,λb o e w=> ?_,I.base.dh,I.base.cX,I.base.di⟩,⟨m,hn.sameBut f (Ne.symm (gT x c t)),λj y v' l C e3=> ?_⟩,λy V e=> ?_,I.free,I.bR,λp hp=> ?_,g ⟨oc,N,I.bR x c t⟩ f,by simpa using I.len⟩ ⟨c,f,.inr t⟩
  ·exact(f.2 b (Ac3 (Ab5 (Ac e) (I.ok.kA x c F t)))).trans (I.base.keep b o e n J w)
  ·obtain⟨sl,l⟩:=I.base.slot b o e n J w
   exact⟨sl,(f.2 b (Ac3 (Ab5 (Ac e) (I.ok.kA x c F t)))).trans l⟩
  ·obtain⟨W,l⟩:=I.base.there b o e w
   exact⟨W,(f.2 b (Ac3 (Ab5 (Ac e) (I.ok.kA x c F t)))).trans l⟩
  ·by_cases G:j=i
   ·subst G
    rw [hi]at l;cases l
    rw [Ad0 O]at C
    cases C
    exact⟨u,r,.inr ⟨.inl D,c,t,P⟩⟩
   ·rw [Ad7 (Ne.symm G)]at C
    obtain⟨Z,r',q⟩:=hl j y v' l C e3
    refine⟨Z,r',?_⟩
    rcases q with q | ⟨k,V,e,z'⟩
    ·exact .inl q
    ·refine .inr ⟨k,V,e,z'.sameBut f ?_⟩
     rintro rfl
     exact G (W5 hN l (I.ok.inj _ _ _ e t▸hi))
  ·by_cases R:V=c
   ·subst R;exact⟨_,P⟩
   ·obtain⟨w2,z2⟩:=I.cell y V e
    exact⟨w2,z2.sameBut f R⟩
  ·obtain⟨e,n,ne,Y,d⟩:=I.pin p hp
   refine⟨(f.2 p.1 ?_).trans e,n,ne,Y,d⟩
   intro q
   rw [q,N]at e
   have q':=Ag6.inj e
   exact d T (by rw [← q'];exact S)
def zO (I:Inv X y8 U H s) (a:X.N.Nodup) (hi:X.N[i]? =y0 x) (b:ir X.env.scope x) (r:RelV v u)
 (h: ∀s',Inv X y8 (U.set i (y0 v)) H s'->Q () s') (c:X.fn x=k9\/X.env.scope.names.lookup x=y0 .local:=by first | exact .inl rfl | exact .inr rfl | assumption):wpAny M A (storeName X.env x u) Q E s:=
 Dp I a hi b r (λs' d _=>h s' d) c
def Inv.gp (I:Inv X y8 U H s) (g:s'.os=s.os) (u:Un (cA X.stack) ch H H' s.heap s'.heap) (a:cq X.prog X.w H' s'.heap) (f:AllBare s'.gens)
 (d: ∀b∈ch,(b∈X.ex\/X.s₀.heap.objs.size<=b)/\b≠X.env.locals/\(∀ x c,X.env.cells.lookup x=y0 c->c≠b)/\ ∀p∈X.pn++y8,p.1≠b):Inv X y8 U H' s':=by
 obtain⟨h,j,k,l,i⟩:=s'
 have e:=g
 subst e
 exact I.call u a f d
end
abbrev XK:=Value->Option Addr->Hp->Prop
abbrev St:=List (Option V)
abbrev VK:=V->Hp->Prop
abbrev TE:=St->Hp->VK->Prop
abbrev TT:=St->Hp->(Bool->Hp->Prop)->Prop
abbrev TA:=St->Hp->(List V->Hp->Prop)->Prop
structure gQ where
 nx:St->Hp->Prop
 rt:VK
 bk:St->Hp->Prop:=λ_ _=>False
 ct:St->Hp->Prop:=λ_ _=>False
abbrev TS:=gQ->St->Hp->Prop
def EP (X:Cx) (a:List (Addr×Obj)) (U:St) (Q:VK) (u:Value) (s':Shared):Prop:= ∃v H',Inv X a U H' s'/\RelV v u/\Q v H'
def TP (X:Cx) (a:List (Addr×Obj)) (U:St) (Q:Bool->Hp->Prop) (b:Bool) (s':Shared):Prop:= ∃H',Inv X a U H' s'/\Q b H'
def AP (X:Cx) (a:List (Addr×Obj)) (U:St) (Q:List V->Hp->Prop) (us:List Value) (s':Shared):Prop:= ∃b H',Inv X a U H' s'/\Vals b us/\Q b H'
def SP (X:Cx) (a:List (Addr×Obj)) (D:gQ) (f:Flow) (s':Shared):Prop:=
 match f with
 | .next=> ∃b H',Inv X a b H' s'/\D.nx b H'
 | .brk=> ∃b H',Inv X a b H' s'/\D.bk b H'
 | .cont=> ∃b H',Inv X a b H' s'/\D.ct b H'
 | .ret u=> ∃v b H',Inv X a b H' s'/\RelV v u/\D.rt v H'
def PE (X:Cx) (e:Expr) (t:TE):Prop:=
 ∀(y8:List (Addr×Obj)) (s:Shared) (U:St) (H:Hp) (Q:VK),Inv X y8 U H s->t U H Q->wpAny (model X.prog X.w) X.A (eval e X.env) (EP X y8 U Q) X.xe s
def PT (X:Cx) (e:Expr) (t:TT):Prop:=
 ∀(y8:List (Addr×Obj)) (s:Shared) (U:St) (H:Hp) (Q:Bool->Hp->Prop),Inv X y8 U H s->t U H Q->wpAny (model X.prog X.w) X.A (isTrue e X.env (eval e X.env)) (TP X y8 U Q) X.xe s
def PW (X:Cx) (e:Expr) (t:TT):Prop:=
 ∀(a:Sem Value) (y8:List (Addr×Obj)) (s:Shared) (U:St) (H:Hp) (Q:Bool->Hp->Prop),Inv X y8 U H s->t U H Q->wpAny (model X.prog X.w) X.A (isTrue e X.env a) (TP X y8 U Q) X.xe s
def PW.pt (h:PW X e t):PT X e t:=h _
def PA (X:Cx) (es:List Expr) (t:TA):Prop:=
 ∀(pos:Pos) (y8:List (Addr×Obj)) (s:Shared) (U:St) (H:Hp) (Q:List V->Hp->Prop),Inv X y8 U H s->t U H Q->wpAny (model X.prog X.w) X.A (spliced (backTo pos (starEach es X.env))) (AP X y8 U Q) X.xe s
def PS (X:Cx) (st:Stmt) (t:TS):Prop:=
 ∀(y8:List (Addr×Obj)) (s:Shared) (U:St) (H:Hp) (D:gQ),Inv X y8 U H s->t D U H->wpAny (model X.prog X.w) X.A (exec st X.env) (SP X y8 D) X.xe s
def cv (X:Cx) (st:List Stmt) (t:TS):Prop:=
 ∀(y8:List (Addr×Obj)) (s:Shared) (U:St) (H:Hp) (D:gQ),Inv X y8 U H s->t D U H->wpAny (model X.prog X.w) X.A (execs st X.env) (SP X y8 D) X.xe s
def aI (h:wpAny M A t Q E s) (b: ∀a s,Q a s->Q' a s):wpAny M A t Q' E s:=wpAny_mono h b λ_ _ x=>x
section
variable {X:Cx}
def bin (m:PE X a ta) (k:PE X b tb){R:V->V->Hp->Prop}(I:Inv X y8 U H s) (h:ta U H λx H1=>tb U H1 λy H2=>R x y H2)
 {f:Value->Value->Sem α}
 (e: ∀v u J x y H2,Inv X y8 U H2 J->RelV x v->RelV y u->R x y H2->wpAny (model X.prog X.w) X.A (f v u) Q X.xe J):
 wpAny (model X.prog X.w) X.A (eval a X.env) (λv q=>wpAny (model X.prog X.w) X.A (eval b X.env) (λu i=>wpAny (model X.prog X.w) X.A (f v u) Q X.xe i) X.xe q) X.xe s:=by
 refine aI (m y8 s U H _ I h) ?_
 rintro v n ⟨x,H1,l,j,g⟩
 refine aI (k y8 n U H1 _ l g) ?_
 rintro u J ⟨y,H2,d,o,c⟩
 exact e v u J x y H2 d j o c
def kL (i:Nat):TE:=λU H Q=> ∃v,U[i]? =y0 (y0 v)/\Q v H
def tC (v:V):TE:=λ_ H Q=>Q v H
def Xu (j:X.N[i]? =some x) (o:gK X.env.scope x) (hd:(x==("__debug__" :Str))=false:=by decide) (f:(x==("__classdict__" :Str))=false:=by decide):PE X (.Name x pos) (kL i):=by
 intro d s U H Q I h
 obtain⟨v,e,h⟩:=h
 obtain⟨m,n,p⟩:=I.loc
 obtain⟨u,r,l⟩:=p i x v j e o
 have fin:EP X d U Q u s:=⟨v,H,I,r,h⟩
 rcases l with⟨b,k⟩ | ⟨b,c,g,a⟩
 ·exact wpAny_Name (wpAny_loadName_local I.ok.kind b n k fin) hd
 ·rcases b with b | b
  ·exact wpAny_Name (wpAny_loadName_cell I.ok.kind b g a fin) hd
  ·exact wpAny_Name (wpAny_loadName_free I.ok.kind b g a fin f) hd
def n0 {i j pos}:PE X (.Constant (.int i) j pos) (tC (.int i)):=λ_ _ _ H _ I h=>wpAny_Constant_int ⟨.int i,H,I.tok _,⟨_,rfl⟩,h⟩
def BQ {b j pos}:PE X (.Constant (.bool b) j pos) (tC (.bl b)):=λ_ _ _ H _ I h=>Constant_bool ⟨.bl b,H,I,rfl,h⟩
def vH {x j pos}:PE X (.Constant (.str x) j pos) (tC (.str x)):=λ_ _ _ H _ I h=>Calls.Constant_str ⟨.str x,H,I.tok _,⟨_,rfl⟩,h⟩
def Gl (X:Cx) (x:Str):Prop:=X.env.kindOf x=y0 .globalImplicit
def JN (I:Inv X y8 U H s) (a:Gl X x) (b:X.mg x=y0 u) (h:Q u s)
 (hd:(x==("__debug__" :Str))=false:=by decide):wpAny (model X.prog X.w) X.A (eval (.Name x pos) X.env) Q E s:=
 Calls.Name_function_global I.ok.kind a (Calls.loadGlobal_global (by rw [I.ok.glob];exact I.mod.glob.keeps I.bk) b h) hd
def jw (I:Inv X y8 U H s) (e:Gl X x) (f:X.mg x=u0) (d:bootBuiltins x=y0 u) (h:Q u s)
 (b:x≠ "__name__" :=by decide) (hd:(x==("__debug__" :Str))=false:=by decide):wpAny (model X.prog X.w) X.A (eval (.Name x pos) X.env) Q E s:=by
 obtain⟨g,c,a⟩:=I.mod.blt
 exact Calls.Name_function_global I.ok.kind e (Calls.loadGlobal_builtin (by rw [I.ok.glob];exact I.mod.glob.keeps I.bk) f (by rw [I.ok.blt];exact c.keeps I.bk) ((a x b).trans d) h) hd
def jV (a:Gl X x) (b:X.mg x=some u) (r:RelV v u) (hd:(x==("__debug__" :Str))=false:=by decide):PE X (.Name x pos) (tC v):=
 λ_ _ _ H _ I h=>JN I a b ⟨v,H,I,r,h⟩ hd
def BH (c:Gl X x) (d:X.mg x=none) (b:bootBuiltins x=some u) (r:RelV v u) (a:x≠ "__name__" :=by decide) (hd:(x==("__debug__" :Str))=false:=by decide):PE X (.Name x pos) (tC v):=
 λ_ _ _ H _ I h=>jw I c d b ⟨v,H,I,r,h⟩ a hd
variable {a b:Expr}{ta tb:TE}{pos:Pos}
variable {tA tB':TT}{Wk:List Expr}
def um (t u:TT):TT:=λU H Q=>t U H λc H1=>if c=k9 then u U H1 Q else Q y9 H1
def AN (t u:TT):TT:=λU H Q=>t U H λc H1=>if c=k9 then Q k9 H1 else u U H1 Q
def FE (t:TT):TT:=λU H Q=>t U H λc H1=>Q (!c) H1
def u5 (d:PT X a tA):PW X (.BoolOp .And [a] pos) tA:=by
 intro f b s U H Q I h
 refine isTrue_and (aI (d b s U H Q I h) λc g e=> ?_)
 cases c with
 | true=>exact isTrue_and_nil e
 | false=>exact e
def D9 (d:PT X a tA):PW X (.BoolOp .Or [a] pos) tA:=by
 intro f b s U H Q I h
 refine isTrue_or (aI (d b s U H Q I h) λc g e=> ?_)
 cases c with
 | false=>exact isTrue_or_nil e
 | true=>exact e
def Dy (i:PT X a tA) (l:PW X (.BoolOp .And (b::Wk) pos) tB'):PW X (.BoolOp .And (a::b::Wk) pos) (um tA tB'):=by
 intro j d s U H Q I h
 refine isTrue_and (aI (i d s U H _ I h) ?_)
 rintro c k ⟨g,e,f⟩
 cases c with
 | true=>exact l j d k U g Q e f
 | false=>exact⟨g,e,f⟩
def CS (i:PT X a tA) (l:PW X (.BoolOp .Or (b::Wk) pos) tB'):PW X (.BoolOp .Or (a::b::Wk) pos) (AN tA tB'):=by
 intro j d s U H Q I h
 refine isTrue_or (aI (i d s U H _ I h) ?_)
 rintro c k ⟨g,e,f⟩
 cases c with
 | true=>exact⟨g,e,f⟩
 | false=>exact l j d k U g Q e f
def Ey (d:PT X a tA):PT X (.UnaryOp .Not a pos) (FE tA):=by
 intro b s U H Q I h
 exact isTrue_not (d b s U H (λc e=>Q (!c) e) I h)
def sP {op}(h:PE X a t):PE X (.BoolOp op [a] pos) t:=λb s U H Q I c=>BoolOp_one (h b s U H Q I c)
end
def a9 (K:Aa6) (H:Hp) (a:Addr) (xs:List V):Prop:=
 Rd H a (.lst xs) ∨
  ∃(o:Obj) (b:Array Value) (n:Nat),K.lookup a=some o/\o.cls= .type "list" /\o.dict=none/\o.data= .seq b n/\b.size<=sizeLine/\Vals xs b.toList
def b8 (K:Aa6) (H:Hp) (a:Addr) (xs:List V):Prop:=
 Rd H a (.tup xs) ∨
  ∃(o:Obj) (b:Array Value) (n:Nat),K.lookup a=y0 o/\o.cls= .type "tuple" /\o.data= .seq b n/\b.size<=sizeLine/\Vals xs b.toList
noncomputable def Et:Value->Option V
 | .none=>y0 .az
 | .bool b=>y0 (.bl b)
 | .int i _=>y0 (.int i)
 | .str x _=>y0 (.str x)
 | .bytes b _=>y0 (.ia b)
 | .float b _=>y0 (.gH b)
 | .ref a=>y0 (.ref a)
 | .type n=>y0 (.ty n)
 | _=>u0
def RelV.abs (r:RelV x u):Et u=y0 x:=by
 cases x with
 | az=>cases r;rfl
 | bl _=>cases r;rfl
 | int _=>obtain⟨t,rfl⟩:=r;rfl
 | str _=>obtain⟨t,rfl⟩:=r;rfl
 | ia _=>obtain⟨t,rfl⟩:=r;rfl
 | gH _=>obtain⟨t,rfl⟩:=r;rfl
 | ref _=>cases r;rfl
 | ty _=>cases r;rfl
theorem RelV.inj (r:RelV x u) (q:RelV y u):x=y:=Ag6.inj (r.abs.symm.trans q.abs)
theorem Vals.inj: ∀ {xs ys}{us},Vals xs us->Vals ys us->xs=ys
 | _,_,_,.nil,.nil=>rfl
 | _,_,_,.cons r t,.cons a b=>by rw [r.inj a,Vals.inj t b]
section
variable {X:Cx}{y8:List (Addr×Obj)}{U:St}{H:Hp}{s:Shared}{a:Addr}{xs ys:List V}
def a9.of {K:Aa6}(h:H a=y0 (.lst xs)):a9 K H a xs:= .inl (.inl h)
def Inv.list (I:Inv X y8 U H s) (h:a9 X.K H a xs): ∃i:List Value,Vals xs i/\PlainL s.heap a i.toArray/\xs.length<=sizeLine:=by
 rcases h with h | ⟨o,i,n,b,d,hd,c,f,r⟩
 ·obtain⟨z,i,n,r,e⟩:=h.ok I.aR
  exact⟨i,r,⟨_,n,e,rfl,rfl,rfl⟩,z⟩
 ·refine⟨i.toList,r,⟨o,n,I.b0 a o b,d,hd,by simpa using c⟩,?_⟩
  have e:=r.length
  simp only [Ah2]at e
  omega
def Inv.tuple (I:Inv X y8 U H s) (h:b8 X.K H a xs): ∃i:List Value,Vals xs i/\IsTup s.heap a i.toArray/\xs.length<=sizeLine:=by
 rcases h with h | ⟨o,i,n,b,d,c,f,r⟩
 ·obtain⟨z,i,r,p⟩:=h.ok I.aR
  exact⟨i,r,p.is,z⟩
 ·refine⟨i.toList,r,⟨o,I.b0 a o b,d,n,by simpa using c⟩,?_⟩
  have e:=r.length
  simp only [Ah2]at e
  omega
def Inv.cK (I:Inv X y8 U H s) (h:a9 X.K H a xs) (i:a9 X.K H a ys):xs=ys:=by
 obtain⟨c,r,⟨o,n,e,_,_,d⟩,_⟩:=I.list h
 obtain⟨b,j,⟨l,m,g,_,_,f⟩,_⟩:=I.list i
 rw [e]at g;cases g
 rw [d]at f
 injection f with k _
 have:c=b:=by simpa using congrArg Al4 k
 subst this
 exact r.inj j
def Inv.ek (I:Inv X y8 U H s) (h:b8 X.K H a xs) (i:b8 X.K H a ys):xs=ys:=by
 obtain⟨c,r,⟨o,e,_,n,d⟩,_⟩:=I.tuple h
 obtain⟨b,j,⟨l,g,_,m,f⟩,_⟩:=I.tuple i
 rw [e]at g;cases g
 rw [d]at f
 injection f with k _
 have:c=b:=by simpa using congrArg Al4 k
 subst this
 exact r.inj j
end
abbrev Cx.cY (X:Cx) (E:Value->Shared->Prop):Cx:= { X with xe:=E }
abbrev Cx.ik (X:Cx):Cx:=X.cY λ_ _=>False
theorem Cx.Ok.cY {X:Cx}(ok:X.Ok) (E:Value->Shared->Prop):(X.cY E).Ok:=
 ⟨ok.mod,ok.kind,ok.glob,ok.blt,ok.above,ok.inj,ok.has,ok.kA,ok.hd,ok.frames,ok.ip,ok.lJ,ok.bs,ok.fY,ok.eO,ok.eW,ok.cw,ok.g8⟩
def Cx.Ok.bQ {X:Cx}(ok:(X.cY E).Ok):X.Ok:=
 ⟨ok.mod,ok.kind,ok.glob,ok.blt,ok.above,ok.inj,ok.has,ok.kA,ok.hd,ok.frames,ok.ip,ok.lJ,ok.bs,ok.fY,ok.eO,ok.eW,ok.cw,ok.g8⟩
section
variable {X:Cx}{y8:List (Addr×Obj)}{U:St}{H:Hp}{s:Shared}{E:Value->Shared->Prop}
theorem Inv.cY (I:Inv X y8 U H s) (E):Inv (X.cY E) y8 U H s:=⟨I.ok.cY E,I.os,I.bare,I.base,I.loc,I.cell,I.free,I.bR,I.pin,I.aR,I.len⟩
theorem Inv.bQ (I:Inv (X.cY E) y8 U H s):Inv X y8 U H s:=⟨I.ok.bQ,I.os,I.bare,I.base,I.loc,I.cell,I.free,I.bR,I.pin,I.aR,I.len⟩
theorem SP.bQ (h:SP (X.cY E) y8 D f s'):SP X y8 D f s':=by
 cases f with
 | next=>obtain⟨a,b,I,q⟩:=h;exact⟨a,b,I.bQ,q⟩
 | brk=>obtain⟨a,b,I,q⟩:=h;exact⟨a,b,I.bQ,q⟩
 | cont=>obtain⟨a,b,I,q⟩:=h;exact⟨a,b,I.bQ,q⟩
 | ret u=>obtain⟨v,a,b,I,r,q⟩:=h;exact⟨v,a,b,I.bQ,r,q⟩
end
section
variable {X:Cx}{st:Stmt}{Wk:List Stmt}{t u:TS}{e:Expr}{te:TE}{pos:Pos}
def Hh:TS:=λD U H=>D.nx U H
def yr (t u:TS):TS:=λD U H=>t { D with nx:=u D } U H
def Bm:cv X [] Hh:=λ_ _ U H _ I h=>wpAny_execs_nil ⟨U,H,I,h⟩
def DR (h1:PS X st t) (c:cv X Wk u):cv X (st::Wk) (yr t u):=by
 intro a s U H D I h
 refine wpAny_execs_cons (aI (h1 a s U H { D with nx:=u D } I h) λf b q=> ?_)
 cases f with
 | next=>
  obtain⟨d,e,g,q⟩:=q
  exact c a b d e D g q
 | ret v=>exact q
 | brk=>exact q
 | cont=>exact q
def Inv.quiet (I:Inv X y8 U H s):interactive X.env=false:=by simp [interactive,I.ok.kind]
def E5 (a:TE):TS:=λD U H=>a U H λ_ H1=>D.nx U H1
def qN (d:PE X e te) (c:swapsWith e u0 pos.line X.env=pure false:=by rfl):PS X (.Expr e pos) (E5 te):=by
 intro a s U H D I h
 exact wpAny_Expr_any (aI (d a s U H _ I h) λv i ⟨x,g,b,j,f⟩=>⟨U,g,b,f⟩) I.quiet c
def Dc (a:TE):TS:=λD U H=>a U H D.rt
def r4 (c:PE X e te):PS X (.Return (y0 e) pos) (Dc te):=by
 intro a s U H D I h
 exact wpAny_Return_some (aI (c a s U H _ I h) λv i ⟨x,f,b,g,d⟩=>⟨x,U,f,b,g,d⟩)
def A2 (c:TT) (t u:TS):TS:=λD U H=>c U H λb H1=>if b=k9 then t D U H1 else u D U H1
def yE (m:PT X c tc) (k:cv X a t) (l:cv X b u):PS X (.If c a b pos) (A2 tc t u):=by
 intro e s U H D I h
 refine wpAny_If (aI (m e s U H _ I h) ?_)
 rintro d g ⟨j,f,i⟩
 cases d with
 | true=>exact k e g U j D f i
 | false=>exact l e g U j D f i
end
abbrev TG:=V->St->Hp->(St->Hp->Prop)->Prop
abbrev iB:=List V->St->Hp->(St->Hp->Prop)->Prop
def PG (X:Cx) (a:Expr) (t:TG):Prop:=
 ∀(y8:List (Addr×Obj)) (s:Shared) (U:St) (H:Hp) (v:V) (u:Value) (Q:St->Hp->Prop),Inv X y8 U H s->RelV v u->t v U H Q →
  wpAny (model X.prog X.w) X.A (assign a X.env u) (λ_ s'=> ∃b H',Inv X y8 b H' s'/\Q b H') X.xe s
def iG (X:Cx) (ts:List Expr) (t:iB):Prop:=
 ∀(y8:List (Addr×Obj)) (s:Shared) (U:St) (H:Hp) (c:List V) (b:List Value) (Q:St->Hp->Prop),Inv X y8 U H s->Vals c b->t c U H Q →
  wpAny (model X.prog X.w) X.A (assignInOrder ((assignEach ts X.env).map (·.2)) b) (λ_ s'=> ∃a H',Inv X y8 a H' s'/\Q a H') X.xe s
abbrev oA:=V->V->V->Hp->(Hp->Prop)->Prop
def rf (X:Cx) (t:oA):Prop:=
 ∀(y8:List (Addr×Obj)) (s:Shared) (U:St) (H:Hp) (o i v:V) (b a u:Value) (Q:Hp->Prop),Inv X y8 U H s->RelV o b->RelV i a->RelV v u->t o i v H Q →
  wpAny (model X.prog X.w) X.A (setItem b a u) (λ_ s'=> ∃H',Inv X y8 U H' s'/\Q H') X.xe s
section
variable {X:Cx}{pos:Pos}
def ZR (i:Nat):TG:=λv U H Q=>Q (U.set i (y0 v)) H
def si (b:X.N.Nodup) (hi:X.N[i]? =y0 x) (c:ir X.env.scope x) (d:X.fn x=k9\/X.env.scope.names.lookup x=y0 .local:=by first | exact .inl rfl | exact .inr rfl | assumption):PG X (.Name x pos) (ZR i):=by
 intro a s U H v u Q I r h
 exact wpAny_assign_Name (zO I b hi c r (λf e=>⟨_,H,e,h⟩) d)
def t9:iB:=λa U H Q=>a= []/\Q U H
def uY (t:TG) (u:iB):iB:=λb U H Q=> ∃v r,b=v::r/\t v U H λa H'=>u r a H' Q
def Dr:iG X [] t9:=by
 intro a s U H c b Q I r h
 obtain⟨e,h⟩:=h
 subst e
 cases r
 exact assignInOrder_nil ⟨U,H,I,h⟩
def yy (h1:PG X e t) (b:iG X es u)
 (c:(assignEach (e::es) X.env).map (·.2)=assign e X.env::(assignEach es X.env).map (·.2):=by rfl):iG X (e::es) (uY t u):=by
 intro a s U H o n Q I r h
 obtain⟨v,m,f,h⟩:=h
 subst f
 cases r with
 | cons r g=>
  rw [c]
  refine assignInOrder_cons (aI (h1 a s U H _ _ _ I r h) ?_)
  rintro _ j ⟨l,k,i,d⟩
  exact b a j l k _ _ Q i g d
def DU (K:Aa6) (n:Nat) (t:iB):TG:=λv U H Q=> ∃a xs,v= .ref a/\b8 K H a xs/\xs.length=n/\t xs U H Q
def AW (j:X.calm=k9) (h:iG X es t)
 (w:(assignEach es X.env).length=n:=by rfl) (d:(assignEach es X.env).findIdx? (·.1)=none:=by rfl):PG X (.Tuple es k pos) (DU X.K n t):=by
 intro c s U H v u Q I r f
 obtain⟨a,z,q,g,y,f⟩:=f
 subst q
 cases r
 obtain⟨p,rv,i,A⟩:=I.tuple g
 refine assign_Tuple_tuple (I.ok.hd j) i (by simp [w,←y,rv.length]) d λl m=> ?_
 have x:Inv X c U H { s with heap:=l }:=I.kept λb o e=>m b o (Ac3 (Ac e)) e
 exact h c _ U H z _ Q x (by simpa using rv) f
def A7 (a b:TE) (t:oA):TG:=λv U H Q=>a U H λo H1=>b U H1 λi H2=>t o i v H2 λc=>Q U c
def pH (g:PE X o to) (hi:PE X i ti) (j:rf X t)
 (w: ∀v,assign (.Subscript o i pos) X.env v=(do
   let q ←holding [v] (eval o X.env)
   let J ←holding [v,q] (eval i X.env)
   standAt pos
   holding [v,q,J] (setItem q J v)
   release [v,q,J] []):=by intro _;rfl):PG X (.Subscript o i pos) (A7 to ti t):=by
 intro a s U H v u Q I r h
 rw [w]
 refine wpAny_bind (wpAny_holding (aI (g a s U H _ I h) ?_))
 rintro q z ⟨x,B,p,m,l⟩
 refine wpAny_bind (wpAny_holding (aI (hi a z U B _ p l) ?_))
 rintro J f ⟨y,c,d,A,b⟩
 refine wpAny_bind (wpAny_standAt (wpAny_bind (wpAny_holding (aI (j a f U c x y v q J u _ d m A r b) ?_))))
 rintro _ C ⟨n,k,e⟩
 exact wpAny_release ⟨U,n,k,e⟩
def gC (a:TE) (g:TG):TS:=λD U H=>a U H λx H1=>g x U H1 D.nx
def lV (c:PE X e te) (j:PG X tg g) (b:swapsWithSole [tg] e pos.line X.env=pure false:=by rfl) (f:swappedStores [tg] e X.env=pure none:=by rfl)
 (h1:(assignEach [tg] X.env).map (·.2)= [assign tg X.env]:=by rfl):PS X (.Assign [tg] e pos) (gC te g):=by
 intro a s U H D I h
 refine wpAny_Assign_stores (aI (c a s U H _ I h) λv l ⟨x,m,k,i,d⟩=> ?_) b f
 rw [h1]
 exact aI (j a l U m x v _ k i d) λ_ n q=>q
def Cm (d:X.N.Nodup) (hi:X.N[i]? =y0 x) (f:ir X.env.scope x) (j:PE X e te) (c:swapsWith e (y0 (.Name x pos')) pos.line X.env=pure false:=by rfl) (g:X.fn x=k9\/X.env.scope.names.lookup x=y0 .local:=by first | exact .inl rfl | exact .inr rfl | assumption):
 PS X (.Assign [.Name x pos'] e pos) (gC te (ZR i)):=by
 intro a s U H D I h
 refine wpAny_Assign_Name (aI (j a s U H _ I h) λv p ⟨y,n,m,l,k⟩=> ?_) c
 exact zO m d hi f l (λo b=>⟨_,n,b,k⟩) g
end
section
variable {X:Cx}{pos:Pos}
def DZ (c:TT) (e:TS):TS:=λD U H=> ∃W:Nat->St->Hp->Prop,(∃ m,W m U H)/\ ∀m U H,W m U H →
 c U H λb H1=>if b=k9 then ∃N:St->Hp->Prop,(∀ a H',N a H'-> ∃d,d<m/\W d a H')/\e { D with nx:=N,ct:=N,bk:=D.nx } U H1 else D.nx U H1
def DS (u:PassesOwn (model X.prog X.w) X.A X.env X.xe) (B:PT X c tc) (E:cv X body tb):PS X (.While c body [] pos) (DZ tc tb):=by
 intro a s U H D I h
 obtain⟨W,⟨C,K⟩,g⟩:=h
 refine wpAny_While (codeAny_whileLoop (λn G=> ∃x y,Inv X a x y G/\W n x y) ?_ C ⟨U,H,I,K⟩)
 rintro n L ⟨k,z,J,F⟩
 refine wpAny_passesOwn u (aI (B a L k z _ J (g n k z F)) ?_)
 rintro b A ⟨r,t,i⟩
 cases b with
 | true=>
  obtain⟨N,w,i⟩:=i
  refine wpAny_passesOwn u (aI (E a A k r _ t i) λf M j=> ?_)
  cases f with
  | next=>
   obtain⟨d,e,m,l⟩:=j
   obtain⟨q,o,p⟩:=w d e l
   exact⟨q,o,d,e,m,p⟩
  | cont=>
   obtain⟨d,e,m,l⟩:=j
   obtain⟨q,o,p⟩:=w d e l
   exact⟨q,o,d,e,m,p⟩
  | brk=>exact j
  | ret v=>exact j
 | false=>
  exact wpAny_execs_nil ⟨k,r,t,i⟩
end
structure It where
 go:Nat->Hp->Prop
 eu:Nat->Hp->V->Hp->Prop
 stop:Nat->Hp->Prop
def eA (X:Cx) (a:List (Addr×Obj)) (H:Hp) (b:Addr):Prop:=
 H b=u0/\b≠X.env.locals/\b∉X.fs/\(b∈X.ex\/X.s₀.heap.objs.size<=b)/\(∀ x c,X.env.cells.lookup x=y0 c->c≠b)/\ ∀p∈X.pn++a,p.1≠b
def Inv.c6 (I:Inv X y8 U H s) (a:s.heap.objs.size<=b) (d:H' b=u0):eA X y8 H' b:=by
 refine⟨d,Nat.ne_of_gt (Ab5 I.lt a),I.nK a,.inr (Ac1 I.sz a),λx c e z=> ?_,λp f z=> ?_⟩
 ·obtain⟨v,q⟩:=I.cell x c e
  exact absurd (Ab5 q.lt (by rw [z];exact a)) (Af9 _)
 ·exact absurd (Ab5 (Ac (I.pin p f).1) (by rw [z];exact a)) (Af9 _)
structure gf (P:Program) (w:World) (K:Aa6) (tg:Expr) (J:It) (fp:List Addr) (it:Addr) (tn:Nat->Heap->Prop):Prop where
 mem:it∈fp
 obj: ∀i h,tn i h-> ∀b∈fp,∃o,h.get? b=y0 o/\ ∀v,o.data≠ .cell v
 keep: ∀i h h',tn i h->(∀ b∈fp,∀o,h.get? b=y0 o->h'.get? b=y0 o)->tn i h'
 item: ∀(X:Cx),X.prog=P->X.w=w->X.K=K->X.calm=k9-> ∀(i:Nat) (y8:List (Addr×Obj)) (s:Shared) (U:St) (H:Hp) (E:Value->Shared->Prop),Inv X y8 U H s->(∀ b∈fp,eA X y8 H b)->tn i s.heap->J.go i H →
  wpAny (model P w) X.A (pyNext (.ref it)) (λr s1=> ∃u,r=y0 u ∧
   wpAny (model P w) X.A (letOwnedTupleGo tg (.ref it) u) (λ_ s2=> ∃x H',Inv X y8 U H' s2/\RelV x u/\J.eu i H x H'/\tn (i+1) s2.heap/\ ∀b∈fp,H' b=u0) E s1) E s
 done: ∀(X:Cx),X.prog=P->X.w=w->X.K=K->X.calm=k9-> ∀(i:Nat) (y8:List (Addr×Obj)) (s:Shared) (U:St) (H:Hp) (E:Value->Shared->Prop),Inv X y8 U H s->(∀ b∈fp,eA X y8 H b)->tn i s.heap->J.stop i H →
  wpAny (model P w) X.A (pyNext (.ref it)) (λr s1=>r=u0/\Inv X y8 U H s1) E s
 self: ∀(A:Around) (i:Nat) (s:Shared) (Q:Value->Shared->Prop) (E:Value->Shared->Prop),tn i s.heap->Q (.ref it) s->wpAny (model P w) A (pyIter (.ref it)) Q E s
abbrev TI:=St->Hp->(It->Hp->Prop)->Prop
def rQ (X:Cx) (a:List (Addr×Obj)) (U:St) (tg:Expr) (R:It->Hp->Prop) (c:Value) (f:Shared):Prop:=
 ∃(e:Addr) (fp:List Addr) (d:Nat->Heap->Prop) (J:It) (H':Hp),c= .ref e/\Inv X a U H' f/\gf X.prog X.w X.K tg J fp e d/\d 0 f.heap/\(∀ b∈fp,eA X a H' b)/\R J H'
def PI (X:Cx) (tg a:Expr) (c:TI):Prop:=
 ∀(y8:List (Addr×Obj)) (s:Shared) (U:St) (H:Hp) (R:It->Hp->Prop),Inv X y8 U H s->c U H R →
  wpAny (model X.prog X.w) X.A (eval a X.env) (λv b=>wpAny (model X.prog X.w) X.A (pyIter v) (rQ X y8 U tg R) X.xe b) X.xe s
def Z7 (c:s.heap.get? it=y0 o) (d:o.cls= .type n) (hd:o.data= .fields vs)
 (b: ["enumerate", "zip", "dict_itemiterator", "dict_reverseitemiterator", "odict_iterator", "itertools.zip_longest", "itertools.pairwise"].contains n=false) (a:Q () s):wpAny M A (letOwnedTupleGo tg (.ref it) u) Q E s:=by
 unfold letOwnedTupleGo
 cases tg<;>first
  | exact wpAny_pure a
  | (cases u<;>first
      | exact wpAny_pure a
      | (refine wpAny_bind (wpAny_load c ?_)
         rw [d,hd]
         show wpAny M A (if (["enumerate", "zip", "dict_itemiterator", "dict_reverseitemiterator", "odict_iterator", "itertools.zip_longest", "itertools.pairwise"].contains n&&vs[0]? ==some (rawInt _))=true then _ else _) Q E s
         rw [if_neg (by intro h;rw [b,Bool.false_and]at h;cases h)]
         exact wpAny_pure a))
noncomputable def kr (K:Aa6) (a:Addr):It:=
 ⟨λi H=> ∃xs x,a9 K H a xs/\xs[i]? =y0 x,λi H x H'=>H'=H/\ ∀xs,a9 K H a xs->xs[i]? =y0 x,λi H=> ∃xs,a9 K H a xs/\xs.length<=i⟩
noncomputable def hJ (K:Aa6) (a:Addr):It:=
 ⟨λi H=> ∃xs x,b8 K H a xs/\xs[i]? =y0 x,λi H x H'=>H'=H/\ ∀xs,b8 K H a xs->xs[i]? =y0 x,λi H=> ∃xs,b8 K H a xs/\xs.length<=i⟩
def iD (a:Int) (n:Nat):It:=⟨λi _=>i<n,λi H x H'=>H'=H/\x= .int (a+i),λi _=>n<=i⟩
def Fi {K:Aa6}(a it):gf P w K tg (kr K a) [it] it (λi h=>h.IsListIter it a i) where
 mem:=by simp
 obj:=λi h f b j=>by
  have e:=by simpa using j
  subst e
  obtain⟨o,e,c,d⟩:=f
  exact⟨o,e,λv z=>by rw [d]at z;cases z⟩
 keep:=λi h q f k=>f.at λo e=>k it (by simp) o e
 item:=by
  intro X J B L M i g s U H E I n f F
  subst J B L
  obtain⟨W,x,m,r⟩:=F
  obtain⟨A,rv,p,S⟩:=I.list m
  obtain⟨u,Q,R⟩:=rv.get r
  obtain⟨t,y,O,G,D,C⟩:=n it (by simp)
  refine wpAny_pyNext_list_item f p.isList (by simpa using Q) λq l N=> ?_
  have T:Inv X g U H { s with heap:=q }:=I.turned (λb o j e=>(N.2 b j).trans e) t y G D C
  obtain⟨o,e,c,d⟩:=id l
  exact⟨u,rfl,Z7 e c d (by decide) ⟨x,H,T,R,⟨rfl,λZ V=>by rw [I.cK V m];exact r⟩,l,λb j=>(n b j).1⟩⟩
 done:=by
  intro X J B L M i g s U H E I n f F
  subst J B L
  obtain⟨W,m,r⟩:=F
  obtain⟨A,rv,p,S⟩:=I.list m
  obtain⟨t,y,O,G,D,C⟩:=n it (by simp)
  have hl:=rv.length
  exact wpAny_pyNext_list_end (I.ok.hd M) f p.isList (by simp;omega) λq Y=>⟨rfl,I.turned (λb o j e=>Y b o j e) t y G D C⟩
 self:=λ_ _ _ _ _ f h=>wpAny_pyIter_listiter f h
def J7 {K:Aa6}(a it):gf P w K tg (hJ K a) [it] it (λi h=>h.IsTupleIter it a i) where
 mem:=by simp
 obj:=λi h f b j=>by
  have e:=by simpa using j
  subst e
  obtain⟨o,e,c,d⟩:=f
  exact⟨o,e,λv z=>by rw [d]at z;cases z⟩
 keep:=λi h q f k=>f.at λo e=>k it (by simp) o e
 item:=by
  intro X J B L M i g s U H E I n f F
  subst J B L
  obtain⟨W,x,m,r⟩:=F
  obtain⟨A,rv,p,S⟩:=I.tuple m
  obtain⟨u,Q,R⟩:=rv.get r
  obtain⟨t,y,O,G,D,C⟩:=n it (by simp)
  refine wpAny_pyNext_tuple_item f (p) (by simpa using Q) λq l N=> ?_
  have T:Inv X g U H { s with heap:=q }:=I.turned (λb o j e=>(N.2 b j).trans e) t y G D C
  obtain⟨o,e,c,d⟩:=id l
  exact⟨u,rfl,Z7 e c d (by decide) ⟨x,H,T,R,⟨rfl,λZ V=>by rw [I.ek V m];exact r⟩,l,λb j=>(n b j).1⟩⟩
 done:=by
  intro X J B L M i g s U H E I n f F
  subst J B L
  obtain⟨W,m,r⟩:=F
  obtain⟨A,rv,p,S⟩:=I.tuple m
  obtain⟨t,y,O,G,D,C⟩:=n it (by simp)
  have hl:=rv.length
  exact wpAny_pyNext_tuple_end (I.ok.hd M) f (p) (by simp;omega) λq Y=>⟨rfl,I.turned (λb o j e=>Y b o j e) t y G D C⟩
 self:=λ_ _ _ _ _ f h=>wpAny_pyIter_tupleiter f h
def W7 {K:Aa6}(it) (lo) (n):gf P w K tg (iD lo n) [it] it (λi h=>IsRangeIter h it (lo+(i:Nat)*1) ((n:Int)-(i:Nat)) 1) where
 mem:=by simp
 obj:=λi h a b d=>by
  have e:=by simpa using d
  subst e
  exact⟨_,a,λv z=>by
   have D:=z
   cases D⟩
 keep:=λi h l a k=>k it (by simp) _ a
 item:=by
  intro X A y B j i c s U H E I g a u
  subst A y B
  obtain⟨m,p,C,x,r,q⟩:=g it (by simp)
  have W:=Walks.range (prog:=X.prog) (w:=X.w) (I.ok.hd j) it lo 1 n
  refine W.item i s _ _ u a λv l tk F f J=> ?_
  obtain⟨t,rfl⟩:=F
  have G:Inv X c U H { s with heap:=l,toks:=tk }:=I.turned (λb o d e=>J b o (by simpa using d) e) m p x r q
  refine⟨_,rfl,Z7 f rfl rfl (by decide) ⟨.int (lo+i),H,G,⟨t,?_⟩,⟨rfl,rfl⟩,f,λb d=>(g b d).1⟩⟩
  rw [Int.mul_one]
 done:=by
  intro X A y B j i c s U H E I g a u
  obtain⟨m,p,C,x,r,q⟩:=g it (by simp)
  exact wpAny_pyNext_range_end (I.ok.hd j) a (by have:n<=i:=u;omega) λl L=>⟨rfl,I.turned (λb o d e=>L b o d e) m p x r q⟩
 self:=λ_ _ _ _ _ a h=>wpAny_pyIter_rangeiter a h
section
variable {X:Cx}{tg:Expr}
def Q4 {a hi:Int}(I:Inv X y8 U H s) (h1: -(2 ^ 62)<=a) (g:a<2 ^ 62) (h: -(2 ^ 62)<=hi) (i:hi<2 ^ 62)
 (q:R (iD a (hi-a).toNat) H):wpAny (model X.prog X.w) X.A (pyIter (.ref s.heap.objs.size)) (rQ X y8 U tg R) E { s with heap:=s.heap.push { cls:= .type "range",data:= .fields #[.int a t,.int hi u,.int 1 v] },toks:=tk }:=by
 refine wpAny_pyIter_range (IsRange.new ..) (small_one h1 g h i) ?_
 have c:Inv X y8 U H { s with heap:=s.heap.push { cls:= .type "range",data:= .fields #[.int a t,.int hi u,.int 1 v] },toks:=tk }:=I.kept fun b o e=>Heap.get?_push_of_some _ e
 refine⟨(s.heap.push { cls:= .type "range",data:= .fields #[.int a t,.int hi u,.int 1 v] }).objs.size,[(s.heap.push { cls:= .type "range",data:= .fields #[.int a t,.int hi u,.int 1 v] }).objs.size],_,_,H,rfl,
  c.kept λb o e=>Aa8 _ e,W7 _ a (hi-a).toNat,?_,λb f=> ?_,q⟩
 ·have d:a+ (0:Nat)*1=a:=by simp
  have j: ((hi-a).toNat:Nat)- (0:Nat)=Builtin.Range.rangeSize a hi 1:=by rw [rangeSize_one];split<;>omega
  rw [d,j]
  exact Ab6 _ rfl
 ·have e:b=(s.heap.push { cls:= .type "range",data:= .fields #[.int a t,.int hi u,.int 1 v] }).objs.size:=by simpa using f
  subst e
  exact c.c6 (Aa7 _) (c.aR.fresh (Aa7 _))
def Hi (a:TA):TI:=λU H R=>a U H λb H1=> ∃j:Int,b= [.int j]/\ -(2 ^ 62)<=j/\j<2 ^ 62/\R (iD 0 j.toNat) H1
def BU (a:TA):TI:=λU H R=>a U H λb H1=> ∃i j:Int,b= [.int i,.int j]/\(-(2 ^ 62)<=i/\i<2 ^ 62/\ -(2 ^ 62)<=j/\j<2 ^ 62)/\R (iD i (j-i).toNat) H1
def vU (k:Gl X "range") (g:X.mg "range" =none) (n:PA X [a] ta) (f:starEach [a] X.env= [(false,eval a X.env)]:=by rfl):PI X tg (.Call (.Name "range" p) [a] [] pos) (Hi ta):=by
 intro b s U H R I h
 refine Call_ (jw I k g boot_range (PyProof.Rows.callWith_type1 (aI (n pos b s U H _ I h) λu o ⟨w,v,m,i,c⟩=> ?_) f rfl))
 obtain⟨j,e,c,d,q⟩:=c
 subst e
 cases i with
 | cons r l=>
  cases l
  obtain⟨t,rfl⟩:=r
  exact call_range_1 (Q4 m (by omega) (by omega) c d (by simpa using q))
def CU (v:Gl X "range") (n:X.mg "range" =none) (x:PA X [a,b] ta) (m:starEach [a,b] X.env= [(false,eval a X.env),(false,eval b X.env)]:=by rfl) (c:starEach [b] X.env= [(false,eval b X.env)]:=by rfl):
 PI X tg (.Call (.Name "range" p) [a,b] [] pos) (BU ta):=by
 intro d s U H R I h
 refine Call_ (jw I v n boot_range (PyProof.Rows.callWith_type1 (aI (x pos d s U H _ I h) λB A ⟨D,C,w,o,f⟩=> ?_) (by rw [m,c]) (by rw [c];rfl)))
 obtain⟨i,j,e,⟨f,k,l,y⟩,q⟩:=f
 subst e
 cases o with
 | cons r g=>
  cases g with
  | cons u g=>
   cases g
   obtain⟨t,rfl⟩:=r
   obtain⟨z,rfl⟩:=u
   exact call_range_2 (Q4 w f k l y q)
def Dx (c:TI) (g:TG) (e:TS):TS:=λD U H=>c U H λJ H1=> ∃W:Nat->Nat->St->Hp->Prop,(∃ m,W 0 m U H1)/\ ∀i m U H,W i m U H →
 (J.stop i H/\D.nx U H)\/(J.go i H/\ ∃N:St->Hp->Prop,(∀ a H',N a H'-> ∃b,b<m/\W (i+1) b a H')/\ ∀x H',J.eu i H x H'->g x U H' λd H2=>e { D with nx:=N,ct:=N,bk:=D.nx } d H2)
def QC (a:List Addr) (h:Heap):List (Addr×Obj):=a.filterMap λb=>(h.get? b).map λo=>(b,o)
def Jj (a:b∈fp) (e:h.get? b=y0 o):(b,o)∈QC fp h:=List.mem_filterMap.mpr ⟨b,a,by rw [e];rfl⟩
def JP (d:p∈QC fp h):p.1∈fp/\h.get? p.1=y0 p.2:=by
 obtain⟨b,a,e⟩:=List.mem_filterMap.mp d
 cases q:h.get? b with
 | none=>rw [q]at e;cases e
 | some o=>
  rw [q]at e
  have c:=Ag6.inj e
  subst c
  exact⟨a,q⟩
def Inv.pinned (I:Inv X y8 U H s) (g: ∀b∈fp,eA X y8 H b) (k: ∀b∈fp,∃o,s.heap.get? b=y0 o/\ ∀v,o.data≠ .cell v):Inv X (y8++QC fp s.heap) U H s:=
 I.bJ λp j=>(Ac8.mp j).elim (λz=>I.pin p (Ab0 _ z)) λz=>by
  obtain⟨a,e⟩:=JP z
  obtain⟨f,h,i,_⟩:=g p.1 a
  obtain⟨o,c,d⟩:=k p.1 a
  rw [e]at c;cases c
  exact⟨e,f,h,i,d⟩
def Inv.bM (I:Inv X (y8++pl) U H s):Inv X y8 U H s:=I.bJ λp a=>I.pin p (Ab0 _ (Ae7 _ a))
def DG (C:PassesOwn (model X.prog X.w) X.A X.env X.xe) (Y:X.calm=k9) (hi:PI X tg iter wi) (hg:PG X tg g) (k:cv X body tb)
 (hs: ∀x,foldedSetIterable iter X.env x=pure x:=by intro _;rfl):PS X (.For tg iter body [] pos) (Dx wi g tb):=by
 intro a s U H D I h
 refine wpAny_For (aI (hi a s U H _ I h) λv s1 h1=>aI h1 λitv s2 h2=> ?_) hs
 obtain⟨it,K,Z,J,H2,e,I2,T,R,f2,W,⟨m0,w0⟩,E⟩:=h2
 subst e
 have p: ∀ {t},(∀ b∈K,t b=u0)-> ∀b∈K,eA X a t b:=λhn b k=>⟨hn b k,(f2 b k).2⟩
 refine codeAny_forLoop_any (λn s'=> ∃i F t,Inv X a F t s'/\Z i s'.heap/\(∀ b∈K,t b=u0)/\W i n F t) ?_ m0 ⟨0,U,H2,I2,R,λb k=>(f2 b k).1,w0⟩
 rintro n V ⟨i,z,L,S,B,G,w3⟩
 rcases E i n z L w3 with⟨stop,qn⟩ | ⟨go,N,hN,step⟩
 ·refine wpAny_passesOwn C (aI (T.done X rfl rfl rfl Y i a V z L X.xe S (p G) B stop) ?_)
  rintro r s4 ⟨M,I4⟩
  subst M
  exact wpAny_execs_nil ⟨z,L,I4,qn⟩
 ·refine wpAny_passesOwn C (aI (T.item X rfl rfl rfl Y i a V z L X.xe S (p G) B go) ?_)
  rintro r s4 ⟨u,M,h4⟩
  subst M
  refine wpAny_passesOwn C (aI h4 ?_)
  rintro _ s5 ⟨x,H5,I5,r5,y5,y,Q⟩
  have O:=I5.pinned (p Q) (T.obj _ _ y)
  refine wpAny_passesOwn C (aI (hg _ s5 z H5 x u _ O r5 (step x H5 y5)) ?_)
  rintro _ s6 ⟨U6,H6,I6,q6⟩
  refine wpAny_passesOwn C (aI (k _ s6 U6 H6 _ I6 q6) λf P w=> ?_)
  have l: ∀ {j}{q},Inv X (a++QC K s5.heap) j q P->N j q-> ∃m,m<n/\ ∃i F t,Inv X a F t P/\Z i P.heap/\(∀ b∈K,t b=u0)/\W i m F t:=λ{j q} c A=>by
   obtain⟨m',hm,w7⟩:=hN j q A
   refine⟨m',hm,i+1,j,q,c.bM,T.keep _ _ _ y λb k o e=>(c.pin (b,o) (Ab0 _ (Ab0 _ (Jj k e)))).1,λb k=> ?_,w7⟩
   obtain⟨o,e,d⟩:=T.obj _ _ y b k
   exact(c.pin (b,o) (Ab0 _ (Ab0 _ (Jj k e)))).2.1
  cases f with
  | next=>obtain⟨j,q,c,A⟩:=w;exact l c A
  | cont=>obtain⟨j,q,c,A⟩:=w;exact l c A
  | brk=>obtain⟨j,q,c,w⟩:=w;exact⟨j,q,c.bM,w⟩
  | ret v=>obtain⟨x7,j,q,c,r7,w⟩:=w;exact⟨x7,j,q,c.bM,r7,w⟩
end
abbrev R2:=V->V->Hp->VK->Prop
def bK (X:Cx) (f:Value->Value->Sem Value) (r:R2):Prop:=
 ∀(y8:List (Addr×Obj)) (s:Shared) (U:St) (H:Hp) (x y:V) (v u:Value) (Q:VK),Inv X y8 U H s->RelV x v->RelV y u->r x y H Q →
  wpAny (model X.prog X.w) X.A (f v u) (EP X y8 U Q) X.xe s
def ni (X:Cx) (f:Value->Sem Value) (r:V->Hp->VK->Prop):Prop:=
 ∀(y8:List (Addr×Obj)) (s:Shared) (U:St) (H:Hp) (x:V) (v:Value) (Q:VK),Inv X y8 U H s->RelV x v->r x H Q →
  wpAny (model X.prog X.w) X.A (f v) (EP X y8 U Q) X.xe s
def Js (X:Cx) (f:Value) (r:List V->Hp->VK->Prop):Prop:=
 ∀(y8:List (Addr×Obj)) (s:Shared) (U:St) (H:Hp) (xs:List V) (a:List Value) (Q:VK),Inv X y8 U H s->Vals xs a->r xs H Q →
  wpAny (model X.prog X.w) X.A (call f a) (EP X y8 U Q) X.xe s
def uf (X:Cx) (r:V->Hp->(Bool->Hp->Prop)->Prop):Prop:=
 ∀(y8:List (Addr×Obj)) (s:Shared) (U:St) (H:Hp) (x:V) (v:Value) (Q:Bool->Hp->Prop),Inv X y8 U H s->RelV x v->r x H Q →
  wpAny (model X.prog X.w) X.A (truthy v) (TP X y8 U Q) X.xe s
def iJ (r:R2) (a b:TE):TE:=λU H Q=>a U H λx H1=>b U H1 λy H2=>r x y H2 Q
def vA (r:V->Hp->VK->Prop) (a:TE):TE:=λU H Q=>a U H λx H1=>r x H1 Q
def rI (C:Int->Int->Prop) (g:Int->Int->V):R2:=λx y H Q=> ∃i j,x= .int i/\y= .int j/\C i j/\Q (g i j) H
def gv (g:Int->Int->V):R2:=λx y H Q=> ∃i j,x= .int i/\y= .int j/\Q (g i j) H
def rU (g:Int->V):V->Hp->VK->Prop:=λx H Q=> ∃i,x= .int i/\Q (g i) H
section
variable {X:Cx}{a b c:Expr}{ta tb tc:TE}{pos:Pos}
def lY (m:PE X a ta) (k:PE X b tb){R:V->V->Hp->Prop}(I:Inv X y8 U H s)
 (h:ta U H λx H1=>tb U H1 λy H2=>R x y H2){f:Value->Value->Sem Value}
 (e: ∀v u J x y H2,Inv X y8 U H2 J->RelV x v->RelV y u->R x y H2->wpAny (model X.prog X.w) X.A (f v u) Q X.xe J):
 wpAny (model X.prog X.w) X.A (eval a X.env) (λv q=>wpAny (model X.prog X.w) X.A (eval b X.env) (λu i=>wpAny (model X.prog X.w) X.A (f v u) Q X.xe i) X.xe q) X.xe s:=by
 refine aI (m y8 s U H _ I h) ?_
 rintro v n ⟨x,H1,l,j,g⟩
 refine aI (k y8 n U H1 _ l g) ?_
 rintro u J ⟨y,H2,d,o,c⟩
 exact e v u J x y H2 d j o c
def D2 (i:bK X (binaryOp op) r) (k:PE X a ta) (j:PE X b tb):PE X (.BinOp a op b pos) (iJ r ta tb):=by
 intro c s U H Q I h
 exact wpAny_BinOp (lY k j I h λv u g x y e f d l q=>i c g U e x y v u Q f d l q)
def tN (i:ni X (unaryOp op) r) (d:PE X a ta):PE X (.UnaryOp op a pos) (vA r ta):=by
 intro b s U H Q I h
 exact UnaryOp_ (aI (d b s U H _ I h) λv e ⟨x,g,c,j,f⟩=>i b e U g x v Q c j f)
def kP {g:Int->Int->Int}
 (a: ∀ i j t u s Q E,C i j->Q (.int (g i j) s.toks) { s with toks:=s.toks+1 }->wpAny (model X.prog X.w) X.A (f (.int i t) (.int j u)) Q E s):
 bK X f (rI C λi j=> .int (g i j)):=by
 intro b s U H x y v u Q I c k h
 obtain⟨i,j,rfl,rfl,d,q⟩:=h
 obtain⟨t,rfl⟩:=c
 obtain⟨e,rfl⟩:=k
 exact a i j t e s _ _ d ⟨.int (g i j),H,I.tok _,⟨_,rfl⟩,q⟩
def sY {g:Int->Int->Int}
 (a: ∀ i j t u s Q E,Q (.int (g i j) s.toks) { s with toks:=s.toks+1 }->wpAny (model X.prog X.w) X.A (f (.int i t) (.int j u)) Q E s):
 bK X f (gv λi j=> .int (g i j)):=by
 intro b s U H x y v u Q I c e h
 obtain⟨i,j,rfl,rfl,q⟩:=h
 obtain⟨t,rfl⟩:=c
 obtain⟨d,rfl⟩:=e
 exact a i j t d s _ _ ⟨.int (g i j),H,I.tok _,⟨_,rfl⟩,q⟩
def lQ {g:Int->Int->Bool}
 (a: ∀ i j t u s Q E,Q (.bool (g i j)) s->wpAny (model X.prog X.w) X.A (f (.int i t) (.int j u)) Q E s):
 bK X f (gv λi j=> .bl (g i j)):=by
 intro b s U H x y v u Q I c e h
 obtain⟨i,j,rfl,rfl,q⟩:=h
 obtain⟨t,rfl⟩:=c
 obtain⟨d,rfl⟩:=e
 exact a i j t d s _ _ ⟨.bl (g i j),H,I,rfl,q⟩
def AD (i j:Int):Prop:=0<j/\j<1073741824
def AK (i j:Int):Prop:=0<=j/\j<=1000000/\i.natAbs<2 ^ 64
def g7 (i j:Int):Prop:=(-(2 ^ 64)<i/\i<2 ^ 64)\/(-(2 ^ 64)<j/\j<2 ^ 64)
def g7.ok (h:g7 i j):IntMulOk i j:=by
 rcases h with⟨b,a⟩ | ⟨b,a⟩
 ·exact .of_left (intBits_le_64 b a)
 ·exact .of_right (intBits_le_64 b a)
def EG:bK X (binaryOp .Add) (gv λi j=> .int (i+j)):=sY λ_ _ _ _ _ _ _ q=>add_int q
def Dw:bK X (binaryOp .Sub) (gv λi j=> .int (i-j)):=sY λ_ _ _ _ _ _ _ q=>sub_int q
def Br:bK X (binaryOp .Mult) (rI g7 λi j=> .int (i*j)):=kP λ_ _ _ _ _ _ _ a q=>mul_int q a.ok
def An:bK X (binaryOp .FloorDiv) (rI AD λi j=> .int (i / j)):=kP λi j _ _ _ _ _ a q=>by
 have c:=a.1
 have b:=a.2
 exact floordiv_int (by omega) (by rw [Int.fdiv_eq_ediv_of_nonneg i (by omega)];exact q) (.inl (PyProof.noPylong_small (by omega)))
def vp:bK X (binaryOp .Mod) (rI (λ_ j=>0<j) λi j=> .int (i % j)):=kP λi j _ _ _ _ _ a q=>by
 have b:=a
 exact mod_int' (by omega) (by rw [Int.fmod_eq_emod_of_nonneg i (by omega)];exact q)
def Ed:bK X (binaryOp .Pow) (rI AK λi j=> .int (i ^ j.toNat)):=kP λ_ _ _ _ _ _ _ a q=>pow_int_small a.1 a.2.1 a.2.2 q
def ym {g:Int->Int}
 (a: ∀ i t s Q E,Q (.int (g i) s.toks) { s with toks:=s.toks+1 }->wpAny (model X.prog X.w) X.A (f (.int i t)) Q E s):
 ni X f (rU λi=> .int (g i)):=by
 intro b s U H x v Q I c h
 obtain⟨i,rfl,q⟩:=h
 obtain⟨t,rfl⟩:=c
 exact a i t s _ _ ⟨.int (g i),H,I.tok _,⟨_,rfl⟩,q⟩
def tV:ni X (unaryOp .USub) (rU λi=> .int (-i)):=ym λ_ _ _ _ _ q=>neg_int q
end
section
variable {X:Cx}{a b c:Expr}{ta tb tc:TE}{pos:Pos}
def xR (I:Inv X y8 U H s) (q:Q (.bl k) H) (e:k=k'):EP X y8 U Q (.bool k') s:=by
 subst e
 exact⟨.bl k,H,I,rfl,q⟩
def Dz:bK X (compareOp .Lt) (gv λi j=> .bl (u9 (i<j))):=lQ λ_ _ _ _ _ _ _ q=>lt_int q
def Hn:bK X (compareOp .LtE) (gv λi j=> .bl (u9 (i<=j))):=lQ λ_ _ _ _ _ _ _ q=>le_int q
def BC:bK X (compareOp .Gt) (gv λi j=> .bl (u9 (j<i))):=lQ λ_ _ _ _ _ _ _ q=>gt_int q
def Bt:bK X (compareOp .GtE) (gv λi j=> .bl (u9 (j<=i))):=lQ λ_ _ _ _ _ _ _ q=>ge_int q
def vw:bK X (compareOp .Lt) (λx y H Q=> ∃i j,x= .str i/\y= .str j/\Q (.bl (u9 (i.cps.toList<j.cps.toList))) H):=by
 intro a s U H x y v u Q I b c h
 obtain⟨i,j,rfl,rfl,q⟩:=h
 obtain⟨t,rfl⟩:=b
 obtain⟨d,rfl⟩:=c
 exact lt_str (xR I q rfl)
def E3:bK X (compareOp .In) (λx y H Q=> ∃i j,x= .str i/\y= .str j/\Q (.bl (!(Builtin.Str.occurrences j i 0 j.length 1).isEmpty)) H):=by
 intro a s U H x y v u Q I b c h
 obtain⟨i,j,rfl,rfl,q⟩:=h
 obtain⟨t,rfl⟩:=b
 obtain⟨d,rfl⟩:=c
 exact in_str (xR I q rfl)
def EY (i:bK X (compareOp op) r) (l:PE X a ta) (k:PE X b tb) (j:behindInMarks op b=y9):PE X (.Compare a [op] [b] pos) (iJ r ta tb):=by
 intro c s U H Q I h
 exact wpAny_Compare1 (lY l k I h λv u g x y e f d m q=>i c g U e x y v u Q f d m q) j
def om (t:TE):TT:=λU H Q=>t U H λx H'=> ∃k,x= .bl k/\Q k H'
def yu (m:bK X (compareOp op) r) (C:PE X a ta) (t:PE X b tb) (p:behindInMarks op b=y9):PT X (.Compare a [op] [b] pos) (om (iJ r ta tb)):=by
 intro d s U H Q I h
 refine wpAny_isTrue_Compare1 (aI (C d s U H _ I h) λv D ⟨x,F,B,q,o⟩=>aI (t d D U F _ B o) λu l ⟨y,g,i,E,f⟩=>
  aI (m d l U g x y v u _ i q E f) λc G ⟨z,A,n,w,k,e,j⟩=> ?_) p
 subst e
 cases w
 exact wpAny_truthy_bool ⟨A,n,j⟩
def ng (r d:R2) (e g b:TE):TE:=λU H Q=>e U H λx H1=>g U H1 λy H2=>r x y H2 λz a=> ∃k,z= .bl k ∧
 (if k=k9 then b U a λc f=>d y c f Q else Q (.bl y9) a)
def yV (E:bK X (compareOp op) r) (g:bK X (compareOp op') r') (R:PE X a ta) (M:PE X b tb) (F:PE X c tc)
 (K:lastMarks [op,op'] [b,c]=false:=by with_unfolding_all rfl):PE X (.Compare a [op,op'] [b,c] pos) (ng r r' ta tb tc):=by
 intro f s U H Q I h
 refine Compare_chain (aI (R f s U H _ I h) λv S ⟨x,T,O,L,J⟩=>chain_link (aI (M f S U T _ O J) λu C ⟨y,t,w,m,q⟩=>
  aI (E f C U t x y v u _ w L m q) λd n ⟨z,l,j,N,k,e,i⟩=> ?_)) K
 subst e
 cases N
 refine wpAny_truthy_bool ?_
 cases k with
 | false=>exact ite_ff ⟨.bl y9,l,j,rfl,i⟩
 | true=>exact ite_tt (chain_last (aI (F f n U l _ j i) λp o ⟨B,A,G,D,P⟩=>g f o U A y B u p Q G m D P))
def AF (G:bK X (compareOp op) r) (g:bK X (compareOp op') r') (Z:PE X a ta) (S:PE X b tb) (J:PE X c tc)
 (M:lastMarks [op,op'] [b,c]=false:=by with_unfolding_all rfl):PT X (.Compare a [op,op'] [b,c] pos) (om (ng r r' ta tb tc)):=by
 intro f s U H Q I h
 refine isTrue_chain (aI (Z f s U H _ I h) λv s1 ⟨x,H1,W,O,L⟩=>test_link (aI (S f s1 U H1 _ W L) λu E ⟨y,t,w,m,q⟩=>
  aI (G f E U t x y v u _ w O m q) λd n ⟨z,l,j,R,k,e,i⟩=> ?_)) M
 subst e
 cases R
 refine wpAny_truthy_bool ?_
 cases k with
 | false=>
  obtain⟨k',B,V⟩:=i
  cases B
  exact ite_ff ⟨l,j,V⟩
 | true=>
  refine ite_tt (test_last (aI (J f n U l _ j i) λp o ⟨C,A,K,F,Y⟩=>aI (g f o U A y C u p _ K m F Y) ?_))
  rintro d' s5 ⟨z2,T,P,N,k2,D,q5⟩
  subst D
  cases N
  exact wpAny_truthy_bool ⟨T,P,q5⟩
def gL (K:Aa6) (x:V) (H:Hp) (k:Bool):Prop:=
 match x with
 | .az=>k=y9
 | .bl b=>k=b
 | .int i=>k=(i != 0)
 | .str y=>y.length<=sizeLine/\k=((y.length:Int) != 0)
 | .ia y=>y.size<=sizeLine/\k=((y.size:Int) != 0)
 | .ref p=>(∃ xs,a9 K H p xs/\k= !xs.isEmpty)\/(∃ xs,b8 K H p xs/\k= !xs.isEmpty)\/ ∃a,H p=y0 (.dK a)/\k= !a.isEmpty
 | _=>False
def uU (r:KV kvs vs):(!vs.isEmpty)= !kvs.isEmpty:=by
 cases r<;>rfl
def QI (r:Vals xs its):(!its.toArray.isEmpty)= !xs.isEmpty:=by
 cases r<;>simp
def wF:(sizeLine:Nat)<2 ^ 63:=by rw [sizeLine_eq];decide
def w5:uf X (λx H Q=> ∃k,gL X.K x H k/\Q k H):=by
 intro o s U H x v Q I d h
 obtain⟨k,e,q⟩:=h
 have C:=wF
 have B:=sizeLine_eq
 cases x with
 | az=>
  cases d
  have a:=e
  subst a
  exact truthy_none ⟨H,I,q⟩
 | bl b=>
  cases d
  have a:=e
  subst a
  exact wpAny_truthy_bool ⟨H,I,q⟩
 | int i=>
  obtain⟨t,rfl⟩:=d
  have a:=e
  subst a
  exact PySem.P.truthy_int ⟨H,I,q⟩
 | str y=>
  obtain⟨t,rfl⟩:=d
  obtain⟨w,a⟩:y.length<=sizeLine/\k=((y.length:Int) != 0):=e
  subst a
  exact PySem.P.truthy_str (by omega) ⟨H,I.tok _,q⟩
 | ia y=>
  obtain⟨t,rfl⟩:=d
  obtain⟨w,a⟩:y.size<=sizeLine/\k=((y.size:Int) != 0):=e
  subst a
  exact PySem.W.truthy_bytes (by omega) ⟨H,I.tok _,q⟩
 | ref p=>
  cases d
  have a:=e
  rcases a with⟨z,f,a⟩ | ⟨z,f,a⟩ | ⟨g,f,a⟩
  ·subst a
   obtain⟨j,r,l,u⟩:=I.list f
   have c:=r.length
   exact wpAny_truthy_list l.isList (by simp only [Aa9];omega) ⟨H,I.tok _,by rw [QI r];exact q⟩
  ·subst a
   obtain⟨j,r,l,u⟩:=I.tuple f
   have c:=r.length
   exact truthy_tuple l (by simp only [Aa9];omega) ⟨H,I.tok _,by rw [QI r];exact q⟩
  ·subst a
   obtain⟨u,A,n,r,m⟩:g.length<=sizeLine/\(p==sysModules)=y9/\ ∃n,KV g n/\s.heap.DictOf (ZV X.prog X.w) p n:=I.aR p _ f
   have c:=Paired.length r
   exact wpAny_truthy_dict A m (by omega) ⟨H,I.tok _,by rw [uU r];exact q⟩
 | _=>exact(e).elim
def vJ (g:PE X a ta) (c: ∀i,isTrue a X.env i=(do let v ←i;standAt a.pos;holding [v] (truthy v))):
 PT X a (λU H Q=>ta U H λx H'=> ∃k,gL X.K x H' k/\Q k H'):=by
 intro b s U H Q I h
 exact isTrue_plain (aI (g b s U H _ I h) λv j ⟨x,l,f,e,d⟩=>w5 b j U l x v Q f e d) (c _)
def j9:bK X (binaryOp .Add) (λx y H Q=> ∃i j,x= .str i/\y= .str j/\i.length+j.length<=sizeLine/\Q (.str (i++j)) H):=by
 intro a s U H x y v u Q I b e h
 obtain⟨i,j,rfl,rfl,d,q⟩:=h
 obtain⟨t,rfl⟩:=b
 obtain⟨c,rfl⟩:=e
 exact add_str (λc tk=>⟨.str (i++j),H,I.tok _,⟨_,rfl⟩,q⟩) d
def wI (r:Vals [x] us): ∃u,us= [u]/\RelV x u:=by
 cases r with
 | cons a b=>cases b;exact⟨_,rfl,a⟩
def rF (r:Vals [x,y] us): ∃u i,us= [u,i]/\RelV x u/\RelV y i:=by
 cases r with
 | cons d b=>
  cases b with
  | cons a c=>cases c;exact⟨_,_,rfl,d,a⟩
def zU:Js X (.type "int") (fun xs H Q=>(∃ i,xs= [.int i]/\Q (.int i) H)\/ ∃k,xs= [.bl k]/\Q (.int (if k then 1 else 0)) H):=by
 intro a s U H xs c Q I r h
 rcases h with⟨i,rfl,q⟩ | ⟨k,rfl,q⟩
 ·obtain⟨u,rfl,t,rfl⟩:=wI r
  exact call_int_int ⟨.int i,H,I,⟨_,rfl⟩,q⟩
 ·obtain⟨u,rfl,b⟩:=wI r
  cases b
  exact call_int_bool ⟨.int (if k then 1 else 0),H,I.tok _,⟨_,rfl⟩,q⟩
end
structure dU (h:Heap) (x dx C:Addr) (mA:Str->Option Value):Prop where
 obj:h.get? x=y0 (Ah4 C dx)
 ns:h.Ns1 dx mA
 ne:dx≠x
def uQ {h:Heap}(n:h.Ns1 dx mA): ∃i,h.get? dx=y0 i/\ ∀name,Ak2 name i=y0 (mA name):=by
 obtain⟨o,c,l,d,hd,j,_,f⟩:=n
 refine⟨o,d,λname=> ?_⟩
 have e:=f name
 unfold nsFind findBy at e
 rw [← Array.find?_toList]at e
 unfold Ak2
 rw [hd]
 dsimp only
 split
 ·rename_i y q
  rw [q]at e
  exact congrArg y0 e
 ·rename_i q
  rw [q]at e
  have a:c.toList.any (·.refKey)=false:=by
   rw [List.any_eq_false]
   intro y k
   obtain⟨z,t,b⟩:=j y (Array.mem_toList_iff.mp k)
   simp [DictEntry.refKey,b]
  have g: ¬c.toList.any (·.refKey)=true:=by rw [a];exact Ab4
  rw [if_neg g]
  exact congrArg y0 e
def dU.look (I:dU h x dx C mA): ∃i,PySem.W.InstAt h x (Ah4 C dx) C (y0 i)/\ ∀name,Ak2 name i=y0 (mA name):=
 let ⟨i,b,a⟩:=uQ I.ns
 ⟨i,⟨I.obj,rfl,rfl,b⟩,a⟩
section
variable {prog:Program}{w:World}{A:Around}{E:Value->Shared->Prop}{s:Shared}{K:Aa6}{x dx C f:Addr}{mA:Str->Option Value}{name:Str}{v:Value}
def Ay (X:K.In s.heap) (I:dU s.heap x dx C mA) (f:Aj4 K C name=k9) (c:PySem.W.hasDictIn K C=k9)
 (b:Ah8 K (.ref C) name=y0 u0) (e:mA name=y0 v) (a:PySem.W.handedIn v=k9) (h:Q v { s with toks:=s.toks+1 }):
 wpAny (model prog w) A (getAttr (.ref x) name expr) Q E s:=by
 obtain⟨g,J,d⟩:=I.look
 exact PySem.W.get_value X J (Ak5 f).1 (PySem.W.findObj_own c b rfl (by rw [d,e])) a h
def uL (X:K.In s.heap) (I:dU s.heap x dx C mA) (a:Aj4 K C name=k9)
 (b:Ah8 K (.ref C) name=y0 (y0 (.ref f))) (e:PySem.W.isFn K (.ref f)=k9) (d:mA name=u0) (h:Q (.ref f,[.ref x]) s):
 wpAny (model prog w) A (getMethod (.ref x) name pl) Q E s:=by
 obtain⟨g,J,c⟩:=I.look
 exact PySem.W.method_fn X J (Ak5 a).1 (Ak5 a).2 b (beq_iff_eq.mp e) (by show(Ak2 name g).map (·.isSome)=y0 y9;rw [c,d];rfl) h
def vO (X:K.In s.heap) (I:dU s.heap x dx C mA)
 (m:PySem.W.findIn K (.ref C) "__setattr__" =some (some (.builtin "object.__setattr__"))) (i:PySem.W.plainOver K C=true) (j:PySem.W.takerIn K C name=some none) (r:PySem.W.hasDictIn K C=true)
 (p:PySem.Within mA ns) (l:ns.length<=sizeLine)
 (h: ∀h',dU h' x dx C (λy=>if y=name then y0 v else mA y)->Heap.SameBut dx s.heap h'->Q () { s with heap:=h',toks:=s.toks+2 }):
 wpAny (model prog w) A (setAttr (.ref x) name v) Q E s:=by
 obtain⟨z,J,B⟩:=I.look
 refine PySem.W.set_plain X J m (PySem.W.osa_open X J i j λb=> ?_)
 obtain⟨u,k,f⟩:=PySem.W.any_some r
 have o:=I.obj
 refine wpAny_bind (wpAny_pure (wpAny_bind (wpAny_bind (wpAny_loadPart o (wpAny_bind (PySem.W.Looks.here (PySem.W.looks_clsIn X k) ?_))))))
 rw [f]
 refine wpAny_pure (wpAny_bind (wpAny_pure (wpAny_bind ?_)))
 refine wpAny_nsSet1 I.ns λh' a c=> ?_
 obtain⟨t,n,q,d,g,e⟩:=a.count (PySem.Within.cons name v p)
 refine wpAny_bind (wpAny_lookBehind d (by rw [g];exact pastItsLine_dict (Ac1 e (by rw [Aa0];omega))) ?_)
 exact wpAny_pure (h _ ⟨(c.2 _ (Ne.symm I.ne)).trans I.obj,a,I.ne⟩ c)
def Fg (X:K.In s.heap) (c:PySem.W.makesIn K C=k9)
 (hi:PySem.W.findIn K (.ref C) "__init__" =some (some (.ref f))) (b:PySem.W.typeIn K (.ref f)=some (.type "function"))
 (h:codeAny (model prog w) (A.under (.builtin "type.__call__" ⟨.ref C::vs,kw⟩)) (.call (.ref f) ⟨.ref (s.heap.objs.size+1)::vs,kw⟩) (PySem.W.InitBack (s.heap.objs.size+1) R)
   { s with heap:=(s.heap.push Ag).push (Ah4 C s.heap.objs.size) }):
 codeAny (model prog w) A (.call (.ref C) ⟨vs,kw⟩) R s:=by
 obtain⟨i,g,d,t,e⟩:=s
 exact PySem.W.make_core (PySem.W.makes_of X c) (PySem.W.looks_findIn X hi) (λa=>PySem.W.bind_fn X a b) (.inl rfl) h
end
noncomputable def aY (f:Str) (v:V):List (Str×V)->List (Str×V)
 | []=> [(f,v)]
 | (g,x)::r=>if g=f then(g,v)::r else(g,x)::aY f v r
theorem xH (f g) (v): ∀fs:List (Str×V),(aY f v fs).lookup g=if g=f then y0 v else fs.lookup g
 | []=>by
  show Ai g [(f,v)]=_
  by_cases h:g=f
  ·have a:=beq_iff_eq.mpr h
   simp only [Ai,a,if_pos h]
  ·have a:=beq_eq_false_iff_ne.mpr h
   simp only [Ai,a,if_neg h]
 | (k,x)::r=>by
  have c:=xH f g v r
  rw [show aY f v ((k,x)::r)=(if k=f then(k,v)::r else(k,x)::aY f v r)from rfl]
  by_cases b:k=f
  ·rw [if_pos b]
   by_cases h:g=k
   ·have a:=beq_iff_eq.mpr h
    simp only [Ai,a,if_pos (h.trans b)]
   ·have a:=beq_eq_false_iff_ne.mpr h
    simp only [Ai,a,if_neg (λe:g=f=>h (e.trans b.symm))]
  ·rw [if_neg b]
   by_cases h:g=k
   ·have a:=beq_iff_eq.mpr h
    simp only [Ai,a,if_neg (λe:g=f=>b (h.symm.trans e))]
   ·have a:=beq_eq_false_iff_ne.mpr h
    simp only [Ai,a]
    exact c
theorem WE (f) (v): ∀fs:List (Str×V),f∈(aY f v fs).map (·.1)/\ ∀g,g∈fs.map (·.1)->g∈(aY f v fs).map (·.1)
 | []=>⟨by simp [aY],λg h=>by simp at h⟩
 | (k,x)::r=>by
  obtain⟨i1,i2⟩:=WE f v r
  rw [show aY f v ((k,x)::r)=(if k=f then(k,v)::r else(k,x)::aY f v r)from rfl]
  by_cases a:k=f
  ·rw [if_pos a]
   subst a
   exact⟨by simp,λg h=>by simpa using h⟩
  ·rw [if_neg a]
   refine⟨?_,λg h=> ?_⟩
   ·rw [Ab3]
    exact Aa5 _ i1
   ·rw [Ab3]at h ⊢
    rcases Aa.mp h with e | e
    ·exact Aa.mpr (.inl e)
    ·exact Aa5 _ (i2 g e)
theorem wE (f) (v): ∀fs:List (Str×V),(aY f v fs).length<=fs.length+1
 | []=>by simp [aY]
 | (k,x)::r=>by
  have b:=wE f v r
  rw [show aY f v ((k,x)::r)=(if k=f then(k,v)::r else(k,x)::aY f v r)from rfl]
  by_cases a:k=f
  ·rw [if_pos a,Aa0,Aa0];omega
  ·rw [if_neg a,Aa0,Aa0];omega
def c5.some_of (r:c5 (y0 v) o): ∃u,o=y0 u/\RelV v u:=by
 cases o with
 | none=>exact(r).elim
 | some u=>exact⟨u,rfl,r⟩
def c5.none_of (r:c5 u0 o):o=none:=by
 cases o with
 | none=>rfl
 | some u=>exact(r).elim
def ER (r:RelV v u):PySem.W.handedIn u=true:=by
 cases v with
 | az=>cases (r);rfl
 | bl b=>cases (r);rfl
 | int i=>obtain⟨t,e⟩:=(r);cases e;rfl
 | str x=>obtain⟨t,e⟩:=(r);cases e;rfl
 | ia b=>obtain⟨t,e⟩:=(r);cases e;rfl
 | gH b=>obtain⟨t,e⟩:=(r);cases e;rfl
 | ref a=>cases (r);rfl
 | ty n=>cases (r);rfl
section
variable {P:Program}{w:World}{H H':Hp}{h h':Heap}{a C dx:Addr}{fs fs':List (Str×V)}
def ZO (b:cq P w H h) (e:H a=y0 (.ins C dx fs)): ∃mA,dU h a dx C mA/\(∀ f,c5 (fs.lookup f) (mA f))/\PySem.Within mA (fs.map (·.1))/\fs.length<=1000/\H dx=y0 (.own a):=by
 obtain⟨d,z,ne,c,mA,n,r,q⟩:=(show aN P w H h a (.ins C dx fs)from b a _ e)
 exact⟨mA,⟨c,n,ne⟩,r,q,z,d⟩
end
structure dr (K:Aa6) (C:Addr):Prop where
 pg:Aj4 K C Str.empty=k9
 hd:PySem.W.hasDictIn K C=k9
 po:PySem.W.plainOver K C=k9
 sa:PySem.W.findIn K (.ref C) "__setattr__" =some (some (.builtin "object.__setattr__"))
def dr.get {K:Aa6}(c:dr K C) (f):Aj4 K C f=true:=c.pg
def bP (K:Aa6) (C:Addr) (f:Str):Prop:=Ah8 K (.ref C) f=y0 u0
def bP.iI {K:Aa6}(n:bP K C f):PySem.W.takerIn K C f=y0 none:=by
 unfold PySem.W.takerIn
 rw [show Ah8 K (.ref C) f=y0 u0 from n]
 rfl
structure Hv (K:Aa6) (C:Addr) (f:Str) (v:V) (u:Value):Prop where
 at_:Ah8 K (.ref C) f=y0 (y0 u)
 rel:RelV v u
 get:PySem.W.specialIn K u "__get__" =some none
 cp:PySem.W.copiedNames.contains f=y9
structure i6 (K:Aa6) (C:Addr) (m:Str) (f:Addr):Prop where
 at_:Ah8 K (.ref C) m=y0 (y0 (.ref f))
 fn:PySem.W.isFn K (.ref f)=k9
 kp:Af7 K (.ref f)=k9
section
variable {X:Cx}{y8:List (Addr×Obj)}{U:St}{H:Hp}{s:Shared}{a C dx:Addr}{fs:List (Str×V)}{f:Str}{v:V}{A:Around}{E:Value->Shared->Prop}
def A4 (I:Inv X y8 U H s) (e:H a=y0 (.ins C dx fs)) (c:dr X.K C) (n:bP X.K C f) (l:fs.lookup f=y0 v)
 (h: ∀u s',Inv X y8 U H s'->RelV v u->Q u s'):wpAny (model X.prog X.w) A (getAttr (.ref a) f b) Q E s:=by
 obtain⟨i,O,r,_,_,_⟩:=ZO I.aR e
 obtain⟨u,g,d⟩:=c5.some_of (by rw [← l];exact r f)
 exact Ay I.b0 O (c.get f) c.hd n g (ER d) (h u _ (I.tok _) d)
def XI (I:Inv X y8 U H s) (e:H a=y0 (.ins C dx fs)) (c:dr X.K C) (k:i6 X.K C m g) (l:fs.lookup m=u0)
 (h:Q (.ref g,[.ref a]) s):wpAny (model X.prog X.w) A (getMethod (.ref a) m pl) Q E s:=by
 obtain⟨d,O,r,_,_,_⟩:=ZO I.aR e
 have b:=c5.none_of (by rw [← l];exact r m)
 exact uL I.b0 O (c.get m) k.at_ k.fn b h
def W9 (I:Inv X y8 U H s) (e:H a=y0 (.ins C dx fs)) (c:dr X.K C) (n:bP X.K C f) (B:fs.length<1000) (x:RelV y u)
 (h: ∀s',Inv X y8 U (aP H a (.ins C dx (aY f y fs))) s'->Q () s'):wpAny (model X.prog X.w) A (setAttr (.ref a) f u) Q E s:=by
 obtain⟨k,O,r,j,_,i⟩:=ZO I.aR e
 have w:(fs.map (·.1)).length<=sizeLine:=by rw [Ab1,sizeLine_eq];omega
 refine vO I.b0 O c.sa c.po n.iI c.hd j w λp d l=>h _ ?_
 have hd: ∃o,p.get? dx=y0 o:=let ⟨o,_,_,m,_⟩:=d.ns; ⟨o,m⟩
 refine I.write (by rw [e];exact True.intro) (.inr i) (λb q t z=>(l.2 b t).trans z) hd ?_
 refine⟨by rw [Xa O.ne];exact i,?_,O.ne,d.obj,_,d.ns,λg=> ?_,λg v=> ?_⟩
 ·have:=wE f y fs;omega
 ·show c5 ((aY f y fs).lookup g) (if g=f then y0 u else k g)
  rw [xH]
  by_cases q:g=f
  ·rw [if_pos q,if_pos q];exact x
  ·rw [if_neg q,if_neg q];exact r g
 ·by_cases q:g=f
  ·rw [q];exact(WE f y fs).1
  ·refine(WE f y fs).2 g (j g λz=>v ?_)
   show(if g=f then y0 u else k g)=u0
   rw [if_neg q];exact z
def Inv.made (I:Inv X y8 U H s):Inv X y8 U (aP (aP H s.heap.objs.size (.own (s.heap.objs.size+1))) (s.heap.objs.size+1) (.ins C s.heap.objs.size []))
 { s with heap:=(s.heap.push Ag).push (Ah4 C s.heap.objs.size) }:=by
 have a:(s.heap.push Ag).get? s.heap.objs.size=y0 Ag:=Ab6 s.heap rfl
 have h:=by
  have:=Ab6 (s.heap.push Ag) (o:=Ah4 C s.heap.objs.size) rfl
  rwa [Ai4]at this
 have d:(s.heap.push Ag).Ns s.heap.objs.size (λ_=>u0):=⟨Ag, #[],_,a,rfl,(λe f=>absurd f (by simp)),λ_=>rfl⟩
 have c:=I.laid (o:= .own (s.heap.objs.size+1)) (t':=s.toks) (λb u q=>Aa8 _ q) (Aa7 _) ⟨_,a⟩
 refine c.laid (λb u q=>Aa8 _ q) (Ak6 (Ai4 _ _)) ?_
 have ne:s.heap.objs.size≠s.heap.objs.size+1:=Ac3 (Af1 _)
 refine⟨by rw [Xa ne,We],Ae8 _,ne,h,λ_=>u0,(Heap.Ns1.of_empty d).at λo q=>Aa8 _ q,λ_=>True.intro,λy g=>absurd rfl g⟩
def Cn (a:attributeBase e f env (eval e env)=eval e env)
 (h:wpAny (model prog w) A (eval e env) (λo i=>wpAny (model prog w) A (getAttr o f k9) Q E i) E s):wpAny (model prog w) A (eval (.Attribute e f pos) env) Q E s:=
 Attribute_any_ h (by rw [arm_eval_Attribute,a])
end
def BM (K:Aa6) (b:TE) (f:Str):TE:=λU H Q=>b U H λx H1=> ∃a C dx fs v,x= .ref a/\H1 a=y0 (.ins C dx fs)/\dr K C/\bP K C f/\fs.lookup f=y0 v/\Q v H1
def BZ (K:Aa6) (b c:TE) (f:Str):TS:=λD U H=>c U H λy H1=>b U H1 λx H2=> ∃a C dx fs,x= .ref a/\H2 a=y0 (.ins C dx fs)/\dr K C/\bP K C f/\fs.length<1000 ∧
 D.nx U (aP H2 a (.ins C dx (aY f y fs)))
section
variable {X:Cx}{o e value:Expr}{f:Str}{pos pos' tpos:Pos}{ta tv:TE}
def EJ (j:PE X e ta) (k:attributeBase e f X.env (eval e X.env)=eval e X.env):PE X (.Attribute e f pos) (BM X.K ta f):=by
 intro b s U H Q I h
 refine Cn k (aI (j b s U H _ I h) ?_)
 rintro u y ⟨x,p,m,d,a,C,w,fs,v,ex,o,c,n,l,q⟩
 subst ex
 obtain rfl:u=Value.ref a:=d
 exact A4 m o c n l λr t g i=>⟨v,p,g,i,q⟩
def CC (r:PE X o ta) (m:PE X value tv) (j:swapsWith value (y0 (.Attribute o f pos')) pos.line X.env=pure y9):PS X (.Assign [.Attribute o f pos'] value pos) (BZ X.K ta tv f):=by
 intro b s U H D I h
 refine plainObj_wpAny_Assign_Attribute (aI (m b s U H _ I h) λu t ⟨y,w,p,z,q⟩=>aI (r b t U w _ p q) λi E ⟨x,B,g,d,a,C,F,fs,ex,v,c,n,l,e⟩=> ?_) j
 subst ex
 obtain rfl:i=Value.ref a:=d
 exact W9 g v c n l z λA k=>⟨U,_,k,e⟩
end
section
variable {X:Cx}{y8:List (Addr×Obj)}{U:St}{H:Hp}{s:Shared}{A:Around}{E:Value->Shared->Prop}{Q:Value->Shared->Prop}{c:Value}{b:Bool}
inductive eG (K:Aa6) (H:Hp):V->Value->Prop where
 | az:eG K H .az (.type "NoneType")
 | bl (x:Bool):eG K H (.bl x) (.type "bool")
 | int (i:Int):eG K H (.int i) (.type "int")
 | str (x:Str):eG K H (.str x) (.type "str")
 | gH (x:UInt64):eG K H (.gH x) (.type "float")
 | lst {a:Addr}{xs:List V}(e:H a=y0 (.lst xs)):eG K H (.ref a) (.type "list")
 | dM {a:Addr}{o:Obj}{xs:List V}(e:H a=y0 (.dM o (.lst xs))):eG K H (.ref a) (.type "list")
 | tup {a:Addr}{xs:List V}(e:H a=y0 (.tup xs)):eG K H (.ref a) (.type "tuple")
 | dK {a:Addr}{kvs:List (dP×V)}(e:H a=y0 (.dK kvs)):eG K H (.ref a) (.type "dict")
 | dT {a:Addr}{kvs:List (List dP×V)}(e:H a=y0 (.dT kvs)):eG K H (.ref a) (.type "dict")
 | ins {a C dx:Addr}{fs:List (Str×V)}(e:H a=some (.ins C dx fs)) (cl:dr K C) (ha:PySem.W.findIn K (.ref C) "__class__" =some (some (.builtin "object.__class__")))
  (hn:PySem.W.specialIn K (.builtin "object.__class__") "__get__" =some (some (.builtin "getset_descriptor.__get__"))) (htk:PySem.W.takesIn K (.builtin "object.__class__")=some true)
  (hm:PySem.W.mroIn K C (.type "object")=some true):eG K H (.ref a) (.ref C)
def Jk (I:Inv X y8 U H s) (d:RelV x u) (ty:eG X.K H x t) (e:PySem.W.kitOne X.K t c=y0 b) (h: ∀tk,Q (.bool b) { s with toks:=tk }):
 wpAny (model X.prog X.w) A (call (.builtin "isinstance") [u,c]) Q E s:=by
 cases ty with
 | az=>cases (show u=Value.none from d);exact Ae1 PySem.W.kitx_none I.b0 True.intro e (λz=>nomatch z) h
 | bl y=>cases (show u=Value.bool y from d);exact Ae1 PySem.W.kitx_bool I.b0 True.intro e (λz=>nomatch z) h
 | int i=>obtain⟨t,q⟩:=(show ∃t,u=Value.int i t from d);cases q;exact Ae1 PySem.W.kitx_int I.b0 True.intro e (λz=>nomatch z) h
 | str y=>obtain⟨t,q⟩:=(show ∃t,u=Value.str y t from d);cases q;exact Ae1 PySem.W.kitx_str I.b0 True.intro e (λz=>nomatch z) h
 | gH y=>obtain⟨t,q⟩:=(show ∃t,u=Value.float y t from d);cases q;exact Ae1 PySem.W.kitx_float I.b0 True.intro e (λz=>nomatch z) h
 | @lst a k f=>
  cases (show u=Value.ref a from d)
  obtain⟨_,_,n,_,g⟩:=(show aN X.prog X.w H s.heap a (.lst k)from I.aR a _ f)
  exact Ae1 Al I.b0 ⟨_,g,rfl⟩ e (λz=>nomatch z) h
 | @dM a B k f=>
  cases (show u=Value.ref a from d)
  obtain⟨_,_,_,n,_,g⟩:=(show aN X.prog X.w H s.heap a (.dM B (.lst k))from I.aR a _ f)
  exact Ae1 Al I.b0 ⟨_,g,rfl⟩ e (λz=>nomatch z) h
 | @tup a k f=>
  cases (show u=Value.ref a from d)
  obtain⟨_,_,_,p⟩:=(show aN X.prog X.w H s.heap a (.tup k)from I.aR a _ f)
  obtain⟨o,g,l,_⟩:=p
  exact Ae1 PySem.W.kitx_tuple I.b0 ⟨o,g,l⟩ e (λz=>nomatch z) h
 | @dK a j f=>
  cases (show u=Value.ref a from d)
  obtain⟨_,_,N,_,p⟩:=(show aN X.prog X.w H s.heap a (.dK j)from I.aR a _ f)
  obtain⟨o,v,F,g,l,_⟩:=p
  exact Ae1 PySem.W.kitx_dict I.b0 ⟨o,g,l.1⟩ e (λz=>nomatch z) h
 | @dT a j f=>
  cases (show u=Value.ref a from d)
  obtain⟨_,_,k,_,o,v,F,g,l,_⟩:=(show aN X.prog X.w H s.heap a (.dT j)from I.aR a _ f)
  exact Ae1 PySem.W.kitx_dict I.b0 ⟨o,g,l.1⟩ e (λz=>nomatch z) h
 | @ins a C K fs f r G D m w=>
  cases (show u=Value.ref a from d)
  obtain⟨M,O,_⟩:=ZO I.aR f
  obtain⟨L,J,_⟩:=O.look
  exact Ae1 (PySem.W.kitx_own (r.get _) r.hd G D m w) I.b0 J e (λz=>nomatch z) h
end
structure aV (k:Nat) (A:Around):Prop where
 hd:A.handled=u0
 dp:A.depth+k+5<recursionLimit
 un:A.units+16*k+200<cLine
def aV.mono (r:aV k A) (h:j<=k):aV j A:=⟨r.hd,by have:=r.dp;omega,by have:=r.un;omega⟩
theorem aV.deeper (r:aV (k+1) A) (env):aV k (A.deeper env):=
 ⟨r.hd,by have:=r.dp;show A.depth+1+k+5<_;omega,by have:=r.un;show A.units+3+16*k+200<_;omega⟩
def X6 {A:Around}:(A.under (.builtin "type.__call__" ⟨.ref C::us,kw⟩)).depth=A.depth+1:=by
 first | rfl | simp [guardIds]
def Z9 {A:Around}:(A.under (.builtin "type.__call__" ⟨.ref C::us,kw⟩)).units=A.units+1:=by
 first | rfl | simp [Code.isFrame]
def aV.make (r:aV (k+1) A) (C) (us) (kw):aV k (A.under (.builtin "type.__call__" ⟨.ref C::us,kw⟩)):=
 ⟨r.hd,by have:=r.dp;rw [X6];omega,by have:=r.un;rw [Z9];omega⟩
theorem aV.depth (r:aV k A):A.depth<recursionLimit:=by have:=r.dp;omega
def mf:TA:=λ_ H Q=>Q [] H
def C2 (a:TE) (b:TA):TA:=λU H Q=>a U H λx H1=>b U H1 λxs H2=>Q (x::xs) H2
section
variable {X:Cx}{e:Expr}{es:List Expr}{te:TE}{t:TA}{pos:Pos}
def ji:PA X [] mf:=λ_ _ _ _ H Q I h=>Calls.spliced_nil ⟨[],H,I,.nil,h⟩
def Jc (m:PE X e te) (i:PA X es t) (g:starEach (e::es) X.env=(y9,eval e X.env)::starEach es X.env:=by rfl):PA X (e::es) (C2 te t):=by
 intro b a s U H Q I h
 rw [g]
 refine Calls.spliced_cons (aI (m a s U H _ I h) ?_)
 rintro u n ⟨x,q,l,k,j⟩
 exact aI (i b a n U q _ l j) λv r ⟨p,d,f,o,c⟩=>⟨x::p,d,f,.cons k o,c⟩
def DO (t:TA):TE:=λU H Q=>t U H λxs H1=>xs.length<=sizeLine/\ ∀p,H1 p=u0->Q (.ref p) (aP H1 p (.tup xs))
def vf (t:TA):TE:=λU H Q=>t U H λxs H1=>xs.length<=sizeLine/\ ∀p,H1 p=u0->Q (.ref p) (aP H1 p (.lst xs))
def ud {x1}(h:PA X es t):PE X (.Tuple es x1 pos) (DO t):=by
 intro a s U H Q I f
 refine wpAny_Tuple_spliced (aI (h pos a s U H _ I f) λi d ⟨j,k,c,r,z,q⟩=>⟨by rw [← r.length];exact z,?_⟩)
 have g:=c.aR.fresh (Aa7 _)
 refine⟨.ref d.heap.objs.size,aP k d.heap.objs.size (.tup j),c.laid (λb u e=>Aa8 _ e) (Aa7 _) ?_,rfl,q _ g⟩
 exact⟨z,i,r,⟨_,Ab6 _ rfl,rfl,rfl,_,rfl⟩⟩
def ye (h:PA X es t):PE X (.List es pos) (vf t):=by
 intro a s U H Q I f
 refine wpAny_List_spliced (aI (h pos a s U H _ I f) λi d ⟨j,k,c,r,z,q⟩=>⟨by rw [← r.length];exact z,?_⟩)
 have g:=c.aR.fresh (Aa7 _)
 refine⟨.ref d.heap.objs.size,aP k d.heap.objs.size (.lst j),c.laid (λb u e=>Aa8 _ e) (Aa7 _) ?_,rfl,q _ g⟩
 exact⟨z,i,0,r,Ab6 _ rfl⟩
end
abbrev Sp:=List V->Hp->VK->XK->Prop
abbrev fP:=List Env->Hp->Shared->XK->Value->Shared->Prop
structure dN (P:Program) (w:World) (K:Aa6) (mg:Str->Option Value) (base:Heap) (A:Around) (outer:List Env) (s:Shared) (H:Hp):Prop where
 frames:A.frames=y0 outer
 mod:Mod K mg base
 bs: ∀b o,base.get? b=y0 o->s.heap.get? b=y0 o/\H b=u0
 fY:base.objs.size<=s.heap.objs.size
 cw:s.heap.FunFrames base outer
 g8: ∀b∈cA outer,H b=u0
 aR:cq P w H s.heap
 bare:AllBare s.gens
def CE (a:List Env) (P:Program) (w:World) (H:Hp) (s:Shared) (Q:VK) (u:Value) (s':Shared):Prop:=
 ∃v H',s'.os=s.os/\AllBare s'.gens/\Un (cA a) [] H H' s.heap s'.heap/\cq P w H' s'.heap/\RelV v u/\Q v H'
def CR (b:fP) (a:List Env) (P:Program) (w:World) (H:Hp) (s:Shared) (Q:VK) (E:XK) (r:Result) (s':Shared):Prop:=
 match r with
 | .ok (.ret u)=>CE a P w H s Q u s'
 | .ok _=>False
 | .error e=>b a H s E e s'
structure bb (P:Program) (w:World) (K:Aa6) (mg:Str->Option Value) (base:Heap) (CX:fP) (k:Nat) (f:Addr) (fd:FuncData) (ps:List Str) (sp:Sp):Prop where
 len: ∀vs H Q E,sp vs H Q E->vs.length=ps.length
 run: ∀(A:Around) (outer:List Env) (s:Shared) (H:Hp) (args:Args) (us:List Value) (vs:List V) (Q:VK) (E:XK),aV k A->dN P w K mg base A outer s H->BindsTo s fd args (ps.zip us)->Vals vs us->sp vs H Q E →
  codeAny (model P w) A (.call (.ref f) args) (CR CX outer P w H s Q E) s
def dN.make {K:Aa6}(e:dN P w K mg base A outer s H) (C) (us) (kw):
 dN P w K mg base (A.under (.builtin "type.__call__" ⟨.ref C::us,kw⟩)) outer s H:=⟨by first | exact e.frames | (simpa [pushEnvs]using e.frames),e.mod,e.bs,e.fY,e.cw,e.g8,e.aR,e.bare⟩
section
variable {X:Cx}{y8:List (Addr×Obj)}{U:St}{H:Hp}{s s':Shared}
def Inv.iK (I:Inv X y8 U H s):dN X.prog X.w X.K X.mg X.base X.A X.stack s H:=
 ⟨I.ok.frames,I.ok.mod,I.bs,Ac1 I.ok.fY I.sz,I.stack,I.cz,I.aR,I.bare⟩
def Inv.after (I:Inv X y8 U H s) (h:CE X.stack X.prog X.w H s Q u s'):EP X y8 U Q u s':=by
 obtain⟨v,i,f,a,un,c,r,q⟩:=h
 obtain⟨j,g,d,t,e⟩:=s'
 obtain rfl:e=s.os:=f
 exact⟨v,i,I.call un c a (λb z=>absurd z (by simp)),r,q⟩
end
def rM (b:Sp) (a:List V) (E:XK) (t:TA):TE:=λU H Q=>t U H λc H1=>b (c++a) H1 Q E
def rk (C:Addr) (m:Str) (c:Sp) (b:List V) (E:XK) (d:TE) (t:TA):TE:=λU H Q=>d U H λx H1=> ∃a dx fs,x= .ref a/\H1 a=y0 (.ins C dx fs)/\fs.lookup m=u0 ∧
 t U H1 λe H2=>c (x::(e++b)) H2 Q E
def Bb (C:Addr) (b:Sp) (a:List V) (E:XK) (t:TA):TE:=λU H Q=>t U H λc H1=> ∀x dx,H1 x=u0->H1 dx=u0->dx≠x →
 b (.ref x::(c++a)) (aP (aP H1 dx (.own x)) x (.ins C dx [])) (λv H2=>v= .az/\Q (.ref x) H2) E
def Binds (K:Aa6) (c:FuncData) (b:List Str) (ds:List Value):Prop:=
 ∀(s:Shared) (a:List Value),K.In s.heap->(a++ds).length=b.length->BindsTo s c ⟨a,[]⟩ (b.zip (a++ds))
def Binds.all {K:Aa6}(h: ∀us:List Value,us.length=ps.length->bindArgs fd ⟨us,[]⟩=pure (ps.zip us)):Binds K fd ps []:=λs us _ a=>by
 rw [Ac5]at a ⊢
 exact .of_eq (h us a)
def Jw (a:fP) (X:Cx) (E:XK):Prop:= ∀(y8:List (Addr×Obj)) (U:St) (H:Hp) (s:Shared) (e:Value) (s':Shared),Inv X y8 U H s->a X.stack H s E e s'->X.xe e s'
section
variable {X:Cx}{CX:fP}{k:Nat}{f C:Addr}{fd:FuncData}{ps:List Str}{sp:Sp}{dvs:List V}{ds:List Value}{E:XK}{x m:Str}{p pos apos:Pos}{e o:Expr}{es:List Expr}{ta:TE}{t:TA}
def wZ (F:bb X.prog X.w X.K X.mg X.base CX k f fd ps sp) (c:aV k X.A) (d:Binds X.K fd ps ds) (hd:Vals dvs ds) (g:Jw CX X E)
 (I:Inv X y8 U H s) (r:Vals vs us) (h:sp (vs++dvs) H Q E):wpAny (model X.prog X.w) X.A (call (.ref f) us) (EP X y8 U Q) X.xe s:=by
 have b:=r.append hd
 have i:(us++ds).length=ps.length:=by rw [← b.length];exact F.len _ _ _ _ h
 refine wpAny_call (codeAny_mono (F.run X.A X.stack s H ⟨us,[]⟩ (us++ds) (vs++dvs) Q E c I.iK (d s us I.b0 i) b h) λr j a=> ?_)
 cases r with
 | error e=>exact g y8 U H s e j I a
 | ok l=>
  cases l with
  | ret u=>exact I.after a
  | next=>exact False.elim a
  | brk=>exact False.elim a
  | cont=>exact False.elim a
def ug (F:bb X.prog X.w X.K X.mg X.base CX k f fd ps sp) (g:aV k X.A) (n:Gl X x) (l:X.mg x=y0 (.ref f)) (o:Af7 X.K (.ref f)=k9) (m:Binds X.K fd ps ds) (hd:Vals dvs ds) (i:Jw CX X E)
 (u:PA X (e::es) t) (c:(x==("__debug__" :Str))=false:=by decide) (j:starEach (e::es) X.env=(false,eval e X.env)::starEach es X.env:=by rfl) (b:(backTo pos (starEach es X.env)).any (·.1)=false:=by rfl):
 PE X (.Call (.Name x p) (e::es) [] pos) (rM sp dvs E t):=by
 intro a s U H Q I h
 refine wpAny_Call_Name_kw (JN I n l ?_ c)
 refine Ak7 I.ok.mod.iO o (aI (u pos a s U H _ I h) λw v ⟨z,y,d,r,q⟩=>⟨d.b0,?_⟩) j b
 exact wZ F g m hd i d r q
def Fz (F:bb X.prog X.w X.K X.mg X.base CX k f fd ps sp) (d:aV k X.A) (i:Gl X x) (j:X.mg x=y0 (.ref f)) (c:Af7 X.K (.ref f)=k9) (e:Binds X.K fd ps ds) (hd:Vals dvs ds) (g:Jw CX X E)
 (a:(x==("__debug__" :Str))=false:=by decide):PE X (.Call (.Name x p) [] [] pos) (rM sp dvs E mf):=by
 intro b s U H Q I h
 refine wpAny_Call_Name_kw (JN I i j ?_ a)
 exact PySem.W.callWith_K0 I.b0 c (wZ F d e hd g I .nil h)
def C1 (B:PE X o ta) (c:dr X.K C) (j:i6 X.K C m f) (F:bb X.prog X.w X.K X.mg X.base CX k f fd ps sp) (z:aV k X.A) (D:Binds X.K fd ps ds) (hd:Vals dvs ds) (A:Jw CX X E) (G:PA X (e::es) t)
 (d:starEach (e::es) X.env=(y9,eval e X.env)::starEach es X.env:=by rfl) (g:(backTo pos (starEach es X.env)).any (·.1)=false:=by rfl)
 (y:eval (.Call (.Attribute o m apos) (e::es) [] pos) X.env=(do
   let J ←eval o X.env
   standAt apos.atName
   let (f,first) ←holding [J] (getMethod J m pl)
   callWith pos f first (backTo pos (starEach (e::es) X.env)) (backToKw pos (keywordEach [] X.env))):=by rfl):
 PE X (.Call (.Attribute o m apos) (e::es) [] pos) (rk C m sp dvs E ta t):=by
 intro b s U H Q I h
 refine PySem.W.methodCall_KW (aI (B b s U H _ I h) λu K ⟨x,M,n,v,a,P,fs,ex,L,l,q⟩=> ?_) y
 subst ex
 obtain rfl:u=Value.ref a:=v
 refine XI n L c j l ?_
 refine Ak7 I.ok.mod.iO j.kp (aI (G pos b K U M _ n q) λR O ⟨p,N,i,r,w⟩=>⟨i.b0,?_⟩) d g
 exact wZ (vs:= .ref a::p) F z D hd A i (.cons rfl r) w
def uV (r:PE X o ta) (c:dr X.K C) (e:i6 X.K C m f) (F:bb X.prog X.w X.K X.mg X.base CX k f fd ps sp) (n:aV k X.A) (t:Binds X.K fd ps ds) (hd:Vals dvs ds) (p:Jw CX X E)
 (j:eval (.Call (.Attribute o m apos) [] [] pos) X.env=(do
   let i ←eval o X.env
   standAt apos.atName
   let (f,first) ←holding [i] (getMethod i m pl)
   callWith pos f first (backTo pos (starEach [] X.env)) (backToKw pos (keywordEach [] X.env))):=by rfl):
 PE X (.Call (.Attribute o m apos) [] [] pos) (rk C m sp dvs E ta mf):=by
 intro b s U H Q I h
 refine PySem.W.methodCall_KW (aI (r b s U H _ I h) λu y ⟨x,z,d,g,a,w,fs,ex,v,l,q⟩=> ?_) j
 subst ex
 obtain rfl:u=Value.ref a:=g
 refine XI d v c e l ?_
 exact PySem.W.callWith_K0 d.b0 e.kp (wZ (vs:= [.ref a]) F n t hd p d (.cons rfl .nil) q)
structure Mk (K:Aa6) (C f:Addr):Prop where
 makes:PySem.W.makesIn K C=k9
 init:PySem.W.findIn K (.ref C) "__init__" =some (some (.ref f))
 fn:PySem.W.isFn K (.ref f)=k9
 kp:Af7 K (.ref C)=k9
def CF (M:Mk X.K C f) (F:bb X.prog X.w X.K X.mg X.base CX k f fd ps sp) (l:aV (k+1) X.A) (o:Binds X.K fd ps ds) (hd:Vals dvs ds)
 (m:Jw CX X E) (I:Inv X y8 U H s) (r:Vals vs us)
 (h: ∀x dx,H x=u0->H dx=u0->dx≠x->sp (.ref x::(vs++dvs)) (aP (aP H dx (.own x)) x (.ins C dx [])) (λv H2=>v= .az/\Q (.ref x) H2) E):
 wpAny (model X.prog X.w) X.A (call (.ref C) us) (EP X y8 U Q) X.xe s:=by
 have c:=h (s.heap.objs.size+1) s.heap.objs.size (I.aR.fresh (Ad2 _)) (I.aR.fresh (Aa7 _)) (Ac3 (Af1 _))
 have b:=Inv.made (C:=C) I
 have d:Vals (V.ref (s.heap.objs.size+1)::(vs++dvs)) (Value.ref (s.heap.objs.size+1)::(us++ds)):= .cons rfl (r.append hd)
 have t:=by
  have e:=d.length
  rw [F.len _ _ _ _ c]at e
  exact e.symm
 refine wpAny_call (Fg I.b0 M.makes M.init (beq_iff_eq.mp M.fn) (codeAny_mono (F.run _ X.stack _ _ ⟨Value.ref (s.heap.objs.size+1)::us,[]⟩ (Value.ref (s.heap.objs.size+1)::(us++ds)) _ _ E (l.make C us [])
  (b.iK.make C us []) (o _ (Value.ref (s.heap.objs.size+1)::us) b.b0 t) d c) λr q a=> ?_))
 cases r with
 | error e=>exact m y8 U _ _ e q b a
 | ok j=>
  cases j with
  | ret u=>
   obtain⟨v,p,n,rv,g,i⟩:=b.after a
   subst g
   exact⟨rv,⟨V.ref (s.heap.objs.size+1),p,n,rfl,i⟩⟩
  | next=>exact False.elim a
  | brk=>exact False.elim a
  | cont=>exact False.elim a
def Bc (M:Mk X.K C f) (F:bb X.prog X.w X.K X.mg X.base CX k f fd ps sp) (g:aV (k+1) X.A) (n:Gl X x) (l:X.mg x=y0 (.ref C)) (m:Binds X.K fd ps ds) (hd:Vals dvs ds) (i:Jw CX X E)
 (o:PA X (e::es) t) (c:(x==("__debug__" :Str))=false:=by decide) (j:starEach (e::es) X.env=(false,eval e X.env)::starEach es X.env:=by rfl) (b:(backTo pos (starEach es X.env)).any (·.1)=false:=by rfl):
 PE X (.Call (.Name x p) (e::es) [] pos) (Bb C sp dvs E t):=by
 intro a s U H Q I h
 refine wpAny_Call_Name_kw (JN I n l ?_ c)
 refine Ak7 I.ok.mod.iO M.kp (aI (o pos a s U H _ I h) λv u ⟨y,w,d,r,q⟩=>⟨d.b0,?_⟩) j b
 exact CF M F g m hd i d r q
end
section
variable {X:Cx}{CX:fP}{k:Nat}{f C:Addr}{fd:FuncData}{ps ks:List Str}{sp:Sp}{E:XK}{x m:Str}{p pos apos kpos:Pos}{e o:Expr}{es:List Expr}{kws:List Keyword}{te ta:TE}{t tk:TA}{nm:Option Str}
structure Hz (K:Aa6) (fd:FuncData) (ps ks:List Str) (g:List Value->List Value->List Value) (gV:List V->List V->List V):Prop where
 to: ∀(s:Shared) (us ws:List Value),K.In s.heap->(g us ws).length=ps.length->BindsTo s fd ⟨us,ks.zip ws⟩ (ps.zip (g us ws))
 rel: ∀ {vs:List V}{us:List Value}{zs:List V}{ws:List Value},Vals vs us->Vals zs ws->Vals (gV vs zs) (g us ws)
variable {g:List Value->List Value->List Value}{gV:List V->List V->List V}
end
structure xy (N P:List Str) (sc:Scope):Prop where
 kind:sc.kind= .function
 co:sc.isCoroutine=y9
 gen:sc.isGenerator=y9
 nd:N.Nodup
 pre:N.take P.length=P
 par: ∀x∈P,sc.names.lookup x=y0 .local\/sc.names.lookup x=y0 .cell
 gY: ∀y∈sc.names,y.2≠ .free
theorem JT {a:Str->Option NameKind}: ∀ {i}{m},(∀ v,(x,v)∉i)->bindL a i m x=m x
 | [],_,_=>rfl
 | (n,v)::r,m,h=>by
  unfold bindL
  rw [JT λw b=>h w (Aa5 _ b)]
  split
  ·have:x≠n:=by rintro rfl;exact h v Aa4
   simp [this]
  ·rfl
theorem JS {a:Str->Option NameKind}: ∀ {i}{m},(∀ v,(x,v)∉i)->bindC a i m x=m x
 | [],_,_=>rfl
 | (n,v)::r,m,h=>by
  unfold bindC
  rw [JS λw b=>h w (Aa5 _ b)]
  split
  ·rfl
  ·have:x≠n:=by rintro rfl;exact h v Aa4
   simp [this]
theorem QR {a:Str->Option NameKind}: ∀ {P:List Str}{vs}{i:Nat}{m},P.Nodup->P[i]? =y0 x->vs[i]? =y0 v->a x=y0 .local →
 bindL a (P.zip vs) m x=y0 v
 | [],_,_,_,_,h,_,_=>by simp at h
 | _::_,[],_,_,_,_,h,_=>by simp at h
 | p::P,w::vs,0,m,e,c,b,d=>by
  simp at c b;subst c;subst b
  show bindL a ((p,w)::P.zip vs) m p=_
  unfold bindL
  rw [JT λv f=>(Af3.mp e).1 (List.of_mem_zip f).1,if_pos d]
  simp
 | p::P,w::vs,i+1,m,e,c,b,d=>by
  unfold bindL
  exact QR (Af3.mp e).2 (by simpa using c) (by simpa using b) d
theorem JR {a:Str->Option NameKind}: ∀ {P:List Str}{vs}{i:Nat}{m},P.Nodup->P[i]? =y0 x->vs[i]? =y0 v->a x≠y0 .local →
 bindC a (P.zip vs) m x=y0 v
 | [],_,_,_,_,h,_,_=>by simp at h
 | _::_,[],_,_,_,_,h,_=>by simp at h
 | p::P,w::vs,0,m,e,c,b,d=>by
  simp at c b;subst c;subst b
  show bindC a ((p,w)::P.zip vs) m p=_
  unfold bindC
  rw [JS λv f=>(Af3.mp e).1 (List.of_mem_zip f).1,if_neg d]
  simp
 | p::P,w::vs,i+1,m,e,c,b,d=>by
  unfold bindC
  exact JR (Af3.mp e).2 (by simpa using c) (by simpa using b) d
def XC (N:List Str) (vs:List V):St:=vs.map y0++Aa1 (N.length-vs.length) u0
noncomputable def gs (CX:fP) (P:Program) (w:World) (K:Aa6) (mg:Str->Option Value) (base:Heap) (N:List Str) (k7:Str) (scope:Scope) (f:Addr) (cd:Value) (A:Around) (outer:List Env) (s:Shared) (H:Hp) (E:XK):Cx where
 prog:=P
 w:=w
 K:=K
 mg:=mg
 base:=base
 A:=A.deeper (envOfC k7 scope s.heap.objs.size f cd)
 N:=N
 s₀:=s
 H₀:=H
 env:=envOfC k7 scope s.heap.objs.size f cd
 outer:=outer
 stack:=envOfC k7 scope s.heap.objs.size f cd::outer
 ex:= []
 calm:=k9
 fn:=λ_=>k9
 pn:= []
 xe:=λe s'=>wpAny (model P w) (A.deeper (envOfC k7 scope s.heap.objs.size f cd)) (leaving (envOfC k7 scope s.heap.objs.size f cd) e) (λ_ s''=>CX outer H s E e s'') (λe' s''=>CX outer H s E e' s'') s'
def X5 {a:Scope}(h:a.names.lookup x=y0 .cell): ∃c,(cellsFrom n a.names []).lookup x=y0 c:=by
 have q:=Aj6 a.names n [] (.inl h)
 exact Ag1.mp q
def AA {K:Aa6}
 (S:xy N ps scope) (hd:A.handled=u0) (e0:dN P w K mg base A outer s H) (hl:vs.length=ps.length) (r:Vals vs us)
 (x:InCallC s s.heap.objs.size (bindL (envOfC k7 scope s.heap.objs.size f cd).kindOf (ps.zip us) λ_=>u0) (cellsFrom (s.heap.objs.size+1) scope.names []) (bindC (envOfC k7 scope s.heap.objs.size f cd).kindOf (ps.zip us) λ_=>u0) s1):
 Inv (gs CX P w K mg base N k7 scope f cd A outer s H E) [] (XC N vs) H s1:=by
 have hpl:ps.length<=N.length:=by have:=congrArg List.length S.pre;rw [Ae9]at this;omega
 obtain⟨h1,tk,rfl,hk⟩:=x.done
 have noA: ∀b:Addr,b∉(gs CX P w K mg base N k7 scope f cd A outer s H E).ex:=λb z=>absurd (show b∈([]:List Addr)from z) (by simp)
 refine⟨⟨e0.mod,S.kind,rfl,rfl,Aa7 _,λy z c h1 h2=> ?_,λy hy=> ?_,λy c _ h=> ?_,λ_=>hd,Around.frames_deeper e0.frames,.inr ⟨rfl,rfl⟩,λb z=>absurd z (noA b),e0.bs,e0.fY,λb _ _=>noA b,λb z=>absurd z (noA b),e0.cw,e0.g8⟩,
  rfl,e0.bare,Un.kept hk,⟨_,x.toInCall.ns,λi y v h1 h2 h3=> ?_⟩,λy c h=>⟨_,x.cell y c h⟩,e0.aR.fresh (Aa7 _),λy c h=> ?_,λp hp=>absurd (show p∈([]:List (Addr×Obj))from hp) (by simp),e0.aR.kept hk,?_⟩
 ·exact name_of_addr x.apart (PySem.mem_of_lookup h1) (PySem.mem_of_lookup h2)
 ·have hy:=hy
  rcases hy with hy | hy
  ·exact X5 hy
  ·exact absurd rfl (S.gY _ (PySem.mem_of_lookup hy))
 ·exact Ai6 (x.above y c (PySem.mem_of_lookup h))
 ·have hi:i<vs.length:=by
   unfold XC at h2
   by_cases hi:i<vs.length
   ·exact hi
   ·rw [Ae6 (by simpa using hi)]at h2
    rw [Ak]at h2
    split at h2<;>cases h2
  have ha:vs[i]? =y0 v:=by
   unfold XC at h2
   rw [Ae0 (by simpa using hi),Ad9]at h2
   cases e:vs[i]? with
   | none=>rw [e]at h2;cases h2
   | some a=>rw [e]at h2;cases h2;rfl
  obtain⟨u,hu,rv⟩:=r.get ha
  have hp:ps[i]? =y0 y:=by
   rw [← S.pre,List.getElem?_take_of_lt (by omega)];exact h1
  have ndP:ps.Nodup:=by rw [← S.pre];exact S.nd.sublist (List.take_sublist _ _)
  refine⟨u,rv,?_⟩
  rcases S.par y (Aj hp)with k | k
  ·exact .inl ⟨k,QR ndP hp hu k⟩
  ·obtain⟨c,e⟩:=X5 k
   refine .inr ⟨.inl k,c,e,?_⟩
   have q:=x.cell y c e
   rw [JR ndP hp hu (by show scope.names.lookup y≠_;rw [k];decide)]at q
   exact q
 ·exact e0.aR.fresh (Ai6 (x.above y c (PySem.mem_of_lookup h)))
 ·unfold XC
  show _=N.length
  rw [Aa3,Ab1,Ae3]
  omega
def Ha {K:Aa6}{dV kV doc pm cdv ct oc:Value}
 (lk:K.lookup f=y0 ⟨oc,od,.func (PySem.W.fnOf name k7 params body scope dV kV doc pm an cdv ct),osl⟩) (hcd:PySem.W.codeIn K cdv k7=k9) (S:xy N ps scope)
 (len: ∀vs H Q E,sp vs H Q E->vs.length=ps.length)
 (hbody: ∀ A outer s H vs Q E,aV k (A.deeper (envOfC k7 scope s.heap.objs.size f cdv))->sp vs H Q E →
   ∃t,cv (gs CX P w K mg base N k7 scope f cdv A outer s H E) body t/\t { nx:=λ_ H'=>Q .az H',rt:=Q } (XC N vs) H):
 bb P w K mg base CX (k+1) f (PySem.W.fnOf name k7 params body scope dV kV doc pm an cdv ct) ps sp:=by
 refine⟨len,λA outer s H args us vs Q E hr e0 hb r hsp=> ?_⟩
 have hl:=len _ _ _ _ hsp
 have KX:=e0.mod.iO.keeps λb o e=>(e0.bs b o e).1
 have lim:=e0.mod.nolimit.keeps λb o e=>(e0.bs b o e).1
 have hkind: ∀y∈ps.zip us,scope.names.lookup y.1=y0 .local\/(scope.names.lookup y.1=y0 .cell/\((cellsFrom (s.heap.objs.size+1) scope.names []).lookup y.1).isSome=k9):=by
  rintro ⟨n,v⟩ hy
  rcases S.par n (List.of_mem_zip hy).1 with q | q
  ·exact .inl q
  ·exact .inr ⟨q,Aj6 _ _ _ (.inl q)⟩
 refine codeAny_call_function hr.depth (KX _ _ lk) rfl S.co S.gen rfl (PySem.W.codeRec_of KX hcd) (hb _ _ _ _ ?_)
 refine wpAny_newFunctionEnv_cells S.kind hkind λenv he s1 x=> ?_
 subst he
 refine⟨lim.keeps x.toInCall.keep,codeAny_func ?_⟩
 obtain⟨t,ht,hq⟩:=hbody A outer s H vs Q E (hr.deeper _) hsp
 have I:Inv (gs CX P w K mg base N k7 scope f cdv A outer s H E) [] (XC N vs) H s1:=AA S hr.hd e0 hl r x
 refine wpAny_mono (ht [] s1 (XC N vs) H _ I hq) (λfl s' hs=> ?_) λe s' hs=>hs
 have fin: ∀ {U'}{H'}{v}{u},Inv (gs CX P w K mg base N k7 scope f cdv A outer s H E) [] U' H' s'->RelV v u->Q v H'->CE outer P w H s Q u s':=
  λ{U' H' v u} J rv q=>⟨v,H',J.os,J.bare,J.base,J.aR,rv,q⟩
 cases fl with
 | ret u=>
  obtain⟨v,U',H',J,rv,q⟩:=hs
  exact fin J rv q
 | next=>
  obtain⟨U',H',J,q⟩:=hs
  exact fin (v:=V.az) J rfl q
 | brk=>
  obtain⟨_,_,_,q⟩:=hs
  exact False.elim q
 | cont=>
  obtain⟨_,_,_,q⟩:=hs
  exact False.elim q
section
variable {X:Cx}{x:Str}{p pos:Pos}{e:Expr}{es:List Expr}{t:TA}{id T:String}{r:List V->Hp->VK->Prop}
def nM (r:List V->Hp->VK->Prop) (t:TA):TE:=λU H Q=>t U H λa H1=>r a H1 Q
def qs (d:Js X (.builtin id) r) (m:Gl X x) (i:X.mg x=none) (l:bootBuiltins x=some (.builtin id)) (o:PA X (e::es) t) (k:x≠ "__name__" :=by decide) (c:(x==("__debug__" :Str))=false:=by decide)
 (f:starEach (e::es) X.env=(y9,eval e X.env)::starEach es X.env:=by rfl) (b:(backTo pos (starEach es X.env)).any (·.1)=false:=by rfl):PE X (.Call (.Name x p) (e::es) [] pos) (nM r t):=by
 intro a s U H Q I h
 refine wpAny_Call_Name_kw (jw I m i l ?_ k c)
 exact PyProof.Rows.callWith_builtin1 (aI (o pos a s U H _ I h) λu q ⟨w,v,n,j,g⟩=>d a q U v w u Q n j g) f b
def xr (d:Js X (.type T) r) (m:Gl X x) (i:X.mg x=none) (l:bootBuiltins x=some (.type T)) (o:PA X (e::es) t) (k:x≠ "__name__" :=by decide) (c:(x==("__debug__" :Str))=false:=by decide)
 (f:starEach (e::es) X.env=(y9,eval e X.env)::starEach es X.env:=by rfl) (b:(backTo pos (starEach es X.env)).any (·.1)=false:=by rfl):PE X (.Call (.Name x p) (e::es) [] pos) (nM r t):=by
 intro a s U H Q I h
 refine wpAny_Call_Name_kw (jw I m i l ?_ k c)
 exact PyProof.Rows.callWith_type1 (aI (o pos a s U H _ I h) λu q ⟨w,v,n,j,g⟩=>d a q U v w u Q n j g) f b
end
end L2
namespace HT
open PySem PyProof.Rows
section
variable {prog:Program}{w:World}{A:Around}{E:Value->Shared->Prop}{s:Shared}
def fA (u:IsTup s.heap t vs.toArray) (x:IsTup s.heap b ws.toArray) (o:vs≠ [])
 (h1:ws= []->Q (.ref t) s) (r:ws≠ []->Q (.ref s.heap.objs.size) { s with heap:=s.heap.push { cls:= .type "tuple",data:= .seq (vs++ws).toArray } })
 (j:vs.length+ws.length<=sizeLine):wpAny (model prog w) A (binaryOp .Add (.ref t) (.ref b)) Q E s:=by
 obtain⟨⟨q,dd,i,sl⟩,f,v,n,hd⟩:=id u
 obtain⟨⟨p,d,h,c⟩,a,l,m,k⟩:=id x
 subst v hd l k
 have e:vs.toArray++ws.toArray=(vs++ws).toArray:=by simp
 by_cases g:ws= []
 ·exact concat_meets ⟨_,f,rfl⟩ ⟨_,a,rfl⟩ noFill_tuple_add seq_tuple_add PySem.F.slot_tuple_add PySem.F.entry_tuple_add (PySem.F.args_tuple_add_2 _ _)
   (tuple_addW1 t b vs.toArray ws.toArray n m dd d sl c (by simpa using o) (by simp [g])) ⟨f,a,h1 g⟩
 ·refine concat_meets ⟨_,f,rfl⟩ ⟨_,a,rfl⟩ noFill_tuple_add seq_tuple_add PySem.F.slot_tuple_add PySem.F.entry_tuple_add (PySem.F.args_tuple_add_2 _ _)
   (tuple_addW2 t b vs.toArray ws.toArray n m dd d sl c (by simpa using o) (by simpa using g) (by rw [Aa9,Aa9];exact j)) ⟨f,a,?_⟩
  rw [e]
  exact r g
def aH (n d:Nat):Option Int->Nat
 | none=>d
 | some v=>if v<0 then(v+(n:Int)).toNat else min v.toNat n
def DF (n d) (hd:d<=n) (o):aH n d o<=n:=by
 cases o with
 | none=>exact hd
 | some v=>
  show(if v<0 then(v+ n).toNat else min v.toNat n)<=n
  by_cases a:v<0
  ·rw [if_pos a];omega
  ·rw [if_neg a];exact Nat.min_le_right _ _
def sk (v) (n d:Nat):(if v<0 then max (v+(n:Int)) 0 else min v (n:Int))=((aH n d (y0 v):Nat):Int):=by
 show(if v<0 then max (v+ n) 0 else min v n)=(((if v<0 then(v+(n:Int)).toNat else min v.toNat n):Nat))
 by_cases a:v<0
 ·simp only [if_pos a];omega
 ·simp only [if_neg a];omega
def Bu (a hi) (n:Nat):Builtin.Slice.sliceAdjust a hi 1 (n:Int)=(((aH n 0 a:Nat):Int),((aH n n hi:Nat):Int)):=by
 have b: ¬(1<0):=by omega
 refine Prod.ext ?_ ?_
 ·cases a with
  | none=>rfl
  | some v=>exact sk v n 0
 ·cases hi with
  | none=>rfl
  | some v=>exact sk v n n
def J8 (i j:Nat):Builtin.Slice.slicePlaces (i:Int) (j:Int) 1=j-i:=by
 unfold Builtin.Slice.slicePlaces
 have a:(1:Int)>0:=by omega
 simp only [Int.ediv_one]
 split<;>omega
def QK (p:IsPart v o) (h:Q o s):wpAny (model prog w) A (Builtin.Slice.slicePartIndex v) Q E s:=by
 cases p with
 | none=>exact slicePart_none h
 | int i t=>exact slicePart_int h
def bE {a hi:Option Int}{Q:Int×Int×Nat->Shared->Prop}(c:s.heap.IsSliceOf sl vl vu .none) (f:IsPart vl a) (d:IsPart vu hi)
 (h:Q (((aH n 0 a:Nat):Int),1,aH n n hi-aH n 0 a) s):wpAny (model prog w) A (Builtin.Slice.sliceApplied (.ref sl) (pure (n:Int))) Q E s:=by
 obtain⟨g,b,e,cn⟩:=id c
 refine wpAny_bind (wpAny_bind (wpAny_field b cn (x:=vl) rfl (wpAny_bind (wpAny_field b cn (x:=vu) rfl (wpAny_bind (wpAny_field b cn rfl (wpAny_pure ?_)))))))
 refine wpAny_bind (slicePart_none ?_)
 refine wpAny_bind (QK f (wpAny_bind (QK d (wpAny_bind (wpAny_pure ?_)))))
 show wpAny _ _ (match Builtin.Slice.sliceAdjust a hi 1 (n:Int)with | (a,hi)=>pure (a,(1:Int),Builtin.Slice.slicePlaces a hi 1)) _ _ s
 rw [Bu a hi n]
 show wpAny _ _ (pure (((aH n 0 a:Nat):Int),1,Builtin.Slice.slicePlaces ((aH n 0 a:Nat)) ((aH n n hi:Nat)) 1)) _ _ s
 rw [J8]
 exact wpAny_pure h
def vb (xs:Array Value) (i k:Nat):((Ac4 k).filterMap λ(m:Nat)=>xs[((i:Int)+(m:Int)*1).toNat]?).toArray=((xs.toList.drop i).take k).toArray:=by
 have e:(λ(m:Nat)=>xs[(i+(m:Int)*1).toNat]?)=λm=>xs[i+m]? :=by
  funext m
  have:(i+(m:Int)*1).toNat=i+m:=by omega
  rw [this]
 rw [e]
 have:=pick_run xs i k
 rw [List.filterMap_map]at this
 have a:((λx=>xs[x]?)∘λx=>i+x)=λm=>xs[i+m]? :=rfl
 rw [a]at this
 rw [this]
def b7 {b hi:Option Int}(c:IsTup s.heap t u8) (i:s.heap.IsSliceOf sl vl vu .none) (n:IsPart vl b) (k:IsPart vu hi)
 (l: ¬(aH u8.size 0 b=0/\aH u8.size u8.size hi=u8.size))
 (h:Q (.ref s.heap.objs.size) { s with heap:=s.heap.push { cls:= .type "tuple",data:= .seq ((u8.toList.drop (aH u8.size 0 b)).take (aH u8.size u8.size hi-aH u8.size 0 b)).toArray } })
 (j:u8.size<=sizeLine):wpAny (model prog w) A (getItem (.ref t) (.ref sl)) Q E s:=by
 have a:=by
  show((u8.toList.drop (aH u8.size 0 b)).take (aH u8.size u8.size hi-aH u8.size 0 b)).toArray.size<=sizeLine
  rw [Aa9,Ae9,Ah1,Ah2]
  omega
 have p:aH u8.size u8.size hi<=u8.size:=DF _ _ (Aa7 _) hi
 obtain⟨m,e,d,cn⟩:=id i
 have f:s.TypeIs (.ref sl) "slice" :=⟨m,e,d⟩
 unfold getItem
 try with_reducible refine wpAny_holding ?_
 first | refine wpAny_bind (wpAny_pure ?_) | skip
 refine wpAny_bind (wpAny_sequenceKey c.typeIs (by decide) ?_)
 refine wpAny_bind (wpAny_callSpecial?_slot c.typeIs PyProof.Rows.slot_tuple_getitem
  (wpAny_call_entry PyProof.Rows.slot_tuple_getitem c.typeIs entry_tuple_getitem ?_ (args_tuple_getitem _ _)))
 show wpAny _ _ (Builtin.Tuple.tupleItemsOf (.ref t) >>= _) _ _ s
 refine wpAny_bind (tupleItemsOf_ c ?_)
 refine wpAny_bind (wpAny_typeOf f ?_)
 rw [if_pos (by decide)]
 refine wpAny_bind (bE i n k ?_)
 have g: ¬((((aH u8.size 0 b:Nat):Int)==0&&(1:Int)==1&&(aH u8.size u8.size hi-aH u8.size 0 b)==u8.size)=k9):=by
  intro q
  rw [Ab2,Ab2]at q
  have r:=eq_of_beq q.1.1
  have o:=eq_of_beq q.2
  exact l ⟨by omega,by omega⟩
 show wpAny _ _ (if (((aH u8.size 0 b:Nat):Int)==0&&(1:Int)==1&&(aH u8.size u8.size hi-aH u8.size 0 b)==u8.size)=k9 then _ else _) _ _ s
 rw [if_neg g,vb]
 first
  | exact wpAny_bind (wpAny_newObj_type (wpAny_pure ⟨_,rfl,wpAny_pure h⟩) a)
  | exact wpAny_bind (wpAny_newObj_type (wpAny_bind (wpAny_pure (wpAny_pure ⟨_,rfl,wpAny_pure h⟩))) a)
  | exact wpAny_bind (wpAny_bind (wpAny_newObj_type (wpAny_pure (wpAny_pure ⟨_,rfl,wpAny_pure h⟩)) a))
  | exact wpAny_bind (wpAny_bind (wpAny_newObj_type (wpAny_pure ⟨_,rfl,wpAny_pure h⟩) a))
end
end HT
namespace L2
open PySem PySem.Spec PyProof.Rows
abbrev TO:=St->Hp->(Option Int->Hp->Prop)->Prop
def PO (X:Cx) (e:Option Expr) (t:TO):Prop:=
 ∀(y8:List (Addr×Obj)) (s:Shared) (U:St) (H:Hp) (Q:Option Int->Hp->Prop),Inv X y8 U H s->t U H Q →
  wpAny (model X.prog X.w) X.A (evalPart e X.env) (λu s'=> ∃o H',Inv X y8 U H' s'/\IsPart u o/\Q o H') X.xe s
def Em:TO:=λ_ H Q=>Q u0 H
def DA (t:TE):TO:=λU H Q=>t U H λx H1=> ∃i,x= .int i/\Q (y0 i) H1
section
variable {X:Cx}{e:Expr}{te:TE}{lo hi:Option Expr}{tl th:TO}{pos p2:Pos}
def sM:PO X u0 Em:=by
 intro a s U H Q I h
 exact wpAny_pure ⟨u0,H,I,.none,h⟩
def JO (h:PE X e te):PO X (y0 e) (DA te):=by
 intro a s U H Q I c
 refine aI (h a s U H _ I c) ?_
 rintro u j ⟨x,g,f,d,b⟩
 obtain⟨i,rfl,q⟩:=b
 obtain⟨t,rfl⟩:=d
 exact⟨y0 i,g,f,.int i t,q⟩
def eY (X:Cx) (r:V->Option Int->Option Int->Hp->VK->Prop):Prop:=
 ∀(y8:List (Addr×Obj)) (s:Shared) (U:St) (H:Hp) (x:V) (v a b:Value) (lo hi:Option Int) (sl:Addr) (Q:VK),Inv X y8 U H s->RelV x v->s.heap.IsSliceOf sl a b .none->IsPart a lo->IsPart b hi->r x lo hi H Q →
  ∃T id,typeLookup (.type T) "__getitem__" =pure (some (.builtin id))/\s.TypeIs v T/\wpAny (model X.prog X.w) X.A (getItem v (.ref sl)) (EP X y8 U Q) X.xe s
def eY.or (h:eY X r) (i:eY X r'):eY X (λx lo hi H Q=>r x lo hi H Q\/r' x lo hi H Q):=by
 intro a s U H x v e g lo hi sl Q I b c f d q
 rcases q with q | q
 ·exact h a s U H x v e g lo hi sl Q I b c f d q
 ·exact i a s U H x v e g lo hi sl Q I b c f d q
def vE (r:V->Option Int->Option Int->Hp->VK->Prop) (c:TE) (d a:TO):TE:=λU H Q=>c U H λx H1=>d U H1 λl H2=>a U H2 λu b=>r x l u b Q
def WO (y:eY X r) (A:PE X e te) (K:PO X lo tl) (o:PO X hi th):PE X (.Subscript e (.Slice lo hi u0 p2) pos) (vE r te tl th):=by
 intro a s U H Q I h
 refine Subscript_ (aI (A a s U H _ I h) ?_)
 rintro v J ⟨x,L,G,D,C⟩
 refine wpAny_Slice (aI (K a J U L _ G C) λd t ⟨l,j,k,E,i⟩=>aI (o a t U j _ k i) ?_)
 rintro f c ⟨u,g,B,w,p⟩
 refine wpAny_pure ?_
 have z:Inv X a U g { c with heap:=c.heap.push { cls:= .type "slice",data:= .fields #[d,f,.none] } }:=B.kept fun b M q=>Heap.get?_push_of_some _ q
 obtain⟨T,id,m,n,F⟩:=y a { c with heap:=c.heap.push { cls:= .type "slice",data:= .fields #[d,f,.none] } } U g x v d f l u c.heap.objs.size Q z D (Heap.IsSliceOf.new ..) E w p
 exact tail_any n m F (by with_unfolding_all rfl)
noncomputable def iP (xs:List V) (a hi:Option Int):List V:=(xs.drop (HT.aH xs.length 0 a)).take (HT.aH xs.length xs.length hi-HT.aH xs.length 0 a)
def qF (xs) (lo hi):(iP xs lo hi).length<=xs.length:=by
 unfold iP
 rw [Ae9,Ah1]
 omega
def mS (K:Aa6):V->Option Int->Option Int->Hp->VK->Prop:=λx lo hi H Q=> ∃a xs,x= .ref a/\b8 K H a xs ∧
 ¬(HT.aH xs.length 0 lo=0/\HT.aH xs.length xs.length hi=xs.length)/\ ∀p,H p=u0->Q (.ref p) (aP H p (.tup (iP xs lo hi)))
def yz:eY X (mS X.K):=by
 intro j s U H x v u y f g sl Q I l m t n h
 obtain⟨a,d,rfl,o,p,q⟩:=h
 cases l
 obtain⟨e,r,i,k⟩:=I.tuple o
 have c:e.toArray.size=d.length:=by rw [Aa9];exact r.length.symm
 refine⟨"tuple",_,PyProof.Rows.slot_tuple_getitem.lookup,i.typeIs,?_⟩
 refine HT.b7 i m t n (by rw [c];exact p) ?_ (by rw [c];exact k)
 rw [c]
 refine⟨.ref s.heap.objs.size,_,I.laid (λb w q=>Aa8 _ q) (Aa7 _) ?_,rfl,q _ (I.aR.fresh (Aa7 _))⟩
 exact⟨Ac1 (qF d f g) k,_,(r.drop (HT.aH d.length 0 f)).take (HT.aH d.length d.length g-HT.aH d.length 0 f),cZ.new _ _⟩
def DQ (K:Aa6):R2:=λx y H Q=> ∃a b xs ys,x= .ref a/\y= .ref b/\b8 K H a xs/\b8 K H b ys/\xs≠ []/\xs.length+ys.length<=sizeLine ∧
 (ys= []->Q (.ref a) H)/\(ys≠ []-> ∀p,H p=u0->Q (.ref p) (aP H p (.tup (xs++ys))))
def Vals.c9 (r:Vals xs us):us= []↔xs= []:=by
 cases r with
 | nil=>simp
 | cons _ _=>simp
def E9:bK X (binaryOp .Add) (DQ X.K):=by
 intro e s U H x y v u Q I i t h
 obtain⟨a,b,C,A,rfl,rfl,r,p,l,g,m,j⟩:=h
 cases i
 cases t
 obtain⟨n,d,o,_⟩:=I.tuple r
 obtain⟨f,c,k,_⟩:=I.tuple p
 refine HT.fA o k (λz=>l (d.c9.mp z)) (λz=>⟨.ref a,H,I,rfl,m (c.c9.mp z)⟩) (λz=> ?_) (by rw [← d.length,←c.length];exact g)
 refine⟨.ref s.heap.objs.size,_,I.laid (λb B q=>Aa8 _ q) (Aa7 _) ?_,rfl,j (λw=>z (c.c9.mpr w)) _ (I.aR.fresh (Aa7 _))⟩
 exact⟨by rw [Aa3];exact g,_,d.append c,cZ.new _ _⟩
end
noncomputable def dj (n:Nat) (i:Int):Option Nat:=if 0<=i then(if i<n then y0 i.toNat else u0)else if -(n:Int)<=i then y0 (i+n).toNat else u0
def bc {a:Type}(xs:List a) (i:Int):Option a:=(dj xs.length i).bind λj=>xs[j]?
def oB (h:dj n i=y0 j):seqIndex? i n=y0 j/\j<n/\ -(n:Int)<=i/\i<n:=by
 unfold dj at h
 by_cases b:0<=i
 ·rw [if_pos b]at h
  by_cases a:i<n
  ·rw [if_pos a]at h
   have e:=Ag6.inj h
   exact⟨by rw [seqIndex_of b a,e],by omega,by omega,a⟩
  ·rw [if_neg a]at h;cases h
 ·rw [if_neg b]at h
  by_cases a: - n<=i
  ·rw [if_pos a]at h
   have e:=Ag6.inj h
   exact⟨by rw [seqIndex_neg (by omega) a,e],by omega,a,by omega⟩
  ·rw [if_neg a]at h;cases h
def JY (h:bc xs i=y0 v): ∃j,seqIndex? i xs.length=y0 j/\xs[j]? =y0 v/\j<xs.length/\ -(xs.length:Int)<=i/\i<xs.length:=by
 unfold bc at h
 cases e:dj xs.length i with
 | none=>rw [e]at h;cases h
 | some j=>
  rw [e]at h
  obtain⟨b,a,c,d⟩:=oB e
  exact⟨j,b,h,a,c,d⟩
def Xr {j:Nat}(h:xs[j]? =y0 v):bc xs (j:Int)=y0 v:=by
 have a:=(Ac2.mp h).1
 have e:dj xs.length j=y0 j:=by
  unfold dj
  rw [if_pos (by omega),if_pos (by omega)];simp
 unfold bc;rw [e];exact h
def td (b:Expr):Prop:= ∀o i,subscripted b y9 o i=operate [o,i] (getItem o i)
def ft (X:Cx) (r:R2):Prop:=
 ∀(value a:Expr) (y8:List (Addr×Obj)) (s:Shared) (U:St) (H:Hp) (x y:V) (v u:Value) (Q:VK),Inv X y8 U H s->RelV x v->RelV y u->r x y H Q →
  subscripted a y9 v u=operate [v,u] (getItem v u)->wpAny (model X.prog X.w) X.A (subscriptTail value a v u) (EP X y8 U Q) X.xe s
def uD (X:Cx) (id:String) (r:V->List V->Hp->VK->Prop):Prop:=
 ∀(y8:List (Addr×Obj)) (s:Shared) (U:St) (H:Hp) (x:V) (xs:List V) (v:Value) (a:List Value) (Q:VK),Inv X y8 U H s->RelV x v->Vals xs a->r x xs H Q →
  wpAny (model X.prog X.w) X.A (call (.builtin id) (v::a)) (EP X y8 U Q) X.xe s
section
variable {X:Cx}{a b:Expr}{ta tb:TE}{pos:Pos}
def ft.or (h:ft X r) (g:ft X r'):ft X (λx y H Q=>r x y H Q\/r' x y H Q):=by
 intro b a c s U H x y v u Q I d f q e
 rcases q with q | q
 ·exact h b a c s U H x y v u Q I d f q e
 ·exact g b a c s U H x y v u Q I d f q e
def tI (j:ft X r) (l:PE X a ta) (k:PE X b tb) (i:td b):PE X (.Subscript a b pos) (iJ r ta tb):=by
 intro c s U H Q I h
 exact Subscript_ (lY l k I h λv u g x y e f d m q=>j a b c g U e x y v u Q f d m q (i _ _))
def sZ (K:Aa6):R2:=λx y H Q=> ∃p xs i v,x= .ref p/\y= .int i/\a9 K H p xs/\bc xs i=y0 v/\Q v H
def pI (K:Aa6):R2:=λx y H Q=> ∃p xs i v,x= .ref p/\y= .int i/\b8 K H p xs/\bc xs i=y0 v/\Q v H
def oH:R2:=λx y H Q=> ∃z i c,x= .str z/\y= .int i/\z.length<=sizeLine/\bc z.cps.toList i=y0 c/\Q (.str ⟨#[c]⟩) H
def fG:ft X (sZ X.K):=by
 intro d k a s U H x y v u Q I o G h l
 obtain⟨p,M,i,z,rfl,rfl,B,C,q⟩:=h
 cases o
 obtain⟨t,rfl⟩:=G
 obtain⟨e,r,f,L⟩:=I.list B
 obtain⟨j,b,A,J,E,D⟩:=JY C
 obtain⟨w,n,g⟩:=r.get A
 have F:=r.length
 have K:=wF
 have fin:EP X a U Q w s:=⟨z,H,I,g,q⟩
 by_cases m:0<=i
 ·have c:=by
   rw [seqIndex_of m D]at b
   exact Ag6.inj b
  exact item_listR f.isList m (by omega) (by rw [c];simpa using n) fin l
 ·have c:(i+ e.toArray.size).toNat=j:=by
   rw [seqIndex_neg (by omega) E]at b
   rw [Aa9,←F]
   exact Ag6.inj b
  exact subscriptTail_builtinR f.isList.typeIs slot_list_getitem.lookup
   (wpAny_getItem_list_neg f.isList (by omega) (by rw [Aa9]<;>omega) (by omega) (by rw [c];simpa using n) ⟨rfl,fin⟩) l
def au:ft X (pI X.K):=by
 intro b d a s U H x y v u Q I f C h l
 obtain⟨p,K,i,z,rfl,rfl,k,m,q⟩:=h
 cases f
 obtain⟨t,rfl⟩:=C
 obtain⟨n,r,e,J⟩:=I.tuple k
 obtain⟨j,A,g,D,G,E⟩:=JY m
 obtain⟨w,o,c⟩:=r.get g
 have B:=r.length
 have F:=wF
 have fin:EP X a U Q w s:=⟨z,H,I,c,q⟩
 exact subscriptTail_builtinR e.typeIs slot_tuple_getitem.lookup
  (getItem_tuple e (by omega) (by omega) (by rw [Aa9,←B];exact A) (by simpa using o) ⟨rfl,fin⟩) l
def xC:ft X oH:=by
 intro a b d s U H x y v u Q I f w h l
 obtain⟨z,i,c,rfl,rfl,D,m,q⟩:=h
 obtain⟨t,rfl⟩:=f
 obtain⟨C,rfl⟩:=w
 obtain⟨j,e,g,A,p,n⟩:=JY m
 have r:z.cps.toList.length=z.length:=by simp [Str.length]
 rw [r]at e p n
 have B:=wF
 exact tail_any (typeIs_str s z t) slot_str_getitem.lookup (getItem_str (by
  have o:u9 (i< -(2 ^ 63:Int))=false:=decide_eq_false (by omega)
  have k:u9 (i>=2 ^ 63)=false:=decide_eq_false (by omega)
  rw [o,k,Bool.or_false]) (by rw [e];simpa using g) ⟨.str ⟨#[c]⟩,H,I.tok _,⟨_,rfl⟩,q⟩) l
def vn (K:Aa6):R2:=λx y H Q=>sZ K x y H Q\/pI K x y H Q\/oH x y H Q
def Ds:ft X (vn X.K):=fG.or (au.or xC)
def X8 (a:List Value) (n j) (u):Obj.mapSeq (·.setIfInBounds j u) { cls:= .type "list",data:= .seq a.toArray n }= { cls:= .type "list",data:= .seq (a.set j u).toArray n }:=by
 simp [Obj.mapSeq]
theorem Inv.lst (I:Inv X y8 U H s) (h:H p=y0 (.lst xs)):
 ∃ i n,Vals xs i/\s.heap.get? p=y0 { cls:= .type "list",data:= .seq i.toArray n }/\xs.length<=sizeLine:=by
 obtain⟨z,i,n,r,e⟩:=I.aR p _ h
 exact⟨i,n,r,e,z⟩
def Inv.hj {a its':List Value}(I:Inv X y8 U H s) (h:H p=y0 (.lst xs))
 (g:s.heap.get? p=y0 { cls:= .type "list",data:= .seq a.toArray n }) (c:f { cls:= .type "list",data:= .seq a.toArray n }= { cls:= .type "list",data:= .seq its'.toArray n' }) (r:Vals ys its') (i:ys.length<=sizeLine) (t):
 Inv X y8 U (aP H p (.lst ys)) { s with heap:=s.heap.update p f,toks:=t }:=by
 have e:(s.heap.update p f).get? p=y0 { cls:= .type "list",data:= .seq its'.toArray n' }:=by
  rw [Heap.get?_update_self f g (by rw [c]<;>rfl),c]
 refine I.write (by rw [h];trivial) (.inl rfl) (λb u d q=>(Ah9 _ _ (Ne.symm d)).trans q) ⟨_,e⟩ ?_
 exact⟨i,its',n',r,e⟩
def vz:V->V->V->Hp->(Hp->Prop)->Prop:=λo i v H Q=> ∃p xs k j,o= .ref p/\i= .int k/\H p=y0 (.lst xs)/\dj xs.length k=y0 j/\Q (aP H p (.lst (xs.set j v)))
def Z6:rf X vz:=by
 intro l s U H o i v D F u Q I y B rv h
 obtain⟨p,G,k,j,rfl,rfl,g,z,q⟩:=h
 cases y
 obtain⟨t,rfl⟩:=B
 obtain⟨a,n,r,c,A⟩:=I.lst g
 obtain⟨b,C,f,x⟩:=oB z
 have e:=r.length
 have E:=wF
 have w:=
  I.hj g c (X8 a n j u) (r.set rv j) (by rw [Ad];exact A) s.toks
 by_cases m:0<=k
 ·have d:=by
   rw [seqIndex_of m x]at b
   exact Ag6.inj b
  exact PySem.W.ki_setAt c m (by omega) (by rw [Aa9,←e];exact x) (by rw [d];exact⟨_,w,q⟩)
 ·have d:(k+ a.toArray.size).toNat=j:=by
   rw [seqIndex_neg (by omega) f]at b
   rw [Aa9,←e]
   exact Ag6.inj b
  exact PySem.W.ki_setBack c (by omega) (by rw [Aa9,←e];exact f) (by omega) (by rw [d];exact⟨_,w,q⟩)
def QP (lo hi) (n):(sliceBounds lo hi u0 n).1=((HT.aH n 0 lo:Nat):Int)/\(sliceBounds lo hi u0 n).2.1=((HT.aH n n hi:Nat):Int)/\(sliceBounds lo hi u0 n).2.2=1:=by
 refine⟨?_,?_,rfl⟩
 ·cases lo with
  | none=>simp [sliceBounds,HT.aH]
  | some i=>
   simp only [sliceBounds,HT.aH,Option.getD_none,show(1:Int)>0 by decide,if_true]
   by_cases h:i<0
   ·simp only [h,if_true]<;>omega
   ·simp only [h,if_false]<;>omega
 ·cases hi with
  | none=>simp [sliceBounds,HT.aH]
  | some i=>
   simp only [sliceBounds,HT.aH,Option.getD_none,show(1:Int)>0 by decide,if_true]
   by_cases h:i<0
   ·simp only [h,if_true]<;>omega
   ·simp only [h,if_false]<;>omega
def ZM (a:List Value) (lo hi):slicePick a.toArray lo hi u0=((a.drop (HT.aH a.length 0 lo)).take (HT.aH a.length a.length hi-HT.aH a.length 0 lo)).toArray:=by
 obtain⟨d,b,c⟩:=QP lo hi a.toArray.size
 unfold slicePick
 rw [d,b,c]
 simp only [sliceRange_one,pick_run,Aa9]<;>rfl
def l8 (K:Aa6):V->Option Int->Option Int->Hp->VK->Prop:=λx lo hi H Q=> ∃a xs,x= .ref a/\a9 K H a xs/\ ∀p,H p=u0->Q (.ref p) (aP H p (.lst (iP xs lo hi)))
def fy:eY X (l8 X.K):=by
 intro i s U H x v t w e f sl Q I j k o l h
 obtain⟨a,d,rfl,m,q⟩:=h
 cases j
 obtain⟨n,r,g,p⟩:=I.list m
 have c:=r.length
 refine⟨"list",_,slot_list_getitem.lookup,g.isList.typeIs,?_⟩
 refine wpAny_getItem_list_slice g.isList k o l .none (by simp) ?_ (by rw [Aa9]<;>omega)
 rw [ZM,←c]
 refine⟨.ref s.heap.objs.size,_,I.laid (λb u q=>Aa8 _ q) (Aa7 _) ?_,rfl,q _ (I.aR.fresh (Aa7 _))⟩
 exact⟨Ac1 (qF d e f) p,_,0,(r.drop (HT.aH d.length 0 e)).take (HT.aH d.length d.length f-HT.aH d.length 0 e),Ab6 _ rfl⟩
def zI:V->Bool
 | .az=>k9
 | .bl _=>k9
 | .int _=>k9
 | .str _=>k9
 | _=>y9
noncomputable def f6:V->V->Bool
 | .az,.az=>k9
 | .bl a,.bl b=>a==b
 | .bl a,.int b=>(if a then 1 else 0)==b
 | .int a,.bl b=>a==(if b then 1 else 0)
 | .int a,.int b=>a==b
 | .str a,.str b=>a==b
 | _,_=>y9
def B9 (f:RelV y u) (c:RelV x v) (g:zI y=k9) (e:zI x=k9):SeqAt.EqAt A s u v (f6 y x):=by
 cases y with
 | az=>
  cases f
  cases x with
  | az=>cases c;exact SeqAt.EqAt.same _
  | bl b=>cases c;exact SeqAt.EqAt.none_bool b
  | int b=>obtain⟨t,rfl⟩:=c;exact SeqAt.EqAt.none_int b t
  | str b=>obtain⟨t,rfl⟩:=c;exact SeqAt.EqAt.none_str b t
  | _=>exact absurd (e) Ab4
 | bl a=>
  cases f
  cases x with
  | az=>cases c;exact SeqAt.EqAt.bool_none a
  | bl b=>cases c;exact SeqAt.EqAt.bool_bool a b
  | int b=>obtain⟨t,rfl⟩:=c;exact SeqAt.EqAt.bool_int a b t
  | str b=>obtain⟨t,rfl⟩:=c;exact SeqAt.EqAt.bool_str a b t
  | _=>exact absurd (e) Ab4
 | int a=>
  obtain⟨d,rfl⟩:=f
  cases x with
  | az=>cases c;exact SeqAt.EqAt.int_none a d
  | bl b=>cases c;exact SeqAt.EqAt.int_bool a d b
  | int b=>obtain⟨t,rfl⟩:=c;exact SeqAt.EqAt.int_int a d b t
  | str b=>obtain⟨t,rfl⟩:=c;exact SeqAt.EqAt.int_str a d b t
  | _=>exact absurd (e) Ab4
 | str a=>
  obtain⟨d,rfl⟩:=f
  cases x with
  | az=>cases c;exact SeqAt.EqAt.str_none a d
  | bl b=>cases c;exact SeqAt.EqAt.str_bool a d b
  | int b=>obtain⟨t,rfl⟩:=c;exact SeqAt.EqAt.str_int a d b t
  | str b=>obtain⟨t,rfl⟩:=c;exact SeqAt.EqAt.str_str a d b t
  | _=>exact absurd (e) Ab4
 | _=>exact absurd (g) Ab4
def dW (x:V) (u:Value):Bool:=match u with
 | .none=>f6 .az x
 | .bool b=>f6 (.bl b) x
 | .int i _=>f6 (.int i) x
 | .str z _=>f6 (.str z) x
 | _=>y9
def ox (r:RelV y u) (f:zI y=k9):dW x u=f6 y x:=by
 cases y with
 | az=>cases r;rfl
 | bl b=>cases r;rfl
 | int i=>obtain⟨t,rfl⟩:=r;rfl
 | str z=>obtain⟨t,rfl⟩:=r;rfl
 | _=>exact absurd (f) Ab4
theorem qC : ∀ {xs}{us},Vals xs us->xs.all zI=k9->us.any (dW x)=xs.any λy=>f6 y x
 | _,_,.nil,_=>rfl
 | y::xs,u::us,.cons r t,f=>by
  rw [Ah6,Ab2]at f
  rw [Ah5,Ah5,ox r f.1,qC t f.2]
theorem zx (c:RelV x v) (b:zI x=k9): ∀ {xs}{us},Vals xs us->xs.all zI=k9-> ∀u∈us,SeqAt.EqAt A s u v (dW x u)
 | _,_,.nil,_=>λu a=>by cases a
 | y::xs,u::us,.cons r t,f=>λd a=>by
  rw [Ah6,Ab2]at f
  rcases Aa.mp a with rfl | a
  ·rw [ox r f.1];exact B9 r c f.1 b
  ·exact zx c b t f.2 d a
def lg (x:V) (xs:List V):Bool:=xs.any λy=>f6 y x
def p7 (K:Aa6) (neg:Bool):R2:=λx y H Q=> ∃p xs,y= .ref p/\(a9 K H p xs\/b8 K H p xs)/\zI x=k9/\xs.all zI=k9/\Q (.bl (if neg then !lg x xs else lg x xs)) H
def Bz:bK X (compareOp .In) (p7 X.K y9):=by
 intro g s U H x y v u Q I f j h
 obtain⟨p,k,rfl,b,e,fs,q⟩:=h
 cases j
 rcases b with b | b
 ·obtain⟨a,r,d,i⟩:=I.list b
  refine SeqAt.in_listAt (dW x) d.isList (λw c=>zx f e r fs w (by simpa using c)) ⟨.bl _,H,I,rfl,?_⟩
  rw [show a.toArray.any (dW x)=a.any (dW x)by simp,qC r fs]
  exact q
 ·obtain⟨a,r,d,i⟩:=I.tuple b
  refine SeqAt.in_tupleAt (dW x) d (λw c=>zx f e r fs w (by simpa using c)) ⟨.bl _,H,I,rfl,?_⟩
  rw [show a.toArray.any (dW x)=a.any (dW x)by simp,qC r fs]
  exact q
def jR:bK X (compareOp .NotIn) (p7 X.K k9):=by
 intro g s U H x y v u Q I f j h
 obtain⟨p,k,rfl,b,e,fs,q⟩:=h
 cases j
 rcases b with b | b
 ·obtain⟨a,r,d,i⟩:=I.list b
  refine SeqAt.notIn_listAt (dW x) d.isList (λw c=>zx f e r fs w (by simpa using c)) ⟨.bl _,H,I,rfl,?_⟩
  rw [show a.toArray.any (dW x)=a.any (dW x)by simp,qC r fs]
  exact q
 ·obtain⟨a,r,d,i⟩:=I.tuple b
  refine SeqAt.notIn_tupleAt (dW x) d (λw c=>zx f e r fs w (by simpa using c)) ⟨.bl _,H,I,rfl,?_⟩
  rw [show a.toArray.any (dW x)=a.any (dW x)by simp,qC r fs]
  exact q
def zS:bK X (compareOp .NotIn) (λx y H Q=> ∃i j,x= .str i/\y= .str j/\Q (.bl (!(!(Builtin.Str.occurrences j i 0 j.length 1).isEmpty))) H):=by
 intro a s U H x y v u Q I b c h
 obtain⟨i,j,rfl,rfl,q⟩:=h
 obtain⟨t,rfl⟩:=b
 obtain⟨d,rfl⟩:=c
 exact notIn_str ⟨.bl _,H,I,rfl,q⟩
def wT:Js X (.builtin "len") (fun xs H Q=> ∃p ys,xs= [.ref p]/\(a9 X.K H p ys\/b8 X.K H p ys)/\Q (.int ys.length) H):=by
 intro f s U H xs k Q I r h
 obtain⟨p,ys,rfl,b,q⟩:=h
 obtain⟨u,rfl,g⟩:=wI r
 cases g
 have j:=wF
 rcases b with b | b
 ·obtain⟨c,d,e,i⟩:=I.list b
  have a:=d.length
  exact Calls.call_len_list e.isList (by simp only [Aa9]<;>omega) ⟨.int ys.length,H,I.tok _,⟨s.toks+1,by rw [Aa9,a]⟩,q⟩
 ·obtain⟨c,d,e,i⟩:=I.tuple b
  have a:=d.length
  exact len_tuple e (by simp only [Aa9]<;>omega) ⟨.int ys.length,H,I.tok _,⟨s.toks+1,by rw [Aa9,a]⟩,q⟩
def JU:Js X (.builtin "len") (fun xs H Q=> ∃z,xs= [.str z]/\z.length<=sizeLine/\Q (.int z.length) H):=by
 intro a s U H xs c Q I r h
 obtain⟨z,rfl,d,q⟩:=h
 obtain⟨u,rfl,t,rfl⟩:=wI r
 have b:=wF
 exact len_str (by omega) ⟨.int z.length,H,I.tok _,⟨_,rfl⟩,q⟩
def xU:Js X (.type "list") (fun xs H Q=> ∃p ys,xs= [.ref p]/\(a9 X.K H p ys\/b8 X.K H p ys)/\ ∀l,H l=none->Q (.ref l) (aP H l (.lst ys))):=by
 intro i s U H xs z Q I r h
 obtain⟨p,ys,rfl,g,q⟩:=h
 obtain⟨u,rfl,y⟩:=wI r
 cases y
 have fin: ∀(a:List Value),Vals ys a->ys.length<=sizeLine-> ∀(c:Heap) (d:Nat),(∀ b x,s.heap.get? b=y0 x->c.get? b=y0 x) →
  c.get? s.heap.objs.size=some { cls:= .type "list",dict:=none,data:= .seq a.toArray d,slots:= #[] }->EP X i U Q (.ref s.heap.objs.size) { s with heap:=c }:=fun a f k c d j e=>
  ⟨.ref s.heap.objs.size,_,I.laid (t':=s.toks) j (Aa7 _) (show aN X.prog X.w _ c _ (.lst ys)from⟨k,a,d,f,e⟩),rfl,q _ (I.aR.fresh (Aa7 _))⟩
 rcases g with g | g
 ·obtain⟨a,f,w,k⟩:=I.list g
  have m:=f.length
  obtain⟨o,t,v,n,hd⟩:=w.isList
  exact call_list_seq p (.inl rfl) t v hd (λc d j e=>fin a f k c d j e) (by simp only [Aa9]<;>omega)
 ·obtain⟨a,f,w,k⟩:=I.tuple g
  have m:=f.length
  obtain⟨o,t,v,n,hd⟩:=w
  exact call_list_seq p (.inr rfl) t v hd (λc d j e=>fin a f k c d j e) (by simp only [Aa9]<;>omega)
def Wg:Js X (.type "tuple") (fun xs H Q=> ∃p ys,xs= [.ref p]/\((a9 X.K H p ys/\ ∀l,H l=none->Q (.ref l) (aP H l (.tup ys)))\/(b8 X.K H p ys/\Q (.ref p) H))):=by
 intro a s U H xs w Q I r h
 obtain⟨p,ys,rfl,h⟩:=h
 obtain⟨u,rfl,n⟩:=wI r
 cases n
 rcases h with⟨f,q⟩ | ⟨f,q⟩
 ·obtain⟨c,g,i,j⟩:=I.list f
  have m:=g.length
  refine call_tuple_list i.isList (λd v=> ?_) (by simp only [Aa9]<;>omega)
  have k:Inv X a U H { s with heap:=d }:=I.kept v
  have t:Inv X a U (aP H d.objs.size (.tup ys)) { s with heap:=d.push { cls:= .type "tuple",data:= .seq c.toArray } }:=
   k.laid (λb o e=>Aa8 _ e) (Aa7 _) (show aN X.prog X.w _ _ _ (.tup ys)from⟨j,c,g,cZ.new _ _⟩)
  exact⟨.ref d.objs.size,_,t,rfl,q _ (k.aR.fresh (Aa7 _))⟩
 ·obtain⟨c,g,i,j⟩:=I.tuple f
  exact call_tuple_same i ⟨.ref p,H,I,rfl,q⟩
def pw (K:Aa6) (T:String) (x:V) (H:Hp):Prop:=match x with
 | .str _=>T= "str"
 | .int _=>T= "int"
 | .ref p=>(T= "list" /\ ∃xs,a9 K H p xs)\/(T= "tuple" /\ ∃o,K.lookup p=some o/\o.cls= .type "tuple" /\o.dict=none) ∨
  (T= "dict" /\((∃ a,H p=some (.dK a))\/ ∃a,H p=some (.dT a)))\/(T= "set" /\ ∃S n,H p=some (.set S n))
 | _=>False
def vV (I:Inv X y8 U H s) (r:RelV x v) (ty:pw X.K T x H):
 s.TypeIs v T/\ ∀a,v= .ref a-> ∃ob,s.heap.get? a=y0 ob/\ob.dict=none:=by
 cases x with
 | str z=>
  obtain⟨t,rfl⟩:=r
  cases (ty)
  exact⟨typeIs_str s z t,λ_ e=>nomatch e⟩
 | int i=>
  obtain⟨t,rfl⟩:=r
  cases (ty)
  exact⟨typeIs_int s i t,λ_ e=>nomatch e⟩
 | ref p=>
  cases r
  rcases ty with⟨rfl,l,h⟩ | ⟨rfl,o,b,j,hd⟩ | ⟨rfl,b⟩ | ⟨rfl,S,n,b⟩
  ·obtain⟨k,_,g,_⟩:=I.list h
   refine⟨g.isList.typeIs,λa e=> ?_⟩
   cases e
   obtain⟨o,n,e,c,hd,_⟩:=g
   exact⟨o,e,hd⟩
  ·refine⟨⟨o,I.b0 p o b,j⟩,λa e=> ?_⟩
   cases e
   exact⟨o,I.b0 _ o b,hd⟩
  ·have z: ∃o,s.heap.get? p=y0 o/\o.ExactDict:=by
    rcases b with⟨f,b⟩ | ⟨f,b⟩
    ·obtain⟨_,_,_,_,o,_,_,e,ex,_⟩:=I.aR p _ b
     exact⟨o,e,ex⟩
    ·obtain⟨_,_,_,_,o,_,_,e,ex,_⟩:=I.aR p _ b
     exact⟨o,e,ex⟩
   obtain⟨o,e,ex⟩:=z
   refine⟨⟨o,e,ex.1⟩,λa d=> ?_⟩
   cases d
   exact⟨o,e,ex.2.1⟩
  ·obtain⟨o,_,_,_,e,ex,_⟩:=I.aR p _ b
   refine⟨⟨o,e,ex.1⟩,λa d=> ?_⟩
   cases d
   exact⟨o,e,ex.2.1⟩
 | _=>exact False.elim ty
def CO (K:Aa6) (T:String) (r:V->List V->Hp->VK->Prop) (a:TE) (t:TA):TE:=λU H Q=>a U H λx H1=>pw K T x H1/\t U H1 λxs H2=>r x xs H2 Q
variable {o e:Expr}{es:List Expr}{to:TE}{t:TA}{name:Str}{apos u7:Pos}{T id:String}{r:V->List V->Hp->VK->Prop}
def ml (q:PlainAttrs T) (f:Slot T name id) (i:typeOf (.builtin id)=pure (.type "method_descriptor")) (B:uD X id r) (y:PE X o to) (C:PA X (e::es) t)
 (c:attributeBase o name X.env (eval o X.env)=eval o X.env:=by rfl)
 (g:((backTo u7 (starEach (e::es) X.env)).all (λx=> !x.1)&&(backToKw u7 (keywordEach [] X.env)).all (λx=>x.1.isSome)
   &&u9 ((e::es).length+([]:List Keyword).length+(if ([]:List Keyword).isEmpty then 0 else 1)<30))=true:=by rfl)
 (d:(apos.endLine==u7.line)=true:=by rfl) (z:starEach (e::es) X.env=(y9,eval e X.env)::starEach es X.env:=by rfl) (b:(backTo u7 (starEach es X.env)).any (·.1)=false:=by rfl):
 PE X (.Call (.Attribute o name apos) (e::es) [] u7) (CO X.K T r to t):=by
 intro a s U H Q I h
 refine wpAny_Call_method_late c g d rfl (aI (y a s U H _ I h) ?_)
 rintro v D ⟨x,J,l,j,ty,A⟩
 obtain⟨F,u⟩:=vV l j ty
 refine⟨T,id,q,f,i,F,u,?_⟩
 have k:=C u7 a D U J _ l A
 rw [z]at k ⊢
 refine Calls.callWith_builtin (by show(y9||(backTo u7 (starEach es X.env)).any (·.1))=y9;rw [b]<;>rfl) (Calls.evalArgs_plain ?_)
 exact aI k λG w ⟨K,n,p,E,m⟩=>B a w U n x K v G Q p j E m
end
def gd (X:Cx) (id:String) (r:V->List V->Hp->VK->Prop):Prop:=
 ∀(y8:List (Addr×Obj)) (s:Shared) (U:St) (H:Hp) (x:V) (xs:List V) (v:Value) (a:List Value) (Q:VK),Inv X y8 U H s->RelV x v->Vals xs a->r x xs H Q →
  wpAny (model X.prog X.w) X.A (call (.builtin id) (v::a)) (EP X y8 U Q) X.xe s
def Vals.one: ∀ {x}{us},Vals [x] us-> ∃u,us= [u]/\RelV x u
 | _,_,.cons r .nil=>⟨_,rfl,r⟩
def Vals.two: ∀ {x y:V}{us:List Value},Vals [x,y] us-> ∃u v,us= [u,v]/\RelV x u/\RelV y v
 | _,_,_,.cons r (.cons q .nil)=>⟨_,_,rfl,r,q⟩
theorem Vals.rep (h:Vals xs us): ∀k:Nat,Vals (Aa1 k xs).flatten (Aa1 k us).flatten
 | 0=> .nil
 | k+1=>by
  exact Vals.append h (Vals.rep h k)
theorem XQ (its): ∀ k (a:List Value),
 List.foldl (λi x2=>i++x2) a.toArray (Aa1 k its.toArray)=(a++(Aa1 k its).flatten).toArray
 | 0,a=>by simp
 | k+1,a=>by
  have e:a.toArray++its.toArray=(a++its).toArray:=by simp
  have b:(a++its)++(Aa1 k its).flatten=a++(Aa1 (k+1) its).flatten:=by
   rw [Ac9,Ai0,Ac6]
  rw [← b,←XQ its k (a++its),←e,Ac9,Ag2]
section
variable {X:Cx}{y8:List (Addr×Obj)}{U:St}{H:Hp}{s:Shared}{l b:Addr}{xs ys zs:List V}
def Inv.hB {a its':List Value}(I:Inv X y8 U H s) (b:H l=y0 (.lst xs))
 (e:s.heap.get? l=y0 { cls:= .type "list",data:= .seq a.toArray n }) (d:f a.toArray=its'.toArray) (g:Vals ys its') (i:ys.length<=sizeLine):
 Inv X y8 U (aP H l (.lst ys)) { s with heap:=s.heap.update l (Obj.mapSeq f),toks:=t' }:=by
 have q:=PySem.IsL.update e f
 rw [d]at q
 refine I.write (by rw [b];exact trivial) (.inl rfl) (λj u c h=>(Ah9 s.heap (Obj.mapSeq f) (Ne.symm c)).trans h) ⟨_,q⟩ ?_
 exact⟨i,its',_,g,q⟩
def Inv.iY (I:Inv X y8 U H s) (a:Vals ys its) (b:ys.length<=sizeLine):
 Inv X y8 U (aP H s.heap.objs.size (.lst ys)) { s with heap:=s.heap.push { cls:= .type "list",data:= .seq its.toArray },toks:=t' }:=
 I.laid (λ_ _ q=>Aa8 _ q) (Aa7 _) ⟨b,its,0,a,Ab6 _ rfl⟩
theorem Inv.fresh (I:Inv X y8 U H s):H s.heap.objs.size=none:=I.aR.fresh (Aa7 _)
def Inv.fZ (I:Inv X y8 U H s) (a:H l=y0 (.lst xs)):xs.length<=sizeLine/\ ∃ i n,Vals xs i/\xs.length=i.length/\s.heap.get? l=y0 { cls:= .type "list",data:= .seq i.toArray n }:=by
 obtain⟨z,i,n,r,e⟩:=I.aR l _ a
 exact⟨z,i,n,r,r.length,e⟩
def j1 (h:n<=sizeLine):Builtin.List.listTooLong n=false:=by
 exact decide_eq_false (by omega)
end
section
variable {X:Cx}
def vy:V->List V->Hp->VK->Prop:=λx a H Q=> ∃l xs y,x= .ref l/\a= [y]/\H l=y0 (.lst xs)/\xs.length<sizeLine/\Q .az (aP H l (.lst (xs++ [y])))
def DV:gd X "list.append" vy:=by
 intro b s U H x m v j Q I d rv h
 obtain⟨l,k,y,rfl,rfl,c,g,q⟩:=h
 cases d
 obtain⟨u,rfl,f⟩:=rv.one
 obtain⟨z,a,n,r,i,e⟩:=I.fZ c
 refine call_meets F.slot_list_append ⟨_,e,rfl⟩ F.entry_list_append (F.args_list_append_2 _ _) (PySem.list_append l a.toArray n u (by rw [Aa9];omega)) ⟨e,?_⟩
 refine⟨.az,_,I.hB c e (by simp) (r.append (.cons f .nil)) ?_,rfl,q⟩
 rw [Aa3,Ag7]
 omega
def vv:V->List V->Hp->VK->Prop:=λx a H Q=> ∃l b xs zs,x= .ref l/\a= [.ref b]/\H l=y0 (.lst xs)/\H b=y0 (.lst zs)/\xs.length+zs.length<=sizeLine/\Q .az (aP H l (.lst (xs++zs)))
def vM:gd X "list.extend" vv:=by
 intro g s U H x G v D Q I j rv h
 obtain⟨l,b,E,y,rfl,rfl,i,o,B,q⟩:=h
 cases j
 obtain⟨u,rfl,k⟩:=rv.one
 cases k
 obtain⟨z,c,n,r,C,e⟩:=I.fZ i
 obtain⟨A,a,p,t,w,m⟩:=I.fZ o
 have f:c.toArray.size+a.toArray.size<=sizeLine:=by rw [Aa9,Aa9];omega
 have d: ¬(!c.toArray.isEmpty&&Builtin.List.listTooLong (c.toArray.size+a.toArray.size))=true:=by
  rw [j1 f,Bool.and_false]
  exact Ab4
 refine call_meets F.slot_list_extend ⟨_,e,rfl⟩ F.entry_list_extend (F.args_list_extend_2 _ _)
  (AutoSeq1.list_extend_list_list_0 l c.toArray n b a.toArray p d (by rw [Aa9];omega) (by omega)) ⟨e,m,?_⟩
 refine⟨.az,_,I.hB (its':=c++a) i e (by simp) (r.append t) ?_,rfl,q⟩
 rw [Aa3]
 omega
def A6 (xs:List α) (k):(Aa1 k xs).flatten.length=k*xs.length:=by simp
end
end L2
namespace Att
open PySem PySem.W PySem.Calls PyProof.Rows
def zC : ∀ ns vs,WellAll P h vs (ns.map WData.int)->IntsAre vs ns:=by
 intro ns
 induction ns with
 | nil=>
  intro vs w
  cases w
  exact .nil
 | cons n ns c=>
  intro vs w
  cases w with
  | cons a b=>
   cases a
   exact .cons _ _ (c _ b)
def BI {l:OpenLaw}(s:l.most=y0 n)
 (b:l.row.toRowW.claim.pre args=k9) (i:WellAll P h vals args):
 ∃a vs ns,vals= [Value.ref a]/\args= [WData.list (ns.map WData.int)]/\h.get? a=y0 { cls:= .type "list",data:= .seq vs.toArray }/\IntsAre vs ns/\ns.length<=n:=by
 have j:WShape.hasAll [] args [.list .int]=true:=(pre_splitW b).1
 have p:l.pre.holds [] { args:=args }=true:=(pre_splitW b).2
 obtain⟨d,r,rfl,w,k⟩:=hasAllW_cons j
 obtain rfl:=hasAllW_nil k
 obtain⟨x,rfl,m⟩:=hasW_list w
 obtain⟨ns,rfl⟩:=items_int m
 have e:ns.length<=n:=by
  have f:=by
   have f:=(holds_andW p).1
   rw [s]at f
   exact f
  have g:=condW_of f (w_not (w_lt w_lit (w_len_list (w_arg rfl))))
  refine Nat.le_of_not_lt λq=> ?_
  have u:=by omega
  first
   | (rw [decide_eq_true u]at g;exact absurd g (by decide))
   | (simp at g;omega)
 cases i with
 | cons t v=>
  cases v
  cases t with
  | list o c=>exact⟨_,_,ns,rfl,rfl,o,zC ns _ c,e⟩
def Hr (l:OpenLaw) (args):l.row.toRowW.claim.post args (.bool k9) args=true:=
 postW_of
  (show WShape.has [] (.bool k9) .bool=k9 by first | rfl | decide | simp [WShape.armsAll])
  (show (WTm.eq .res (.lit (.bool k9))).value [] { args:=args,res:=y0 (.bool k9),after:=args }=y0 (.bool (k9==k9))from w_eq_bool (w_res rfl) w_lit) rfl
def dz {l:OpenLaw}
 (B:l.most=y0 n) (m:d.params.defaults= [])
 (call: ∀ w J i mg O M o S cd L a vs ns,
   Ground q loose [] XP w J mg O i.heap->YP w i.heap →
   i.heap.get? M=y0 o->o.data= .func (docDef d.name d.params d.body d.scope S cd L)->i.heap.CodeRec cd d.name->mg d.name=y0 (.ref M) →
   i.heap.get? a=y0 { cls:= .type "list",data:= .seq vs.toArray }->IntsAre vs ns->ns.length<=n->i.gens= #[] →
   codeAny (model l.prog w) callerA (.call (.ref M) ⟨[.ref a],[]⟩) (λr s'=>r= .ok (.ret (.bool k9))/\OldK i.heap s'.heap/\s'.os=i.os/\AllBare s'.gens) i):
 WalkO q loose XP YP l.row.toRowW d [] (λf vs=>PySem.call f vs):=by
 intro w J i mg O G Y M o S cd L H kV z hd h t j D u s I c p C k F
 obtain rfl:H= .none:=Dflts.none t m
 obtain rfl:kV= .none:=Dflts.noKw t
 obtain⟨a,vs,ns,rfl,rfl,e,b,g⟩:=BI B c k
 refine enter_call (codeAny_mono (call w J i mg O M o S cd L a vs ns G Y z (fd_plain hd) h j e b g D) λr s' y=> ?_)
 obtain⟨rfl,v,x,E⟩:=y
 exact⟨.inl ⟨.bool k9,.bool k9,[],rfl,λ_=>rfl,.bool k9,Hr l _,λ_=>⟨Ak0.nil,λ_ A=>(nomatch A)⟩⟩,v,x,E⟩
end Att
namespace L2
open PySem PySem.Spec PyProof.Rows
theorem zQ: ∀ {vs}{ns},IntsAre vs ns->Vals (ns.map V.int) vs
 | _,_,.nil=> .nil
 | _,_,.cons n t h=> .cons ⟨t,rfl⟩ (zQ h)
def nF (H:Hp):Prop:= ∀b,H b=u0\/ ∃o xs,H b=y0 (.dM o (.lst xs))
def ue {K:Aa6}
 (R:K.In s₁.heap) (t:s₁.heap.Ns mainGlobals mg) (c:s₁.heap.Ns builtinsNs mb) (O: ∀x:Str,x≠ "__name__" ->mb x=bootBuiltins x) (j:s₁.heap.NoLimit) (hg:s₁.gens= #[])
 (G:s₁.heap.get? a=y0 { cls:= .type "list",data:= .seq vs.toArray }) (hi:IntsAre vs ns) (T:ns.length<=sizeLine) (Z:aV k callerA)
 (F: ∀base:Heap,K.In base->base.Ns mainGlobals mg->bb P w K mg base CX k fa fd [x] sp) (i: ∀ s u,BindsTo s fd ⟨[u],[]⟩ [(x,u)])
 (M: ∀H:Hp,nF H->a9 K H a (ns.map V.int)->sp [.ref a] H (λv _=>v= .bl k9) λ_ _ _=>False)
 (J: ∀H e s',CX [] H s₁ (λ_ _ _=>False) e s'->False):
 codeAny (model P w) callerA (.call (.ref fa) ⟨[.ref a],[]⟩) (λr s'=>r= .ok (.ret (.bool k9))/\OldK s₁.heap s'.heap/\s'.os=s₁.os/\AllBare s'.gens) s₁:=by
 have rv:=zQ hi
 have B:=hi.length
 have g: ∀H:Hp,nF H->a9 K H a (ns.map V.int)->cq P w H s₁.heap->(∀ b,H b≠u0->b=a)->(H a≠u0->K.lookup a=u0) →
  codeAny (model P w) callerA (.call (.ref fa) ⟨[.ref a],[]⟩) (λr s'=>r= .ok (.ret (.bool k9))/\OldK s₁.heap s'.heap/\s'.os=s₁.os/\AllBare s'.gens) s₁:=by
  intro H U hS C S hK
  have bU: ∀ {b}{o},s₁.heap.get? b=y0 o->H b=u0->(fB s₁.heap H).get? b=y0 o:=λe n=>B4 e n
  have L: ∀ {b}{o}{D}{E},s₁.heap.get? b=y0 o->o.data= .dict D E->H b=none:=λ{b o D E} e d=>by
   cases q:H b with
   | none=>rfl
   | some u=>
    have I:=S b (by rw [q];simp)
    subst I
    rw [G]at e;cases e
    have d':=d
    cases d'
  have f: ∀ {b}{m},s₁.heap.Ns b m->(fB s₁.heap H).Ns b m:=λ{b m} ⟨o,D,E,e,d,r⟩=>⟨o,D,E,bU e (L e d),d,r⟩
  have p:K.In (fB s₁.heap H):=λb o e=>bU (R b o e) (by
   cases q:H b with
   | none=>rfl
   | some u=>
    have I:b=a:=S b (by rw [q];simp)
    subst I
    rw [hK (by rw [q];simp)]at e;cases e)
  have hM:Mod K mg (fB s₁.heap H):=⟨p,f t,⟨mb,f c,O⟩,let ⟨mc,h1,W⟩:=j; ⟨mc,f h1,W⟩⟩
  have e0:dN P w K mg (fB s₁.heap H) callerA [] s₁ H:=⟨rfl,hM,λb o e=>Di e,Ak6 (Dm _ _),trivial,λb c=>absurd (show b∈([]:List Addr)from c) (by simp),C,.of_eq hg⟩
  refine codeAny_mono ((F _ p (f t)).run callerA [] s₁ H ⟨[.ref a],[]⟩ [.ref a] [.ref a] _ _ Z e0 (i s₁ (.ref a)) (.cons rfl .nil) (M H U hS)) λr s' h=> ?_
  cases r with
  | error e=>exact(J H e s' h).elim
  | ok Y=>
   cases Y with
   | next=>exact False.elim h
   | brk=>exact False.elim h
   | cont=>exact False.elim h
   | ret u=>
    obtain⟨v,H',os,y,un,A,r',q⟩:=h
    have q':v= .bl true:=q
    subst q'
    obtain rfl:u=Value.bool true:=r'
    refine⟨rfl,OldK.of_keep λb o e=> ?_,os,y⟩
    cases q:H b with
    | none=>exact un.keep b o e q (by intro z;exact absurd (show b∈([]:List Addr)from z) (by simp)) (by simp)
    | some u=>
     rcases U b with z | ⟨ob,xs,z⟩
     ·rw [q]at z;cases z
     ·have z2:=un.cX b ob _ z
      obtain⟨Q,_⟩:=C b _ z
      obtain⟨X,_⟩:=A b _ z2
      rw [e]at Q;cases Q
      exact X
 cases N:K.lookup a with
 | some o=>
  have e:=R a o N
  rw [G]at e
  cases e
  refine g (λ_=>u0) (λ_=> .inl rfl) (.inr ⟨_,vs.toArray,_,N,rfl,rfl,rfl,by rw [Aa9,B];exact T,by simpa using rv⟩) (λb u z=>by have l:(none:Option HO)=y0 u:=z;cases l) (λb z=>absurd rfl z) λz=>absurd rfl z
 | none=>
  refine g (fun b=>if b=a then some (.dM { cls:= .type "list",data:= .seq vs.toArray } (.lst (ns.map V.int)))else none) (fun b=> ?_) (.inl (.inr ⟨{ cls:= .type "list",data:= .seq vs.toArray },if_pos rfl⟩)) (fun b u z=> ?_) (fun b z=> ?_) fun _=>N
  ·by_cases c:b=a
   ·exact .inr ⟨_,_,if_pos c⟩
   ·exact .inl (if_neg c)
  ·by_cases c:b=a
   ·have l:=(if_pos c).symm.trans z
    cases l
    subst c
    exact⟨G,by rw [Ab1];exact T,vs,_,rv,G⟩
   ·have l:=(if_neg c).symm.trans z
    cases l
  ·by_cases c:b=a
   ·exact c
   ·exact absurd (if_neg c) z
abbrev Ht {K:Aa6}{h:Heap}(_:K.In h):Aa6:=K
def fx {l:PySem.W.OpenLaw}{K:Params->Aa6}{y:World->fP}{A:World->Sp}
 (O:l.most=y0 n) (j:n<=sizeLine) (t:d.params.defaults= []) (E:aV k callerA)
 (C: ∀ w h,YP w h->(K w.params).In h)
 (F: ∀ w mg J h,(K w.params).In h->h.Ns mainGlobals mg->mg d.name=y0 (.ref J) →
   ∃fd:FuncData,(∀ s u,BindsTo s fd ⟨[u],[]⟩ [(x,u)]) ∧
    ∀base:Heap,(K w.params).In base->base.Ns mainGlobals mg->bb l.prog w (K w.params) mg base (y w) k J fd [x] (A w))
 (r: ∀ w H a (ns:List Int),ns.length<=n->nF H->a9 (K w.params) H a (ns.map V.int)->A w [.ref a] H (λv _=>v= .bl k9) λ_ _ _=>False)
 (p: ∀ w H s e s',y w [] H s (λ_ _ _=>False) e s'->False):
 PySem.W.WalkO q loose XP YP l.row.toRowW d [] (λf vs=>PySem.call f vs):=by
 refine Att.dz O t λw B g mg R J o U T M a vs ns G Y S hd D m i c b P=> ?_
 have z:=C w _ Y
 obtain⟨fd,N,L⟩:=F w mg J _ z G.T.g m
 exact ue z G.T.g G.T.b G.T.builtins G.T.nolimit P i c (Ac1 b j) E L N (λH Q I=>r w H a ns b Q I) λH e s'=>p w H g e s'
noncomputable def Ce (s:Stmt):Arguments:=match s with
 | .FunctionDef _ a _ _ _ _ _ _ _ _=>a
 | _=> { posonlyargs:= [],args:= [],vararg:=u0,kwonlyargs:= [],kw_defaults:= [],kwarg:=u0,defaults:= [] }
def JE (s:Stmt):List Stmt:=match s with
 | .FunctionDef _ _ b _ _ _ _ _ _ _=>b
 | _=> []
noncomputable def zm (s:Stmt):Scope:=match s with
 | .FunctionDef _ _ _ _ _ _ a _ _ _=>a
 | _=> { kind:= .function,names:= [],isGenerator:=y9,isCoroutine:=y9 }
abbrev iW:fP:=λ_ _ _ _ _ _=>False
abbrev E0:XK:=λ_ _ _=>False
structure hQ (K:Aa6) (x k7:Str) (st:Stmt) (f:Addr) (fd:FuncData):Prop where
 ex: ∃(oc:Value) (od:Option Addr) (kV doc pm:Value) (an:Option Addr) (cdv ct:Value) (osl:Array (Option Value)),
  fd=PySem.W.fnOf x k7 (Ce st) (JE st) (zm st) .none kV doc pm an cdv ct/\K.lookup f=y0 ⟨oc,od,.func fd,osl⟩/\PySem.W.codeIn K cdv k7=k9
 kp:Af7 K (.ref f)=k9
def jv (h:n<=1000):n<sizeLine:=Nat.lt_of_le_of_lt h (by decide)
section
variable {X:Cx}
def pv (i)(b:X.N[i]? =some x:=by rfl) (c:gK X.env.scope x:=by first | exact Or.inl rfl | exact Or.inr (Or.inl rfl) | exact Or.inr (Or.inr rfl)) (hd:(x==("__debug__" :Str))=false:=by decide)
 (a:(x==("__classdict__" :Str))=false:=by decide):PE X (.Name x pos) (kL i):=Xu b c hd a
end
def mB {A B:Prop}(h:B):if y9=k9 then A else B:=by
 exact h
def mx {A B:Prop}(h:A):if k9=k9 then A else B:=by
 exact h
end L2
set_option maxHeartbeats 4000000
namespace L2
open PySem PySem.Spec PyProof.Rows
noncomputable def jf (env:Env) (a:List (Str×Addr)) (y:Str×NameKind):List (Str×Addr):=
 if y.2== .free then(match env.cells.lookup y.1 with | some c=>(y.1,c)::a | none=>a)else a
def WH (a:Scope) (env:Env):List (Str×Addr):=a.names.foldl (jf env) []
theorem sR : ∀(a:List (Str×NameKind)) i,(∀ y∈a,y.2= .free-> ∃c,env.cells.lookup y.1=y0 c) →
 (do
   let mut q:=i
   for (name,kind) in a do
    if kind== .free then q:=(name,←cellOf env name)::q
   return q:Sem (List (Str×Addr)))=pure (a.foldl (jf env) i)
 | [],i,_=>by simp
 | (n,k)::r,i,h=>by
  have f:=λq=>sR r q λy j=>h y (Aa5 _ j)
  by_cases d:k= .free
  ·subst d
   obtain⟨c,b⟩:=h (n,.free) Aa4 rfl
   have b:=b
   have e:jf env i (n,.free)=(n,c)::i:=by
    show(if (NameKind.free==NameKind.free)=k9 then(match env.cells.lookup n with | some c=>(n,c)::i | none=>i)else i)=_
    rw [if_pos (show (NameKind.free==NameKind.free)=k9 from rfl),b]
   rw [Ag2,e,←f]
   simp [cellOf,b]
  ·have g:(k==NameKind.free)=false:=by simpa using d
   have e:jf env i (n,k)=i:=by
    show(if (k==NameKind.free)=k9 then _ else i)=_
    rw [g,if_neg Ab4]
   rw [Ag2,e,←f]
   simp [d]
def xL (h: ∀y∈scope.names,y.2= .free-> ∃c,env.cells.lookup y.1=y0 c):closureFor scope env=pure (WH scope env):=
 sR scope.names [] h
theorem jE : ∀(a:List (Str×NameKind)) i,(∀ x c,i.lookup x=y0 c->env.cells.lookup x=y0 c)-> ∀x c,(a.foldl (jf env) i).lookup x=y0 c->env.cells.lookup x=y0 c
 | [],_,h=>h
 | (n,k)::r,i,h=>by
  refine jE r (jf env i (n,k)) λx c e=> ?_
  unfold jf at e
  split at e
  ·split at e
   ·rename_i f b
    rw [Ab7]at e
    cases d:x==n with
    | true=>
     rw [d]at e
     have:x=n:=by simpa using d
     subst this
     cases e
     exact b
    | false=>rw [d]at e;exact h x c e
   ·exact h x c e
  ·exact h x c e
theorem xT (d:env.cells.lookup x=y0 c): ∀(a:List (Str×NameKind)) q,((x,.free)∈a\/ ∃i,q.lookup x=y0 i)-> ∃i,(a.foldl (jf env) q).lookup x=y0 i
 | [],q,h=>h.elim (λz=>absurd z (by simp)) id
 | (n,k)::r,q,h=>by
  refine xT d r (jf env q (n,k)) ?_
  have b:(∃ i,q.lookup x=y0 i)-> ∃i,(jf env q (n,k)).lookup x=y0 i:=by
   rintro ⟨i,e⟩
   unfold jf
   split
   ·split
    ·rw [Ab7]
     cases x==n with
     | true=>exact⟨_,rfl⟩
     | false=>exact⟨i,e⟩
    ·exact⟨i,e⟩
   ·exact⟨i,e⟩
  rcases h with h | h
  ·rcases Aa.mp h with h | h
   ·cases h
    refine .inr ⟨c,?_⟩
    show Ai x (if (NameKind.free==NameKind.free)=k9 then(match env.cells.lookup x with | some c=>(x,c)::q | none=>q)else q)=_
    rw [if_pos (show (NameKind.free==NameKind.free)=k9 from rfl),d]
    simp
   ·exact .inl h
  ·exact .inr (b h)
def qP (I:Nat->Shared->Prop)
 (k: ∀n s,I n s->wpAny (model prog w) A (pyNext it) (λr J=>match r with
   | none=>R (.ok .next) J
   | some v=>wpAny (model prog w) A (letOwnedTupleGo tg it v) (λ_ i=>wpAny (model prog w) A (assign tg env v) (λ_ M=>
    wpAny (model prog w) A (forIn ifs k9 λc r=>if r=k9 then do let ok ←isTrue c env (eval c env);pure (ForInStep.yield ok)else pure (ForInStep.yield r)) (λok q=>
     if ok=k9 then wpAny (model prog w) A (eval elt env) (λx O=>
      wpAny (model prog w) A (call (.builtin "list.append") [acc,x]) (fun _ L=> ∃m,m<n/\I m L) (notedBy (model prog w) A env fun e s'=>R (.error e) s') O) (notedBy (model prog w) A env fun e s'=>R (.error e) s') q
     else ∃m,m<n/\I m q) (notedBy (model prog w) A env λe s'=>R (.error e) s') M) (notedBy (model prog w) A env λe s'=>R (.error e) s') i) (notedBy (model prog w) A env λe s'=>R (.error e) s') J) (notedBy (model prog w) A env λe s'=>R (.error e) s') s)
 (n) (h:I n s):codeAny (model prog w) A (.compLoop (.ListComp elt [⟨tg,iter,ifs,0⟩] scope pos) 0 it acc env) R s:=by
 refine codeAny_loop rfl I (λn s o=> ?_) n h
 refine wpAny_noted ?_
 rw [compTurn_list]
 refine wpAny_bind (wpAny_standAt (wpAny_bind (wpAny_mono (k n s o) (λr J b=> ?_) λ_ _ a=>a)))
 cases r with
 | none=>exact wpAny_pure b
 | some v=>
  refine wpAny_bind (wpAny_mono b (λ_ i f=> ?_) λ_ _ a=>a)
  refine wpAny_bind (wpAny_mono f (λ_ M l=>wpAny_bind (wpAny_mono l (λok q d=> ?_) λ_ _ a=>a)) λ_ _ a=>a)
  cases ok with
  | false=>exact wpAny_pure ⟨rfl,d⟩
  | true=>
   exact wpAny_bind (wpAny_bind (wpAny_mono d (λx O g=>wpAny_bind (wpAny_mono g (λ_ L j=>wpAny_pure (wpAny_pure ⟨rfl,j⟩)) λ_ _ a=>a)) λ_ _ a=>a))
theorem XX : ∀ i n q,(x,NameKind.cell)∉i->(cellsFrom n i q).lookup x=q.lookup x
 | [],_,_,_=>rfl
 | (y,k)::r,n,q,h=>by
  unfold cellsFrom
  split
  ·rename_i a
   have a:=by simpa using a
   subst a
   rw [XX r (n+1) _ λz=>h (Aa5 _ z),Ab7]
   cases b:x==y with
   | true=>
    have:x=y:=by simpa using b
    subst this
    exact absurd Aa4 h
   | false=>rfl
  ·exact XX r n q λz=>h (Aa5 _ z)
theorem XY : ∀ i (h:Heap) J L,(J.lookup x=y0 c->L\/(h.IsCell c u0/\(x,NameKind.cell)∈i\/h.IsCell c u0/\L))-> ∀lo,lo<=h.objs.size →
 (cellsFrom h.objs.size i J).lookup x=y0 c->J.lookup x=y0 c\/(lo<=c/\(x,NameKind.cell)∈i/\(pushCells h i).IsCell c u0)
 | [],_,_,_,_,_,_,e=> .inl e
 | (y,k)::r,h,J,L,m,lo,d,e=>by
  unfold cellsFrom at e
  unfold pushCells
  split at e
  ·rename_i a
   rw [if_pos a]
   have a:=by simpa using a
   subst a
   have e:(cellsFrom (h.push { cls:= .type "cell",data:= .cell none }).objs.size r ((y,h.objs.size)::J)).lookup x=some c:=by rw [Heap.size_push];exact e
   rcases XY r (h.push { cls:= .type "cell",data:= .cell none }) _ True (fun _=> .inl trivial) lo (by rw [Heap.size_push];omega) e with q | ⟨l,f,g⟩
   ·rw [Ab7]at q
    cases j:x==y with
    | true=>
     rw [j]at q
     have:x=y:=by simpa using j
     subst this
     cases q
     exact .inr ⟨d,List.mem_cons_self,(show (h.push { cls:= .type "cell",data:= .cell none }).IsCell h.objs.size none from⟨_,Heap.get?_push_size _ rfl,rfl⟩).keeps fun b o e=>pushCells_keeps r _ b o e⟩
    | false=>
     rw [j]at q
     exact .inl q
   ·exact .inr ⟨l,Aa5 _ f,g⟩
  ·rename_i a
   rw [if_neg a]
   rcases XY r h J True (λ_=> .inl trivial) lo d e with q | ⟨l,f,g⟩
   ·exact .inl q
   ·exact .inr ⟨l,Aa5 _ f,g⟩
theorem nW: ∀(J) (n) (i),(∀ x c,i.lookup x=y0 c->c<n)->(∀ x y c,i.lookup x=y0 c->i.lookup y=y0 c->x=y) →
 ∀x y c,(cellsFrom n J i).lookup x=y0 c->(cellsFrom n J i).lookup y=y0 c->x=y
 | [],_,_,_,a=>a
 | (z,k)::r,n,i,b,a=>by
  unfold cellsFrom
  split
  ·have look: ∀x c,((z,n)::i).lookup x=y0 c->(x=z/\c=n)\/(i.lookup x=y0 c):=λx c e=>by
    rw [Ab7]at e
    cases d:x==z with
    | true=>
     rw [d]at e
     cases e
     exact .inl ⟨by simpa using d,rfl⟩
    | false=>
     rw [d]at e
     exact .inr e
   refine nW r (n+1) _ (λx c e=> ?_) λx y c m g=> ?_
   ·rcases look x c e with⟨_,q⟩ | q
    ·exact q▸Af1 n
    ·exact Aj7 (b x c q)
   ·rcases look x c m with⟨l,h⟩ | p<;>rcases look y c g with⟨j,f⟩ | q
    ·rw [l,j]
    ·exact absurd (h▸b y c q) (Af9 _)
    ·exact absurd (f▸b x c p) (Af9 _)
    ·exact a x y c p q
  ·exact nW r n i b a
theorem WJ : ∀(a:List (Str×NameKind)) i,(a.foldl (jf env) i).lookup x=y0 c->i.lookup x=y0 c\/(x,NameKind.free)∈a
 | [],_,h=> .inl h
 | (y,k)::r,i,h=>by
  rcases WJ r _ h with q | q
  ·unfold jf at q
   split at q
   ·rename_i b
    have b:=by simpa using b
    subst b
    split at q
    ·rw [Ab7]at q
     cases d:x==y with
     | true=>
      have:x=y:=by simpa using d
      subst this
      exact .inr Aa4
     | false=>
      rw [d]at q
      exact .inl q
    ·exact .inl q
   ·exact .inl q
  ·exact .inr (Aa5 _ q)
theorem zR {env:Env}: ∀ {a:List (Str×NameKind)}{x},
 ((a.map λ(n,k)=>if(k==NameKind.free&&env.scope.kind== .function&&env.kindOf n==y0 .cell)then(n,NameKind.cell)else(n,k)).lookup x=y0 .cell ∨
   (a.map λ(n,k)=>if(k==NameKind.free&&env.scope.kind== .function&&env.kindOf n==y0 .cell)then(n,NameKind.cell)else(n,k)).lookup x=y0 .free)->(x,.free)∈a\/(x,.cell)∈a
 | [],_,h=>by simp at h
 | (n,k)::r,x,h=>by
  have e:= @zR env r x
  rw [Ab3]at h
  by_cases b:(k==NameKind.free&&env.scope.kind== .function&&env.kindOf n==y0 .cell)=k9
  ·have f:=by
    rw [Ab2,Ab2]at b
    simpa using b.1.1
   subst f
   simp only [b,if_true,Ab7]at h
   cases c:x==n with
   | true=>
    have:x=n:=by simpa using c
    subst this
    exact .inl Aa4
   | false=>
    rw [c]at h
    exact(e h).imp (Aa5 _) (Aa5 _)
  ·have d:=Ai1.mpr b
   simp only [d,Ag5,if_false,Ab7]at h
   cases c:x==n with
   | true=>
    have:x=n:=by simpa using c
    subst this
    rw [c]at h
    rcases h with h | h
    ·have:k= .cell:=by simpa using h
     subst this
     exact .inr Aa4
    ·have:k= .free:=by simpa using h
     subst this
     exact .inl Aa4
   | false=>
    rw [c]at h
    exact(e (by simpa using h)).imp (Aa5 _) (Aa5 _)
theorem rX: ∀ {a:List (Str×NameKind)}{x}{k i},(a.map Prod.fst).Nodup->(x,k)∈a->(x,i)∈a->k=i
 | (y,j)::r,x,k,i,d,f,e=>by
  rw [Ab3,Af3]at d
  rcases Aa.mp f with b | b<;>rcases Aa.mp e with c | c
  ·cases b;cases c;rfl
  ·cases b;exact absurd (Ad6.mpr ⟨_,c,rfl⟩) d.1
  ·cases c;exact absurd (Ad6.mpr ⟨_,b,rfl⟩) d.1
  ·exact rX d.2 b c
theorem xV: ∀ {a:List (Str×NameKind)}{x}{k},(a.map Prod.fst).Nodup->(x,k)∈a->a.lookup x=y0 k
 | (y,j)::r,x,k,b,h=>by
  rw [Ab3,Af3]at b
  rw [Ab7]
  rcases Aa.mp h with e | e
  ·cases e;simp
  ·have:(x==y)=false:=by
    cases c:x==y with
    | false=>rfl
    | true=>
     have:x=y:=by simpa using c
     subst this
     exact absurd (Ad6.mpr ⟨_,e,rfl⟩) b.1
   rw [this]
   exact xV b.2 e
def gu (a:Scope) (C:Addr) (env:Env):List (Str×Addr):=cellsFrom (C+1) a.names (WH a env)
def jy 
 (c:Q (newEnv scope s.heap.objs.size globals (cellsFrom (s.heap.objs.size+1) scope.names cl) k7 u0 .none (y0 env) builtinsNs) { s with heap:=pushCells (s.heap.push { cls:= .type "dict",data:= .dict #[] }) scope.names }):
 wpAny M A (newFunctionEnv scope globals cl [] k7 u0 .none (y0 env)) Q E s:=by
 simp only [newFunctionEnv,Option.isSome_some,if_true]
 refine wpAny_bind (wpAny_alloc ?_)
 refine wpAny_bind (wpAny_layCells _ (λname kind a=>by cases b:kind==NameKind.cell<;>simp [b]) _ _ _ _ ?_)
 rw [show ({ s with heap:=s.heap.push { cls:= .type "dict",data:= .dict #[] } }:Shared).heap.objs.size=s.heap.objs.size+1 from Heap.size_push ..]
 refine wpAny_bind ?_
 exact wpAny_pure (wpAny_pure c)
noncomputable def ze (X:Cx) (N:List Str) (a:Scope) (C:Addr) (b:List Addr) (s:Shared) (H:Hp):Cx where
 prog:=X.prog
 w:=X.w
 K:=X.K
 mg:=X.mg
 base:=X.base
 A:=X.A
 N:=N
 s₀:=s
 H₀:=H
 env:=compEnvC a (gu a C X.env) C X.env
 outer:=X.stack
 stack:=X.stack
 ex:=b
 fn:=λx=>u9 (a.names.lookup x=y0 .cell)
 calm:=X.calm
 pn:= []
 xe:=λ_ _=>False
def b4 (X:Cx):List Nat->List Str->Prop
 | [],[]=>True
 | j::a,x::xs=>X.N[j]? =y0 x/\(X.env.kindOf x=y0 .cell\/X.env.kindOf x=y0 .free)/\b4 X a xs
 | _,_=>False
theorem b4.get {U:St}: ∀ {aC}{xs}{i:Nat}{x}{v},b4 X aC xs->xs[i]? =y0 x->(aC.map λj=>(U[j]?).join)[i]? =y0 (y0 v) →
 ∃j:Nat,X.N[j]? =y0 x/\U[j]? =y0 (y0 v)/\(X.env.kindOf x=y0 .cell\/X.env.kindOf x=y0 .free)
 | [],[],_,_,_,_,e,_=>by simp at e
 | [],_::_,_,_,_,h,_,_=>h.elim
 | _::_,[],_,_,_,h,_,_=>h.elim
 | j::f,g::xs,0,x,v,h,b,a=>by
  obtain⟨d,c,_⟩:=h
  simp at b
  subst b
  refine⟨j,d,?_,c⟩
  have a:y0 ((U[j]?).join)=y0 (y0 v):=by simpa using a
  have a:=Ag6.inj a
  cases q:U[j]? with
  | none=>rw [q]at a;cases a
  | some z=>rw [q]at a;have:z=y0 v:=a;rw [this]
 | j::f,g::xs,i+1,x,v,h,b,a=>b4.get h.2.2 (by simpa using b) (by simpa using a)
theorem b4.length : ∀ {aC}{xs},b4 X aC xs->aC.length=xs.length
 | [],[],_=>rfl
 | [],_::_,h=>h.elim
 | _::_,[],h=>h.elim
 | _::_,_::_,h=>congrArg (· +1) (b4.length h.2.2)
def lh (k:Nat) (aC:List Nat) (U:St):St:=Aa1 k u0++aC.map λ(j:Nat)=>(U[j]?).join
def fR (X:Cx) (a:List Expr) (t:TT):Prop:=
 ∀(y8:List (Addr×Obj)) (s:Shared) (U:St) (H:Hp) (Q:Bool->Hp->Prop),Inv X y8 U H s->t U H Q →
  wpAny (model X.prog X.w) X.A (forIn a k9 λc r=>if r=k9 then do let ok ←isTrue c X.env (eval c X.env);pure (ForInStep.yield ok)else pure (ForInStep.yield r)) (TP X y8 U Q) X.xe s
def vL:TT:=λ_ H Q=>Q k9 H
def rK :fR X [] vL:=λ_ _ _ H _ I h=>wpAny_tests_nil ⟨H,I,h⟩
def o4 (h:PT X c t):fR X [c] t:=λa s U H Q I b=>wpAny_tests_one (h a s U H Q I b)
def rG (J:It) (g:TG) (l:TT) (k:TE) (j:St) (n:Hp) (Q:VK):Prop:= ∃W:Nat->Nat->List V->St->Hp->Prop,(∃ m,W 0 m [] j n)/\ ∀i m ys Y H,W i m ys Y H →
 (J.stop i H/\ys.length<=sizeLine/\ ∀D,H D=u0->Q (.ref D) (aP H D (.lst ys))) ∨
 (J.go i H/\ys.length<sizeLine/\ ∃N:List V->St->Hp->Prop,(∀ a d H',N a d H'-> ∃f,f<m/\W (i+1) f a d H') ∧
   ∀x H',J.eu i H x H'->g x Y H' λc H2=>l c H2 λb e=>if b=k9 then k c e λy h=>N (ys++ [y]) c h else N ys c e)
abbrev hP (a:Type):=Addr->List Addr->Shared->Hp->a
def lI (k:Nat) (aC:List Nat) (b:TI) (g:hP TG) (a:hP TT) (c:hP TE):TE:=λU H Q=>b U H λJ H1=> ∀C fp s,rG J (g C fp s H1) (a C fp s H1) (c C fp s H1) (lh k aC U) H1 Q
def Inv.adopt (I:Inv X y8 U H s) (A:eA X y8 H D) (i:X.s₀.heap.objs.size<=D)
 (e:s.heap.get? D=y0 { cls:= .type "list",data:= .seq its.toArray n }) (r:Vals ys its) (w:ys.length<=sizeLine):Inv X y8 U (aP H D (.lst ys)) s:=by
 obtain⟨l,B,E,F,t,m⟩:=A
 have up: ∀b o,H b=y0 o->aP H D (.lst ys) b=y0 o:=λb o q=>by rw [Xa (jb q l)];exact q
 have a: ∀b o,X.s₀.heap.get? b=y0 o->b≠D:=λb o q z=>by rw [z]at q;exact absurd (Ab5 (Ac q) i) (Af9 _)
 refine⟨I.ok,I.os,I.bare,⟨I.base.keep,I.base.slot,λb o d C j=> ?_,I.base.there,λb h q=>up b _ (I.base.dh b h q),λb o u q=>up b _ (I.base.cX b o u q),λb k q=> ?_⟩,I.loc,I.cell,?_,λx c q=> ?_,λp f=> ?_,λb u q=> ?_,I.len⟩
 ·rw [Xa (a b o d)];exact I.base.free b o d C j
 ·obtain⟨more,v⟩:=I.base.di b k q
  exact⟨more,up b _ v⟩
 ·rw [Xa (Ne.symm B)];exact I.free
 ·rw [Xa (t x c q)];exact I.bR x c q
 ·obtain⟨y,a2,a3⟩:=I.pin p f
  exact⟨y,by rw [Xa (m p f)];exact a2,a3⟩
 ·by_cases g:b=D
  ·subst g
   rw [We]at q
   cases q
   exact⟨w,its,n,r,e⟩
  ·rw [Xa g]at q
   exact(I.aR b u q).de (λ_ _ _ z=>z) (λc z=>up c _ z) λc h z=>up c _ z
theorem wj {env:Env}: ∀ {b:List (Str×NameKind)}{x},b.lookup x=y0 .free →
 ((b.map λ(n,k)=>if(k==NameKind.free&&env.scope.kind== .function&&env.kindOf n==y0 .cell)then(n,NameKind.cell)else(n,k)).lookup x=y0 .cell ∨
   (b.map λ(n,k)=>if(k==NameKind.free&&env.scope.kind== .function&&env.kindOf n==y0 .cell)then(n,NameKind.cell)else(n,k)).lookup x=y0 .free)
 | [],_,h=>by simp at h
 | (n,k)::r,x,h=>by
  have f:= @wj env r x
  rw [Ab3]
  rw [Ab7]at h
  cases d:x==n with
  | true=>
   rw [d]at h
   have e:=by simpa using h
   subst e
   by_cases a:(NameKind.free==NameKind.free&&env.scope.kind== .function&&env.kindOf n==y0 .cell)=k9
   ·simp only [a,if_true,Ab7,d]
    first | exact .inl rfl | exact .inl trivial | simp
   ·have c:=Ai1.mpr a
    simp only [c,Ag5,if_false,Ab7,d]
    first | exact .inr rfl | exact .inr trivial | simp
  | false=>
   rw [d]at h
   have q:=f h
   by_cases a:(k==NameKind.free&&env.scope.kind== .function&&env.kindOf n==y0 .cell)=k9
   ·simp only [a,if_true,Ab7,d]
    exact q
   ·have c:=Ai1.mpr a
    simp only [c,Ag5,if_false,Ab7,d]
    exact q
structure wP (X:Cx) (scope:Scope) (N:List Str) (k:Nat) (aC:List Nat):Prop where
 kind:scope.kind= .function
 nd:(scope.names.map Prod.fst).Nodup
 names: ∀y∈scope.names,y.2= .local->scope.names.lookup y.1=y0 .local
 free: ∀y∈scope.names,y.2= .free->X.env.kindOf y.1=y0 .cell\/X.env.kindOf y.1=y0 .free
 fX: ∀x∈N.drop k,scope.names.lookup x=y0 .free
 aC:b4 X aC (N.drop k)
 le:k<=N.length
structure HA (sc scope:Scope) (N:List Str) (k:Nat):Prop where
 kind:scope.kind= .function
 nd:(scope.names.map Prod.fst).Nodup
 names: ∀y∈scope.names,y.2= .local->scope.names.lookup y.1=y0 .local
 free: ∀y∈scope.names,y.2= .free->sc.names.lookup y.1=y0 .cell\/sc.names.lookup y.1=y0 .free
 fX: ∀x∈N.drop k,scope.names.lookup x=y0 .free
 le:k<=N.length
section
variable {X:Cx}{elt tg iter:Expr}{ifs:List Expr}{scope:Scope}{pos p0:Pos}{N:List Str}{k:Nat}{aC:List Nat}{wi:TI}{g:hP TG}{tc:hP TT}{te:hP TE}
def vI (ok:wP X scope N k aC) (a:Inv X y8 U H2 s2) (I: ∀b∈fp,eA X y8 H2 b) (O: ∀b∈fp,b<s2.heap.objs.size)
 (w:s2.heap.objs.size<=C) (K:h₁.Ns C m) (f: ∀b o,s2.heap.get? b=y0 o->h₁.get? b=y0 o)
 (d: ∀x c,(gu scope C X.env).lookup x=y0 c->(WH scope X.env).lookup x=y0 c\/(C+1<=c/\(x,NameKind.cell)∈scope.names/\h₁.IsCell c u0)):
 Inv (ze X N scope C fp s2 H2) [] (lh k aC U) H2 { s2 with heap:=h₁,toks:=tk }:=by
 have sub: ∀x c,(WH scope X.env).lookup x=y0 c->X.env.cells.lookup x=y0 c:=jE scope.names [] λx c e=>by simp at e
 have G: ∀x,(x,NameKind.free)∈scope.names-> ∃c,(WH scope X.env).lookup x=y0 c:=λx J=>by
  obtain⟨c,A⟩:=a.ok.has x (ok.free _ J rfl)
  exact xT A scope.names [] (.inl J)
 have lt: ∀x c,(WH scope X.env).lookup x=y0 c->c<C+1:=λx c e=>by
  obtain⟨v,o,B,_⟩:=a.cell x c (sub x c e)
  exact Nat.lt_succ_of_le (Ac1 (Ai6 (Ac B)) w)
 have inj:=nW scope.names _ _ lt λx y c F H=>a.ok.inj x y c (sub x c F) (sub y c H)
 have keep: ∀x c,(x,NameKind.free)∈scope.names->(WH scope X.env).lookup x=y0 c->(gu scope C X.env).lookup x=y0 c:=λx c J e=>by
  unfold gu
  rw [XX scope.names _ _ λz=>by cases rX ok.nd J z]
  exact e
 have E: ∀x,_∈scope.names\/(x,NameKind.cell)∈scope.names-> ∃c,(gu scope C X.env).lookup x=y0 c:=λx n=>by
  rcases n with n | n
  ·obtain⟨c,A⟩:=G x n
   exact⟨c,keep x c n A⟩
  ·exact Ag1.mp (Aj6 scope.names _ (WH scope X.env) (.inl (xV ok.nd n)))
 refine⟨⟨a.ok.mod,ok.kind,a.ok.glob,a.ok.blt,w,inj,λx n=>E x (zR n),λx c t e=> ?_,a.ok.hd,a.ok.frames,.inl rfl,λb s=>⟨?_,λx c e=> ?_⟩,
  λb o e=>a.bs b o e,Ac1 a.ok.fY a.sz,λb o e s=> ?_,λb s z=>(Aa.mp (a.dc b z)).elim (I b s).2.1 (I b s).2.2.1,a.stack,a.cz⟩,
  rfl,a.bare,Un.kept f,⟨m,K,λi x v R h Z=> ?_⟩,λx c e=> ?_,a.aR.fresh w,λx c e=> ?_,λp Q=>absurd (show p∈([]:List (Addr×Obj))from Q) (by simp),a.aR.kept f,?_⟩
 ·have t:=of_decide_eq_true t
  rcases d x c e with q | q
  ·rcases WJ scope.names [] q with z | z
   ·simp at z
   ·have:=xV ok.nd z
    rw [t]at this
    cases this
  ·exact Ac1 w (Ac1 (Ad2 C) q.1)
 ·show b≠C
  exact Ac3 (Ab5 (O b s) w)
 ·rcases d x c e with q | q
  ·exact(I b s).2.2.2.2.1 x c (sub x c q)
  ·exact Ne.symm (Ac3 (Ab5 (O b s) (Ac1 w (Ac1 (Ad2 C) q.1))))
 ·rcases (I b s).2.2.2.1 with z | z
  ·exact a.ok.eO b o e z
  ·have F:=Ac e
   have H:=a.ok.fY
   exact absurd (Ab5 F (Ac1 H z)) (Af9 _)
 ·have g:k<=i:=by
   by_cases g:i<k
   ·have h:(Aa1 k u0++aC.map λ(j:Nat)=>(U[j]?).join)[i]? =y0 _:=h
    rw [Ae0 (by simpa using g),Ak,if_pos g]at h
    cases h
   ·omega
  have D:(N.drop k)[i-k]? =y0 x:=by
   rw [List.getElem?_drop,show k+(i-k)=i by omega];exact R
  have M:(aC.map λ(j:Nat)=>(U[j]?).join)[i-k]? =y0 (y0 v):=by
   have h:(Aa1 k u0++aC.map λ(j:Nat)=>(U[j]?).join)[i]? =y0 _:=h
   rw [Ae6 (by simpa using g),Ae3]at h
   exact h
  obtain⟨j,W,S,P⟩:=ok.aC.get (U:=U) D M
  obtain⟨m2,hn,T⟩:=a.loc
  obtain⟨u,r,l⟩:=T j x v W S (.inr (P.elim (λz=> .inl z) λz=> .inr z))
  refine⟨u,r,.inr ?_⟩
  have t:=ok.fX x (Aj D)
  refine⟨wj t,?_⟩
  obtain⟨c,A⟩:=G x (PySem.mem_of_lookup t)
  refine⟨c,keep x c (PySem.mem_of_lookup t) A,?_⟩
  rcases l with⟨V,_⟩ | ⟨_,Y,L,o,B,hd⟩
  ·rcases P with z | z<;>(rw [V]at z;cases z)
  ·have d:=sub x c A
   rw [L]at d
   cases d
   exact⟨o,f _ o B,hd⟩
 ·rcases d x c e with q | q
  ·obtain⟨v,o,B,hd⟩:=a.cell x c (sub x c q)
   exact⟨v,o,f c o B,hd⟩
  ·exact⟨u0,q.2.2⟩
 ·rcases d x c e with q | q
  ·exact a.bR x c (sub x c q)
  ·exact a.aR.fresh (Ac1 w (Ac1 (Ad2 C) q.1))
 ·show(Aa1 k u0++aC.map λ(j:Nat)=>(U[j]?).join).length=N.length
  have F:=ok.aC.length
  have H:=ok.le
  rw [Aa3,Ae3,Ab1,F,Ah1]
  omega
def ZU (use) (hc:X.calm=k9) (ok:wP X scope N k aC) (hi:PI X tg iter wi)
 (hg: ∀C fp s H,PG (ze X N scope C fp s H) tg (g C fp s H)) (ht: ∀C fp s H,fR (ze X N scope C fp s H) ifs (tc C fp s H)) (he: ∀C fp s H,PE (ze X N scope C fp s H) elt (te C fp s H))
 (hs: ∀x,foldedSetIterable iter X.env x=pure x)
 (I:Inv X y8 U H s) (h:lI k aC wi g tc te U H Q)
 (fin: ∀(D C:Addr) (oC:Obj) (m:Str->Option Value) (H4:Hp) (s4:Shared),Inv X (y8++ [(C,oC)]) U H4 s4->eA X y8 H4 C->Q (.ref D) H4->(∀ h:Heap,h.get? C=y0 oC->h.Ns C m) →
   compPost (model X.prog X.w) X.A X.xe use Q' (.ref D) C (.ok .next) s4):
 wpAny (model X.prog X.w) X.A (comprehension (.ListComp elt [⟨tg,iter,ifs,0⟩] scope pos) scope X.env p0 (newList []) y9 (eval iter X.env) use) Q' X.xe s:=by
 have hcl:closureFor scope X.env=pure _:=xL λy hy hf=>I.ok.has y.1 (ok.free y hy hf)
 refine wpAny_comprehension_free (use:=use) rfl hs hcl ok.kind ok.names (aI (hi y8 s U H _ I h) λv s1 h1=>aI h1 λitv s2 h2=> ?_)
 obtain⟨it,fp,tn,J,H2,e,I2,T,st2,f2,hW⟩:=h2
 subst e
 refine wpAny_newObj_type (jy ?_)
 dsimp only
 generalize hHp:s2.heap.push { cls:= .type "list",dict:=none,data:= .seq ([]:List Value).toArray }=HP
 have hCs:HP.objs.size=s2.heap.objs.size+1:=by rw [← hHp,Ai4]
 generalize hDD:s2.heap.objs.size=D at hCs ⊢
 have hns0:(HP.push { cls:= .type "dict",data:= .dict #[] }).Ns HP.objs.size fun _=>none:=Heap.Ns.new HP _
 have hlk: ∀x c,(gu scope HP.objs.size X.env).lookup x=some c->(WH scope X.env).lookup x=some c\/(HP.objs.size+1<=c/\(x,NameKind.cell)∈scope.names/\(pushCells (HP.push { cls:= .type "dict",data:= .dict #[] }) scope.names).IsCell c none):=fun x c e=>by
  refine XY scope.names _ _ True (λ_=> .inl trivial) _ (by rw [Ai4];exact Aa7 _) ?_
  rw [Ai4]
  exact e
 generalize hh1:pushCells _ scope.names=h₁ at hlk ⊢
 have hns₁:h₁.Ns HP.objs.size λ_=>none:=by rw [← hh1];exact hns0.keeps (pushCells_keeps _ _)
 have hk1: ∀b o,HP.get? b=y0 o->h₁.get? b=y0 o:=λb o e=>by
  rw [← hh1]
  exact pushCells_keeps _ _ b o (Aa8 _ e)
 generalize hCC:HP.objs.size=C at hCs hns₁ hlk ⊢
 have hDC:D≠C:=by rw [hCs];exact Ac3 (Af1 _)
 have hle:s2.heap.objs.size<=C:=by rw [hDD,hCs];exact Ad2 _
 have hleD:s2.heap.objs.size<=D:=Ak6 hDD
 have fo: ∀b∈fp,b<D:=λb hb=>by
  obtain⟨o,eo,_⟩:=T.obj _ _ st2 b hb
  rw [← hDD]
  exact Ac eo
 have old: ∀b o,s2.heap.get? b=y0 o->h₁.get? b=y0 o:=λb o e=>by
  exact hk1 b o (hHp▸Aa8 _ e)
 have hacc:h₁.get? D=y0 { cls:= .type "list",data:= .seq ([]:List Value).toArray }:=by
  refine hk1 _ _ ?_
  rw [← hHp,←hDD]
  exact Ab6 _ rfl
 obtain⟨W,⟨m0,w0⟩,turn⟩:=hW C fp s2
 have I3:Inv _ [] _ H2 { s2 with heap:=h₁,toks:=s2.toks }:=
  vI ok I2 f2 (λb hb=>by rw [hDD];exact fo b hb) hle hns₁ old hlk
 have st3:tn 0 h₁:=T.keep _ _ _ st2 λb _ o e=>old b o e
 have hch: ∀b∈fp,(b∈X.ex\/X.s₀.heap.objs.size<=b)/\b≠X.env.locals/\(∀ x c,X.env.cells.lookup x=y0 c->c≠b)/\ ∀p∈X.pn++y8,p.1≠b:=λb hb=>⟨(f2 b hb).2.2.2.1,(f2 b hb).2.1,(f2 b hb).2.2.2.2.1,(f2 b hb).2.2.2.2.2⟩
 have FD: ∀ {H':Hp},H' D=u0->eA X y8 H' D:=λhn=>I2.c6 hleD hn
 have FC: ∀ {H':Hp},H' C=u0->eA X y8 H' C:=λhn=>I2.c6 hle hn
 have sub: ∀x c,(WH scope X.env).lookup x=y0 c->X.env.cells.lookup x=y0 c:=jE scope.names [] λx c e=>by simp at e
 have hDst:D∉cA X.stack:=λz=>(Aa.mp (I2.dc D z)).elim (FD (H':=λ_=>u0) rfl).2.1 (FD (H':=λ_=>u0) rfl).2.2.1
 have hDc: ∀x c,(gu scope C X.env).lookup x=y0 c->c≠D:=λx c e=>by
  rcases hlk x c e with q | q
  ·exact(FD (H':=λ_=>u0) rfl).2.2.2.2.1 x c (sub x c q)
  ·exact Ne.symm (Ac3 (Ab5 (by rw [hCs];exact Aj7 (Af1 _)) q.1))
 have loop: ∀s₃:Shared,s₃= { s2 with heap:=h₁,toks:=s2.toks } →
  codeAny (model X.prog X.w) X.A (.compLoop (.ListComp elt [⟨tg,iter,ifs,0⟩] scope pos) 0 (.ref it) (.ref D) (compEnvC scope (gu scope C X.env) C X.env))
   (compPost (model X.prog X.w) X.A X.xe use Q' (.ref D) C) s₃:=by
  rintro s₃ rfl
  refine qP (λn s'=> ∃i ys its kk Y H',Inv (ze X N scope C fp s2 H2) [] Y H' s'/\tn i s'.heap/\(∀ b∈fp,H' b=u0)/\H' D=u0/\s'.heap.get? D=y0 { cls:= .type "list",data:= .seq (its:List Value).toArray kk }/\Vals ys its/\W i n ys Y H')
   ?_ m0 ⟨0,[],[],0,_,H2,I3,st3,λb hb=>(f2 b hb).1,I2.aR.fresh hleD,hacc,.nil,w0⟩
  rintro n s3 ⟨i,ys,its,kk,Y,H3,I3,st3,fr3,hD3,eD3,rv3,w3⟩
  have IP:Inv (ze X N scope C fp s2 H2) [(D,{ cls:= .type "list",data:= .seq its.toArray kk })] Y H3 s3:=I3.bJ fun p hp=>by
   have e:p=(D,{ cls:= .type "list",data:= .seq its.toArray kk }):=by simpa using hp
   subst e
   exact⟨eD3,hD3,hDC,hDst,λv z=>by cases z⟩
  have fpok: ∀ {H':Hp},(∀ b∈fp,H' b=u0)-> ∀b∈fp,eA (ze X N scope C fp s2 H2) [(D,{ cls:= .type "list",data:= .seq its.toArray kk })] H' b:=fun {H'} hn b hb=>by
   refine⟨hn b hb,I3.ok.lJ b hb |>.1,I3.ok.eW b hb,.inl hb,I3.ok.lJ b hb |>.2,λp hp=> ?_⟩
   have e:p=(D,{ cls:= .type "list",data:= .seq its.toArray kk }):=by
    have hp:p∈([]:List (Addr×Obj))++ [(D,{ cls:= .type "list",data:= .seq its.toArray kk })]:=hp
    simpa using hp
   rw [e]
   exact Ne.symm (Ac3 (fo b hb))
  rcases turn i n ys Y H3 w3 with⟨stop,hz,q⟩ | ⟨go,hz,NN,hN,step⟩
  ·refine aI (T.done (ze X N scope C fp s2 H2) rfl rfl rfl hc i _ s3 Y H3 _ IP (fpok fr3) st3 stop) ?_
   rintro r s4 ⟨hr,I4⟩
   subst hr
   have eD4:=(I4.pin _ (Ab0 _ Aa4)).1
   have I5:Inv X y8 U H3 s4:=I2.gp (ch:=fp) I4.os I4.base I4.aR I4.bare hch
   have I6:=I5.adopt (FD hD3) (Ac1 I2.sz hleD) eD4 rv3 hz
   obtain⟨m,⟨oC,es,ep,hoC,hdC,hr⟩,_⟩:=I4.loc
   have fC:eA X y8 (aP H3 D (.lst ys)) C:=FC (by rw [Xa (Ne.symm hDC)];exact I4.free)
   have I7:Inv X (y8++ [(C,oC)]) U (aP H3 D (.lst ys)) s4:=I6.bJ λp hp=>(Ac8.mp hp).elim (λz=>I6.pin p (Ab0 _ z)) λz=>by
    have e:p=(C,oC):=by simpa using z
    subst e
    exact⟨hoC,fC.1,fC.2.1,fC.2.2.1,λv z=>by rw [hdC]at z;cases z⟩
   exact fin D C oC m _ s4 I7 fC (q D hD3) λh e=>⟨oC,es,ep,e,hdC,hr⟩
  ·refine aI (T.item (ze X N scope C fp s2 H2) rfl rfl rfl hc i _ s3 Y H3 _ IP (fpok fr3) st3 go) ?_
   rintro r s4 ⟨u,hr,h4⟩
   subst hr
   refine aI h4 ?_
   rintro _ s5 ⟨x,H5,I5,r5,y5,st5,fr5⟩
   have I5':=I5.pinned (fpok fr5) (T.obj _ _ st5)
   refine wpAny_mono (hg C fp s2 H2 _ s5 Y H5 x u _ I5' r5 (step x H5 y5)) (λ_ s6 ⟨U6,H6,I6,q6⟩=> ?_) λ_ _ z=>False.elim z
   refine wpAny_mono (ht C fp s2 H2 _ s6 U6 H6 _ I6 q6) (λb s7 ⟨H7,I7,q7⟩=> ?_) λ_ _ z=>False.elim z
   have hp5: ∀b∈fp,∃o,s5.heap.get? b=y0 o:=λb hb=>let ⟨o,e,_⟩:=T.obj _ _ st5 b hb; ⟨o,e⟩
   cases b with
   | false=>
    rw [if_neg Ab4]at q7 ⊢
    obtain⟨m',hm,w7⟩:=hN _ _ _ q7
    refine⟨m',hm,i+1,ys,its,kk,U6,H7,I7.bJ λp hp=>absurd hp (by simp),T.keep _ _ _ st5 λb hb o e=>(I7.pin (b,o) (Ab0 _ (Ab0 _ (Jj hb e)))).1,λb hb=> ?_,?_,?_,rv3,w7⟩
    ·obtain⟨o,e⟩:=hp5 b hb
     exact(I7.pin (b,o) (Ab0 _ (Ab0 _ (Jj hb e)))).2.1
    ·exact(I7.pin _ (Ab0 _ (Ae7 _ Aa4))).2.1
    ·exact(I7.pin _ (Ab0 _ (Ae7 _ Aa4))).1
   | true=>
    rw [if_pos rfl]at q7 ⊢
    refine wpAny_mono (he C fp s2 H2 _ s7 U6 H7 _ I7 q7) (λy s8 ⟨yv,H8,I8,r8,q8⟩=> ?_) λ_ _ z=>False.elim z
    have pD:=I8.pin _ (Ab0 _ (Ae7 _ Aa4))
    have eD8:s8.heap.get? D=y0 { cls:= .type "list",data:= .seq its.toArray kk }:=pD.1
    have hD8:H8 D=none:=pD.2.1
    have y7:=rv3.length
    refine call_meets F.slot_list_append ⟨_,eD8,rfl⟩ F.entry_list_append (F.args_list_append_2 _ _) (PySem.list_append D its.toArray kk y (by rw [Aa9];omega)) ⟨eD8,?_⟩
    obtain⟨m',hm,w8⟩:=hN _ _ _ q8
    have IQ:Inv (ze X N scope C fp s2 H2) (QC fp s5.heap) U6 H8 s8:=I8.bJ λp hp=>I8.pin p (Ab0 _ (Ab0 _ hp))
    have e9:=PySem.IsL.update eD8 (·.push y)
    rw [show its.toArray.push y=(its++ [y]).toArray by simp]at e9
    have I9:Inv (ze X N scope C fp s2 H2) (QC fp s5.heap) U6 H8 { s8 with heap:=s8.heap.update D (Obj.mapSeq (·.push y)),toks:=s8.toks }:=
     IQ.turned (it:=D) (λb o hb e=>(Ah9 s8.heap (Obj.mapSeq (·.push y)) (Ne.symm hb)).trans e) hD8 hDC (.inr hleD) hDc λp hp=>by
      have hp:p∈([]:List (Addr×Obj))++QC fp s5.heap:=hp
      have:=fo p.1 (JP (by simpa using hp)).1
      exact Ac3 this
    refine⟨m',hm,i+1,ys++ [yv],its++ [y],_,U6,H8,I9.bJ λp hp=>absurd hp (by simp),T.keep _ _ _ st5 λb hb o e=>(I9.pin (b,o) (Ab0 _ (Jj hb e))).1,λb hb=> ?_,hD8,e9,rv3.append (.cons r8 .nil),w8⟩
    obtain⟨o,e⟩:=hp5 b hb
    exact(I9.pin (b,o) (Ab0 _ (Jj hb e))).2.1
 exact codeAny_compStart_list (loop _ rfl) (T.self _ 0 _ _ _ st3 (loop _ rfl))
def Bo (ok:wP X scope N k aC) (hi:PI X tg iter wi)
 (v: ∀C fp s H,PG (ze X N scope C fp s H) tg (g C fp s H)) (l: ∀C fp s H,fR (ze X N scope C fp s H) ifs (tc C fp s H)) (t: ∀C fp s H,PE (ze X N scope C fp s H) elt (te C fp s H))
 (p:X.calm=true:=by rfl) (r: ∀x,foldedSetIterable iter X.env x=pure x:=by intro _;rfl):PE X (.ListComp elt [⟨tg,iter,ifs,0⟩] scope pos) (lI k aC wi g tc te):=by
 intro f s U H Q I h
 refine ZU u0 p ok hi v l t r I h λD C z m j w i a q d=> ?_
 have n:=i.pin _ (Ab0 _ (Ab0 _ Aa4))
 refine⟨m,d _ n.1,λy c=>⟨.ref D,j,?_,rfl,q⟩⟩
 exact(i.bM).turned (λb o u e=>c.extBut b o u e) a.1 a.2.1 a.2.2.2.1 a.2.2.2.2.1 a.2.2.2.2.2
def J9 (z:X.N.Nodup) (j:X.N[i]? =y0 x) (E:ir X.env.scope x) (ok:wP X scope N k aC) (hi:PI X tg iter wi)
 (K: ∀C fp s H,PG (ze X N scope C fp s H) tg (g C fp s H)) (u: ∀C fp s H,fR (ze X N scope C fp s H) ifs (tc C fp s H)) (G: ∀C fp s H,PE (ze X N scope C fp s H) elt (te C fp s H))
 (d:swapsWith (.ListComp elt [⟨tg,iter,ifs,0⟩] scope p0) (y0 (.Name x pos')) pos.line X.env=pure true:=by rfl)
 (y:X.calm=true:=by rfl) (A: ∀x,foldedSetIterable iter X.env x=pure x:=by intro _;rfl) (F:X.fn x=k9\/X.env.scope.names.lookup x=y0 .local:=by first | exact .inl rfl | exact .inr rfl | assumption):
 PS X (.Assign [.Name x pos'] (.ListComp elt [⟨tg,iter,ifs,0⟩] scope p0) pos) (gC (lI k aC wi g tc te) (ZR i)):=by
 intro l s U H D I h
 rw [exec_Assign_Name_used _ _ _ _ d]
 refine wpAny_bind (wpAny_standAt (wpAny_bind ?_))
 refine wpAny_bind (wpAny_mono (ZU _ y ok hi K u G A I h λr C P m p L B a q f=> ?_) (λ_ Q t=>wpAny_pure (wpAny_pure t)) λ_ _ e=>e)
 refine wpAny_assign_Name (zO B z j E (v:= .ref r) rfl (λO n=> ?_) F)
 have w:=n.pin _ (Ab0 _ (Ab0 _ Aa4))
 refine⟨m,f _ w.1,λM c=>⟨_,p,?_,q⟩⟩
 exact(n.bM).turned (λb o J e=>c.extBut b o J e) a.1 a.2.1 a.2.2.2.1 a.2.2.2.2.1 a.2.2.2.2.2
end
def qD {K:Aa6}(c:Nat->List V->St->Hp->Prop) (t:xs.length<=1000) (l:c 0 [] Y0 H1) (r: ∀i ys Y H,c i ys Y H->ys.length<=i)
 (o: ∀i ys Y H,i<=xs.length->c i ys Y H->a9 K H a xs)
 (j: ∀i ys Y H x,xs[i]? =y0 x->c i ys Y H->g x Y H λJ H2=>tc J H2 λb L=>if b=k9 then te J L λy M=>c (i+1) (ys++ [y]) J M else c (i+1) ys J L)
 (hd: ∀ys Y H,c xs.length ys Y H-> ∀D,H D=u0->Q (.ref D) (aP H D (.lst ys))):rG (kr K a) g tc te Y0 H1 Q:=by
 refine⟨λi m ys Y H=>m=xs.length-i/\i<=xs.length/\c i ys Y H,⟨xs.length,by simp,Ae8 _,l⟩,?_⟩
 rintro i m ys Y H ⟨rfl,h,p⟩
 have z:=r i ys Y H p
 have q:=o i ys Y H h p
 by_cases d:i<xs.length
 ·refine .inr ⟨⟨xs,xs[i],q,by simp [d]⟩,jv (by lia),c _,λf s n k=>⟨xs.length-(i+1),by lia,rfl,d,k⟩,λx n y=> ?_⟩
  obtain⟨e,y⟩:=y
  subst e
  exact j i ys Y _ x (y xs q) p
 ·have e:i=xs.length:=by lia
  subst e
  exact .inl ⟨⟨xs,q,Aa7 _⟩,Ai6 (jv (by lia)),hd ys Y H p⟩
noncomputable def lP (K:Aa6) (a:Addr) (n:Nat):It:=
 ⟨λi H=> ∃xs,a9 K H a xs/\xs.length=n/\i<n,λi H x H'=>H'=H/\ ∀xs,a9 K H a xs->xs[n-1-i]? =y0 x,λi _=>i=n⟩
def C0 {K:Aa6}(a it) (n):gf P w K tg (lP K a n) [it] it (λi h=>h.IsRevIter it a ((n:Int)-1-((i:Nat):Int))) where
 mem:=by simp
 obj:=λi h f b l=>by
  have e:=by simpa using l
  subst e
  obtain⟨o,e,c,d⟩:=f
  exact⟨o,e,λv z=>by rw [d]at z;cases z⟩
 keep:=λi h r f k=>f.at λo e=>k it (by simp) o e
 item:=by
  intro X D y F J i g s U H E I q f m
  subst D y F
  obtain⟨M,G,hl,hi⟩:=m
  obtain⟨T,rv,p,hz⟩:=I.list G
  have L:M[n-1-i]? =y0 (M[n-1-i]'(by omega)):=Ab (by omega)
  obtain⟨u,Q,R⟩:=rv.get L
  obtain⟨t,x,O,C,B,A⟩:=q it (by simp)
  have e: n-1- (i:Nat)=((n-1-i:Nat):Int):=by omega
  have f:=f
  rw [e]at f
  refine wpAny_pyNext_rev_item f p.isList (by simpa using Q) λr j N=> ?_
  have V:Inv X g U H { s with heap:=r }:=I.turned (λb o l e=>(N.2 b l).trans e) t x C B A
  have S: (n-1-i:Nat)-1= n-1-((i+1:Nat):Int):=by omega
  rw [S]at j
  obtain⟨o,e,c,d⟩:=id j
  exact⟨u,rfl,Z7 e c d (by decide) ⟨_,H,V,R,⟨rfl,λZ W=>by rw [I.cK W G];exact L⟩,j,λb l=>(q b l).1⟩⟩
 done:=by
  intro X D y F J i g s U H E I q f m
  subst D y F
  have m:=m
  subst m
  obtain⟨t,x,O,C,B,A⟩:=q it (by simp)
  have e: i-1-((i:Nat):Int)= -1:=by omega
  have f:=f
  rw [e]at f
  exact wpAny_pyNext_rev_end (I.ok.hd J) f λr Y=>⟨rfl,I.turned (λb o l e=>Y b o l e) t x C B A⟩
 self:=λ_ _ _ _ _ f h=>wpAny_pyIter_revIter f h
section
variable {X:Cx}{tg:Expr}
def Dd (K:Aa6) (b:TA):TI:=λU H R=>b U H λc H1=> ∃a xs,c= [.ref a]/\a9 K H1 a xs/\R (lP K a xs.length) H1
def nG (y:Gl X "reversed") (u:X.mg "reversed" =none) (A:PA X [a] ta) (n:starEach [a] X.env= [(false,eval a X.env)]:=by rfl):PI X tg (.Call (.Name "reversed" p) [a] [] pos) (Dd X.K ta):=by
 intro f s U H R I h
 refine Call_ (jw I y u boot_reversed (PyProof.Rows.callWith_type1 (aI (A pos f s U H _ I h) λD j ⟨E,B,i,v,t⟩=> ?_) n rfl))
 obtain⟨b,d,e,m,q⟩:=t
 subst e
 cases v with
 | cons r z=>
  cases z
  cases r
  obtain⟨k,rv,x,C⟩:=i.list m
  refine call_reversed_list x.isList ?_
  have g:k.toArray.size=d.length:=by rw [Aa9];exact rv.length.symm
  rw [g]
  have l:(j.heap.push (revObj b (d.length-1))).IsRevIter j.heap.objs.size b (d.length-1- (0:Nat)):=by
   refine⟨_,Ab6 _ rfl,rfl,?_⟩
   rw [show d.length-1- (0:Nat)=(d.length:Int)-1 by lia]<;>rfl
  refine wpAny_pyIter_revIter l ?_
  refine⟨j.heap.objs.size,[j.heap.objs.size],_,_,B,rfl,i.kept λb o e=>Aa8 _ e,C0 b _ d.length,l,λc w=> ?_,q⟩
  have e:=by simpa using w
  subst e
  exact i.c6 (Aa7 _) (i.aR.fresh (Aa7 _))
end
structure Hu (P:Program) (w:World) (K:Aa6) (mg:Str->Option Value) (base:Heap) (k:Nat) (x:Str) (ps:List Str) (sp:Sp):Prop where
 ex: ∃f fd,bb P w K mg base iW k f fd ps sp/\Binds K fd ps []/\Af7 K (.ref f)=k9/\mg x=y0 (.ref f)
open PySem PySem.Spec PySem.Calls PySem.W PyProof.Rows
structure ux (K:Frag) (C:Addr):Prop where
 ga:findIn K (.ref C) "__getattribute__" =some (some (.builtin "BaseException.__getattribute__"))
 gn:findIn K (.ref C) "__getattr__" =some none
 cl:findIn K (.ref C) "__class__" =some (some (.builtin "object.__class__"))
 get:specialIn K (.builtin "object.__class__") "__get__" =some (some (.builtin "getset_descriptor.__get__"))
 set:takesIn K (.builtin "object.__class__")=some true
 obj:mroIn K C (.type "object")=some true
 bas:mroIn K C (.type "BaseException")=some true
 slf:kitCls K (.ref C) (.ref C)=y0 k9
 cls:(clsIn K C).isSome=k9
noncomputable def tu (x C:Addr) (a:Option Addr):HO:= .ext λh=> ∃o,h.get? x=y0 o/\o.cls= .ref C/\notCls o=k9/\ ∀dx,a=y0 dx->o.dict=y0 dx
def DK (h a:Heap):Prop:= ∀b o,h.get? b=y0 o-> ∃o',a.get? b=y0 o'/\o'.dict=o.dict
def DK.refl (h):DK h h:=λ_ o e=>⟨o,e,rfl⟩
theorem DK.trans (x:DK a b) (y:DK b c):DK a c:=λi o e=>
 let ⟨k,d,g⟩:=x i o e
 let ⟨f,h,j⟩:=y i k d
 ⟨f,h,j.trans g⟩
def KD {b:Type}:Sem b->Prop
 | .pure _=>True
 | .raise _=>True
 | .unsupported _=>True
 | .finish _=>True
 | .register _ _=>True
 | .rule _ k=>KD (k ())
 | .at _ k=>KD (k ())
 | .load _ _ k=> ∀o,KD (k o)
 | .update _ _ f k=>(∀ o,(f o).dict=o.dict/\(o.isFreed=y9->(f o).isFreed=y9))/\KD (k ())
 | .alloc _ k=> ∀a,KD (k a)
 | .loadIfAlive _ k=> ∀o,KD (k o)
 | .point _ k=>KD (k ())
 | .fresh k=> ∀t,KD (k t)
 | .ask k=> ∀t,KD (k t)
 | .handled _ k=> ∀t,KD (k t)
 | .stack k=> ∀t,KD (k t)
 | .thread k=> ∀t,KD (k t)
 | _=>False
theorem KD.bind (c: ∀a,KD (f a))(h:KD m):KD (m.bind f):=by
 induction m with
 | pure a=>exact c a
 | raise _=>exact trivial
 | unsupported _=>exact trivial
 | finish _=>exact trivial
 | register _ _=>exact trivial
 | rule _ k b=>exact b () h
 | «at» _ k b=>exact b () h
 | load _ _ k b=>exact λo=>b o (h o)
 | update _ _ _ k b=>exact⟨h.1,b () h.2⟩
 | alloc _ k b=>exact λo=>b o (h o)
 | loadIfAlive _ k b=>exact λo=>b o (h o)
 | point _ k b=>exact b () h
 | fresh k b=>exact λo=>b o (h o)
 | ask k b=>exact λo=>b o (h o)
 | handled _ k b=>exact λo=>b o (h o)
 | stack k b=>exact λo=>b o (h o)
 | thread k b=>exact λo=>b o (h o)
 | _=>exact False.elim h
theorem DK.push (h) (o):DK h (h.push o):=λb u e=>⟨u,Aa8 _ e,rfl⟩
theorem DK.update (h) (a)(c: ∀o,(f o).dict=o.dict/\(o.isFreed=y9->(f o).isFreed=y9)):DK h (h.update a f):=λb u e=>by
 by_cases q:a=b
 ·subst q
  exact⟨f u,Heap.get?_update_self f e ((c u).2 (Heap.get?_some_iff.mp e).2),(c u).1⟩
 ·exact⟨u,by rw [Ah9 _ _ q];exact e,rfl⟩
def uu : ∀ {p}{s},KD t->DK h0 s.heap->Sem.wp M Z t Q E p s →
 Sem.wp M Z t (λa p s'=>Q a p s'/\DK h0 s'.heap) (λe p s'=>E e p s'/\DK h0 s'.heap) p s:=by
 induction t with
 | pure a=>exact λk d h=>⟨h,d⟩
 | raise _=>exact λk d h=>⟨h,d⟩
 | unsupported _=>exact λk d h=>h
 | finish _=>exact λk d h=>h
 | register _ _=>exact λk d h=>h
 | rule _ t b=>exact λk d h=>b () k d h
 | «at» _ t b=>exact λk d h=>b () k d h
 | load _ _ t b=>exact λk d ⟨o,e,h⟩=>⟨o,e,b o (k o) d h⟩
 | update a _ f t b=>exact λk d ⟨e,h⟩=>⟨e,b () k.2 (d.trans (DK.update _ _ k.1)) h⟩
 | alloc o t b=>exact λk d h=>b _ (k _) (d.trans (DK.push _ _)) h
 | loadIfAlive _ t b=>exact λk d h=>b _ (k _) d h
 | point _ t b=>exact λk d h=>b () k d h
 | fresh t b=>exact λk d h=>b _ (k _) d h
 | ask t b=>exact λk d h=>b _ (k _) d h
 | handled _ t b=>exact λk d h=>b _ (k _) d h
 | stack t b=>exact λk d h=>b _ (k _) d h
 | thread t b=>exact λk d h=>b _ (k _) d h
 | _=>exact λk=>False.elim k
def CI (k:KD t) (h:wpAny M A t Q E s):
 wpAny M A t (λa s'=>Q a s'/\DK s.heap s'.heap) (λe s'=>E e s'/\DK s.heap s'.heap) s:=λZ p b=>uu k (DK.refl _) (h Z p b)
def xX (v):KD (fieldsOf v):=by
 cases v<;>first | exact trivial | skip
 refine KD.bind (λo=> ?_) λ_=>trivial
 split<;>exact trivial
def WA (v) (i):KD (field v i):=by
 refine KD.bind (λo=> ?_) (xX v)
 split<;>exact trivial
def JX {c:Bool}(d:KD a) (e:KD b):KD (if c then a else b):=by cases c<;>assumption
def xu (v) (i) (x):KD (setField v i x):=by
 cases v<;>first | exact trivial | skip
 refine KD.bind (λo=> ?_) λ_=>trivial
 split
 ·split
  ·refine⟨λo=> ?_,trivial⟩
   obtain⟨c,d,a,sl⟩:=o
   cases a<;>exact⟨rfl,λz=>z⟩
  ·exact trivial
 ·exact trivial
def JL (f) (b):KD (entryPlaceOf f b):=by
 refine KD.bind (λo=> ?_) λ_=>trivial
 split<;>exact trivial
def xW (a b c d e) (p):KD (EntryCells.newEntry a b c d e p):=by
 have g: ∀f:Array Value,KD (if f.size>sizeLine+2 then do
  unsupported "record:memory"
  else newObjAsIs (Value.type "traceback") (Data.fields f)):=fun f=>by
  split
  ·exact trivial
  ·unfold newObjAsIs
   exact λ_=>trivial
 exact g _
theorem W1: ∀l:List Env,KD (readyFrames l)
 | []=>trivial
 | env::outer=>by
  unfold readyFrames
  split
  ·refine KD.bind (λo=> ?_) λ_=>trivial
   refine JX trivial ?_
   refine KD.bind (λi=> ?_) ?_
   ·refine KD.bind (λb=> ?_) ?_
    ·refine KD.bind (λ_=>W1 outer) ⟨λo=>⟨rfl,λz=> ?_⟩,trivial⟩
     obtain⟨c,d,a,sl⟩:=o
     cases a<;>exact z
    ·unfold keptBack
     split
     ·refine JX trivial ?_
      refine KD.bind (λ_=> trivial) ?_
      exact λ_=>trivial
     ·exact trivial
   ·unfold behindIsImport
    refine JX trivial (JX trivial ?_)
    exact KD.bind (λ_=> trivial) (WA _ _)
  ·exact trivial
def z9 (env):KD (PySem.frameOf env):=by
 refine KD.bind (λl=> ?_) λ_=>trivial
 refine KD.bind (λo=> ?_) ?_
 ·split<;>exact trivial
 ·unfold frameObject
  split
  ·exact trivial
  ·exact KD.bind (λ_=> trivial) (W1 _)
def BJ (e) (env):KD (noteFrame e env):=by
 unfold noteFrame
 split
 ·refine KD.bind (λhd=> ?_) (WA _ _)
  have d:KD (do setField e 1 (← EntryCells.newEntry hd (← PySem.frameOf env) .none (rawInt ‹Addr›) .none (← entryPlaceOf ‹Addr› (hd != .none)))):=
   KD.bind (λa=>KD.bind (λb=>KD.bind (λc=>xu _ _ _) (xW _ _ _ _ _ _)) (JL _ _)) (z9 env)
  refine JX ?_ d
  refine KD.bind (λx=> ?_) (WA _ _)
  refine JX trivial ?_
  exact KD.bind (λ_=>d) (xu _ _ _)
 ·exact trivial
def Bn (e) (f):KD (setFlight e f):=by
 refine KD.bind (λx=> ?_) (WA _ _)
 exact JX (xu _ _ _) trivial
def X7 (env) (e):KD (leaving env e):=KD.bind (λ_=>Bn e u0) (BJ e env)
def aN.there (x:aN P w H h a o): ∃u,h.get? a=y0 u:=by
 cases o with
 | lst c=>exact⟨_,x.2.choose_spec.choose_spec.2⟩
 | tup c=>obtain⟨_,_,_,u,e,_⟩:=x;exact⟨u,e⟩
 | dK b=>obtain⟨_,_,_,_,u,_,_,e,_⟩:=x;exact⟨u,e⟩
 | dT b=>obtain⟨_,_,_,_,u,_,_,e,_⟩:=x;exact⟨u,e⟩
 | set S n=>obtain⟨u,_,_,_,e,_⟩:=x;exact⟨u,e⟩
 | ins C l fs=>obtain⟨_,_,_,e,_⟩:=x;exact⟨_,e⟩
 | own y=>exact x
 | xd fs=>obtain⟨_,⟨u,_,_,e,_⟩,_⟩:=x;exact⟨u,e⟩
 | fN g i=>obtain⟨_,_,_,e⟩:=x;exact⟨_,e⟩
 | dM d u=>exact⟨_,x.1⟩
 | gD j=>exact⟨_,show h.get? a=y0 _ from x⟩
 | met f y=>exact⟨_,show h.get? a=y0 _ from x⟩
 | ext k=>exact x.2.1
def dQ (P:Program) (w:World):fP:=λouter H s E e s'=> ∃(x C t:Addr) (B:Heap) (H':Hp) (a:Option Addr),e= .ref x/\s'.os=s.os/\AllBare s'.gens ∧
 Heap.FlyingW B outer x (.ref C) (.ref t) s'.heap/\Un (cA outer) [] H H' s.heap s'.heap/\cq P w H' s'.heap ∧
 (∀ b o,s'.heap.get? b=y0 o->((∃ u,H' b=y0 u)\/ ∃u,s.heap.get? b=y0 u)->b∉cA outer->B.get? b=y0 o)/\s.heap.get? x=u0/\(∀ dx,a=y0 dx-> ∃o,s'.heap.get? x=y0 o/\o.dict=y0 dx)/\E (.ref C) a H'
section
variable {P:Program}{w:World}{K:Frag}{mg:Str->Option Value}{base:Heap}{N:List Str}{k7:Str}{scope:Scope}{f:Addr}{cd:Value}{A:Around}{outer:List Env}{s:Shared}{H:Hp}{E:XK}
abbrev sf:List Value:= [.type "ValueError",.type "Exception",.type "BaseException",.type "object"]
def hQ.Dn {st:Stmt}(F:hQ K x k7 st f fd) (S:xy N ps (zm st)) (len: ∀vs H Q E,sp vs H Q E->vs.length=ps.length)
 (a: ∀ i A outer s H vs Q E,aV k (A.deeper (envOfC k7 (zm st) s.heap.objs.size f i))->sp vs H Q E →
   ∃t,cv (gs (dQ P w) P w K mg base N k7 (zm st) f i A outer s H E) (JE st) t/\t { nx:=λ_ H'=>Q .az H',rt:=Q } (XC N vs) H):bb P w K mg base (dQ P w) (k+1) f fd ps sp:=by
 obtain⟨m,n,kV,e,o,l,i,j,g,rfl,h,b⟩:=F.ex
 exact Ha h b S len λA outer s H vs Q E d c=>a i A outer s H vs Q E d c
def D3:PassesOwn (model P w) (A.deeper (envOfC k7 scope s.heap.objs.size f cd)) (envOfC k7 scope s.heap.objs.size f cd) (gs (dQ P w) P w K mg base N k7 scope f cd A outer s H E).xe:=
 PassesOwn.leaving
end
def C9 {l s':Shared}(k:Inv X y8 U H1 l) (A:s'.os=l.os) (h:AllBare s'.gens) (un:Un (cA X.stack) [] H1 H' l.heap s'.heap) (q:cq X.prog X.w H' s'.heap)
 (comp: ∀b o,s'.heap.get? b=y0 o->((∃ u,H' b=y0 u)\/ ∃u,l.heap.get? b=y0 u)->b∉cA X.stack->B.get? b=y0 o) (f:Heap.FlyingW B X.stack x (.ref C) (.ref t) h6) (y:s'.heap.UpToSlots h6):Inv X y8 U H' { s' with heap:=h6 }:=by
 have eR: ∀c u,H' c=y0 u->c∉cA X.stack:=λc u z d=>by
  obtain⟨_,o,e,_⟩:=k.stack.mem d
  have:=un.free c o e (k.cz c d) (by simp)
  rw [this]at z
  cases z
 refine k.gp (s':= { s' with heap:=h6 }) (ch:= []) A ⟨λb o e n a g=> ?_,λb o e n a g=> ?_,un.free,λb o e g=> ?_,un.dh,un.cX,un.di⟩ (λb u e=> ?_) h λb a=>absurd a (by simp)
 ·exact f.1 b o (comp b o (un.keep b o e n a g) (.inr ⟨o,e⟩) a)
 ·obtain⟨sl,m⟩:=un.slot b o e n a g
  obtain⟨_,i,j,s⟩:=k.stack.mem a
  rw [e]at j
  cases j
  obtain⟨p,w⟩:=y b _ m s
  exact⟨p,w⟩
 ·obtain⟨i,m⟩:=un.there b o e g
  by_cases a:b∈cA X.stack
  ·obtain⟨_,r,j,_⟩:=f.2.2.1.mem a
   exact⟨r,j⟩
  ·exact⟨i,f.1 b i (comp b i m (.inr ⟨o,e⟩) a)⟩
 ·refine(q b u e).de (λc v d z=> ?_) (λ_ z=>z) λ_ _ z=>z
  obtain rfl | d:=d
  ·exact f.1 c v (comp c v z (.inl ⟨u,e⟩) (eR c u e))
  ·exact f.1 c v (comp c v z (.inl ⟨_,d⟩) (eR c _ d))
def B3 (K:Aa6) (b tk:TE):TE:=λU H Q=>b U H λx H1=>tk U H1 λy H2=>y= .int (-1)/\ ∃a xs,x= .ref a/\a9 K H2 a xs/\ ∀p,H2 p=u0->Q (.ref p) (aP H2 p (.lst xs.reverse))
theorem J5: ∀ {xs}{us},Vals xs us->Vals xs.reverse us.reverse
 | _,_,.nil=> .nil
 | _::_,_::_,.cons r t=>by
  rw [Aj5,Aj5]
  exact(J5 t).append (.cons r .nil)
def F2 {e st:Expr}(o:PE X e te) (E:PE X st tk) (m: ∀l a,subscripted (.Slice u0 u0 (y0 st) p2) y9 l a=operate [l,a] (getItem l a):=by intro l a;with_unfolding_all rfl):PE X (.Subscript e (.Slice u0 u0 (y0 st) p2) pos) (B3 X.K te tk):=by
 intro c s U H Q I h
 refine Subscript_ (aI (o c s U H _ I h) ?_)
 rintro v F ⟨x,G,D,w,t⟩
 refine wpAny_Slice ?_
 refine wpAny_pure (wpAny_pure ?_)
 refine aI (E c F U G _ D t) ?_
 rintro J g ⟨y,B,p,A,k⟩
 obtain⟨rfl,a,K,rfl,n,q⟩:=k
 obtain⟨d,rfl⟩:=A
 cases w
 have f:Inv X c U B { g with heap:=g.heap.push { cls:= .type "slice",data:= .fields #[.none,.none,.int (-1) d] } }:=p.kept fun b z q=>Heap.get?_push_of_some _ q
 obtain⟨u,r,i,C⟩:=f.list n
 have j:=r.length
 refine tail_any i.isList.typeIs slot_list_getitem.lookup ?_ (m _ _)
 refine wpAny_getItem_list_slice i.isList (Heap.IsSliceOf.new ..) .none .none (.int (-1) d) (by decide) ?_ (by simp_all)
 rw [krv_pick]
 refine⟨.ref _,_,f.laid (λb z q=>Aa8 _ q) (Aa7 _) ?_,rfl,q _ (f.aR.fresh (Aa7 _))⟩
 exact⟨by rw [List.length_reverse];exact C,_,0,J5 r,Ab6 _ rfl⟩
def bb.calm {K:Frag}(F:bb P w K mg base (dQ P w) k f fd ps sp)
 (h: ∀vs H Q E,sp0 vs H Q E->sp vs H Q (λ_ _ _=>False)):bb P w K mg base iW k f fd ps sp0:=by
 refine⟨λvs H Q E q=>F.len vs H Q _ (h _ _ _ _ q),λA a s H c n vs Q E g j l m e=>codeAny_mono (F.run A a s H c n vs Q _ g j l m (h _ _ _ _ e)) λres r b=> ?_⟩
 cases res with
 | ok d=>
  cases d with
  | ret u=>exact b
  | next=>exact b
  | brk=>exact b
  | cont=>exact b
 | error o=>
  obtain⟨x,C,t,B,p,_,_,_,_,_,_,_,_,_,_,i⟩:=b
  exact i
noncomputable def gR (x:Str):It:=⟨λi _=> ∃c,x.cps[i]? =y0 c,λi H y H'=>H'=H/\ ∃c,x.cps[i]? =y0 c/\y= .str ⟨#[c]⟩,λi _=>x.cps[i]? =u0⟩
def BS {K:PySem.W.Frag}(it) (x) (t):gf P w K tg (gR x) [it] it (λi h=>h.IsStrIter it "str_ascii_iterator" x t i) where
 mem:=by simp
 obj:=λi h a b g=>by
  have e:=by simpa using g
  subst e
  obtain⟨o,e,c,d⟩:=a
  exact⟨o,e,λv z=>by rw [d]at z;cases z⟩
 keep:=λi h m a k=>by
  obtain⟨o,e,c,d⟩:=a
  exact⟨o,k it (by simp) o e,c,d⟩
 item:=by
  intro X L G M A i f s U H E I l a u
  obtain⟨c,B⟩:=u
  obtain⟨n,p,F,y,r,q⟩:=l it (by simp)
  refine wpAny_pyNext_ascii_item a B λm j D=> ?_
  have J:Inv X f U H { s with heap:=m,toks:=s.toks+1 }:=I.turned (λb o g e=>(D.2 b g).trans e) n p y r q
  obtain⟨o,e,C,d⟩:=id j
  exact⟨_,rfl,Z7 e C d (by decide) ⟨.str ⟨#[c]⟩,H,J,⟨_,rfl⟩,⟨rfl,c,B,rfl⟩,j,λb g=>(l b g).1⟩⟩
 done:=by
  intro X L G M A i f s U H E I l a u
  obtain⟨n,p,F,y,r,q⟩:=l it (by simp)
  exact wpAny_pyNext_ascii_end (I.ok.hd A) a u λm N=>⟨rfl,I.turned (λb o g e=>N b o g e) n p y r q⟩
 self:=λ_ _ _ _ _ a h=>wpAny_pyIter_striter_ascii a h
def uW {K:PySem.W.Frag}(it) (x) (t):gf P w K tg (gR x) [it] it (λi h=>h.IsStrIter it "str_iterator" x t i) where
 mem:=by simp
 obj:=λi h a b g=>by
  have e:=by simpa using g
  subst e
  obtain⟨o,e,c,d⟩:=a
  exact⟨o,e,λv z=>by rw [d]at z;cases z⟩
 keep:=λi h m a k=>by
  obtain⟨o,e,c,d⟩:=a
  exact⟨o,k it (by simp) o e,c,d⟩
 item:=by
  intro X L G M A i f s U H E I l a u
  obtain⟨c,B⟩:=u
  obtain⟨n,p,F,y,r,q⟩:=l it (by simp)
  refine wpAny_pyNext_wide_item a B λm j D=> ?_
  have J:Inv X f U H { s with heap:=m,toks:=s.toks+1 }:=I.turned (λb o g e=>(D.2 b g).trans e) n p y r q
  obtain⟨o,e,C,d⟩:=id j
  exact⟨_,rfl,Z7 e C d (by decide) ⟨.str ⟨#[c]⟩,H,J,⟨_,rfl⟩,⟨rfl,c,B,rfl⟩,j,λb g=>(l b g).1⟩⟩
 done:=by
  intro X L G M A i f s U H E I l a u
  obtain⟨n,p,F,y,r,q⟩:=l it (by simp)
  exact wpAny_pyNext_wide_end (I.ok.hd A) a u λm N=>⟨rfl,I.turned (λb o g e=>N b o g e) n p y r q⟩
 self:=λ_ _ _ _ _ a h=>wpAny_pyIter_striter_wide a h
def F0 (K:Aa6) (b:TE):TI:=λU H R=>b U H λx H1=>(∃ a,x= .ref a/\(∃ xs,a9 K H1 a xs)/\R (kr K a) H1)\/(∃ a,x= .ref a/\(∃ xs,b8 K H1 a xs)/\R (hJ K a) H1)\/ ∃z,x= .str z/\R (gR z) H1
def mT (w:PE X l tl):PI X tg l (F0 X.K tl):=by
 intro g s U H R I h
 refine aI (w g s U H _ I h) ?_
 rintro v d ⟨x,i,c,m,r⟩
 obtain⟨a,e,⟨y,j⟩,q⟩ | ⟨a,e,⟨y,j⟩,q⟩ | ⟨z,e,q⟩:=r
 ·subst e
  cases m
  obtain⟨k,rv,p,u⟩:=c.list j
  refine wpAny_pyIter_list p.isList ?_
  refine⟨d.heap.objs.size,[d.heap.objs.size],_,_,i,rfl,c.kept λb o e=>Aa8 _ e,Fi a _,⟨_,Ab6 _ rfl,rfl,rfl⟩,λb f=> ?_,q⟩
  have e:=by simpa using f
  subst e
  exact c.c6 (Aa7 _) (c.aR.fresh (Aa7 _))
 ·subst e
  cases m
  obtain⟨k,rv,p,u⟩:=c.tuple j
  refine wpAny_pyIter_tuple (p) ?_
  refine⟨d.heap.objs.size,[d.heap.objs.size],_,_,i,rfl,c.kept λb o e=>Aa8 _ e,J7 a _,⟨_,Ab6 _ rfl,rfl,rfl⟩,λb f=> ?_,q⟩
  have e:=by simpa using f
  subst e
  exact c.c6 (Aa7 _) (c.aR.fresh (Aa7 _))
 ·subst e
  obtain⟨t,rfl⟩:=m
  cases n:z.cps.all (· <128)with
  | true=>
   refine wpAny_pyIter_ascii n ?_
   refine⟨d.heap.objs.size,[d.heap.objs.size],_,_,i,rfl,c.kept λb o e=>Aa8 _ e,BS _ z t,⟨_,Ab6 _ rfl,rfl,rfl⟩,λb f=> ?_,q⟩
   have e:=by simpa using f
   subst e
   exact c.c6 (Aa7 _) (c.aR.fresh (Aa7 _))
  | false=>
   refine wpAny_pyIter_wide n ?_
   refine⟨d.heap.objs.size,[d.heap.objs.size],_,_,i,rfl,c.kept λb o e=>Aa8 _ e,uW _ z t,⟨_,Ab6 _ rfl,rfl,rfl⟩,λb f=> ?_,q⟩
   have e:=by simpa using f
   subst e
   exact c.c6 (Aa7 _) (c.aR.fresh (Aa7 _))
section
variable {X:Cx}
def Vals.iA (r:Vals xs us){i:Nat}(h:us[i]? =y0 u): ∃x,xs[i]? =y0 x/\RelV x u:=by
 have e:=r.length
 have d:=(Ac2.mp h).1
 have a:i<xs.length:=by lia
 obtain⟨f,b,c⟩:=r.get (Ab a)
 rw [h]at b
 cases b
 exact⟨_,Ab a,c⟩
def CA (bs:List Bool):(Ac4 bs.length).all (λi=>bs.getD i y9)=bs.all id:=by
 induction bs with
 | nil=>rfl
 | cons b bs a=>
  rw [Aa0,List.range_succ_eq_map,Ah6,List.all_map,Ah6,←a]
  rfl
def F6 {bs:List Bool}(r:Vals (bs.map V.bl) its):TruthOf P w A (λi v=>its.toArray[i]? =y0 v) (λi=>bs.getD i y9):=by
 intro i v s Q E d f
 obtain⟨x,a,g⟩:=r.iA (by simpa using d)
 rw [Ad9]at a
 cases c:bs[i]? with
 | none=>rw [c]at a;cases a
 | some b=>
  rw [c]at a
  cases a
  cases g
  refine wpAny_truthy_bool ?_
  have e:bs.getD i y9=b:=by rw [Ad1,c];rfl
  rw [← e]
  exact f
def BX (m:X.calm=k9):Js X (.builtin "all") (fun xs H Q=> ∃p,∃bs:List Bool,xs= [.ref p]/\a9 X.K H p (bs.map V.bl)/\Q (.bl (bs.all id)) H):=by
 intro c s U H xs x Q I r h
 obtain⟨p,bs,rfl,k,q⟩:=h
 obtain⟨u,rfl,j⟩:=wI r
 cases j
 obtain⟨f,rv,g,w⟩:=I.list k
 have a:=rv.length
 rw [Ab1]at a
 refine call_all_walk (wpAny_pyIter_list g.isList ?_)
 have d:p≠s.heap.objs.size:=by
  obtain⟨o,l,_⟩:=g.isList
  exact Ac3 (Ac l)
 refine⟨s.heap.objs.size,_,_,_,_,_,λi=>bs.getD i y9,rfl,Walks.list (A:=X.A.in1) (I.ok.hd m) _ p d f.toArray,⟨⟨_,Ab6 _ rfl,rfl,rfl⟩,g.isList.at λo e=>Aa8 _ e⟩,F6 rv,λn tk t=> ?_⟩
 have v:Inv X c U H { s with heap:=n,toks:=tk }:=I.kept λb o e=>t b o (by simp;exact Ac3 (Ac e)) (Aa8 _ e)
 refine⟨.bl _,H,v,?_,q⟩
 show _=_
 rw [Aa9,←a,CA]
def eZ:List Int->Int
 | []=>0
 | i::r=>i+eZ r
theorem wQ: ∀(xs) (x),eZ (xs++ [x])=eZ xs+x
 | [],x=>by simp [eZ]
 | y::a,x=>by
  show y+eZ (a++ [x])=y+eZ a+x
  rw [wQ a x];omega
theorem QH (ns:List Int): ∀j,j<=ns.length->preSum (λi=>ns.getD i 0) j=eZ (ns.take j)
 | 0,_=>rfl
 | j+1,h=>by
  rw [preSum,QH ns j (by omega),List.take_succ,Ab (by omega)]
  show _=eZ (ns.take j++ [ns[j]])
  rw [wQ,Ad1,Ab (by omega)]
  rfl
end
section
variable {X:Cx}
theorem Xo: ∀ {ss}{us},Vals (ss.map V.str) us->StrsAre us ss
 | [],us,r=>by cases r;exact .nil
 | z::ss,us,r=>by
  cases r with
  | cons h t=>
   obtain⟨k,rfl⟩:=h
   exact .cons _ _ (Xo t)
theorem qW: ∀ {us}{ss},StrsAre us ss->Vals (ss.map V.str) us
 | _,_,.nil=> .nil
 | _,_,.cons _ _ h=> .cons ⟨_,rfl⟩ (qW h)
def WR:Js X (.builtin "sorted") (fun xs H Q=> ∃p,∃ss:List Str,xs= [.ref p]/\a9 X.K H p (ss.map V.str)/\ss.length<64/\ ∀i,i.Perm ss->sortedS i=true-> ∀l,H l=none->Q (.ref l) (aP H l (.lst (i.map V.str)))):=by
 intro f s U H xs x Q I r h
 obtain⟨p,ss,rfl,k,v,q⟩:=h
 obtain⟨u,rfl,j⟩:=wI r
 cases j
 obtain⟨d,rv,n,g⟩:=I.list k
 have c:=rv.length
 rw [Ab1]at c
 refine sorted_strs n.isList (Xo rv) (by lia) λa i t a2 a3=> ?_
 obtain⟨e,m⟩:=sortedAll_at s.heap d a
 have w:i.length<=sizeLine:=by rw [a2.length_eq];rw [Ab1]at g;exact g
 refine⟨.ref _,_,I.laid (λb o e=>sortedAll_old e) (Ad2 _) (show aN X.prog X.w _ _ _ (.lst _)from⟨by rw [Ab1];exact w,a.toList,e,qW t,by simpa [seqObj]using m⟩),rfl,q i a2 a3 _ (I.aR.fresh (Ad2 _))⟩
end
section
variable {X:Cx}
def gg (x:Str) (n:Nat):Str:=⟨(Aa1 n x.cps).foldl (· ++ ·) #[]⟩
theorem jQ : ∀ n (a b:Array α),((Aa1 n a).foldl (· ++ ·) b).toList=b.toList++(Aa1 n a.toList).flatten
 | 0,a,b=>by simp
 | n+1,a,b=>by
  rw [Ac9,Ag2,jQ n,Ac9,Ai0]
  simp
def zD (x) (n):(gg x n).cps.toList=(Aa1 n x.cps.toList).flatten:=by
 unfold gg
 rw [jQ]
 simp
def A0 (x) (n):(gg x n).length=x.length*n:=by
 show(gg x n).cps.size=x.cps.size*n
 rw [← Ah2,zD]
 simp [Nat.mul_comm]
def rL {a b:Str}(h:a.cps.toList=b.cps.toList):a=b:=by
 cases a;cases b
 simp [Str.mk.injEq]
 exact Ai7.mp h
def BR:bK X (binaryOp .Mult) (λx y H Q=> ∃z k,x= .str z/\y= .int k/\0<=k/\k<=1000/\z.length*k.toNat<=1000000/\Q (.str (gg z k.toNat)) H):=by
 intro y8 s U H x y v u Q I rx ry h
 obtain⟨z,k,rfl,rfl,h0,h1,hl,q⟩:=h
 obtain⟨t,rfl⟩:=rx
 obtain⟨t',rfl⟩:=ry
 have hsz:(gg z k.toNat).length<=sizeLine:=by rw [A0];exact Ac1 hl (by decide)
 refine P.mul_str (by
  have a: ¬k< -(2 ^ 63:Int):=by lia
  have b: ¬k>=2 ^ 63:=by lia
  rw [decide_eq_false a,decide_eq_false b];rfl) (λc1 c2=> ?_) (λc1 c2=> ?_) ?_
 ·have hk:=by omega
  have:(2:Int) ^ 63-1>=(z.length:Int)*k:=by
   have e:((z.length*k.toNat:Nat):Int)=(z.length:Int)*k:=by rw [Int.natCast_mul,Al0 h0]
   have:=hl
   lia
  have:=Int.le_ediv_of_mul_le (c:=k) (by omega) (by omega)
  lia
 ·unfold Builtin.Str.tooLong
  exact decide_eq_false (by have:sizeLine>=1000000:=by decide
                            lia)
 ·by_cases c1:k<1
  ·have hk:k=0:=by lia
   subst hk
   rw [if_pos c1]
   exact⟨by decide,.str _,H,I.kept λb o e=>e,⟨_,rfl⟩,q⟩
  ·rw [if_neg c1]
   by_cases c2:(k==1||z.length==0)=k9
   ·rw [if_pos c2]
    have e:gg z k.toNat=z:=by
     apply rL
     rw [zD]
     obtain c | c:=Bool.or_eq_true_iff.mp c2
     ·have:k=1:=by simpa using c
      subst this
      simp
     ·have:z.cps.toList= []:=by
       have c:z.length=0:=by simpa using c
       have c:z.cps.size=0:=c
       rw [← Ah2]at c
       exact Ag3 c
      rw [this]
      simp
    rw [e]at q
    exact⟨.str z,H,I,⟨t,rfl⟩,q⟩
   ·rw [if_neg c2]
    exact⟨hsz,.str _,H,I.kept λb o e=>e,⟨_,rfl⟩,q⟩
def t8:bK X (binaryOp .Add) (λx y H Q=> ∃a b ys,x= .ref a/\y= .ref b/\b8 X.K H a []/\b8 X.K H b ys/\Q (.ref b) H):=by
 intro l s U H x y v u Q I r F h
 obtain⟨a,b,ys,rfl,rfl,E,D,q⟩:=h
 cases r
 cases F
 obtain⟨z,A,B,_⟩:=I.tuple E
 obtain⟨d,G,w,_⟩:=I.tuple D
 cases A
 obtain⟨⟨p,dd,m,sl⟩,k,t,n,hd⟩:=id B
 obtain⟨⟨o,g,e,f⟩,c,j,C,i⟩:=id w
 subst t hd j i
 exact concat_meets ⟨_,k,rfl⟩ ⟨_,c,rfl⟩ noFill_tuple_add seq_tuple_add PySem.F.slot_tuple_add PySem.F.entry_tuple_add (PySem.F.args_tuple_add_2 _ _)
  (tuple_addW0 a b _ d.toArray n C dd g sl f rfl) ⟨k,c,.ref b,H,I,rfl,q⟩
def F4 (z:X.calm=k9):Js X (.builtin "sum") (fun xs H Q=> ∃p,∃ns:List Int,xs= [.ref p]/\a9 X.K H p (ns.map V.int)/\Q (.int (eZ ns)) H):=by
 intro f s U H xs J Q I r h
 obtain⟨p,ns,rfl,w,q⟩:=h
 obtain⟨u,rfl,m⟩:=wI r
 cases m
 obtain⟨k,rv,l,G⟩:=I.list w
 have a:=rv.length
 rw [Ab1]at a
 refine call_sum_walkG (wpAny_pyIter_list l.isList ?_)
 have d:p<s.heap.objs.size:=by
  obtain⟨o,y,_⟩:=l.isList
  exact Ac y
 have g:s.heap.objs.size<(s.heap.push { cls:= .type "list_iterator",data:= .fields #[.ref p,.int 0 0] }).objs.size:=Heap.lt_size (Heap.get?_push_size _ rfl)
 refine⟨s.heap.objs.size,_,_,_,_,_,λi=>ns.getD i 0,rfl,Walks.list (A:=X.A.in1) (I.ok.hd z) _ p (Ac3 d) k.toArray,⟨⟨_,Ab6 _ rfl,rfl,rfl⟩,l.isList.at λo e=>Aa8 _ e⟩,λb c=> ?_,λi v D=> ?_,λB tk C E=> ?_⟩
 ·simp [or_false]at c
  obtain rfl | rfl:=c
  ·exact g
  ·exact Ai5 d g
 ·obtain⟨x,j,n⟩:=rv.iA (by simpa using D)
  rw [Ad9]at j
  cases c:ns[i]? with
  | none=>rw [c]at j;cases j
  | some b=>
   rw [c]at j
   cases j
   obtain⟨t,rfl⟩:=n
   exact⟨t,by show Value.int b t=Value.int (ns.getD i 0) t;rw [Ad1,c];rfl⟩
 ·have F:Inv X f U H { s with heap:=B,toks:=tk }:=I.kept λb o e=>E b o (by simp;exact Ac3 (Ac e)) (Aa8 _ e)
  refine⟨.int _,H,F,⟨C,?_⟩,q⟩
  rw [Aa9,←a,QH ns _ (Aa7 _),Ai8]
def ZB (lo) (d n) (hd:d<=n):(match lo with | none=>(d:Int) | some i=>max 0 (min (if i<0 then i+n else i) n))=((HT.aH n d lo:Nat):Int)/\HT.aH n d lo<=n:=by
 cases lo with
 | none=>exact⟨rfl,hd⟩
 | some i=>
  by_cases q:i<0
  ·simp [HT.aH,q,if_true];lia
  ·simp [HT.aH,q,if_false];lia
def qU (x:Str) (a hi:Option Int):Builtin.Str.strSliceIndices a hi 1 x.length=(Ac4 (HT.aH x.length x.length hi-HT.aH x.length 0 a)).map λk=>HT.aH x.length 0 a+k:=by
 have c:=ZB a 0 x.length (Ae8 _)
 have b:=ZB hi x.length x.length (Aa7 _)
 have e:Builtin.Str.strSliceIndices a hi 1 x.length=sliceRange ((HT.aH x.length 0 a:Nat)) ((HT.aH x.length x.length hi:Nat)) 1:=by
  rw [← c.1,←b.1]
  cases a<;>cases hi<;>rfl
 rw [e]
 unfold sliceRange
 simp only [show (1:Int)>0 by decide,if_true,Int.ediv_one,Int.one_mul]
 have d:(if ((HT.aH x.length 0 a:Nat))<((HT.aH x.length x.length hi:Nat):Int)then((HT.aH x.length x.length hi:Nat))-((HT.aH x.length 0 a:Nat):Int)+1-1 else 0).toNat=HT.aH x.length x.length hi-HT.aH x.length 0 a:=by
  split<;>lia
 rw [d]
 refine List.map_congr_left λk _=> ?_
 lia
noncomputable def iq (x:Str) (a hi:Option Int):Str:=⟨((x.cps.toList.drop (HT.aH x.length 0 a)).take (HT.aH x.length x.length hi-HT.aH x.length 0 a)).toArray⟩
def yB (x) (lo hi):Txt.slice x lo hi=iq x lo hi:=by
 have c:=(ZB lo 0 x.length (Ae8 _)).2
 have a:=(ZB hi x.length x.length (Aa7 _)).2
 by_cases q:HT.aH x.length 0 lo<=HT.aH x.length x.length hi
 ·have e:=StrLaws.sliceText_nat x q a
  rw [show iq x lo hi=⟨((x.cps.toList.drop _).take _).toArray⟩from rfl,←e]
  unfold Txt.slice StrLaws.sliceText
  rw [qU x lo hi,StrLaws.strSliceIndices_plain q a]
 ·have b:HT.aH x.length x.length hi-HT.aH x.length 0 lo=0:=by lia
  unfold Txt.slice iq
  rw [qU x lo hi,b]
  rw [if_neg (by simp;lia)]
  simp
def nT:V->Option Int->Option Int->Hp->VK->Prop:=λx lo hi H Q=> ∃z,x= .str z/\z.length<=sizeLine/\Q (.str (iq z lo hi)) H
def JG:eY X nT:=by
 intro a s U H x v r w i g sl Q I j c n m h
 obtain⟨z,rfl,p,q⟩:=h
 obtain⟨t,rfl⟩:=j
 refine⟨"str",_,F.slot_str_getitem.lookup,typeIs_str _ _ _,?_⟩
 have fin: ∀f k,EP X a U Q (.str (Txt.slice z i g) f) { s with toks:=k }:=λf k=>by
  rw [yB]
  exact⟨.str _,H,I.kept (t':=k) λb o e=>e,⟨_,rfl⟩,q⟩
 have d:(Txt.slice z i g).length<=sizeLine:=Ac1 (Txt.slice_le z _ _) p
 cases n<;>cases m
 ·exact wpAny_getItem_str_slice (l:=u0) (u:=u0) (st:=u0) c rfl (post_val_or_str ⟨d,fin⟩)
 ·exact wpAny_getItem_str_slice (l:=u0) (u:=y0 (_,_)) (st:=u0) c rfl (post_val_or_str ⟨d,fin⟩)
 ·exact wpAny_getItem_str_slice (l:=y0 (_,_)) (u:=u0) (st:=u0) c rfl (post_val_or_str ⟨d,fin⟩)
 ·exact wpAny_getItem_str_slice (l:=y0 (_,_)) (u:=y0 (_,_)) (st:=u0) c rfl (post_val_or_str ⟨d,fin⟩)
theorem ZJ: ∀ {ss}{i},Vals (ss.map V.str) i-> ∃ps:List (Str×Tok),i=strValues ps/\ps.map (·.1)=ss
 | [],i,r=>by cases r;exact⟨[],rfl,rfl⟩
 | n::c,i,r=>by
  cases r with
  | cons h t=>
   obtain⟨k,rfl⟩:=h
   obtain⟨ps,a,b⟩:=ZJ t
   exact⟨(n,k)::ps,by rw [a];rfl,by rw [← b];rfl⟩
def uO (K:Aa6):V->List V->Hp->VK->Prop:=λx a H Q=> ∃z p,∃ss:List Str,x= .str z/\a= [.ref p]/\a9 K H p (ss.map V.str)/\JoinOk z ss=k9/\Q (.str (Str.join z ss)) H
def Dj:gd X "str.join" (uO X.K):=by
 intro c s U H x A v y Q I f rv h
 obtain⟨z,p,g,rfl,rfl,i,a,q⟩:=h
 obtain⟨t,rfl⟩:=f
 obtain⟨u,rfl,j⟩:=rv.one
 cases j
 obtain⟨m,rv,n,w⟩:=I.list i
 obtain⟨r,rfl,l⟩:=ZJ rv
 refine SC.join n.isList l a λd k=>⟨.str _,H,I.kept λb o e=>e,⟨d,?_⟩,q⟩
 show Value.str (Builtin.Str.glued z g) d=_
 rw [StrLaws.glued_eq_join]
end
open PySem PySem.Spec PyProof.Rows PySem.MeetsSeq
section
variable {X:Cx}
abbrev tQ:=V->Hp->Prop
def ny (X:Cx) (T:String) (ty:tQ):Prop:= ∀(y8:List (Addr×Obj)) (s:Shared) (U:St) (H:Hp) (x:V) (v:Value),Inv X y8 U H s->RelV x v->ty x H->s.TypeIs v T/\ ∀a,v= .ref a-> ∃ob,s.heap.get? a=y0 ob/\ob.dict=u0
def yh (ty:tQ) (r:V->List V->Hp->VK->Prop) (a:TE) (t:TA):TE:=λU H Q=>a U H λx H1=>ty x H1/\t U H1 λxs H2=>r x xs H2 Q
def WZ {T id:String}(w:PlainAttrs T) (d:Slot T name id) (i:typeOf (.builtin id)=pure (.type "method_descriptor")) (z:ny X T ty) (E:gd X id r) (B:PE X o to) (G:PA X (e::es) t)
 (b:attributeBase o name X.env (eval o X.env)=eval o X.env)
 (f:((backTo u7 (starEach (e::es) X.env)).all (λx=> !x.1)&&(backToKw u7 (keywordEach [] X.env)).all (λx=>x.1.isSome)
   &&u9 ((e::es).length+([]:List Keyword).length+(if ([]:List Keyword).isEmpty then 0 else 1)<30))=k9)
 (c:(apos.endLine==u7.line)=k9) (C:starEach (e::es) X.env=(y9,eval e X.env)::starEach es X.env) (g:(backTo u7 (starEach es X.env)).any (·.1)=y9):
 PE X (.Call (.Attribute o name apos) (e::es) [] u7) (yh ty r to t):=by
 intro a s U H Q I h
 refine wpAny_Call_method_late b f c rfl (aI (B a s U H _ I h) ?_)
 rintro v m ⟨x,n,l,j,F,D⟩
 obtain⟨K,y⟩:=z a m U n x v l j F
 refine⟨T,id,w,d,i,K,y,?_⟩
 have k:=G u7 a m U n _ l D
 rw [C]at k ⊢
 refine Calls.callWith_builtin (by assumption) (Calls.evalArgs_plain ?_)
 exact aI k λL A ⟨M,q,u,J,p⟩=>E a A U q x M v L Q u j J p
def nE:ny X "str" (fun x _=> ∃z,x= .str z):=by
 intro a s U H x v I r h
 obtain⟨z,rfl⟩:=h
 obtain⟨t,rfl⟩:=r
 exact⟨typeIs_str s z t,λ_ e=>nomatch e⟩
def yb:V->List V->Hp->VK->Prop:=λx a H Q=> ∃l xs,∃i:Nat,∃y,x= .ref l/\a= [.int (i:Int),y]/\H l=y0 (.lst xs)/\xs.length<sizeLine/\i<=xs.length/\i<2 ^ 62/\Q .az (aP H l (.lst (xs.take i++y::xs.drop i)))
def AE:gd X "list.insert" yb:=by
 intro d s U H x L v G Q I p rv h
 obtain⟨l,K,i,y,rfl,rfl,m,D,B,C,q⟩:=h
 cases p
 obtain⟨J,f,rfl,w,A⟩:=rv.two
 obtain⟨t,rfl⟩:=w
 obtain⟨z,a,n,r,E,e⟩:=I.fZ m
 have b: ¬(!Builtin.List.listFitsIndex (i:Int))=true:=by
  have:=fitsIndex_both (k:=(i:Int)) (by omega) (by omega)
  rw [this];decide
 have c:a.toArray.size<=sizeLine:=by rw [Aa9];omega
 have g: ¬((i:Int)<0):=by omega
 have o:(i:Int).toNat=i:=Af2 i
 generalize (i:Int)=j at b g o ⊢
 refine call_meets F.slot_list_insert ⟨_,e,rfl⟩ F.entry_list_insert (F.args_list_insert_3 _ _ _) (AutoSeq1.list_insert_list_int_val_1 l a.toArray n j t f b c) ⟨e,?_⟩
 refine⟨.az,_,I.hB (its':=a.take i++f::a.drop i) m e ?_ ((r.take i).append (.cons A (r.drop i))) ?_,rfl,q⟩
 ·have u:min j.toNat a.toArray.size=i:=by rw [Aa9,o];omega
  dsimp only
  rw [if_neg g,u]
  apply Ai7.mp
  simp
  rw [Ag4 (by simp)]
 ·simp
  omega
end
section
variable {X:Cx}{y8:List (Addr×Obj)}{U:St}{H:Hp}{s:Shared}{h':Heap}
def Inv.fO (I:Inv X y8 U H s) (k: ∀b o,b≠e->b≠it->s.heap.get? b=y0 o->h'.get? b=y0 o) (J:H it=u0) (C:H e=u0) (l:it≠X.env.locals) (f:e≠X.env.locals)
 (h1:it∈X.ex\/X.s₀.heap.objs.size<=it) (g:e∈X.ex\/X.s₀.heap.objs.size<=e) (t: ∀x c,X.env.cells.lookup x=y0 c->c≠it) (h: ∀x c,X.env.cells.lookup x=y0 c->c≠e) (w: ∀p∈X.pn++y8,p.1≠it) (j: ∀p∈X.pn++y8,p.1≠e):Inv X y8 U H { s with heap:=h',toks:=t' }:=by
 have d: ∀b u,H b=y0 u->b≠e/\b≠it:=λb u q=>⟨λz=>(by simp_all),λz=>(by simp_all)⟩
 have i: ∀b o,b∉ [e,it]->s.heap.get? b=y0 o->h'.get? b=y0 o:=λb o a q=>k b o (λz=>a (by simp [z])) (λz=>a (by simp [z])) q
 refine I.step (λb D=> ?_) (λb o _ _ a e _=>i b o a e) (λb o _ _ a e _=>⟨o.slots,i b o a e⟩) (λ_ _ _ _ n=>n)
  (λb o a e=>⟨o,i b o a e⟩) (λ_ _ e=>e) (λ_ _ _ e=>e) (λb G e=>⟨#[],by rw [e];simp⟩) (λm B=> ?_) (λb u q=> ?_) I.bare
 ·obtain z | z:=Aa.mp D
  ·rw [z];exact⟨g,f,h,j⟩
  ·rw [Ab8.mp z];exact⟨h1,l,t,w⟩
 ·obtain⟨o,A,E,y,r⟩:=B
  exact⟨o,A,E,k _ o (Ne.symm f) (Ne.symm l) y,r⟩
 ·refine(I.aR b u q).de (λc v a F=>k c v ?_ ?_ F) (λ_ q=>q) λ_ _ q=>q
  ·obtain z | z:=a
   ·rw [z];exact(d b u q).1
   ·exact(d c _ z).1
  ·obtain z | z:=a
   ·rw [z];exact(d b u q).2
   ·exact(d c _ z).2
end
def jI:bootBuiltins "enumerate" =some (.type "enumerate"):=by decide +kernel
section
variable {prog:Program}{w:World}{A:Around}{E:Value->Shared->Prop}{s:Shared}
abbrev eX (a:Bool):Obj:= { cls:= .type "set",dict:=none,data:= .set #[] 0 (.fresh 0 0 a) }
end
def jD {f hi:Option Int}(a:IsTup s.heap t vs) (e:s.heap.IsSliceOf sl vl vu .none) (j:IsPart vl f) (i:IsPart vu hi)
 (k:HT.aH vs.size 0 f=0) (h1:HT.aH vs.size vs.size hi=vs.size) (h:Q (.ref t) s):wpAny (model prog w) A (getItem (.ref t) (.ref sl)) Q E s:=by
 obtain⟨g,d,b,cn⟩:=id e
 have c:s.TypeIs (.ref sl) "slice" :=⟨g,d,b⟩
 unfold getItem
 try with_reducible refine wpAny_holding ?_
 refine wpAny_bind (wpAny_sequenceKey a.typeIs rfl (wpAny_bind (wpAny_callSpecial?_slot a.typeIs PyProof.Rows.slot_tuple_getitem
  (wpAny_call_entry PyProof.Rows.slot_tuple_getitem a.typeIs PyProof.Rows.entry_tuple_getitem ?_ (PyProof.Rows.args_tuple_getitem _ _)))))
 show wpAny _ _ (Builtin.Tuple.tupleItemsOf _ >>= _) _ _ s
 refine wpAny_bind (tupleItemsOf_ a (wpAny_bind (wpAny_typeOf c ?_)))
 refine wpAny_bind (HT.bE e j i ?_)
 show wpAny _ _ (if _=k9 then _ else _) _ _ s
 rw [if_pos (by simp_all)]
 refine wpAny_bind (wpAny_bind (wpAny_typeOf a.typeIs (wpAny_pure ?_)))
 exact wpAny_bind (wpAny_rule (wpAny_pure ⟨_,rfl,wpAny_pure h⟩))
section
variable {X:Cx}
def mu (K:Aa6):V->Option Int->Option Int->Hp->VK->Prop:=λx lo hi H Q=> ∃a xs,x= .ref a/\b8 K H a xs/\HT.aH xs.length 0 lo=0/\HT.aH xs.length xs.length hi=xs.length/\Q (.ref a) H
def CK:eY X (mu X.K):=by
 intro e s U H x v p u t o sl Q I f g l i h
 obtain⟨a,n,rfl,j,k,m,q⟩:=h
 cases f
 obtain⟨c,r,d,w⟩:=I.tuple j
 have b:c.toArray.size=n.length:=by rw [Aa9];exact r.length.symm
 refine⟨"tuple",_,PyProof.Rows.slot_tuple_getitem.lookup,d.typeIs,?_⟩
 exact jD d g l i (by rw [b];exact k) (by rw [b];exact m) ⟨.ref a,H,I,rfl,q⟩
end
end L2
namespace PyProof.Rows
open PySem PySem.Spec
section
variable {prog:Program}{w:World}{A:Around}{E:Value->Shared->Prop}{s:Shared}
def XS {l:Addr}{vs:List Value}{Q:List Value->Shared->Prop}(d:s.heap.IsTuple l vs.toArray)
 (h:Q vs { s with heap:=(s.heap.push (seqObj "list" #[] 0)).update s.heap.objs.size (Obj.mapSeq (· ++vs.toArray)) }) (c:vs.length<=sizeLine:=by size_fits):
 wpAny (model prog w) A (collect (.ref l)) Q E s:=by
 obtain⟨o,f,g,n,hd⟩:=id d
 unfold collect
 refine wpAny_bind (wpAny_runValue (codeAny_builtin entry_proto_collect' ?_))
 show wpAny _ _ (do again (.builtin "list.__iadd__" ⟨[← newList [],.ref l],[]⟩)) _ _ s
 refine wpAny_bind (wpAny_newList (wpAny_pure ⟨Code.quiet_builtin _ (by decide +kernel),codeAny_builtin entry_list_iadd' ?_⟩))
 show wpAny _ _ (Builtin.List.listExtendWith (.ref s.heap.objs.size) (.ref l) (.ref s.heap.objs.size)) _ _ { s with heap:=s.heap.push (seqObj "list" #[] 0) }
 unfold Builtin.List.listExtendWith
 have a:(s.heap.push (seqObj "list" #[] 0)).get? l=some o:=Heap.get?_push_of_some _ f
 refine wpAny_bind (wpAny_typeOf (T:= "tuple") ⟨o,a,g⟩ ?_)
 have e:(Value.type "tuple" ==Value.type "tuple")=true:=by rfl
 rw [if_pos (by rw [e];simp)]
 refine wpAny_bind (listItems_at a hd ?_)
 refine wpAny_bind (listItems_at (xs:= #[]) (n:=0) (Ab6 _ rfl) rfl ?_)
 rw [if_neg (by simp)]
 refine wpAny_bind (listUpdate_at (xs:= #[]) (n:=0) (Ab6 _ rfl) rfl ?_ (Ae8 _) (by show(#[]++vs.toArray).size<=sizeLine+1;simp only [Array.size_append,Aa9,Af4];omega))
 refine wpAny_pure ?_
 show wpAny (model prog w) A (do
  let o ←load s.heap.objs.size
  match o.data with
  | .seq b _=>pure b.toList
  | _=>unsupported "internal:collect") Q E { s with heap:=(s.heap.push (seqObj "list" #[] 0)).update s.heap.objs.size (Obj.mapSeq (· ++vs.toArray)) }
 refine wpAny_bind (wpAny_load (get?_update_seq (Ab6 _ rfl) _) ?_)
 show wpAny _ _ (pure ((#[]:Array Value)++vs.toArray).toList) Q E _
 rw [show ((#[]:Array Value)++vs.toArray).toList=vs by simp]
 exact wpAny_pure h
end
end PyProof.Rows
set_option maxHeartbeats 8000000
namespace L2
open PySem PySem.Spec PyProof.Rows
def jP (U:List Str) (v:Str):List Str:=if U.any (· ==v)then U else U++ [v]
def JB (val:Nat->Str) (i:Nat):List Str:=((Ac4 i).map val).foldl jP []
def t5 (val):JB val 0= []:=rfl
def zr (val) (i):JB val (i+1)=jP (JB val i) (val i):=by
 unfold JB;rw [List.range_succ,Ac0,Al3];rfl
theorem zn (val): ∀i,(JB val i).length<=i
 | 0=>by rw [t5];exact Aa7 _
 | i+1=>by
  rw [zr];unfold jP
  have a:=zn val i
  split
  ·omega
  ·rw [Aa3,Ag7];omega
theorem Z2 (val:Nat->Str): ∀(i:Nat) (k:Str),(JB val i).any (· ==k)=((Ac4 i).map val).any (· ==k)
 | 0,k=>rfl
 | i+1,k=>by
  rw [zr,List.range_succ,Ac0,List.any_append,←Z2 val i k]
  unfold jP
  by_cases h:(JB val i).any (· ==val i)=k9
  ·rw [if_pos h]
   by_cases e:val i=k
   ·subst e;rw [h];simp
   ·have a:(val i==k)=false:=by simpa [beq_iff_eq]using e
    simp [a]
  ·rw [if_neg h,List.any_append];rfl
def yX (U) (v k):(jP U v).any (· ==k)=(U.any (· ==k)||u9 (k=v)):=by
 unfold jP
 by_cases h:U.any (· ==v)=k9
 ·rw [if_pos h]
  by_cases e:k=v
  ·subst e;rw [h];simp
  ·simp [e]
 ·rw [if_neg h,List.any_append]
  by_cases e:k=v
  ·subst e;simp
  ·have b:(v==k)=false:=by simpa [beq_iff_eq]using (λa:v=k=>e a.symm)
   simp [b,e]
def zz (U) (v):(jP U v).length=if U.any (· ==v)then U.length else U.length+1:=by
 unfold jP;split<;>simp
section
variable {prog:Program}{w:World}{A:Around}{R:Result->Shared->Prop}{I:Addr}{fp wr:List Addr}{G:Array GenState->Array GenState->Prop}{n:Nat}{P:Nat->Value->Prop}{St:Nat->Shared->Prop}
def WX (W:WalksS prog w A.in1 I fp wr G n P St) (S) (y:S∉fp)
 (val) (x: ∀i v,P i v-> ∃t,v= .str (val i) t) (f:n+1<scanBound):
 ∀ k i s,n-i=k->i<=n->St i s →
  s.heap.SetOf (strKind prog w) S (λq=>(JB val i).any (· ==q)) (JB val i).length →
  (∀ s',Moved (S::wr) G s s'->s'.heap.SetOf (strKind prog w) S (λq=>(JB val n).any (· ==q)) (JB val n).length->R (.ok (.ret .none)) s') →
  codeAny (model prog w) A (.builtin "set.update.loop" ⟨[.ref S,.ref I],[]⟩) R s:=by
 have l:=λh=>y (W.sub _ h)
 have a: ∀b∈wr,b∈S::wr:=λb f=>Aa5 _ f
 intro k
 induction k with
 | zero=>
  intro i s U N c M z
  have L:i=n:=by omega
  subst L
  refine codeAny_builtin F.entry_set_update_loop ?_
  rw [Around.under_plainId F.plain_set_update_loop _]
  show wpAny _ A.in1 (pyNext (.ref I) >>= _) _ _ s
  refine wpAny_bind (W.done s _ _ c λs' m=> ?_)
  show wpAny _ A.in1 (ret Value.none) _ _ s'
  exact wpAny_pure (z s' (m.mono a) (by
   obtain⟨o,C,E,t,B,Wk⟩:=M
   exact⟨o,C,E,t,m.heap S _ l B,Wk⟩))
 | succ k O=>
  intro i s U N c M z
  have g:i<n:=by omega
  refine codeAny_builtin F.entry_set_update_loop ?_
  rw [Around.under_plainId F.plain_set_update_loop _]
  show wpAny _ A.in1 (pyNext (.ref I) >>= _) _ _ s
  refine wpAny_bind (W.item i s _ _ g c λv s' V r m=> ?_)
  obtain⟨t,rfl⟩:=x i v V
  have D:s'.heap.SetOf (strKind prog w) S (λq=>(JB val i).any (· ==q)) (JB val i).length:=by
   obtain⟨o,C,E,T,B,Wk⟩:=M
   exact⟨o,C,E,T,m.heap S _ l B,Wk⟩
  show wpAny _ A.in1 (holding [Value.str (val i) t] (setAdd S (.str (val i) t)) >>= _) _ _ s'
  refine wpAny_bind (wpAny_holding ?_)
  unfold setAdd
  refine wpAny_holding ?_
  refine wpAny_bind ((strKind prog w).pyHash (strKind_is _ _ _ _) ?_)
  have d:(JB val i).length+1<scanBound:=by have:=zn val i;omega
  refine wpAny_setAddHashed_of (strKind_is _ _ _ _) rfl D d λQ j J=> ?_
  have K:Q.SetOf (strKind prog w) S (λq=>(JB val (i+1)).any (· ==q)) (JB val (i+1)).length:=
   SetOf_congr J (λq=>by rw [zr,yX]) (by rw [zr,zz])
  refine wpAny_pure ⟨plainId_quiet F.plain_set_update_loop _,O (i+1) _ (by omega) g (W.frame _ s' _ _ r (Ad2 _) λb f o e=> ?_) K λH u p=> ?_⟩
  ·rw [j.2 b (λh:b=S=>y (by rw [← h];exact f))];exact e
  ·refine z H (Moved.trans W.gtrans ((m.mono a).then_heap (Ad2 _) λb o f e=> ?_) u) p
   rw [j.2 b (λh:b=S=>f (by rw [h];exact Aa4))];exact e
end
theorem sS: ∀ {vs}{ns},StrsAre vs ns-> ∀(i) (v:Value),vs[i]? =y0 v-> ∃t,v= .str (ns.getD i "") t
 | _,_,.nil,i,v,h=>by simp at h
 | _,_,.cons n t a,0,v,h=>by simp at h;exact⟨t,by rw [← h];rfl⟩
 | _,_,.cons n t a,i+1,v,h=>by
  obtain⟨b,e⟩:=sS a i v h
  exact⟨b,by rw [e];rfl⟩
section
variable {prog:Program}{w:World}{A:Around}{E:Value->Shared->Prop}{s:Shared}
set_option maxHeartbeats 8000000 in
theorem xM {b:Addr}{vs:Array Value}{ns:List Str}{Q:Value->Shared->Prop}
 (hh:A.handled=u0) (ht:s.heap.IsList b vs) (hi:StrsAre vs.toList ns) (hb:vs.size+1<scanBound)
 (q: ∀(f:Heap) (tk:Nat),f.SetOf (strKind prog w) s.heap.objs.size (fun J=>(JB (fun i=>ns.getD i "") vs.size).any (· ==J)) (JB (fun i=>ns.getD i "") vs.size).length →
   (∀ c o,c<s.heap.objs.size->s.heap.get? c=y0 o->f.get? c=y0 o)->Q (.ref s.heap.objs.size) { s with heap:=f,toks:=tk }):
 wpAny (model prog w) A (call (.type "set") [.ref b]) Q E s:=by
 obtain⟨c,tl,O⟩:=F.called_set.mro
 have I:=F.called_set.made
 have U:=F.called_set.sub
 refine wpAny_call (codeAny_of_tree ?_)
 show wpAny _ _ (callAny (.type "set") _) _ _ _
 refine wpAny_pure ⟨Code.quiet_builtin _ (by decide +kernel),codeAny_builtin F.entry_type_call ?_⟩
 rw [Around.under_plain (weight_type_call_type "set" [.ref b] []) rfl]
 have h1:=F.called_set.notType
 have h2:=F.called_set.canCreate
 have hct:=F.typeCall_set_1 (.ref b)
 repeat (any_goals (first | assumption | wp_step))
 refine codeAny_mono (code_set_new_1 (.ref b) (E:=E) (Q₁:=λV h=> ∃a:Bool,V= .ref s.heap.objs.size/\h= { s with heap:=s.heap.push (eX a) }) λa=>⟨a,rfl,rfl⟩) λr h H=> ?_
 cases r with
 | error e=>exact H
 | ok fl=>
  cases fl with
  | ret V=>
   obtain⟨a,rfl,rfl⟩:=H
   have W:(s.heap.push (eX a)).get? s.heap.objs.size=y0 (eX a):=Ab6 _ rfl
   have hT:Shared.TypeIs { s with heap:=s.heap.push (eX a) } (.ref s.heap.objs.size) "set" :=⟨_,W,rfl⟩
   have X:=F.called_set.init.lookup
   have hbi:=F.called_set.init.bind (.ref s.heap.objs.size)
   repeat (any_goals (first | assumption | wp_step))
   refine codeAny_mono (codeAny_call_builtin (R:=wants (λr g=>r= .none/\ ∃f tk,g= { s with heap:=f,toks:=tk } ∧
    f.SetOf (strKind prog w) s.heap.objs.size (fun J=>(JB (fun i=>ns.getD i "") vs.size).any (· ==J)) (JB (fun i=>ns.getD i "") vs.size).length ∧
    (∀ c o,c<s.heap.objs.size->s.heap.get? c=y0 o->f.get? c=y0 o)) E) F.called_set.init.plain F.entry_set_init (check_set_init_1 hT ?_)) λx g d=> ?_
   ·obtain⟨⟨Y,c2,c3,c4⟩,y,m,D,l⟩:=ht
    replace m:Y= .type "list" :=m
    replace l:c3= .seq vs D:=l
    subst m;subst l
    have u:(s.heap.push (eX a)).get? b=y0 { cls:= .type "list",dict:=c2,data:= .seq vs D,slots:=c4 }:=Heap.get?_push_of_some _ y
    have T:=PySem.F.sub_list_set
    have P:=PySem.F.sub_list_frozenset
    have hne:(Value.type "list" ==Value.type "dict")=false:=by decide
    have p:(s.heap.push (eX a)).IsList b vs:=⟨_,u,rfl,D,rfl⟩
    unfold Builtin.«set.__init__» noKeywords Builtin.Frozenset.updateFrom
    generalize K:pyIter=PI
    wp_walk
    subst K
    refine wpAny_pyIter_list p (wpAny_bind (wpAny_runValue ?_))
    have n:b<s.heap.objs.size:=Ac y
    have G:A.in1.in1.in1.handled=none:=by simp [hh]
    have L:(s.heap.push (eX a)).objs.size=s.heap.objs.size+1:=Ai4 ..
    have t:b≠(s.heap.push (eX a)).objs.size:=by rw [L];exact Ac3 (Aj7 n)
    have N:s.heap.objs.size∉ [(s.heap.push (eX a)).objs.size,b]:=by
     rw [L];simp only [Aa,Aa2,or_false,not_or];exact⟨Ac3 (Af1 _),Nat.ne_of_gt n⟩
    refine WX ((Walks.list G _ b t vs).toS) s.heap.objs.size
     N (fun i=>ns.getD i "") (fun i v hv=>sS hi i v (by rw [Array.getElem?_toList];exact hv)) hb (vs.size-0) 0 _ (by omega) (Nat.zero_le _)
     ⟨⟨_,Ab6 _ rfl,rfl,rfl⟩,(p.push _)⟩ ?hS0 ?hR
    case hS0=>exact SetOf_congr ((setObjOf_fresh (knd:=strKind prog w) a).setOf (Aa8 _ W) (by unfold scanBound;omega)) (λ_=>rfl) rfl
    case hR=>
     intro s' z k
     obtain⟨f,g',d',B,M⟩:=s'
     have eg:g'=s.gens:=z.gens
     have ed:d'=s.drawn:=z.drawn
     have Z:M=s.os:=z.os
     subst eg;subst ed;subst Z
     show wpAny _ _ _ _ _ _
     refine wpAny_pure ?_
     show wpAny _ _ (ret Value.none) _ _ _
     refine wpAny_pure ⟨rfl,f,B,rfl,k,λc o S e=>z.heap c o ?_ (Aa8 _ (Aa8 _ e))⟩
     simp only [Aa,Aa2,or_false,not_or]
     exact⟨Ac3 S,by
      show c≠(s.heap.push (eX a)).objs.size
      rw [L];exact Ac3 (Aj7 S)⟩
   ·cases x with
    | error e=>exact d
    | ok j=>
     cases j with
     | ret r=>
      obtain⟨rfl,f,tk,rfl,k,C⟩:=d
      repeat (any_goals (first | assumption | wp_step))
      exact q _ _ k C
     | _=>exact d.elim
  | _=>exact H.elim
end
section
variable {X:Cx}
def iT (ss:List Str):Nat:=(JB (λi=>ss.getD i "") ss.length).length
def vW:bootBuiltins "len" =some (.builtin "len"):=by decide +kernel
def Cw:bootBuiltins "set" =some (.type "set"):=by decide +kernel
def uG (K:Aa6) (b:TA):TE:=λU H Q=>b U H λc H1=> ∃a,∃ss:List Str,c= [.ref a]/\a9 K H1 a (ss.map V.str)/\ss.length<1000/\Q (.int (iT ss:Nat)) H1
def Fe {a:Expr}{x:TA}{p L pos c:Pos}(J:X.calm=true) (T:Gl X "len") (P:X.mg "len" =none) (n:Gl X "set") (k:X.mg "set" =none) (Y:PA X [a] x) (M:starEach [a] X.env= [(false,eval a X.env)]):
 PE X (.Call (.Name "len" p) [.Call (.Name "set" L) [a] [] c] [] pos) (uG X.K x):=by
 intro d s U H Q I h
 refine Call_ (jw I T P vW (PyProof.Rows.callWith_builtin1 (Calls.spliced_cons (Call_ (jw I n k Cw (PyProof.Rows.callWith_type1 (aI (Y c d s U H _ I h) λus y ⟨Z,z,v,R,O⟩=> ?_) M rfl)))) rfl rfl))
 obtain⟨l,g,e,E,hn,q⟩:=O
 subst e
 cases R with
 | cons r V=>
  cases V
  cases r
  obtain⟨j,rv,S,hz⟩:=v.list E
  have f:j.length=g.length:=by have:=rv.length;rw [Ab1]at this;omega
  have F:=zn (λi=>g.getD i "") g.length
  refine xM (b:=l) (vs:=j.toArray) (ns:=g) (v.ok.hd J) S.isList (by simpa using Xo rv) (by rw [Aa9,f];unfold scanBound;omega) λw tk A W=>Calls.spliced_nil ?_
  have B:j.toArray.size=g.length:=by rw [Aa9];exact f
  rw [B]at A
  obtain⟨o,K,ep,t,G,m,hd,_,_,_,N,e⟩:=A
  have C:Inv X d U z { y with heap:=w,toks:=tk }:=v.kept λb u e=>W b u (Ac e) e
  have D:K.size=iT g:=by unfold iT;omega
  refine call_len_set (s:= { y with heap:=w,toks:=tk }) G m hd N (by omega) ⟨.int (iT g:Nat),z,C.tok _,⟨_,by rw [D]⟩,q⟩
end
open Sem (wp)
abbrev K2:=List (Int ⊕ List Int)
section
variable (prog:Program) (w:World)
inductive xP (h:Heap):K2->List Value->Prop
 | nil:xP h [] []
 | int {i:Int}{t:Tok}{ks:K2}{vs:List Value}:xP h ks vs->xP h (.inl i::ks) (.int i t::vs)
 | tup {l:List Int}{a:Addr}{ks:K2}{vs:List Value}:IsTupleKey (intKind prog w) h l a->xP h ks vs->xP h (.inr l::ks) (.ref a::vs)
end
abbrev WK:=Int×List Int×List Int
def rA (l:List Int):Int:=reduceHash (Builtin.Tuple.tupleHashOf (l.map hashInt))
def uX (k:WK):Int:=reduceHash (Builtin.Tuple.tupleHashOf [hashInt k.1,rA k.2.1,rA k.2.2])
def yk (x:WK×Addr×Value):DictEntry:=⟨uX x.1,.ref x.2.1,x.2.2⟩
noncomputable def DW (a:Addr) (xs:List (WK×Addr×Value)):HO:= .ext λh=>(a==sysModules)=y9/\xs.length<=sizeLine/\(xs.map (·.1)).Nodup/\ ∃o es b,h.get? a=y0 o/\o.ExactDict/\o.data= .dict es b/\es.toList=xs.map yk
section
variable {X:Cx}{y8:List (Addr×Obj)}{U:St}{H:Hp}{s:Shared}{a b:Addr}{k:WK}{xs:List (WK×Addr×Value)}{r:Value}{A:Around}{E:Value->Shared->Prop}
def Cy (I:Inv X y8 U H s):sysModules<s.heap.objs.size:=by
 have h:=(I.mod.glob.keeps I.bk).lt
 exact Ai5 (by decide) h
end
open PySem.AutoSeq1 (wpAny_loadPart')
open MeetsSeq MeetsSeq2 MeetsSeq3 SeqRoads2 PySem.SeqAt
open PySem PySem.Spec PyProof.Rows PyProof.Rows.KTD PyProof.V
def ij:PyData->V
 | .int i=> .int i
 | .str x=> .str x
 | .bool b=> .bl b
 | _=> .az
def sV (hd:flatData d=k9) (h:Flat u d):RelV (ij d) u:=by
 cases d with
 | none=>rw [h.none_inv];rfl
 | bool b=>rw [h.bool_inv];rfl
 | int i=>obtain⟨t,rfl⟩:=h.int_inv;exact⟨t,rfl⟩
 | str x=>obtain⟨t,rfl⟩:=h.str_inv;exact⟨t,rfl⟩
 | list _=>cases hd
 | tuple _=>cases hd
 | dict _=>cases hd
abbrev il (T:List (Str×PyData)):List (Str×Dat):=T.map λp=>(p.1,Dat.flat p.2)
section
variable {k:Str}{h:Heap}{P:Value->Prop}
def rH (e:k=x):datumAt k ((x,d)::T)=y0 d:=if_pos (decide_eq_true e)
def qM (e: ¬k=x):datumAt k ((x,d)::T)=datumAt k T:=if_neg (by simp [e])
theorem oX: ∀(T){d},datumAt k T=y0 d->inKeys k (il T)=k9
 | [],_,q=>by cases q
 | (x,a)::T,d,q=>by
  show(u9 (k=x)||inKeys k (il T))=k9
  by_cases e:k=x
  ·rw [decide_eq_true e];rfl
  ·rw [qM e]at q;rw [oX T q,Bool.or_true]
def pP (q: ∀v,Flat v d->P v):Opened h P (.flat d):=by
 cases d with
 | none=>exact q _ Flat.none
 | bool b=>exact q _ (Flat.bool b)
 | int i=>exact λt=>q _ (Flat.int i t)
 | str x=>exact λt=>q _ (Flat.str x t)
 | list _=>exact q
 | tuple _=>exact q
 | dict _=>exact q
theorem J4: ∀(T),(∀ d v,datumAt k T=y0 d->Flat v d->P v)->EachL h k P (il T)
 | [],_=>trivial
 | (x,d)::T,q=>by
  by_cases e:k=x
  ·exact eachL_hit e (pP λv f=>q d v (rH e) f)
  ·exact eachL_miss e (J4 T λa v hd f=>q a v ((qM e).trans hd) f)
theorem tx : ∀ T,(∀ d v,datumAt k T=y0 d->Flat v d->P v)->(datumAt k T=u0->els)->Each h k P els (il T)
 | [],_,n=>n rfl
 | (x,d)::T,q,n=>by
  by_cases e:k=x
  ·exact each_hit e (pP λv f=>q d v (rH e) f)
  ·exact each_miss e (tx T (λa v hd f=>q a v ((qM e).trans hd) f) λhd=>n ((qM e).trans hd))
end
def hV (K:Aa6) (a:Addr) (T:List (Str×PyData)):Prop:=tabLook flatLooks (λb=>K.lookup b) a T=k9
section
variable {X:Cx}{y8:List (Addr×Obj)}{U:St}{H:Hp}{s:Shared}
def JA (I:Inv X y8 U H s) (b:hV X.K a T):Here s.heap s.heap a (il T):=
 ⟨(tab_of_look (λ_ _ x=>flat_of_looks x) I.b0 b).text,λ_ _ e=>e⟩
def Bg (T) (h: ∀p∈T,flatData p.2=k9):((il T).all λp=>KTD.plain p.2)=true:=by
 rw [List.all_map,Ai9]
 rintro ⟨x,d⟩ a
 have:=h _ a
 cases d<;>first | rfl | cases this
def vc (K:Aa6):R2:=λx y H Q=> ∃a T k d,x= .ref a/\y= .str k/\hV K a T/\(∀ p∈T,flatData p.2=k9)/\datumAt k T=y0 d/\flatData d=k9/\Q (ij d) H
def Ec:ft X (vc X.K):=by
 intro b c g s U H x y v u Q I i o h j
 obtain⟨a,T,k,d,rfl,rfl,n,m,hd,l,q⟩:=h
 cases i
 obtain⟨t,rfl⟩:=o
 refine item_textA (JA I n) (Bg T m) (oX T hd) (J4 T λp w e f=> ?_) j
 rw [hd]at e
 cases e
 exact⟨ij d,H,I.tok _,sV l f,q⟩
def Bq:ny X "dict" (fun x _=> ∃a T,x= .ref a/\hV X.K a T):=by
 intro c s U H x v I r h
 obtain⟨a,T,rfl,b⟩:=h
 cases r
 exact⟨(JA I b).typeIs,(JA I b).noDict⟩
def tY (K:Aa6):V->List V->Hp->VK->Prop:=λx xs H Q=> ∃a T k z,x= .ref a/\xs= [.str k,z]/\hV K a T ∧
 (∀ d,datumAt k T=y0 d->flatData d=k9/\Q (ij d) H)/\(datumAt k T=u0->Q z H)
def vX:gd X "dict.get" (tY X.K):=by
 intro b s U H x p v o Q I g rv h
 obtain⟨a,T,k,z,rfl,rfl,m,c,i⟩:=h
 cases g
 obtain⟨u,w,rfl,j,l⟩:=rF rv
 obtain⟨t,rfl⟩:=j
 exact get2_text (JA I m) (tx T (λd n e f=>⟨ij d,H,I.tok _,sV (c d e).1 f,(c d e).2⟩) λe=>⟨z,H,I.tok _,l,i e⟩)
def AS {i:Nat}(g:X.N[i]? =y0 x) (j:gK X.env.scope x) (I:Inv X y8 U H s) (e:U[i]? =y0 (y0 v)) (q: ∀u,RelV v u->Q u s)
 (hd:(x==("__debug__" :Str))=false) (b:(x==("__classdict__" :Str))=false):wpAny (model X.prog X.w) X.A (eval (.Name x p) X.env) Q E s:=by
 obtain⟨m,h,k⟩:=I.loc
 obtain⟨u,r,l⟩:=k i x v g e j
 have q:=q u r
 obtain⟨a,z⟩ | ⟨a | a,c,f,d⟩:=l
 ·exact wpAny_Name (wpAny_loadName_local I.ok.kind a h z q) hd
 ·exact wpAny_Name (wpAny_loadName_cell I.ok.kind a f d q) hd
 ·exact wpAny_Name (wpAny_loadName_free I.ok.kind a f d q b) hd
noncomputable def kF:V->Option Str
 | .str x=>y0 x
 | .int i=>if i.natAbs.log2<1920 then y0 (Str.ofString (toString i))else u0
 | _=>u0
def gy (U:St):List (Str ⊕ Nat)->Option Str
 | []=>y0 Str.empty
 | .inl x::ps=>(gy U ps).map (x++ ·)
 | .inr i::ps=>(((U[i]?).bind id).bind kF).bind λx=>(gy U ps).map (x++ ·)
def CZ (X:Cx):(Str ⊕ Nat)->Expr->Prop
 | .inl x,e=> ∃j p,e= .Constant (.str x) j p
 | .inr i,e=> ∃x p q,e= .FormattedValue (.Name x p) (-1) none q/\X.N[i]? =some x/\gK X.env.scope x/\(x==("__debug__" :Str))=false/\(x==("__classdict__" :Str))=false
def ZN (X:Cx):List (Str ⊕ Nat)->List Expr->Prop
 | [],es=>es= []
 | p::ps,es=> ∃e r,es=e::r/\CZ X p e/\ZN X ps r
def qS (a b c:Str):a++(b++c)=a++b++c:=congrArg Str.mk (Array.append_assoc ..).symm
def FJ (a):a++Str.empty=a:=congrArg Str.mk (Array.append_empty ..)
def Ao (a):Str.empty++a=a:=congrArg Str.mk (Array.empty_append ..)
theorem jN: ∀(ps) (es) (J t) (s) (Q),ZN X ps es->gy U ps=y0 t->(J++t).length<=sizeLine->Inv X y8 U H s->(∀ s',Inv X y8 U H s'->Q (J++t) s') →
 Joins (model X.prog X.w) X.A X.xe (evalEach es X.env) J Q s
 | [],es,J,t,s,Q,ok,e,b,I,q=>by
  cases ok
  cases e
  have:=q s I
  rwa [FJ]at this
 | .inl x::ps,es,J,t,s,Q,ok,e,b,I,q=>by
  obtain⟨_,r,rfl,⟨j,p,rfl⟩,ok⟩:=ok
  obtain⟨c,k,rfl⟩:=Ad4.mp e
  have m:=qS J x c
  rw [m]at b q
  refine Calls.Constant_str ⟨x,_,rfl,?_,jN ps r (J++x) c _ Q ok k b (I.tok _) q⟩
  have:=strLen_append (J++x) c
  omega
 | .inr i::ps,es,J,t,s,Q,ok,e,b,I,q=>by
  obtain⟨_,r,rfl,⟨x,p,V,rfl,K,N,hd,l⟩,ok⟩:=ok
  obtain⟨y,L,D⟩:=Ac7.mp e
  obtain⟨v,C,a⟩:=Ac7.mp L
  obtain⟨c,k,rfl⟩:=Ad4.mp D
  have m:=qS J y c
  rw [m]at b q
  have n:(J++y).length<=sizeLine:=by rw [strLen_append]at b;omega
  have A:y.length<=sizeLine:=by rw [strLen_append]at n;omega
  have G:U[i]? =y0 (y0 v):=by
   obtain⟨o,R,O⟩:=Ac7.mp C
   rw [R];exact congrArg y0 O
  refine wpAny_FormattedValue_plain (aI (Xu K N hd l y8 s U H (λw M=>w=v/\M=H) I ⟨v,G,rfl,rfl⟩) ?_)
  rintro u S ⟨w,T,g,d,P,F⟩
  subst P
  rw [F]at g
  have fin: ∀tk f,Inv X y8 U H f-> ∃h t,Value.str y tk= .str h t/\(J++h).length<=sizeLine/\Joins (model X.prog X.w) X.A X.xe (evalEach r X.env) (J++h) Q f:=λtk f B=>
   ⟨y,tk,rfl,n,jN ps r (J++y) c f Q ok k b B q⟩
  cases w with
  | str z=>
   cases a
   obtain⟨tk,rfl⟩:=d
   exact wpAny_formatField_str (fin _ _ g) (fin _ _ (g.tok _)) A
  | int j=>
   obtain⟨tk,rfl⟩:=d
   have a:(if j.natAbs.log2<1920 then y0 (Str.ofString (toString j))else u0)=y0 y:=a
   split at a
   ·rename_i E
    cases a
    exact wpAny_formatField_int E (fin _ _ (g.tok _))
   ·cases a
  | _=>cases a
def DL (ok:ZN X ps (d::e2::es)):PE X (.JoinedStr (d::e2::es) pos) (λU H Q=> ∃t,gy U ps=y0 t/\t.length<=sizeLine/\Q (.str t) H):=by
 intro c s U H Q I ⟨t,e,b,q⟩
 have a:=Ao t
 refine wpAny_JoinedStr (jN ps _ Str.empty t s _ ok e (by rw [a];exact b) I λg f=> ?_)
 rw [a]
 exact⟨b,.str t,H,f.tok _,⟨_,rfl⟩,q⟩
def y6:Js X (.type "str") (fun xs H Q=> ∃i:Int,xs= [.int i]/\i.natAbs.log2<1920/\Q (.str (Str.ofString (toString i))) H):=by
 intro a s U H xs d Q I r h
 obtain⟨i,rfl,b,q⟩:=h
 obtain⟨u,rfl,c⟩:=r.one
 obtain⟨t,rfl⟩:=c
 exact PySem.P.str_of_int b ⟨.str _,H,I.tok _,⟨_,rfl⟩,q⟩
def kn:List (Str×Str)->List (Option Expr)->List Expr->Prop
 | [],ks,c=>ks= []/\c= []
 | (x,y)::r,ks,c=> ∃j p e d b a,ks=y0 (.Constant (.str x) j p)::b/\c= .Constant (.str y) e d::a/\kn r b a
theorem sC: ∀ {T}{ks}{vs},kn T ks vs->ks.all (·.isSome)=k9/\ks.length=T.length/\vs.length=T.length
 | [],_,_,⟨rfl,rfl⟩=>⟨rfl,rfl,rfl⟩
 | (x,y)::r,_,_,⟨j,p,g,f,e,b,rfl,rfl,ok⟩=>by
  obtain⟨c,a,d⟩:=sC ok
  exact⟨by simpa using c,by simp [a],by simp [d]⟩
theorem ZQ : ∀ {T}{ks}{vs}{s}{Q},kn T ks vs →
 (∀ i us t,Carries (strKind X.prog X.w) us i->FlatPairs PyData.str i (T.map λp=>(PyData.str p.1,PyData.str p.2))->i.map (·.1)=T.map (·.1)->Q us { s with toks:=t }) →
 wpAny (model X.prog X.w) X.A (evalPairs (pairTrees ks vs X.env pos)) Q X.xe s
 | [],_,_,s,Q,⟨rfl,rfl⟩,q=>pairTrees_nil_walk (q [] [] s.toks trivial .nil rfl)
 | (x,y)::r,_,_,s,Q,⟨j,p,e,d,a,b,rfl,rfl,ok⟩,q=>
  pairTrees_cons_walk (Calls.Constant_str (Calls.Constant_str (ZQ ok λi us t c f m=>q ((x,.str y _)::i) _ t ⟨strKind_is _ _ _ _,rfl,c⟩ (.cons (Flat.str y _) f) (by simp [m]))))
theorem JJ {K:Type} [DecidableEq K]: ∀(more a:List (K×Value)),((a++more).map (·.1)).Nodup->merged a more=a++more
 | [],a,_=>by simp [merged]
 | p::more,a,h=>by
  have e:stored a p.1 p.2=a++ [p]:=by
   unfold stored
   rw [if_neg]
   intro z
   obtain⟨b,c,e⟩:=Al9.mp z
   rw [Ac0,List.nodup_append]at h
   exact h.2.2 b.1 (List.mem_map_of_mem c) p.1 (by simp) (of_decide_eq_true e)
  show merged (stored a p.1 p.2) more=_
  rw [e,JJ more (a++ [p]) (by simpa using h)]
  simp
def Bp {i:Nat}(ok:kn T ks vs) (h:T≠ []) (J:T.length<=15) (D:(T.map (·.1)).Nodup)
 (A:X.N[i]? =some x) (E:gK X.env.scope x) (hd:(x==("__debug__" :Str))=false) (g:(x==("__classdict__" :Str))=false):
 PE X (.Subscript (.Dict ks vs p1) (.Name x p2) pos) (λU H Q=> ∃k y,U[i]? =y0 (y0 (.str k))/\T.lookup k=y0 y/\Q (.str y) H):=by
 intro e s U H Q I ⟨k,y,B,d,q⟩
 obtain⟨F,a2,a3⟩:=sC ok
 have C:=Cy I
 refine Subscript_ (wpAny_Dict_walk F (a2.trans a3.symm) (λz=>h (List.length_eq_zero_iff.mp (by simp_all))) (by lia) (ZQ ok λa K t c f m=>⟨a,c,Heap.DictOf.new _,λr dd w=> ?_⟩))
 have j:Inv X e U H { s with heap:=r,toks:=t+K.length }:=I.kept λb u z=>(w.2 b (Ac3 (Ac z))).trans (Aa8 _ z)
 refine AS A E j B (λu l=> ?_) hd g
 obtain⟨tk,rfl⟩:=l
 rw [JJ a [] (by simp_all),Ad8]at dd
 refine item_tab_any PyProof.V.same_str (strKind_is _ _ _ _) ⟨beq_eq_false_iff_ne.mpr (Ne.symm (Ac3 C)),a,dd,f⟩ (dv:= .str y) ?_ (λv G=> ?_) rfl
 ·clear ok h J D a2 a3 f m
  induction T with
  | nil=>cases d
  | cons p T o=>
   rw [Ab7]at d
   by_cases z:k=p.1
   ·subst z
    rw [beq_self_eq_true]at d
    cases d
    simp [PySem.Spec.lookup,PyProof.V.same_str]
   ·rw [beq_eq_false_iff_ne.mpr z]at d
    have:=o d
    have n: ¬p.1=k:=λq=>z q.symm
    simp [PySem.Spec.lookup,PyProof.V.same_str,n,this]
 ·obtain⟨L,rfl⟩:=G.str_inv
  exact⟨.str y,H,j.tok _,⟨_,rfl⟩,q⟩
end
section
variable {X:Cx}
def uZ:gd X "str.startswith" (fun x vs H Q=> ∃z y:Str,x= .str z/\vs= [.str y]/\Q (.bl (Txt.startswith z y)) H):=by
 intro a s U H x vs v e Q I b rv h
 obtain⟨z,y,rfl,rfl,q⟩:=h
 obtain⟨t,rfl⟩:=b
 obtain⟨u,rfl,c⟩:=rv.one
 obtain⟨d,rfl⟩:=c
 exact SC.startswith ⟨.bl _,H,I,rfl,q⟩
def yd:Js X (.type "int") (fun xs H Q=> ∃ z n,xs= [.str z]/\z.length<=640/\PySem.intText? z=some n/\Q (.int n) H):=by
 intro a s U H xs e Q I r h
 obtain⟨z,n,rfl,d,c,q⟩:=h
 obtain⟨u,rfl,b⟩:=r.one
 obtain⟨t,rfl⟩:=b
 exact PySem.W.KIN.call_text c d ⟨.int n,H,I.tok _,⟨_,rfl⟩,q⟩
end
noncomputable def mi (K:Aa6) (a:Addr):It:=
 ⟨λi H=> ∃xs x,a9 K H a xs/\xs[i]? =y0 x,λi H x H'=> ∃p y,H p=u0/\x= .ref p/\H'=aP H p (.tup [.int (i:Int),y])/\ ∀xs,a9 K H a xs->xs[i]? =y0 y,λi H=> ∃xs,a9 K H a xs/\xs.length=i⟩
def j7 {K:Aa6}(a it e) (m:e≠it):gf P w K (.Tuple elts x1 tp) (mi K a) [e,it] e (λi h=>(∃ J,IsEnum h e it (i:Int) J)/\h.IsListIter it a i) where
 mem:=by simp
 obj:=λi h j b C=>by
  obtain⟨⟨J,q⟩,⟨o,q2,c,d⟩⟩:=j
  rcases Aa.mp C with z | z
  ·subst z
   exact⟨_,q,λv z=>by cases z⟩
  ·rw [Ab8.mp z]
   exact⟨o,q2,λv z=>by rw [d]at z;cases z⟩
 keep:=λi h h' j k=>⟨let ⟨J,q⟩:=j.1; ⟨J,k e (by simp) _ q⟩,let ⟨o,q,r⟩:=j.2; ⟨o,k it (by simp) o q,r⟩⟩
 item:=by
  intro X T hw R W i l s U H E I M j hg
  subst T hw R
  obtain⟨⟨J,A⟩,f⟩:=j
  obtain⟨xs,x,O,Y⟩:=hg
  obtain⟨g,rv,p,hz⟩:=I.list O
  obtain⟨u,hu,ru⟩:=rv.get Y
  have B:=p.isList
  have t:a≠it:=λz=>by
   obtain⟨o,q,c,_⟩:=B
   obtain⟨o',q',G,_⟩:=f
   rw [z,q']at q;cases q
   rw [c]at G;exact absurd G (by decide)
  have V:a≠e:=λz=>by
   obtain⟨o,q,c,_⟩:=B
   rw [z,A]at q;cases q
   exact absurd (show Value.type "enumerate" =Value.type "list" from c) (by decide)
  obtain⟨f0,f1,f2,f3,f4,f5⟩:=M e (by simp)
  obtain⟨L,g1,g2,g3,Z,g5⟩:=M it (by simp)
  have S:=by
   have:=Ac2.mp hu
   simpa using this.1
  have n:X.A.in1.handled=none:=I.ok.hd W
  refine wpAny_pyNext_enum_itemD (Draws.list n it a t g.toArray) A ⟨f,B⟩ S m (by simp [m,Ne.symm V]) λy h1 tk F ho Q hT hsz hk=> ?_
  have ey:y=u:=by
   rw [List.getElem?_toArray]at F
   rw [hu]at F;cases F;rfl
  subst ey
  refine⟨_,rfl,wpAny_letOwnedTupleGo_enum ho λh2 he2 N=> ?_⟩
  have N:=N
  have hep:=Nat.ne_of_gt (Ac A)
  have hn:=I.aR.fresh (Aa7 _)
  have I1:Inv X l U (aP H s.heap.objs.size (.tup [.int (i:Int),x])) { s with heap:=s.heap.push { cls:= .type "tuple",data:= .seq #[.int i tk,y] },toks:=tk+1 }:=by
   refine I.laid (λb o q=>Aa8 _ q) (Aa7 _) ⟨by simp only [Aa0,Af4];rw [sizeLine_eq];decide,[.int i tk,y],.cons ⟨_,rfl⟩ (.cons ru .nil),?_⟩
   exact⟨_,Ab6 s.heap rfl,rfl,rfl,_,rfl⟩
  have D:it<s.heap.objs.size:=by obtain⟨o,q,_⟩:=f;exact Ac q
  have ee:=Ac A
  have I2:=I1.fO (t':=tk+1) (λb o b1 b2 q=>by
   refine(N.2 b b1).trans ?_
   rcases Heap.get?_push_cases (show (s.heap.push { cls:= .type "tuple",data:= .seq #[.int i tk,y] }).get? b=some o from q)with⟨z,z2⟩ | z
   ·rw [z,z2];exact hT
   ·exact hk b o b1 b2 z) (by rw [Xa (Ac3 D)];exact L) (by rw [Xa (Ac3 ee)];exact f0) g1 f1 g3 f3 Z f4 g5 f5
  refine⟨.ref s.heap.objs.size,_,I2,rfl,⟨s.heap.objs.size,x,hn,rfl,rfl,λys F=>by rw [I.cK F O];exact Y⟩,⟨⟨y,by simpa using he2⟩,?_⟩,λb C=> ?_⟩
  ·obtain⟨o,q,r⟩:=Q.1
   exact⟨o,(N.2 it (Ne.symm m)).trans q,r⟩
  ·rcases Aa.mp C with z | z
   ·rw [z,Xa (Ac3 ee)];exact f0
   ·rw [Ab8.mp z,Xa (Ac3 D)];exact L
 done:=by
  intro X T hw R W i l s U H E I M j hg
  subst T hw R
  obtain⟨⟨J,A⟩,f⟩:=j
  obtain⟨xs,O,Y⟩:=hg
  obtain⟨g,rv,p,hz⟩:=I.list O
  have B:s.heap.IsList a g.toArray:=p.isList
  have t:a≠it:=λz=>by
   obtain⟨o,q,c,_⟩:=B
   obtain⟨o',q',G,_⟩:=f
   rw [z,q']at q;cases q
   rw [c]at G;exact absurd G (by decide)
  obtain⟨L,g1,g2,g3,Z,g5⟩:=M it (by simp)
  have hl:=rv.length
  have n:X.A.in1.handled=none:=I.ok.hd W
  have hi:i=g.toArray.size:=by simp;omega
  subst hi
  exact wpAny_pyNext_enum_endD (Draws.list n it a t g.toArray) A ⟨f,B⟩ λh' eb=>⟨rfl,I.turned (λb o C q=>eb b o C q) L g1 g3 Z g5⟩
 self:=λ_ _ _ _ _ j h=>wpAny_pyIter_enum j.1.choose_spec h
def Bv (K:Aa6) (b:TA):TI:=λU H R=>b U H λc H1=> ∃a xs,c= [.ref a]/\a9 K H1 a xs/\R (mi K a) H1
def Z3 (x:Gl X "enumerate") (o:X.mg "enumerate" =none) (B:PA X [a] ta) (m:starEach [a] X.env= [(false,eval a X.env)]:=by rfl):PI X (.Tuple elts x1 tp) (.Call (.Name "enumerate" p) [a] [] pos) (Bv X.K ta):=by
 intro f s U H R I h
 refine Call_ (jw I x o jI (PyProof.Rows.callWith_type1 (aI (B pos f s U H _ I h) λF g ⟨J,C,d,u,n⟩=> ?_) m rfl))
 obtain⟨b,G,e,k,q⟩:=n
 subst e
 cases u with
 | cons r y=>
  cases y
  cases r
  obtain⟨t,rv,w,E⟩:=d.list k
  refine call_enumerate_list w.isList λD j i l A=> ?_
  refine wpAny_pyIter_enum j ?_
  refine⟨g.heap.objs.size+1,[g.heap.objs.size+1,g.heap.objs.size],_,_,C,rfl,d.kept A,j7 b g.heap.objs.size (g.heap.objs.size+1) (Nat.succ_ne_self _),⟨⟨_,by simpa using j⟩,i⟩,λc v=> ?_,q⟩
  rcases Aa.mp v with z | z
  ·rw [z];exact d.c6 (Ad2 _) (d.aR.fresh (Ad2 _))
  ·rw [Ab8.mp z];exact d.c6 (Aa7 _) (d.aR.fresh (Aa7 _))
open PySem PySem.Spec PySem.Calls PySem.W PyProof.Rows
def o5:List Value->Bool
 | []=>y9
 | x::r=>match x with
  | .ref _=>o5 r
  | _=>x::r==sf
def ri (K:Frag) (C:Addr):Bool:=(clsIn K C).any λcd=>o5 cd.mro&&cd.hasDict
noncomputable def EC (K:Frag) (C:Addr):Bool:=match K.lookup C with
 | some ⟨.type "type",_,.cls cd,sl⟩=>(match cd.mro,sl.toList with
  | .ref c::a,[_,_,_,_,y0 (.builtin n),_]=>c==C&&(n== "ValueError.__new__" &&(!cd.hasDel&&(tailIn K sf a&&nsOkIn K cd.ns)))
  | _,_=>y9)
 | _=>y9
structure Hy (K:Frag) (C:Addr) (f:Str):Prop where
 cls:EC K C=k9
 ov:ri K C=k9
 sa:findIn K (.ref C) "__setattr__" =some (some (.builtin "object.__setattr__"))
 no:findIn K (.ref C) f=y0 u0
 kp:keepIn K (.ref C)=k9
structure HD (K:Frag) (f:Str) (fI:Addr) (fd:FuncData) (ps:List Str):Prop where
 ex: ∃x k7 st N n1 n2 p1 p2 p3 p4,hQ K x k7 st fI fd/\ps= [n1,n2]/\N= [n1,n2]/\xy N ps (zm st)/\JE st= [.Assign [.Attribute (.Name n1 p1) f p2] (.Name n2 p3) p4]/\(n1==("__debug__" :Str))=false/\(n2==("__debug__" :Str))=false ∧
  (n1==("__classdict__" :Str))=false/\(n2==("__classdict__" :Str))=false
 bd:Binds K fd ps []
 fn:typeIn K (.ref fI)=y0 (.type "function")
structure pN (K:Frag) (C:Addr) (f:Str):Prop where
 ov:ri K C=k9
 no:findIn K (.ref C) f=y0 u0
 ga:findIn K (.ref C) "__getattribute__" =some (some (.builtin "BaseException.__getattribute__"))
 gh:findIn K (.ref C) "__getattr__" =some none
def dI (a:List Int):HO:= .dK (a.map λk=>(.inl k,.bl k9))
end L2
namespace PyProof.Rows
open PySem PySem.Spec
section
variable {prog:Program}{w:World}{A:Around}{E:Value->Shared->Prop}{s:Shared}
def ZP (o:s.heap.IsTuple l vs.toArray) (d:StrsAre vs ss) (c:vs.length<64)
 (h: ∀ q i,StrsAre q.toList i->i.Perm ss->sortedS i=k9->Q (.ref (s.heap.objs.size+1)) { s with heap:=sortedAll s.heap vs q }):
 wpAny (model prog w) A (call (.builtin "sorted") [.ref l]) Q E s:=by
 refine Calls.call_function_entry kind_sorted plain_sorted entry_sorted (args_sorted1 _) ?_
 refine wpAny_bind (wpAny_pure ?_)
 refine wpAny_bind (XS o ?_ (by rw [sizeLine_eq];omega))
 refine wpAny_bind (wpAny_newList ?_)
 have a:((s.heap.push (seqObj "list" #[] 0)).update s.heap.objs.size (Obj.mapSeq (· ++vs.toArray))).objs.size=s.heap.objs.size+1:=by
  rw [Heap.size_update,size_push']
 have b:(((s.heap.push (seqObj "list" #[] 0)).update s.heap.objs.size (Obj.mapSeq (· ++vs.toArray))).push (seqObj "list" vs.toArray 0)).get? (s.heap.objs.size+1)=some (seqObj "list" vs.toArray 0):=by
  rw [← a];exact Ab6 _ rfl
 rw [a]
 refine wpAny_bind (wpAny_holding (wpAny_call_entry slot_list_sort ⟨_,b,rfl⟩ entry_list_sort (list_sort_treeK strKind_oneLt b d.keysOf (λg f Wk e=>keyKind_strs (by rw [← e];exact d)) c λk r j=>⟨_,rfl,?_⟩) (args_list_sort _)))
 obtain⟨i,n,m,p⟩:=sorted_out_str d r j
 exact wpAny_pure ⟨_,rfl,h _ i n m p⟩
end
end PyProof.Rows
namespace L2
open PySem PySem.Spec PyProof.Rows PySem.Builtin.Str
section
variable {X:Cx}
def ZL:Js X (.builtin "sorted") (fun xs H Q=> ∃p,∃ss:List Str,xs= [.ref p]/\b8 X.K H p (ss.map V.str)/\ss.length<64/\ ∀i,i.Perm ss->sortedS i=true-> ∀l,H l=none->Q (.ref l) (aP H l (.lst (i.map V.str)))):=by
 intro f s U H xs x Q I r h
 obtain⟨p,ss,rfl,k,v,q⟩:=h
 obtain⟨u,rfl,j⟩:=wI r
 cases j
 obtain⟨d,rv,n,g⟩:=I.tuple k
 have c:=rv.length
 rw [Ab1]at c
 refine ZP n (Xo rv) (by omega) λa i t a2 a3=> ?_
 obtain⟨e,m⟩:=sortedAll_at s.heap d a
 have w:i.length<=sizeLine:=by rw [a2.length_eq];rw [Ab1]at g;exact g
 refine⟨.ref (s.heap.objs.size+1),_,I.laid (λb o e=>sortedAll_old e) (Ad2 _) (show aN X.prog X.w _ _ _ (.lst (i.map V.str))from⟨by rw [Ab1];exact w,a.toList,e,qW t,by simpa [seqObj]using m⟩),rfl,q i a2 a3 _ (I.aR.fresh (Ad2 _))⟩
theorem xS : ∀ n i,(∀ j,i<=j->j<i+n->subAt x y j=y9)->forIn (List.range' i n++l) ((#[]:Array Nat),0) (StrLaws.occBody x y hi 1)=forIn l (#[],0) (StrLaws.occBody x y hi 1)
 | 0,i,_=>rfl
 | n+1,i,h=>by
  rw [List.range'_succ,Ae,List.forIn_cons]
  unfold StrLaws.occBody
  rw [if_neg (by rw [h i (Aa7 _) (by omega)];exact λz=>Ab4 z.2)]
  exact xS n (i+1) λj b a=>h j (by omega) (by omega)
theorem w6 {st:Array Nat×Nat}(a: ¬st.1.size<1): ∀l:List Nat,(forIn l st (StrLaws.occBody x y hi 1)).run=st
 | []=>rfl
 | i::l=>by
  rw [List.forIn_cons]
  unfold StrLaws.occBody
  rw [if_neg λz=>a z.1.1.1]
  exact w6 a l
def yT (g:c∉a):occurrences ⟨(a++c::b).toArray⟩ ⟨#[c]⟩ 0 (a++c::b).length 1= [a.length]:=by
 have f: ∀j,0<=j->j<0+a.length->subAt ⟨(a++c::b).toArray⟩ ⟨#[c]⟩ j=false:=λj _ d=>by
  refine beq_eq_false_iff_ne.mpr λz=>g ?_
  have z:=congrArg Al4 z
  simp only [Str.length]at z
  have d:j<a.length:=by omega
  rw [List.extract_toArray,List.toList_toArray,Ah]at z
  rw [List.drop_append_of_le_length (by omega),Ah0 d]at z
  rw [show j+Array.size #[c]-j=1 by simp,Ae,List.take_succ_cons]at z
  injection z with z _
  exact z▸Ak1 d
 have e:subAt ⟨(a++c::b).toArray⟩ ⟨#[c]⟩ a.length=true:=by
  refine beq_iff_eq.mpr ?_
  apply Ai7.mp
  simp [Str.length,Ah]
 rw [StrLaws.occ_eq,show(a++c::b).length+1-0=a.length+(b.length+2)by simp;omega,←List.range'_append_1,xS _ _ f,List.range'_succ,List.forIn_cons]
 unfold StrLaws.occBody
 rw [if_pos ⟨⟨⟨by show 0<1;omega,by omega⟩,by simp [Str.length]⟩,by simpa using e⟩]
 have:=w6 (x:=⟨(a++c::b).toArray⟩) (y:=⟨#[c]⟩) (hi:=(a++c::b).length) (st:=(#[].push (0+a.length),0+a.length+Str.length ⟨#[c]⟩)) (by simp) (List.range' (0+a.length+1) (b.length+1))
 refine(congrArg (λz=>Al4 (Prod.fst z)) this).trans ?_
 simp
def Dh:gd X "str.partition" (fun x vs H Q=> ∃ a b c,x= .str ⟨(a++c::b).toArray⟩/\vs= [.str ⟨#[c]⟩]/\c∉a/\(a++c::b).length<=sizeLine/\ ∀p,H p=none->Q (.ref p) (aP H p (.tup [.str ⟨a.toArray⟩,.str ⟨#[c]⟩,.str ⟨b.toArray⟩]))):=by
 intro d s U H x vs v r Q I g rv h
 obtain⟨a,b,c,rfl,rfl,k,n,q⟩:=h
 obtain⟨t,rfl⟩:=g
 obtain⟨u,rfl,i⟩:=rv.one
 obtain⟨f,rfl⟩:=i
 refine call_meets PySem.F.slot_str_partition (typeIs_str _ _ _) PySem.F.entry_str_partition (PySem.F.args_str_partition_2 _ _) (meets_str_partition _ _ t f rfl (by simpa [Str.length]using n)) ?_
 have e:=yT (b:=b) k
 rw [show Str.length ⟨(a++c::b).toArray⟩=(a++c::b).length from by simp [Str.length],e]
 have m:=I.aR.fresh (Aa7 _)
 refine⟨.ref s.heap.objs.size,_,?_,rfl,q _ m⟩
 refine I.laid (λb o e=>Aa8 _ e) (Aa7 _) ⟨by simp only [Aa0,Af4];rw [sizeLine_eq];decide,[.str ⟨a.toArray⟩ s.toks,.str ⟨#[c]⟩ f,.str ⟨b.toArray⟩ (s.toks+1)],.cons ⟨_,rfl⟩ (.cons ⟨_,rfl⟩ (.cons ⟨_,rfl⟩ .nil)),?_⟩
 have l:strSub ⟨(a++c::b).toArray⟩ 0 a.length=⟨a.toArray⟩:=by
  unfold strSub
  congr 1
  apply Ai7.mp
  simp [Ah]
 have j:strSub ⟨(a++c::b).toArray⟩ (a.length+Str.length ⟨#[c]⟩) (a++c::b).length=⟨b.toArray⟩:=by
  unfold strSub
  congr 1
  apply Ai7.mp
  simp [Str.length,Ah]
  exact Ag4 (by omega)
 refine⟨_,Ab6 s.heap rfl,rfl,rfl,0,?_⟩
 rw [l,j]
def En (e: ∀a b, ¬X.xe a b) (d:PS X a t):PS X (.Try [a] (i::hs) [] [] pos) t:=by
 intro c s U H D I h
 refine wpAny_Try_except (wpAny_execs_cons (wpAny_mono (d c s U H D I h) (λf g z=> ?_) λ_ _ z=>(e _ _ z).elim))
 cases f with
 | next=>exact wpAny_execs_nil (wpAny_execs_nil z)
 | ret u=>exact z
 | brk=>exact z
 | cont=>exact z
end
end L2
set_option genSizeOfSpec false
namespace M
abbrev Tx:=List Nat
def o6: ∃n:Nat,n=1000000:=⟨_,rfl⟩
noncomputable def aW:Nat:=Ag8 o6
def Gc:aW=1000000:=Af6 o6
def rN: ∃n:Int,n=1073741824:=⟨_,rfl⟩
noncomputable def kK:Int:=Ag8 rN
def Ke:kK=1073741824:=Af6 rN
def oi: ∃n:Int,n=2 ^ 62:=⟨_,rfl⟩
noncomputable def fu:Int:=Ag8 oi
def GO:fu=2 ^ 62:=Af6 oi
def tL: ∃n:Int,n=2 ^ 64:=⟨_,rfl⟩
noncomputable def dy:Int:=Ag8 tL
def GR:dy=2 ^ 64:=Af6 tL
def sU: ∃n:Int,n=1000000:=⟨_,rfl⟩
noncomputable def BP:Int:=Ag8 sU
def Kq:BP=1000000:=Af6 sU
def oV: ∃n:Nat,n=2 ^ 64:=⟨_,rfl⟩
noncomputable def k5:Nat:=Ag8 oV
def GM:k5=2 ^ 64:=Af6 oV
inductive D where
 | az
 | bl (b:Bool)
 | int (i:Int)
 | str (s:Tx)
 | tup (xs:List D)
 | lst (xs:List D)
 | ref (r:Nat)
 | exc (c:String) (fs:List (Tx×D))
 | err (c f:String) (d:D)
inductive W where
 | v (d:D)
 | own (xs:List D)
 | bor (xs:List D)
abbrev WK:=Int×List Int×List Int
inductive Cell where
 | lst (xs:List D)
 | gF (ks:List WK)
 | gZ (ks:List Int)
 | obj (c:String) (fs:List (String×D))
abbrev AH:=List Cell
abbrev Sl:=List (Option W)
inductive R (α:Type) where
 | ok (a:α) (h:AH)
 | exc (d:D) (h:AH)
 | fail
def R.bind {b c:Type}:R b->(b->AH->R c)->R c
 | .ok a h,f=>f a h
 | .exc d h,_=> .exc d h
 | .fail,_=> .fail
inductive O where
 | next (Y:Sl) (h:AH)
 | ret (w:W) (h:AH)
 | brk (Y:Sl) (h:AH)
 | cont (Y:Sl) (h:AH)
 | exc (d:D) (h:AH)
 | fail
def O.seq:O->(Sl->AH->O)->O
 | .next Y h,f=>f Y h
 | o,_=>o
def R.cF {b:Type}:R b->(b->AH->O)->O
 | .ok a h,f=>f a h
 | .exc d h,_=> .exc d h
 | .fail,_=> .fail
section
variable {α β:Type}
@[simp] theorem R.aa (a) (h) (f:α->AH->R β):(R.ok a h).bind f=f a h:=rfl
@[simp] theorem R.aA (a) (h) (f:α->AH->O):(R.ok a h).cF f=f a h:=rfl
@[simp] theorem O.b5 (Y) (h) (f):(O.next Y h).seq f=f Y h:=rfl
@[simp] theorem O.d7 (w) (h) (f):(O.ret w h).seq f= .ret w h:=rfl
@[simp] theorem O.fF (d) (h) (f):(O.exc d h).seq f= .exc d h:=rfl
end
inductive Op where
 | add | sub | mul | fdiv | mod | pow | shl | shr | band | bor | bxor
 deriving DecidableEq
inductive Cp where
 | eq | ne | lt | le | gt | ge | mem | cH | nV
 deriving DecidableEq
inductive Ty where
 | az | bool | int | str | list | tuple
 deriving DecidableEq
inductive Mt where
 | join | starts | part
 deriving DecidableEq
inductive Bi where
 | len | int | list | tuple | sum | all | any | sorted | divmod | str | min | max | abs
 deriving DecidableEq
set_option genInjectivity false
mutual
inductive E where
 | var (i:Nat)
 | con (x:String)
 | int (i:Int)
 | bl (b:Bool)
 | str (s:Tx)
 | tup (es:Es)
 | lst (es:Es)
 | bin (o:Op) (a b:E)
 | cmp (o:Cp) (a b:E)
 | chain (o p:Cp) (a b c:E)
 | neg (a:E)
 | not (a:E)
 | and (a b:E)
 | or (a b:E)
 | call (f:String) (es:Es)
 | bi (b:Bi) (es:Es)
 | cu (a:E) (t:Ty)
 | ix (a b:E)
 | sl (a lo hi:E)
 | fi (a lo:E)
 | fb (a hi:E)
 | rev (a:E)
 | comp (tg:List Nat) (one:Bool) (k:Nat) (aC:List Nat) (it:It) (k6:Bool) (c elt:E)
 | share (a:E)
 | c7 (a:E)
 | cL (a:E)
 | cE (m:Mt) (a:E) (es:Es)
 | dG (c:String) (a:E)
 | cx (c:String) (es:Es)
 | ck (kvs:List (Tx×Tx)) (i:Nat)
 | b6 (ps:List (Tx ⊕ Nat))
 | cJ (a:E)
 | aZ (a:E)
 | fld (i:Nat) (c f:String)
 | ah (i:Nat) (c m q:String) (es:Es)
 | make (c q:String) (es:Es)
inductive Es where
 | nil
 | cons (e:E) (es:Es)
inductive It where
 | seq (e:E)
 | aS (a:E)
 | bz (a b:E)
 | rev (e:E)
 | zip (a b:E)
 | enum (e:E)
 | bN (i:Nat)
 | bY (e:E)
end
set_option genInjectivity true
mutual
inductive S where
 | set (i:Nat) (e:E)
 | af (i:Nat) (e:E)
 | fK (is:List Nat) (e:E)
 | dE (i:Nat) (k e:E)
 | bu (o k e:E)
 | app (i:Nat) (e:E)
 | ins (i:Nat) (k e:E)
 | ext (i:Nat) (e:E)
 | freeze (i:Nat)
 | ex (e:E)
 | ret (e:E)
 | iff (c:E) (a b:Ss)
 | fj (n:Nat) (c:E) (b:Ss)
 | for (tg:List Nat) (one:Bool) (it:It) (b:Ss)
 | dX (s:S)
 | bH (i:Nat) (c f:String) (e:E)
 | bC
inductive Ss where
 | nil
 | cons (s:S) (ss:Ss)
end
noncomputable section
mutual
@[simp,reducible] noncomputable def Gs:D->Bool
 | .ref _=>y9
 | .tup xs=>Gf xs
 | .lst xs=>Gf xs
 | .exc _ _=>y9
 | .err _ _ _=>y9
 | _=>k9
@[simp,reducible] noncomputable def Gf:List D->Bool
 | []=>k9
 | x::xs=>Gs x&&Gf xs
end
mutual
@[simp,reducible] noncomputable def dep:D->Nat
 | .tup xs=>GS xs+1
 | .lst xs=>GS xs+1
 | _=>0
@[simp,reducible] noncomputable def GS:List D->Nat
 | []=>0
 | x::xs=>max (dep x) (GS xs)
end
@[reducible] def G8 (a b:D):Bool:=Gs a&&Gs b&&u9 (dep a<150)
mutual
@[simp] noncomputable def res (h:AH):D->D
 | .ref r=>match h[r]? with
  | some (.lst xs)=> .lst xs
  | _=> .ref r
 | .tup xs=> .tup (GL h xs)
 | .lst xs=> .lst (GL h xs)
 | d=>d
@[simp] noncomputable def GL (h:AH):List D->List D
 | []=> []
 | x::xs=>res h x::GL h xs
end
mutual
@[simp] noncomputable def cR:D->D->Bool
 | .az,.az=>k9
 | .bl a,.bl b=>a==b
 | .int i,.int j=>i==j
 | .bl a,.int j=>(a.toNat:Int)==j
 | .int i,.bl b=>i==(b.toNat:Int)
 | .str s,.str t=>s==t
 | .tup xs,.tup ys=>GJ xs ys
 | .lst xs,.lst ys=>GJ xs ys
 | _,_=>y9
@[simp] noncomputable def GJ:List D->List D->Bool
 | [],[]=>k9
 | x::xs,y::ys=>cR x y&&GJ xs ys
 | _,_=>y9
end
def cQ (s:Tx):List D:=s.map λc=> .str [c]
def W.d:W->Option D
 | .v d=>y0 d
 | .own xs=>y0 (.lst xs)
 | .bor _=>u0
def W.arg:W->W
 | .own xs=> .bor xs
 | w=>w
@[simp] theorem W.c8 (d):(W.v d).arg= .v d:=rfl
@[simp] theorem W.fV (xs):(W.own xs).arg= .bor xs:=rfl
@[simp] theorem W.fH (xs):(W.bor xs).arg= .bor xs:=rfl
def W.dd (h:AH):W->D
 | .v d=>res h d
 | .own xs=> .lst (GL h xs)
 | .bor xs=> .lst (GL h xs)
noncomputable def W.bg (h:AH):W->Option (List D)
 | .v (.lst xs)=>y0 xs
 | .own xs=>y0 xs
 | .bor xs=>y0 xs
 | .v (.ref r)=>match h[r]? with
  | some (.lst xs)=>y0 xs
  | _=>u0
 | _=>u0
noncomputable def W.seq? (h:AH):W->Option (List D)
 | .v (.tup xs)=>y0 xs
 | .v (.lst xs)=>y0 xs
 | .own xs=>y0 xs
 | .bor xs=>y0 xs
 | .v (.ref r)=>match h[r]? with
  | some (.lst xs)=>y0 xs
  | _=>u0
 | _=>u0
def R.of {b:Type}(h:AH):Option b->R b
 | some a=> .ok a h
 | none=> .fail
@[simp] abbrev aF (d:D) (h:AH):R W:= .ok (.v d) h
def GW (h:AH):W->Option Bool
 | .v .az=>y0 y9
 | .v (.bl b)=>y0 b
 | .v (.int i)=>y0 (i != 0)
 | .v (.str s)=>if s.length<=aW then y0 (!s.isEmpty)else u0
 | .v (.tup xs)=>y0 (!xs.isEmpty)
 | .v (.lst xs)=>y0 (!xs.isEmpty)
 | .own xs=>y0 (!xs.isEmpty)
 | .bor xs=>y0 (!xs.isEmpty)
 | _=>u0
@[simp] theorem R.ab (h) (a:α):R.of h (y0 a)= .ok a h:=rfl
@[simp] theorem W.cj (d):(W.v d).d=y0 d:=rfl
@[simp] theorem W.f7 (xs):(W.own xs).d=y0 (.lst xs):=rfl
@[simp] theorem W.AJ (h) (d):(W.v d).dd h=res h d:=rfl
@[simp] theorem W.mP (h) (xs):(W.own xs).dd h= .lst (GL h xs):=rfl
@[simp] theorem W.nu (h) (xs):(W.bor xs).dd h= .lst (GL h xs):=rfl
@[simp] theorem W.kq (h) (xs):(W.v (.lst xs)).bg h=y0 xs:=rfl
@[simp] theorem W.fQ (h) (xs):(W.own xs).bg h=y0 xs:=rfl
@[simp] theorem Gn (h) (b):GW h (.v (.bl b))=y0 b:=rfl
noncomputable def yD (i j:Int):Option Int:=
 if 0<=i then(if 0<=j then y0 ((i.toNat &&& j.toNat:Nat):Int)else y0 ((i.toNat-(i.toNat &&& (-j-1).toNat):Nat):Int))else u0
def uR (i j:Int):Option Int:=if 0<=i/\0<=j then y0 ((i.toNat ||| j.toNat:Nat):Int)else u0
def tZ (i j:Int):Option Int:=if 0<=i/\0<=j then y0 ((i.toNat ^^^ j.toNat:Nat):Int)else u0
def Gi (o:Op) (i j:Int):Option Int:=match o with
 | .add=>y0 (i+j)
 | .sub=>y0 (i-j)
 | .mul=>if(-(dy)<i/\i<dy)\/(-(dy)<j/\j<dy)then y0 (i*j)else u0
 | .fdiv=>if 0<j/\j<kK then y0 (i / j)else u0
 | .mod=>if 0<j then y0 (i % j)else u0
 | .pow=>if 0<=j/\j<=BP/\i.natAbs<k5 then y0 (i ^ j.toNat)else u0
 | .shl=>if 0<=j/\j<=BP/\i.natAbs<k5 then y0 (i*2 ^ j.toNat)else u0
 | .shr=>if 0<=j then y0 (i / 2 ^ j.toNat)else u0
 | .band=>yD i j
 | .bor=>uR i j
 | .bxor=>tZ i j
def W.int? :W->Option Int
 | .v (.int i)=>y0 i
 | _=>u0
def W.a0 :W->Option Tx
 | .v (.str s)=>y0 s
 | _=>u0
def W.en :W->Option (List D)
 | .v (.tup s)=>y0 s
 | _=>u0
def KA (xs a:List D) (h:AH):R W:=if xs.length+a.length<=aW then .ok (.own (xs++a)) h else .fail
def Ks (xs:List D) (j:Int) (h:AH):R W:=if -1000<=j/\j<=1000/\xs.length*j.toNat<=aW then .ok (.own (Aa1 j.toNat xs).flatten) h else .fail
def KC (a b:W) (h:AH):R W:=match a.a0,b.a0 with
 | some s,y0 t=>if s.length+t.length<=aW then aF (.str (s++t)) h else .fail
 | _,_=>match a.en,b.en with
  | some xs,y0 ys=>if xs.length+ys.length<=aW then aF (.tup (xs++ys)) h else .fail
  | _,_=>match a.bg h,b.bg h with
   | some xs,y0 ys=>KA xs ys h
   | _,_=> .fail
noncomputable def W.gm (h:AH):W->Option (List D)
 | .own xs=>y0 xs
 | .bor xs=>y0 xs
 | .v (.ref r)=>match h[r]? with
  | some (.lst xs)=>y0 xs
  | _=>u0
 | _=>u0
def KB (a b:W) (h:AH):R W:=match a.a0,b.int? with
 | some s,y0 j=>if 0<=j/\j<=1000/\s.length*j.toNat<=aW then aF (.str (Aa1 j.toNat s).flatten) h else .fail
 | _,_=>match a.gm h,b.int? with
  | some xs,y0 j=>Ks xs j h
  | _,_=> .fail
def GA (o:Op) (a b:W) (h:AH):R W:=match a.int?,b.int? with
 | some i,y0 j=>(R.of h (Gi o i j)).bind λk h=>aF (.int k) h
 | _,_=>match o with
  | .add=>KC a b h
  | .mul=>KB a b h
  | _=> .fail
def inD (x:D) (xs:List D):Bool:=xs.any λy=>cR y x
@[simp,reducible] def flat:D->Bool
 | .az=>k9
 | .bl _=>k9
 | .int _=>k9
 | .str _=>k9
 | _=>y9
def Kv (a b:W) (h:AH):Option Bool:=match b.dd h with
 | .lst ys=>if Gs (a.dd h)&&Gf ys&&u9 (GS ys<140)then y0 (inD (a.dd h) ys)else u0
 | _=>u0
def GU (a b:W) (h:AH):Option Bool:=match a.a0,b.a0 with
 | some s,y0 t=>match s with
  | [c]=>y0 (t.contains c)
  | _=>u0
 | _,_=>match a.d,b.seq? h with
  | some d,y0 xs=>if flat d&&xs.all flat then y0 (inD d xs)else Kv a b h
  | _,_=>u0
noncomputable def Ko (o:Cp) (i j:Int):Option Bool:=match o with
 | .lt=>y0 (u9 (i<j))
 | .le=>y0 (u9 (i<=j))
 | .gt=>y0 (u9 (j<i))
 | .ge=>y0 (u9 (j<=i))
 | _=>u0
def Kr (o:Cp) (i j:Tx):Option Bool:=match o with
 | .lt=>y0 (u9 (i<j))
 | .ge=>y0 (!u9 (i<j))
 | _=>u0
def Kz:W->W->Option Bool
 | .v .az,.v (.bl _)=>y0 y9
 | .v (.bl b),.v (.bl c)=>y0 (b==c)
 | _,_=>u0
def Gw (o:Cp) (a b:W) (h:AH):Option Bool:=match o with
 | .eq=>if G8 (a.dd h) (b.dd h)then y0 (cR (a.dd h) (b.dd h))else u0
 | .ne=>if G8 (a.dd h) (b.dd h)then y0 (!cR (a.dd h) (b.dd h))else u0
 | .mem=>GU a b h
 | .cH=>(GU a b h).map (!·)
 | .nV=>Kz a b
 | o=>match a.int?,b.int? with
  | some i,y0 j=>Ko o i j
  | _,_=>match a.a0,b.a0 with
   | some s,y0 t=>Kr o s t
   | _,_=>u0
noncomputable def dj (n:Nat) (i:Int):Option Nat:=if 0<=i then(if i<n then y0 i.toNat else u0)else if -(n:Int)<=i then y0 (i+n).toNat else u0
def bc {a:Type}(xs:List a) (i:Int):Option a:=(dj xs.length i).bind λj=>xs[j]?
def bI (a b:W) (h:AH):Option D:=match b.int? with
 | some i=>match a.a0 with
  | some s=>if s.length<=aW then(bc s i).map λc=> .str [c]else u0
  | none=>(a.seq? h).bind λxs=>bc xs i
 | none=>u0
def aH (n d:Nat):Option Int->Nat
 | none=>d
 | some v=>if v<0 then(v+n).toNat else min v.toNat n
noncomputable def cut {b:Type}(xs:List b) (a hi:Option Int):List b:=(xs.drop (aH xs.length 0 a)).take (aH xs.length xs.length hi-aH xs.length 0 a)
def eQ (a:W) (b hi:Option Int) (h:AH):R W:=match a.a0 with
 | some s=>if s.length<=aW then aF (.str (cut s b hi)) h else .fail
 | none=>match a.en with
  | some xs=>aF (.tup (cut xs b hi)) h
  | none=>match a.bg h with
   | some xs=> .ok (.own (cut xs b hi)) h
   | none=> .fail
def Kn:List D->Option Int
 | []=>y0 0
 | .int i::r=>(Kn r).map (i+ ·)
 | _::_=>u0
def l7:List D->Option (List Int)
 | []=>y0 []
 | .int i::r=>(l7 r).map (i:: ·)
 | _::_=>u0
def GI:List D->Option (List Tx)
 | []=>y0 []
 | .str s::r=>(GI r).map (s:: ·)
 | _::_=>u0
def Fl:List Int->Option Int
 | []=>u0
 | i::r=>y0 (r.foldl (λa b=>if b>a then b else a) i)
def Fj:List Int->Option Int
 | []=>u0
 | i::r=>y0 (r.foldl (λa b=>if b<a then b else a) i)
def GP (x:Tx):List Tx->List Tx
 | []=> [x]
 | y::ys=>if y<x then y::GP x ys else x::y::ys
def Gg:List Tx->List Tx
 | []=> []
 | x::xs=>GP x (Gg xs)
def GF (s:Tx):List Tx->Tx
 | []=> []
 | [x]=>x
 | x::y::r=>x++s++GF s (y::r)
def G9:List D->Option (List Bool)
 | []=>y0 []
 | .bl b::r=>(G9 r).map (b:: ·)
 | _::_=>u0
def iL (b:Bi) (w:W) (h:AH):R W:=match b with
 | .len=>match w.a0 with
  | some s=>if s.length<=aW then aF (.int s.length) h else .fail
  | none=>(R.of h (w.seq? h)).bind λxs h=>aF (.int xs.length) h
 | .int=>match w with
  | .v (.int i)=>aF (.int i) h
  | .v (.bl b)=>aF (.int (b.toNat:Int)) h
  | _=> .fail
 | .list=>(R.of h (w.seq? h)).bind λxs h=> .ok (.own xs) h
 | .tuple=>(R.of h (w.seq? h)).bind λxs h=>aF (.tup xs) h
 | .sum=>(R.of h ((w.bg h).bind λxs=>if xs.length<=aW then Kn xs else u0)).bind λi h=>aF (.int i) h
 | .all=>(R.of h ((w.bg h).bind G9)).bind λbs h=>aF (.bl (bs.all id)) h
 | .any=>(R.of h ((w.bg h).bind G9)).bind λbs h=>aF (.bl (bs.any id)) h
 | .max=>(R.of h (((w.bg h).bind l7).bind Fl)).bind λi h=>aF (.int i) h
 | .min=>(R.of h (((w.bg h).bind l7).bind Fj)).bind λi h=>aF (.int i) h
 | .sorted=>(R.of h ((w.bg h).bind GI)).bind λts h=>if ts.length<64 then .ok (.own ((Gg ts).map .str)) h else .fail
 | _=> .fail
noncomputable def lO (m:Mt) (x:W) (h:AH):Bool:=match m with
 | .join=>x.a0.isSome
 | .starts=>x.a0.isSome
 | .part=>x.a0.isSome
@[simp] theorem uk (s) (h):lO .join (.v (.str s)) h=true:=rfl
@[simp] theorem uh (s) (h):lO .starts (.v (.str s)) h=true:=rfl
@[simp] theorem yx (s) (h):lO .part (.v (.str s)) h=true:=rfl
def Kg (c:Nat):Tx->Option (Tx×Tx)
 | []=>u0
 | x::s=>if x=c then y0 ([],s)else(Kg c s).map λp=>(x::p.1,p.2)
def GZ (s t:Tx):Option D:=match t with
 | [c]=>(Kg c s).map λp=> .tup [.str p.1,.str [c],.str p.2]
 | _=>u0
def GQ (s t:Tx):Option Bool:=match t with
 | [c]=>y0 (u9 (s.head? =y0 c))
 | _=>u0
def GT:List Tx->List Tx->Nat
 | _,[]=>0
 | a,x::xs=>(if a.any (· ==x)then 0 else 1)+GT (a++ [x]) xs
def GN:Nat->List D->List D
 | _,[]=> []
 | i,d::ds=> .tup [.int (i:Int),d]::GN (i+1) ds
def ly (m:Mt) (x:W) (ws:List W) (h:AH):R W:=match m,ws with
 | .join,[w]=>(R.of h x.a0).bind λs h=>(R.of h ((w.bg h).bind GI)).bind λts h=>if(GF s ts).length<=aW/\ts.length<=aW/\s.length<=aW then aF (.str (GF s ts)) h else .fail
 | .part,[w]=>(R.of h x.a0).bind λs h=>(R.of h w.a0).bind λt h=>(R.of h (GZ s t)).bind λd h=>if s.length<=aW then aF d h else .fail
 | .starts,[w]=>(R.of h x.a0).bind λs h=>(R.of h w.a0).bind λt h=>(R.of h (GQ s t)).bind λb h=>aF (.bl b) h
 | _,_=> .fail
def yQ (b:Bi) (i j:Int) (h:AH):R W:=match b with
 | .divmod=>if 0<j/\j<kK then aF (.tup [.int (i / j),.int (i % j)]) h else .fail
 | .min=>aF (.int (if j<i then j else i)) h
 | .max=>aF (.int (if j>i then j else i)) h
 | _=> .fail
def cU (b:Bi) (ws:List W) (h:AH):R W:=match ws with
 | [w]=>iL b w h
 | [v,w]=>(R.of h v.int?).bind λi h=>(R.of h w.int?).bind λj h=>yQ b i j h
 | _=> .fail
@[simp] theorem Gy (o) (i j) (h):GA o (.v (.int i)) (.v (.int j)) h=(R.of h (Gi o i j)).bind λk h=>aF (.int k) h:=rfl
@[simp] theorem Xg (i j):Gi .add i j=y0 (i+j):=rfl
@[simp] theorem xn (i j):Gi .sub i j=y0 (i-j):=rfl
@[simp] theorem Qb (s u) (h):GA .add (.v (.str s)) (.v (.str u)) h=if s.length+u.length<=aW then aF (.str (s++u)) h else .fail:=rfl
@[simp] theorem Xw (s u) (h):GA .add (.v (.tup s)) (.v (.tup u)) h=if s.length+u.length<=aW then aF (.tup (s++u)) h else .fail:=rfl
@[simp] theorem Hq (s u) (h):GA .add (.v (.lst s)) (.v (.lst u)) h=if s.length+u.length<=aW then .ok (.own (s++u)) h else .fail:=rfl
@[simp] theorem mQ (s u) (h):GA .add (.v (.lst s)) (.own u) h=if s.length+u.length<=aW then .ok (.own (s++u)) h else .fail:=rfl
@[simp] theorem Fm (s u) (h):GA .add (.v (.lst s)) (.bor u) h=if s.length+u.length<=aW then .ok (.own (s++u)) h else .fail:=rfl
@[simp] theorem BW (s u) (h):GA .add (.own s) (.v (.lst u)) h=if s.length+u.length<=aW then .ok (.own (s++u)) h else .fail:=rfl
@[simp] theorem QT (s u) (h):GA .add (.own s) (.own u) h=if s.length+u.length<=aW then .ok (.own (s++u)) h else .fail:=rfl
@[simp] theorem Jm (i j) (h):Gw .lt (.v (.int i)) (.v (.int j)) h=y0 (u9 (i<j)):=rfl
@[simp] theorem yl (i j) (h):Gw .le (.v (.int i)) (.v (.int j)) h=y0 (u9 (i<=j)):=rfl
@[simp] theorem XJ (i j) (h):Gw .gt (.v (.int i)) (.v (.int j)) h=y0 (u9 (j<i)):=rfl
@[simp] theorem Hs (a b) (h):Gw .eq a b h=if G8 (a.dd h) (b.dd h)then y0 (cR (a.dd h) (b.dd h))else none:=rfl
@[simp] theorem Dk (a b) (h):Gw .ne a b h=if G8 (a.dd h) (b.dd h)then y0 (!cR (a.dd h) (b.dd h))else none:=rfl
@[simp] theorem int?_int (i):(W.v (.int i)).int? =y0 i:=rfl
@[simp] theorem len_str (s) (h):cU .len [.v (.str s)] h=if s.length<=aW then aF (.int s.length) h else .fail:=rfl
@[simp] theorem tE (s) (h):cU .len [.v (.tup s)] h=aF (.int s.length) h:=rfl
@[simp] theorem sE (s) (h):cU .len [.v (.lst s)] h=aF (.int s.length) h:=rfl
@[simp] theorem int_int (i) (h):cU .int [.v (.int i)] h=aF (.int i) h:=rfl
@[simp] theorem F8 (b) (h):cU .int [.v (.bl b)] h=aF (.int (b.toNat:Int)) h:=rfl
@[simp] theorem Cc (s) (h):cU .list [.v (.tup s)] h= .ok (.own s) h:=rfl
@[simp] theorem vk (s) (h):cU .list [.v (.lst s)] h= .ok (.own s) h:=rfl
@[simp] theorem FI (s) (h):cU .list [.bor s] h= .ok (.own s) h:=rfl
@[simp] theorem Hf (s) (h):cU .tuple [.v (.tup s)] h=aF (.tup s) h:=rfl
@[simp] theorem wG (s) (h):cU .tuple [.own s] h=aF (.tup s) h:=rfl
@[simp] theorem D0 (s) (h):cU .sum [.own s] h=(R.of h (if s.length<=aW then Kn s else u0)).bind λi h=>aF (.int i) h:=rfl
@[simp] theorem xC (s) (i) (h):bI (.v (.str s)) (.v (.int i)) h=if s.length<=aW then(bc s i).map λc=> .str [c]else none:=rfl
@[simp] theorem au (s) (i) (h):bI (.v (.tup s)) (.v (.int i)) h=bc s i:=rfl
@[simp] theorem lZ (s) (i) (h):bI (.v (.lst s)) (.v (.int i)) h=bc s i:=rfl
@[simp] theorem wv (s) (i) (h):bI (.own s) (.v (.int i)) h=bc s i:=rfl
@[simp] theorem tm (s) (lo hi) (h):eQ (.v (.lst s)) lo hi h= .ok (.own (cut s lo hi)) h:=rfl
@[simp] theorem yL (s) (lo hi) (h):eQ (.bor s) lo hi h= .ok (.own (cut s lo hi)) h:=rfl
abbrev dr:=List (String×String)
noncomputable def Ku (a:dr):Nat->String->List String
 | 0,_=> []
 | n+1,c=>c::match a.lookup c with
  | some b=>Ku a n b
  | none=> []
noncomputable def DN:W->Option Ty
 | .v .az=>y0 .az
 | .v (.bl _)=>y0 .bool
 | .v (.int _)=>y0 .int
 | .v (.str _)=>y0 .str
 | .v (.tup _)=>y0 .tuple
 | .v (.lst _)=>y0 .list
 | .own _=>y0 .list
 | .bor _=>y0 .list
 | .v (.ref _)=>u0
 | .v (.exc _ _)=>u0
 | .v (.err _ _ _)=>u0
def Ty.le:Ty->Ty->Bool
 | .bool,.int=>k9
 | a,b=>u9 (a=b)
def cu (t:Ty) (w:W):Option Bool:=(DN w).map λu=>u.le t
@[simp] theorem tK (t) (s):cu t (.v (.str s))=y0 (Ty.le .str t):=rfl
@[simp] theorem Ty.d3 (t):Ty.le t t=true:=by cases t<;>rfl
@[simp] def Gm:Sl->Nat->Option W
 | [],_=>u0
 | x::_,0=>x
 | _::r,n+1=>Gm r n
@[simp] def GD:Sl->Nat->W->Sl
 | [],_,_=> []
 | _::r,0,w=>y0 w::r
 | x::r,n+1,w=>x::GD r n w
def Gp (Y:Sl) (i:Nat):Option W:=match Gm Y i with
 | some (.own xs)=>y0 (.bor xs)
 | o=>o
@[simp] theorem GY (e:Gm Y i=y0 (.own xs)):Gp Y i=y0 (.bor xs):=by simp [Gp,e]
@[simp] theorem Kl (e:Gm Y i=y0 (.v d)):Gp Y i=y0 (.v d):=by simp [Gp,e]
@[simp] theorem G7 (e:Gm Y i=y0 (.bor xs)):Gp Y i=y0 (.bor xs):=by simp [Gp,e]
@[simp] noncomputable def aM:List Nat->List D->Sl->Option Sl
 | [],[],Y=>y0 Y
 | i::is,d::ds,Y=>aM is ds (GD Y i (.v d))
 | _,_,_=>u0
def Gz (tg:List Nat) (one:Bool) (d:D) (Y:Sl):Option Sl:=match one with
 | true=>match tg with
  | [i]=>y0 (GD Y i (.v d))
  | _=>u0
 | false=>match d with
  | .tup ds=>aM tg ds Y
  | _=>u0
noncomputable def Gx (step:D->AH->R (Option D)):List D->AH->R (List D)
 | [],h=> .ok [] h
 | d::ds,h=>match step d h with
  | .ok o h1=>match Gx step ds h1 with
   | .ok r h2=> .ok (match o with | some x=>x::r | none=>r) h2
   | _=> .fail
  | _=> .fail
structure Fx where
 call:String->List W->AH->R W
 cl:dr
 con:List (String×D)
noncomputable def GK (h:AH):Option W->Option (Nat×String×List (String×D))
 | some (.v (.ref r))=>match h[r]? with
  | some (.obj c fs)=>y0 (r,c,fs)
  | _=>u0
 | _=>u0
noncomputable def aY (f:String) (d:D):List (String×D)->List (String×D)
 | []=> [(f,d)]
 | (g,x)::r=>if g=f then(g,d)::r else(g,x)::aY f d r
def aZ (i:Int):Tx:=(toString i).toList.map Char.toNat
def Kp:W->Option Tx
 | .v (.str s)=>y0 s
 | .v (.int i)=>if 0<=i/\i<1000 then y0 (aZ i)else u0
 | _=>u0
@[simp] theorem zq (s):Kp (.v (.str s))=y0 s:=rfl
@[simp] theorem C6 (i):Kp (.v (.int i))=if 0<=i/\i<1000 then y0 (aZ i)else none:=rfl
noncomputable def Kx (w:W) (h:AH):R W:=match w with
 | .v (.int i)=>if 0<=i/\i<1000 then aF (.str (aZ i)) h else .fail
 | _=> .fail
@[simp] theorem XZ (i) (h):Kx (.v (.int i)) h=if 0<=i/\i<1000 then aF (.str (aZ i)) h else .fail:=rfl
def lH (s:Tx):Option Nat:=(Ac4 100).find? λn=>u9 (aZ (n:Int)=s)
def Ky (w:W) (h:AH):R W:=match w with
 | .v (.str s)=>(R.of h (lH s)).bind λn h=>aF (.int (n:Int)) h
 | _=> .fail
@[simp] theorem Fv (s) (h):Ky (.v (.str s)) h=(R.of h (lH s)).bind λn h=>aF (.int (n:Int)) h:=rfl
def mq:W->Option (List D)
 | .v (.lst xs)=>y0 xs
 | .own xs=>y0 xs
 | _=>u0
def kW:W->Option (List D)
 | .v (.lst xs)=>y0 xs
 | .bor xs=>y0 xs
 | _=>u0
noncomputable def Kw (T:List (Tx×D)) (w:W) (h:AH):R W:=match w with
 | .v (.str k)=>match T.lookup k with
  | some d=>if flat d then aF d h else .fail
  | none=> .fail
 | _=> .fail
noncomputable def Kb (T:List (Tx×D)) (ws:List W) (h:AH):R W:=match ws with
 | [.v (.str k),.v z]=>match T.lookup k with
  | some d=>if flat d then aF d h else .fail
  | none=>if flat z then aF z h else .fail
 | _=> .fail
noncomputable def Ka (Y:Sl):List (Tx ⊕ Nat)->Option Tx
 | []=>y0 []
 | .inl s::ps=>(Ka Y ps).map (s++ ·)
 | .inr i::ps=>((Gm Y i).bind Kp).bind λt=>(Ka Y ps).map (t++ ·)
@[simp] theorem Zp (Y):Ka Y []=y0 []:=rfl
@[simp] theorem xG (Y) (s) (ps):Ka Y (.inl s::ps)=(Ka Y ps).map (s++ ·):=rfl
@[simp] theorem WD (Y) (i) (ps):Ka Y (.inr i::ps)=((Gm Y i).bind Kp).bind λt=>(Ka Y ps).map (t++ ·):=rfl
def Kh (o:Option Tx) (h:AH):R W:=match o with
 | some t=>if t.length<=aW then aF (.str t) h else .fail
 | none=> .fail
@[simp] theorem Wy (t) (h):Kh (y0 t) h=if t.length<=aW then aF (.str t) h else .fail:=rfl
noncomputable def Kd (T:List (Tx×Tx)) (o:Option W) (h:AH):R W:=match o with
 | some (.v (.str k))=>match T.lookup k with
  | some t=>aF (.str t) h
  | none=> .fail
 | _=> .fail
mutual
@[simp] noncomputable def eval (F:Fx):E->Sl->AH->R W
 | .var i,Y,h=>match Gp Y i with
  | some w=> .ok w h
  | none=> .fail
 | .con x,_,h=>match F.con.lookup x with
  | some d=>aF d h
  | none=> .fail
 | .int i,_,h=>aF (.int i) h
 | .bl b,_,h=>aF (.bl b) h
 | .str s,_,h=>aF (.str s) h
 | .tup es,Y,h=>(Gk F es Y h).bind λds h=>aF (.tup ds) h
 | .lst es,Y,h=>(Gk F es Y h).bind λds h=> .ok (.own ds) h
 | .bin o a b,Y,h=>(eval F a Y h).bind λx h=>(eval F b Y h).bind λy h=>GA o x y h
 | .cmp o a b,Y,h=>(eval F a Y h).bind λx h=>(eval F b Y h).bind λy h=>(R.of h (Gw o x y h)).bind λc h=>aF (.bl c) h
 | .chain o p a b c,Y,h=>(eval F a Y h).bind λx h=>(eval F b Y h).bind λy h=>(R.of h (Gw o x y h)).bind λt h=>match t with
  | true=>(eval F c Y h).bind λz h=>(R.of h (Gw p y z h)).bind λc h=>aF (.bl c) h
  | false=>aF (.bl y9) h
 | .neg a,Y,h=>(eval F a Y h).bind λx h=>(R.of h x.int?).bind λi h=>aF (.int (-i)) h
 | .not a,Y,h=>(eval F a Y h).bind λx h=>(R.of h (GW h x)).bind λc h=>aF (.bl (!c)) h
 | .and a b,Y,h=>(eval F a Y h).bind λx h=>(R.of h (GW h x)).bind λc h=>match c with
  | true=>eval F b Y h
  | false=> .ok x h
 | .or a b,Y,h=>(eval F a Y h).bind λx h=>(R.of h (GW h x)).bind λc h=>match c with
  | true=> .ok x h
  | false=>eval F b Y h
 | .call f es,Y,h=>(Gj F es Y h).bind λws h=>F.call f (ws.map W.arg) h
 | .bi b es,Y,h=>(Gj F es Y h).bind λws h=>cU b ws h
 | .cu a t,Y,h=>(eval F a Y h).bind λx h=>(R.of h (cu t x)).bind λc h=>aF (.bl c) h
 | .ix a b,Y,h=>(eval F a Y h).bind λx h=>(eval F b Y h).bind λy h=>(R.of h (bI x y h)).bind λd h=>aF d h
 | .sl a lo hi,Y,h=>(eval F a Y h).bind λx h=>(eval F lo Y h).bind λl h=>(R.of h l.int?).bind λl h=>(eval F hi Y h).bind λu h=>(R.of h u.int?).bind λu h=>eQ x (y0 l) (y0 u) h
 | .fi a lo,Y,h=>(eval F a Y h).bind λx h=>(eval F lo Y h).bind λl h=>(R.of h l.int?).bind λl h=>eQ x (y0 l) u0 h
 | .fb a hi,Y,h=>(eval F a Y h).bind λx h=>(eval F hi Y h).bind λu h=>(R.of h u.int?).bind λu h=>eQ x u0 (y0 u) h
 | .rev a,Y,h=>(eval F a Y h).bind λx h=>(R.of h (x.bg h)).bind λxs h=> .ok (.own xs.reverse) h
 | .comp tg one k aC it k6 c elt,Y,h=>(Gv F it Y h).bind λds h=>
  if ds.length<=aW then
   (Gx (λd h=>match Gz tg one d (Aa1 k u0++aC.map λj=>Gp Y j)with
     | none=> .fail
     | some Y'=>(if k6 then(eval F c Y' h).bind λx h=>R.of h (GW h x)else .ok k9 h).bind λb h=>match b with
      | true=>(eval F elt Y' h).bind λy h=>(R.of h y.d).bind λy h=> .ok (y0 y) h
      | false=> .ok u0 h) ds h).bind λys h=> .ok (.own ys) h
  else .fail
 | .share a,Y,h=>(eval F a Y h).bind λx h=>match x with
  | .own xs=>if Gf xs then aF (.ref h.length) (h++ [.lst xs])else .fail
  | _=> .fail
 | .c7 a,Y,h=>(eval F a Y h).bind λx h=>(R.of h ((x.bg h).bind GI)).bind λts h=>if ts.length<1000 then aF (.int ((GT [] ts:Nat):Int)) h else .fail
 | .cL a,Y,h=>(eval F a Y h).bind λx h=>(R.of h (x.en.bind GI)).bind λts h=>if ts.length<64 then .ok (.own ((Gg ts).map .str)) h else .fail
 | .cE m a es,Y,h=>(eval F a Y h).bind λx h=>if lO m x h then(Gj F es Y h).bind λws h=>ly m x ws h else .fail
 | .dG c a,Y,h=>match F.con.lookup c with
  | some (.exc _ (r::T))=>(eval F a Y h).bind λw h=>Kw (r::T) w h
  | _=> .fail
 | .cx c es,Y,h=>match F.con.lookup c with
  | some (.exc _ (r::T))=>(Gj F es Y h).bind λws h=>Kb (r::T) ws h
  | _=> .fail
 | .ck T i,Y,h=>Kd T (Gm Y i) h
 | .b6 ps,Y,h=>Kh (Ka Y ps) h
 | .cJ a,Y,h=>(eval F a Y h).bind λw h=>Kx w h
 | .aZ a,Y,h=>(eval F a Y h).bind λw h=>Ky w h
 | .fld i c f,Y,h=>match GK h (Gm Y i)with
  | some (_,c',fs)=>if c'=c then(R.of h (fs.lookup f)).bind λd h=>aF d h else .fail
  | none=> .fail
 | .ah i c m q es,Y,h=>match GK h (Gm Y i)with
  | some (r,c',fs)=>if c'=c/\(fs.lookup m).isNone=k9 then(Gj F es Y h).bind λws h=>F.call q (.v (.ref r)::ws.map W.arg) h else .fail
  | none=> .fail
 | .make c q es,Y,h=>(Gj F es Y h).bind λws h=>(F.call q (.v (.ref h.length)::ws.map W.arg) (h++ [.obj c []])).bind λw h'=>match w with
  | .v .az=>aF (.ref h.length) h'
  | _=> .fail
@[simp] noncomputable def Gj (F:Fx):Es->Sl->AH->R (List W)
 | .nil,_,h=> .ok [] h
 | .cons e es,Y,h=>(eval F e Y h).bind λw h=>(Gj F es Y h).bind λws h=> .ok (w::ws) h
@[simp] noncomputable def Gk (F:Fx):Es->Sl->AH->R (List D)
 | .nil,_,h=> .ok [] h
 | .cons e es,Y,h=>(eval F e Y h).bind λw h=>(R.of h w.d).bind λd h=>(Gk F es Y h).bind λds h=> .ok (d::ds) h
@[simp] noncomputable def Gv (F:Fx):It->Sl->AH->R (List D)
 | .seq e,Y,h=>(eval F e Y h).bind λw h=>match w with
  | .v (.str s)=> .ok (cQ s) h
  | .v (.tup xs)=> .ok xs h
  | .v (.lst xs)=> .ok xs h
  | .own xs=> .ok xs h
  | .bor xs=> .ok xs h
  | _=> .fail
 | .aS a,Y,h=>(eval F a Y h).bind λw h=>(R.of h w.int?).bind λn h=>if -(fu)<=n/\n<fu then .ok ((Ac4 n.toNat).map λ(i:Nat)=> .int (i:Int)) h else .fail
 | .bz a b,Y,h=>(eval F a Y h).bind λw h=>(R.of h w.int?).bind λi h=>(eval F b Y h).bind λw h=>(R.of h w.int?).bind λj h=>
  if(-(fu)<=i/\i<fu)/\(-(fu)<=j/\j<fu)then .ok ((Ac4 (j-i).toNat).map λ(k:Nat)=> .int (i+(k:Int))) h else .fail
 | .bY e,Y,h=>(eval F e Y h).bind λw h=>(R.of h (mq w)).bind λxs h=> .ok (GN 0 xs) h
 | .bN i,Y,h=>(R.of h ((Gm Y i).bind kW)).bind λxs h=> .ok (GN 0 xs) h
 | .rev e,Y,h=>(eval F e Y h).bind λw h=>match w with
  | .v (.lst xs)=> .ok xs.reverse h
  | .own xs=> .ok xs.reverse h
  | .bor xs=> .ok xs.reverse h
  | _=> .fail
 | .enum e,Y,h=>(eval F e Y h).bind λw h=>match w with
  | .v (.tup xs)=> .ok (GN 0 xs) h
  | _=> .fail
 | .zip a b,Y,h=>(eval F a Y h).bind λx h=>(eval F b Y h).bind λy h=>match x,y with
  | .own xs,.v (.tup ys)=> .ok ((xs.zip ys).map λp=> .tup [p.1,p.2]) h
  | _,_=> .fail
end
noncomputable def lb:W->Option (List D)
 | .v (.str s)=>y0 (cQ s)
 | .v (.tup xs)=>y0 xs
 | .v (.lst xs)=>y0 xs
 | .own xs=>y0 xs
 | _=>u0
noncomputable def kH:W->Option (List D)
 | .v (.str s)=>y0 (cQ s)
 | .v (.tup xs)=>y0 xs
 | .v (.lst xs)=>y0 xs
 | .bor xs=>y0 xs
 | _=>u0
def D4:W->Option (List D)
 | .v (.lst xs)=>y0 xs.reverse
 | .own xs=>y0 xs.reverse
 | _=>u0
def FG:W->Option (List D)
 | .v (.lst xs)=>y0 xs.reverse
 | .bor xs=>y0 xs.reverse
 | _=>u0
@[simp] theorem Km (xs):lb (.v (.tup xs))=y0 xs:=rfl
@[simp] theorem Ki (xs):lb (.v (.lst xs))=y0 xs:=rfl
@[simp] theorem GV (xs):lb (.own xs)=y0 xs:=rfl
@[simp] theorem Kf (xs):kH (.v (.tup xs))=y0 xs:=rfl
@[simp] theorem Kk (xs):kH (.v (.lst xs))=y0 xs:=rfl
@[simp] theorem Kj (xs):kH (.bor xs)=y0 xs:=rfl
@[simp] def GE:E->Option Nat
 | .var i=>y0 i
 | _=>u0
@[simp] def GC (F:Fx) (it:It) (Y:Sl) (h:AH):R (List D):=match it with
 | .seq e=>match GE e with
  | some i=>R.of h ((Gm Y i).bind kH)
  | none=>(eval F e Y h).bind λw h=>R.of h (lb w)
 | .rev e=>match GE e with
  | some i=>R.of h ((Gm Y i).bind FG)
  | none=>(eval F e Y h).bind λw h=>R.of h (D4 w)
 | it=>Gv F it Y h
noncomputable def GB (b:D->Sl->Option Sl) (a:Sl->AH->O):List D->Sl->AH->O
 | [],Y,h=> .next Y h
 | d::ds,Y,h=>match b d Y with
  | none=> .fail
  | some e=>match a e h with
   | .next c h2=>GB b a ds c h2
   | .cont c h2=>GB b a ds c h2
   | .brk c h2=> .next c h2
   | o=>o
noncomputable def GH (c:Sl->AH->R Bool) (a:Sl->AH->O):Nat->Sl->AH->O
 | 0,_,_=> .fail
 | n+1,Y,h=>(c Y h).cF λb h1=>match b with
  | false=> .next Y h1
  | true=>match a Y h1 with
   | .next d h2=>GH c a n d h2
   | .cont d h2=>GH c a n d h2
   | .brk d h2=> .next d h2
   | o=>o
def Gr (F:Fx) (e:E) (Y:Sl) (h:AH):R Bool:=(eval F e Y h).bind λx h=>R.of h (GW h x)
def rD:O->O
 | .exc _ _=> .fail
 | o=>o
def Kt (w b a:W) (Y:Sl) (h:AH):O:=match w,b,a with
 | .v d,.v (.ref r),.v (.int j)=>match h[r]? with
  | some (.lst xs)=>match dj xs.length j with
   | some n=>if flat d then .next Y (h.set r (.lst (xs.set n d)))else .fail
   | none=> .fail
  | _=> .fail
 | _,_,_=> .fail
mutual
@[simp] noncomputable def exec (F:Fx):S->Sl->AH->O
 | .set i e,Y,h=>(eval F e Y h).cF λw h=>match w with
  | .bor _=> .fail
  | w=> .next (GD Y i w) h
 | .af i e,Y,h=>(eval F e Y h).cF λw h=>match w.d with
  | some d=> .next (GD Y i (.v d)) h
  | none=> .fail
 | .fK is e,Y,h=>(eval F e Y h).cF λw h=>match w with
  | .v (.tup ds)=>match aM is ds Y with
   | some Y'=> .next Y' h
   | none=> .fail
  | _=> .fail
 | .dE i k e,Y,h=>(eval F e Y h).cF λw h=>match Gm Y i with
  | some (.own xs)=>(eval F k Y h).cF λkw h=>match w,kw with
   | .v d,.v (.int j)=>if flat d then(match dj xs.length j with
    | some n=> .next (GD Y i (.own (xs.set n d))) h
    | none=> .fail)else .fail
   | _,_=> .fail
  | _=> .fail
 | .bu o k e,Y,h=>(eval F e Y h).cF λw h=>(eval F o Y h).cF λow h=>(eval F k Y h).cF λkw h=>Kt w ow kw Y h
 | .app i e,Y,h=>match Gm Y i with
  | some (.own xs)=>(eval F e Y h).cF λw h=>match w.d with
   | some d=>if xs.length<aW then .next (GD Y i (.own (xs++ [d]))) h else .fail
   | none=> .fail
  | _=> .fail
 | .ins i k e,Y,h=>match Gm Y i with
  | some (.own xs)=>(eval F k Y h).cF λkw h=>(eval F e Y h).cF λw h=>match kw,w.d with
   | .v (.int j),y0 d=>if xs.length<aW/\0<=j/\j<=xs.length then .next (GD Y i (.own (xs.take j.toNat++d::xs.drop j.toNat))) h else .fail
   | _,_=> .fail
  | _=> .fail
 | .ext i e,Y,h=>match Gm Y i with
  | some (.own xs)=>(eval F e Y h).cF λw h=>match w with
   | .own ys=>if xs.length+ys.length<aW then .next (GD Y i (.own (xs++ys))) h else .fail
   | _=> .fail
  | _=> .fail
 | .freeze i,Y,h=>match Gm Y i with
  | some (.own xs)=> .next (GD Y i (.v (.lst xs))) h
  | _=> .next Y h
 | .ex e,Y,h=>(eval F e Y h).cF λ_ h=> .next Y h
 | .ret e,Y,h=>match GE e with
  | some i=>match Gm Y i with
   | some (.bor _)=> .fail
   | some w=> .ret w h
   | none=> .fail
  | none=>(eval F e Y h).cF λw h=>match w with
   | .bor _=> .fail
   | w=> .ret w h
 | .iff c a b,Y,h=>(Gr F c Y h).cF λt h=>match t with
  | true=>execs F a Y h
  | false=>execs F b Y h
 | .fj n c b,Y,h=>GH (λY h=>Gr F c Y h) (λY h=>execs F b Y h) n Y h
 | .for tg one it b,Y,h=>(GC F it Y h).cF λds h=>GB (Gz tg one) (λY h=>execs F b Y h) ds Y h
 | .dX s,Y,h=>rD (exec F s Y h)
 | .bH i c f e,Y,h=>(eval F e Y h).cF λw h=>match w with
  | .v d=>match GK h (Gm Y i)with
   | some (r,c',fs)=>if c'=c/\Gs d=k9/\fs.length<100 then .next Y (h.set r (.obj c (aY f d fs)))else .fail
   | none=> .fail
  | _=> .fail
 | .bC,_,_=> .fail
@[simp] noncomputable def execs (F:Fx):Ss->Sl->AH->O
 | .nil,Y,h=> .next Y h
 | .cons s ss,Y,h=>(exec F s Y h).seq λY h=>execs F ss Y h
end
structure Fn where
 ps:Nat
 n:Nat
 body:Ss
structure Prog where
 fns:List (String×Fn)
 cl:dr
 con:List (String×D)
def W.keep:W->Bool
 | .v d=>Gs d
 | .own xs=>Gf xs
 | .bor _=>k9
def fin (n:Nat) (w:W) (h:AH):R W:=if h.length=n then .ok w h else if w.keep then .ok w (h.take n)else .ok w h
noncomputable def Gu (n:Nat):O->R W
 | .ret w h=>match w with
  | .bor _=> .fail
  | w=>fin n w h
 | .next _ h=>fin n (.v .az) h
 | .exc d h=> .exc d h
 | _=> .fail
@[simp] theorem Ga (d) (h a:AH) (e:a.length=h.length):Gu h.length (.ret (.v d) a)= .ok (.v d) a:=by simp [Gu,fin,e]
@[simp] theorem Gq (xs) (h a:AH) (e:a.length=h.length):Gu h.length (.ret (.own xs) a)= .ok (.own xs) a:=by simp [Gu,fin,e]
@[simp] theorem GG (Y) (h a:AH) (e:a.length=h.length):Gu h.length (.next Y a)= .ok (.v .az) a:=by simp [Gu,fin,e]
@[simp] theorem Kc (d) (n) (h):Gu n (.exc d h)= .exc d h:=rfl
def run (F:Fx) (d:Fn) (ws:List W) (h:AH):R W:=if ws.length=d.ps then Gu h.length (execs F d.body (ws.map y0++Aa1 (d.n-d.ps) u0) h)else .fail
def call (p:Prog):Nat->String->List W->AH->R W
 | 0,_,_,_=> .fail
 | k+1,f,a,h=>match p.fns.lookup f with
  | some d=>run ⟨call p k,p.cl,p.con⟩ d a h
  | none=> .fail
def Gb (e:p.fns.lookup f=y0 d) (k) (ws) (h) (a:ws.length=d.ps):
 call p (k+1) f ws h=Gu h.length (execs ⟨call p k,p.cl,p.con⟩ d.body (ws.map y0++Aa1 (d.n-d.ps) u0) h):=by
 rw [call,e]
 simp [run,a]
end
end M
namespace L2.MS
open PySem PySem.Spec
structure Ge where
 K:Aa6
 ca:String->Addr
 cl:M.dr
 own:List String
 ma:String->Addr
structure lK (Z:Ge) (c:String):Prop where
 k:ux Z.K (Z.ca c)
 own: ∀t∈Z.own,PySem.W.kitOne Z.K (.ref (Z.ca c)) (.ref (Z.ca t))=y0 ((M.Ku Z.cl 8 c).contains t)
 ve:PySem.W.kitOne Z.K (.ref (Z.ca c)) (.type "ValueError")=some ((M.Ku Z.cl 8 c).contains "ValueError")
structure Gh where
 fz:Addr->Prop
 aL:Nat->Addr
 n:Nat
def e6 (Z:Ge) (G:Gh) (H:Hp) (a:Addr) (vs:List V):Prop:=(G.fz a/\H a=y0 (.tup vs)) ∨
 ∃(o:Obj) (b:Array Value) (n:Nat),Z.K.lookup a=some o/\o.cls= .type "tuple" /\o.dict=none/\o.data= .seq b n/\b.size<=sizeLine/\Vals vs b.toList
def sD (Z:Ge) (a:Addr) (vs:List V):Prop:= ∃(o:Obj) (b:Array Value) (n:Nat),Z.K.lookup a=some o/\o.cls= .type "list" /\o.dict=none/\o.data= .seq b n/\b.size<=sizeLine/\Vals vs b.toList
def gE (Z:Ge) (G:Gh) (H:Hp) (a:Addr) (vs:List V):Prop:=(G.fz a/\Rd H a (.lst vs))\/sD Z a vs
def e6.sq (h:e6 Z G H a vs):b8 Z.K H a vs:=h.elim (λz=> .inl (.inl z.2)) λ⟨o,b,n,d,c,_,e⟩=> .inr ⟨o,b,n,d,c,e⟩
def gE.sq (h:gE Z G H a vs):a9 Z.K H a vs:=h.elim (λz=> .inl z.2) λz=> .inr z
def aw (s:M.Tx):Str:=⟨s.toArray⟩
def hH:M.D->PyData
 | .int i=> .int i
 | .str s=> .str (aw s)
 | .bl b=> .bool b
 | _=> .none
def gB (T:List (M.Tx×M.D)):List (Str×PyData):=T.map λp=>(aw p.1,hH p.2)
def EK (Z:Ge) (a:Addr) (T:List (M.Tx×M.D)):Prop:=hV Z.K a (gB T)
mutual
def aB (Z:Ge) (G:Gh) (H:Hp):M.D->V->Prop
 | .az,v=>v= .az
 | .bl b,v=>v= .bl b
 | .int i,v=>v= .int i
 | .str s,v=>v= .str (aw s)
 | .tup ds,v=> ∃a vs,v= .ref a/\e6 Z G H a vs/\ae Z G H ds vs
 | .lst ds,v=> ∃a vs,v= .ref a/\gE Z G H a vs/\ae Z G H ds vs
 | .ref r,v=>r<G.n/\v= .ref (G.aL r)
 | .exc c fs,v=>(fs= []/\ ∃x,v= .ref x/\G.fz x/\H x=y0 (tu x (Z.ca c) u0)/\lK Z c)\/(fs≠ []/\ ∃a,v= .ref a/\EK Z a fs)
 | .err c f d,v=> ∃x dx u,v= .ref x/\G.fz x/\G.fz dx/\H x=y0 (tu x (Z.ca c) (y0 dx))/\H dx=y0 (.xd [(Str.ofString f,u)])/\lK Z c/\pN Z.K (Z.ca c) (Str.ofString f)/\aB Z G H d u
def ae (Z:Ge) (G:Gh) (H:Hp):List M.D->List V->Prop
 | [],vs=>vs= []
 | d::ds,vs=> ∃v r,vs=v::r/\aB Z G H d v/\ae Z G H ds r
end
def tF (k:M.WK):M.D:= .tup [.int k.1,.tup (k.2.1.map .int),.tup (k.2.2.map .int)]
def bq (Z:Ge) (G:Gh) (H:Hp) (a:Addr):M.Cell->Prop
 | .lst xs=>M.Gf xs=k9/\ ∃b,H a=y0 (.lst b)/\ae Z G H xs b
 | .gF ks=> ∃xs,H a=y0 (DW a xs)/\xs.map (·.1)=ks/\ ∀x∈xs,aB Z G H (tF x.1) (.ref x.2.1)
 | .gZ ks=>H a=y0 (dI ks)
 | .obj c fs=>M.Gf (fs.map (·.2))=k9/\ ∃dx d,H a=y0 (.ins (Z.ca c) dx ((fs.map λp=>Str.ofString p.1).zip d))/\ae Z G H (fs.map (·.2)) d
structure aj (Z:Ge) (G:Gh) (h:M.AH) (H:Hp):Prop where
 len:h.length=G.n
 any: ∀r c,h[r]? =y0 c-> ¬G.fz (G.aL r)/\bq Z G H (G.aL r) c
 inj: ∀r s,r<G.n->s<G.n->G.aL r=G.aL s->r=s
 live: ∀a,G.fz a-> ∃o,H a=y0 o
def dA (G:Gh) (a:Addr):Prop:= ∀r,r<G.n->G.aL r≠a
structure Ext (G:Gh) (H:Hp) (G':Gh) (H':Hp):Prop where
 keep: ∀a o,H a=y0 o->dA G a->H' a=y0 o
 le:G.n<=G'.n
 aL: ∀r,r<G.n->G'.aL r=G.aL r
 new: ∀r,G.n<=r->r<G'.n->H (G'.aL r)=u0
 fz: ∀a,G.fz a->G'.fz a
 old: ∀a,G'.fz a->G.fz a\/H a=u0
 cells: ∀r,r<G.n->(∃ o,H (G.aL r)=y0 o)-> ∃o,H' (G.aL r)=y0 o
def aq (Z:Ge) (G:Gh) (H:Hp):M.W->V->Prop
 | .v d,v=>aB Z G H d v
 | .own xs,v=> ∃a b,v= .ref a/\ ¬G.fz a/\dA G a/\H a=y0 (.lst b)/\ae Z G H xs b
 | .bor xs,v=> ∃a b,v= .ref a/\dA G a/\Rd H a (.lst b)/\ae Z G H xs b
def bG:M.W->Bool
 | .own _=>k9
 | .bor _=>k9
 | _=>y9
structure ao (Z:Ge) (G:Gh) (Y:M.Sl) (h:M.AH) (U:St) (H:Hp):Prop where
 len:Y.length=U.length
 slot: ∀i w,M.Gm Y i=y0 w-> ∃v,U[i]? =y0 (y0 v)/\aq Z G H w v
 apart: ∀i j xs w a,i≠j->M.Gm Y i=y0 (.own xs)->M.Gm Y j=y0 w->bG w=k9->U[i]? =y0 (y0 (.ref a))->U[j]? ≠y0 (y0 (.ref a))
 heap:aj Z G h H
section
variable {Z:Ge}{G G' G1 G2:Gh}{H H' H1 H2:Hp}{h h':M.AH}{Y:M.Sl}{U:St}
def aj.cell (R:aj Z G h H) (r) (xs) (e:h[r]? =y0 (M.Cell.lst xs)): ¬G.fz (G.aL r)/\ ∃vs,H (G.aL r)=y0 (.lst vs)/\ae Z G H xs vs:=⟨(R.any r _ e).1,(R.any r _ e).2.2⟩
def aj.pure (R:aj Z G h H) (r:Nat) (xs) (e:h[r]? =y0 (M.Cell.lst xs)):M.Gf xs=true:=(R.any r _ e).2.1
theorem aj.obj (R:aj Z G h H) (r) (c) (fs) (e:h[r]? =y0 (M.Cell.obj c fs)): ¬G.fz (G.aL r)/\M.Gf (fs.map (·.2))=k9/\ ∃dx us,H (G.aL r)=y0 (.ins (Z.ca c) dx ((fs.map λp=>Str.ofString p.1).zip us))/\ae Z G H (fs.map (·.2)) us:=R.any r _ e
def aj.lt (R:aj Z G h H)(e:h[r]? =y0 c):r<G.n:=by rw [← R.len];exact(Ac2.mp e).1
def aj.at (R:aj Z G h H)(hi:i<G.n): ∃c,h[i]? =y0 c:=⟨_,Ab (by rw [R.len];exact hi)⟩
def bq.there (z:bq Z G H a c): ∃o,H a=y0 o:=by
 cases c with
 | lst d=>obtain⟨_,_,z,_⟩:=z;exact⟨_,z⟩
 | gF b=>obtain⟨_,z,_⟩:=z;exact⟨_,z⟩
 | gZ b=>exact⟨_,z⟩
 | obj c fs=>obtain⟨_,_,_,z,_⟩:=z;exact⟨_,z⟩
def aj.kl (r:aj Z G h H)(hi:i<G.n): ¬G.fz (G.aL i):=let ⟨_,e⟩:=r.at hi;(r.any i _ e).1
def aj.off (r:aj Z G h H)(b:G.fz a):dA G a:=λi c z=>r.kl c (z▸b)
theorem aj.there (r:aj Z G h H)(hi:i<G.n): ∃o,H (G.aL i)=y0 o:=let ⟨_,e⟩:=r.at hi;(r.any i _ e).2.there
def Ext.refl:Ext G H G H:=⟨λ_ _ e _=>e,Aa7 _,λ_ _=>rfl,λr b a=>absurd b (Al5.mpr a),λ_ z=>z,λ_ z=> .inl z,λ_ _ z=>z⟩
theorem Ext.none (e:Ext G H G' H') (d:aj Z G h H)(z:H' a=u0):H a=none:=by
 cases q:H a with
 | none=>rfl
 | some o=>
  by_cases b:dA G a
  ·rw [e.keep a o q b]at z;cases z
  ·unfold dA at b
   have: ∃r,r<G.n/\G.aL r=a:=Aj0 λg=>b λr d z=>g ⟨r,d,z⟩
   obtain⟨r,c,rfl⟩:=this
   obtain⟨i,f⟩:=e.cells r c ⟨o,q⟩
   rw [z]at f;cases f
def Ext.off (e:Ext G H G' H')(d:H a=y0 o) (c:dA G a):dA G' a:=λr f z=>by
 by_cases b:r<G.n
 ·rw [e.aL r b]at z;exact c r b z
 ·have:=e.new r (Nat.not_lt.mp b) f
  rw [z,d]at this;cases this
def Ext.trans (b:Ext G H G1 H1) (f:aj Z G h H) (d:Ext G1 H1 G2 H2):Ext G H G2 H2 where
 keep:=λa o z e=>d.keep a o (b.keep a o z e) (b.off z e)
 le:=Ac1 b.le d.le
 aL:=λr c=>by rw [d.aL r (Ab5 c b.le),b.aL r c]
 new:=λr i g=>by
  by_cases c:r<G1.n
  ·rw [d.aL r c];exact b.new r i c
  ·exact b.none f (d.new r (Nat.not_lt.mp c) g)
 fz:=λa z=>d.fz a (b.fz a z)
 old:=λa z=>(d.old a z).elim (λz=>b.old a z) λz=> .inr (b.none f z)
 cells:=λr c z=>by
  have:=d.cells r (Ab5 c b.le) (by rw [b.aL r c];exact b.cells r c z)
  rwa [b.aL r c]at this
def Ext.rd (e:Ext G H G' H')(z:Rd H a u) (b:dA G a):Rd H' a u:=z.elim (λz=> .inl (e.keep a _ z b)) λ⟨o,z⟩=> .inr ⟨o,e.keep a _ z b⟩
structure Mon (G:Gh) (H:Hp) (G':Gh) (H':Hp):Prop where
 keep: ∀a o,G.fz a->H a=y0 o->H' a=y0 o
 le:G.n<=G'.n
 aL: ∀r,r<G.n->G'.aL r=G.aL r
 fz: ∀a,G.fz a->G'.fz a
def Ext.mon (e:Ext G H G' H') (b:aj Z G h H):Mon G H G' H':=⟨λa o z q=>e.keep a o q (b.off z),e.le,e.aL,e.fz⟩
def Mon.rd (e:Mon G H G' H')(z:Rd H a u) (b:G.fz a):Rd H' a u:=z.elim (λz=> .inl (e.keep a _ b z)) λ⟨o,z⟩=> .inr ⟨o,e.keep a _ b z⟩
mutual
theorem aB.mon (e:Mon G H G' H'): ∀ {d:M.D}{v:V},aB Z G H d v->aB Z G' H' d v
 | .az,_,z=>z
 | .bl _,_,z=>z
 | .int _,_,z=>z
 | .str _,_,z=>z
 | .tup _,_,⟨a,vs,z1,z2,z3⟩=>⟨a,vs,z1,z2.elim (λz=> .inl ⟨e.fz a z.1,e.keep a _ z.1 z.2⟩) λz=> .inr z,ae.mon e z3⟩
 | .lst _,_,⟨a,vs,z1,z2,z3⟩=>⟨a,vs,z1,z2.elim (λz=> .inl ⟨e.fz a z.1,e.rd z.2 z.1⟩) .inr,ae.mon e z3⟩
 | .ref r,_,⟨z1,z2⟩=>⟨Ab5 z1 e.le,by rw [e.aL r z1];exact z2⟩
 | .exc c fs,_,z=>z.imp (λ⟨z0,x,z1,z2,z3,z4⟩=>⟨z0,x,z1,e.fz x z2,e.keep x _ z2 z3,z4⟩) id
 | .err c f d,_,⟨x,dx,u,z1,z2,z3,z4,z5,z6,z7,z8⟩=>⟨x,dx,u,z1,e.fz x z2,e.fz dx z3,e.keep x _ z2 z4,e.keep dx _ z3 z5,z6,z7,aB.mon e z8⟩
theorem ae.mon (e:Mon G H G' H'): ∀ {ds:List M.D}{vs:List V},ae Z G H ds vs->ae Z G' H' ds vs
 | [],_,z=>z
 | _::_,_,⟨v,r,z1,z2,z3⟩=>⟨v,r,z1,aB.mon e z2,ae.mon e z3⟩
end
theorem bq.mon (e:Mon G H G' H')(k: ∀o,H a=y0 o->H' a=y0 o) (z:bq Z G H a c):bq Z G' H' a c:=by
 cases c with
 | lst g=>obtain⟨f,n,b,d⟩:=z;exact⟨f,n,k _ b,d.mon e⟩
 | gF j=>obtain⟨g,b,d,m⟩:=z;exact⟨g,k _ b,d,λx i=>(m x i).mon e⟩
 | gZ j=>exact k _ z
 | obj c fs=>obtain⟨f,h,l,b,d⟩:=z;exact⟨f,h,l,k _ b,d.mon e⟩
def aB.ext (e:Ext G H G' H') (a:aj Z G h H)(z:aB Z G H d v):aB Z G' H' d v:=z.mon (e.mon a)
def ae.ext (e:Ext G H G' H') (a:aj Z G h H)(z:ae Z G H d v):ae Z G' H' d v:=z.mon (e.mon a)
theorem aq.ext (e:Ext G H G' H') (g:aj Z G h H)(z:aq Z G H w v):aq Z G' H' w v:=by
 cases w with
 | v d=>exact aB.ext e g z
 | own l=>
  obtain⟨a,i,j,k,c,b,f⟩:=z
  refine⟨a,i,j,λq=> ?_,e.off b c,e.keep a _ b c,ae.ext e g f⟩
  obtain q | q:=e.old a q
  ·exact k q
  ·rw [b]at q;cases q
 | bor l=>
  obtain⟨a,i,j,c,b,f⟩:=z
  refine⟨a,i,j,?_,e.rd b c,ae.ext e g f⟩
  obtain b | ⟨o,b⟩:=b
  ·exact e.off b c
  ·exact e.off b c
theorem ao.ext (s:ao Z G Y h U H) (e:Ext G H G' H') (a:aj Z G' h' H'):ao Z G' Y h' U H' where
 len:=s.len
 slot:=λi w z=>let ⟨v,b,c⟩:=s.slot i w z; ⟨v,b,c.ext e s.heap⟩
 apart:=s.apart
 heap:=a
theorem ae.length: ∀ {ds}{vs},ae Z G H ds vs->ds.length=vs.length
 | [],_,rfl=>rfl
 | _::_,_,⟨_,_,rfl,_,z⟩=>congrArg (· +1) (ae.length z)
theorem ae.get: ∀ {ds}{vs}{i:Nat}{d},ae Z G H ds vs->ds[i]? =y0 d-> ∃v,vs[i]? =y0 v/\aB Z G H d v
 | [],_,_,_,_,e=>by simp at e
 | _::_,_,0,_,⟨v,_,rfl,z,_⟩,e=>by simp at e;subst e;exact⟨v,rfl,z⟩
 | _::_,_,i+1,_,⟨_,_,rfl,_,z⟩,e=>by
  obtain⟨v,b,a⟩:=ae.get z (by simpa using e)
  exact⟨v,by simpa using b,a⟩
theorem ae.append: ∀ {ds es}{vs us},ae Z G H ds vs->ae Z G H es us->ae Z G H (ds++es) (vs++us)
 | [],_,_,_,rfl,z=>z
 | _::_,_,_,_,⟨v,r,rfl,a,b⟩,z=>⟨v,r++_,rfl,a,ae.append b z⟩
theorem ae.drop: ∀ {ds}{vs}(n),ae Z G H ds vs->ae Z G H (ds.drop n) (vs.drop n)
 | _,_,0,z=>z
 | [],_,_+1,rfl=>rfl
 | _::_,_,n+1,⟨_,_,rfl,_,z⟩=>ae.drop n z
theorem ae.take: ∀ {ds}{vs}(n),ae Z G H ds vs->ae Z G H (ds.take n) (vs.take n)
 | _,_,0,_=>rfl
 | [],_,_+1,rfl=>rfl
 | _::_,_,n+1,⟨v,r,rfl,a,z⟩=>⟨v,r.take n,rfl,a,ae.take n z⟩
theorem ae.reverse: ∀ {ds}{vs},ae Z G H ds vs->ae Z G H ds.reverse vs.reverse
 | [],_,rfl=>rfl
 | _::_,_,⟨v,r,rfl,a,z⟩=>by
  rw [Aj5,Aj5]
  exact(ae.reverse z).append ⟨v,[],rfl,a,rfl⟩
theorem ae.set (z:aB Z G H d v): ∀ {ds}{vs} i,ae Z G H ds vs->ae Z G H (ds.set i d) (vs.set i v)
 | [],_,_,rfl=>rfl
 | _::_,_,0,⟨_,r,rfl,_,a⟩=>⟨v,r,rfl,z,a⟩
 | _::_,_,i+1,⟨u,r,rfl,b,a⟩=>⟨u,r.set i v,rfl,b,ae.set z i a⟩
def Gh.more (G:Gh) (a:Addr):Gh:= { G with fz:=λb=>G.fz b\/b=a }
def zG (o) (b:H p=u0):Ext G H G (aP H p o) where
 keep:=λa u z _=>by rw [Xa (jb z b)];exact z
 le:=Aa7 _
 aL:=λ_ _=>rfl
 new:=λr d c=>absurd d (Al5.mpr c)
 fz:=λ_ z=>z
 old:=λ_ z=> .inl z
 cells:=λr _ ⟨u,z⟩=>⟨u,by rw [Xa (jb z b)];exact z⟩
def QA (o) (b:H p=u0):Ext G H (G.more p) (aP H p o) where
 keep:=λa u z _=>by rw [Xa (jb z b)];exact z
 le:=Aa7 _
 aL:=λ_ _=>rfl
 new:=λr d c=>absurd d (Al5.mpr c)
 fz:=λ_ z=> .inl z
 old:=λa z=>z.elim .inl λe=> .inr (e▸b)
 cells:=λr _ ⟨u,z⟩=>⟨u,by rw [Xa (jb z b)];exact z⟩
def aj.new (r:aj Z G h H)(o) (b:H p=u0):aj Z G h (aP H p o) where
 len:=r.len
 any:=λi c z=>⟨(r.any i c z).1,(r.any i c z).2.mon ((zG o b).mon r) λu q=>by rw [Xa (jb q b)];exact q⟩
 inj:=r.inj
 live:=λa z=>let ⟨u,q⟩:=r.live a z; ⟨u,by rw [Xa (jb q b)];exact q⟩
def aj.kf (r:aj Z G h H)(o) (b:H p=u0):aj Z (G.more p) h (aP H p o) where
 len:=r.len
 any:=λi c z=>by
  obtain⟨f,d⟩:=r.any i c z
  obtain⟨u,g⟩:=d.there
  exact⟨λq=>q.elim f (jb g b),d.mon ((QA o b).mon r) λu q=>by rw [Xa (jb q b)];exact q⟩
 inj:=r.inj
 live:=λa z=>z.elim (λz=>let ⟨u,q⟩:=r.live a z; ⟨u,by rw [Xa (jb q b)];exact q⟩) λe=>⟨o,by rw [e];exact We⟩
def Qo (a):Mon G H (G.more a) H:=⟨λ_ _ _ z=>z,Aa7 _,λ_ _=>rfl,λ_ z=> .inl z⟩
theorem Ext.more (e:Ext G H G1 H1)(c:H a=Option.none):Ext G H (G1.more a) H1:=
 ⟨e.keep,e.le,e.aL,e.new,λb z=> .inl (e.fz b z),λb z=>z.elim (λz=>e.old b z) λz=> .inr (z▸c),e.cells⟩
theorem aj.more (r:aj Z G h H)(d:dA G a) (f: ∃o,H a=y0 o):aj Z (G.more a) h H where
 len:=r.len
 any:=λi c z=>⟨λq=>q.elim (r.any i c z).1 λe=>d i (r.lt z) e,(r.any i c z).2.mon (Qo a) λ_ q=>q⟩
 inj:=r.inj
 live:=λb z=>z.elim (λz=>r.live b z) λe=>e▸f
theorem aq.more (z:aq Z G H w v) (k:bG w=k9->v≠ .ref a):aq Z (G.more a) H w v:=by
 cases w with
 | v d=>exact aB.mon (Qo a) z
 | own l=>
  obtain⟨b,i,c,j,g,h,f⟩:=z
  exact⟨b,i,c,λq=>q.elim j λe=>k rfl (e▸c),g,h,f.mon (Qo a)⟩
 | bor l=>
  obtain⟨b,i,c,g,h,f⟩:=z
  exact⟨b,i,c,g,h,f.mon (Qo a)⟩
theorem ao.more (s:ao Z G Y h U H)(b:dA G a) (d: ∃o,H a=y0 o) (f: ∀ i w,M.Gm Y i=y0 w->bG w=k9->U[i]? ≠y0 (y0 (.ref a))):ao Z (G.more a) Y h U H where
 len:=s.len
 slot:=λi w z=>by
  obtain⟨v,c,g⟩:=s.slot i w z
  exact⟨v,c,g.more λq e=>f i w z q (e▸c)⟩
 apart:=s.apart
 heap:=s.heap.more b d
def aD (Y:M.Sl) (U:St) (H:Hp):M.W->V->Prop
 | .v _,_=>True
 | .own _,v=> ∃a,v= .ref a/\H a=u0
 | .bor _,v=> ∃(i:Nat) (w:M.W),M.Gm Y i=y0 w/\bG w=k9/\U[i]? =y0 (y0 v)
def aD.back (e:Ext G H G1 H1) (b:aj Z G h H)(z:aD Y U H1 w v):aD Y U H w v:=by
 cases w with
 | v d=>trivial
 | own g=>obtain⟨a,c,f⟩:=z;exact⟨a,c,e.none b f⟩
 | bor g=>exact z
def ao.cm (s:ao Z G Y h U H)(e:M.Gm Y i=y0 w) (j:bG w=k9) (q:U[i]? =y0 (y0 (.ref a))): ∃o,H a=y0 o:=by
 obtain⟨v,f,g⟩:=s.slot i w e
 rw [q]at f
 cases f
 cases w with
 | v d=>cases j
 | own k=>obtain⟨b,l,f,_,_,c,_⟩:=g;cases f;exact⟨_,c⟩
 | bor k=>
  obtain⟨b,l,f,_,c,_⟩:=g
  cases f
  obtain c | ⟨o,c⟩:=c
  ·exact⟨_,c⟩
  ·exact⟨_,c⟩
def rR (Z:Ge) (E:XK) (d:M.D) (G:Gh) (H:Hp):Prop:=(∀ c,d= .exc c []->lK Z c->E (.ref (Z.ca c)) u0 H) ∧
 ∀c f a,d= .err c f a->lK Z c->pN Z.K (Z.ca c) (Str.ofString f)-> ∀dx u,G.fz dx->H dx=y0 (.xd [(Str.ofString f,u)])->aB Z G H a u->E (.ref (Z.ca c)) (y0 dx) H
def ak {b:Type}(Z:Ge) (E:XK) (G:Gh) (H:Hp) (r:M.R b) (P:b->M.AH->Gh->Hp->Prop):Prop:=match r with
 | .ok a h'=> ∀G' H',Ext G H G' H'->aj Z G' h' H'->P a h' G' H'
 | .exc d h'=> ∀G' H',Ext G H G' H'->aj Z G' h' H'->rR Z E d G' H'
 | .fail=>False
def ak.on (p:ak Z E G H r P) (e:Ext G H G1 H1) (i:aj Z G h H):ak Z E G1 H1 r P:=by
 cases r with
 | ok a j=>exact λc f g b=>p c f (e.trans i g) b
 | exc d j=>exact λc f g b=>p c f (e.trans i g) b
 | fail=>exact p
def tD (Z:Ge) (E:XK) (m:M.Sl->M.AH->M.R M.W):TE:=λU H Q=> ∃G Y h,ao Z G Y h U H/\ak Z E G H (m Y h) λw h' G' H'=> ∀v,aq Z G' H' w v->aD Y U H w v->Q v H'
def cW (Z:Ge) (E:XK) (m:M.Sl->M.AH->M.R Bool):TT:=λU H Q=> ∃G Y h,ao Z G Y h U H/\ak Z E G H (m Y h) λb _ _ H'=>Q b H'
def Wa (a:aj Z G0 h0 H0) (b:Ext G0 H0 G H) (s:ao Z G Y h U H)
 (p:ak Z E G0 H0 ((m Y h).bind f) P)
 (k: ∀w v h1 G1 H1,Ext G0 H0 G1 H1->Ext G H G1 H1->ao Z G1 Y h1 U H1->aq Z G1 H1 w v->aD Y U H w v->ak Z E G0 H0 (f w h1) P->Q v H1):tD Z E m U H Q:=by
 refine⟨G,Y,h,s,?_⟩
 cases q:m Y h with
 | ok w h1=>
  rw [q]at p
  exact λG1 H1 e c v g i=>k w v h1 G1 H1 (b.trans a e) e (s.ext e c) g i p
 | exc d h1=>rw [q]at p;exact ak.on p b a
 | fail=>rw [q]at p;exact p
def wM (a:aj Z G0 h0 H0) (c:Ext G0 H0 G H) (s:ao Z G Y h U H)
 (p:ak Z E G0 H0 ((m Y h).bind f) P)
 (k: ∀b h1 G1 H1,Ext G0 H0 G1 H1->Ext G H G1 H1->ao Z G1 Y h1 U H1->ak Z E G0 H0 (f b h1) P->Q b H1):cW Z E m U H Q:=by
 refine⟨G,Y,h,s,?_⟩
 cases q:m Y h with
 | ok w h1=>
  rw [q]at p
  exact λG1 H1 e g=>k w h1 G1 H1 (c.trans a e) e (s.ext e g) p
 | exc d h1=>rw [q]at p;exact ak.on p c a
 | fail=>rw [q]at p;exact p
def gI (Z:Ge) (E:XK) (m:M.Sl->M.AH->M.R (List M.D)):TA:=λU H Q=> ∃G Y h,ao Z G Y h U H/\ak Z E G H (m Y h) λds _ G' H'=> ∀a,ae Z G' H' ds a->Q a H'
def aU (Z:Ge) (G:Gh) (H:Hp):List M.W->List V->Prop
 | [],a=>a= []
 | w::b,a=> ∃v r,a=v::r/\aq Z G H w v/\aU Z G H b r
theorem aU.ext (e:Ext G H G' H') (a:aj Z G h H): ∀ {ws}{vs},aU Z G H ws vs->aU Z G' H' ws vs
 | [],_,z=>z
 | _::_,_,⟨v,r,b,c,d⟩=>⟨v,r,b,aq.ext e a c,aU.ext e a d⟩
theorem aU.length: ∀ {ws}{vs},aU Z G H ws vs->ws.length=vs.length
 | [],_,rfl=>rfl
 | _::_,_,⟨_,_,rfl,_,z⟩=>congrArg (· +1) (aU.length z)
def eK (Z:Ge) (E:XK) (m:M.Sl->M.AH->M.R (List M.W)):TA:=λU H Q=> ∃G Y h,ao Z G Y h U H/\ak Z E G H (m Y h) λb _ G' H'=> ∀a,aU Z G' H' b a->Q a H'
def WU (a:aj Z G0 h0 H0) (b:Ext G0 H0 G H) (s:ao Z G Y h U H)
 (p:ak Z E G0 H0 ((m Y h).bind f) P)
 (k: ∀ds vs h1 G1 H1,Ext G0 H0 G1 H1->Ext G H G1 H1->ao Z G1 Y h1 U H1->ae Z G1 H1 ds vs->ak Z E G0 H0 (f ds h1) P->Q vs H1):gI Z E m U H Q:=by
 refine⟨G,Y,h,s,?_⟩
 cases q:m Y h with
 | ok w h1=>
  rw [q]at p
  exact λG1 H1 e c vs z=>k w vs h1 G1 H1 (b.trans a e) e (s.ext e c) z p
 | exc d h1=>rw [q]at p;exact ak.on p b a
 | fail=>rw [q]at p;exact p
def jp (a:aj Z G0 h0 H0) (b:Ext G0 H0 G H) (s:ao Z G Y h U H)
 (p:ak Z E G0 H0 ((m Y h).bind f) P)
 (k: ∀ds vs h1 G1 H1,Ext G0 H0 G1 H1->Ext G H G1 H1->ao Z G1 Y h1 U H1->aU Z G1 H1 ds vs->ak Z E G0 H0 (f ds h1) P->Q vs H1):eK Z E m U H Q:=by
 refine⟨G,Y,h,s,?_⟩
 cases q:m Y h with
 | ok w h1=>
  rw [q]at p
  exact λG1 H1 e c vs z=>k w vs h1 G1 H1 (b.trans a e) e (s.ext e c) z p
 | exc d h1=>rw [q]at p;exact ak.on p b a
 | fail=>rw [q]at p;exact p
theorem ak.of (p:ak Z E G H ((M.R.of h o).bind f) P): ∃b,o=y0 b/\ak Z E G H (f b h) P:=by
 cases o with
 | none=>exact p.elim
 | some b=>exact⟨b,rfl,p⟩
def ak.at (p:ak Z E G H (.ok a h) P) (e:Ext G H G1 H1) (b:aj Z G1 h H1):P a h G1 H1:=p G1 H1 e b
def mY (e:Ext G H G1 H1) (s:ao Z G1 Y h U H1) (n:ao Z G Y h' U H)(r:aq Z G1 H1 w v) (f:aD Y U H w v) (hd:w.d=y0 d):
 ∃G2,Ext G H G2 H1/\ao Z G2 Y h U H1/\aB Z G2 H1 d v/\Mon G1 H1 G2 H1:=by
 cases w with
 | v x=>cases hd;exact⟨G1,e,s,r,⟨λ_ _ _ z=>z,Aa7 _,λ_ _=>rfl,λ_ z=>z⟩⟩
 | own t=>
  cases hd
  obtain⟨a,u,rfl,y,m,g,k⟩:=r
  obtain⟨b,l,j⟩:=f
  cases l
  refine⟨G1.more a,e.more j,s.more m ⟨_,g⟩ λi w q p z=> ?_,⟨a,u,rfl,.inl ⟨.inr rfl,.inl g⟩,k.mon (Qo a)⟩,Qo a⟩
  obtain⟨o,c⟩:=n.cm q p z
  rw [j]at c;cases c
 | bor t=>cases hd
end
open PySem PySem.Spec PyProof.Rows
mutual
def RV (hp:Heap):M.D->Value->Prop
 | .az,u=>u= .none
 | .bl b,u=>u= .bool b
 | .int i,u=> ∃t,u= .int i t
 | .str s,u=> ∃t,u= .str (aw s) t
 | .tup ds,u=> ∃(a:Addr) (its:List Value),u= .ref a/\IsTup hp a its.toArray/\bZ hp ds its
 | .lst ds,u=> ∃(a:Addr) (its:List Value),u= .ref a/\hp.IsList a its.toArray/\bZ hp ds its
 | .ref _,_=>False
 | .exc _ _,_=>False
 | .err _ _ _,_=>False
def bZ (hp:Heap):List M.D->List Value->Prop
 | [],us=>us= []
 | d::ds,us=> ∃u r,us=u::r/\RV hp d u/\bZ hp ds r
end
theorem bZ.length : ∀ {ds}{us},bZ hp ds us->ds.length=us.length
 | [],_,rfl=>rfl
 | _::_,_,⟨_,_,rfl,_,z⟩=>congrArg (· +1) (bZ.length z)
theorem bZ.get : ∀ {ds}{us}{j:Nat}{u},bZ hp ds us->us[j]? =y0 u-> ∃d,ds[j]? =y0 d/\RV hp d u
 | [],_,_,_,rfl,e=>by simp at e
 | d::_,_,0,_,⟨v,_,rfl,z,_⟩,e=>by simp at e;subst e;exact⟨d,rfl,z⟩
 | _::_,_,j+1,_,⟨_,_,rfl,_,z⟩,e=>by
  obtain⟨v,b,a⟩:=bZ.get z (by simpa using e)
  exact⟨v,by simpa using b,a⟩
section
variable {X:Cx}{Z:Ge}{G:Gh}{H:Hp}{h:M.AH}{y8:List (Addr×Obj)}{U:St}{s:Shared}
mutual
theorem aB.iw (I:Inv X y8 U H s) (hK:X.K=Z.K): ∀ {d:M.D}{x:V}{u:Value},aB Z G H d x->RelV x u->M.Gs d=k9->RV s.heap d u
 | .az,_,_,rfl,r,_=>r
 | .bl _,_,_,rfl,r,_=>r
 | .int _,_,_,rfl,r,_=>r
 | .str _,_,_,rfl,r,_=>r
 | .tup ds,_,_,⟨a,vs,rfl,z2,z3⟩,r,n=>by
  cases r
  obtain⟨its,r1,p1,_⟩:=I.tuple (hK▸z2.sq)
  exact⟨a,its,rfl,p1,ae.iw I hK z3 r1 (by simpa [M.Gs]using n)⟩
 | .lst ds,_,_,⟨a,vs,rfl,z2,z3⟩,r,n=>by
  cases r
  obtain⟨its,r1,p1,_⟩:=I.list (hK▸z2.sq)
  exact⟨a,its,rfl,p1.isList,ae.iw I hK z3 r1 (by simpa [M.Gs]using n)⟩
 | .ref _,_,_,_,_,n=>by simp [M.Gs]at n
 | .exc _ _,_,_,_,_,n=>by simp [M.Gs]at n
 | .err _ _ _,_,_,_,_,n=>by simp [M.Gs]at n
theorem ae.iw (I:Inv X y8 U H s) (hK:X.K=Z.K): ∀ {ds:List M.D}{xs:List V}{us:List Value},ae Z G H ds xs->Vals xs us->M.Gf ds=k9->bZ s.heap ds us
 | [],_,_,rfl,.nil,_=>rfl
 | d::ds,_,_,⟨v,r,rfl,z1,z2⟩,.cons r1 r2,n=>by
  have n':M.Gs d=k9/\M.Gf ds=true:=by simpa [M.Gf]using n
  exact⟨_,_,rfl,aB.iw I hK z1 r1 n'.1,ae.iw I hK z2 r2 n'.2⟩
end
mutual
theorem aB.rv (I:Inv X y8 U H s) (hK:X.K=Z.K) (hr:aj Z G h H): ∀ {d:M.D}{x:V}{u:Value},aB Z G H d x->RelV x u->M.Gs (M.res h d)=k9->RV s.heap (M.res h d) u
 | .az,_,_,rfl,r,_=>r
 | .bl _,_,_,rfl,r,_=>r
 | .int _,_,_,rfl,r,_=>r
 | .str _,_,_,rfl,r,_=>r
 | .tup ds,_,_,⟨a,vs,rfl,z2,z3⟩,r,n=>by
  cases r
  obtain⟨its,r1,p1,_⟩:=I.tuple (hK▸z2.sq)
  rw [M.res]at n ⊢
  exact⟨a,its,rfl,p1,ae.rv I hK hr z3 r1 (by simpa [M.Gs]using n)⟩
 | .lst ds,_,_,⟨a,vs,rfl,z2,z3⟩,r,n=>by
  cases r
  obtain⟨its,r1,p1,_⟩:=I.list (hK▸z2.sq)
  rw [M.res]at n ⊢
  exact⟨a,its,rfl,p1.isList,ae.rv I hK hr z3 r1 (by simpa [M.Gs]using n)⟩
 | .ref i,_,_,⟨hi,e⟩,r,n=>by
  subst e
  cases r
  rw [M.res]at n ⊢
  cases q:h[i]? with
  | none=>rw [q]at n;simp [M.Gs]at n
  | some c=>
   cases c with
   | lst xs=>
    rw [q]at n
    obtain⟨_,vs,z2,z3⟩:=hr.cell i xs q
    obtain⟨its,r1,p1,_⟩:=I.list (a9.of (K:=X.K) z2)
    exact⟨_,its,rfl,p1.isList,ae.iw I hK z3 r1 (by simpa [M.Gs]using n)⟩
   | gF ks=>rw [q]at n;simp [M.Gs]at n
   | obj c fs=>rw [q]at n;simp [M.Gs]at n
   | gZ ks=>rw [q]at n;simp [M.Gs]at n
 | .exc _ _,_,_,_,_,n=>by simp [M.res,M.Gs]at n
 | .err _ _ _,_,_,_,_,n=>by simp [M.res,M.Gs]at n
theorem ae.rv (I:Inv X y8 U H s) (hK:X.K=Z.K) (hr:aj Z G h H): ∀ {ds:List M.D}{xs:List V}{us:List Value},ae Z G H ds xs->Vals xs us->M.Gf (M.GL h ds)=k9->bZ s.heap (M.GL h ds) us
 | [],_,_,rfl,.nil,_=>rfl
 | d::ds,_,_,⟨v,r,rfl,z1,z2⟩,.cons r1 r2,n=>by
  rw [M.GL]at n ⊢
  have n':M.Gs (M.res h d)=k9/\M.Gf (M.GL h ds)=true:=by simpa [M.Gf]using n
  exact⟨_,_,rfl,aB.rv I hK hr z1 r1 n'.1,ae.rv I hK hr z2 r2 n'.2⟩
end
theorem aq.rv (I:Inv X y8 U H s) (f:X.K=Z.K) (e:aj Z G h H)(z:aq Z G H w x) (r:RelV x u) (n:M.Gs (w.dd h)=k9):RV s.heap (w.dd h) u:=by
 cases w with
 | v d=>exact aB.rv I f e z r n
 | own l=>
  obtain⟨a,k,rfl,_,_,i,c⟩:=z
  cases r
  obtain⟨b,g,j,_⟩:=I.list (a9.of i)
  exact⟨a,b,rfl,j.isList,ae.rv I f e c g (by simp_all)⟩
 | bor l=>
  obtain⟨a,k,rfl,_,i,c⟩:=z
  cases r
  obtain⟨b,g,j,_⟩:=I.list (.inl i)
  exact⟨a,b,rfl,j.isList,ae.rv I f e c g (by simp_all)⟩
end
def xO (h:aw a=aw b):a=b:=by
 have:=congrArg Str.cps h
 simpa [aw]using this
def QU {xs b:List Value}(h1:IsTup hp a xs.toArray) (f:IsTup hp a b.toArray):xs=b:=by
 obtain⟨o,e,_,n,g⟩:=h1
 obtain⟨h,c,_,i,d⟩:=f
 rw [e]at c;cases c
 rw [g]at d;cases d
 rfl
def zL {c:Heap}{xs b:List Value}(h1:c.IsList a xs.toArray) (g:c.IsList a b.toArray):xs=b:=by
 obtain⟨o,f,_,n,h⟩:=h1
 obtain⟨i,d,_,j,e⟩:=g
 rw [f]at d;cases d
 rw [h]at e;cases e
 rfl
def xz (h1:IsTup hp a xs) (f:hp.IsList a ys):False:=by
 obtain⟨o,d,e,_⟩:=h1
 obtain⟨g,c,b,_⟩:=f
 rw [d]at c;cases c
 rw [e]at b
 exact absurd b (by decide)
mutual
theorem RV.inj {hp:Heap}: ∀ {d e:M.D}{u:Value},RV hp d u->RV hp e u->d=e
 | .az,e,_,rfl,q=>by cases e<;>first | rfl | (simp [RV]at q)
 | .bl _,e,_,rfl,q=>by cases e<;>first | (simp [RV]at q;done) | (have q:=q;simp [RV]at q;try rw [q])
 | .int _,e,_,⟨t,rfl⟩,q=>by cases e<;>first | (simp [RV]at q;done) | (have q:=q;simp [RV]at q;try rw [q])
 | .str _,e,_,⟨t,rfl⟩,q=>by
  cases e with
  | str z=>
   obtain⟨t',q⟩:=q
   injection q with q1 q2
   rw [xO q1]
  | _=>simp [RV]at q
 | .tup ds,e,_,⟨a,its,rfl,p,r⟩,q=>by
  cases e with
  | tup es=>
   obtain⟨b,its2,e,p2,r2⟩:=q
   cases e
   cases QU p p2
   rw [bZ.inj r r2]
  | lst es=>
   obtain⟨b,its2,e,p2,r2⟩:=q
   cases e
   exact(xz p p2).elim
  | _=>simp [RV]at q
 | .lst ds,e,_,⟨a,its,rfl,p,r⟩,q=>by
  cases e with
  | lst es=>
   obtain⟨b,its2,e,p2,r2⟩:=q
   cases e
   cases zL p p2
   rw [bZ.inj r r2]
  | tup es=>
   obtain⟨b,its2,e,p2,r2⟩:=q
   cases e
   exact(xz p2 p).elim
  | _=>simp [RV]at q
 | .ref _,_,_,q,_=>q.elim
 | .exc _ _,_,_,q,_=>q.elim
 | .err _ _ _,_,_,q,_=>q.elim
theorem bZ.inj {hp:Heap}: ∀ {d e:List M.D}{u:List Value},bZ hp d u->bZ hp e u->d=e
 | [],e,_,rfl,q=>by
  cases e with
  | nil=>rfl
  | cons a b=>obtain⟨_,_,z,_⟩:=q;cases z
 | d::ds,e,_,⟨u,r,rfl,z1,z2⟩,q=>by
  cases e with
  | nil=>cases (show _::_= []from q)
  | cons a b=>
   obtain⟨_,_,z,y1,y2⟩:=q
   cases z
   rw [RV.inj z1 y1,bZ.inj z2 y2]
end
mutual
theorem RV.refl {hp:Heap}: ∀ {d:M.D}{u:Value},RV hp d u->M.cR d d=k9
 | .az,_,_=>rfl
 | .bl _,_,_=>by simp
 | .int _,_,_=>by simp
 | .str _,_,_=>by simp
 | .tup ds,_,⟨_,_,_,_,r⟩=>by rw [M.cR];exact bZ.refl r
 | .lst ds,_,⟨_,_,_,_,r⟩=>by rw [M.cR];exact bZ.refl r
 | .ref _,_,q=>q.elim
 | .exc _ _,_,q=>q.elim
 | .err _ _ _,_,q=>q.elim
theorem bZ.refl {hp:Heap}: ∀ {d:List M.D}{u:List Value},bZ hp d u->M.GJ d d=k9
 | [],_,_=>rfl
 | d::ds,_,⟨_,_,_,z1,z2⟩=>by rw [M.GJ,RV.refl z1,bZ.refl z2];rfl
end
def gS (xs c:List M.D) (j:Nat):Bool:=match xs[j]?,c[j]? with
 | some a,y0 b=>M.cR a b
 | _,_=>k9
def xI (n) (e):(Ac4 (n+1)).all e=(e 0&&(Ac4 n).all λj=>e (j+1)):=by
 rw [List.range_succ_eq_map,Ah6,List.all_map];rfl
theorem zX: ∀(xs ys),xs.length=ys.length->(Ac4 xs.length).all (gS xs ys)=M.GJ xs ys
 | [],[],_=>rfl
 | [],_::_,h=>by simp at h
 | _::_,[],h=>by simp at h
 | x::xs,y::ys,h=>by
  rw [Aa0,xI,M.GJ]
  have a:=zX xs ys (by simpa using h)
  rw [← a]
  rfl
theorem jZ: ∀(xs ys),M.GJ xs ys=k9->xs.length=ys.length
 | [],[],_=>rfl
 | [],_::_,h=>by simp at h
 | _::_,[],h=>by simp at h
 | x::xs,y::ys,h=>by
  rw [M.GJ,Ab2]at h
  rw [Aa0,Aa0,jZ xs ys h.2]
def sv (h:xs.length≠ys.length):M.GJ xs ys=false:=by
 cases e:M.GJ xs ys with
 | false=>rfl
 | true=>exact absurd (jZ xs ys e) h
open SeqAt in
structure dn (A:Around) (s:Shared) (u v:Value) (b:Bool):Prop where
 rc:RcAt A s u v b
 ne:RcNeAt A s u v (!b)
 eq:EqAt A s u v b
section
open SeqAt
variable {A:Around}{s:Shared}
theorem xB: ∀ {ds}{j:Nat}{d},ds[j]? =y0 d->M.dep d<=M.GS ds
 | [],_,_,e=>by simp at e
 | x::a,0,d,e=>by simp at e;subst e;simp only [M.GS];omega
 | x::a,j+1,d,e=>by
  have:=xB (by simpa using e)
  simp only [M.GS]
  omega
def lN (b:Bool):((if b then(1:Int)else 0))=((b.toNat:Nat):Int):=by cases b<;>rfl
def oD (a b):(aw a==aw b)=(a==b):=by
 by_cases h:a=b
 ·subst h;simp
 ·have c:=λe=>h (xO e)
  rw [beq_eq_false_iff_ne.mpr h,beq_eq_false_iff_ne.mpr c]
def Ct (h:s.heap.IsList l its.toArray) (g:s.heap.IsList b its2.toArray) (k:bZ s.heap xs its) (m:bZ s.heap ys its2) (i:A.units<cLine)
 (x: ∀(j:Nat) a c u v,xs[j]? =y0 a->ys[j]? =y0 c->RV s.heap a u->RV s.heap c v->EqAt A.in1 s u v (M.cR a c)):dn A s (.ref l) (.ref b) (M.GJ xs ys):=by
 have n: ∀ j z (t:j<its2.toArray.size),EqAt A.in1 s its.toArray[j] its2.toArray[j] (gS xs ys j):=λj z t=>by
  obtain⟨a,p,r⟩:=k.get (j:=j) (u:=its.toArray[j]) (by simp)
  obtain⟨c,q,w⟩:=m.get (j:=j) (u:=its2.toArray[j]) (by simp)
  have:=x j a c _ _ p q r w
  unfold gS
  rw [p,q]
  exact this
 have y:=k.length
 have B:=m.length
 have two:RcAt A s (.ref l) (.ref b) (M.GJ xs ys)/\RcNeAt A s (.ref l) (.ref b) (!M.GJ xs ys):=by
  by_cases o:xs.length=ys.length
  ·have d:its.toArray.size=its2.toArray.size:=by simp;lia
   have e:(Ac4 its.toArray.size).all (gS xs ys)=M.GJ xs ys:=by
    rw [Aa9,←y];exact zX xs ys o
   have a:=RcAt.lists h g d i n
   have c:=RcNeAt.lists h g d i n
   rw [e]at a c
   exact⟨a,c⟩
  ·have d:(its.toArray.size != its2.toArray.size)=true:=by simp;lia
   rw [sv o]
   exact⟨RcAt.lists_lengths h g d i,RcNeAt.lists_lengths h g d i⟩
 refine⟨two.1,two.2,?_⟩
 by_cases f:l=b
 ·subst f
  cases zL h g
  cases bZ.inj k m
  rw [bZ.refl k]
  exact EqAt.same _
 ·exact EqAt.of_refs f two.1
def w9 (k:IsTup s.heap l its.toArray) (h:IsTup s.heap b its2.toArray) (f:bZ s.heap xs its) (i:bZ s.heap ys its2) (n:A.units<cLine)
 (x: ∀(j:Nat) a c u v,xs[j]? =y0 a->ys[j]? =y0 c->RV s.heap a u->RV s.heap c v->EqAt A.in1 s u v (M.cR a c)):dn A s (.ref l) (.ref b) (M.GJ xs ys):=by
 have m: ∀ j z (r:j<its2.toArray.size),EqAt A.in1 s its.toArray[j] its2.toArray[j] (gS xs ys j):=λj z r=>by
  obtain⟨a,o,q⟩:=f.get (j:=j) (u:=its.toArray[j]) (by simp)
  obtain⟨c,p,t⟩:=i.get (j:=j) (u:=its2.toArray[j]) (by simp)
  have:=x j a c _ _ o p q t
  unfold gS
  rw [o,p]
  exact this
 have y:=f.length
 have w:=i.length
 have e:((Ac4 (min its.toArray.size its2.toArray.size)).all (gS xs ys)&&its.toArray.size==its2.toArray.size)=M.GJ xs ys:=by
  rw [Aa9,Aa9,←y,←w]
  by_cases g:xs.length=ys.length
  ·rw [← g,Nat.min_self,zX xs ys g];simp
  ·rw [sv g];simp [g]
 have a:=RcAt.tuples k h n m
 have c:=RcNeAt.tuples k h n m
 rw [e]at a c
 refine⟨a,c,?_⟩
 by_cases d:l=b
 ·subst d
  cases QU k h
  cases bZ.inj f i
  rw [bZ.refl f]
  exact EqAt.same _
 ·exact EqAt.of_refs d a
def dn.of (h:dn A s u v b) (e:b=b'):dn A s u v b':=e▸h
def mz: ∀(n:Nat) (d e:M.D) (A:Around) (u v:Value),M.dep d<=n->A.units+n<cLine->RV s.heap d u->RV s.heap e v->dn A s u v (M.cR d e):=by
 intro n
 induction n with
 | zero=>
  intro d e A u v hd L m f
  have c:A.units<cLine:=by omega
  cases d with
  | az=>
   cases (show u= .none from m)
   cases e with
   | az=>cases (show v= .none from f);exact⟨RcAt.none_none,RcNeAt.none_none,EqAt.same _⟩
   | bl b=>cases (show v= .bool b from f);exact⟨RcAt.none_bool b,RcNeAt.none_bool b,EqAt.none_bool b⟩
   | int i=>obtain⟨t,rfl⟩:=f;exact⟨RcAt.none_int i t,RcNeAt.none_int i t,EqAt.none_int i t⟩
   | str z=>obtain⟨t,rfl⟩:=f;exact⟨RcAt.none_str _ t,RcNeAt.none_str _ t,EqAt.none_str _ t⟩
   | tup o=>obtain⟨a,k,rfl,p,_⟩:=f;exact⟨RcAt.none_tuple p c,RcNeAt.none_tuple p c,EqAt.none_tuple p c⟩
   | lst o=>obtain⟨a,k,rfl,p,_⟩:=f;exact⟨RcAt.none_list p c,RcNeAt.none_list p c,EqAt.none_list p c⟩
   | ref _=>exact f.elim
   | exc _ _=>exact f.elim
   | err _ _ _=>exact f.elim
  | bl x=>
   cases (show u= .bool x from m)
   cases e with
   | az=>cases (show v= .none from f);exact⟨RcAt.bool_none x,RcNeAt.bool_none x,EqAt.bool_none x⟩
   | bl b=>cases (show v= .bool b from f);exact⟨RcAt.bool_bool x b,RcNeAt.bool_bool x b,EqAt.bool_bool x b⟩
   | int i=>obtain⟨t,rfl⟩:=f;exact(dn.mk (RcAt.bool_int x i t) (RcNeAt.bool_int x i t) (EqAt.bool_int x i t)).of (by rw [lN];rfl)
   | str z=>obtain⟨t,rfl⟩:=f;exact⟨RcAt.bool_str x _ t,RcNeAt.bool_str x _ t,EqAt.bool_str x _ t⟩
   | tup o=>obtain⟨a,k,rfl,p,_⟩:=f;exact⟨RcAt.bool_tuple x p c,RcNeAt.bool_tuple x p c,EqAt.bool_tuple x p c⟩
   | lst o=>obtain⟨a,k,rfl,p,_⟩:=f;exact⟨RcAt.bool_list x p c,RcNeAt.bool_list x p c,EqAt.bool_list x p c⟩
   | ref _=>exact f.elim
   | exc _ _=>exact f.elim
   | err _ _ _=>exact f.elim
  | int x=>
   obtain⟨g,rfl⟩:=m
   cases e with
   | az=>cases (show v= .none from f);exact⟨RcAt.int_none x g,RcNeAt.int_none x g,EqAt.int_none x g⟩
   | bl b=>cases (show v= .bool b from f);exact(dn.mk (RcAt.int_bool x g b) (RcNeAt.int_bool x g b) (EqAt.int_bool x g b)).of (by rw [lN];rfl)
   | int i=>obtain⟨t,rfl⟩:=f;exact⟨RcAt.int_int x g i t,RcNeAt.int_int x g i t,EqAt.int_int x g i t⟩
   | str z=>obtain⟨t,rfl⟩:=f;exact⟨RcAt.int_str x g _ t,RcNeAt.int_str x g _ t,EqAt.int_str x g _ t⟩
   | tup o=>obtain⟨a,k,rfl,p,_⟩:=f;exact⟨RcAt.int_tuple x g p c,RcNeAt.int_tuple x g p c,EqAt.int_tuple x g p c⟩
   | lst o=>obtain⟨a,k,rfl,p,_⟩:=f;exact⟨RcAt.int_list x g p c,RcNeAt.int_list x g p c,EqAt.int_list x g p c⟩
   | ref _=>exact f.elim
   | exc _ _=>exact f.elim
   | err _ _ _=>exact f.elim
  | str x=>
   obtain⟨g,rfl⟩:=m
   cases e with
   | az=>cases (show v= .none from f);exact⟨RcAt.str_none _ g,RcNeAt.str_none _ g,EqAt.str_none _ g⟩
   | bl b=>cases (show v= .bool b from f);exact⟨RcAt.str_bool _ g b,RcNeAt.str_bool _ g b,EqAt.str_bool _ g b⟩
   | int i=>obtain⟨t,rfl⟩:=f;exact⟨RcAt.str_int _ g i t,RcNeAt.str_int _ g i t,EqAt.str_int _ g i t⟩
   | str z=>obtain⟨t,rfl⟩:=f;exact(dn.mk (RcAt.str_str _ g _ t) (RcNeAt.str_str _ g _ t) (EqAt.str_str _ g _ t)).of (by rw [oD];rfl)
   | tup o=>obtain⟨a,k,rfl,p,_⟩:=f;exact⟨RcAt.str_tuple _ g p c,RcNeAt.str_tuple _ g p c,EqAt.str_tuple _ g p c⟩
   | lst o=>obtain⟨a,k,rfl,p,_⟩:=f;exact⟨RcAt.str_list _ g p c,RcNeAt.str_list _ g p c,EqAt.str_list _ g p c⟩
   | ref _=>exact f.elim
   | exc _ _=>exact f.elim
   | err _ _ _=>exact f.elim
  | tup y=>simp only [M.dep]at hd;omega
  | lst y=>simp only [M.dep]at hd;omega
  | ref _=>exact m.elim
  | exc _ _=>exact m.elim
  | err _ _ _=>exact m.elim
 | succ n w=>
  intro d e A u v hd L m f
  have c:A.units<cLine:=by omega
  cases d with
  | tup y=>
   obtain⟨l,B,rfl,h,F⟩:=m
   have r:M.GS y<=n:=by simp only [M.dep]at hd;omega
   cases e with
   | az=>cases (show v= .none from f);exact⟨RcAt.tuple_none h c,RcNeAt.tuple_none h c,EqAt.tuple_none h c⟩
   | bl b=>cases (show v= .bool b from f);exact⟨RcAt.tuple_bool b h c,RcNeAt.tuple_bool b h c,EqAt.tuple_bool b h c⟩
   | int i=>obtain⟨t,rfl⟩:=f;exact⟨RcAt.tuple_int i t h c,RcNeAt.tuple_int i t h c,EqAt.tuple_int i t h c⟩
   | str z=>obtain⟨t,rfl⟩:=f;exact⟨RcAt.tuple_str _ t h c,RcNeAt.tuple_str _ t h c,EqAt.tuple_str _ t h c⟩
   | tup o=>
    obtain⟨a,k,rfl,p,q⟩:=f
    rw [M.cR]
    exact w9 h p F q c λj J C D I H K E G=>(w J C A.in1 D I (Ac1 (xB H) r) (by show A.units+1+n<cLine;omega) E G).eq
   | lst o=>obtain⟨a,k,rfl,p,_⟩:=f;exact⟨RcAt.tuple_list h p c,RcNeAt.tuple_list h p c,EqAt.tuple_list h p c⟩
   | ref _=>exact f.elim
   | exc _ _=>exact f.elim
   | err _ _ _=>exact f.elim
  | lst y=>
   obtain⟨l,B,rfl,h,F⟩:=m
   have r:M.GS y<=n:=by simp only [M.dep]at hd;omega
   cases e with
   | az=>cases (show v= .none from f);exact⟨RcAt.list_none h c,RcNeAt.list_none h c,EqAt.list_none h c⟩
   | bl b=>cases (show v= .bool b from f);exact⟨RcAt.list_bool b h c,RcNeAt.list_bool b h c,EqAt.list_bool b h c⟩
   | int i=>obtain⟨t,rfl⟩:=f;exact⟨RcAt.list_int i t h c,RcNeAt.list_int i t h c,EqAt.list_int i t h c⟩
   | str z=>obtain⟨t,rfl⟩:=f;exact⟨RcAt.list_str _ t h c,RcNeAt.list_str _ t h c,EqAt.list_str _ t h c⟩
   | lst o=>
    obtain⟨a,k,rfl,p,q⟩:=f
    rw [M.cR]
    exact Ct h p F q c λj J C D I H K E G=>(w J C A.in1 D I (Ac1 (xB H) r) (by show A.units+1+n<cLine;omega) E G).eq
   | tup o=>obtain⟨a,k,rfl,p,_⟩:=f;exact⟨RcAt.list_tuple h p c,RcNeAt.list_tuple h p c,EqAt.list_tuple h p c⟩
   | ref _=>exact f.elim
   | exc _ _=>exact f.elim
   | err _ _ _=>exact f.elim
  | az=>exact w .az e A u v (by simp) (by omega) m f
  | bl x=>exact w _ e A u v (by simp) (by omega) m f
  | int x=>exact w _ e A u v (by simp) (by omega) m f
  | str x=>exact w _ e A u v (by simp) (by omega) m f
  | ref _=>exact m.elim
  | exc _ _=>exact m.elim
  | err _ _ _=>exact m.elim
end
def ar (Z:Ge) (E:XK) (G:Gh) (H:Hp) (r:M.R M.W) (Q:VK):Prop:=ak Z E G H r λw _ G' H'=> ∀v,aq Z G' H' w v->aD [] [] H w v->Q v H'
section
variable {X:Cx}{Z:Ge}{G:Gh}{H:Hp}{h:M.AH}{y8:List (Addr×Obj)}{U:St}{s:Shared}{Q:VK}{E:XK}
theorem ar.v (p:ar Z E G H (.ok (.v d) h) Q) (a:aj Z G h H){v:V}(z:aB Z G H d v):Q v H:=p G H Ext.refl a v z trivial
def aj.iZ (c:aj Z G h H)(b:H a=u0): ¬G.fz a:=λq=>by
 obtain⟨o,z⟩:=c.live a q
 rw [b]at z;cases z
def aj.kc (c:aj Z G h H)(b:H a=u0):dA G a:=λr d e=>by
 obtain⟨o,q⟩:=c.there d
 rw [e,b]at q;cases q
theorem ar.own (p:ar Z E G H (.ok (.own xs) h) Q) (c:aj Z G h H) (z:ae Z G H xs vs) (a) (b:H a=u0):Q (.ref a) (aP H a (.lst vs)):=
 p G _ (zG _ b) (c.new _ b) _ ⟨a,vs,rfl,c.iZ b,c.kc b,We,z.ext (zG _ b) c⟩ ⟨a,rfl,b⟩
theorem ar.tup (p:ar Z E G H (.ok (.v (.tup xs)) h) Q) (c:aj Z G h H) (z:ae Z G H xs vs) (a) (b:H a=u0):Q (.ref a) (aP H a (.tup vs)):=
 p _ _ (QA _ b) (c.kf _ b) _ ⟨a,vs,rfl,.inl ⟨.inr rfl,We⟩,z.ext (QA _ b) c⟩ trivial
theorem ar.of (p:ar Z E G H ((M.R.of h o).bind f) Q): ∃b,o=y0 b/\ar Z E G H (f b h) Q:=ak.of p
def ar.mk (p:ak Z E G0 H0 r λw _ G' H'=> ∀v,aq Z G' H' w v->aD Y U H0 w v->Q v H') (e:Ext G0 H0 G H) (f:aj Z G0 h0 H0):ar Z E G H r Q:=by
 cases r with
 | ok w j=>
  refine λG' H' c b v l h=>p G' H' (e.trans f c) b v l ?_
  cases w with
  | v d=>trivial
  | own m=>obtain⟨a,g,k⟩:=h;exact⟨a,g,e.none f k⟩
  | bor m=>obtain⟨i,w,g,_⟩:=h;simp at g
 | exc d j=>exact λG' H' c b=>p G' H' (e.trans f c) b
 | fail=>exact p
theorem aq.lst (j:aj Z G h H)(z:aq Z G H w v) (e:w.bg h=y0 xs): ∃a vs,v= .ref a/\a9 Z.K H a vs/\ae Z G H xs vs:=by
 cases w with
 | v d=>
  cases d with
  | lst i=>cases e;obtain⟨a,vs,b,f,g⟩:=z;exact⟨a,vs,b,f.sq,g⟩
  | ref r=>
   obtain⟨l,b⟩:=z
   have e:(match h[r]? with | some (M.Cell.lst zs)=>y0 zs | _=>u0)=y0 xs:=e
   cases q:h[r]? with
   | none=>rw [q]at e;cases e
   | some c=>
    cases c with
    | lst i=>
     rw [q]at e
     cases e
     obtain⟨_,vs,f,g⟩:=j.cell r _ q
     exact⟨_,vs,b,a9.of f,g⟩
    | gF k=>rw [q]at e;cases e
    | obj c fs=>rw [q]at e;cases e
    | gZ k=>rw [q]at e;cases e
  | az=>cases e
  | bl _=>cases e
  | int _=>cases e
  | str _=>cases e
  | tup _=>cases e
  | exc _ _=>cases e
  | err _ _ _=>cases e
 | own i=>cases e;obtain⟨a,vs,b,_,_,f,g⟩:=z;exact⟨a,vs,b,a9.of f,g⟩
 | bor i=>cases e;obtain⟨a,vs,b,_,f,g⟩:=z;exact⟨a,vs,b,.inl f,g⟩
theorem aq.nH (j:aj Z G h H)(z:aq Z G H w v) (e:w.gm h=y0 xs): ∃a vs,v= .ref a/\Rd H a (.lst vs)/\ae Z G H xs vs:=by
 cases w with
 | v d=>
  cases d with
  | ref r=>
   obtain⟨l,b⟩:=z
   have e:(match h[r]? with | some (M.Cell.lst zs)=>y0 zs | _=>u0)=y0 xs:=e
   cases q:h[r]? with
   | none=>rw [q]at e;cases e
   | some c=>
    cases c with
    | lst i=>
     rw [q]at e
     cases e
     obtain⟨_,vs,f,g⟩:=j.cell r _ q
     exact⟨_,vs,b,.inl f,g⟩
    | gF k=>rw [q]at e;cases e
    | obj c fs=>rw [q]at e;cases e
    | gZ k=>rw [q]at e;cases e
  | _=>cases e
 | own i=>cases e;obtain⟨a,vs,b,_,_,f,g⟩:=z;exact⟨a,vs,b,.inl f,g⟩
 | bor i=>cases e;obtain⟨a,vs,b,_,f,g⟩:=z;exact⟨a,vs,b,f,g⟩
theorem aq.seq (j:aj Z G h H)(z:aq Z G H w v) (e:w.seq? h=y0 xs): ∃a vs,v= .ref a/\(a9 Z.K H a vs\/b8 Z.K H a vs)/\ae Z G H xs vs:=by
 have b:w.bg h=y0 xs-> ∃a vs,v= .ref a/\(a9 Z.K H a vs\/b8 Z.K H a vs)/\ae Z G H xs vs:=λe=>by
  obtain⟨a,vs,c,g,i⟩:=z.lst j e
  exact⟨a,vs,c,.inl g,i⟩
 cases w with
 | v d=>
  cases d with
  | tup f=>cases e;obtain⟨a,vs,c,g,i⟩:=z;exact⟨a,vs,c,.inr g.sq,i⟩
  | lst f=>exact b e
  | ref r=>exact b e
  | az=>cases e
  | bl _=>cases e
  | int _=>cases e
  | str _=>cases e
  | exc _ _=>cases e
  | err _ _ _=>cases e
 | own f=>exact b e
 | bor f=>exact b e
def vr (I:Inv X y8 U H s)(r:Rd H a (.lst vs)):vs.length<=sizeLine/\ ∃ i n,Vals vs i/\vs.length=i.length/\s.heap.get? a=y0 { cls:= .type "list",data:= .seq i.toArray n }:=by
 obtain⟨z,i,n,r,e⟩:=r.ok I.aR
 exact⟨z,i,n,r,r.length,e⟩
def Xh:M.aW<=sizeLine:=by rw [M.Gc];decide
def BB (K:Aa6):R2:=λx y H Q=> ∃l b xs zs,x= .ref l/\y= .ref b/\a9 K H l xs/\a9 K H b zs/\xs.length+zs.length<=sizeLine/\ ∀p,H p=u0->Q (.ref p) (aP H p (.lst (xs++zs)))
def uC:bK X (binaryOp .Add) (BB X.K):=by
 intro m s U H x y v u Q I z J h
 obtain⟨l,b,O,L,rfl,rfl,F,C,N,q⟩:=h
 cases z
 cases J
 obtain⟨c,r,D,_⟩:=I.list F
 obtain⟨a,p,B,_⟩:=I.list C
 have M:=r.length
 have K:=p.length
 have G:c.toArray++a.toArray=(c++a).toArray:=by simp
 obtain⟨⟨w,dd,o,sl⟩,k,A,n,hd⟩:=id D.isList
 obtain⟨⟨t,g,e,f⟩,d,i,E,j⟩:=id B.isList
 subst A hd i j
 refine concat_meets ⟨_,k,rfl⟩ ⟨_,d,rfl⟩ noFill_list_add seq_list_add PySem.F.slot_list_add PySem.F.entry_list_add (PySem.F.args_list_add_2 _ _) (list_addW l b c.toArray a.toArray n E dd g sl f (by simp_all)) ⟨k,d,?_⟩
 rw [G]
 exact⟨.ref _,_,I.iY (r.append p) (by simp_all),rfl,q _ I.fresh⟩
def Fd:R2:=λx y H Q=> ∃l k xs,x= .ref l/\y= .int k/\Rd H l (.lst xs)/\ -(2 ^ 63)<=k/\k<2 ^ 63/\xs.length*k.toNat<=sizeLine ∧
 ∀p,H p=u0->Q (.ref p) (aP H p (.lst (Aa1 k.toNat xs).flatten))
def yU:bK X (binaryOp .Mult) Fd:=by
 intro j s U H x y v u Q I p G h
 obtain⟨l,k,M,rfl,rfl,C,J,A,o,q⟩:=h
 cases p
 obtain⟨t,rfl⟩:=G
 obtain⟨z,b,n,r,K,e⟩:=vr I C
 have f:b.toArray.size*k.toNat<=sizeLine:=by rw [Aa9,←K];exact o
 have i: ¬b.toArray.size*k.toNat>(2 ^ 63-1) / 8:=by
  have: sizeLine<=(2 ^ 63-1) / 8:=by decide
  lia
 have d: ¬(!Builtin.List.listFitsIndex k)=true:=by
  rw [fitsIndex_both J A]
  exact Ab4
 have c: ¬Builtin.List.listTooLong (b.toArray.size*k.toNat)=true:=by
  rw [j1 f]
  exact Ab4
 have g:List.foldl (λw D=>w++D) #[] (Aa1 (if b.toArray.isEmpty=k9 then 0 else k.toNat) b.toArray)=(Aa1 k.toNat b).flatten.toArray:=by
  have B:=λm=>by
   have:=XQ b m []
   rw [Ad8]at this
   exact this
  rw [B]
  cases b with
  | nil=>simp
  | cons a L=>rw [if_neg (by simp)]
 refine wpAny_binaryOp_repeat_ref rfl ⟨_,e,rfl⟩ (λE=>typeIs_int E k t) noFill_list_mul F.fills_int_mul F.slot_int_rmul repeat_list F.slot_int_index.lookup
  (call_meets F.slot_int_rmul (typeIs_int s k t) F.entry_int_rmul (F.args_int_rmul_2 _ _) (int___rmul___int_list k t l b.toArray n)
    ⟨e,rfl,⟨_,e,rfl⟩,call_meets F.slot_list_mul ⟨_,e,rfl⟩ F.entry_list_mul (F.args_list_mul_2 _ _) (AutoListH.list___mul___list_int_3 l b.toArray n k t d i c) ⟨e,?_⟩⟩)
 rw [g]
 exact⟨.ref _,_,I.iY (r.rep k.toNat) (by rw [A6,Nat.mul_comm];exact o),rfl,q _ I.fresh⟩
theorem ae.rep (z:ae Z G H ds vs): ∀k:Nat,ae Z G H (Aa1 k ds).flatten (Aa1 k vs).flatten
 | 0=>rfl
 | k+1=>by
  exact z.append (ae.rep z k)
noncomputable def lR:M.Op->Operator
 | .add=> .Add | .sub=> .Sub | .mul=> .Mult | .fdiv=> .FloorDiv | .mod=> .Mod | .pow=> .Pow | .shl=> .LShift | .shr=> .RShift | .band=> .BitAnd | .bor=> .BitOr | .bxor=> .BitXor
def vj (Z:Ge) (E:XK) (o:M.Op):R2:=λx y H Q=> ∃G h b a,aj Z G h H/\aq Z G H b x/\aq Z G H a y/\ar Z E G H (M.GA o b a h) Q
def qo (s t):aw s++aw t=aw (s++t):=by
 show Str.mk _=Str.mk _
 simp [aw]
def jc (s):(aw s).length=s.length:=by
 show s.toArray.size=s.length
 simp
def lF:M.Op->Bool
 | .shl=>y9
 | .shr=>y9
 | .band=>y9
 | .bor=>y9
 | .bxor=>y9
 | _=>k9
def Cj (d:lF o=k9)(e:M.Gi o i j=y0 k)(I:Inv X y8 U H s) (a:RelV (.int i) v) (b:RelV (.int j) u) (q:Q (.int k) H):
 wpAny (model X.prog X.w) X.A (binaryOp (lR o) v u) (EP X y8 U Q) X.xe s:=by
 cases o with
 | add=>cases e;exact EG y8 s U H _ _ v u Q I a b ⟨i,j,rfl,rfl,q⟩
 | sub=>cases e;exact Dw y8 s U H _ _ v u Q I a b ⟨i,j,rfl,rfl,q⟩
 | mul=>
  simp only [M.Gi,M.GR,M.GM]at e
  split at e
  ·rename_i c;cases e;exact Br y8 s U H _ _ v u Q I a b ⟨i,j,rfl,rfl,c,q⟩
  ·cases e
 | fdiv=>
  simp only [M.Gi,M.Ke,M.GM]at e
  split at e
  ·rename_i c;cases e;exact An y8 s U H _ _ v u Q I a b ⟨i,j,rfl,rfl,c,q⟩
  ·cases e
 | mod=>
  simp only [M.Gi,M.GM]at e
  split at e
  ·rename_i c;cases e;exact vp y8 s U H _ _ v u Q I a b ⟨i,j,rfl,rfl,c,q⟩
  ·cases e
 | pow=>
  simp only [M.Gi,M.Kq,M.GM]at e
  split at e
  ·rename_i c;cases e;exact Ed y8 s U H _ _ v u Q I a b ⟨i,j,rfl,rfl,c,q⟩
  ·cases e
 | shl=>cases d
 | shr=>cases d
 | band=>cases d
 | bor=>cases d
 | bxor=>cases d
theorem aq.int (z:aq Z G H w v) (e:w.int? =y0 i):v= .int i:=by
 cases w with
 | v d=>
  cases d with
  | int j=>cases e;exact z
  | _=>cases e
 | _=>cases e
theorem aq.str (z:aq Z G H w v) (e:w.a0 =y0 i):v= .str (aw i):=by
 cases w with
 | v d=>
  cases d with
  | str j=>cases e;exact z
  | _=>cases e
 | _=>cases e
theorem aq.tup (z:aq Z G H w v) (e:w.en =y0 xs): ∃a vs,v= .ref a/\e6 Z G H a vs/\ae Z G H xs vs:=by
 cases w with
 | v d=>
  cases d with
  | tup j=>cases e;exact z
  | _=>cases e
 | _=>cases e
def ya (o) (R:lF o=k9) (B:X.K=Z.K):bK X (binaryOp (lR o)) (vj Z E o):=by
 intro d s U H x y v u Q I n r ⟨G,h,T,V,g,A,C,p⟩
 have S:=Xh
 unfold M.GA at p
 split at p
 ·rename_i i j l f
  obtain⟨k,e,p⟩:=p.of
  cases A.int l
  cases C.int f
  exact Cj R e I n r (p.v g rfl)
 ·split at p
  · -- add
    unfold M.KC at p
    split at p
    ·rename_i a b l f
     cases A.str l
     cases C.str f
     split at p
     ·rename_i c
      exact j9 d s U H _ _ v u Q I n r ⟨_,_,rfl,rfl,by rw [jc,jc];lia,by rw [qo];exact p.v g rfl⟩
     ·exact p.elim
    ·split at p
     ·rename_i N O l f
      obtain⟨a,t,rfl,q,m⟩:=A.tup l
      obtain⟨b,K,rfl,F,w⟩:=C.tup f
      split at p
      ·rename_i c
       have L:=m.length
       have P:=w.length
       by_cases ex:t= []
       ·subst ex
        have:N= []:=Ag3 L
        subst this
        exact t8 d s U H _ _ v u Q I n r ⟨a,b,K,rfl,rfl,B▸q.sq,B▸F.sq,p.v g ⟨b,K,rfl,F,w⟩⟩
       refine E9 d s U H _ _ v u Q I n r ⟨a,b,t,K,rfl,rfl,B▸q.sq,B▸F.sq,ex,by lia,λe=> ?_,λe J D=>p.tup g (m.append w) J D⟩
       ·subst e
        have:O= []:=Ag3 P
        subst this
        rw [Ac5]at p
        exact p.v g ⟨a,t,rfl,q,m⟩
      ·exact p.elim
     ·split at p
      ·rename_i N O l f
       obtain⟨a,t,rfl,q,m⟩:=A.lst g l
       obtain⟨b,K,rfl,F,w⟩:=C.lst g f
       unfold M.KA at p
       split at p
       ·have L:=m.length
        have P:=w.length
        exact uC d s U H _ _ v u Q I n r ⟨a,b,t,K,rfl,rfl,B▸q,B▸F,by lia,λJ D=>p.own g (m.append w) J D⟩
       ·exact p.elim
      ·exact p.elim
  · -- mul
    unfold M.KB at p
    split at p
    ·rename_i z j l f
     cases A.str l
     cases C.int f
     split at p
     ·rename_i c
      rw [M.Gc]at c
      refine BR d s U H _ _ v u Q I n r ⟨_,j,rfl,rfl,c.1,c.2.1,by rw [jc];exact c.2.2,?_⟩
      have e:gg (aw z) j.toNat=aw (Aa1 j.toNat z).flatten:=by
       apply rL
       rw [zD]
       rfl
      rw [e]
      exact p.v g rfl
     ·exact p.elim
    split at p
    ·rename_i N j l f
     obtain⟨a,t,rfl,q,m⟩:=A.nH g l
     cases C.int f
     unfold M.Ks at p
     split at p
     ·rename_i c
      have L:=m.length
      exact yU d s U H _ _ v u Q I n r ⟨a,j,t,rfl,rfl,q,by lia,by lia,by rw [← L];lia,λJ D=>p.own g (m.rep j.toNat) J D⟩
     ·exact p.elim
    ·exact p.elim
  ·exact p.elim
noncomputable def eL:M.Cp->CmpOp
 | .eq=> .Eq | .ne=> .NotEq | .lt=> .Lt | .le=> .LtE | .gt=> .Gt | .ge=> .GtE | .mem=> .In | .cH=> .NotIn | .nV=> .Is
def g6 (Z:Ge) (o:M.Cp):R2:=λx y H Q=> ∃G h c a b,aj Z G h H/\aq Z G H c x/\aq Z G H a y/\M.Gw o c a h=y0 b/\Q (.bl b) H
def ZI:M.Cp->Bool
 | .mem=>k9
 | .cH=>k9
 | _=>k9
def vh (e:M.Ko o i j=y0 b)(I:Inv X y8 U H s) (a:RelV (.int i) v) (c:RelV (.int j) u) (q:Q (.bl b) H):
 wpAny (model X.prog X.w) X.A (compareOp (eL o) v u) (EP X y8 U Q) X.xe s:=by
 cases o with
 | lt=>cases e;exact Dz y8 s U H _ _ v u Q I a c ⟨i,j,rfl,rfl,q⟩
 | le=>cases e;exact Hn y8 s U H _ _ v u Q I a c ⟨i,j,rfl,rfl,q⟩
 | gt=>cases e;exact BC y8 s U H _ _ v u Q I a c ⟨i,j,rfl,rfl,q⟩
 | ge=>cases e;exact Bt y8 s U H _ _ v u Q I a c ⟨i,j,rfl,rfl,q⟩
 | _=>cases e
def A8 (g:X.K=Z.K)(j:aV k X.A):bK X (compareOp .Eq) (g6 Z .eq):=by
 intro d s U H x y v u Q I i n ⟨G,h,o,p,b,f,l,m,e,q⟩
 simp only [M.Gw]at e
 split at e
 ·rename_i c
  cases e
  have a:=by simpa [M.G8]using c
  exact(mz 150 _ _ X.A v u (by lia) (by have:=j.un;lia) (l.rv I g f i a.1.1) (m.rv I g f n a.1.2)).rc _ _ _ _ ⟨.bl _,H,I,rfl,q⟩
 ·cases e
def y4 (g:X.K=Z.K)(j:aV k X.A):bK X (compareOp .NotEq) (g6 Z .ne):=by
 intro d s U H x y v u Q I i n ⟨G,h,o,p,b,f,l,m,e,q⟩
 simp only [M.Gw]at e
 split at e
 ·rename_i c
  cases e
  have a:=by simpa [M.G8]using c
  exact(mz 150 _ _ X.A v u (by lia) (by have:=j.un;lia) (l.rv I g f i a.1.1) (m.rv I g f n a.1.2)).ne _ _ _ _ ⟨.bl _,H,I,rfl,q⟩
 ·cases e
end
def PE.imp (h:PE X e t) (k: ∀U H Q,t' U H Q->t U H Q):PE X e t':=λa s U H Q I q=>h a s U H Q I (k _ _ _ q)
def PT.imp (h:PT X e t) (k: ∀U H Q,t' U H Q->t U H Q):PT X e t':=λa s U H Q I q=>h a s U H Q I (k _ _ _ q)
def PA.imp (h:PA X e t) (k: ∀U H Q,t' U H Q->t U H Q):PA X e t':=λb a s U H Q I q=>h b a s U H Q I (k _ _ _ q)
section
variable {X:Cx}{Z:Ge}{G:Gh}{H:Hp}{h:M.AH}{y8:List (Addr×Obj)}{U:St}{s:Shared}{Q:VK}{E:XK}
def aU.one (z:aU Z G H [w] vs): ∃v,vs= [v]/\aq Z G H w v:=by
 obtain⟨v,r,rfl,a,b⟩:=z
 cases (show r= []from b)
 exact⟨v,rfl,a⟩
def aU.two (z:aU Z G H [w,w'] vs): ∃v i,vs= [v,i]/\aq Z G H w v/\aq Z G H w' i:=by
 obtain⟨v,r,rfl,a,b⟩:=z
 obtain⟨i,rfl,c⟩:=b.one
 exact⟨v,i,rfl,a,c⟩
def nB (Z:Ge) (E:XK) (b:M.Bi):List V->Hp->VK->Prop:=λxs H Q=> ∃G h a,aj Z G h H/\aU Z G H a xs/\ar Z E G H (M.cU b a h) Q
def lS {K:Aa6}(h:a9 K H a vs\/b8 K H a vs):a9 K H a vs\/b8 K H a vs:=h
def lz:M.Bi->Bool
 | .len=>k9 | .int=>k9 | .list=>k9 | .tuple=>k9 | .sum=>k9 | .all=>k9 | .sorted=>k9
 | _=>y9
noncomputable def lW:M.Bi->Value
 | .len=> .builtin "len" | .int=> .type "int" | .list=> .type "list" | .tuple=> .type "tuple" | .sum=> .builtin "sum" | .all=> .builtin "all" | .any=> .builtin "any"
 | .sorted=> .builtin "sorted" | .divmod=> .builtin "divmod" | .str=> .type "str" | .min=> .builtin "min" | .max=> .builtin "max" | .abs=> .builtin "abs"
def ar.of2 {f:α->β->M.AH->M.R M.W}(p:ar Z E G H ((M.R.of h o).bind λa h=>(M.R.of h o').bind λb h=>f a b h) Q): ∃a b,o=y0 a/\o'=y0 b/\ar Z E G H (f a b h) Q:=by
 obtain⟨a,e,p⟩:=p.of
 obtain⟨b,c,p⟩:=p.of
 exact⟨a,b,e,c,p⟩
theorem sx : ∀ {xs}{vs}{bs},M.G9 xs=y0 bs->ae Z G H xs vs->vs=bs.map V.bl
 | [],_,_,e,z=>by cases e;exact z
 | x::xs,_,bs,e,⟨v,r,c,d,f⟩=>by
  subst c
  cases x with
  | bl b=>
   obtain⟨g,a,rfl⟩:=Ad4.mp (e)
   cases (d)
   rw [sx a f];rfl
  | _=>cases e
theorem sJ : ∀ {xs}{vs}{n},M.Kn xs=y0 n->ae Z G H xs vs-> ∃ns:List Int,vs=ns.map V.int/\n=eZ ns
 | [],_,_,e,z=>by cases e;exact⟨[],z,rfl⟩
 | x::xs,_,n,e,⟨v,r,f,c,d⟩=>by
  subst f
  cases x with
  | int i=>
   have e:=e
   obtain⟨k,b,rfl⟩:=Ad4.mp e
   obtain⟨ns,g,a⟩:=sJ b d
   cases (c)
   exact⟨i::ns,by rw [g];rfl,by rw [a];rfl⟩
  | _=>cases e
theorem Zw : ∀ {xs}{vs}{ns},M.GI xs=y0 ns->ae Z G H xs vs->vs=(ns.map aw).map V.str
 | [],_,_,e,z=>by cases e;exact z
 | x::xs,_,ns,e,⟨v,r,c,d,f⟩=>by
  subst c
  cases x with
  | str b=>
   obtain⟨g,a,rfl⟩:=Ad4.mp (e)
   cases (show v= .str (aw b)from d)
   rw [Zw a f];rfl
  | _=>cases e
theorem jO : ∀(ts:List M.Tx),ae Z G H (ts.map .str) ((ts.map aw).map V.str)
 | []=>rfl
 | t::ts=>⟨_,_,rfl,rfl,jO ts⟩
theorem oz (x): ∀ {ys},ys.Pairwise (λa b=> ¬b<a)->(M.GP x ys).Pairwise (λa b=> ¬b<a)
 | [],_=>Aj9 _ _
 | y::ys,h=>by
  have e:=Af.mp h
  unfold M.GP
  split
  ·rename_i q
   refine Af.mpr ⟨λz d=> ?_,oz x e.2⟩
   have:z=x\/z∈ys:=by
    have f: ∀ {x}{ys},z∈M.GP x ys->z=x\/z∈ys:=by
     intro x ys
     induction ys with
     | nil=>intro h;simp [M.GP]at h;exact .inl h
     | cons y ys g=>
      intro h
      unfold M.GP at h
      split at h
      ·rcases Aa.mp h with h | h
       ·exact .inr (h▸Aa4)
       ·exact(g h).imp id (Aa5 _)
      ·rcases Aa.mp h with h | h
       ·exact .inl h
       ·exact .inr h
    exact f d
   rcases this with rfl | d
   ·exact λc=>List.lt_irrefl _ (List.lt_trans c q)
   ·exact e.1 z d
  ·rename_i q
   refine Af.mpr ⟨λz d=> ?_,h⟩
   rcases Aa.mp d with rfl | d
   ·exact q
   ·exact List.le_trans q (e.1 z d)
theorem rj: ∀xs:List M.Tx,(M.Gg xs).Pairwise (λa b=> ¬b<a)
 | []=> .nil
 | x::xs=>oz x (rj xs)
theorem Wr (x): ∀ys:List M.Tx,(M.GP x ys).Perm (x::ys)
 | []=> .refl _
 | y::ys=>by
  unfold M.GP
  by_cases q:y<x
  ·rw [if_pos q]
   exact((Wr x ys).cons y).trans (.swap x y ys)
  ·rw [if_neg q]
theorem xb: ∀xs:List M.Tx,(M.Gg xs).Perm xs
 | []=> .refl _
 | x::xs=>(Wr x (M.Gg xs)).trans ((xb xs).cons x)
theorem tr: ∀ {l}{p},risingS p l=k9->(p::l).Pairwise (λa b=> ¬b.cps.toList<a.cps.toList)
 | [],p,_=>Aj9 _ _
 | x::r,p,h=>by
  have h:(!ltCps x.cps.toList p.cps.toList&&risingS x r)=true:=h
  rw [Ab2,ltCps_eq]at h
  have d:=by simpa using h.1
  have e:=tr h.2
  refine Af.mpr ⟨λz c=> ?_,e⟩
  rcases Aa.mp c with rfl | c
  ·exact d
  ·exact List.le_trans d ((Af.mp e).1 z c)
def Fu (s):aw s.cps.toList=s:=by cases s;simp [aw]
def wR (h:ss.Perm (ts.map aw)) (c:sortedS ss=k9):ss=(M.Gg ts).map aw:=by
 have f:=by
  have:=h.map (λs=>s.cps.toList)
  rw [Af0]at this
  have e:((λs:Str=>s.cps.toList)∘aw)=id:=by funext t;simp [aw]
  rw [e,List.map_id]at this
  exact this
 have d:(ss.map λs=>s.cps.toList).Pairwise (λa b=> ¬b<a):=by
  rw [Al2]
  cases ss with
  | nil=>exact .nil
  | cons p l=>exact tr c
 have g:=List.Perm.eq_of_pairwise (λa b _ _ x y=>List.le_antisymm x y) d (rj ts) (f.trans (xb ts).symm)
 rw [← g,Af0]
 have e:(aw∘λs:Str=>s.cps.toList)=id:=by funext t;exact Fu t
 rw [e,List.map_id]
def u3 (b) (x:lz b=k9) (A:X.K=Z.K) (L:X.calm=k9):Js X (lW b) (nB Z E b):=by
 intro c s U H xs u Q I r ⟨G,h,Y,f,J,p⟩
 have hL:=Xh
 unfold M.cU at p
 split at p
 ·rename_i w
  obtain⟨v,rfl,z⟩:=J.one
  cases b with
  | len=>
   simp only [M.iL]at p
   split at p
   ·rename_i y e
    cases z.str e
    split at p
    ·exact JU c s U H _ u Q I r ⟨_,rfl,by rw [jc];omega,by rw [jc];exact p.v f rfl⟩
    ·exact p.elim
   ·obtain⟨C,e,p⟩:=p.of
    obtain⟨a,o,rfl,g,m⟩:=z.seq f e
    refine wT c s U H _ u Q I r ⟨a,o,rfl,A▸lS g,?_⟩
    rw [← m.length]
    exact p.v f rfl
  | int=>
   simp only [M.iL]at p
   split at p
   ·cases (z)
    exact zU c s U H _ u Q I r (.inl ⟨_,rfl,p.v f rfl⟩)
   ·rename_i k
    cases (z)
    refine zU c s U H _ u Q I r (.inr ⟨_,rfl,?_⟩)
    have:=p.v f rfl
    cases k<;>exact this
   ·exact p.elim
  | list=>
   obtain⟨C,e,p⟩:=p.of
   obtain⟨a,o,rfl,g,m⟩:=z.seq f e
   exact xU c s U H _ u Q I r ⟨a,o,rfl,A▸lS g,λl t=>p.own f m l t⟩
  | tuple=>
   obtain⟨C,e,D⟩:=p.of
   clear p
   cases w with
   | v d=>
    cases d with
    | tup K=>
     cases e
     obtain⟨a,o,rfl,g,m⟩:=z
     exact Wg c s U H _ u Q I r ⟨a,o,rfl,.inr ⟨A▸g.sq,D.v f ⟨a,o,rfl,g,m⟩⟩⟩
    | lst K=>
     obtain⟨a,o,rfl,g,m⟩:=aq.lst f z e
     exact Wg c s U H _ u Q I r ⟨a,o,rfl,.inl ⟨A▸g,λl t=>D.tup f m l t⟩⟩
    | ref q=>
     obtain⟨a,o,rfl,g,m⟩:=aq.lst f z e
     exact Wg c s U H _ u Q I r ⟨a,o,rfl,.inl ⟨A▸g,λl t=>D.tup f m l t⟩⟩
    | az=>cases e
    | bl _=>cases e
    | int _=>cases e
    | str _=>cases e
    | exc _ _=>cases e
    | err _ _ _=>cases e
   | own K=>
    obtain⟨a,o,rfl,g,m⟩:=aq.lst f z e
    exact Wg c s U H _ u Q I r ⟨a,o,rfl,.inl ⟨A▸g,λl t=>D.tup f m l t⟩⟩
   | bor K=>
    obtain⟨a,o,rfl,g,m⟩:=aq.lst f z e
    exact Wg c s U H _ u Q I r ⟨a,o,rfl,.inl ⟨A▸g,λl t=>D.tup f m l t⟩⟩
  | divmod=>cases x
  | min=>cases x
  | max=>cases x
  | sum=>
   obtain⟨n,e,p⟩:=p.of
   obtain⟨C,F,B⟩:=Ac7.mp e
   split at B
   rotate_left
   ·cases B
   obtain⟨a,o,rfl,g,m⟩:=aq.lst f z F
   obtain⟨P,rfl,rfl⟩:=sJ B m
   exact F4 L c s U H _ u Q I r ⟨a,P,rfl,A▸g,p.v f rfl⟩
  | all=>
   simp only [M.iL]at p
   obtain⟨bs,e,p⟩:=p.of
   obtain⟨C,F,B⟩:=Ac7.mp e
   obtain⟨a,o,rfl,g,m⟩:=aq.lst f z F
   cases sx B m
   exact BX L c s U H _ u Q I r ⟨a,bs,rfl,A▸g,p.v f rfl⟩
  | any=>cases x
  | sorted=>
   simp only [M.iL]at p
   obtain⟨V,e,p⟩:=p.of
   obtain⟨C,F,B⟩:=Ac7.mp e
   obtain⟨a,o,rfl,g,m⟩:=aq.lst f z F
   cases Zw B m
   split at p
   ·rename_i t
    refine WR c s U H _ u Q I r ⟨a,V.map aw,rfl,A▸g,by rw [Ab1];exact t,λR O T l t=> ?_⟩
    rw [wR O T]
    exact p.own f (jO _) l t
   ·exact p.elim
  | str=>cases x
  | abs=>cases x
 ·rename_i w W
  obtain⟨v,v',rfl,z,S⟩:=J.two
  obtain⟨i,j,e,N,p⟩:=p.of2
  cases z.int e
  cases S.int N
  cases b with
  | divmod=>cases x
  | min=>cases x
  | max=>cases x
  | len=>exact p.elim
  | int=>exact p.elim
  | list=>exact p.elim
  | tuple=>exact p.elim
  | sum=>exact p.elim
  | all=>exact p.elim
  | any=>cases x
  | sorted=>exact p.elim
  | str=>cases x
  | abs=>cases x
 ·exact p.elim
noncomputable def eP:M.Ty->String
 | .az=> "NoneType" | .bool=> "bool" | .int=> "int" | .str=> "str" | .list=> "list" | .tuple=> "tuple"
def qv (K): ∀ u t,t≠ .az->PySem.W.kitOne K (.type (eP u)) (.type (eP t))=y0 (M.Ty.le u t):=by
 intro u t a
 cases u<;>cases t<;>first | exact absurd rfl a | kernel_rfl
def Cz (Z:Ge):List V->Hp->VK->Prop:=λxs H Q=> ∃G h w x t b,xs= [x,.ty (eP t)]/\t≠ .az/\aj Z G h H/\aq Z G H w x/\M.cu t w=y0 b/\Q (.bl b) H
def EM (D:X.K=Z.K):Js X (.builtin "isinstance") (Cz Z):=by
 intro k s U H S R Q I r ⟨G,h,w,x,t,b,E,j,O,z,e,q⟩
 subst E
 obtain⟨u,N,rfl,g,L⟩:=rF r
 cases L
 have fin: ∀tk,EP X k U Q _ { s with toks:=tk }:=λtk=>⟨.bl b,H,I.tok tk,rfl,q⟩
 have lst: ∀ {a}{m},x= .ref a->Rd H a (.lst m)->M.Ty.le .list t=b->wpAny (model X.prog X.w) X.A (call (.builtin "isinstance") [u,.type (eP t)]) (EP X k U Q) X.xe s:=by
  intro a m ex rd K
  subst ex K
  obtain rd | ⟨o,rd⟩:=rd
  ·exact Jk I g (.lst rd) (qv _ .list t j) fin
  ·exact Jk I g (.dM rd) (qv _ .list t j) fin
 cases w with
 | v d=>
  cases d with
  | az=>cases e;cases (z);exact Jk I g .az (qv _ .az t j) fin
  | bl c=>cases e;cases (z);exact Jk I g (.bl c) (qv _ .bool t j) fin
  | int i=>cases e;cases (z);exact Jk I g (.int i) (qv _ .int t j) fin
  | str y=>cases e;cases (z);exact Jk I g (.str _) (qv _ .str t j) fin
  | tup p=>
   cases e
   obtain⟨a,m,rfl,f,F⟩:=z
   obtain⟨_,f⟩ | ⟨o,B,n,A,C,J,_⟩:=f
   ·exact Jk I g (.tup f) (qv _ .tuple t j) fin
   ·cases g
    exact Ae1 PySem.W.kitx_tuple I.b0 ⟨o,I.b0 a o (D▸A),C⟩ (qv _ .tuple t j) (λz=>nomatch z) fin
  | lst p=>
   cases e
   obtain⟨a,m,l,f,F⟩:=z
   obtain f | ⟨o,B,n,A,C,J,_⟩:=f
   ·exact lst l f.2 rfl
   ·subst l
    cases g
    exact Ae1 Al I.b0 ⟨o,I.b0 a o (D▸A),C⟩ (qv _ .list t j) (λz=>nomatch z) fin
  | ref P=>cases e
  | exc c fs=>cases e
  | err _ _ _=>cases e
 | own p=>cases e;obtain⟨a,m,l,_,_,f,_⟩:=z;exact lst l (.inl f) rfl
 | bor p=>cases e;obtain⟨a,m,l,_,f,_⟩:=z;exact lst l f rfl
def J1 (l:X.K=Z.K) (n:aj Z G h H)(z:aq Z G H w x) (e:M.GW h w=y0 b):gL X.K x H b:=by
 have lst: ∀ {a}{f}{g},x= .ref a->a9 X.K H a f->ae Z G H g f->(!g.isEmpty)=b->gL X.K x H b:=by
  intro a f g ex rd rs m
  subst ex m
  refine .inl ⟨f,rd,?_⟩
  cases g with
  | nil=>cases (show f= []from rs);rfl
  | cons _ _=>obtain⟨_,_,rfl,_⟩:=rs;rfl
 cases w with
 | v d=>
  cases d with
  | az=>cases e;cases (z);exact rfl
  | bl _=>cases e;cases (z);exact rfl
  | int _=>cases e;cases (z);exact rfl
  | str y=>
   cases (z)
   have e:(if y.length<=M.aW then y0 (!y.isEmpty)else u0)=y0 b:=e
   split at e
   ·rename_i c
    cases e
    refine⟨by rw [jc];have:=Xh;lia,?_⟩
    rw [jc]
    cases y with
    | nil=>rfl
    | cons a r=>
     have:((((a::r).length:Nat):Int) != 0)=true:=by
      rw [Aa0,bne_iff_ne];lia
     rw [this];rfl
   ·cases e
  | tup g=>
   cases e
   obtain⟨a,f,rfl,i,rs⟩:=z
   refine .inr (.inl ⟨f,l▸i.sq,?_⟩)
   cases g with
   | nil=>cases (show f= []from rs);rfl
   | cons _ _=>obtain⟨_,_,rfl,_⟩:=rs;rfl
  | lst g=>cases e;obtain⟨a,f,k,i,j⟩:=z;exact lst k (l▸i.sq) j rfl
  | ref o=>cases e
  | exc c fs=>cases e
  | err _ _ _=>cases e
 | own g=>cases e;obtain⟨a,f,k,_,_,i,j⟩:=z;exact lst k (a9.of i) j rfl
 | bor g=>cases e;obtain⟨a,f,k,_,i,j⟩:=z;exact lst k (.inl i) j rfl
end
abbrev Qg (x:String):Str:=Str.ofString x
example:("len" :Str)=Qg "len" :=rfl
structure eV where
 fl:List (String×String)
 mt:List (String×String×String)
 dY:List (String×String)
 ms:List String
 er:List (String×String)
structure Cf where
 sc:Scope
 N:List Str
 fns:List String
 own:List String
 dZ:List String
 d1:List String
 ob:eV
noncomputable def XV (a:Scope) (x:Str):Bool:=match a.names.lookup x with
 | some .local=>k9
 | some .cell=>k9
 | some .free=>k9
 | _=>y9
def iC (a:Scope) (x:Str):Bool:=match a.names.lookup x with
 | some .globalImplicit=>k9
 | _=>y9
def gP (a:Scope) (x:Str):Bool:=match a.names.lookup x with
 | some .local=>k9
 | some .cell=>k9
 | _=>y9
def cS (x:Str):Bool:= !(x==("__debug__" :Str))&& !(x==("__classdict__" :Str))
noncomputable def lA:M.Bi->String
 | .len=> "len" | .int=> "int" | .list=> "list" | .tuple=> "tuple" | .sum=> "sum" | .all=> "all" | .any=> "any" | .sorted=> "sorted" | .divmod=> "divmod" | .str=> "str" | .min=> "min" | .max=> "max" | .abs=> "abs"
noncomputable def bW:List String:= ["len", "int", "list", "tuple", "sum", "all", "any", "sorted", "divmod", "str", "min", "max", "abs", "isinstance", "bool", "range", "reversed", "zip", "enumerate", "set", "ValueError"]
def nj:Expr->Str->Bool
 | .Name y _,x=>y==x
 | _,_=>y9
def bF (a:Scope) (x:String) (e:Expr):Bool:=nj e (Qg x)&&iC a (Qg x)&&cS (Qg x)
def pM:M.Mt->String
 | .join=> "join" | .starts=> "startswith" | .part=> "partition"
def rZ:M.Mt->Bool
 | .join=>k9 | .starts=>k9 | .part=>k9
def nC:Expr->Bool
 | .Call _ [] _ _=>y9
 | _=>k9
def lx:Expr->Bool
 | .UnaryOp .USub (.Constant (.int 1) _ _) _=>k9
 | _=>y9
noncomputable def Xs (a:Cf):List Nat->List Expr->Bool
 | [],[]=>k9
 | i::is,.Name x _::es=>u9 (a.N[i]? =y0 x)&&gP a.sc x&&Xs a is es
 | _,_=>y9
def Xf (a:Cf) (tg:List Nat) (one:Bool) (e:Expr):Bool:=match one,e with
 | true,.Name x p=>(match tg with | [_]=>k9 | _=>y9)&&Xs a tg [.Name x p]
 | false,.Tuple es _ _=>Xs a tg es
 | _,_=>y9
def Ja:Expr->Bool
 | .Starred .. =>y9
 | _=>k9
def zg:Expr->Bool
 | .Slice .. =>y9
 | _=>k9
def jh:Expr->Bool
 | .Set .. =>y9
 | _=>k9
noncomputable def QE (a:Cf):List Nat->List Str->Bool
 | [],[]=>k9
 | j::b,x::xs=>u9 (a.N[j]? =y0 x)&&u9 (a.sc.names.lookup x=y0 .cell\/a.sc.names.lookup x=y0 .free)&&QE a b xs
 | _,_=>y9
def qY (b:Cf) (a:Scope) (N:List Str) (k:Nat) (aC:List Nat):Bool:=
 u9 (a.kind= .function)&&u9 (a.names.map Prod.fst).Nodup&&a.names.all (λy=>u9 (y.2= .local->a.names.lookup y.1=y0 .local))&&
 a.names.all (λy=>u9 (y.2= .free->b.sc.names.lookup y.1=y0 .cell\/b.sc.names.lookup y.1=y0 .free))&&(N.drop k).all (λx=>u9 (a.names.lookup x=y0 .free))&&
 QE b aC (N.drop k)&&u9 (k<=N.length)&&decide N.Nodup&&decide aC.Nodup
def uc:Expr->List Str
 | .Name x _=> [x]
 | .Tuple es _ _=>es.filterMap λ| .Name x _=>y0 x | _=>u0
 | _=> []
def Ww (a:Cf) (t:Expr) (aC:List Nat):List Str:=uc t++aC.filterMap λj=>a.N[j]?
def eU:M.E->Bool
 | .share _=>y9
 | .not a=>eU a
 | .and a b=>eU a&&eU b
 | .or a b=>eU a&&eU b
 | _=>k9
def bw {P:Prop}(h:y9=k9):P:=nomatch h
set_option backward.match.sparseCases false
def lC {a:Type}(l:List a) (f:a->List a->Bool):Bool:=match l with
 | x::r=>f x r
 | _=>y9
def oS {a:Type}(l:Option a) (f:a->Bool):Bool:=match l with
 | some x=>f x
 | _=>y9
@[elab_as_elim] theorem kC {P:List α->Prop}(k: ∀x r,f x r=k9->P (x::r)): ∀l,lC l f=k9->P l:=by rintro (_|_)<;>first | exact bw | exact k _ _
@[elab_as_elim] theorem kS {P:Option α->Prop}(k: ∀x,f x=k9->P (y0 x)): ∀l,oS l f=k9->P l:=by rintro (_|_)<;>first | exact bw | exact k _
def ZE (e:Expr) (f:Str->Bool):Bool:=match e with
 | .Name x _=>f x
 | _=>y9
@[elab_as_elim] theorem JC {P:Expr->Prop}(k: ∀x p,f x=k9->P (.Name x p)): ∀e,ZE e f=k9->P e:=by rintro (_|_)<;>first | exact bw | exact k _ _
def ZD (e:Expr) (f:Const->Bool):Bool:=match e with
 | .Constant x _ _=>f x
 | _=>y9
@[elab_as_elim] theorem zJ {P:Expr->Prop}(k: ∀x n p,f x=k9->P (.Constant x n p)): ∀e,ZD e f=k9->P e:=by rintro (_|_)<;>first | exact bw | exact k _ _ _
def mK (e:Expr) (f:List Expr->Bool):Bool:=match e with
 | .Tuple x _ _=>f x
 | _=>y9
@[elab_as_elim] theorem pU {P:Expr->Prop}(k: ∀x n p,f x=k9->P (.Tuple x n p)): ∀e,mK e f=k9->P e:=by rintro (_|_)<;>first | exact bw | exact k _ _ _
def pV (e:Expr) (f:List Expr->Bool):Bool:=match e with
 | .List x _=>f x
 | _=>y9
@[elab_as_elim] theorem DM {P:Expr->Prop}(k: ∀x p,f x=k9->P (.List x p)): ∀e,pV e f=k9->P e:=by rintro (_|_)<;>first | exact bw | exact k _ _
def p9 (e:Expr) (f:Expr->Operator->Expr->Bool):Bool:=match e with
 | .BinOp x o y _=>f x o y
 | _=>y9
@[elab_as_elim] theorem uo {P:Expr->Prop}(k: ∀x o y p,f x o y=k9->P (.BinOp x o y p)): ∀e,p9 e f=k9->P e:=by rintro (_|_)<;>first | exact bw | exact k _ _ _ _
def m6 (e:Expr) (f:Expr->List CmpOp->List Expr->Bool):Bool:=match e with
 | .Compare x o y _=>f x o y
 | _=>y9
@[elab_as_elim] theorem ph {P:Expr->Prop}(k: ∀x o y p,f x o y=k9->P (.Compare x o y p)): ∀e,m6 e f=k9->P e:=by rintro (_|_)<;>first | exact bw | exact k _ _ _ _
def lX (e:Expr) (f:UnaryOp->Expr->Bool):Bool:=match e with
 | .UnaryOp o x _=>f o x
 | _=>y9
@[elab_as_elim] theorem pE {P:Expr->Prop}(k: ∀o x p,f o x=k9->P (.UnaryOp o x p)): ∀e,lX e f=k9->P e:=by rintro (_|_)<;>first | exact bw | exact k _ _ _
def mH (e:Expr) (f:BoolOp->List Expr->Pos->Bool):Bool:=match e with
 | .BoolOp o x p=>f o x p
 | _=>y9
@[elab_as_elim] theorem pA {P:Expr->Prop}(k: ∀o x p,f o x p=k9->P (.BoolOp o x p)): ∀e,mH e f=k9->P e:=by rintro (_|_)<;>first | exact bw | exact k _ _ _
def xl (e:Expr) (f:Expr->List Expr->List Keyword->Pos->Bool):Bool:=match e with
 | .Call g x l p=>f g x l p
 | _=>y9
@[elab_as_elim] theorem Qj {P:Expr->Prop}(k: ∀g x l p,f g x l p=k9->P (.Call g x l p)): ∀e,xl e f=k9->P e:=by rintro (_|_)<;>first | exact bw | exact k _ _ _ _
def fh (e:Expr) (f:Expr->Expr->Bool):Bool:=match e with
 | .Subscript x y _=>f x y
 | _=>y9
@[elab_as_elim] theorem fU {P:Expr->Prop}(k: ∀x y p,f x y=k9->P (.Subscript x y p)): ∀e,fh e f=k9->P e:=by rintro (_|_)<;>first | exact bw | exact k _ _ _
def kz (e:Expr) (f:Option Expr->Option Expr->Option Expr->Bool):Bool:=match e with
 | .Slice x y z _=>f x y z
 | _=>y9
@[elab_as_elim] theorem k1 {P:Expr->Prop}(k: ∀x y z p,f x y z=k9->P (.Slice x y z p)): ∀e,kz e f=k9->P e:=by rintro (_|_)<;>first | exact bw | exact k _ _ _ _
def pS (e:Expr) (f:Expr->List Comprehension->Scope->Bool):Bool:=match e with
 | .ListComp y g s _=>f y g s
 | _=>y9
@[elab_as_elim] theorem px {P:Expr->Prop}(k: ∀y g s p,f y g s=k9->P (.ListComp y g s p)): ∀e,pS e f=k9->P e:=by rintro (_|_)<;>first | exact bw | exact k _ _ _ _
def qV (e:Expr) (f:Expr->Str->Pos->Bool):Bool:=match e with
 | .Attribute x n p=>f x n p
 | _=>y9
@[elab_as_elim] theorem ig {P:Expr->Prop}(k: ∀x n p,f x n p=k9->P (.Attribute x n p)): ∀e,qV e f=k9->P e:=by rintro (_|_)<;>first | exact bw | exact k _ _ _
def oR (e:Expr) (f:List Expr->Bool):Bool:=match e with
 | .JoinedStr x _=>f x
 | _=>y9
@[elab_as_elim] theorem Bl {P:Expr->Prop}(k: ∀x p,f x=k9->P (.JoinedStr x p)): ∀e,oR e f=k9->P e:=by rintro (_|_)<;>first | exact bw | exact k _ _
def rS (e:Expr) (f:Expr->Int->Option Expr->Bool):Bool:=match e with
 | .FormattedValue x c z _=>f x c z
 | _=>y9
@[elab_as_elim] theorem AY {P:Expr->Prop}(k: ∀x c z p,f x c z=k9->P (.FormattedValue x c z p)): ∀e,rS e f=k9->P e:=by rintro (_|_)<;>first | exact bw | exact k _ _ _ _
def oU (e:Expr) (f:List (Option Expr)->List Expr->Bool):Bool:=match e with
 | .Dict x y _=>f x y
 | _=>y9
@[elab_as_elim] theorem vi {P:Expr->Prop}(k: ∀x y p,f x y=k9->P (.Dict x y p)): ∀e,oU e f=k9->P e:=by rintro (_|_)<;>first | exact bw | exact k _ _ _
def gG (e:Stmt) (f:List Expr->Expr->Bool):Bool:=match e with
 | .Assign t v _=>f t v
 | _=>y9
@[elab_as_elim] theorem iu {P:Stmt->Prop}(k: ∀t v p,f t v=k9->P (.Assign t v p)): ∀e,gG e f=k9->P e:=by rintro (_|_)<;>first | exact bw | exact k _ _ _
def ky (e:Stmt) (f:Expr->Bool):Bool:=match e with
 | .Expr v _=>f v
 | _=>y9
@[elab_as_elim] theorem lB {P:Stmt->Prop}(k: ∀v p,f v=k9->P (.Expr v p)): ∀e,ky e f=k9->P e:=by rintro (_|_)<;>first | exact bw | exact k _ _
def nO (e:Stmt) (f:Option Expr->Bool):Bool:=match e with
 | .Return v _=>f v
 | _=>y9
@[elab_as_elim] theorem pZ {P:Stmt->Prop}(k: ∀v p,f v=k9->P (.Return v p)): ∀e,nO e f=k9->P e:=by rintro (_|_)<;>first | exact bw | exact k _ _
def tw (e:Stmt) (f:Expr->List Stmt->List Stmt->Bool):Bool:=match e with
 | .If x y z _=>f x y z
 | _=>y9
@[elab_as_elim] theorem Eo {P:Stmt->Prop}(k: ∀x y z p,f x y z=k9->P (.If x y z p)): ∀e,tw e f=k9->P e:=by rintro (_|_)<;>first | exact bw | exact k _ _ _ _
def oP (e:Stmt) (f:Expr->List Stmt->List Stmt->Bool):Bool:=match e with
 | .While x y z _=>f x y z
 | _=>y9
@[elab_as_elim] theorem ES {P:Stmt->Prop}(k: ∀x y z p,f x y z=k9->P (.While x y z p)): ∀e,oP e f=k9->P e:=by rintro (_|_)<;>first | exact bw | exact k _ _ _ _
def rB (e:Stmt) (f:Expr->Expr->List Stmt->List Stmt->Bool):Bool:=match e with
 | .For t i y z _=>f t i y z
 | _=>y9
@[elab_as_elim] theorem AL {P:Stmt->Prop}(k: ∀t i y z p,f t i y z=k9->P (.For t i y z p)): ∀e,rB e f=k9->P e:=by rintro (_|_)<;>first | exact bw | exact k _ _ _ _ _
set_option backward.match.sparseCases true
def vB (a:Cf) (i:Nat) (x:Str):Bool:=u9 (a.N[i]? =y0 x)&&XV a.sc x&&cS x
def kZ {a:Type}(l:List a) (b:Bool):Bool:=l.isEmpty&&b
noncomputable def su (e:Stmt) (f:List Stmt->List ExceptHandler->Bool):Bool:=match e with
 | .Try a b c d _=>kZ c (kZ d (f a b))
 | _=>y9
noncomputable def kD (a:Cf):List (M.Tx ⊕ Nat)->List Expr->Bool
 | [],l=>l.isEmpty
 | .inl t::ps,l=>lC l λe es=>ZD e λc=>u9 (c= .str (aw t))&&kD a ps es
 | .inr i::ps,l=>lC l λe es=>rS e λx c z=>u9 (c= -1)&&z.isNone&&ZE x (vB a i)&&kD a ps es
noncomputable def zZ:List (M.Tx×M.Tx)->List (Option Expr)->List Expr->Bool
 | [],l,r=>l.isEmpty&&r.isEmpty
 | (x,y)::T,l,r=>lC l λe ks=>lC r λa b=>oS e λe=>ZD e λc=>ZD a λd=>u9 (c= .str (aw x))&&u9 (d= .str (aw y))&&zZ T ks b
mutual
noncomputable def xc (cf:Cf):M.E->Expr->Bool
 | .var i,e=>ZE e (vB cf i)
 | .con c,e=>bF cf.sc c e
 | .int i,e=>ZD e λj=>u9 (j= .int i)
 | .bl i,e=>ZD e λj=>u9 (j= .bool i)
 | .str i,e=>ZD e λj=>u9 (j= .str (aw i))
 | .tup es,e=>mK e λxs=>u9 (xs.length<=1000)&&bD cf es xs
 | .lst es,e=>pV e λxs=>u9 (xs.length<=1000)&&bD cf es xs
 | .bin o a b,e=>p9 e λx p y=>u9 (p=lR o)&&lF o&&xc cf a x&&xc cf b y
 | .cmp o a b,e=>m6 e λx p y=>lC y λy r=>u9 (p= [eL o]/\r= [])&&ZI o&&jh y&&xc cf a x&&xc cf b y
 | .chain o q a b c,e=>m6 e λx p y=>lC y λy r=>lC r λz r=>u9 (p= [eL o,eL q]/\r= [])&&ZI o&&ZI q&&jh z&&xc cf a x&&xc cf b y&&xc cf c z
 | .neg a,e=>lX e λo x=>u9 (o= .USub)&&xc cf a x
 | .not a,e=>lX e λo x=>u9 (o= .Not)&&xc cf a x
 | .and a b,e=>mH e λo x p=>lC x λx r=>lC r λy r=>u9 (o= .And)&&xc cf a x&&bif r.isEmpty then xc cf b y else xc cf b (.BoolOp .And (y::r) p)
 | .or a b,e=>mH e λo x p=>lC x λx r=>lC r λy r=>u9 (o= .Or)&&xc cf a x&&bif r.isEmpty then xc cf b y else xc cf b (.BoolOp .Or (y::r) p)
 | .call f es,e=>xl e λg xs l _=>kZ l (bF cf.sc f g&&cf.fns.contains f&&bD cf es xs)
 | .bi b es,e=>xl e λg xs l _=>kZ l (lC xs λx r=>bF cf.sc (lA b) g&&lz b&&bD cf es (x::r))
 | .cu a t,e=>xl e λg xs l _=>kZ l (lC xs λx r=>lC r λy r=>kZ r (bF cf.sc "isinstance" g&&bF cf.sc (eP t) y&&decide (t≠ .az)&&Ja x&&xc cf a x))
 | .ix a b,e=>fh e λx y=>zg y&&xc cf a x&&xc cf b y
 | .sl a lo hi,e=>fh e λx y=>kz y λl u z=>oS l λl=>oS u λu=>z.isNone&&xc cf a x&&xc cf lo l&&xc cf hi u
 | .fi a lo,e=>fh e λx y=>kz y λl u z=>oS l λl=>u.isNone&&z.isNone&&xc cf a x&&xc cf lo l
 | .fb a hi,e=>fh e λx y=>kz y λl u z=>oS u λu=>l.isNone&&z.isNone&&xc cf a x&&xc cf hi u
 | .rev a,e=>fh e λx y=>kz y λl u z=>oS z λz=>l.isNone&&u.isNone&&lx z&&xc cf a x
 | .comp tg one k aC it k6 c elt,e=>pS e λy g scope=>lC g λg r=>
  u9 (g.is_async=0/\r= [])&&qY cf scope (Ww cf g.target aC) k aC&&tg.all (λi=>u9 (i<k))&&Xf { cf with sc:=scope,N:=Ww cf g.target aC } tg one g.target&&cN cf it g.iter&&xc { cf with sc:=scope,N:=Ww cf g.target aC } elt y&&
   bif k6 then(lC g.ifs λz r=>kZ r (eU c&&xc { cf with sc:=scope,N:=Ww cf g.target aC } c z))else g.ifs.isEmpty
 | .share a,e=>xc cf a e
 | .c7 a,e=>xl e λg xs l _=>kZ l (lC xs λx r=>kZ r (xl x λg2 xs l _=>kZ l (lC xs λx r=>kZ r (bF cf.sc "len" g&&bF cf.sc "set" g2&&Ja x&&xc cf a x))))
 | .cL a,e=>xl e λg xs l _=>kZ l (lC xs λx r=>kZ r (bF cf.sc "sorted" g&&Ja x&&xc cf a x))
 | .cE m a es,e=>xl e λg xs l q=>kZ l (lC xs λx r=>kZ r (qV g λo n p=>u9 (n=Qg (pM m))&&rZ m&&(p.endLine==q.line)&&nC o&&xc cf a o&&bD cf es [x]))
 | .dG c a,e=>fh e λg y=>bF cf.sc c g&&zg y&&xc cf a y
 | .cx c es,e=>xl e λg xs l q=>kZ l (lC xs λx r=>lC r λy r=>kZ r (qV g λg n p=>bF cf.sc c g&&u9 (n=Qg "get")&&(p.endLine==q.line)&&bD cf es [x,y]))
 | .ck T i,e=>fh e λd x=>oU d λks vs=>ZE x λx=>zZ T ks vs&&u9 (T≠ [])&&u9 (T.length<=15)&&u9 (T.map (·.1)).Nodup&&vB cf i x
 | .b6 ps,e=>oR e λxs=>lC xs λx r=>lC r λy r=>kD cf ps (x::y::r)
 | .cJ a,e=>xl e λg xs l _=>kZ l (lC xs λx r=>kZ r (bF cf.sc "str" g&&Ja x&&xc cf a x))
 | .aZ a,e=>xl e λg xs l _=>kZ l (lC xs λx r=>kZ r (bF cf.sc "int" g&&Ja x&&xc cf a x))
 | .fld i c f,e=>qV e λx n _=>ZE x λx=>vB cf i x&&u9 (n=Qg f)&&cf.ob.fl.contains (c,f)
 | .ah i c m q es,e=>xl e λg ys l s=>kZ l (qV g λx n p=>ZE x λx=>vB cf i x&&u9 (n=Qg m)&&cf.ob.mt.contains (c,m,q)&&(p.endLine==s.line)&&u9 (ys.length<=20)&&bD cf es ys)
 | .make c q es,e=>xl e λg ys l _=>kZ l (lC ys λx r=>bF cf.sc c g&&cf.ob.dY.contains (c,q)&&bD cf es (x::r))
noncomputable def bD (cf:Cf):M.Es->List Expr->Bool
 | .nil,xs=>xs.isEmpty
 | .cons e es,xs=>lC xs λx xs=>Ja x&&xc cf e x&&bD cf es xs
noncomputable def cN (cf:Cf):M.It->Expr->Bool
 | .seq a,e=>jh e&&xc cf a e
 | .aS a,e=>xl e λg xs l _=>kZ l (lC xs λx r=>kZ r (bF cf.sc "range" g&&Ja x&&xc cf a x))
 | .bz a b,e=>xl e λg xs l _=>kZ l (lC xs λx r=>lC r λy r=>kZ r (bF cf.sc "range" g&&Ja x&&Ja y&&xc cf a x&&xc cf b y))
 | .rev a,e=>xl e λg xs l _=>kZ l (lC xs λx r=>kZ r (bF cf.sc "reversed" g&&Ja x&&xc cf a x))
 | .zip _ _,_=>y9
 | .enum _,_=>y9
 | .bN _,_=>y9
 | .bY _,_=>y9
end
def xp:Expr->Bool
 | .ListComp .. =>y9
 | .SetComp .. =>y9
 | .DictComp .. =>y9
 | _=>k9
def Jg:Expr->Bool
 | .Tuple .. =>y9
 | _=>k9
def qI (a:Cf) (i:Nat) (x:Str):Bool:=u9 (a.N[i]? =y0 x)&&gP a.sc x
def JD (b:Cf) (i:Nat) (m:Str) (e:Expr) (a:Pos):Bool:=qV e λx n p=>ZE x λx=>vB b i x&&u9 (n=m)&&(p.endLine==a.line)
def m7 (c:Cf):M.It->Expr->Bool
 | .seq a,e=>jh e&&xc c a e
 | .aS a,e=>cN c (.aS a) e
 | .bz a b,e=>cN c (.bz a b) e
 | .rev a,e=>cN c (.rev a) e
 | .bY a,e=>xl e λg xs l _=>kZ l (lC xs λx r=>kZ r (bF c.sc "enumerate" g&&Ja x&&xc c a x))
 | .bN i,e=>xl e λg xs l _=>kZ l (lC xs λx r=>kZ r (bF c.sc "enumerate" g&&Ja x&&xc c (.var i) x))
 | .zip _ _,_=>y9
 | .enum _,_=>y9
noncomputable def mv:M.It->Expr->Bool
 | .enum _,e=> !Jg e
 | .bN _,e=> !Jg e
 | .bY _,e=> !Jg e
 | .zip _ _,e=> !Jg e
 | _,_=>k9
def mJ:M.S->Bool
 | .freeze _=>k9
 | _=>y9
mutual
noncomputable def nS (cf:Cf):M.S->Stmt->Bool
 | .set i e,st=>gG st λts v=>lC ts λt r=>ZE t λx=>kZ r (qI cf i x&&xc cf e v)
 | .af i e,st=>gG st λts v=>lC ts λt r=>ZE t λx=>kZ r (qI cf i x&&xc cf e v)
 | .fK is e,st=>gG st λts v=>lC ts λt r=>mK t λts=>kZ r (Xs cf is ts&&Jg v&&xc cf e v)
 | .dE i kx e,st=>gG st λts v=>lC ts λt r=>fh t λx y=>ZE x λx=>kZ r (vB cf i x&&zg y&&Jg v&&xp v&&xc cf kx y&&xc cf e v)
 | .bu o kx e,st=>gG st λts v=>lC ts λt r=>fh t λx y=>kZ r (zg y&&Jg v&&xp v&&xc cf o x&&xc cf kx y&&xc cf e v)
 | .app i e,st=>ky st λc=>xl c λf xs l p=>kZ l (lC xs λv r=>kZ r (JD cf i "append" f p&&Ja v&&xc cf e v))
 | .ins i kx e,st=>ky st λc=>xl c λf xs l p=>kZ l (lC xs λx r=>lC r λv r=>kZ r (JD cf i "insert" f p&&Ja x&&Ja v&&xc cf kx x&&xc cf e v))
 | .ext i e,st=>ky st λc=>xl c λf xs l p=>kZ l (lC xs λv r=>kZ r (JD cf i "extend" f p&&Ja v&&xc cf e v))
 | .freeze _,_=>y9
 | .ex e,st=>ky st λv=>xp v&&xc cf e v
 | .ret e,st=>nO st λv=>oS v λv=>xc cf e v
 | .iff c a b,st=>tw st λx ys zs=>eU c&&xc cf c x&&bO cf a ys&&bO cf b zs
 | .fj _ c b,st=>oP st λx ys zs=>kZ zs (eU c&&xc cf c x&&bO cf b ys)
 | .for tg one it b,st=>rB st λt iter ys zs=>kZ zs (mv it t&&Xf cf tg one t&&m7 cf it iter&&bO cf b ys)
 | .dX (.ret m),st=>su st λb hs=>lC hs λ_ _=>lC b λa r=>kZ r (nO a λv=>oS v λv=>xc cf m v)
 | .dX _,_=>y9
 | .bH i c f e,st=>gG st λts v=>lC ts λt r=>qV t λx n _=>ZE x λx=>kZ r (vB cf i x&&u9 (n=Qg f)&&cf.ob.fl.contains (c,f)&&Jg v&&xp v&&xc cf e v)
 | .bC,_=>k9
noncomputable def bO (cf:Cf):M.Ss->List Stmt->Bool
 | .nil,sts=>sts.isEmpty
 | .cons s ss,sts=>bif mJ s then bO cf ss sts else lC sts λst sts=>nS cf s st&&bO cf ss sts
end
structure uB (X:Cx) (k:Nat) (x:Str) (ps:List Str) (sp:Sp):Prop where
 ex: ∃f fd,bb X.prog X.w X.K X.mg X.base (dQ X.prog X.w) k f fd ps sp/\Binds X.K fd ps []/\Af7 X.K (.ref f)=k9/\X.mg x=y0 (.ref f)
def lM:M.W->Bool
 | .own _=>y9
 | _=>k9
def fJ (Z:Ge) (m:List M.W->M.AH->M.R M.W):Sp:=λb H Q E=> ∃G h a,aj Z G h H/\aU Z G H a b/\(∀ w∈a,lM w=k9)/\ar Z E G H (m a h) Q
structure Go (Z:Ge) (F:M.Fx) (X:Cx) (E:XK) (k:Nat) (cf:Cf):Prop where
 N:X.N=cf.N
 K:X.K=Z.K
 cl:F.cl=Z.cl
 ow:cf.own=Z.own
 nd:cf.N.Nodup
 eC: ∀x,XV cf.sc x=k9->gK X.env.scope x
 mU: ∀x,cf.sc.names.lookup x=y0 .local->X.env.scope.names.lookup x=y0 .local
 hA: ∀x,gP cf.sc x=k9->ir X.env.scope x/\(X.fn x=k9\/X.env.scope.names.lookup x=y0 .local)
 i9: ∀x,(cf.sc.names.lookup x=y0 .cell\/cf.sc.names.lookup x=y0 .free)->X.env.kindOf x=y0 .cell\/X.env.kindOf x=y0 .free
 gl: ∀x,iC cf.sc x=k9->Gl X x
 calm:X.calm=k9
 room:aV k X.A
 dC:aV (k+1) X.A
 pass:Jw (dQ X.prog X.w) X E
 blt: ∀x,x∈bW->X.mg (Qg x)=u0
 con: ∀x d,F.con.lookup x=y0 d-> ∃u v,X.mg (Qg x)=y0 u/\RelV v u/\ ∀G H,aB Z G H d v
 fn: ∀f,cf.fns.contains f=k9-> ∃ps,uB X k (Qg f) ps (fJ Z (F.call f))
 cls: ∀c,cf.own.contains c=k9->X.mg (Qg c)=y0 (.ref (Z.ca c))
 fld: ∀c f,cf.ob.fl.contains (c,f)=k9->dr X.K (Z.ca c)/\bP X.K (Z.ca c) (Qg f)
 gi: ∀c m q,cf.ob.mt.contains (c,m,q)=k9->dr X.K (Z.ca c)/\ ∃fa fd ps,i6 X.K (Z.ca c) (Qg m) fa/\bb X.prog X.w X.K X.mg X.base (dQ X.prog X.w) k fa fd ps (fJ Z (F.call q))/\Binds X.K fd ps []
 dY: ∀c q,cf.ob.dY.contains (c,q)=k9->X.mg (Qg c)=y0 (.ref (Z.ca c))/\ ∃fa fd ps,Mk X.K (Z.ca c) fa/\bb X.prog X.w X.K X.mg X.base (dQ X.prog X.w) k fa fd ps (fJ Z (F.call q))/\Binds X.K fd ps []
@[elab_as_elim] theorem kE {P:List α->Prop}(k:b=k9->P []): ∀l,kZ l b=k9->P l:=by rintro (_|_)<;>first | exact bw | exact k
@[elab_as_elim] theorem vR {P:Stmt->Prop}(k: ∀a b p,f a b=k9->P (.Try a b [] [] p)): ∀e,su e f=k9->P e:=by
 rintro (_|_)<;>first | exact bw | exact λh=>kE (λh=>kE (λh=>k _ _ _ h) _ h) _ h
def a2 (h:(a&&b)=k9):a=k9/\b=true:=Bool.and_eq_true_iff.mp h
def a3 (h:(a&&b&&c)=k9):a=k9/\b=k9/\c=true:=⟨(a2 (a2 h).1).1,(a2 (a2 h).1).2,(a2 h).2⟩
def a4 (h:(a&&b&&c&&d)=k9):a=k9/\b=k9/\c=k9/\d=true:=⟨(a3 (a2 h).1).1,(a3 (a2 h).1).2.1,(a3 (a2 h).1).2.2,(a2 h).2⟩
def a5 (h:(a&&b&&c&&d&&e)=k9):a=k9/\b=k9/\c=k9/\d=k9/\e=true:=⟨(a2 (a4 h).1).1,(a2 (a4 h).1).2,(a4 h).2⟩
def a6 (h:(a&&b&&c&&d&&e&&f)=k9):a=k9/\b=k9/\c=k9/\d=k9/\e=k9/\f=true:=⟨(a2 (a5 h).1).1,(a2 (a5 h).1).2,(a5 h).2⟩
def a7 (h:(a&&b&&c&&d&&e&&f&&g)=k9):a=k9/\b=k9/\c=k9/\d=k9/\e=k9/\f=k9/\g=true:=⟨(a2 (a6 h).1).1,(a2 (a6 h).1).2,(a6 h).2⟩
def nn (h:o.isNone=k9):o=none:=Af8.mp h
def fv (h:vB cf i x=k9):cf.N[i]? =y0 x/\XV cf.sc x=k9/\cS x=true:=⟨of_decide_eq_true (a3 h).1,(a3 h).2⟩
def Jb (h:bF sc x e=true): ∃p,e= .Name (Qg x) p/\iC sc (Qg x)=true/\(Qg x==("__debug__" :Str))=false:=by
 unfold bF at h
 rw [Ab2,Ab2]at h
 obtain⟨⟨b,c⟩,a⟩:=h
 unfold cS at a
 rw [Ab2]at a
 cases e with
 | Name y p=>
  have:y=Qg x:=by simpa [nj]using b
  subst this
  exact⟨p,rfl,c,by simpa using a.1⟩
 | _=>simp [nj]at b
def Zs (h:x∈bW):Qg x≠("__name__" :Str):=by
 have:(bW.all λx=>decide (Qg x≠ "__name__"))=true:=by decide +kernel
 exact of_decide_eq_true (Ai9.mp this x h)
section
variable {Z:Ge}{F:M.Fx}{X:Cx}{E:XK}{k:Nat}{cf:Cf}
section
variable {G:Gh}{H:Hp}{h:M.AH}{Y:M.Sl}{U:St}{Q:VK}
def ak.val (p:ak Z E G0 H0 (.ok w h) λw _ G' H'=> ∀v,aq Z G' H' w v->aD Y U H0 w v->Q v H') (e:Ext G0 H0 G H) (a:aj Z G h H) (z:aq Z G H w v) (f:aD Y U H0 w v):Q v H:=
 p G H e a v z f
end
def yK (c:Go Z F X E k cf)(j:cf.N[i]? =y0 x) (m:XV cf.sc x=k9) (b:cS x=k9):PE X (.Name x pos) (tD Z E (M.eval F (.var i))):=by
 unfold cS at b
 rw [Ab2]at b
 refine PE.imp (Xu (by rw [c.N];exact j) (c.eC x m) (by simpa using b.1) (by simpa using b.2)) λU H Q f=> ?_
 obtain⟨G,Y,h,s,p⟩:=f
 rw [M.eval]at p
 cases q:M.Gm Y i with
 | none=>simp [M.Gp,q]at p;exact p.elim
 | some w=>
  obtain⟨v,e,r⟩:=s.slot i w q
  refine⟨v,e,?_⟩
  cases w with
  | v d=>
   rw [M.Kl q]at p
   exact ak.val p Ext.refl s.heap r trivial
  | own t=>
   rw [M.GY q]at p
   obtain⟨a,u,o,y,n,l,g⟩:=r
   exact ak.val p Ext.refl s.heap ⟨a,u,o,n,.inl l,g⟩ ⟨i,_,q,rfl,e⟩
  | bor t=>
   rw [M.G7 q]at p
   exact ak.val p Ext.refl s.heap r ⟨i,_,q,rfl,e⟩
def EX (g:Go Z F X E k cf)(n:bF cf.sc c e=k9):PE X e (tD Z E (M.eval F (.con c))):=by
 obtain⟨p,rfl,j,l⟩:=Jb n
 cases q:F.con.lookup c with
 | none=>
  intro b s U H Q I ⟨G,Y,h,f,a⟩
  rw [M.eval,q]at a
  exact a.elim
 | some d=>
  obtain⟨u,v,m,rv,rd⟩:=g.con c d q
  refine PE.imp (jV (g.gl _ j) m rv l) λU H Q i=> ?_
  obtain⟨G,Y,h,f,a⟩:=i
  rw [M.eval,q]at a
  exact ak.val a Ext.refl f.heap (rd G H) trivial
def F3 :PE X (.Constant (.int i) j pos) (tD Z E (M.eval F (.int i))):=PE.imp n0 λU H Q ⟨G,Y,h,s,p⟩=>ak.val p Ext.refl s.heap rfl trivial
def Hj :PE X (.Constant (.bool i) j pos) (tD Z E (M.eval F (.bl i))):=PE.imp BQ λU H Q ⟨G,Y,h,s,p⟩=>ak.val p Ext.refl s.heap rfl trivial
def Bx :PE X (.Constant (.str (aw i)) j pos) (tD Z E (M.eval F (.str i))):=PE.imp vH λU H Q ⟨G,Y,h,s,p⟩=>ak.val p Ext.refl s.heap rfl trivial
section
variable {a b c:M.E}{x y z:Expr}{pos:Pos}
def Dv (A:Go Z F X E k cf)(l:lF o=k9) (v:PE X x (tD Z E (M.eval F a))) (t:PE X y (tD Z E (M.eval F b))):PE X (.BinOp x (lR o) y pos) (tD Z E (M.eval F (.bin o a b))):=by
 refine PE.imp (D2 (ya (E:=E) o l A.K) v t) λU H Q e=> ?_
 obtain⟨G,Y,h,s,p⟩:=e
 refine Wa s.heap Ext.refl s p λu v1 K J L r B d n I q=> ?_
 refine Wa s.heap r d q λw v2 f j C g c i z D m=> ?_
 exact⟨j,f,u,w,i.heap,n.ext c d.heap,z,ar.mk m g s.heap⟩
def wW (z:aB Z G H d v) (f:M.flat d=k9):zI v=true:=by
 cases d with
 | az=>cases (z);rfl
 | bl _=>cases (z);rfl
 | int _=>cases (z);rfl
 | str _=>cases (z);rfl
 | _=>exact absurd (f) Ab4
theorem zP : ∀ {ds}{vs},ae Z G H ds vs->ds.all M.flat=k9->vs.all zI=k9
 | [],_,rfl,_=>rfl
 | d::ds,_,⟨v,r,rfl,a,b⟩,f=>by
  rw [Ah6,Ab2]at f ⊢
  exact⟨wW a f.1,zP b f.2⟩
def yo (z:aB Z G H d v) (y:aB Z G H e u) (f:M.flat d=k9) (c:M.flat e=k9):f6 v u=M.cR d e:=by
 cases d with
 | az=>
  cases (z)
  cases e with
  | az=>cases (y);rfl
  | bl _=>cases (y);rfl
  | int _=>cases (y);rfl
  | str _=>cases (y);rfl
  | _=>exact absurd (c) Ab4
 | bl a=>
  cases (z)
  cases e with
  | az=>cases (y);rfl
  | bl _=>cases (y);rfl
  | int j=>cases (y);show(_==j)=(a.toNat==j);rw [lN]
  | str _=>cases (y);rfl
  | _=>exact absurd (c) Ab4
 | int i=>
  cases (z)
  cases e with
  | az=>cases (y);rfl
  | bl b=>cases (y);show(i==(if b then(1:Int)else 0))=(i== b.toNat);rw [lN]
  | int _=>cases (y);rfl
  | str _=>cases (y);rfl
  | _=>exact absurd (c) Ab4
 | str i=>
  cases (z)
  cases e with
  | az=>cases (y);rfl
  | bl _=>cases (y);rfl
  | int _=>cases (y);rfl
  | str j=>cases (y);exact oD i j
  | _=>exact absurd (c) Ab4
 | _=>exact absurd (f) Ab4
theorem pQ (z:aB Z G H d v) (a:M.flat d=k9): ∀ {ds}{vs},ae Z G H ds vs->ds.all M.flat=k9->lg v vs=M.inD d ds
 | [],_,rfl,_=>rfl
 | e::ds,_,⟨u,r,rfl,c,g⟩,f=>by
  rw [Ah6,Ab2]at f
  have b:=pQ z a g f.2
  unfold lg M.inD at b ⊢
  rw [Ah5,Ah5,b,yo c z f.1 a]
def aq.ku (z:aq Z G H w v) (e:w.d=y0 d) (f:M.flat d=k9):aB Z G H d v:=by
 cases w with
 | v b=>cases e;exact z
 | own a=>cases e;exact absurd (f) Ab4
 | bor a=>cases e
theorem rV (a: ∀c y,RV hp c y->ee y=M.cR c d): ∀ {ys}{us},bZ hp ys us->us.any ee=M.inD d ys
 | [],_,rfl=>rfl
 | c::ys,_,⟨u,r,rfl,e,f⟩=>by
  have b:=rV a f
  unfold M.inD at b ⊢
  rw [Ah5,Ah5,b,a c u e]
def yi (b:aV k X.A)(hd:M.GS ys<140) (m:RV s.heap d v) (rs:bZ s.heap ys its): ∃i:Value->Bool,(∀ c y,RV s.heap c y->i y=M.cR c d)/\ ∀y,y∈its.toArray->SeqAt.EqAt X.A.in1 s y v (i y):=by
 have e: ∃i:Value->Bool,∀c y,RV s.heap c y->i y=M.cR c d:=⟨λy=> @u9 (∃ a,RV s.heap a y/\M.cR a d=k9) (Aj2 _),λc y z=>by
  cases q:M.cR c d with
  | true=>exact @decide_eq_true _ (Aj2 _) ⟨c,z,q⟩
  | false=>exact @decide_eq_false _ (Aj2 _) λ⟨d,n,g⟩=>by rw [RV.inj n z,q]at g;cases g⟩
 obtain⟨i,h⟩:=e
 refine⟨i,h,λy o=> ?_⟩
 obtain⟨j,l⟩:=List.getElem?_of_mem (List.mem_toArray.mp o)
 obtain⟨a,f,rd⟩:=rs.get l
 rw [h a y rd]
 exact(mz 140 a _ X.A.in1 y v (by have:=xB f;lia) (by have:=b.un;lia) rd m).eq
def Ci (o:X.K=Z.K)(d:aV k X.A) (neg:Bool){x y:V}(I:Inv X y8 U H s) (t:RelV x v) (D:RelV y u){b:Bool}(m:aj Z G h H)
 (A:aq Z G H w1 x) (C:aq Z G H w2 y) (e:M.Kv w1 w2 h=y0 b) (q:Q (.bl (if neg then !b else b)) H):wpAny (model X.prog X.w) X.A (compareOp (if neg then .NotIn else .In) v u) (EP X y8 U Q) X.xe s:=by
 unfold M.Kv at e
 split at e
 ·rename_i r w
  split at e
  ·rename_i c
   cases e
   have i:=by simpa using c
   have B:=A.rv I o m t i.1.1
   have l:=C.rv I o m D (by simp_all)
   rw [w]at l
   obtain⟨a,g,rfl,p,rs⟩:=l
   obtain⟨f,z,j⟩:=yi d i.2 B rs
   have n:g.toArray.any f=M.inD (w1.dd h) r:=by rw [List.any_toArray];exact rV z rs
   cases neg with
   | true=>exact SeqAt.notIn_listAt f p j ⟨.bl _,H,I,rfl,by rw [n];exact q⟩
   | false=>exact SeqAt.in_listAt f p j ⟨.bl _,H,I,rfl,by rw [n];exact q⟩
  ·cases e
 ·cases e
def nY (t:X.K=Z.K)(l:aV k X.A) (neg:Bool){x y:V}(I:Inv X y8 U H s) (f:RelV x v) (g:RelV y u){b:Bool}(w:aj Z G h H)
 (n:aq Z G H w1 x) (r:aq Z G H w2 y) (e:M.GU w1 w2 h=y0 b) (q:Q (.bl (if neg then !b else b)) H):wpAny (model X.prog X.w) X.A (compareOp (if neg then .NotIn else .In) v u) (EP X y8 U Q) X.xe s:=by
 unfold M.GU at e
 split at e
 ·rename_i i j o m
  split at e
  ·rename_i c
   cases e
   cases n.str o
   cases r.str m
   have A:(!(Builtin.Str.occurrences (aw j) (aw [c]) 0 (aw j).length 1).isEmpty)=j.contains c:=by
    have:=PySem.StrLaws.found_one (aw j) c
    refine this.trans ?_
    rw [Bool.eq_iff_iff,decide_eq_true_eq,List.contains_iff_mem]
    simp [aw]
   cases neg with
   | true=>exact zS y8 s U H _ _ v u Q I f g ⟨_,_,rfl,rfl,by rw [A];exact q⟩
   | false=>exact E3 y8 s U H _ _ v u Q I f g ⟨_,_,rfl,rfl,by rw [A];exact q⟩
  ·cases e
 ·split at e
  ·rename_i d D o m
   split at e
   ·rename_i c
    rw [Ab2]at c
    cases e
    have z:=n.ku o c.1
    obtain⟨a,C,rfl,B,p⟩:=r.seq w m
    rw [← pQ z c.1 p c.2]at q
    cases neg with
    | true=>exact jR y8 s U H _ _ v u Q I f g ⟨a,C,rfl,t▸lS B,wW z c.1,zP p c.2,q⟩
    | false=>exact Bz y8 s U H _ _ v u Q I f g ⟨a,C,rfl,t▸lS B,wW z c.1,zP p c.2,q⟩
   ·exact Ci t l neg I f g w n r e q
  ·cases e
def uH:bK X (compareOp .GtE) (λx y H Q=> ∃i j,x= .str i/\y= .str j/\Q (.bl (!u9 (i.cps.toList<j.cps.toList))) H):=by
 intro a s U H x y v u Q I b d ⟨i,j,ex,c,q⟩
 subst ex c
 obtain⟨t,rfl⟩:=b
 obtain⟨e,rfl⟩:=d
 exact PySem.P.ge_str (xR I q rfl)
def qJ (w:Go Z F X E k cf) (o) (D:ZI o=k9):bK X (compareOp (eL o)) (g6 Z o):=by
 have g: ∀ {o},(∀ a d h b,M.Gw o a d h=y0 b->(∃ i j,M.W.int? a=y0 i/\M.W.int? d=y0 j/\M.Ko o i j=y0 b)\/(∃ i j,M.W.a0 a=y0 i/\M.W.a0 d=y0 j/\M.Kr o i j=y0 b))->bK X (compareOp (eL o)) (g6 Z o):=by
  intro o C f s U H x y v u Q I m n ⟨G,h,a,d,b,B,p,r,e,q⟩
  obtain⟨i,j,z,l,A⟩ | ⟨i,j,z,l,A⟩:=C a d h b e
  ·cases p.int z
   cases r.int l
   exact vh A I m n q
  ·cases p.str z
   cases r.str l
   cases o with
   | lt=>
    cases A
    refine vw f s U H _ _ v u Q I m n ⟨_,_,rfl,rfl,?_⟩
    have:u9 ((aw i).cps.toList<(aw j).cps.toList)=u9 (i<j):=decide_eq_decide.mpr (by simp [aw])
    exact q
   | ge=>
    cases A
    have:u9 ((aw i).cps.toList<(aw j).cps.toList)=u9 (i<j):=decide_eq_decide.mpr (by simp [aw])
    exact uH f s U H _ _ v u Q I m n ⟨_,_,rfl,rfl,q⟩
   | _=>cases A
 have mk: ∀ {o}{a d}{h:M.AH}{b},(match M.W.int? a,M.W.int? d with
  | some i,y0 j=>M.Ko o i j
  | _,_=>match M.W.a0 a,M.W.a0 d with
   | some s,y0 t=>M.Kr o s t
   | _,_=>u0)=y0 b->(∃ i j,M.W.int? a=y0 i/\M.W.int? d=y0 j/\M.Ko o i j=y0 b)\/(∃ i j,M.W.a0 a=y0 i/\M.W.a0 d=y0 j/\M.Kr o i j=y0 b):=by
  intro o a d h b e
  split at e
  ·rename_i i j z l;exact .inl ⟨i,j,z,l,e⟩
  ·split at e
   ·rename_i i j z l;exact .inr ⟨i,j,z,l,e⟩
   ·cases e
 cases o with
 | eq=>exact A8 w.K w.room
 | ne=>exact y4 w.K w.room
 | lt=>exact g λa d h b e=>mk (h:=h) e
 | le=>exact g λa d h b e=>mk (h:=h) e
 | gt=>exact g λa d h b e=>mk (h:=h) e
 | ge=>exact g λa d h b e=>mk (h:=h) e
 | mem=>
  intro f s U H x y v u Q I m n ⟨G,h,a,d,b,B,p,r,e,q⟩
  exact nY w.K w.room y9 I m n B p r e q
 | cH=>
  intro f s U H x y v u Q I m n ⟨G,h,a,d,b,B,p,r,e,q⟩
  have e:(M.GU a d h).map (!·)=y0 b:=e
  cases l:M.GU a d h with
  | none=>rw [l]at e;cases e
  | some c=>
   rw [l]at e
   cases e
   exact nY w.K w.room k9 I m n B p r l q
 | nV=>
  intro f s U H x y v u Q I m n ⟨G,h,a,d,b,B,p,r,e,q⟩
  have e:M.Kz a d=y0 b:=e
  unfold M.Kz at e
  split at e
  ·cases e
   cases p
   cases r
   cases m
   obtain⟨t,rfl⟩:=n
   exact wpAny_is_plain rfl (xR I q rfl)
  ·cases e
   cases p
   cases r
   obtain⟨t,rfl⟩:=m
   obtain⟨J,rfl⟩:=n
   exact PyProof.Rows.is_bool (xR I q rfl)
  ·cases e
def qE (h:jh e=k9):behindInMarks o e=false:=by
 cases e<;>first | rfl | (simp [jh]at h)
def tf (I:Go Z F X E k cf)(s:ao Z G Y h U H)
 (p:ak Z E G H ((M.eval F a Y h).bind λx h=>(M.eval F b Y h).bind λy h=>(M.R.of h (M.Gw o x y h)).bind λc h=> .ok c h) λc _ _ H'=>R (.bl c) H'):
 iJ (g6 Z o) (tD Z E (M.eval F a)) (tD Z E (M.eval F b)) U H R:=by
 refine Wa s.heap Ext.refl s p λr v1 D C J q t g m B n=> ?_
 refine Wa s.heap q g n λu v2 i l z j e f v A d=> ?_
 obtain⟨c,w,d⟩:=d.of
 exact⟨l,i,r,u,c,f.heap,m.ext e g.heap,v,w,d.at j f.heap⟩
def ak.map {f:α->β}(p:ak Z E G H (r.bind λa h=> .ok (f a) h) P):ak Z E G H r λa h G' H'=>P (f a) h G' H':=by
 cases r with
 | ok a h=>exact p
 | exc d h=>exact p
 | fail=>exact p
def zo (r:M.R α) (f) (g:β->M.AH->M.R γ):(r.bind f).bind g=r.bind λa h=>(f a h).bind g:=by cases r<;>rfl
def CG (j:Go Z F X E k cf)(m:ZI o=k9) (A:jh y=k9) (z:PE X x (tD Z E (M.eval F a))) (u:PE X y (tD Z E (M.eval F b))):PE X (.Compare x [eL o] [y] pos) (tD Z E (M.eval F (.cmp o a b))):=by
 refine PE.imp (EY (qJ j o m) z u (qE A)) λU H Q l=> ?_
 obtain⟨G,Y,h,s,p⟩:=l
 rw [M.eval]at p
 refine tf j s ?_
 have n:ak Z E G H (((M.eval F a Y h).bind λx h=>(M.eval F b Y h).bind λy h=>(M.R.of h (M.Gw o x y h)).bind λc h=> .ok c h).bind λc h=> .ok (M.W.v (.bl c)) h) λw _ i g=> ∀v,aq Z i g w v->aD Y U H w v->Q v g:=by
  simpa only [zo,M.R.aa]using p
 have f:=n.map
 cases q:(M.eval F a Y h).bind λx h=>(M.eval F b Y h).bind λy h=>(M.R.of h _).bind λc h=> .ok c h with
 | ok c r=>rw [q]at f;exact λi g e t=>f i g e t _ rfl trivial
 | exc d r=>rw [q]at f;exact f
 | fail=>rw [q]at f;exact f
def DP (g:Go Z F X E k cf)(j:ZI o=k9) (v:jh y=k9) (t:PE X x (tD Z E (M.eval F a))) (n:PE X y (tD Z E (M.eval F b))):PT X (.Compare x [eL o] [y] pos) (cW Z E (M.Gr F (.cmp o a b))):=by
 refine PT.imp (yu (qJ g o j) t n (qE v)) λU H Q i=> ?_
 obtain⟨G,Y,h,s,p⟩:=i
 unfold M.Gr at p
 rw [M.eval]at p
 refine tf g s ?_
 have f:=by
  simpa only [zo,M.R.aa,M.Gn,M.R.ab]using p
 cases q:(M.eval F a Y h).bind λx h=>(M.eval F b Y h).bind λy h=>(M.R.of h _).bind λc h=> .ok c h with
 | ok c l=>rw [q]at f;exact λu r e m=>⟨c,rfl,f u r e m⟩
 | exc d l=>rw [q]at f;exact f
 | fail=>rw [q]at f;exact f
end
end
section
variable {Z:Ge}{F:M.Fx}{X:Cx}{E:XK}{k:Nat}{cf:Cf}{a b c:M.E}{x y z:Expr}{pos:Pos}
def XB (r:M.R α):(r.bind λw h=> .ok w h)=r:=by cases r<;>rfl
def CQ (o:Go Z F X E k cf) (l:PE X x (tD Z E (M.eval F a))) (e: ∀i,isTrue x X.env i=(do let v ←i;standAt x.pos;holding [v] (truthy v))):PT X x (cW Z E (M.Gr F a)):=by
 refine PT.imp (vJ l e) λU H Q d=> ?_
 obtain⟨G,Y,h,s,p⟩:=d
 refine Wa s.heap Ext.refl s p λj v1 n m r g u c f w b=> ?_
 cases q:M.GW n j with
 | none=>rw [q]at b;exact b.elim
 | some t=>
  rw [q]at b
  exact⟨t,J1 o.K c.heap f q,b m r g c.heap⟩
def Bj (k:PE X x ta):PE X (.UnaryOp .Not x pos) (λU H Q=>ta U H λv H1=> ∃t,gL X.K v H1 t/\Q (.bl (!t)) H1):=by
 intro a s U H Q I h
 refine UnaryOp_ (aI (k a s U H _ I h) ?_)
 rintro v l ⟨x,H1,j,g,t,f,b⟩
 exact not_of (aI (w5 a l U H1 x v (λc i=>Q (.bl (!c)) i) j g ⟨t,f,b⟩) λc m ⟨d,e,q⟩=>⟨.bl (!c),d,e,rfl,q⟩)
def Cv (i:Go Z F X E k cf) (g:PE X x (tD Z E (M.eval F a))):PE X (.UnaryOp .Not x pos) (tD Z E (M.eval F (.not a))):=by
 refine PE.imp (Bj g) λU H Q d=> ?_
 obtain⟨G,Y,h,s,p⟩:=d
 refine Wa s.heap Ext.refl s p λm v1 o n r f j c e l b=> ?_
 obtain⟨t,q,b⟩:=b.of
 exact⟨t,J1 i.K c.heap e q,ak.val b f c.heap rfl trivial⟩
def uP (c:PT X x (cW Z E (M.Gr F a))):PT X (.UnaryOp .Not x pos) (cW Z E (M.Gr F (.not a))):=by
 refine PT.imp (Ey c) λU H Q d=> ?_
 obtain⟨G,Y,h,s,p⟩:=d
 unfold M.Gr at p
 rw [M.eval]at p
 have f:ak Z E G H ((M.Gr F a Y h).bind λt h=> .ok (!t) h) λb _ _ e=>Q b e:=by
  unfold M.Gr
  simpa only [zo,M.R.aa,M.Gn,M.R.ab]using p
 exact⟨G,Y,h,s,f.map⟩
def Eu {Wk:List Expr}(n:PE X x ta) (l:PE X (.BoolOp .And (y::Wk) pos) tb):PE X (.BoolOp .And (x::y::Wk) pos) (λU H Q=>ta U H λv H1=> ∃t,gL X.K v H1 t/\if t=k9 then tb U H1 Q else Q v H1):=by
 intro a s U H Q I h
 refine BoolOp_and (aI (n a s U H _ I h) ?_)
 rintro v o ⟨x,H1,m,e,t,k,i⟩
 refine aI (w5 a o U H1 x v (λc f=>if c=k9 then tb U f Q else Q x f) m e ⟨t,k,i⟩) λc j g=> ?_
 obtain⟨b,d,q⟩:=g
 cases c with
 | true=>exact l a j U b Q d q
 | false=>exact⟨x,b,d,e,q⟩
def vt {Wk:List Expr}(n:PE X x ta) (l:PE X (.BoolOp .Or (y::Wk) pos) tb):PE X (.BoolOp .Or (x::y::Wk) pos) (λU H Q=>ta U H λv H1=> ∃t,gL X.K v H1 t/\if t=k9 then Q v H1 else tb U H1 Q):=by
 intro a s U H Q I h
 refine BoolOp_or (aI (n a s U H _ I h) ?_)
 rintro v o ⟨x,H1,m,e,t,k,i⟩
 refine aI (w5 a o U H1 x v (λc f=>if c=k9 then Q x f else tb U f Q) m e ⟨t,k,i⟩) λc j g=> ?_
 obtain⟨b,d,q⟩:=g
 cases c with
 | false=>exact l a j U b Q d q
 | true=>exact⟨x,b,d,e,q⟩
def tP (v:Go Z F X E k cf){Wk:List Expr}(r:PE X x (tD Z E (M.eval F a))) (o:PE X (.BoolOp .And (y::Wk) pos) (tD Z E (M.eval F b))):PE X (.BoolOp .And (x::y::Wk) pos) (tD Z E (M.eval F (.and a b))):=by
 refine PE.imp (Eu r o) λU H Q g=> ?_
 obtain⟨G,Y,h,s,p⟩:=g
 refine Wa s.heap Ext.refl s p λD v1 K J L d z e f n c=> ?_
 obtain⟨t,q,c⟩:=c.of
 refine⟨t,J1 v.K e.heap f q,?_⟩
 cases t with
 | true=>
  exact Wa s.heap d e (by rw [XB];exact c) λI v2 A C B j w l u i m=>ak.val m j l.heap u (i.back d s.heap)
 | false=>
  exact ak.val c d e.heap f n
def sI (v:Go Z F X E k cf){Wk:List Expr}(r:PE X x (tD Z E (M.eval F a))) (o:PE X (.BoolOp .Or (y::Wk) pos) (tD Z E (M.eval F b))):PE X (.BoolOp .Or (x::y::Wk) pos) (tD Z E (M.eval F (.or a b))):=by
 refine PE.imp (vt r o) λU H Q g=> ?_
 obtain⟨G,Y,h,s,p⟩:=g
 refine Wa s.heap Ext.refl s p λD v1 K J L d z e f n c=> ?_
 obtain⟨t,q,c⟩:=c.of
 refine⟨t,J1 v.K e.heap f q,?_⟩
 cases t with
 | false=>
  exact Wa s.heap d e (by rw [XB];exact c) λI v2 A C B j w l u i m=>ak.val m j l.heap u (i.back d s.heap)
 | true=>
  exact ak.val c d e.heap f n
def AV :M.Gr F (.and a b) Y h=(M.Gr F a Y h).bind λt h=>match t with
 | true=>M.Gr F b Y h
 | false=> .ok y9 h:=by
 unfold M.Gr
 rw [M.eval]
 simp only [zo]
 congr 1
 funext w h1
 cases q:M.GW h1 w with
 | none=>rfl
 | some t=>
  cases t with
  | true=>rfl
  | false=>simp [q]
def yY :M.Gr F (.or a b) Y h=(M.Gr F a Y h).bind λt h=>match t with
 | true=> .ok k9 h
 | false=>M.Gr F b Y h:=by
 unfold M.Gr
 rw [M.eval]
 simp only [zo]
 congr 1
 funext w h1
 cases q:M.GW h1 w with
 | none=>rfl
 | some t=>
  cases t with
  | false=>rfl
  | true=>simp [q]
def Z5 {Wk:List Expr}(r:PT X x (cW Z E (M.Gr F a))) (q:PW X (.BoolOp .And (y::Wk) pos) (cW Z E (M.Gr F b))):PW X (.BoolOp .And (x::y::Wk) pos) (cW Z E (M.Gr F (.and a b))):=by
 intro o c n U H Q I ⟨G,Y,h,s,p⟩
 refine Dy r q o c n U H Q I ?_
 rw [AV]at p
 refine wM s.heap Ext.refl s p λt D u v e A g d=> ?_
 cases t with
 | true=>
  exact wM s.heap e g (f:=λw h=> .ok w h) (by rw [XB];exact d) λC B l i j z k m=>m l i j k.heap
 | false=>
  exact d u v e g.heap
def ou {Wk:List Expr}(r:PT X x (cW Z E (M.Gr F a))) (q:PW X (.BoolOp .Or (y::Wk) pos) (cW Z E (M.Gr F b))):PW X (.BoolOp .Or (x::y::Wk) pos) (cW Z E (M.Gr F (.or a b))):=by
 intro o c n U H Q I ⟨G,Y,h,s,p⟩
 refine CS r q o c n U H Q I ?_
 rw [yY]at p
 refine wM s.heap Ext.refl s p λt D u v e A g d=> ?_
 cases t with
 | false=>
  exact wM s.heap e g (f:=λw h=> .ok w h) (by rw [XB];exact d) λC B l i j z k m=>m l i j k.heap
 | true=>
  exact d u v e g.heap
def Fh (f:PE X x (tD Z E (M.eval F a))):PE X (.UnaryOp .USub x pos) (tD Z E (M.eval F (.neg a))):=by
 refine PE.imp (tN tV f) λU H Q c=> ?_
 obtain⟨G,Y,h,s,p⟩:=c
 refine Wa s.heap Ext.refl s p λk v1 m l n e i g d j b=> ?_
 obtain⟨t,q,b⟩:=b.of
 exact⟨t,d.int q,ak.val b e g.heap rfl trivial⟩
def Z4 (h:jh e'=k9):lastMarks [o,o'] [e,e']=false:=qE h
def Q1 (W:Go Z F X E k cf)(s:ao Z G Y h U H)
 (q: ∀b h' G' H',P (.v (.bl b)) h' G' H'->R (.bl b) H') (p:ak Z E G H (M.eval F (.chain o o' a b c) Y h) P):
 ng (g6 Z o) (g6 Z o') (tD Z E (M.eval F a)) (tD Z E (M.eval F b)) (tD Z E (M.eval F c)) U H R:=by
 refine Wa s.heap Ext.refl s p λD v1 V T H1 B J r z O A=> ?_
 refine Wa s.heap B r A λn v2 v x L m j d u N e=> ?_
 obtain⟨t,i,e⟩:=e.of
 refine⟨x,v,D,n,t,d.heap,z.ext j r.heap,u,i,t,rfl,?_⟩
 cases t with
 | true=>
  refine Wa s.heap m d e λI v3 w K Q y f l C S g=> ?_
  obtain⟨t,i,g⟩:=g.of
  exact⟨K,w,n,I,t,l.heap,u.ext f d.heap,C,i,q _ _ _ _ (g.at y l.heap)⟩
 | false=>
  exact q _ _ _ _ (e.at m d.heap)
def Ck (d:Go Z F X E k cf)(f:ZI o=k9) (e:ZI o'=k9) (j:jh z=k9) (l:PE X x (tD Z E (M.eval F a))) (i:PE X y (tD Z E (M.eval F b))) (g:PE X z (tD Z E (M.eval F c))):
 PE X (.Compare x [eL o,eL o'] [y,z] pos) (tD Z E (M.eval F (.chain o o' a b c))):=
 PE.imp (yV (qJ d o f) (qJ d o' e) l i g (Z4 j)) λU H Q ⟨G,Y,h,s,p⟩=>Q1 d s (λb m r n q=>q _ rfl trivial) p
def Q8 (g:Go Z F X E k cf)(n:ZI o=k9) (i:ZI o'=k9) (v:jh z=k9) (A:PE X x (tD Z E (M.eval F a))) (u:PE X y (tD Z E (M.eval F b))) (r:PE X z (tD Z E (M.eval F c))):
 PT X (.Compare x [eL o,eL o'] [y,z] pos) (cW Z E (M.Gr F (.chain o o' a b c))):=by
 refine PT.imp (AF (qJ g o n) (qJ g o' i) A u r (Z4 v)) λU H Q m=> ?_
 obtain⟨G,Y,h,s,p⟩:=m
 refine Q1 g s (P:=λw _ _ f=> ∀b,w= .v (.bl b)->Q b f) (λb j l f q=>⟨b,rfl,q b rfl⟩) ?_
 unfold M.Gr at p
 cases q:M.eval F _ Y h with
 | ok w j=>rw [q]at p;exact λl f e t b B=>by subst B;exact p l f e t
 | exc d j=>rw [q]at p;exact p
 | fail=>rw [q]at p;exact p
end
def ja (h:Ja e=k9):starEach (e::es) env=(y9,eval e env)::starEach es env:=by
 cases e<;>first | rfl | (simp [Ja]at h)
def Zr (h: ∀e∈es,Ja e=k9):(backTo pos (starEach es env)).any (·.1)=false:=by
 induction es with
 | nil=>rfl
 | cons e r c=>
  rw [ja (h e Aa4)]
  show(y9||(backTo pos _).any _)=y9
  rw [c λb a=>h b (Aa5 _ a)]
  rfl
section
variable {Z:Ge}{F:M.Fx}{X:Cx}{E:XK}{k:Nat}{cf:Cf}{a b c:M.E}{x y z:Expr}{pos:Pos}{es:M.Es}{xs:List Expr}
def FW:PA X [] (gI Z E (M.Gk F .nil)):=PA.imp ji λU H Q ⟨G,Y,h,s,p⟩=>p G H Ext.refl s.heap [] rfl
def uw (n:Ja x=k9) (v:PE X x (tD Z E (M.eval F a))) (k:PA X xs (gI Z E (M.Gk F es))):PA X (x::xs) (gI Z E (M.Gk F (.cons a es))):=by
 refine PA.imp (Jc v k (ja n)) λU H Q i=> ?_
 obtain⟨G,Y,h,s,p⟩:=i
 refine Wa s.heap Ext.refl s p λI v1 K J L r z w o m c=> ?_
 obtain⟨d,q,c⟩:=c.of
 obtain⟨C,j,e,rd,_⟩:=mY r w s o m q
 refine WU s.heap j e c λD f B A u l b g t y=> ?_
 exact y A u l g.heap (v1::f) ⟨v1,f,rfl,rd.ext b e.heap,t⟩
def EA:PA X [] (eK Z E (M.Gj F .nil)):=PA.imp ji λU H Q ⟨G,Y,h,s,p⟩=>p G H Ext.refl s.heap [] rfl
def uN (j:Ja x=k9) (q:PE X x (tD Z E (M.eval F a))) (g:PA X xs (eK Z E (M.Gj F es))):PA X (x::xs) (eK Z E (M.Gj F (.cons a es))):=by
 refine PA.imp (Jc q g (ja j)) λU H Q f=> ?_
 obtain⟨G,Y,h,s,p⟩:=f
 refine Wa s.heap Ext.refl s p λz v1 B A C m t c k y l=> ?_
 refine jp s.heap m c l λw d v u o i b e n r=> ?_
 exact r u o i e.heap (v1::d) ⟨v1,d,rfl,k.ext b c.heap,n⟩
def Ep (B:xs.length<=1000) (a: ∀Y h ds h',M.Gk F es Y h= .ok ds h'->ds.length=xs.length) (r:PA X xs (gI Z E (M.Gk F es))):PE X (.Tuple xs n pos) (tD Z E (M.eval F (.tup es))):=by
 refine PE.imp (ud r) λU H Q k=> ?_
 obtain⟨G,Y,h,s,p⟩:=k
 rw [M.eval]at p
 cases q:M.Gk F es Y h with
 | ok c g=>
  have o:=a _ _ _ _ q
  refine WU s.heap Ext.refl s (f:=λds h=>if ds.length=xs.length then M.aF (.tup ds) h else .fail) (P:=λw h' t j=> ∀v,aq Z t j w v->aD Y U H w v->Q v j) ?_ λds D A z C l x u i b=> ?_
  ·rw [q]at p ⊢
   show ak Z E G H (if c.length=xs.length then M.aF _ g else .fail) _
   rw [if_pos o]
   exact p
  ·by_cases hd:ds.length=xs.length
   ·rw [if_pos hd]at b
    have y:=i.length
    exact⟨Ai6 (jv (by lia)),λm e=>ar.tup (ar.mk b l s.heap) u.heap i m e⟩
   ·rw [if_neg hd]at b;exact b.elim
 | exc d g=>rw [q]at p;exact⟨G,Y,h,s,by rw [q];exact p⟩
 | fail=>rw [q]at p;exact p.elim
def t4 (A:xs.length<=1000) (a: ∀Y h ds h',M.Gk F es Y h= .ok ds h'->ds.length=xs.length) (o:PA X xs (gI Z E (M.Gk F es))):PE X (.List xs pos) (tD Z E (M.eval F (.lst es))):=by
 refine PE.imp (ye o) λU H Q k=> ?_
 obtain⟨G,Y,h,s,p⟩:=k
 rw [M.eval]at p
 cases q:M.Gk F es Y h with
 | ok c g=>
  have n:=a _ _ _ _ q
  refine WU s.heap Ext.refl s (f:=λds h=>if ds.length=xs.length then .ok (.own ds) h else .fail) (P:=λw h' r j=> ∀v,aq Z r j w v->aD Y U H w v->Q v j) ?_ λds C z y B l u t i b=> ?_
  ·rw [q]at p ⊢
   show ak Z E G H (if c.length=xs.length then .ok _ g else .fail) _
   rw [if_pos n]
   exact p
  ·by_cases hd:ds.length=xs.length
   ·rw [if_pos hd]at b
    have x:=i.length
    exact⟨Ai6 (jv (by lia)),λm e=>ar.own (ar.mk b l s.heap) t.heap i m e⟩
   ·rw [if_neg hd]at b;exact b.elim
 | exc d g=>rw [q]at p;exact⟨G,Y,h,s,by rw [q];exact p⟩
 | fail=>rw [q]at p;exact p.elim
def Ek (r:aq Z G H w v):aq Z G H w.arg v:=by
 cases w with
 | v d=>exact r
 | own f=>obtain⟨a,e,c,_,g,h,b⟩:=r;exact⟨a,e,c,g,.inl h,b⟩
 | bor f=>exact r
theorem Xv : ∀ {ws}{vs},aU Z G H ws vs->aU Z G H (ws.map M.W.arg) vs
 | [],_,z=>z
 | _::_,_,⟨v,r,a,b,c⟩=>⟨v,r,a,Ek b,Xv c⟩
def ww (ws:List M.W): ∀w∈ws.map M.W.arg,lM w=true:=λw a=>by
 obtain⟨u,_,rfl⟩:=Ad6.mp a
 cases u<;>rfl
def Aw (a:Go Z F X E k cf)(y:bF cf.sc f g=k9) (m:cf.fns.contains f=k9) (c: ∀e∈x::xs,Ja e=k9) (z:PA X (x::xs) (eK Z E (M.Gj F es))):PE X (.Call g (x::xs) [] pos) (tD Z E (M.eval F (.call f es))):=by
 obtain⟨p,rfl,i,j⟩:=Jb y
 obtain⟨o,J,I,b,l,q,r⟩:=(a.fn f m).imp λo h=>h.ex
 refine PE.imp (ug b a.room (a.gl _ i) r q l .nil a.pass z j (ja (c _ Aa4)) (Zr λe n=>c e (Aa5 _ n))) λU H Q d=> ?_
 obtain⟨G,Y,h,s,p⟩:=d
 refine jp s.heap Ext.refl s p λw L C A K v D B t u=> ?_
 rw [Ac5]
 exact⟨A,C,_,B.heap,Xv t,ww w,ar.mk u v s.heap⟩
def AM (a:Go Z F X E k cf)(o:bF cf.sc f g=k9) (j:cf.fns.contains f=k9):PE X (.Call g [] [] pos) (tD Z E (M.eval F (.call f .nil))):=by
 obtain⟨p,rfl,d,e⟩:=Jb o
 obtain⟨l,r,q,b,i,m,n⟩:=(a.fn f j).imp λl h=>h.ex
 refine PE.imp (Fz b a.room (a.gl _ d) n m i .nil a.pass e) λU H Q c=> ?_
 obtain⟨G,Y,h,s,p⟩:=c
 have p:=p
 exact⟨G,h,_,s.heap,Xv (ws:= []) rfl,ww [],ar.mk p Ext.refl s.heap⟩
def Ft (b:M.Bi) (a:lz b=k9):bootBuiltins (Qg (lA b))=y0 (lW b):=by
 cases b<;>first | (exact absurd (show y9=k9 from a) Ab4) | decide +kernel
def sO (b):lA b∈bW:=by cases b<;>decide
def Cu (c:Go Z F X E k cf){b:M.Bi}(f:lz b=k9) (B:bF cf.sc (lA b) g=k9) (t: ∀e∈x::xs,Ja e=k9) (r:PA X (x::xs) (eK Z E (M.Gj F es))):PE X (.Call g (x::xs) [] pos) (tD Z E (M.eval F (.bi b es))):=by
 obtain⟨p,rfl,i,l⟩:=Jb B
 have n:=c.blt _ (sO b)
 have o:=Zs (sO b)
 have j:=Ft b f
 have q:Js X (lW b) (nB Z E b):=u3 b f c.K c.calm
 have a: ∀U H Q,tD Z E (M.eval F (.bi b es)) U H Q->nM (nB Z E b) (eK Z E (M.Gj F es)) U H Q:=λU H Q u=>by
  obtain⟨G,Y,h,s,p⟩:=u
  refine jp s.heap Ext.refl s p λA K D C J z I d w y=> ?_
  exact⟨C,D,A,d.heap,w,ar.mk y z s.heap⟩
 have d:=ja (env:=X.env) (es:=xs) (t _ Aa4)
 have m:=Zr (env:=X.env) (pos:=pos) λe v=>t e (Aa5 _ v)
 cases b with
 | len=>exact PE.imp (qs q (c.gl _ i) n j r o l d m) a
 | divmod=>cases f
 | min=>cases f
 | max=>cases f
 | int=>exact PE.imp (xr q (c.gl _ i) n j r o l d m) a
 | list=>exact PE.imp (xr q (c.gl _ i) n j r o l d m) a
 | tuple=>exact PE.imp (xr q (c.gl _ i) n j r o l d m) a
 | sum=>exact PE.imp (qs q (c.gl _ i) n j r o l d m) a
 | all=>exact PE.imp (qs q (c.gl _ i) n j r o l d m) a
 | any=>cases f
 | sorted=>exact PE.imp (qs q (c.gl _ i) n j r o l d m) a
 | str=>cases f
 | abs=>cases f
def bU (h:nC o=k9) (w):attributeBase o n env w=w:=by
 cases o with
 | Call f a b p=>
  cases a with
  | nil=>exact absurd (h) Ab4
  | cons x a=>cases f<;>rfl
 | _=>rfl
theorem x0 (z): ∀ts:List M.Tx,Str.join (aw z) (ts.map aw)=aw (M.GF z ts)
 | []=>rfl
 | [t]=>rfl
 | t::u::r=>by
  have a:=x0 z (u::r)
  simp only [Ab3,Str.join,M.GF]at a ⊢
  rw [a,qo,qo]
theorem j4 {z:M.Tx}: ∀ts:List M.Tx,(M.GF z ts).length+z.length=(ts.map λt=>t.length+z.length).sum+(if ts= []then z.length else 0)
 | []=>by simp [M.GF]
 | [t]=>by simp [M.GF]
 | t::u::r=>by
  have a:=j4 (z:=z) (u::r)
  simp only [M.GF,List.sum_cons]at a ⊢
  simp at a ⊢
  omega
theorem W4 (z): ∀ts:List M.Tx,((ts.map aw).map (·.length)).sum+(ts.map aw).length*(aw z).length=(ts.map λt=>t.length+z.length).sum
 | []=>by simp
 | t::ts=>by
  have a:=W4 z ts
  simp only [Ab3,List.sum_cons,jc,Aa0,Nat.succ_mul]at a ⊢
  omega
theorem oZ {c:Nat}: ∀ {s a b},M.Kg c s=y0 (a,b)->s=a++c::b/\c∉a
 | [],_,_,h=>by cases h
 | x::s,a,b,h=>by
  rw [M.Kg]at h
  split at h
  ·rename_i e
   cases h
   exact⟨by rw [e];rfl,by simp⟩
  ·rename_i e
   obtain⟨⟨k,j⟩,f,d⟩:=Ad4.mp h
   cases d
   obtain⟨g,i⟩:=oZ f
   exact⟨congrArg (x:: ·) g,λz=>(Aa.mp z).elim (λz=>e z.symm) i⟩
def Fo (h:M.GZ s t=y0 d): ∃c a b,t= [c]/\s=a++c::b/\c∉a/\d= .tup [.str a,.str [c],.str b]:=by
 unfold M.GZ at h
 split at h
 ·rename_i c
  obtain⟨⟨a,b⟩,f,e⟩:=Ad4.mp h
  obtain⟨g,i⟩:=oZ f
  exact⟨c,a,b,rfl,g,i,e.symm⟩
 ·cases h
def Z8 {z t:M.Tx}{b:Bool}(h:M.GQ z t=y0 b):Txt.startswith (aw z) (aw t)=b:=by
 unfold M.GQ at h
 split at h
 ·rename_i c
  cases h
  cases z with
  | nil=>rfl
  | cons a r=>
   have d:(aw [c]).length=1:=rfl
   have e:(aw (a::r)).length=r.length+1:=by rw [jc];rfl
   unfold Txt.startswith
   by_cases q:a=c<;>simp [Builtin.Str.subAt,aw,Str.length,q]
 ·cases h
def yg (go:Go Z F X E k cf)(hm:rZ m=k9) (R:(apos.endLine==u7.line)=k9) (D:nC o=k9) (q:Ja x=k9) (ha:PE X o (tD Z E (M.eval F a))) (V:PA X [x] (eK Z E (M.Gj F es))):
 PE X (.Call (.Attribute o (Qg (pM m)) apos) [x] [] u7) (tD Z E (M.eval F (.cE m a es))):=by
 cases m with
 | starts=>
  refine PE.imp (WZ PySem.F.plainAttrs_str PySem.F.slot_str_startswith PySem.F.type_str_startswith nE uZ ha V (bU D _) (by rw [ja q];rfl) R (ja q) rfl) λU H Q r=> ?_
  obtain⟨G,Y,h,s,p⟩:=r
  refine Wa s.heap Ext.refl s p λw1 v1 h1 G1 H1 J T O I f1 f=> ?_
  split at f
  ·rename_i y
   obtain⟨z,g⟩:=Ag1.mp (y)
   cases I.str g
   refine⟨⟨_,rfl⟩,?_⟩
   refine jp s.heap J O f λL us h2 G2 H2 B S n P e=> ?_
   cases L with
   | nil=>exact e.elim
   | cons w N=>
    cases N with
    | cons _ _=>exact e.elim
    | nil=>
     obtain⟨u,rfl,A⟩:=P.one
     have e:=e
     obtain⟨z',i,p3⟩:=e.of
     obtain⟨t,v,W⟩:=p3.of
     obtain⟨b,C,K⟩:=W.of
     rw [g]at i
     cases i
     cases A.str v
     refine⟨aw z,aw t,rfl,rfl,?_⟩
     rw [Z8 C]
     exact(ar.mk K B s.heap).v n.heap rfl
  ·exact f.elim
 | part=>
  refine PE.imp (WZ PySem.F.plainAttrs_str PySem.F.slot_str_partition PySem.F.type_str_partition nE Dh ha V (bU D _) (by rw [ja q];rfl) R (ja q) rfl) λU H Q r=> ?_
  obtain⟨G,Y,h,s,p⟩:=r
  rw [M.eval]at p
  refine Wa s.heap Ext.refl s p λw1 v1 h1 G1 H1 J T O I f1 f=> ?_
  split at f
  ·rename_i y
   obtain⟨z,g⟩:=Ag1.mp (y)
   cases I.str g
   refine⟨⟨_,rfl⟩,?_⟩
   refine jp s.heap J O f λL us h2 G2 H2 B S n P e=> ?_
   cases L with
   | nil=>exact e.elim
   | cons w N=>
    cases N with
    | cons _ _=>exact e.elim
    | nil=>
     obtain⟨u,rfl,A⟩:=P.one
     have e:=e
     obtain⟨z',i,p3⟩:=e.of
     obtain⟨t,v,W⟩:=p3.of
     obtain⟨d,C,K⟩:=W.of
     rw [g]at i
     cases i
     cases A.str v
     split at K
     ·rename_i hz
      obtain⟨c,a,b,rfl,rfl,D,rfl⟩:=Fo C
      exact⟨a,b,c,rfl,rfl,D,Ac1 hz (by rw [M.Gc,sizeLine_eq];decide),λl R=>(ar.mk K B s.heap).tup n.heap ⟨_,_,rfl,rfl,_,_,rfl,rfl,_,_,rfl,rfl,rfl⟩ l R⟩
     ·exact K.elim
  ·exact f.elim
 | join=>
  refine PE.imp (WZ PySem.F.plainAttrs_str PySem.F.slot_str_join PySem.F.type_str_join nE Dj ha V (bU D _) (by rw [ja q];rfl) R (ja q) rfl) λU H Q r=> ?_
  obtain⟨G,Y,h,s,p⟩:=r
  rw [M.eval]at p
  refine Wa s.heap Ext.refl s p λw1 v1 h1 G1 H1 J T O I f1 f=> ?_
  split at f
  ·rename_i y
   obtain⟨z,g⟩:=Ag1.mp (y)
   cases I.str g
   refine⟨⟨_,rfl⟩,?_⟩
   refine jp s.heap J O f λL us h2 G2 H2 B S n P e=> ?_
   cases L with
   | nil=>exact e.elim
   | cons w N=>
    cases N with
    | cons _ _=>exact e.elim
    | nil=>
     obtain⟨u,rfl,A⟩:=P.one
     have e:=e
     obtain⟨z',i,e⟩:=e.of
     obtain⟨j,v,e⟩:=e.of
     rw [g]at i
     cases i
     obtain⟨ys,C,q4⟩:=Ac7.mp v
     obtain⟨b,vs,rfl,y2,y3⟩:=aq.lst n.heap A C
     cases Zw q4 y3
     split at e
     ·rename_i c
      rw [M.Gc]at c
      refine⟨aw z,b,j.map aw,rfl,rfl,go.K▸y2,?_,?_⟩
      ·unfold JoinOk
       rw [StrLaws.joinTotal]
       have hf:=j4 (z:=z) j
       have hs:=W4 z j
       have: ¬(((j.map aw).map (·.length)).sum+(j.map aw).length*(aw z).length>sizeLine):=by
        have:sizeLine>=3000000:=by decide
        split at hf<;>omega
       rw [show Builtin.Str.tooLong (((j.map aw).map (·.length)).sum+(j.map aw).length*(aw z).length)=y9 from decide_eq_false this]
       rfl
      ·rw [x0]
       exact(ar.mk e B s.heap).v n.heap rfl
     ·exact e.elim
  ·exact f.elim
def Dg: "set" ∈bW:=by decide
def FN: "len" ∈bW:=by decide
def sW (a b):(aw a==aw b)=(a==b):=by
 rw [Bool.eq_iff_iff,beq_iff_eq,beq_iff_eq]
 exact⟨λe=>by simpa [aw]using e,λe=>by rw [e]⟩
def FU (ts):iT (ts.map aw)=M.GT [] ts:=by
 have j: ∀ n a Wk,ts=a++Wk->a.length=n->(JB (fun i=>(ts.map aw).getD i "") n).length+M.GT a Wk=(JB (fun i=>(ts.map aw).getD i "") (ts.map aw).length).length:=by
  intro n a Wk
  induction Wk generalizing n a with
  | nil=>
   intro b c
   rw [Ac5]at b
   rw [M.GT,Nat.add_zero,←c,b,Ab1]
  | cons x o l=>
   intro b c
   have g:(ts.map aw).getD n "" =aw x:=by
    rw [Ad1,Ad9,b,Ae6 (by omega),c,Nat.sub_self]
    rfl
   have f:=l (n+1) (a++ [x]) (by rw [b,Ac6];rfl) (by simp [c])
   rw [← f,M.GT,zr,g]
   have k:(List.range n).map (λi=>(ts.map aw).getD i "")=a.map aw:=by
    refine List.ext_getElem (by simp [c]) λi m e=> ?_
    rw [Ab1]at e
    rw [List.getElem_map,List.getElem_range,Ad1,Ad9,b,Ae0 e,Ab e,List.getElem_map]
    rfl
   have d:=Z2 (λi=>(ts.map aw).getD i "") n (aw x)
   rw [k,List.any_map]at d
   have h:((λy=>y==aw x)∘aw)=λy=>y==x:=by funext y;exact sW y x
   rw [h]at d
   rw [zz,d]
   split<;>omega
 have:=j 0 [] ts rfl rfl
 rw [show (JB (λi=>(ts.map aw).getD i "") 0).length=0 from rfl,Nat.zero_add]at this
 exact this.symm
def FZ (b:Go Z F X E k cf)(z:bF cf.sc "len" g=true) (f:bF cf.sc "set" g2=true) (i:Ja x=true) (A:PE X x (tD Z E (M.eval F a))):PE X (.Call g [.Call g2 [x] [] pos2] [] pos) (tD Z E (M.eval F (.c7 a))):=by
 obtain⟨p,rfl,n,I⟩:=Jb z
 obtain⟨K,rfl,e,C⟩:=Jb f
 refine PE.imp (Fe b.calm (b.gl _ n) (b.blt _ FN) (b.gl _ e) (b.blt _ Dg) (Jc A ji (ja i)) (ja i)) λU H Q m=> ?_
 obtain⟨G,Y,h,s,p⟩:=m
 refine Wa s.heap Ext.refl s p λL v1 N B P v D j t J d=> ?_
 obtain⟨u,r,d⟩:=d.of
 obtain⟨O,o,q⟩:=Ac7.mp r
 obtain⟨l,R,rfl,w,y⟩:=aq.lst j.heap t o
 cases Zw q y
 split at d
 ·rename_i c
  refine⟨l,u.map aw,rfl,b.K▸w,by rw [Ab1];exact c,?_⟩
  rw [FU]
  exact d B _ v j.heap (.int _) rfl trivial
 ·exact d.elim
def n8: "sorted" ∈bW:=by decide
def yH (e:Go Z F X E k cf)(C:bF cf.sc "sorted" g=true) (f:Ja x=true) (D:PE X x (tD Z E (M.eval F a))):PE X (.Call g [x] [] pos) (tD Z E (M.eval F (.cL a))):=by
 obtain⟨p,rfl,j,n⟩:=Jb C
 refine PE.imp (qs ZL (e.gl _ j) (e.blt _ n8) (by decide +kernel) (Jc D ji (ja f)) (Zs n8) n (ja f) rfl) λU H Q i=> ?_
 obtain⟨G,Y,h,s,p⟩:=i
 refine Wa s.heap Ext.refl s p λL v1 O N R y J I v K d=> ?_
 obtain⟨w,u,d⟩:=d.of
 obtain⟨P,m,q⟩:=Ac7.mp u
 obtain⟨l,S,rfl,A,B⟩:=v.tup m
 cases Zw q B
 split at d
 ·rename_i c
  refine⟨l,w.map aw,rfl,e.K▸A.sq,by rw [Ab1];exact c,λr o t b z=> ?_⟩
  rw [wR o t]
  exact ar.own (ar.mk d y s.heap) I.heap (jO _) b z
 ·exact d.elim
def yF (e:Go Z F X E k cf)(f:t≠ .az) (B:bF cf.sc "isinstance" g=true) (N:bF cf.sc (eP t) y=true) (l:Ja x=true) (J:PE X x (tD Z E (M.eval F a))):PE X (.Call g [x,y] [] pos) (tD Z E (M.eval F (.cu a t))):=by
 obtain⟨p,rfl,o,u⟩:=Jb B
 obtain⟨q,rfl,C,z⟩:=Jb N
 have d:eP t∈bW:=by cases t<;>first | exact absurd rfl f | decide
 have r:bootBuiltins (Qg (eP t))=y0 (.type (eP t)):=by cases t<;>first | exact absurd rfl f | decide +kernel
 have bi:bootBuiltins _=y0 _:=boot_isinstance
 have b: "isinstance" ∈bW:=by decide
 have j:PE X (.Name (Qg (eP t)) q) (tC (.ty (eP t))):=BH (e.gl _ C) (e.blt _ d) r rfl (Zs d) z
 refine PE.imp (qs (EM e.K) (e.gl _ o) (e.blt _ b) bi (Jc J (Jc j ji) (ja l)) (Zs b) u (ja l) rfl) λU H Q n=> ?_
 obtain⟨G,Y,h,s,p⟩:=n
 rw [M.eval]at p
 refine Wa s.heap Ext.refl s p λD v1 L K R A O m w P i=> ?_
 obtain⟨c,I,i⟩:=i.of
 exact⟨K,L,D,v1,t,c,rfl,f,m.heap,w,I,ak.val i A m.heap (v:= .bl c) rfl trivial⟩
def Hx (xs:List α) (i):M.bc xs i=L2.bc xs i:=rfl
theorem ae.bc (z:ae Z G H ds vs) (e:M.bc ds i=y0 d): ∃v,L2.bc vs i=y0 v/\aB Z G H d v:=by
 unfold M.bc at e
 unfold L2.bc
 rw [z.length]at e
 cases q:M.dj vs.length i with
 | none=>rw [q]at e;cases e
 | some j=>
  rw [q]at e
  obtain⟨v,b,a⟩:=z.get (e)
  refine⟨v,?_,a⟩
  have c:L2.dj vs.length i=y0 j:=q
  rw [c]
  exact b
def JZ (a:zg y=k9):td y:=by
 intro o i
 cases y<;>first | rfl | (simp [zg]at a)
def BG (w:Go Z F X E k cf) (R:zg y=k9) (O:PE X x (tD Z E (M.eval F a))) (K:PE X y (tD Z E (M.eval F b))):PE X (.Subscript x y pos) (tD Z E (M.eval F (.ix a b))):=by
 refine PE.imp (tI Ds O K (JZ R)) λU H Q A=> ?_
 obtain⟨G,Y,h,s,p⟩:=A
 refine Wa s.heap Ext.refl s p λN v1 h1 G1 H1 J S u m f1 I=> ?_
 refine Wa s.heap J u I λw2 v2 B G2 V r o n P W g=> ?_
 obtain⟨d,q,g⟩:=g.of
 have m:=m.ext o u.heap
 unfold M.bI at q
 split at q
 ·rename_i i T
  cases P.int T
  split at q
  ·rename_i j C
   cases m.str C
   split at q
   ·rename_i hl
    cases c:M.bc j i with
    | none=>rw [c]at q;cases q
    | some D=>
     rw [c]at q
     cases q
     refine .inr (.inr ⟨aw j,i,D,rfl,rfl,by rw [jc];have:=Xh;lia,?_,ak.val g r n.heap rfl trivial⟩)
     have:(aw j).cps.toList=j:=by simp [aw]
     exact c
   ·cases q
  ·cases c:N.seq? B with
   | none=>rw [c]at q;cases q
   | some ds=>
    rw [c]at q
    obtain⟨l,z,rfl,f,L⟩:=m.seq n.heap c
    obtain⟨v,e,rd⟩:=L.bc (q)
    have t:=ak.val g r n.heap rd trivial
    obtain f | f:=f
    ·exact .inl ⟨l,z,i,v,rfl,rfl,w.K▸f,e,t⟩
    ·exact .inr (.inl ⟨l,z,i,v,rfl,rfl,w.K▸f,e,t⟩)
 ·cases q
end
section
variable {Z:Ge}{F:M.Fx}{X:Cx}{E:XK}{k:Nat}{cf:Cf}{a b c:M.E}{x y z:Expr}{pos p2:Pos}
def m3 (xs:List α) (lo hi):M.cut xs lo hi=(xs.drop (HT.aH xs.length 0 lo)).take (HT.aH xs.length xs.length hi-HT.aH xs.length 0 lo):=by
 unfold M.cut
 have e: ∀d o,M.aH xs.length d o=HT.aH xs.length d o:=λd o=>by cases o<;>rfl
 rw [e,e]
theorem ae.cut (z:ae Z G H ds vs) (lo hi):ae Z G H (M.cut ds lo hi) (iP vs lo hi):=by
 rw [m3]
 rw [z.length]
 exact(z.drop _).take _
def nz {b hi:Option Int}(k:aj Z G0 h0 H0) (e:Ext G0 H0 G H) (g:aj Z G h H) (r:aq Z G H w v)
 (p:ak Z E G0 H0 (M.eQ w b hi h) λw _ G' H'=> ∀v,aq Z G' H' w v->aD Y U H0 w v->Q v H'):((l8 Z.K v b hi H Q\/mS Z.K v b hi H Q)\/mu Z.K v b hi H Q)\/nT v b hi H Q:=by
 unfold M.eQ at p
 split at p
 ·rename_i z q
  cases r.str q
  split at p
  ·rename_i c
   have s:=Xh
   refine .inr ⟨_,rfl,by rw [jc];lia,?_⟩
   have o:iq (aw z) b hi=aw (M.cut z b hi):=by
    unfold iq
    rw [jc,m3]
    simp [aw]
   exact ar.v (ar.mk p e k) g rfl
  ·exact p.elim
 ·split at p
  ·rename_i j q
   obtain⟨l,d,rfl,i,f⟩:=r.tup q
   by_cases c:HT.aH d.length 0 b=0/\HT.aH d.length d.length hi=d.length
   ·have n:M.cut j b hi=j:=by
     rw [m3,f.length,c.1,c.2,List.drop_zero,Nat.sub_zero,←f.length,Ai8]
    rw [n]at p
    exact .inl (.inr ⟨l,d,rfl,i.sq,c.1,c.2,p G H e g _ ⟨l,d,rfl,i,f⟩ trivial⟩)
   ·exact .inl (.inl (.inr ⟨l,d,rfl,i.sq,c,λa m=>ar.tup (ar.mk p e k) g (f.cut b hi) a m⟩))
  ·split at p
   ·rename_i j q
    obtain⟨l,d,rfl,i,f⟩:=r.lst g q
    exact .inl <| .inl <| .inl ⟨l,d,rfl,i,λa m=>ar.own (ar.mk p e k) g (f.cut b hi) a m⟩
   ·exact p.elim
def EH (K:Aa6):V->Option Int->Option Int->Hp->VK->Prop:=λx lo hi H Q=>((l8 K x lo hi H Q\/mS K x lo hi H Q)\/mu K x lo hi H Q)\/nT x lo hi H Q
def mm:eY X (EH X.K):=((fy.or yz).or CK).or JG
def CH (I:Go Z F X E k cf){f hi:M.E}(B:PE X x (tD Z E (M.eval F a))) (D:PE X l (tD Z E (M.eval F f))) (q:PE X u (tD Z E (M.eval F hi))):PE X (.Subscript x (.Slice (y0 l) (y0 u) u0 p2) pos) (tD Z E (M.eval F (.sl a f hi))):=by
 refine PE.imp (WO mm B (JO D) (JO q)) λU H Q n=> ?_
 obtain⟨G,Y,h,s,p⟩:=n
 refine Wa s.heap Ext.refl s p λT v1 h1 G1 H1 z J g w R y=> ?_
 refine Wa s.heap z g y λw2 v2 K P L o d e C N p2=> ?_
 obtain⟨i,r,p2⟩:=p2.of
 refine⟨i,C.int r,?_⟩
 refine Wa s.heap o e p2 λV v3 O G3 S t b m A W c=> ?_
 obtain⟨j,v,c⟩:=c.of
 exact⟨j,A.int v,I.K▸nz s.heap t m.heap ((w.ext d g.heap).ext b e.heap) c⟩
def EO (u:Go Z F X E k cf){c:M.E}(q:PE X x (tD Z E (M.eval F a))) (t:PE X l (tD Z E (M.eval F c))):PE X (.Subscript x (.Slice (y0 l) u0 u0 p2) pos) (tD Z E (M.eval F (.fi a c))):=by
 refine PE.imp (WO mm q (JO t) sM) λU H Q e=> ?_
 obtain⟨G,Y,h,s,p⟩:=e
 refine Wa s.heap Ext.refl s p λC v1 J I K o v d m B n=> ?_
 refine Wa s.heap o d n λD v2 w A y f b g r z p2=> ?_
 obtain⟨i,j,p2⟩:=p2.of
 exact⟨i,r.int j,u.K▸nz s.heap f g.heap (m.ext b d.heap) p2⟩
def E6 (r:Go Z F X E k cf)(o:PE X x (tD Z E (M.eval F a))) (f:PE X u (tD Z E (M.eval F hi))):PE X (.Subscript x (.Slice u0 (y0 u) u0 p2) pos) (tD Z E (M.eval F (.fb a hi))):=by
 refine PE.imp (WO mm o sM (JO f)) λU H Q d=> ?_
 obtain⟨G,Y,h,s,p⟩:=d
 refine Wa s.heap Ext.refl s p λB v1 I D J n t c l A m=> ?_
 refine Wa s.heap n c m λC v2 v z w e b g q y p2=> ?_
 obtain⟨i,j,p2⟩:=p2.of
 exact⟨i,q.int j,r.K▸nz s.heap e g.heap (l.ext b c.heap) p2⟩
def FL {st:Expr}(h:lx st=k9): ∃k p q,st= .UnaryOp .USub (.Constant (.int 1) k p) q:=by
 unfold lx at h
 split at h
 ·exact⟨_,_,_,rfl⟩
 ·cases h
def DI (r:Go Z F X E k cf){st:Expr}(b:lx st=k9) (o:PE X x (tD Z E (M.eval F a))):PE X (.Subscript x (.Slice u0 u0 (y0 st) p2) pos) (tD Z E (M.eval F (.rev a))):=by
 obtain⟨z,A,v,rfl⟩:=FL b
 refine PE.imp (F2 o (tN tV n0)) λU H Q f=> ?_
 obtain⟨G,Y,h,s,p⟩:=f
 refine Wa s.heap Ext.refl s p λB v1 D C I i t e g y c=> ?_
 obtain⟨w,q,c⟩:=c.of
 obtain⟨l,u,rfl,j,m⟩:=g.lst e.heap q
 exact⟨1,rfl,rfl,l,u,rfl,r.K▸j,λn d=>ar.own (ar.mk c i s.heap) e.heap m.reverse n d⟩
def Gh.cell (G:Gh) (a:Addr):Gh:= { G with aL:=λr=>if r=G.n then a else G.aL r,n:=G.n+1 }
def X0 (a):Mon G H (G.cell a) H:=⟨λ_ _ _ z=>z,Ad2 _,λr b=>by show(if r=G.n then a else G.aL r)=_;rw [if_neg (by lia)],λ_ z=>z⟩
def W2 {a:Addr}{c:M.Cell}(d:aj Z G h H) (n: ¬G.fz a) (m:dA G a) (z:bq Z G H a c):aj Z (G.cell a) (h++ [c]) H where
 len:=by rw [Aa3,d.len];rfl
 any:=λr i q=>by
  show ¬G.fz (if r=G.n then a else G.aL r)/\bq Z (G.cell a) H (if r=G.n then a else G.aL r) i
  by_cases g:r=G.n
  ·rw [if_pos g]
   rw [g,←d.len,Ae6 (Aa7 _),Nat.sub_self]at q
   cases q
   exact⟨n,z.mon (X0 a) λ_ e=>e⟩
  ·rw [if_neg g]
   have j:r<G.n:=by
    have:=(Ac2.mp q).1
    rw [Aa3,d.len]at this
    simp at this
    omega
   rw [Ae0 (by rw [d.len];exact j)]at q
   exact⟨(d.any r i q).1,(d.any r i q).2.mon (X0 a) λ_ e=>e⟩
 inj:=λr s l k e=>by
  have l:r<G.n+1:=l
  have k:s<G.n+1:=k
  have e:(if r=G.n then a else G.aL r)=(if s=G.n then a else G.aL s):=e
  by_cases f:r=G.n
  ·by_cases b:s=G.n
   ·omega
   ·rw [if_pos f,if_neg b]at e
    exact absurd e.symm (m s (by omega))
  ·by_cases b:s=G.n
   ·rw [if_neg f,if_pos b]at e
    exact absurd e (m r (by omega))
   ·rw [if_neg f,if_neg b]at e
    exact d.inj r s (by omega) (by omega) e
 live:=d.live
def WS {a:Addr}(b:aj Z G h H) (c: ¬G.fz a) (f:dA G a) (e:H a=y0 (.lst vs)) (z:ae Z G H xs vs) (d:M.Gf xs=k9):aj Z (G.cell a) (h++ [.lst xs]) H:=W2 b c f ⟨d,vs,e,z⟩
def DJ {a:Addr}(b:aj Z G h H) (c: ¬G.fz a) (d:dA G a)(e:H a=y0 (.ins (Z.ca c0) dx0 [])):aj Z (G.cell a) (h++ [.obj c0 []]) H:=W2 b c d ⟨rfl,dx0,[],e,rfl⟩
def qO {a:Addr}(e:Ext G0 H0 G H) (d:H0 a=u0):Ext G0 H0 (G.cell a) H where
 keep:=e.keep
 le:=Ac1 e.le (Ad2 _)
 aL:=λr f=>by show(if r=G.n then a else G.aL r)=_;rw [if_neg (by have:=e.le;omega)];exact e.aL r f
 new:=λr g b=>by
  have b:r<G.n+1:=b
  show H0 (if r=G.n then a else G.aL r)=u0
  by_cases c:r=G.n
  ·rw [if_pos c];exact d
  ·rw [if_neg c];exact e.new r g (by omega)
 fz:=e.fz
 old:=e.old
 cells:=e.cells
def u6 (y:PE X x (tD Z E (M.eval F a))):PE X x (tD Z E (M.eval F (.share a))):=by
 refine PE.imp y λU H Q j=> ?_
 obtain⟨G,Y,h,s,p⟩:=j
 refine Wa s.heap Ext.refl s p λw v1 c g C r A i q m b=> ?_
 cases w with
 | own e=>
  obtain⟨l,D,rfl,t,u,o,k⟩:=q
  obtain⟨B,n,z⟩:=m
  cases n
  have b:ak Z E G H (if M.Gf e=k9 then M.aF _ (c++ [.lst e])else .fail) _:=b
  by_cases f:M.Gf e=k9
  rotate_left
  ·rw [if_neg f]at b;exact b.elim
  rw [if_pos f]at b
  refine ak.val b (qO r z) (WS i.heap t u o k f) ?_ trivial
  show c.length<g.n+1/\V.ref l= .ref (if c.length=g.n then l else g.aL c.length)
  rw [i.heap.len,if_pos rfl]
  exact⟨Af1 _,rfl⟩
 | v d=>exact b.elim
 | bor e=>exact b.elim
end
structure Wt (Z:Ge) (J:It) (ds:List M.D) (C:Gh->Hp->Prop):Prop where
 go: ∀i G H,C G H->i<ds.length->J.go i H
 eu: ∀i G H x H',C G H->i<ds.length->J.eu i H x H'-> ∃G',Ext G H G' H'/\(∀ h,aj Z G h H->aj Z G' h H')/\ ∃d,ds[i]? =y0 d/\aB Z G' H' d x
 stop: ∀i G H,C G H->ds.length<=i->i<=ds.length->J.stop i H
 keep: ∀G H G' H' h,C G H->Ext G H G' H'->aj Z G h H->C G' H'
noncomputable def zl (Y:M.Sl) (U:St) (H:Hp):Hp:=λa=>open Classical in if ∃(i:Nat) (xs:List M.D),M.Gm Y i=y0 (.own xs)/\U[i]? =y0 (y0 (.ref a))then u0 else H a
def eh (Z:Ge) (E:XK) (a:Bool) (m:M.Sl->M.AH->M.R (List M.D)):TI:=λU H R=> ∃G Y h,ao Z G Y h U H/\ak Z E G H (m Y h) λds _ G' H'=> ∀J C,Wt Z J ds C->C G' H'->(a=k9->C G' (zl Y U H'))->R J H'
def PI.imp (h:PI X tg e t) (k: ∀U H R,t' U H R->t U H R):PI X tg e t':=λa s U H R I q=>h a s U H R I (k _ _ _ q)
section
variable {Z:Ge}{F:M.Fx}{X:Cx}{E:XK}{k:Nat}{cf:Cf}{a b c:M.E}{x y z tg:Expr}{pos p2:Pos}{lp:Bool}
def hY (Z:Ge) (G:Gh) (H:Hp) (l:Addr) (vs:List V):Prop:=(Rd H l (.lst vs)/\dA G l)\/sD Z l vs
def CL (Z:Ge) (ds:List M.D) (l:Addr) (vs:List V) (G:Gh) (H:Hp):Prop:=hY Z G H l vs/\ae Z G H ds vs
def hY.sq (z:hY Z G H l vs):a9 Z.K H l vs:=z.elim (λz=> .inl z.1) .inr
def gE.kN (z:gE Z G H l vs) (a:aj Z G h H):hY Z G H l vs:=z.elim (λz=> .inl ⟨z.2,a.off z.1⟩) .inr
def CL.keep (z:CL Z ds l vs G H) (e:Ext G H G' H') (c:aj Z G h H):CL Z ds l vs G' H':=by
 obtain⟨a,d⟩:=z
 refine⟨?_,d.ext e c⟩
 obtain⟨a,b⟩ | a:=a
 ·refine .inl ⟨e.rd a b,?_⟩
  obtain a | ⟨o,a⟩:=a
  ·exact e.off a b
  ·exact e.off a b
 ·exact .inr a
def CL.walk {K:Aa6}(d:K=Z.K):Wt Z (kr K l) ds (CL Z ds l vs) where
 go:=by
  rintro i G H ⟨c,b⟩ a
  obtain⟨v,e,_⟩:=b.get (Ab a)
  exact⟨vs,v,d▸c.sq,e⟩
 eu:=by
  rintro i G H x g ⟨c,b⟩ a ⟨e,y⟩
  subst e
  obtain⟨v,e,rd⟩:=b.get (Ab a)
  have:=y vs (d▸c.sq)
  rw [e]at this
  cases this
  exact⟨G,Ext.refl,λ_ q=>q,_,Ab a,rd⟩
 stop:=λi G H ⟨c,b⟩ a _=>⟨vs,d▸c.sq,by rw [← b.length];exact a⟩
 keep:=λG H j g h z e f=>z.keep e f
def CT (Z:Ge) (ds:List M.D) (l:Addr) (vs:List V) (G:Gh) (H:Hp):Prop:=e6 Z G H l vs/\ae Z G H ds vs
def e6.mon (z:e6 Z G H l vs) (e:Mon G H G' H'):e6 Z G' H' l vs:=z.elim (λz=> .inl ⟨e.fz l z.1,e.keep l _ z.1 z.2⟩) λz=> .inr z
def CT.walk {K:Aa6}(d:K=Z.K):Wt Z (hJ K l) ds (CT Z ds l vs) where
 go:=by
  rintro i G H ⟨c,b⟩ a
  obtain⟨v,e,_⟩:=b.get (Ab a)
  exact⟨vs,v,d▸c.sq,e⟩
 eu:=by
  rintro i G H x g ⟨c,b⟩ a ⟨e,y⟩
  subst e
  obtain⟨v,e,rd⟩:=b.get (Ab a)
  have:=y vs (d▸c.sq)
  rw [e]at this
  cases this
  exact⟨G,Ext.refl,λ_ q=>q,_,Ab a,rd⟩
 stop:=λi G H ⟨c,b⟩ a _=>⟨vs,d▸c.sq,by rw [← b.length];exact a⟩
 keep:=λG H j g h z e f=>⟨z.1.mon (e.mon f),z.2.ext e f⟩
def CL.eN {K:Aa6}(d:K=Z.K):Wt Z (lP K l vs.length) ds.reverse (CL Z ds l vs) where
 go:=λi G H ⟨c,b⟩ a=>⟨vs,d▸c.sq,rfl,by rw [← b.length];simpa using a⟩
 eu:=by
  rintro i G H x j ⟨c,b⟩ a ⟨e,y⟩
  subst e
  obtain⟨v,e,rd⟩:=b.reverse.get (Ab a)
  have:=y vs (d▸c.sq)
  have k:i<vs.length:=by rw [← b.length];simpa using a
  rw [List.getElem?_reverse k,this]at e
  cases e
  exact⟨G,Ext.refl,λ_ q=>q,_,Ab a,rd⟩
 stop:=by
  rintro i G H ⟨c,b⟩ a f
  have m:=b.length
  rw [List.length_reverse]at a f
  show i=vs.length
  omega
 keep:=λG H n j h z e g=>z.keep e g
def ZK {b:Int}:Wt Z (iD b n) ((Ac4 n).map λ(i:Nat)=>M.D.int (b+(i:Int))) (λ_ _=>True) where
 go:=λi G H _ a=>show i<n by simpa using a
 eu:=λi G H x d _ a c=>by
  obtain⟨e,y⟩:=c
  subst e y
  have a:=by simpa using a
  exact⟨G,Ext.refl,λ_ q=>q,.int (b+i),by simp [a],rfl⟩
 stop:=λi G H _ a _=>show n<=i by simpa using a
 keep:=λ_ _ _ _ _ _ _ _=>trivial
def ZC {z:M.Tx}:Wt Z (gR (aw z)) (M.cQ z) (λ_ _=>True) where
 go:=λi G H _ a=>by
  have a:=by simpa [M.cQ]using a
  exact⟨z[i],by simp [aw,a]⟩
 eu:=λi G H x g _ a d=>by
  obtain⟨e,c,b,f⟩:=d
  subst e f
  have a:=by simpa [M.cQ]using a
  have b:=by simpa [aw]using b
  exact⟨G,Ext.refl,λ_ q=>q,.str [c],by simp [M.cQ,b],rfl⟩
 stop:=λi G H _ a _=>by
  have a:=by simpa [M.cQ]using a
  show(aw z).cps[i]? =u0
  simp [aw,a]
 keep:=λ_ _ _ _ _ _ _ _=>trivial
def zk (a: ¬ ∃ i xs,M.Gm Y i=y0 (.own xs)/\U[i]? =y0 (y0 (.ref l))):zl Y U H l=H l:=by
 unfold zl
 rw [if_neg a]
def Wp (s:ao Z G Y h U H)(e:M.Gm Y i=y0 (.own xs)) (j:U[i]? =y0 (y0 (.ref l))): ¬G.fz l/\dA G l/\ ∃vs,H l=y0 (.lst vs)/\ae Z G H xs vs:=by
 obtain⟨v,b,a,vs,f,g,k,c,d⟩:=s.slot i _ e
 rw [j]at b
 cases b
 cases f
 exact⟨g,k,vs,c,d⟩
def zw (s:ao Z G Y h U H):Mon G H G (zl Y U H):=by
 refine⟨λa o z e=> ?_,Aa7 _,λ_ _=>rfl,λ_ z=>z⟩
 rw [zk λ⟨i,d,c,b⟩=>(Wp s c b).1 z]
 exact e
def uA (r:Go Z F X E k cf) (I:PE X x (tD Z E (M.eval F a))):PI X tg x (eh Z E y9 (M.Gv F (.seq a))):=by
 refine PI.imp (mT I) λU H R B=> ?_
 obtain⟨G,Y,h,s,p⟩:=B
 refine Wa s.heap Ext.refl s p λD v1 K o e u L q n N c=> ?_
 have lst: ∀ {f},ak Z E G H (.ok f K) (λf x A w=> ∀J C,Wt Z J f C->C A w->(y9=k9->C A (zl Y U w))->R J w)->(∃ l b,v1= .ref l/\hY Z o e l b/\ae Z o e f b) →
  (∃ a,v1= .ref a/\(∃ y,a9 X.K e a y)/\R _ e)\/(∃ a,v1= .ref a/\(∃ y,b8 X.K e a y)/\R (hJ X.K a) e)\/ ∃z,v1= .str z/\R (gR z) e:=λ{f} p ⟨l,b,j,g,m⟩=>
  .inl ⟨l,j,⟨b,r.K▸g.sq⟩,p o e u q.heap _ _ (CL.walk r.K) ⟨g,m⟩ λz=>absurd z Ab4⟩
 cases D with
 | v d=>
  cases d with
  | tup f=>
   obtain⟨l,b,rfl,g,i⟩:=n
   exact .inr (.inl ⟨l,rfl,⟨b,r.K▸g.sq⟩,c o e u q.heap _ _ (CT.walk r.K) ⟨g,i⟩ λz=>absurd z Ab4⟩)
  | lst f=>obtain⟨l,b,j,g,i⟩:=n;exact lst c ⟨l,b,j,g.kN q.heap,i⟩
  | az=>exact c.elim
  | bl _=>exact c.elim
  | int _=>exact c.elim
  | str z=>
   cases (show v1= .str (aw z)from n)
   exact .inr (.inr ⟨_,rfl,c o e u q.heap _ _ ZC trivial λz=>absurd z Ab4⟩)
  | ref _=>exact c.elim
  | exc _ _=>exact c.elim
  | err _ _ _=>exact c.elim
 | own f=>obtain⟨l,b,j,_,i,m,t⟩:=n;exact lst c ⟨l,b,j,.inl ⟨.inl m,i⟩,t⟩
 | bor f=>obtain⟨l,b,j,i,m,t⟩:=n;exact lst c ⟨l,b,j,.inl ⟨m,i⟩,t⟩
def uF (n:Int):((Ac4 n.toNat).map λ(i:Nat)=>M.D.int (i:Int))=(Ac4 n.toNat).map λ(i:Nat)=>M.D.int (0+(i:Int)):=by
 congr 1;funext i;rw [Int.zero_add]
def n7: "range" ∈bW:=by decide
def jG (e:Go Z F X E k cf)(m:bF cf.sc "range" g=true) (d:Ja x=true) (r:PE X x (tD Z E (M.eval F a))):PI X tg (.Call g [x] [] pos) (eh Z E lp (M.Gv F (.aS a))):=by
 obtain⟨p,rfl,i,w⟩:=Jb m
 refine PI.imp (vU (e.gl _ i) (e.blt _ n7) (Jc r ji (ja d)) (ja d)) λU H R f=> ?_
 obtain⟨G,Y,h,s,p⟩:=f
 refine Wa s.heap Ext.refl s p λz v1 A t v l o u j y b=> ?_
 obtain⟨n,q,b⟩:=b.of
 split at b
 ·rename_i c
  rw [M.GO]at c
  cases j.int q
  rw [uF]at b
  exact⟨n,rfl,c.1,c.2,b t v l u.heap _ _ ZK trivial λ_=>trivial⟩
 ·exact b.elim
def xF (l:Go Z F X E k cf)(C:bF cf.sc "range" g=true) (j:Ja x=true) (f:Ja y=true) (D:PE X x (tD Z E (M.eval F a))) (B:PE X y (tD Z E (M.eval F b))):PI X tg (.Call g [x,y] [] pos) (eh Z E lp (M.Gv F (.bz a b))):=by
 obtain⟨p,rfl,i,O⟩:=Jb C
 refine PI.imp (CU (l.gl _ i) (l.blt _ n7) (Jc D (Jc B ji (ja f)) (ja j)) (by rw [ja j,ja f];rfl) (ja f)) λU H R o=> ?_
 obtain⟨G,Y,h,s,p⟩:=o
 refine Wa s.heap Ext.refl s p λQ v1 V T W A L I z P e=> ?_
 obtain⟨n,q,e⟩:=e.of
 refine Wa s.heap A I e λS v2 i w r u K v J N d=> ?_
 obtain⟨m,t,d⟩:=d.of
 split at d
 ·rename_i c
  rw [M.GO]at c
  cases z.int q
  cases J.int t
  exact⟨n,m,rfl,⟨c.1.1,c.1.2,c.2.1,c.2.2⟩,d w r u v.heap _ _ ZK trivial λ_=>trivial⟩
 ·exact d.elim
def nq: "reversed" ∈bW:=by decide
def Du (o:Go Z F X E k cf)(K:bF cf.sc "reversed" g=true) (w:Ja x=true) (N:PE X x (tD Z E (M.eval F a))):PI X tg (.Call g [x] [] pos) (eh Z E false (M.Gv F (.rev a))):=by
 obtain⟨p,rfl,D,S⟩:=Jb K
 refine PI.imp (nG (o.gl _ D) (o.blt _ nq) (Jc N ji (ja w)) (ja w)) λU H R B=> ?_
 obtain⟨G,Y,h,s,p⟩:=B
 refine Wa s.heap Ext.refl s p λL v1 O u m I Q A r T b=> ?_
 have lst: ∀ {e},ak Z E G H (.ok e.reverse O) (λe x y t=> ∀J C,Wt Z J e C->C y t->(y9=k9->C y (zl Y U t))->R J t)->(∃ l c,v1= .ref l/\hY Z u m l c/\ae Z u m e c) →
  ∃a P,[v1]= [.ref a]/\a9 X.K m a P/\R _ m:=λ{e} p ⟨l,c,f,n,i⟩=>
  ⟨l,c,by rw [f],o.K▸n.sq,p u m I A.heap _ _ (CL.eN o.K) ⟨n,i⟩ λz=>absurd z Ab4⟩
 cases L with
 | v d=>
  cases d with
  | lst e=>obtain⟨l,c,f,n,j⟩:=r;exact lst b ⟨l,c,f,n.kN A.heap,j⟩
  | tup _=>exact b.elim
  | az=>exact b.elim
  | bl _=>exact b.elim
  | int _=>exact b.elim
  | str _=>exact b.elim
  | ref _=>exact b.elim
  | exc _ _=>exact b.elim
  | err _ _ _=>exact b.elim
 | own e=>obtain⟨l,c,f,_,j,i,q⟩:=r;exact lst b ⟨l,c,f,.inl ⟨.inl i,j⟩,q⟩
 | bor e=>obtain⟨l,c,f,j,i,q⟩:=r;exact lst b ⟨l,c,f,.inl ⟨i,j⟩,q⟩
end
section
variable {Z:Ge}{F:M.Fx}{X:Cx}{E:XK}{k:Nat}{cf:Cf}
theorem Qf: ∀(Y) (i j) (w),M.Gm (M.GD Y i w) j=if j=i/\i<Y.length then y0 w else M.Gm Y j
 | [],i,j,w=>by simp
 | x::r,0,0,w=>by simp
 | x::r,0,j+1,w=>by simp
 | x::r,i+1,0,w=>by simp
 | x::r,i+1,j+1,w=>by
  have:=Qf r i j w
  simp only [M.GD,M.Gm,this,Aa0]
  by_cases h:j=i/\i<r.length
  ·rw [if_pos h,if_pos (by omega)]
  ·rw [if_neg h,if_neg (by omega)]
theorem xq: ∀(Y) (i) (w),(M.GD Y i w).length=Y.length
 | [],_,_=>rfl
 | _::_,0,_=>rfl
 | _::r,i+1,w=>by simp [xq r i w]
theorem Qr: ∀ {Y}{i}{w},M.Gm Y i=y0 w->i<Y.length
 | [],_,_,e=>by simp at e
 | _::_,0,_,_=>by simp
 | _::r,i+1,w,e=>by
  have:=Qr (by simpa using e)
  simp;omega
theorem ao.set (s:ao Z G Y h U H)(r:aq Z G H w v)
 (o:bG w=k9-> ∀ j J,j≠i->M.Gm Y j=y0 J->bG J=k9-> ∀a,v= .ref a->U[j]? ≠y0 (y0 (.ref a))):ao Z G (M.GD Y i w) h (U.set i (y0 v)) H where
 len:=by rw [xq,Ad];exact s.len
 slot:=λj J e=>by
  rw [Qf]at e
  by_cases c:j=i/\i<Y.length
  ·rw [if_pos c]at e
   cases e
   obtain⟨rfl,c⟩:=c
   exact⟨v,Ad0 (by rw [← s.len];exact c),r⟩
  ·rw [if_neg c]at e
   have u:=λz=>c ⟨z,by subst z;exact Qr e⟩
   obtain⟨y,A,x⟩:=s.slot j J e
   exact⟨y,by rw [Ad7 (Ne.symm u)];exact A,x⟩
 apart:=λp q B J a b f d m l=>by
  rw [Qf]at f d
  by_cases k:p=i/\i<Y.length
  ·rw [if_pos k]at f
   cases f
   obtain⟨rfl,k⟩:=k
   rw [if_neg (λz=>b z.1.symm)]at d
   rw [Ad0 (by rw [← s.len];exact k)]at l
   cases l
   rw [Ad7 b]
   exact o rfl q J (Ne.symm b) d m a rfl
  ·rw [if_neg k]at f
   have n:=λz=>k ⟨z,by subst z;exact Qr f⟩
   rw [Ad7 (Ne.symm n)]at l
   by_cases g:q=i/\i<Y.length
   ·rw [if_pos g]at d
    cases d
    obtain⟨rfl,g⟩:=g
    rw [Ad0 (by rw [← s.len];exact g)]
    intro z
    cases z
    exact o m p _ n f rfl a rfl l
   ·rw [if_neg g]at d
    have t:=λz=>g ⟨z,by subst z;exact Qr d⟩
    rw [Ad7 (Ne.symm t)]
    exact s.apart p q B J a b f d m l
 heap:=s.heap
def ao.ea (s:ao Z G Y h U H)(r:aB Z G H d v):ao Z G (M.GD Y i (.v d)) h (U.set i (y0 v)) H:=s.set r λz=>by cases z
def fE:List Nat->List V->St->St
 | i::is,v::a,U=>fE is a (U.set i (y0 v))
 | _,_,U=>U
theorem jK : ∀ {is}{ds}{vs}{Y q}{U},M.aM is ds Y=y0 q->ae Z G H ds vs->ao Z G Y h U H->ao Z G q h (fE is vs U) H/\is.length=vs.length
 | [],[],_,_,_,_,e,rfl,s=>by cases e;exact⟨s,rfl⟩
 | [],_::_,_,_,_,_,e,_,_=>by simp [M.aM]at e
 | _::_,[],_,_,_,_,e,_,_=>by simp [M.aM]at e
 | i::is,d::ds,_,_,_,_,e,⟨v,r,rfl,a,f⟩,s=>by
  obtain⟨c,b⟩:=jK (by simpa [M.aM]using e) f (s.ea a)
  exact⟨c,congrArg (· +1) b⟩
def gM (Z:Ge) (tg:List Nat) (one:Bool):TG:=λv U H Q=>match one with
 | true=> ∃i,tg= [i]/\Q (U.set i (y0 v)) H
 | false=> ∃G ds b a,v= .ref a/\e6 Z G H a b/\ae Z G H ds b/\tg.length=b.length/\Q (fE tg b U) H
theorem wS (b:Go Z F X E k cf): ∀ {is}{es},Xs cf is es=k9->iG X es (λvs U H Q=>vs.length=is.length/\Q (fE is vs U) H)
 | [],[],_=>λa s U H vs f Q I r h=>by
  have c:=Ag3 h.1
  subst c
  exact Dr a s U H [] f Q I r ⟨rfl,h.2⟩
 | [],_::_,h=>by simp [Xs]at h
 | _::_,[],h=>by simp [Xs]at h
 | i::is,e::es,h=>by
  cases e with
  | Name x p=>
   simp only [Xs,Ab2,decide_eq_true_eq]at h
   obtain⟨⟨m,g⟩,j⟩:=h
   have l:=wS b j
   have c:=b.hA x g
   have d:=yy (si (pos:=p) (by rw [b.N];exact b.nd) (by rw [b.N];exact m) c.1 c.2) l
   intro a s U H vs f Q I r q
   refine d a s U H vs f Q I r ?_
   cases vs with
   | nil=>simp at q
   | cons v vs=>
    refine⟨v,vs,rfl,?_⟩
    exact⟨by simpa using q.1,q.2⟩
  | _=>simp [Xs]at h
theorem oT : ∀ {is}{es},Xs cf is es=k9->(assignEach es env).length=is.length/\(assignEach es env).findIdx? (·.1)=u0
 | [],[],_=>⟨rfl,rfl⟩
 | [],_::_,h=>by simp [Xs]at h
 | _::_,[],h=>by simp [Xs]at h
 | i::is,e::es,h=>by
  cases e with
  | Name x p=>
   simp only [Xs,Ab2]at h
   obtain⟨c,b⟩:=oT h.2
   have a:assignEach (.Name x p::es) env=(y9,assign (.Name x p) env)::assignEach es env:=rfl
   rw [a]
   refine⟨congrArg (· +1) c,?_⟩
   rw [List.findIdx?_cons]
   simp [b]
  | _=>simp [Xs]at h
def Qw (d:Go Z F X E k cf)(h:Xf cf tg one e=k9):PG X e (gM Z tg one):=by
 cases one with
 | true=>
  cases e with
  | Name x p=>
   simp [Xf,Ab2]at h
   cases tg with
   | nil=>simp at h
   | cons i r=>
    cases r with
    | cons _ _=>simp at h
    | nil=>
     simp only [Xs,Ab2,decide_eq_true_eq]at h
     obtain⟨_,⟨w,m⟩,_⟩:=h
     have l:=d.hA x m
     have c:=si (pos:=p) (by rw [d.N];exact d.nd) (by rw [d.N];exact w) l.1 l.2
     intro b s U H v u Q I r q
     obtain⟨j,e,q⟩:=q
     cases e
     exact c b s U H v u Q I r q
  | _=>simp [Xf]at h
 | false=>
  cases e with
  | Tuple z n p=>
   have h:=h
   obtain⟨o,f⟩:=oT h
   have c:=AW (k:=n) (pos:=p) d.calm (wS d h) o f
   intro b s U H v u Q I r q
   obtain⟨G,A,y,a,rfl,t,B,g,q⟩:=q
   exact c b s U H _ u Q I r ⟨a,y,rfl,d.K▸t.sq,g.symm,g.symm,q⟩
  | _=>simp [Xf]at h
def Zo (k) (l): ∀ i,M.Gm (Aa1 k u0++l) (k+i)=M.Gm l i:=by
 induction k with
 | zero=>intro i;simp
 | succ k a=>intro i;rw [Ac9,show k+1+i=(k+i)+1 by lia];exact a i
def wt (k) (l): ∀ {i},i<k->M.Gm (Aa1 k u0++l) i=none:=by
 induction k with
 | zero=>intro i h;lia
 | succ k a=>
  intro i h
  cases i with
  | zero=>rfl
  | succ i=>rw [Ac9];exact a (by lia)
theorem XA: ∀(l) (i),M.Gm l i=(l[i]?).join
 | [],_=>by simp
 | _::_,0=>by simp
 | _::r,i+1=>by simpa using XA r i
def wK (s:ao Z G Y h U H)(e:M.Gp Y j=y0 w): ∃v,U[j]? =y0 (y0 v)/\aq Z G H w v/\(bG w=k9-> ∃i,M.Gm Y j=y0 i/\bG i=k9)/\lM w=true:=by
 unfold M.Gp at e
 cases q:M.Gm Y j with
 | none=>rw [q]at e;cases e
 | some i=>
  obtain⟨v,b,c⟩:=s.slot j i q
  rw [q]at e
  cases i with
  | v d=>cases e;exact⟨v,b,c,λz=>(by cases z),rfl⟩
  | own m=>cases e;obtain⟨a,g,k,o,l,f,n⟩:=c;exact⟨v,b,⟨a,g,k,l,.inl f,n⟩,λ_=>⟨_,rfl,rfl⟩,rfl⟩
  | bor m=>cases e;exact⟨v,b,c,λ_=>⟨_,rfl,rfl⟩,rfl⟩
def g0 (k:Nat) (aC:List Nat) (Y:M.Sl):M.Sl:=Aa1 k u0++aC.map λj=>M.Gp Y j
def yf (s:ao Z G Y h U H) (kk) (aC)(d:Ub.length=kk+aC.length) (f: ∀i,i<aC.length->Ub[kk+i]? =y0 ((U[aC.getD i 0]?).join)):
 ao Z G (g0 kk aC Y) h Ub H where
 len:=by unfold g0;rw [Aa3,Ae3,Ab1,d]
 slot:=λi w e=>by
  unfold g0 at e
  by_cases g:i<kk
  ·rw [wt kk _ g]at e;cases e
  ·obtain⟨j,rfl⟩: ∃j,i=kk+j:=⟨i-kk,by omega⟩
   rw [Zo,XA,Ad9]at e
   cases q:aC[j]? with
   | none=>rw [q]at e;cases e
   | some c=>
    rw [q]at e
    have e:=e
    obtain⟨v,o,n,_⟩:=wK s e
    have k:=(Ac2.mp q).1
    refine⟨v,?_,n⟩
    rw [f j k,Ad1,q]
    show y0 ((U[c]?).join)=_
    rw [o]
    rfl
 apart:=λi j u w a l b p t r=>by
  exfalso
  unfold g0 at b
  by_cases g:i<kk
  ·rw [wt kk _ g]at b;cases b
  ·obtain⟨m,rfl⟩: ∃j,i=kk+j:=⟨i-kk,by omega⟩
   rw [Zo,XA,Ad9]at b
   cases q:aC[m]? with
   | none=>rw [q]at b;cases b
   | some c=>
    rw [q]at b
    have b:=b
    obtain⟨_,_,_,_,z⟩:=wK s b
    cases z
 heap:=s.heap
end
theorem Je {env:Env}{d:NameKind}(g:d≠ .free): ∀ {a:List (Str×NameKind)}{x},a.lookup x=y0 d →
 (a.map λ(n,k)=>if(k==NameKind.free&&env.scope.kind== .function&&env.kindOf n==y0 .cell)then(n,NameKind.cell)else(n,k)).lookup x=y0 d
 | [],_,h=>by simp at h
 | (n,k)::r,x,h=>by
  have j:= @Je env d g r x
  rw [Ab3]
  rw [Ab7]at h
  cases c:x==n with
  | true=>
   rw [c]at h
   have e:=by simpa using h
   subst e
   have i:(k==NameKind.free)=false:=by simpa using g
   simp only [i,Bool.false_and,Ag5,if_false,Ab7,c]
  | false=>
   rw [c]at h
   have q:=j h
   by_cases b:(k==NameKind.free&&env.scope.kind== .function&&env.kindOf n==y0 .cell)=k9
   ·simp only [b,if_true,Ab7,c]
    exact q
   ·have f:=Ai1.mpr b
    simp only [f,Ag5,if_false,Ab7,c]
    exact q
section
variable {Z:Ge}{F:M.Fx}{X:Cx}{E:XK}{k:Nat}{cf:Cf}
structure hO (cf:Cf) (scope:Scope) (N:List Str) (k:Nat) (aC:List Nat):Prop where
 kind:scope.kind= .function
 Bh:(scope.names.map Prod.fst).Nodup
 names: ∀y∈scope.names,y.2= .local->scope.names.lookup y.1=y0 .local
 free: ∀y∈scope.names,y.2= .free->cf.sc.names.lookup y.1=y0 .cell\/cf.sc.names.lookup y.1=y0 .free
 fX: ∀x∈N.drop k,scope.names.lookup x=y0 .free
 aC:QE cf aC (N.drop k)=k9
 le:k<=N.length
 nd:N.Nodup
def wH (h:qY cf scope N kk aC=k9):hO cf scope N kk aC:=by
 simp only [qY,Ab2,decide_eq_true_eq,Ai9]at h
 obtain⟨⟨⟨⟨⟨⟨⟨⟨d,c⟩,e⟩,i⟩,k⟩,g⟩,f⟩,j⟩,l⟩:=h
 exact⟨d,c,λy a=>e y a,λy a=>i y a,λx b=>k x b,g,f,j⟩
theorem JQ (a:Go Z F X E k cf): ∀ {aC}{xs},QE cf aC xs=k9->b4 X aC xs
 | [],[],_=>trivial
 | [],_::_,h=>by simp [QE]at h
 | _::_,[],h=>by simp [QE]at h
 | j::e,x::xs,h=>by
  simp only [QE,Ab2,decide_eq_true_eq]at h
  obtain⟨⟨c,b⟩,d⟩:=h
  exact⟨by rw [a.N];exact c,a.i9 x b,JQ a d⟩
def jU (a:Go Z F X E k cf)(h:hO cf scope N kk aC):wP X scope N kk aC:=
 ⟨h.kind,h.Bh,h.names,λy c b=>a.i9 y.1 (h.free y c b),h.fX,JQ a h.aC,h.le⟩
def W0 (h:XV sc x=k9):sc.names.lookup x=y0 .local\/sc.names.lookup x=y0 .cell\/sc.names.lookup x=y0 .free:=by
 unfold XV at h
 split at h
 ·rename_i q;exact .inl q
 ·rename_i q;exact .inr (.inl q)
 ·rename_i q;exact .inr (.inr q)
 ·cases h
def Z0 (h:gP sc x=k9):sc.names.lookup x=y0 .local\/sc.names.lookup x=y0 .cell:=by
 unfold gP at h
 split at h
 ·rename_i q;exact .inl q
 ·rename_i q;exact .inr q
 ·cases h
def n4 (h:iC sc x=k9):sc.names.lookup x=y0 .globalImplicit:=by
 unfold iC at h
 split at h
 ·rename_i q;exact q
 ·cases h
def wy (a:Go Z F X E k cf)(h:hO cf scope N kk aC) (C:Addr) (p:List Addr) (s:Shared) (H:Hp):Go Z F (ze X N scope C p s H) E0 k { cf with sc:=scope,N:=N } where
 N:=rfl
 K:=a.K
 cl:=a.cl
 ow:=a.ow
 nd:=h.nd
 eC:=λx b=>by
  rcases W0 b with q | q | q
  ·exact .inl (Je (by decide) q)
  ·exact .inr (.inl (Je (by decide) q))
  ·exact .inr (wj q)
 mU:=λx b=>Je (by decide) b
 hA:=λx b=>by
  rcases Z0 b with q | q
  ·exact⟨.inl (Je (by decide) q),.inr (Je (by decide) q)⟩
  ·exact⟨.inr (Je (by decide) q),.inl (decide_eq_true q)⟩
 i9:=λx b=>by
  rcases b with q | q
  ·exact .inl (Je (by decide) q)
  ·exact wj q
 gl:=λx b=>Je (by decide) (n4 b)
 calm:=a.calm
 room:=a.room
 dC:=a.dC
 pass:=λc U y z e u _ j=>by
  obtain⟨x,A,t,B,w,_,_,_,_,_,_,_,_,_,_,m⟩:=j
  exact m.elim
 blt:=a.blt
 con:=a.con
 fn:=λf l=>by
  obtain⟨d,o,n,v,g,i,r⟩:=(a.fn f l).imp λd h=>h.ex
  exact⟨d,⟨o,n,v,g,i,r⟩⟩
 cls:=a.cls
 fld:=a.fld
 gi:=a.gi
 dY:=a.dY
theorem X1: ∀(is) (vs) (U) (j),j∉is->(fE is vs U)[j]? =U[j]?
 | [],_,_,_,_=>rfl
 | _::_,[],_,_,_=>rfl
 | i::is,v::vs,U,j,h=>by
  show(fE is vs (U.set i (y0 v)))[j]? =U[j]?
  rw [X1 is vs _ j λz=>h (Aa5 _ z),Ad7 (λz:i=j=>h (by rw [z];exact Aa4))]
theorem JH: ∀(is) (vs) (U),(fE is vs U).length=U.length
 | [],_,_=>rfl
 | _::_,[],_=>rfl
 | i::is,v::vs,U=>by
  show(fE is vs (U.set i (y0 v))).length=U.length
  rw [JH is vs,Ad]
def aa (e:M.Gz tg one d Y=y0 Y') (r:aB Z G H d x) (s:ao Z G Y h U H)
 (f: ∀q,ao Z G Y' h q H->(∀ j,j∉tg->q[j]? =U[j]?)->q.length=U.length->Q q H):gM Z tg one x U H Q:=by
 cases one with
 | true=>
  cases tg with
  | nil=>cases e
  | cons i l=>
   cases l with
   | cons _ _=>cases e
   | nil=>
    cases e
    exact⟨i,rfl,f _ (s.ea r) (λj b=>Ad7 λz=>b (by simp [z])) (Ad ..)⟩
 | false=>
  cases d with
  | tup k=>
   obtain⟨a,c,rfl,m,g⟩:=r
   obtain⟨n,o⟩:=jK (e) g s
   exact⟨G,k,c,a,rfl,m,g,o,f _ n (λj b=>X1 tg c U j b) (JH tg c U)⟩
  | _=>cases e
def ZT {step:M.D->M.AH->M.R (Option M.D)}: ∀ {ds}{h}{d}{h'},M.Gx step ds h≠ .exc d h'
 | [],_,_,_=>λe=>by cases e
 | x::ds,h,d,h'=>λe=>by
  rw [M.Gx]at e
  split at e
  ·split at e<;>cases e
  ·cases e
def QV {step:M.D->M.AH->M.R (Option M.D)}(e:M.Gx step (x::ds) h= .ok ys hf): ∃o h1 r,step x h= .ok o h1/\M.Gx step ds h1= .ok r hf/\ys=(match o with | some y=>y::r | none=>r):=by
 rw [M.Gx]at e
 split at e
 ·rename_i o h1 a
  split at e
  ·rename_i r c b
   cases e
   exact⟨o,h1,r,a,b,rfl⟩
  ·cases e
 ·cases e
def kJ (F:M.Fx) (tg:List Nat) (one:Bool) (f:M.Sl) (a:Bool) (c elt:M.E):M.D->M.AH->M.R (Option M.D):=λd h=>match M.Gz tg one d f with
 | none=> .fail
 | some e=>(if a then(M.eval F c e h).bind λx h=>M.R.of h (M.GW h x)else .ok k9 h).bind λb h=>match b with
  | true=>(M.eval F elt e h).bind λy h=>(M.R.of h y.d).bind λy h=> .ok (y0 y) h
  | false=> .ok u0 h
def EB :M.eval F (.comp tg one kk aC it k6 c elt) Y h=(M.Gv F it Y h).bind λds h=>
 if ds.length<=M.aW then(M.Gx (kJ F tg one (g0 kk aC Y) k6 c elt) ds h).bind λys h=> .ok (.own ys) h else .fail:=by
 rw [M.eval];rfl
noncomputable def ie (F:M.Fx) (a:Bool) (c:M.E):M.Sl->M.AH->M.R Bool:=λY h=>if a then M.Gr F c Y h else .ok k9 h
def wh {r:M.R α}(e:r.bind f= .ok b h): ∃a h1,r= .ok a h1/\f a h1= .ok b h:=by
 cases r with
 | ok a h1=>exact⟨a,h1,rfl,e⟩
 | exc d h1=>cases e
 | fail=>cases e
def WW (a:jh iter=k9): ∀v,foldedSetIterable iter env v=pure v:=λv=>by cases iter<;>first | rfl | (simp [jh]at a)
def pd (htk: ∀i∈tg,i<kk)(h0:tD Z E (M.eval F (.comp tg one kk aC it k6 c elt)) U H Q):
 lI kk aC (eh Z E y9 (M.Gv F it)) (λ_ _ _ _=>gM Z tg one) (λ_ _ _ _=>cW Z E0 (ie F k6 c)) (λ_ _ _ _=>tD Z E0 (M.eval F elt)) U H Q:=by
 obtain⟨G,Y,h,s,p⟩:=h0
 rw [EB]at p
 refine⟨G,Y,h,s,?_⟩
 cases qi:M.Gv F it Y h with
 | exc d k=>rw [qi]at p;exact p
 | fail=>rw [qi]at p;exact p
 | ok f h1=>
  rw [qi]at p
  intro G1 H1 e1 y J C L c0 _ Ca fp st
  have p:ak Z E G H (if f.length<=M.aW then(M.Gx _ f h1).bind λys h=> .ok _ h else .fail) λw k q n=> ∀v,aq Z q n w v->aD Y U H w v->Q v n:=p
  by_cases hL:f.length<=M.aW
  rotate_left
  ·rw [if_neg hL]at p;exact p.elim
  rw [if_pos hL]at p
  cases qc:M.Gx (kJ F tg one _ k6 c elt) f h1 with
  | exc d k=>exact absurd qc ZT
  | fail=>rw [qc]at p;exact p.elim
  | ok ys hf=>
   rw [qc]at p
   have p:=p
   have hLs:=Xh
   refine⟨λi m yv Ub n=> ∃q k done Wk,(m=f.length-i/\i<=f.length/\done.length<=i)/\Ext G1 H1 q n/\aj Z q k n/\C q n/\ae Z q n done yv ∧
    M.Gx (kJ F tg one (g0 kk aC Y) k6 c elt) (f.drop i) k= .ok Wk hf/\ys=done++Wk/\Ub.length=kk+aC.length/\ ∀j,j<aC.length->Ub[kk+j]? =y0 ((U[aC.getD j 0]?).join),⟨f.length,?_⟩,?_⟩
   ·refine⟨G1,h1,[],ys,⟨by simp,Ae8 _,Aa7 _⟩,Ext.refl,y,c0,rfl,qc,rfl,?_,λj W=> ?_⟩
    ·unfold lh;rw [Aa3,Ae3,Ab1]
    ·unfold lh
     rw [Ae6 (by simp),Ae3,Nat.add_sub_cancel_left,Ad9,Ab W,Ad1,Ab W]
     rfl
   ·rintro i m yv Ub n ⟨q,k,done,Wk,⟨rfl,hi',hd⟩,N,e,B,rd,X,u,l,A⟩
    have ldone:=rd.length
    by_cases t:i<f.length
    ·refine .inr ⟨L.go i q n B t,by lia,_,λyv' Ub' O w=>⟨f.length-(i+1),by lia,w⟩,λx O hy=> ?_⟩
     obtain⟨G4,x4,hx4,d,ed,rdx⟩:=L.eu i q n x O B t hy
     have B:=L.keep _ _ _ _ k B x4 e
     have rd:=rd.ext x4 e
     have N:=N.trans y x4
     have e:=hx4 _ e
     have edr:f.drop i=d::f.drop (i+1):=by
      rw [Ah0 t]
      rw [Ab t]at ed
      cases ed
      rfl
     rw [edr]at X
     obtain⟨o,h2,r,V,P,er⟩:=QV X
     unfold kJ at V
     cases qb:M.Gz tg one d (g0 kk aC Y)with
     | none=>rw [qb]at V;cases V
     | some Y'=>
      rw [qb]at V
      have so:=s.ext (e1.trans s.heap N) e
      have sb:=yf so kk aC l A
      refine aa qb rdx sb λU2 s2 same T=> ?_
      have g: ∀j,j<aC.length->U2[kk+j]? =y0 _:=λj W=>by
       rw [same _ λz=>by have:=htk _ z;lia];exact A j W
      obtain⟨b,h3,K,a⟩:=wh (show (ie F k6 c Y' k).bind _=_ from V)
      refine⟨G4,Y',k,s2,?_⟩
      rw [K]
      intro G3 H3 R S
      have s3:=s2.ext R S
      cases b with
      | false=>
       refine mB ?_
       have a:=a
       cases a
       exact⟨G3,_,done,r,⟨rfl,by lia,by lia⟩,N.trans y R,S,L.keep _ _ _ _ k B R e,rd.ext R e,P,by rw [u,er],by rw [T];exact l,g⟩
      | true=>
       refine mx ?_
       obtain⟨w,h4,qe,a⟩:=wh (a)
       refine⟨G3,Y',h3,s3,?_⟩
       rw [qe]
       intro G4 H4 e4 hr4 v rw' fw
       obtain⟨dd,h5,qd,a⟩:=wh (a)
       cases qw:w.d with
       | none=>rw [qw]at qd;cases qd
       | some d'=>
        rw [qw]at qd
        cases qd
        cases (a)
        have s4:=s3.ext e4 hr4
        obtain⟨G5,e5,s5,rdv,m5⟩:=mY e4 s4 s3 rw' fw qw
        have I:=R.trans e e5
        refine⟨G5,_,done++ [dd],r,⟨rfl,by lia,by rw [Aa3,Ag7];lia⟩,N.trans y I,s5.heap,L.keep _ _ _ _ k B I e,(rd.ext I e).append ⟨v,[],rfl,rdv,rfl⟩,P,?_,by rw [T];exact l,g⟩
        rw [u,er]
        simp
    ·have ei:i=f.length:=by lia
     subst ei
     rw [Al8]at X
     cases (X)
     rw [Ac5]at u
     subst u
     exact .inl ⟨L.stop _ q n B (Aa7 _) (Aa7 _),by lia,λD hD=>ar.own (ar.mk p (e1.trans s.heap N) s.heap) e rd D hD⟩
def Au (d:Go Z F X E k cf)(b:hO cf scope N kk aC)
 (j:aC.length=(N.drop kk).length) (e:Xf { cf with sc:=scope,N:=N } tg one t=k9) (f: ∀i∈tg,i<kk) (a:jh iter=k9)
 (hi:PI X t iter (eh Z E y9 (M.Gv F it)))
 (g: ∀C fp s H,PE (ze X N scope C fp s H) y (tD Z E0 (M.eval F elt)))
 (l: ∀C fp s H,fR (ze X N scope C fp s H) ifs (cW Z E0 (ie F k6 c))):
 PE X (.ListComp y [⟨t,iter,ifs,0⟩] scope pos) (tD Z E (M.eval F (.comp tg one kk aC it k6 c elt))):=
 PE.imp (Bo (jU d b) hi (λC fp s H=>Qw (wy d b C fp s H) e) l g d.calm (WW a)) λU H Q h=>pd f h
def jW (a:Go Z F X E k cf)(n:cf.N[i]? =y0 x) (o:gP cf.sc x=k9)(g:swapsWith (.ListComp y [⟨t,iter,ifs,0⟩] scope p0) (y0 (.Name x pos2)) pos.line X.env=pure k9) (d:hO cf scope N kk aC)
 (r:aC.length=(N.drop kk).length) (f:Xf { cf with sc:=scope,N:=N } tg one t=k9) (h: ∀i∈tg,i<kk) (e:jh iter=k9)
 (hi:PI X t iter (eh Z E y9 (M.Gv F it)))
 (p: ∀C fp s H,PE (ze X N scope C fp s H) y (tD Z E0 (M.eval F elt)))
 (m: ∀C fp s H,fR (ze X N scope C fp s H) ifs (cW Z E0 (ie F k6 c))):
 PS X (.Assign [.Name x pos2] (.ListComp y [⟨t,iter,ifs,0⟩] scope p0) pos) (gC (tD Z E (M.eval F (.comp tg one kk aC it k6 c elt))) (ZR i)):=by
 have l:=a.hA x o
 have j:=J9 (by rw [a.N];exact a.nd) (by rw [a.N];exact n) l.1 (jU a d) hi (λC fp s H=>Qw (wy a d C fp s H) f) m p g a.calm (WW e) l.2
 exact λb s U H D I q=>j b s U H D I (pd h q)
def XO (b:Go Z F X E k cf)(h1:cf.N[i]? =y0 x) (c:XV cf.sc x=k9) (a:cS x=k9):PE X (.Name x p) (kL i):=by
 unfold cS at a
 rw [Ab2]at a
 exact Xu (by rw [b.N];exact h1) (b.eC x c) (by simpa using a.1) (by simpa using a.2)
theorem Q6 (k): ∀ T,KTD.datumAt (aw k) (gB T)=(T.lookup k).map hH
 | []=>rfl
 | (x,d)::T=>by
  show(if u9 (aw k=aw x)=k9 then y0 (hH d)else KTD.datumAt (aw k) (gB T))=_
  rw [Ab7]
  by_cases e:k=x
  ·subst e
   rw [if_pos (decide_eq_true rfl),beq_self_eq_true]
   rfl
  ·rw [if_neg (by simpa using λz=>e (xO z)),beq_eq_false_iff_ne.mpr e,Q6 k T]
def DD (T): ∀p∈gB T,flatData p.2=true:=by
 intro p a
 obtain⟨⟨x,d⟩,_,rfl⟩:=Ad6.mp a
 cases d<;>rfl
def xA (h:M.flat d=k9):aB Z G H d (ij (hH d))/\flatData (hH d)=true:=by
 cases d<;>first | exact⟨rfl,rfl⟩ | cases h
def oY (b:Go Z F X E k cf)(q:F.con.lookup c=y0 (.exc n T)) (ne:T≠ []): ∃a,X.mg (Qg c)=y0 (.ref a)/\hV X.K a (gB T):=by
 obtain⟨u,v,f,rv,rd⟩:=b.con c _ q
 rcases rd ⟨λ_=>False,λ_=>0,0⟩ (λ_=>u0)with⟨z,_⟩ | ⟨_,a,e,d⟩
 ·exact absurd z ne
 ·subst e
  cases rv
  exact⟨a,f,b.K▸d⟩
def FX (m:Go Z F X E k cf)(D:bF cf.sc c g=k9) (R:zg y=k9) (J:PE X y (tD Z E (M.eval F a))):PE X (.Subscript g y pos) (tD Z E (M.eval F (.dG c a))):=by
 obtain⟨P,rfl,u,N⟩:=Jb D
 have nN:(∀ n T,F.con.lookup c=y0 (.exc n T)->T= [])->PE X (.Subscript (.Name (Qg c) P) y pos) (tD Z E (M.eval F (.dG c a))):=by
  intro C i s U H Q I ⟨G,Y,h,W,f⟩
  rw [M.eval]at f
  split at f
  ·rename_i n r T q;cases C n _ q
  ·exact f.elim
 by_cases w: ∃n T,F.con.lookup c=y0 (.exc n T)/\T≠ []
 ·obtain⟨n,T,q,ne⟩:=w
  obtain⟨b,x,t⟩:=oY m q ne
  refine PE.imp (tI Ec (jV (v:= .ref b) (m.gl _ u) x rfl N) J (JZ R)) λU H Q o=> ?_
  obtain⟨G,Y,h,s,p⟩:=o
  obtain⟨O,T,rfl⟩:=List.exists_cons_of_ne_nil ne
  rw [M.eval,q]at p
  refine Wa s.heap Ext.refl s p λw1 v1 h1 K S B V L A f1 e=> ?_
  unfold M.Kw at e
  split at e
  ·rename_i l
   cases (show v1= .str (aw l)from A)
   split at e
   ·rename_i d hd
    split at e
    ·rename_i j
     exact⟨b,gB (O::T),aw l,hH d,rfl,rfl,t,DD _,by rw [Q6,hd];rfl,(xA (Z:=Z) (G:=K) (H:=S) j).2,ak.val e B L.heap (xA j).1 trivial⟩
    ·exact e.elim
   ·exact e.elim
  ·exact e.elim
 ·exact nN λn T q=>Aj0 λz=>w ⟨n,T,q,z⟩
def AQ (L:Go Z F X E k cf)(hg:bF cf.sc c g=k9) (hl:(apos.endLine==u7.line)=k9) (B: ∀e∈ [x,y],Ja e=k9) (ha:PA X [x,y] (eK Z E (M.Gj F es))):PE X (.Call (.Attribute g (Qg "get") apos) [x,y] [] u7) (tD Z E (M.eval F (.cx c es))):=by
 obtain⟨p0,rfl,P,g3⟩:=Jb hg
 have nN:(∀ n T,F.con.lookup c=y0 (.exc n T)->T= [])->PE X (.Call (.Attribute (.Name (Qg c) p0) (Qg "get") apos) [x,y] [] u7) (tD Z E (M.eval F (.cx c es))):=by
  intro W u s U H Q I ⟨G,Y,h,st,l⟩
  rw [M.eval]at l
  split at l
  ·rename_i n r T q;cases W n _ q
  ·exact l.elim
 by_cases w: ∃n T,F.con.lookup c=y0 (.exc n T)/\T≠ []
 ·obtain⟨n,T,q,ne⟩:=w
  obtain⟨b,S,t⟩:=oY L q ne
  have A: ∀ {f},starEach [x,y] f=(y9,eval x f)::starEach [y] f:=ja (B x (by simp))
  have i: ∀ {f},starEach [y] f= [(y9,eval y f)]:=ja (B y (by simp))
  refine PE.imp (WZ PySem.F.plainAttrs_dict PySem.F.slot_dict_get PySem.F.type_dict_get Bq vX (jV (v:= .ref b) (L.gl _ P) S rfl g3) ha rfl (by rw [A,i];rfl) hl A (by rw [i];rfl)) λU H Q N=> ?_
  obtain⟨G,Y,h,s,p⟩:=N
  obtain⟨t0,T,rfl⟩:=List.exists_cons_of_ne_nil ne
  rw [M.eval,q]at p
  refine⟨⟨b,_,rfl,t⟩,jp s.heap Ext.refl s p λws us h1 G1 H1 J e1' K V a=> ?_⟩
  unfold M.Kb at a
  split at a
  ·rename_i C z
   obtain⟨u1,r,rfl,j,m⟩:=V
   obtain⟨R,r,rfl,o,m⟩:=m
   cases m
   cases (show u1= .str (aw C)from j)
   refine⟨b,gB (t0::T),aw C,R,rfl,rfl,t,λd hd=> ?_,λhd=> ?_⟩
   ·rw [Q6]at hd
    obtain⟨d',O,rfl⟩:=Ad4.mp hd
    rw [O]at a
    dsimp only at a
    split at a
    ·rename_i D
     exact⟨(xA (Z:=Z) (G:=G1) (H:=H1) D).2,ak.val a J K.heap (xA D).1 trivial⟩
    ·exact a.elim
   ·rw [Q6,Option.map_eq_none_iff]at hd
    rw [hd]at a
    dsimp only at a
    split at a
    ·exact ak.val a J K.heap o trivial
    ·exact a.elim
  ·exact a.elim
 ·exact nN λn T q=>Aj0 λz=>w ⟨n,T,q,z⟩
theorem oK: ∀ {T}{ks}{vs},zZ T ks vs=k9->kn (T.map λp=>(aw p.1,aw p.2)) ks vs
 | [],ks,vs,h=>⟨Ae5.mp (a2 h).1,Ae5.mp (a2 h).2⟩
 | (x,y)::T,ks,vs,h=>by
  refine kC (λe ks h=> ?_) ks h
  refine kC (λf vs h=> ?_) vs h
  refine kS (λe h=> ?_) e h
  refine zJ (λc n p h=> ?_) e h
  refine zJ (λd n p h=> ?_) f h
  obtain⟨b,a,g⟩:=a3 h
  cases of_decide_eq_true b
  cases of_decide_eq_true a
  exact⟨_,_,_,_,_,_,rfl,rfl,oK g⟩
theorem rY (k): ∀(T:List (M.Tx×M.Tx)),(T.map λp=>(aw p.1,aw p.2)).lookup (aw k)=(T.lookup k).map aw
 | []=>rfl
 | (x,y)::T=>by
  rw [Ab3,Ab7,Ab7]
  rw [sW]
  cases k==x with
  | true=>rfl
  | false=>exact rY k T
def Hc (f:Go Z F X E k cf)(n:zZ T ks vs=k9) (u:T≠ []) (w:T.length<=15) (m:(T.map (·.1)).Nodup) (h1:cf.N[i]? =y0 x) (j:XV cf.sc x=k9) (c:cS x=k9):
 PE X (.Subscript (.Dict ks vs p1) (.Name x p2) pos) (tD Z E (M.eval F (.ck T i))):=by
 unfold cS at c
 rw [Ab2]at c
 refine PE.imp (Bp (oK n) (by simp_all) (by simp_all) ?_ (by rw [f.N];exact h1) (f.eC x j) (by simpa using c.1) (by simpa using c.2)) λU H Q g=> ?_
 ·rw [Af0]
  have e:((·.1)∘λp:M.Tx×M.Tx=>(aw p.1,aw p.2))=aw∘(·.1):=rfl
  rw [e,←Af0]
  exact Ak0.map _ (λa b z q=>z (xO q)) m
 obtain⟨G,Y,h,s,p⟩:=g
 rw [M.eval]at p
 unfold M.Kd at p
 split at p
 ·rename_i d e
  obtain⟨v,l,r⟩:=s.slot i _ e
  cases (show v= .str (aw d)from r)
  split at p
  ·rename_i t o
   exact⟨aw d,aw t,l,by rw [rY,o];rfl,ak.val p Ext.refl s.heap rfl trivial⟩
  ·exact p.elim
 ·exact p.elim
def kB:(M.Tx ⊕ Nat)->(Str ⊕ Nat)
 | .inl t=> .inl (aw t)
 | .inr i=> .inr i
theorem XD (a:Go Z F X E k cf): ∀ {ps}{es},kD cf ps es=k9->ZN X (ps.map kB) es
 | [],es,h=>Ae5.mp h
 | .inl t::ps,es,h=>by
  refine kC (λe es h=> ?_) es h
  refine zJ (λc n p h=> ?_) e h
  obtain⟨f,b⟩:=a2 h
  cases of_decide_eq_true f
  exact⟨_,_,rfl,⟨_,_,rfl⟩,XD a b⟩
 | .inr i::ps,es,h=>by
  refine kC (λe es h=> ?_) es h
  refine AY (λx c z p h=> ?_) e h
  obtain⟨f,b,d,j⟩:=a4 h
  cases of_decide_eq_true f
  cases nn b
  refine JC (λx p d=> ?_) x d
  obtain⟨o,l,g⟩:=fv d
  obtain⟨g,m⟩:=a2 g
  exact⟨_,_,rfl,⟨x,_,_,rfl,by rw [a.N];exact o,a.eC x l,by simpa using g,by simpa using m⟩,XD a j⟩
def jB (i):Str.ofString (toString i)=aw (M.aZ i):=by
 unfold aw M.aZ
 rw [Str.ofString_eq_toList]
def qT {i:Int}(h:0<=i/\i<1000):i.natAbs.log2<1920:=by
 have a:i.natAbs<2 ^ 10:=by lia
 by_cases z:i.natAbs=0
 ·rw [z];decide
 ·exact Ai5 ((Nat.log2_lt z).mpr a) (by decide)
theorem jY (s:ao Z G Y h U H): ∀ {ps}{t},M.Ka Y ps=y0 t->gy U (ps.map kB)=y0 (aw t)
 | [],t,e=>by cases e;rfl
 | .inl u::ps,t,e=>by
  obtain⟨l,b,rfl⟩:=Ad4.mp e
  show(gy U (ps.map kB)).map _=_
  rw [jY s b,←qo]
  rfl
 | .inr i::ps,t,e=>by
  obtain⟨u,k,d⟩:=Ac7.mp e
  obtain⟨w,g,a⟩:=Ac7.mp k
  obtain⟨l,b,rfl⟩:=Ad4.mp d
  obtain⟨v,c,r⟩:=s.slot i w g
  have m:kF v=y0 (aw u):=by
   unfold M.Kp at a
   split at a
   ·cases a
    cases (show v= .str (aw _)from r)
    rfl
   ·split at a
    ·rename_i j f
     cases a
     cases (r)
     show(if j.natAbs.log2<1920 then y0 (Str.ofString (toString j))else u0)=_
     rw [if_pos (qT f),jB]
    ·cases a
   ·cases a
  show(((U[i]?).bind id).bind kF).bind (λx=>(gy U (ps.map kB)).map (x++ ·))=_
  rw [c]
  show(kF v).bind (λx=>(gy U (ps.map kB)).map (x++ ·))=_
  rw [m,jY s b,←qo]
  rfl
def By (c:Go Z F X E k cf)(h:kD cf ps (x::y::xs)=k9):PE X (.JoinedStr (x::y::xs) pos) (tD Z E (M.eval F (.b6 ps))):=by
 refine PE.imp (DL (XD c h)) λU H Q a=> ?_
 obtain⟨G,Y,h,s,p⟩:=a
 rw [M.eval]at p
 unfold M.Kh at p
 split at p
 ·rename_i t b
  split at p
  ·rename_i d
   exact⟨aw t,jY s b,by rw [jc];have:=Xh;omega,ak.val p Ext.refl s.heap rfl trivial⟩
  ·exact p.elim
 ·exact p.elim
def AO (e:Go Z F X E k cf)(q:bF cf.sc "str" g=true) (d:Ja x=true) (r:PE X x (tD Z E (M.eval F a))):PE X (.Call g [x] [] pos) (tD Z E (M.eval F (.cJ a))):=by
 obtain⟨p,rfl,j,m⟩:=Jb q
 have c: "str" ∈bW:=by decide
 refine PE.imp (xr y6 (e.gl _ j) (e.blt _ c) (by decide +kernel) (Jc r ji (ja d)) (Zs c) m (ja d) rfl) λU H Q f=> ?_
 obtain⟨G,Y,h,s,p⟩:=f
 refine Wa s.heap Ext.refl s p λw v1 z y A o u t n v b=> ?_
 unfold M.Kx at b
 split at b
 ·rename_i i
  cases (n)
  split at b
  ·rename_i l
   exact⟨i,rfl,qT l,jB i▸ak.val b o t.heap rfl trivial⟩
  ·exact b.elim
 ·exact b.elim
def BD (e:Go Z F X E k cf)(r:bF cf.sc "int" g=true) (d:Ja x=true) (u:PE X x (tD Z E (M.eval F a))):PE X (.Call g [x] [] pos) (tD Z E (M.eval F (.aZ a))):=by
 obtain⟨p,rfl,i,j⟩:=Jb r
 have b: "int" ∈bW:=by decide
 refine PE.imp (xr yd (e.gl _ i) (e.blt _ b) (by decide +kernel) (Jc u ji (ja d)) (Zs b) j (ja d) rfl) λU H Q f=> ?_
 obtain⟨G,Y,h,s,p⟩:=f
 refine Wa s.heap Ext.refl s p λB v1 D C I o w v m y c=> ?_
 unfold M.Ky at c
 split at c
 ·rename_i z
  cases (show v1= .str (aw z)from m)
  obtain⟨n,q,l⟩:=c.of
  have A:=Ai3.mp (List.mem_of_find?_eq_some q)
  have t:=of_decide_eq_true (List.find?_some (p:=λn:Nat=>decide _) q)
  subst t
  refine⟨_,n,rfl,?_,jB n▸PySem.W.KIN.num_reads (by lia) (by lia),ak.val l o v.heap rfl trivial⟩
  rw [← jB]
  exact Ac1 (PySem.W.KT.len_num (by lia) (by lia)) (by decide)
 ·exact c.elim
def pz (h:Str.ofString a=Str.ofString b):a=b:=by
 rw [Str.ofString_eq_toList,Str.ofString_eq_toList]at h
 have e:=by
  have:=congrArg (λs:Str=>s.cps.toList) h
  simpa using this
 have inj: ∀(l m:List Char),l.map Char.toNat=m.map Char.toNat->l=m:=by
  intro l
  induction l with
  | nil=>intro m q;cases m with | nil=>rfl | cons _ _=>cases q
  | cons c l f=>
   intro m q
   cases m with
   | nil=>cases q
   | cons d m=>
    simp [List.cons.injEq]at q
    rw [Char.toNat_inj.mp q.1,f m q.2]
 exact String.toList_inj.mp (inj _ _ e)
def xD (e:M.GK h o=y0 (r,c,fs)):o=y0 (.v (.ref r))/\h[r]? =y0 (.obj c fs):=by
 unfold M.GK at e
 split at e
 ·split at e
  ·rename_i q
   cases e
   exact⟨rfl,q⟩
  ·cases e
 ·cases e
def QB (s:ao Z G Y h U H)(e:M.GK h (M.Gm Y i)=y0 (r,c,fs)):U[i]? =y0 (y0 (.ref (G.aL r))):=by
 obtain⟨a,g⟩:=xD e
 obtain⟨v,b,d⟩:=s.slot i _ a
 obtain⟨_,f⟩:=(show r<G.n/\v= .ref (G.aL r)from d)
 rw [b,f]
abbrev fW (fs:List (String×M.D)):List Str:=fs.map λp=>Str.ofString p.1
section
variable {G:Gh}{H:Hp}
def X2 (a b):(Qg a==Str.ofString b)=(a==b):=by
 cases q:a==b with
 | true=>rw [eq_of_beq q];exact beq_self_eq_true _
 | false=>exact beq_eq_false_iff_ne.mpr λz=>(beq_eq_false_iff_ne.mp q) (pz z)
theorem rl : ∀ {fs}{us},ae Z G H (fs.map (·.2)) us->fs.lookup f=y0 d-> ∃v,((fW fs).zip us).lookup (Qg f)=y0 v/\aB Z G H d v
 | [],_,_,e=>by cases e
 | (g,x)::fs,_,⟨v,r,rfl,a,b⟩,e=>by
  rw [Ab7]at e
  show ∃w,(((Str.ofString g),v)::(fW fs).zip r).lookup (Qg f)=y0 w/\_
  rw [Ab7,X2]
  cases q:f==g with
  | true=>rw [q]at e;cases e;exact⟨v,rfl,a⟩
  | false=>rw [q]at e;exact rl b e
theorem zE : ∀ {fs}{us:List V},fs.lookup f=u0->((fW fs).zip us).lookup (Qg f)=u0
 | [],_,_=>rfl
 | (g,x)::fs,[],_=>rfl
 | (g,x)::fs,v::r,e=>by
  rw [Ab7]at e
  show(((Str.ofString g),v)::(fW fs).zip r).lookup (Qg f)=u0
  rw [Ab7,X2]
  cases q:f==g with
  | true=>rw [q]at e;cases e
  | false=>rw [q]at e;exact zE e
theorem j5 (rv:aB Z G H d v): ∀ {fs}{us},ae Z G H (fs.map (·.2)) us-> ∃i,ae Z G H ((M.aY f d fs).map (·.2)) i/\L2.aY (Qg f) v ((fW fs).zip us)=(fW (M.aY f d fs)).zip i
 | [],_,z=>by cases z;exact⟨[v],⟨v,[],rfl,rv,rfl⟩,rfl⟩
 | (g,x)::fs,_,⟨u,r,rfl,e,c⟩=>by
  show ∃i,ae Z G H ((if g=f then(g,d)::fs else(g,x)::M.aY f d fs).map (·.2)) i/\(if Str.ofString g=Qg f then(Str.ofString g,v)::(fW fs).zip r else(Str.ofString g,u)::L2.aY (Qg f) v ((fW fs).zip r))=(fW (if g=f then(g,d)::fs else(g,x)::M.aY f d fs)).zip i
  by_cases q:g=f
  ·rw [if_pos q,if_pos (congrArg Str.ofString q)]
   exact⟨v::r,⟨v,r,rfl,rv,c⟩,rfl⟩
  ·rw [if_neg q,if_neg λz=>q (pz z)]
   obtain⟨i,a,b⟩:=j5 rv c
   exact⟨u::i,⟨u,i,rfl,e,a⟩,by rw [b];rfl⟩
theorem pe (hd:M.Gs d=k9): ∀ {fs},M.Gf (fs.map (·.2))=k9->M.Gf ((M.aY f d fs).map (·.2))=k9
 | [],_=>by show(M.Gs d&&k9)=k9;rw [hd];rfl
 | (g,x)::fs,z=>by
  have z:(M.Gs x&&M.Gf (fs.map (·.2)))=true:=z
  rw [Ab2]at z
  show M.Gf ((if g=f then(g,d)::fs else(g,x)::M.aY f d fs).map (·.2))=k9
  by_cases q:g=f
  ·rw [if_pos q];show(M.Gs d&&M.Gf (fs.map (·.2)))=k9;rw [hd,z.2];rfl
  ·rw [if_neg q];show(M.Gs x&&M.Gf ((M.aY f d fs).map (·.2)))=k9;rw [z.1,pe hd z.2];rfl
end
def AU (a:Go Z F X E k cf)(h1:cf.N[i]? =y0 x) (g:XV cf.sc x=k9) (n:cS x=k9) (b:cf.ob.fl.contains (c,f)=k9):PE X (.Attribute (.Name x p1) (Qg f) pos) (tD Z E (M.eval F (.fld i c f))):=by
 refine PE.imp (EJ (XO a h1 g n) rfl) λU H Q e=> ?_
 obtain⟨G,Y,h,s,p⟩:=e
 rw [M.eval]at p
 cases q:M.GK h (M.Gm Y i)with
 | none=>rw [q]at p;exact p.elim
 | some o=>
  obtain⟨r,j,fs⟩:=o
  rw [q]at p
  dsimp only at p
  split at p
  ·rename_i w
   subst w
   obtain⟨d,l,p⟩:=p.of
   obtain⟨B,u⟩:=xD q
   obtain⟨A,_,y,C,z,t⟩:=s.heap.obj r _ fs u
   obtain⟨v,m,rv⟩:=rl t l
   exact⟨_,QB s q,G.aL r,Z.ca j,y,_,v,rfl,z,(a.fld _ _ b).1,(a.fld _ _ b).2,m,ak.val p Ext.refl s.heap rv trivial⟩
  ·exact p.elim
def sA (e:Ext G H G1 H1) (a:r<G.n):aq Z G1 H1 (.v (.ref r)) (.ref (G.aL r)):=⟨Ab5 a e.le,by rw [e.aL r a]⟩
def oG (c:attributeBase o name env (eval o env)=eval o env) (b:methodCallForm args.length (backTo pos (starEach args env)) (backToKw pos (keywordEach [] env))=k9) (a:(apos.endLine==pos.line)=k9):
 eval (.Call (.Attribute o name apos) args [] pos) env=(do
  let i ←eval o env
  standAt apos.atName
  let (f,first) ←holding [i] (getMethod i name (do return (← importBound o env).getD k9))
  callWith pos f first (backTo pos (starEach args env)) (backToKw pos (keywordEach [] env))):=by
 have d:methodCallForm (args.length+([]:List Keyword).length) _ _=true:=b
 have e:methodCallPos k9 o env apos pos=pure pos:=by unfold methodCallPos;simp [a]
 rw [arm_eval_Call,c]
 unfold methodCall
 rw [d]
 simp only [e,calleeOf,if_true,pure_bind]
def Aq (h: ∀e∈args,Ja e=k9) (d:args.length<29):methodCallForm args.length (backTo pos (starEach args env)) (backToKw pos (keywordEach [] env))=true:=by
 unfold methodCallForm
 have a:(backTo pos (starEach args env)).all (λx=> !x.1)=true:=by
  have:=Zr (env:=env) (pos:=pos) h
  rw [Ai9]
  intro x b
  rw [List.any_eq_false]at this
  simpa using this x b
 rw [a]
 have c:(backToKw pos (keywordEach [] env))= []:=rfl
 rw [c]
 simp
 lia
def E1 (a:Go Z F X E k cf)(h1:cf.N[i]? =y0 x) (z:XV cf.sc x=k9) (A:cS x=k9) (I:cf.ob.mt.contains (c,m,q0)=k9) (V:(apos.endLine==pos.line)=k9) (t:ys.length<20) (d: ∀e∈y::ys,Ja e=k9) (R:PA X (y::ys) (eK Z E (M.Gj F es))):
 PE X (.Call (.Attribute (.Name x J) (Qg m) apos) (y::ys) [] pos) (tD Z E (M.eval F (.ah i c m q0 es))):=by
 obtain⟨O,fa,fd,ps,L,g,B⟩:=a.gi c m q0 I
 refine PE.imp (C1 (XO a h1 z A) O L g a.room B .nil a.pass R (ja (d _ Aa4)) (Zr λe D=>d e (Aa5 _ D)) (oG rfl (Aq d (by simp;lia)) V)) λU H Q v=> ?_
 obtain⟨G,Y,h,s,p⟩:=v
 rw [M.eval]at p
 cases q:M.GK h (M.Gm Y i)with
 | none=>rw [q]at p;exact p.elim
 | some o=>
  obtain⟨r,c',fs⟩:=o
  rw [q]at p
  dsimp only at p
  split at p
  ·rename_i C
   obtain⟨rfl,t⟩:=C
   obtain⟨n,l⟩:=xD q
   obtain⟨nf,_,N,us,P,ru⟩:=s.heap.obj r _ fs l
   have b:r<G.n:=by rw [← s.heap.len];exact(Ac2.mp l).1
   refine⟨_,QB s q,G.aL r,N,_,rfl,P,zE (Af8.mp t),?_⟩
   refine jp s.heap Ext.refl s p λu W h1 S H1 n j T K J=> ?_
   rw [Ac5]
   refine⟨S,h1,.v _::u.map M.W.arg,T.heap,⟨.ref _,W,rfl,sA j b,Xv K⟩,λw f=> ?_,ar.mk J n s.heap⟩
   obtain rfl | f:=Aa.mp f
   ·rfl
   ·exact ww u w f
  ·exact p.elim
def He (a:Go Z F X E k cf)(h1:cf.N[i]? =y0 x) (g:XV cf.sc x=k9) (j:cS x=k9) (t:cf.ob.mt.contains (c,m,q0)=k9) (B:(apos.endLine==pos.line)=k9):
 PE X (.Call (.Attribute (.Name x p1) (Qg m) apos) [] [] pos) (tD Z E (M.eval F (.ah i c m q0 .nil))):=by
 obtain⟨z,N,L,K,J,d,l⟩:=a.gi c m q0 t
 refine PE.imp (uV (XO a h1 g j) z J d a.room l .nil a.pass (oG rfl rfl B)) λU H Q f=> ?_
 obtain⟨G,Y,h,s,p⟩:=f
 rw [M.eval]at p
 cases q:M.GK h (M.Gm Y i)with
 | none=>rw [q]at p;exact p.elim
 | some o=>
  obtain⟨r,C,fs⟩:=o
  rw [q]at p
  dsimp only at p
  split at p
  ·rename_i n
   obtain⟨rfl,y⟩:=n
   obtain⟨O,e⟩:=xD q
   obtain⟨D,_,v,P,A,I⟩:=s.heap.obj r _ fs e
   have b:r<G.n:=by rw [← s.heap.len];exact(Ac2.mp e).1
   refine⟨_,QB s q,G.aL r,v,_,rfl,A,zE (Af8.mp y),?_⟩
   have p:=p
   refine⟨G,h,[.v _],s.heap,⟨.ref _,[],rfl,sA Ext.refl b,rfl⟩,λw u=> ?_,ar.mk p Ext.refl s.heap⟩
   cases Ab8.mp u
   rfl
  ·exact p.elim
def yC (q:Go Z F X E k cf)(hg:bF cf.sc c g=k9) (hm:cf.ob.dY.contains (c,q0)=k9) (I: ∀e∈y::ys,Ja e=k9) (ha:PA X (y::ys) (eK Z E (M.Gj F es))):
 PE X (.Call g (y::ys) [] pos) (tD Z E (M.eval F (.make c q0 es))):=by
 obtain⟨p0,rfl,T,g3⟩:=Jb hg
 obtain⟨r,fa,fd,ps,mk,A,S⟩:=q.dY c q0 hm
 refine PE.imp (Bc mk A q.dC (q.gl _ T) r S .nil q.pass ha g3 (ja (I _ Aa4)) (Zr λe he=>I e (Aa5 _ he))) λU H Q P=> ?_
 obtain⟨G,Y,h,s,p⟩:=P
 refine jp s.heap Ext.refl s p λL vs l f D J e1' j r1 b=> ?_
 intro a n o N ne
 rw [Ac5]
 have K:aP D n (.own a) a=none:=by rw [Xa (Ne.symm ne)];exact o
 have R:Ext f D f (aP D n (.own a)):=zG _ N
 have r2:=j.heap.new (.own a) N
 have x2:Ext f _ f (aP _ a (.ins (Z.ca c) n [])):=zG _ K
 have r3:=r2.new (.ins (Z.ca c) n []) K
 have kl:=j.heap.iZ o
 have W:=DJ r3 kl (j.heap.kc o) We
 have t:=qO (R.trans j.heap x2) o
 have u:=by
  show l.length<f.n+1/\V.ref a= .ref (if l.length=f.n then a else f.aL l.length)
  rw [j.heap.len,if_pos rfl]
  exact⟨Af1 _,rfl⟩
 refine⟨f.cell a,l++ [.obj c []],.v (.ref l.length)::L.map M.W.arg,W,⟨.ref a,vs,rfl,u,aU.ext t j.heap (Xv r1)⟩,λw x=> ?_,?_⟩
 ·obtain rfl | x:=Aa.mp x
  ·rfl
  ·exact ww L w x
 ·cases B:F.call q0 _ (l++ [.obj c []])with
  | fail=>rw [B]at b;exact b.elim
  | exc d h'=>
   rw [B]at b
   exact λC z m i=>b C z ((J.trans s.heap t).trans s.heap m) i
  | ok w h'=>
   rw [B]at b
   intro C z m i v rv _
   cases w with
   | own _=>exact b.elim
   | bor _=>exact b.elim
   | v d=>
    cases d with
    | az=>
     refine⟨rv,?_⟩
     have b:=b
     have O:=u.1
     exact b C z ((J.trans s.heap t).trans s.heap m) i _ ⟨Ab5 O m.le,by rw [m.aL _ O];exact u.2⟩ trivial
    | _=>exact b.elim
end
def PW.d6 (h:PT X (.BoolOp op vs pos) t):PW X (.BoolOp op vs pos) t:=λb a s U H Q I q=>by
 have:=h a s U H Q I q
 exact this
theorem jx : ∀ {es}{xs}{Y}{h}{ds}{h'},bD cf es xs=k9->M.Gk F es Y h= .ok ds h'->ds.length=xs.length
 | .nil,xs,_,_,_,_,c,e=>by
  cases Ae5.mp c
  rw [M.Gk]at e;cases e;rfl
 | .cons a es,xs,Y,h,ds,h',c,e=>by
  refine kC (λx r c=> ?_) xs c
  obtain⟨w,k,j,e⟩:=wh e
  obtain⟨d,f,i,e⟩:=wh e
  obtain⟨r,g,b,e⟩:=wh e
  cases e
  rw [Aa0,Aa0,jx (a2 c).2 b]
theorem jg : ∀ {es}{xs},bD cf es xs=k9-> ∀e∈xs,Ja e=k9
 | .nil,xs,c=>by
  cases Ae5.mp c
  intro e b;cases b
 | .cons a es,xs,c=>by
  refine kC (λx r c=> ?_) xs c
  intro e b
  rcases Aa.mp b with rfl | b
  ·exact(a3 c).1
  ·exact jg (a2 c).2 e b
theorem JF : ∀ {aC}{xs},QE cf aC xs=k9->aC.length=xs.length
 | [],[],_=>rfl
 | [],_::_,h=>by simp [QE]at h
 | _::_,[],h=>by simp [QE]at h
 | j::a,x::xs,h=>by
  simp only [QE,Ab2]at h
  exact congrArg (· +1) (JF h.2)
def xN (h:xl e f=k9):jh e=true:=by
 refine Qj (λg x l p h=> ?_) e h
 rfl
def WT (h:cN cf it e=k9):jh e=true:=by
 cases it with
 | seq a=>exact(a2 h).1
 | aS a=>exact xN h
 | bz a b=>exact xN h
 | rev a=>exact xN h
 | zip a b=>exact bw h
 | enum a=>exact bw h
 | bN i=>exact bw h
 | bY a=>exact bw h
section
variable {Z:Ge}{F:M.Fx}{k:Nat}
def bo (b:Go Z F X E k cf) (r:PE X x (tD Z E (M.eval F m))) (a: ∀i,isTrue x X.env i=(do let v ←i;standAt x.pos;holding [v] (truthy v))):PE X x (tD Z E (M.eval F m))/\(eU m=k9->PT X x (cW Z E (M.Gr F m))):=⟨r,λ_=>CQ b r a⟩
mutual
theorem Xc: ∀(m:M.E){X:Cx}{E:XK}{cf:Cf}{e:Expr},Go Z F X E k cf->xc cf m e=k9->PE X e (tD Z E (M.eval F m))/\(eU m=k9->PT X e (cW Z E (M.Gr F m)))
 | .var i,X,E,cf,e,go,h=>by
  refine JC (λx p h=> ?_) e h
  obtain⟨h1,h2,h3⟩:=fv h
  exact bo go (yK go h1 h2 h3) λ_=>rfl
 | .con c,X,E,cf,e,go,h=>by
  have r:=EX go h
  obtain⟨p,rfl,_,_⟩:=Jb h
  exact bo go r λ_=>rfl
 | .int i,X,E,cf,e,go,h=>by
  refine zJ (λx n p h=> ?_) e h
  cases of_decide_eq_true h;exact bo go F3 λ_=>rfl
 | .bl i,X,E,cf,e,go,h=>by
  refine zJ (λx n p h=> ?_) e h
  cases of_decide_eq_true h;exact bo go Hj λ_=>rfl
 | .str i,X,E,cf,e,go,h=>by
  refine zJ (λx n p h=> ?_) e h
  cases of_decide_eq_true h;exact bo go Bx λ_=>rfl
 | .tup es,X,E,cf,e,go,h=>by
  refine pU (λx n p h=> ?_) e h
  obtain⟨h1,h2⟩:=a2 h
  exact bo go (Ep (of_decide_eq_true h1) (λY hh ds h' q=>jx h2 q) (gW es go h2)) λ_=>rfl
 | .lst es,X,E,cf,e,go,h=>by
  refine DM (λx p h=> ?_) e h
  obtain⟨h1,h2⟩:=a2 h
  exact bo go (t4 (of_decide_eq_true h1) (λY hh ds h' q=>jx h2 q) (gW es go h2)) λ_=>rfl
 | .bin o a b,X,E,cf,e,go,h=>by
  refine uo (λx o y p h=> ?_) e h
  obtain⟨h0,ho,h1,h2⟩:=a4 h
  cases of_decide_eq_true h0
  exact bo go (Dv go ho (Xc a go h1).1 (Xc b go h2).1) λ_=>rfl
 | .cmp o a b,X,E,cf,e,go,h=>by
  refine ph (λx o y p h=> ?_) e h
  refine kC (λy r h=> ?_) y h
  obtain⟨h0,ho,hs,h1,h2⟩:=a5 h
  obtain⟨rfl,rfl⟩:=of_decide_eq_true h0
  exact⟨CG go ho hs (Xc a go h1).1 (Xc b go h2).1,λ_=>DP go ho hs (Xc a go h1).1 (Xc b go h2).1⟩
 | .chain o q a b c,X,E,cf,e,go,h=>by
  refine ph (λx o y p h=> ?_) e h
  refine kC (λy r h=> ?_) y h
  refine kC (λz r h=> ?_) r h
  obtain⟨h0,ho,hq,hs,h1,h2,h3⟩:=a7 h
  obtain⟨rfl,rfl⟩:=of_decide_eq_true h0
  exact⟨Ck go ho hq hs (Xc a go h1).1 (Xc b go h2).1 (Xc c go h3).1,λ_=>Q8 go ho hq hs (Xc a go h1).1 (Xc b go h2).1 (Xc c go h3).1⟩
 | .neg a,X,E,cf,e,go,h=>by
  refine pE (λo x p h=> ?_) e h
  cases of_decide_eq_true (a2 h).1
  exact bo go (Fh (Xc a go (a2 h).2).1) λ_=>rfl
 | .not a,X,E,cf,e,go,h=>by
  refine pE (λo x p h=> ?_) e h
  cases of_decide_eq_true (a2 h).1
  exact⟨Cv go (Xc a go (a2 h).2).1,λt=>uP ((Xc a go (a2 h).2).2 t)⟩
 | .and a b,X,E,cf,e,go,h=>by
  refine pA (λo x p h=> ?_) e h
  refine kC (λx r h=> ?_) x h
  refine kC (λy r h=> ?_) r h
  obtain⟨h0,h1,h2⟩:=a3 h
  cases of_decide_eq_true h0
  cases r with
  | nil=>exact⟨tP go (Xc a go h1).1 (sP (Xc b go h2).1),λt=>(Z5 ((Xc a go h1).2 (a2 t).1) (u5 ((Xc b go h2).2 (a2 t).2))).pt⟩
  | cons z r=>exact⟨tP go (Xc a go h1).1 (Xc b go h2).1,λt=>(Z5 ((Xc a go h1).2 (a2 t).1) (PW.d6 ((Xc b go h2).2 (a2 t).2))).pt⟩
 | .or a b,X,E,cf,e,go,h=>by
  refine pA (λo x p h=> ?_) e h
  refine kC (λx r h=> ?_) x h
  refine kC (λy r h=> ?_) r h
  obtain⟨h0,h1,h2⟩:=a3 h
  cases of_decide_eq_true h0
  cases r with
  | nil=>exact⟨sI go (Xc a go h1).1 (sP (Xc b go h2).1),λt=>(ou ((Xc a go h1).2 (a2 t).1) (D9 ((Xc b go h2).2 (a2 t).2))).pt⟩
  | cons z r=>exact⟨sI go (Xc a go h1).1 (Xc b go h2).1,λt=>(ou ((Xc a go h1).2 (a2 t).1) (PW.d6 ((Xc b go h2).2 (a2 t).2))).pt⟩
 | .call f es,X,E,cf,e,go,h=>by
  refine Qj (λg x l p h=> ?_) e h
  refine kE (λh=> ?_) l h
  obtain⟨h1,h2,h3⟩:=a3 h
  cases x with
  | nil=>
   cases es with
   | cons _ _=>exact bw h3
   | nil=>
    have r:=AM (pos:=p) go h1 h2
    obtain⟨p,rfl,_,_⟩:=Jb h1
    exact bo go r λ_=>rfl
  | cons x r=>
   have r:=Aw (pos:=p) go h1 h2 (jg h3) (cP es go h3)
   obtain⟨p,rfl,_,_⟩:=Jb h1
   exact bo go r λ_=>rfl
 | .bi b es,X,E,cf,e,go,h=>by
  refine Qj (λg x l p h=> ?_) e h
  refine kE (λh=> ?_) l h
  refine kC (λx r h=> ?_) x h
  obtain⟨h1,h2,h3⟩:=a3 h
  have r:=Cu (pos:=p) go h2 h1 (jg h3) (cP es go h3)
  obtain⟨p,rfl,_,_⟩:=Jb h1
  exact bo go r λ_=>rfl
 | .cu a t,X,E,cf,e,go,h=>by
  refine Qj (λg x l p h=> ?_) e h
  refine kE (λh=> ?_) l h
  refine kC (λx r h=> ?_) x h
  refine kC (λy r h=> ?_) r h
  refine kE (λh=> ?_) r h
  obtain⟨h1,h2,h3,h4,h5⟩:=a5 h
  have r:=yF (pos:=p) go (of_decide_eq_true h3) h1 h2 h4 (Xc a go h5).1
  obtain⟨p,rfl,_,_⟩:=Jb h1
  exact bo go r λ_=>rfl
 | .ix a b,X,E,cf,e,go,h=>by
  refine fU (λx y p h=> ?_) e h
  obtain⟨h1,h2,h3⟩:=a3 h
  exact bo go (BG go h1 (Xc a go h2).1 (Xc b go h3).1) λ_=>rfl
 | .sl a lo hi,X,E,cf,e,go,h=>by
  refine fU (λx y p h=> ?_) e h
  refine k1 (λl u z p2 h=> ?_) y h
  refine kS (λl h=> ?_) l h
  refine kS (λu h=> ?_) u h
  obtain⟨h0,h1,h2,h3⟩:=a4 h
  cases nn h0
  exact bo go (CH go (Xc a go h1).1 (Xc lo go h2).1 (Xc hi go h3).1) λ_=>rfl
 | .fi a lo,X,E,cf,e,go,h=>by
  refine fU (λx y p h=> ?_) e h
  refine k1 (λl u z p2 h=> ?_) y h
  refine kS (λl h=> ?_) l h
  obtain⟨h0,h1,h2,h3⟩:=a4 h
  cases nn h0;cases nn h1
  exact bo go (EO go (Xc a go h2).1 (Xc lo go h3).1) λ_=>rfl
 | .fb a hi,X,E,cf,e,go,h=>by
  refine fU (λx y p h=> ?_) e h
  refine k1 (λl u z p2 h=> ?_) y h
  refine kS (λu h=> ?_) u h
  obtain⟨h0,h1,h2,h3⟩:=a4 h
  cases nn h0;cases nn h1
  exact bo go (E6 go (Xc a go h2).1 (Xc hi go h3).1) λ_=>rfl
 | .rev a,X,E,cf,e,go,h=>by
  refine fU (λx y p h=> ?_) e h
  refine k1 (λl u z p2 h=> ?_) y h
  refine kS (λz h=> ?_) z h
  obtain⟨h0,h1,h2,h3⟩:=a4 h
  cases nn h0;cases nn h1
  exact bo go (DI go h2 (Xc a go h3).1) λ_=>rfl
 | .comp tg one kk aC it k6 c elt,X,E,cf,e,go,h=>by
  refine px (λy g s p h=> ?_) e h
  refine kC (λg r h=> ?_) g h
  obtain⟨t,iter,ifs,z⟩:=g
  obtain⟨h0,h1,h2,h3,h4,h5,h6⟩:=a7 h
  obtain⟨rfl,rfl⟩:=of_decide_eq_true h0
  simp only [Ai9,decide_eq_true_eq]at h2
  have sc:=wH h1
  have ht: ∀C fp w H,fR (ze X (Ww cf t aC) s C fp w H) ifs (cW Z E0 (ie F k6 c)):=λC fp w H=>by
   have gc:=wy go sc C fp w H
   cases k6 with
   | true=>
    refine kC (λz r h=> ?_) ifs h6
    refine kE (λh=> ?_) r h
    exact o4 ((Xc c gc (a2 h).2).2 (a2 h).1)
   | false=>
    cases Ae5.mp h6
    intro y8 s1 U H1 Q I ⟨G,Y,h,st,p⟩
    exact rK y8 s1 U H1 Q I (p G H1 Ext.refl st.heap)
  exact bo go (Au go sc (JF sc.aC) h3 h2 (WT h4) (iX it go h4) (λC fp s H=>(Xc elt (wy go sc C fp s H) h5).1) ht) λ_=>rfl
 | .share a,X,E,cf,e,go,h=>⟨u6 (Xc a go h).1,λt=>bw t⟩
 | .c7 a,X,E,cf,e,go,h=>by
  refine Qj (λg x l p h=> ?_) e h
  refine kE (λh=> ?_) l h
  refine kC (λx r h=> ?_) x h
  refine kE (λh=> ?_) r h
  refine Qj (λg2 x l p2 h=> ?_) x h
  refine kE (λh=> ?_) l h
  refine kC (λx r h=> ?_) x h
  refine kE (λh=> ?_) r h
  obtain⟨h1,h2,h3,h4⟩:=a4 h
  exact bo go (FZ go h1 h2 h3 (Xc a go h4).1) λ_=>rfl
 | .cL a,X,E,cf,e,go,h=>by
  refine Qj (λg x l p h=> ?_) e h
  refine kE (λh=> ?_) l h
  refine kC (λx r h=> ?_) x h
  refine kE (λh=> ?_) r h
  obtain⟨h1,h2,h3⟩:=a3 h
  exact bo go (yH go h1 h2 (Xc a go h3).1) λ_=>rfl
 | .dG c a,X,E,cf,e,go,h=>by
  refine fU (λx y p h=> ?_) e h
  obtain⟨h1,h2,h3⟩:=a3 h
  exact bo go (FX go h1 h2 (Xc a go h3).1) λ_=>rfl
 | .cx c es,X,E,cf,e,go,h=>by
  refine Qj (λg x l p h=> ?_) e h
  refine kE (λh=> ?_) l h
  refine kC (λx r h=> ?_) x h
  refine kC (λy r h=> ?_) r h
  refine kE (λh=> ?_) r h
  refine ig (λg n q h=> ?_) g h
  obtain⟨h1,h2,h3,h4⟩:=a4 h
  cases of_decide_eq_true h2
  exact bo go (AQ go h1 h3 (jg h4) (cP es go h4)) λ_=>rfl
 | .ck T i,X,E,cf,e,go,h=>by
  refine fU (λd x p h=> ?_) e h
  refine vi (λks vs q h=> ?_) d h
  refine JC (λx q2 h=> ?_) x h
  obtain⟨h1,h2,h3,h4,h⟩:=a5 h
  obtain⟨h5,h6,h7⟩:=fv h
  exact bo go (Hc go h1 (of_decide_eq_true h2) (of_decide_eq_true h3) (of_decide_eq_true h4) h5 h6 h7) λ_=>rfl
 | .b6 ps,X,E,cf,e,go,h=>by
  refine Bl (λx p h=> ?_) e h
  refine kC (λx r h=> ?_) x h
  refine kC (λy r h=> ?_) r h
  exact bo go (By go h) λ_=>rfl
 | .cJ a,X,E,cf,e,go,h=>by
  refine Qj (λg x l p h=> ?_) e h
  refine kE (λh=> ?_) l h
  refine kC (λx r h=> ?_) x h
  refine kE (λh=> ?_) r h
  obtain⟨h1,h2,h3⟩:=a3 h
  exact bo go (AO go h1 h2 (Xc a go h3).1) λ_=>rfl
 | .aZ a,X,E,cf,e,go,h=>by
  refine Qj (λg x l p h=> ?_) e h
  refine kE (λh=> ?_) l h
  refine kC (λx r h=> ?_) x h
  refine kE (λh=> ?_) r h
  obtain⟨h1,h2,h3⟩:=a3 h
  exact bo go (BD go h1 h2 (Xc a go h3).1) λ_=>rfl
 | .fld i c f,X,E,cf,e,go,h=>by
  refine ig (λx n q h=> ?_) e h
  refine JC (λx p h=> ?_) x h
  obtain⟨h,h0,h4⟩:=a3 h
  obtain⟨h1,h2,h3⟩:=fv h
  cases of_decide_eq_true h0
  exact bo go (AU go h1 h2 h3 h4) λ_=>rfl
 | .ah i c m q es,X,E,cf,e,go,h=>by
  refine Qj (λg ys l p h=> ?_) e h
  refine kE (λh=> ?_) l h
  refine ig (λx n p2 h=> ?_) g h
  refine JC (λx p1 h=> ?_) x h
  obtain⟨h,h0,h4,h6,h7,h5⟩:=a6 h
  obtain⟨h1,h2,h3⟩:=fv h
  cases of_decide_eq_true h0
  cases ys with
  | cons y ys=>exact bo go (E1 go h1 h2 h3 h4 h6 (of_decide_eq_true h7) (jg h5) (cP es go h5)) λ_=>rfl
  | nil=>
   cases es with
   | cons _ _=>exact bw h5
   | nil=>exact bo go (He go h1 h2 h3 h4 h6) λ_=>rfl
 | .make c q es,X,E,cf,e,go,h=>by
  refine Qj (λg x l p h=> ?_) e h
  refine kE (λh=> ?_) l h
  refine kC (λx r h=> ?_) x h
  obtain⟨h1,h2,h3⟩:=a3 h
  exact bo go (yC go h1 h2 (jg h3) (cP es go h3)) λ_=>rfl
 | .cE m a es,X,E,cf,e,go,h=>by
  refine Qj (λg x l p h=> ?_) e h
  refine kE (λh=> ?_) l h
  refine kC (λx r h=> ?_) x h
  refine kE (λh=> ?_) r h
  refine ig (λo n q h=> ?_) g h
  obtain⟨h1,h2,h3,h4,h5,h6⟩:=a6 h
  cases of_decide_eq_true h1
  exact bo go (yg go h2 h3 h4 (jg h6 _ Aa4) (Xc a go h5).1 (cP es go h6)) λ_=>rfl
theorem gW: ∀(es:M.Es){X:Cx}{E:XK}{cf:Cf}{xs:List Expr},Go Z F X E k cf->bD cf es xs=k9->PA X xs (gI Z E (M.Gk F es))
 | .nil,X,E,cf,xs,go,h=>by
  cases Ae5.mp h
  exact FW
 | .cons a es,X,E,cf,xs,go,h=>by
  refine kC (λx r h=> ?_) xs h
  obtain⟨h1,h2,h3⟩:=a3 h
  exact uw h1 (Xc a go h2).1 (gW es go h3)
theorem cP: ∀(es:M.Es){X:Cx}{E:XK}{cf:Cf}{xs:List Expr},Go Z F X E k cf->bD cf es xs=k9->PA X xs (eK Z E (M.Gj F es))
 | .nil,X,E,cf,xs,go,h=>by
  cases Ae5.mp h
  exact EA
 | .cons a es,X,E,cf,xs,go,h=>by
  refine kC (λx r h=> ?_) xs h
  obtain⟨h1,h2,h3⟩:=a3 h
  exact uN h1 (Xc a go h2).1 (cP es go h3)
theorem iX: ∀(it:M.It){X:Cx}{E:XK}{cf:Cf}{tg e:Expr},Go Z F X E k cf->cN cf it e=k9->PI X tg e (eh Z E y9 (M.Gv F it))
 | .seq a,X,E,cf,tg,e,go,h=>uA go (Xc a go (a2 h).2).1
 | .aS a,X,E,cf,tg,e,go,h=>by
  refine Qj (λg x l p h=> ?_) e h
  refine kE (λh=> ?_) l h
  refine kC (λx r h=> ?_) x h
  refine kE (λh=> ?_) r h
  obtain⟨h1,h2,h3⟩:=a3 h
  exact jG go h1 h2 (Xc a go h3).1
 | .bz a b,X,E,cf,tg,e,go,h=>by
  refine Qj (λg x l p h=> ?_) e h
  refine kE (λh=> ?_) l h
  refine kC (λx r h=> ?_) x h
  refine kC (λy r h=> ?_) r h
  refine kE (λh=> ?_) r h
  obtain⟨h1,h2,h3,h4,h5⟩:=a5 h
  exact xF go h1 h2 h3 (Xc a go h4).1 (Xc b go h5).1
 | .rev a,X,E,cf,tg,e,go,h=>by
  refine Qj (λg x l p h=> ?_) e h
  refine kE (λh=> ?_) l h
  refine kC (λx r h=> ?_) x h
  refine kE (λh=> ?_) r h
  obtain⟨h1,h2,h3⟩:=a3 h
  exact Du go h1 h2 (Xc a go h3).1
 | .zip a b,X,E,cf,tg,e,go,h=>bw h
 | .enum a,X,E,cf,tg,e,go,h=>bw h
 | .bN i,X,E,cf,tg,e,go,h=>bw h
 | .bY a,X,E,cf,tg,e,go,h=>bw h
end
end
structure Bs where
 G:Gh
 H:Hp
 h:M.AH
structure aX (Z:Ge) (B:Bs) (G:Gh) (Y:M.Sl) (h:M.AH) (U:St) (H:Hp):Prop where
 st:ao Z G Y h U H
 ext:Ext B.G B.H G H
 hr:aj Z B.G B.h B.H
 own: ∀i xs a,M.Gm Y i=y0 (.own xs)->U[i]? =y0 (y0 (.ref a))->B.H a=u0
def aT (Z:Ge) (E:XK) (B:Bs) (o:M.O) (D:gQ):Prop:=match o with
 | .next Y h=> ∀G U H,aX Z B G Y h U H->D.nx U H
 | .ret w h=> ∀G v H,Ext B.G B.H G H->aj Z G h H->aq Z G H w v->aD [] [] B.H w v->D.rt v H
 | .brk Y h=> ∀G U H,aX Z B G Y h U H->D.bk U H
 | .cont Y h=> ∀G U H,aX Z B G Y h U H->D.ct U H
 | .exc d h=> ∀G H,Ext B.G B.H G H->aj Z G h H->rR Z E d G H
 | .fail=>False
def b9 (Z:Ge) (E:XK) (m:M.Sl->M.AH->M.O):TS:=λD U H=> ∃B G Y h,aX Z B G Y h U H/\aT Z E B (m Y h) D
def PS.imp {st:Stmt}(h:PS X st t) (k: ∀D U H,t' D U H->t D U H):PS X st t':=λa s U H D I q=>h a s U H D I (k _ _ _ q)
def cv.imp {st:List Stmt}(h:cv X st t) (k: ∀D U H,t' D U H->t D U H):cv X st t':=λa s U H D I q=>h a s U H D I (k _ _ _ q)
section
variable {Z:Ge}{E:XK}{B:Bs}{G G1:Gh}{Y:M.Sl}{h h1:M.AH}{U:St}{H H1:Hp}{D:gQ}
def aX.on (s:aX Z B G Y h U H) (e:Ext G H G1 H1) (a:aj Z G1 h1 H1):aX Z B G1 Y h1 U H1:=⟨s.st.ext e a,s.ext.trans s.hr e,s.hr,s.own⟩
theorem aT.exc (s:aX Z B G Y h U H) (p:aT Z E B (.exc d h1) D):ak Z E G H (.exc d h1) P:=λa c e b=>p a c (s.ext.trans s.hr e) b
def qg (s:aX Z B G Y h U H) (p:aT Z E B ((m Y h).cF f) D)
 (k: ∀w v h1 G1 H1,Ext G H G1 H1->aX Z B G1 Y h1 U H1->aq Z G1 H1 w v->aD Y U H w v->aT Z E B (f w h1) D->Q v H1):tD Z E m U H Q:=by
 refine⟨G,Y,h,s.st,?_⟩
 cases q:m Y h with
 | ok w h1=>rw [q]at p;exact λG1 H1 e a v b c=>k w v h1 G1 H1 e (s.on e a) b c p
 | exc d h1=>rw [q]at p;exact aT.exc s p
 | fail=>rw [q]at p;exact p
def J2 (s:aX Z B G Y h U H) (p:aT Z E B ((m Y h).cF f) D)
 (k: ∀b h1 G1 H1,Ext G H G1 H1->aX Z B G1 Y h1 U H1->aT Z E B (f b h1) D->Q b H1):cW Z E m U H Q:=by
 refine⟨G,Y,h,s.st,?_⟩
 cases q:m Y h with
 | ok w h1=>rw [q]at p;exact λG1 H1 e a=>k w h1 G1 H1 e (s.on e a) p
 | exc d h1=>rw [q]at p;exact aT.exc s p
 | fail=>rw [q]at p;exact p
theorem aX.set (m:aX Z B G Y h U H) (e:Ext G H G1 H1) (s:aX Z B G1 Y h1 U H1) (r:aq Z G1 H1 w v) (f:aD Y U H w v) (u: ∀xs,w≠ .bor xs):aX Z B G1 (M.GD Y i w) h1 (U.set i (y0 v)) H1:=by
 refine⟨s.st.set r λy j A q g p a x z=> ?_,s.ext,s.hr,λj xs a g k=> ?_⟩
 ·cases w with
  | v d=>cases y
  | bor xs=>exact u xs rfl
  | own xs=>
   obtain⟨b,n,l⟩:=f
   subst x
   cases n
   obtain⟨o,t⟩:=m.st.cm g p z
   rw [l]at t;cases t
 ·rw [Qf]at g
  by_cases c:j=i/\i<Y.length
  ·rw [if_pos c]at g
   cases g
   obtain⟨rfl,c⟩:=c
   rw [Ad0 (by rw [← s.st.len];exact c)]at k
   cases k
   obtain⟨b,n,l⟩:=f
   cases n
   exact m.ext.none m.hr l
  ·rw [if_neg c]at g
   have q:=λz=>c ⟨z,by subst z;exact Qr g⟩
   rw [Ad7 (Ne.symm q)]at k
   exact s.own j xs a g k
def aX.fz (a:aX Z B G Y h U H) (e:Ext G H G1 H1) (s:aX Z B G1 Y h1 U H1) (r:aq Z G1 H1 w v) (f:aD Y U H w v) (hd:w.d=y0 d): ∃G2,Ext G H G2 H1/\aX Z B G2 Y h1 U H1/\aB Z G2 H1 d v:=by
 obtain⟨G2,b,c,rd,_⟩:=mY e s.st a.st r f hd
 exact⟨G2,b,⟨c,a.ext.trans a.hr b,s.hr,s.own⟩,rd⟩
def aX.ea (s:aX Z B G Y h U H) (r:aB Z G H d v):aX Z B G (M.GD Y i (.v d)) h (U.set i (y0 v)) H:=aX.set s Ext.refl s r trivial λa z=>by cases z
theorem aX.aM: ∀ {is}{ds}{vs}{Y q}{U},M.aM is ds Y=y0 q->ae Z G H ds vs->aX Z B G Y h U H->aX Z B G q h (fE is vs U) H/\is.length=vs.length
 | [],[],_,_,_,_,e,rfl,s=>by cases e;exact⟨s,rfl⟩
 | [],_::_,_,_,_,_,e,_,_=>by simp [M.aM]at e
 | _::_,[],_,_,_,_,e,_,_=>by simp [M.aM]at e
 | i::is,d::ds,_,_,_,_,e,⟨v,r,rfl,a,f⟩,s=>by
  obtain⟨c,b⟩:=aX.aM (by simpa [M.aM]using e) f (s.ea a)
  exact⟨c,congrArg (· +1) b⟩
def tW (e:M.Gz tg one d Y=y0 Y') (r:aB Z G H d x) (s:aX Z B G Y h U H) (c: ∀q,aX Z B G Y' h q H->Q q H):gM Z tg one x U H Q:=by
 cases one with
 | true=>
  cases tg with
  | nil=>cases e
  | cons i k=>
   cases k with
   | cons _ _=>cases e
   | nil=>
    cases e
    exact⟨i,rfl,c _ (s.ea r)⟩
 | false=>
  cases d with
  | tup j=>
   obtain⟨a,g,rfl,l,b⟩:=r
   obtain⟨f,m⟩:=aX.aM (e) b s
   exact⟨G,j,g,a,rfl,l,b,m,c _ f⟩
  | _=>cases e
def aX.write (s:aX Z B G Y h U H) (m:M.Gm Y i=y0 (.own xs)) (n:U[i]? =y0 (y0 (.ref a))) (r:ae Z G H ys us):aX Z B G (M.GD Y i (.own ys)) h U (aP H a (.lst us)):=by
 obtain⟨x,of,vs,ha,_⟩:=Wp s.st m n
 have Q:=s.own i xs a m n
 have mon:Mon G H G (aP H a (.lst us)):=⟨λb o z q=>by rw [Xa (λe:b=a=>x (e▸z))];exact q,Aa7 _,λ_ _=>rfl,λ_ z=>z⟩
 have V:=Qr m
 have J:aj Z G h (aP H a (.lst us)):=by
  refine⟨s.st.heap.len,λq c e=>⟨(s.st.heap.any q c e).1,(s.st.heap.any q c e).2.mon mon λo z=>by rw [Xa (of q (s.st.heap.lt e))];exact z⟩,s.st.heap.inj,λb z=> ?_⟩
  obtain⟨o,q⟩:=s.st.heap.live b z
  exact⟨o,by rw [Xa (λe:b=a=>x (e▸z))];exact q⟩
 refine⟨⟨by rw [xq];exact s.st.len,λj w e=> ?_,λp q F w b L l g X R=> ?_,J⟩,⟨λb o q D=> ?_,s.ext.le,s.ext.aL,s.ext.new,s.ext.fz,s.ext.old,λq C z=> ?_⟩,s.hr,λj F b l g=> ?_⟩
 ·rw [Qf]at e
  by_cases c:j=i/\i<Y.length
  ·rw [if_pos c]at e
   cases e
   obtain⟨rfl,_⟩:=c
   exact⟨.ref a,n,a,us,rfl,x,of,We,r.mon mon⟩
  ·rw [if_neg c]at e
   have P:=λz=>c ⟨z,by subst z;exact Qr e⟩
   obtain⟨v,K,I⟩:=s.st.slot j w e
   refine⟨v,K,?_⟩
   cases w with
   | v d=>exact aB.mon mon I
   | own T=>
    obtain⟨b,bs,rfl,W,y,f,N⟩:=I
    have u:b≠a:=λz=>s.st.apart i j xs _ a (Ne.symm P) m e rfl n (z▸K)
    exact⟨b,bs,rfl,W,y,by rw [Xa u];exact f,N.mon mon⟩
   | bor T=>
    obtain⟨b,bs,rfl,y,f,N⟩:=I
    have u:b≠a:=λz=>s.st.apart i j xs _ a (Ne.symm P) m e rfl n (z▸K)
    refine⟨b,bs,rfl,y,?_,N.mon mon⟩
    obtain f | ⟨o,f⟩:=f
    ·exact .inl (by rw [Xa u];exact f)
    ·exact .inr ⟨o,by rw [Xa u];exact f⟩
 ·rw [Qf]at l g
  have E: ∃k,M.Gm Y p=y0 (.own k):=by
   by_cases c:p=i/\i<Y.length
   ·exact⟨xs,by rw [c.1];exact m⟩
   ·rw [if_neg c]at l;exact⟨F,l⟩
  have A: ∃t,M.Gm Y q=y0 t/\bG t=true:=by
   by_cases c:q=i/\i<Y.length
   ·exact⟨.own xs,by rw [c.1];exact m,rfl⟩
   ·rw [if_neg c]at g;exact⟨w,g,X⟩
  obtain⟨k,E⟩:=E
  obtain⟨t,A,O⟩:=A
  exact s.st.apart p q k t b L E A O R
 ·rw [Xa (λe:b=a=>by rw [e,Q]at q;cases q)]
  exact s.ext.keep b o q D
 ·obtain⟨o,S⟩:=s.ext.cells q C z
  have:B.G.aL q≠a:=λe=>by
   have:=of q (Ab5 C s.ext.le)
   rw [s.ext.aL q C]at this
   exact this e
  exact⟨o,by rw [Xa this];exact S⟩
 ·rw [Qf]at l
  by_cases c:j=i/\i<Y.length
  ·obtain⟨rfl,_⟩:=c
   rw [n]at g
   cases g
   exact Q
  ·rw [if_neg c]at l;exact s.own j F b l g
theorem zK: ∀(xs) (n){d},M.Gf xs=k9->M.Gs d=k9->M.Gf (xs.set n d)=k9
 | [],_,_,_,_=>rfl
 | x::xs,0,d,h,hd=>by
  have h:=h
  rw [Ab2]at h
  show(M.Gs d&&M.Gf xs)=k9
  rw [hd,h.2];rfl
 | x::xs,n+1,d,h,hd=>by
  have h:=h
  rw [Ab2]at h
  show(M.Gs x&&M.Gf (xs.set n d))=k9
  rw [h.1,zK xs n h.2 hd];rfl
def aX.gq (s:aX Z B G Y h U H) (p:h[r]? =y0 c0) (z:bq Z G (aP H (G.aL r) o1) (G.aL r) c1):aX Z B G Y (h.set r c1) U (aP H (G.aL r) o1):=by
 have E:=(Ac2.mp p).1
 have g:=s.st.heap.lt p
 have k:=s.st.heap.kl g
 have mon:Mon G H G (aP H _ o1):=⟨λb o w q=>by rw [Xa (λe:b=G.aL r=>k (e▸w))];exact q,Aa7 _,λ_ _=>rfl,λ_ w=>w⟩
 have m:aj Z G (h.set r c1) (aP H (G.aL r) o1):=by
  refine⟨by rw [Ad];exact s.st.heap.len,λq c e=> ?_,s.st.heap.inj,λb w=> ?_⟩
  ·by_cases c:q=r
   ·subst c
    rw [Ad0 E]at e
    cases e
    exact⟨k,z⟩
   ·rw [Ad7 (Ne.symm c)]at e
    exact⟨(s.st.heap.any q _ e).1,(s.st.heap.any q _ e).2.mon mon λo w=>by rw [Xa λu=>c (s.st.heap.inj q r (s.st.heap.lt e) g u)];exact w⟩
  ·obtain⟨o,q⟩:=s.st.heap.live b w
   exact⟨o,by rw [Xa (λe:b=G.aL r=>k (e▸w))];exact q⟩
 refine⟨⟨s.st.len,λj w e=> ?_,s.st.apart,m⟩,⟨λb o q i=> ?_,s.ext.le,s.ext.aL,s.ext.new,s.ext.fz,s.ext.old,λq x w=> ?_⟩,s.hr,s.own⟩
 ·obtain⟨v,D,l⟩:=s.st.slot j w e
  refine⟨v,D,?_⟩
  cases w with
  | v d=>exact aB.mon mon l
  | own A=>
   obtain⟨b,bs,rfl,C,f,a,n⟩:=l
   exact⟨b,bs,rfl,C,f,by rw [Xa (Ne.symm (f r g))];exact a,n.mon mon⟩
  | bor A=>
   obtain⟨b,bs,rfl,f,a,n⟩:=l
   refine⟨b,bs,rfl,f,?_,n.mon mon⟩
   obtain a | ⟨o,a⟩:=a
   ·exact .inl (by rw [Xa (Ne.symm (f r g))];exact a)
   ·exact .inr ⟨o,by rw [Xa (Ne.symm (f r g))];exact a⟩
 ·have y:b≠G.aL r:=λe=>by
   by_cases c:r<B.G.n
   ·exact i r c (by rw [← s.ext.aL r c];exact e.symm)
   ·have:=s.ext.new r (Nat.not_lt.mp c) g
    rw [← e,q]at this
    cases this
  rw [Xa y]
  exact s.ext.keep b o q i
 ·by_cases c:B.G.aL q=G.aL r
  ·exact⟨_,by rw [c];exact We⟩
  ·obtain⟨o,t⟩:=s.ext.cells q x w
   exact⟨o,by rw [Xa c];exact t⟩
def W3 (a:aj Z G h H) (c:r<G.n) (o):Mon G H G (aP H (G.aL r) o):=⟨λb o w q=>by rw [Xa (λe:b=G.aL r=>a.kl c (e▸w))];exact q,Aa7 _,λ_ _=>rfl,λ_ w=>w⟩
def aX.cell (s:aX Z B G Y h U H) (a:h[r]? =y0 (.lst xs)) (b:M.Gf ys=k9) (z:ae Z G H ys us):aX Z B G Y (h.set r (.lst ys)) U (aP H (G.aL r) (.lst us)):=
 s.gq a ⟨b,us,We,z.mon (W3 s.st.heap (s.st.heap.lt a) _)⟩
def aX.ki (s:aX Z B G Y h U H) (a:h[r]? =y0 (.obj c0 xs)) (b:M.Gf (ys.map (·.2))=k9) (z:ae Z G H (ys.map (·.2)) us):aX Z B G Y (h.set r (.obj c0 ys)) U (aP H (G.aL r) (.ins (Z.ca c0) dx0 ((ys.map λp=>Str.ofString p.1).zip us))):=
 s.gq a ⟨b,dx0,us,We,z.mon (W3 s.st.heap (s.st.heap.lt a) _)⟩
def aX.freeze (s:aX Z B G Y h U H) (m:M.Gm Y i=y0 (.own xs)): ∃G',aX Z B G' (M.GD Y i (.v (.lst xs))) h U H:=by
 obtain⟨v,k,a,D,rfl,E,of,r,rs⟩:=s.st.slot i _ m
 have A:=s.own i xs a m k
 refine⟨G.more a,⟨⟨by rw [xq];exact s.st.len,λj w e=> ?_,λp q l w b n d f g x=> ?_,s.st.heap.more of ⟨_,r⟩⟩,s.ext.more A,s.hr,λj l b d f=> ?_⟩⟩
 ·rw [Qf]at e
  by_cases c:j=i/\i<Y.length
  ·rw [if_pos c]at e
   cases e
   obtain⟨rfl,_⟩:=c
   exact⟨.ref a,k,a,D,rfl,.inl ⟨.inr rfl,.inl r⟩,rs.mon (Qo a)⟩
  ·rw [if_neg c]at e
   have y:=λz=>c ⟨z,by subst z;exact Qr e⟩
   obtain⟨v,t,C⟩:=s.st.slot j w e
   exact⟨v,t,C.more λg u=>s.st.apart i j xs w a (Ne.symm y) m e g k (u▸t)⟩
 ·rw [Qf]at d f
  by_cases c:p=i/\i<Y.length
  ·rw [if_pos c]at d;cases d
  ·rw [if_neg c]at d
   by_cases o:q=i/\i<Y.length
   ·rw [if_pos o]at f;cases f;cases g
   ·rw [if_neg o]at f;exact s.st.apart p q l w b n d f g x
 ·rw [Qf]at d
  by_cases c:j=i/\i<Y.length
  ·rw [if_pos c]at d;cases d
  ·rw [if_neg c]at d;exact s.own j l b d f
end
structure kg (Z:Ge) (F:M.Fx) (X:Cx) (E:XK) (k:Nat) (cf:Cf):Prop extends Go Z F X E k cf where
 gJ:PassesOwn (model X.prog X.w) X.A X.env X.xe
 ip:X.stack=X.env::X.outer
 DX:X.env.frame=y0 X.env.locals
 ex:X.ex= []
section
variable {Z:Ge}{F:M.Fx}{X:Cx}{E:XK}{k:Nat}{cf:Cf}
def ZS (h:qI cf i x=k9):cf.N[i]? =y0 x/\gP cf.sc x=true:=by
 simpa [qI]using h
def F7 (n:tD Z E (M.eval F (.share a)) U H Q):tD Z E (M.eval F a) U H Q:=by
 obtain⟨G,Y,h,s,p⟩:=n
 refine Wa s.heap Ext.refl s p λw v1 c g A r y i q k b=> ?_
 cases w with
 | own e=>
  obtain⟨l,B,rfl,t,u,o,j⟩:=q
  obtain⟨z,m,x⟩:=k
  cases m
  have b:ak Z E G H (if M.Gf e=k9 then M.aF _ (c++ [.lst e])else .fail) _:=b
  by_cases f:M.Gf e=k9
  rotate_left
  ·rw [if_neg f]at b;exact b.elim
  rw [if_pos f]at b
  refine ak.val b (qO r x) (WS i.heap t u o j f) ?_ trivial
  show c.length<g.n+1/\V.ref l= .ref (if c.length=g.n then l else g.aL c.length)
  rw [i.heap.len,if_pos rfl]
  exact⟨Af1 _,rfl⟩
 | v d=>exact b.elim
 | bor e=>exact b.elim
def xh (h:xp v=k9):swapsWith v t l env=pure false:=by
 cases v<;>first | rfl | (simp [xp]at h)
def WQ (b:Go Z F X E k cf)(a:qI cf i x=k9) (e:PE X v (tD Z E (M.eval F m))) (f:swapsWith v (y0 (.Name x p)) pos.line X.env=pure y9):
 PS X (.Assign [.Name x p] v pos) (gC (tD Z E (M.eval F m)) (ZR i)):=by
 obtain⟨d,c⟩:=ZS a
 have a:=b.hA x c
 exact Cm (by rw [b.N];exact b.nd) (by rw [b.N];exact d) a.1 e f a.2
def r0:M.E->Bool
 | .share _=>k9
 | .comp .. =>k9
 | _=>y9
def yZ (h:xc cf m v=k9) (a:r0 m=y9):xp v=true:=by
 cases v with
 | ListComp _ _ _ _=>cases m<;>first | exact bw h | (exact absurd (a) Am0)
 | SetComp _ _ _ _=>cases m<;>first | exact bw h | (exact absurd (a) Am0)
 | DictComp _ _ _ _ _=>cases m<;>first | exact bw h | (exact absurd (a) Am0)
 | _=>rfl
def vx (d:Cf) (a:Bool) (b:List Expr) (c:M.E):Bool:=bif a then(lC b λz r=>kZ r (eU c&&xc d c z))else b.isEmpty
def Cg (h:xc cf (.comp tg one kk aC it k6 c elt) v=k9): ∃y t iter ifs scope p0,v= .ListComp y [⟨t,iter,ifs,0⟩] scope p0 ∧
 hO cf scope (Ww cf t aC) kk aC/\(∀ i∈tg,i<kk)/\Xf { cf with sc:=scope,N:=Ww cf t aC } tg one t=k9/\cN cf it iter=k9/\xc { cf with sc:=scope,N:=Ww cf t aC } elt y=k9 ∧
 vx { cf with sc:=scope,N:=Ww cf t aC } k6 ifs c=true:=by
 refine px (λy g s p h=> ?_) v h
 refine kC (λg r h=> ?_) g h
 obtain⟨t,iter,ifs,z⟩:=g
 obtain⟨d,j,a,b,f,e,k⟩:=a7 h
 obtain⟨rfl,rfl⟩:=of_decide_eq_true d
 simp [decide_eq_true_eq]at a
 exact⟨y,t,iter,ifs,s,p,rfl,wH j,a,b,f,e,k⟩
def CW (e:Go Z F X E k cf)(o:qI cf i x=k9)(h:xc cf (.comp tg one kk aC it k6 c elt) v=k9):
 PS X (.Assign [.Name x p] v pos) (gC (tD Z E (M.eval F (.comp tg one kk aC it k6 c elt))) (ZR i)):=by
 have O:=(Xc _ e h).1
 obtain⟨y,t,j,d,a,R,rfl,l,w,A,n,L,q⟩:=Cg h
 obtain⟨b,m⟩: ∃b,swapsWith (.ListComp y [⟨t,j,d,0⟩] a R) (y0 (.Name x p)) pos.line X.env=pure b:=⟨_,rfl⟩
 cases b with
 | false=>exact WQ e o O m
 | true=>
  obtain⟨N,J⟩:=ZS o
  have B: ∀C g s H,fR (ze X _ a C g s H) d (cW Z E0 (ie F k6 c)):=λC g s H=>by
   have D:=wy e l C g s H
   cases k6 with
   | true=>
    refine kC (λz r h=> ?_) d q
    refine kE (λh=> ?_) r h
    exact o4 ((Xc c D (a2 h).2).2 (a2 h).1)
   | false=>
    cases Ae5.mp q
    intro f P U u Q I ⟨G,Y,h,K,p⟩
    exact rK f P U u Q I (p G u Ext.refl K.heap)
  exact jW e N J m l (JF l.aC) A w (WT n) (iX it e n) (λC g s H=>(Xc elt (wy e l C g s H) L).1) B
def Zb (a:Go Z F X E k cf)(b:qI cf i x=k9)(h:xc cf m v=k9) (c:r0 m=y9):PS X (.Assign [.Name x p] v pos) (gC (tD Z E (M.eval F m)) (ZR i)):=
 WQ a b (Xc m a h).1 (xh (yZ h c))
theorem mw (c:Go Z F X E k cf)(b:qI cf i x=k9): ∀ m,xc cf m v=k9->PS X (.Assign [.Name x p] v pos) (gC (tD Z E (M.eval F m)) (ZR i))
 | .share a,h=>PS.imp (mw c b a h) λD U H q=>F7 q
 | .comp ..,h=>CW c b h
 | .var _,h=>Zb c b h rfl
 | .con _,h=>Zb c b h rfl
 | .int _,h=>Zb c b h rfl
 | .bl _,h=>Zb c b h rfl
 | .str _,h=>Zb c b h rfl
 | .tup _,h=>Zb c b h rfl
 | .lst _,h=>Zb c b h rfl
 | .bin ..,h=>Zb c b h rfl
 | .cmp ..,h=>Zb c b h rfl
 | .chain ..,h=>Zb c b h rfl
 | .neg _,h=>Zb c b h rfl
 | .not _,h=>Zb c b h rfl
 | .and ..,h=>Zb c b h rfl
 | .or ..,h=>Zb c b h rfl
 | .call ..,h=>Zb c b h rfl
 | .bi ..,h=>Zb c b h rfl
 | .cu ..,h=>Zb c b h rfl
 | .ix ..,h=>Zb c b h rfl
 | .sl ..,h=>Zb c b h rfl
 | .fi ..,h=>Zb c b h rfl
 | .fb ..,h=>Zb c b h rfl
 | .rev _,h=>Zb c b h rfl
 | .c7 _,h=>Zb c b h rfl
 | .cL _,h=>Zb c b h rfl
 | .cE ..,h=>Zb c b h rfl
 | .dG ..,h=>Zb c b h rfl
 | .cx ..,h=>Zb c b h rfl
 | .ck ..,h=>Zb c b h rfl
 | .b6 _,h=>Zb c b h rfl
 | .cJ _,h=>Zb c b h rfl
 | .aZ _,h=>Zb c b h rfl
 | .fld ..,h=>Zb c b h rfl
 | .ah ..,h=>Zb c b h rfl
 | .make ..,h=>Zb c b h rfl
def Ea (q:Go Z F X E k cf)(o:qI cf i x=k9)(h:xc cf m v=k9):PS X (.Assign [.Name x p] v pos) (b9 Z E (M.exec F (.set i m))):=by
 refine PS.imp (mw q o m h) λD U H n=> ?_
 obtain⟨B,G,Y,h,s,p⟩:=n
 refine qg s p λw v t f l e g c b a=> ?_
 cases w with
 | bor j=>exact a.elim
 | v d=>exact a f _ l (aX.set s e g c b λj z=>by cases z)
 | own r=>exact a f _ l (aX.set s e g c b λj z=>by cases z)
def A1 (o:Go Z F X E k cf)(n:qI cf i x=k9)(h:xc cf m v=k9):PS X (.Assign [.Name x p] v pos) (b9 Z E (M.exec F (.af i m))):=by
 refine PS.imp (mw o n m h) λD U H b=> ?_
 obtain⟨B,G,Y,h,s,p⟩:=b
 refine qg s p λw v y u r j l g f a=> ?_
 cases q:w.d with
 | none=>rw [q]at a;exact a.elim
 | some d=>
  rw [q]at a
  obtain⟨e,t,c,rd⟩:=aX.fz s j l g f q
  exact a e _ r (c.ea rd)
def vo :swapsWithSole [.Tuple ts n p] v l env=pure false:=by
 cases v<;>rfl
def WY (h:Jg v=k9):swappedStores [.Tuple ts n p] v env=pure none:=by
 cases v<;>first | rfl | (simp [Jg]at h)
def yI (e:Go Z F X E k cf)(g:Xs cf is ts=k9) (l:Jg v=k9)(h:xc cf m v=k9):PS X (.Assign [.Tuple ts n p] v pos) (b9 Z E (M.exec F (.fK is m))):=by
 refine PS.imp (lV (Xc m e h).1 (Qw e (one:=y9) g) vo (WY l) rfl) λD U H f=> ?_
 obtain⟨B,G,Y,h,s,p⟩:=f
 refine qg s p λw v u r x z t j y a=> ?_
 cases w with
 | v d=>
  cases d with
  | tup b=>
   have a:aT Z E B (match M.aM is b Y with | some c=> .next c u | none=> .fail) D:=a
   cases q:M.aM is b Y with
   | none=>rw [q]at a;exact a.elim
   | some c=>
    rw [q]at a
    exact tW (show M.Gz is y9 (.tup b) Y=y0 c from q) j t λi o=>a r i x o
  | _=>exact a.elim
 | own _=>exact a.elim
 | bor _=>exact a.elim
def XT :swapsWithSole [.Subscript x y p] v l env=pure false:=by
 cases v<;>rfl
def xJ :swappedStores [.Subscript x y p] v env=pure none:=by
 cases v<;>rfl
def rW (a:zg y=k9) (v):assign (.Subscript x y p) env v=(do
 let i ←holding [v] (eval x env)
 let q ←holding [v,i] (eval y env)
 standAt p
 holding [v,i,q] (setItem i q v)
 release [v,i,q] []):=by
 cases y<;>first | rfl | (simp [zg]at a)
def j2 (a:M.flat d=k9) (z:aB Z G H d v):aB Z G' H' d v:=by
 cases d with
 | az=>exact z
 | bl _=>exact z
 | int _=>exact z
 | str _=>exact z
 | _=>exact absurd (a) Ab4
def W8 (a:M.flat d=k9):M.Gs d=true:=by
 cases d<;>first | rfl | exact absurd (a) Ab4
def ZW (c:Go Z F X E k cf)(R:zg y=k9)(u:xc cf o x=k9) (O:xc cf kx y=k9) (h:xc cf m v=k9):PS X (.Assign [.Subscript x y p] v pos) (b9 Z E (M.exec F (.bu o kx m))):=by
 refine PS.imp (lV (Xc m c h).1 (pH (Xc o c u).1 (Xc kx c O).1 Z6 (rW R)) XT xJ rfl) λD U H l=> ?_
 obtain⟨B,G,Y,h,s,p⟩:=l
 refine qg s p λw v h1 G1 H1 e1 P C f1 J=> ?_
 refine qg P J λow ov T G2 V e2 f Q f2 z=> ?_
 refine qg f z λW iv h3 i N A b K f3 a=> ?_
 unfold M.Kt at a
 split at a
 ·rename_i d r j
  split at a
  ·rename_i e q
   split at a
   ·rename_i n t
    split at a
    ·rename_i g
     obtain⟨h4,I⟩:=(aq.ext A f.st.heap Q)
     subst I
     cases (K)
     have rd:aB Z i N d v:=j2 g C
     obtain⟨_,S,L,rv⟩:=b.st.heap.cell r e q
     refine⟨_,S,j,n,rfl,rfl,L,by rw [← rv.length];exact t,?_⟩
     exact a i U _ (b.cell q (zK e n (b.st.heap.pure r e q) (W8 g)) (ae.set rd n rv))
    ·exact a.elim
   ·exact a.elim
  ·exact a.elim
 ·exact a.elim
def XN (h:JD cf i m e u7=k9): ∃x p apos,e= .Attribute (.Name x p) m apos/\cf.N[i]? =y0 x/\XV cf.sc x=k9/\cS x=k9/\(apos.endLine==u7.line)=true:=by
 refine ig (λx n q h=> ?_) e h
 refine JC (λx p h=> ?_) x h
 obtain⟨h,d,f⟩:=a3 h
 obtain⟨b,a,c⟩:=fv h
 cases of_decide_eq_true d
 exact⟨_,_,_,rfl,b,a,c,f⟩
def Ap (o:Go Z F X E k cf)(J:JD cf i "append" f u7=true) (j:Ja v=true)(h:xc cf m v=true):PS X (.Expr (.Call f [v] [] u7) pos) (b9 Z E (M.exec F (.app i m))):=by
 obtain⟨x,p,t,rfl,n,A,c,O⟩:=XN J
 unfold cS at c
 rw [Ab2]at c
 have pv:=Xu (pos:=p) (by rw [o.N];exact n) (o.eC x A) (by simpa using c.1) (by simpa using c.2)
 refine PS.imp (qN (ml PySem.F.plainAttrs_list PySem.F.slot_list_append PySem.F.type_list_append DV pv (Jc (Xc m o h).1 ji (ja j)) rfl (by rw [ja j];rfl) O (ja j) rfl) (xh rfl)) λD U H z=> ?_
 obtain⟨B,G,Y,h,s,p⟩:=z
 rw [M.exec]at p
 cases q:M.Gm Y i with
 | none=>rw [q]at p;exact p.elim
 | some Q=>
  rw [q]at p
  cases Q with
  | v d=>exact p.elim
  | bor e=>exact p.elim
  | own e=>
   obtain⟨v0,l,a,T,rfl,z2,z3,K,z5⟩:=s.st.slot i _ q
   refine⟨.ref a,l,.inl ⟨rfl,T,a9.of K⟩,?_⟩
   refine qg s p λw v n G1 H1 N R L I b=> ?_
   cases g:w.d with
   | none=>rw [g]at b;exact b.elim
   | some d=>
    rw [g]at b
    obtain⟨C,W,r,rd⟩:=aX.fz s N R L I g
    have b:aT Z E B (if e.length<M.aW then .next _ n else .fail) D:=b
    by_cases u:e.length<M.aW
    ·rw [if_pos u]at b
     obtain⟨V,of,S,P,rs⟩:=Wp r.st q l
     have y:=rs.length
     exact⟨a,S,v,rfl,rfl,P,by have:=Xh;lia,b C U _ (r.write q l (rs.append ⟨v,[],rfl,rd,rfl⟩))⟩
    ·rw [if_neg u]at b;exact b.elim
def BE (e:Go Z F X E k cf)(R:JD cf i "insert" f u7=true) (l:Ja x=true) (o:Ja v=true)(hk:xc cf kx x=true) (h:xc cf m v=true):PS X (.Expr (.Call f [x,v] [] u7) pos) (b9 Z E (M.exec F (.ins i kx m))):=by
 obtain⟨O,p,y,rfl,C,u,c,W⟩:=XN R
 unfold cS at c
 rw [Ab2]at c
 have pv:=Xu (pos:=p) (by rw [e.N];exact C) (e.eC O u) (by simpa using c.1) (by simpa using c.2)
 refine PS.imp (qN (ml PySem.F.plainAttrs_list PySem.F.slot_list_insert PySem.F.type_list_insert AE pv (Jc (Xc kx e hk).1 (Jc (Xc m e h).1 ji (ja o)) (ja l)) rfl (by rw [ja l,ja o];rfl) W (ja l) (by rw [ja o];rfl)) (xh rfl)) λD U H K=> ?_
 obtain⟨B,G,Y,h,s,p⟩:=K
 rw [M.exec]at p
 cases q:M.Gm Y i with
 | none=>rw [q]at p;exact p.elim
 | some w0=>
  rw [q]at p
  cases w0 with
  | v d=>exact p.elim
  | bor g=>exact p.elim
  | own g=>
   obtain⟨v0,r,a,vs,rfl,z2,z3,S,z5⟩:=s.st.slot i _ q
   refine⟨.ref a,r,.inl ⟨rfl,vs,a9.of S⟩,?_⟩
   refine qg s p λkw kv C G1 H1 e1 A T f1 V=> ?_
   refine qg A V λw v u G2 H2 P Q r2 N b=> ?_
   split at b
   ·rename_i j d L
    obtain⟨G3,e3,t,rd⟩:=aX.fz A P Q r2 N L
    by_cases z:g.length<M.aW/\0<=j/\j<=g.length
    ·rw [if_pos z]at b
     cases (T)
     obtain⟨nf,of,I,ha,rs⟩:=Wp t.st q r
     have J:=rs.length
     obtain⟨n,rfl⟩: ∃n:Nat,j= n:=⟨j.toNat,by omega⟩
     have hl:=Xh
     have hl2:=M.Gc
     exact⟨a,I,n,v,rfl,rfl,ha,by omega,by omega,by omega,b G3 U _ (t.write q r ((rs.take n).append ⟨v,I.drop n,rfl,rd,rs.drop n⟩))⟩
    ·rw [if_neg z]at b;exact b.elim
   ·exact b.elim
def Dq (y:Go Z F X E k cf)(L:JD cf i "extend" f u7=true) (o:Ja v=true)(h:xc cf m v=true):PS X (.Expr (.Call f [v] [] u7) pos) (b9 Z E (M.exec F (.ext i m))):=by
 obtain⟨x,p,z,rfl,t,K,g,Q⟩:=XN L
 unfold cS at g
 rw [Ab2]at g
 have pv:=Xu (pos:=p) (by rw [y.N];exact t) (y.eC x K) (by simpa using g.1) (by simpa using g.2)
 refine PS.imp (qN (ml PySem.F.plainAttrs_list PySem.F.slot_list_extend PySem.F.type_list_extend vM pv (Jc (Xc m y h).1 ji (ja o)) rfl (by rw [ja o];rfl) Q (ja o) rfl) (xh rfl)) λD U H J=> ?_
 obtain⟨B,G,Y,h,s,p⟩:=J
 rw [M.exec]at p
 cases q:M.Gm Y i with
 | none=>rw [q]at p;exact p.elim
 | some S=>
  rw [q]at p
  cases S with
  | v d=>exact p.elim
  | bor j=>exact p.elim
  | own j=>
   obtain⟨v0,r,a,W,rfl,z2,z3,N,z5⟩:=s.st.slot i _ q
   refine⟨.ref a,r,.inl ⟨rfl,W,a9.of N⟩,?_⟩
   refine qg s p λw v t T H1 e1 C O f1 c=> ?_
   cases w with
   | v d=>exact c.elim
   | bor n=>exact c.elim
   | own n=>
    obtain⟨b,u,rfl,_,_,P,e⟩:=O
    have c:aT Z E B (if j.length+n.length<M.aW then .next _ t else .fail) D:=c
    by_cases A:j.length+n.length<M.aW
    ·rw [if_pos A]at c
     obtain⟨nf,of,V,R,rs⟩:=Wp C.st q r
     have I:=rs.length
     have l:=e.length
     exact⟨a,b,V,u,rfl,rfl,R,P,by have:=Xh;lia,c T U _ (C.write q r (rs.append e))⟩
    ·rw [if_neg A]at c;exact c.elim
theorem js: ∀ {xs ys},M.Gf xs=k9->M.Gf ys=k9->M.Gf (xs++ys)=k9
 | [],_,_,h=>h
 | x::xs,ys,h,a=>by
  have h:=h
  rw [Ab2]at h
  show(M.Gs x&&M.Gf (xs++ys))=k9
  rw [h.1,js h.2 a];rfl
def wY (a:Go Z F X E k cf)(h1:cf.N[i]? =y0 x) (t:XV cf.sc x=k9) (y:cS x=k9) (j:cf.ob.fl.contains (c,f)=k9) (N:xp v=k9) (h:xc cf m v=k9):PS X (.Assign [.Attribute (.Name x J) (Qg f) p2] v pos) (b9 Z E (M.exec F (.bH i c f m))):=by
 refine PS.imp (CC (XO a h1 t y) (Xc m a h).1 (xh N)) λD U H n=> ?_
 obtain⟨B,G,Y,h,s,p⟩:=n
 refine qg s p λw v h1 l H1 T e C S J=> ?_
 cases w with
 | own _=>exact J.elim
 | bor _=>exact J.elim
 | v d=>
  cases q:M.GK h1 (M.Gm Y i)with
  | none=>rw [q]at J;exact J.elim
  | some o=>
   obtain⟨r,u,fs⟩:=o
   rw [q]at J
   dsimp only at J
   split at J
   ·rename_i A
    obtain⟨rfl,hd,V⟩:=A
    obtain⟨R,g⟩:=xD q
    obtain⟨Q,P,I,W,K,z⟩:=e.st.heap.obj r _ fs g
    obtain⟨L,b,O⟩:=j5 (C) z
    refine⟨_,QB e.st q,l.aL r,Z.ca u,I,_,rfl,K,(a.fld _ _ j).1,(a.fld _ _ j).2,?_,?_⟩
    ·rw [List.length_zip,Ab1];lia
    ·rw [O]
     exact J l U _ (e.ki g (pe hd P) b)
   ·exact J.elim
def A9 (e:Go Z F X E k cf)(h1:cf.N[i]? =y0 x) (g:XV cf.sc x=k9) (c:cS x=k9) (P:zg y=k9)(K:xc cf kx y=k9) (h:xc cf m v=k9):PS X (.Assign [.Subscript (.Name x p) y p2] v pos) (b9 Z E (M.exec F (.dE i kx m))):=by
 unfold cS at c
 rw [Ab2]at c
 have pv:=Xu (pos:=p) (by rw [e.N];exact h1) (e.eC x g) (by simpa using c.1) (by simpa using c.2)
 refine PS.imp (lV (Xc m e h).1 (pH pv (Xc kx e K).1 Z6 (rW P)) XT xJ rfl) λD U H t=> ?_
 obtain⟨B,G,Y,h,s,p⟩:=t
 refine qg s p λw v h1 G1 H1 e1 r I W b=> ?_
 cases q:M.Gm Y i with
 | none=>rw [q]at b;exact b.elim
 | some L=>
  rw [q]at b
  cases L with
  | v d=>exact b.elim
  | bor u=>exact b.elim
  | own u=>
   obtain⟨v0,f,a,vs,rfl,z2,z3,z4,V⟩:=r.st.slot i _ q
   refine⟨.ref a,f,?_⟩
   refine qg r b λQ iv g o z T l N S p2=> ?_
   split at p2
   ·rename_i d j
    split at p2
    ·rename_i C
     split at p2
     ·rename_i n A
      cases (N)
      have rd:aB Z o z d v:=j2 C I
      obtain⟨R,of,O,J,rs⟩:=Wp l.st q f
      refine⟨_,O,j,n,rfl,rfl,J,by rw [← rs.length];exact A,?_⟩
      exact p2 o U _ (l.write q f (ae.set rd n rs))
     ·exact p2.elim
    ·exact p2.elim
   ·exact p2.elim
end
section
variable {Z:Ge}{E:XK}{B:Bs}{G:Gh}{Y:M.Sl}{h:M.AH}{U:St}{H:Hp}{D:gQ}
def AB (b:M.Gm Y i=y0 (.own xs)) (c:U[i]? =y0 (y0 (.ref a))):zl Y U H a=none:=by
 unfold zl
 rw [if_pos ⟨i,xs,b,c⟩]
def X3 (e:zl Y U H a=y0 o):H a=y0 o:=by
 unfold zl at e
 split at e
 ·cases e
 ·exact e
def DY (s:ao Z G Y h U H):aj Z G h (zl Y U H) where
 len:=s.heap.len
 any:=λr c e=>⟨(s.heap.any r c e).1,(s.heap.any r c e).2.mon (zw s) λo z=>by rw [zk λ⟨i,f,d,b⟩=>(Wp s d b).2.1 r (s.heap.lt e) rfl];exact z⟩
 inj:=s.heap.inj
 live:=λa z=>by
  obtain⟨o,q⟩:=s.heap.live a z
  exact⟨o,by rw [zk λ⟨i,f,d,b⟩=>(Wp s d b).1 z];exact q⟩
def m4 (G:Gh) (Y:M.Sl) (h:M.AH) (U:St) (H:Hp):Bs:=⟨G,zl Y U H,h⟩
def qH (s:aX Z B G Y h U H):Ext B.G B.H G (zl Y U H) where
 keep:=λa o e f=>by
  rw [zk λ⟨i,c,d,b⟩=>by rw [s.own i c a d b]at e;cases e]
  exact s.ext.keep a o e f
 le:=s.ext.le
 aL:=s.ext.aL
 new:=s.ext.new
 fz:=s.ext.fz
 old:=s.ext.old
 cells:=λr j z=>by
  obtain⟨o,q⟩:=s.ext.cells r j z
  refine⟨o,?_⟩
  rw [zk λg=>by
   obtain⟨i,c,d,b⟩:=g
   obtain⟨u,z⟩:=z
   rw [s.own i c _ d b]at z
   cases z]
  exact q
def As (s:aX Z B G Y h U H):aX Z (m4 G Y h U H) G Y h U H where
 st:=s.st
 ext:=⟨λa o e _=>X3 e,Aa7 _,λ_ _=>rfl,λr h1 h2=>absurd h1 (Al5.mpr h2),λ_ z=>z,λ_ z=> .inl z,λr hr ⟨o,z⟩=>⟨o,X3 z⟩⟩
 hr:=DY s.st
 own:=λi xs a e1 e2=>AB e1 e2
def wL (s:aX Z B G Y h U H)(b:aX Z (m4 G Y h U H) G2 Y2 h2 U2 H2):aX Z B G2 Y2 h2 U2 H2:=
 ⟨b.st,(qH s).trans s.hr b.ext,s.hr,λi d a c e=>(qH s).none s.hr (b.own i d a c e)⟩
def yS (s:aX Z B G Y h U H)(p:aT Z E B o D):aT Z E (m4 G Y h U H) o D:=by
 cases o with
 | next l j=>exact λc g b i=>p c g b (wL s i)
 | brk l j=>exact λc g b i=>p c g b (wL s i)
 | cont l j=>exact λc g b i=>p c g b (wL s i)
 | ret w j=>
  refine λc v b e k r f=>p c v b ((qH s).trans s.hr e) k r ?_
  cases w with
  | v d=>trivial
  | own q=>obtain⟨a,n,m⟩:=f;exact⟨a,n,(qH s).none s.hr m⟩
  | bor q=>exact f
 | exc d j=>exact λc b e k=>p c b ((qH s).trans s.hr e) k
 | fail=>exact p
end
section
variable {Z:Ge}{F:M.Fx}{X:Cx}{E:XK}{k:Nat}{cf:Cf}
def CL.hide (s:ao Z G Y h U H) (c:CL Z ds l vs G H) (b: ¬ ∃ i xs,M.Gm Y i=y0 (.own xs)/\U[i]? =y0 (y0 (.ref l))):CL Z ds l vs G (zl Y U H):=by
 obtain⟨a,e⟩:=c
 refine⟨?_,e.mon (zw s)⟩
 obtain⟨a,d⟩ | a:=a
 ·refine .inl ⟨?_,d⟩
  obtain a | ⟨o,a⟩:=a
  ·exact .inl (by rw [zk b];exact a)
  ·exact .inr ⟨o,by rw [zk b];exact a⟩
 ·exact .inr a
def CL.gx (s:ao Z G Y h U H) (a:gE Z G H l vs) (b:ae Z G H ds vs):CL Z ds l vs G (zl Y U H):=by
 refine⟨?_,b.mon (zw s)⟩
 obtain a | a:=a
 ·exact(CL.hide s ⟨.inl ⟨a.2,s.heap.off a.1⟩,b⟩ λ⟨j,e,d,c⟩=>(Wp s d c).1 a.1).1
 ·exact .inr a
def CT.hide (s:ao Z G Y h U H) (c:CT Z ds l vs G H):CT Z ds l vs G (zl Y U H):=⟨c.1.mon (zw s),c.2.mon (zw s)⟩
def jH (h:M.GE a=y0 i):a= .var i:=by
 cases a<;>first | (cases h;rfl) | cases h
def B5 (h:xc cf (.var i) e=k9): ∃x p,e= .Name x p/\cf.N[i]? =y0 x/\XV cf.sc x=k9/\cS x=true:=by
 refine JC (λx p h=> ?_) e h
 exact⟨_,_,rfl,fv h⟩
def lG (b:Go Z F X E k cf)(h:xc cf (.var i) e=k9):PE X e (kL i):=by
 obtain⟨x,p,rfl,d,c,a⟩:=B5 h
 unfold cS at a
 rw [Ab2]at a
 exact Xu (by rw [b.N];exact d) (b.eC x c) (by simpa using a.1) (by simpa using a.2)
def jF (s:ao Z G Y h U H)(e:M.Gm Y i=y0 w) (o:w= .v (.lst xs)\/w= .bor xs):
 ∃l vs,U[i]? =y0 (y0 (.ref l))/\CL Z xs l vs G H/\CL Z xs l vs G (zl Y U H):=by
 obtain⟨v,d,r⟩:=s.slot i w e
 obtain rfl | rfl:=o
 ·obtain⟨l,vs,rfl,a,b⟩:=r
  exact⟨l,vs,d,⟨a.kN s.heap,b⟩,CL.gx s a b⟩
 ·obtain⟨l,vs,rfl,a,b,n⟩:=r
  have c:CL Z xs l vs G H:=⟨.inl ⟨b,a⟩,n⟩
  refine⟨l,vs,d,c,c.hide s λ⟨j,k,f,m⟩=> ?_⟩
  have g:j≠i:=λz=>by rw [z,e]at f;cases f
  exact s.apart j i k _ l g f e rfl m d
def jC (p:ao Z G0 Y h0 U H0) (s:ao Z G Y h U H)(r:aq Z G H w v) (f:aD Y U H0 w v) (m:w= .v (.lst xs)\/w= .own xs):
 ∃l vs,v= .ref l/\CL Z xs l vs G H/\CL Z xs l vs G (zl Y U H):=by
 obtain rfl | rfl:=m
 ·obtain⟨l,vs,rfl,b,a⟩:=r
  exact⟨l,vs,rfl,⟨b.kN s.heap,a⟩,CL.gx s b a⟩
 ·obtain⟨l,vs,rfl,b,a,k,e⟩:=r
  obtain⟨t,g,n⟩:=f
  cases g
  have c:CL Z xs l vs G H:=⟨.inl ⟨.inl k,a⟩,e⟩
  refine⟨l,vs,rfl,c,c.hide s λ⟨j,q,i,d⟩=> ?_⟩
  obtain⟨o,z⟩:=p.cm i rfl d
  rw [n]at z;cases z
def vZ (j:Go Z F X E k cf)(Q:xc cf a e=k9):PI X tg e (eh Z E k9 (M.GC F (.seq a))):=by
 cases q:M.GE a with
 | some i=>
  cases jH q
  refine PI.imp (mT (lG j Q)) λU H R I=> ?_
  obtain⟨G,Y,h,s,p⟩:=I
  have p:ak Z E G H (M.R.of h _) λx _ o g=> ∀J C,Wt Z J x C->C o g->(k9=k9->C o _)->R J g:=p
  cases y:M.Gm Y i with
  | none=>rw [y]at p;exact p.elim
  | some w=>
   rw [y]at p
   have lst: ∀ {b},_->ak Z E G H (.ok b h) (λx _ o g=> ∀J C,Wt Z J x C->C o g->(k9=k9->C o (zl Y U g))->R J g) →
    ∃v,U[i]? =y0 (y0 v)/\((∃ a,v= .ref a/\(∃ b,a9 X.K H a b)/\R (kr X.K a) H)\/(∃ a,v= .ref a/\(∃ b,b8 X.K H a b)/\R (hJ X.K a) H)\/ ∃z,v= .str z/\R (gR z) H):=λ{b} K p=>by
    obtain⟨l,n,t,u,P⟩:=jF s y K
    exact⟨_,t,.inl ⟨l,rfl,⟨n,j.K▸u.1.sq⟩,p G H Ext.refl s.heap _ _ (CL.walk j.K) u λ_=>P⟩⟩
   cases w with
   | v d=>
    cases d with
    | lst b=>exact lst (.inl rfl) p
    | tup b=>
     obtain⟨v,t,l,n,rfl,A,O⟩:=s.slot i _ y
     have c:CT Z b l n G H:=⟨A,O⟩
     exact⟨_,t,.inr (.inl ⟨l,rfl,⟨n,j.K▸A.sq⟩,p G H Ext.refl s.heap _ _ (CT.walk j.K) c λ_=>c.hide s⟩)⟩
    | az=>exact p.elim
    | bl _=>exact p.elim
    | int _=>exact p.elim
    | str z=>
     obtain⟨v,t,r⟩:=s.slot i _ y
     cases (show v= .str (aw z)from r)
     exact⟨_,t,.inr (.inr ⟨_,rfl,p G H Ext.refl s.heap _ _ ZC trivial λ_=>trivial⟩)⟩
    | ref _=>exact p.elim
    | exc _ _=>exact p.elim
    | err _ _ _=>exact p.elim
   | bor b=>exact lst (.inr rfl) p
   | own b=>exact p.elim
 | none=>
  refine PI.imp (mT (Xc a j Q).1) λU H R I=> ?_
  obtain⟨G,Y,h,s,p⟩:=I
  have p:=by
   unfold M.GC at p
   dsimp only at p
   rw [q]at p
   exact p
  refine Wa s.heap Ext.refl s p λT v1 V D m N W B L S f=> ?_
  have lst: ∀ {b},_->ak Z E G H (.ok b V) (λx _ o g=> ∀J C,Wt Z J x C->C o g->(k9=k9->C o (zl Y U g))->R J g) →
   ((∃ a,v1= .ref a/\(∃ b,a9 X.K m a b)/\R _ m)\/(∃ a,v1= .ref a/\(∃ b,b8 X.K m a b)/\R (hJ X.K a) m)\/ ∃z,v1= .str z/\R (gR z) m):=λ{b} K p=>by
   obtain⟨l,n,t,u,P⟩:=jC s B L S K
   exact .inl ⟨l,t,⟨n,j.K▸u.1.sq⟩,p D m N B.heap _ _ (CL.walk j.K) u λ_=>P⟩
  cases T with
  | v d=>
   cases d with
   | lst b=>exact lst (.inl rfl) f
   | tup b=>
    obtain⟨l,n,rfl,A,O⟩:=L
    have c:CT Z b l n D m:=⟨A,O⟩
    exact .inr (.inl ⟨l,rfl,⟨n,j.K▸A.sq⟩,f D m N B.heap _ _ (CT.walk j.K) c λ_=>c.hide B⟩)
   | az=>exact f.elim
   | bl _=>exact f.elim
   | int _=>exact f.elim
   | str z=>
    cases (show v1= .str (aw z)from L)
    exact .inr (.inr ⟨_,rfl,f D m N B.heap _ _ ZC trivial λ_=>trivial⟩)
   | ref _=>exact f.elim
   | exc _ _=>exact f.elim
   | err _ _ _=>exact f.elim
  | own b=>exact lst (.inr rfl) f
  | bor b=>exact f.elim
def BA (f:Go Z F X E k cf)(Q:bF cf.sc "reversed" g=true) (o:Ja x=true) (K:xc cf a x=true):PI X tg (.Call g [x] [] pos) (eh Z E true (M.GC F (.rev a))):=by
 obtain⟨p0,rfl,I,W⟩:=Jb Q
 cases q:M.GE a with
 | some i=>
  cases jH q
  refine PI.imp (nG (f.gl _ I) (f.blt _ nq) (Jc (lG f K) ji (ja o)) (ja o)) λU H R r=> ?_
  obtain⟨G,Y,h,s,p⟩:=r
  have p:ak Z E G H (M.R.of h _) λn _ j e=> ∀J C,Wt Z J n C->C j e->(k9=k9->C j _)->R J e:=p
  cases u:M.Gm Y i with
  | none=>rw [u]at p;exact p.elim
  | some w=>
   rw [u]at p
   have lst: ∀ {b},(w= .v _\/w= .bor b)->ak Z E G H (.ok b.reverse h) (λn _ j e=> ∀J C,Wt Z J n C->C j e->(k9=k9->C j (zl Y U e))->R J e) →
    ∃v,U[i]? =y0 (y0 v)/\ ∃a b,[v]= [.ref a]/\a9 X.K H a b/\R (lP X.K a b.length) H:=λ{b} y p=>by
    obtain⟨l,D,t,m,A⟩:=jF s u y
    exact⟨_,t,l,D,rfl,f.K▸m.1.sq,p G H Ext.refl s.heap _ _ (CL.eN f.K) m λ_=>A⟩
   cases w with
   | v d=>
    cases d with
    | lst b=>exact lst (.inl rfl) p
    | tup _=>exact p.elim
    | az=>exact p.elim
    | bl _=>exact p.elim
    | int _=>exact p.elim
    | str _=>exact p.elim
    | ref _=>exact p.elim
    | exc _ _=>exact p.elim
    | err _ _ _=>exact p.elim
   | bor b=>exact lst (.inr rfl) p
   | own b=>exact p.elim
 | none=>
  refine PI.imp (nG (f.gl _ I) (f.blt _ nq) (Jc (Xc a f K).1 ji (ja o)) (ja o)) λU H R r=> ?_
  obtain⟨G,Y,h,s,p⟩:=r
  have p:=by
   unfold M.GC at p
   dsimp only at p
   rw [q]at p
   exact p
  refine Wa s.heap Ext.refl s p λz v1 T S B P V L O N c=> ?_
  have lst: ∀ {b},(z= .v _\/z= .own b)->ak Z E G H (.ok b.reverse T) (λn _ j e=> ∀J C,Wt Z J n C->C j e->(k9=k9->C j (zl Y U e))->R J e) →
   ∃a b,[v1]= [.ref a]/\a9 X.K B a b/\R _ B:=λ{b} y p=>by
   obtain⟨l,D,t,m,A⟩:=jC s L O N y
   exact⟨l,D,by rw [t],f.K▸m.1.sq,p S B P L.heap _ _ (CL.eN f.K) m λ_=>A⟩
  cases z with
  | v d=>
   cases d with
   | lst b=>exact lst (.inl rfl) c
   | tup _=>exact c.elim
   | az=>exact c.elim
   | bl _=>exact c.elim
   | int _=>exact c.elim
   | str _=>exact c.elim
   | ref _=>exact c.elim
   | exc _ _=>exact c.elim
   | err _ _ _=>exact c.elim
  | own b=>exact lst (.inr rfl) c
  | bor b=>exact c.elim
theorem wA: ∀(ds) (i),(M.GN i ds).length=ds.length
 | [],_=>rfl
 | d::ds,i=>congrArg (· +1) (wA ds (i+1))
theorem ZZ: ∀(ds) (j i) (h:i<ds.length),(M.GN j ds)[i]? =y0 (.tup [.int ((j+i:Nat):Int),ds[i]])
 | d::ds,j,0,_=>rfl
 | d::ds,j,i+1,h=>by
  have:=ZZ ds (j+1) i (by simpa using h)
  rw [show j+1+i=j+(i+1)by omega]at this
  simpa [M.GN]using this
def oh: "enumerate" ∈bW:=by decide
def CL.gb {l:Addr}{vs:List V}{K:Aa6}(j:K=Z.K):Wt Z (mi K l) (M.GN 0 ds) (CL Z ds l vs) where
 go:=by
  rintro i G H ⟨d,c⟩ b
  rw [wA]at b
  obtain⟨v,e,_⟩:=c.get (Ab b)
  exact⟨vs,v,j▸d.sq,e⟩
 eu:=by
  rintro i G H x n ⟨d,c⟩ b ⟨p,y,f,ex,r,t⟩
  rw [wA]at b
  subst ex r
  obtain⟨v,e,rd⟩:=c.get (Ab b)
  have:=t vs (j▸d.sq)
  rw [e]at this
  cases this
  refine⟨G.more p,QA _ f,λh g=>g.kf _ f,.tup [.int i,ds[i]],by rw [ZZ ds 0 i b,Nat.zero_add],⟨p,[.int i,y],rfl,.inl ⟨.inr rfl,We⟩,⟨.int i,[y],rfl,rfl,⟨y,[],rfl,?_,rfl⟩⟩⟩⟩
  have m:Mon G H (G.more p) (aP H p (.tup [.int i,y])):=⟨λa o u q=>by rw [Xa (jb q f)];exact q,Aa7 _,λ_ _=>rfl,λ_ z=>Or.inl z⟩
  exact rd.mon m
 stop:=by
  rintro i G H ⟨d,c⟩ s k
  rw [wA]at s k
  exact⟨vs,j▸d.sq,by rw [← c.length];omega⟩
 keep:=λG H w n h z e g=>z.keep e g
def Ax (b:Go Z F X E k cf)(t:bF cf.sc "enumerate" g=true) (d:Ja x=true) (n:xc cf (.var i) x=true):PI X (.Tuple elts x1 tp) (.Call g [x] [] pos) (eh Z E true (M.GC F (.bN i))):=by
 obtain⟨z,rfl,j,y⟩:=Jb t
 refine PI.imp (Z3 (b.gl _ j) (b.blt _ oh) (Jc (lG b n) ji (ja d)) (ja d)) λU H R f=> ?_
 obtain⟨G,Y,h,s,p⟩:=f
 have p:=p
 obtain⟨e,q,p⟩:=p.of
 obtain⟨w,o,a⟩:=Ac7.mp q
 have r:w= .v (.lst e)\/w= .bor e:=by
  unfold M.kW at a
  split at a
  ·cases a;exact .inl rfl
  ·cases a;exact .inr rfl
  ·cases a
 obtain⟨l,v,m,c,u⟩:=jF s o r
 exact⟨_,m,l,v,rfl,b.K▸c.1.sq,p G H Ext.refl s.heap _ _ (CL.gb b.K) c λ_=>u⟩
def W6 (b:Go Z F X E k cf)(y:bF cf.sc "enumerate" g=true) (e:Ja x=true) (r:xc cf a x=true):PI X (.Tuple elts x1 tp) (.Call g [x] [] pos) (eh Z E true (M.GC F (.bY a))):=by
 obtain⟨K,rfl,n,I⟩:=Jb y
 refine PI.imp (Z3 (b.gl _ n) (b.blt _ oh) (Jc (Xc a b r).1 ji (ja e)) (ja e)) λU H R m=> ?_
 obtain⟨G,Y,h,s,p⟩:=m
 have p:=p
 refine Wa s.heap Ext.refl s p λf v1 J A C w z i v t c=> ?_
 obtain⟨j,q,c⟩:=c.of
 have u:f= .v (.lst j)\/f= .own j:=by
  unfold M.mq at q
  split at q
  ·cases q;exact .inl rfl
  ·cases q;exact .inr rfl
  ·cases q
 obtain⟨l,D,o,d,B⟩:=jC s i v t u
 subst o
 exact⟨l,D,rfl,b.K▸d.1.sq,c A C w i.heap _ _ (CL.gb b.K) d λ_=>B⟩
def Dt (j:Go Z F X E k cf)(n:mv it tg=k9) (h:m7 cf it e=k9):PI X tg e (eh Z E k9 (M.GC F it))/\jh e=true:=by
 cases it with
 | seq a=>exact⟨vZ j (a2 h).2,(a2 h).1⟩
 | aS a=>
  refine Qj (λg x l p h=> ?_) e h
  refine kE (λh=> ?_) l h
  refine kC (λx r h=> ?_) x h
  refine kE (λh=> ?_) r h
  obtain⟨f,c,d⟩:=a3 h
  exact⟨jG j f c (Xc a j d).1,rfl⟩
 | bz a b=>
  refine Qj (λg x l p h=> ?_) e h
  refine kE (λh=> ?_) l h
  refine kC (λx r h=> ?_) x h
  refine kC (λy r h=> ?_) r h
  refine kE (λh=> ?_) r h
  obtain⟨f,c,d,s,q⟩:=a5 h
  exact⟨xF j f c d (Xc a j s).1 (Xc b j q).1,rfl⟩
 | rev a=>
  refine Qj (λg x l p h=> ?_) e h
  refine kE (λh=> ?_) l h
  refine kC (λx r h=> ?_) x h
  refine kE (λh=> ?_) r h
  obtain⟨f,c,d⟩:=a3 h
  exact⟨BA j f c d,rfl⟩
 | zip _ _=>exact bw h
 | bY a=>
  cases tg with
  | Tuple m o t=>
   refine Qj (λg x l p h=> ?_) e h
   refine kE (λh=> ?_) l h
   refine kC (λx r h=> ?_) x h
   refine kE (λh=> ?_) r h
   obtain⟨f,c,d⟩:=a3 h
   exact⟨W6 j f c d,rfl⟩
  | _=>exact bw n
 | bN i=>
  cases tg with
  | Tuple m o t=>
   refine Qj (λg x l p h=> ?_) e h
   refine kE (λh=> ?_) l h
   refine kC (λx r h=> ?_) x h
   refine kE (λh=> ?_) r h
   obtain⟨f,c,d⟩:=a3 h
   exact⟨Ax j f c d,rfl⟩
  | _=>exact bw n
 | enum _=>exact bw h
end
section
variable {Z:Ge}{G G0:Gh}{H H0:Hp}{h:M.AH}
def Gh.cut (G:Gh) (n:Nat):Gh:= { G with n:=n }
mutual
theorem aB.cut (n:Nat): ∀ {d:M.D}{v:V},M.Gs d=k9->aB Z G H d v->aB Z (G.cut n) H d v
 | .az,_,_,z=>z
 | .bl _,_,_,z=>z
 | .int _,_,_,z=>z
 | .str _,_,_,z=>z
 | .tup _,_,q,⟨a,vs,z1,z2,z3⟩=>⟨a,vs,z1,z2,ae.ez n (by simpa [M.Gs]using q) z3⟩
 | .lst _,_,q,⟨a,vs,z1,z2,z3⟩=>⟨a,vs,z1,z2,ae.ez n (by simpa [M.Gs]using q) z3⟩
 | .ref r,_,q,_=>by simp [M.Gs]at q
 | .exc c fs,_,q,z=>by simp [M.Gs]at q
 | .err c f d,_,q,z=>by simp [M.Gs]at q
theorem ae.ez (n:Nat): ∀ {ds:List M.D}{vs:List V},M.Gf ds=k9->ae Z G H ds vs->ae Z (G.cut n) H ds vs
 | [],_,_,z=>z
 | d::ds,_,q,⟨v,r,z1,z2,z3⟩=>by
  have q':M.Gs d=k9/\M.Gf ds=true:=by simpa [M.Gf]using q
  exact⟨v,r,z1,aB.cut n q'.1 z2,ae.ez n q'.2 z3⟩
end
theorem wN: ∀l:List Int,M.Gf (l.map M.D.int)=k9
 | []=>rfl
 | _::l=>wN l
def B2 (k):M.Gs (tF k)=true:=by
 show(k9&&(M.Gf _&&(M.Gf _&&k9)))=k9
 rw [wN,wN];rfl
theorem aj.cut (r:aj Z G h H)(g:n<=G.n):aj Z (G.cut n) (h.take n) H where
 len:=by rw [Ae9,r.len];exact Nat.min_eq_left g
 any:=λi c e=>by
  have m:i<n:=by
   have:=(Ac2.mp e).1
   rw [Ae9]at this
   omega
  rw [List.getElem?_take_of_lt m]at e
  obtain⟨t,f⟩:=r.any i c e
  refine⟨t,?_⟩
  cases c with
  | lst k=>obtain⟨b,w,d,a⟩:=f;exact⟨b,w,d,ae.ez n b a⟩
  | gF s=>obtain⟨k,d,a,o⟩:=f;exact⟨k,d,a,λx p=>aB.cut n (B2 x.1) (o x p)⟩
  | gZ s=>exact f
  | obj c fs=>obtain⟨b,q,v,d,a⟩:=f;exact⟨b,q,v,d,ae.ez n b a⟩
 inj:=λi j u l e=>r.inj i j (Ab5 u g) (Ab5 l g) e
 live:=r.live
theorem Ext.cut (e:Ext G0 H0 G H):Ext G0 H0 (G.cut G0.n) H:=⟨e.keep,Aa7 _,e.aL,λr b a=>absurd b (Al5.mpr a),e.fz,e.old,e.cells⟩
theorem aq.cut (n) (g:n<=G.n)(q:w.keep=k9) (f: ∀xs,w≠ .bor xs) (z:aq Z G H w v):aq Z (G.cut n) H w v:=by
 cases w with
 | v d=>exact aB.cut n q z
 | own xs=>
  obtain⟨a,c,e,i,j,k,h⟩:=z
  exact⟨a,c,e,i,λr b=>j r (Ab5 b g),k,ae.ez n q h⟩
 | bor xs=>exact absurd rfl (f xs)
end
section
variable {Z:Ge}{F:M.Fx}{X:Cx}{E:XK}{k:Nat}{cf:Cf}
def Hd (f:Go Z F X E k cf)(c:xp v=k9)(h:xc cf m v=k9):PS X (.Expr v pos) (b9 Z E (M.exec F (.ex m))):=by
 refine PS.imp (qN (Xc m f h).1 (xh c)) λD U H a=> ?_
 obtain⟨B,G,Y,h,s,p⟩:=a
 exact qg s p λw v n d g l e j i b=>b d U g e
def F1 (s:aX Z B G Y h U H)(f:aD Y U H w v) (c: ∀xs,w≠ .bor xs):aD [] [] B.H w v:=by
 cases w with
 | v d=>trivial
 | own xs=>obtain⟨a,b,e⟩:=f;exact⟨a,b,s.ext.none s.hr e⟩
 | bor xs=>exact absurd rfl (c xs)
def Q0 (o:Go Z F X E k cf)(h:xc cf m v=k9):PS X (.Return (y0 v) pos) (b9 Z E (M.exec F (.ret m))):=by
 cases q:M.GE m with
 | some i=>
  cases jH q
  refine PS.imp (r4 (lG o h)) λD U H f=> ?_
  obtain⟨B,G,Y,h,s,p⟩:=f
  rw [M.exec,q]at p
  dsimp only at p
  cases c:M.Gm Y i with
  | none=>rw [c]at p;exact p.elim
  | some w=>
   rw [c]at p
   obtain⟨v,j,r⟩:=s.st.slot i w c
   refine⟨v,j,?_⟩
   cases w with
   | bor b=>exact p.elim
   | v d=>exact p G v H s.ext s.st.heap r trivial
   | own b=>
    have x:=r
    obtain⟨a,C,rfl,_⟩:=x
    exact p G _ H s.ext s.st.heap r ⟨a,rfl,s.own i b a c j⟩
 | none=>
  refine PS.imp (r4 (Xc m o h).1) λD U H f=> ?_
  obtain⟨B,G,Y,h,s,p⟩:=f
  have p:aT Z E B ((M.eval F m Y h).cF λw h=>match w with
   | .bor _=> .fail
   | w=> .ret w h) D:=by
   rw [M.exec,q]at p;exact p
  refine qg s p λw v A n t y e l u g=> ?_
  cases w with
  | bor b=>exact g.elim
  | v d=>exact g n v t e.ext e.st.heap l trivial
  | own b=>exact g n v t e.ext e.st.heap l (F1 s u λb z=>by cases z)
def Ba (j:PT X x (cW Z E (M.Gr F c))) (l:cv X ys (b9 Z E (M.execs F a))) (k:cv X zs (b9 Z E (M.execs F b))):PS X (.If x ys zs pos) (b9 Z E (M.exec F (.iff c a b))):=by
 refine PS.imp (yE j l k) λD U H i=> ?_
 obtain⟨B,G,Y,h,s,p⟩:=i
 refine J2 s p λt g e n m f d=> ?_
 cases t with
 | true=>exact mx ⟨B,e,Y,g,f,d⟩
 | false=>exact mB ⟨B,e,Y,g,f,d⟩
def q9 {st:Stmt}(h1:PS X st (b9 Z E (M.exec F s))) (e:cv X sts (b9 Z E (M.execs F ss))):cv X (st::sts) (b9 Z E (M.execs F (.cons s ss))):=by
 refine cv.imp (DR h1 e) λD U H c=> ?_
 obtain⟨B,G,Y,h,g,p⟩:=c
 rw [M.execs]at p
 refine⟨B,G,Y,h,g,?_⟩
 cases q:M.exec F s Y h with
 | next b a=>rw [q]at p;exact λi j k f=>⟨B,i,b,a,f,p⟩
 | ret w a=>rw [q]at p;exact p
 | brk b a=>rw [q]at p;exact p
 | cont b a=>rw [q]at p;exact p
 | exc d a=>rw [q]at p;exact p
 | fail=>rw [q]at p;exact p
def Eh:cv X [] (b9 Z E (M.execs F .nil)):=cv.imp Bm λD U H ⟨B,G,Y,h,s,p⟩=>p G U H s
def qQ (c:cv X sts (b9 Z E (M.execs F ss))):cv X sts (b9 Z E (M.execs F (.cons (.freeze i) ss))):=by
 refine cv.imp c λD U H a=> ?_
 obtain⟨B,G,Y,h,s,p⟩:=a
 rw [M.execs,M.exec]at p
 cases q:M.Gm Y i with
 | none=>rw [q]at p;exact⟨B,G,Y,h,s,p⟩
 | some w=>
  rw [q]at p
  cases w with
  | v d=>exact⟨B,G,Y,h,s,p⟩
  | bor e=>exact⟨B,G,Y,h,s,p⟩
  | own e=>
   obtain⟨b,f⟩:=s.freeze q
   exact⟨B,b,_,h,f,p⟩
def D8 (J:kg Z F X E k cf)(C:PT X x (cW Z E (M.Gr F c))) (I:cv X ys (b9 Z E (M.execs F b))):PS X (.While x ys [] pos) (b9 Z E (M.exec F (.fj n c b))):=by
 refine PS.imp (DS J.gJ C I) λD U H A=> ?_
 obtain⟨B,G,Y,h,s,p⟩:=A
 refine⟨λm U H=> ∃G Y h,aX Z B G Y h U H/\aT Z E B (M.GH (λY h=>M.Gr F c Y h) (λY h=>M.execs F b Y h) m Y h) D,⟨n,G,Y,h,s,p⟩,?_⟩
 rintro m U H ⟨G,Y,h,s,p⟩
 cases m with
 | zero=>exact p.elim
 | succ m=>
  refine J2 s p λt r y K L z a=> ?_
  cases t with
  | false=>exact mB (a y U K z)
  | true=>
   refine mx ⟨_,λu v w=>⟨m,Af1 _,w⟩,B,y,Y,r,z,?_⟩
   have a:aT Z E B (match M.execs F b Y r with
    | .next f g=>M.GH (λY h=>M.Gr F c Y h) (λY h=>M.execs F b Y h) m f g
    | .cont f g=>M.GH (λY h=>M.Gr F c Y h) (λY h=>M.execs F b Y h) m f g
    | .brk f g=> .next f g
    | o=>o) D:=a
   cases q:M.execs F b Y r with
   | next i e=>rw [q]at a;exact λl u v j=>⟨l,i,e,j,a⟩
   | cont i e=>rw [q]at a;exact λl u v j=>⟨l,i,e,j,a⟩
   | ret w e=>rw [q]at a;exact a
   | brk i e=>rw [q]at a;exact a
   | exc d e=>rw [q]at a;exact a
   | fail=>rw [q]at a;exact a
def AG (z:kg Z F X E k cf)(he:mv it t=k9) (ht:Xf cf tg one t=k9) (hi:m7 cf it iter=k9) (hb:cv X ys (b9 Z E (M.execs F b))):
 PS X (.For t iter ys [] pos) (b9 Z E (M.exec F (.for tg one it b))):=by
 obtain⟨li,ls⟩:=Dt z.toGo he hi
 refine PS.imp (DG z.gJ z.calm li (Qw z.toGo ht) hb (WW ls)) λD U H qq=> ?_
 obtain⟨B,G,Y,h,s,p⟩:=qq
 rw [M.exec]at p
 refine⟨G,Y,h,s.st,?_⟩
 cases q:M.GC F it Y h with
 | exc d h1=>rw [q]at p;exact aT.exc s p
 | fail=>rw [q]at p;exact p
 | ok j h1=>
  rw [q]at p
  intro G1 H1 e hr J C v c0 I
  have W:=s.on e hr
  have p1:=yS W p
  have cB:=I rfl
  have s2:=As W
  refine⟨λi m L r=> ∃u y n,(m=j.length-i/\i<=j.length)/\aX Z _ u y n L r/\aT Z E _ (M.GB _ (λY h=>M.execs F b Y h) (j.drop i) y n) D,
   ⟨j.length,G1,Y,h1,⟨by simp,Ae8 _⟩,s2,p1⟩,?_⟩
  rintro i m L r ⟨u,y,n,⟨rfl,hi'⟩,l,a⟩
  have K:=v.keep _ _ _ _ _ cB l.ext l.hr
  by_cases g:i<j.length
  ·refine .inr ⟨v.go i u r K g,_,λU2 H2 w=>⟨j.length-(i+1),by omega,w⟩,λx P hy=> ?_⟩
   obtain⟨G4,x4,Q,d,V,O⟩:=v.eu i u r x P K g hy
   have l:=l.on x4 (Q _ l.st.heap)
   have N:j.drop i=d::j.drop (i+1):=by
    rw [Ah0 g]
    rw [Ab g]at V
    cases V
    rfl
   rw [N,M.GB]at a
   cases R:M.Gz tg one d y with
   | none=>rw [R]at a;exact a.elim
   | some S=>
    rw [R]at a
    refine tW R O l λU2 s3=>⟨_,G4,S,n,s3,?_⟩
    have a:aT Z E _ (match M.execs F b S n with
     | .next f c=>M.GB _ (λY h=>M.execs F b Y h) _ f c
     | .cont f c=>M.GB _ (λY h=>M.execs F b Y h) _ f c
     | .brk f c=> .next f c
     | o=>o) D:=a
    cases q:M.execs F b S n with
    | next f c=>rw [q]at a;exact λT U3 H3 A=>⟨T,f,c,⟨rfl,by omega⟩,A,a⟩
    | cont f c=>rw [q]at a;exact λT U3 H3 A=>⟨T,f,c,⟨rfl,by omega⟩,A,a⟩
    | ret w c=>rw [q]at a;exact a
    | brk f c=>rw [q]at a;exact a
    | exc d c=>rw [q]at a;exact a
    | fail=>rw [q]at a;exact a
  ·have ei:i=j.length:=by lia
   subst ei
   rw [Al8]at a
   exact .inl ⟨v.stop _ u r K (Aa7 _) (Aa7 _),a u L r l⟩
theorem Go.ik (a:Go Z F X E k cf):Go Z F X.ik E0 k cf:=⟨a.N,a.K,a.cl,a.ow,a.nd,a.eC,a.mU,a.hA,a.i9,a.gl,a.calm,a.room,a.dC,λb U H s e r _ i=>by
 obtain⟨x,u,t,B,q,_,_,_,_,_,_,_,_,_,_,l⟩:=i
 exact l.elim,a.blt,a.con,λf j=>by
 obtain⟨c,n,m,p,d,g,o⟩:=(a.fn f j).imp λc h=>h.ex
 exact⟨c,⟨n,m,p,d,g,o⟩⟩,a.cls,a.fld,a.gi,a.dY⟩
theorem PS.ik {st:Stmt}(h:PS X.ik st t):PS X st t:=λa s U H D I q=>wpAny_mono (h a s U H D (I.cY _) q) (λ_ _ z=>SP.bQ z) λ_ _ z=>False.elim z
def Cd (c:kg Z F X E k cf)(h:xc cf m v=k9):PS X (.Try [.Return (y0 v) rp] (e::hs) [] [] pos) (b9 Z E (M.exec F (.dX (.ret m)))):=by
 refine PS.ik (PS.imp (En (λ_ _ z=>z) (Q0 c.toGo.ik h)) λD U H ⟨B,G,Y,h,s,p⟩=>⟨B,G,Y,h,s,?_⟩)
 rw [show M.exec F (.dX (.ret m)) Y h=M.rD (M.exec F (.ret m) Y h)from rfl]at p
 cases q:M.exec F (.ret m) Y h with
 | exc d a=>rw [q]at p;exact p.elim
 | fail=>rw [q]at p;exact p.elim
 | next b a=>rw [q]at p;exact p
 | ret w a=>rw [q]at p;exact p
 | brk b a=>rw [q]at p;exact p
 | cont b a=>rw [q]at p;exact p
end
section
variable {Z:Ge}{F:M.Fx}{k:Nat}{X:Cx}{E:XK}{cf:Cf}
mutual
theorem vS (go:kg Z F X E k cf): ∀(m:M.S){st:Stmt},nS cf m st=k9->PS X st (b9 Z E (M.exec F m))
 | .set i e,st,h=>by
  refine iu (λts v p h=> ?_) st h
  refine kC (λt r h=> ?_) ts h
  refine JC (λx p1 h=> ?_) t h
  refine kE (λh=> ?_) r h
  exact Ea go.toGo (a2 h).1 (a2 h).2
 | .af i e,st,h=>by
  refine iu (λts v p h=> ?_) st h
  refine kC (λt r h=> ?_) ts h
  refine JC (λx p1 h=> ?_) t h
  refine kE (λh=> ?_) r h
  exact A1 go.toGo (a2 h).1 (a2 h).2
 | .fK is e,st,h=>by
  refine iu (λts v p h=> ?_) st h
  refine kC (λt r h=> ?_) ts h
  refine pU (λx n p1 h=> ?_) t h
  refine kE (λh=> ?_) r h
  obtain⟨h1,h2,h3⟩:=a3 h
  exact yI go.toGo h1 h2 h3
 | .dE i kx e,st,h=>by
  refine iu (λts v p h=> ?_) st h
  refine kC (λt r h=> ?_) ts h
  refine fU (λx y p1 h=> ?_) t h
  refine JC (λx p2 h=> ?_) x h
  refine kE (λh=> ?_) r h
  obtain⟨h0,h4,_,h5,h6,h7⟩:=a6 h
  obtain⟨h1,h2,h3⟩:=fv h0
  exact A9 go.toGo h1 h2 h3 h4 h6 h7
 | .bu o kx e,st,h=>by
  refine iu (λts v p h=> ?_) st h
  refine kC (λt r h=> ?_) ts h
  refine fU (λx y p1 h=> ?_) t h
  refine kE (λh=> ?_) r h
  obtain⟨h1,_,_,h4,h5,h6⟩:=a6 h
  exact ZW go.toGo h1 h4 h5 h6
 | .app i e,st,h=>by
  refine lB (λc p h=> ?_) st h
  refine Qj (λf x l q h=> ?_) c h
  refine kE (λh=> ?_) l h
  refine kC (λv r h=> ?_) x h
  refine kE (λh=> ?_) r h
  obtain⟨h1,h2,h3⟩:=a3 h
  exact Ap go.toGo h1 h2 h3
 | .ext i e,st,h=>by
  refine lB (λc p h=> ?_) st h
  refine Qj (λf x l q h=> ?_) c h
  refine kE (λh=> ?_) l h
  refine kC (λv r h=> ?_) x h
  refine kE (λh=> ?_) r h
  obtain⟨h1,h2,h3⟩:=a3 h
  exact Dq go.toGo h1 h2 h3
 | .ins i kx e,st,h=>by
  refine lB (λc p h=> ?_) st h
  refine Qj (λf x l q h=> ?_) c h
  refine kE (λh=> ?_) l h
  refine kC (λx r h=> ?_) x h
  refine kC (λv r h=> ?_) r h
  refine kE (λh=> ?_) r h
  obtain⟨h1,h2,h3,h4,h5⟩:=a5 h
  exact BE go.toGo h1 h2 h3 h4 h5
 | .bH i c f e,st,h=>by
  refine iu (λts v p h=> ?_) st h
  refine kC (λt r h=> ?_) ts h
  refine ig (λx n p1 h=> ?_) t h
  refine JC (λx p2 h=> ?_) x h
  refine kE (λh=> ?_) r h
  obtain⟨h0,hn,h4,_,h5,h6⟩:=a6 h
  obtain⟨h1,h2,h3⟩:=fv h0
  cases of_decide_eq_true hn
  exact wY go.toGo h1 h2 h3 h4 h5 h6
 | .bC,st,h=>λy8 s U H D I ⟨B,G,Y,h,s',p⟩=>p.elim
 | .freeze _,st,h=>bw h
 | .ex e,st,h=>by
  refine lB (λv p h=> ?_) st h
  exact Hd go.toGo (a2 h).1 (a2 h).2
 | .ret e,st,h=>by
  refine pZ (λv p h=> ?_) st h
  refine kS (λv h=> ?_) v h
  exact Q0 go.toGo h
 | .iff c a b,st,h=>by
  refine Eo (λx y z p h=> ?_) st h
  obtain⟨h0,h1,h2,h3⟩:=a4 h
  exact Ba ((Xc c go.toGo h1).2 h0) (cG go a h2) (cG go b h3)
 | .fj n c b,st,h=>by
  refine ES (λx y z p h=> ?_) st h
  refine kE (λh=> ?_) z h
  obtain⟨h0,h1,h2⟩:=a3 h
  exact D8 go ((Xc c go.toGo h1).2 h0) (cG go b h2)
 | .for tg one it b,st,h=>by
  refine AL (λt i y z p h=> ?_) st h
  refine kE (λh=> ?_) z h
  obtain⟨h1,h2,h3,h4⟩:=a4 h
  exact AG go h1 h2 h3 (cG go b h4)
 | .dX (.ret m),st,h=>by
  refine vR (λb hs p h=> ?_) st h
  refine kC (λh0 hr h=> ?_) hs h
  refine kC (λa r h=> ?_) b h
  refine kE (λh=> ?_) r h
  refine pZ (λv q h=> ?_) a h
  refine kS (λv h=> ?_) v h
  exact Cd go h
theorem cG (go:kg Z F X E k cf): ∀(m:M.Ss){sts:List Stmt},bO cf m sts=k9->cv X sts (b9 Z E (M.execs F m))
 | .nil,sts,h=>by
  cases Ae5.mp h
  exact Eh
 | .cons s ss,sts,h=>by
  cases q:mJ s with
  | true=>
   cases s with
   | freeze i=>exact qQ (cG go ss h)
   | _=>cases q
  | false=>
   have h:(bif mJ s then bO cf ss sts else lC sts λst sts=>nS cf s st&&bO cf ss sts)=true:=h
   rw [q]at h
   refine kC (λst r h=> ?_) sts h
   exact q9 (vS go s (a2 h).1) (cG go ss (a2 h).2)
end
end
section
variable {P:Program}{w:World}{K:Aa6}{mg:Str->Option Value}{base:Heap}{N:List Str}{k7:Str}{scope:Scope}{f:Addr}{cd:Value}{A:Around}{outer:List Env}{s:Shared}{H:Hp}{E:XK}
def uj:Jw (dQ P w) (gs (dQ P w) P w K mg base N k7 scope f cd A outer s H E) E:=by
 intro y8 U H1 s1 ev s' I hq
 obtain⟨x,C,t,B,H',od,rfl,os,bare,fl,un,aR,comp,new,hd,hE⟩:=hq
 have I':=C9 I os bare un aR comp fl λb o z _=>⟨o.slots,z⟩
 have ff:=fl.2.2.1
 refine wpAny_mono (CI (X7 _ _) (wpAny_leaves_onW (Q:=λ_ s2=> ∃h2,s2= { s' with heap:=h2 }/\Heap.FlyingW B outer x _ _ h2/\s'.heap.UpToSlots h2) (E:=λ_ _=>False) I.ok.frames rfl fl λh2 x1 x4=>⟨h2,rfl,x1,x4⟩)) (λ_ s2 z=> ?_) λ_ _ z=>z.1.elim
 obtain⟨⟨h2,rfl,x1,x4⟩,dk⟩:=z
 have free:=I'.cz
 have slotH: ∀b o,b∈cA _->s'.heap.get? b=y0 o-> ∃sl,h2.get? b=y0 { o with slots:=sl }:=λb o hb z=>by
  obtain⟨_,o',z',nf⟩:=ff.mem hb
  rw [z]at z'
  cases z'
  exact x4 b o z nf
 have toH:=λb o z c n=>x1.1 b o (comp b o z c n)
 have cut: ∀b,b∉cA outer->b≠s.heap.objs.size->b∉cA (envOfC k7 scope s.heap.objs.size f cd::outer):=λb n1 n2 hb=>by
  rcases Aa.mp (hb)with z | z
  ·exact n2 z
  ·exact n1 z
 have old: ∀b o,s.heap.get? b=y0 o->b≠s.heap.objs.size:=λb o z=>Ac3 (Ac z)
 have eR: ∀b u,H' b=y0 u->b∉cA _:=λb u z hb=>by rw [free b hb]at z;cases z
 have in1:=λb o z=>I.base.there b o z (by show b∉ [];simp)
 refine⟨x,C,t,B,H',od,rfl,os.trans I.os,bare,x1,⟨λb o z n hb hx=> ?_,λb o z n hb hx=> ?_,I'.base.free,λb o z hx=> ?_,I'.base.dh,I'.base.cX,I'.base.di⟩,λb u z=> ?_,λb o z hc hb=> ?_,?_,λdx z=> ?_,hE⟩
 ·exact toH b o (I'.base.keep b o z n hb hx) (.inr (in1 b o z)) (cut b hb (old b o z))
 ·obtain⟨sl,z1⟩:=I'.base.slot b o z n hb hx
  obtain⟨sl2,z2⟩:=slotH b _ (Aa5 _ hb) z1
  exact⟨sl2,z2⟩
 ·obtain⟨o',z1⟩:=I'.base.there b o z hx
  by_cases hb:b∈cA (envOfC k7 scope s.heap.objs.size f cd::outer)
  ·obtain⟨sl,z2⟩:=slotH b o' hb z1
   exact⟨_,z2⟩
  ·exact⟨o',toH b o' z1 (.inr (in1 b o z)) hb⟩
 ·refine(aR b u z).de (λc v hc z1=> ?_) (λ_ z1=>z1) λ_ _ z1=>z1
  obtain rfl | hc:=hc
  ·exact toH c v z1 (.inl ⟨u,z⟩) (eR c u z)
  ·exact toH c v z1 (.inl ⟨_,hc⟩) (eR c _ hc)
 ·have two: ∃o2,s'.heap.get? b=y0 o2/\((∃ u,H' b=y0 u)\/ ∃u,s1.heap.get? b=y0 u)/\b∉cA (envOfC k7 scope s.heap.objs.size f cd::outer):=by
   obtain⟨u,hu⟩ | ⟨u,hu⟩:=hc
   ·obtain⟨o2,z2⟩:=(aR b u hu).there
    exact⟨o2,z2,.inl ⟨u,hu⟩,eR b u hu⟩
   ·obtain⟨o2,z2⟩:=I'.base.there b u hu (by show b∉ [];simp)
    exact⟨o2,z2,.inr (in1 b u hu),cut b hb (old b u hu)⟩
  obtain⟨o2,z2,c2,nb⟩:=two
  have z3:=toH b o2 z2 c2 nb
  rw [show h2.get? b=y0 o from z]at z3
  cases z3
  exact comp b _ z2 c2 nb
 ·cases z:s.heap.get? x with
  | none=>rfl
  | some u=>
   obtain⟨o2,z2⟩:=in1 x u z
   rw [new]at z2
   cases z2
 ·obtain⟨o,e1,e2⟩:=hd dx z
  obtain⟨o',e3,e4⟩:=dk x o e1
  exact⟨o',e3,e4.trans e2⟩
end
structure Txt (K:Aa6) (mg:Str->Option Value) (f:String) where
 st:Stmt
 fa:Addr
 fd:FuncData
 N:List Str
 ps:List Str
structure kM {K:Aa6}{mg:Str->Option Value}{f:String}(t:Txt K mg f) (d:M.Fn) (fns own dZ d1:List String) (ob:eV):Prop where
 fn: ∃x k7,hQ K x k7 t.st t.fa t.fd
 bd:Binds K t.fd t.ps []
 sc:xy t.N t.ps (zm t.st)
 n:t.N.length=d.n
 p:t.ps.length=d.ps
 le:d.ps<=d.n
 vT:bO ⟨zm t.st,t.N,fns,own,dZ,d1,ob⟩ d.body (JE t.st)=k9
structure m8 (Z:Ge) (p:M.Prog) (mg:Str->Option Value) (own dZ d1:List String) (ob:eV):Prop where
 cl:p.cl=Z.cl
 ow:own=Z.own
 blt: ∀x,x∈bW->mg (Qg x)=u0
 con: ∀x d,p.con.lookup x=y0 d-> ∃u v,mg (Qg x)=y0 u/\RelV v u/\ ∀G H,aB Z G H d v
 cls: ∀c,own.contains c=k9->mg (Qg c)=y0 (.ref (Z.ca c))
 fld: ∀c f,ob.fl.contains (c,f)=k9->dr Z.K (Z.ca c)/\bP Z.K (Z.ca c) (Qg f)
 gi: ∀c m q,ob.mt.contains (c,m,q)=k9->dr Z.K (Z.ca c)/\ob.ms.contains q=k9/\i6 Z.K (Z.ca c) (Qg m) (Z.ma q)
 dY: ∀c q,ob.dY.contains (c,q)=k9->mg (Qg c)=y0 (.ref (Z.ca c))/\ob.ms.contains q=k9/\Mk Z.K (Z.ca c) (Z.ma q)
section
variable {P:Program}{w:World}{Z:Ge}{mg:Str->Option Value}{base:Heap}{p:M.Prog}{own dZ d1 fns:List String}{ob:eV}
def Eb (m:aj Z G h H) (r:aU Z G H ws vs) (t: ∀w∈ws,lM w=k9) (u:N.length=n):aX Z ⟨G,H,h⟩ G (ws.map y0++Aa1 (n-ws.length) u0) h (XC N vs) H:=by
 have B:=r.length
 have get: ∀ {i}{w},M.Gm (ws.map y0++Aa1 (n-ws.length) u0) i=y0 w->ws[i]? =y0 w:=λ{i w} e=>by
  rw [XA]at e
  by_cases f:i<ws.length
  ·rw [Ae0 (by simpa using f),Ad9]at e
   cases q:ws[i]? with
   | none=>rw [q]at e;cases e
   | some C=>rw [q]at e;exact e
  ·rw [Ae6 (by simpa using f),Ak]at e
   split at e<;>cases e
 have g: ∀ {ws}{vs}{i:Nat}{w},aU Z G H ws vs->ws[i]? =y0 w-> ∃v,vs[i]? =y0 v/\aq Z G H w v:=by
  intro ws
  induction ws with
  | nil=>intro vs i w _ e;simp at e
  | cons a r p=>
   intro vs i w ⟨v,D,c,z,x⟩ e
   subst c
   cases i with
   | zero=>simp at e;subst e;exact⟨v,rfl,z⟩
   | succ i=>
    obtain⟨y,A,o⟩:=p x (by assumption)
    exact⟨y,by simpa using A,o⟩
 have b: ∀ {i}{d},M.Gm _ i≠y0 (.own d):=λ{i d} e=>by
  have:=t _ (Aj (get e))
  cases this
 refine⟨⟨?_,λi w e=> ?_,λi j d w a s c=>absurd c b,m⟩,Ext.refl,m,λi d a c=>absurd c b⟩
 ·unfold XC
  rw [Aa3,Aa3,Ab1,Ab1,Ae3,Ae3,u,B]
 ·obtain⟨v,l,k⟩:=g r (get e)
  refine⟨v,?_,k⟩
  unfold XC
  have f:=(Ac2.mp l).1
  rw [Ae0 (by simp_all),Ad9,l]
  rfl
def A5 (l:aj Z G h H) (p:ar Z E G H (M.Gu h.length o) Q):aT Z E ⟨G,H,h⟩ o { nx:=λ_ H'=>Q .az H',rt:=Q }:=by
 have g: ∀ {w}{c}{b}{H'}{v},_->ar Z E G H (M.fin h.length w c) Q->Ext G H b H'->aj Z b c H'->aq Z b H' w v->aD [] [] H w v->Q v H':=λ{w c b H' v} m p e a r f=>by
  unfold M.fin at p
  split at p
  ·exact p b H' e a v r f
  ·split at p
   ·rename_i n
    have k:=e.cut
    rw [l.len]at p
    exact p _ H' k (a.cut e.le) v (r.cut G.n e.le n m) f
   ·exact p b H' e a v r f
 cases o with
 | next Y c=>exact λb q H' j=>g (λi z=>by cases z) p j.ext j.st.heap rfl trivial
 | ret w c=>
  cases w with
  | bor i=>exact p.elim
  | v d=>exact λb v H' e a r f=>g (λi z=>by cases z) p e a r f
  | own i=>exact λb v H' e a r f=>g (λi z=>by cases z) p e a r f
 | exc d c=>exact p
 | brk Y c=>exact p.elim
 | cont Y c=>exact p.elim
 | fail=>exact p.elim
end
section
variable {P:Program}{w:World}{Z:Ge}{mg:Str->Option Value}{base:Heap}{p:M.Prog}{own dZ d1 fns:List String}{ob:eV}
def oI (P:Program) (w:World) (Z:Ge) (b:Str->Option Value) (base:Heap) (p:M.Prog) (k:Nat) (f:String):Prop:=
 ∃ps a fd,bb P w Z.K b base (dQ P w) (2*k+1) a fd ps (fJ Z (M.call p k f))/\Binds Z.K fd ps []/\Af7 Z.K (.ref a)=k9/\b (Qg f)=y0 (.ref a)
def oo (P:Program) (w:World) (Z:Ge) (a:Str->Option Value) (base:Heap) (p:M.Prog) (k:Nat) (q:String):Prop:=
 ∃ps fd,bb P w Z.K a base (dQ P w) (2*k+1) (Z.ma q) fd ps (fJ Z (M.call p k q))/\Binds Z.K fd ps []
def nR (l:m8 Z p mg own dZ d1 ob){f:String}{d:M.Fn}{t:Txt Z.K mg f}(ok:kM t d fns own dZ d1 ob) (R:p.fns.lookup f=y0 d) (k:Nat) (V: ∀g,fns.contains g=k9->oI P w Z mg base p k g) (O: ∀q,ob.ms.contains q=k9->oo P w Z mg base p k q):
 bb P w Z.K mg base (dQ P w) (2*(k+1)+1) t.fa t.fd t.ps (fJ Z (M.call p (k+1) f)):=by
 have a: ∀ {b:List M.W}{h:M.AH},b.length≠d.ps->M.call p (k+1) f b h= .fail:=λ{b h} B=>by
  rw [M.call,R]
  simp [M.run,B]
 have j: ∀ {b:List M.W}{h:M.AH},b.length=d.ps->M.call p (k+1) f b h=M.Gu h.length (M.execs ⟨M.call p k,p.cl,p.con⟩ d.body (b.map y0++Aa1 (d.n-d.ps) u0) h):=λ{b h} B=>M.Gb R k b h B
 obtain⟨x,T,F⟩:=ok.fn
 rw [show 2*(k+1)+1=(2*k+1+1)+1 by omega]
 refine hQ.Dn F ok.sc (λvs H Q E ⟨G,h,b,y,rs,S,q⟩=> ?_) λX A z s H vs Q E e ⟨G,h,b,y,rs,S,q⟩=> ?_
 ·by_cases o:b.length=d.ps
  ·rw [← rs.length,o,ok.p]
  ·rw [a o]at q;exact q.elim
 ·by_cases o:b.length=d.ps
  rotate_left
  ·rw [a o]at q;exact q.elim
  rw [j o]at q
  refine⟨b9 Z E (M.execs ⟨M.call p k,p.cl,p.con⟩ d.body),cG (k:=2*k+1) ?_ d.body ok.vT,?_⟩
  ·refine { N:=rfl,K:=rfl,cl:=l.cl,ow:=l.ow,nd:=ok.sc.nd,eC:=λx i=>W0 i,mU:=λx i=>i,hA:=λx i=>⟨Z0 i,.inl rfl⟩,i9:=λx i=>i,gl:=λx i=>n4 i,calm:=rfl,room:=e.mono (by omega),dC:=e,pass:=uj,blt:=l.blt,con:=l.con,fn:=λg Y=> ?_,cls:=l.cls,fld:=l.fld,gi:=λc m q v=> ?_,dY:=λc q v=> ?_,gJ:=D3,ip:=rfl,DX:=rfl,ex:=rfl }
   ·obtain⟨J,W,L,u,r,U,h4⟩:=V g Y
    exact⟨J,⟨W,L,u,r,U,h4⟩⟩
   ·obtain⟨I,C,D⟩:=l.gi c m q v
    obtain⟨J,L,u,r⟩:=O q C
    exact⟨I,_,L,J,D,u,r⟩
   ·obtain⟨I,C,D⟩:=l.dY c q v
    obtain⟨J,L,u,r⟩:=O q C
    exact⟨I,_,L,J,D,u,r⟩
  ·refine⟨⟨G,H,h⟩,G,b.map y0++Aa1 (d.n-d.ps) u0,h,?_,A5 y q⟩
   have:=Eb (N:=t.N) (n:=d.n) y rs S ok.n
   rw [o]at this
   exact this
def pY (f) (fa) (fd) (ps):bb P w Z.K mg base (dQ P w) (2*0+1) fa fd ps (fJ Z (M.call p 0 f)):=
 ⟨λg H Q E ⟨G,h,e,d,rs,c,q⟩=>q.elim,λA a s H b i g Q E _ _ _ _ ⟨G,h,e,d,rs,c,q⟩=>q.elim⟩
def FT (j:m8 Z p mg own dZ d1 ob) (all: ∀f,fns.contains f=k9-> ∃d,p.fns.lookup f=y0 d/\ ∃t:Txt Z.K mg f,kM t d fns own dZ d1 ob/\Af7 Z.K (.ref t.fa)=k9/\mg (Qg f)=y0 (.ref t.fa))
 (a: ∀q,ob.ms.contains q=k9-> ∃d,p.fns.lookup q=y0 d/\ ∃t:Txt Z.K mg q,kM t d fns own dZ d1 ob/\t.fa=Z.ma q): ∀k,(∀ f,fns.contains f=k9->oI P w Z mg base p k f)/\ ∀q,ob.ms.contains q=k9->oo P w Z mg base p k q:=by
 intro k
 induction k with
 | zero=>
  refine⟨λf c=> ?_,λq e=> ?_⟩
  ·obtain⟨d,hd,t,ok,g,h⟩:=all f c
   exact⟨t.ps,t.fa,t.fd,pY f _ _ _,ok.bd,g,h⟩
  ·obtain⟨d,hd,t,ok,i⟩:=a q e
   exact⟨t.ps,t.fd,pY q _ _ _,ok.bd⟩
 | succ k b=>
  refine⟨λf c=> ?_,λq e=> ?_⟩
  ·obtain⟨d,hd,t,ok,g,h⟩:=all f c
   exact⟨t.ps,t.fa,t.fd,nR j ok hd k b.1 b.2,ok.bd,g,h⟩
  ·obtain⟨d,hd,t,ok,i⟩:=a q e
   exact⟨t.ps,t.fd,i▸nR j ok hd k b.1 b.2,ok.bd⟩
def mj (K:Aa6):Sp:=λb H Q _=> ∃(a:Addr) (ns:List Int),b= [.ref a]/\a9 K H a (ns.map V.int)/\ns.length<=63/\ ∀H',Q (.bl k9) H'
theorem J6 : ∀(ns:List Int),ae Z G H (ns.map M.D.int) (ns.map V.int)
 | []=>rfl
 | n::ns=>⟨_,_,rfl,rfl,J6 ns⟩
def yw (F:bb P w Z.K mg base (dQ P w) n fa fd ps (fJ Z (M.call p k "law"))) (eT: ∀ns:List Int,ns.length<=63-> ∃h',M.call p k "law" [.v (.lst (ns.map .int))] []= .ok (.v (.bl true)) h'):
 bb P w Z.K mg base iW n fa fd ps (mj Z.K):=by
 refine bb.calm F ?_
 rintro y H Q E ⟨a,ns,u,d,m,q⟩
 subst u
 obtain⟨h',h⟩:=eT ns m
 have fin: ∀G:Gh,aj Z G [] H->gE Z G H a _->fJ Z (M.call p k "law") [.ref a] H Q (fun _ _ _=>False):=fun G j i=>by
  refine⟨G,[],[.v (.lst _)],j,⟨.ref a,[],rfl,⟨a,ns.map V.int,rfl,i,J6 ns⟩,rfl⟩,λw l=> ?_,?_⟩
  ·cases Ab8.mp l;rfl
  ·rw [h]
   intro x t _ _ v r _
   cases (r)
   exact q t
 obtain d | d:=d
 ·refine fin ⟨λb=>b=a,λ_=>0,0⟩ ⟨rfl,λr c e=>by simp at e,λr s g=>absurd g (Nat.not_lt_zero _),λb f=> ?_⟩ (.inl ⟨rfl,d⟩)
  subst f
  obtain z | ⟨o,z⟩:=d
  ·exact⟨_,z⟩
  ·exact⟨_,z⟩
 ·exact fin ⟨λ_=>False,λ_=>0,0⟩ ⟨rfl,λr c e=>by simp at e,λr s g=>absurd g (Nat.not_lt_zero _),λb f=>f.elim⟩ (.inr d)
def walk {l:PySem.W.OpenLaw}{K:Params->Aa6}(k) (m:aV k callerA) (j:l.most=y0 63) (b:d.params.defaults= [])
 (c: ∀ w h,YP w h->(K w.params).In h)
 (F: ∀ w mg i h,(K w.params).In h->h.Ns mainGlobals mg->mg d.name=y0 (.ref i) →
   ∃fd:FuncData,(∀ s u,BindsTo s fd ⟨[u],[]⟩ [(x,u)])/\ ∀base:Heap,(K w.params).In base->base.Ns mainGlobals mg->bb l.prog w (K w.params) mg base iW k i fd [x] (mj (K w.params))):
 PySem.W.WalkO q loose XP YP l.row.toRowW d [] (λf vs=>PySem.call f vs):=
 L2.fx j (by decide) b m c F (λ_ _ a e n _ g=>⟨a,e,rfl,g,n,λ_=>rfl⟩) λ_ _ _ _ _ z=>z
end
open PySem PySem.W PyProof.Rows KTD
theorem xZ {f g:Str->Option (Str×Value)}: ∀ {l:List Str},(∀ n∈l,f n=g n)->l.filterMap f=l.filterMap g
 | [],_=>rfl
 | a::l,h=>by rw [Ah3,Ah3,h a Aa4,xZ λn b=>h n (Aa5 _ b)]
theorem X4: ∀ {a:List Str}{us:List Value},a.Nodup->us.length=a.length->a.filterMap (λn=>((a.zip us).lookup n).map (n, ·))=a.zip us
 | [],us,_,_=>rfl
 | p::a,[],_,h=>by cases h
 | p::a,u::us,d,h=>by
  have b:=Af3.mp d
  rw [List.zip_cons_cons,List.filterMap_cons_some (by rw [List.lookup_cons_self];rfl)]
  congr 1
  refine(xZ λn c=> ?_).trans (X4 b.2 (Nat.succ.inj h))
  rw [Ab7,beq_eq_false_iff_ne.mpr (λe=>b.1 (e▸c):n≠p)]
def uq {a:List Str}{us:List Value}(h:us.length=a.length)(b:n∈a):((a.zip us).lookup n).isSome=true:=by
 induction a generalizing us with
 | nil=>cases b
 | cons p a c=>
  cases us with
  | nil=>cases h
  | cons u us=>
   rw [List.zip_cons_cons,Ab7]
   cases e:n==p with
   | true=>rfl
   | false=>exact c (Nat.succ.inj h) ((Aa.mp b).resolve_left (beq_eq_false_iff_ne.mp e))
abbrev dB (a:FuncData):List Str:=a.params.args.map (·.arg)
def Q7 (h1:fd.params.posonlyargs= []) (h2:fd.params.vararg=u0) (h3:fd.params.kwonlyargs= []) (h4:fd.params.kwarg=u0) (h5:fd.defaults= .none) (nd:(dB fd).Nodup)(hl:us.length=(dB fd).length):bindArgs fd ⟨us,[]⟩=pure ((dB fd).zip us):=by
 have e: ∀k,((dB fd).take k).filter (λn=>(((dB fd).zip us).lookup n).isNone)= []:=λk=>List.filter_eq_nil_iff.mpr λn hn=>by
  have:=uq hl (Ag9 hn)
  cases q:((dB fd).zip us).lookup n with
  | none=>rw [q]at this;cases this
  | some _=>simp
 have f:=X4 nd hl
 obtain⟨n,q,⟨po,as,va,ko,kd,ka,df⟩,b,sc,g,cl,d,kV,doc,pm,an,cd,ct,bi⟩:=fd
 cases h1
 cases h2
 cases h3
 cases h4
 cases h5
 refine(if_neg ?_).trans ((if_neg ?_).trans ?_)
 ·simpa using Ak6 hl
 ·exact λz=>by
   have z':=(congrArg (λl:List Str=> !l.isEmpty) (e _)).symm.trans z
   cases z'
 ·refine Eq.trans ?_ (congrArg pure f)
  rw [show ∀k,List.drop k (none.getD #[]).toList= []from λk=>List.drop_nil,List.zip_nil_right]
  exact congrArg (λl:List Str=>(pure (l.filterMap λn=>(((as.map (·.arg)).zip us).lookup n).map (n, ·)):Sem (List (Str×Value)))) (Ac5 (as.map (·.arg)))
noncomputable def lE (K:Frag) (a:Addr) (f:FuncData->List Stmt->Bool):Bool:=match K.lookup a with
 | some ⟨_,_,.func fd,_⟩=>(match fd.body with
  | .stmts b=>f fd b
  | _=>y9)
 | _=>y9
def sF {K:Frag}(h:lE K a f=k9): ∃i q fd sl b,K.lookup a=y0 ⟨i,q,.func fd,sl⟩/\fd.body= .stmts b/\f fd b=true:=by
 unfold lE at h
 split at h
 ·rename_i e
  split at h
  ·rename_i c
   exact⟨_,_,_,_,_,e,c,h⟩
  ·cases h
 ·cases h
def lj (K:Frag) (a:Addr) (b:FuncData) (N:List Str):Prop:=
 (b.globals=mainGlobals/\b.builtins=builtinsNs/\b.closure= []/\b.defaults= .none)/\codeIn K b.code b.qualname=k9/\keepIn K (.ref a)=k9 ∧
 (b.params.posonlyargs.isEmpty=k9/\b.params.vararg.isNone=k9/\b.params.kwonlyargs.isEmpty=k9/\b.params.kwarg.isNone=k9) ∧
 b.scope.kind= .function/\b.scope.isCoroutine=y9/\b.scope.isGenerator=y9/\N.Nodup/\N.take (dB b).length=dB b/\(∀ x∈dB b,b.scope.names.lookup x=y0 .local\/b.scope.names.lookup x=y0 .cell)/\ ∀y∈b.scope.names,y.2≠ .free
instance {K:Frag}{a:Addr}{fd:FuncData}{N:List Str}:Decidable (lj K a fd N):=by unfold lj;infer_instance
def AR {K:Frag}(l:K.lookup a=y0 ⟨oc,od,.func fd,sl⟩) (n:fd.body= .stmts b) (p:lj K a fd N):
 ∃st x q,JE st=b/\zm st=fd.scope/\hQ K x q st a fd/\xy N (dB fd) fd.scope/\ ∀us:List Value,us.length=(dB fd).length->bindArgs fd ⟨us,[]⟩=pure ((dB fd).zip us):=by
 obtain⟨⟨g,bi,o,e⟩,k,m,⟨r,a2,a3,a4⟩,s,i,f,c,d,j,h⟩:=p
 refine⟨.FunctionDef fd.name fd.params b [] u0 [] fd.scope u0 fd.name ⟨0,0,0,0⟩,fd.name,fd.qualname,rfl,rfl,⟨⟨oc,od,fd.kwdefaults,fd.doc,fd.pyModule,fd.annotations,fd.code,fd.closureTuple,sl,?_,l,k⟩,m⟩,⟨s,i,f,c,d,j,h⟩,λus t=>Q7 (Ae5.mp r) (Af8.mp a2) (Ae5.mp a3) (Af8.mp a4) e (d▸(List.take_sublist _ _).nodup c) t⟩
 cases fd
 cases n
 cases g
 cases bi
 cases o
 cases e
 rfl
def nh:Option (Option Value)->Addr
 | some (y0 (.ref a))=>a
 | _=>0
abbrev dJ (K:Frag) (c:String):Addr:=nh (nsIn K mainGlobals (Qg c))
abbrev nU (K:Frag) (c:String):Prop:=nsIn K mainGlobals (Qg c)=y0 (y0 (.ref (dJ K c)))
noncomputable def gk (K:Frag) (a:eV) (q:String):Addr:=match a.mt.find? (·.2.2==q)with
 | some (c,m,_)=>nh (findIn K (.ref (dJ K c)) (Qg m))
 | none=>match a.dY.find? (·.2==q)with
  | some (c,_)=>nh (findIn K (.ref (dJ K c)) "__init__")
  | none=>0
def sd (a:Scope):List Str:=a.names.filterMap λy=>if y.2= .local\/y.2= .cell then y0 y.1 else u0
def mZ (K:Frag) (p:M.Prog) (fns own c e:List String) (g:eV) (h:List (String×List String)) (a:Addr) (f:String):Bool:=lE K a λfd b=>match p.fns.lookup f with
 | some d=>(λN=>u9 (lj K a fd N/\N.length=d.n/\(dB fd).length=d.ps/\d.ps<=d.n)&&bO ⟨fd.scope,N,fns,own,c,e,g⟩ d.body b) (((h.lookup f).map λl=>l.map Qg).getD (sd fd.scope))
 | none=>y9
def mh {K:Frag}(mg) (h:mZ K p fns own dZ d1 ob nm a f=k9):
 ∃d,p.fns.lookup f=y0 d/\ ∃t:Txt K mg f,kM t d fns own dZ d1 ob/\t.fa=a/\keepIn K (.ref a)=k9/\ ∃J L sl,K.lookup a=y0 ⟨J,L,.func t.fd,sl⟩/\t.ps=dB t.fd/\ ∀us:List Value,us.length=t.ps.length->bindArgs t.fd ⟨us,[]⟩=pure (t.ps.zip us):=by
 obtain⟨J,L,i,sl,b,l,s,h⟩:=sF h
 cases e:p.fns.lookup f with
 | none=>rw [e]at h;cases h
 | some d=>
  rw [e]at h
  generalize ((nm.lookup f).map λl=>l.map Qg).getD (sd i.scope)=N at h
  obtain⟨v,c⟩:=(Ab2 _ _).mp h
  obtain⟨q,m,u,r⟩:=of_decide_eq_true v
  obtain⟨o,x,k,rfl,n,F,j,g⟩:=AR l s q
  rw [← n]at j c
  exact⟨d,rfl,⟨o,a,i,_,dB i⟩,⟨⟨x,k,F⟩,.all g,j,m,u,r,c⟩,rfl,F.kp,J,L,sl,l,rfl,g⟩
noncomputable def nv (K:Frag) (a:Addr) (f:List Value->Bool):Bool:=match K.lookup a with
 | some o=>(match o.data with
  | .seq b _=>u9 (o.cls= .type "tuple" /\o.dict=none/\b.size<=100)&&f b.toList
  | _=>y9)
 | none=>y9
def BV (h:nv Z.K a f=k9): ∃us,f us=k9/\ ∀vs,Vals vs us-> ∀G H,e6 Z G H a vs:=by
 unfold nv at h
 split at h
 ·rename_i o e
  split at h
  ·rename_i b n k
   obtain⟨i,d⟩:=(Ab2 _ _).mp h
   obtain⟨c,g,j⟩:=of_decide_eq_true i
   exact⟨_,d,λvs r G H=> .inr ⟨o,b,n,e,c,g,k,Ac1 j (by rw [sizeLine_eq];decide),r⟩⟩
  ·cases h
 ·cases h
mutual
noncomputable def nt (K:Frag):M.D->Value->Bool
 | .int i,.int j _=>u9 (i=j)
 | .str s,.str t _=>u9 (aw s=t)
 | .exc _ fs,.ref a=> !fs.isEmpty&&tabLook flatLooks (λb=>K.lookup b) a (gB fs)
 | .tup ds,.ref a=>nv K a λus=>eS K ds us
 | _,_=>y9
noncomputable def eS (K:Frag):List M.D->List Value->Bool
 | [],[]=>k9
 | d::ds,u::us=>nt K d u&&eS K ds us
 | _,_=>y9
end
def tM (K:Frag) (x:String) (d:M.D):Bool:=match nsIn K mainGlobals (Qg x)with
 | some (y0 u)=>nt K d u
 | _=>y9
mutual
theorem pO {Z:Ge}: ∀ {d:M.D}{u:Value},nt Z.K d u=k9-> ∃v,RelV v u/\ ∀G H,aB Z G H d v
 | .int _,.int _ _,h=>by cases of_decide_eq_true h;exact⟨.int _,⟨_,rfl⟩,λ_ _=>rfl⟩
 | .str _,.str _ _,h=>by cases of_decide_eq_true h;exact⟨.str _,⟨_,rfl⟩,λ_ _=>rfl⟩
 | .exc _ fs,.ref a,h=>by
  obtain⟨h1,h2⟩:=(Ab2 _ _).mp h
  exact⟨.ref _,rfl,λ_ _=> .inr ⟨λe=>(by rw [e]at h1;cases h1),_,rfl,h2⟩⟩
 | .tup ds,.ref a,h=>by
  obtain⟨us,h1,h2⟩:=BV h
  obtain⟨vs,r,h3⟩:=d0 h1
  exact⟨.ref a,rfl,λG H=>⟨a,vs,rfl,h2 vs r G H,h3 G H⟩⟩
theorem d0 {Z:Ge}: ∀ {ds:List M.D}{us:List Value},eS Z.K ds us=k9-> ∃vs,Vals vs us/\ ∀G H,ae Z G H ds vs
 | [],[],_=>⟨[],.nil,λ_ _=>rfl⟩
 | d::ds,u::us,h=>by
  obtain⟨h1,h2⟩:=(Ab2 _ _).mp h
  obtain⟨v,r1,h3⟩:=pO h1
  obtain⟨vs,r2,h4⟩:=d0 h2
  exact⟨v::vs,.cons r1 r2,λG H=>⟨v,vs,rfl,h3 G H,h4 G H⟩⟩
end
theorem og : ∀ {l:List (String×α)}{x}{d},l.lookup x=y0 d->(x,d)∈l
 | (k,v)::l,x,d,h=>by
  rw [Ab7]at h
  by_cases q:(x==k)=k9
  ·rw [q]at h;cases h;rw [eq_of_beq q];exact Aa4
  ·rw [eq_false_of_ne_true q]at h;exact Aa5 _ (og h)
abbrev rE (K:Frag) (C:Addr):Prop:=plainGet K C Str.empty=true/\hasDictIn K C=true/\plainOver K C=true/\findIn K (.ref C) "__setattr__" =some (some (.builtin "object.__setattr__"))
def mE (K:Frag) (p:M.Prog) (fns own b d:List String) (a:eV) (e:List (String×List String)):Prop:=
 (∀ x∈bW,nsIn K mainGlobals (Qg x)=y0 u0)/\(∀ x∈p.con,tM K x.1 x.2=k9)/\(∀ c∈own,nU K c) ∧
 (∀ c∈a.fl,rE K (dJ K c.1)/\findIn K (.ref (dJ K c.1)) (Qg c.2)=y0 u0) ∧
 (∀ c∈a.mt,rE K (dJ K c.1)/\a.ms.contains c.2.2=k9/\findIn K (.ref (dJ K c.1)) (Qg c.2.1)=y0 (y0 (.ref (gk K a c.2.2)))/\isFn K (.ref (gk K a c.2.2))=k9/\keepIn K (.ref (gk K a c.2.2))=k9) ∧
 (∀ c∈a.dY,nU K c.1/\a.ms.contains c.2=true/\makesIn K (dJ K c.1)=true/\findIn K (.ref (dJ K c.1)) "__init__" =some (some (.ref (gk K a c.2)))/\isFn K (.ref (gk K a c.2))=true/\keepIn K (.ref (dJ K c.1))=true) ∧
 (∀ f∈fns,nU K f/\mZ K p fns own b d a e (dJ K f) f=true)/\(∀ q∈a.ms,mZ K p fns own b d a e (gk K a q) q=true)/\fns.contains "law" =true/\lE K (dJ K "law") (fun fd _=>decide (dB fd= [("_law_script" :Str)]))=true
set_option synthInstance.maxSize 1000 in
instance {K:Frag}{p:M.Prog}{fns own dZ d1:List String}{ob:eV}{nm:List (String×List String)}:Decidable (mE K p fns own dZ d1 ob nm):=by unfold mE;infer_instance
def qR  [BEq α] [LawfulBEq α] {l:List α}(h:l.contains x=k9):x∈l:=List.contains_iff_mem.mp h
def gX {l:OpenLaw}{w:World}{K:Frag}{h:Heap}{a:Str->Option Value}{N:Addr}(p:M.Prog) (fns own D E:List String) (H:eV) (V:List (String×List String)) (k:Nat) (X:K.In h) (G:h.Ns mainGlobals a) (I:a "law" =some (.ref N)) (T:decide (mE K p fns own D E H V)=true)
 (eT: ∀ns:List Int,ns.length<=63-> ∃h',M.call p (k+1) "law" [.v (.lst (ns.map .int))] []= .ok (.v (.bl true)) h'):
 ∃fd:FuncData,(∀ (s:Shared) (v:Value),BindsTo s fd ⟨[v],[]⟩ [("_law_script",v)])/\ ∀base:Heap,K.In base->base.Ns mainGlobals a->bb l.prog w K a base iW (2*(k+1)+1) N fd ["_law_script"] (mj K):=by
 obtain⟨t1,t0,t2,t6,t7,W,O,J,y,L⟩:=of_decide_eq_true T
 have U:m8 ⟨K,dJ K,p.cl,own,gk K H⟩ p a own D E H:=by
  refine⟨rfl,rfl,λx hx=>mg_none_of X G (t1 x hx),λx d hd=> ?_,λc b=>mg_of X G (t2 c (qR b)),λc f b=> ?_,λc m q b=> ?_,λc q b=> ?_⟩
  ·have z:=t0 (x,d) (og hd)
   unfold tM at z
   split at z
   ·rename_i u e
    obtain⟨v,r⟩:=pO (Z:=⟨K,dJ K,p.cl,own,gk K H⟩) z
    exact⟨u,v,mg_of X G e,r⟩
   ·cases z
  ·obtain⟨⟨B,i,n,C⟩,j⟩:=t6 (c,f) (qR b)
   exact⟨⟨B,i,n,C⟩,j⟩
  ·obtain⟨⟨B,i,n,C⟩,j,Q,e7,e8⟩:=t7 (c,m,q) (qR b)
   exact⟨⟨B,i,n,C⟩,j,Q,e7,e8⟩
  ·obtain⟨B,i,n,C,j,Q⟩:=W (c,q) (qR b)
   exact⟨mg_of X G B,i,n,C,j,Q⟩
 have A: ∀f,fns.contains f=k9->a (Qg f)=y0 (.ref (dJ K f)):=λf F=>mg_of X G (O f (qR F)).1
 have e:dJ K "law" =N:=by
  have:=(A "law" y).symm.trans I
  cases this
  rfl
 obtain⟨d,hd,t,ok,g,S,oc,od,sl,lk,ep,bd⟩:=mh a (O "law" (qR y)).2
 obtain⟨_,_,fd,_,_,o,_,z⟩:=sF L
 rw [lk]at o
 cases o
 have z:=ep.trans (of_decide_eq_true (p:=dB t.fd= [("_law_script" :Str)]) z)
 refine⟨t.fd,λs v=> .of_eq ((bd [v] (by rw [z];rfl)).trans (by rw [z];rfl)),λbase _ _=> ?_⟩
 have R:=FT (P:=l.prog) (w:=w) (base:=base) (fns:=fns) U (λf F=>by
  obtain⟨d,hd,t,ok,g,S,_⟩:=mh a (O f (qR F)).2
  exact⟨d,hd,t,ok,g▸S,g▸A f F⟩) (λq Y=>by
  obtain⟨d,hd,t,ok,g,_⟩:=mh a (J q (qR Y))
  exact⟨d,hd,t,ok,g⟩) k
 have:=yw (nR U ok hd k R.1 R.2) eT
 rw [g,e,z]at this
 exact this
end L2.MS
namespace Wf
inductive TC (n t a:Nat):Nat->Prop
 | step {b:Nat}:a<n->b<n->t.testBit (a*n+b)=k9->TC n t a b
 | more {b c:Nat}:TC n t a b->b<n->c<n->t.testBit (b*n+c)=k9->TC n t a c
structure Hw (n t r:Nat):Prop where
 lt:r<2 ^ (n*n)
 bit: ∀a b,a<n->b<n->(r.testBit (a*n+b)=k9↔TC n t a b)
structure HC (n t r:Nat):Prop where
 lt:r<2 ^ (n*n)
 sub: ∀a b,a<n->b<n->r.testBit (a*n+b)=k9->TC n t a b
 sup: ∀k,t.testBit k=k9->r.testBit k=k9
structure HB (n t a:Nat) (re wa:List Nat):Prop where
 an:a<n
 nd:re.Nodup
 tc: ∀x∈re,TC n t a x
 wl: ∀x∈wa,x<n/\(x=a\/x∈re)
 cl: ∀x,(x=a\/x∈re)->x∉wa-> ∀b,b<n->t.testBit (x*n+b)=k9->b∈re
structure Lk (n t a:Nat) (re wa:List Nat) (h b:Nat):Prop where
 an:a<n
 nd:re.Nodup
 tc: ∀x∈re,TC n t a x
 wl: ∀x∈wa,x<n/\(x=a\/x∈re)
 cl: ∀x,(x=a\/x∈re)->x∉wa->x≠h-> ∀b,b<n->t.testBit (x*n+b)=k9->b∈re
 hn:h<n
 hr:h=a\/h∈re
 hb: ∀b',b'<b->t.testBit (h*n+b')=k9->b'∈re
end Wf
namespace M
abbrev ke:Tx:=[97,98,99,100,101,102,103,104,105,106,107,108,109,110,111,112,113,114,115,116,117,118,119,120,121,122]
abbrev dF:Tx:=[99,108,111,115,101,100]
abbrev dH:Tx:=[106,111,105,110,101,100]
abbrev b3:Tx:=[105,110]
abbrev el:Tx:=[108,101,97,115,116]
abbrev dR:Tx:=[108,101,115,115]
abbrev d5:Tx:=[112,108,117,115]
abbrev d8:Tx:=[98,111,116,104]
abbrev eB:Tx:=[109,111,115,116]
abbrev eF:Tx:=[115,111,109,101]
abbrev fm:Tx:=[101,113,117,97,108]
abbrev iH:Tx:=[101,97,99,104,108,101,97,115,116]
abbrev hC:Tx:=[116,117,114,110,101,100]
abbrev j0:Tx:=[110,111,116]
abbrev zV:Tx:=[97,110,100]
abbrev iR:Tx:=[101,97,99,104,109,111,115,116]
abbrev ef:Tx:=[48,49,50,51,52,53,54,55,56,57]
abbrev fq:Tx:=[115,97,121,32]
abbrev QY:Tx:=[111,114]
abbrev gU:Tx:=[110,111,110,101]
abbrev gz:Tx:=[101,97,99,104]
abbrev g9:Tx:=[115,97,109,101]
abbrev lD:Tx:=[108,101,116,116,101,114]
abbrev lL:Tx:=[102,105,103,117,114,101]
abbrev hG:Tx:=[107,105,110,100,32]
abbrev my:Tx:=[101,97,99,104,32,108,101,97,115,116,32]
abbrev eJ:Tx:=[110,111]
abbrev kj:Tx:=[98,108,97,110,107]
abbrev hZ:Tx:=[110,97,109,101]
abbrev nD:Tx:=[101,97,99,104,32,109,111,115,116,32]
abbrev gO:Tx:=[97,108,108]
abbrev gr:Tx:=[115,97,121]
abbrev iy:Tx:=[116,105,101,32]
abbrev eE:Tx:=[126,94]
abbrev iV:Tx:=[107,105,110,100]
abbrev kh:Tx:=[32,105,110,32]
abbrev FA:Tx:=[101,97,99,104,32,108,101,97,115,116]
abbrev pK:Tx:=[43,45,38,46,126,94,40,41,91,93,61]
abbrev nk:Tx:=[108,101,97,115,116,32]
abbrev Fp:Tx:=[101,97,99,104,32,109,111,115,116]
abbrev iS:Tx:=[116,105,101]
abbrev kQ:Tx:=[110,111,116,32]
abbrev nP:Tx:=[109,111,115,116,32]
abbrev S.r (c x:E):S:= .iff c (.cons (.ret x) .nil) .nil
abbrev E.v0:E:= .var 0
abbrev E.v1:E:= .var 1
abbrev E.v2:E:= .var 2
abbrev E.v3:E:= .var 3
abbrev E.v4:E:= .var 4
abbrev E.v5:E:= .var 5
abbrev E.v6:E:= .var 6
abbrev E.v7:E:= .var 7
abbrev E.v8:E:= .var 8
abbrev E.v9:E:= .var 9
abbrev E.i0:E:= .int 0
abbrev E.i1:E:= .int 1
abbrev E.i2:E:= .int 2
abbrev E.i3:E:= .int 3
abbrev E.i4:E:= .int 4
abbrev Es.a (x:E):Es:= .cons x .nil
abbrev Es.b (x y:E):Es:= .cons x (.cons y .nil)
abbrev Es.c (x y z:E):Es:= .cons x (.cons y (.cons z .nil))
abbrev Es.d (x y z u:E):Es:= .cons x (.cons y (.cons z (.cons u .nil)))
abbrev Es.g (x y z u v w:E):Es:= .cons x (.cons y (.cons z (.cons u (.cons v (.cons w .nil)))))
abbrev Ss.a (x:S):Ss:= .cons x .nil
def Wd:E:= .comp [0] k9 1 [] (.seq .v0) y9 (.bl k9) (.cmp .mem .v0 (.con "FIGURES"))
noncomputable def qz:Fn:=⟨2,2,.cons (.r (.or (.not (.chain .le .le .i1 (.bi .len (.a .v0)) .v1)) (.not (.bi .all (.a Wd)))) (.bl y9)) (.a (.ret (.or (.cmp .eq .v0 (.str [48])) (.not (.cE .starts .v0 (.a (.str [48])))))))⟩
def wq:E:= .comp [0] k9 1 [] (.seq .v0) y9 (.bl k9) (.cmp .mem .v0 (.con "LETTERS"))
noncomputable def ZG:Fn:=⟨1,1,.cons (.r (.or (.not (.cu .v0 .str)) (.not (.chain .le .le .i1 (.bi .len (.a .v0)) (.con "MOST_LETTERS")))) (.bl false)) (.a (.ret (.bi .all (.a wq))))⟩
def QF:Fn:=⟨1,1,.cons (.ret (.and (.call "is_word" (.a .v0)) (.cmp .cH .v0 (.con "TAKEN")))) .nil⟩
def Jl:E:= .comp [0] k9 1 [] (.seq .v2) y9 (.bl k9) (.call "is_name" (.a .v0))
noncomputable def Xx:Fn:=⟨2,3,.cons (.af 2 (.bin .add (.bi .list (.a .v0)) (.bi .list (.a .v1)))) (.cons (.iff (.not (.bi .all (.a Jl))) (.cons .bC .nil) .nil) (.cons (.iff (.cmp .lt (.c7 .v2) (.bi .len (.a .v2))) (.cons .bC .nil) .nil) (.cons (.iff (.or (.cmp .gt (.bi .len (.a .v0)) (.con "MOST_NAMES")) (.cmp .gt (.bi .len (.a .v1)) (.con "MOST_NAMES"))) (.cons .bC .nil) .nil) (.a (.ret (.tup (.b (.bi .tuple (.cons (.cL .v0) .nil)) (.bi .tuple (.cons (.cL .v1) .nil)))))))))⟩
noncomputable def Qt:Fn:=⟨2,2,.cons (.iff (.cmp .gt (.bi .len (.a .v1)) (.con "MOST_SAYINGS")) (.cons .bC .nil) .nil) (.a (.ret (.tup (.b .v0 (.bi .tuple (.a .v1))))))⟩
noncomputable def xt:Fn:=⟨1,1,.cons (.r (.cmp .mem .v0 (.con "LETTERS")) (.str lD)) (.cons (.r (.cmp .mem .v0 (.con "FIGURES")) (.str lL)) (.cons (.r (.cmp .mem .v0 (.con "SINGLE_SIGNS")) (.str [115,105,110,103,108,101])) (.cons (.r (.cmp .eq .v0 (.str [32])) (.str kj)) (.cons .bC .nil))))⟩
def qm:Ss:= .cons (.af 4 (.call "sort_of_sign" (.a .v3))) (.cons (.iff (.and (.cmp .eq .v4 .v2) (.cmp .mem .v4 (.tup (.b (.str lD) (.str lL))))) (.a (.dE 1 (.neg .i1) (.bin .add (.ix .v1 (.neg .i1)) .v3))) (.a (.iff (.cmp .ne .v4 (.str kj)) (.a (.app 1 .v3)) .nil))) (.a (.af 2 .v4)))
def JK:Fn:=⟨1,5,.cons (.set 1 (.lst .nil)) (.cons (.af 2 (.str kj)) (.cons (.for [3] k9 (.seq .v0) qm) (.a (.ret .v1))))⟩
noncomputable def Zz:Fn:=⟨1,1,.cons (.iff (.cmp .eq .v0 (.con "MOST_WITHIN")) (.cons .bC .nil) .nil) (.a (.ret (.bin .add .v0 .i1)))⟩
noncomputable def xo:Fn:=⟨3,3,.cons (.bH 0 "Reader" "names" (.bin .add (.ix .v1 .i0) (.ix .v1 .i1))) (.cons (.bH 0 "Reader" "signs" .v2) (.a (.bH 0 "Reader" "place" .i0)))⟩
noncomputable def Wv:Fn:=⟨1,1,.cons (.r (.cmp .lt (.fld 0 "Reader" "place") (.bi .len (.a (.fld 0 "Reader" "signs")))) (.ix (.fld 0 "Reader" "signs") (.fld 0 "Reader" "place"))) (.a (.ret (.str [])))⟩
noncomputable def Zv:Fn:=⟨1,2,.cons (.af 1 (.ah 0 "Reader" "here" "Reader.here" .nil)) (.cons (.bH 0 "Reader" "place" (.bin .add (.fld 0 "Reader" "place") .i1)) (.a (.ret .v1)))⟩
def Ql:Fn:=⟨2,2,.cons (.iff (.cmp .ne (.ah 0 "Reader" "take" "Reader.take" .nil) .v1) (.cons .bC .nil) .nil) .nil⟩
def zy:E:= .cmp .eq (.ah 0 "Reader" "here" "Reader.here" .nil) (.str QY)
noncomputable def Zx:Ss:= .cons (.ex (.ah 0 "Reader" "take" "Reader.take" .nil)) (.a (.af 2 (.tup (.c (.str QY) .v2 (.ah 0 "Reader" "part" "Reader.part" (.a .v1))))))
def xE:Fn:=⟨2,3,.cons (.af 2 (.ah 0 "Reader" "part" "Reader.part" (.a .v1))) (.cons (.fj 100000 zy Zx) (.a (.ret .v2)))⟩
def qG:E:= .cmp .eq (.ah 0 "Reader" "here" "Reader.here" .nil) (.str zV)
noncomputable def zH:Ss:= .cons (.ex (.ah 0 "Reader" "take" "Reader.take" .nil)) (.a (.af 2 (.tup (.c (.str zV) .v2 (.ah 0 "Reader" "unit" "Reader.unit" (.a .v1))))))
def jL:Fn:=⟨2,3,.cons (.af 2 (.ah 0 "Reader" "unit" "Reader.unit" (.a .v1))) (.cons (.fj 100000 qG zH) (.a (.ret .v2)))⟩
def Qv:Fn:=⟨2,3,.cons (.iff (.cmp .eq (.ah 0 "Reader" "here" "Reader.here" .nil) (.str j0)) (.cons (.ex (.ah 0 "Reader" "take" "Reader.take" .nil)) (.a (.ret (.tup (.b (.str j0) (.ah 0 "Reader" "unit" "Reader.unit" (.a (.call "one_deeper" (.a .v1))))))))) .nil) (.cons (.iff (.cmp .eq (.ah 0 "Reader" "here" "Reader.here" .nil) (.str [91])) (.cons (.ex (.ah 0 "Reader" "take" "Reader.take" .nil)) (.cons (.af 2 (.ah 0 "Reader" "saying" "Reader.saying" (.a (.call "one_deeper" (.a .v1))))) (.cons (.ex (.ah 0 "Reader" "take_just" "Reader.take_just" (.a (.str [93])))) (.a (.ret .v2))))) .nil) (.a (.ret (.ah 0 "Reader" "fact" "Reader.fact" (.a .v1)))))⟩
noncomputable def Jv:Fn:=⟨2,3,.cons (.af 2 (.ah 0 "Reader" "here" "Reader.here" .nil)) (.cons (.iff (.cmp .mem .v2 (.tup (.b (.str eF) (.str eJ)))) (.cons (.ex (.ah 0 "Reader" "take" "Reader.take" .nil)) (.a (.ret (.tup (.b .v2 (.ah 0 "Reader" "expression" "Reader.expression" (.a .v1))))))) .nil) (.cons (.r (.cmp .mem .v2 (.tup (.b (.str el) (.str eB)))) (.ah 0 "Reader" "count_fact" "Reader.count_fact" (.b (.str []) .v1))) (.cons (.iff (.cmp .eq .v2 (.str gz)) (.cons (.ex (.ah 0 "Reader" "take" "Reader.take" .nil)) (.a (.ret (.ah 0 "Reader" "count_fact" "Reader.count_fact" (.b (.str gz) .v1))))) .nil) (.a (.ret (.ah 0 "Reader" "pair_fact" "Reader.pair_fact" (.a .v1)))))))⟩
noncomputable def qk:Fn:=⟨3,5,.cons (.af 3 (.ah 0 "Reader" "take" "Reader.take" .nil)) (.cons (.iff (.cmp .cH .v3 (.tup (.b (.str el) (.str eB)))) (.cons .bC .nil) .nil) (.cons (.af 4 (.ah 0 "Reader" "limit" "Reader.limit" .nil)) (.a (.ret (.tup (.c (.bin .add .v1 .v3) .v4 (.ah 0 "Reader" "expression" "Reader.expression" (.a .v2))))))))⟩
def jt:Fn:=⟨1,2,.cons (.af 1 (.ah 0 "Reader" "take" "Reader.take" .nil)) (.cons (.iff (.not (.call "is_written" (.b .v1 (.con "MOST_FIGURES")))) (.cons .bC .nil) .nil) (.a (.ret (.aZ .v1))))⟩
noncomputable def xm:Fn:=⟨2,4,.cons (.af 2 (.ah 0 "Reader" "expression" "Reader.expression" (.a .v1))) (.cons (.af 3 (.ah 0 "Reader" "take" "Reader.take" .nil)) (.cons (.iff (.cmp .cH .v3 (.tup (.b (.str b3) (.str [61])))) (.cons .bC .nil) .nil) (.a (.ret (.tup (.c (.dG "SORTS" .v3) .v2 (.ah 0 "Reader" "expression" "Reader.expression" (.a .v1))))))))⟩
def Zc:E:= .cmp .mem (.ah 0 "Reader" "here" "Reader.here" .nil) (.tup (.b (.str [43]) (.str [45])))
noncomputable def wc:Ss:= .cons (.af 3 (.dG "SORTS" (.ah 0 "Reader" "take" "Reader.take" .nil))) (.a (.af 2 (.tup (.c .v3 .v2 (.ah 0 "Reader" "term" "Reader.term" (.a .v1))))))
def Xk:Fn:=⟨2,4,.cons (.af 2 (.ah 0 "Reader" "term" "Reader.term" (.a .v1))) (.cons (.fj 100000 Zc wc) (.a (.ret .v2)))⟩
def WF:E:= .cmp .eq (.ah 0 "Reader" "here" "Reader.here" .nil) (.str [38])
noncomputable def ZF:Ss:= .cons (.ex (.ah 0 "Reader" "take" "Reader.take" .nil)) (.a (.af 2 (.tup (.c (.str d8) .v2 (.ah 0 "Reader" "factor" "Reader.factor" (.a .v1))))))
def QN:Fn:=⟨2,3,.cons (.af 2 (.ah 0 "Reader" "factor" "Reader.factor" (.a .v1))) (.cons (.fj 100000 WF ZF) (.a (.ret .v2)))⟩
def Qy:E:= .cmp .eq (.ah 0 "Reader" "here" "Reader.here" .nil) (.str [46])
noncomputable def Zy:Ss:= .cons (.ex (.ah 0 "Reader" "take" "Reader.take" .nil)) (.a (.af 2 (.tup (.c (.str dH) .v2 (.ah 0 "Reader" "atom" "Reader.atom" (.a .v1))))))
def QD:Fn:=⟨2,3,.cons (.af 2 (.ah 0 "Reader" "atom" "Reader.atom" (.a .v1))) (.cons (.fj 100000 Qy Zy) (.a (.ret .v2)))⟩
def xv:Fn:=⟨2,4,.cons (.af 2 (.ah 0 "Reader" "take" "Reader.take" .nil)) (.cons (.r (.cmp .mem .v2 (.tup (.b (.str [126]) (.str [94])))) (.tup (.b (.dG "SORTS" .v2) (.ah 0 "Reader" "atom" "Reader.atom" (.a (.call "one_deeper" (.a .v1))))))) (.cons (.iff (.cmp .eq .v2 (.str [40])) (.cons (.af 3 (.ah 0 "Reader" "expression" "Reader.expression" (.a (.call "one_deeper" (.a .v1))))) (.cons (.ex (.ah 0 "Reader" "take_just" "Reader.take_just" (.a (.str [41])))) (.a (.ret .v3)))) .nil) (.cons (.r (.cmp .mem .v2 (.tup (.c (.str g9) (.str gO) (.str gU)))) (.tup (.a .v2))) (.cons (.r (.cmp .mem .v2 (.fld 0 "Reader" "names")) (.tup (.b (.str hZ) .v2))) (.cons .bC .nil)))))⟩
def Jo:Fn:=⟨2,5,.cons (.iff (.not (.cu .v1 .str)) (.cons .bC .nil) .nil) (.cons (.af 2 (.call "signs_of" (.a .v1))) (.cons (.af 3 (.make "Reader" "Reader.__init__" (.b .v0 .v2))) (.cons (.af 4 (.ah 3 "Reader" "saying" "Reader.saying" (.a .i0))) (.cons (.iff (.cmp .lt (.fld 3 "Reader" "place") (.bi .len (.a .v2))) (.cons .bC .nil) .nil) (.a (.ret .v4))))))⟩
def Zf:Fn:=⟨2,3,.cons (.af 2 (.call "shown_expression" (.a .v0))) (.cons (.r (.cmp .lt (.cx "EXPRESSION_RANKS" (.b (.ix .v0 .i0) (.con "ATOM_RANK"))) .v1) (.b6 [.inl [40],.inr 2,.inl [41]])) (.a (.ret .v2)))⟩
def aE:Fn:=⟨1,6,.cons (.af 1 (.ix .v0 .i0)) (.cons (.r (.cmp .eq .v1 (.str hZ)) (.ix .v0 .i1)) (.cons (.r (.cmp .mem .v1 (.tup (.c (.str g9) (.str gO) (.str gU)))) .v1) (.cons (.af 2 (.dG "SIGNS" .v1)) (.cons (.r (.cmp .mem .v1 (.tup (.b (.str hC) (.str dF)))) (.bin .add .v2 (.call "expression_of_rank" (.b (.ix .v0 .i1) (.con "ATOM_RANK"))))) (.cons (.af 3 (.dG "EXPRESSION_RANKS" .v1)) (.cons (.af 4 (.call "expression_of_rank" (.b (.ix .v0 .i1) .v3))) (.cons (.af 5 (.call "expression_of_rank" (.b (.ix .v0 .i2) (.bin .add .v3 .i1)))) (.a (.ret (.b6 [.inr 4,.inl [32],.inr 2,.inl [32],.inr 5]))))))))))⟩
def Xq:Fn:=⟨2,3,.cons (.af 2 (.call "shown_saying" (.a .v0))) (.cons (.r (.cmp .lt (.cx "SAYING_RANKS" (.b (.ix .v0 .i0) (.con "UNIT_RANK"))) .v1) (.b6 [.inl [91],.inr 2,.inl [93]])) (.a (.ret .v2)))⟩
def aG:Fn:=⟨1,5,.cons (.af 1 (.dG "WORDS" (.ix .v0 .i0))) (.cons (.af 2 (.call "shown_expression" (.a (.ix .v0 (.neg .i1))))) (.cons (.iff (.cmp .mem (.ix .v0 .i0) (.tup (.b (.str b3) (.str fm)))) (.cons (.af 3 (.call "shown_expression" (.a (.ix .v0 .i1)))) (.a (.ret (.b6 [.inr 3,.inl [32],.inr 1,.inl [32],.inr 2])))) .nil) (.cons (.r (.cmp .mem (.ix .v0 .i0) (.tup (.b (.str eF) (.str eJ)))) (.b6 [.inr 1,.inl [32],.inr 2])) (.cons (.af 4 (.ix .v0 .i1)) (.a (.ret (.b6 [.inr 1,.inl [32],.inr 4,.inl [32],.inr 2])))))))⟩
def aK:Fn:=⟨1,5,.cons (.af 1 (.ix .v0 .i0)) (.cons (.r (.cmp .eq .v1 (.str j0)) (.bin .add (.str kQ) (.call "saying_of_rank" (.b (.ix .v0 .i1) (.con "UNIT_RANK"))))) (.cons (.iff (.cmp .mem .v1 (.tup (.b (.str zV) (.str QY)))) (.cons (.af 2 (.dG "SAYING_RANKS" .v1)) (.cons (.af 3 (.call "saying_of_rank" (.b (.ix .v0 .i1) .v2))) (.cons (.af 4 (.call "saying_of_rank" (.b (.ix .v0 .i2) (.bin .add .v2 .i1)))) (.a (.ret (.b6 [.inr 3,.inl [32],.inr 1,.inl [32],.inr 4])))))) .nil) (.a (.ret (.call "shown_fact" (.a .v0))))))⟩
def Jt:Fn:=⟨2,7,.cons (.fK [2,3] .v0) (.cons (.iff (.not (.cu .v1 .str)) (.cons .bC .nil) .nil) (.cons (.fK [4,5,6] (.cE .part .v1 (.a (.str [32])))) (.cons (.r (.cmp .eq .v4 (.str gr)) (.call "theory_of" (.b .v2 (.bin .add .v3 (.tup (.a (.call "read_saying" (.b .v2 .v6)))))))) (.cons (.r (.and (.cmp .eq .v4 (.str iV)) (.cmp .eq .v3 (.tup .nil))) (.call "theory_of" (.b (.call "words_of" (.b (.bin .add (.ix .v2 .i0) (.tup (.a .v6))) (.ix .v2 .i1))) (.tup .nil)))) (.cons (.r (.and (.cmp .eq .v4 (.str iS)) (.cmp .eq .v3 (.tup .nil))) (.call "theory_of" (.b (.call "words_of" (.b (.ix .v2 .i0) (.bin .add (.ix .v2 .i1) (.tup (.a .v6))))) (.tup .nil)))) (.cons .bC .nil))))))⟩
def qy:Fn:=⟨2,2,.cons (.dX (.ret (.call "taken" (.b .v0 .v1)))) .nil⟩
def zd:Ss:= .cons (.af 1 (.call "with_row" (.b .v1 .v2))) .nil
def Jp:Fn:=⟨1,3,.cons (.af 1 (.con "EMPTY")) (.cons (.for [2] true (.seq .v0) zd) (.a (.ret .v1)))⟩
def Jq:E:= .comp [0] k9 1 [] (.seq .v2) y9 (.bl k9) (.bin .add (.str fq) (.call "shown_saying" (.a .v0)))
def Qq:E:= .comp [0] k9 1 [] (.seq (.ix .v1 .i1)) y9 (.bl k9) (.bin .add (.str iy) .v0)
def Zq:E:= .comp [0] k9 1 [] (.seq (.ix .v1 .i0)) y9 (.bl k9) (.bin .add (.str hG) .v0)
def wn:Fn:=⟨1,4,.cons (.fK [1,2] .v0) (.cons (.set 3 Zq) (.cons (.ext 3 Qq) (.cons (.ext 3 Jq) (.a (.ret .v3)))))⟩
def jJ:Fn:=⟨2,2,.cons (.ret (.bi .sum (.a (.sl .v0 .v1 (.bin .add .v1 .i1))))) .nil⟩
def ju:Fn:=⟨2,3,.cons (.af 2 (.call "_law_cell" (.b .v0 .v1))) (.cons (.r (.cmp .eq (.bin .mod (.call "_law_cell" (.b .v0 .i0)) .i2) .i1) (.lst (.c (.bin .fdiv .v2 (.ix (.lst (.b .i1 .i2)) (.bi .int (.a (.cmp .eq .v1 .i0))))) .i1 (.int 60)))) (.a (.ret (.lst (.c (.bin .add (.bin .mod .v2 (.int 1000000093)) (.int 5)) .i0 (.int 900))))))⟩
noncomputable def qx:Fn:=⟨2,4,.cons (.bu .v0 .i2 (.bin .sub (.ix .v0 .i2) .i1)) (.cons (.r (.cmp .lt (.ix .v0 .i2) .i0) .i0) (.cons (.iff (.cmp .eq (.ix .v0 .i1) .i1) (.cons (.af 2 (.bin .mod (.ix .v0 .i0) .v1)) (.cons (.bu .v0 .i0 (.bin .fdiv (.ix .v0 .i0) .v1)) (.a (.ret .v2)))) .nil) (.cons (.bu .v0 .i0 (.bin .mod (.bin .add (.bin .add (.bin .mul (.ix .v0 .i0) (.int 48817)) (.bin .mul (.int 65029) (.ix .v0 .i2))) (.int 501)) (.int 1000000093))) (.cons (.af 3 (.bin .mod (.bin .mul (.ix .v0 .i0) (.bin .add (.bin .fdiv (.ix .v0 .i0) (.int 2053)) (.int 613))) (.int 998244353))) (.a (.ret (.bin .mod (.bin .mod (.bin .add (.bin .mul .v3 .v3) (.ix .v0 .i0)) (.int 1000000087)) .v1)))))))⟩
noncomputable def Wn:E:= .comp [0] k9 1 [5,6,2,3] (.aS .v1) y9 (.bl k9) (.bin .add (.bin .add (.fb .v1 .v2) (.ix .v3 (.bin .mod (.bin .add (.bin .add .v4 .i1) (.bin .mul .i3 .v0)) (.int 26)))) (.fi .v1 .v2))
noncomputable def Xn:E:= .comp [0] k9 1 [4,3] (.aS .v1) y9 (.bl k9) (.ix .v1 (.bin .mod (.bin .add .v2 (.bin .mul .i3 .v0)) (.int 16)))
noncomputable def Qn:E:= .comp [0] k9 1 [2,3] (.aS .v1) y9 (.bl k9) (.fb (.bin .add (.str [113]) (.bin .mul (.ix .v1 .v2) (.int 7))) (.bin .add .v0 .i1))
noncomputable def jn:E:= .comp [0] k9 1 [2,3,0] (.aS .v1) y9 (.bl k9) (.ix .v1 (.bin .mod (.bin .add .v2 (.bin .mul (.bin .add .i1 (.bin .mul .i2 (.bin .mod (.bin .fdiv .v3 (.int 104)) (.int 6)))) .v0)) (.int 26)))
def Qz:Fn:=⟨2,7,.cons (.af 2 (.str ke)) (.cons (.af 3 (.bin .mod (.bin .fdiv .v0 .i4) (.int 26))) (.cons (.r (.cmp .eq (.bin .mod .v0 .i4) .i0) jn) (.cons (.r (.cmp .eq (.bin .mod .v0 .i4) .i1) Qn) (.cons (.iff (.cmp .eq (.bin .mod .v0 .i4) .i2) (.cons (.af 4 (.lst (.cons (.str [110,111,116,97]) (.cons (.str [111,114,98]) (.cons (.str [97,110,100,121]) (.cons (.str [105,110,110]) (.cons (.str [97,108,108,115]) (.cons (.str [115,97,109,101,121]) (.g (.str [110,111,110,101,97]) (.str [101,97,99,104,115]) (.str [108,101,97,115,116,115]) (.str [109,111,115,116,121]) (.str [115,111,109,101,115]) (.str [110,111,97])))))))))) (.cons (.af 4 (.bin .add .v4 (.lst (.d (.str [107,105,110,100,97]) (.str [116,105,101,115]) (.str [115,97,121,115]) (.str [105]))))) (.a (.ret Xn)))) .nil) (.cons (.af 5 (.fb (.bin .add (.str [113]) (.bin .mul (.ix .v2 .v3) (.int 6))) (.bin .add .i1 (.bin .mod (.bin .fdiv .v0 (.int 104)) (.int 7))))) (.cons (.af 6 (.bin .mod (.bin .fdiv .v0 (.int 728)) (.bin .add (.bi .len (.a .v5)) .i1))) (.a (.ret Wn))))))))⟩
def qf:E:= .comp [0] k9 1 [4,5] (.seq .v9) k9 (.cmp .cH .v0 (.bin .add .v1 .v2)) .v0
def Zh:E:= .comp [0] k9 1 [8] (.seq .v3) y9 (.bl k9) (.bin .add (.fb .v1 (.int 7)) .v0)
def zf:E:= .comp [0] k9 1 [3,6] (.aS .v7) y9 (.bl k9) (.ix .v1 (.call "_law_next" (.b .v2 (.int 26))))
def Wc:Ss:= .cons (.af 7 (.bin .add .i1 (.call "_law_next" (.b .v6 (.int 8))))) (.cons (.af 8 (.cE .join (.str []) (.a zf))) (.cons (.iff (.cmp .mem .v8 (.bin .add .v4 .v5)) (.cons (.af 9 Zh) (.a (.af 8 (.ix qf .i0)))) .nil) (.a (.app 5 .v8))))
def Wj:Fn:=⟨3,10,.cons (.af 3 (.str ke)) (.cons (.af 4 (.lst (.cons (.str eF) (.cons (.str eJ) (.cons (.str el) (.cons (.str eB) (.cons (.str gz) (.cons (.str b3) (.cons (.str zV) (.cons (.str QY) (.g (.str j0) (.str g9) (.str gO) (.str gU) (.str iV) (.str iS)))))))))))) (.cons (.set 5 (.lst (.a (.str gr)))) (.cons (.for [6] k9 (.seq (.bin .add (.bin .mul (.lst (.cons (.share (.call "_law_purse" (.b .v0 .i1))) .nil)) .v1) (.bin .mul (.lst (.cons (.share (.call "_law_purse" (.b .v0 .i2))) .nil)) .v2))) Wc) (.a (.ret (.fi .v5 .i1))))))⟩
def Xt:Fn:=⟨1,6,.cons (.set 1 (.share (.call "_law_purse" (.b .v0 .i0)))) (.cons (.af 2 (.call "_law_next" (.b .v1 (.int 5)))) (.cons (.af 3 (.call "_law_next" (.b .v1 (.int 5)))) (.cons (.af 4 (.call "_law_next" (.b .v1 (.bin .pow (.int 10) (.int 8))))) (.cons (.af 5 (.call "_law_family" (.b (.bin .fdiv .v4 .i2) (.bin .add .v2 .v3)))) (.cons (.iff (.cmp .eq (.bin .mod .v4 .i2) .i1) (.a (.af 5 (.rev .v5))) .nil) (.cons (.iff (.cmp .eq (.bin .mod (.call "_law_cell" (.b .v0 .i0)) .i2) .i1) (.a (.af 5 (.call "_law_any_names" (.c .v0 .v2 .v3)))) .nil) (.a (.ret (.tup (.b (.bi .tuple (.a (.bi .sorted (.a (.fb .v5 .v2))))) (.bi .tuple (.a (.bi .sorted (.a (.fi .v5 .v2)))))))))))))))⟩
def jr:E:= .comp [0] k9 1 [] (.seq .v1) y9 (.bl k9) (.tup (.b (.str hZ) .v0))
def xK:Fn:=⟨2,3,.cons (.af 2 (.bin .add jr (.lst (.c (.tup (.a (.str g9))) (.tup (.a (.str gO))) (.tup (.a (.str gU))))))) (.a (.ret (.ix .v2 (.call "_law_next" (.b .v0 (.bi .len (.a .v2)))))))⟩
def Xd:Fn:=⟨3,6,.cons (.af 3 .i0) (.cons (.iff (.cmp .gt .v1 .i0) (.a (.af 3 (.call "_law_next" (.b .v0 (.int 9))))) .nil) (.cons (.r (.cmp .eq .v3 .i0) (.call "_law_leaf" (.b .v0 .v2))) (.cons (.af 4 (.call "_law_expression" (.c .v0 (.bin .sub .v1 .i1) .v2))) (.cons (.r (.cmp .lt .v3 .i3) (.tup (.b (.ix (.lst (.b (.str hC) (.str dF))) (.bin .sub .v3 .i1)) .v4))) (.cons (.af 5 (.call "_law_expression" (.c .v0 (.bin .sub .v1 .i1) .v2))) (.a (.ret (.tup (.c (.ix (.lst (.g (.str d5) (.str dR) (.str d8) (.str dH) (.str dR) (.str dH))) (.bin .sub .v3 .i3)) .v4 .v5)))))))))⟩
def Jy:Fn:=⟨2,5,.cons (.af 2 (.call "_law_next" (.b .v0 (.int 8)))) (.cons (.af 3 (.call "_law_expression" (.c .v0 (.call "_law_next" (.b .v0 .i4)) .v1))) (.cons (.r (.cmp .lt .v2 .i2) (.tup (.c (.ix (.lst (.b (.str b3) (.str fm))) .v2) .v3 (.call "_law_expression" (.c .v0 (.call "_law_next" (.b .v0 .i3)) .v1))))) (.cons (.r (.cmp .lt .v2 .i4) (.tup (.b (.ix (.lst (.b (.str eF) (.str eJ))) (.bin .sub .v2 .i2)) .v3))) (.cons (.af 4 (.call "_law_next" (.b .v0 (.ix (.lst (.c (.int 5) (.int 18) (.int 100))) (.call "_law_next" (.b .v0 .i3)))))) (.a (.ret (.tup (.c (.ix (.lst (.d (.str el) (.str eB) (.str iH) (.str iR))) (.bin .sub .v2 .i4)) .v4 .v3))))))))⟩
def Qi:Fn:=⟨3,5,.cons (.af 3 .i0) (.cons (.iff (.cmp .gt .v1 .i0) (.a (.af 3 (.call "_law_next" (.b .v0 (.int 6))))) .nil) (.cons (.r (.cmp .lt .v3 .i3) (.call "_law_fact" (.b .v0 .v2))) (.cons (.af 4 (.call "_law_saying" (.c .v0 (.bin .sub .v1 .i1) .v2))) (.cons (.r (.cmp .eq .v3 .i3) (.tup (.b (.str j0) .v4))) (.a (.ret (.tup (.c (.ix (.lst (.b (.str zV) (.str QY))) (.bin .sub .v3 .i4)) .v4 (.call "_law_saying" (.c .v0 (.bin .sub .v1 .i1) .v2))))))))))⟩
noncomputable def QX:Fn:=⟨1,1,.cons (.r (.cmp .mem (.ix .v0 .i0) (.tup (.b (.str d5) (.str dR)))) .i0) (.cons (.r (.cmp .mem (.ix .v0 .i0) (.tup (.b (.str d8) (.str dH)))) (.bin .add .i1 (.bi .int (.a (.cmp .eq (.ix .v0 .i0) (.str dH)))))) (.a (.ret .i3)))⟩
def ay:Fn:=⟨2,6,.cons (.af 2 (.ix .v0 .i0)) (.cons (.af 3 .v2) (.cons (.iff (.cmp .eq .v2 (.str hZ)) (.a (.af 3 (.ix .v0 .i1))) .nil) (.cons (.iff (.cmp .mem .v2 (.tup (.b (.str hC) (.str dF)))) (.a (.af 3 (.bin .add (.ix (.str eE) (.bi .int (.a (.cmp .eq .v2 (.str dF))))) (.call "_law_text" (.b (.ix .v0 .i1) .i3))))) .nil) (.cons (.iff (.cmp .lt (.call "_law_level" (.a .v0)) .i3) (.cons (.af 4 (.ck [(d5,[32,43,32]),(dR,[32,45,32]),(d8,[32,38,32]),(dH,[32,46,32])] 2)) (.cons (.af 5 (.call "_law_level" (.a .v0))) (.a (.af 3 (.bin .add (.bin .add (.call "_law_text" (.b (.ix .v0 .i1) .v5)) .v4) (.call "_law_text" (.b (.ix .v0 .i2) (.bin .add .v5 .i1)))))))) .nil) (.cons (.r (.cmp .lt (.call "_law_level" (.a .v0)) .v1) (.bin .add (.bin .add (.str [40]) .v3) (.str [41]))) (.a (.ret .v3)))))))⟩
noncomputable def Zm:Fn:=⟨1,1,.cons (.ret (.bin .sub (.bin .sub .i2 (.bi .int (.a (.cmp .eq (.ix .v0 .i0) (.str zV))))) (.bin .mul .i2 (.bi .int (.a (.cmp .eq (.ix .v0 .i0) (.str QY))))))) .nil⟩
def bx:Fn:=⟨2,6,.cons (.af 2 (.ix .v0 .i0)) (.cons (.iff (.cmp .mem .v2 (.tup (.b (.str zV) (.str QY)))) (.cons (.af 3 (.call "_law_saying_level" (.a .v0))) (.a (.af 4 (.bin .add (.bin .add (.bin .add (.bin .add (.call "_law_saying_text" (.b (.ix .v0 .i1) .v3)) (.str [32])) .v2) (.str [32])) (.call "_law_saying_text" (.b (.ix .v0 .i2) (.bin .add .v3 .i1))))))) (.a (.iff (.cmp .eq .v2 (.str j0)) (.a (.af 4 (.bin .add (.str kQ) (.call "_law_saying_text" (.b (.ix .v0 .i1) .i2))))) (.a (.iff (.cmp .mem .v2 (.tup (.b (.str b3) (.str fm)))) (.cons (.af 5 (.ix (.lst (.b (.str [32,61,32]) (.str kh))) (.bi .int (.a (.cmp .eq .v2 (.str b3)))))) (.a (.af 4 (.bin .add (.bin .add (.call "_law_text" (.b (.ix .v0 .i1) .i0)) .v5) (.call "_law_text" (.b (.ix .v0 .i2) .i0)))))) (.a (.iff (.cmp .mem .v2 (.tup (.b (.str eF) (.str eJ)))) (.a (.af 4 (.bin .add (.bin .add .v2 (.str [32])) (.call "_law_text" (.b (.ix .v0 .i1) .i0))))) (.cons (.af 2 (.ck [(el,nk),(eB,nP),(iH,my),(iR,nD)] 2)) (.a (.af 4 (.bin .add (.bin .add (.bin .add .v2 (.cJ (.ix .v0 .i1))) (.str [32])) (.call "_law_text" (.b (.ix .v0 .i2) .i0))))))))))))) (.cons (.r (.cmp .lt (.call "_law_saying_level" (.a .v0)) .v1) (.bin .add (.bin .add (.str [91]) .v4) (.str [93]))) (.a (.ret .v4))))⟩
def wg:Fn:=⟨3,6,.cons (.af 3 (.ix .v0 .i0)) (.cons (.af 4 (.lst (.a .v3))) (.cons (.iff (.cmp .eq .v3 (.str hZ)) (.a (.af 4 (.lst (.a (.ix .v0 .i1))))) .nil) (.cons (.iff (.cmp .mem .v3 (.tup (.b (.str hC) (.str dF)))) (.a (.af 4 (.bin .add (.lst (.a (.ix (.str eE) (.bi .int (.a (.cmp .eq .v3 (.str dF))))))) (.call "_law_tokens" (.c (.ix .v0 .i1) .i3 .v2))))) .nil) (.cons (.iff (.cmp .lt (.call "_law_level" (.a .v0)) .i3) (.cons (.af 5 (.call "_law_level" (.a .v0))) (.cons (.af 4 (.call "_law_tokens" (.c (.ix .v0 .i1) .v5 .v2))) (.cons (.af 4 (.bin .add .v4 (.lst (.a (.ck [(d5,[43]),(dR,[45]),(d8,[38]),(dH,[46])] 3))))) (.a (.af 4 (.bin .add .v4 (.call "_law_tokens" (.c (.ix .v0 .i2) (.bin .add .v5 .i1) .v2)))))))) .nil) (.cons (.r (.or (.cmp .lt (.call "_law_level" (.a .v0)) .v1) (.cmp .eq (.call "_law_next" (.b .v2 .i4)) .i3)) (.bin .add (.bin .add (.lst (.a (.str [40]))) .v4) (.lst (.a (.str [41]))))) (.a (.ret .v4)))))))⟩
def jd:Fn:=⟨2,5,.cons (.af 2 (.ix .v0 .i0)) (.cons (.iff (.cmp .mem .v2 (.tup (.b (.str b3) (.str fm)))) (.cons (.af 3 (.bin .add (.call "_law_tokens" (.c (.ix .v0 .i1) .i0 .v1)) (.lst (.a (.ix (.lst (.b (.str [61]) (.str b3))) (.bi .int (.a (.cmp .eq .v2 (.str b3))))))))) (.a (.ret (.bin .add .v3 (.call "_law_tokens" (.c (.ix .v0 .i2) .i0 .v1)))))) .nil) (.cons (.af 4 (.call "_law_tokens" (.c (.ix .v0 (.neg .i1)) .i0 .v1))) (.cons (.r (.cmp .mem .v2 (.tup (.b (.str eF) (.str eJ)))) (.bin .add (.lst (.a .v2)) .v4)) (.cons (.r (.cmp .mem .v2 (.tup (.b (.str el) (.str eB)))) (.bin .add (.lst (.b .v2 (.cJ (.ix .v0 .i1)))) .v4)) (.a (.ret (.bin .add (.lst (.c (.str gz) (.fi .v2 .i4) (.cJ (.ix .v0 .i1)))) .v4)))))))⟩
def jk:Fn:=⟨3,6,.cons (.af 3 (.ix .v0 .i0)) (.cons (.iff (.cmp .mem .v3 (.tup (.b (.str zV) (.str QY)))) (.cons (.af 4 (.call "_law_saying_level" (.a .v0))) (.cons (.af 5 (.bin .add (.call "_law_saying_tokens" (.c (.ix .v0 .i1) .v4 .v2)) (.lst (.a .v3)))) (.a (.af 5 (.bin .add .v5 (.call "_law_saying_tokens" (.c (.ix .v0 .i2) (.bin .add .v4 .i1) .v2))))))) (.a (.iff (.cmp .eq .v3 (.str j0)) (.a (.af 5 (.bin .add (.lst (.a (.str j0))) (.call "_law_saying_tokens" (.c (.ix .v0 .i1) .i2 .v2))))) (.a (.af 5 (.call "_law_fact_tokens" (.b .v0 .v2))))))) (.cons (.r (.or (.cmp .lt (.call "_law_saying_level" (.a .v0)) .v1) (.cmp .eq (.call "_law_next" (.b .v2 .i4)) .i3)) (.bin .add (.bin .add (.lst (.a (.str [91]))) .v5) (.lst (.a (.str [93]))))) (.a (.ret .v5))))⟩
noncomputable def JI:Fn:=⟨1,2,.cons (.af 1 (.str ke)) (.a (.ret (.bin .add (.bi .int (.a (.cmp .mem .v0 .v1))) (.bin .mul .i2 (.bi .int (.a (.cmp .mem .v0 (.str ef))))))))⟩
def Jh:Ss:= .cons (.af 5 (.call "_law_next" (.b .v1 .i3))) (.cons (.iff (.and (.cmp .gt .v3 .i0) (.and (.cmp .eq .v5 .i0) (.and (.cmp .gt (.call "_law_sort" (.a (.ix .v4 .i0))) .i0) (.cmp .eq (.call "_law_sort" (.a (.ix .v4 .i0))) (.call "_law_sort" (.a (.ix (.ix .v0 (.bin .sub .v3 .i1)) (.neg .i1)))))))) (.a (.af 5 .i1)) .nil) (.cons (.iff (.cmp .gt .v3 .i0) (.a (.af 2 (.bin .add .v2 (.bin .mul (.str [32]) .v5)))) .nil) (.a (.af 2 (.bin .add .v2 .v4)))))
def jz:Fn:=⟨2,6,.cons (.af 2 (.bin .mul (.str [32]) (.call "_law_next" (.b .v1 .i3)))) (.cons (.for [3,4] false (.bN 0) Jh) (.a (.ret (.bin .add .v2 (.bin .mul (.str [32]) (.call "_law_next" (.b .v1 .i3)))))))⟩
def Xl:E:= .comp [0] k9 1 [0,1] (.aS (.bi .len (.a .v1))) y9 (.bl k9) (.call "_law_same" (.b (.ix .v1 .v0) (.ix .v2 .v0)))
def Qs:Fn:=⟨2,2,.cons (.iff (.cu .v1 .tuple) (.cons (.r (.or (.not (.cu .v0 .tuple)) (.cmp .ne (.bi .len (.a .v0)) (.bi .len (.a .v1)))) (.bl y9)) (.a (.ret (.bi .all (.a Xl))))) .nil) (.cons (.r (.cu .v1 .str) (.and (.cu .v0 .str) (.cmp .eq .v0 .v1))) (.a (.ret (.and (.cu .v0 .int) (.and (.not (.cu .v0 .bool)) (.cmp .eq .v0 .v1))))))⟩
def jm:E:= .comp [0] k9 1 [] (.seq .v1) y9 (.bl k9) (.bin .add (.str fq) (.call "_law_saying_text" (.b .v0 .i0)))
def Wl:E:= .comp [0] k9 1 [] (.seq (.ix .v0 .i0)) y9 (.bl k9) (.bin .add (.str hG) .v0)
def wm:E:= .comp [0] k9 1 [] (.seq (.ix .v0 .i1)) y9 (.bl k9) (.bin .add (.str iy) .v0)
def Wi:Fn:=⟨2,3,.cons (.af 2 (.bin .add Wl wm)) (.a (.ret (.bin .add .v2 jm)))⟩
def zh:Ss:= .cons (.set 5 (.share (.call "_law_purse" (.b .v0 .v4)))) (.a (.app 3 (.call "_law_saying" (.c .v5 (.call "_law_next" (.b .v5 .i3)) (.bin .add (.ix .v1 .i0) (.ix .v1 .i1))))))
def Xp:Fn:=⟨3,6,.cons (.set 3 (.lst .nil)) (.cons (.for [4] k9 (.bz .i4 (.bin .add .i4 .v2)) zh) (.a (.ret .v3)))⟩
def je:Ss:= .cons (.set 8 (.share (.call "_law_purse" (.b .v0 (.bin .add (.int 16) .v5))))) (.a (.app 4 (.bin .add (.str fq) (.call "_law_spaced" (.b (.call "_law_saying_tokens" (.c .v7 .i0 .v8)) .v8)))))
def we:Ss:= .cons (.ins 4 (.call "_law_next" (.b .v3 (.bin .add .v5 .i1))) .v6) .nil
def jj:Fn:=⟨4,9,.cons (.set 4 (.lst .nil)) (.cons (.for [5,6] false (.bY (.call "_law_shown_rows" (.b .v1 (.lst .nil)))) we) (.cons (.for [5,7] false (.bN 2) je) (.a (.ret .v4))))⟩
def mF:Fn:=⟨1,9,.cons (.af 1 (.call "_law_words" (.a .v0))) (.cons (.set 2 (.share (.call "_law_purse" (.b .v0 .i3)))) (.cons (.af 3 (.call "_law_sayings" (.c .v0 .v1 (.call "_law_next" (.b .v2 (.int 13)))))) (.cons (.af 4 (.call "_law_mixed_rows" (.d .v0 .v1 .v3 .v2))) (.cons (.af 5 (.bi .list (.a .v4))) (.cons (.af 6 (.call "read_theory" (.a .v5))) (.cons (.r (.or (.not (.call "_law_same" (.b .v6 (.tup (.b .v1 (.bi .tuple (.a .v3))))))) (.cmp .ne .v5 .v4)) (.bl false)) (.cons (.set 7 (.call "shown_theory" (.a (.tup (.b .v1 (.bi .tuple (.a .v3))))))) (.cons (.r (.or (.not (.cu .v7 .list)) (.not (.call "_law_same" (.b (.bi .tuple (.a .v7)) (.bi .tuple (.a (.call "_law_shown_rows" (.b .v1 .v3)))))))) (.bl false)) (.cons (.af 8 (.bi .list (.a .v7))) (.cons (.app 7 (.str gr)) (.cons (.r (.cmp .ne (.call "shown_theory" (.a .v6)) .v8) (.bl false)) (.a (.ret (.call "_law_same" (.b (.call "read_theory" (.a .v8)) (.tup (.b .v1 (.bi .tuple (.a .v3)))))))))))))))))))⟩
def prog:Prog:=⟨[("is_written",qz),("is_word",ZG),("is_name",QF),("words_of",Xx),("theory_of",Qt),("sort_of_sign",xt),("signs_of",JK),("one_deeper",Zz),("Reader.__init__",xo),("Reader.here",Wv),("Reader.take",Zv),("Reader.take_just",Ql),("Reader.saying",xE),("Reader.part",jL),("Reader.unit",Qv),("Reader.fact",Jv),("Reader.count_fact",qk),("Reader.limit",jt),("Reader.pair_fact",xm),("Reader.expression",Xk),("Reader.term",QN),("Reader.factor",QD),("Reader.atom",xv),("read_saying",Jo),("expression_of_rank",Zf),("shown_expression",aE),("saying_of_rank",Xq),("shown_fact",aG),("shown_saying",aK),("taken",Jt),("with_row",qy),("read_theory",Jp),("shown_theory",wn),("_law_cell",jJ),("_law_purse",ju),("_law_next",qx),("_law_family",Qz),("_law_any_names",Wj),("_law_words",Xt),("_law_leaf",xK),("_law_expression",Xd),("_law_fact",Jy),("_law_saying",Qi),("_law_level",QX),("_law_text",ay),("_law_saying_level",Zm),("_law_saying_text",bx),("_law_tokens",wg),("_law_fact_tokens",jd),("_law_saying_tokens",jk),("_law_sort",JI),("_law_spaced",jz),("_law_same",Qs),("_law_shown_rows",Wi),("_law_sayings",Xp),("_law_mixed_rows",jj),("law",mF)],[("WorldError", "ValueError"),("NoName", "WorldError"),("NoText", "WorldError"),("Crowded", "WorldError")],[("FIGURES",.str ef),("MOST_LETTERS",.int 8),("LETTERS",.str ke),("TAKEN",.tup [.str eF,.str eJ,.str el,.str eB,.str gz,.str b3,.str zV,.str QY,.str j0,.str g9,.str gO,.str gU,.str iV,.str iS,.str gr]),("MOST_NAMES",.int 4),("MOST_SAYINGS",.int 12),("SINGLE_SIGNS",.str pK),("MOST_WITHIN",.int 20),("MOST_FIGURES",.int 2),("SORTS",.exc "" [([43],.str d5),([45],.str dR),([126],.str hC),([94],.str dF),(b3,.str b3),([61],.str fm)]),("ATOM_RANK",.int 4),("EXPRESSION_RANKS",.exc "" [(d5,.int 1),(dR,.int 1),(d8,.int 2),(dH,.int 3)]),("SIGNS",.exc "" [(d5,.str [43]),(dR,.str [45]),(d8,.str [38]),(dH,.str [46]),(hC,.str [126]),(dF,.str [94])]),("UNIT_RANK",.int 3),("SAYING_RANKS",.exc "" [(QY,.int 1),(zV,.int 2)]),("WORDS",.exc "" [(b3,.str b3),(fm,.str [61]),(eF,.str eF),(eJ,.str eJ),(el,.str el),(eB,.str eB),(iH,.str FA),(iR,.str Fp)]),("EMPTY",.tup [.tup [.tup [],.tup []],.tup []])]⟩
abbrev k8 (m:Nat):Fx:=⟨call prog m,prog.cl,prog.con⟩
theorem Wx (f): ∀ ds,(∀ d∈ds,step d h= .ok (f d) h)->Gx step ds h= .ok (ds.filterMap f) h
 | [],_=>rfl
 | d::ds,a=>by
  have b:=Wx f ds λd hd=>a d (Aa5 _ hd)
  rw [Gx,a d Aa4]
  simp only [b]
  cases q:f d<;>simp [q]
def A3 (f) (hi:Gv F it Y h= .ok ds h) (o:ds.length<=aW)
 (e: ∀d∈ds,∃i b,Gz tg one d (Aa1 k u0++aC.map λj=>Gp Y j)=y0 i/\Gr F c i h= .ok b h/\(if b=k9 then ∃w y,eval F elt i h= .ok w h/\w.d=y0 y/\f d=y0 y else f d=u0)):
 eval F (.comp tg one k aC it k9 c elt) Y h= .ok (.own (ds.filterMap f)) h:=by
 rw [eval,hi,R.aa,if_pos o,Wx f]
 ·rfl
 intro d hd
 obtain⟨i,b,n,m,a⟩:=e d hd
 rw [n]
 show((Gr F c i h).bind _)=_
 rw [m]
 cases b with
 | true=>
  obtain⟨w,y,g,p,l⟩:=a
  simp [g,p,l]
 | false=>
  rw [if_neg (by simp)]at a
  simp [a]
def Xm (f) (hi:Gv F it Y h= .ok ds h) (g:ds.length<=aW)
 (a: ∀d∈ds,∃i,Gz tg one d (Aa1 k u0++aC.map λj=>Gp Y j)=y0 i/\ ∃w,eval F elt i h= .ok w h/\w.d=y0 (f d)):
 eval F (.comp tg one k aC it y9 c elt) Y h= .ok (.own (ds.map f)) h:=by
 rw [eval,hi,R.aa,if_pos g,Wx (λd=>y0 (f d))]
 ·simp [List.filterMap_eq_map']
 intro d hd
 obtain⟨i,e,w,b,l⟩:=a d hd
 rw [e]
 simp [b,l]
def Fw (bnd) (body) (d) (ds) (Y) (h):GB bnd body (d::ds) Y h=match bnd d Y with
 | none=> .fail
 | some c=>match body c h with
  | .next b a=>GB bnd body ds b a
  | .cont b a=>GB bnd body ds b a
  | .brk b a=> .next b a
  | o=>o:=rfl
def xg (a:bnd d Y=y0 Y1) (b:body Y1 h= .next Y2 h2):GB bnd body (d::ds) Y h=GB bnd body ds Y2 h2:=by
 rw [Fw,a];simp [b]
@[simp] theorem GX (i) (d) (Y):Gz [i] k9 d Y=y0 (GD Y i (.v d)):=rfl
@[simp] theorem G6 (tg) (ds) (Y):Gz tg y9 (.tup ds) Y=aM tg ds Y:=rfl
@[simp] theorem Ho (i j):Gi .mod i j=if 0<j then y0 (i % j)else none:=rfl
@[simp] theorem uM (i j):Gi .fdiv i j=if 0<j/\j<kK then y0 (i / j)else none:=rfl
def WC (a b:Nat) (h:a<2 ^ 64):Gi .mul (a:Int) (b:Int)=y0 ((a*b:Nat):Int):=by
 have c:(-dy< a/\ a<dy)\/(-dy< b/\ b<dy):=by rw [GR];omega
 show(if _ then _ else _)=_
 rw [if_pos c,Int.natCast_mul]
def fN (m)(hd:d∈(Ac4 m).map λ(i:Nat)=>D.int (i:Int)): ∃i:Nat,i<m/\d= .int (i:Int):=by
 obtain⟨i,a,rfl⟩:=Ad6.mp hd
 exact⟨i,Ai3.mp a,rfl⟩
def Wu {m:Nat}(e:eval F a Y h= .ok (.v (.int (m:Int))) h) (c:m<=1000000):Gv F (.aS a) Y h= .ok ((Ac4 m).map λ(i:Nat)=> .int (i:Int)) h:=by
 have b: -fu<= m/\ m<fu:=by rw [GO];lia
 rw [Gv,e,R.aa,int?_int,R.ab,R.aa,if_pos b,Af2]
end M
local macro_rules | `(tactic| simp_all [$xs,*]) => `(tactic| simp only [M.exec, M.execs, M.Gr, M.eval, M.Gj, M.Gk, M.Gv, M.GC, M.GE, M.Gp, M.Gm, M.GD, M.aM, M.R.aa, M.R.aA, M.R.ab, M.O.b5, M.O.d7, M.O.fF, M.W.cj, M.W.f7, M.W.c8, M.W.fV, M.W.fH, Ab3, Ae2, Ae, Ad8, Nat.reduceSub, Ac9, Ak9, M.Gn, Bool.not_true, Ak8, M.Gy, Ad5, M.Kk, M.Kj, M.Kf, M.GV, M.Ki, M.Km, M.int?_int, M.Ga, M.Gq, M.Kc, M.GG, M.GX, M.G6, $xs,*])
namespace M
def FY (q:eval F e Y h= .ok (.v (.lst xs)) h):Gv F (.seq e) Y h= .ok xs h:=by
 rw [Gv,q];rfl
def iU (q:eval F e Y h= .ok (.v (.tup xs)) h):Gv F (.seq e) Y h= .ok xs h:=by
 rw [Gv,q];rfl
def za (e:exec F s Y h= .next Y1 h1):execs F (.cons s ss) Y h=execs F ss Y1 h1:=by rw [execs,e,O.b5]
def qa (e:exec F s Y h= .ret w h1):execs F (.cons s ss) Y h= .ret w h1:=by rw [execs,e,O.d7]
def Wm (e:Gr F c Y h= .ok k9 h1):exec F (.iff c a b) Y h=execs F a Y h1:=by rw [exec,e,R.aA]
def Zn (e:Gr F c Y h= .ok y9 h1):exec F (.iff c a b) Y h=execs F b Y h1:=by rw [exec,e,R.aA]
def zj (a:GE e=u0) (q:eval F e Y h= .ok (.own xs) h1):exec F (.ret e) Y h= .ret (.own xs) h1:=by
 rw [exec,a];simp [q,R.aA]
def Qc (a:GE e=u0) (q:eval F e Y h= .ok (.v d) h1):exec F (.ret e) Y h= .ret (.v d) h1:=by
 rw [exec,a];simp [q,R.aA]
def PH (h:AH):Prop:= ∀r,r<h.length-> ∃a f m:Int,h[r]? =y0 (.lst [.int a,.int f,.int m])
def qt (e:h[r]? =y0 (.lst xs)) (i):bI (.v (.ref r)) (.v (.int i)) h=bc xs i:=by
 simp [bI,W.a0,W.seq?,e]
def kO (x y z:D):bc [x,y,z] 0=y0 x:=rfl
def p8 (x y z:D):bc [x,y,z] 1=y0 y:=rfl
def iF (x y z:D):bc [x,y,z] 2=y0 z:=rfl
theorem PH.set (P:PH h) (r) (a f m):PH (h.set r (.lst [.int a,.int f,.int m])):=λq b=>by
 rw [Ad]at b
 by_cases e:q=r
 ·subst e
  exact⟨a,f,m,by rw [Ad0 b]⟩
 ·obtain⟨g,c,i,d⟩:=P q b
  exact⟨g,c,i,by rw [Ad7 (λh=>e h.symm),d]⟩
def PH.nil:PH []:=λr a=>absurd a (Nat.not_lt_zero _)
def PH.app (P:PH h) (a f m):PH (h++ [.lst [.int a,.int f,.int m]]):=λq b=>by
 by_cases e:q<h.length
 ·rw [Ae0 e]
  exact P q e
 ·simp at b
  have:q=h.length:=by lia
  subst this
  exact⟨a,f,m,by simp⟩
theorem PH.take (P:PH h) (n):PH (h.take n):=λq a=>by
 rw [Ae9]at a
 rw [List.getElem?_take,if_pos (by lia)]
 exact P q (by lia)
def WG (a:eval F e Y h= .ok (.v d) h) (f:Gp Y i=y0 (.v (.ref r))) (b:h[r]? =y0 (.lst xs)) (c:dj xs.length j=y0 n) (k:flat d=k9) (g:h2=h.set r (.lst (xs.set n d))):
 exec F (.bu (.var i) (.int j) e) Y h= .next Y h2:=by
 subst g
 simp only [exec,a,R.aA,eval,f,Kt,b,c,k,if_true]
def uv (a b) (h: -(2:Int) ^ 64<b/\b<2 ^ 64):Gi .mul a b=y0 (a*b):=by
 have c:(-dy<a/\a<dy)\/(-dy<b/\b<dy):=by rw [GR];exact .inr h
 show(if _ then _ else _)=_
 rw [if_pos c]
def zB (a b) (h: -(2:Int) ^ 64<a/\a<2 ^ 64):Gi .mul a b=y0 (a*b):=by
 have c:(-dy<a/\a<dy)\/(-dy<b/\b<dy):=by rw [GR];exact .inl h
 show(if _ then _ else _)=_
 rw [if_pos c]
def zp (a b) (h:0<b):Gi .mod a b=y0 (a % b):=by
 rw [Ho,if_pos h]
def wB (a b) (h:0<b) (c:b<1073741824):Gi .fdiv a b=y0 (a / b):=by
 rw [uM,if_pos ⟨h,by rw [Ke];exact c⟩]
def Xy (i j) (h):Gw .eq (.v (.int i)) (.v (.int j)) h=y0 (u9 (i=j)):=by
 rfl
def Jf (k)(P:PH h) (j:r<h.length) (J:0<m) (U:m<1073741824):
 ∃(v:Nat) (o:AH),v<m/\PH o/\o.length=h.length/\call prog (k+1) "_law_next" [.v (.ref r),.v (.int (m:Int))] h= .ok (.v (.int (v:Int))) o:=by
 obtain⟨a,f,g,y⟩:=P r j
 rw [Gb (d:=qx) rfl _ _ _ rfl]
 have e:(h.set r (.lst [.int a,.int f,.int (g-1)]))[r]? =y0 _:=Ad0 j
 have Q: ∀F Y,Gp Y 0=y0 _->exec F (.bu .v0 (.int 2) (.bin .sub (.ix .v0 (.int 2)) (.int 1))) Y h= .next Y (h.set r (.lst [.int a,.int f,.int (g-1)])):=λF Y q=>
  WG (d:= .int (g-1)) (n:=2) (by simp only [eval,q,qt y,R.aa,iF,R.ab,Gy,xn]) q y rfl rfl rfl
 simp only [qx]
 rw [za (Q _ _ rfl)]
 have c:(0:Int)<(m:Int):=by omega
 by_cases q:g-1<0
 ·refine⟨0,_,J,P.set r a f (g-1),by rw [Ad],?_⟩
  simp_all [qt e,iF,Jm,q,decide_true]
  rw [Ga _ _ _ (by rw [Ad])]
  rfl
 by_cases s:f=1
 ·subst s
  have t:((h.set r (.lst [.int a,.int 1,.int (g-1)])).set r (.lst [.int (a / m),.int 1,.int (g-1)]))[r]? =y0 _:=Ad0 (by rw [Ad];exact j)
  have l: ∀F Y,Gp Y 0=y0 _->Gp Y 1=y0 (.v (.int (m:Int)))->exec F (.bu .v0 (.int 0) (.bin .fdiv (.ix .v0 (.int 0)) .v1)) Y _= .next Y ((h.set r (.lst [.int a,.int 1,.int (g-1)])).set r (.lst [.int (a / m),.int 1,.int (g-1)])):=λF Y i D=>
   WG (d:= .int (a / m)) (n:=0) (by simp only [eval,i,D,qt e,R.aa,kO,R.ab,Gy,wB a m c (by omega)]) i e rfl rfl rfl
  refine⟨(a % m).toNat,_,?_,(P.set r a 1 (g-1)).set r (a / m) 1 (g-1),by rw [Ad,Ad],?_⟩
  ·have:=Aj3 a c
   have:=Ah7 a (Am c)
   omega
  ·have p:(((a % m).toNat:Nat):Int)=a % m:=Al0 (Ah7 a (Am c))
   show Gu _ (execs _ _ [y0 (.v (.ref r)),y0 (.v (.int (m:Int))),u0,u0] _)=_
   rw [za (Y1:= [y0 (.v (.ref r)),y0 (.v (.int (m:Int))),u0,u0]) (h1:=h.set r (.lst [.int a,.int 1,.int (g-1)])) (by simp_all [qt e,iF,Jm,q,decide_false])]
   rw [qa (w:= .v (.int (a % m))) (h1:=(h.set r (.lst [.int a,.int 1,.int (g-1)])).set r (.lst [.int (a / m),.int 1,.int (g-1)]))]
   ·rw [Ga _ _ _ (by rw [Ad,Ad]),p]
   ·rw [Wm (h1:=h.set r (.lst [.int a,.int 1,.int (g-1)])) (by simp_all [qt e,p8,Xy,decide_true])]
    rw [za (Y1:= [y0 (.v (.ref r)),y0 (.v (.int (m:Int))),y0 (.v (.int (a % m))),u0]) (h1:=h.set r (.lst [.int a,.int 1,.int (g-1)])) (by simp_all [qt e,kO,zp a m c])]
    rw [za (l _ _ rfl rfl)]
    simp_all []
 ·generalize x:(a*48817+65029*(g-1)+501) % 1000000093=A
  have H:0<=A/\A<1000000093:=by
   rw [← x]
   exact⟨Ah7 _ (by decide),Aj3 _ (by decide)⟩
  have t:((h.set r (.lst [.int a,.int f,.int (g-1)])).set r (.lst [.int A,.int f,.int (g-1)]))[r]? =y0 (.lst [.int A,.int f,.int (g-1)]):=Ad0 (by rw [Ad];exact j)
  have z:Gi .mul a 48817=y0 (a*48817):=uv a 48817 (by decide)
  have G:Gi .mul 65029 (g-1)=y0 (65029*(g-1)):=zB _ _ (by decide)
  have I:Gi .mod (a*48817+65029*(g-1)+501) 1000000093=y0 A:=by rw [zp _ _ (by decide),x]
  have l: ∀F Y,Gp Y 0=y0 (.v (.ref r))->exec F (.bu .v0 (.int 0) (.bin .mod (.bin .add (.bin .add (.bin .mul (.ix .v0 (.int 0)) (.int 48817)) (.bin .mul (.int 65029) (.ix .v0 (.int 2)))) (.int 501)) (.int 1000000093))) Y (h.set r (.lst [.int a,.int f,.int (g-1)]))= .next Y ((h.set r (.lst [.int a,.int f,.int (g-1)])).set r (.lst [.int A,.int f,.int (g-1)])):=λF Y i=>
   WG (d:= .int A) (n:=0) (by simp only [eval,i,qt e,R.aa,kO,iF,R.ab,Gy,z,G,Xg,I]) i e rfl rfl rfl
  generalize u:A*(A / 2053+613) % 998244353=B
  have T:0<=B/\B<998244353:=by
   rw [← u]
   exact⟨Ah7 _ (by decide),Aj3 _ (by decide)⟩
  have L:Gi .mul A (A / 2053+613)=y0 (A*(A / 2053+613)):=zB _ _ (by omega)
  have M:Gi .mul B B=y0 (B*B):=zB _ _ (by omega)
  have E:Gi .fdiv A 2053=y0 (A / 2053):=wB _ _ (by decide) (by decide)
  have N:Gi .mod (A*(A / 2053+613)) 998244353=y0 B:=by rw [zp _ _ (by decide),u]
  have C:Gi .mod (B*B+A) 1000000087=y0 ((B*B+A) % 1000000087):=zp _ _ (by decide)
  have K:Gi .mod ((B*B+A) % 1000000087) m=y0 ((B*B+A) % 1000000087 % m):=zp _ _ c
  refine⟨((B*B+A) % 1000000087 % m).toNat,_,?_,(P.set r a f (g-1)).set r A f (g-1),by rw [Ad,Ad],?_⟩
  ·have:=Aj3 ((B*B+A) % 1000000087) c
   have:=Ah7 ((B*B+A) % 1000000087) (Am c)
   omega
  ·have p:((((B*B+A) % 1000000087 % m).toNat:Nat):Int)=(B*B+A) % 1000000087 % m:=Al0 (Ah7 _ (Am c))
   have O:exec (k8 k) (.r (.cmp .lt (.ix .v0 (.int 2)) (.int 0)) (.int 0)) [y0 (.v (.ref r)),y0 (.v (.int (m:Int))),u0,u0] (h.set r (.lst [.int a,.int f,.int (g-1)]))= .next [y0 (.v (.ref r)),y0 (.v (.int (m:Int))),u0,u0] (h.set r (.lst [.int a,.int f,.int (g-1)])):=by
    simp_all [qt e,iF,Jm,q,decide_false]
   have S: ∀b,exec (k8 k) (.iff (.cmp .eq (.ix .v0 (.int 1)) (.int 1)) b .nil) [y0 (.v (.ref r)),y0 (.v (.int (m:Int))),u0,u0] (h.set r (.lst [.int a,.int f,.int (g-1)]))= .next [y0 (.v (.ref r)),y0 (.v (.int (m:Int))),u0,u0] (h.set r (.lst [.int a,.int f,.int (g-1)])):=by
    intro b
    simp_all [qt e,p8,Xy,s,decide_false]
   show Gu _ (execs _ _ [y0 (.v (.ref r)),y0 (.v (.int (m:Int))),u0,u0] _)=_
   rw [za O,za (S _),za (l _ _ rfl)]
   simp_all [qt t,kO,E,Xg,L,N,M,C,K]
   rw [Ga _ _ _ (by rw [Ad,Ad]),p]
abbrev bf (ns:List Int):W:= .v (.lst (ns.map .int))
theorem zT: ∀xs:List Int,Kn (xs.map .int)=y0 xs.sum
 | []=>rfl
 | x::xs=>by simp [Kn,zT xs]
def Ef (f:α->β) (xs) (lo hi):cut (xs.map f) lo hi=(cut xs lo hi).map f:=by
 simp [cut,Al1]
def Bw (xs:List α) (lo hi):(cut xs lo hi).length<=xs.length:=by
 simp [cut,Ah1]
 lia
def m1 (k) (ns) (b:ns.length<=63) (j) (h): ∃c:Int,call prog (k+1) "_law_cell" [bf ns,.v (.int (j:Int))] h= .ok (.v (.int c)) h:=by
 rw [Gb rfl _ _ _ rfl]
 have a:(cut ns (y0 j) (y0 (j+1))).length<=aW:=by
  have:=Bw ns (y0 j) (y0 (j+1))
  rw [Gc];lia
 refine⟨(cut ns (y0 j) (y0 (j+1))).sum,?_⟩
 simp_all [jJ,Xg,tm,Ef,D0,zT,Ab1,a,if_true]
def Jx (k) (ns) (m:ns.length<=63) (j) (h): ∃a f g:Int,call prog (k+2) "_law_purse" [bf ns,.v (.int (j:Int))] h= .ok (.own [.int a,.int f,.int g]) h:=by
 obtain⟨c,e⟩:=m1 k ns m j h
 obtain⟨l,t⟩:=m1 k ns m 0 h
 rw [Gb rfl _ _ _ rfl]
 have i:Gi .mod l 2=y0 _:=zp _ _ (by decide)
 have p:Gi .mod c 1000000093=y0 _:=zp _ _ (by decide)
 have o: ∀b:Bool,∃z,bc [D.int 1,D.int 2] (b.toNat:Nat)=y0 (.int z)/\0<z/\z<1073741824:=λb=>by
  cases b
  ·exact⟨1,rfl,by decide,by decide⟩
  ·exact⟨2,rfl,by decide,by decide⟩
 obtain⟨z,n,u,s⟩:=o (u9 (j=0))
 have r:Gi .fdiv c z=y0 _:=wB _ _ u s
 have d:=t
 by_cases q:l % 2=1
 ·refine⟨c / z,1,60,?_⟩
  simp_all [ju,bf,e,d,i,Xy,q,decide_true,F8,wv,n,r]
 ·refine⟨c % 1000000093+5,0,900,?_⟩
  simp_all [ju,bf,e,d,i,Xy,q,decide_false,p,Xg]
abbrev bB:Tx:= ke
def taken:List Tx:= [eF,eJ,el,eB,gz,b3,zV,QY,j0,g9,gO,gU,iV,iS,gr]
structure aQ (t:Tx):Prop where
 lo:1<=t.length
 hi:t.length<=8
 ew: ∀c∈t,97<=c/\c<=122
 free:t∉taken
def aQ.lim (g:aQ t):t.length<=aW:=by rw [Gc];have:=g.hi;omega
def oF: ∀t∈taken,(113)∉t:=by decide
def B1: ∀t∈taken,2<=t.length:=by decide
def Cb (i:Nat) (h:i<26):bc bB (i:Int)=y0 (97+i):=by
 have: ∀i:Nat,i<26->bc bB i=y0 (97+i):=by decide
 exact this i h
def QS (xs:List α) (n:Nat):cut xs u0 (y0 (n:Int))=xs.take n:=by
 have a: ¬((n:Int)<0):=by lia
 simp only [cut,aH,a,if_false,Af2,List.drop_zero,Nat.sub_zero]
 by_cases q:n<=xs.length
 ·rw [Nat.min_eq_left q]
 ·rw [Nat.min_eq_right (by lia),Ag4 (Aa7 _),Ag4 (by lia)]
def l5 (xs:List α) (n:Nat):cut xs (y0 (n:Int)) u0=xs.drop n:=by
 have a: ¬((n:Int)<0):=by lia
 simp [cut,aH,a,Af2]
 by_cases q:n<=xs.length
 ·rw [Nat.min_eq_left q,Ag4 (by simp)]
 ·rw [Nat.min_eq_right (by lia),List.drop_of_length_le (Aa7 _),List.drop_of_length_le (by lia),List.take_nil]
def JG (s) (lo hi) (h) (a:s.length<=aW):eQ (.v (.str s)) lo hi h= .ok (.v (.str (cut s lo hi))) h:=by
 show(if s.length<=aW then _ else _)=_
 rw [if_pos a]
def mul_str (s) (n:Nat) (h) (b:n<=1000) (a:s.length*n<=1000000):GA .mul (.v (.str s)) (.v (.int (n:Int))) h= .ok (.v (.str (Aa1 n s).flatten)) h:=by
 show(if 0<=(n:Int)/\(n:Int)<=1000/\s.length*(n:Int).toNat<=aW then _ else _)=_
 rw [if_pos ⟨by lia,by lia,by rw [Gc,Af2];exact a⟩,Af2]
def add_str (s u) (h) (a:s.length+u.length<=1000000):GA .add (.v (.str s)) (.v (.str u)) h= .ok (.v (.str (s++u))) h:=by
 rw [Qb,if_pos (by rw [Gc];exact a)]
def jo (i:Nat) (hi:i<26) (h):bI (.v (.str bB)) (.v (.int (i:Int))) h=y0 (.str [97+i]):=by
 rw [xC,if_pos (by rw [Gc];decide),Cb i hi]
 rfl
def jA (f:Nat->α) (m) (h:m<=8) (g: ∀i,i<8-> ∀j,j<8->i≠j->f i≠f j):((Ac4 m).map f).Nodup:=by
 rw [List.Nodup,Al2]
 refine Ak0.imp_of_mem ?_ (List.nodup_range)
 intro a b d e c
 exact g a (by have:=Ai3.mp d;lia) b (by have:=Ai3.mp e;lia) c
def zM (a b:Nat) (c:0<b):Gi .mod (a:Int) (b:Int)=y0 ((a % b:Nat):Int):=by
 rw [zp _ _ (by lia)];rfl
def QQ (a b:Nat) (d:0<b) (c:b<1073741824):Gi .fdiv (a:Int) (b:Int)=y0 ((a / b:Nat):Int):=by
 rw [wB _ _ (by lia) (by lia)];rfl
def Xz (a b:Nat):Gi .add (a:Int) (b:Int)=y0 ((a+b:Nat):Int):=rfl
def eM (c k:Nat):Tx:= [97+(c / 4 % 26+(1+2*(c / 104 % 6))*k) % 26]
def ej (c k:Nat):Tx:=(113::Aa1 7 (97+c / 4 % 26)).take (k+1)
noncomputable def bt:List Tx:= [[110,111,116,97],[111,114,98],[97,110,100,121],[105,110,110],[97,108,108,115],[115,97,109,101,121],[110,111,110,101,97],[101,97,99,104,115],[108,101,97,115,116,115],[109,111,115,116,121],[115,111,109,101,115],[110,111,97],[107,105,110,100,97],[116,105,101,115],[115,97,121,115],[105]]
def gj (c k:Nat):Tx:=bt.getD ((c / 4 % 26+3*k) % 16) []
def Wz (c:Nat):Tx:=(113::Aa1 6 (97+c / 4 % 26)).take (1+c / 104 % 7)
noncomputable def j8 (c k:Nat):Tx:=(Wz c).take (c / 728 % ((Wz c).length+1))++ [97+(c / 4 % 26+1+3*k) % 26]++(Wz c).drop (c / 728 % ((Wz c).length+1))
def CD (n x:Nat):(Aa1 n [x]).flatten=Aa1 n x:=by
 induction n with
 | zero=>rfl
 | succ n a=>rw [Ac9,Ai0,a];rfl
def jM (c):(Wz c).length<=7:=by simp [Wz];omega
def C8: ∀p,p<26*6-> ∀i,i<8-> ∀j,j<8->i≠j->(p / 6+(1+2*(p % 6))*i) % 26≠(p / 6+(1+2*(p % 6))*j) % 26:=by decide +kernel
def E7 (f) (b:f<26) (d) (hd:d<6) (i) (hi:i<8) (j) (a:j<8) (ne:i≠j):(f+(1+2*d)*i) % 26≠(f+(1+2*d)*j) % 26:=by
 have:=C8 (f*6+d) (by lia) i hi j a ne
 rwa [show _ / 6=f by lia,show(f*6+d) % 6=d by lia]at this
def FP: ∀f,f<26-> ∀i,i<8-> ∀j,j<8->i≠j->bt.getD ((f+3*i) % 16) []≠bt.getD ((f+3*j) % 16) []:=by decide +kernel
def DE: ∀f,f<26-> ∀i,i<8-> ∀j,j<8->i≠j->(f+1+3*i) % 26≠(f+1+3*j) % 26:=by decide +kernel
def FH: ∀i,i<16->1<=(bt.getD i []).length/\(bt.getD i []).length<=8/\(∀ c∈bt.getD i [],97<=c/\c<=122)/\bt.getD i []∉taken:=by decide +kernel
def g4 (c):c / 4 % 26<26:=Ai2 _ (by decide)
def vm (c): ∀i,i<8-> ∀j,j<8->i≠j->eM c i≠eM c j:=λi a j b ne e=>by
 have:=E7 _ (g4 c) (c / 104 % 6) (Ai2 _ (by decide)) i a j b ne
 simp only [eM,List.cons.injEq,and_true]at e
 lia
def FF (c): ∀i,i<8-> ∀j,j<8->i≠j->ej c i≠ej c j:=λi a j b ne e=>by
 have:=congrArg List.length e
 simp [ej]at this
 lia
def Fq (c): ∀i,i<8-> ∀j,j<8->i≠j->gj c i≠gj c j:=λi a j b ne=>FP _ (g4 c) i a j b ne
def vQ (c): ∀i,i<8-> ∀j,j<8->i≠j->j8 c i≠j8 c j:=λi a j b ne e=>by
 have:=DE _ (g4 c) i a j b ne
 simp [j8,and_true]at e
 lia
def B0 (c k):aQ (eM c k):=by
 have h:=Ai2 (c / 4 % 26+(1+2*(c / 104 % 6))*k) (show 0<26 by decide)
 refine⟨Aa7 _,by simp [eM],λx b=> ?_,λa=> ?_⟩
 ·simp only [eM,Ab8]at b
  omega
 ·have:=B1 _ a
  simp [eM]at this
def uy (c k):aQ (ej c k):=by
 have h:=g4 c
 have d:(ej c k).length=min (k+1) 8:=by simp [ej];lia
 refine⟨by lia,by lia,λx a=> ?_,λb=> ?_⟩
 ·have a:=Ag9 a
  simp only [Aa,Aj1]at a
  lia
 ·refine oF _ b ?_
  simp [ej]
def ur (c k):aQ (gj c k):=by
 have:=FH _ (Ai2 (c / 4 % 26+3*k) (show 0<16 by decide))
 exact⟨this.1,this.2.1,this.2.2.1,this.2.2.2⟩
def Er (c k):aQ (j8 c k):=by
 have h:=g4 c
 have f:=Ai2 (c / 4 % 26+1+3*k) (show 0<26 by decide)
 have b: ∀x∈Wz c,97<=x/\x<=122:=λx a=>by
  have a:=Ag9 a
  simp only [Aa,Aj1]at a
  lia
 have g:(j8 c k).length=(Wz c).length+1:=by
  have:=Ai2 (c / 728) (show 0<(Wz c).length+1 by lia)
  simp [j8,Af4]
  lia
 refine⟨by lia,by have:=jM c;lia,λx a=> ?_,λe=> ?_⟩
 ·simp only [j8,Ac8,Ab8]at a
  obtain(a | a) | a:=a
  ·exact b x (Ag9 a)
  ·lia
  ·exact b x (List.mem_of_mem_drop a)
 ·refine oF _ e ?_
  have d: 113∈Wz c:=by
   have:1+c / 104 % 7=(c / 104 % 7)+1:=by lia
   rw [Wz,this,List.take_succ_cons]
   exact Aa4
  rw [← Ak3 _ (Wz c)]at d
  simp only [j8,Ac8]
  obtain q | q:=Ac8.mp d
  ·exact .inl (.inl q)
  ·exact .inr q
def Xr (xs:List α) (i) (h:i<xs.length):bc xs (i:Int)=xs[i]? :=by
 have:(i)< xs.length:=by omega
 simp [bc,dj,this]
def Fs (i:Nat) (h:i<16):bc (bt.map D.str) (i:Int)=y0 (.str (bt.getD i [])):=by
 have:i<(bt.map D.str).length:=by simpa [bt]using h
 have e:=Xr _ i this
 rw [e,Ad9]
 have a:=by simpa [bt]using h
 rw [Ab a,Ad1,Ab a]
 rfl
def Qh (i j:Nat) (h):Gw .eq (.v (.int (i:Int))) (.v (.int (j:Int))) h=y0 (u9 (i=j)):=by
 rw [Xy]
 congr 1
 exact decide_eq_decide.mpr (by lia)
def EE (c m:Nat) (h) (o:m<=8):eval F jn [y0 (.v (.int (c:Int))),y0 (.v (.int (m:Int))),y0 (.v (.str bB)),y0 (.v (.int ((c / 4 % 26:Nat):Int))),x4,x5,x6] h= .ok (.own (((Ac4 m).map (eM c)).map .str)) h:=by
 rw [jn,Xm (λd=>match d with | .int i=> .str (eM c i.toNat) | d=>d) (Wu (m:=m) (by simp_all []) (by lia)) (by simp;rw [Gc];lia)]
 ·simp [Function.comp_def]
 ·intro d hd
  obtain⟨i,n,rfl⟩:=fN _ hd
  refine⟨_,rfl,.v (.str (eM c i)),?_,by simp⟩
  have a:Gi .fdiv c 104=y0 _:=QQ c 104 (by decide) (by decide)
  have f:Gi .mod _ 6=y0 _:=zM (c / 104) 6 (by decide)
  have b:Gi .mul 2 _=y0 ((2*(c / 104 % 6):Nat):Int):=WC 2 _ (by decide)
  have g:Gi .add 1 _=y0 _:=Xz 1 (2*(c / 104 % 6))
  have l:Gi .mul _ (i:Int)=y0 (((1+2*(c / 104 % 6))*i:Nat):Int):=WC _ _ (by lia)
  have j:=Xz (c / 4 % 26) ((1+2*(c / 104 % 6))*i)
  have e:Gi .mod _ 26=y0 (((c / 4 % 26+(1+2*(c / 104 % 6))*i) % 26:Nat):Int):=zM _ 26 (by decide)
  have k:=jo ((c / 4 % 26+(1+2*(c / 104 % 6))*i) % 26) (Ai2 _ (by decide)) h
  simp_all [a,f,b,g,l,j,e,k]
  rfl
def FO (c m:Nat) (h) (k:m<=8):eval F Qn [y0 (.v (.int (c:Int))),y0 (.v (.int (m:Int))),y0 (.v (.str bB)),y0 (.v (.int ((c / 4 % 26:Nat):Int))),x4,x5,x6] h= .ok (.own (((Ac4 m).map (ej c)).map .str)) h:=by
 rw [Qn,Xm (λd=>match d with | .int i=> .str (ej c i.toNat) | d=>d) (Wu (m:=m) (by simp_all []) (by lia)) (by simp;rw [Gc];lia)]
 ·simp [Function.comp_def]
 ·intro d hd
  obtain⟨i,j,rfl⟩:=fN _ hd
  refine⟨[y0 _,y0 _,y0 _],rfl,.v (.str (ej c i)),?_,by simp⟩
  have a:=jo _ (g4 c) h
  have e:GA .mul (.v (.str [97+c / 4 % 26])) (.v (.int 7)) h= .ok (.v (.str (Aa1 7 (97+c / 4 % 26)))) h:=by
   have:=mul_str [97+c / 4 % 26] 7 h (by decide) (by simp)
   exact this
  have b:GA .add (.v (.str [113])) (.v (.str (Aa1 7 _))) h= .ok (.v (.str (113::Aa1 7 (97+c / 4 % 26)))) h:=add_str _ _ h (by simp)
  have f:Gi .add i 1=y0 _:=Xz i 1
  have g:eQ (.v (.str (113::Aa1 7 (97+c / 4 % 26)))) u0 (y0 (i+1:Nat)) h= .ok (.v (.str (ej c i))) h:=by
   rw [JG _ _ _ _ (by simp [Gc]),QS]
   rfl
  simp only [eval,Gp,Gm,R.aa,R.ab,a,e,b,Gy,f,int?_int,g]
def AX (c m:Nat) (h) (j:m<=8):eval F Xn [y0 (.v (.int (c:Int))),y0 (.v (.int (m:Int))),y0 (.v (.str bB)),y0 (.v (.int ((c / 4 % 26:Nat):Int))),y0 (.v (.lst (bt.map .str))),x5,x6] h= .ok (.own (((Ac4 m).map (gj c)).map .str)) h:=by
 rw [Xn,Xm (λd=>match d with | .int i=> .str (gj c i.toNat) | d=>d) (Wu (m:=m) (by simp_all []) (by lia)) (by simp;rw [Gc];lia)]
 ·simp [Function.comp_def]
 ·intro d hd
  obtain⟨i,g,rfl⟩:=fN _ hd
  refine⟨_,rfl,.v (.str (gj c i)),?_,by simp⟩
  have a:Gi .mul 3 i=y0 _:=WC 3 i (by decide)
  have e:=Xz (c / 4 % 26) (3*i)
  have b:Gi .mod _ 16=y0 (((c / 4 % 26+3*i) % 16:Nat):Int):=zM _ 16 (by decide)
  have f:=Fs ((c / 4 % 26+3*i) % 16) (Ai2 _ (by decide))
  simp only [eval,Gp,Gm,GD,Ac9,Ak9,Ae,Ad8,Ab3,R.aa,R.ab,Gy,a,e,b,lZ]
  rw [f]
  rfl
def D5 (c m:Nat) (h) (o:m<=8):eval F Wn [y0 (.v (.int (c:Int))),y0 (.v (.int (m:Int))),y0 (.v (.str bB)),y0 (.v (.int ((c / 4 % 26:Nat):Int))),x4,y0 (.v (.str (Wz c))),y0 (.v (.int ((c / 728 % ((Wz c).length+1):Nat):Int)))] h= .ok (.own (((Ac4 m).map (j8 c)).map .str)) h:=by
 rw [Wn,Xm (λd=>match d with | .int i=> .str (j8 c i.toNat) | d=>d) (Wu (m:=m) (by simp_all []) (by lia)) (by simp;rw [Gc];lia)]
 ·simp [Function.comp_def]
 ·intro d hd
  obtain⟨i,n,rfl⟩:=fN _ hd
  refine⟨_,rfl,.v (.str (j8 c i)),?_,by simp⟩
  have sl:=jM c
  have b:(Wz c).length<=aW:=by rw [Gc];lia
  have f:Gi .add _ 1=y0 ((c / 4 % 26+1:Nat):Int):=Xz _ 1
  have j:Gi .mul 3 i=y0 _:=WC 3 i (by decide)
  have g:=Xz (c / 4 % 26+1) (3*i)
  have k:Gi .mod _ 26=y0 (((c / 4 % 26+1+3*i) % 26:Nat):Int):=zM _ 26 (by decide)
  have l:=jo ((c / 4 % 26+1+3*i) % 26) (Ai2 _ (by decide)) h
  have e:=JG _ u0 (y0 ((c / 728 % ((Wz c).length+1):Nat))) h b
  have a:=JG _ (y0 ((c / 728 % ((Wz c).length+1):Nat))) u0 h b
  rw [QS]at e
  rw [l5]at a
  simp only [eval,Gp,Gm,GD,Ac9,Ak9,Ae,Ad8,Ab3,Ae2,R.aa,R.ab,Gy,f,j,g,k,l,e,a,int?_int]
  rw [add_str _ _ _ (by simp;lia),R.aa]
  simp only [a,R.aa]
  rw [add_str _ _ _ (by simp;omega)]
  rfl
def B8 (k c m:Nat) (h) (a:m<=8): ∃ts:List Tx,ts.length=m/\ts.Nodup/\(∀ t∈ts,aQ t)/\call prog (k+1) "_law_family" [.v (.int (c:Int)),.v (.int (m:Int))] h= .ok (.own (ts.map .str)) h:=by
 rw [Gb rfl _ _ _ rfl]
 have s:Gi .fdiv (c:Int) 4=y0 _:=QQ c 4 (by decide) (by decide)
 have p:Gi .mod _ 26=y0 ((c / 4 % 26:Nat):Int):=zM _ 26 (by decide)
 have d:Gi .mod (c:Int) 4=y0 _:=zM c 4 (by decide)
 have o:Gw .eq _ (.v (.int 0)) h=y0 _:=Qh (c % 4) 0 h
 have l:Gw .eq _ (.v (.int 1)) h=y0 _:=Qh (c % 4) 1 h
 have g:Gw .eq _ (.v (.int 2)) h=y0 (u9 (c % 4=2)):=Qh (c % 4) 2 h
 simp only [Qz]
 show ∃ts:List Tx,_/\_/\_/\Gu _ (execs _ _ [y0 (.v (.int (c:Int))),y0 (.v (.int (m:Int))),u0,u0,u0,u0,u0] h)=_
 rw [za rfl]
 rw [za (Y1:= [y0 (.v (.int (c:Int))),y0 (.v (.int (m:Int))),y0 (.v (.str bB)),y0 (.v (.int ((c / 4 % 26:Nat):Int))),u0,u0,u0]) (h1:=h) (by simp_all [s,p])]
 by_cases j:c % 4=0
 ·refine⟨(Ac4 m).map (eM c),by simp,jA _ m a (vm c),λt b=> ?_,?_⟩
  ·obtain⟨i,_,rfl⟩:=Ad6.mp b
   exact B0 c i
  ·rw [qa (w:= .own (((Ac4 m).map (eM c)).map .str)) (h1:=h) ((Wm (h1:=h) (by simp_all [d,o,decide_eq_true j])).trans (qa (zj rfl (EE c m h a)))),Gq _ _ _ rfl]
 rw [za (Y1:= [y0 (.v (.int (c:Int))),y0 (.v (.int (m:Int))),y0 (.v (.str bB)),y0 (.v (.int ((c / 4 % 26:Nat):Int))),u0,u0,u0]) (h1:=h) (by simp_all [d,o,decide_eq_false j])]
 by_cases f:c % 4=1
 ·refine⟨(Ac4 m).map (ej c),by simp,jA _ m a (FF c),λt b=> ?_,?_⟩
  ·obtain⟨i,_,rfl⟩:=Ad6.mp b
   exact uy c i
  ·rw [qa (w:= .own (((Ac4 m).map (ej c)).map .str)) (h1:=h) ((Wm (h1:=h) (by simp_all [d,l,decide_eq_true f])).trans (qa (zj rfl (FO c m h a)))),Gq _ _ _ rfl]
 rw [za (Y1:= [y0 (.v (.int (c:Int))),y0 (.v (.int (m:Int))),y0 (.v (.str bB)),y0 (.v (.int ((c / 4 % 26:Nat):Int))),u0,u0,u0]) (h1:=h) (by simp_all [d,l,decide_eq_false f])]
 by_cases n:c % 4=2
 ·refine⟨(Ac4 m).map (gj c),by simp,jA _ m a (Fq c),λt b=> ?_,?_⟩
  ·obtain⟨i,_,rfl⟩:=Ad6.mp b
   exact ur c i
  ·rw [qa (w:= .own (((Ac4 m).map (gj c)).map .str)) (h1:=h) ?_,Gq _ _ _ rfl]
   rw [Wm (h1:=h) (by simp_all [d,g,decide_eq_true n])]
   rw [za (Y1:= [y0 (.v (.int (c:Int))),y0 (.v (.int (m:Int))),y0 (.v (.str bB)),y0 (.v (.int ((c / 4 % 26:Nat):Int))),y0 (.v (.lst ((bt.take 12).map .str))),u0,u0]) (h1:=h) (by simp_all [];rfl)]
   rw [za (Y1:= [y0 (.v (.int (c:Int))),y0 (.v (.int (m:Int))),y0 (.v (.str bB)),y0 (.v (.int ((c / 4 % 26:Nat):Int))),y0 (.v (.lst (bt.map .str))),u0,u0]) (h1:=h) (by simp_all [mQ];rw [if_pos (by rw [Gc];decide)];rfl)]
   exact qa (zj rfl (AX c m h a))
 rw [za (Y1:= [y0 (.v (.int (c:Int))),y0 (.v (.int (m:Int))),y0 (.v (.str bB)),y0 (.v (.int ((c / 4 % 26:Nat):Int))),u0,u0,u0]) (h1:=h) (by simp_all [d,g,decide_eq_false n])]
 have sl:=jM c
 have z:(Wz c).length<=aW:=by rw [Gc];omega
 have x:=jo (c / 4 % 26) (g4 c) h
 have q:GA .mul (.v (.str [97+c / 4 % 26])) (.v (.int 6)) h= .ok (.v (.str (Aa1 6 (97+c / 4 % 26)))) h:=by
  have:=mul_str [97+c / 4 % 26] 6 h (by decide) (by simp)
  rw [CD]at this
  exact this
 have B:GA .add (.v (.str [113])) (.v (.str (Aa1 6 (97+c / 4 % 26)))) h= .ok (.v (.str (113::Aa1 6 (97+c / 4 % 26)))) h:=add_str _ _ h (by simp)
 have u:Gi .fdiv (c:Int) 104=y0 ((c / 104:Nat):Int):=QQ c 104 (by decide) (by decide)
 have A:Gi .mod ((c / 104:Nat):Int) 7=y0 ((c / 104 % 7:Nat):Int):=zM _ 7 (by decide)
 have y:Gi .add 1 ((c / 104 % 7:Nat):Int)=y0 ((1+c / 104 % 7:Nat):Int):=Xz 1 _
 have r:eQ (.v (.str (113::Aa1 6 (97+c / 4 % 26)))) u0 (y0 ((1+c / 104 % 7:Nat):Int)) h= .ok (.v (.str (Wz c))) h:=by
  rw [JG _ _ _ _ (by simp [Gc]),QS]
  rfl
 have v:Gi .fdiv (c:Int) 728=y0 ((c / 728:Nat):Int):=QQ c 728 (by decide) (by decide)
 have C:Gi .add ((Wz c).length:Int) 1=y0 (((Wz c).length+1:Nat):Int):=Xz _ 1
 have e:=zM (c / 728) ((Wz c).length+1) (by omega)
 rw [za (Y1:= [y0 (.v (.int (c:Int))),y0 (.v (.int (m:Int))),y0 (.v (.str bB)),y0 (.v (.int ((c / 4 % 26:Nat):Int))),u0,y0 (.v (.str (Wz c))),u0]) (h1:=h) (by simp only [exec,eval,Gp,Gm,GD,R.aa,R.ab,x,q,B,Gy,u,A,y,int?_int,r,R.aA,W.cj])]
 rw [za (Y1:= [y0 (.v (.int (c:Int))),y0 (.v (.int (m:Int))),y0 (.v (.str bB)),y0 (.v (.int ((c / 4 % 26:Nat):Int))),u0,y0 (.v (.str (Wz c))),y0 (.v (.int ((c / 728 % ((Wz c).length+1):Nat):Int)))]) (h1:=h) (by simp only [exec,eval,Gj,Gp,Gm,GD,R.aa,R.ab,Gy,v,len_str,z,if_true,C,e,R.aA,W.cj])]
 refine⟨(Ac4 m).map (j8 c),by simp,jA _ m a (vQ c),λt b=> ?_,?_⟩
 ·obtain⟨i,_,rfl⟩:=Ad6.mp b
  exact Er c i
 ·rw [qa (w:= .own (((Ac4 m).map (j8 c)).map .str)) (h1:=h) (zj rfl (D5 c m h a)),Gq _ _ _ rfl]
theorem qK {I:AH->Prop}{Q:D->Prop}: ∀ ds,(∀ d∈ds,∀h,I h-> ∃y h',step d h= .ok (y0 y) h'/\I h'/\Q y)-> ∀h,I h-> ∃ys h',Gx step ds h= .ok ys h'/\I h'/\ys.length=ds.length/\ ∀y∈ys,Q y
 | [],_,h,i=>⟨[],h,rfl,i,rfl,λ_ m=>absurd m (Aa2)⟩
 | d::ds,b,h,i=>by
  obtain⟨y,l,k,i1,j⟩:=b d Aa4 h i
  obtain⟨ys,c,f,i2,g,e⟩:=qK ds (λd hd=>b d (Aa5 _ hd)) l i1
  refine⟨y::ys,c,by rw [Gx,k];simp only [f],i2,by simp [g],λz a=> ?_⟩
  rcases Aa.mp a with rfl | a
  ·exact j
  ·exact e z a
def ET {I:AH->Prop}{Q:D->Prop}(hi:Gv F it Y h= .ok ds h) (o:ds.length<=aW) (i0:I h)
 (l: ∀d∈ds,∀h,I h-> ∃J,Gz tg one d (Aa1 k u0++aC.map λj=>Gp Y j)=y0 J/\ ∃w y h',eval F elt J h= .ok w h'/\w.d=y0 y/\I h'/\Q y):
 ∃ys h',eval F (.comp tg one k aC it y9 c elt) Y h= .ok (.own ys) h'/\I h'/\ys.length=ds.length/\ ∀y∈ys,Q y:=by
 obtain⟨step,n,a⟩: ∃step:D->AH->R _,eval F (.comp tg one k aC it y9 c elt) Y h=(Gx step ds h).bind (λys h=> .ok (.own ys) h) ∧
  ∀d h J w y h',Gz tg one d (Aa1 k u0++aC.map λj=>Gp Y j)=y0 J->eval F elt J h= .ok w h'->w.d=y0 y->step d h= .ok (y0 y) h':=
  ⟨_,by rw [eval,hi,R.aa,if_pos o],λd h J w y h' g b f=>by simp [g,b,f]⟩
 obtain⟨ys,h',e,r⟩:=qK ds (λd hd h i=>by
  obtain⟨J,g,w,y,h',b,f,m,q⟩:=l d hd h i
  exact⟨y,h',a d h J w y h' g b f,m,q⟩) h i0
 exact⟨ys,h',by rw [n,e,R.aa],r⟩
theorem Xo: ∀ts:List Tx,GI (ts.map .str)=y0 ts
 | []=>rfl
 | t::ts=>by simp [GI,Xo ts]
theorem sg (s): ∀ts:List Tx,inD (.str s) (ts.map .str)=u9 (s∈ts)
 | []=>rfl
 | t::ts=>by
  have a:=sg s ts
  simp only [inD]at a
  by_cases q:t=s
  ·subst q
   simp [inD]
  ·have b: ¬s=t:=λe=>q e.symm
   simp only [inD,Ab3,Ah5,a,Aa,b,false_or]
   simp [q]
def vG (ts:List Tx):(ts.map D.str).all flat=true:=by simp
def Jr (s) (ts:List Tx) (w) (h) (a:w.seq? h=y0 (ts.map .str)) (b:w.a0 =u0):GU (.v (.str s)) w h=y0 (u9 (s∈ts)):=by
 unfold GU
 rw [b]
 simp only [W.a0,W.cj,a,vG,Bool.true_and,if_true,sg]
theorem wU  [DecidableEq α]: ∀(l m:List α),l.Nodup->(∀ x∈l,x∈m)->l.length<=m.length
 | [],_,_,_=>Ae8 _
 | x::l,m,d,a=>by
  have b:=(Af3.mp d)
  have f:=wU l (m.erase x) b.2 λy c=>by
   have:y≠x:=λe=>b.1 (e▸c)
   exact(List.mem_erase_of_ne this).mpr (a y (Aa5 _ c))
  have g:=List.length_erase_of_mem (a x Aa4)
  have h:=List.length_pos_of_mem (a x Aa4)
  simp only [Aa0]
  omega
theorem o3: ∀i:List Nat,GF [] (i.map λc=> [c])=i
 | []=>rfl
 | [c]=>rfl
 | c::d::r=>by
  have:=o3 (d::r)
  simp only [Ab3,GF,Ac5]at this ⊢
  rw [this]
  rfl
def Eg {a:List D}(h: ∀y∈a,∃c,(97<=c/\c<=122)/\y= .str [c]): ∃i:List Nat,a=(i.map λc=> [c]).map .str/\ ∀c∈i,97<=c/\c<=122:=by
 induction a with
 | nil=>exact⟨[],rfl,λ_ h=>absurd h Aa2⟩
 | cons y a k=>
  obtain⟨c,j,e⟩:=h y Aa4
  obtain⟨i,g,b⟩:=k λy f=>h y (Aa5 _ f)
  refine⟨c::i,by rw [e,g];rfl,λd hd=> ?_⟩
  obtain rfl | hd:=Aa.mp hd
  ·exact j
  ·exact b d hd
def av:List Tx:=taken.take 14
def Jz:Tx:= gr
def wV (t):t∈taken↔t∈av\/t=Jz:=by
 have:taken=av++ [Jz]:=rfl
 rw [this,Ac8,Ab8]
structure Nm (ts:List Tx):Prop where
 nd:ts.Nodup
 good: ∀t∈ts,aQ t
def Nm.snoc (h:Nm ts)(i:aQ t) (g:t∉ts):Nm (ts++ [t]):=by
 refine⟨?_,λx c=> ?_⟩
 ·rw [List.nodup_append]
  refine⟨h.nd,by simp,?_⟩
  intro a f b d e
  rw [Ab8]at d
  subst d
  subst e
  exact g f
 ·obtain c | c:=Ac8.mp c
  ·exact h.good x c
  ·rw [Ab8]at c
   exact c▸i
noncomputable abbrev zA (s a b:W) (ts:List Tx) (x6 x7 x8 x9:Option W):Sl:= [y0 s,y0 a,y0 b,y0 (.v (.str bB)),y0 (.v (.lst (av.map .str))),y0 (.own ((Jz::ts).map .str)),x6,x7,x8,x9]
def yR (P:PH h) (B:r<h.length) (D:n<=8):
 ∃i:List Nat,∃h',i.length=n/\(∀ c∈i,97<=c/\c<=122)/\PH h'/\h'.length=h.length ∧
  eval (k8 (k+1)) zf (zA s a b ts (y0 (.v (.ref r))) (y0 (.v (.int (n:Int)))) x8 x9) h= .ok (.own ((i.map λc=> [c]).map .str)) h':=by
 obtain⟨p,h',e,⟨u,x⟩,t,A⟩:=ET (F:=(k8 (k+1))) (tg:= [0]) (one:=true) (k:=1) (aC:= [3,6]) (it:= .aS .v7) (elt:= .ix .v1 (.call "_law_next" (.b .v2 (.int 26)))) (Y:=zA s a b ts (some (.v (.ref r))) (some (.v (.int n))) x8 x9)
  (I:=λh'=>PH h'/\h'.length=h.length) (Q:=λy=> ∃c,(97<=c/\c<=122)/\y= .str [c]) (Wu (m:=n) (by simp_all []) (by lia)) (by simp;rw [Gc];lia) ⟨P,rfl⟩ (λd hd l ⟨o,E⟩=>by
    obtain⟨v,f,z,w,C,g⟩:=Jf k o (show r<l.length by lia) (show 0<26 by decide) (by decide)
    have g:call prog _ "_law_next" [.v _,.v (.int 26)] l= .ok _ f:=g
    refine⟨[y0 _,y0 _,y0 _],rfl,.v _,.str [97+v],f,?_,rfl,⟨w,by lia⟩,97+v,by lia,rfl⟩
    simp [Gp,g,jo v z f,R.ab])
 obtain⟨i,j,q⟩:=Eg A
 refine⟨i,h',?_,q,u,x,?_⟩
 ·have:p.length=i.length:=by rw [j];simp
  rw [← this,t]
  simp
 ·rw [zf,e,j]
def Bf (g:t.length<=8):
 eval F Zh (zA s a b ts x6 x7 (y0 (.v (.str t))) x9) h= .ok (.own ((bB.map λc=>t.take 7++ [c]).map .str)) h:=by
 have f:t.length<=aW:=by rw [Gc];lia
 rw [Zh,Xm (ds:=cQ bB) (λd=>match d with | .str u=> .str (t.take 7++u) | d=>d) (by simp_all []) (by rw [Gc];decide)]
 ·simp [cQ]
 ·intro d hd
  obtain⟨c,i,rfl⟩:=Ad6.mp hd
  refine⟨[y0 _,y0 _],rfl,.v _,?_,rfl⟩
  have e:eQ (.v (.str t)) u0 (y0 7) h= .ok (.v (.str (t.take 7))) h:=by
   rw [JG _ _ _ _ f]
   exact congrArg (λx=>R.ok (W.v _) h) (QS t 7)
  simp only [eval,Gp,Gm,R.aa,R.ab,int?_int,e]
  exact add_str _ _ h (by simp;lia)
def w4 (ts) (h) (a:ts.length<=100):GA .add (.v (.lst (av.map .str))) (.bor ((Jz::ts).map .str)) h= .ok (.own ((av++Jz::ts).map .str)) h:=by
 rw [Fm,if_pos (by rw [Gc];simp [av,taken];lia),Ac0]
def AZ {us:List Tx}(f:ts.length<=100) (c:us.length<=100):
 eval F qf (zA s a b ts x6 x7 x8 (y0 (.v (.lst (us.map .str))))) h= .ok (.own ((us.filter λu=> !u9 (u∈av++Jz::ts)).map .str)) h:=by
 rw [qf,A3 (ds:=us.map .str) (λd=>match d with | .str u=>if u∈av++Jz::ts then u0 else y0 (.str u) | _=>u0) (by simp_all []) (by rw [Gc];simp;omega)]
 ·congr 2
  rw [List.filterMap_map]
  induction us with
  | nil=>rfl
  | cons u us e=>
   by_cases q:u∈av++Jz::ts
   ·rw [List.filterMap_cons_none (by simp only [Function.comp,q,if_true]),List.filter_cons_of_neg (by simp only [q,Bool.not_true];simp)]
    exact e (by simp at c;omega)
   ·rw [List.filterMap_cons_some (b:= .str u) (by simp only [Function.comp,q,if_false]),List.filter_cons_of_pos (by simp only [q,decide_false,Ak8]),Ab3,e (by simp at c;omega)]
 ·intro d hd
  obtain⟨u,_,rfl⟩:=Ad6.mp hd
  refine⟨[y0 (.v (.str u)),y0 (.v (.lst (av.map .str))),y0 (.bor ((Jz::ts).map .str))], !u9 (u∈av++Jz::ts),rfl,?_,?_⟩
  ·simp only [Gr,eval,Gp,Gm,R.aa,w4 ts h f,Gw,Jr u (av++Jz::ts) (.own ((av++Jz::ts).map .str)) h rfl rfl,Ag0,R.ab,Gn]
  ·by_cases q:u∈av++Jz::ts
   ·simp only [q,decide_true,Bool.not_true,Ag5,if_false,if_true]
   ·simp only [q,decide_false,Ak8,if_true,if_false]
    exact⟨_,_,rfl,rfl,rfl⟩
def EL {t:Tx}(k:ts.length<=7): ∃c r,(97<=c/\c<=122)/\t.take 7++ [c]∉av++Jz::ts/\((bB.map λc=>t.take 7++ [c]).filter λu=> !u9 (u∈av++Jz::ts))=(t.take 7++ [c])::r:=by
 cases q:((bB.map λc=>t.take 7++ [c]).filter λu=> !u9 (u∈av++Jz::ts))with
 | nil=>
  have g:=List.filter_eq_nil_iff.mp q
  have f:=λu a=>by
   by_cases d:u∈av++Jz::ts
   ·exact d
   ·exact absurd (by simp [d,Ak8]) (g u a)
  have h:(bB.map λc=>t.take 7++ [c]).Nodup:=by
   rw [List.Nodup,Al2]
   refine Ak0.imp ?_ (show bB.Pairwise (· ≠ ·)by decide)
   intro x y ne e
   simp [and_true]at e
   exact ne e
  have i:=wU _ _ h f
  simp [av,taken]at i
  omega
 | cons u r=>
  have a:u∈((bB.map λc=>t.take 7++ [c]).filter λu=> !u9 (u∈av++Jz::ts)):=by rw [q];exact Aa4
  rw [List.mem_filter]at a
  obtain⟨c,j,e⟩:=Ad6.mp a.1
  have b: ∀c∈bB,97<=c/\c<=122:=by decide
  refine⟨c,r,b c j,?_,by rw [e]⟩
  rw [e]
  simpa using a.2
def Zt (x) (r:List α):bc (x::r) 0=y0 x:=by
 have: 0< (x::r).length:=by simp
 simp [bc,dj,this]
def Ez (P:PH h) (K:r<h.length) (N:Nm ts) (S:ts.length<=7):
 ∃t J M L h',Nm (ts++ [t])/\PH h'/\h'.length=h.length ∧
  execs (k8 (k+1)) Wc (zA s a b ts (y0 (.v (.ref r))) x7 x8 x9) h= .next (zA s a b (ts++ [t]) (y0 (.v (.ref r))) J M L) h':=by
 obtain⟨v,g,Z,G,l1,p⟩:=Jf k P K (show 0<8 by decide) (by decide)
 have p:call prog _ "_law_next" [.v _,.v (.int 8)] h= .ok _ g:=p
 have Q:Gi .add 1 (v:Int)=y0 _:=Xz 1 v
 obtain⟨d,e,Y,A,C,X,H⟩:=yR (k:=k) (s:=s) (a:=a) (b:=b) (ts:=ts) (x8:=x8) (x9:=x9) (n:=1+v) G (show r<g.length by omega) (by omega)
 have z: ∀t:Tx,t.length<=8->(∀ c∈t,97<=c/\c<=122)->1<=t.length->t∉av++Jz::ts->Nm _:=λt I l g j=>by
  refine N.snoc ⟨g,I,l,λo=>j ?_⟩ λo=>j ?_
  ·rcases (wV t).mp o with q | q
   ·exact Ae7 _ q
   ·exact Ab0 _ (q▸Aa4)
  ·exact Ab0 _ (Aa5 _ o)
 have y:((Jz::ts).map D.str).length<aW:=by rw [Gc];simp;omega
 simp only [Wc]
 rw [za (Y1:=zA s a b ts (y0 (.v (.ref r))) (y0 (.v (.int ((1+v:Nat):Int)))) x8 x9) (h1:=g) (by simp_all [p,Q];rfl)]
 have T:d.length<=aW/\(d.map λc=> [c]).length<=aW/\([]:Tx).length<=aW:=by
  rw [Ab1,Gc];exact⟨by omega,by omega,Ae8 _⟩
 have w:exec (k8 (k+1)) (.af 8 (.cE .join (.str []) (.a zf))) (zA s a b ts (y0 (.v (.ref r))) (y0 (.v (.int ((1+v:Nat):Int)))) x8 x9) g= .next (zA s a b ts (y0 (.v (.ref r))) (y0 (.v (.int ((1+v:Nat):Int)))) (y0 (.v (.str d))) x9) e:=by
  simp only [exec,eval,Gj,R.aa,uk,if_true,H,ly,W.a0,R.ab,W.fQ,Ad5,Xo,o3,if_pos T,R.aA,W.cj,GD]
 rw [za w]
 have f:Gr (k8 (k+1)) (.cmp .mem .v8 (.bin .add .v4 .v5)) (zA s a b ts (y0 (.v (.ref r))) (y0 (.v (.int ((1+v:Nat):Int)))) (y0 (.v (.str d))) x9) e= .ok (u9 (d∈av++Jz::ts)) e:=by
  simp only [Gr,eval,Gp,Gm,R.aa,w4 ts e (by omega),Gw,Jr d _ (.own ((av++Jz::ts).map .str)) e rfl rfl,R.ab,Gn]
 by_cases q:d∈av++Jz::ts
 ·rw [decide_eq_true q]at f
  obtain⟨c,rr,m,j,E⟩:=EL (ts:=ts) (t:=d) S
  obtain⟨U,u⟩: ∃U,U=bB.map λc=>d.take 7++ [c]:=⟨_,rfl⟩
  rw [← u]at E
  have V:U.length<=100:=by rw [u];simp
  have B:=Bf (F:=(k8 (k+1))) (s:=s) (a:=a) (b:=b) (ts:=ts) (x6:=y0 (.v (.ref r))) (x7:=y0 (.v (.int ((1+v:Nat):Int)))) (x9:=x9) (h:=e) (t:=d) (by omega)
  rw [← u]at B
  have i0:exec (k8 (k+1)) (.af 8 (.ix qf (.int 0))) (zA s a b ts (y0 (.v (.ref r))) (y0 (.v (.int ((1+v:Nat):Int)))) (y0 (.v (.str d))) (y0 (.v (.lst (U.map .str))))) e= .next (zA s a b ts (y0 (.v (.ref r))) (y0 (.v (.int ((1+v:Nat):Int)))) (y0 (.v (.str (d.take 7++ [c])))) (y0 (.v (.lst (U.map .str))))) e:=by
   simp only [exec,eval,AZ (F:=(k8 (k+1))) (s:=s) (a:=a) (b:=b) (x6:=y0 (.v (.ref r))) (x7:=y0 (.v (.int ((1+v:Nat):Int)))) (x8:=y0 (.v (.str d))) (h:=e) (ts:=ts) (us:=U) (by omega) V,E,R.aa,wv,Ab3,Zt,R.ab,R.aA,W.cj,GD]<;>rfl
  refine⟨d.take 7++ [c],y0 (.v (.int ((1+v:Nat):Int))),y0 (.v (.str (d.take 7++ [c]))),y0 (.v (.lst (U.map .str))),e,z _ (by simp;omega) (λx i=> ?_) (by simp) j,C,by omega,?_⟩
  ·rcases Ac8.mp i with i | i
   ·exact A x (Ag9 i)
   ·rw [Ab8]at i;exact i▸m
  ·rw [za (Y1:=zA s a b ts (y0 (.v (.ref r))) (y0 (.v (.int ((1+v:Nat):Int)))) (y0 (.v (.str (d.take 7++ [c])))) (y0 (.v (.lst (U.map .str))))) (h1:=e)]
   ·simp only [execs,exec,Gm,eval,Gp,R.aA,W.cj,y,if_true,GD,O.b5]
    simp [zA]
   ·rw [Wm f,za (Y1:=zA s a b ts (y0 (.v (.ref r))) (y0 (.v (.int ((1+v:Nat):Int)))) (y0 (.v (.str d))) (y0 (.v (.lst (U.map .str))))) (h1:=e) (by simp only [exec,B,R.aA,W.f7,GD]),za i0]
    rfl
 ·rw [decide_eq_false q]at f
  refine⟨d,y0 (.v (.int ((1+v:Nat):Int))),y0 (.v (.str d)),x9,e,z d (by omega) A (by omega) q,C,by omega,?_⟩
  rw [za ((Zn f).trans rfl)]
  simp only [execs,exec,Gm,eval,Gp,R.aA,W.cj,y,if_true,GD,O.b5]
  simp [zA]
theorem sH : ∀(rs:List Nat) ts x6 x7 x8 x9 h,PH h->(∀ r∈rs,r<h.length)->Nm ts->ts.length+rs.length<=8-> ∃us M i L J h',Nm us/\us.length=ts.length+rs.length/\PH h'/\h'.length=h.length ∧
 GB (Gz [6] k9) (λY h=>execs (k8 (k+1)) Wc Y h) (rs.map .ref) (zA s a b ts x6 x7 x8 x9) h= .next (zA s a b us M i L J) h'
 | [],ts,x6,x7,x8,x9,h,P,c,N,d=>⟨ts,x6,x7,x8,x9,h,N,by simp,P,rfl,rfl⟩
 | r::rs,ts,x6,x7,x8,x9,h,P,c,N,d=>by
  simp only [Aa0]at d
  obtain⟨t,i,L,J,y,x,e,A,v⟩:=Ez P (c r Aa4) N (by omega)
  obtain⟨us,o,w,j,p,g,f,n,u,z,m⟩:=sH rs (ts++ [t]) (y0 (.v (.ref r))) i L J y e (λq l=>by have:=c q (Aa5 _ l);omega) x (by simp;omega)
  refine⟨us,o,w,j,p,g,f,by simp at n ⊢;omega,u,by omega,?_⟩
  rw [Ab3,xg rfl v,m]
def j3 (n r):(Aa1 n [D.ref r]).flatten=(Aa1 n r).map .ref:=by
 induction n with
 | zero=>rfl
 | succ n a=>rw [Ac9,Ai0,a];rfl
def ot (xs) (n:Nat) (h) (b:n<=1000) (a:xs.length*n<=1000000):GA .mul (.own xs) (.v (.int (n:Int))) h= .ok (.own (Aa1 n xs).flatten) h:=by
 show Ks xs n h=_
 rw [Ks,if_pos ⟨by lia,by lia,by rw [Af2,Gc];exact a⟩,Af2]
def ZX (a:Gf xs=k9) (b:n<=h.length): ∃h',Gu n (.ret (.own xs) h)= .ok (.own xs) h'/\h'=h.take n:=by
 by_cases q:h.length=n
 ·exact⟨h,by simp [Gu,fin,q],by rw [← q,Ai8]⟩
 ·exact⟨h.take n,by simp [Gu,fin,q,W.keep,a],rfl⟩
def rO (a:Gs d=k9) (b:n<=h.length): ∃h',Gu n (.ret (.v d) h)= .ok (.v d) h'/\h'=h.take n:=by
 by_cases q:h.length=n
 ·exact⟨h,by simp [Gu,fin,q],by rw [← q,Ai8]⟩
 ·exact⟨h.take n,by simp [Gu,fin,q,W.keep,a],rfl⟩
theorem xk: ∀ts:List Tx,Gf (ts.map .str)=k9
 | []=>rfl
 | t::ts=>by simp [xk ts]
def Xj (a:Gj F es Y h= .ok ws h) (b:F.call f (ws.map W.arg) h= .ok (.own xs) h) (c:Gf xs=k9):eval F (.share (.call f es)) Y h= .ok (.v (.ref h.length)) (h++ [.lst xs]):=by
 simp only [eval,a,R.aa,b,c,if_true]
def xY (k) (ns) (p:ns.length<=63) (K T) (hK:K<=4) (hT:T<=4) (h:AH) (P:PH h): ∃ts h',Nm ts/\ts.length=K+T/\PH h'/\h'.length=h.length ∧
 call prog (k+3) "_law_any_names" [bf ns,.v (.int (K:Int)),.v (.int (T:Int))] h= .ok (.own (ts.map .str)) h':=by
 rw [Gb (d:=Wj) rfl _ _ _ rfl]
 obtain⟨g,c,e,S⟩:=Jx k ns p 1 h
 obtain⟨a2,j,l,B⟩:=Jx k ns p 2 _
 have y:=P.app g c e
 have M:=y.app a2 j l
 obtain⟨i,z,A,L,C,h',N,t,Z,u,H⟩:=sH (k:=k+1) (s:=bf ns) (a:= .v (.int (K:Int))) (b:= .v (.int (T:Int))) (Aa1 K h.length++Aa1 T (h.length+1)) [] u0 u0 u0 u0 _ M (λr G=>by
  rw [Aa3,Aa3]
  rcases Ac8.mp G with q | q
  ·rw [(Aj1.mp q).2];simp;omega
  ·rw [(Aj1.mp q).2];simp) ⟨List.nodup_nil,λ_ h=>absurd h Aa2⟩ (by simp;omega)
 simp only [Aa3,Ae3,Af4,Nat.zero_add]at t
 have E:call prog _ "_law_purse" [bf ns,.v _] h= .ok (.own [.int g,.int c,.int e]) h:=S
 have O:call prog (k+2) "_law_purse" [bf ns,.v (.int 2)] (h++ [.lst [.int g,.int c,.int e]])= .ok (.own [.int a2,.int j,.int l]) (h++ [.lst [.int g,.int c,.int e]]):=B
 obtain⟨U,V,v⟩:=ZX (xs:=i.map .str) (n:=h.length) (h:=h') (xk i) (by rw [u,Aa3,Aa3];omega)
 refine⟨i,U,N,t,v▸Z.take _,by rw [v,Ae9,u,Aa3,Aa3];omega,?_⟩
 simp only [Wj]
 show Gu _ (execs _ _ [y0 (bf ns),y0 (.v (.int (K:Int))),y0 (.v (.int (T:Int))),u0,u0,u0,u0,u0,u0,u0] h)=_
 rw [za (Y1:= [y0 (bf ns),y0 (.v (.int (K:Int))),y0 (.v (.int (T:Int))),y0 (.v (.str bB)),u0,u0,u0,u0,u0,u0]) (h1:=h) rfl]
 rw [za (Y1:= [y0 (bf ns),y0 (.v (.int (K:Int))),y0 (.v (.int (T:Int))),y0 (.v (.str bB)),y0 (.v (.lst (av.map .str))),u0,u0,u0,u0,u0]) (h1:=h) rfl]
 rw [za (Y1:=zA (bf ns) (.v (.int (K:Int))) (.v (.int (T:Int))) [] u0 u0 u0 u0) (h1:=h) rfl]
 have x:GA .mul (.own [.ref h.length]) (.v (.int (K:Int))) (h++ [.lst [.int g,.int c,.int e]])= .ok (.own ((Aa1 K h.length).map .ref)) (h++ [.lst [.int g,.int c,.int e]]):=by
  rw [ot _ _ _ (by omega) (by simp;omega),j3]
 have J:GA .mul (.own [.ref (h.length+1)]) (.v (.int (T:Int))) (h++ [.lst [.int g,.int c,.int e]]++ [.lst [.int a2,.int j,.int l]])= .ok (.own ((Aa1 T (h.length+1)).map .ref)) (h++ [.lst [.int g,.int c,.int e]]++ [.lst [.int a2,.int j,.int l]]):=by
  rw [ot _ _ _ (by omega) (by simp;omega),j3]
 have I:(h++ [Cell.lst [.int g,.int c,.int e]]).length=h.length+1:=by simp
 have X:exec (k8 (k+2)) (.for [6] true (.seq (.bin .add (.bin .mul (.lst (.cons (.share (.call "_law_purse" (.b .v0 (.int 1)))) .nil)) .v1) (.bin .mul (.lst (.cons (.share (.call "_law_purse" (.b .v0 (.int 2)))) .nil)) .v2))) Wc) (zA (bf ns) (.v (.int (K:Int))) (.v (.int (T:Int))) [] none none none none) h= .next (zA (bf ns) (.v (.int (K:Int))) (.v (.int (T:Int))) i z A L C) h':=by
  have Q:=Xj (F:=(k8 (k+2))) (f:= "_law_purse") (es:= .cons .v0 (.a (.int 1))) (Y:=zA (bf ns) (.v (.int (K:Int))) (.v (.int (T:Int))) [] none none none none) (h:=h) (ws:= [bf ns,.v (.int 1)]) (xs:= [D.int g,D.int c,D.int e]) rfl E rfl
  have o:=Xj (F:=(k8 (k+2))) (f:= "_law_purse") (es:= .cons .v0 (.a (.int 2))) (Y:=zA (bf ns) (.v (.int (K:Int))) (.v (.int (T:Int))) [] none none none none) (h:=h++ [Cell.lst [D.int g,D.int c,D.int e]]) (ws:= [bf ns,.v (.int 2)]) (xs:= [D.int a2,D.int j,D.int l]) rfl O rfl
  rw [I]at o
  rw [exec,GC]
  simp only [GE]
  rw [eval,eval,eval,Gk,Q]
  simp only [R.aa,W.cj,R.ab,Gk]
  rw [show eval (k8 (k+2)) .v1 (zA (bf ns) (.v (.int (K:Int))) (.v (.int (T:Int))) [] u0 u0 u0 u0) (h++ [.lst [.int g,.int c,.int e]])= .ok (.v (.int (K:Int))) (h++ [.lst [.int g,.int c,.int e]])from rfl,R.aa,x,R.aa,eval,eval,Gk,o]
  simp only [R.aa,W.cj,R.ab,Gk]
  rw [show eval (k8 (k+2)) .v2 (zA (bf ns) (.v (.int (K:Int))) (.v (.int (T:Int))) [] u0 u0 u0 u0) (h++ [.lst [.int g,.int c,.int e]]++ [.lst [.int a2,.int j,.int l]])= .ok (.v (.int (T:Int))) (h++ [.lst [.int g,.int c,.int e]]++ [.lst [.int a2,.int j,.int l]])from rfl,R.aa,J,R.aa,QT,if_pos (by rw [Gc];simp;omega),R.aa,GV,R.ab,R.aA,←Ac0,H]
 rw [za X]
 rw [qa (w:= .own (i.map .str)) (h1:=h') ?_,V]
 refine zj rfl ?_
 have:=l5 ((Jz::i).map D.str) 1
 have m:cut ((Jz::i).map D.str) (y0 1) u0=i.map .str:=this
 simp only [eval,Gp,Gm,R.aa,int?_int,R.ab,yL,m]
theorem Wr (x): ∀ys:List Tx,(GP x ys).Perm (x::ys)
 | []=> .refl _
 | y::ys=>by
  unfold GP
  by_cases q:y<x
  ·rw [if_pos q]
   exact((Wr x ys).cons y).trans (.swap x y ys)
  ·rw [if_neg q]
theorem xb: ∀xs:List Tx,(Gg xs).Perm xs
 | []=> .refl _
 | x::xs=>(Wr x (Gg xs)).trans ((xb xs).cons x)
def Nm.perm (h:Nm a) (p:b.Perm a):Nm b:=⟨p.nodup_iff.mpr h.nd,λt c=>h.good t (p.mem_iff.mp c)⟩
def Nm.rev (h:Nm a):Nm a.reverse:=h.perm (List.reverse_perm a)
abbrev ba (ts:List Tx):D:= .tup (ts.map .str)
abbrev wD (K T:List Tx):D:= .tup [ba K,ba T]
def Hb:Gi .pow 10 8=y0 ((100000000:Nat):Int):=by
 have:(0:Int)<=8/\ 8<=BP/\(10:Int).natAbs<k5:=by rw [Kq,GM];decide
 show(if _ then _ else _)=_
 rw [if_pos this]
 rfl
def WI (ts) (h) (a:ts.length<64):cU .sorted [.own (ts.map .str)] h= .ok (.own ((Gg ts).map .str)) h:=by
 show(R.of h ((y0 _).bind GI)).bind _=_
 rw [Ad5,Xo,R.ab,R.aa,if_pos a]
def o7 (c) (h):Gw .eq (.v (.int (c % 2))) (.v (.int 1)) h=y0 (u9 (c % 2=1)):=Xy _ _ h
noncomputable abbrev kb (s:W) (r K T n:Nat) (ts:List Tx):Sl:= [y0 s,y0 (.v (.ref r)),y0 (.v (.int (K:Int))),y0 (.v (.int (T:Int))),y0 (.v (.int (n:Int))),y0 (.v (.lst (ts.map .str)))]
def CM (k) (ns) (v:ns.length<=63) (h) (P:PH h): ∃K T h',(K.length<=4/\(∃ a,K=Gg a)/\ ∃b,T=Gg b)/\T.length<=4/\Nm (K++T)/\PH h'/\h'.length=h.length/\call prog (k+4) "_law_words" [bf ns] h= .ok (.v (wD K T)) h':=by
 rw [Gb (d:=Xt) rfl _ _ _ rfl]
 obtain⟨l,i,j,y⟩:=Jx (k+1) ns v 0 h
 have y:call prog (k+3) "_law_purse" [bf ns,.v (.int 0)] h= .ok (.own [.int l,.int i,.int j]) h:=y
 have M:=P.app l i j
 have l1:(h++ [Cell.lst [D.int l,D.int i,D.int j]]).length=h.length+1:=by simp
 obtain⟨K,p,hK,P2,l2,u⟩:=Jf (k+2) M (show h.length<(h++ [Cell.lst [D.int l,D.int i,D.int j]]).length by omega) (show 0<5 by decide) (by decide)
 obtain⟨T,t,hT,P3,l3,x⟩:=Jf (k+2) P2 (show h.length<p.length by omega) (show 0<5 by decide) (by decide)
 obtain⟨n,e,hn,z,l4,e4⟩:=Jf (k+2) P3 (show h.length<t.length by omega) (show 0<100000000 by decide) (by decide)
 have u:call prog (k+3) "_law_next" [.v (.ref h.length),.v (.int 5)] (h++ [Cell.lst [D.int l,D.int i,D.int j]])= .ok (.v (.int (K:Int))) p:=u
 have x:call prog (k+3) "_law_next" [.v (.ref h.length),.v (.int 5)] p= .ok (.v (.int (T:Int))) t:=x
 obtain⟨fs,B,A,H,S⟩:=B8 (k+2) (n / 2) (K+T) e (by omega)
 obtain⟨r,o⟩:=m1 (k+2) ns v 0 e
 have o:call prog (k+3) "_law_cell" [bf ns,.v (.int 0)] e= .ok (.v (.int r)) e:=o
 obtain⟨as,h5,V,la,P5,X,E⟩:=xY k ns v K T (by omega) (by omega) e z
 have Z:Gi .fdiv (n:Int) 2=y0 ((n / 2:Nat):Int):=QQ n 2 (by decide) (by decide)
 have I:Gi .mod (n:Int) 2=y0 ((n % 2:Nat):Int):=zM n 2 (by decide)
 have C:Gi .mod r 2=y0 (r % 2):=zp _ _ (by decide)
 have d4:=Xz K T
 have G:Gw .eq (.v (.int ((n % 2:Nat):Int))) (.v (.int 1)) e=y0 (u9 (n % 2=1)):=Qh (n % 2) 1 e
 simp only [Xt]
 show ∃K T h',_/\_/\_/\_/\_/\Gu _ (execs _ _ [y0 (bf ns),u0,u0,u0,u0,u0] h)=_
 have p1:=Xj (F:=(k8 (k+3))) (f:= "_law_purse") (es:= .cons .v0 (.a (.int 0))) (Y:= [some (bf ns),none,none,none,none,none]) (h:=h) (ws:= [bf ns,.v (.int 0)]) (xs:= [D.int l,D.int i,D.int j]) rfl y rfl
 rw [za (Y1:= [y0 (bf ns),y0 (.v (.ref h.length)),u0,u0,u0,u0]) (h1:=h++ [Cell.lst [D.int l,D.int i,D.int j]]) (by rw [exec,p1];rfl)]
 rw [za (Y1:= [y0 (bf ns),y0 (.v (.ref h.length)),y0 (.v (.int (K:Int))),u0,u0,u0]) (h1:=p) (by simp_all [u])]
 rw [za (Y1:= [y0 (bf ns),y0 (.v (.ref h.length)),y0 (.v (.int (K:Int))),y0 (.v (.int (T:Int))),u0,u0]) (h1:=t) (by simp_all [x])]
 rw [za (Y1:= [y0 (bf ns),y0 (.v (.ref h.length)),y0 (.v (.int (K:Int))),y0 (.v (.int (T:Int))),y0 (.v (.int (n:Int))),u0]) (h1:=e) (by simp_all [Hb,e4])]
 rw [za (Y1:=kb (bf ns) h.length K T n fs) (h1:=e) (by simp_all [Z,d4,S])]
 have U: ∃m:List Tx,Nm m/\m.length=K+T/\exec (k8 (k+3)) (.iff (.cmp .eq (.bin .mod .v4 (.int 2)) (.int 1)) (.a (.af 5 (.rev .v5))) .nil) (kb (bf ns) h.length K T n fs) e= .next (kb (bf ns) h.length K T n m) e:=by
  by_cases q:n % 2=1
  ·refine⟨fs.reverse,Nm.rev ⟨A,H⟩,by simp [B],?_⟩
   rw [Wm (h1:=e) (by simp_all [I,G,decide_eq_true q])]
   simp_all [W.kq]
   rw [← List.map_reverse]
  ·refine⟨fs,⟨A,H⟩,B,?_⟩
   rw [Zn (h1:=e) (by simp_all [I,G,decide_eq_false q])]
   rfl
 obtain⟨m,Nt,lt,eb⟩:=U
 rw [za eb]
 have b2: ∃c g,Nm c/\c.length=K+T/\PH g/\g.length=e.length/\exec (k8 (k+3)) (.iff (.cmp .eq (.bin .mod (.call "_law_cell" (.b .v0 (.int 0))) (.int 2)) (.int 1)) (.a (.af 5 (.call "_law_any_names" (.c .v0 .v2 .v3)))) .nil) (kb (bf ns) h.length K T n m) e= .next (kb (bf ns) h.length K T n c) g:=by
  by_cases q:r % 2=1
  ·refine⟨as,h5,V,la,P5,X,?_⟩
   rw [Wm (h1:=e) (by simp only [bf]at o;simp_all [o,C,o7,decide_eq_true q])]
   simp only [bf]at E
   simp_all [E]
  ·refine⟨m,e,Nt,lt,z,rfl,?_⟩
   rw [Zn (h1:=e) (by simp only [bf]at o;simp_all [o,C,o7,decide_eq_false q])]
   rfl
 obtain⟨c,g,L,lu,P6,l6,ec⟩:=b2
 rw [za ec]
 have lt1:(c.take K).length=K:=by rw [Ae9];omega
 have N:(c.drop K).length=T:=by rw [Ah1];omega
 have pm:(Gg (c.take K)++Gg (c.drop K)).Perm c:=by
  have:=(xb (c.take K)).append (xb (c.drop K))
  rwa [Ak3]at this
 have nr:Gs (wD (Gg (c.take K)) (Gg (c.drop K)))=true:=by simp [xk]
 obtain⟨h7,s,J⟩:=rO (d:=wD (Gg (c.take K)) (Gg (c.drop K))) (n:=h.length) (h:=g) nr (by omega)
 refine⟨Gg (c.take K),Gg (c.drop K),h7,?_,?_,L.perm pm,J▸P6.take _,by rw [J,Ae9];omega,?_⟩
 ·exact⟨by rw [(xb _).length_eq];omega,⟨_,rfl⟩,⟨_,rfl⟩⟩
 ·rw [(xb _).length_eq];omega
 rw [qa (w:= .v (wD (Gg (c.take K)) (Gg (c.drop K)))) (h1:=g) ?_,s]
 refine Qc rfl ?_
 have O:cut (c.map D.str) u0 (y0 (K:Int))=(c.take K).map .str:=by rw [QS,Al1]
 have c2:cut (c.map D.str) (y0 (K:Int)) u0=(c.drop K).map .str:=by rw [l5,List.map_drop]
 have s1:=WI (c.take K) g (by omega)
 have Q:=WI (c.drop K) g (by omega)
 simp only [eval,Gk,Gj,Gp,Gm,R.aa,int?_int,R.ab,tm,O,c2,s1,Q,wG,W.cj]
inductive Ex where
 | name (t:Tx)
 | same
 | all
 | none
 | turned (a:Ex)
 | closed (a:Ex)
 | plus (a b:Ex)
 | less (a b:Ex)
 | both (a b:Ex)
 | joined (a b:Ex)
abbrev wo:Tx:= [110,97,109,101]
abbrev Zi:Tx:= [115,97,109,101]
abbrev Wq:Tx:= [97,108,108]
abbrev xi:Tx:= [110,111,110,101]
abbrev Qe:Tx:= [112,108,117,115]
abbrev Zd:Tx:= [108,101,115,115]
abbrev Ji:Tx:= [98,111,116,104]
abbrev zc:Tx:= [106,111,105,110,101,100]
abbrev Qa:Tx:= [116,117,114,110,101,100]
abbrev Za:Tx:= [99,108,111,115,101,100]
noncomputable def ag:Ex->D
 | .name t=> .tup [.str wo,.str t]
 | .same=> .tup [.str Zi]
 | .all=> .tup [.str Wq]
 | .none=> .tup [.str xi]
 | .turned a=> .tup [.str Qa,ag a]
 | .closed a=> .tup [.str Za,ag a]
 | .plus a b=> .tup [.str Qe,ag a,ag b]
 | .less a b=> .tup [.str Zd,ag a,ag b]
 | .both a b=> .tup [.str Ji,ag a,ag b]
 | .joined a b=> .tup [.str zc,ag a,ag b]
def Ex.wf (N:List Tx):Ex->Prop
 | .name t=>t∈N
 | .turned a=>a.wf N
 | .closed a=>a.wf N
 | .plus a b=>a.wf N/\b.wf N
 | .less a b=>a.wf N/\b.wf N
 | .both a b=>a.wf N/\b.wf N
 | .joined a b=>a.wf N/\b.wf N
 | _=>True
noncomputable def Ex.dp:Ex->Nat
 | .turned a=>a.dp+1
 | .closed a=>a.dp+1
 | .plus a b=>max a.dp b.dp+1
 | .less a b=>max a.dp b.dp+1
 | .both a b=>max a.dp b.dp+1
 | .joined a b=>max a.dp b.dp+1
 | _=>0
def C4 (N) (b:N.length<=100) (h):eval F jr [a,y0 (.v (ba N)),x] h= .ok (.own (N.map λt=>ag (.name t))) h:=by
 rw [jr,Xm (ds:=N.map .str) (λd=> .tup [.str wo,d]) (by simp_all []) (by rw [Gc];simp;lia)]
 ·simp [ag]
 ·intro d hd
  exact⟨[y0 _],rfl,_,rfl,rfl⟩
def pR (k r) (N) (f:N.length<=100)(P:PH h) (g:r<h.length): ∃e h',e.wf N/\e.dp=0/\PH h'/\h'.length=h.length/\call prog (k+2) "_law_leaf" [.v (.ref r),.v (ba N)] h= .ok (.v (ag e)) h':=by
 obtain⟨v,b,p,d,a,n⟩:=Jf k P g (show 0<N.length+3 by omega) (by omega)
 have i: ∃e,Ex.wf N e/\e.dp=0/\((N.map λt=>ag (.name t))++ [ag .same,ag .all,ag .none])[v]? =y0 (ag e):=by
  by_cases q:v<N.length
  ·refine⟨.name N[v],Ak1 q,rfl,?_⟩
   rw [Ae0 (by simpa using q),Ad9,Ab q]
   rfl
  ·rw [Ae6 (by simpa using Nat.not_lt.mp q),Ab1]
   have:v-N.length=0\/v-N.length=1\/v-N.length=2:=by omega
   rcases this with q | q | q<;>rw [q]
   ·exact⟨.same,trivial,rfl,rfl⟩
   ·exact⟨.all,trivial,rfl,rfl⟩
   ·exact⟨.none,trivial,rfl,rfl⟩
 obtain⟨e,m,l,j⟩:=i
 refine⟨e,b,m,l,d,a,?_⟩
 have o:((N.map λt=>ag (.name t))++ [ag .same,ag .all,ag .none]).length=N.length+3:=by simp
 have c:=Xr ((N.map λt=>ag (.name t))++ [ag .same,ag .all,ag .none]) v (by omega)
 rw [j]at c
 rw [Gb rfl _ _ _ rfl]
 simp only [xK]
 show Gu _ (execs _ _ [y0 (.v (.ref r)),y0 (.v (ba N)),u0] h)=_
 rw [za (Y1:= [y0 (.v (.ref r)),y0 (.v (ba N)),y0 (.v (.lst ((N.map λt=>ag (.name t))++ [ag .same,ag .all,ag .none])))]) (h1:=h)]
 ·rw [qa (Qc rfl ?_),Ga _ _ _ a]
  simp_all [sE,o,n,lZ,c]
 ·rw [exec,eval,C4 N f h,R.aa]
  simp only [eval,Gk,R.aa,W.cj,R.ab,QT]
  rw [if_pos (by rw [Gc];simp;omega)]
  rfl
def Cs (s:Nat) (h1:0<s) (b:s<3): ∃f:Ex->Ex,(∀ a,(f a).dp=a.dp+1)/\(∀ N a,a.wf N->(f a).wf N)/\ ∃t,bc [D.str Qa,.str Za] ((s:Int)-1)=y0 (.str t)/\ ∀a,ag (f a)= .tup [.str t,ag a]:=by
 match s,h1,b with
 | 1,_,_=>exact⟨.turned,λ_=>rfl,λ_ _ h=>h,Qa,rfl,λ_=>rfl⟩
 | 2,_,_=>exact⟨.closed,λ_=>rfl,λ_ _ h=>h,Za,rfl,λ_=>rfl⟩
 | s+3,_,h=>exact absurd h (by lia)
def FK (s:Nat) (h1:3<=s) (c:s<9): ∃f:Ex->Ex->Ex,(∀ a b,(f a b).dp=max a.dp b.dp+1)/\(∀ N a b,a.wf N->b.wf N->(f a b).wf N)/\ ∃t,bc [D.str Qe,.str Zd,.str Ji,.str zc,.str Zd,.str zc] ((s:Int)-3)=y0 (.str t)/\ ∀a b,ag (f a b)= .tup [.str t,ag a,ag b]:=by
 match s,h1,c with
 | 3,_,_=>exact⟨.plus,λ_ _=>rfl,λ_ _ _ h g=>⟨h,g⟩,Qe,rfl,λ_ _=>rfl⟩
 | 4,_,_=>exact⟨.less,λ_ _=>rfl,λ_ _ _ h g=>⟨h,g⟩,Zd,rfl,λ_ _=>rfl⟩
 | 5,_,_=>exact⟨.both,λ_ _=>rfl,λ_ _ _ h g=>⟨h,g⟩,Ji,rfl,λ_ _=>rfl⟩
 | 6,_,_=>exact⟨.joined,λ_ _=>rfl,λ_ _ _ h g=>⟨h,g⟩,zc,rfl,λ_ _=>rfl⟩
 | 7,_,_=>exact⟨.less,λ_ _=>rfl,λ_ _ _ h g=>⟨h,g⟩,Zd,rfl,λ_ _=>rfl⟩
 | 8,_,_=>exact⟨.joined,λ_ _=>rfl,λ_ _ _ h g=>⟨h,g⟩,zc,rfl,λ_ _=>rfl⟩
 | s+9,_,h=>exact absurd h (by lia)
theorem Zl (r) (N) (l:N.length<=100): ∀(d k:Nat) (h:AH),PH h->r<h.length-> ∃e h',e.wf N/\e.dp<=d/\PH h'/\h'.length=h.length/\call prog (k+d+3) "_law_expression" [.v (.ref r),.v (.int (d:Int)),.v (ba N)] h= .ok (.v (ag e)) h'
 | 0,k,h,P,u=>by
  obtain⟨e,c,y,D,j,B,i⟩:=pR k r N l P u
  refine⟨e,c,y,Ak6 D,j,B,?_⟩
  rw [Gb (d:=Xd) rfl _ _ _ rfl]
  have z:Gw .gt (.v (.int ((0:Nat):Int))) (.v (.int 0)) h=y0 false:=rfl
  have n:Gw .eq (.v (.int 0)) (.v (.int 0)) h=y0 true:=Qh 0 0 h
  simp_all [Xd,z,n,i]
  rw [Ga _ _ _ B]
 | d+1,k,h,P,u=>by
  obtain⟨s,c,H,j,B,i⟩:=Jf (k+d+2) P u (show 0<9 by decide) (by decide)
  have i:call prog (k+d+3) "_law_next" [.v (.ref r),.v (.int 9)] h= .ok (.v (.int (s:Int))) c:=i
  have z:Gw .gt (.v (.int ((d+1:Nat):Int))) (.v (.int 0)) h=y0 true:=by
   rw [XJ];congr 1;exact decide_eq_true (by omega)
  have n: ∀h,Gw .eq (.v (.int (s:Int))) (.v (.int 0)) h=y0 (u9 (s=0)):=λh=>Qh s 0 h
  have C:Gi .sub ((d+1:Nat):Int) 1=y0 (d:Int):=by rw [xn];congr 1;omega
  rw [show k+(d+1)+3=k+d+4 by omega,Gb (d:=Xd) rfl _ _ _ rfl]
  simp only [Xd]
  show ∃e h',_/\_/\_/\_/\Gu _ (execs _ _ [y0 (.v (.ref r)),y0 (.v (.int ((d+1:Nat):Int))),y0 (.v (ba N)),u0,u0,u0] h)=_
  rw [za (Y1:= [y0 (.v (.ref r)),y0 (.v (.int ((d+1:Nat):Int))),y0 (.v (ba N)),y0 (.v (.int 0)),u0,u0]) (h1:=h) rfl]
  rw [za (Y1:= [y0 (.v (.ref r)),y0 (.v (.int ((d+1:Nat):Int))),y0 (.v (ba N)),y0 (.v (.int (s:Int))),u0,u0]) (h1:=c) (by simp_all [z,i])]
  by_cases F:s=0
  ·obtain⟨e,g,y,D,m,I,q⟩:=pR (k+d+1) r N l j (show r<c.length by omega)
   refine⟨e,g,y,by omega,m,by omega,?_⟩
   rw [qa (w:= .v (ag e)) (h1:=g) (by simp_all [n,decide_eq_true F,q]),Ga _ _ _ (by omega)]
  ·obtain⟨a,g,E,Q,m,I,q⟩:=Zl r N l d k c j (by omega)
   rw [za (Y1:= [y0 (.v (.ref r)),y0 (.v (.int ((d+1:Nat):Int))),y0 (.v (ba N)),y0 (.v (.int (s:Int))),u0,u0]) (h1:=c) (by simp_all [n,decide_eq_false F])]
   rw [za (Y1:= [y0 (.v (.ref r)),y0 (.v (.int ((d+1:Nat):Int))),y0 (.v (ba N)),y0 (.v (.int (s:Int))),y0 (.v (ag a)),u0]) (h1:=g) (by simp_all [C,q])]
   by_cases G:s<3
   ·obtain⟨f,hd,x,t,p,v⟩:=Cs s (by omega) G
    have A:Gw .lt (.v (.int (s:Int))) (.v (.int 3)) g=y0 true:=by
     rw [Jm];congr 1;exact decide_eq_true (by omega)
    refine⟨f a,g,x N a E,by rw [hd];omega,m,by omega,?_⟩
    rw [qa (w:= .v (ag (f a))) (h1:=g) (by simp_all [A,xn,wv,p,v]),Ga _ _ _ (by omega)]
   ·obtain⟨f,hd,x,t,p,v⟩:=FK s (by omega) H
    obtain⟨b,o,K,M,L,O,J⟩:=Zl r N l d k g m (by omega)
    have A:Gw .lt (.v (.int (s:Int))) (.v (.int 3)) g=y0 false:=by
     rw [Jm];congr 1;exact decide_eq_false (by omega)
    refine⟨f a b,o,x N a b E K,by rw [hd];omega,L,by omega,?_⟩
    rw [za (Y1:= [y0 (.v (.ref r)),y0 (.v (.int ((d+1:Nat):Int))),y0 (.v (ba N)),y0 (.v (.int (s:Int))),y0 (.v (ag a)),u0]) (h1:=g) (by simp_all [A])]
    rw [za (Y1:= [y0 (.v (.ref r)),y0 (.v (.int ((d+1:Nat):Int))),y0 (.v (ba N)),y0 (.v (.int (s:Int))),y0 (.v (ag a)),y0 (.v (ag b))]) (h1:=o) (by simp_all [C,J])]
    rw [qa (w:= .v (ag (f a b))) (h1:=o) (by simp_all [xn,wv,p,v]),Ga _ _ _ (by omega)]
noncomputable def h8:Ex->Tx
 | .name _=>wo
 | .same=>Zi
 | .all=>Wq
 | .none=>xi
 | .turned _=>Qa
 | .closed _=>Za
 | .plus _ _=>Qe
 | .less _ _=>Zd
 | .both _ _=>Ji
 | .joined _ _=>zc
def Xe (s t) (h):Gw .eq (.v (.str s)) (.v (.str t)) h=y0 (s==t):=by simp [G8]
def Qx (t) (ts) (h):Gw .mem (.v (.str t)) (.v (ba ts)) h=y0 (u9 (t∈ts)):=Jr t ts (.v (ba ts)) h rfl rfl
def xa (e:Gr F c Y h= .ok y9 h):execs F (.cons (.iff c a .nil) ss) Y h=execs F ss Y h:=za (Zn e)
def jq (e:Gr F c Y h= .ok k9 h) (r:exec F s Y h= .ret w h):execs F (.cons (.iff c (.cons s .nil) .nil) ss) Y h= .ret w h:=qa ((Wm e).trans (qa r))
def Qk (x y) (r:List D):bc (x::y::r) 1=y0 y:=by
 have:=Xr (x::y::r) 1 (by simp)
 exact this
abbrev zb:Tx:= [108,101,97,115,116]
abbrev Wb:Tx:= [109,111,115,116]
abbrev Wh:Tx:= [101,97,99,104,108,101,97,115,116]
abbrev Jn:Tx:= [101,97,99,104,109,111,115,116]
abbrev zv:Tx:= [105,110]
abbrev Qd:Tx:= [101,113,117,97,108]
abbrev xf:Tx:= [115,111,109,101]
abbrev XH:Tx:= [110,111]
inductive Fc where
 | cT (a b:Ex)
 | cV (a b:Ex)
 | cO (a:Ex)
 | az (a:Ex)
 | cnt (s:Tx) (k:Nat) (a:Ex)
def aO:Fc->D
 | .cT a b=> .tup [.str zv,ag a,ag b]
 | .cV a b=> .tup [.str Qd,ag a,ag b]
 | .cO a=> .tup [.str xf,ag a]
 | .az a=> .tup [.str XH,ag a]
 | .cnt s k a=> .tup [.str s,.int (k:Int),ag a]
def Fc.wf (N:List Tx):Fc->Prop
 | .cT a b=>a.wf N/\b.wf N
 | .cV a b=>a.wf N/\b.wf N
 | .cO a=>a.wf N
 | .az a=>a.wf N
 | .cnt s k a=>(s∈ [zb,Wb,Wh,Jn]/\k<100)/\a.wf N
def Fc.dp:Fc->Nat
 | .cT a b=>max a.dp b.dp
 | .cV a b=>max a.dp b.dp
 | .cO a=>a.dp
 | .az a=>a.dp
 | .cnt _ _ a=>a.dp
def me (x y:D):bc [x,y] 0=y0 x:=rfl
def mO (x y:D):bc [x,y] 1=y0 y:=rfl
def yq (s:Nat) (a:4<=s) (b:s<8): ∃t∈ [zb,Wb,Wh,Jn],bc [D.str zb,.str Wb,.str Wh,.str Jn] ((s:Int)-4)=y0 (.str t):=by
 match s,a,b with
 | 4,_,_=>exact⟨zb,by decide,rfl⟩
 | 5,_,_=>exact⟨Wb,by decide,rfl⟩
 | 6,_,_=>exact⟨Wh,by decide,rfl⟩
 | 7,_,_=>exact⟨Jn,by decide,rfl⟩
 | s+8,_,h=>exact absurd h (by lia)
abbrev kX (r:Nat) (N:List Tx) (x2 x3 x4:Option W):Sl:= [y0 (.v (.ref r)),y0 (.v (ba N)),x2,x3,x4]
def pT (k r) (N) (H:N.length<=100)(P:PH h) (O:r<h.length): ∃f h',Fc.wf N f/\f.dp<=4/\PH h'/\h'.length=h.length/\call prog (k+7) "_law_fact" [.v (.ref r),.v (ba N)] h= .ok (.v (aO f)) h':=by
 obtain⟨s,g,Q,K,l1,y⟩:=Jf (k+5) P O (show 0<8 by decide) (by decide)
 have y:call prog (k+6) "_law_next" [.v (.ref r),.v (.int 8)] h= .ok (.v (.int (s:Int))) g:=y
 obtain⟨d,E,hd,S,Y,v⟩:=Jf (k+5) K (show r<g.length by omega) (show 0<4 by decide) (by decide)
 have v:call prog (k+6) "_law_next" [.v (.ref r),.v (.int 4)] g= .ok (.v (.int (d:Int))) E:=v
 obtain⟨a,e,p,da,B,Z,I⟩:=Zl r N H d (k+3-d) E S (by omega)
 rw [show k+3-d+d+3=k+6 by omega]at I
 rw [Gb (d:=Jy) rfl _ _ _ rfl]
 simp only [Jy]
 show ∃f h',_/\_/\_/\_/\Gu _ (execs _ _ (kX r N u0 u0 u0) h)=_
 rw [za (Y1:=kX r N (y0 (.v (.int (s:Int)))) u0 u0) (h1:=g) (by simp_all [y])]
 rw [za (Y1:=kX r N (y0 (.v (.int (s:Int)))) (y0 (.v (ag a))) u0) (h1:=e) (by simp_all [v,I])]
 by_cases F:s<2
 ·obtain⟨c,n,G,q,V,l⟩:=Jf (k+5) B (show r<e.length by omega) (show 0<3 by decide) (by decide)
  have l:call prog (k+6) "_law_next" [.v (.ref r),.v (.int 3)] e= .ok (.v (.int (c:Int))) n:=l
  obtain⟨b,i,J,X,A,R,m⟩:=Zl r N H c (k+3-c) n q (by omega)
  rw [show k+3-c+c+3=k+6 by omega]at m
  have z:Gw .lt (.v (.int (s:Int))) (.v (.int 2)) e=y0 true:=by
   rw [Jm];congr 1;exact decide_eq_true (by omega)
  obtain⟨f,wf,C,t,o,x⟩: ∃f:Fc,f.wf N/\f.dp<=4/\ ∃t,bc [D.str zv,.str Qd] (s:Int)=y0 (.str t)/\aO f= .tup [.str t,ag a,ag b]:=by
   match s,F with
   | 0,_=>exact⟨.cT a b,⟨p,J⟩,by simp only [Fc.dp];omega,zv,rfl,rfl⟩
   | 1,_=>exact⟨.cV a b,⟨p,J⟩,by simp only [Fc.dp];omega,Qd,rfl,rfl⟩
   | s+2,h=>exact absurd h (by omega)
  refine⟨f,i,wf,C,A,by omega,?_⟩
  rw [qa (w:= .v (aO f)) (h1:=i) (by simp_all [z,wv,o,l,m,x]),Ga _ _ _ (by omega)]
 rw [xa (by
  have z:Gw .lt (.v (.int (s:Int))) (.v (.int 2)) e=y0 false:=by
   rw [Jm];congr 1;exact decide_eq_false (by omega)
  simp_all [z])]
 by_cases T:s<4
 ·have z:Gw .lt (.v (.int (s:Int))) (.v (.int 4)) e=y0 true:=by
   rw [Jm];congr 1;exact decide_eq_true (by omega)
  obtain⟨f,wf,C,t,o,x⟩: ∃f:Fc,f.wf N/\f.dp<=4/\ ∃t,bc [D.str xf,.str XH] ((s:Int)-2)=y0 (.str t)/\aO f= .tup [.str t,ag a]:=by
   match s,F,T with
   | 0,h,_=>exact absurd h (by omega)
   | 1,h,_=>exact absurd h (by omega)
   | 2,_,_=>exact⟨.cO a,p,by simp only [Fc.dp];omega,xf,rfl,rfl⟩
   | 3,_,_=>exact⟨.az a,p,by simp only [Fc.dp];omega,XH,rfl,rfl⟩
   | s+4,_,h=>exact absurd h (by omega)
  refine⟨f,e,wf,C,B,by omega,?_⟩
  rw [qa (w:= .v (aO f)) (h1:=e) (by simp_all [z,xn,wv,o,x]),Ga _ _ _ (by omega)]
 rw [xa (by
  have z:Gw .lt (.v (.int (s:Int))) (.v (.int 4)) e=y0 false:=by
   rw [Jm];congr 1;exact decide_eq_false (by omega)
  simp_all [z])]
 obtain⟨c,n,G,q,V,l⟩:=Jf (k+5) B (show r<e.length by omega) (show 0<3 by decide) (by decide)
 have l:call prog (k+6) "_law_next" [.v (.ref r),.v (.int 3)] e= .ok (.v (.int (c:Int))) n:=l
 obtain⟨u,L,M,ub⟩: ∃u:Nat,bc [D.int 5,.int 18,.int 100] (c:Int)=y0 (.int (u:Int))/\0<u/\u<=100:=by
  match c,G with
  | 0,_=>exact⟨5,rfl,by decide,by decide⟩
  | 1,_=>exact⟨18,rfl,by decide,by decide⟩
  | 2,_=>exact⟨100,rfl,by decide,by decide⟩
  | c+3,h=>exact absurd h (by omega)
 obtain⟨j,i,W,A,R,m⟩:=Jf (k+5) q (show r<n.length by omega) M (by omega)
 have m:call prog (k+6) "_law_next" [.v (.ref r),.v (.int (u:Int))] n= .ok (.v (.int (j:Int))) i:=m
 obtain⟨t,o,U⟩:=yq s (by omega) Q
 refine⟨.cnt t j a,i,⟨⟨o,by omega⟩,p⟩,by simp only [Fc.dp];omega,A,by omega,?_⟩
 rw [za (Y1:=kX r N (y0 (.v (.int (s:Int)))) (y0 (.v (ag a))) (y0 (.v (.int (j:Int))))) (h1:=i) (by simp_all [wv,l,L,m])]
 rw [qa (w:= .v (aO (.cnt t j a))) (h1:=i) (by simp_all [xn,wv,U,aO]),Ga _ _ _ (by omega)]
abbrev qj:Tx:= [110,111,116]
abbrev Zg:Tx:= [97,110,100]
abbrev Ju:Tx:= [111,114]
inductive Sy where
 | fact (f:Fc)
 | neg (a:Sy)
 | bj (a b:Sy)
 | bh (a b:Sy)
def ai:Sy->D
 | .fact f=>aO f
 | .neg a=> .tup [.str qj,ai a]
 | .bj a b=> .tup [.str Zg,ai a,ai b]
 | .bh a b=> .tup [.str Ju,ai a,ai b]
def Sy.wf (N:List Tx):Sy->Prop
 | .fact f=>f.wf N
 | .neg a=>a.wf N
 | .bj a b=>a.wf N/\b.wf N
 | .bh a b=>a.wf N/\b.wf N
def Sy.dp:Sy->Nat
 | .fact f=>f.dp
 | .neg a=>a.dp+1
 | .bj a b=>max a.dp b.dp+1
 | .bh a b=>max a.dp b.dp+1
def tR (f) (wf:f.wf N): ∃s ds,aO f= .tup (.str s::ds)/\(s==qj)=y9/\(s==Zg)=y9/\(s==Ju)=false:=by
 cases f with
 | cT a b=>exact⟨zv,_,rfl,rfl,rfl,rfl⟩
 | cV a b=>exact⟨Qd,_,rfl,rfl,rfl,rfl⟩
 | cO a=>exact⟨xf,_,rfl,rfl,rfl,rfl⟩
 | az a=>exact⟨XH,_,rfl,rfl,rfl,rfl⟩
 | cnt s j a=>
  have: ∀s∈ [zb,Wb,Wh,Jn],(s==qj)=y9/\(s==Zg)=y9/\(s==Ju)=false:=by decide
  exact⟨s,_,rfl,this s wf.1.1⟩
abbrev k3 (r d:Nat) (N:List Tx) (x3 x4:Option W):Sl:= [y0 (.v (.ref r)),y0 (.v (.int (d:Int))),y0 (.v (ba N)),x3,x4]
theorem zN (r) (N) (m:N.length<=100): ∀(d k:Nat) (h:AH),PH h->r<h.length-> ∃s h',Sy.wf N s/\s.dp<=d+4/\PH h'/\h'.length=h.length/\call prog (k+d+8) "_law_saying" [.v (.ref r),.v (.int (d:Int)),.v (ba N)] h= .ok (.v (ai s)) h'
 | 0,k,h,P,p=>by
  obtain⟨f,c,wf,o,l,u,i⟩:=pT k r N m P p
  refine⟨.fact f,c,wf,by simpa [Sy.dp]using o,l,u,?_⟩
  rw [Gb (d:=Qi) rfl _ _ _ rfl]
  have z:Gw .gt (.v (.int ((0:Nat):Int))) (.v (.int 0)) h=y0 false:=rfl
  have I:Gw .lt (.v (.int 0)) (.v (.int 3)) h=y0 true:=rfl
  have i:call prog (k+0+7) "_law_fact" [.v (.ref r),.v (ba N)] h= .ok (.v (aO f)) c:=i
  simp_all [Qi,z,I,i,ai]
  rw [Ga _ _ _ u]
 | d+1,k,h,P,p=>by
  obtain⟨s,c,M,l,u,i⟩:=Jf (k+d+7) P p (show 0<6 by decide) (by decide)
  have i:call prog (k+d+8) "_law_next" [.v (.ref r),.v (.int 6)] h= .ok (.v (.int (s:Int))) c:=i
  have z:Gw .gt (.v (.int ((d+1:Nat):Int))) (.v (.int 0)) h=y0 true:=by
   rw [XJ];congr 1;exact decide_eq_true (by omega)
  have y:Gi .sub ((d+1:Nat):Int) 1=y0 (d:Int):=by rw [xn];congr 1;omega
  rw [show k+(d+1)+8=k+d+9 by omega,Gb (d:=Qi) rfl _ _ _ rfl]
  simp only [Qi]
  show ∃e h',_/\_/\_/\_/\Gu _ (execs _ _ (k3 r (d+1) N u0 u0) h)=_
  rw [za (Y1:=k3 r (d+1) N (y0 (.v (.int 0))) u0) (h1:=h) rfl]
  rw [za (Y1:=k3 r (d+1) N (y0 (.v (.int (s:Int)))) u0) (h1:=c) (by simp_all [z,i])]
  by_cases K:s<3
  ·obtain⟨f,g,wf,o,n,F,j⟩:=pT (k+d+1) r N m l (show r<c.length by omega)
   have j:call prog (k+d+8) "_law_fact" [.v (.ref r),.v (ba N)] c= .ok (.v (aO f)) g:=j
   have q:Gw .lt (.v (.int (s:Int))) (.v (.int 3)) c=y0 true:=by
    rw [Jm];congr 1;exact decide_eq_true (by omega)
   refine⟨.fact f,g,wf,by simp only [Sy.dp];omega,n,by omega,?_⟩
   rw [qa (w:= .v (ai (.fact f))) (h1:=g) (by simp_all [q,j,ai]),Ga _ _ _ (by omega)]
  ·obtain⟨a,g,v,Q,n,F,j⟩:=zN r N m d k c l (by omega)
   rw [xa (by
    have q:Gw .lt (.v (.int (s:Int))) (.v (.int 3)) c=y0 false:=by
     rw [Jm];congr 1;exact decide_eq_false (by omega)
    simp_all [q])]
   rw [za (Y1:=k3 r (d+1) N (y0 (.v (.int (s:Int)))) (y0 (.v (ai a)))) (h1:=g) (by simp_all [y,j])]
   have A:Gw .eq (.v (.int (s:Int))) (.v (.int 3)) g=y0 (u9 (s=3)):=Qh s 3 g
   by_cases C:s=3
   ·refine⟨.neg a,g,v,by simp only [Sy.dp];omega,n,by omega,?_⟩
    rw [qa (w:= .v (ai (.neg a))) (h1:=g) (by simp_all [A,decide_eq_true C,ai]),Ga _ _ _ (by omega)]
   ·obtain⟨b,x,B,L,J,O,G⟩:=zN r N m d k g n (by omega)
    obtain⟨f,wf,o,t,E,H⟩: ∃f:Sy,f.wf N/\f.dp<=d+1+4/\ ∃t,bc [D.str Zg,.str Ju] ((s:Int)-4)=y0 (.str t)/\ai f= .tup [.str t,ai a,ai b]:=by
     have:s=4\/s=5:=by omega
     rcases this with rfl | rfl
     ·exact⟨.bj a b,⟨v,B⟩,by simp only [Sy.dp];omega,Zg,rfl,rfl⟩
     ·exact⟨.bh a b,⟨v,B⟩,by simp only [Sy.dp];omega,Ju,rfl,rfl⟩
    refine⟨f,x,wf,o,J,by omega,?_⟩
    rw [xa (by simp_all [A,decide_eq_false C])]
    rw [qa (w:= .v (ai f)) (h1:=x) (by simp_all [xn,wv,E,y,G,H]),Ga _ _ _ (by omega)]
def ax:Ex->Nat
 | .plus _ _=>0
 | .less _ _=>0
 | .both _ _=>1
 | .joined _ _=>2
 | _=>3
def br (c:Bool) (o k:Nat) (t:Tx):Tx:=if c then o::(t++ [k])else t
noncomputable def bT:Ex->Tx
 | .name t=>t
 | .same=>Zi
 | .all=>Wq
 | .none=>xi
 | .turned a=>126::br (u9 (ax a<3)) 40 41 (bT a)
 | .closed a=>94::br (u9 (ax a<3)) 40 41 (bT a)
 | .plus a b=>br (u9 (ax a<0)) 40 41 (bT a)++(32::43::32::br (u9 (ax b<1)) 40 41 (bT b))
 | .less a b=>br (u9 (ax a<0)) 40 41 (bT a)++(32::45::32::br (u9 (ax b<1)) 40 41 (bT b))
 | .both a b=>br (u9 (ax a<1)) 40 41 (bT a)++(32::38::32::br (u9 (ax b<2)) 40 41 (bT b))
 | .joined a b=>br (u9 (ax a<2)) 40 41 (bT a)++(32::46::32::br (u9 (ax b<3)) 40 41 (bT b))
def qh (c) (o k) (t):(br c o k t).length<=t.length+2:=by unfold br;split<;>simp
def zi (c) (o k) (t):t.length<=(br c o k t).length:=by unfold br;split<;>simp<;>lia
def BK (e:Ex): ∃ds,ag e= .tup (.str (h8 e)::ds):=by cases e<;>exact⟨_,rfl⟩
def E2 (e:Ex):Kb [(d5,.int 1),(dR,.int 1),(d8,.int 2),(dH,.int 3)] [.v (.str (h8 e)),.v (.int 4)]=λh=>aF (.int ((ax e:Int)+1)) h:=by
 funext h;cases e<;>rfl
def oy (a l:Nat) (h:AH):Gw .lt (.v (.int ((a:Int)+1))) (.v (.int ((l:Int)+1))) h=y0 (u9 (a<l)):=by
 rw [Jm];congr 1;rw [decide_eq_decide];omega
def Wo (a l:Nat) (h):Gw .lt (.v (.int (a:Int))) (.v (.int (l:Int))) h=y0 (u9 (a<l)):=by
 rw [Jm];congr 1;rw [decide_eq_decide];omega
def mW {m l:Nat}{e:Ex}{h:AH}(j:(bT e).length<=900000) (b:call prog m "shown_expression" [.v (ag e)] h= .ok (.v (.str (bT e))) h):
 call prog (m+1) "expression_of_rank" [.v (ag e),.v (.int ((l:Int)+1))] h= .ok (.v (.str (br (decide (ax e<l)) 40 41 (bT e)))) h:=by
 obtain⟨i,c⟩:=BK e
 rw [Gb (d:=Zf) rfl _ _ _ rfl]
 simp only [Zf]
 show Gu _ (execs _ _ [y0 (.v (ag e)),y0 (.v (.int ((l:Int)+1))),u0] h)=_
 rw [za (Y1:= [y0 (.v (ag e)),y0 (.v (.int ((l:Int)+1))),y0 (.v (.str (bT e)))]) (h1:=h) (by simp_all [b])]
 have f:eval (k8 m) (.cx "EXPRESSION_RANKS" (.b (.ix .v0 (.int 0)) (.con "ATOM_RANK"))) [some (.v (ag e)),some (.v (.int ((l:Int)+1))),some (.v (.str (bT e)))] h= .ok (.v (.int ((ax e:Int)+1))) h:=by
  rw [eval,show(k8 m).con.lookup "EXPRESSION_RANKS" =some (.exc "" [(d5,.int 1),(dR,.int 1),(d8,.int 2),(dH,.int 3)])from rfl]
  have g:Gj (k8 m) (.b (.ix .v0 (.int 0)) (.con "ATOM_RANK")) [some (.v (ag e)),some (.v (.int ((l:Int)+1))),some (.v (.str (bT e)))] h= .ok [.v (.str (h8 e)),.v (.int 4)] h:=by
   rw [c]
   simp only [Gj,eval,Gp,Gm,R.aa,au,Zt,R.ab]
   rfl
  simp only [g,R.aa,E2]
 have a:Gr (k8 m) (.cmp .lt (.cx "EXPRESSION_RANKS" (.b (.ix .v0 (.int 0)) (.con "ATOM_RANK"))) .v1) [some (.v (ag e)),some (.v (.int ((l:Int)+1))),some (.v (.str (bT e)))] h= .ok (decide (ax e<l)) h:=by
  rw [Gr,eval,f]
  simp only [R.aa,eval,Gp,Gm,oy,R.ab,Gn]
 cases q:u9 (ax e<l)with
 | true=>
  rw [q]at a
  rw [jq a (Qc rfl (d:= .str (br k9 40 41 (bT e))) ?_),Ga _ _ _ rfl]
  rw [eval]
  simp only [xG,WD,Zp,Gm,Ad5,zq,Ag0,Wy]
  rw [if_pos (by rw [Gc];simp;omega)]
  rfl
 | false=>
  rw [q]at a
  rw [xa a,qa (w:= .v (.str (bT e))) (h1:=h) rfl,Ga _ _ _ rfl]
  rfl
def q3:prog.con.lookup "ATOM_RANK" =some (.int 4):=rfl
section
variable {m:Nat}{h:AH}{a b:Ex}
def vq (s g) (b:(s,g)∈ [(Qa,([126]:Tx)),(Za,[94])]) (f:(bT a).length<=800000) (d: ∀l:Nat,call prog m "expression_of_rank" [.v (ag a),.v (.int ((l:Int)+1))] h= .ok (.v (.str (br (decide (ax a<l)) 40 41 (bT a)))) h):
 call prog (m+1) "shown_expression" [.v (.tup [.str s,ag a])] h= .ok (.v (.str (g++br (decide (ax a<3)) 40 41 (bT a)))) h:=by
 have c:call prog m "expression_of_rank" [.v (ag a),.v (.int 4)] h= .ok (.v (.str (br (decide (ax a<3)) 40 41 (bT a)))) h:=d 3
 have e:=qh (u9 (ax a<3)) 40 41 (bT a)
 simp only [Aa,Aa2,or_false,Prod.mk.injEq]at b
 rw [Gb rfl _ _ _ rfl]
 simp only [aE]
 rcases b with⟨rfl,rfl⟩ | ⟨rfl,rfl⟩
 ·show Gu _ (execs _ _ [y0 (.v (.tup [.str Qa,ag a])),u0,u0,u0,u0,u0] h)=_
  rw [za rfl,xa rfl,xa rfl]
  rw [za rfl]
  rw [jq rfl (Qc rfl ?_),Ga _ _ _ rfl]
  simp_all [au,Qk,q3,c,Qb]
  rw [if_pos (by rw [Gc];simp;omega)]
 ·show Gu _ (execs _ _ [y0 (.v (.tup [.str Za,ag a])),u0,u0,u0,u0,u0] h)=_
  rw [za rfl,xa rfl,xa rfl]
  rw [za rfl]
  rw [jq rfl (Qc rfl ?_),Ga _ _ _ rfl]
  simp_all [au,Qk,q3,c,Qb]
  rw [if_pos (by rw [Gc];simp;omega)]
def wJ (x y z:D):bc [x,y,z] 2=y0 z:=rfl
def Dl (s) (g l) (e:(s,g,l)∈ [(Qe,43,0),(Zd,45,0),(Ji,38,1),(zc,46,2)]) (p:(bT a).length+(bT b).length<=800000)
 (i: ∀l:Nat,call prog m "expression_of_rank" [.v (ag a),.v (.int ((l:Int)+1))] h= .ok (.v (.str (br (decide (ax a<l)) 40 41 (bT a)))) h) (j: ∀l:Nat,call prog m "expression_of_rank" [.v (ag b),.v (.int ((l:Int)+1))] h= .ok (.v (.str (br (decide (ax b<l)) 40 41 (bT b)))) h):
 call prog (m+1) "shown_expression" [.v (.tup [.str s,ag a,ag b])] h= .ok (.v (.str (br (decide (ax a<l)) 40 41 (bT a)++(32::g::32::br (decide (ax b<l+1)) 40 41 (bT b))))) h:=by
 have f:=i l
 have k:=j (l+1)
 have o:=qh (u9 (ax a<l)) 40 41 (bT a)
 have q:=qh (u9 (ax b<l+1)) 40 41 (bT b)
 have n:((l:Int)+1+1)=(((l+1:Nat):Int)+1):=by omega
 have c: ∀ c,(c,g,l)∈ [(Qe,43,0),(Zd,45,0),(Ji,38,1),(zc,46,2)] →
  execs (k8 m) aE.body [y0 (.v (.tup [.str c,ag a,ag b])),u0,u0,u0,u0,u0] h=
  execs (k8 m) (.cons (.af 4 (.call "expression_of_rank" (.b (.ix .v0 (.int 1)) .v3))) (.cons (.af 5 (.call "expression_of_rank" (.b (.ix .v0 (.int 2)) (.bin .add .v3 (.int 1))))) (.a (.ret (.b6 [.inr 4,.inl [32],.inr 2,.inl [32],.inr 5])))))
   [y0 (.v (.tup [.str c,ag a,ag b])),y0 (.v (.str c)),y0 (.v (.str [g])),y0 (.v (.int ((l:Int)+1))),u0,u0] h:=by
  intro c e
  simp only [Aa,Aa2,or_false,Prod.mk.injEq]at e
  simp only [aE]
  rcases e with⟨rfl,rfl,rfl⟩ | ⟨rfl,rfl,rfl⟩ | ⟨rfl,rfl,rfl⟩ | ⟨rfl,rfl,rfl⟩
  ·rw [za rfl,xa rfl,xa rfl,za rfl,xa rfl,za rfl];rfl
  ·rw [za rfl,xa rfl,xa rfl,za rfl,xa rfl,za rfl];rfl
  ·rw [za rfl,xa rfl,xa rfl,za rfl,xa rfl,za rfl];rfl
  ·rw [za rfl,xa rfl,xa rfl,za rfl,xa rfl,za rfl];rfl
 rw [Gb (d:=aE) rfl _ _ _ rfl]
 show Gu _ (execs _ _ [y0 (.v (.tup [.str s,ag a,ag b])),u0,u0,u0,u0,u0] h)=_
 rw [c s e]
 rw [za (Y1:= [y0 (.v (.tup [.str s,ag a,ag b])),y0 (.v (.str s)),y0 (.v (.str [g])),y0 (.v (.int ((l:Int)+1))),y0 (.v (.str (br (u9 (ax a<l)) 40 41 (bT a)))),u0]) (h1:=h) (by simp_all [au,Qk,f])]
 rw [za (Y1:= [y0 (.v (.tup [.str s,ag a,ag b])),y0 (.v (.str s)),y0 (.v (.str [g])),y0 (.v (.int ((l:Int)+1))),y0 (.v (.str (br (u9 (ax a<l)) 40 41 (bT a)))),y0 (.v (.str (br (u9 (ax b<l+1)) 40 41 (bT b))))]) (h1:=h) (by simp_all [au,wJ,Xg,n,k])]
 rw [qa (h1:=h) (Qc rfl (d:= .str (br (u9 (ax a<l)) 40 41 (bT a)++(32::g::32::br (u9 (ax b<l+1)) 40 41 (bT b)))) ?_),Ga _ _ _ rfl]
 rw [eval]
 simp only [xG,WD,Zp,Gm,Ad5,zq,Ag0,Wy]
 rw [if_pos (by rw [Gc];simp;omega)]
 simp
end
def wu (h): ∀ e,(bT e).length<=700000-> ∀m,2*e.dp<=m->call prog (m+1) "shown_expression" [.v (ag e)] h= .ok (.v (.str (bT e))) h:=by
 have one: ∀(f:Ex->Ex) s g,(s,g)∈ [(Qa,[126]),(Za,[94])]-> ∀a,(∀ m,2*a.dp<=m->call prog (m+1) "shown_expression" [.v (ag a)] h= .ok (.v (.str (bT a))) h)->(bT a).length<=700000-> ∀m,2*(a.dp+1)<=m →
  call prog (m+1) "shown_expression" [.v (.tup [.str s,ag a])] h= .ok (.v (.str (g++br (decide (ax a<3)) 40 41 (bT a)))) h:=fun f s g r a n c m o=>by
  obtain⟨k,rfl⟩: ∃k,m=k+2:=⟨m-2,by omega⟩
  exact vq s g r (by omega) λl=>mW (by omega) (n k (by omega))
 have two: ∀ s g l,(s,g,l)∈ [(Qe,43,0),(Zd,45,0),(Ji,38,1),(zc,46,2)]-> ∀a b,(∀ m,2*a.dp<=m->call prog (m+1) "shown_expression" [.v (ag a)] h= .ok (.v (.str (bT a))) h)->(∀ m,2*b.dp<=m->call prog (m+1) "shown_expression" [.v (ag b)] h= .ok (.v (.str (bT b))) h) →
  (br (decide (ax a<l)) 40 41 (bT a)++(32::g::32::br (decide (ax b<l+1)) 40 41 (bT b))).length<=700000-> ∀m,2*(max a.dp b.dp+1)<=m->call prog (m+1) "shown_expression" [.v (.tup [.str s,ag a,ag b])] h= .ok (.v (.str (br (decide (ax a<l)) 40 41 (bT a)++(32::g::32::br (decide (ax b<l+1)) 40 41 (bT b))))) h:=fun s g l r a b j i c m o=>by
  obtain⟨k,rfl⟩: ∃k,m=k+2:=⟨m-2,by omega⟩
  have p:=zi (u9 (ax a<l)) 40 41 (bT a)
  have q:=zi (u9 (ax b<l+1)) 40 41 (bT b)
  simp only [Aa3,Aa0]at c
  exact Dl s g l r (by omega) (λl=>mW (by omega) (j k (by omega))) λl=>mW (by omega) (i k (by omega))
 intro e
 induction e with
 | name t=>intro c m o;rw [Gb rfl _ _ _ rfl,show execs _ _ _ h= .ret (.v (.str t)) h from rfl,Ga _ _ _ rfl];rfl
 | same=>intro c m o;rw [Gb rfl _ _ _ rfl,show execs _ _ _ h= .ret (.v (.str Zi)) h from rfl,Ga _ _ _ rfl];rfl
 | all=>intro c m o;rw [Gb rfl _ _ _ rfl,show execs _ _ _ h= .ret (.v (.str Wq)) h from rfl,Ga _ _ _ rfl];rfl
 | none=>intro c m o;rw [Gb rfl _ _ _ rfl,show execs _ _ _ h= .ret (.v (.str xi)) h from rfl,Ga _ _ _ rfl];rfl
 | turned a n=>
  intro c
  have u:=zi (u9 (ax a<3)) 40 41 (bT a)
  simp only [bT,Aa0]at c
  exact one .turned Qa [126] (by decide) a (n (by omega)) (by omega)
 | closed a n=>
  intro c
  have u:=zi (u9 (ax a<3)) 40 41 (bT a)
  simp only [bT,Aa0]at c
  exact one .closed Za [94] (by decide) a (n (by omega)) (by omega)
 | plus a b j i=>
  intro c
  have p:=zi (u9 (ax a<0)) 40 41 (bT a)
  have q:=zi (u9 (ax b<1)) 40 41 (bT b)
  have d:=c
  simp only [bT,Aa3,Aa0]at d
  exact two Qe 43 0 (by decide) a b (j (by omega)) (i (by omega)) c
 | less a b j i=>
  intro c
  have p:=zi (u9 (ax a<0)) 40 41 (bT a)
  have q:=zi (u9 (ax b<1)) 40 41 (bT b)
  have d:=c
  simp only [bT,Aa3,Aa0]at d
  exact two Zd 45 0 (by decide) a b (j (by omega)) (i (by omega)) c
 | both a b j i=>
  intro c
  have p:=zi (u9 (ax a<1)) 40 41 (bT a)
  have q:=zi (u9 (ax b<2)) 40 41 (bT b)
  have d:=c
  simp only [bT,Aa3,Aa0]at d
  exact two Ji 38 1 (by decide) a b (j (by omega)) (i (by omega)) c
 | joined a b j i=>
  intro c
  have p:=zi (u9 (ax a<2)) 40 41 (bT a)
  have q:=zi (u9 (ax b<3)) 40 41 (bT b)
  have d:=c
  simp only [bT,Aa3,Aa0]at d
  exact two zc 46 2 (by decide) a b (j (by omega)) (i (by omega)) c
def Zu (m) (h) (e):call prog (m+1) "_law_level" [.v (ag e)] h= .ok (.v (.int (ax e:Nat))) h:=by
 cases e with
 | name t=>rw [Gb rfl _ _ _ rfl,show execs _ _ _ h= .ret (.v (.int 3)) h from rfl,Ga _ _ _ rfl];rfl
 | same=>rw [Gb rfl _ _ _ rfl,show execs _ _ _ h= .ret (.v (.int 3)) h from rfl,Ga _ _ _ rfl];rfl
 | all=>rw [Gb rfl _ _ _ rfl,show execs _ _ _ h= .ret (.v (.int 3)) h from rfl,Ga _ _ _ rfl];rfl
 | none=>rw [Gb rfl _ _ _ rfl,show execs _ _ _ h= .ret (.v (.int 3)) h from rfl,Ga _ _ _ rfl];rfl
 | turned a=>rw [Gb rfl _ _ _ rfl,show execs _ _ _ h= .ret (.v (.int 3)) h from rfl,Ga _ _ _ rfl];rfl
 | closed a=>rw [Gb rfl _ _ _ rfl,show execs _ _ _ h= .ret (.v (.int 3)) h from rfl,Ga _ _ _ rfl];rfl
 | plus a b=>rw [Gb rfl _ _ _ rfl,show execs _ _ _ h= .ret (.v (.int 0)) h from rfl,Ga _ _ _ rfl];rfl
 | less a b=>rw [Gb rfl _ _ _ rfl,show execs _ _ _ h= .ret (.v (.int 0)) h from rfl,Ga _ _ _ rfl];rfl
 | both a b=>rw [Gb rfl _ _ _ rfl,show execs _ _ _ h= .ret (.v (.int 1)) h from rfl,Ga _ _ _ rfl];rfl
 | joined a b=>rw [Gb rfl _ _ _ rfl,show execs _ _ _ h= .ret (.v (.int 2)) h from rfl,Ga _ _ _ rfl];rfl
abbrev tS (d:D) (l:Nat) (x2 x3 x4 x5:Option W):Sl:= [y0 (.v d),y0 (.v (.int (l:Int))),x2,x3,x4,x5]
def i7:Ss:= .cons (.r (.cmp .lt (.call "_law_level" (.a .v0)) .v1) (.bin .add (.bin .add (.str [40]) .v3) (.str [41]))) (.a (.ret .v3))
def kI:Ss:= .cons (.af 4 (.ck [(d5,[32,43,32]),(dR,[32,45,32]),(d8,[32,38,32]),(dH,[32,46,32])] 2)) (.cons (.af 5 (.call "_law_level" (.a .v0))) (.a (.af 3 (.bin .add (.bin .add (.call "_law_text" (.b (.ix .v0 (.int 1)) .v5)) .v4) (.call "_law_text" (.b (.ix .v0 (.int 2)) (.bin .add .v5 (.int 1))))))))
def gw:Ss:= .cons (.iff (.cmp .lt (.call "_law_level" (.a .v0)) (.int 3)) kI .nil) i7
section
variable {m l:Nat}{h:AH}{a b e:Ex}{x2 x3 x4 x5:Option W}{t:Tx}
def pG (b:t.length<=900000):execs (k8 (m+1)) i7 (tS (ag e) l x2 (y0 (.v (.str t))) x4 x5) h= .ret (.v (.str (br (u9 (ax e<l)) 40 41 t))) h:=by
 have a:Gr (k8 (m+1)) (.cmp .lt (.call "_law_level" (.a .v0)) .v1) (tS (ag e) l x2 (some (.v (.str t))) x4 x5) h= .ok (decide (ax e<l)) h:=by
  simp_all [Zu,Wo]
 unfold i7
 cases q:u9 (ax e<l)with
 | true=>
  rw [q]at a
  refine jq a (Qc rfl ?_)
  simp_all [Qb]
  rw [if_pos (by rw [Gc];simp;lia)]
  simp only [R.aa,Qb]
  rw [if_pos (by rw [Gc];simp;lia)]
  rfl
 | false=>
  rw [q]at a
  rw [xa a]
  rfl
def nL (a:ax e=3) (b:t.length<=900000):execs (k8 (m+1)) gw (tS (ag e) l x2 (y0 (.v (.str t))) x4 x5) h= .ret (.v (.str (br (u9 (ax e<l)) 40 41 t))) h:=by
 unfold gw
 rw [xa,pG b]
 have:=Wo (ax e) 3 h
 rw [a]at this
 have z:Gw .lt _ (.v (.int 3)) h=y0 false:=this
 simp_all [Zu,a,z]
def vN (s:Tx) (g k:Nat) (d:ax e=k) (f:ag e= .tup [.str s,ag a,ag b]) (c:(s,g,k)∈ [(Qe,43,0),(Zd,45,0),(Ji,38,1),(zc,46,2)]) (u:(bT a).length+(bT b).length<=800000)
 (p: ∀l:Nat,call prog (m+1) "_law_text" [.v (ag a),.v (.int (l:Int))] h= .ok (.v (.str (br (decide (ax a<l)) 40 41 (bT a)))) h) (q: ∀l:Nat,call prog (m+1) "_law_text" [.v (ag b),.v (.int (l:Int))] h= .ok (.v (.str (br (decide (ax b<l)) 40 41 (bT b)))) h):
 execs (k8 (m+1)) gw (tS (ag e) l (y0 (.v (.str s))) x3 x4 x5) h= .ret (.v (.str (br (u9 (ax e<l)) 40 41 (br (u9 (ax a<k)) 40 41 (bT a)++(32::g::32::br (u9 (ax b<k+1)) 40 41 (bT b)))))) h:=by
 have t:=qh (u9 (ax a<k)) 40 41 (bT a)
 have v:=qh (u9 (ax b<k+1)) 40 41 (bT b)
 have o:k<3:=by
  simp only [Aa,Aa2,or_false,Prod.mk.injEq]at c
  omega
 have j: ∀h,Kd [(d5,[32,43,32]),(dR,[32,45,32]),(d8,[32,38,32]),(dH,[32,46,32])] (y0 (.v (.str s))) h=aF (.str [32,g,32]) h:=by
  simp only [Aa,Aa2,or_false,Prod.mk.injEq]at c
  rcases c with⟨rfl,rfl,rfl⟩ | ⟨rfl,rfl,rfl⟩ | ⟨rfl,rfl,rfl⟩ | ⟨rfl,rfl,rfl⟩<;>exact λ_=>rfl
 have n:=p k
 have i:=q (k+1)
 have r:((k:Int)+1)=((k+1:Nat):Int):=by omega
 unfold gw
 rw [za (Y1:=tS _ l (y0 (.v (.str s))) (y0 (.v (.str (br (u9 (ax a<k)) 40 41 (bT a)++(32::g::32::br (u9 (ax b<k+1)) 40 41 (bT b)))))) (y0 (.v (.str [32,g,32]))) (y0 (.v (.int (k:Int))))) (h1:=h),pG (by simp;omega)]
 rw [Wm (h1:=h)]
 ·unfold kI
  rw [za (Y1:=tS (ag e) l (y0 (.v (.str s))) x3 (y0 (.v (.str [32,g,32]))) x5) (h1:=h) (by simp_all [j])]
  rw [za (Y1:=tS (ag e) l (y0 (.v (.str s))) x3 (y0 (.v (.str [32,g,32]))) (y0 (.v (.int (k:Int))))) (h1:=h) (by simp_all [Zu,d])]
  rw [za (Y1:=tS _ l _ _ _ _) (h1:=h)]
  ·rfl
  ·simp_all [f,au,Qk,wJ,n,Qb]
   rw [if_pos (by rw [Gc];simp;omega)]
   simp only [R.aa,Xg,R.ab,r,Ab3,Ae2,W.c8,i,Qb]
   rw [if_pos (by rw [Gc];simp;omega)]
   simp only [R.aA,W.cj,Ac6,Ae,Ad8]
 ·have:=Wo (ax e) 3 h
  rw [d,decide_eq_true o]at this
  have z:Gw .lt _ (.v (.int 3)) h=y0 true:=this
  simp_all [Zu,d,z]
end
def ro (i:Nat) (c:Nat) (h:AH) (a:(i,c)∈ [(0,126),(1,94)]):bI (.v (.str eE)) (.v (.int (i:Int))) h=y0 (.str [c]):=by
 rw [xC,if_pos (by rw [Gc];decide)]
 simp [Prod.mk.injEq]at a
 rcases a with⟨rfl,rfl⟩ | ⟨rfl,rfl⟩<;>rfl
def Ej (h:AH): ∀(e:Ex),(bT e).length<=700000-> ∀m,e.dp+1<=m-> ∀l:Nat,call prog (m+1) "_law_text" [.v (ag e),.v (.int (l:Int))] h= .ok (.v (.str (br (decide (ax e<l)) 40 41 (bT e)))) h:=by
 have two: ∀(e a b:Ex) (s:Tx) (g k:Nat),ax e=k->ag e= .tup [.str s,ag a,ag b]->bT e=br (u9 (ax a<k)) 40 41 (bT a)++(32::g::32::br (u9 (ax b<k+1)) 40 41 (bT b))->e.dp=max a.dp b.dp+1->(s,g,k)∈ [_,_,_,_] →
  ((bT a).length<=700000-> ∀m,a.dp+1<=m-> ∀l:Nat,call prog (m+1) "_law_text" [.v (ag a),.v (.int (l:Int))] h= .ok (.v (.str (br (decide (ax a<l)) 40 41 (bT a)))) h)->((bT b).length<=700000-> ∀m,b.dp+1<=m-> ∀l:Nat,call prog (m+1) "_law_text" [.v (ag b),.v (.int (l:Int))] h= .ok (.v (.str (br (decide (ax b<l)) 40 41 (bT b)))) h) →
  (bT e).length<=700000-> ∀m,e.dp+1<=m-> ∀l:Nat,call prog (m+1) "_law_text" [.v (ag e),.v (.int (l:Int))] h= .ok (.v (.str (br (decide (ax e<l)) 40 41 (bT e)))) h:=fun e a b s g k v y A hd u j i c m p l=>by
  have E:=zi (u9 (ax a<k)) 40 41 (bT a)
  have F:=zi (u9 (ax b<k+1)) 40 41 (bT b)
  rw [A]at c
  simp only [Aa3,Aa0]at c
  obtain⟨n,rfl⟩: ∃n,m=n+1:=⟨m-1,by omega⟩
  have B:=vN (m:=n) (l:=l) (h:=h) (x3:=y0 (.v (.str s))) (x4:=u0) (x5:=u0) s g k v y u (by omega) (j (by omega) n (by omega)) (i (by omega) n (by omega))
  rw [Gb (d:=ay) rfl _ _ _ rfl]
  have r:execs (k8 (n+1)) ay.body (tS (ag e) l u0 u0 u0 u0) h=execs (k8 (n+1)) gw (tS (ag e) l (y0 (.v (.str s))) (y0 (.v (.str s))) u0 u0) h:=by
   rw [y]
   simp only [ay]
   simp only [Aa,Aa2,or_false,Prod.mk.injEq]at u
   rcases u with⟨rfl,_,_⟩ | ⟨rfl,_,_⟩ | ⟨rfl,_,_⟩ | ⟨rfl,_,_⟩
   ·rw [za (Y1:=tS (.tup [.str Qe,ag a,ag b]) l (y0 (.v (.str Qe))) u0 u0 u0) (h1:=h) rfl,za (Y1:=tS (.tup [.str Qe,ag a,ag b]) l (y0 (.v (.str Qe))) (y0 (.v (.str Qe))) u0 u0) (h1:=h) rfl,xa rfl,xa rfl];rfl
   ·rw [za (Y1:=tS (.tup [.str Zd,ag a,ag b]) l (y0 (.v (.str Zd))) u0 u0 u0) (h1:=h) rfl,za (Y1:=tS (.tup [.str Zd,ag a,ag b]) l (y0 (.v (.str Zd))) (y0 (.v (.str Zd))) u0 u0) (h1:=h) rfl,xa rfl,xa rfl];rfl
   ·rw [za (Y1:=tS (.tup [.str Ji,ag a,ag b]) l (y0 (.v (.str Ji))) u0 u0 u0) (h1:=h) rfl,za (Y1:=tS (.tup [.str Ji,ag a,ag b]) l (y0 (.v (.str Ji))) (y0 (.v (.str Ji))) u0 u0) (h1:=h) rfl,xa rfl,xa rfl];rfl
   ·rw [za (Y1:=tS (.tup [.str zc,ag a,ag b]) l (y0 (.v (.str zc))) u0 u0 u0) (h1:=h) rfl,za (Y1:=tS (.tup [.str zc,ag a,ag b]) l (y0 (.v (.str zc))) (y0 (.v (.str zc))) u0 u0) (h1:=h) rfl,xa rfl,xa rfl];rfl
  show Gu _ (execs _ _ (tS (ag e) l u0 u0 u0 u0) h)=_
  rw [r,B,Ga _ _ _ rfl,A]
 have f: ∀(e:Ex) (s t:Tx),ax e=3->bT e=t->t.length<=700000->(∀ m (l:Nat),execs (k8 (m+1)) ay.body (tS (ag e) l u0 u0 u0 u0) h=execs (k8 (m+1)) gw (tS (ag e) l (y0 (.v (.str s))) (y0 (.v (.str t))) u0 u0) h) →
  ∀m,e.dp+1<=m-> ∀l:Nat,call prog (m+1) "_law_text" [.v (ag e),.v (.int (l:Int))] h= .ok (.v (.str (br (decide (ax e<l)) 40 41 (bT e)))) h:=fun e s t v D c r m p l=>by
  obtain⟨n,rfl⟩: ∃n,m=n+1:=⟨m-1,by omega⟩
  rw [Gb (d:=ay) rfl _ _ _ rfl]
  show Gu _ (execs _ _ (tS (ag e) l u0 u0 u0 u0) h)=_
  rw [r n l,nL v (by omega),Ga _ _ _ rfl,D]
 intro e
 induction e with
 | name t=>intro c;exact f _ wo t rfl rfl c λm l=>by simp only [ay];rw [za (Y1:=tS (.tup [.str wo,.str t]) l (y0 (.v (.str wo))) u0 u0 u0) (h1:=h) rfl,za (Y1:=tS (.tup [.str wo,.str t]) l (y0 (.v (.str wo))) (y0 (.v (.str wo))) u0 u0) (h1:=h) rfl,za (Y1:=tS (.tup [.str wo,.str t]) l (y0 (.v (.str wo))) (y0 (.v (.str t))) u0 u0) (h1:=h) rfl,xa rfl];rfl
 | same=>intro c;exact f _ Zi Zi rfl rfl c λm l=>by simp only [ay];rw [za (Y1:=tS (.tup [.str Zi]) l (y0 (.v (.str Zi))) u0 u0 u0) (h1:=h) rfl,za (Y1:=tS (.tup [.str Zi]) l (y0 (.v (.str Zi))) (y0 (.v (.str Zi))) u0 u0) (h1:=h) rfl,xa rfl,xa rfl];rfl
 | all=>intro c;exact f _ Wq Wq rfl rfl c λm l=>by simp only [ay];rw [za (Y1:=tS (.tup [.str Wq]) l (y0 (.v (.str Wq))) u0 u0 u0) (h1:=h) rfl,za (Y1:=tS (.tup [.str Wq]) l (y0 (.v (.str Wq))) (y0 (.v (.str Wq))) u0 u0) (h1:=h) rfl,xa rfl,xa rfl];rfl
 | none=>intro c;exact f _ xi xi rfl rfl c λm l=>by simp only [ay];rw [za (Y1:=tS (.tup [.str xi]) l (y0 (.v (.str xi))) u0 u0 u0) (h1:=h) rfl,za (Y1:=tS (.tup [.str xi]) l (y0 (.v (.str xi))) (y0 (.v (.str xi))) u0 u0) (h1:=h) rfl,xa rfl,xa rfl];rfl
 | turned a q=>
  intro c m p l
  have C:=zi (u9 (ax a<3)) 40 41 (bT a)
  have o:=c
  simp only [bT,Aa0]at o
  simp only [Ex.dp]at p
  obtain⟨n,rfl⟩: ∃n,m=n+1:=⟨m-1,by omega⟩
  have x:call prog (n+1) "_law_text" [.v (ag a),.v (.int 3)] h= .ok (.v (.str (br (decide (ax a<3)) 40 41 (bT a)))) h:=q (by omega) n (by omega) 3
  rw [Gb (d:=ay) rfl _ _ _ rfl]
  simp only [ay]
  show Gu _ (execs _ _ (tS (ag (.turned a)) l u0 u0 u0 u0) h)=_
  rw [za (Y1:=tS (ag (.turned a)) l (y0 (.v (.str Qa))) u0 u0 u0) (h1:=h) rfl,za (Y1:=tS (ag (.turned a)) l (y0 (.v (.str Qa))) (y0 (.v (.str Qa))) u0 u0) (h1:=h) rfl,xa rfl]
  rw [za (Y1:=tS (ag (.turned a)) l (y0 (.v (.str Qa))) (y0 (.v (.str (bT (.turned a))))) u0 u0) (h1:=h)]
  ·have:=nL (m:=n) (l:=l) (h:=h) (e:= .turned a) (x2:=y0 (.v (.str Qa))) (x4:=u0) (x5:=u0) (t:=bT (.turned a)) rfl (by omega)
   simp only [gw,kI,i7]at this
   rw [this,Ga _ _ _ rfl]
  ·rw [Wm (h1:=h) rfl]
   have z:eval (k8 (n+1)) (.bi .int (.a (.cmp .eq .v2 (.str dF)))) (tS (ag (.turned a)) l (y0 (.v (.str Qa))) (y0 (.v (.str Qa))) u0 u0) h= .ok (.v (.int (0:Nat))) h:=rfl
   have w:eval (k8 (n+1)) (.ix (.str eE) (.bi .int (.a (.cmp .eq .v2 (.str dF))))) (tS (ag (.turned a)) l (y0 (.v (.str Qa))) (y0 (.v (.str Qa))) u0 u0) h= .ok (.v (.str [126])) h:=by
    rw [eval,show eval (k8 (n+1)) (.str eE) (tS (ag (.turned a)) l (y0 (.v (.str Qa))) (y0 (.v (.str Qa))) u0 u0) h= .ok (.v (.str eE)) h from rfl,R.aa,z,R.aa,ro 0 126 h (by decide)];rfl
   rw [za (Y1:=tS (ag (.turned a)) l (y0 (.v (.str Qa))) (y0 (.v (.str (bT (.turned a))))) u0 u0) (h1:=h)]
   ·rfl
   ·rw [exec,eval,w]
    simp only [ag]
    simp_all [au,Qk,x,Qb]
    rw [if_pos (by rw [Gc];simp;have:=qh (u9 (ax a<3)) 40 41 (bT a);omega)]
    rfl
 | closed a q=>
  intro c m p l
  have C:=zi (u9 (ax a<3)) 40 41 (bT a)
  have o:=c
  simp only [bT,Aa0]at o
  simp only [Ex.dp]at p
  obtain⟨n,rfl⟩: ∃n,m=n+1:=⟨m-1,by omega⟩
  have x:call prog (n+1) "_law_text" [.v (ag a),.v (.int 3)] h= .ok (.v (.str (br (decide (ax a<3)) 40 41 (bT a)))) h:=q (by omega) n (by omega) 3
  rw [Gb (d:=ay) rfl _ _ _ rfl]
  simp only [ay]
  show Gu _ (execs _ _ (tS (ag (.closed a)) l u0 u0 u0 u0) h)=_
  rw [za (Y1:=tS (ag (.closed a)) l (y0 (.v (.str Za))) u0 u0 u0) (h1:=h) rfl,za (Y1:=tS (ag (.closed a)) l (y0 (.v (.str Za))) (y0 (.v (.str Za))) u0 u0) (h1:=h) rfl,xa rfl]
  rw [za (Y1:=tS (ag (.closed a)) l (y0 (.v (.str Za))) (y0 (.v (.str (bT (.closed a))))) u0 u0) (h1:=h)]
  ·have:=nL (m:=n) (l:=l) (h:=h) (e:= .closed a) (x2:=y0 (.v (.str Za))) (x4:=u0) (x5:=u0) (t:=bT (.closed a)) rfl (by omega)
   simp only [gw,kI,i7]at this
   rw [this,Ga _ _ _ rfl]
  ·rw [Wm (h1:=h) rfl]
   have z:eval (k8 (n+1)) (.bi .int (.a (.cmp .eq .v2 (.str dF)))) (tS (ag (.closed a)) l (y0 (.v (.str Za))) (y0 (.v (.str Za))) u0 u0) h= .ok (.v (.int (1:Nat))) h:=rfl
   have w:eval (k8 (n+1)) (.ix (.str eE) (.bi .int (.a (.cmp .eq .v2 (.str dF))))) (tS (ag (.closed a)) l (y0 (.v (.str Za))) (y0 (.v (.str Za))) u0 u0) h= .ok (.v (.str [94])) h:=by
    rw [eval,show eval (k8 (n+1)) (.str eE) (tS (ag (.closed a)) l (y0 (.v (.str Za))) (y0 (.v (.str Za))) u0 u0) h= .ok (.v (.str eE)) h from rfl,R.aa,z,R.aa,ro 1 94 h (by decide)];rfl
   rw [za (Y1:=tS (ag (.closed a)) l (y0 (.v (.str Za))) (y0 (.v (.str (bT (.closed a))))) u0 u0) (h1:=h)]
   ·rfl
   ·rw [exec,eval,w]
    simp only [ag]
    simp_all [au,Qk,x,Qb]
    rw [if_pos (by rw [Gc];simp;have:=qh (u9 (ax a<3)) 40 41 (bT a);omega)]
    rfl
 | plus a b j i=>exact two _ a b Qe 43 0 rfl rfl rfl rfl (by decide) j i
 | less a b j i=>exact two _ a b Zd 45 0 rfl rfl rfl rfl (by decide) j i
 | both a b j i=>exact two _ a b Ji 38 1 rfl rfl rfl rfl (by decide) j i
 | joined a b j i=>exact two _ a b zc 46 2 rfl rfl rfl rfl (by decide) j i
abbrev XW:Tx:= [101,97,99,104,32,108,101,97,115,116]
abbrev X9:Tx:= [101,97,99,104,32,109,111,115,116]
def wd (s:Tx):Tx:=if s=Wh then XW else if s=Jn then X9 else s
def fT:Fc->Tx
 | .cT a b=>bT a++(32::105::110::32::bT b)
 | .cV a b=>bT a++(32::61::32::bT b)
 | .cO a=>xf++32::bT a
 | .az a=>XH++32::bT a
 | .cnt s k a=>wd s++32::(aZ k++32::bT a)
def yM (x y:D):bc [x,y] (-1)=y0 y:=rfl
def tB (x y z:D):bc [x,y,z] (-1)=y0 z:=rfl
def mV :eval F (.neg (.int 1)) Y h= .ok (.v (.int (-1))) h:=rfl
abbrev fS (d:D) (a x2 x3 x4:Option W):Sl:= [y0 (.v d),a,x2,x3,x4]
def zF (e:Ka Y ps=y0 t) (a:t.length<=900000):eval F (.b6 ps) Y h= .ok (.v (.str t)) h:=by
 rw [eval,e,Wy,if_pos (by rw [Gc];omega)]
section
variable {m:Nat}{h:AH}{a b:Ex}
def rT (s w) (c:(s,w)∈ [(zv,(b3:Tx)),(Qd,[61])]) (g:(bT a).length+(bT b).length<=800000) (e:call prog m "shown_expression" [.v (ag a)] h= .ok (.v (.str (bT a))) h) (f:call prog m "shown_expression" [.v (ag b)] h= .ok (.v (.str (bT b))) h):
 call prog (m+1) "shown_fact" [.v (.tup [.str s,ag a,ag b])] h= .ok (.v (.str (bT a++(32::(w++32::bT b))))) h:=by
 have i:w.length<=2:=by
  simp only [Aa,Aa2,or_false,Prod.mk.injEq]at c
  rcases c with⟨rfl,rfl⟩ | ⟨rfl,rfl⟩<;>decide
 have d:execs (k8 m) aG.body (fS (.tup [.str s,ag a,ag b]) u0 u0 u0 u0) h= .ret (.v (.str (bT a++(32::(w++32::bT b))))) h:=by
  simp only [aG]
  rw [za (Y1:=fS (.tup [.str s,ag a,ag b]) (y0 (.v (.str w))) u0 u0 u0) (h1:=h) (by
   simp only [Aa,Aa2,or_false,Prod.mk.injEq]at c
   rcases c with⟨rfl,rfl⟩ | ⟨rfl,rfl⟩<;>rfl)]
  rw [za (Y1:=fS (.tup [.str s,ag a,ag b]) (y0 (.v (.str w))) (y0 (.v (.str (bT b)))) u0 u0) (h1:=h) (by simp_all [mV,au,tB,f])]
  refine qa ((Wm (h1:=h) ?_).trans ?_)
  ·simp only [Aa,Aa2,or_false,Prod.mk.injEq]at c
   rcases c with⟨rfl,rfl⟩ | ⟨rfl,rfl⟩<;>rfl
  ·rw [za (Y1:=fS (.tup [.str s,ag a,ag b]) (y0 (.v (.str w))) (y0 (.v (.str (bT b)))) (y0 (.v (.str (bT a)))) u0) (h1:=h) (by simp_all [au,Qk,e])]
   refine qa (Qc rfl (zF ?_ (by simp;omega)))
   simp only [xG,WD,Zp,Gm,Ad5,zq,Ag0,Ac5,Ae,Ad8]
 rw [Gb rfl _ _ _ rfl]
 show Gu _ (execs _ _ (fS (.tup [.str s,ag a,ag b]) u0 u0 u0 u0) h)=_
 rw [d,Ga _ _ _ rfl]
def oa (s) (b:s∈ [xf,XH]) (e:(bT a).length<=800000) (d:call prog m "shown_expression" [.v (ag a)] h= .ok (.v (.str (bT a))) h):
 call prog (m+1) "shown_fact" [.v (.tup [.str s,ag a])] h= .ok (.v (.str (s++32::bT a))) h:=by
 have f:s.length<=4:=by
  simp only [Aa,Aa2,or_false]at b
  rcases b with rfl | rfl<;>decide
 have c:execs (k8 m) aG.body (fS (.tup [.str s,ag a]) u0 u0 u0 u0) h= .ret (.v (.str (s++32::bT a))) h:=by
  simp only [aG]
  rw [za (Y1:=fS (.tup [.str s,ag a]) (y0 (.v (.str s))) u0 u0 u0) (h1:=h) (by
   simp only [Aa,Aa2,or_false]at b
   rcases b with rfl | rfl<;>rfl)]
  rw [za (Y1:=fS (.tup [.str s,ag a]) (y0 (.v (.str s))) (y0 (.v (.str (bT a)))) u0 u0) (h1:=h) (by simp_all [mV,au,yM,d])]
  rw [xa (by
   simp only [Aa,Aa2,or_false]at b
   rcases b with rfl | rfl<;>rfl)]
  refine jq (by
   simp only [Aa,Aa2,or_false]at b
   rcases b with rfl | rfl<;>rfl) (Qc rfl (zF ?_ (by simp;omega)))
  simp only [xG,WD,Zp,Gm,Ad5,zq,Ag0,Ac5,Ae,Ad8]
 rw [Gb rfl _ _ _ rfl]
 show Gu _ (execs _ _ (fS (.tup [.str s,ag a]) u0 u0 u0 u0) h)=_
 rw [c,Ga _ _ _ rfl]
def vP (s) (k:Nat) (g:k<1000) (b:s∈ [zb,Wb,Wh,Jn]) (i:(wd s++32::(aZ k++32::bT a)).length<=800000) (f:call prog m "shown_expression" [.v (ag a)] h= .ok (.v (.str (bT a))) h):
 call prog (m+1) "shown_fact" [.v (.tup [.str s,.int (k:Int),ag a])] h= .ok (.v (.str (wd s++32::(aZ k++32::bT a)))) h:=by
 have e:execs (k8 m) aG.body (fS (.tup [.str s,.int (k:Int),ag a]) u0 u0 u0 u0) h= .ret (.v (.str (wd s++32::(aZ k++32::bT a)))) h:=by
  simp only [aG]
  rw [za (Y1:=fS (.tup [.str s,.int (k:Int),ag a]) (y0 (.v (.str (wd s)))) u0 u0 u0) (h1:=h) (by
   simp only [Aa,Aa2,or_false]at b
   rcases b with rfl | rfl | rfl | rfl<;>rfl)]
  rw [za (Y1:=fS (.tup [.str s,.int (k:Int),ag a]) (y0 (.v (.str (wd s)))) (y0 (.v (.str (bT a)))) u0 u0) (h1:=h) (by simp_all [mV,au,tB,f])]
  rw [xa (by
   simp only [Aa,Aa2,or_false]at b
   rcases b with rfl | rfl | rfl | rfl<;>rfl)]
  rw [xa (by
   simp only [Aa,Aa2,or_false]at b
   rcases b with rfl | rfl | rfl | rfl<;>rfl)]
  rw [za (Y1:=fS (.tup [.str s,.int (k:Int),ag a]) (y0 (.v (.str (wd s)))) (y0 (.v (.str (bT a)))) u0 (y0 (.v (.int (k:Int))))) (h1:=h) (by simp_all [au,Qk])]
  refine qa (Qc rfl (zF ?_ (by omega)))
  have c:(0:Int)<=(k:Int)/\(k:Int)<1000:=by omega
  simp only [xG,WD,Zp,Gm,Ad5,zq,C6,if_pos c,Ag0,Ac5,Ae,Ad8]
 rw [Gb (d:=aG) rfl _ _ _ rfl]
 show Gu _ (execs _ _ (fS (.tup [.str s,.int (k:Int),ag a]) u0 u0 u0 u0) h)=_
 rw [e,Ga _ _ _ rfl]
end
def Ei (h)(f) (wf:f.wf N) (c:(fT f).length<=600000) (m) (d:2*f.dp+1<=m):call prog (m+1) "shown_fact" [.v (aO f)] h= .ok (.v (.str (fT f))) h:=by
 obtain⟨n,rfl⟩: ∃n,m=n+1:=⟨m-1,by omega⟩
 cases f with
 | cT a b=>
  simp only [fT,Aa3,Aa0]at c
  simp only [Fc.dp]at d
  exact rT zv b3 (by decide) (by omega) (wu h a (by omega) n (by omega)) (wu h b (by omega) n (by omega))
 | cV a b=>
  simp only [fT,Aa3,Aa0]at c
  simp only [Fc.dp]at d
  exact rT Qd [61] (by decide) (by omega) (wu h a (by omega) n (by omega)) (wu h b (by omega) n (by omega))
 | cO a=>
  simp only [fT,Aa3,Aa0]at c
  simp only [Fc.dp]at d
  exact oa xf (by decide) (by omega) (wu h a (by omega) n (by omega))
 | az a=>
  simp only [fT,Aa3,Aa0]at c
  simp only [Fc.dp]at d
  exact oa XH (by decide) (by omega) (wu h a (by omega) n (by omega))
 | cnt s k a=>
  have e:=c
  simp only [fT,Aa3,Aa0]at e
  simp only [Fc.dp]at d
  exact vP s k (Ai5 wf.1.2 (by decide)) wf.1.1 (by simp only [fT]at c;omega) (wu h a (by omega) n (by omega))
def aJ:Sy->Nat
 | .bj _ _=>1
 | .bh _ _=>0
 | _=>2
def sT:Sy->Tx
 | .fact f=>fT f
 | .neg a=>110::111::116::32::br (u9 (aJ a<2)) 91 93 (sT a)
 | .bj a b=>br (u9 (aJ a<1)) 91 93 (sT a)++(32::(Zg++32::br (u9 (aJ b<2)) 91 93 (sT b)))
 | .bh a b=>br (u9 (aJ a<0)) 91 93 (sT a)++(32::(Ju++32::br (u9 (aJ b<1)) 91 93 (sT b)))
def tj (s) (wf:s.wf N): ∃hd ds,ai s= .tup (.str hd::ds)/\(∀ h,Kb [(QY,.int 1),(zV,.int 2)] [.v (.str hd),.v (.int 3)] h=aF (.int ((aJ s:Int)+1)) h)/\(aJ s:Int)=2-(if hd==Zg then 1 else 0)-2*(if hd==Ju then 1 else 0):=by
 cases s with
 | fact f=>
  cases f with
  | cT a b=>exact⟨zv,_,rfl,λ_=>rfl,rfl⟩
  | cV a b=>exact⟨Qd,_,rfl,λ_=>rfl,rfl⟩
  | cO a=>exact⟨xf,_,rfl,λ_=>rfl,rfl⟩
  | az a=>exact⟨XH,_,rfl,λ_=>rfl,rfl⟩
  | cnt s j a=>
   have c:=wf.1.1
   simp [or_false]at c
   obtain rfl | rfl | rfl | rfl:=c
   ·exact⟨zb,_,rfl,λ_=>rfl,rfl⟩
   ·exact⟨Wb,_,rfl,λ_=>rfl,rfl⟩
   ·exact⟨Wh,_,rfl,λ_=>rfl,rfl⟩
   ·exact⟨Jn,_,rfl,λ_=>rfl,rfl⟩
 | neg a=>exact⟨qj,_,rfl,λ_=>rfl,rfl⟩
 | bj a b=>exact⟨Zg,_,rfl,λ_=>rfl,rfl⟩
 | bh a b=>exact⟨Ju,_,rfl,λ_=>rfl,rfl⟩
def XE {m l:Nat}(wf:e.wf N) (j:(sT e).length<=800000) (c:call prog m "shown_saying" [.v (ai e)] h= .ok (.v (.str (sT e))) h):
 call prog (m+1) "saying_of_rank" [.v (ai e),.v (.int ((l:Int)+1))] h= .ok (.v (.str (br (decide (aJ e<l)) 91 93 (sT e)))) h:=by
 obtain⟨hd,i,d,b,_⟩:=tj e wf
 rw [Gb rfl _ _ _ rfl]
 simp only [Xq]
 show Gu _ (execs _ _ [y0 (.v (ai e)),y0 (.v (.int ((l:Int)+1))),u0] h)=_
 rw [za (Y1:= [y0 (.v (ai e)),y0 (.v (.int ((l:Int)+1))),y0 (.v (.str (sT e)))]) (h1:=h) (by simp_all [c])]
 have f:eval (k8 m) (.cx "SAYING_RANKS" (.b (.ix .v0 (.int 0)) (.con "UNIT_RANK"))) [some (.v (ai e)),some (.v (.int ((l:Int)+1))),some (.v (.str (sT e)))] h= .ok (.v (.int ((aJ e:Int)+1))) h:=by
  rw [eval,show(k8 m).con.lookup "SAYING_RANKS" =some (.exc "" [(QY,.int 1),(zV,.int 2)])from rfl]
  have g:Gj (k8 m) (.b (.ix .v0 (.int 0)) (.con "UNIT_RANK")) [some (.v (ai e)),some (.v (.int ((l:Int)+1))),some (.v (.str (sT e)))] h= .ok [.v (.str hd),.v (.int 3)] h:=by
   rw [d]
   simp only [Gj,eval,Gp,Gm,R.aa,au,Zt,R.ab]
   rfl
  simp only [g,R.aa,b]
 have a:Gr (k8 m) (.cmp .lt (.cx "SAYING_RANKS" (.b (.ix .v0 (.int 0)) (.con "UNIT_RANK"))) .v1) [some (.v (ai e)),some (.v (.int ((l:Int)+1))),some (.v (.str (sT e)))] h= .ok (decide (aJ e<l)) h:=by
  rw [Gr,eval,f]
  simp only [R.aa,eval,Gp,Gm,oy,R.ab,Gn]
 cases q:u9 (aJ e<l)with
 | true=>
  rw [q]at a
  rw [jq a (Qc rfl (zF ?_ ?_)),Ga _ _ _ rfl]
  ·simp only [xG,WD,Zp,Gm,Ad5,zq,Ag0];rfl
  ·have:=qh k9 91 93 (sT e);omega
 | false=>
  rw [q]at a
  rw [xa a,qa rfl,Ga _ _ _ rfl]
  rfl
def vY:prog.con.lookup "UNIT_RANK" =some (.int 3):=rfl
section
variable {m:Nat}{h:AH}{a b:Sy}
def EZ (e:(sT a).length<=700000) (c: ∀l:Nat,call prog m "saying_of_rank" [.v (ai a),.v (.int ((l:Int)+1))] h= .ok (.v (.str (br (decide (aJ a<l)) 91 93 (sT a)))) h):
 call prog (m+1) "shown_saying" [.v (ai (.neg a))] h= .ok (.v (.str (sT (.neg a)))) h:=by
 have b:call prog m "saying_of_rank" [.v (ai a),.v (.int 3)] h= .ok (.v (.str (br (decide (aJ a<2)) 91 93 (sT a)))) h:=c 2
 have d:=qh (u9 (aJ a<2)) 91 93 (sT a)
 rw [Gb rfl _ _ _ rfl]
 simp only [aK]
 show Gu _ (execs _ _ (fS (.tup [.str qj,ai a]) u0 u0 u0 u0) h)=_
 rw [za rfl]
 rw [jq rfl (Qc rfl ?_),Ga _ _ _ rfl]
 simp_all [au,Qk,vY,b,Qb]
 rw [if_pos (by rw [Gc];simp;omega)]
 rfl
def oN (s) (l) (c:(s,l)∈ [(Zg,1),(Ju,0)]) (o:(sT a).length+(sT b).length<=800000)
 (g: ∀l:Nat,call prog m "saying_of_rank" [.v (ai a),.v (.int ((l:Int)+1))] h= .ok (.v (.str (br (decide (aJ a<l)) 91 93 (sT a)))) h) (i: ∀l:Nat,call prog m "saying_of_rank" [.v (ai b),.v (.int ((l:Int)+1))] h= .ok (.v (.str (br (decide (aJ b<l)) 91 93 (sT b)))) h):
 call prog (m+1) "shown_saying" [.v (.tup [.str s,ai a,ai b])] h= .ok (.v (.str (br (decide (aJ a<l)) 91 93 (sT a)++(32::(s++32::br (decide (aJ b<l+1)) 91 93 (sT b)))))) h:=by
 have f:=g l
 have j:=i (l+1)
 have n:=qh (u9 (aJ a<l)) 91 93 (sT a)
 have p:=qh (u9 (aJ b<l+1)) 91 93 (sT b)
 have k:((l:Int)+1+1)=(((l+1:Nat):Int)+1):=by omega
 have q:s.length<=3:=by
  simp only [Aa,Aa2,or_false,Prod.mk.injEq]at c
  rcases c with⟨rfl,rfl⟩ | ⟨rfl,rfl⟩<;>decide
 have e:execs (k8 m) aK.body (fS (.tup [.str s,ai a,ai b]) u0 u0 u0 u0) h= .ret (.v (.str (br (u9 (aJ a<l)) 91 93 (sT a)++(32::(s++32::br (u9 (aJ b<l+1)) 91 93 (sT b)))))) h:=by
  simp only [aK]
  rw [za rfl]
  rw [xa (by
   simp only [Aa,Aa2,or_false,Prod.mk.injEq]at c
   rcases c with⟨rfl,rfl⟩ | ⟨rfl,rfl⟩<;>rfl)]
  refine qa ((Wm (h1:=h) ?_).trans ?_)
  ·simp only [Aa,Aa2,or_false,Prod.mk.injEq]at c
   rcases c with⟨rfl,rfl⟩ | ⟨rfl,rfl⟩<;>rfl
  ·rw [za (Y1:=fS (.tup [.str s,ai a,ai b]) (y0 (.v (.str s))) (y0 (.v (.int ((l:Int)+1)))) u0 u0) (h1:=h) (by
    simp only [Aa,Aa2,or_false,Prod.mk.injEq]at c
    rcases c with⟨rfl,rfl⟩ | ⟨rfl,rfl⟩<;>rfl)]
   rw [za (Y1:=fS (.tup [.str s,ai a,ai b]) (y0 (.v (.str s))) (y0 (.v (.int ((l:Int)+1)))) (y0 (.v (.str (br (u9 (aJ a<l)) 91 93 (sT a))))) u0) (h1:=h) (by simp_all [au,Qk,f])]
   rw [za (Y1:=fS (.tup [.str s,ai a,ai b]) (y0 (.v (.str s))) (y0 (.v (.int ((l:Int)+1)))) (y0 (.v (.str (br (u9 (aJ a<l)) 91 93 (sT a))))) (y0 (.v (.str (br (u9 (aJ b<l+1)) 91 93 (sT b)))))) (h1:=h) (by simp_all [au,wJ,Xg,k,j])]
   refine qa (Qc rfl (zF ?_ (by simp;omega)))
   simp only [xG,WD,Zp,Gm,Ad5,zq,Ag0,Ac5,Ae,Ad8]
 rw [Gb (d:=aK) rfl _ _ _ rfl]
 show Gu _ (execs _ _ (fS (.tup [.str s,ai a,ai b]) u0 u0 u0 u0) h)=_
 rw [e,Ga _ _ _ rfl]
def EW (f) (wf:f.wf N) (e:call prog m "shown_fact" [.v (aO f)] h= .ok (.v (.str (fT f))) h):call prog (m+1) "shown_saying" [.v (aO f)] h= .ok (.v (.str (fT f))) h:=by
 obtain⟨s,g,b,a,c,d⟩:=tR f wf
 rw [Gb rfl _ _ _ rfl]
 simp only [aK]
 show Gu _ (execs _ _ (fS (aO f) u0 u0 u0 u0) h)=_
 rw [za (Y1:=fS (aO f) (y0 (.v (.str s))) u0 u0 u0) (h1:=h) (by rw [b];simp_all [au,Zt])]
 rw [xa (by simp only [Gr,eval,Gp,Gm,R.aa,Xe,R.ab,Gn];rw [a])]
 rw [xa (by
  have z:Gw .mem (.v (.str s)) (.v (.tup [.str Zg,.str Ju])) h=y0 false:=by
   have this:Gw .mem (.v (.str s)) (.v (.tup [.str Zg,.str Ju])) h=y0 (u9 (s∈ [Zg,Ju])):=Jr s [Zg,Ju] (.v (.tup [.str Zg,.str Ju])) h rfl rfl
   rw [this]
   congr 1
   rw [decide_eq_false_iff_not]
   intro q
   simp only [Aa,Aa2,or_false]at q
   rcases q with rfl | rfl
   ·cases c
   ·cases d
  simp_all [z])]
 rw [qa (w:= .v (.str (fT f))) (h1:=h) (Qc rfl (by simp_all [e])),Ga _ _ _ rfl]
end
def Cr (h): ∀ s,s.wf N->(sT s).length<=600000-> ∀m,2*s.dp+3<=m->call prog (m+1) "shown_saying" [.v (ai s)] h= .ok (.v (.str (sT s))) h:=by
 intro s
 induction s with
 | fact f=>
  intro wf c m d
  simp only [Sy.dp]at d
  obtain⟨n,rfl⟩: ∃n,m=n+1:=⟨m-1,by omega⟩
  exact EW f wf (Ei h f wf c n (by omega))
 | neg a k=>
  intro wf c m d
  simp only [Sy.dp]at d
  have o:=zi (u9 (aJ a<2)) 91 93 (sT a)
  simp only [sT,Aa0]at c
  obtain⟨n,rfl⟩: ∃n,m=n+2:=⟨m-2,by omega⟩
  exact EZ (by omega) λl=>XE wf (by omega) (k wf (by omega) n (by omega))
 | bj a b g e=>
  intro wf c m d
  simp only [Sy.dp]at d
  have i:=zi (u9 (aJ a<1)) 91 93 (sT a)
  have j:=zi (u9 (aJ b<2)) 91 93 (sT b)
  simp only [sT,Aa3,Aa0]at c
  obtain⟨n,rfl⟩: ∃n,m=n+2:=⟨m-2,by omega⟩
  exact oN Zg 1 (by decide) (by omega) (λl=>XE wf.1 (by omega) (g wf.1 (by omega) n (by omega))) λl=>XE wf.2 (by omega) (e wf.2 (by omega) n (by omega))
 | bh a b g e=>
  intro wf c m d
  simp only [Sy.dp]at d
  have i:=zi (u9 (aJ a<0)) 91 93 (sT a)
  have j:=zi (u9 (aJ b<1)) 91 93 (sT b)
  simp only [sT,Aa3,Aa0]at c
  obtain⟨n,rfl⟩: ∃n,m=n+2:=⟨m-2,by omega⟩
  exact oN Ju 0 (by decide) (by omega) (λl=>XE wf.1 (by omega) (g wf.1 (by omega) n (by omega))) λl=>XE wf.2 (by omega) (e wf.2 (by omega) n (by omega))
def qB (m) (h)(s) (wf:s.wf N):call prog (m+1) "_law_saying_level" [.v (ai s)] h= .ok (.v (.int (aJ s:Nat))) h:=by
 obtain⟨hd,d,a,_,c⟩:=tj s wf
 rw [Gb rfl _ _ _ rfl]
 simp only [Zm]
 show Gu _ (execs _ _ [y0 (.v (ai s))] h)=_
 have bi: ∀b:Bool,cU .int [.v (.bl b)] h= .ok (.v (.int (if b then 1 else 0))) h:=λb=>by cases b<;>rfl
 rw [a,c]
 simp_all [au,Zt,Xe,bi,xn,zB 2 _ (by decide)]
abbrev uS (d:D) (l:Nat) (x2 x3 x4 x5:Option W):Sl:= [y0 (.v d),y0 (.v (.int (l:Int))),x2,x3,x4,x5]
def nQ:Ss:= .cons (.r (.cmp .lt (.call "_law_saying_level" (.a .v0)) .v1) (.bin .add (.bin .add (.str [91]) .v4) (.str [93]))) (.a (.ret .v4))
def Hm (wf:e.wf N) (b:t.length<=900000):execs (k8 (m+1)) nQ (uS (ai e) l x2 x3 (y0 (.v (.str t))) x5) h= .ret (.v (.str (br (u9 (aJ e<l)) 91 93 t))) h:=by
 have a:Gr (k8 (m+1)) (.cmp .lt (.call "_law_saying_level" (.a .v0)) .v1) (uS (ai e) l x2 x3 (some (.v (.str t))) x5) h= .ok (decide (aJ e<l)) h:=by
  simp_all [qB m h e wf,Wo]
 unfold nQ
 cases q:u9 (aJ e<l)with
 | true=>
  rw [q]at a
  refine jq a (Qc rfl ?_)
  simp_all [Qb]
  rw [if_pos (by rw [Gc];simp;lia)]
  simp only [R.aa,Qb]
  rw [if_pos (by rw [Gc];simp;lia)]
  rfl
 | false=>
  rw [q]at a
  rw [xa a]
  rfl
def tX (e):br (u9 (ax e<0)) 40 41 (bT e)=bT e:=by simp [br]
def eD (s t) (h) (a:s.length+t.length<=900000):GA .add (.v (.str s)) (.v (.str t)) h= .ok (.v (.str (s++t))) h:=by
 rw [Qb,if_pos (by rw [Gc];lia)]
def i8:S:= .iff (.cmp .mem .v2 (.tup (.b (.str zV) (.str QY)))) (.cons (.af 3 (.call "_law_saying_level" (.a .v0))) (.a (.af 4 (.bin .add (.bin .add (.bin .add (.bin .add (.call "_law_saying_text" (.b (.ix .v0 (.int 1)) .v3)) (.str [32])) .v2) (.str [32])) (.call "_law_saying_text" (.b (.ix .v0 (.int 2)) (.bin .add .v3 (.int 1)))))))) (.a (.iff (.cmp .eq .v2 (.str j0)) (.a (.af 4 (.bin .add (.str kQ) (.call "_law_saying_text" (.b (.ix .v0 (.int 1)) (.int 2)))))) (.a (.iff (.cmp .mem .v2 (.tup (.b (.str b3) (.str fm)))) (.cons (.af 5 (.ix (.lst (.b (.str [32,61,32]) (.str kh))) (.bi .int (.a (.cmp .eq .v2 (.str b3)))))) (.a (.af 4 (.bin .add (.bin .add (.call "_law_text" (.b (.ix .v0 (.int 1)) (.int 0))) .v5) (.call "_law_text" (.b (.ix .v0 (.int 2)) (.int 0))))))) (.a (.iff (.cmp .mem .v2 (.tup (.b (.str eF) (.str eJ)))) (.a (.af 4 (.bin .add (.bin .add .v2 (.str [32])) (.call "_law_text" (.b (.ix .v0 (.int 1)) (.int 0)))))) (.cons (.af 2 (.ck [(el,nk),(eB,nP),(iH,my),(iR,nD)] 2)) (.a (.af 4 (.bin .add (.bin .add (.bin .add .v2 (.cJ (.ix .v0 (.int 1)))) (.str [32])) (.call "_law_text" (.b (.ix .v0 (.int 2)) (.int 0)))))))))))))
def yG:bx.body= .cons (.af 2 (.ix .v0 (.int 0))) (.cons i8 nQ):=rfl
def wb (e:exec F s Y h= .next Y1 h1):execs F (.cons s .nil) Y h= .next Y1 h1:=by rw [execs,e];rfl
def iQ (wf:e.wf N) (a:ai e= .tup (.str hd::ds)) (b:t.length<=900000)
 (q:exec (k8 (m+1)) i8 (uS (ai e) l (y0 (.v (.str hd))) u0 u0 u0) h= .next (uS (ai e) l x2 x3 (y0 (.v (.str t))) x5) h):call prog (m+2) "_law_saying_text" [.v (ai e),.v (.int (l:Int))] h= .ok (.v (.str (br (decide (aJ e<l)) 91 93 t))) h:=by
 rw [Gb rfl _ _ _ rfl,yG]
 show Gu _ (execs _ _ (uS _ l u0 u0 u0 u0) h)=_
 rw [za (Y1:=uS (ai e) l (y0 (.v (.str hd))) u0 u0 u0) (h1:=h) (by rw [a];simp_all [au,Zt]),za q,Hm wf b,Ga _ _ _ rfl]
section
variable {m l:Nat}{h:AH}{N:List Tx}
def tG (s w) (f) (wf:f.wf N) (d:aO f= .tup [.str s,ag a,ag b]) (c:(s,w)∈ [(zv,(kh:Tx)),(Qd,[32,61,32])]) (k:(bT a).length+(bT b).length<=800000)
 (i:call prog (m+1) "_law_text" [.v (ag a),.v (.int 0)] h= .ok (.v (.str (bT a))) h) (j:call prog (m+1) "_law_text" [.v (ag b),.v (.int 0)] h= .ok (.v (.str (bT b))) h):
 call prog (m+2) "_law_saying_text" [.v (aO f),.v (.int (l:Int))] h= .ok (.v (.str (br (decide (2<l)) 91 93 (bT a++w++bT b)))) h:=by
 have n:w.length<=4:=by
  simp only [Aa,Aa2,or_false,Prod.mk.injEq]at c
  rcases c with⟨rfl,rfl⟩ | ⟨rfl,rfl⟩<;>decide
 refine iQ (e:= .fact f) (x2:=y0 (.v (.str s))) (x3:=u0) (x5:=y0 (.v (.str w))) wf d (by simp;omega) ?_
 show exec _ i8 _ h= .next _ h
 have g:execs (k8 (m+1)) (.cons (.af 5 (.ix (.lst (.b (.str [32,61,32]) (.str kh))) (.bi .int (.a (.cmp .eq .v2 (.str b3)))))) (.a (.af 4 (.bin .add (.bin .add (.call "_law_text" (.b (.ix .v0 (.int 1)) (.int 0))) .v5) (.call "_law_text" (.b (.ix .v0 (.int 2)) (.int 0))))))) (uS (aO f) l (some (.v (.str s))) none none none) h
  = .next (uS (aO f) l (y0 (.v (.str s))) u0 (y0 (.v (.str (bT a++w++bT b)))) (y0 (.v (.str w)))) h:=by
  rw [za (Y1:=uS (aO f) l (y0 (.v (.str s))) u0 u0 (y0 (.v (.str w)))) (h1:=h) (by
   simp only [Aa,Aa2,or_false,Prod.mk.injEq]at c
   rcases c with⟨rfl,rfl⟩ | ⟨rfl,rfl⟩<;>rfl)]
  refine wb ?_
  rw [d]
  simp_all [au,Qk,wJ,i,eD (bT a) w h (by omega),j,eD (bT a++w) (bT b) h (by simp;omega)]
 simp only [Aa,Aa2,or_false,Prod.mk.injEq]at c
 obtain⟨rfl,rfl⟩ | ⟨rfl,rfl⟩:=c
 ·exact(Zn (h1:=h) rfl).trans (wb ((Zn (h1:=h) rfl).trans (wb ((Wm (h1:=h) rfl).trans g))))
 ·exact(Zn (h1:=h) rfl).trans (wb ((Zn (h1:=h) rfl).trans (wb ((Wm (h1:=h) rfl).trans g))))
def tH (s) (f) (wf:f.wf N) (c:aO f= .tup [.str s,ag a]) (b:s∈ [xf,XH]) (i:(bT a).length<=800000) (g:call prog (m+1) "_law_text" [.v (ag a),.v (.int 0)] h= .ok (.v (.str (bT a))) h):
 call prog (m+2) "_law_saying_text" [.v (aO f),.v (.int (l:Int))] h= .ok (.v (.str (br (decide (2<l)) 91 93 (s++ [32]++bT a)))) h:=by
 have j:s.length<=4:=by
  simp only [Aa,Aa2,or_false]at b
  rcases b with rfl | rfl<;>decide
 refine iQ (e:= .fact f) (x2:=y0 (.v (.str s))) (x3:=u0) (x5:=u0) wf c (by simp;omega) ?_
 show exec _ i8 (uS (aO f) l (y0 (.v (.str s))) u0 u0 u0) h= .next (uS (aO f) l (y0 (.v (.str s))) u0 (y0 (.v (.str (s++ [32]++bT a)))) u0) h
 have d:execs (k8 (m+1)) (.a (.af 4 (.bin .add (.bin .add .v2 (.str [32])) (.call "_law_text" (.b (.ix .v0 (.int 1)) (.int 0)))))) (uS (aO f) l (some (.v (.str s))) none none none) h
  = .next (uS (aO f) l (y0 (.v (.str s))) u0 (y0 (.v (.str (s++ [32]++bT a)))) u0) h:=by
  refine wb ?_
  rw [c]
  simp_all [au,Qk,g,eD s [32] h (by simp;omega),eD (s++ [32]) (bT a) h (by simp;omega)]
 simp only [Aa,Aa2,or_false]at b
 rcases b with rfl | rfl
 ·rw [c]at d ⊢;exact(Zn (h1:=h) rfl).trans (wb ((Zn (h1:=h) rfl).trans (wb ((Zn (h1:=h) rfl).trans (wb ((Wm (h1:=h) rfl).trans d))))))
 ·rw [c]at d ⊢;exact(Zn (h1:=h) rfl).trans (wb ((Zn (h1:=h) rfl).trans (wb ((Zn (h1:=h) rfl).trans (wb ((Wm (h1:=h) rfl).trans d))))))
def DB (s) (k:Nat) (j:k<1000) (f) (wf:f.wf N) (g:aO f= .tup [.str s,.int (k:Int),ag a]) (c:s∈ [zb,Wb,Wh,Jn]) (n:(wd s).length+(aZ k).length+(bT a).length<=800000) (i:call prog (m+1) "_law_text" [.v (ag a),.v (.int 0)] h= .ok (.v (.str (bT a))) h):
 call prog (m+2) "_law_saying_text" [.v (aO f),.v (.int (l:Int))] h= .ok (.v (.str (br (decide (2<l)) 91 93 (wd s++ [32]++aZ k++ [32]++bT a)))) h:=by
 refine iQ (e:= .fact f) (x2:=y0 (.v (.str (wd s++ [32])))) (x3:=u0) (x5:=u0) wf g (by simp;omega) ?_
 show exec _ i8 (uS (aO f) l (y0 (.v (.str s))) u0 u0 u0) h= .next (uS (aO f) l (y0 (.v (.str (wd s++ [32])))) u0 (y0 (.v (.str (wd s++ [32]++aZ k++ [32]++bT a)))) u0) h
 have d:(0:Int)<=(k:Int)/\(k:Int)<1000:=by omega
 have b:execs (k8 (m+1)) (.cons (.af 2 (.ck [(el,nk),(eB,nP),(iH,my),(iR,nD)] 2)) (.a (.af 4 (.bin .add (.bin .add (.bin .add .v2 (.cJ (.ix .v0 (.int 1)))) (.str [32])) (.call "_law_text" (.b (.ix .v0 (.int 2)) (.int 0))))))) (uS (aO f) l (some (.v (.str s))) none none none) h
  = .next (uS (aO f) l (y0 (.v (.str (wd s++ [32])))) u0 (y0 (.v (.str (wd s++ [32]++aZ k++ [32]++bT a)))) u0) h:=by
  rw [za (Y1:=uS (aO f) l (y0 (.v (.str (wd s++ [32])))) u0 u0 u0) (h1:=h) (by
   simp only [Aa,Aa2,or_false]at c
   rcases c with rfl | rfl | rfl | rfl<;>rfl)]
  refine wb ?_
  rw [g]
  simp_all [au,Qk,wJ,XZ,if_pos d,eD (wd s++ [32]) (aZ k) h (by simp;omega),eD (wd s++ [32]++aZ k) [32] h (by simp;omega),i,eD (wd s++ [32]++aZ k++ [32]) (bT a) h (by simp;omega)]
 rw [g]at b ⊢
 simp only [Aa,Aa2,or_false]at c
 rcases c with rfl | rfl | rfl | rfl
 ·exact(Zn (h1:=h) rfl).trans (wb ((Zn (h1:=h) rfl).trans (wb ((Zn (h1:=h) rfl).trans (wb ((Zn (h1:=h) rfl).trans b))))))
 ·exact(Zn (h1:=h) rfl).trans (wb ((Zn (h1:=h) rfl).trans (wb ((Zn (h1:=h) rfl).trans (wb ((Zn (h1:=h) rfl).trans b))))))
 ·exact(Zn (h1:=h) rfl).trans (wb ((Zn (h1:=h) rfl).trans (wb ((Zn (h1:=h) rfl).trans (wb ((Zn (h1:=h) rfl).trans b))))))
 ·exact(Zn (h1:=h) rfl).trans (wb ((Zn (h1:=h) rfl).trans (wb ((Zn (h1:=h) rfl).trans (wb ((Zn (h1:=h) rfl).trans b))))))
def Az (wf:a.wf N) (e:(sT a).length<=700000) (b: ∀l:Nat,call prog (m+1) "_law_saying_text" [.v (ai a),.v (.int (l:Int))] h= .ok (.v (.str (br (decide (aJ a<l)) 91 93 (sT a)))) h):
 call prog (m+2) "_law_saying_text" [.v (ai (.neg a)),.v (.int (l:Int))] h= .ok (.v (.str (br (decide (aJ (.neg a)<l)) 91 93 (sT (.neg a))))) h:=by
 have d:=qh (u9 (aJ a<2)) 91 93 (sT a)
 have c:call prog _ "_law_saying_text" [.v _,.v (.int 2)] h= .ok _ h:=b 2
 refine iQ (x2:=y0 (.v (.str qj))) (x3:=u0) (x5:=u0) wf rfl (by simp [sT,Aa0];lia) ?_
 refine(Zn rfl).trans (wb ((Wm rfl).trans (wb ?_)))
 simp only [ai]
 simp_all [au,Qk,c,eD kQ (br (u9 (aJ a<2)) 91 93 (sT a)) h (by simp;lia)]
 rfl
def pj (s) (k) (e) (f:e.wf N) (d:ai e= .tup [.str s,ai a,ai b]) (i:aJ e=k) (c:(s,k)∈ [(Zg,1),(Ju,0)]) (t:(sT a).length+(sT b).length<=700000) (n: ∀l:Nat,call prog (m+1) "_law_saying_text" [.v (ai a),.v (.int (l:Int))] h= .ok (.v (.str (br (decide (aJ a<l)) 91 93 (sT a)))) h) (o: ∀l:Nat,call prog (m+1) "_law_saying_text" [.v (ai b),.v (.int (l:Int))] h= .ok (.v (.str (br (decide (aJ b<l)) 91 93 (sT b)))) h):
 call prog (m+2) "_law_saying_text" [.v (ai e),.v (.int (l:Int))] h= .ok (.v (.str (br (decide (aJ e<l)) 91 93 (br (decide (aJ a<k)) 91 93 (sT a)++ [32]++s++ [32]++br (decide (aJ b<k+1)) 91 93 (sT b))))) h:=by
 have r:=qh (u9 (aJ a<k)) 91 93 (sT a)
 have u:=qh (u9 (aJ b<k+1)) 91 93 (sT b)
 have v:s.length<=3:=by
  simp only [Aa,Aa2,or_false,Prod.mk.injEq]at c
  rcases c with⟨rfl,rfl⟩ | ⟨rfl,rfl⟩<;>decide
 have j:=n k
 have p:=o (k+1)
 have q:((k:Int)+1)=((k+1:Nat):Int):=by omega
 refine iQ (x2:=y0 (.v (.str s))) (x3:=y0 (.v (.int (k:Int)))) (x5:=u0) f d (by simp;omega) ?_
 have g:execs (k8 (m+1)) (.cons (.af 3 (.call "_law_saying_level" (.a .v0))) (.a (.af 4 (.bin .add (.bin .add (.bin .add (.bin .add (.call "_law_saying_text" (.b (.ix .v0 (.int 1)) .v3)) (.str [32])) .v2) (.str [32])) (.call "_law_saying_text" (.b (.ix .v0 (.int 2)) (.bin .add .v3 (.int 1)))))))) (uS (ai e) l (some (.v (.str s))) none none none) h
  = .next (uS (ai e) l (y0 (.v (.str s))) (y0 (.v (.int (k:Int)))) (y0 (.v (.str (br (u9 (aJ a<k)) 91 93 (sT a)++ [32]++s++ [32]++br (u9 (aJ b<k+1)) 91 93 (sT b))))) u0) h:=by
  rw [za (Y1:=uS (ai e) l (y0 (.v (.str s))) (y0 (.v (.int (k:Int)))) u0 u0) (h1:=h) (by simp_all [qB m h e f,i])]
  refine wb ?_
  rw [d]
  simp_all [au,Qk,wJ,j,Xg,q,p,eD (br (u9 (aJ a<k)) 91 93 (sT a)) [32] h (by simp;omega),eD (br (u9 (aJ a<k)) 91 93 (sT a)++ [32]) s h (by simp;omega),eD (br (u9 (aJ a<k)) 91 93 (sT a)++ [32]++s) [32] h (by simp;omega),eD (br (u9 (aJ a<k)) 91 93 (sT a)++ [32]++s++ [32]) (br (u9 (aJ b<k+1)) 91 93 (sT b)) h (by simp;omega)]
 simp only [Aa,Aa2,or_false,Prod.mk.injEq]at c
 rcases c with⟨rfl,rfl⟩ | ⟨rfl,rfl⟩
 ·exact(Wm rfl).trans g
 ·exact(Wm rfl).trans g
end
def DH (h): ∀ s,s.wf N->(sT s).length<=600000-> ∀m,s.dp+3<=m-> ∀l:Nat,call prog (m+1) "_law_saying_text" [.v (ai s),.v (.int (l:Int))] h= .ok (.v (.str (br (decide (aJ s<l)) 91 93 (sT s)))) h:=by
 intro s
 induction s with
 | fact f=>
  intro wf d m c l
  simp only [Sy.dp]at c
  obtain⟨n,rfl⟩: ∃n,m=n+1:=⟨m-1,by omega⟩
  have g: ∀e:Ex,(bT e).length<=700000->e.dp+1<=n->call prog _ "_law_text" [.v _,.v _] h= .ok _ h:=fun e r o=>by
   have:=Ej h e r n o 0
   rw [tX]at this
   exact this
  cases f with
  | cT a b=>
   simp only [sT,fT,Aa3,Aa0]at d
   simp only [Fc.dp]at c
   have:=tG (l:=l) zv kh _ wf rfl (by decide) (by omega) (g a (by omega) (by omega)) (g b (by omega) (by omega))
   simp only [Ac6]at this
   exact this
  | cV a b=>
   simp only [sT,fT,Aa3,Aa0]at d
   simp only [Fc.dp]at c
   have:=tG (l:=l) Qd [32,61,32] _ wf rfl (by decide) (by omega) (g a (by omega) (by omega)) (g b (by omega) (by omega))
   simp only [Ac6]at this
   exact this
  | cO a=>
   simp only [sT,fT,Aa3,Aa0]at d
   simp only [Fc.dp]at c
   have:=tH (l:=l) xf (.cO a) wf rfl (by decide) (by omega) (g a (by omega) (by omega))
   simp only [Ac6]at this
   exact this
  | az a=>
   simp only [sT,fT,Aa3,Aa0]at d
   simp only [Fc.dp]at c
   have:=tH (l:=l) XH (.az a) wf rfl (by decide) (by omega) (g a (by omega) (by omega))
   simp only [Ac6]at this
   exact this
  | cnt s k a=>
   simp only [sT,fT,Aa3,Aa0]at d
   simp only [Fc.dp]at c
   have:=DB (l:=l) s k (Ai5 wf.1.2 (by decide)) (.cnt s k a) wf rfl wf.1.1 (by omega) (g a (by omega) (by omega))
   simp only [Ac6]at this
   exact this
 | neg a p=>
  intro wf d m c l
  simp only [Sy.dp]at c
  have u:=zi (u9 (aJ a<2)) 91 93 (sT a)
  simp only [sT,Aa0]at d
  obtain⟨n,rfl⟩: ∃n,m=n+1:=⟨m-1,by omega⟩
  exact Az wf (by omega) (p wf (by omega) n (by omega))
 | bj a b j i=>
  intro wf d m c l
  simp only [Sy.dp]at c
  have q:=zi (u9 (aJ a<1)) 91 93 (sT a)
  have t:=zi (u9 (aJ b<2)) 91 93 (sT b)
  simp only [sT,Aa3,Aa0]at d
  obtain⟨n,rfl⟩: ∃n,m=n+1:=⟨m-1,by omega⟩
  have:=pj (l:=l) Zg 1 (.bj a b) wf rfl rfl (by decide) (by omega) (j wf.1 (by omega) n (by omega)) (i wf.2 (by omega) n (by omega))
  simpa [sT]using this
 | bh a b j i=>
  intro wf d m c l
  simp only [Sy.dp]at c
  have q:=zi (u9 (aJ a<0)) 91 93 (sT a)
  have t:=zi (u9 (aJ b<1)) 91 93 (sT b)
  simp only [sT,Aa3,Aa0]at d
  obtain⟨n,rfl⟩: ∃n,m=n+1:=⟨m-1,by omega⟩
  have:=pj (l:=l) Ju 0 (.bh a b) wf rfl rfl (by decide) (by omega) (j wf.1 (by omega) n (by omega)) (i wf.2 (by omega) n (by omega))
  simpa [sT]using this
abbrev eI (N T:List Tx) (p:Nat):List (String×D):= [("names",ba N),("signs",.lst (T.map .str)),("place",.int (p:Int))]
def rh (g:AH) (N T:List Tx) (p:Nat):AH:=g++ [Cell.obj "Reader" (eI N T p)]
def BL (g) (N T) (p):(rh g N T p).length=g.length+1:=by simp [rh]
def Xi (g) (N T) (p q):(rh g N T q).length=(rh g N T p).length:=by simp [rh]
def wz (g) (N T) (p):GK (rh g N T p) (y0 (.v (.ref g.length)))=y0 (g.length, "Reader",eI N T p):=by simp [GK,rh]
def B6 (g) (N T) (p q):(rh g N T p).set g.length (.obj "Reader" (eI N T q))=rh g N T q:=by simp [rh]
section
variable {F:Fx}{g:AH}{N T:List Tx}{p:Nat}{Y:Sl}
def vD (a:Gm Y 0=y0 (.v (.ref g.length))):eval F (.fld 0 "Reader" "names") Y (rh g N T p)= .ok (.v (ba N)) (rh g N T p):=by
 rw [eval,a,wz];rfl
def fg (a:Gm Y 0=y0 (.v (.ref g.length))) (b:((eI N T p).lookup m).isNone=k9) (e:Gj F es Y (rh g N T p)= .ok ws (rh g N T p)):
 eval F (.ah 0 "Reader" m q es) Y (rh g N T p)=F.call q (.v (.ref g.length)::ws.map W.arg) (rh g N T p):=by
 rw [eval,a,wz]
 simp [b,e,R.aa]
end
def oW (N T) (p):(eI N T p).lookup "signs" =some (.lst (T.map .str)):=rfl
def lT (N T) (p):(eI N T p).lookup "place" =some (.int (p:Int)):=rfl
def tk (T:List Tx) (p:Nat):Tx:=T.getD p []
def uE {T:List Tx}(h:p<T.length):(T.map D.str)[p]? =y0 (.str (tk T p)):=by
 simp [tk,h]
def oj (h: ¬p<T.length):tk T p= []:=by
 simp only [tk,Ad1]
 rw [List.getElem?_eq_none (by omega)];rfl
def Xb (h:T.drop p=x::r):tk T p=x/\T.drop (p+1)=r:=by
 have a:=by
  have:=congrArg List.head? h
  rw [List.head?_drop]at this
  exact this
 refine⟨by simp [tk,a],?_⟩
 have:=congrArg List.tail h
 rwa [List.tail_drop]at this
def Qm {T ts r:List Tx}(h:T.drop p=ts++r):T.drop (p+ts.length)=r:=by
 rw [← List.drop_drop,h,List.drop_left]
def sy (m) (g) (N T) (p):call prog (m+1) "Reader.here" [.v (.ref g.length)] (rh g N T p)= .ok (.v (.str (tk T p))) (rh g N T p):=by
 rw [Gb rfl _ _ _ rfl]
 simp only [Wv]
 show Gu _ (execs _ _ [y0 (.v (.ref g.length))] _)=_
 have z:Gw .lt (.v (.int p)) (.v (.int ((T.map D.str).length))) (rh g N T p)=y0 (u9 (p<T.length)):=by
  rw [Wo,Ab1]
 have b:cU .len [.v (.lst (T.map D.str))] (rh g N T p)= .ok (.v (.int ((T.map D.str).length))) (rh g N T p):=rfl
 have a:Gr (k8 m) (.cmp .lt (.fld 0 "Reader" "place") (.bi .len (.a (.fld 0 "Reader" "signs")))) [some (.v (.ref g.length))] (rh g N T p)= .ok (decide (p<T.length)) (rh g N T p):=by
  simp_all [wz,oW,lT,if_true,b,z,aF]
 by_cases q:p<T.length
 ·rw [decide_eq_true q]at a
  rw [jq a (Qc rfl ?_),Ga _ _ _ rfl]
  simp_all [wz,oW,lT,if_true,lZ,Xr (T.map D.str) p (by simpa using q),uE q]
 ·rw [decide_eq_false q]at a
  rw [xa a,qa rfl,Ga _ _ _ rfl,oj q]
def vC (N T) (p q:Nat):aY "place" (.int (q:Int)) (eI N T p)=eI N T q:=rfl
def De (N T) (p):(eI N T p).length<100:=by show 3<100;decide
def FQ (m) (g) (N T) (p):call prog (m+2) "Reader.take" [.v (.ref g.length)] (rh g N T p)= .ok (.v (.str (tk T p))) (rh g N T (p+1)):=by
 rw [Gb rfl _ _ _ rfl]
 simp only [Zv]
 show Gu _ (execs _ _ [y0 _,u0] _)=_
 have a:=fg (F:=(k8 (m+1))) (N:=N) (T:=T) (p:=p) (Y:= [y0 (.v (.ref g.length)),u0]) (m:= "here") (q:= "Reader.here") (es:= .nil) rfl rfl rfl
 have a:=a.trans (sy m g N T p)
 rw [za (Y1:= [y0 _,y0 _]) (by rw [exec,a];rfl)]
 have b:eval (k8 (m+1)) (.bin .add (.fld 0 "Reader" "place") (.int 1)) [some (.v (.ref g.length)),some (.v (.str (tk T p)))] (rh g N T p)= .ok (.v (.int (p+1:Nat))) (rh g N T p):=by
  have z:Gi .add p 1=y0 ((p+1:Nat):Int):=by rw [Xg];rfl
  simp_all [wz,lT,if_true,z]
 rw [za (Y1:= [y0 _,y0 (.v _)])]
 ·rw [qa rfl,Ga _ _ _ (Xi g N T p _)]
 ·rw [exec,b]
  rw [R.aA]
  show(match GK _ (y0 _)with | some (r,c,fs)=>_ | none=>_)=_
  rw [wz]
  show(if _ then _ else _)=_
  rw [if_pos ⟨rfl,rfl,De N T p⟩,vC,B6]
section
variable {m:Nat}{g:AH}{N T:List Tx}{p:Nat}{Y:Sl}
def ZY (a:Gm Y 0=y0 (.v (.ref g.length))):eval (k8 (m+1)) (.ah 0 "Reader" "here" "Reader.here" .nil) Y (rh g N T p)= .ok (.v (.str (tk T p))) (rh g N T p):=
 (fg (ws:= []) a rfl rfl).trans (sy m g N T p)
def Qu (a:Gm Y 0=y0 (.v (.ref g.length))):eval (k8 (m+2)) (.ah 0 "Reader" "take" "Reader.take" .nil) Y (rh g N T p)= .ok (.v (.str (tk T p))) (rh g N T (p+1)):=
 (fg (ws:= []) a rfl rfl).trans (FQ m g N T p)
def QG (a:Gm Y 0=y0 (.v (.ref g.length))):exec (k8 (m+2)) (.ex (.ah 0 "Reader" "take" "Reader.take" .nil)) Y (rh g N T p)= .next Y (rh g N T (p+1)):=by
 rw [exec,Qu a];rfl
def XG (t) (a:Gm Y 0=y0 (.v (.ref g.length))):Gr (k8 (m+1)) (.cmp .eq (.ah 0 "Reader" "here" "Reader.here" .nil) (.str t)) Y (rh g N T p)= .ok (tk T p==t) (rh g N T p):=by
 rw [Gr,eval,ZY a]
 simp only [R.aa,eval,Xe,R.ab,Gn,aF]
end
def JM (F) (Y) (h) (a b):eval F (.tup (.b (.str a) (.str b))) Y h= .ok (.v (ba [a,b])) h:=by
 simp_all [];rfl
def ED (F) (Y) (h) (a b c):eval F (.tup (.c (.str a) (.str b) (.str c))) Y h= .ok (.v (ba [a,b,c])) h:=by
 simp_all [];rfl
def rm (m) (g) (N T) (p) (t) (a:tk T p=t):call prog (m+3) "Reader.take_just" [.v (.ref g.length),.v (.str t)] (rh g N T p)= .ok (.v .az) (rh g N T (p+1)):=by
 rw [Gb rfl _ _ _ rfl]
 simp only [Ql]
 show Gu _ (execs _ _ [y0 _,y0 _] _)=_
 have z:Gw .ne (.v (.str (tk T p))) (.v (.str t)) (rh g N T (p+1))=y0 false:=by
  rw [a];simp [G8]
 have b:Gr (k8 (m+2)) (.cmp .ne (.ah 0 "Reader" "take" "Reader.take" .nil) .v1) [some (.v (.ref g.length)),some (.v (.str t))] (rh g N T p)= .ok false (rh g N T (p+1)):=by
  rw [Gr,eval,Qu rfl]
  simp only [R.aa,eval,Gp,Gm,z,R.ab,Gn,aF]
 rw [za (by rw [Zn b];rfl)]
 show Gu _ (.next _ _)=_
 rw [GG _ _ _ (Xi g N T p _)]
def DC (m w:Nat) (h) (c:w<20):call prog (m+1) "one_deeper" [.v (.int (w:Int))] h= .ok (.v (.int ((w+1:Nat):Int))) h:=by
 rw [Gb rfl _ _ _ rfl]
 have z:Gw .eq (.v (.int w)) (.v (.int 20)) h=y0 false:=by
  have:=Qh w 20 h
  rw [decide_eq_false (by lia)]at this
  exact this
 have b:Gi .add w 1=y0 ((w+1:Nat):Int):=by rw [Xg];rfl
 have a:prog.con.lookup "MOST_WITHIN" =some _:=rfl
 simp_all [Zz,z,b,a]
def XM {w:Nat}(c:w<20) (a:Gm Y 0=y0 (.v (.ref g.length))) (h1:Gm Y 1=y0 (.v (.int (w:Int)))) (b:((eI N T p).lookup k).isNone=k9):
 eval (k8 (m+1)) (.ah 0 "Reader" k q (.a (.call "one_deeper" (.a .v1)))) Y (rh g N T p)=call prog (m+1) q [.v (.ref g.length),.v (.int ((w+1:Nat):Int))] (rh g N T p):=by
 have e:Gj (k8 (m+1)) (.a (.call "one_deeper" (.a .v1))) Y (rh g N T p)= .ok [.v (.int (w+1:Nat))] (rh g N T p):=by
  simp only [Gj,eval,Gp,h1,R.aa,Ab3,Ae2,W.c8,DC m w _ c]
 rw [fg a b e];rfl
def zu (a:Gm Y 0=y0 (.v (.ref g.length))) (h1:Gm Y i=y0 (.v w)) (b:((eI N T p).lookup k).isNone=k9):
 eval (k8 m) (.ah 0 "Reader" k q (.a (.var i))) Y (rh g N T p)=call prog m q [.v (.ref g.length),.v w] (rh g N T p):=by
 have e:Gj (k8 m) (.a (.var i)) Y (rh g N T p)= .ok [.v w] (rh g N T p):=by
  simp only [Gj,eval,Gp,h1,R.aa,R.ab]
 rw [fg a b e];rfl
inductive TE (N:List Tx):Nat->Ex->List Tx->Nat->Prop
 | name {t:Tx}{n:Nat}(h:t∈N) (g:aQ t):TE N 3 (.name t) [t] n
 | same {n:Nat}:TE N 3 .same [Zi] n
 | all {n:Nat}:TE N 3 .all [Wq] n
 | none {n:Nat}:TE N 3 .none [xi] n
 | turned {a:Ex}{ts:List Tx}{n:Nat}(h:TE N 3 a ts n):TE N 3 (.turned a) ([126]::ts) (n+1)
 | closed {a:Ex}{ts:List Tx}{n:Nat}(h:TE N 3 a ts n):TE N 3 (.closed a) ([94]::ts) (n+1)
 | par {e:Ex}{ts:List Tx}{n:Nat}(h:TE N 0 e ts n):TE N 3 e ([40]::(ts++ [[41]])) (n+1)
 | up {l:Nat}{e:Ex}{ts:List Tx}{n:Nat}(hl:l<3) (h:TE N (l+1) e ts n):TE N l e ts n
 | plus {a b:Ex}{ts us:List Tx}{n:Nat}(h:TE N 0 a ts n) (k:TE N 1 b us n):TE N 0 (.plus a b) (ts++ [43]::us) n
 | less {a b:Ex}{ts us:List Tx}{n:Nat}(h:TE N 0 a ts n) (k:TE N 1 b us n):TE N 0 (.less a b) (ts++ [45]::us) n
 | both {a b:Ex}{ts us:List Tx}{n:Nat}(h:TE N 1 a ts n) (k:TE N 2 b us n):TE N 1 (.both a b) (ts++ [38]::us) n
 | joined {a b:Ex}{ts us:List Tx}{n:Nat}(h:TE N 2 a ts n) (k:TE N 3 b us n):TE N 2 (.joined a b) (ts++ [46]::us) n
def TE.wk (h:TE N l e ts n) (a:n<=m):TE N l e ts m:=by
 induction h generalizing m with
 | name h g=>exact .name h g
 | same=>exact .same
 | all=>exact .all
 | none=>exact .none
 | turned _ b=>obtain⟨k,rfl⟩: ∃k,m=k+1:=⟨m-1,by omega⟩;exact .turned (b (by omega))
 | closed _ b=>obtain⟨k,rfl⟩: ∃k,m=k+1:=⟨m-1,by omega⟩;exact .closed (b (by omega))
 | par _ b=>obtain⟨k,rfl⟩: ∃k,m=k+1:=⟨m-1,by omega⟩;exact .par (b (by omega))
 | up c _ b=>exact .up c (b a)
 | plus _ _ i1 i2=>exact .plus (i1 a) (i2 a)
 | less _ _ i1 i2=>exact .less (i1 a) (i2 a)
 | both _ _ i1 i2=>exact .both (i1 a) (i2 a)
 | joined _ _ i1 i2=>exact .joined (i1 a) (i2 a)
abbrev Lk (a:Type):=Tx×(a->a->a)×a×List Tx
def bL {a:Type}:List (Lk a)->List Tx
 | []=> []
 | c::cs=>c.1::(c.2.2.2++bL cs)
def du {a:Type}(e:a):List (Lk a)->a
 | []=>e
 | c::cs=>du (c.2.1 e c.2.2.1) cs
def pJ (xs a:List (Lk α)):bL (xs++a)=bL xs++bL a:=by
 induction xs with
 | nil=>rfl
 | cons c d b=>simp [bL,b]
def r6 (xs a:List (Lk α)): ∀e,du e (xs++a)=du (du e xs) a:=by
 induction xs with
 | nil=>intro e;rfl
 | cons c d b=>intro e;simp [du,b]
def et (l:Nat) (t:Tx) (f:Ex->Ex->Ex):Prop:=(l=0/\(t= [43]/\f= .plus\/t= [45]/\f= .less))\/(l=1/\t= [38]/\f= .both)\/(l=2/\t= [46]/\f= .joined)
def TE.chain (h:TE N l e ts n):l<3-> ∃J i q,TE N (l+1) J i n/\ts=i++bL q/\e=du J q/\ ∀c∈q,et l c.1 c.2.1/\TE N (l+1) c.2.2.1 c.2.2.2 n:=by
 have snoc: ∀ {l}{a b}{ts o}{n}{t}{f},et l t f->(∃ J i q,TE N (l+1) J i n/\ts=i++bL q/\a=du J q/\ ∀c∈q,et l c.1 c.2.1/\TE N (l+1) c.2.2.1 c.2.2.2 n)->TE N (l+1) b o n →
  ∃J i q,TE N (l+1) J i n/\ts++t::o=i++bL q/\f a b=du J q/\ ∀c∈q,et l c.1 c.2.1/\TE N (l+1) c.2.2.1 c.2.2.2 n:=by
  rintro l a b ts o n t f p ⟨J,i,q,u,rfl,rfl,s⟩ r
  refine⟨J,i,q++ [(t,f,b,o)],u,?_,?_,λc j=> ?_⟩
  ·rw [pJ];simp [bL]
  ·rw [r6];rfl
  ·rcases Ac8.mp j with j | j
   ·exact s c j
   ·rw [Ab8.mp j];exact⟨p,r⟩
 induction h with
 | name h g=>intro m;omega
 | same=>intro m;omega
 | all=>intro m;omega
 | none=>intro m;omega
 | turned _ d=>intro m;omega
 | closed _ d=>intro m;omega
 | par _ d=>intro m;omega
 | up m h d=>intro _;exact⟨_,_,[],h,by simp [bL],rfl,λc j=>by cases j⟩
 | plus _ k d _=>intro _;exact snoc (.inl ⟨rfl,.inl ⟨rfl,rfl⟩⟩) (d (by omega)) k
 | less _ k d _=>intro _;exact snoc (.inl ⟨rfl,.inr ⟨rfl,rfl⟩⟩) (d (by omega)) k
 | both _ k d _=>intro _;exact snoc (.inr (.inl ⟨rfl,rfl,rfl⟩)) (d (by omega)) k
 | joined _ k d _=>intro _;exact snoc (.inr (.inr ⟨rfl,rfl,rfl⟩)) (d (by omega)) k
def Stop (l:Nat) (r:List Tx):Prop:= ∀k f,l<=k-> ¬et k (r.headD []) f
def Stop.up (h:Stop l r) (a:l<=k):Stop k r:=λj f b=>h j f (Ac1 a b)
def Stop.op (h:et l t f):Stop (l+1) (t::r):=by
 intro k b c a
 have a:et k t b:=a
 rcases h with⟨rfl,⟨rfl,_⟩ | ⟨rfl,_⟩⟩ | ⟨rfl,rfl,_⟩ | ⟨rfl,rfl,_⟩<;>rcases a with⟨rfl,⟨a,_⟩ | ⟨a,_⟩⟩ | ⟨rfl,a,_⟩ | ⟨rfl,a,_⟩<;>first | omega | exact absurd a (by decide)
def RD (N:List Tx) (k:String) (l n m:Nat):Prop:= ∀(e:Ex) (ts:List Tx),TE N l e ts n-> ∀(g:AH) (T:List Tx) (p w:Nat) (r:List Tx),T.drop p=ts++r->Stop l r->w+n<=20->T.length<=90000 →
 call prog m k [.v (.ref g.length),.v (.int (w:Int))] (rh g N T p)= .ok (.v (ag e)) (rh g N T (p+ts.length))
def pC (h:T.drop p=r):tk T p=r.headD []:=by
 cases r with
 | nil=>exact oj (by have:=List.drop_eq_nil_iff.mp h;omega)
 | cons x r=>exact(Xb h).1
def yc {a:List (Lk Ex)}(h: ∀c∈a,∃f,et l c.1 f) (s:Stop l r):Stop (l+1) (bL a++r):=by
 cases a with
 | nil=>exact s.up (Ad2 _)
 | cons c a=>
  obtain⟨f,b⟩:=h c Aa4
  exact Stop.op b
def sX (a:List (Lk α)):a.length<=(bL a).length:=by
 induction a with
 | nil=>exact Aa7 _
 | cons c a b=>simp [bL];omega
def Q2 {T ts r:List Tx}(h:T.drop p=ts++r):ts.length<=T.length:=by
 have:=congrArg List.length h
 rw [Ah1,Aa3]at this
 omega
section
variable {N T:List Tx}{g:AH}{m n w:Nat}
abbrev rs (g:AH) (w:Nat) (x:Option W):Sl:= [y0 (.v (.ref g.length)),y0 (.v (.int (w:Int))),x]
theorem mM {H:Nat->AH}{Y:α->Option W->Sl}{Ok:Lk α->Prop}{St St':List Tx->Prop}
 (k: ∀e y p l r,Ok l->T.drop p=l.1::r->c (Y e y) (H p)= .ok k9 (H p)) (h: ∀e y p r,T.drop p=r->St r->c (Y e y) (H p)= .ok y9 (H p))
 (cM: ∀e y p l r,Ok l->T.drop p=l.1::(l.2.2.2++r)->St' r-> ∃J,bd (Y e y) (H p)= .next (Y (l.2.1 e l.2.2.1) J) (H (p+1+l.2.2.2.length))) (j: ∀r,St r->St' r) (d: ∀l r,Ok l->St' (l.1::r)):
 ∀ i,(∀ l∈i,Ok l)-> ∀ f e y p r,i.length<f->T.drop p=bL i++r->St r-> ∃J,GH c bd f (Y e y) (H p)= .next (Y (du e i) J) (H (p+(bL i).length))
 | [],_,f+1,e,y,p,r,_,hd,b=>⟨y,by rw [GH,h e y p r hd b];rfl⟩
 | l::i,a,f+1,e,y,p,r,o,hd,b=>by
  have hd:T.drop p=l.1::(l.2.2.2++(bL i++r)):=by rw [hd];simp [bL]
  have t:St' (bL i++r):=by
   cases i with
   | nil=>exact j r b
   | cons g i=>exact d g _ (a g (Aa5 _ Aa4))
  obtain⟨n,s⟩:=cM e y p l _ (a l Aa4) hd t
  obtain⟨J,m⟩:=mM k h cM j d i (λl q=>a l (Aa5 _ q)) f (l.2.1 e l.2.2.1) n (p+1+l.2.2.2.length) r (by simp at o;omega) (Qm (Xb hd).2) b
  refine⟨J,?_⟩
  rw [GH,k e y p l _ (a l Aa4) hd,R.aA]
  simp only [s]
  rw [m]
  simp only [du,bL,Aa0,Aa3]
  rw [show p+1+l.2.2.2.length+(bL i).length=p+(l.2.2.2.length+(bL i).length+1)by omega]
def kY {dD:α->D}{u k q:String}{o s:Tx}{F:α->α->α}(hd:prog.fns.lookup u=y0 ⟨2,3,.cons (.af 2 (.ah 0 "Reader" k q (.a .v1))) (.cons (.fj 100000 (.cmp .eq (.ah 0 "Reader" "here" "Reader.here" .nil) (.str o)) (.cons (.ex (.ah 0 "Reader" "take" "Reader.take" .nil)) (.a (.af 2 (.tup (.c (.str s) .v2 (.ah 0 "Reader" k q (.a .v1)))))))) (.a (.ret .v2)))⟩)
 (B: ∀p,((eI N T p).lookup k).isNone=k9) (K: ∀a b,dD (F a b)= .tup [.str s,dD a,dD b]){Q:α->List Tx->Prop}{St St':List Tx->Prop}(z: ∀b us,Q b us-> ∀p r,T.drop p=us++r->St' r->call prog (m+2) q [.v (.ref g.length),.v (.int (w:Int))] (rh g N T p)= .ok (.v (dD b)) (rh g N T (p+us.length)))
 (I: ∀r,St r->r.headD []≠o) (C: ∀r,St r->St' r) (v: ∀r,St' (o::r)) (P:T.length<=90000){j:α}{d:List Tx}{f:List (Lk α)}(h1:Q j d) (A: ∀c∈f,(c.1=o/\c.2.1=F)/\Q c.2.2.1 c.2.2.2){p:Nat}{r:List Tx}(E:T.drop p=(d++bL f)++r) (st:St r):
 call prog (m+3) u [.v (.ref g.length),.v (.int (w:Int))] (rh g N T p)= .ok (.v (dD (du j f))) (rh g N T (p+(d++bL f).length)):=by
 have n:T.drop p=d++(bL f++r):=by rw [E,Ac6]
 have L:St' (bL f++r):=by
  cases f with
  | nil=>exact C r st
  | cons x f=>
   have:=(A x Aa4).1.1
   show St' (x.1::_)
   rw [this];exact v _
 have S:=Q2 (Qm n)
 rw [Gb hd _ _ _ rfl]
 show Gu _ (execs _ _ (rs g w u0) _)=_
 have t:=(zu (m:=m+2) (g:=g) (N:=N) (T:=T) (p:=p) (Y:=rs g w u0) (q:=q) (k:=k) (i:=1) rfl rfl (B p)).trans (z j d h1 p _ n L)
 rw [za (Y1:=rs g w (y0 (.v (dD j)))) (h1:=rh g N T (p+d.length)) (by rw [exec,t];rfl)]
 obtain⟨O,M⟩:=mM (T:=T) (H:=rh g N T) (Y:=λe _=>rs g w (y0 (.v (dD e)))) (Ok:=λc=>(c.1=o/\c.2.1=F)/\Q c.2.2.1 c.2.2.2) (St:=St) (St':=St')
  (c:=fun Y h=>Gr (k8 (m+2)) (.cmp .eq (.ah 0 "Reader" "here" "Reader.here" .nil) (.str o)) Y h) (bd:=fun Y h=>execs (k8 (m+2)) (.cons (.ex (.ah 0 "Reader" "take" "Reader.take" .nil)) (.a (.af 2 (.tup (.c (.str s) .v2 (.ah 0 "Reader" k q (.a .v1))))))) Y h)
  (λe y p l r ok hd=>by show Gr _ _ _ _=_;rw [XG o rfl,(Xb hd).1,ok.1.1];simp)
  (λe y p r hd st=>by show Gr _ _ _ _=_;rw [XG o rfl,pC hd,show(r.headD []==o)=y9 from beq_eq_false_iff_ne.mpr (I r st)])
  (λe y p l r ok hd J=>⟨u0,by
    show execs _ _ _ _=_
    rw [za (QG rfl)]
    have t:=(zu (m:=m+2) (g:=g) (N:=N) (T:=T) (p:=p+1) (Y:=rs g w (y0 (.v (dD e)))) (q:=q) (k:=k) (i:=1) rfl rfl (B _)).trans (z _ _ ok.2 (p+1) r (Xb hd).2 J)
    have G:eval (k8 (m+2)) (.tup (.c (.str s) .v2 (.ah 0 "Reader" k q (.a .v1)))) (rs g w (some (.v (dD e)))) (rh g N T (p+1))= .ok (.v (dD (l.2.1 e l.2.2.1))) (rh g N T (p+1+l.2.2.2.length)):=by
     rw [ok.1.2,K,eval,Gk,eval]
     simp only [aF,R.aa,W.cj,R.ab,Gk]
     rw [show eval (k8 (m+2)) .v2 (rs g w (y0 (.v (dD e)))) (rh g N T (p+1))= .ok (.v (dD e)) (rh g N T (p+1))from rfl]
     simp only [R.aa,W.cj,R.ab]
     rw [t];rfl
    rw [za (Y1:=rs g w (y0 (.v (dD (l.2.1 e l.2.2.1))))) (h1:=rh g N T (p+1+l.2.2.2.length)) (by rw [exec,G];rfl)]
    rfl⟩)
  C (λl r ok=>by rw [ok.1.1];exact v r) f A 100000 j u0 (p+d.length) r (by have:=sX f;omega) (Qm n) st
 rw [za (Y1:=rs g w (y0 (.v (dD (du j f))))) (h1:=rh g N T (p+d.length+(bL f).length)) (by rw [exec];exact M)]
 rw [qa (w:= .v (dD (du j f))) (h1:=rh g N T (p+d.length+(bL f).length)) rfl,Ga _ _ _ (Xi ..),Aa3,Nat.add_assoc]
def jT (q:RD N "Reader.atom" 3 n (m+2)):RD N "Reader.factor" 2 n (m+3):=by
 intro e v k g T p w r hd a l d
 obtain⟨y,j,x,t,rfl,rfl,i⟩:=k.chain (by decide)
 refine kY (dD:=ag) (F:= .joined) rfl (λ_=>rfl) (λ_ _=>rfl) (λb u o p r hd a=>q b u o g T p w r hd a l d) (λr a z=>a 2 .joined (Aa7 _) (.inr (.inr ⟨rfl,z,rfl⟩))) (λr s=>s.up (Ad2 _)) (λr=>Stop.op (.inr (.inr ⟨rfl,rfl,rfl⟩))) d t (λc f=>⟨?_,(i c f).2⟩) hd a
 rcases (i c f).1 with⟨h,_⟩ | ⟨h,_⟩ | ⟨_,h⟩
 ·omega
 ·omega
 ·exact h
def tT (q:RD N "Reader.factor" 2 n (m+2)):RD N "Reader.term" 1 n (m+3):=by
 intro e v k g T p w r hd a l d
 obtain⟨y,j,x,t,rfl,rfl,i⟩:=k.chain (by decide)
 refine kY (dD:=ag) (F:= .both) rfl (λ_=>rfl) (λ_ _=>rfl) (λb u o p r hd a=>q b u o g T p w r hd a l d) (λr a z=>a 1 .both (Aa7 _) (.inr (.inl ⟨rfl,z,rfl⟩))) (λr s=>s.up (Ad2 _)) (λr=>Stop.op (.inr (.inl ⟨rfl,rfl,rfl⟩))) d t (λc f=>⟨?_,(i c f).2⟩) hd a
 rcases (i c f).1 with⟨h,_⟩ | ⟨_,h⟩ | ⟨h,_⟩
 ·omega
 ·exact h
 ·omega
end
section
variable {N T:List Tx}{g:AH}{m n w:Nat}
abbrev cC (g:AH) (w:Nat) (x y:Option W):Sl:= [y0 (.v (.ref g.length)),y0 (.v (.int (w:Int))),x,y]
def pW (a:Gm Y 0=y0 (.v (.ref g.length))):Gr (k8 (m+2)) Zc Y (rh g N T p)= .ok (u9 (tk T p∈ [[43],[45]])) (rh g N T p):=by
 simp only [Zc]
 rw [Gr,eval,ZY a]
 simp only [R.aa,JM,Qx,R.ab,Gn]
def E4 (E:RD N "Reader.term" 1 n (m+2)) (D:w+n<=20) (v:T.length<=90000): ∀ J,(∀ c∈J,et 0 c.1 c.2.1/\TE N 1 c.2.2.1 c.2.2.2 n)-> ∀ f e y p r,J.length<f->T.drop p=bL J++r->Stop 0 r →
 ∃L,GH (λY h=>Gr (k8 (m+2)) Zc Y h) (λY h=>execs (k8 (m+2)) wc Y h) f (cC g w (y0 (.v (ag e))) y) (rh g N T p)= .next (cC g w (y0 (.v (ag (du e J)))) L) (rh g N T (p+(bL J).length)):=by
 refine mM (λe y p l r ok hd=> ?_) (λe y p r hd j=> ?_) (λe y p l r ok hd B=> ?_) (λr s=>s.up (Ad2 _)) λl r ok=>Stop.op ok.1
 ·show Gr _ _ _ _=_
  rw [pW rfl,(Xb hd).1]
  rcases ok.1 with⟨_,⟨z,_⟩ | ⟨z,_⟩⟩ | ⟨h,_⟩ | ⟨h,_⟩
  ·rw [z];rfl
  ·rw [z];rfl
  ·omega
  ·omega
 ·have ne:u9 (tk T p∈ [[43],[45]])=false:=by
   rw [pC hd]
   refine decide_eq_false λq=> ?_
   simp only [Aa,Aa2,or_false]at q
   rcases q with q | q
   ·exact j 0 .plus (Aa7 _) (.inl ⟨rfl,.inl ⟨q,rfl⟩⟩)
   ·exact j 0 .less (Aa7 _) (.inl ⟨rfl,.inr ⟨q,rfl⟩⟩)
  show Gr _ _ _ _=_
  rw [pW rfl,ne]
 ·obtain⟨t,a,b,u⟩:=l
  have x:et 0 t a:=ok.1
  obtain⟨C,F⟩:=Xb hd
  have H:=E b u ok.2 g T (p+1) w r F B D v
  obtain⟨z,o⟩: ∃s:Tx,Kw [([43],.str Qe),([45],.str Zd),([126],.str Qa),([94],.str Za),(b3,.str b3),([61],.str fm)] (.v (.str t)) (rh g N T (p+1))= .ok (.v (.str s)) (rh g N T (p+1))/\ .tup [.str s,ag e,ag b]=ag (a e b):=by
   rcases x with⟨_,⟨rfl,rfl⟩ | ⟨rfl,rfl⟩⟩ | ⟨h,_⟩ | ⟨h,_⟩
   ·exact⟨Qe,rfl,rfl⟩
   ·exact⟨Zd,rfl,rfl⟩
   ·omega
   ·omega
  have A:execs (k8 (m+2)) wc (cC g w (y0 (.v (ag e))) y) (rh g N T p)= .next (cC g w (y0 (.v (ag (a e b)))) (y0 (.v (.str z)))) (rh g N T (p+1+u.length)):=by
   simp only [wc]
   rw [za (Y1:=cC g w (y0 (.v (ag e))) (y0 (.v (.str z)))) (h1:=rh g N T (p+1))]
   ·have d:=zu (m:=m+2) (N:=N) (T:=T) (p:=p+1) (Y:=cC g w (y0 (.v (ag e))) (y0 (.v (.str z)))) (q:= "Reader.term") (k:= "term") (i:=1) rfl rfl rfl
    rw [H]at d
    rw [← o.2]
    simp only [execs,exec,eval,Gk,Gp,Gm,R.aa,R.ab,W.cj]at d ⊢
    simp only [d,R.aa,R.aA,R.ab,W.cj]
    rfl
   ·have G:eval (k8 (m+2)) (.dG "SORTS" (.ah 0 "Reader" "take" "Reader.take" .nil)) (cC g w (some (.v (ag e))) y) (rh g N T p)= .ok (.v (.str z)) (rh g N T (p+1)):=by
     rw [eval,show(k8 (m+2)).con.lookup "SORTS" =some (.exc "" [([43],.str Qe),([45],.str Zd),([126],.str Qa),([94],.str Za),(b3,.str b3),([61],.str fm)])from rfl]
     show((eval _ _ _ _).bind _)=_
     rw [Qu rfl,C,R.aa,o.1]
    rw [exec,G];rfl
  exact⟨_,A⟩
def p6 (s:RD N "Reader.term" 1 n (m+2)):RD N "Reader.expression" 0 n (m+3):=by
 intro e B x g T p w r hd j l h
 obtain⟨f,a,d,u,rfl,rfl,t⟩:=x.chain (by decide)
 have b:T.drop p=a++(bL d++r):=by rw [hd,Ac6]
 have y:=yc (λc q=>⟨_,(t c q).1⟩) j
 have A:=s f a u g T p w _ b y l h
 have C:=Q2 (Qm b)
 rw [Gb rfl _ _ _ rfl]
 simp only [Xk]
 show Gu _ (execs _ _ (cC g w u0 u0) _)=_
 have o:=zu (m:=m+2) (N:=N) (T:=T) (p:=p) (Y:=cC g w u0 u0) (q:= "Reader.term") (k:= "term") (i:=1) rfl rfl rfl
 rw [A]at o
 rw [za (by rw [exec,o];rfl)]
 obtain⟨v,z⟩:=E4 s l h d t 100000 f u0 _ r (by have:=sX d;omega) (Qm b) j
 rw [za (Y1:=cC g w (y0 (.v (ag (du f d)))) v)]
 ·rw [qa (h1:=rh g N T (p+a.length+(bL d).length)) rfl,Ga _ _ _ (Xi ..),Aa3,Nat.add_assoc]
 ·rw [exec]
  exact z
end
abbrev n6:List (Tx×D):= [([43],.str Qe),([45],.str Zd),([126],.str Qa),([94],.str Za),(b3,.str b3),([61],.str fm)]
def XR (m):(k8 m).con.lookup "SORTS" =some (.exc "" n6):=rfl
def xj (e:Gm Y i=y0 (.v d)):eval F (.var i) Y h= .ok (.v d) h:=by
 rw [eval,Gp,e]
def ql (e:Gm Y i=y0 (.v (.str t))) (a b):Gr F (.cmp .mem (.var i) (.tup (.b (.str a) (.str b)))) Y h= .ok (u9 (t∈ [a,b])) h:=by
 rw [Gr,eval,xj e,R.aa,JM,R.aa,Qx];rfl
def oE (e:Gm Y i=y0 (.v (.str t))) (a b c):Gr F (.cmp .mem (.var i) (.tup (.c (.str a) (.str b) (.str c)))) Y h= .ok (u9 (t∈ [a,b,c])) h:=by
 rw [Gr,eval,xj e,R.aa,ED,R.aa,Qx];rfl
def fM (e:Gm Y i=y0 (.v (.str t))) (a):Gr F (.cmp .eq (.var i) (.str a)) Y h= .ok (t==a) h:=by
 rw [Gr,eval,xj e,R.aa,eval]
 simp only [R.aa,Xe,R.ab,Gn]
def r9 (c:F.con.lookup "SORTS" =some (.exc "" n6)) (e:eval F a Y h= .ok (.v (.str t)) h1) (b:(t,s)∈ [(([43]:Tx),Qe),([45],Zd),([126],Qa),([94],Za),(b3,zv),([61],Qd)]):eval F (.dG "SORTS" a) Y h= .ok (.v (.str s)) h1:=by
 rw [eval,c]
 show((eval _ _ _ _).bind _)=_
 rw [e,R.aa]
 simp only [Aa,Aa2,or_false,Prod.mk.injEq]at b
 rcases b with⟨rfl,rfl⟩ | ⟨rfl,rfl⟩ | ⟨rfl,rfl⟩ | ⟨rfl,rfl⟩ | ⟨rfl,rfl⟩ | ⟨rfl,rfl⟩<;>rfl
def aQ.not (h:aQ t):t∉ [([126]:Tx),[94]]/\(t==([40]:Tx))=y9/\t∉ [Zi,Wq,xi]:=by
 refine⟨λq=> ?_,beq_eq_false_iff_ne.mpr λq=> ?_,λq=>h.free ?_⟩
 ·simp only [Aa,Aa2,or_false]at q
  rcases q with rfl | rfl
  ·have:=h.ew 126 (by simp);omega
  ·have:=h.ew 94 (by simp);omega
 ·subst q;have:=h.ew 40 (by simp);omega
 ·simp only [Aa,Aa2,or_false]at q
  rcases q with rfl | rfl | rfl<;>decide
section
variable {N T:List Tx}{g:AH}{m n w:Nat}
abbrev iz:Ss:= .cons (.r (.cmp .mem .v2 (.tup (.b (.str [126]) (.str [94])))) (.tup (.b (.dG "SORTS" .v2) (.ah 0 "Reader" "atom" "Reader.atom" (.a (.call "one_deeper" (.a .v1))))))) (.cons (.iff (.cmp .eq .v2 (.str [40])) (.cons (.af 3 (.ah 0 "Reader" "expression" "Reader.expression" (.a (.call "one_deeper" (.a .v1))))) (.cons (.ex (.ah 0 "Reader" "take_just" "Reader.take_just" (.a (.str [41])))) (.a (.ret .v3)))) .nil) (.cons (.r (.cmp .mem .v2 (.tup (.c (.str g9) (.str gO) (.str gU)))) (.tup (.a .v2))) (.cons (.r (.cmp .mem .v2 (.fld 0 "Reader" "names")) (.tup (.b (.str hZ) .v2))) (.cons .bC .nil))))
def qp (p) (t) (a:tk T p=t)(b:execs (k8 (m+3)) iz (cC g w (y0 (.v (.str t))) u0) (rh g N T (p+1))= .ret (.v v) (rh g N T q)):
 call prog (m+4) "Reader.atom" [.v (.ref g.length),.v (.int (w:Int))] (rh g N T p)= .ok (.v v) (rh g N T q):=by
 rw [Gb rfl _ _ _ rfl]
 simp only [xv]
 rw [za (Y1:=cC g w (y0 (.v (.str t))) u0) (by rw [exec,Qu rfl,a];rfl)]
 rw [b,Ga _ _ _ (Xi ..)]
def jX (p) (t) (h1:u9 (t∈ [([126]:Tx),[94]])=y9) (a:(t==([40]:Tx))=y9) (b:t∈ [Zi,Wq,xi]):execs (k8 (m+3)) iz (cC g w (y0 (.v (.str t))) u0) (rh g N T p)= .ret (.v (.tup [.str t])) (rh g N T p):=by
 rw [xa (by rw [ql rfl,h1]),xa (by rw [fM rfl,a]),jq (by rw [oE rfl,decide_eq_true b])]
 exact Qc rfl rfl
def BN (p) (t) (d:t∈N) (h:aQ t):execs (k8 (m+3)) iz (cC g w (y0 (.v (.str t))) u0) (rh g N T p)= .ret (.v (.tup [.str wo,.str t])) (rh g N T p):=by
 obtain⟨b,a,c⟩:=h.not
 have e:Gr (k8 (m+3)) (.cmp .mem .v2 (.fld 0 "Reader" "names")) (cC g w (some (.v (.str t))) none) (rh g N T p)= .ok true (rh g N T p):=by
  rw [Gr,eval,xj rfl,R.aa,vD rfl,R.aa,Qx,decide_eq_true d];rfl
 rw [xa (by rw [ql rfl,decide_eq_false b]),xa (by rw [fM rfl,a]),xa (by rw [oE rfl,decide_eq_false c]),jq e]
 exact Qc rfl rfl
def tO (p q) (t s) (a) (d:(t,s)∈ [(([126]:Tx),Qa),([94],Za)]) (h:w<20) (e:call prog (m+3) "Reader.atom" [.v (.ref g.length),.v (.int ((w+1:Nat):Int))] (rh g N T p)= .ok (.v (ag a)) (rh g N T q)):
 execs (k8 (m+3)) iz (cC g w (y0 (.v (.str t))) u0) (rh g N T p)= .ret (.v (.tup [.str s,ag a])) (rh g N T q):=by
 have b:u9 (t∈ [[126],[94]])=k9/\(t,s)∈ [([43],Qe),([45],Zd),([126],Qa),([94],Za),(b3,zv),([61],Qd)]:=by
  simp only [Aa,Aa2,or_false,Prod.mk.injEq]at d
  rcases d with⟨rfl,rfl⟩ | ⟨rfl,rfl⟩<;>exact⟨by decide,by decide⟩
 have c:=XM (m:=m+2) (N:=N) (T:=T) (p:=p) (Y:=cC g w (y0 (.v (.str t))) u0) (q:= "Reader.atom") (k:= "atom") h rfl rfl rfl
 have c:=c.trans e
 have f:eval (k8 (m+3)) (.dG "SORTS" .v2) (cC g w (some (.v (.str t))) none) (rh g N T p)= .ok (.v (.str s)) (rh g N T p):=r9 (XR _) (xj rfl) b.2
 refine qa ?_
 rw [Wm (by rw [ql rfl,b.1])]
 refine qa (Qc rfl ?_)
 rw [eval,Gk,f]
 simp only [R.aa,W.cj,R.ab,Gk]
 rw [show eval (k8 (m+3)) (.ah 0 "Reader" "atom" "Reader.atom" (.a (.call "one_deeper" (.a .v1)))) (cC g w (some (.v (.str t))) none) (rh g N T p)= .ok (.v (ag a)) (rh g N T q)from c]
 rfl
def D6 (p q) (e) (f:w<20) (c:tk T q= [41]) (b:call prog (m+3) "Reader.expression" [.v (.ref g.length),.v (.int ((w+1:Nat):Int))] (rh g N T p)= .ok (.v (ag e)) (rh g N T q)):
 execs (k8 (m+3)) iz (cC g w (y0 (.v (.str [40]))) u0) (rh g N T p)= .ret (.v (ag e)) (rh g N T (q+1)):=by
 have a:=(XM (Y:=cC g w (y0 (.v (.str [40]))) u0) (k:= "expression") f rfl rfl rfl).trans b
 have d:=(fg (F:=(k8 (m+3))) (Y:=cC g w (y0 (.v (.str [40]))) (y0 (.v (ag e)))) (m:= "take_just") (q:= "Reader.take_just") (es:= .cons (.str [41]) .nil) rfl rfl rfl).trans (rm m g N T q [41] c)
 rw [xa (by rw [ql rfl];rfl)]
 refine qa ?_
 rw [Wm (by rw [fM rfl];rfl)]
 rw [za (Y1:=cC g w (y0 (.v (.str [40]))) (y0 (.v (ag e)))) (by rw [exec,a];rfl)]
 rw [za (by rw [exec,d];rfl)]
 exact qa rfl
def tJ (l: ∀k,n=k+1->RD N "Reader.atom" 3 k (m+3)/\RD N "Reader.expression" 0 k (m+3)):RD N "Reader.atom" 3 n (m+4):=by
 intro e b t g T p w r hd o x j
 cases t with
 | name h v=>
  obtain⟨c,d⟩:=Xb (hd)
  exact qp p _ c (BN (p+1) _ h v)
 | same=>
  obtain⟨c,d⟩:=Xb (hd)
  exact qp p _ c (jX (p+1) _ rfl rfl (by decide))
 | all=>
  obtain⟨c,d⟩:=Xb (hd)
  exact qp p _ c (jX (p+1) _ rfl rfl (by decide))
 | none=>
  obtain⟨c,d⟩:=Xb (hd)
  exact qp p _ c (jX (p+1) _ rfl rfl (by decide))
 | @turned a b n h=>
  obtain⟨c,d⟩:=Xb (show T.drop p=_::(b++r)from hd)
  have i:=(l n rfl).1 a b h g T (p+1) (w+1) r d o (by omega) j
  rw [Aa0,show p+(b.length+1)=p+1+b.length by omega]
  exact qp p _ c (tO (p+1) _ _ _ a (by decide) (by omega) i)
 | @closed a b n h=>
  obtain⟨c,d⟩:=Xb (show T.drop p=_::(b++r)from hd)
  have i:=(l n rfl).1 a b h g T (p+1) (w+1) r d o (by omega) j
  rw [Aa0,show p+(b.length+1)=p+1+b.length by omega]
  exact qp p _ c (tO (p+1) _ _ _ a (by decide) (by omega) i)
 | @par _ b n h=>
  have hd:T.drop p= [40]::(b++([41]::r)):=by rw [hd];simp
  obtain⟨c,d⟩:=Xb hd
  have u:Stop 0 ([41]::r):=by
   intro k f _ q
   have q:et k [41] f:=q
   rcases q with⟨_,⟨q,_⟩ | ⟨q,_⟩⟩ | ⟨_,q,_⟩ | ⟨_,q,_⟩<;>exact absurd q (by decide)
  have i:=(l n rfl).2 e b h g T (p+1) (w+1) _ d u (by omega) j
  have s:=(Xb (Qm d)).1
  rw [Aa0,Aa3,Ag7,show p+(b.length+1+1)=p+1+b.length+1 by omega]
  exact qp p _ c (D6 (p+1) _ e (by omega) s i)
 | up y h=>omega
end
def oq (N): ∀ n m,RD N "Reader.atom" 3 n (4*n+m+4)/\RD N "Reader.factor" 2 n (4*n+m+5)/\RD N "Reader.term" 1 n (4*n+m+6)/\RD N "Reader.expression" 0 n (4*n+m+7):=by
 intro n
 induction n with
 | zero=>
  intro m
  have a:RD N "Reader.atom" 3 0 (4*0+m+4):=tJ fun k h=>by omega
  have b:=jT a
  have c:=tT b
  exact⟨a,b,c,p6 c⟩
 | succ n d=>
  intro m
  have a:RD N "Reader.atom" 3 (n+1) (4*(n+1)+m+4):=by
   refine tJ λk h=> ?_
   obtain rfl:n=k:=by omega
   refine⟨?_,?_⟩
   ·have:=(d (m+3)).1
    rwa [show 4*n+(m+3)+4=4*(n+1)+m+3 by omega]at this
   ·have:=(d m).2.2.2
    rwa [show 4*n+m+7=4*(n+1)+m+3 by omega]at this
  have b:=jT a
  have c:=tT b
  exact⟨a,b,c,p6 c⟩
def dg (m:Nat):Tx:=(Nat.toDigits 10 m).map Char.toNat
def xx (m:Nat):aZ (m:Int)=dg m:=by
 show(Nat.repr m).toList.map Char.toNat=_
 rw [Nat.toList_repr];rfl
def iE: ∀k,k<100->1<=(dg k).length/\(dg k).length<=2/\(∀ c∈dg k,48<=c/\c<=57)/\((dg k== [48])=k9\/(u9 ((dg k).head? =y0 48))=y9)/\(Ac4 100).find? (λn=>u9 (dg n=dg k))=y0 k:=by decide +kernel
def Be (k) (a:k<100):lH (dg k)=y0 k:=by
 unfold lH
 have:(λn:Nat=>u9 (aZ n=dg k))=λn=>u9 (dg n=dg k):=by
  funext n;rw [xx]
 rw [this]
 exact(iE k a).2.2.2.2
def Co (c) (h) (a:48<=c/\c<=57):Gw .mem (.v (.str [c])) (.v (.str ef)) h=y0 true:=by
 have: ∀c,c<58->48<=c-> ef.contains c=true:=by decide
 exact congrArg y0 (this c (by omega) a.1)
def zY:prog.con.lookup "FIGURES" =some (.str ef):=rfl
def vg:prog.con.lookup "MOST_FIGURES" =some (.int 2):=rfl
def ZA (n):G9 (Aa1 n (.bl k9))=y0 (Aa1 n k9):=by
 induction n with
 | zero=>rfl
 | succ n a=>rw [Ac9,G9,a];rfl
def Cq (m k) (a:k<100) (x) (h):eval (k8 m) (.bi .all (.a Wd)) [y0 (.v (.str (dg k))),x] h= .ok (.v (.bl k9)) h:=by
 obtain⟨j,i,e,_⟩:=iE k a
 have b:eval (k8 m) Wd [y0 (.v (.str (dg k))),x] h= .ok (.own ((cQ (dg k)).map λ_=> .bl k9)) h:=by
  rw [Wd,Xm (ds:=cQ (dg k)) (λ_=> .bl k9) (by simp_all []) (by rw [Gc];simp [cQ];omega)]
  intro d hd
  obtain⟨c,g,rfl⟩:=Ad6.mp hd
  refine⟨[y0 (.v (.str [c]))],rfl,.v (.bl k9),?_,rfl⟩
  simp_all [zY,Co c h (e c g)]
 rw [eval,Gj,b]
 have f:(cQ (dg k)).map (λ_=>D.bl k9)=Aa1 (cQ (dg k)).length (.bl k9):=Ak4 ..
 simp only [f]
 show((R.of h ((W.bg h (.own _)).bind G9)).bind _)=_
 rw [show W.bg h (.own (Aa1 (cQ (dg k)).length (D.bl k9)))=y0 (Aa1 (cQ (dg k)).length (D.bl k9))from rfl,Ad5,ZA]
 have: ∀n,(Aa1 n k9).all id=true:=by intro n;simp
 simp [this,aF]
def EF (m k) (c:k<100) (h):call prog (m+1) "is_written" [.v (.str (dg k)),.v (.int 2)] h= .ok (.v (.bl true)) h:=by
 obtain⟨s,r,t,a,_⟩:=iE k c
 rw [Gb rfl _ _ _ rfl]
 simp only [qz]
 show Gu _ (execs _ _ [y0 (.v (.str (dg k))),y0 (.v (.int 2))] h)=_
 have e:Gw .le (.v (.int 1)) (.v (.int ((dg k).length))) h=y0 true:=by
  show y0 (decide _)=_
  congr 1;exact decide_eq_true (by omega)
 have g:Gw .le (.v (.int ((dg k).length))) (.v (.int 2)) h=y0 true:=by
  show y0 (decide _)=_
  congr 1;exact decide_eq_true (by omega)
 have j:cU .len [.v (.str (dg k))] h= .ok (.v (.int ((dg k).length))) h:=by
  show(if _ then _ else _)=_
  rw [if_pos (by rw [Gc];omega)]
 have p:Gr (k8 m) (.or (.not (.chain .le .le (.int 1) (.bi .len (.a .v0)) .v1)) (.not (.bi .all (.a Wd)))) [y0 (.v (.str (dg k))),y0 (.v (.int 2))] h= .ok y9 h:=by
  have l:=Cq m k c (y0 (.v (.int 2))) h
  have d:eval (k8 m) (.chain .le .le (.int 1) (.bi .len (.a .v0)) .v1) [y0 (.v (.str (dg k))),y0 (.v (.int 2))] h= .ok (.v (.bl k9)) h:=by
   simp_all [j,e,g]
  have f:eval (k8 m) (.not (.bi .all (.a Wd))) [y0 (.v (.str (dg k))),y0 (.v (.int 2))] h= .ok (.v (.bl y9)) h:=by
   rw [eval,l];rfl
  have n:eval (k8 m) (.not (.chain .le .le (.int 1) (.bi .len (.a .v0)) .v1)) [y0 (.v (.str (dg k))),y0 (.v (.int 2))] h= .ok (.v (.bl y9)) h:=by
   rw [eval,d];rfl
  rw [Gr,eval,n]
  simp only [R.aa,Gn,R.ab,f]
 rw [xa p]
 rw [qa,Ga _ _ _ rfl]
 refine Qc rfl ?_
 have o:eval (k8 m) (.cE .starts .v0 (.a (.str [48]))) [y0 (.v (.str (dg k))),y0 (.v (.int 2))] h= .ok (.v (.bl (u9 ((dg k).head? =y0 48)))) h:=by
  simp_all [uh,if_true,ly,GQ]
  rfl
 have b:Gw .eq (.v (.str (dg k))) (.v (.str [48])) h=y0 (dg k== [48]):=Xe _ _ h
 have i:eval (k8 m) (.cmp .eq .v0 (.str [48])) [y0 (.v (.str (dg k))),y0 (.v (.int 2))] h= .ok (.v (.bl (dg k== [48]))) h:=by
  simp_all [b]
 rw [eval,i]
 simp only [R.aa,Gn,R.ab]
 rcases a with a | a
 ·rw [a]
 ·cases q:(dg k== [48])with
  | true=>rfl
  | false=>
   show eval _ (.not _) _ _=_
   rw [eval,o,a];rfl
def D1 (m k) (a:k<100) (g) (N T) (p) (b:tk T p=dg k):call prog (m+3) "Reader.limit" [.v (.ref g.length)] (rh g N T p)= .ok (.v (.int (k:Int))) (rh g N T (p+1)):=by
 rw [Gb rfl _ _ _ rfl]
 simp only [jt]
 rw [za (Y1:= [y0 (.v (.ref g.length)),y0 (.v (.str (dg k)))]) (by rw [exec,Qu rfl,b];rfl)]
 rw [xa]
 ·rw [qa,Ga _ _ _ (Xi ..)]
  refine Qc rfl ?_
  simp_all [Fv,Be k a,aF]
 ·have c:eval (k8 (m+2)) (.call "is_written" (.b .v1 (.con "MOST_FIGURES"))) [some (.v (.ref g.length)),some (.v (.str (dg k)))] (rh g N T (p+1))= .ok (.v (.bl true)) (rh g N T (p+1)):=by
   simp_all [vg,EF (m+1) k a]
  rw [Gr,eval,c]
  rfl
abbrev Ze:Tx:= [101,97,99,104]
abbrev rn:List Tx:= [xf,XH,zb,Wb,Ze,qj,[91]]
def uI (h:aQ t):t∉rn:=λq=>by
 simp only [Aa,Aa2,or_false]at q
 rcases q with rfl | rfl | rfl | rfl | rfl | rfl | rfl
 ·exact h.free (by decide)
 ·exact h.free (by decide)
 ·exact h.free (by decide)
 ·exact h.free (by decide)
 ·exact h.free (by decide)
 ·exact h.free (by decide)
 ·have:=h.ew 91 (by simp);omega
def TE.head (h:TE N l e ts n): ∃x r,ts=x::r/\x∉rn:=by
 induction h with
 | name h g=>exact⟨_,_,rfl,uI g⟩
 | same=>exact⟨_,_,rfl,by decide⟩
 | all=>exact⟨_,_,rfl,by decide⟩
 | none=>exact⟨_,_,rfl,by decide⟩
 | turned _ a=>exact⟨_,_,rfl,by decide⟩
 | closed _ a=>exact⟨_,_,rfl,by decide⟩
 | par _ a=>exact⟨_,_,rfl,by decide⟩
 | up c _ a=>exact a
 | plus _ _ a _=>obtain⟨x,r,rfl,b⟩:=a;exact⟨x,_,rfl,b⟩
 | less _ _ a _=>obtain⟨x,r,rfl,b⟩:=a;exact⟨x,_,rfl,b⟩
 | both _ _ a _=>obtain⟨x,r,rfl,b⟩:=a;exact⟨x,_,rfl,b⟩
 | joined _ _ a _=>obtain⟨x,r,rfl,b⟩:=a;exact⟨x,_,rfl,b⟩
inductive TF (N:List Tx):Fc->List Tx->Nat->Prop
 | cT {a b:Ex}{ts us:List Tx}{n:Nat}(h:TE N 0 a ts n) (k:TE N 0 b us n):TF N (.cT a b) (ts++zv::us) n
 | cV {a b:Ex}{ts us:List Tx}{n:Nat}(h:TE N 0 a ts n) (k:TE N 0 b us n):TF N (.cV a b) (ts++ [61]::us) n
 | cO {a:Ex}{ts:List Tx}{n:Nat}(h:TE N 0 a ts n):TF N (.cO a) (xf::ts) n
 | az {a:Ex}{ts:List Tx}{n:Nat}(h:TE N 0 a ts n):TF N (.az a) (XH::ts) n
 | one {s:Tx}{k:Nat}{a:Ex}{ts:List Tx}{n:Nat}(hs:s∈ [zb,Wb]) (hk:k<100) (h:TE N 0 a ts n):TF N (.cnt s k a) (s::dg k::ts) n
 | two {s:Tx}{k:Nat}{a:Ex}{ts:List Tx}{n:Nat}(hs:s∈ [zb,Wb]) (hk:k<100) (h:TE N 0 a ts n):TF N (.cnt (Ze++s) k a) (Ze::s::dg k::ts) n
def F9 (t) (ts) (h):Gw .cH (.v (.str t)) (.v (ba ts)) h=y0 (!u9 (t∈ts)):=by
 show(GU _ _ _).map _=_
 rw [show GU (.v (.str t)) (.v (ba ts)) h=y0 (decide _)from Qx t ts h];rfl
def pX (e:Gm Y i=y0 (.v (.str t))) (a b):Gr F (.cmp .cH (.var i) (.tup (.b (.str a) (.str b)))) Y h= .ok (!u9 (t∈ [a,b])) h:=by
 rw [Gr,eval,xj e,R.aa,JM,R.aa,F9];rfl
section
variable {N T:List Tx}{g:AH}{m n w:Nat}{r:List Tx}
def XL (a:RD N "Reader.expression" 0 n M)(c:TE N 0 e ts n)(hd:T.drop p=ts++r) (st:Stop 0 r) (f:w+n<=20) (b:T.length<=90000)(d:Gm Y 0=some (.v (.ref g.length))) (h1:Gm Y i=some (.v (.int (w:Int)))):
 eval (k8 M) (.ah 0 "Reader" "expression" "Reader.expression" (.a (.var i))) Y (rh g N T p)= .ok (.v (ag e)) (rh g N T (p+ts.length)):=
 (zu d h1 rfl).trans (a e ts c g T p w r hd st f b)
def yW (x) (a:x∈ [zv,[61]]) (us):Stop 0 (x::us):=by
 intro k f _ q
 have q:et k x f:=q
 simp only [Aa,Aa2,or_false]at a
 rcases a with rfl | rfl<;>rcases q with⟨_,⟨q,_⟩ | ⟨q,_⟩⟩ | ⟨_,q,_⟩ | ⟨_,q,_⟩<;>exact absurd q (by decide)
def FV (d:RD N "Reader.expression" 0 n (m+3))(h:TE N 0 a ts n) (j:TE N 0 b us n)(c:(x,s)∈ [(zv,zv),(([61]:Tx),Qd)])(hd:T.drop p=ts++(x::(us++r))) (st:Stop 0 r) (f:w+n<=20) (e:T.length<=90000):
 call prog (m+4) "Reader.pair_fact" [.v (.ref g.length),.v (.int (w:Int))] (rh g N T p)= .ok (.v (.tup [.str s,ag a,ag b])) (rh g N T (p+ts.length+1+us.length)):=by
 obtain⟨k,q,i⟩:x∈ [zv,[61]]/\u9 (x∈ [zv,[61]])=k9/\(x,s)∈ [([43],Qe),([45],Zd),([126],Qa),([94],Za),(b3,zv),([61],Qd)]:=by
  simp only [Aa,Aa2,or_false,Prod.mk.injEq]at c
  rcases c with⟨rfl,rfl⟩ | ⟨rfl,rfl⟩<;>exact⟨by decide,by decide,by decide⟩
 obtain⟨l,o⟩:=Xb (Qm hd)
 rw [Gb rfl _ _ _ rfl]
 simp only [xm]
 show Gu _ (execs _ _ (cC g w u0 u0) _)=_
 rw [za (by rw [exec,XL d h hd (yW x k _) f e rfl rfl];rfl)]
 rw [za (by rw [exec,Qu rfl,l];rfl)]
 rw [xa (by rw [pX rfl,q];rfl)]
 rw [qa,Ga _ _ _ (Xi ..)]
 refine Qc rfl ?_
 rw [eval,Gk,r9 (XR _) (xj rfl) i]
 simp only [R.aa,W.cj,R.ab,Gk]
 rw [xj rfl]
 simp only [R.aa,W.cj,R.ab]
 rw [XL d j o st f e rfl rfl]
 rfl
def oe (s:RD N "Reader.expression" 0 n (m+3))(u:TE N 0 a ts n)(v:k<100) (b:x∈ [zb,Wb]) (z:y.length<=10)(hd:T.drop p=x::dg k::(ts++r)) (st:Stop 0 r) (j:w+n<=20) (e:T.length<=90000):
 call prog (m+4) "Reader.count_fact" [.v (.ref g.length),.v (.str y),.v (.int (w:Int))] (rh g N T p)= .ok (.v (.tup [.str (y++x),.int (k:Int),ag a])) (rh g N T (p+2+ts.length)):=by
 have h:x.length<=10/\u9 (x∈ [zb,Wb])=true:=by
  simp only [Aa,Aa2,or_false]at b
  rcases b with rfl | rfl<;>exact⟨by decide,by decide⟩
 obtain⟨i,t⟩:=Xb hd
 obtain⟨c,l⟩:=Xb t
 rw [Gb rfl _ _ _ rfl]
 simp only [qk]
 show Gu _ (execs _ _ [y0 (.v (.ref g.length)),y0 (.v (.str y)),y0 (.v (.int (w:Int))),u0,u0] _)=_
 rw [za (Y1:= [y0 (.v (.ref g.length)),y0 (.v (.str y)),y0 (.v (.int (w:Int))),y0 (.v (.str x)),u0]) (by rw [exec,Qu rfl,i];rfl)]
 rw [xa (by rw [pX rfl,h.2];rfl)]
 have o:=(fg (F:=(k8 (m+3))) (g:=g) (N:=N) (T:=T) (p:=p+1) (Y:= [y0 (.v (.ref g.length)),y0 (.v (.str y)),y0 (.v (.int (w:Int))),y0 (.v (.str x)),u0]) (m:= "limit") (q:= "Reader.limit") (es:= .nil) (ws:= []) rfl rfl rfl).trans (D1 m k v g N T (p+1) c)
 rw [za (Y1:= [y0 (.v (.ref g.length)),y0 (.v (.str y)),y0 (.v (.int (w:Int))),y0 (.v (.str x)),y0 (.v (.int (k:Int)))]) (h1:=rh g N T (p+2)) (by rw [exec,o];rfl)]
 rw [qa (w:= .v (.tup [.str (y++x),.int (k:Int),ag a])) (h1:=rh g N T (p+2+ts.length)),Ga _ _ _ (Xi ..)]
 refine Qc rfl ?_
 have f:eval (k8 (m+3)) (.bin .add .v1 .v3) [y0 (.v (.ref g.length)),y0 (.v (.str y)),y0 (.v (.int (w:Int))),y0 (.v (.str x)),y0 (.v (.int (k:Int)))] (rh g N T (p+2))= .ok (.v (.str (y++x))) (rh g N T (p+2)):=by
  simp_all [Qb]
  rw [if_pos (by rw [Gc];omega)]
 rw [eval,Gk,f]
 simp only [R.aa,W.cj,R.ab,Gk]
 rw [xj (d:= .int (k:Int)) rfl]
 simp only [R.aa,W.cj,R.ab]
 rw [XL s u l st j e rfl rfl]
 rfl
def RF (N:List Tx) (n m:Nat):Prop:= ∀(f:Fc) (ts:List Tx),TF N f ts n-> ∀(g:AH) (T:List Tx) (p w:Nat) (r:List Tx),T.drop p=ts++r->Stop 0 r->w+n<=20->T.length<=90000 →
 call prog m "Reader.fact" [.v (.ref g.length),.v (.int (w:Int))] (rh g N T p)= .ok (.v (aO f)) (rh g N T (p+ts.length))
noncomputable abbrev EU:Ss:= .cons (.iff (.cmp .mem .v2 (.tup (.b (.str eF) (.str eJ)))) (.cons (.ex (.ah 0 "Reader" "take" "Reader.take" .nil)) (.a (.ret (.tup (.b .v2 (.ah 0 "Reader" "expression" "Reader.expression" (.a .v1))))))) .nil) (.cons (.r (.cmp .mem .v2 (.tup (.b (.str el) (.str eB)))) (.ah 0 "Reader" "count_fact" "Reader.count_fact" (.b (.str []) .v1))) (.cons (.iff (.cmp .eq .v2 (.str gz)) (.cons (.ex (.ah 0 "Reader" "take" "Reader.take" .nil)) (.a (.ret (.ah 0 "Reader" "count_fact" "Reader.count_fact" (.b (.str gz) .v1))))) .nil) (.a (.ret (.ah 0 "Reader" "pair_fact" "Reader.pair_fact" (.a .v1))))))
def qA (p) (t) (a:tk T p=t)(b:execs (k8 (m+4)) EU (rs g w (y0 (.v (.str t)))) (rh g N T p)= .ret (.v v) (rh g N T q)):
 call prog (m+5) "Reader.fact" [.v (.ref g.length),.v (.int (w:Int))] (rh g N T p)= .ok (.v v) (rh g N T q):=by
 rw [Gb rfl _ _ _ rfl]
 simp only [Jv]
 rw [za (Y1:=rs g w (y0 (.v (.str t)))) (by rw [exec,ZY rfl,a];rfl)]
 rw [b,Ga _ _ _ (Xi ..)]
def hU (a:GE e=u0) (q:eval F e Y h= .ok (.v d) h1) (ss):execs F (.cons (.ret e) ss) Y h= .ret (.v d) h1:=qa (Qc a q)
def vK (C:RD N "Reader.expression" 0 n (m+3)) (I:RD N "Reader.expression" 0 n (m+4)):RF N n (m+5):=by
 intro f c G g T p w r hd u v t
 have i: ∀ {a b}{c h}{x s},TE N 0 a c n->TE N 0 b h n->(x,s)∈ [(zv,zv),(([61]:Tx),Qd)]->T.drop p=(c++x::h)++r->call prog (m+5) "Reader.fact" [.v (.ref g.length),.v (.int (w:Int))] (rh g N T p)= .ok (.v (.tup [.str s,ag a,ag b])) (rh g N T (p+(c++x::h).length)):=by
  intro a b c h x s d o A hd
  have hd:T.drop p=c++(x::(h++r)):=by rw [hd];simp
  obtain⟨z,q,rfl,E⟩:=d.head
  have e:=FV (g:=g) C d o A hd u v t
  obtain⟨j,_⟩:=Xb (show T.drop p=z::(q++(x::(h++r)))from hd)
  have B:u9 (z∈ [xf,XH])=false:=decide_eq_false λq=>E (by simp only [Aa,Aa2,or_false]at q ⊢;rcases q with q | q<;>simp [q])
  have J:u9 (z∈ [zb,Wb])=false:=decide_eq_false λq=>E (by simp only [Aa,Aa2,or_false]at q ⊢;rcases q with q | q<;>simp [q])
  have H:(z==Ze)=false:=beq_eq_false_iff_ne.mpr λq=>E (by rw [q];decide)
  refine qA p z j ?_
  rw [xa (by rw [ql rfl,B]),xa (by rw [ql rfl,J]),xa (by rw [fM rfl,H])]
  refine hU rfl ((zu rfl rfl rfl).trans (e.trans ?_)) _
  exact congrArg (λk=>R.ok (W.v (.tup [.str s,ag a,ag b])) (rh g N T k)) (show p+(z::q).length+1+h.length=p+((z::q)++x::h).length by simp only [Aa3,Aa0];omega)
 have word: ∀ {a}{c}{x},TE N 0 a c n->x∈ [xf,XH]->T.drop p=x::(c++r)->call prog (m+5) "Reader.fact" [.v (.ref g.length),.v (.int (w:Int))] (rh g N T p)= .ok (.v (.tup [.str x,ag a])) (rh g N T (p+(c.length+1))):=by
  intro a c x d A hd
  obtain⟨j,D⟩:=Xb hd
  refine qA p x j ?_
  refine qa ?_
  rw [Wm (by rw [ql rfl,decide_eq_true A]),za (QG rfl)]
  refine hU rfl ?_ _
  rw [eval,Gk,xj rfl]
  simp only [R.aa,W.cj,R.ab,Gk]
  rw [XL I d D u v t rfl rfl,show p+1+c.length=p+(c.length+1)by omega]
  rfl
 cases G with
 | cT d o=>exact i d o (by decide) hd
 | cV d o=>exact i d o (by decide) hd
 | cO d=>exact word d (by decide) hd
 | az d=>exact word d (by decide) hd
 | @one s k a c _ l F d=>
  obtain⟨j,_⟩:=Xb (show T.drop p=s::(dg k::(c++r))from hd)
  have e:=oe (g:=g) (y:= []) C d F l (by decide) (show T.drop p=s::dg k::(c++r)from hd) u v t
  refine qA p s j ?_
  have B:u9 (s∈ [xf,XH])=false:=by
   simp only [Aa,Aa2,or_false]at l
   rcases l with rfl | rfl<;>decide
  rw [xa (by rw [ql rfl,B])]
  refine qa ?_
  rw [Wm (by rw [ql rfl,decide_eq_true l])]
  refine hU rfl ((fg rfl rfl rfl).trans (e.trans ?_)) _
  rw [Aa0,Aa0,show p+2+c.length=p+(c.length+1+1)by omega]
  rfl
 | @two s k a c _ l F d=>
  obtain⟨j,D⟩:=Xb (show T.drop p=Ze::(s::dg k::(c++r))from hd)
  have e:=oe (g:=g) (y:=Ze) C d F l (by decide) D u v t
  refine qA p Ze j ?_
  rw [xa (by rw [ql rfl];rfl),xa (by rw [ql rfl];rfl)]
  refine qa ?_
  rw [Wm (by rw [fM rfl];rfl),za (QG (m:=m+2) rfl)]
  refine hU rfl ((fg (ws:= [.v (.str Ze),.v (.int (w:Int))]) rfl rfl rfl).trans (e.trans ?_)) _
  rw [Aa0,Aa0,Aa0,show p+1+2+c.length=p+(c.length+1+1+1)by omega]
  rfl
end
inductive TS (N:List Tx):Nat->Sy->List Tx->Nat->Prop
 | fact {f:Fc}{ts:List Tx}{n:Nat}(h:TF N f ts n):TS N 2 (.fact f) ts n
 | neg {a:Sy}{ts:List Tx}{n:Nat}(h:TS N 2 a ts n):TS N 2 (.neg a) (qj::ts) (n+1)
 | par {s:Sy}{ts:List Tx}{n:Nat}(h:TS N 0 s ts n):TS N 2 s ([91]::(ts++ [[93]])) (n+1)
 | up {l:Nat}{s:Sy}{ts:List Tx}{n:Nat}(hl:l<2) (h:TS N (l+1) s ts n):TS N l s ts n
 | bj {a b:Sy}{ts us:List Tx}{n:Nat}(h:TS N 1 a ts n) (k:TS N 2 b us n):TS N 1 (.bj a b) (ts++Zg::us) n
 | bh {a b:Sy}{ts us:List Tx}{n:Nat}(h:TS N 0 a ts n) (k:TS N 1 b us n):TS N 0 (.bh a b) (ts++Ju::us) n
theorem TF.wk (h:TF N f ts n) (c:n<=m):TF N f ts m:=by
 cases h with
 | cT a b=>exact .cT (a.wk c) (b.wk c)
 | cV a b=>exact .cV (a.wk c) (b.wk c)
 | cO a=>exact .cO (a.wk c)
 | az a=>exact .az (a.wk c)
 | one e d a=>exact .one e d (a.wk c)
 | two e d a=>exact .two e d (a.wk c)
theorem TS.wk (h:TS N l e ts n) (a:n<=m):TS N l e ts m:=by
 induction h generalizing m with
 | fact h=>exact .fact (h.wk a)
 | neg _ b=>obtain⟨k,rfl⟩: ∃k,m=k+1:=⟨m-1,by omega⟩;exact .neg (b (by omega))
 | par _ b=>obtain⟨k,rfl⟩: ∃k,m=k+1:=⟨m-1,by omega⟩;exact .par (b (by omega))
 | up c _ b=>exact .up c (b a)
 | bj _ _ i1 i2=>exact .bj (i1 a) (i2 a)
 | bh _ _ i1 i2=>exact .bh (i1 a) (i2 a)
theorem TF.head (h:TF N f ts n): ∃x r,ts=x::r/\x∉ [qj,[91]]:=by
 have ex: ∀ {a}{ts d},TE N 0 a ts n-> ∃x r,ts++d=x::r/\x∉ [qj,[91]]:=λ{a ts d} h=>by
  obtain⟨x,r,rfl,g⟩:=h.head
  exact⟨x,_,rfl,λq=>g (by simp only [Aa,Aa2,or_false]at q ⊢;rcases q with q | q<;>simp [q])⟩
 cases h with
 | cT a b=>exact ex a
 | cV a b=>exact ex a
 | cO a=>exact⟨_,_,rfl,by decide⟩
 | az a=>exact⟨_,_,rfl,by decide⟩
 | one c e a=>
  refine⟨_,_,rfl,?_⟩
  simp only [Aa,Aa2,or_false]at c
  rcases c with rfl | rfl<;>decide
 | two c e a=>exact⟨_,_,rfl,by decide⟩
def bp (l:Nat) (r:List Tx):Prop:=Stop 0 r/\(l<=1->r.headD []≠Zg)/\(l=0->r.headD []≠Ju)
def wC (x) (a:x∈ [Zg,Ju,[93]]) (us):Stop 0 (x::us):=by
 intro k f _ q
 have q:et k x f:=q
 simp only [Aa,Aa2,or_false]at a
 rcases a with rfl | rfl | rfl<;>rcases q with⟨_,⟨q,_⟩ | ⟨q,_⟩⟩ | ⟨_,q,_⟩ | ⟨_,q,_⟩<;>exact absurd q (by decide)
def bp.up (h:bp l r) (a:l<=k):bp k r:=⟨h.1,λq=>h.2.1 (by omega),λq=>h.2.2 (by omega)⟩
def bp.and (us):bp 2 (Zg::us):=⟨wC _ (by decide) us,λq=>by omega,λq=>by omega⟩
def bp.or (us):bp 1 (Ju::us):=⟨wC _ (by decide) us,λ_=>show Ju≠Zg by decide,λq=>by omega⟩
def bp.par (us):bp 0 ([93]::us):=⟨wC _ (by decide) us,λ_=>show [93]≠Zg by decide,λ_=>show [93]≠Ju by decide⟩
def bp.nil (l):bp l []:=⟨λk f _ q=>by
 have q:=q
 rcases q with⟨_,⟨q,_⟩ | ⟨q,_⟩⟩ | ⟨_,q,_⟩ | ⟨_,q,_⟩<;>exact absurd q (by decide),λ_=>show []≠Zg by decide,λ_=>show []≠Ju by decide⟩
def iM:Nat->Tx:=λl=>if l=0 then Ju else Zg
def iN:Nat->Sy->Sy->Sy:=λl=>if l=0 then .bh else .bj
def TS.chain (h:TS N l e ts n):l<2-> ∃J i q,TS N (l+1) J i n/\ts=i++bL q/\e=du J q/\ ∀c∈q,(c.1=iM l/\c.2.1=iN l)/\TS N (l+1) c.2.2.1 c.2.2.2 n:=by
 have snoc: ∀ {l}{a b}{ts g}{n},(∃ J i q,TS N (l+1) J i n/\ts=i++bL q/\a=du J q/\ ∀c∈q,(c.1=iM l/\c.2.1=iN l)/\TS N (l+1) c.2.2.1 c.2.2.2 n)->TS N (l+1) b g n →
  ∃J i q,TS N (l+1) J i n/\ts++iM l::g=i++bL q/\iN l a b=du J q/\ ∀c∈q,(c.1=iM l/\c.2.1=iN l)/\TS N (l+1) c.2.2.1 c.2.2.2 n:=by
  rintro l a b ts g n ⟨J,i,q,p,rfl,rfl,o⟩ m
  refine⟨J,i,q++ [(iM l,iN l,b,g)],p,?_,?_,λc d=> ?_⟩
  ·rw [pJ];simp [bL]
  ·rw [r6];rfl
  ·rcases Ac8.mp d with d | d
   ·exact o c d
   ·rw [Ab8.mp d];exact⟨⟨rfl,rfl⟩,m⟩
 induction h with
 | fact h=>intro j;omega
 | neg _ f=>intro j;omega
 | par _ f=>intro j;omega
 | up j h f=>intro _;exact⟨_,_,[],h,by simp [bL],rfl,λc d=>by cases d⟩
 | bj _ k f _=>intro _;exact snoc (f (by omega)) k
 | bh _ k f _=>intro _;exact snoc (f (by omega)) k
def RS (N:List Tx) (k:String) (l n m:Nat):Prop:= ∀(e:Sy) (ts:List Tx),TS N l e ts n-> ∀(g:AH) (T:List Tx) (p w:Nat) (r:List Tx),T.drop p=ts++r->bp l r->w+n<=20->T.length<=90000 →
 call prog m k [.v (.ref g.length),.v (.int (w:Int))] (rh g N T p)= .ok (.v (ai e)) (rh g N T (p+ts.length))
section
variable {N T:List Tx}{g:AH}{m n w:Nat}
def sj (j:RS N "Reader.unit" 2 n (m+2)):RS N "Reader.part" 1 n (m+3):=by
 intro e q f g T p w r hd a h c
 obtain⟨u,d,t,l,rfl,rfl,k⟩:=f.chain (by decide)
 exact kY (F:= .bj) rfl (λ_=>rfl) (λ_ _=>rfl) (λb o i p r hd a=>j b o i g T p w r hd a h c) (λr a=>a.2.1 (by decide)) (λr s=>s.up (by decide)) (λr=>bp.and r) c l k hd a
def XU (j:RS N "Reader.part" 1 n (m+2)):RS N "Reader.saying" 0 n (m+3):=by
 intro e q f g T p w r hd a h c
 obtain⟨u,d,t,l,rfl,rfl,k⟩:=f.chain (by decide)
 exact kY (F:= .bh) rfl (λ_=>rfl) (λ_ _=>rfl) (λb o i p r hd a=>j b o i g T p w r hd a h c) (λr a=>a.2.2 rfl) (λr s=>s.up (by decide)) (λr=>bp.or r) c l k hd a
def rP (A:RF N n (m+4)) (t: ∀k,n=k+1->RS N "Reader.unit" 2 k (m+4)/\RS N "Reader.saying" 0 k (m+4)):RS N "Reader.unit" 2 n (m+5):=by
 intro e b v g T p w r hd o B j
 rw [Gb rfl _ _ _ rfl]
 simp only [Qv]
 show Gu _ (execs _ _ (rs g w u0) _)=_
 cases v with
 | @fact f b _ h=>
  obtain⟨x,q,rfl,s⟩:=h.head
  obtain⟨c,_⟩:=Xb (show T.drop p=x::(q++r)from hd)
  have z:(x==qj)=false:=beq_eq_false_iff_ne.mpr λq=>s (by simp [q])
  have C:(x==([91]:Tx))=false:=beq_eq_false_iff_ne.mpr λq=>s (by simp [q])
  have d:=A f _ h g T p w r hd o.1 B j
  rw [xa (by rw [XG qj rfl,c,z]),xa (by rw [XG [91] rfl,c,C])]
  rw [hU rfl ((zu rfl rfl rfl).trans d),Ga _ _ _ (Xi ..)]
  rfl
 | @neg a b n h=>
  obtain⟨c,i⟩:=Xb (show T.drop p=_::(b++r)from hd)
  have d:=(t n rfl).1 a b h g T (p+1) (w+1) r i o (by omega) j
  have l:=(XM (Y:=rs g w u0) (k:= "unit") (show w<20 by omega) rfl rfl rfl).trans d
  rw [qa,Ga _ _ _ (Xi ..),Aa0,show p+(b.length+1)=p+1+b.length by omega]
  rw [Wm (by rw [XG qj rfl,c];rfl),za (QG rfl)]
  refine hU rfl ?_ _
  rw [eval,Gk,eval]
  simp only [aF,R.aa,W.cj,R.ab,Gk]
  rw [show eval (k8 (m+4)) (.ah 0 "Reader" "unit" "Reader.unit" (.a (.call "one_deeper" (.a .v1)))) (rs g w none) (rh g N T (p+1))= .ok (.v (ai a)) (rh g N T (p+1+b.length))from l]
  rfl
 | @par _ b n h=>
  have hd:T.drop p= [91]::(b++([93]::r)):=by rw [hd];simp
  obtain⟨c,i⟩:=Xb hd
  have d:=(t n rfl).2 e b h g T (p+1) (w+1) _ i (bp.par r) (by omega) j
  have u:=(Xb (Qm i)).1
  have l:=(XM (Y:=rs g w u0) (q:= "Reader.saying") (k:= "saying") (show w<20 by omega) rfl rfl rfl).trans d
  have y:=(fg (F:=(k8 (m+4))) (g:=g) (N:=N) (T:=T) (p:=p+1+b.length) (Y:=rs g w (y0 (.v (ai e)))) (m:= "take_just") (q:= "Reader.take_just") (es:= .cons (.str [93]) .nil) (ws:= [.v (.str [93])]) rfl rfl rfl).trans (rm (m+1) g N T _ [93] u)
  rw [xa (by rw [XG qj rfl,c];rfl)]
  rw [qa (w:= .v (ai e)) (h1:=rh g N T (p+1+b.length+1)),Ga _ _ _ (Xi ..),Aa0,Aa3,Ag7,show p+(b.length+1+1)=p+1+b.length+1 by omega]
  rw [Wm (by rw [XG [91] rfl,c];rfl),za (QG (m:=m+2) rfl)]
  rw [za (Y1:=rs g w (y0 (.v (ai e)))) (h1:=rh g N T (p+1+b.length)) (by rw [exec,l];rfl)]
  rw [za (Y1:=rs g w (y0 (.v (ai e)))) (h1:=rh g N T (p+1+b.length+1)) (by rw [exec,y];rfl)]
  exact qa rfl
 | up D h=>omega
end
def BY (N): ∀ n m,RS N "Reader.unit" 2 n (4*n+m+11)/\RS N "Reader.part" 1 n (4*n+m+12)/\RS N "Reader.saying" 0 n (4*n+m+13):=by
 have c:=λn m=>vK (by have:=(oq N n (m+1)).2.2.2;exact this) (by have:=(oq N n (m+2)).2.2.2;exact this)
 intro n
 induction n with
 | zero=>
  intro m
  have a:=rP (c 0 m) λk h=>by omega
  have b:=sj a
  exact⟨a,b,XU b⟩
 | succ n d=>
  intro m
  have a:=by
   refine rP (c (n+1) m) λk h=> ?_
   obtain rfl:n=k:=by omega
   refine⟨?_,?_⟩
   ·have:=(d (m+3)).1
    rwa [show 4*n+(m+3)+11=4*(n+1)+m+6+4 by omega]at this
   ·have:=(d (m+1)).2.2
    rwa [show 4*n+(m+1)+13=4*(n+1)+m+6+4 by omega]at this
  have b:=sj a
  exact⟨a,b,XU b⟩
abbrev jl:Tx:= [108,101,116,116,101,114]
abbrev wx:Tx:= [102,105,103,117,114,101]
abbrev Qp:Tx:= [115,105,110,103,108,101]
abbrev Zj:Tx:= [98,108,97,110,107]
abbrev fe:Tx:= ef
abbrev m9:Tx:= pK
noncomputable def a8 (c:Nat):Tx:=if bB.contains c=k9 then jl else if fe.contains c=k9 then wx else if m9.contains c=k9 then Qp else Zj
def ic (c:Nat):Prop:=a8 c≠Zj\/c=32
def J3 (c) (t) (h):Gw .mem (.v (.str [c])) (.v (.str t)) h=y0 (t.contains c):=rfl
def rz:prog.con.lookup "LETTERS" =some (.str bB):=rfl
def sG:prog.con.lookup "SINGLE_SIGNS" =some (.str m9):=rfl
def hI (a:F.con.lookup x=y0 (.str t)) (e:Gm Y 0=y0 (.v (.str [c]))):Gr F (.cmp .mem .v0 (.con x)) Y h= .ok (t.contains c) h:=by
 rw [Gr,eval,xj e,R.aa,eval,a]
 simp only [R.aa,J3,R.ab,Gn]
def B7 (m c) (h) (f:ic c):call prog (m+1) "sort_of_sign" [.v (.str [c])] h= .ok (.v (.str (a8 c))) h:=by
 rw [Gb rfl _ _ _ rfl]
 simp only [xt]
 unfold a8
 by_cases b:bB.contains c=k9
 ·rw [if_pos b,jq (by rw [hI rz rfl,b]) (Qc rfl rfl),Ga _ _ _ rfl]
 ·rw [if_neg b,xa (by rw [hI rz rfl,eq_false_of_ne_true b])]
  by_cases a:fe.contains c=k9
  ·rw [if_pos a,jq (by rw [hI zY rfl,a]) (Qc rfl rfl),Ga _ _ _ rfl]
  ·rw [if_neg a,xa (by rw [hI zY rfl,eq_false_of_ne_true a])]
   by_cases d:m9.contains c=k9
   ·rw [if_pos d,jq (by rw [hI sG rfl,d]) (Qc rfl rfl),Ga _ _ _ rfl]
   ·rw [if_neg d,xa (by rw [hI sG rfl,eq_false_of_ne_true d])]
    have e:c=32:=by
     rcases f with z | z
     ·unfold a8 at z;rw [if_neg b,if_neg a,if_neg d]at z;exact absurd rfl z
     ·exact z
    subst e
    rw [jq (by rw [fM rfl];rfl) (Qc rfl rfl),Ga _ _ _ rfl]
def gA (a:Tx) (c:Nat):Prop:=a8 c=a/\(a8 c=jl\/a8 c=wx)
instance (a:Tx) (c:Nat):Decidable (gA a c):=inferInstanceAs (Decidable (_/\_))
def cM (x:List Tx×Tx) (c:Nat):List Tx×Tx:=
 if gA x.2 c then(x.1.dropLast++ [x.1.getLastD []++ [c]],a8 c)else if a8 c≠Zj then(x.1++ [[c]],a8 c)else(x.1,a8 c)
abbrev dw (t:Tx) (S:List Tx) (a:Tx) (x y:Option W):Sl:= [y0 (.v (.str t)),y0 (.own (S.map .str)),y0 (.v (.str a)),x,y]
def k4 (S:List Tx) (a:Tx) (n:Nat):Prop:=(a=jl\/a=wx->S≠ [])/\S.length<=n/\ ∀x∈S,x.length<=n
def yJ {S:List Tx}(h:k4 S a n):k4 (cM (S,a) c).1 (cM (S,a) c).2 (n+1):=by
 unfold cM
 split
 ·rename_i q
  have q:gA a c:=q
  have d:=h.1 (by rcases q.2 with z | z<;>rw [← q.1,z]<;>simp)
  refine⟨λ_=>by simp,?_,λx b=> ?_⟩
  ·show(S.dropLast++_).length<=_
   have:=h.2.1
   simp;lia
  ·obtain b | b:=Ac8.mp b
   ·exact Aj8 (h.2.2 x ((List.dropLast_prefix S).subset b))
   ·rw [Ab8.mp b]
    have:S.getLastD []∈S:=by
     rw [List.getLastD_eq_getLast?,List.getLast?_eq_getLast d];exact List.getLast_mem d
    have:=h.2.2 _ this
    rw [Aa3];exact Nat.succ_le_succ this
 ·split
  ·refine⟨λ_=>by simp,by have:=h.2.1;simp;exact this,λx b=> ?_⟩
   obtain b | b:=Ac8.mp b
   ·exact Aj8 (h.2.2 x b)
   ·rw [Ab8.mp b];simp
  ·rename_i q
   refine⟨λz=> ?_,Aj8 h.2.1,λx b=>Aj8 (h.2.2 x b)⟩
   have q:=Classical.not_not.mp q
   have z:a8 c=jl\/a8 c=wx:=z
   rw [q]at z
   rcases z with z | z<;>exact absurd z (by decide)
def se (xs) (x:α):bc (xs++ [x]) (-1)=y0 x/\dj (xs++ [x]).length (-1)=y0 xs.length:=by
 have:dj (xs++ [x]).length (-1)=y0 xs.length:=by
  unfold dj
  congr 1;simp;omega
 refine⟨?_,this⟩
 unfold bc
 rw [this];simp
def Hl (m) (h) (t){S:List Tx}(i:k4 S a n) (r:n<=900000) (o:ic c) (y):
 execs (k8 (m+1)) qm (dw t S a (y0 (.v (.str [c]))) y) h= .next (dw t (cM (S,a) c).1 (cM (S,a) c).2 (y0 (.v (.str [c]))) (y0 (.v (.str (a8 c))))) h:=by
 have p:=B7 m c h o
 simp only [qm]
 rw [za (Y1:=dw t S a (y0 (.v (.str [c]))) (y0 (.v (.str (a8 c))))) (h1:=h) (by simp_all [p])]
 have f:Gr (k8 (m+1)) (.and (.cmp .eq .v4 .v2) (.cmp .mem .v4 (.tup (.b (.str lD) (.str lL))))) (dw t S a (y0 (.v (.str [c]))) (y0 (.v (.str (a8 c))))) h= .ok (u9 (gA a c)) h:=by
  have g:eval (k8 (m+1)) (.cmp .eq .v4 .v2) (dw t S a (y0 (.v (.str [c]))) (y0 (.v (.str (a8 c))))) h= .ok (.v (.bl (a8 c==a))) h:=by
   simp_all [Xe]
  have l:eval (k8 (m+1)) (.cmp .mem .v4 (.tup (.b (.str lD) (.str lL)))) (dw t S a (y0 (.v (.str [c]))) (y0 (.v (.str (a8 c))))) h= .ok (.v (.bl (u9 (a8 c∈ [jl,wx])))) h:=by
   rw [eval,xj rfl,R.aa,JM,R.aa,Qx];rfl
  rw [Gr,eval,g]
  simp only [R.aa,Gn,R.ab]
  by_cases q:a8 c=a
  ·rw [show (a8 c==a)=k9 from by simp [q]]
   simp only [l,R.aa,Gn,R.ab]
   congr 1
   rw [decide_eq_decide]
   unfold gA
   simp [q]
  ·rw [show (a8 c==a)=y9 from by simp [q]]
   have: ¬gA a c:=λz=>q z.1
   simp [Gn,this]
 unfold cM
 by_cases q:gA a c
 ·rw [decide_eq_true q]at f
  have e:S≠ []:=i.1 (by rcases q.2 with z | z<;>rw [← q.1,z]<;>simp)
  obtain⟨b,x,rfl⟩: ∃b x,S=b++ [x]:=⟨S.dropLast,S.getLast e,(List.dropLast_concat_getLast e).symm⟩
  have s:=i.2.2 x (by simp)
  rw [za (Y1:=dw t (b++ [x++ [c]]) a (y0 (.v (.str [c]))) (y0 (.v (.str (a8 c))))) (h1:=h)]
  ·simp only [if_pos q]
   simp_all []
   simp
  ·rw [Wm f]
   have k:=se (b.map D.str) (.str x)
   have g:eval (k8 (m+1)) (.bin .add (.ix .v1 (.neg (.int 1))) .v3) (dw t (b++ [x]) a (y0 (.v (.str [c]))) (y0 (.v (.str (a8 c))))) h= .ok (.v (.str (x++ [c]))) h:=by
    rw [eval,eval,eval,Gp]
    simp only [Gm,R.aa,eval,aF,int?_int,R.ab,Ac0,Ab3,Ae2]
    rw [show bI (.bor (b.map D.str++ [D.str x])) (.v (.int (-1))) h=y0 (.str x)from k.1]
    simp only [R.ab,R.aa,Gp,Gm,Qb]
    rw [if_pos (by rw [Gc];simp;omega)]
   rw [za (Y1:=dw t (b++ [x++ [c]]) a (y0 (.v (.str [c]))) (y0 (.v (.str (a8 c))))) (h1:=h)]
   ·rfl
   ·rw [exec,g,R.aA]
    simp only [Gm,eval,aF,R.aa,R.aA,int?_int,R.ab,Ac0,Ab3,Ae2,flat,if_true,k.2,GD]
    simp
 ·rw [decide_eq_false q]at f
  rw [if_neg q]
  by_cases d:a8 c≠Zj
  ·rw [if_pos d]
   rw [za (Y1:=dw t (S++ [[c]]) a (y0 (.v (.str [c]))) (y0 (.v (.str (a8 c))))) (h1:=h)]
   ·simp_all []
   ·rw [Zn f,za (Y1:=dw t (S++ [[c]]) a (y0 (.v (.str [c]))) (y0 (.v (.str (a8 c))))) (h1:=h)]
    ·rfl
    ·have j:Gr (k8 (m+1)) (.cmp .ne .v4 (.str kj)) (dw t S a (y0 (.v (.str [c]))) (y0 (.v (.str (a8 c))))) h= .ok k9 h:=by
      have z:Gw .ne (.v (.str (a8 c))) (.v (.str Zj)) h=y0 true:=by simp [G8,d]
      simp_all [z]
     rw [Wm j]
     have:=i.2.1
     simp_all []
     rw [if_pos (by rw [Gc];simp;omega)]
     simp
  ·rw [if_neg d]
   rw [za (Y1:=dw t S a (y0 (.v (.str [c]))) (y0 (.v (.str (a8 c))))) (h1:=h)]
   ·simp_all []
   ·rw [Zn f,za (Y1:=dw t S a (y0 (.v (.str [c]))) (y0 (.v (.str (a8 c))))) (h1:=h)]
    ·rfl
    ·have j:Gr (k8 (m+1)) (.cmp .ne .v4 (.str kj)) (dw t S a (y0 (.v (.str [c]))) (y0 (.v (.str (a8 c))))) h= .ok y9 h:=by
      have d:a8 c=Zj:=Classical.not_not.mp d
      have z:Gw .ne (.v (.str (a8 c))) (.v (.str Zj)) h=y0 false:=by rw [d];simp [G8]
      simp_all [z]
     rw [Zn j];rfl
theorem pk (m) (h) (t): ∀ i,(∀ c∈i,ic c)-> ∀ {S}{a}{n} x y,k4 S a n->n+i.length<=900000 →
 ∃L J,GB (Gz [3] k9) (λY h=>execs (k8 (m+1)) qm Y h) (cQ i) (dw t S a x y) h= .next (dw t (i.foldl cM (S,a)).1 (i.foldl cM (S,a)).2 L J) h
 | [],_,S,a,n,x,y,_,_=>⟨x,y,rfl⟩
 | c::i,d,S,a,n,x,y,e,g=>by
  have j:n+(i.length+1)<=900000:=g
  have b:=Hl m h t e (by omega) (d c Aa4) y
  obtain⟨L,J,f⟩:=pk m h t i (λc q=>d c (Aa5 _ q)) (y0 (.v (.str [c]))) (y0 (.v (.str (a8 c)))) (yJ e) (by omega)
  refine⟨L,J,?_⟩
  rw [show cQ (c::i)= .str [c]::cQ i from rfl,xg rfl b]
  exact f
def CY (m) (h) (t) (e: ∀c∈t,ic c) (f:t.length<=900000):call prog (m+2) "signs_of" [.v (.str t)] h= .ok (.own ((t.foldl cM ([],Zj)).1.map .str)) h:=by
 rw [Gb rfl _ _ _ rfl]
 simp only [JK]
 rw [za rfl,za rfl]
 obtain⟨x,y,d⟩:=pk m h t t e u0 u0 (S:= []) (a:=Zj) (n:=0) ⟨λz=>absurd z (by decide),Aa7 _,λx b=>by cases b⟩ (by lia)
 rw [za (Y1:=dw t (t.foldl cM _).1 (t.foldl cM _).2 x y)]
 ·rw [qa rfl,Gq _ _ _ rfl]
 ·rw [exec]
  exact d
structure Lx (t:Tx) (T:List Tx) (a:Tx):Prop where
 ok: ∀c∈t,ic c
 eq:t.foldl cM ([],Zj)=(T,a)
inductive Lex:Tx->Tx->Prop
 | word {t:Tx}(h:t≠ []) (k: ∀c∈t,a8 c=jl):Lex t jl
 | km {t:Tx}(h:t≠ []) (k: ∀c∈t,a8 c=wx):Lex t wx
 | one {c:Nat}(k:a8 c=Qp):Lex [c] Qp
theorem XF (b:k=jl\/k=wx): ∀ t,(∀ c∈t,a8 c=k)-> ∀ T (x:Tx),t.foldl cM (T++ [x],k)=(T++ [x++t],k)
 | [],_,T,x=>by simp
 | c::t,h,T,x=>by
  have a:=h c Aa4
  have:cM (T++ [x],k) c=(T++ [x++ [c]],k):=by
   unfold cM
   rw [if_pos (show gA k c from⟨a,by rw [a];exact b⟩),a]
   simp
  rw [Ag2,this,XF b t (λc q=>h c (Aa5 _ q)) T (x++ [c])]
  simp
def Lex.fold (h:Lex t k) (b:a≠k\/k=Qp) (T):t.foldl cM (T,a)=(T++ [t],k):=by
 have first: ∀ {c}{k},a8 c=k->k≠Zj->(a≠k\/k=Qp)->cM (T,a) c=(T++ [[c]],k):=λ{c k} e i b=>by
  unfold cM
  rw [if_neg,if_pos (by rw [e];exact i),e]
  rintro ⟨f,g⟩
  have f:a8 c=a:=f
  rcases b with b | b
  ·exact b (by rw [← f,e])
  ·rw [e,b]at g
   rcases g with z | z<;>exact absurd z (by decide)
 cases h with
 | word h d=>
  cases t with
  | nil=>exact absurd rfl h
  | cons c t=>
   rw [Ag2,first (d c Aa4) (by decide) b,XF (.inl rfl) t (λc q=>d c (Aa5 _ q))]
   rfl
 | km h d=>
  cases t with
  | nil=>exact absurd rfl h
  | cons c t=>
   rw [Ag2,first (d c Aa4) (by decide) b,XF (.inr rfl) t (λc q=>d c (Aa5 _ q))]
   rfl
 | one d=>rw [Ag2,first d (by decide) b];rfl
def Lex.ok (h:Lex t k): ∀c∈t,ic c:=by
 intro c b
 cases h with
 | word _ a=>exact .inl (by rw [a c b];decide)
 | km _ a=>exact .inl (by rw [a c b];decide)
 | one a=>rw [Ab8.mp b];exact .inl (by rw [a];decide)
def Lx.nil:Lx [] [] Zj:=⟨λc h=>(by cases h),rfl⟩
def Lx.tok (h:Lx t T a) (x:Lex u k) (d:a≠k\/k=Qp):Lx (t++u) (T++ [u]) k:=by
 refine⟨λc b=> ?_,by rw [Al3,h.eq,x.fold d]⟩
 rcases Ac8.mp b with b | b
 ·exact h.ok c b
 ·exact x.ok c b
def p5:a8 32=Zj:=by decide
def Lx.blank (h:Lx t T a):Lx (t++ [32]) T Zj:=by
 refine⟨λc b=> ?_,?_⟩
 ·rcases Ac8.mp b with b | b
  ·exact h.ok c b
  ·rw [Ab8.mp b];exact .inr rfl
 ·rw [Al3,h.eq]
  show cM (T,a) 32=_
  unfold cM
  rw [if_neg,if_neg (by rw [p5];simp),p5]
  rintro ⟨_,z⟩
  rcases z with z | z<;>exact absurd z (by decide)
theorem Lx.blanks : ∀ n {a},Lx t T a-> ∃b,Lx (t++Aa1 n 32) T b/\(n=0->b=a)/\(0<n->b=Zj)
 | 0,a,h=>⟨a,by simpa using h,λ_=>rfl,λz=>by omega⟩
 | n+1,a,h=>by
  obtain⟨b,c,_,_⟩:=Lx.blanks n h
  refine⟨Zj,?_,λz=>by omega,λ_=>rfl⟩
  have:=c.blank
  rwa [Ac6,←List.replicate_succ']at this
theorem Zk: ∀e:Ex,Gs (ag e)=k9
 | .name _=>rfl
 | .same=>rfl
 | .all=>rfl
 | .none=>rfl
 | .turned a=>by simp [ag,Zk a]
 | .closed a=>by simp [ag,Zk a]
 | .plus a b=>by simp [ag,Zk a,Zk b]
 | .less a b=>by simp [ag,Zk a,Zk b]
 | .both a b=>by simp [ag,Zk a,Zk b]
 | .joined a b=>by simp [ag,Zk a,Zk b]
theorem qu: ∀s:Sy,Gs (ai s)=k9
 | .fact f=>by cases f<;>simp [ai,aO,Zk]
 | .neg a=>by simp [ai,qu a]
 | .bj a b=>by simp [ai,qu a,qu b]
 | .bh a b=>by simp [ai,qu a,qu b]
def Ee (m) (g) (K L T) (t:(K++L).length<=100):call prog (m+1) "Reader.__init__" [.v (.ref g.length),.v (wD K L),.v (.lst (T.map .str))] (g++ [Cell.obj "Reader" []])= .ok (.v .az) (rh g (K++L) T 0):=by
 rw [Gb rfl _ _ _ rfl]
 simp only [xo]
 show Gu _ (execs _ _ [y0 (.v (.ref g.length)),y0 (.v (wD K L)),y0 (.v (.lst (T.map .str)))] _)=_
 have n: ∀fs,GK (g++ [Cell.obj "Reader" fs]) (some (.v (.ref g.length)))=some (g.length, "Reader",fs):=fun fs=>by simp [GK]
 have k: ∀fs a,(g++ [Cell.obj "Reader" fs]).set g.length (.obj "Reader" a)=g++ [Cell.obj "Reader" a]:=fun fs a=>by simp
 have c: ∀ f e d fs,(∀ h,eval (k8 m) e [y0 (.v (.ref g.length)),y0 (.v (wD K L)),y0 (.v (.lst (T.map .str)))] h= .ok (.v d) h)->Gs d=k9->fs.length<100 →
  exec (k8 m) (.bH 0 "Reader" f e) [some (.v (.ref g.length)),some (.v (wD K L)),some (.v (.lst (T.map .str)))] (g++ [Cell.obj "Reader" fs])= .next [some (.v (.ref g.length)),some (.v (wD K L)),some (.v (.lst (T.map .str)))] (g++ [Cell.obj "Reader" (aY f d fs)]):=fun f e d fs l q v=>by
  rw [exec,l,R.aA]
  show(match GK (g++ [Cell.obj "Reader" fs]) (some (.v (.ref g.length)))with | some (r,w,fs)=>_ | none=>_)=_
  rw [n]
  show(if _ then _ else _)=_
  rw [if_pos ⟨rfl,q,v⟩,k]
 have i: ∀(b:List Tx),Gf (b.map D.str)=true:=λb=>by
  induction b with
  | nil=>rfl
  | cons x b j=>simp [j]
 have o: ∀h,eval (k8 m) (.bin .add (.ix .v1 (.int 0)) (.ix .v1 (.int 1))) [y0 (.v (.ref g.length)),y0 (.v (wD K L)),y0 (.v (.lst (T.map .str)))] h= .ok (.v (ba (K++L))) h:=λh=>by
  have p:bI (.v (wD K L)) (.v (.int 0)) h=y0 (ba K):=rfl
  have s:bI (.v (wD K L)) (.v (.int 1)) h=y0 (ba L):=rfl
  have u:GA .add (.v (ba K)) (.v (ba L)) h= .ok (.v (ba (K++L))) h:=by
   show GA .add (.v (.tup (K.map .str))) (.v (.tup (L.map .str))) h=_
   rw [Xw,if_pos (by rw [Gc];simp at t ⊢;omega),←Ac0]
  simp_all [p,s,u]
 rw [za (c "names" _ (ba (K++L)) [] o (i (K++L)) (by decide)),
  za (c "signs" _ (.lst (T.map .str)) _ (fun h=>by simp_all []) (by simp [Gs,i]) (by show 1<100;decide)),
  za (c "place" _ (.int 0) _ (fun h=>rfl) rfl (by show 2<100;decide))]
 show Gu _ (.next _ _)=_
 rw [GG _ _ _ (by simp)]
 rfl
def pF (n m) (g) (K L) (h:(K++L).length<=100) (t) (T) (a) (e:Lx t T a) (i:t.length<=900000) (j:T.length<=90000) (s) (ts:TS (K++L) 0 s T n) (q:n<=20):
 call prog (4*n+m+14) "read_saying" [.v (wD K L),.v (.str t)] g= .ok (.v (ai s)) g:=by
 rw [Gb (d:=Jo) rfl _ _ _ rfl]
 simp only [Jo]
 show Gu _ (execs _ _ [y0 (.v (wD K L)),y0 (.v (.str t)),u0,u0,u0] g)=_
 rw [xa (by simp_all [];rfl)]
 have b:=CY (4*n+m+11) g t e.ok i
 rw [e.eq]at b
 rw [za (Y1:= [y0 (.v (wD K L)),y0 (.v (.str t)),y0 (.v (.lst (T.map .str))),u0,u0]) (h1:=g) (by simp_all [b])]
 have o:=Ee (4*n+m+12) g K L T h
 rw [za (Y1:= [y0 (.v (wD K L)),y0 (.v (.str t)),y0 (.v (.lst (T.map .str))),y0 (.v (.ref g.length)),u0]) (h1:=rh g (K++L) T 0) (by simp_all [o,aF])]
 have c:=(BY (K++L) n m).2.2 s T ts g T 0 0 [] (by simp) (bp.nil 0) (by omega) j
 rw [Nat.zero_add]at c
 have p:eval (k8 (4*n+m+13)) (.ah 3 "Reader" "saying" "Reader.saying" (.a (.int 0))) [some (.v (wD K L)),some (.v (.str t)),some (.v (.lst (T.map .str))),some (.v (.ref g.length)),none] (rh g (K++L) T 0)= .ok (.v (ai s)) (rh g (K++L) T T.length):=by
  rw [eval]
  show(match GK (rh g (K++L) T 0) (y0 (.v (.ref g.length)))with | some (r,l,fs)=>_ | none=>_)=_
  rw [wz]
  show(if _ then _ else _)=_
  rw [if_pos ⟨rfl,rfl⟩]
  exact c
 rw [za (Y1:= [y0 (.v (wD K L)),y0 (.v (.str t)),y0 (.v (.lst (T.map .str))),y0 (.v (.ref g.length)),y0 (.v (ai s))]) (h1:=rh g (K++L) T T.length) (by rw [exec,p];rfl)]
 rw [xa]
 ·rw [qa (w:= .v (ai s)) (h1:=rh g (K++L) T T.length) rfl]
  have:Gu g.length (.ret (.v (ai s)) (rh g (K++L) T T.length))= .ok (.v (ai s)) ((rh g (K++L) T T.length).take g.length):=by
   show fin _ _ _=_
   unfold fin
   rw [if_neg (by rw [BL];omega),if_pos (by exact qu s)]
  rw [this]
  simp [rh]
 ·have z:Gw .lt (.v (.int (T.length:Int))) (.v (.int ((T.map D.str).length:Int))) (rh g (K++L) T T.length)=y0 false:=by
   rw [Wo,Ab1,decide_eq_false (Af9 _)]
  have f:eval (k8 (4*n+m+13)) (.fld 3 "Reader" "place") [some (.v (wD K L)),some (.v (.str t)),some (.v (.lst (T.map .str))),some (.v (.ref g.length)),some (.v (ai s))] (rh g (K++L) T T.length)= .ok (.v (.int (T.length:Int))) (rh g (K++L) T T.length):=by
   rw [eval]
   show(match GK (rh g (K++L) T T.length) (y0 (.v (.ref g.length)))with | some (_,l,fs)=>_ | none=>_)=_
   rw [wz];rfl
  have k:eval (k8 (4*n+m+13)) (.bi .len (.a .v2)) [y0 (.v (wD K L)),y0 (.v (.str t)),y0 (.v (.lst (T.map .str))),y0 (.v (.ref g.length)),y0 (.v (ai s))] (rh g (K++L) T T.length)= .ok (.v (.int ((T.map D.str).length:Int))) (rh g (K++L) T T.length):=by
   simp_all [];rfl
  rw [Gr,eval,f,R.aa,k,R.aa,z];rfl
def bG (w:W) (ts:List Tx):Prop:=w= .own (ts.map .str)\/w= .v (.lst (ts.map .str))
theorem bG.d {w:W}{ts:List Tx}(h:bG w ts):w.d=y0 (.lst (ts.map .str)):=by rcases h with rfl | rfl<;>rfl
def hF (h:bG w us) (a:ts.length+us.length<=900000) (k):GA .add (.v (.lst (ts.map .str))) w k= .ok (.own ((ts++us).map .str)) k:=by
 rcases h with rfl | rfl
 ·rw [mQ,if_pos (by rw [Gc];simp;omega),Ac0]
 ·rw [Hq,if_pos (by rw [Gc];simp;omega),Ac0]
def QL {w:W}{ts us:List Tx}(h:bG w us) (a:ts.length+us.length<=900000) (k:AH):GA .add (.own (ts.map .str)) w k= .ok (.own ((ts++us).map .str)) k:=by
 rcases h with rfl | rfl
 ·rw [QT,if_pos (by rw [Gc];simp;omega),Ac0]
 ·rw [BW,if_pos (by rw [Gc];simp;omega),Ac0]
def TE.down : ∀ {k l},TE N k e ts n->l<=k->k<=3->TE N l e ts n
 | k,l,h,b,c=>by
  induction k with
  | zero=>obtain rfl:l=0:=by omega
          exact h
  | succ k a=>
   rcases Nat.lt_or_ge k l with q | q
   ·obtain rfl:l=k+1:=by omega
    exact h
   ·exact a (.up (by omega) h) q (by omega)
abbrev bS (e:D) (l r:Nat) (x y z:Option W):Sl:= [y0 (.v e),y0 (.v (.int (l:Int))),y0 (.v (.ref r)),x,y,z]
abbrev D7:Ss:= .cons (.r (.or (.cmp .lt (.call "_law_level" (.a .v0)) .v1) (.cmp .eq (.call "_law_next" (.b .v2 (.int 4))) (.int 3))) (.bin .add (.bin .add (.lst (.a (.str [40]))) .v4) (.lst (.a (.str [41]))))) (.a (.ret .v4))
abbrev mX:S:= .iff (.cmp .lt (.call "_law_level" (.a .v0)) (.int 3)) (.cons (.af 5 (.call "_law_level" (.a .v0))) (.cons (.af 4 (.call "_law_tokens" (.c (.ix .v0 (.int 1)) .v5 .v2))) (.cons (.af 4 (.bin .add .v4 (.lst (.a (.ck [(d5,[43]),(dR,[45]),(d8,[38]),(dH,[46])] 3))))) (.a (.af 4 (.bin .add .v4 (.call "_law_tokens" (.c (.ix .v0 (.int 2)) (.bin .add .v5 (.int 1)) .v2)))))))) .nil
def qL (e):ax e<=3:=by cases e<;>simp [ax]
section
variable {N:List Tx}{m r:Nat}
def JW (e:Gm Y i=y0 (.v (.lst xs))):eval F (.var i) Y h= .ok (.v (.lst xs)) h:=xj e
def mN {e:Ex}{ts:List Tx}{n l:Nat}(c:TE N (ax e) e ts n) (j:l<=3) (A:ts.length<=800000){h:AH}(P:PH h) (s:r<h.length) (x z:Option W):
 ∃us w h',TE N l e us (n+1)/\us.length<=ts.length+2/\bG w us/\PH h'/\h'.length=h.length/\Gu h.length (execs (k8 (m+3)) D7 (bS (ag e) l r x (y0 (.v (.lst (ts.map .str)))) z) h)= .ok w h':=by
 have i:eval (k8 (m+3)) (.cmp .lt (.call "_law_level" (.a .v0)) .v1) (bS (ag e) l r x (some (.v (.lst (ts.map .str)))) z) h= .ok (.v (.bl (decide (ax e<l)))) h:=by
  simp_all [Zu (m+2),Wo]
 have k: ∀h',eval (k8 (m+3)) (.bin .add (.bin .add (.lst (.a (.str [40]))) .v4) (.lst (.a (.str [41])))) (bS (ag e) l r x (y0 (.v (.lst (ts.map .str)))) z) h'= .ok (.own (([40]::(ts++ [[41]])).map .str)) h':=λh'=>by
  have u:GA .add (.own ([([40]:Tx)].map D.str)) (.v (.lst (ts.map .str))) h'= .ok (.own (([[40]]++ts).map .str)) h':=QL (.inr rfl) (by simp;omega) h'
  have a2:GA .add (.own (([[40]]++ts).map D.str)) (.own ([([41]:Tx)].map D.str)) h'= .ok (.own ((([[40]]++ts)++ [[41]]).map .str)) h':=QL (.inl rfl) (by simp;omega) h'
  have p:eval (k8 (m+3)) (.lst (.a (.str [40]))) (bS (ag e) l r x (y0 (.v (.lst (ts.map .str)))) z) h'= .ok (.own ([([40]:Tx)].map D.str)) h':=rfl
  have y:eval (k8 (m+3)) (.lst (.a (.str [41]))) (bS (ag e) l r x (y0 (.v (.lst (ts.map .str)))) z) h'= .ok (.own ([([41]:Tx)].map D.str)) h':=rfl
  rw [eval,eval,p,R.aa,JW rfl,R.aa,u,R.aa,y,R.aa,a2]
  rfl
 by_cases q:ax e<l
 ·refine⟨_,_,h,TE.down (.par (TE.down c (Ae8 _) (qL e))) j (Aa7 _),by simp,.inl rfl,P,rfl,?_⟩
  rw [qa (w:= .own (([40]::(ts++ [[41]])).map .str)) (h1:=h),Gq _ _ _ rfl]
  rw [Wm (h1:=h)]
  ·exact qa (zj rfl (k _))
  ·rw [Gr,eval,i,decide_eq_true q];rfl
 ·obtain⟨v,a,B,f,b,d⟩:=Jf (m+2) P s (show 0<4 by decide) (by decide)
  have d:call prog (m+3) "_law_next" [.v (.ref r),.v (.int 4)] h= .ok (.v (.int (v:Int))) a:=d
  have t:Gw .eq (.v (.int (v:Int))) (.v (.int 3)) a=y0 (u9 (v=3)):=Qh v 3 a
  have o:Gr (k8 (m+3)) (.or (.cmp .lt (.call "_law_level" (.a .v0)) .v1) (.cmp .eq (.call "_law_next" (.b .v2 (.int 4))) (.int 3))) (bS (ag e) l r x (some (.v (.lst (ts.map .str)))) z) h= .ok (decide (v=3)) a:=by
   rw [Gr,eval,i,decide_eq_false q]
   simp only [R.aa,Gn,R.ab]
   simp_all [d,t]
  by_cases g:v=3
  ·refine⟨_,_,a,TE.down (.par (TE.down c (Ae8 _) (qL e))) j (Aa7 _),by simp,.inl rfl,f,b,?_⟩
   rw [qa (w:= .own (([40]::(ts++ [[41]])).map .str)) (h1:=a),Gq _ _ _ b]
   rw [Wm (h1:=a) (by rw [o,decide_eq_true g])]
   exact qa (zj rfl (k _))
  ·refine⟨ts,_,a,(TE.down c (by omega) (qL e)).wk (Ad2 _),by omega,.inr rfl,f,b,?_⟩
   rw [za (Y1:=bS (ag e) l r x (y0 (.v (.lst (ts.map .str)))) z) (h1:=a) (by rw [Zn (h1:=a) (by rw [o,decide_eq_false g])];rfl)]
   rw [qa (w:= .v (.lst (ts.map .str))) (h1:=a) rfl,Ga _ _ _ b]
end
section
variable {N:List Tx}{m r:Nat}
def nA (e:Ex) (h:AH) (Y:Sl) (a:Gm Y 0=y0 (.v (ag e))):Gr (k8 (m+3)) (.cmp .lt (.call "_law_level" (.a .v0)) (.int 3)) Y h= .ok (decide (ax e<3)) h:=by
 have z:Gw .lt (.v (.int (ax e:Int))) (.v (.int 3)) h=y0 (u9 (ax e<3)):=Wo (ax e) 3 h
 simp only [Gr,eval,Gj,Gp,a,R.aa,R.ab,Ab3,Ae2,W.c8,Zu (m+2),aF,z,Gn]
def WL (d:(∃ s,e= .name s/\t=s/\s∈N/\aQ s)\/(e= .same/\t=Zi)\/(e= .all/\t=Wq)\/(e= .none/\t=xi)) (p:l<=3)(P:PH h) (j:r<h.length):
 ∃us w h',TE N l e us 1/\us.length<=3/\bG w us/\PH h'/\h'.length=h.length/\call prog (m+4) "_law_tokens" [.v (ag e),.v (.int (l:Int)),.v (.ref r)] h= .ok w h':=by
 have g:ax e=3:=by rcases d with⟨s,rfl,_⟩ | ⟨rfl,_⟩ | ⟨rfl,_⟩ | ⟨rfl,_⟩<;>rfl
 have n:TE N 3 e [t] 0:=by
  rcases d with⟨s,rfl,rfl,f,c⟩ | ⟨rfl,rfl⟩ | ⟨rfl,rfl⟩ | ⟨rfl,rfl⟩
  ·exact .name f c
  ·exact .same
  ·exact .all
  ·exact .none
 obtain⟨us,w,h',f,c,i,o,k,b⟩:=mN (by rw [g];exact n) p (by simp) P j (y0 (.v (.str (h8 e)))) u0
 refine⟨us,w,h',f,c,i,o,k,?_⟩
 rw [Gb rfl _ _ _ rfl]
 simp only [wg]
 have a: ∀y,exec (k8 (m+3)) mX (bS (ag e) l r (y0 (.v (.str (h8 e)))) y u0) h= .next (bS (ag e) l r (y0 (.v (.str (h8 e)))) y u0) h:=λy=>by
  rw [Zn (by rw [nA e h _ rfl,g];rfl)];rfl
 rcases d with⟨s,rfl,rfl,_⟩ | ⟨rfl,rfl⟩ | ⟨rfl,rfl⟩ | ⟨rfl,rfl⟩
 ·rw [za rfl,za rfl,
   za rfl,xa rfl]
  exact(congrArg (Gu h.length) (za (a _))).trans b
 ·rw [za rfl,za rfl,xa rfl,xa rfl]
  exact(congrArg (Gu h.length) (za (a _))).trans b
 ·rw [za rfl,za rfl,xa rfl,xa rfl]
  exact(congrArg (Gu h.length) (za (a _))).trans b
 ·rw [za rfl,za rfl,xa rfl,xa rfl]
  exact(congrArg (Gu h.length) (za (a _))).trans b
def sL (i:Nat) (c:Nat) (h:AH) (a:(i,c)∈ [(0,126),(1,94)]):bI (.v (.str eE)) (.v (.int (i:Int))) h=y0 (.str [c]):=by
 rw [xC,if_pos (by rw [Gc];decide)]
 simp only [Aa,Aa2,or_false,Prod.mk.injEq]at a
 rcases a with⟨rfl,rfl⟩ | ⟨rfl,rfl⟩<;>rfl
def Hk {e a:Ex}{s:Tx}{c n l:Nat}(b:(e= .turned a/\s=Qa/\c=126)\/(e= .closed a/\s=Za/\c=94)) (G:l<=3){h:AH}{ts:List Tx}{w:W}{h1:AH}(k:TE N 3 a ts n) (I:ts.length<=700000) (A:bG w ts) (q:PH h1) (p:h1.length=h.length) (J:r<h.length)
 (H:call prog (m+3) "_law_tokens" [.v (ag a),.v (.int 3),.v (.ref r)] h= .ok w h1):
 ∃us w h',TE N l e us (n+1+1)/\us.length<=ts.length+3/\bG w us/\PH h'/\h'.length=h.length/\call prog (m+4) "_law_tokens" [.v (ag e),.v (.int (l:Int)),.v (.ref r)] h= .ok w h':=by
 have o:ax e=3:=by rcases b with⟨rfl,_⟩ | ⟨rfl,_⟩<;>rfl
 have C:TE N 3 e ([c]::ts) (n+1):=by
  rcases b with⟨rfl,_,rfl⟩ | ⟨rfl,_,rfl⟩
  ·exact .turned k
  ·exact .closed k
 obtain⟨us,t,h',f,u,v,E,B,g⟩:=mN (m:=m) (r:=r) (l:=l) (by rw [o];exact C) G (by simp;omega) q (by omega) (y0 (.v (.str s))) u0
 refine⟨us,t,h',f,by simp at u;omega,v,E,B.trans p,?_⟩
 rw [p]at g
 rw [Gb (d:=wg) rfl _ _ _ rfl]
 simp only [wg]
 show Gu _ (execs _ _ (bS (ag e) l r u0 u0 u0) h)=_
 have i: ∀y,exec (k8 (m+3)) mX (bS (ag e) l r (y0 (.v (.str s))) y u0) h1= .next (bS (ag e) l r (y0 (.v (.str s))) y u0) h1:=λy=>by
  rw [Zn (h1:=h1) (by rw [nA e h1 _ rfl,o];rfl)];rfl
 have j:exec (k8 (m+3)) (.iff (.cmp .mem .v3 (.tup (.b (.str hC) (.str dF)))) (.a (.af 4 (.bin .add (.lst (.a (.ix (.str eE) (.bi .int (.a (.cmp .eq .v3 (.str dF))))))) (.call "_law_tokens" (.c (.ix .v0 (.int 1)) (.int 3) .v2))))) .nil) (bS (ag e) l r (some (.v (.str s))) (some (.v (.lst [.str s]))) none) h= .next (bS (ag e) l r (some (.v (.str s))) (some (.v (.lst (([c]::ts).map .str)))) none) h1:=by
  have x:eval (k8 (m+3)) (.lst (.a (.ix (.str eE) (.bi .int (.a (.cmp .eq .v3 (.str dF))))))) (bS (ag e) l r (y0 (.v (.str s))) (y0 (.v (.lst [.str s]))) u0) h= .ok (.own ([([c]:Tx)].map D.str)) h:=by
   rcases b with⟨rfl,rfl,rfl⟩ | ⟨rfl,rfl,rfl⟩
   ·have i0:eval (k8 (m+3)) (.bi .int (.a (.cmp .eq .v3 (.str dF)))) (bS (ag (.turned a)) l r (y0 (.v (.str Qa))) (y0 (.v (.lst [.str Qa]))) u0) h= .ok (.v (.int ((0:Nat):Int))) h:=rfl
    rw [eval,Gk,eval,eval,aF,R.aa,i0,R.aa,sL 0 126 h (by decide)];rfl
   ·have i0:eval (k8 (m+3)) (.bi .int (.a (.cmp .eq .v3 (.str dF)))) (bS (ag (.closed a)) l r (y0 (.v (.str Za))) (y0 (.v (.lst [.str Za]))) u0) h= .ok (.v (.int ((1:Nat):Int))) h:=rfl
    rw [eval,Gk,eval,eval,aF,R.aa,i0,R.aa,sL 1 94 h (by decide)];rfl
  have F:eval (k8 (m+3)) (.call "_law_tokens" (.c (.ix .v0 (.int 1)) (.int 3) .v2)) (bS (ag e) l r (some (.v (.str s))) (some (.v (.lst [.str s]))) none) h= .ok w h1:=by
   have i1:bI (.v (ag e)) (.v (.int 1)) h=y0 (ag a):=by rcases b with⟨rfl,_⟩ | ⟨rfl,_⟩<;>rfl
   simp_all [i1,H]
  have z:u9 (s∈ [Qa,Za])=true:=by rcases b with⟨_,rfl,_⟩ | ⟨_,rfl,_⟩<;>decide
  rw [Wm (h1:=h) (by rw [ql rfl,z])]
  rw [za (Y1:=bS (ag e) l r (y0 (.v (.str s))) (y0 (.v (.lst (([c]::ts).map .str)))) u0) (h1:=h1)]
  ·rfl
  ·rw [exec,eval,x,R.aa,F,R.aa,QL A (by simp;omega)];rfl
 rcases b with⟨rfl,rfl,rfl⟩ | ⟨rfl,rfl,rfl⟩
 ·rw [za (Y1:=bS (ag (.turned a)) l r (y0 (.v (.str Qa))) u0 u0) (h1:=h) rfl,za (Y1:=bS (ag (.turned a)) l r (y0 (.v (.str Qa))) (y0 (.v (.lst [.str Qa]))) u0) (h1:=h) rfl,xa rfl,za j]
  exact(congrArg (Gu h.length) (za (i _))).trans g
 ·rw [za (Y1:=bS (ag (.closed a)) l r (y0 (.v (.str Za))) u0 u0) (h1:=h) rfl,za (Y1:=bS (ag (.closed a)) l r (y0 (.v (.str Za))) (y0 (.v (.lst [.str Za]))) u0) (h1:=h) rfl,xa rfl,za j]
  exact(congrArg (Gu h.length) (za (i _))).trans g
def E8 (f:(s,c,k)∈ [(Qe,43,0),(Zd,45,0),(Ji,38,1),(zc,46,2)]) (o:ax e=k) (i:ag e= .tup [.str s,ag a,ag b])(C:TE N k e (ts++ [c]::us) n) (J:l<=3)(L:ts.length+us.length<=700000) (A:bG w ts) (g:bG w' us) (y:PH h2) (t:h1.length=h.length) (q:h2.length=h1.length) (M:r<h.length)
 (I:call prog (m+3) "_law_tokens" [.v (ag a),.v (.int (k:Int)),.v (.ref r)] h= .ok w h1) (K:call prog (m+3) "_law_tokens" [.v (ag b),.v (.int ((k+1:Nat):Int)),.v (.ref r)] h1= .ok w' h2):
 ∃vs w h',TE N l e vs (n+1)/\vs.length<=ts.length+us.length+3/\bG w vs/\PH h'/\h'.length=h.length/\call prog (m+4) "_law_tokens" [.v (ag e),.v (.int (l:Int)),.v (.ref r)] h= .ok w h':=by
 have H:k<3:=by
  simp only [Aa,Aa2,or_false,Prod.mk.injEq]at f
  omega
 obtain⟨vs,G,h',j,p,v,E,B,u⟩:=mN (m:=m) (r:=r) (l:=l) (by rw [o];exact C) J (by simp;omega) y (by omega) (y0 (.v (.str s))) (y0 (.v (.int (k:Int))))
 refine⟨vs,G,h',j,by simp at p;omega,v,E,B.trans (q.trans t),?_⟩
 rw [q,t]at u
 rw [Gb (d:=wg) rfl _ _ _ rfl]
 simp only [wg]
 show Gu _ (execs _ _ (bS (ag e) l r u0 u0 u0) h)=_
 have i0: ∀h,bI (.v (ag e)) (.v (.int 0)) h=y0 (.str s):=λh=>by rw [i];rfl
 have i1: ∀h,bI (.v (ag e)) (.v (.int 1)) h=y0 (ag a):=λh=>by rw [i];rfl
 have i2: ∀h,bI (.v (ag e)) (.v (.int 2)) h=y0 (ag b):=λh=>by rw [i];rfl
 have x: ∀h,Kd [(d5,[43]),(dR,[45]),(d8,[38]),(dH,[46])] (y0 (.v (.str s))) h= .ok (.v (.str [c])) h:=λh=>by
  simp only [Aa,Aa2,or_false,Prod.mk.injEq]at f
  rcases f with⟨rfl,rfl,_⟩ | ⟨rfl,rfl,_⟩ | ⟨rfl,rfl,_⟩ | ⟨rfl,rfl,_⟩<;>rfl
 have nn:(s==wo)=y9/\u9 (s∈ [Qa,Za])=false:=by
  simp only [Aa,Aa2,or_false,Prod.mk.injEq]at f
  rcases f with⟨rfl,_⟩ | ⟨rfl,_⟩ | ⟨rfl,_⟩ | ⟨rfl,_⟩<;>exact⟨by decide,by decide⟩
 rw [za (Y1:=bS (ag e) l r (y0 (.v (.str s))) u0 u0) (h1:=h) (by simp_all [i0])]
 rw [za (Y1:=bS (ag e) l r (y0 (.v (.str s))) (y0 (.v (.lst [.str s]))) u0) (h1:=h) rfl]
 rw [xa (by rw [fM rfl,nn.1]),xa (by rw [ql rfl,nn.2])]
 rw [za (s:=mX) (Y1:=bS (ag e) l r (y0 (.v (.str s))) (y0 (.v (.lst ((ts++ [c]::us).map .str)))) (y0 (.v (.int (k:Int))))) (h1:=h2)]
 ·exact u
 rw [Wm (h1:=h) (by rw [nA e h _ rfl,o,decide_eq_true H])]
 rw [za (Y1:=bS (ag e) l r (y0 (.v (.str s))) (y0 (.v (.lst [.str s]))) (y0 (.v (.int (k:Int))))) (h1:=h) (by simp_all [Zu (m+2),o])]
 have F:eval (k8 (m+3)) (.call "_law_tokens" (.c (.ix .v0 (.int 1)) .v5 .v2)) (bS (ag e) l r (some (.v (.str s))) (some (.v (.lst [.str s]))) (some (.v (.int (k:Int))))) h= .ok w h1:=by
  simp_all [i1,I]
 rw [za (Y1:=bS (ag e) l r (y0 (.v (.str s))) (y0 (.v (.lst (ts.map .str)))) (y0 (.v (.int (k:Int))))) (h1:=h1) (by rw [exec,F,R.aA,A.d];rfl)]
 have a2:eval (k8 (m+3)) (.lst (.a (.ck [(d5,[43]),(dR,[45]),(d8,[38]),(dH,[46])] 3))) (bS (ag e) l r (y0 (.v (.str s))) (y0 (.v (.lst (ts.map .str)))) (y0 (.v (.int (k:Int))))) h1= .ok (.own ([([c]:Tx)].map D.str)) h1:=by
  simp_all [x]<;>rfl
 rw [za (Y1:=bS (ag e) l r (y0 (.v (.str s))) (y0 (.v (.lst ((ts++ [[c]]).map .str)))) (y0 (.v (.int (k:Int))))) (h1:=h1) (by rw [exec,eval,JW rfl,R.aa,a2,R.aa,hF (.inl rfl) (by simp;omega)];rfl)]
 have a3:eval (k8 (m+3)) (.call "_law_tokens" (.c (.ix .v0 (.int 2)) (.bin .add .v5 (.int 1)) .v2)) (bS (ag e) l r (some (.v (.str s))) (some (.v (.lst ((ts++ [[c]]).map .str)))) (some (.v (.int (k:Int))))) h1= .ok w' h2:=by
  have z:Gi .add (k:Int) 1=y0 ((k+1:Nat):Int):=by rw [Xg];rfl
  simp_all [i2,z,K]
 rw [za (Y1:=bS (ag e) l r (y0 (.v (.str s))) (y0 (.v (.lst ((ts++ [c]::us).map .str)))) (y0 (.v (.int (k:Int))))) (h1:=h2) (by rw [exec,eval,JW rfl,R.aa,a3,R.aa,hF g (by simp;omega),Ac6];rfl)]
 rfl
end
def WN (N) (L: ∀t∈N,aQ t) (r): ∀ e,e.wf N->e.dp<=8-> ∀ m l,l<=3-> ∀ h,PH h->r<h.length →
 ∃us w h',TE N l e us (2*e.dp+1)/\us.length+3<=6*2 ^ e.dp/\bG w us/\PH h'/\h'.length=h.length/\call prog (m+e.dp+4) "_law_tokens" [.v (ag e),.v (.int (l:Int)),.v (.ref r)] h= .ok w h':=by
 intro e
 have F: ∀d,d<=8->2 ^ d<=256:=λd hd=>Ab9 (by decide) hd
 have two: ∀ {e a b}{s}{c k},(s,c,k)∈ [(Qe,43,0),(Zd,45,0),(Ji,38,1),(zc,46,2)]->ax e=k->ag e= .tup [.str s,ag a,ag b]->e.dp=max a.dp b.dp+1->(∀ {p us}{n},TE N k a p n->TE N (k+1) b us n->TE N k e (p++ [c]::us) n) →
  (e.dp<=8-> ∀ m l,l<=3-> ∀ h,PH h->r<h.length-> ∃us w h',TE N l a us (2*a.dp+1)/\us.length+3<=6*2 ^ a.dp/\bG w us/\PH h'/\h'.length=h.length/\call prog (m+a.dp+4) "_law_tokens" [.v (ag a),.v (.int (l:Int)),.v (.ref r)] h= .ok w h') →
  (e.dp<=8-> ∀ m l,l<=3-> ∀ h,PH h->r<h.length-> ∃us w h',TE N l b us (2*b.dp+1)/\us.length+3<=6*2 ^ b.dp/\bG w us/\PH h'/\h'.length=h.length/\call prog (m+b.dp+4) "_law_tokens" [.v (ag b),.v (.int (l:Int)),.v (.ref r)] h= .ok w h') →
  e.dp<=8-> ∀ m l,l<=3-> ∀ h,PH h->r<h.length-> ∃us w h',TE N l e us (2*e.dp+1)/\us.length+3<=6*2 ^ e.dp/\bG w us/\PH h'/\h'.length=h.length/\call prog (m+e.dp+4) "_law_tokens" [.v (ag e),.v (.int (l:Int)),.v (.ref r)] h= .ok w h':=by
  intro e a b s c k o Q I dp mk f g hd m l j h P i
  have Z:k<3:=by
   simp only [Aa,Aa2,or_false,Prod.mk.injEq]at o
   omega
  obtain⟨p,w,G,C,a2,a3,z,B,u⟩:=f hd (m+(e.dp-1-a.dp)) k (by omega) h P i
  obtain⟨us,U,V,J,b2,S,R,K,H⟩:=g hd (m+(e.dp-1-b.dp)) (k+1) (by omega) G z (by omega)
  rw [show m+(e.dp-1-a.dp)+a.dp+4=(m+e.dp)+3 by omega]at u
  rw [show m+(e.dp-1-b.dp)+b.dp+4=(m+e.dp)+3 by omega]at H
  have W:2 ^ a.dp<=2 ^ (e.dp-1):=Ab9 (by decide) (by omega)
  have Y:2 ^ b.dp<=2 ^ (e.dp-1):=Ab9 (by decide) (by omega)
  have M:2 ^ e.dp=2*2 ^ (e.dp-1):=by rw [show e.dp=(e.dp-1)+1 by omega,Ae4];simp;omega
  have O:=F (e.dp-1) (by omega)
  have T:=mk (C.wk (show 2*a.dp+1<=2*e.dp by omega)) (J.wk (show 2*b.dp+1<=2*e.dp by omega))
  obtain⟨E,D,h',v1,v2,v3,v4,v5,v6⟩:=E8 (m:=m+e.dp) (l:=l) o Q I T j (by omega) a3 S R B K i u H
  exact⟨E,D,h',v1,by omega,v3,v4,v5,v6⟩
 have one: ∀ {e a}{s}{c},((e= .turned a/\s=Qa/\c=126)\/(e= .closed a/\s=Za/\c=94))->e.dp=a.dp+1 →
  (e.dp<=8-> ∀ m l,l<=3-> ∀ h,PH h->r<h.length-> ∃us w h',TE N l a us (2*a.dp+1)/\us.length+3<=6*2 ^ a.dp/\bG w us/\PH h'/\h'.length=h.length/\call prog (m+a.dp+4) "_law_tokens" [.v (ag a),.v (.int (l:Int)),.v (.ref r)] h= .ok w h') →
  e.dp<=8-> ∀ m l,l<=3-> ∀ h,PH h->r<h.length-> ∃us w h',TE N l e us (2*e.dp+1)/\us.length+3<=6*2 ^ e.dp/\bG w us/\PH h'/\h'.length=h.length/\call prog (m+e.dp+4) "_law_tokens" [.v (ag e),.v (.int (l:Int)),.v (.ref r)] h= .ok w h':=by
  intro e a s c o dp f hd m l j h P i
  obtain⟨p,w,G,C,a2,a3,z,B,u⟩:=f hd m 3 (Aa7 _) h P i
  have O:=F a.dp (by omega)
  have M:2 ^ e.dp=2*2 ^ a.dp:=by rw [dp,Ae4];omega
  have X:1<=2 ^ a.dp:=Ad3
  obtain⟨E,D,h',v1,v2,v3,v4,v5,v6⟩:=Hk (m:=m+a.dp+1) (l:=l) o j C (by omega) a3 z B i u
  rw [dp]
  refine⟨E,D,h',?_,by rw [← dp];omega,v3,v4,v5,?_⟩
  ·rw [show 2*(a.dp+1)+1=2*a.dp+1+1+1 by omega];exact v1
  ·rw [show m+(a.dp+1)+4=m+a.dp+1+4 by omega];exact v6
 induction e with
 | name t=>intro wf _ m l j h P i;obtain⟨us,w,h',v⟩:=WL (N:=N) (m:=m) (e:= .name t) (.inl ⟨t,rfl,rfl,wf,L t wf⟩) j P i;exact⟨us,w,h',v.1,by have:=v.2.1;show _<=6*2 ^ 0;omega,v.2.2⟩
 | same=>intro wf _ m l j h P i;obtain⟨us,w,h',v⟩:=WL (N:=N) (m:=m) (e:= .same) (.inr (.inl ⟨rfl,rfl⟩)) j P i;exact⟨us,w,h',v.1,by have:=v.2.1;show _<=6*2 ^ 0;omega,v.2.2⟩
 | all=>intro wf _ m l j h P i;obtain⟨us,w,h',v⟩:=WL (N:=N) (m:=m) (e:= .all) (.inr (.inr (.inl ⟨rfl,rfl⟩))) j P i;exact⟨us,w,h',v.1,by have:=v.2.1;show _<=6*2 ^ 0;omega,v.2.2⟩
 | none=>intro wf _ m l j h P i;obtain⟨us,w,h',v⟩:=WL (N:=N) (m:=m) (e:= .none) (.inr (.inr (.inr ⟨rfl,rfl⟩))) j P i;exact⟨us,w,h',v.1,by have:=v.2.1;show _<=6*2 ^ 0;omega,v.2.2⟩
 | turned a A=>intro wf hd;exact one (.inl ⟨rfl,rfl,rfl⟩) rfl (λq=>A wf (by simp only [Ex.dp]at q;omega)) hd
 | closed a A=>intro wf hd;exact one (.inr ⟨rfl,rfl,rfl⟩) rfl (λq=>A wf (by simp only [Ex.dp]at q;omega)) hd
 | plus a b f g=>intro wf hd;exact two (c:=43) (k:=0) (by decide) rfl rfl rfl (λx y=> .plus x y) (λq=>f wf.1 (by simp only [Ex.dp]at q;omega)) (λq=>g wf.2 (by simp only [Ex.dp]at q;omega)) hd
 | less a b f g=>intro wf hd;exact two (c:=45) (k:=0) (by decide) rfl rfl rfl (λx y=> .less x y) (λq=>f wf.1 (by simp only [Ex.dp]at q;omega)) (λq=>g wf.2 (by simp only [Ex.dp]at q;omega)) hd
 | both a b f g=>intro wf hd;exact two (c:=38) (k:=1) (by decide) rfl rfl rfl (λx y=> .both x y) (λq=>f wf.1 (by simp only [Ex.dp]at q;omega)) (λq=>g wf.2 (by simp only [Ex.dp]at q;omega)) hd
 | joined a b f g=>intro wf hd;exact two (c:=46) (k:=2) (by decide) rfl rfl rfl (λx y=> .joined x y) (λq=>f wf.1 (by simp only [Ex.dp]at q;omega)) (λq=>g wf.2 (by simp only [Ex.dp]at q;omega)) hd
abbrev dO (f:D) (r:Nat) (x y z:Option W):Sl:= [y0 (.v f),y0 (.v (.ref r)),x,y,z]
section
variable {N:List Tx}{m r:Nat}
def md (c:Gm Y 0=y0 (.v f)) (hi: ∀h,eval F ix Y h= .ok (.v (.int j)) h) (hd:bI (.v f) (.v (.int j)) h=y0 d) (a:Gm Y i=y0 (.v (.ref r))) (b:F.call "_law_tokens" [.v d,.v (.int (l:Int)),.v (.ref r)] h= .ok w h1):
 eval F (.call "_law_tokens" (.c (.ix .v0 ix) (.int (l:Int)) (.var i))) Y h= .ok w h1:=by
 simp only [eval,Gj,Gp,c,a,hi,hd,R.aa,R.ab,Ab3,Ae2,W.c8,b]
def Bk (c:(s,x)∈ [(zv,zv),(Qd,([61]:Tx))]) (e:aO f= .tup [.str s,ag a,ag b])(q:ts.length+us.length<=700000) (o:bG w ts) (g:bG w' us) (i:h2.length=h.length)
 (j:call prog m "_law_tokens" [.v (ag a),.v (.int ((0:Nat):Int)),.v (.ref r)] h= .ok w h1) (k:call prog m "_law_tokens" [.v (ag b),.v (.int ((0:Nat):Int)),.v (.ref r)] h1= .ok w' h2):
 call prog (m+1) "_law_fact_tokens" [.v (aO f),.v (.ref r)] h= .ok (.own ((ts++x::us).map .str)) h2:=by
 rw [Gb (d:=jd) rfl _ _ _ rfl]
 simp only [jd]
 show Gu _ (execs _ _ (dO (aO f) r u0 u0 u0) h)=_
 have i0: ∀h,bI (.v (aO f)) (.v (.int 0)) h=y0 (.str s):=λh=>by rw [e];rfl
 have i1: ∀h,bI (.v (aO f)) (.v (.int 1)) h=y0 (ag a):=λh=>by rw [e];rfl
 have i2: ∀h,bI (.v (aO f)) (.v (.int 2)) h=y0 (ag b):=λh=>by rw [e];rfl
 have n:u9 (s∈ [zv,Qd])=true:=by
  simp only [Aa,Aa2,or_false,Prod.mk.injEq]at c
  rcases c with⟨rfl,_⟩ | ⟨rfl,_⟩<;>decide
 rw [za (Y1:=dO (aO f) r (y0 (.v (.str s))) u0 u0) (h1:=h) (by simp_all [i0])]
 rw [qa (w:= .own ((ts++x::us).map .str)) (h1:=h2),Gq _ _ _ i]
 rw [Wm (h1:=h) (by rw [ql rfl,n])]
 have p:eval (k8 m) (.call "_law_tokens" (.c (.ix .v0 (.int 1)) (.int 0) .v1)) (dO (aO f) r (some (.v (.str s))) none none) h= .ok w h1:=md (l:=0) rfl (fun h=>rfl) (i1 h) rfl j
 have a2:eval (k8 m) (.lst (.a (.ix (.lst (.b (.str [61]) (.str b3))) (.bi .int (.a (.cmp .eq .v2 (.str b3))))))) (dO (aO f) r (y0 (.v (.str s))) u0 u0) h1= .ok (.own ([x].map D.str)) h1:=by
  simp only [Aa,Aa2,or_false,Prod.mk.injEq]at c
  rcases c with⟨rfl,rfl⟩ | ⟨rfl,rfl⟩<;>rfl
 rw [za (Y1:=dO (aO f) r (y0 (.v (.str s))) (y0 (.v (.lst ((ts++ [x]).map .str)))) u0) (h1:=h1)]
 ·have a3:eval (k8 m) (.call "_law_tokens" (.c (.ix .v0 (.int 2)) (.int 0) .v1)) (dO (aO f) r (some (.v (.str s))) (some (.v (.lst ((ts++ [x]).map .str)))) none) h1= .ok w' h2:=md (l:=0) rfl (fun h=>rfl) (i2 h1) rfl k
  refine qa (zj rfl ?_)
  rw [eval,JW rfl,R.aa,a3,R.aa,hF g (by simp;omega),Ac6];rfl
 ·rw [exec,eval,p,R.aa,a2,R.aa]
  have:GA .add w (.own ([x].map D.str)) h1= .ok (.own ((ts++ [x]).map .str)) h1:=by
   rcases o with rfl | rfl
   ·exact QL (.inl rfl) (by simp;omega) h1
   ·exact hF (.inl rfl) (by simp;omega) h1
  rw [this];rfl
def C7 (b:(∃ k:Nat,k<100/\d= .int (k:Int)/\aO f= .tup [.str s,d,ag a]/\((s∈ [zb,Wb]/\xs= [s,dg k])\/(∃ u∈ [zb,Wb],s=Ze++u/\xs= [Ze,u,dg k])))\/(s∈ [xf,XH]/\xs= [s]/\aO f= .tup [.str s,ag a]))(C:ts.length<=700000) (v:bG w ts) (j:h1.length=h.length)
 (B:call prog m "_law_tokens" [.v (ag a),.v (.int ((0:Nat):Int)),.v (.ref r)] h= .ok w h1):
 call prog (m+1) "_law_fact_tokens" [.v (aO f),.v (.ref r)] h= .ok (.own ((xs++ts).map .str)) h1:=by
 rw [Gb (d:=jd) rfl _ _ _ rfl]
 simp only [jd]
 show Gu _ (execs _ _ (dO (aO f) r u0 u0 u0) h)=_
 have i0: ∀h,bI (.v (aO f)) (.v (.int 0)) h=y0 (.str s):=λh=>by rcases b with⟨k,_,_,e,_⟩ | ⟨_,_,e⟩<;>rw [e]<;>rfl
 have x: ∀h,bI (.v (aO f)) (.v (.int (-1))) h=y0 (ag a):=λh=>by rcases b with⟨k,_,_,e,_⟩ | ⟨_,_,e⟩<;>rw [e]<;>rfl
 have p:u9 (s∈ [zv,Qd])=false:=by
  rcases b with⟨k,_,_,_,⟨q,_⟩ | ⟨u,q,rfl,_⟩⟩ | ⟨q,_⟩<;>simp only [Aa,Aa2,or_false]at q<;>rcases q with rfl | rfl<;>decide
 rw [za (Y1:=dO (aO f) r (y0 (.v (.str s))) u0 u0) (h1:=h) (by simp_all [i0])]
 rw [xa (by rw [ql rfl,p])]
 have A:eval (k8 m) (.call "_law_tokens" (.c (.ix .v0 (.neg (.int 1))) (.int 0) .v1)) (dO (aO f) r (some (.v (.str s))) none none) h= .ok w h1:=md (l:=0) rfl (fun h=>rfl) (x h) rfl B
 rw [za (Y1:=dO (aO f) r (y0 (.v (.str s))) u0 (y0 (.v (.lst (ts.map .str))))) (h1:=h1) (by rw [exec,A,R.aA,v.d];rfl)]
 have fin: ∀ e c,c.length<=5->eval (k8 m) e (dO (aO f) r (y0 (.v (.str s))) u0 (y0 (.v (.lst (ts.map .str))))) h1= .ok (.own (c.map .str)) h1->exec (k8 m) (.ret (.bin .add e .v4)) (dO (aO f) r (y0 (.v (.str s))) u0 (y0 (.v (.lst (ts.map .str))))) h1= .ret (.own ((c++ts).map .str)) h1:=λe c D q=>by
  refine zj rfl ?_
  rw [eval,q,R.aa,JW rfl,R.aa,QL (.inr rfl) (by omega)]
 have o: ∀k:Nat,k<100-> ∀i,Gm (dO (aO f) r (y0 (.v (.str s))) u0 (y0 (.v (.lst (ts.map .str))))) i=y0 (.v (aO f))->bI (.v (aO f)) (.v (.int 1)) h1=y0 (.int (k:Int))->eval (k8 m) (.cJ (.ix (.var i) (.int 1))) (dO (aO f) r (y0 (.v (.str s))) u0 (y0 (.v (.lst (ts.map .str))))) h1= .ok (.v (.str (dg k))) h1:=λk n i z i1=>by
  simp only [eval,Gp,z,R.aa,R.ab,i1,aF,XZ]
  rw [if_pos (by omega),xx]
 rcases b with⟨k,n,rfl,e,b⟩ | ⟨b,rfl,e⟩
 ·have i1:bI (.v (aO f)) (.v (.int 1)) h1=y0 (.int (k:Int)):=by rw [e];rfl
  have t:u9 (s∈ [xf,XH])=false:=by
   rcases b with⟨q,_⟩ | ⟨u,q,rfl,_⟩<;>simp only [Aa,Aa2,or_false]at q<;>rcases q with rfl | rfl<;>decide
  rw [xa (by rw [ql rfl,t])]
  rcases b with⟨b,rfl⟩ | ⟨u,g,rfl,rfl⟩
  ·rw [qa (w:= .own (([s,dg k]++ts).map .str)) (h1:=h1),Gq _ _ _ j]
   rw [Wm (h1:=h1) (by rw [ql rfl,decide_eq_true b])]
   refine qa (fin _ [s,dg k] (by simp) ?_)
   rw [eval,Gk,xj (d:= .str s) rfl]
   simp only [R.aa,W.cj,R.ab,Gk]
   rw [o k n 0 rfl i1]
   rfl
  ·have y:u9 (Ze++u∈ [zb,Wb])=false:=by
    simp only [Aa,Aa2,or_false]at g
    rcases g with rfl | rfl<;>decide
   rw [xa (by rw [ql rfl,y])]
   rw [qa (w:= .own (([Ze,u,dg k]++ts).map .str)) (h1:=h1),Gq _ _ _ j]
   refine fin _ [Ze,u,dg k] (by simp) ?_
   have sl:eval (k8 m) (.fi .v2 (.int 4)) (dO (aO f) r (y0 (.v (.str (Ze++u)))) u0 (y0 (.v (.lst (ts.map .str))))) h1= .ok (.v (.str u)) h1:=by
    simp only [Aa,Aa2,or_false]at g
    rcases g with rfl | rfl<;>(rw [eval,xj (d:= .str _) rfl];show(if _ then _ else _)=_;rw [if_pos (by rw [Gc];decide)];rfl)
   rw [eval,Gk,eval]
   simp only [aF,R.aa,W.cj,R.ab,Gk]
   rw [sl]
   simp only [R.aa,W.cj,R.ab]
   rw [o k n 0 rfl i1]
   rfl
 ·rw [qa (w:= .own (([s]++ts).map .str)) (h1:=h1),Gq _ _ _ j]
  rw [Wm (h1:=h1) (by rw [ql rfl,decide_eq_true b])]
  exact qa (fin _ [s] (by simp) rfl)
end
def Hg (N) (A: ∀t∈N,aQ t) (r) (f) (wf:f.wf N) (hd:f.dp<=8) (m:Nat) (h:AH) (P:PH h) (C:r<h.length):
 ∃us h',TF N f us (2*f.dp+1)/\us.length+5<=20*2 ^ f.dp/\PH h'/\h'.length=h.length/\call prog (m+f.dp+5) "_law_fact_tokens" [.v (aO f),.v (.ref r)] h= .ok (.own (us.map .str)) h':=by
 have F: ∀d,d<=8->2 ^ d<=256:=λd hd=>Ab9 (by decide) hd
 have i: ∀(f:Fc) (a b:Ex) (s x:Tx),(s,x)∈ [(zv,zv),(Qd,([61]:Tx))]->aO f= .tup [.str s,ag a,ag b]->f.dp=max a.dp b.dp->f.dp<=8->a.wf N->b.wf N->(∀ {l us:List Tx}{n:Nat},TE N 0 a l n->TE N 0 b us n->TF N f (l++x::us) n) →
  ∃us h',TF N f us (2*f.dp+1)/\us.length+5<=20*2 ^ f.dp/\PH h'/\h'.length=h.length/\call prog (m+f.dp+5) "_law_fact_tokens" [.v (aO f),.v (.ref r)] h= .ok (.own (us.map .str)) h':=by
  intro f a b s x j M dp hd e Q mk
  obtain⟨l,w,B,v,a2,a3,z,p,q⟩:=WN N A r a e (by omega) (m+(f.dp-a.dp)) 0 (by decide) h P C
  obtain⟨us,R,H,I,V,O,K,E,G⟩:=WN N A r b Q (by omega) (m+(f.dp-b.dp)) 0 (by decide) B z (by omega)
  rw [show m+(f.dp-a.dp)+a.dp+4=m+f.dp+4 by omega]at q
  rw [show m+(f.dp-b.dp)+b.dp+4=m+f.dp+4 by omega]at G
  have S:2 ^ a.dp<=2 ^ f.dp:=Ab9 (by decide) (by omega)
  have U:2 ^ b.dp<=2 ^ f.dp:=Ab9 (by decide) (by omega)
  have J:=F f.dp hd
  have L:1<=2 ^ f.dp:=Ad3
  refine⟨_,H,mk (v.wk (by omega)) (I.wk (by omega)),?_,K,E.trans p,Bk j M (by omega) a3 O (E.trans p) q G⟩
  rw [Aa3,Aa0];omega
 have c: ∀(f:Fc) (a:Ex) (s:Tx) (o:List Tx) (d:D),((∃ k:Nat,k<100/\d= .int (k:Int)/\aO f= .tup [.str s,d,ag a]/\((s∈ [zb,Wb]/\o= [s,dg k])\/(∃ u∈ [zb,Wb],s=Ze++u/\o= [Ze,u,dg k])))\/(s∈ [xf,XH]/\o= [s]/\aO f= .tup [.str s,ag a]))->f.dp=a.dp->f.dp<=8->a.wf N->(∀ {l:List Tx}{n:Nat},TE N 0 a l n->TF N f (o++l) n) →
  ∃us h',TF N f us (2*f.dp+1)/\us.length+5<=20*2 ^ f.dp/\PH h'/\h'.length=h.length/\call prog (m+f.dp+5) "_law_fact_tokens" [.v (aO f),.v (.ref r)] h= .ok (.own (us.map .str)) h':=by
  intro f a s o d j dp hd e mk
  obtain⟨l,w,B,v,a2,a3,z,p,q⟩:=WN N A r a e (by omega) m 0 (by decide) h P C
  rw [← dp]at q a2 v
  have J:=F f.dp hd
  have L:1<=2 ^ f.dp:=Ad3
  have T:o.length<=3:=by rcases j with⟨k,_,_,_,⟨_,rfl⟩ | ⟨u,_,_,rfl⟩⟩ | ⟨_,rfl,_⟩<;>simp
  refine⟨_,B,mk v,?_,z,p,C7 j (by omega) a3 p q⟩
  rw [Aa3];omega
 cases f with
 | cT a b=>exact i _ a b zv zv (by decide) rfl rfl hd wf.1 wf.2 λx y=> .cT x y
 | cV a b=>exact i _ a b Qd [61] (by decide) rfl rfl hd wf.1 wf.2 λx y=> .cV x y
 | cO a=>exact c _ a xf [xf] .az (.inr ⟨by decide,rfl,rfl⟩) rfl hd wf λx=> .cO x
 | az a=>exact c _ a XH [XH] .az (.inr ⟨by decide,rfl,rfl⟩) rfl hd wf λx=> .az x
 | cnt s k a=>
  obtain⟨⟨j,g⟩,e⟩:=wf
  simp only [Aa,Aa2,or_false]at j
  rcases j with rfl | rfl | rfl | rfl
  ·exact c _ a zb [zb,dg k] _ (.inl ⟨k,g,rfl,rfl,.inl ⟨by decide,rfl⟩⟩) rfl hd e λx=> .one (by decide) g x
  ·exact c _ a Wb [Wb,dg k] _ (.inl ⟨k,g,rfl,rfl,.inl ⟨by decide,rfl⟩⟩) rfl hd e λx=> .one (by decide) g x
  ·exact c _ a Wh [Ze,zb,dg k] _ (.inl ⟨k,g,rfl,rfl,.inr ⟨zb,by decide,rfl,rfl⟩⟩) rfl hd e λx=> .two (s:=zb) (by decide) g x
  ·exact c _ a Jn [Ze,Wb,dg k] _ (.inl ⟨k,g,rfl,rfl,.inr ⟨Wb,by decide,rfl,rfl⟩⟩) rfl hd e λx=> .two (s:=Wb) (by decide) g x
def TS.down : ∀ {k l},TS N k e ts n->l<=k->k<=2->TS N l e ts n
 | k,l,h,b,c=>by
  induction k with
  | zero=>obtain rfl:l=0:=by omega
          exact h
  | succ k a=>
   rcases Nat.lt_or_ge k l with q | q
   ·obtain rfl:l=k+1:=by omega
    exact h
   ·exact a (.up (by omega) h) q (by omega)
def QJ (e):aJ e<=2:=by cases e<;>simp [aJ]
abbrev cD (e:D) (l r:Nat) (x y z:Option W):Sl:= [y0 (.v e),y0 (.v (.int (l:Int))),y0 (.v (.ref r)),x,y,z]
abbrev rC:Ss:= .cons (.r (.or (.cmp .lt (.call "_law_saying_level" (.a .v0)) .v1) (.cmp .eq (.call "_law_next" (.b .v2 (.int 4))) (.int 3))) (.bin .add (.bin .add (.lst (.a (.str [91]))) .v5) (.lst (.a (.str [93]))))) (.a (.ret .v5))
section
variable {N:List Tx}{m r:Nat}
def nI (wf:e.wf N)(c:TS N (aJ e) e ts n) (j:l<=2) (A:ts.length<=800000){h:AH}(P:PH h) (s:r<h.length) (x z):
 ∃us w h',TS N l e us (n+1)/\us.length<=ts.length+2/\bG w us/\PH h'/\h'.length=h.length/\Gu h.length (execs (k8 (m+3)) rC (cD (ai e) l r x z (y0 (.v (.lst (ts.map .str))))) h)= .ok w h':=by
 have i:eval (k8 (m+3)) (.cmp .lt (.call "_law_saying_level" (.a .v0)) .v1) (cD (ai e) l r x z (some (.v (.lst (ts.map .str))))) h= .ok (.v (.bl (decide (aJ e<l)))) h:=by
  simp_all [qB (m+2) h e wf,Wo]
 have k: ∀h',eval (k8 (m+3)) (.bin .add (.bin .add (.lst (.a (.str [91]))) .v5) (.lst (.a (.str [93])))) (cD (ai e) l r x z (y0 (.v (.lst (ts.map .str))))) h'= .ok (.own (([91]::(ts++ [[93]])).map .str)) h':=λh'=>by
  have u:GA .add (.own ([([91]:Tx)].map D.str)) (.v (.lst (ts.map .str))) h'= .ok (.own (([[91]]++ts).map .str)) h':=QL (.inr rfl) (by simp;omega) h'
  have a2:GA .add (.own (([[91]]++ts).map D.str)) (.own ([([93]:Tx)].map D.str)) h'= .ok (.own ((([[91]]++ts)++ [[93]]).map .str)) h':=QL (.inl rfl) (by simp;omega) h'
  have p:eval (k8 (m+3)) (.lst (.a (.str [91]))) (cD (ai e) l r x z (y0 (.v (.lst (ts.map .str))))) h'= .ok (.own ([([91]:Tx)].map D.str)) h':=rfl
  have y:eval (k8 (m+3)) (.lst (.a (.str [93]))) (cD (ai e) l r x z (y0 (.v (.lst (ts.map .str))))) h'= .ok (.own ([([93]:Tx)].map D.str)) h':=rfl
  rw [eval,eval,p,R.aa,JW rfl,R.aa,u,R.aa,y,R.aa,a2]
  rfl
 by_cases q:aJ e<l
 ·refine⟨_,_,h,TS.down (.par (TS.down c (Ae8 _) (QJ e))) j (Aa7 _),by simp,.inl rfl,P,rfl,?_⟩
  rw [qa,Gq _ _ _ rfl]
  rw [Wm]
  ·exact qa (zj rfl (k _))
  ·rw [Gr,eval,i,decide_eq_true q];rfl
 ·obtain⟨v,a,B,f,b,d⟩:=Jf (m+2) P s (show 0<4 by decide) (by decide)
  have d:call prog (m+3) "_law_next" [.v (.ref r),.v (.int 4)] h= .ok (.v (.int (v:Int))) a:=d
  have t:Gw .eq (.v (.int (v:Int))) (.v (.int 3)) a=y0 (u9 (v=3)):=Qh v 3 a
  have o:Gr (k8 (m+3)) (.or (.cmp .lt (.call "_law_saying_level" (.a .v0)) .v1) (.cmp .eq (.call "_law_next" (.b .v2 (.int 4))) (.int 3))) (cD (ai e) l r x z (some (.v (.lst (ts.map .str))))) h= .ok (decide (v=3)) a:=by
   rw [Gr,eval,i,decide_eq_false q]
   simp only [R.aa,Gn,R.ab]
   simp_all [d,t]
  by_cases g:v=3
  ·refine⟨_,_,a,TS.down (.par (TS.down c (Ae8 _) (QJ e))) j (Aa7 _),by simp,.inl rfl,f,b,?_⟩
   rw [qa,Gq _ _ _ b]
   rw [Wm (by rw [o,decide_eq_true g])]
   exact qa (zj rfl (k _))
  ·refine⟨ts,_,a,(TS.down c (by omega) (QJ e)).wk (Ad2 _),by omega,.inr rfl,f,b,?_⟩
   rw [za (by rw [Zn (by rw [o,decide_eq_false g])];rfl)]
   rw [qa rfl,Ga _ _ _ b]
def wX (d:ai s= .tup (.str w::ds)){ts:List Tx}(c:h1.length=h.length)
 (b:exec (k8 (m+3)) (.iff (.cmp .mem .v3 (.tup (.b (.str zV) (.str QY)))) (.cons (.af 4 (.call "_law_saying_level" (.a .v0))) (.cons (.af 5 (.bin .add (.call "_law_saying_tokens" (.c (.ix .v0 (.int 1)) .v4 .v2)) (.lst (.a .v3)))) (.a (.af 5 (.bin .add .v5 (.call "_law_saying_tokens" (.c (.ix .v0 (.int 2)) (.bin .add .v4 (.int 1)) .v2))))))) (.a (.iff (.cmp .eq .v3 (.str j0)) (.a (.af 5 (.bin .add (.lst (.a (.str j0))) (.call "_law_saying_tokens" (.c (.ix .v0 (.int 1)) (.int 2) .v2))))) (.a (.af 5 (.call "_law_fact_tokens" (.b .v0 .v2))))))) (cD (ai s) l r (some (.v (.str w))) none none) h= .next (cD (ai s) l r (some (.v (.str w))) z (some (.v (.lst (ts.map .str))))) h1)
 (a:Gu h1.length (execs (k8 (m+3)) rC (cD (ai s) l r (y0 (.v (.str w))) z (y0 (.v (.lst (ts.map .str))))) h1)= .ok w0 h2):
 call prog (m+4) "_law_saying_tokens" [.v (ai s),.v (.int (l:Int)),.v (.ref r)] h= .ok w0 h2:=by
 rw [Gb rfl _ _ _ rfl]
 simp only [jk]
 show Gu _ (execs _ _ (cD (ai s) l r u0 u0 u0) h)=_
 have i0: ∀h,bI (.v (ai s)) (.v (.int 0)) h=y0 (.str w):=λh=>by rw [d,au,Zt]
 rw [za (Y1:=cD (ai s) l r (y0 (.v (.str w))) u0 u0) (h1:=h) (by simp_all [i0])]
 rw [za b]
 rw [c]at a
 exact a
def zW (e:Gm Y 0=y0 (.v f)) (hd:bI (.v f) (.v (.int j)) h=y0 d) (a:eval F kx Y h= .ok (.v (.int (k:Int))) h) (b:Gm Y 2=y0 (.v (.ref r))) (c:F.call "_law_saying_tokens" [.v d,.v (.int (k:Int)),.v (.ref r)] h= .ok w h1):
 eval F (.call "_law_saying_tokens" (.cons (.ix .v0 (.int j)) (.cons kx (.a .v2)))) Y h= .ok w h1:=by
 simp only [eval,Gj,Gp,e,b,hd,R.aa,R.ab,a,Ab3,Ae2,W.c8,c]
def FR (wf:s.wf N) (g:(o,k)∈ [(Zg,1),(Ju,0)]) (j:aJ s=k) (d:ai s= .tup [.str o,ai a,ai b])(y:TS N k s (ts++o::us) n) (F:l<=2)(I:ts.length+us.length<=700000) (v:bG w ts) (c:bG w' us) (t:PH h2) (p:h1.length=h.length) (i:h2.length=h1.length) (J:r<h.length)
 (E:call prog (m+3) "_law_saying_tokens" [.v (ai a),.v (.int (k:Int)),.v (.ref r)] h= .ok w h1) (G:call prog (m+3) "_law_saying_tokens" [.v (ai b),.v (.int ((k+1:Nat):Int)),.v (.ref r)] h1= .ok w' h2):
 ∃vs w h',TS N l s vs (n+1)/\vs.length<=ts.length+us.length+3/\bG w vs/\PH h'/\h'.length=h.length/\call prog (m+4) "_law_saying_tokens" [.v (ai s),.v (.int (l:Int)),.v (.ref r)] h= .ok w h':=by
 obtain⟨vs,C,h',e,f,q,A,x,H⟩:=nI (m:=m) (r:=r) (l:=l) wf (by rw [j];exact y) F (by simp;omega) t (by omega) (y0 (.v (.str o))) (y0 (.v (.int (k:Int))))
 refine⟨vs,C,h',e,by simp at f;omega,q,A,x.trans (i.trans p),?_⟩
 refine wX d (i.trans p) ?_ H
 have u:u9 (o∈ [Zg,Ju])=true:=by
  simp only [Aa,Aa2,or_false,Prod.mk.injEq]at g
  rcases g with⟨rfl,_⟩ | ⟨rfl,_⟩<;>decide
 have i1: ∀h,bI (.v (ai s)) (.v (.int 1)) h=y0 (ai a):=λh=>by rw [d];rfl
 have i2: ∀h,bI (.v (ai s)) (.v (.int 2)) h=y0 (ai b):=λh=>by rw [d];rfl
 rw [Wm (h1:=h) (by rw [ql rfl,u])]
 rw [za (Y1:=cD (ai s) l r (y0 (.v (.str o))) (y0 (.v (.int (k:Int)))) u0) (h1:=h) (by simp_all [qB (m+2) h s wf,j])]
 have B:eval (k8 (m+3)) (.call "_law_saying_tokens" (.c (.ix .v0 (.int 1)) .v4 .v2)) (cD (ai s) l r (some (.v (.str o))) (some (.v (.int (k:Int)))) none) h= .ok w h1:=zW rfl (i1 h) (xj rfl) rfl E
 rw [za (Y1:=cD (ai s) l r (y0 (.v (.str o))) (y0 (.v (.int (k:Int)))) (y0 (.v (.lst ((ts++ [o]).map .str))))) (h1:=h1)]
 ·have z:eval (k8 (m+3)) (.bin .add .v4 (.int 1)) (cD (ai s) l r (y0 (.v (.str o))) (y0 (.v (.int (k:Int)))) (y0 (.v (.lst ((ts++ [o]).map .str))))) h1= .ok (.v (.int ((k+1:Nat):Int))) h1:=by
   have z:Gi .add (k:Int) 1=y0 ((k+1:Nat):Int):=by rw [Xg];rfl
   simp_all [z]
  have a3:eval (k8 (m+3)) (.call "_law_saying_tokens" (.c (.ix .v0 (.int 2)) (.bin .add .v4 (.int 1)) .v2)) (cD (ai s) l r (some (.v (.str o))) (some (.v (.int (k:Int)))) (some (.v (.lst ((ts++ [o]).map .str))))) h1= .ok w' h2:=zW rfl (i2 h1) z rfl G
  rw [za (Y1:=cD (ai s) l r (y0 (.v (.str o))) (y0 (.v (.int (k:Int)))) (y0 (.v (.lst ((ts++o::us).map .str))))) (h1:=h2) (by rw [exec,eval,JW rfl,R.aa,a3,R.aa,hF c (by simp;omega),Ac6];rfl)]
  rfl
 ·have a2:eval (k8 (m+3)) (.lst (.a .v3)) (cD (ai s) l r (y0 (.v (.str o))) (y0 (.v (.int (k:Int)))) u0) h1= .ok (.own ([o].map D.str)) h1:=rfl
  rw [exec,eval,B,R.aa,a2,R.aa]
  have:GA .add w (.own ([o].map D.str)) h1= .ok (.own ((ts++ [o]).map .str)) h1:=by
   rcases v with rfl | rfl
   ·exact QL (.inl rfl) (by simp;omega) h1
   ·exact hF (.inl rfl) (by simp;omega) h1
  rw [this];rfl
end
def Ew (N) (gN: ∀t∈N,aQ t) (r): ∀ s,s.wf N->s.dp<=8-> ∀ m l,l<=2-> ∀ h,PH h->r<h.length →
 ∃us w h',TS N l s us (2*s.dp+2)/\us.length+3<=20*2 ^ s.dp/\bG w us/\PH h'/\h'.length=h.length/\call prog (m+s.dp+6) "_law_saying_tokens" [.v (ai s),.v (.int (l:Int)),.v (.ref r)] h= .ok w h':=by
 intro s
 have G: ∀d,d<=8->2 ^ d<=256:=λd hd=>Ab9 (by decide) hd
 have two: ∀ {s a b}{o}{k},s.wf N->(o,k)∈ [(Zg,1),(Ju,0)]->aJ s=k->ai s= .tup [.str o,ai a,ai b]->s.dp=max a.dp b.dp+1->(∀ {j us}{n},TS N k a j n->TS N (k+1) b us n->TS N k s (j++o::us) n) →
  (s.dp<=8-> ∀ m l,l<=2-> ∀ h,PH h->r<h.length-> ∃us w h',TS N l a us (2*a.dp+2)/\us.length+3<=20*2 ^ a.dp/\bG w us/\PH h'/\h'.length=h.length/\call prog (m+a.dp+6) "_law_saying_tokens" [.v (ai a),.v (.int (l:Int)),.v (.ref r)] h= .ok w h') →
  (s.dp<=8-> ∀ m l,l<=2-> ∀ h,PH h->r<h.length-> ∃us w h',TS N l b us (2*b.dp+2)/\us.length+3<=20*2 ^ b.dp/\bG w us/\PH h'/\h'.length=h.length/\call prog (m+b.dp+6) "_law_saying_tokens" [.v (ai b),.v (.int (l:Int)),.v (.ref r)] h= .ok w h') →
  s.dp<=8-> ∀ m l,l<=2-> ∀ h,PH h->r<h.length-> ∃us w h',TS N l s us (2*s.dp+2)/\us.length+3<=20*2 ^ s.dp/\bG w us/\PH h'/\h'.length=h.length/\call prog (m+s.dp+6) "_law_saying_tokens" [.v (ai s),.v (.int (l:Int)),.v (.ref r)] h= .ok w h':=by
  intro e a b o k wf M X V dp mk g i hd m l z h P v
  have hk:k<=1:=by
   simp only [Aa,Aa2,or_false,Prod.mk.injEq]at M
   omega
  obtain⟨j,w,c,B,a2,a3,C,u,p⟩:=g hd (m+(e.dp-1-a.dp)) k (by omega) h P v
  obtain⟨us,w',h2,E,J,A,T,Z,O⟩:=i hd (m+(e.dp-1-b.dp)) (k+1) (by omega) c C (by omega)
  rw [show m+(e.dp-1-a.dp)+a.dp+6=(m+e.dp+2)+3 by omega]at p
  rw [show m+(e.dp-1-b.dp)+b.dp+6=(m+e.dp+2)+3 by omega]at O
  have pa:2 ^ a.dp<=2 ^ (e.dp-1):=Ab9 (by decide) (by omega)
  have pb:2 ^ b.dp<=2 ^ (e.dp-1):=Ab9 (by decide) (by omega)
  have S:2 ^ e.dp=2*2 ^ (e.dp-1):=by rw [show e.dp=(e.dp-1)+1 by omega,Ae4];simp;omega
  have Q:=G (e.dp-1) (by omega)
  have te:=mk (B.wk (show 2*a.dp+2<=2*e.dp+1 by omega)) (E.wk (show 2*b.dp+2<=2*e.dp+1 by omega))
  obtain⟨U,H,h',v1,v2,v3,v4,v5,v6⟩:=FR (m:=m+e.dp+2) (l:=l) wf M X V te z (by omega) a3 A T u Z v p O
  exact⟨U,H,h',v1,by omega,v3,v4,v5,v6⟩
 induction s with
 | fact f=>
  intro wf hd m l z h P v
  obtain⟨j,c,B,a2,C,u,p⟩:=Hg N gN r f wf hd m h P v
  have Q:=G f.dp hd
  obtain⟨F,ds,es,n1,Y,n3⟩:=tR f wf
  obtain⟨us,w,h',E,J,A,K,I,L⟩:=nI (m:=m+f.dp+2) (r:=r) (l:=l) (e:= .fact f) wf (.fact B) z (by omega) C (by omega) (y0 (.v (.str F))) u0
  refine⟨us,w,h',E,by show _<=20*2 ^ f.dp;omega,A,K,I.trans u,?_⟩
  refine wX (m:=m+f.dp+2) (s:= .fact f) es u ?_ L
  have W:u9 (F∈ [Zg,Ju])=false:=decide_eq_false λq=>by
   simp only [Aa,Aa2,or_false]at q
   rcases q with rfl | rfl
   ·exact absurd Y (by simp)
   ·exact absurd n3 (by simp)
  rw [Zn (h1:=h) (by rw [ql rfl,W])]
  rw [za (Y1:=cD (aO f) l r (y0 (.v (.str F))) u0 (y0 (.v (.lst (j.map .str))))) (h1:=c)]
  ·rfl
  ·rw [Zn (h1:=h) (by rw [fM rfl,n1])]
   have p:call prog (m+f.dp+2+3) "_law_fact_tokens" [.v (aO f),.v (.ref r)] h= .ok (.own (j.map .str)) c:=p
   rw [za (Y1:=cD (aO f) l r (y0 (.v (.str F))) u0 (y0 (.v (.lst (j.map .str))))) (h1:=c) (by simp_all [ai,p])]
   rfl
 | neg a ih=>
  intro wf hd m l z h P v
  have hd':a.dp+1<=8:=hd
  obtain⟨j,w,c,B,a2,a3,C,u,p⟩:=ih wf (by omega) m 2 (Aa7 _) h P v
  have Q:=G a.dp (by omega)
  have p1:1<=2 ^ a.dp:=Ad3
  have S:2 ^ (a.dp+1)=2*2 ^ a.dp:=by rw [Ae4];omega
  obtain⟨us,H,h',E,J,A,K,I,L⟩:=nI (m:=m+a.dp+3) (r:=r) (l:=l) (e:= .neg a) wf (.neg B) z (by simp;omega) C (by omega) (y0 (.v (.str qj))) u0
  refine⟨us,H,h',?_,?_,A,K,I.trans u,?_⟩
  ·show TS N l (.neg a) us (2*(a.dp+1)+2)
   rw [show 2*(a.dp+1)+2=2*a.dp+2+1+1 by omega];exact E
  ·show _<=20*2 ^ (a.dp+1)
   simp at J;omega
  ·show call prog (m+(a.dp+1)+6) _ _ _=_
   rw [show m+(a.dp+1)+6=m+a.dp+3+4 by omega]
   refine wX (m:=m+a.dp+3) (s:= .neg a) rfl u ?_ L
   rw [Zn (h1:=h) (by rw [ql rfl];rfl)]
   have a4:eval (k8 (m+a.dp+3+3)) (.call "_law_saying_tokens" (.c (.ix .v0 (.int 1)) (.int 2) .v2)) (cD (ai (.neg a)) l r (some (.v (.str qj))) none none) h= .ok w c:=zW (d:=ai a) (k:=2) rfl rfl rfl rfl p
   rw [za (Y1:=cD (ai (.neg a)) l r (y0 (.v (.str qj))) u0 (y0 (.v (.lst ((qj::j).map .str))))) (h1:=c)]
   ·rfl
   ·rw [Wm (h1:=h) (by rw [fM rfl];rfl)]
    rw [za (Y1:=cD (ai (.neg a)) l r (y0 (.v (.str qj))) u0 (y0 (.v (.lst ((qj::j).map .str))))) (h1:=c)]
    ·rfl
    ·have a5:eval (k8 (m+a.dp+3+3)) (.lst (.a (.str j0))) (cD (ai (.neg a)) l r (y0 (.v (.str qj))) u0 u0) h= .ok (.own ([qj].map D.str)) h:=rfl
     rw [exec,eval,a5,R.aa,a4,R.aa,QL a3 (by simp;omega)];rfl
 | bj a b g i=>intro wf hd;exact two (k:=1) wf (by decide) rfl rfl rfl (λx y=> .bj x y) (λq=>g wf.1 (by simp only [Sy.dp]at q;omega)) (λq=>i wf.2 (by simp only [Sy.dp]at q;omega)) hd
 | bh a b g i=>intro wf hd;exact two (k:=0) wf (by decide) rfl rfl rfl (λx y=> .bh x y) (λq=>g wf.1 (by simp only [Sy.dp]at q;omega)) (λq=>i wf.2 (by simp only [Sy.dp]at q;omega)) hd
def nX: ∀c,97<=c/\c<=122->a8 c=jl:=by
 have: ∀c,c<123->97<=c->a8 c=jl:=by decide +kernel
 exact λc h=>this c (by omega) h.1
def yt: ∀c,48<=c/\c<=57->a8 c=wx:=by
 have: ∀c,c<58->48<=c->a8 c=wx:=by decide +kernel
 exact λc h=>this c (by omega) h.1
def Q3 (g:aQ t):Lex t jl:= .word (λz=>by have:=g.lo;rw [z]at this;simp at this) λc a=>nX c (g.ew c a)
def jS (b:k<100):Lex (dg k) wx:=by
 obtain⟨a,_,d,_⟩:=iE k b
 exact .km (λz=>by rw [z]at a;simp at a) λc e=>yt c (d c e)
def dq (a:Tx):Prop:=a=Zj\/a=Qp
def Lx.free (h:Lx t T a) (f:dq a) (x:Lex u k):Lx (t++u) (T++ [u]) k:=by
 refine h.tok x ?_
 cases x with
 | word _ _=>exact .inl (by rcases f with rfl | rfl<;>decide)
 | km _ _=>exact .inl (by rcases f with rfl | rfl<;>decide)
 | one _=>exact .inr rfl
def Ws:dq Zj:= .inl rfl
def mI:dq Qp:= .inr rfl
def zt (h:t≠ []) (k: ∀c∈t,97<=c/\c<=122):Lex t jl:= .word h λc a=>nX c (k c a)
def mC (l n b) (i:l<=3) (h:Lx t T a) (f:dq a) (g: ∀ t T a,Lx t T a->dq a-> ∃ts k,Lx (t++bT e) (T++ts) k/\TE N (ax e) e ts n/\ts.length<=b):
 ∃ts k,Lx (t++br (u9 (ax e<l)) 40 41 (bT e)) (T++ts) k/\TE N l e ts (n+1)/\ts.length<=b+2:=by
 unfold br
 by_cases q:ax e<l
 ·rw [if_pos (decide_eq_true q)]
  obtain⟨ts,k,d,c,j⟩:=g (t++ [40]) (T++ [[40]]) Qp (h.free f (.one (by decide))) mI
  have m:=d.tok (u:= [41]) (.one (by decide)) (.inr rfl)
  refine⟨[40]::(ts++ [[41]]),Qp,?_,TE.down (.par (TE.down c (Ae8 _) (qL e))) i (Aa7 _),by simp;omega⟩
  simpa using m
 ·rw [if_neg (by simp;omega)]
  obtain⟨ts,k,d,c,j⟩:=g t T a h f
  exact⟨ts,k,d,(TE.down c (by omega) (qL e)).wk (Ad2 _),by omega⟩
def nc (r: ∀t∈N,aQ t): ∀ e,e.wf N-> ∀ t T a,Lx t T a->dq a-> ∃ts k,Lx (t++bT e) (T++ts) k/\TE N (ax e) e ts (2*e.dp)/\ts.length<=6*2 ^ e.dp-5:=by
 have two: ∀ e a b c k,a8 c=Qp->k<=2->bT e=br (u9 (ax a<k)) 40 41 (bT a)++(32::c::32::br (u9 (ax b<k+1)) 40 41 (bT b))->e.dp=max a.dp b.dp+1->ax e=k->(∀ {ts i}{n},TE N k a ts n->TE N (k+1) b i n->TE N k e (ts++ [c]::i) n) →
  (∀ t T x,Lx t T x->dq x-> ∃ts k,Lx (t++bT a) (T++ts) k/\TE N (ax a) a ts (2*a.dp)/\ts.length<=6*2 ^ a.dp-5)->(∀ t T x,Lx t T x->dq x-> ∃ts k,Lx (t++bT b) (T++ts) k/\TE N (ax b) b ts (2*b.dp)/\ts.length<=6*2 ^ b.dp-5) →
  ∀ t T x,Lx t T x->dq x-> ∃ts k,Lx (t++bT e) (T++ts) k/\TE N (ax e) e ts (2*e.dp)/\ts.length<=6*2 ^ e.dp-5:=by
  intro e a b c k j G p dp m mk d g t T x h f
  obtain⟨ts,q,o,a2,a3⟩:=mC k (2*a.dp) _ (by omega) h f d
  have A:=(o.blank.free Ws (.one j)).blank
  obtain⟨i,w,u,B,E⟩:=mC (k+1) (2*b.dp) _ (by omega) A Ws g
  refine⟨ts++ [c]::i,w,?_,?_,?_⟩
  ·rw [p];simpa using u
  ·rw [m];exact mk (a2.wk (by omega)) (B.wk (by omega))
  ·have C:2 ^ a.dp<=2 ^ (e.dp-1):=Ab9 (by decide) (by omega)
   have F:2 ^ b.dp<=2 ^ (e.dp-1):=Ab9 (by decide) (by omega)
   have v:2 ^ e.dp=2*2 ^ (e.dp-1):=by rw [show e.dp=(e.dp-1)+1 by omega,Ae4];simp;omega
   have z:1<=2 ^ a.dp:=Ad3
   have D:1<=2 ^ b.dp:=Ad3
   simp;omega
 have one: ∀ e a c,a8 c=Qp->bT e=c::br (u9 (ax a<3)) 40 41 (bT a)->e.dp=a.dp+1->ax e=3->(∀ {ts}{n},TE N 3 a ts n->TE N 3 e ([c]::ts) (n+1)) →
  (∀ t T x,Lx t T x->dq x-> ∃ts k,Lx (t++bT a) (T++ts) k/\TE N (ax a) a ts (2*a.dp)/\ts.length<=6*2 ^ a.dp-5) →
  ∀ t T x,Lx t T x->dq x-> ∃ts k,Lx (t++bT e) (T++ts) k/\TE N (ax e) e ts (2*e.dp)/\ts.length<=6*2 ^ e.dp-5:=by
  intro e a c j p dp m mk d t T x h f
  obtain⟨ts,q,o,a2,a3⟩:=mC 3 (2*a.dp) _ (by omega) (h.free f (.one j)) mI d
  have v:2 ^ e.dp=2*2 ^ a.dp:=by rw [dp,Ae4];omega
  have z:1<=2 ^ a.dp:=Ad3
  refine⟨[c]::ts,q,?_,?_,by simp;omega⟩
  ·rw [p];simpa using o
  ·rw [m,dp,show 2*(a.dp+1)=2*a.dp+1+1 by omega];exact mk a2
 intro e
 induction e with
 | name s=>intro wf t T a h f;exact⟨[s],jl,h.free f (Q3 (r s wf)),.name wf (r s wf),by show 1<=6*2 ^ 0-5;decide⟩
 | same=>intro wf t T a h f;exact⟨[Zi],jl,h.free f (zt (by decide) (by decide)),.same,by show 1<=6*2 ^ 0-5;decide⟩
 | all=>intro wf t T a h f;exact⟨[Wq],jl,h.free f (zt (by decide) (by decide)),.all,by show 1<=6*2 ^ 0-5;decide⟩
 | none=>intro wf t T a h f;exact⟨[xi],jl,h.free f (zt (by decide) (by decide)),.none,by show 1<=6*2 ^ 0-5;decide⟩
 | turned a l=>intro wf;exact one _ a 126 (by decide) rfl rfl rfl (λx=> .turned x) (l wf)
 | closed a l=>intro wf;exact one _ a 94 (by decide) rfl rfl rfl (λx=> .closed x) (l wf)
 | plus a b d g=>intro wf;exact two _ a b 43 0 (by decide) (by decide) rfl rfl rfl (λx y=> .plus x y) (d wf.1) (g wf.2)
 | less a b d g=>intro wf;exact two _ a b 45 0 (by decide) (by decide) rfl rfl rfl (λx y=> .less x y) (d wf.1) (g wf.2)
 | both a b d g=>intro wf;exact two _ a b 38 1 (by decide) (by decide) rfl rfl rfl (λx y=> .both x y) (d wf.1) (g wf.2)
 | joined a b d g=>intro wf;exact two _ a b 46 2 (by decide) (by decide) rfl rfl rfl (λx y=> .joined x y) (d wf.1) (g wf.2)
def yj (o: ∀t∈N,aQ t) (f) (wf:f.wf N)(g:Lx t T a) (i:dq a): ∃ts k,Lx (t++fT f) (T++ts) k/\TF N f ts (2*f.dp)/\ts.length<=12*2 ^ f.dp:=by
 have z: ∀ {e}{ts}{n},TE N (ax e) e ts n->TE N 0 e ts n:=λh=>TE.down h (Ae8 _) (qL _)
 have d: ∀ f x y u k,Lex u k->fT f=bT x++(32::(u++32::bT y))->f.dp=max x.dp y.dp->x.wf N->y.wf N->(∀ {ts j}{n},TE N 0 x ts n->TE N 0 y j n->TF N f (ts++u::j) n)-> ∃ts k,Lx (t++fT f) (T++ts) k/\TF N f ts (2*f.dp)/\ts.length<=12*2 ^ f.dp:=by
  intro f x y u k D w dp b L mk
  obtain⟨ts,O,J,a2,a3⟩:=nc o x b t T a g i
  obtain⟨j,r,m,A,F⟩:=nc o y L _ _ _ (J.blank.free Ws D).blank Ws
  have M:2 ^ x.dp<=2 ^ f.dp:=Ab9 (by decide) (by omega)
  have R:2 ^ y.dp<=2 ^ f.dp:=Ab9 (by decide) (by omega)
  refine⟨ts++u::j,r,?_,mk ((z a2).wk (by omega)) ((z A).wk (by omega)),?_⟩
  rotate_left
  ·have P:1<=2 ^ x.dp:=Ad3
   rw [Aa3,Aa0];omega
  rw [w];simpa using m
 have lst: ∀ f x v l,(∃ k,Lx (t++v) (T++l) k)->l.length<=3->fT f=v++32::bT x->f.dp=x.dp->x.wf N->(∀ {ts}{n},TE N 0 x ts n->TF N f (l++ts) n)-> ∃ts k,Lx (t++fT f) (T++ts) k/\TF N f ts (2*f.dp)/\ts.length<=12*2 ^ f.dp:=by
  rintro f x v l ⟨k,G⟩ S w dp b mk
  obtain⟨j,r,m,A,F⟩:=nc o x b _ _ _ G.blank Ws
  have Q:1<=2 ^ x.dp:=Ad3
  refine⟨l++j,r,?_,by rw [dp];exact mk (z A),by rw [dp];simp;omega⟩
  rw [w];simpa using m
 cases f with
 | cT x y=>exact d _ x y zv jl (zt (by decide) (by decide)) rfl rfl wf.1 wf.2 λp q=> .cT p q
 | cV x y=>exact d _ x y [61] Qp (.one (by decide)) rfl rfl wf.1 wf.2 λp q=> .cV p q
 | cO x=>exact lst _ x xf [xf] ⟨_,g.free i (zt (by decide) (by decide))⟩ (by simp) rfl rfl wf λp=> .cO p
 | az x=>exact lst _ x XH [XH] ⟨_,g.free i (zt (by decide) (by decide))⟩ (by simp) rfl rfl wf λp=> .az p
 | cnt s k x=>
  obtain⟨⟨B,c⟩,b⟩:=wf
  have H:Lx (t++zb) (T++ [zb]) jl:=g.free i (zt (by decide) (by decide))
  have K:Lx (t++Wb) (T++ [Wb]) jl:=g.free i (zt (by decide) (by decide))
  have C:Lx (t++Ze++ [32]) (T++ [Ze]) Zj:=(g.free i (zt (by decide) (by decide))).blank
  have I:=C.free Ws (u:=zb) (zt (by decide) (by decide))
  have E:=C.free Ws (u:=Wb) (zt (by decide) (by decide))
  simp only [Aa,Aa2,or_false]at B
  rcases B with rfl | rfl | rfl | rfl
  ·exact lst _ x (zb++ [32]++dg k) [zb,dg k] ⟨_,by simpa using H.blank.free Ws (jS c)⟩ (by simp) (by simp [fT,wd,xx]) rfl b λp=> .one (by decide) c p
  ·exact lst _ x (Wb++ [32]++dg k) [Wb,dg k] ⟨_,by simpa using K.blank.free Ws (jS c)⟩ (by simp) (by simp [fT,wd,xx]) rfl b λp=> .one (by decide) c p
  ·exact lst _ x (Ze++ [32]++zb++ [32]++dg k) [Ze,zb,dg k] ⟨_,by simpa using I.blank.free Ws (jS c)⟩ (by simp) (by simp [fT,wd,xx]<;>rfl) rfl b λp=> .two (s:=zb) (by decide) c p
  ·exact lst _ x (Ze++ [32]++Wb++ [32]++dg k) [Ze,Wb,dg k] ⟨_,by simpa using E.blank.free Ws (jS c)⟩ (by simp) (by simp [fT,wd,xx]<;>rfl) rfl b λp=> .two (s:=Wb) (by decide) c p
def mG (l n b) (i:l<=2) (h:Lx t T a) (f:dq a) (g: ∀ t T a,Lx t T a->dq a-> ∃ts k,Lx (t++sT e) (T++ts) k/\TS N (aJ e) e ts n/\ts.length<=b):
 ∃ts k,Lx (t++br (u9 (aJ e<l)) 91 93 (sT e)) (T++ts) k/\TS N l e ts (n+1)/\ts.length<=b+2:=by
 unfold br
 by_cases q:aJ e<l
 ·rw [if_pos (decide_eq_true q)]
  obtain⟨ts,k,d,c,j⟩:=g (t++ [91]) (T++ [[91]]) Qp (h.free f (.one (by decide))) mI
  have m:=d.tok (u:= [93]) (.one (by decide)) (.inr rfl)
  refine⟨[91]::(ts++ [[93]]),Qp,?_,TS.down (.par (TS.down c (Ae8 _) (QJ e))) i (Aa7 _),by simp;omega⟩
  simpa using m
 ·rw [if_neg (by simp;omega)]
  obtain⟨ts,k,d,c,j⟩:=g t T a h f
  exact⟨ts,k,d,(TS.down c (by omega) (QJ e)).wk (Ad2 _),by omega⟩
def Ar (v: ∀t∈N,aQ t): ∀ s,s.wf N-> ∀ t T a,Lx t T a->dq a-> ∃ts k,Lx (t++sT s) (T++ts) k/\TS N (aJ s) s ts (2*s.dp+1)/\ts.length<=20*2 ^ s.dp-5:=by
 have two: ∀ e a b o k,Lex o jl->k<=1->sT e=br (u9 (aJ a<k)) 91 93 (sT a)++(32::(o++32::br (u9 (aJ b<k+1)) 91 93 (sT b)))->e.dp=max a.dp b.dp+1->aJ e=k->(∀ {ts h}{n},TS N k a ts n->TS N (k+1) b h n->TS N k e (ts++o::h) n) →
  (∀ t T x,Lx t T x->dq x-> ∃ts k,Lx (t++sT a) (T++ts) k/\TS N (aJ a) a ts (2*a.dp+1)/\ts.length<=20*2 ^ a.dp-5)->(∀ t T x,Lx t T x->dq x-> ∃ts k,Lx (t++sT b) (T++ts) k/\TS N (aJ b) b ts (2*b.dp+1)/\ts.length<=20*2 ^ b.dp-5) →
  ∀ t T x,Lx t T x->dq x-> ∃ts k,Lx (t++sT e) (T++ts) k/\TS N (aJ e) e ts (2*e.dp+1)/\ts.length<=20*2 ^ e.dp-5:=by
  intro e a b o k p L E dp z mk c d t T x g f
  obtain⟨ts,j,i,a2,a3⟩:=mG k (2*a.dp+1) _ (by omega) g f c
  have B:=(i.blank.free Ws p).blank
  obtain⟨h,A,r,F,J⟩:=mG (k+1) (2*b.dp+1) _ (by omega) B Ws d
  refine⟨ts++o::h,A,?_,?_,?_⟩
  ·rw [E];simpa using r
  ·rw [z];exact mk (a2.wk (by omega)) (F.wk (by omega))
  ·have G:2 ^ a.dp<=2 ^ (e.dp-1):=Ab9 (by decide) (by omega)
   have K:2 ^ b.dp<=2 ^ (e.dp-1):=Ab9 (by decide) (by omega)
   have w:2 ^ e.dp=2*2 ^ (e.dp-1):=by rw [show e.dp=(e.dp-1)+1 by omega,Ae4];simp;omega
   have l:1<=2 ^ a.dp:=Ad3
   have I:1<=2 ^ b.dp:=Ad3
   simp;omega
 intro s
 induction s with
 | fact f=>
  intro wf t T a g C
  obtain⟨ts,k,D,m,H⟩:=yj v f wf g C
  have l:1<=2 ^ f.dp:=Ad3
  exact⟨ts,k,D,.fact (m.wk (Ad2 _)),by show _<=20*2 ^ f.dp-5;omega⟩
 | neg a q=>
  intro wf t T x g f
  obtain⟨ts,j,i,a2,a3⟩:=mG 2 (2*a.dp+1) _ (by decide) (g.free f (u:=qj) (zt (by decide) (by decide))).blank Ws (q wf)
  have w:2 ^ (a.dp+1)=2*2 ^ a.dp:=by rw [Ae4];omega
  have l:1<=2 ^ a.dp:=Ad3
  refine⟨qj::ts,j,?_,?_,by show _<=20*2 ^ (a.dp+1)-5;simp;omega⟩
  ·simpa [sT]using i
  ·show TS N 2 (.neg a) (qj::ts) (2*(a.dp+1)+1)
   rw [show 2*(a.dp+1)+1=2*a.dp+1+1+1 by omega];exact .neg a2
 | bj a b c d=>intro wf;exact two _ a b Zg 1 (zt (by decide) (by decide)) (by decide) rfl rfl rfl (λx y=> .bj x y) (c wf.1) (d wf.2)
 | bh a b c d=>intro wf;exact two _ a b Ju 0 (zt (by decide) (by decide)) (by decide) rfl rfl rfl (λx y=> .bh x y) (c wf.1) (d wf.2)
def ZH (m: ∀t∈N,t.length<=8): ∀ e,e.wf N->(bT e).length+7<=16*2 ^ e.dp:=by
 intro e
 have d: ∀a b c:Nat,a+7<=16*2 ^ b->b<=c->a+7<=16*2 ^ c:=λa b c i h=>Ac1 i (Af5 _ (Ab9 (by decide) h))
 induction e with
 | name t=>intro wf;have:=m t wf;simp only [bT,Ex.dp];omega
 | same=>intro _;decide
 | all=>intro _;decide
 | none=>intro _;decide
 | turned a l=>intro wf;have:=l wf;have b:=qh (u9 (ax a<3)) 40 41 (bT a);simp only [bT,Ex.dp,Aa0,Ae4];omega
 | closed a l=>intro wf;have:=l wf;have b:=qh (u9 (ax a<3)) 40 41 (bT a);simp only [bT,Ex.dp,Aa0,Ae4];omega
 | plus a b g f=>intro wf;have i:=d _ _ (max a.dp b.dp) (g wf.1) (by omega);have h:=d _ _ (max a.dp b.dp) (f wf.2) (by omega);have j:=qh (u9 (ax a<0)) 40 41 (bT a);have k:=qh (u9 (ax b<1)) 40 41 (bT b);simp only [bT,Ex.dp,Aa3,Aa0,Ae4];omega
 | less a b g f=>intro wf;have i:=d _ _ (max a.dp b.dp) (g wf.1) (by omega);have h:=d _ _ (max a.dp b.dp) (f wf.2) (by omega);have j:=qh (u9 (ax a<0)) 40 41 (bT a);have k:=qh (u9 (ax b<1)) 40 41 (bT b);simp only [bT,Ex.dp,Aa3,Aa0,Ae4];omega
 | both a b g f=>intro wf;have i:=d _ _ (max a.dp b.dp) (g wf.1) (by omega);have h:=d _ _ (max a.dp b.dp) (f wf.2) (by omega);have j:=qh (u9 (ax a<1)) 40 41 (bT a);have k:=qh (u9 (ax b<2)) 40 41 (bT b);simp only [bT,Ex.dp,Aa3,Aa0,Ae4];omega
 | joined a b g f=>intro wf;have i:=d _ _ (max a.dp b.dp) (g wf.1) (by omega);have h:=d _ _ (max a.dp b.dp) (f wf.2) (by omega);have j:=qh (u9 (ax a<2)) 40 41 (bT a);have k:=qh (u9 (ax b<3)) 40 41 (bT b);simp only [bT,Ex.dp,Aa3,Aa0,Ae4];omega
def Fy: ∀k:Nat,k<1000->(aZ (k:Int)).length<=20:=by
 intro k a
 have h:(toString (k:Int))=Nat.repr k:=rfl
 unfold aZ
 rw [h,Ab1,String.length_toList]
 exact Ac1 ((Nat.length_repr_le_iff (by decide)).mpr (Ai5 a (by decide))) (Aa7 _)
def EV (e: ∀t∈N,t.length<=8) (f) (wf:f.wf N):(fT f).length+9<=100*2 ^ f.dp:=by
 have d: ∀a b c:Nat,a+7<=16*2 ^ b->b<=c->a+7<=16*2 ^ c:=λa b c g h=>Ac1 g (Af5 _ (Ab9 (by decide) h))
 cases f with
 | cT a b=>have g:=d _ _ (max a.dp b.dp) (ZH e a wf.1) (by lia);have h:=d _ _ (max a.dp b.dp) (ZH e b wf.2) (by lia);simp [fT,Fc.dp,Aa3,Aa0];lia
 | cV a b=>have g:=d _ _ (max a.dp b.dp) (ZH e a wf.1) (by lia);have h:=d _ _ (max a.dp b.dp) (ZH e b wf.2) (by lia);simp [fT,Fc.dp,Aa3,Aa0];lia
 | cO a=>have g:=ZH e a wf;simp [fT,Fc.dp,Aa3,Aa0,Af4];lia
 | az a=>have g:=ZH e a wf;simp [fT,Fc.dp,Aa3,Aa0,Af4];lia
 | cnt s k a=>
  have g:=ZH e a wf.2
  have h:=Fy k (Ai5 wf.1.2 (by decide))
  have l:0<2 ^ a.dp:=Nat.pow_pos (by decide)
  have j:(wd s).length<=10:=by
   have i:=wf.1.1
   simp [Aa,Aa2,or_false]at i
   rcases i with rfl | rfl | rfl | rfl<;>decide
  simp [fT,Fc.dp,Aa3,Aa0];lia
def oJ (k: ∀t∈N,t.length<=8): ∀ s,s.wf N->(sT s).length+9<=100*2 ^ s.dp:=by
 have d: ∀a b c:Nat,a+9<=100*2 ^ b->b<=c->a+9<=100*2 ^ c:=λa b c i h=>Ac1 i (Af5 _ (Ab9 (by decide) h))
 intro s
 induction s with
 | fact f=>exact EV k f
 | neg a m=>intro wf;have:=m wf;have b:=qh (u9 (aJ a<2)) 91 93 (sT a);simp only [sT,Sy.dp,Aa0,Ae4];omega
 | bj a b g e=>intro wf;have i:=d _ _ (max a.dp b.dp) (g wf.1) (by omega);have h:=d _ _ (max a.dp b.dp) (e wf.2) (by omega);have j:=qh (u9 (aJ a<1)) 91 93 (sT a);have l:=qh (u9 (aJ b<2)) 91 93 (sT b);simp only [sT,Sy.dp,Aa3,Aa0,Af4,Ae4];omega
 | bh a b g e=>intro wf;have i:=d _ _ (max a.dp b.dp) (g wf.1) (by omega);have h:=d _ _ (max a.dp b.dp) (e wf.2) (by omega);have j:=qh (u9 (aJ a<0)) 91 93 (sT a);have l:=qh (u9 (aJ b<1)) 91 93 (sT b);simp only [sT,Sy.dp,Aa3,Aa0,Af4,Ae4];omega
inductive Gd:Nat->D->Prop
 | str {n:Nat}(s:Tx):Gd n (.str s)
 | int {n:Nat}(i:Nat):Gd n (.int (i:Int))
 | tup {n:Nat}{ds:List D}(hl:ds.length<=100) (h: ∀x∈ds,Gd n x):Gd (n+1) (.tup ds)
def ui (n) (h):Gw .ne (.v (.int (n:Int))) (.v (.int (n:Int))) h=y0 false:=by simp [G8]
def same_str (m) (s) (h):call prog (m+1) "_law_same" [.v (.str s),.v (.str s)] h= .ok (.v (.bl true)) h:=by
 rw [Gb rfl _ _ _ rfl]
 simp only [Qs]
 show Gu _ (execs _ _ [y0 (.v (.str s)),y0 (.v (.str s))] h)=_
 have a:eval (k8 m) (.cmp .eq .v0 .v1) [y0 (.v (.str s)),y0 (.v (.str s))] h= .ok (.v (.bl k9)) h:=by
  simp_all [Xe,beq_self_eq_true]
 rw [xa rfl,jq rfl (Qc rfl ?_),Ga _ _ _ rfl]
 rw [eval,show eval (k8 m) (.cu .v0 .str) [y0 (.v (.str s)),y0 (.v (.str s))] h= .ok (.v (.bl k9)) h from rfl]
 simp only [R.aa,Gn,R.ab,a]
def qZ (m i:Nat) (h):call prog (m+1) "_law_same" [.v (.int (i:Int)),.v (.int (i:Int))] h= .ok (.v (.bl true)) h:=by
 rw [Gb rfl _ _ _ rfl]
 simp only [Qs]
 show Gu _ (execs _ _ [y0 (.v (.int i)),y0 (.v (.int i))] h)=_
 have a:eval (k8 m) (.cmp .eq .v0 .v1) [y0 (.v (.int i)),y0 (.v (.int i))] h= .ok (.v (.bl k9)) h:=by
  have z:=by
   have:=Qh i i h
   rwa [decide_eq_true rfl]at this
  simp_all [z]
 rw [xa rfl,xa rfl,qa (Qc rfl ?_),Ga _ _ _ rfl]
 rw [eval,show eval (k8 m) (.cu .v0 .int) [y0 (.v (.int i)),y0 (.v (.int i))] h= .ok (.v (.bl k9)) h from rfl]
 simp only [R.aa,Gn,R.ab]
 rw [eval,show eval (k8 m) (.not (.cu .v0 .bool)) [y0 (.v (.int i)),y0 (.v (.int i))] h= .ok (.v (.bl k9)) h from rfl]
 simp only [R.aa,Gn,R.ab,a]
def oQ (h): ∀ n m d,Gd n d->call prog (m+n+1) "_law_same" [.v d,.v d] h= .ok (.v (.bl true)) h:=by
 intro n
 induction n with
 | zero=>
  intro m d g
  cases g with
  | str s=>exact same_str _ s h
  | int i=>exact qZ _ i h
 | succ n k=>
  intro m d g
  cases g with
  | str s=>exact same_str _ s h
  | int i=>exact qZ _ i h
  | @tup _ a p o=>
   rw [show m+(n+1)+1=(m+n+1)+1 by omega,Gb rfl _ _ _ rfl]
   simp only [Qs]
   show Gu _ (execs _ _ [y0 (.v (.tup a)),y0 (.v (.tup a))] h)=_
   have f:eval (k8 (m+n+1)) (.bi .len (.a .v1)) [y0 (.v (.tup a)),y0 (.v (.tup a))] h= .ok (.v (.int (a.length:Int))) h:=rfl
   have e:eval (k8 (m+n+1)) (.bi .len (.a .v0)) [y0 (.v (.tup a)),y0 (.v (.tup a))] h= .ok (.v (.int (a.length:Int))) h:=rfl
   have l:eval (k8 (m+n+1)) Xl [y0 (.v (.tup a)),y0 (.v (.tup a))] h= .ok (.own (((Ac4 a.length).map λ(i:Nat)=>D.int (i:Int)).map λ_=> .bl k9)) h:=by
    rw [Xl,Xm (ds:=(Ac4 a.length).map λ(i:Nat)=>D.int (i:Int)) (λ_=> .bl k9) ?_ (by rw [Gc];simp;omega)]
    ·intro d hd
     obtain⟨i,b,rfl⟩:=Ad6.mp hd
     have b:=Ai3.mp b
     have ix: ∀h,bI (.v (.tup a)) (.v (.int (i:Int))) h=y0 a[i]:=λh=>by
      rw [au,Xr a i b,Ab b]
     refine⟨[y0 (.v (.int (i:Int))),y0 (.v (.tup a)),y0 (.v (.tup a))],rfl,.v (.bl k9),?_,rfl⟩
     simp_all [ix,k m a[i] (o _ (Ak1 b))]
    ·rw [Gv,f]
     simp only [R.aa,int?_int,R.ab]
     rw [if_pos (by rw [GO];omega)]
     simp
   have c:eval (k8 (m+n+1)) (.bi .all (.a Xl)) [y0 (.v (.tup a)),y0 (.v (.tup a))] h= .ok (.v (.bl k9)) h:=by
    rw [eval,Gj,l]
    have c:((Ac4 a.length).map λ(i:Nat)=>D.int (i:Int)).map (λ_=>D.bl k9)=Aa1 a.length (.bl k9):=by
     rw [Ak4];simp
    simp only [R.aa,Gj,c]
    show((R.of h ((W.bg h (.own _)).bind G9)).bind _)=_
    rw [show W.bg h (.own (Aa1 a.length (D.bl k9)))=y0 (Aa1 a.length (D.bl k9))from rfl,Ad5,ZA]
    have: ∀n,(Aa1 n k9).all id=true:=by intro n;simp
    simp [this,aF]
   rw [qa (w:= .v (.bl k9)) (h1:=h),Ga _ _ _ rfl]
   rw [Wm (h1:=h) rfl,xa]
   ·exact qa (Qc rfl c)
   ·have j:eval (k8 (m+n+1)) (.cmp .ne (.bi .len (.a .v0)) (.bi .len (.a .v1))) [y0 (.v (.tup a)),y0 (.v (.tup a))] h= .ok (.v (.bl y9)) h:=by
     rw [eval,e,R.aa,f,R.aa,ui];rfl
    rw [Gr,eval,show eval (k8 (m+n+1)) (.not (.cu .v0 .tuple)) [y0 (.v (.tup a)),y0 (.v (.tup a))] h= .ok (.v (.bl y9)) h from rfl]
    simp only [R.aa,Gn,R.ab,j]
def Gd.wk (h:Gd n d) (e:n<=m):Gd m d:=by
 induction h generalizing m with
 | str s=>exact .str s
 | int i=>exact .int i
 | tup b _ c=>obtain⟨k,rfl⟩: ∃k,m=k+1:=⟨m-1,by omega⟩;exact .tup b λx a=>c x a (by omega)
def hX (h:Gd n x) (s):Gd (n+1) (.tup [.str s,x]):= .tup (by simp) λy a=>by
 simp only [Aa,Aa2,or_false]at a
 rcases a with rfl | rfl
 ·exact .str s
 ·exact h
def fD (h:Gd n x) (b:Gd m z) (s) (h1:n<=k) (c:m<=k):Gd (k+1) (.tup [.str s,x,z]):= .tup (by simp) λy a=>by
 simp only [Aa,Aa2,or_false]at a
 rcases a with rfl | rfl | rfl
 ·exact .str s
 ·exact h.wk h1
 ·exact b.wk c
theorem qr: ∀e:Ex,Gd (e.dp+1) (ag e)
 | .name t=>hX (.str t) _
 | .same=> .tup (by simp) λy c=>by rw [Ab8.mp c];exact .str _
 | .all=> .tup (by simp) λy c=>by rw [Ab8.mp c];exact .str _
 | .none=> .tup (by simp) λy c=>by rw [Ab8.mp c];exact .str _
 | .turned a=>hX (qr a) _
 | .closed a=>hX (qr a) _
 | .plus a b=>fD (qr a) (qr b) _ (by simp only [Ex.dp];omega) (by simp only [Ex.dp];omega)
 | .less a b=>fD (qr a) (qr b) _ (by simp only [Ex.dp];omega) (by simp only [Ex.dp];omega)
 | .both a b=>fD (qr a) (qr b) _ (by simp only [Ex.dp];omega) (by simp only [Ex.dp];omega)
 | .joined a b=>fD (qr a) (qr b) _ (by simp only [Ex.dp];omega) (by simp only [Ex.dp];omega)
theorem Q9: ∀s:Sy,Gd (s.dp+2) (ai s)
 | .fact f=>by
  cases f with
  | cT a b=>exact fD (qr a) (qr b) _ (by simp only [Sy.dp,Fc.dp];omega) (by simp only [Sy.dp,Fc.dp];omega)
  | cV a b=>exact fD (qr a) (qr b) _ (by simp only [Sy.dp,Fc.dp];omega) (by simp only [Sy.dp,Fc.dp];omega)
  | cO a=>exact hX (qr a) _
  | az a=>exact hX (qr a) _
  | cnt s k a=>exact fD (n:=0) (.int k) (qr a) _ (by omega) (by simp only [Sy.dp,Fc.dp];omega)
 | .neg a=>hX (Q9 a) _
 | .bj a b=>fD (Q9 a) (Q9 b) _ (by simp only [Sy.dp];omega) (by simp only [Sy.dp];omega)
 | .bh a b=>fD (Q9 a) (Q9 b) _ (by simp only [Sy.dp];omega) (by simp only [Sy.dp];omega)
def cI (k:Tx):Nat:=if k=jl then 1 else if k=wx then 2 else 0
def vF (n):(Aa1 n ([32]:Tx)).flatten=Aa1 n 32:=by
 induction n with
 | zero=>rfl
 | succ n a=>rw [Ac9,Ai0,a,Ac9];rfl
def lU (n:Nat) (h) (a:n<=3):GA .mul (.v (.str [32])) (.v (.int (n:Int))) h= .ok (.v (.str (Aa1 n 32))) h:=by
 rw [mul_str [32] n h (by omega) (by simp;omega),vF]
def Lex.kind (h:Lex t k):k=jl\/k=wx\/k=Qp:=by cases h<;>simp
def Lex.ends (h:Lex t k): ∃c d r q,t=c::r/\t=q++ [d]/\cI (a8 c)=cI k/\cI (a8 d)=cI k:=by
 have ne:t≠ []:=by cases h<;>first | assumption | simp
 have all: ∀c∈t,a8 c=k:=by
  cases h with
  | word _ a=>exact a
  | km _ a=>exact a
  | one a=>intro c b;rw [Ab8.mp b];exact a
 refine⟨t.head ne,t.getLast ne,t.tail,t.dropLast,(List.cons_head_tail ne).symm,(List.dropLast_concat_getLast ne).symm,?_,?_⟩
 ·rw [all _ (List.head_mem ne)]
 ·rw [all _ (List.getLast_mem ne)]
def tq (m c) (h):call prog (m+1) "_law_sort" [.v (.str [c])] h= .ok (.v (.int (cI (a8 c):Nat))) h:=by
 rw [Gb rfl _ _ _ rfl]
 have e:cI (a8 c)=(bB.contains c).toNat+2*(fe.contains c).toNat:=by
  unfold a8
  have a:bB.contains c=k9->fe.contains c=k9->False:=λd f=>by
   have d:c∈bB:=by simpa using d
   have: ∀c∈bB,fe.contains c=false:=by decide
   rw [this c d]at f;cases f
  cases l:bB.contains c with
  | true=>
   cases g:fe.contains c with
   | true=>exact(a l g).elim
   | false=>rw [if_pos rfl];rfl
  | false=>
   rw [if_neg (by simp)]
   cases g:fe.contains c with
   | true=>rw [if_pos rfl];rfl
   | false=>
    rw [if_neg (by simp)]
    split<;>rfl
 have i: ∀b:Bool,cU .int [.v (.bl b)] h= .ok (.v (.int b.toNat)) h:=λb=>rfl
 have j:Gi .mul 2 ((fe.contains c).toNat:Int)=y0 ((2*(fe.contains c).toNat:Nat):Int):=WC 2 _ (by decide)
 have k:Gi .add ((bB.contains c).toNat:Int) ((2*(fe.contains c).toNat:Nat):Int)=y0 ((cI (a8 c):Nat):Int):=by rw [e,Xg];rfl
 simp only [JI]
 show Gu _ (execs _ _ [y0 (.v (.str [c])),u0] h)=_
 rw [za (Y1:= [y0 (.v (.str [c])),y0 (.v (.str bB))]) rfl]
 rw [qa (Qc rfl ?_),Ga _ _ _ rfl]
 simp_all [J3,i,j,k]
abbrev cg (w:W) (r:Nat) (t:Tx) (x y z:Option W):Sl:= [y0 w,y0 (.v (.ref r)),y0 (.v (.str t)),x,y,z]
def yP (c) (r) (h) (a:(c::r).length<=1000):bI (.v (.str (c::r))) (.v (.int 0)) h=y0 (.str [c]):=by
 rw [xC,if_pos (by rw [Gc];omega)]
 have:bc (c::r) 0=y0 c:=Xr (c::r) 0 (by simp)
 rw [this];rfl
def ua (d) (q) (h) (a:(q++ [d]).length<=1000):bI (.v (.str (q++ [d]))) (.v (.int (-1))) h=y0 (.str [d]):=by
 rw [xC,if_pos (by rw [Gc];omega),(se q d).1];rfl
section
variable {m r:Nat}{w:W}{ts:List Tx}
def DT (hw: ∀h i,bI w (.v (.int i)) h=bc (ts.map D.str) i) (rd: ∀t x y z,Gp (cg w r t x y z) 0=y0 w)(C:k<ts.length) (X: ∀t∈ts,(∃ J,Lex t J)/\t.length<=10){t a:Tx}(S:Lx t (ts.take k) a) (T:(k=0/\a=Zj)\/ ∃p,k=p+1/\ ∃u,ts[p]? =y0 u/\Lex u a) (ht:t.length<=500000){h:AH}(P:PH h) (Y:r<h.length) (z:Option W):
 ∃t' L M h',Lx t' (ts.take (k+1)) L/\(∃ u,ts[k]? =y0 u/\Lex u L)/\t'.length<=t.length+13/\PH h'/\h'.length=h.length ∧
  execs (k8 (m+3)) Jh (cg w r t (y0 (.v (.int (k:Int)))) (y0 (.v (.str ts[k]))) z) h= .next (cg w r t' (y0 (.v (.int (k:Int)))) (y0 (.v (.str ts[k]))) M) h':=by
 obtain⟨⟨J,n⟩,ll⟩:=X ts[k] (Ak1 C)
 obtain⟨v,e,hv,P1,l1,G⟩:=Jf (m+2) P Y (show 0<3 by decide) (by decide)
 have G:call prog (m+3) "_law_next" [.v (.ref r),.v (.int 3)] h= .ok (.v (.int (v:Int))) e:=G
 obtain⟨c,d,rr,qq,c1,c2,c3,c4⟩:=n.ends
 simp only [Jh]
 rw [za (Y1:=cg w r t (y0 (.v (.int (k:Int)))) (y0 (.v (.str ts[k]))) (y0 (.v (.int (v:Int))))) (h1:=e) (by simp_all [G])]
 have s:ts.take (k+1)=ts.take k++ [ts[k]]:=by rw [List.take_succ_eq_append_getElem C]
 have gt: ∀h,Gw .gt (.v (.int (k:Int))) (.v (.int 0)) h=y0 (u9 (0<k)):=λh=>by
  rw [XJ];congr 1;rw [decide_eq_decide];omega
 have fin: ∀g:Nat,g<=3->(k=0\/0<g\/ ∃b,(∃ u,Lex u b)/\b=a/\(cI J=0\/cI J≠cI b))-> ∃t' L M,Lx t' (ts.take (k+1)) L/\(∃ u,ts[k]? =y0 u/\Lex u L)/\t'.length<=t.length+13 ∧
  execs (k8 (m+3)) (.cons (.iff (.cmp .gt .v3 (.int 0)) (.a (.af 2 (.bin .add .v2 (.bin .mul (.str [32]) .v5)))) .nil) (.a (.af 2 (.bin .add .v2 .v4)))) (cg w r t (y0 (.v (.int (k:Int)))) (y0 (.v (.str ts[k]))) (y0 (.v (.int (g:Int))))) e= .next (cg w r t' (y0 (.v (.int (k:Int)))) (y0 (.v (.str ts[k]))) M) e:=by
  intro g l j
  by_cases q:k=0
  ·have f:dq a:=by
    rcases T with⟨_,rfl⟩ | ⟨p,hp,_⟩
    ·exact Ws
    ·omega
   refine⟨t++ts[k],J,y0 (.v (.int (g:Int))),by rw [s];exact S.free f n,⟨_,Ab C,n⟩,by simp;omega,?_⟩
   rw [xa (by simp_all [gt,decide_eq_false (show ¬0<k by omega)])]
   rw [za (Y1:=cg w r (t++ts[k]) (y0 (.v (.int (k:Int)))) (y0 (.v (.str ts[k]))) (y0 (.v (.int (g:Int))))) (h1:=e)]
   ·rfl
   ·have bs:GA .add (.v (.str t)) (.v (.str ts[k])) e= .ok (.v (.str (t++ts[k]))) e:=by
     rw [Qb,if_pos (by rw [Gc];omega)]
    simp_all [bs]
  ·obtain⟨b,h2,h3,h4⟩:=S.blanks g
   have Z:b≠J\/J=Qp:=by
    rcases Nat.eq_zero_or_pos g with O | O
    ·rw [h3 O]
     rcases j with j | j | ⟨b',H,rfl,j | j⟩
     ·exact absurd j q
     ·omega
     ·refine .inr ?_
      rcases n.kind with rfl | rfl | rfl
      ·exact absurd j (by decide)
      ·exact absurd j (by decide)
      ·rfl
     ·exact .inl λz=>j (by rw [z])
    ·rw [h4 O]
     refine .inl ?_
     rcases n.kind with rfl | rfl | rfl<;>decide
   refine⟨t++Aa1 g 32++ts[k],J,y0 (.v (.int (g:Int))),by rw [s];exact h2.tok n Z,⟨_,Ab C,n⟩,by simp;omega,?_⟩
   rw [za (Y1:=cg w r (t++Aa1 g 32) (y0 (.v (.int (k:Int)))) (y0 (.v (.str ts[k]))) (y0 (.v (.int (g:Int))))) (h1:=e)]
   ·rw [za (Y1:=cg w r (t++Aa1 g 32++ts[k]) (y0 (.v (.int (k:Int)))) (y0 (.v (.str ts[k]))) (y0 (.v (.int (g:Int))))) (h1:=e)]
    ·rfl
    ·have bs:GA .add (.v (.str (t++Aa1 g 32))) (.v (.str ts[k])) e= .ok (.v (.str (t++Aa1 g 32++ts[k]))) e:=by
      rw [Qb,if_pos (by rw [Gc];simp;omega)]
     simp_all [bs]
   ·rw [Wm (h1:=e) (by simp_all [gt,decide_eq_true (show 0<k by omega)])]
    have bs:GA .add (.v (.str t)) (.v (.str (Aa1 g 32))) e= .ok (.v (.str (t++Aa1 g 32))) e:=by
     rw [Qb,if_pos (by rw [Gc];simp;omega)]
    simp_all [lU g e l,bs]
 have o:eval (k8 (m+3)) (.cmp .gt .v3 (.int 0)) (cg w r t (y0 (.v (.int (k:Int)))) (y0 (.v (.str ts[k]))) (y0 (.v (.int (v:Int))))) e= .ok (.v (.bl (u9 (0<k)))) e:=by simp_all [gt]
 have E:eval (k8 (m+3)) (.cmp .eq .v5 (.int 0)) (cg w r t (y0 (.v (.int (k:Int)))) (y0 (.v (.str ts[k]))) (y0 (.v (.int (v:Int))))) e= .ok (.v (.bl (u9 (v=0)))) e:=by
  have z:Gw .eq (.v (.int (v:Int))) (.v (.int 0)) e=y0 (u9 (v=0)):=Qh v 0 e
  simp_all [z]
 have V:eval (k8 (m+3)) (.call "_law_sort" (.a (.ix .v4 (.int 0)))) (cg w r t (some (.v (.int (k:Int)))) (some (.v (.str ts[k]))) (some (.v (.int (v:Int))))) e= .ok (.v (.int (cI J:Nat))) e:=by
  have i0:bI (.v (.str ts[k])) (.v (.int 0)) e=y0 (.str [c]):=by rw [c1]at ll ⊢;exact yP c rr e (by omega)
  simp_all [i0,tq (m+2) c e,c3]
 have step: ∀(b:Bool) (g:Nat),Gr (k8 (m+3)) (.and (.cmp .gt .v3 (.int 0)) (.and (.cmp .eq .v5 (.int 0)) (.and (.cmp .gt (.call "_law_sort" (.a (.ix .v4 (.int 0)))) (.int 0)) (.cmp .eq (.call "_law_sort" (.a (.ix .v4 (.int 0)))) (.call "_law_sort" (.a (.ix (.ix .v0 (.bin .sub .v3 (.int 1))) (.neg (.int 1))))))))) (cg w r t (some (.v (.int (k:Int)))) (some (.v (.str ts[k]))) (some (.v (.int (v:Int))))) e= .ok b e->g=(if b then 1 else v)->(k=0\/0<g\/ ∃b,(∃ u,Lex u b)/\b=a/\(cI J=0\/cI J≠cI b)) →
  ∃t' L M h',Lx t' (ts.take (k+1)) L/\(∃ u,ts[k]? =some u/\Lex u L)/\t'.length<=t.length+13/\PH h'/\h'.length=h.length/\execs (k8 (m+3)) (.cons (.iff (.and (.cmp .gt .v3 (.int 0)) (.and (.cmp .eq .v5 (.int 0)) (.and (.cmp .gt (.call "_law_sort" (.a (.ix .v4 (.int 0)))) (.int 0)) (.cmp .eq (.call "_law_sort" (.a (.ix .v4 (.int 0)))) (.call "_law_sort" (.a (.ix (.ix .v0 (.bin .sub .v3 (.int 1))) (.neg (.int 1))))))))) (.a (.af 5 (.int 1))) .nil) (.cons (.iff (.cmp .gt .v3 (.int 0)) (.a (.af 2 (.bin .add .v2 (.bin .mul (.str [32]) .v5)))) .nil) (.a (.af 2 (.bin .add .v2 .v4))))) (cg w r t (some (.v (.int (k:Int)))) (some (.v (.str ts[k]))) (some (.v (.int (v:Int))))) e= .next (cg w r t' (some (.v (.int (k:Int)))) (some (.v (.str ts[k]))) M) h':=by
  intro b g H l j
  obtain⟨t',L,M,f1,f2,f3,Q⟩:=fin g (by subst l;split<;>omega) j
  refine⟨t',L,M,e,f1,f2,f3,P1,l1,?_⟩
  cases b with
  | true=>
   have l:g=1:=l
   subst l
   rw [za (Y1:=cg w r t (y0 (.v (.int (k:Int)))) (y0 (.v (.str ts[k]))) (y0 (.v (.int ((1:Nat):Int))))) (h1:=e) (by rw [Wm H];rfl)]
   exact Q
  | false=>
   have l:g=v:=l
   subst l
   rw [za (Y1:=cg w r t (y0 (.v (.int (k:Int)))) (y0 (.v (.str ts[k]))) (y0 (.v (.int (g:Int))))) (h1:=e) (by rw [Zn H];rfl)]
   exact Q
 rcases T with⟨k0,_⟩ | ⟨p,kp,u,up,N⟩
 ·refine step y9 v ?_ rfl (.inl k0)
  rw [Gr,eval,o,decide_eq_false (by omega)]
  simp only [R.aa,Gn,R.ab]
 ·by_cases A:v=0
  ·have hu:u.length<=10:=(X u (Aj up)).2
   obtain⟨_,B,_,q',_,u2,_,u4⟩:=N.ends
   have ep:eval (k8 (m+3)) (.call "_law_sort" (.a (.ix (.ix .v0 (.bin .sub .v3 (.int 1))) (.neg (.int 1))))) (cg w r t (some (.v (.int (k:Int)))) (some (.v (.str ts[k]))) (some (.v (.int (v:Int))))) e= .ok (.v (.int (cI a:Nat))) e:=by
    have z:Gi .sub (k:Int) 1=y0 ((p:Nat):Int):=by rw [xn];congr 1;omega
    have i1:bI w (.v (.int (p:Int))) e=y0 (.str u):=by
     rw [hw,Xr _ p (by simp;omega),Ad9,up];rfl
    have i2:bI (.v (.str u)) (.v (.int (-1))) e=y0 (.str [B]):=by rw [u2]at hu ⊢;exact ua B q' e (by omega)
    have i3:eval (k8 (m+3)) (.ix (.ix .v0 (.bin .sub .v3 (.int 1))) (.neg (.int 1))) (cg w r t (y0 (.v (.int (k:Int)))) (y0 (.v (.str ts[k]))) (y0 (.v (.int (v:Int))))) e= .ok (.v (.str [B])) e:=by
     rw [eval,eval,eval,rd]
     show((((R.ok w e).bind _).bind _))=_
     simp_all [z,i1,i2]
    rw [eval,Gj,i3]
    simp_all [tq (m+2) B e,u4]
   have K:eval (k8 (m+3)) (.cmp .gt (.call "_law_sort" (.a (.ix .v4 (.int 0)))) (.int 0)) (cg w r t (some (.v (.int (k:Int)))) (some (.v (.str ts[k]))) (some (.v (.int (v:Int))))) e= .ok (.v (.bl (decide (0<cI J)))) e:=by
    have z:Gw .gt (.v (.int (cI J:Nat))) (.v (.int 0)) e=y0 (u9 (0<cI J)):=by
     rw [XJ];congr 1;rw [decide_eq_decide];omega
    rw [eval,V]
    simp_all [z]
   have U:eval (k8 (m+3)) (.cmp .eq (.call "_law_sort" (.a (.ix .v4 (.int 0)))) (.call "_law_sort" (.a (.ix (.ix .v0 (.bin .sub .v3 (.int 1))) (.neg (.int 1)))))) (cg w r t (some (.v (.int (k:Int)))) (some (.v (.str ts[k]))) (some (.v (.int (v:Int))))) e= .ok (.v (.bl (decide (cI J=cI a)))) e:=by
    rw [eval,V,R.aa,ep,R.aa,Qh];rfl
   by_cases F:0<cI J
   ·by_cases I:cI J=cI a
    ·refine step k9 1 ?_ rfl (.inr (.inl (by decide)))
     rw [Gr,eval,o,decide_eq_true (by omega)]
     simp only [R.aa,Gn,R.ab]
     rw [eval,E,decide_eq_true A]
     simp only [R.aa,Gn,R.ab]
     rw [eval,K,decide_eq_true F]
     simp only [R.aa,Gn,R.ab,U,decide_eq_true I]
    ·refine step y9 v ?_ rfl (.inr (.inr ⟨a,⟨u,N⟩,rfl,.inr I⟩))
     rw [Gr,eval,o,decide_eq_true (by omega)]
     simp only [R.aa,Gn,R.ab]
     rw [eval,E,decide_eq_true A]
     simp only [R.aa,Gn,R.ab]
     rw [eval,K,decide_eq_true F]
     simp only [R.aa,Gn,R.ab,U,decide_eq_false I]
   ·refine step y9 v ?_ rfl (.inr (.inr ⟨a,⟨u,N⟩,rfl,.inl (by omega)⟩))
    rw [Gr,eval,o,decide_eq_true (by omega)]
    simp only [R.aa,Gn,R.ab]
    rw [eval,E,decide_eq_true A]
    simp only [R.aa,Gn,R.ab]
    rw [eval,K,decide_eq_false F]
    simp only [R.aa,Gn,R.ab]
  ·refine step y9 v ?_ rfl (.inr (.inl (by omega)))
   rw [Gr,eval,o,decide_eq_true (by omega)]
   simp only [R.aa,Gn,R.ab]
   rw [eval,E,decide_eq_false A]
   simp only [R.aa,Gn,R.ab]
end
def d9 (x:Tx):Prop:=(∃ k,Lex x k)/\x.length<=10
def TE.lex (h:TE N l e ts n): ∀x∈ts,d9 x:=by
 have w: ∀ t x,(∀ c∈t,97<=c/\c<=122)->t≠ []->t.length<=10->x∈ [t]->d9 x:=λt x i d k a=>by rw [Ab8.mp a];exact⟨⟨_,zt d i⟩,k⟩
 have o: ∀ c,a8 c=Qp->d9 [c]:=λc f=>⟨⟨_,.one f⟩,by simp⟩
 have two: ∀ {ts j}{c},a8 c=Qp->(∀ x∈ts,d9 x)->(∀ x∈j,d9 x)-> ∀x∈ts++ [c]::j,d9 x:=λ{ts j c} f i d x a=>by
  rcases Ac8.mp a with a | a
  ·exact i x a
  ·rcases Aa.mp a with rfl | a
   ·exact o c f
   ·exact d x a
 induction h with
 | name h g=>intro x a;rw [Ab8.mp a];exact⟨⟨_,Q3 g⟩,by have:=g.hi;omega⟩
 | same=>intro x a;exact w Zi x (by decide) (by decide) (by decide) a
 | all=>intro x a;exact w Wq x (by decide) (by decide) (by decide) a
 | none=>intro x a;exact w xi x (by decide) (by decide) (by decide) a
 | turned _ b=>intro x a;rcases Aa.mp a with rfl | a;exact o 126 (by decide);exact b x a
 | closed _ b=>intro x a;rcases Aa.mp a with rfl | a;exact o 94 (by decide);exact b x a
 | par _ b=>
  intro x a
  rcases Aa.mp a with rfl | a
  ·exact o 40 (by decide)
  ·exact two (by decide) b (λx a=>by cases a) x a
 | up _ _ b=>exact b
 | plus _ _ i1 i2=>exact two (by decide) i1 i2
 | less _ _ i1 i2=>exact two (by decide) i1 i2
 | both _ _ i1 i2=>exact two (by decide) i1 i2
 | joined _ _ i1 i2=>exact two (by decide) i1 i2
def Q5 {P:Tx->Prop}(c:P u) (h1: ∀x∈ts,P x) (b: ∀x∈us,P x): ∀x∈ts++u::us,P x:=λx a=>by
 rcases Ac8.mp a with a | a
 ·exact h1 x a
 ·rcases Aa.mp a with rfl | a
  ·exact c
  ·exact b x a
def fL (t) (h1: ∀c∈t,97<=c/\c<=122) (a:t≠ []) (b:t.length<=10):d9 t:=⟨⟨_,zt a h1⟩,b⟩
theorem TF.lex (h:TF N f ts n): ∀x∈ts,d9 x:=by
 have c: ∀x∈ [],d9 x:=λx i=>by cases i
 have g: ∀s∈ [zb,Wb],d9 s:=λs e=>by
  simp only [Aa,Aa2,or_false]at e
  rcases e with rfl | rfl
  ·exact fL _ (by decide) (by decide) (by decide)
  ·exact fL _ (by decide) (by decide) (by decide)
 have hd: ∀k,k<100->d9 (dg k):=λk d=>⟨⟨_,jS d⟩,by have:=(iE k d).2.1;omega⟩
 cases h with
 | cT a b=>exact Q5 (fL _ (by decide) (by decide) (by decide)) a.lex b.lex
 | cV a b=>exact Q5 ⟨⟨_,.one (by decide)⟩,by decide⟩ a.lex b.lex
 | cO a=>exact Q5 (fL _ (by decide) (by decide) (by decide)) c a.lex
 | az a=>exact Q5 (fL _ (by decide) (by decide) (by decide)) c a.lex
 | one e d a=>exact Q5 (g _ e) c (Q5 (hd _ d) c a.lex)
 | two e d a=>exact Q5 (fL _ (by decide) (by decide) (by decide)) c (Q5 (g _ e) c (Q5 (hd _ d) c a.lex))
theorem TS.lex (h:TS N l s ts n): ∀x∈ts,d9 x:=by
 have b: ∀x∈ [],d9 x:=λx c=>by cases c
 induction h with
 | fact h=>exact h.lex
 | neg _ a=>exact Q5 (fL _ (by decide) (by decide) (by decide)) b a
 | par _ a=>exact Q5 ⟨⟨_,.one (by decide)⟩,by decide⟩ b (Q5 ⟨⟨_,.one (by decide)⟩,by decide⟩ a b)
 | up _ _ a=>exact a
 | bj _ _ i1 i2=>exact Q5 (fL _ (by decide) (by decide) (by decide)) i1 i2
 | bh _ _ i1 i2=>exact Q5 (fL _ (by decide) (by decide) (by decide)) i1 i2
section
variable {m r:Nat}{w:W}{ts:List Tx}
theorem n9 (f: ∀h i,bI w (.v (.int i)) h=bc (ts.map D.str) i) (rd: ∀t x y z,Gp (cg w r t x y z) 0=y0 w) (e: ∀t∈ts,(∃ O,Lex t O)/\t.length<=10) (N:ts.length<=20000): ∀ j k,k+j=ts.length-> ∀ t a x y z h,Lx t (ts.take k) a->((k=0/\a=Zj)\/ ∃p,k=p+1/\ ∃u,ts[p]? =y0 u/\Lex u a)->t.length<=13*k+10->PH h->r<h.length →
 ∃t' M L q J h',Lx t' ts M/\t'.length<=13*ts.length+10/\PH h'/\h'.length=h.length/\GB (Gz [3,4] y9) (λY h=>execs (k8 (m+3)) Jh Y h) (GN k ((ts.drop k).map .str)) (cg w r t x y z) h= .next (cg w r t' L q J) h'
 | 0,k,G,t,a,x,y,z,h,c,_,d,P,_=>by
  obtain rfl:k=ts.length:=by omega
  rw [Ai8]at c
  refine⟨t,a,x,y,z,h,c,d,P,rfl,?_⟩
  rw [Al8];rfl
 | j+1,k,G,t,a,x,y,z,h,c,F,d,P,s=>by
  have b:k<ts.length:=by omega
  obtain⟨C,E,H,K,o,Q,S,g,B,A⟩:=DT f rd b e c F (by omega) P s z
  obtain⟨t',M,L,q,J,h',l,I,v,n,R⟩:=n9 f rd e N j (k+1) (by omega) C E (y0 (.v (.int k))) (y0 (.v (.str ts[k]))) H K o (.inr ⟨k,rfl,Q⟩) (by omega) g (by omega)
  refine⟨t',M,L,q,J,h',l,I,v,n.trans B,?_⟩
  rw [Ah0 b,Ab3,GN,xg rfl A]
  exact R
def C5 (g:w= .bor (ts.map .str)\/w= .v (.lst (ts.map .str))) (E: ∀t∈ts,d9 t) (L:ts.length<=20000)(P:PH h) (C:r<h.length):
 ∃t a h',Lx t ts a/\t.length<=13*ts.length+20/\PH h'/\h'.length=h.length/\call prog (m+4) "_law_spaced" [w,.v (.ref r)] h= .ok (.v (.str t)) h':=by
 have G: ∀h i,bI w (.v (.int i)) h=bc (ts.map D.str) i:=λh i=>by rcases g with rfl | rfl<;>rfl
 have rd: ∀t x y z,Gp (cg w r t x y z) 0=y0 w:=λt x y z=>by rcases g with rfl | rfl<;>rfl
 have n:(y0 w).bind kW=y0 (ts.map D.str):=by rcases g with rfl | rfl<;>rfl
 obtain⟨v,c,U,o,V,l⟩:=Jf (m+2) P C (show 0<3 by decide) (by decide)
 have l:call prog (m+3) "_law_next" [.v (.ref r),.v (.int 3)] h= .ok (.v (.int (v:Int))) c:=l
 obtain⟨b,H,K,B⟩:=Lx.nil.blanks v
 have M:b=Zj:=by rcases Nat.eq_zero_or_pos v with q | q;exact K q;exact B q
 subst M
 obtain⟨e,W,I,p,A,f,s,X,F,S,O⟩:=n9 G rd E L ts.length 0 (by omega) (Aa1 v 32) Zj u0 u0 u0 c (by simpa using H) (.inl ⟨rfl,rfl⟩) (by simp;omega) o (by omega)
 obtain⟨v2,d,u,Q,T,j⟩:=Jf (m+2) F (show r<f.length by omega) (show 0<3 by decide) (by decide)
 have j:call prog (m+3) "_law_next" [.v (.ref r),.v (.int 3)] f= .ok (.v (.int (v2:Int))) d:=j
 obtain⟨N,k,_,_⟩:=s.blanks v2
 refine⟨e++Aa1 v2 32,N,d,k,by simp;omega,Q,by omega,?_⟩
 rw [Gb rfl _ _ _ rfl]
 simp only [jz]
 show Gu _ (execs _ _ [y0 w,y0 (.v (.ref r)),u0,u0,u0,u0] h)=_
 rw [za (Y1:=cg w r (Aa1 v 32) u0 u0 u0) (h1:=c) (by simp_all [l,lU v c (by omega)])]
 rw [za (Y1:=cg w r e I p A) (h1:=f)]
 ·rw [qa (w:= .v (.str (e++Aa1 v2 32))) (h1:=d),Ga _ _ _ (by omega)]
  refine Qc rfl ?_
  have bs:GA .add (.v (.str e)) (.v (.str (Aa1 v2 32))) d= .ok (.v (.str (e++Aa1 v2 32))) d:=by
   rw [Qb,if_pos (by rw [Gc];simp;omega)]
  simp_all [j,lU v2 d (by omega),bs]
 ·rw [exec]
  have J:GC (k8 (m+3)) (.bN 0) (cg w r (Aa1 v 32) u0 u0 u0) c= .ok (GN 0 (ts.map D.str)) c:=by
   show((R.of c ((y0 w).bind kW)).bind _)=_
   rw [n];rfl
  rw [J,R.aA]
  exact O
end
theorem pL: ∀(xs a:List Tx),GT a xs<=xs.length
 | [],_=>Aa7 _
 | x::xs,a=>by
  have:=pL xs (a++ [x])
  rw [GT,Aa0]
  split<;>omega
theorem tU: ∀(xs d:List Tx),GT d xs=xs.length↔xs.Nodup/\ ∀x∈xs,x∉d
 | [],_=>⟨λ_=>⟨List.nodup_nil,λ_ h=>absurd h Aa2⟩,λ_=>rfl⟩
 | x::xs,d=>by
  have i:=tU xs (d++ [x])
  have le:=pL xs (d++ [x])
  rw [GT,Aa0,Af3]
  by_cases c:x∈d
  ·have:(d.any (· ==x))=true:=Al9.mpr ⟨x,c,beq_self_eq_true x⟩
   rw [this,if_pos rfl]
   exact⟨λz=>by omega,λz=>absurd c (z.2 x Aa4)⟩
  ·have:(d.any (· ==x))=false:=by
    rw [Ai1]
    intro z
    obtain⟨y,g,e⟩:=Al9.mp z
    exact c (beq_iff_eq.mp e▸g)
   rw [this,if_neg Ab4]
   constructor
   ·intro z
    obtain⟨n,f⟩:=i.mp (by omega)
    refine⟨⟨λm=>f x m (Ab0 _ Aa4),n⟩,λy g=> ?_⟩
    rcases Aa.mp g with rfl | g
    ·exact c
    ·exact λm=>f y g (Ae7 _ m)
   ·intro⟨⟨a,b⟩,f⟩
    have:=i.mpr ⟨b,λy g m=>by
     rcases Ac8.mp m with m | m
     ·exact f y (Aa5 _ g) m
     ·exact a (Ab8.mp m▸g)⟩
    omega
theorem ra: ∀(x y:Tx), ¬y<x->x≠y->x<y
 | [],[],_,h=>absurd rfl h
 | [],y::a,_,_=>Al7 y a
 | x::b,[],h,_=>absurd (Al7 x b) h
 | x::b,y::a,h,d=>by
  rw [List.cons_lt_cons_iff]at h ⊢
  by_cases c:x=y
  ·subst c
   exact .inr ⟨rfl,ra b a (λz=>h (.inr ⟨rfl,z⟩)) (λz=>d (by rw [z]))⟩
  ·exact .inl (by omega)
theorem wO: ∀(x y z:Tx),x<y->y<z->x<z
 | x,[],z,h,_=>absurd h (List.not_lt_nil x)
 | x,y::c,[],_,h=>absurd h (List.not_lt_nil _)
 | [],y::c,z::d,_,_=>Al7 _ _
 | x::f,y::c,z::d,h,a=>by
  rw [List.cons_lt_cons_iff]at h a ⊢
  rcases h with h | ⟨h,e⟩
  ·rcases a with a | ⟨a,b⟩
   ·exact .inl (by omega)
   ·exact .inl (by omega)
  ·rcases a with a | ⟨a,b⟩
   ·exact .inl (by omega)
   ·exact .inr ⟨by omega,wO f c d e b⟩
theorem QW (x z:Tx): ∀ys:List Tx,z∈GP x ys↔z=x\/z∈ys
 | []=>by simp [GP]
 | y::ys=>by
  have b:=QW x z ys
  rw [GP]
  split
  ·rw [Aa,b,Aa]
   constructor
   ·rintro (a | a | a)
    ·exact .inr (.inl a)
    ·exact .inl a
    ·exact .inr (.inr a)
   ·rintro (a | a | a)
    ·exact .inr (.inl a)
    ·exact .inl a
    ·exact .inr (.inr a)
  ·rw [Aa]
theorem o8 (x:Tx): ∀ys:List Tx,ys.Pairwise (· < ·)->x∉ys->(GP x ys).Pairwise (· < ·)
 | [],_,_=>Aj9 _ _
 | y::ys,h,d=>by
  rw [Af]at h
  rw [GP]
  split
  ·rename_i c
   refine Af.mpr ⟨λz a=> ?_,o8 x ys h.2 λm=>d (Aa5 _ m)⟩
   rcases (QW x z ys).mp a with rfl | a
   ·exact c
   ·exact h.1 z a
  ·rename_i c
   have b:=ra x y c λe=>d (e▸Aa4)
   refine Af.mpr ⟨λz a=> ?_,Af.mpr h⟩
   rcases Aa.mp a with rfl | a
   ·exact b
   ·exact wO _ _ _ b (h.1 z a)
theorem J0 (z:Tx): ∀xs:List Tx,z∈Gg xs↔z∈xs
 | []=>Iff.rfl
 | x::xs=>by rw [Gg,QW,J0 z xs,Aa]
theorem WM: ∀xs:List Tx,xs.Nodup->(Gg xs).Pairwise (· < ·)
 | [],_=>Ak0.nil
 | x::xs,h=>by
  rw [Af3]at h
  rw [Gg]
  exact o8 x _ (WM xs h.2) λm=>h.1 ((J0 x xs).mp m)
def WB {xs c:List Tx}(p:xs.Perm c) (d:xs.Nodup):Gg xs=Gg c:=
 List.Perm.eq_of_pairwise (λa b _ _ x y=>absurd (wO a b a x y) (List.lt_irrefl a)) (WM xs d) (WM c (p.nodup_iff.mp d)) ((xb xs).trans (p.trans (xb c).symm))
def xw {xs:List Tx}(a:xs.Nodup):Gg (Gg xs)=Gg xs:=WB (xb xs) ((xb xs).nodup_iff.mpr a)
def uT (k:Nat){t:Tx}(g:aQ t) (h:AH):call prog (k+2) "is_name" [.v (.str t)] h= .ok (.v (.bl true)) h:=by
 have p:call prog (k+1) "is_word" [.v (.str t)] h= .ok (.v (.bl true)) h:=by
  rw [Gb (d:=ZG) rfl _ _ _ rfl]
  have q:prog.con.lookup "MOST_LETTERS" =some (.int 8):=rfl
  have l:prog.con.lookup "LETTERS" =some (.str bB):=rfl
  have w:=g.lo
  have v:=g.hi
  have m:cU .len [.v (.str t)] h=aF (.int (t.length:Int)) h:=by rw [len_str,if_pos g.lim]
  have o:u9 ((1:Int)<=(t.length:Int))=true:=decide_eq_true (by omega)
  have r:u9 ((t.length:Int)<=(8:Int))=true:=decide_eq_true (by omega)
  simp only [ZG]
  rw [xa (by simp_all [tK,Ty.d3,m,yl,q,o,r])]
  have u:eval (k8 k) wq [y0 (.v (.str t))] h= .ok (.own ((cQ t).map λ_=> .bl k9)) h:=by
   rw [wq,Xm (h:=h) (ds:=cQ t) (λ_=> .bl k9) ?_ (by rw [Gc];show(t.map _).length<=_;rw [Ab1];omega)]
   ·intro d hd
    obtain⟨c,f,rfl⟩:=Ad6.mp (show d∈t.map λc=>D.str [c]from hd)
    refine⟨[y0 (.v (.str [c]))],rfl,.v (.bl k9),?_,rfl⟩
    have z:=g.ew c f
    have a:bB.contains c=true:=by
     have: ∀i,i<26->bB.contains (97+i)=true:=by decide
     have:=this (c-97) (by omega)
     rwa [show 97+(c-97)=c by omega]at this
    have e:Gw .mem (.v (.str [c])) (.v (.str bB)) h=y0 (bB.contains c):=rfl
    rw [a]at e
    simp_all [l,e]
   ·rfl
  have s:eval (k8 k) (.bi .all (.a wq)) [y0 (.v (.str t))] h= .ok (.v (.bl k9)) h:=by
   rw [eval,Gj,u]
   have b:(cQ t).map (λ_=>D.bl k9)=Aa1 t.length (.bl k9):=by
    rw [Ak4];show Aa1 (t.map _).length _=_;rw [Ab1]
   simp only [R.aa,Gj,b]
   show((R.of h ((W.bg h (.own _)).bind G9)).bind _)=_
   rw [show W.bg h (.own (Aa1 t.length (D.bl k9)))=y0 (Aa1 t.length (D.bl k9))from rfl,Ad5,ZA]
   have: ∀n,(Aa1 n k9).all id=true:=by intro n;simp
   simp [this,aF]
  refine(congrArg _ (qa (Qc rfl s))).trans (Ga _ _ _ rfl)
 rw [Gb (d:=QF) rfl _ _ _ rfl]
 have lt:prog.con.lookup "TAKEN" =some (.tup (taken.map .str)):=rfl
 have j:Gw .cH (.v (.str t)) (.v (.tup (taken.map .str))) h=y0 true:=by
  have:=Jr t taken (.v (.tup (taken.map .str))) h rfl rfl
  show(GU (.v (.str t)) (.v (.tup (taken.map .str))) h).map (!·)=_
  rw [show GU (.v (.str t)) (.v (.tup (taken.map .str))) h=y0 (u9 (t∈taken))from this,decide_eq_false g.free];rfl
 simp only [QF]
 simp_all [p,lt,j]
def nZ (ts:List Tx):GI (ts.map .str)=y0 ts:=Xo ts
def sr (k:Nat){A B:List Tx}(a:Nm (A++B)) (z:A.length<=4) (y:B.length<=4) (h:AH):call prog (k+3) "words_of" [.v (ba A),.v (ba B)] h= .ok (.v (wD (Gg A) (Gg B))) h:=by
 rw [Gb (d:=Xx) rfl _ _ _ rfl]
 have q:prog.con.lookup "MOST_NAMES" =some (.int 4):=rfl
 have v:(A.map D.str).length+(B.map D.str).length<=aW:=by rw [Gc];simp;omega
 simp only [Xx]
 show Gu _ (execs _ _ [y0 (.v (ba A)),y0 (.v (ba B)),u0] h)=_
 rw [za (Y1:= [y0 (.v (ba A)),y0 (.v (ba B)),y0 (.v (.lst ((A++B).map .str)))]) (h1:=h) (by simp_all [Cc,QT,v,if_true];rw [Ac0])]
 have x:eval (k8 (k+2)) Jl [y0 (.v (ba A)),y0 (.v (ba B)),y0 (.v (.lst ((A++B).map .str)))] h= .ok (.own (((A++B).map D.str).map λ_=> .bl k9)) h:=by
  rw [Jl,Xm (h:=h) (ds:=(A++B).map D.str) (λ_=> .bl k9) (FY rfl) (by rw [Gc];simp;omega)]
  intro d hd
  obtain⟨t,g,rfl⟩:=Ad6.mp hd
  refine⟨[y0 (.v (.str t))],rfl,.v (.bl k9),?_,rfl⟩
  simp_all [uT k (a.good t g) h]
 have s:eval (k8 (k+2)) (.bi .all (.a Jl)) [y0 (.v (ba A)),y0 (.v (ba B)),y0 (.v (.lst ((A++B).map .str)))] h= .ok (.v (.bl k9)) h:=by
  rw [eval,Gj,x]
  have i:((A++B).map D.str).map (λ_=>D.bl k9)=Aa1 (A++B).length (.bl k9):=by
   rw [Ak4,Ab1]
  simp only [R.aa,Gj,i]
  show((R.of h ((W.bg h (.own _)).bind G9)).bind _)=_
  rw [show W.bg h (.own (Aa1 (A++B).length (D.bl k9)))=y0 (Aa1 (A++B).length (D.bl k9))from rfl,Ad5,ZA]
  have: ∀n,(Aa1 n k9).all id=true:=by intro n;simp
  simp [this,aF]
 rw [xa (by rw [Gr,eval,s];rfl)]
 have u:GT [] (A++B)=(A++B).length:=(tU (A++B) []).mpr ⟨a.nd,λ_ _=>Aa2⟩
 have m: ∀c,(W.v (D.lst c)).bg h=y0 c:=λ_=>rfl
 have e:(A++B).length<1000:=by simp;omega
 have o:u9 (((GT [] (A++B):Nat):Int)<((((A++B).map D.str).length:Nat):Int))=false:=decide_eq_false (by rw [u,Ab1];omega)
 rw [xa (by simp_all [m,nZ,e,if_true,sE,Jm,o])]
 have l:u9 ((4:Int)<((A.map D.str).length:Int))=false:=decide_eq_false (by rw [Ab1];omega)
 have f:u9 ((4:Int)<((B.map D.str).length:Int))=false:=decide_eq_false (by rw [Ab1];omega)
 rw [xa (by simp_all [tE,q,XJ,l,f])]
 have r: ∀b:List Tx,(W.v (ba b)).en =y0 (b.map .str):=λ_=>rfl
 have p:A.length<64:=by omega
 have j:B.length<64:=by omega
 rw [qa (w:= .v (wD (Gg A) (Gg B))) (h1:=h) (Qc rfl (by simp_all [r,nZ,p,j,if_true,wG,aF]))]
 exact Ga _ _ _ rfl
def nJ (k:Nat) (w:D) (ss:List D) (c:ss.length<=12) (h:AH):call prog (k+1) "theory_of" [.v w,.v (.tup ss)] h= .ok (.v (.tup [w,.tup ss])) h:=by
 rw [Gb (d:=Qt) rfl _ _ _ rfl]
 have b:prog.con.lookup "MOST_SAYINGS" =some (.int 12):=rfl
 have a:u9 ((12:Int)<(ss.length:Int))=false:=decide_eq_false (by omega)
 simp only [Qt]
 rw [xa (by simp_all [tE,b,XJ,a])]
 rw [qa (w:= .v (.tup [w,.tup ss])) (h1:=h) (Qc rfl (by simp_all [Hf,aF]))]
 exact Ga _ _ _ rfl
abbrev bA (K T:List Tx) (ss:List D):D:= .tup [wD K T,.tup ss]
theorem pf: ∀(a b:Tx),32∉a->Kg 32 (a++32::b)=y0 (a,b)
 | [],b,_=>rfl
 | x::a,b,h=>by
  rw [Ae,Kg,if_neg (show ¬x=32 from λe=>h (by rw [e];exact Aa4)),pf a b λz=>h (Aa5 _ z)];rfl
abbrev dS:Tx:= iV
abbrev d2:Tx:= iS
abbrev bV:Tx:= gr
noncomputable abbrev sm (K T:List Tx) (ss:List D) (c a b:Tx):Sl:= [y0 (.v (bA K T ss)),y0 (.v (.str c)),y0 (.v (wD K T)),y0 (.v (.tup ss)),y0 (.v (.str a)),y0 (.v (.str [32])),y0 (.v (.str b))]
section
variable {k:Nat}{K T:List Tx}{ss:List D}{h:AH}{b:Tx}
def WV {a:Tx}(c:32∉a) (i:(a++32::b).length<=900000){o:O}{st:Ss}(e:execs (k8 k) st (sm K T ss (a++32::b) a b) h=o):
 execs (k8 k) (.cons (.fK [2,3] .v0) (.cons (.iff (.not (.cu .v1 .str)) (.cons .bC .nil) .nil) (.cons (.fK [4,5,6] (.cE .part .v1 (.a (.str [32])))) st))) [y0 (.v (bA K T ss)),y0 (.v (.str (a++32::b))),u0,u0,u0,u0,u0] h=o:=by
 rw [za (Y1:= [y0 (.v (bA K T ss)),y0 (.v (.str (a++32::b))),y0 (.v (wD K T)),y0 (.v (.tup ss)),u0,u0,u0]) (h1:=h) rfl]
 rw [xa (by simp_all [tK,Ty.d3])]
 rw [za (Y1:=sm K T ss (a++32::b) a b) (h1:=h) ?_]
 ·exact e
 ·have g:GZ (a++32::b) [32]=y0 (.tup [.str a,.str [32],.str b]):=by
   show(Kg 32 (a++32::b)).map _=_
   rw [pf a b c];rfl
  have f:ly .part (.v (.str (a++32::b))) [.v (.str [32])] h= .ok (.v (.tup [.str a,.str [32],.str b])) h:=by
   show((R.of h (y0 (a++32::b))).bind λs h=>(R.of h (y0 [32])).bind λt h=>(R.of h (GZ s t)).bind λd h=>if s.length<=aW then aF d h else .fail)=_
   rw [R.ab,R.aa,R.ab,R.aa,g,R.ab,R.aa,if_pos (by rw [Gc];omega)]
  simp_all [yx,if_true,f]
def BO {t:Tx}(c:Nm ((K++ [t])++T)) (p:K.length<4) (m:T.length<=4):call prog (k+4) "taken" [.v (bA K T []),.v (.str (dS++32::t))] h= .ok (.v (bA (Gg (K++ [t])) (Gg T) [])) h:=by
 have g:=c.good t (by simp)
 have o:=g.hi
 rw [Gb (d:=Jt) rfl _ _ _ rfl]
 simp only [Jt]
 show Gu _ (execs _ _ [y0 (.v (bA K T [])),y0 (.v (.str (dS++32::t))),u0,u0,u0,u0,u0] h)=_
 rw [WV (a:=dS) (b:=t) (by decide) (by simp;omega) rfl]
 have e:Gw .eq (.v (.str dS)) (.v (.str bV)) h=y0 false:=by rw [Xe];rfl
 have n:Gw .eq (.v (.str dS)) (.v (.str dS)) h=y0 true:=by rw [Xe];rfl
 have f:Gw .eq (.v (.tup [])) (.v (.tup [])) h=y0 true:=by rfl
 rw [xa (by simp_all [e])]
 have j:GA .add (.v (ba K)) (.v (.tup [.str t])) h= .ok (.v (ba (K++ [t]))) h:=by
  rw [Xw,if_pos (by rw [Gc];simp;omega),ba,Ac0];rfl
 have i:=sr k c (by simp;omega) m h
 have l:=nJ (k+2) (wD (Gg (K++ [t])) (Gg T)) [] (by simp) h
 refine(congrArg _ (jq (w:= .v (bA (Gg (K++ [t])) (Gg T) [])) (by simp_all [n,f]) (Qc rfl ?_))).trans (Ga _ _ _ rfl)
 simp_all [au,me,mO,j,i,l]
def El {t:Tx}(c:Nm (K++(T++ [t]))) (j:K.length<=4) (q:T.length<4):call prog (k+4) "taken" [.v (bA K T []),.v (.str (d2++32::t))] h= .ok (.v (bA (Gg K) (Gg (T++ [t])) [])) h:=by
 have g:=c.good t (by simp)
 have p:=g.hi
 rw [Gb (d:=Jt) rfl _ _ _ rfl]
 simp only [Jt]
 show Gu _ (execs _ _ [y0 (.v (bA K T [])),y0 (.v (.str (d2++32::t))),u0,u0,u0,u0,u0] h)=_
 rw [WV (a:=d2) (b:=t) (by decide) (by simp;omega) rfl]
 have e:Gw .eq (.v (.str d2)) (.v (.str bV)) h=y0 false:=by rw [Xe];rfl
 have o:Gw .eq (.v (.str d2)) (.v (.str dS)) h=y0 false:=by rw [Xe];rfl
 have n:Gw .eq (.v (.str d2)) (.v (.str d2)) h=y0 true:=by rw [Xe];rfl
 have f:Gw .eq (.v (.tup [])) (.v (.tup [])) h=y0 true:=by rfl
 rw [xa (by simp_all [e]),xa (by simp_all [o])]
 have l:GA .add (.v (ba T)) (.v (.tup [.str t])) h= .ok (.v (ba (T++ [t]))) h:=by
  rw [Xw,if_pos (by rw [Gc];simp;omega),ba,Ac0];rfl
 have i:=sr k c j (by simp;omega) h
 have m:=nJ (k+2) (wD (Gg K) (Gg (T++ [t]))) [] (by simp) h
 refine(congrArg _ (jq (w:= .v (bA (Gg K) (Gg (T++ [t])) [])) (by simp_all [n,f]) (Qc rfl ?_))).trans (Ga _ _ _ rfl)
 simp_all [au,me,mO,l,i,m]
def uz {s:D}(j:b.length<=800000) (i:ss.length<12) (g:call prog (k+1) "read_saying" [.v (wD K T),.v (.str b)] h= .ok (.v s) h):call prog (k+2) "taken" [.v (bA K T ss),.v (.str (bV++32::b))] h= .ok (.v (bA K T (ss++ [s]))) h:=by
 rw [Gb (d:=Jt) rfl _ _ _ rfl]
 simp only [Jt]
 show Gu _ (execs _ _ [y0 (.v (bA K T ss)),y0 (.v (.str (bV++32::b))),u0,u0,u0,u0,u0] h)=_
 rw [WV (a:=bV) (b:=b) (by decide) (by simp;omega) rfl]
 have c:Gw .eq (.v (.str bV)) (.v (.str bV)) h=y0 true:=by rw [Xe];rfl
 have e:GA .add (.v (.tup ss)) (.v (.tup [s])) h= .ok (.v (.tup (ss++ [s]))) h:=by
  rw [Xw,if_pos (by rw [Gc];simp;omega)]
 have f:=nJ k (wD K T) (ss++ [s]) (by simp;omega) h
 refine(congrArg _ (jq (w:= .v (bA K T (ss++ [s]))) (by simp_all [c]) (Qc rfl ?_))).trans (Ga _ _ _ rfl)
 simp_all [g,e,f]
def uJ {d r:D}{x:D}(e:call prog k "taken" [.v d,.v x] h= .ok (.v r) h):call prog (k+1) "with_row" [.v d,.v x] h= .ok (.v r) h:=by
 rw [Gb (d:=qy) rfl _ _ _ rfl]
 simp only [qy]
 show Gu _ (execs _ _ [y0 (.v d),y0 (.v x)] h)=_
 have a:exec (k8 k) (.ret (.call "taken" (.b .v0 .v1))) [some (.v d),some (.v x)] h= .ret (.v r) h:=Qc rfl (by simp_all [e])
 rw [qa (w:= .v r) (h1:=h) (by rw [exec,a];rfl)]
 exact Ga _ _ _ rfl
end
def bX (p:Bool×Tx):Tx:=(if p.1 then dS else d2)++32::p.2
def cc (p:List (Bool×Tx)):List Tx:=(p.filter (·.1)).map (·.2)
def cb (p:List (Bool×Tx)):List Tx:=(p.filter (!·.1)).map (·.2)
theorem qX: ∀p:List (Bool×Tx),(cc p++cb p).Perm (p.map (·.2))
 | []=> .refl _
 | (k9,t)::p=>(qX p).cons t
 | (y9,t)::p=>Al6.trans ((qX p).cons t)
def QM (p q:List (Bool×Tx)):cc (p++q)=cc p++cc q:=by simp [cc]
def QO (p q:List (Bool×Tx)):cb (p++q)=cb p++cb q:=by simp [cb]
def Nm.sub {a b:List Tx}(h:Nm b) (s:a.Sublist b):Nm a:=⟨s.nodup h.nd,λt c=>h.good t (s.subset c)⟩
def Nm.hd {p:List (Bool×Tx)}(h:Nm (p.map (·.2))):Nm (cc p++cb p):=h.perm (qX p)
def kG {a b:List Tx}(h:Nm (a++b)):a.Nodup:=(h.sub (List.sublist_append_left a b)).nd
def kU {a b:List Tx}(h:Nm (a++b)):b.Nodup:=(h.sub (List.sublist_append_right a b)).nd
abbrev fc (w:W) (d:D) (x:Option W):Sl:= [y0 w,y0 (.v d),x]
section
variable {j:Nat}{w:W}{h:AH}
def rb {d r:D}{t:Tx}(e:call prog (j+4) "taken" [.v d,.v (.str t)] h= .ok (.v r) h):execs (k8 (j+5)) zd (fc w d (some (.v (.str t)))) h= .next (fc w r (some (.v (.str t)))) h:=by
 have a:=uJ e
 simp only [zd]
 simp_all [a]
theorem Z1 {Wk:List D}: ∀(q p:List (Bool×Tx)) (x:Option W),Nm ((p++q).map (·.2))->(cc (p++q)).length<=4->(cb (p++q)).length<=4 →
 ∃y,GB (Gz [2] k9) (λY h=>execs (k8 (j+5)) zd Y h) ((q.map bX).map .str++Wk) (fc w (bA (Gg (cc p)) (Gg (cb p)) []) x) h=GB (Gz [2] k9) (λY h=>execs (k8 (j+5)) zd Y h) Wk (fc w (bA (Gg (cc (p++q))) (Gg (cb (p++q))) []) y) h
 | [],p,x,_,_,_=>⟨x,by rw [Ac5];rfl⟩
 | c::q,p,x,r,m,e=>by
  have d:p++c::q=(p++ [c])++q:=by rw [Ac6];rfl
  have a:Nm ((p++ [c]).map (·.2)):=r.sub (by rw [d,Ac0 (l₂:=q)];exact List.sublist_append_left _ _)
  have a:=a.hd
  have n:=m
  have o:=e
  rw [d,QM,Aa3]at m
  rw [d,QO,Aa3]at e
  obtain⟨y,s⟩:=Z1 (Wk:=Wk) q (p++ [c]) (y0 (.v (.str (bX c)))) (d▸r) (d▸n) (d▸o)
  refine⟨y,?_⟩
  rw [d,←s,Ab3,Ab3,Ae]
  refine xg (Y1:=fc w (bA (Gg (cc p)) (Gg (cb p)) []) (y0 (.v (.str (bX c))))) rfl (rb ?_)
  have g:=xb (cc p)
  have pt:=xb (cb p)
  obtain⟨b,t⟩:=c
  cases b with
  | true=>
   have f:cc (p++ [(k9,t)])=cc p++ [t]:=by rw [QM];rfl
   have l:cb (p++ [(k9,t)])=cb p:=by rw [QO];exact Ac5 _
   rw [f,l]at a ⊢
   rw [f,Aa3]at m
   rw [l]at e
   have i:Nm ((Gg (cc p)++ [t])++Gg (cb p)):=a.perm ((g.append_right [t]).append pt)
   have z:=BO (k:=j) (h:=h) i (by rw [g.length_eq];simp at m;omega) (by rw [pt.length_eq];omega)
   rw [xw (kU a),WB (g.append_right [t]) (kG i)]at z
   exact z
  | false=>
   have f:cb (p++ [(y9,t)])=cb p++ [t]:=by rw [QO];rfl
   have l:cc (p++ [(y9,t)])=cc p:=by rw [QM];exact Ac5 _
   rw [f,l]at a ⊢
   rw [f,Aa3]at e
   rw [l]at m
   have i:Nm (Gg (cc p)++(Gg (cb p)++ [t])):=a.perm (g.append (pt.append_right [t]))
   have z:=El (k:=j) (h:=h) i (by rw [g.length_eq];omega) (by rw [pt.length_eq];simp at e;omega)
   rw [xw (kG a),WB (pt.append_right [t]) (kU i)]at z
   exact z
def Rd (j:Nat) (K T:List Tx) (h:AH) (x:Tx×D):Prop:=x.1.length<=800000/\call prog (j+3) "read_saying" [.v (wD K T),.v (.str x.1)] h= .ok (.v x.2) h
theorem rg {K T:List Tx}: ∀(q:List (Tx×D)) (ss:List D) (x:Option W),(∀ c∈q,Rd j K T h c)->ss.length+q.length<=12 →
 ∃y,GB (Gz [2] k9) (λY h=>execs (k8 (j+5)) zd Y h) (q.map λc=> .str (bV++32::c.1)) (fc w (bA K T ss) x) h= .next (fc w (bA K T (ss++q.map (·.2))) y) h
 | [],ss,x,_,_=>⟨x,by rw [Ae2,Ae2,Ac5];rfl⟩
 | c::q,ss,x,a,e=>by
  rw [Aa0]at e
  obtain⟨f,b⟩:=a c Aa4
  obtain⟨y,g⟩:=rg q (ss++ [c.2]) (y0 (.v (.str (bV++32::c.1)))) (λd hd=>a d (Aa5 _ hd)) (by simp;omega)
  refine⟨y,?_⟩
  rw [Ab3,Ab3,show ss++c.2::q.map (·.2)=ss++ [c.2]++q.map (·.2)by simp,←g]
  exact xg (Y1:=fc w (bA K T ss) (y0 (.v (.str (bV++32::c.1))))) rfl (rb (uz (k:=j+2) f (by omega) b))
def yp {p:List (Bool×Tx)}{q:List (Tx×D)}(f:Nm (p.map (·.2))) (a:(cc p).length<=4) (g:(cb p).length<=4) (i: ∀c∈q,Rd j (Gg (cc p)) (Gg (cb p)) h c) (e:q.length<=12):
 call prog (j+6) "read_theory" [.v (.lst ((p.map bX).map .str++q.map fun c=> .str (bV++32::c.1)))] h= .ok (.v (bA (Gg (cc p)) (Gg (cb p)) (q.map (·.2)))) h:=by
 rw [Gb (d:=Jp) rfl _ _ _ rfl]
 simp only [Jp]
 show Gu _ (execs _ _ [y0 (.v (.lst ((p.map bX).map .str++q.map λc=> .str (bV++32::c.1)))),u0,u0] h)=_
 have l:prog.con.lookup "EMPTY" =some (bA [] [] []):=rfl
 rw [za (Y1:=fc (.v (.lst ((p.map bX).map .str++q.map λc=> .str (bV++32::c.1)))) (bA [] [] []) u0) (h1:=h) (by simp_all [l])]
 obtain⟨y,b⟩:=Z1 (j:=j) (w:= .v (.lst ((p.map bX).map .str++q.map λc=> .str (bV++32::c.1)))) (h:=h) (Wk:=q.map λc=> .str (bV++32::c.1)) p [] u0 f a g
 obtain⟨z,k⟩:=rg (j:=j) (w:= .v (.lst ((p.map bX).map .str++q.map λc=> .str (bV++32::c.1)))) (h:=h) q [] y i (by simpa using e)
 rw [za (Y1:=fc (.v (.lst ((p.map bX).map .str++q.map λc=> .str (bV++32::c.1)))) (bA (Gg (cc p)) (Gg (cb p)) (q.map (·.2))) z) (h1:=h) ?_]
 ·rw [qa (w:= .v (bA (Gg (cc p)) (Gg (cb p)) (q.map (·.2)))) (h1:=h) rfl]
  exact Ga _ _ _ rfl
 ·rw [exec]
  exact b.trans k
end
def qD (g f) (l:List α) (hi:Gv F it Y h= .ok (l.map g) h) (m:l.length<=1000) (b: ∀x∈l,∃w,eval F elt (y0 (.v (g x))::aC.map λj=>Gp Y j) h= .ok w h/\w.d=y0 (f x)):eval F (.comp [0] k9 1 aC it y9 (.bl k9) elt) Y h= .ok (.own (l.map f)) h:=by
 rw [eval,hi,R.aa,if_pos (by rw [Gc,Ab1];lia)]
 have i: ∀ step (l:List α),(∀ x∈l,step (g x) h= .ok (y0 (f x)) h)->Gx step (l.map g) h= .ok (l.map f) h:=λstep l=>by
  induction l with
  | nil=>intro _;rfl
  | cons x l d=>
   intro a
   rw [Ab3,Gx,a x Aa4]
   simp [d λy e=>a y (Aa5 _ e),Ab3]
 rw [i _ l λx a=> ?_]
 ·rfl
 ·obtain⟨w,c,k⟩:=b x a
  show(eval F elt (y0 _::aC.map λj=>Gp Y j) h).bind _=_
  rw [c]
  simp [k,R.ab]
def cy (K T:List Tx) (ss:List Sy):List Tx:=K.map (λt=>dS++32::t)++T.map (λt=>d2++32::t)++ss.map λs=>bV++32::sT s
def mr (a b:Tx) (h:AH) (c:a.length+b.length<=900000):GA .add (.v (.str a)) (.v (.str b)) h= .ok (.v (.str (a++b))) h:=by
 rw [Qb,if_pos (by rw [Gc];omega)]
section
variable {m:Nat}{h:AH}{K T N:List Tx}{ss:List Sy}
def kT {F:Fx}{it:It}{Y:Sl}{A:List Tx}(p:Tx) (d:p.length<=8) (a: ∀t∈A,t.length<=8) (c:A.length<=100) (hi:Gv F it Y h= .ok (A.map .str) h):eval F (.comp [0] k9 1 [] it y9 (.bl k9) (.bin .add (.str p) .v0)) Y h= .ok (.own ((A.map λt=>p++t).map .str)) h:=by
 rw [Af0]
 refine qD (D.str) _ A hi (by omega) λt b=>⟨.v (.str (p++t)),?_,rfl⟩
 have:=a t b
 simp_all [mr p t h (by omega)]
def oO {F:Fx}{it:It}{e:E}{Y:Sl}(f:ss.length<=100) (b: ∀s∈ss,(sT s).length<=600000/\eval F e [y0 (.v (ai s))] h= .ok (.v (.str (sT s))) h) (hi:Gv F it Y h= .ok (ss.map ai) h):eval F (.comp [0] k9 1 [] it y9 (.bl k9) (.bin .add (.str fq) e)) Y h= .ok (.own ((ss.map λs=>bV++32::sT s).map .str)) h:=by
 rw [Af0]
 refine qD ai _ ss hi (by omega) λs c=>⟨.v (.str (bV++32::sT s)),?_,rfl⟩
 obtain⟨l,d⟩:=b s c
 have a:=mr fq (sT s) h (by simp;omega)
 show eval F (.bin .add (.str fq) e) [y0 (.v (ai s))] h=_
 rw [eval,show eval F (.str fq) [y0 (.v (ai s))] h= .ok (.v (.str fq)) h from rfl,R.aa,d]
 exact a
def sh {w:W}(i:w= .v (.lst (ss.map ai))\/w= .bor (ss.map ai)) (b: ∀t∈K++T,t.length<=8) (o:K.length<=4) (p:T.length<=4) (n:ss.length<=12) (e: ∀s∈ss,s.wf N/\(sT s).length<=600000/\s.dp+3<=m):
 call prog (m+2) "_law_shown_rows" [.v (wD K T),w] h= .ok (.own ((cy K T ss).map .str)) h:=by
 rw [Gb (d:=Wi) rfl _ _ _ rfl]
 simp only [Wi]
 show Gu _ (execs _ _ [y0 (.v (wD K T)),y0 w,u0] h)=_
 have c:eval (k8 (m+1)) Wl [y0 (.v (wD K T)),y0 w,u0] h= .ok (.own ((K.map λt=> hG++t).map .str)) h:=
  kT hG (by decide) (λt a=>b t (Ae7 _ a)) (by omega) (iU rfl)
 have g:eval (k8 (m+1)) wm [y0 (.v (wD K T)),y0 w,u0] h= .ok (.own ((T.map λt=> iy++t).map .str)) h:=
  kT iy (by decide) (λt a=>b t (Ab0 _ a)) (by omega) (iU rfl)
 rw [za (Y1:= [y0 (.v (wD K T)),y0 w,y0 (.v (.lst ((K.map λt=>dS++32::t).map .str++(T.map λt=>d2++32::t).map .str)))]) (h1:=h) ?_]
 ·have j:eval (k8 (m+1)) jm [y0 (.v (wD K T)),y0 w,y0 (.v (.lst ((K.map λt=>dS++32::t).map .str++(T.map λt=>d2++32::t).map .str)))] h= .ok (.own ((ss.map λs=>bV++32::sT s).map .str)) h:=by
   refine oO (by omega) (λs f=> ?_) (by rcases i with rfl | rfl<;>rfl)
   obtain⟨wf,l,d⟩:=e s f
   have:=DH h s wf l m d 0
   rw [show u9 (aJ s<0)=y9 from decide_eq_false (by omega)]at this
   refine⟨l,?_⟩
   have this:call prog (m+1) "_law_saying_text" [.v (ai s),.v (.int 0)] h= .ok (.v (.str (sT s))) h:=this
   simp_all [this]
  rw [qa (w:= .own ((cy K T ss).map .str)) (h1:=h) (zj rfl ?_)]
  ·exact Gq _ _ _ rfl
  ·have k:eval (k8 (m+1)) .v2 [y0 (.v (wD K T)),y0 w,y0 (.v (.lst ((K.map λt=>dS++32::t).map .str++(T.map λt=>d2++32::t).map .str)))] h= .ok (.v (.lst ((K.map λt=>dS++32::t).map .str++(T.map λt=>d2++32::t).map .str))) h:=rfl
   rw [eval,k,R.aa,j,R.aa,mQ,if_pos (by rw [Gc];simp;omega)]
   unfold cy
   rw [Ac0,Ac0]
 ·rw [exec,eval,c,R.aa,g,R.aa,QT,if_pos (by rw [Gc];simp;omega)]
  rfl
def CJ (b: ∀t∈K++T,t.length<=8) (j:K.length<=4) (k:T.length<=4) (n:ss.length<=12) (c: ∀s∈ss,s.wf N/\(sT s).length<=600000/\2*s.dp+3<=m):
 call prog (m+2) "shown_theory" [.v (bA K T (ss.map ai))] h= .ok (.own ((cy K T ss).map .str)) h:=by
 rw [Gb (d:=wn) rfl _ _ _ rfl]
 simp only [wn]
 show Gu _ (execs _ _ [y0 (.v (bA K T (ss.map ai))),u0,u0,u0] h)=_
 rw [za (Y1:= [y0 (.v (bA K T (ss.map ai))),y0 (.v (wD K T)),y0 (.v (.tup (ss.map ai))),u0]) (h1:=h) rfl]
 have g:eval (k8 (m+1)) Zq [y0 (.v (bA K T (ss.map ai))),y0 (.v (wD K T)),y0 (.v (.tup (ss.map ai))),u0] h= .ok (.own ((K.map λt=> hG++t).map .str)) h:=
  kT hG (by decide) (λt a=>b t (Ae7 _ a)) (by omega) (iU rfl)
 have i: ∀x,eval (k8 (m+1)) Qq [y0 (.v (bA K T (ss.map ai))),y0 (.v (wD K T)),y0 (.v (.tup (ss.map ai))),x] h= .ok (.own ((T.map λt=> iy++t).map .str)) h:=λx=>
  kT iy (by decide) (λt a=>b t (Ab0 _ a)) (by omega) (iU rfl)
 have e: ∀x,eval (k8 (m+1)) Jq [y0 (.v (bA K T (ss.map ai))),y0 (.v (wD K T)),y0 (.v (.tup (ss.map ai))),x] h= .ok (.own ((ss.map λs=>bV++32::sT s).map .str)) h:=λx=>by
  refine oO (by omega) (λs f=> ?_) (iU rfl)
  obtain⟨wf,l,d⟩:=c s f
  have:=Cr h s wf l m d
  refine⟨l,?_⟩
  simp_all [this]
 rw [za (Y1:= [y0 (.v (bA K T (ss.map ai))),y0 (.v (wD K T)),y0 (.v (.tup (ss.map ai))),y0 (.own ((K.map λt=>dS++32::t).map .str))]) (h1:=h) (by rw [exec,g];rfl)]
 rw [za (Y1:= [y0 (.v (bA K T (ss.map ai))),y0 (.v (wD K T)),y0 (.v (.tup (ss.map ai))),y0 (.own ((K.map λt=>dS++32::t).map .str++(T.map λt=>d2++32::t).map .str))]) (h1:=h) ?_]
 ·rw [za (Y1:= [y0 (.v (bA K T (ss.map ai))),y0 (.v (wD K T)),y0 (.v (.tup (ss.map ai))),y0 (.own ((cy K T ss).map .str))]) (h1:=h) ?_]
  ·rw [qa (w:= .own ((cy K T ss).map .str)) (h1:=h) rfl]
   exact Gq _ _ _ rfl
  ·rw [exec]
   simp only [Gm,e,R.aA]
   rw [if_pos (by rw [Gc];simp;omega)]
   unfold cy
   rw [Ac0,Ac0];rfl
 ·rw [exec]
  simp only [Gm,i,R.aA]
  rw [if_pos (by rw [Gc];simp;omega)];rfl
end
noncomputable abbrev eH (ns:List Int) (K T:List Tx) (n:Nat) (ds:List D) (x4 x5:Option W):Sl:= [y0 (bf ns),y0 (.v (wD K T)),y0 (.v (.int (n:Int))),y0 (.own ds),x4,x5]
section
variable {ns:List Int}{K T:List Tx}
def CP (a:(K++T).length<=100) (h:AH):GA .add (.v (ba K)) (.v (ba T)) h= .ok (.v (ba (K++T))) h:=by
 rw [Xw,if_pos (by rw [Gc];simp at a ⊢;omega),←Ac0]
def EN (p:ns.length<=63) (k:(K++T).length<=100){n j:Nat}{ds:List D}(hd:ds.length<=100){x5:Option W}{h:AH}(P:PH h):
 ∃s h',Sy.wf (K++T) s/\s.dp<=6/\PH h'/\h.length<=h'.length/\ ∃J,execs (k8 82) zh (eH ns K T n ds (y0 (.v (.int (j:Int)))) x5) h= .next (eH ns K T n (ds++ [ai s]) (y0 (.v (.int (j:Int)))) J) h':=by
 obtain⟨c,a,b,t⟩:=Jx 80 ns p j h
 have l:=P.app c a b
 have z:(h++ [Cell.lst [D.int c,D.int a,D.int b]]).length=h.length+1:=by simp
 obtain⟨v,e,y,q,w,d⟩:=Jf 81 l (show h.length<(h++ [Cell.lst [D.int c,D.int a,D.int b]]).length by omega) (show 0<3 by decide) (by decide)
 have d:call prog 82 "_law_next" [.v (.ref h.length),.v (.int 3)] (h++ [Cell.lst [D.int c,D.int a,D.int b]])= .ok (.v (.int (v:Int))) e:=d
 obtain⟨s,o,i,dp,u,x,g⟩:=zN h.length (K++T) k v (74-v) e q (by omega)
 rw [show 74-v+v+8=82 by omega]at g
 refine⟨s,o,i,by omega,u,by omega,y0 (.v (.ref h.length)),?_⟩
 have r:=Xj (F:=(k8 82)) (f:= "_law_purse") (es:= .cons .v0 (.a .v4)) (Y:=eH ns K T n ds (some (.v (.int (j:Int)))) x5) (h:=h) (ws:= [bf ns,.v (.int (j:Int))]) (xs:= [D.int c,D.int a,D.int b]) rfl t rfl
 simp only [zh]
 rw [za (Y1:=eH ns K T n ds (y0 (.v (.int (j:Int)))) (y0 (.v (.ref h.length)))) (h1:=h++ [Cell.lst [D.int c,D.int a,D.int b]]) (by rw [exec,r];rfl)]
 have m:ds.length<aW:=by rw [Gc];omega
 simp_all [d,au,me,mO,CP k,g,m,if_true]
theorem pB (c:ns.length<=63) (d:(K++T).length<=100){n:Nat}: ∀(a:List Nat) (ds:List D) (x4 x5:Option W) (h:AH),ds.length+a.length<=100->PH h →
 ∃(ss:List Sy) (b:AH),ss.length=a.length/\(∀ s∈ss,Sy.wf (K++T) s/\s.dp<=6)/\PH b/\h.length<=b.length/\ ∃q i,GB (Gz [4] k9) (λY h=>execs (k8 82) zh Y h) (a.map λ(j:Nat)=> .int (j:Int)) (eH ns K T n ds x4 x5) h= .next (eH ns K T n (ds++ss.map ai) q i) b
 | [],ds,x4,x5,h,_,P=>⟨[],h,rfl,λ_ z=>absurd z Aa2,P,Aa7 _,x4,x5,by rw [Ae2,Ae2,Ac5];rfl⟩
 | j::a,ds,x4,x5,h,hd,P=>by
  rw [Aa0]at hd
  obtain⟨s,x,v,w,e,A,i,t⟩:=EN c d (n:=n) (j:=j) (ds:=ds) (by omega) (x5:=x5) P
  obtain⟨ss,f,l,r,o,y,p,m,k⟩:=pB c d (n:=n) a (ds++ [ai s]) (y0 (.v (.int (j:Int)))) i x (by simp;omega) e
  refine⟨s::ss,f,by rw [Aa0,Aa0,l],λu g=>(Aa.mp g).elim (λz=>by rw [z];exact⟨v,w⟩) (r u),o,by omega,p,m,?_⟩
  rw [Ab3,Ab3,xg (Y1:=eH ns K T n ds (y0 (.v (.int (j:Int)))) x5) rfl t,k,Ac6];rfl
theorem xQ: ∀ss:List Sy,Gf (ss.map ai)=k9
 | []=>rfl
 | s::ss=>by rw [Ab3,Gf,xQ ss,qu s];rfl
def Bd (m:ns.length<=63) (u:(K++T).length<=100){n:Nat}(x:n<=12){h:AH}(P:PH h):
 ∃(ss:List Sy) (b:AH),ss.length=n/\(∀ s∈ss,Sy.wf (K++T) s/\s.dp<=6)/\PH b/\b.length=h.length/\call prog 83 "_law_sayings" [bf ns,.v (wD K T),.v (.int (n:Int))] h= .ok (.own (ss.map ai)) b:=by
 obtain⟨ss,a,l,q,f,t,e,v,r⟩:=pB m u (n:=n) ((Ac4 n).map λk=>4+k) [] u0 u0 h (by simp;omega) P
 obtain⟨g,p,c⟩:=ZX (xs:=ss.map ai) (n:=h.length) (h:=a) (xQ ss) t
 refine⟨ss,g,by rw [l];simp,q,c▸f.take _,by rw [c,Ae9];omega,?_⟩
 rw [Gb (d:=Xp) rfl _ _ _ rfl]
 simp only [Xp]
 show Gu _ (execs _ _ [y0 (bf ns),y0 (.v (wD K T)),y0 (.v (.int (n:Int))),u0,u0,u0] h)=_
 rw [za (Y1:=eH ns K T n [] u0 u0) (h1:=h) rfl]
 rw [za (Y1:=eH ns K T n (ss.map ai) e v) (h1:=a) ?_,qa (w:= .own (ss.map ai)) (h1:=a) rfl,p]
 rw [exec]
 have i:eval (k8 82) (.bin .add (.int 4) .v2) (eH ns K T n [] u0 u0) h= .ok (.v (.int ((4+n:Nat):Int))) h:=by
  have:=Xz 4 n
  have this:Gi .add 4 (n:Int)=y0 ((4+n:Nat):Int):=this
  simp_all [this]
 show((Gv (k8 82) (.bz (.int 4) (.bin .add (.int 4) .v2)) (eH ns K T n [] u0 u0) h).cF _)=_
 rw [Gv,show eval (k8 82) (.int 4) (eH ns K T n [] u0 u0) h= .ok (.v (.int 4)) h from rfl,R.aa,int?_int,R.ab,R.aa,i,R.aa,int?_int,R.ab,R.aa,if_pos (by rw [GO];omega),R.aA]
 have o:((Ac4 (((4+n:Nat):Int)-4).toNat).map λ(k:Nat)=>D.int (4+(k:Int)))=((Ac4 n).map λk=>4+k).map λ(j:Nat)=>D.int (j:Int):=by
  rw [Af0,show(((4+n:Nat):Int)-4).toNat=n by omega]
  rfl
 rw [o]
 exact r
end
def cn (K T:List Tx):List (Bool×Tx):=K.map (λt=>(k9,t))++T.map λt=>(y9,t)
def j6 (K T:List Tx):cy K T []=(cn K T).map bX:=by
 unfold cy cn
 rw [Ae2,Ac5,Ac0,Af0,Af0];rfl
def CN (K T:List Tx):(cn K T).map (·.2)=K++T:=by
 unfold cn
 rw [Ac0,Af0,Af0]
 show K.map id++T.map id=_
 rw [List.map_id,List.map_id]
def Ff (K T:List Tx):cc (cn K T)=K:=by
 have c: ∀K:List Tx,cc (K.map λt=>(k9,t))=K:=λK=>by
  induction K with
  | nil=>rfl
  | cons t K a=>exact congrArg (t:: ·) a
 have b: ∀T:List Tx,cc (T.map λt=>(y9,t))= []:=λT=>by
  induction T with
  | nil=>rfl
  | cons t T a=>exact a
 unfold cn
 rw [QM,c,b,Ac5]
def yn (K T:List Tx):cb (cn K T)=T:=by
 have c: ∀K:List Tx,cb (K.map λt=>(k9,t))= []:=λK=>by
  induction K with
  | nil=>rfl
  | cons t K a=>exact a
 have b: ∀T:List Tx,cb (T.map λt=>(y9,t))=T:=λT=>by
  induction T with
  | nil=>rfl
  | cons t T a=>exact congrArg (t:: ·) a
 unfold cn
 rw [QO,c,b,Ad8]
noncomputable abbrev dt (ns:List Int) (K T:List Tx) (w:W) (r:Nat) (ds:List D) (x5 x6 x7 x8:Option W):Sl:= [y0 (bf ns),y0 (.v (wD K T)),y0 w,y0 (.v (.ref r)),y0 (.own ds),x5,x6,x7,x8]
section
variable {ns:List Int}{K T:List Tx}{w:W}{r:Nat}
def vd {a:List (Bool×Tx)}{c:Bool×Tx}{x7 x8:Option W}{h:AH}(P:PH h) (g:r<h.length) (m:a.length<=100):
 ∃(f:List (Bool×Tx)) (b:AH),f.Perm (c::a)/\PH b/\b.length=h.length/\execs (k8 82) we (dt ns K T w r ((a.map bX).map .str) (y0 (.v (.int (a.length:Int)))) (y0 (.v (.str (bX c)))) x7 x8) h= .next (dt ns K T w r ((f.map bX).map .str) (y0 (.v (.int (a.length:Int)))) (y0 (.v (.str (bX c)))) x7 x8) b:=by
 obtain⟨v,e,l,k,i,d⟩:=Jf 81 P g (show 0<a.length+1 by omega) (by omega)
 refine⟨a.take v++c::a.drop v,e,?_,k,i,?_⟩
 ·refine Al6.trans ?_
  rw [Ak3]
 ·have d:call prog 82 "_law_next" [.v (.ref r),.v (.int ((a.length+1:Nat):Int))] h= .ok (.v (.int (v:Int))) e:=d
  have z:Gi .add (a.length:Int) 1=y0 ((a.length+1:Nat):Int):=by rw [Xg];rfl
  have j:(((a.map bX).map D.str).length<aW/\(0:Int)<=(v:Int)/\(v:Int)<=(((a.map bX).map D.str).length:Nat)):=by
   rw [Gc];simp;omega
  simp only [we]
  simp_all [z,d]
  rw [if_pos j,Af2,Ac0,Ac0,Ab3,Ab3,Al1,Al1,List.map_drop,List.map_drop]
  rfl
theorem sN {x7 x8:Option W}: ∀(q a:List (Bool×Tx)) (x5 x6:Option W) (h:AH),PH h->r<h.length->a.length+q.length<=100 →
 ∃(b:List (Bool×Tx)) (d:AH),b.Perm (a++q)/\PH d/\d.length=h.length/\ ∃J i,GB (Gz [5,6] y9) (λY h=>execs (k8 82) we Y h) (GN a.length ((q.map bX).map .str)) (dt ns K T w r ((a.map bX).map .str) x5 x6 x7 x8) h= .next (dt ns K T w r ((b.map bX).map .str) J i x7 x8) d
 | [],a,x5,x6,h,P,_,_=>⟨a,h,by rw [Ac5],P,rfl,x5,x6,rfl⟩
 | c::q,a,x5,x6,h,P,l,u=>by
  rw [Aa0]at u
  obtain⟨o,t,f,g,s,p⟩:=vd (ns:=ns) (K:=K) (T:=T) (w:=w) (c:=c) (x7:=x7) (x8:=x8) P l (show a.length<=100 by omega)
  have e:=f.length_eq
  rw [Aa0]at e
  obtain⟨b,j,a2,n,m,J,i,k⟩:=sN q o (y0 (.v (.int (a.length:Int)))) (y0 (.v (.str (bX c)))) t g (by omega) (by omega)
  refine⟨b,j,a2.trans ((f.append_right q).trans Al6.symm),n,m.trans s,J,i,?_⟩
  rw [Ab3,Ab3,GN,xg (Y1:=dt ns K T w r ((a.map bX).map .str) (y0 (.v (.int (a.length:Int)))) (y0 (.v (.str (bX c)))) x7 x8) rfl p,←e]
  exact k
def RA (K T:List Tx) (c:Tx×D):Prop:= ∀g,Rd 77 K T g c
def CV (v:ns.length<=63) (q:Nm (K++T)) (I:(K++T).length<=100){ds:List D}(hd:ds.length<=100){s:Sy}(wf:s.wf (K++T)) (dp:s.dp<=6){j:Nat}{x6 x8:Option W}{h:AH}(P:PH h):
 ∃t h',RA K T (t,ai s)/\PH h'/\h.length<=h'.length/\ ∃J,execs (k8 82) je (dt ns K T w r ds (y0 (.v (.int (j:Int)))) x6 (y0 (.v (ai s))) x8) h= .next (dt ns K T w r (ds++ [.str (bV++32::t)]) (y0 (.v (.int (j:Int)))) x6 (y0 (.v (ai s))) J) h':=by
 have L:20*2 ^ s.dp<=20*2 ^ 6:=Af5 _ (Ab9 (by decide) dp)
 obtain⟨a2,b,c,B⟩:=Jx 80 ns v (16+j) h
 have o:=P.app a2 b c
 have R:(h++ [Cell.lst [D.int a2,D.int b,D.int c]]).length=h.length+1:=by simp
 obtain⟨n,u,k,l,Q,y,H,O,e⟩:=Ew (K++T) q.good h.length s wf (by omega) (76-s.dp) 0 (by decide) _ o (by omega)
 rw [show 76-s.dp+s.dp+6=82 by omega]at e
 have e:call prog 82 "_law_saying_tokens" [.v (ai s),.v (.int 0),.v (.ref h.length)] (h++ [Cell.lst [D.int a2,D.int b,D.int c]])= .ok u k:=e
 obtain⟨t,a,d,E,M,x,N,i⟩:=C5 (m:=78) (r:=h.length) (w:=u.arg) (ts:=n) (by rcases y with rfl | rfl;exact .inl rfl;exact .inr rfl) l.lex (by omega) H (by omega)
 have i:call prog 82 "_law_spaced" [u.arg,.v (.ref h.length)] k= .ok (.v (.str t)) d:=i
 refine⟨t,d,λg=>⟨by show t.length<=_;omega,pF 16 2 g K T I t n a E (by omega) (by omega) s (l.wk (by omega)) (by decide)⟩,x,by omega,y0 (.v (.ref h.length)),?_⟩
 have z:Gi .add 16 (j:Int)=y0 ((16+j:Nat):Int):=Xz 16 j
 have C:Gj (k8 82) (.b .v0 (.bin .add (.int 16) .v5)) (dt ns K T w r ds (y0 (.v (.int (j:Int)))) x6 (y0 (.v (ai s))) x8) h= .ok [bf ns,.v (.int ((16+j:Nat):Int))] h:=by
  simp_all [z]<;>rfl
 have A:=Xj (F:=(k8 82)) (f:= "_law_purse") (es:= .cons .v0 (.a (.bin .add (.int 16) .v5))) (Y:=dt ns K T w r ds (some (.v (.int (j:Int)))) x6 (some (.v (ai s))) x8) (h:=h) (ws:= [bf ns,.v (.int ((16+j:Nat):Int))]) (xs:= [D.int a2,D.int b,D.int c]) C B rfl
 simp only [je]
 rw [za (Y1:=dt ns K T w r ds (y0 (.v (.int (j:Int)))) x6 (y0 (.v (ai s))) (y0 (.v (.ref h.length)))) (h1:=h++ [Cell.lst [D.int a2,D.int b,D.int c]]) (by rw [exec,A];rfl)]
 have p:ds.length<aW:=by rw [Gc];omega
 have G:GA .add (.v (.str fq)) (.v (.str t)) d= .ok (.v (.str (bV++32::t))) d:=mr fq t d (by simp;omega)
 simp_all [e,i,G,p,if_true]
theorem n5 (d:ns.length<=63) (b:Nm (K++T)) (f:(K++T).length<=100){x6:Option W}: ∀(ss:List Sy) (i:Nat) (ds:List D) (x5 x7 x8:Option W) (h:AH),(∀ s∈ss,s.wf (K++T)/\s.dp<=6)->ds.length+ss.length<=100->PH h →
 ∃(q:List (Tx×D)) (a:AH),q.map (·.2)=ss.map ai/\(∀ c∈q,RA K T c)/\PH a/\h.length<=a.length/\ ∃M L J,GB (Gz [5,7] y9) (λY h=>execs (k8 82) je Y h) (GN i (ss.map ai)) (dt ns K T w r ds x5 x6 x7 x8) h= .next (dt ns K T w r (ds++q.map λc=> .str (bV++32::c.1)) M x6 L J) a
 | [],i,ds,x5,x7,x8,h,_,_,P=>⟨[],h,rfl,λ_ z=>absurd z Aa2,P,Aa7 _,x5,x7,x8,by rw [Ae2,Ae2,Ac5];rfl⟩
 | s::ss,i,ds,x5,x7,x8,h,e,hd,P=>by
  rw [Aa0]at hd
  obtain⟨C,F⟩:=e s Aa4
  obtain⟨t,G,A,g,I,J,B⟩:=CV (w:=w) (r:=r) d b f (show ds.length<=100 by omega) C F (j:=i) (x6:=x6) (x8:=x8) P
  obtain⟨q,k,x,l,y,H,v,E,m,o⟩:=n5 d b f (x6:=x6) ss (i+1) (ds++ [.str (bV++32::t)]) (y0 (.v (.int (i:Int)))) (y0 (.v (ai s))) J G (λu n=>e u (Aa5 _ n)) (by simp;omega) g
  refine⟨(t,ai s)::q,k,by rw [Ab3,Ab3,x],λc p=>(Aa.mp p).elim (λz=>by rw [z];exact A) (l c),y,by omega,v,E,m,?_⟩
  rw [Ab3,GN,xg (Y1:=dt ns K T w r ds (y0 (.v (.int (i:Int)))) x6 (y0 (.v (ai s))) x8) rfl B,o,Ac6];rfl
theorem js: ∀a b:List D,Gf (a++b)=(Gf a&&Gf b)
 | [],b=>rfl
 | d::a,b=>by rw [Ae,Gf,Gf,js a b,Bool.and_assoc]
theorem QZ: ∀q:List (Tx×D),Gf (q.map λc=> .str (bV++32::c.1))=k9
 | []=>rfl
 | c::q=>by rw [Ab3,Gf,QZ q];rfl
def F5 (E:ns.length<=63) (j:Nm (K++T)) (O:K.length<=4) (Q:T.length<=4){ss:List Sy}(L: ∀s∈ss,s.wf (K++T)/\s.dp<=6) (W:ss.length<=12){h:AH}(P:PH h) (F:r<h.length):
 ∃(p:List (Bool×Tx)) (q:List (Tx×D)) (f:AH),p.Perm (cn K T)/\q.map (·.2)=ss.map ai/\(∀ c∈q,RA K T c)/\PH f/\f.length=h.length/\call prog 83 "_law_mixed_rows" [bf ns,.v (wD K T),.v (.lst (ss.map ai)),.v (.ref r)] h= .ok (.own ((p.map bX).map .str++q.map fun c=> .str (bV++32::c.1))) f:=by
 have U:(K++T).length<=100:=by simp;omega
 have Y:(cn K T).length<=8:=by unfold cn;simp;omega
 obtain⟨p,a,i,v,X,u,b,M⟩:=sN (ns:=ns) (K:=K) (T:=T) (w:= .v (.lst (ss.map ai))) (r:=r) (x7:=u0) (x8:=u0) (cn K T) [] u0 u0 h P F (by simp;omega)
 have g:=i.length_eq
 rw [Ad8]at g
 obtain⟨q,e,I,x,J,V,G,S,y,C⟩:=n5 (w:= .v (.lst (ss.map ai))) (r:=r) E j U (x6:=b) ss 0 ((p.map bX).map .str) u u0 u0 a L (by simp;omega) v
 obtain⟨A,H,k⟩:=ZX (xs:=(p.map bX).map .str++q.map λc=> .str (bV++32::c.1)) (n:=h.length) (h:=e) (by rw [js,xk,QZ];rfl) (by omega)
 refine⟨p,q,A,by rw [Ad8]at i;exact i,I,x,k▸J.take _,by rw [k,Ae9];omega,?_⟩
 rw [Gb (d:=jj) rfl _ _ _ rfl]
 simp only [jj]
 show Gu _ (execs _ _ [y0 (bf ns),y0 (.v (wD K T)),y0 (.v (.lst (ss.map ai))),y0 (.v (.ref r)),u0,u0,u0,u0,u0] h)=_
 rw [za (Y1:=dt ns K T (.v (.lst (ss.map ai))) r [] u0 u0 u0 u0) (h1:=h) rfl]
 rw [za (Y1:=dt ns K T (.v (.lst (ss.map ai))) r ((p.map bX).map .str) u b u0 u0) (h1:=a) ?_]
 ·rw [za (Y1:=dt ns K T (.v (.lst (ss.map ai))) r ((p.map bX).map .str++q.map λc=> .str (bV++32::c.1)) G b S y) (h1:=e) ?_,qa (w:= .own ((p.map bX).map .str++q.map λc=> .str (bV++32::c.1))) (h1:=e) rfl,H]
  rw [exec]
  exact C
 ·have l:=sh (m:=80) (h:=h) (K:=K) (T:=T) (N:=K++T) (ss:= []) (w:= .bor []) (.inr rfl) (λt B=>(j.good t B).hi) O Q (by simp) (λ_ z=>absurd z Aa2)
  rw [j6]at l
  rw [exec]
  have g:GC (k8 82) (.bY (.call "_law_shown_rows" (.b .v1 (.lst .nil)))) (dt ns K T (.v (.lst (ss.map ai))) r [] none none none none) h= .ok (GN 0 (((cn K T).map bX).map .str)) h:=by
   show((eval (k8 82) (.call "_law_shown_rows" (.b .v1 (.lst .nil))) (dt ns K T (.v (.lst (ss.map ai))) r [] none none none none) h).bind fun w h=>(R.of h (mq w)).bind fun o h=> .ok (GN 0 o) h)=_
   rw [show eval (k8 82) (.call "_law_shown_rows" (.b .v1 (.lst .nil))) (dt ns K T (.v (.lst (ss.map ai))) r [] none none none none) h= .ok (.own (((cn K T).map bX).map .str)) h by simp_all [l]]
   rfl
  rw [g,R.aA]
  exact M
end
theorem WP (h:AH): ∀ts:List Tx,GL h (ts.map .str)=ts.map .str
 | []=>rfl
 | t::ts=>by rw [Ab3,GL,WP h ts];rfl
theorem sQ: ∀ts:List Tx,GJ (ts.map .str) (ts.map .str)=k9
 | []=>rfl
 | t::ts=>by rw [Ab3,GJ,sQ ts,Bool.and_true];exact beq_self_eq_true t
theorem rJ: ∀ts:List Tx,GS (ts.map .str)=0
 | []=>rfl
 | t::ts=>by rw [Ab3,GS,rJ ts];rfl
def pq (ts:List Tx) (a b:W) (h:AH) (c:a.dd h= .lst (ts.map .str)) (d:b.dd h= .lst (ts.map .str)):Gw .ne a b h=y0 false:=by
 rw [Dk,c,d,if_pos]
 ·rw [cR,sQ];rfl
 ·show(Gf (ts.map .str)&&Gf (ts.map .str)&&u9 (GS (ts.map .str)+1<150))=k9
  rw [xk,rJ];rfl
def dm (p:List (Bool×Tx)) (q:List (Tx×D)):List Tx:=p.map bX++q.map λc=>bV++32::c.1
def s9 (p:List (Bool×Tx)) (q:List (Tx×D)):((p.map bX).map D.str++q.map λc=> .str (bV++32::c.1))=(dm p q).map .str:=by
 unfold dm
 rw [Ac0]
 congr 1
 rw [Af0];rfl
def JV (ts:List Tx) (b:ts.length<=100) (n:Nat):Gd (n+1) (.tup (ts.map .str)):= .tup (by simpa using b) λx a=>by
 obtain⟨t,_,rfl⟩:=Ad6.mp a
 exact .str t
def Df {K T:List Tx}{ss:List Sy}(e:K.length<=4) (f:T.length<=4) (g:ss.length<=12) (c: ∀s∈ss,s.dp<=6):Gd 10 (bA K T (ss.map ai)):= .tup (by simp) λx b=>by
 simp only [Aa,Aa2,or_false]at b
 rcases b with rfl | rfl
 ·refine .tup (by simp) λy a=> ?_
  simp only [Aa,Aa2,or_false]at a
  rcases a with rfl | rfl
  ·exact JV K (by omega) _
  ·exact JV T (by omega) _
 ·refine .tup (by simp;omega) λy a=> ?_
  obtain⟨s,d,rfl⟩:=Ad6.mp a
  have:=c s d
  exact(Q9 s).wk (by omega)
def Fb {K T:List Tx}(b:Nm (K++T)) (d:(K++T).length<=100){s:Sy}(wf:s.wf (K++T)) (dp:s.dp<=6):RA K T (sT s,ai s):=λg=>by
 have sl:=oJ (λt e=>(b.good t e).hi) s wf
 have i:100*2 ^ s.dp<=100*2 ^ 6:=Af5 _ (Ab9 (by decide) dp)
 have j:20*2 ^ s.dp<=20*2 ^ 6:=Af5 _ (Ab9 (by decide) dp)
 obtain⟨c,k,a,f,h⟩:=Ar b.good s wf [] [] Zj Lx.nil Ws
 rw [Ad8,Ad8]at a
 exact⟨by show(sT s).length<=_;omega,pF 16 2 g K T d (sT s) c k a (by omega) (by omega) s ((TS.down f (Ae8 _) (QJ s)).wk (by omega)) (by decide)⟩
def yN (K T:List Tx) (ss:List Sy):cy K T ss=dm (cn K T) (ss.map λs=>(sT s,ai s)):=by
 have:=j6 K T
 unfold cy at this ⊢
 rw [Ae2,Ac5]at this
 unfold dm
 rw [this,Af0];rfl
def oM {K T:List Tx}(k:Nm (K++T)) (n:K.length<=4) (o:T.length<=4) (i:Gg K=K) (b:Gg T=T){p:List (Bool×Tx)}(a:p.Perm (cn K T)){q:List (Tx×D)}(l: ∀c∈q,RA K T c) (r:q.length<=12) (h:AH):
 call prog 83 "read_theory" [.v (.lst ((dm p q).map .str))] h= .ok (.v (bA K T (q.map (·.2)))) h:=by
 have f:(cc p).Perm K:=by
  have:=((a.filter (·.1)).map (·.2))
  rw [show ((cn K T).filter (·.1)).map (·.2)=cc (cn K T)from rfl,Ff]at this
  exact this
 have pt:(cb p).Perm T:=by
  have:=((a.filter (!·.1)).map (·.2))
  rw [show ((cn K T).filter (!·.1)).map (·.2)=cb (cn K T)from rfl,yn]at this
  exact this
 have d:Nm (p.map (·.2)):=by
  have:=a.map (·.2)
  rw [CN]at this
  exact k.perm this
 have g:Gg (cc p)=K:=(WB f (kG d.hd)).trans i
 have e:Gg (cb p)=T:=(WB pt (kU d.hd)).trans b
 have:=yp (j:=77) (h:=h) (p:=p) (q:=q) d (by rw [f.length_eq];exact n) (by rw [pt.length_eq];exact o) (λc m=>by rw [g,e];exact l c m h) r
 rw [g,e,s9]at this
 exact this
noncomputable abbrev fk (ns:List Int) (K T:List Tx) (x2 x3 x4 x5 x6 x7 x8:Option W):Sl:= [y0 (bf ns),y0 (.v (wD K T)),x2,x3,x4,x5,x6,x7,x8]
def eT (ns:List Int) (G:ns.length<=63): ∃h',call prog 84 "law" [.v (.lst (ns.map .int))] []= .ok (.v (.bl true)) h':=by
 obtain⟨K,T,i,⟨A,⟨a,R⟩,b,V⟩,u,o,P0,l0,Q⟩:=CM 79 ns G [] PH.nil
 have O:(K++T).length<=100:=by simp;omega
 have I: ∀t∈K++T,t.length<=8:=λt ht=>(o.good t ht).hi
 have S:Gg K=K:=by
  have:a.Nodup:=(xb a).nodup_iff.mp (R▸kG o)
  rw [R,xw this]
 have B:Gg T=T:=by
  have:b.Nodup:=(xb b).nodup_iff.mp (V▸kU o)
  rw [V,xw this]
 obtain⟨x,y,z,e1⟩:=Jx 81 ns G 3 i
 have P1:=P0.app x y z
 have l1:(i++ [Cell.lst [D.int x,D.int y,D.int z]]).length=i.length+1:=by simp
 obtain⟨v,h2,hv,Z,l2,J⟩:=Jf 82 P1 (show i.length<(i++ [Cell.lst [D.int x,D.int y,D.int z]]).length by omega) (show 0<13 by decide) (by decide)
 have J:call prog 83 "_law_next" [.v (.ref i.length),.v (.int 13)] (i++ [Cell.lst [D.int x,D.int y,D.int z]])= .ok (.v (.int (v:Int))) h2:=J
 obtain⟨e,h3,ls,k,P3,l3,U⟩:=Bd G O (n:=v) (by omega) Z
 obtain⟨p,q,g,pp,W,rq,P4,l4,L⟩:=F5 (r:=i.length) G o A u k (by omega) P3 (by omega)
 have lq:q.length<=12:=by
  have:=congrArg List.length W
  rw [Ab1,Ab1]at this
  omega
 rw [s9]at L
 have X:=oM o A u S B pp rq lq g
 rw [W]at X
 have H:=oQ g 10 72 _ (Df A u (show e.length<=12 by omega) λs j=>(k s j).2)
 have H:call prog 83 "_law_same" [.v (bA K T (e.map ai)),.v (bA K T (e.map ai))] g= .ok (.v (.bl true)) g:=H
 have len: ∀s∈e,(sT s).length<=600000:=λs j=>by
  have sl:=oJ I s (k s j).1
  have hp:100*2 ^ s.dp<=100*2 ^ 6:=Af5 _ (Ab9 (by decide) (k s j).2)
  omega
 have P:=CJ (m:=81) (h:=g) (K:=K) (T:=T) (N:=K++T) (ss:=e) I A u (by omega) λs j=>⟨(k s j).1,len s j,by have:=(k s j).2;omega⟩
 have e8:=sh (m:=81) (h:=g) (K:=K) (T:=T) (N:=K++T) (ss:=e) (w:= .v (.lst (e.map ai))) (.inl rfl) I A u (by omega) λs j=>⟨(k s j).1,len s j,by have:=(k s j).2;omega⟩
 have lr:(cy K T e).length<=100:=by unfold cy;simp;omega
 have M:=oQ g 1 81 _ (JV (cy K T e) lr 0)
 have M:call prog 83 "_law_same" [.v (.tup ((cy K T e).map .str)),.v (.tup ((cy K T e).map .str))] g= .ok (.v (.bl true)) g:=M
 have C:=oM o A u S B (.refl (cn K T)) (q:=e.map λs=>(sT s,ai s)) (λc hc=>by
  obtain⟨s,j,rfl⟩:=Ad6.mp hc
  exact Fb o O (k s j).1 (k s j).2) (by rw [Ab1];omega) g
 rw [← yN,Af0,show((·.2)∘λs=>(sT s,ai s))=ai from rfl]at C
 obtain⟨h9,f9,_⟩:=rO (d:= .bl k9) (n:=0) (h:=g) rfl (Ae8 _)
 refine⟨h9,?_⟩
 rw [Gb (d:=mF) rfl _ _ _ rfl]
 simp only [mF]
 show Gu 0 (execs _ _ [y0 (bf ns),u0,u0,u0,u0,u0,u0,u0,u0] [])=_
 rw [za (Y1:=fk ns K T u0 u0 u0 u0 u0 u0 u0) (h1:=i) (by simp only [bf]at Q;simp_all [Q])]
 have p1:=Xj (F:=(k8 83)) (f:= "_law_purse") (es:= .cons .v0 (.a (.int 3))) (Y:=fk ns K T none none none none none none none) (h:=i) (ws:= [bf ns,.v (.int 3)]) (xs:= [D.int x,D.int y,D.int z]) rfl e1 rfl
 rw [za (Y1:=fk ns K T (y0 (.v (.ref i.length))) u0 u0 u0 u0 u0 u0) (h1:=i++ [Cell.lst [D.int x,D.int y,D.int z]]) (by rw [exec,p1];rfl)]
 simp only [bf]at U L
 rw [za (Y1:=fk ns K T (y0 (.v (.ref i.length))) (y0 (.v (.lst (e.map ai)))) u0 u0 u0 u0 u0) (h1:=h3) (by simp_all [J,U])]
 rw [za (Y1:=fk ns K T (y0 (.v (.ref i.length))) (y0 (.v (.lst (e.map ai)))) (y0 (.v (.lst ((dm p q).map .str)))) u0 u0 u0 u0) (h1:=g) (by simp_all [L])]
 rw [za (Y1:=fk ns K T (y0 (.v (.ref i.length))) (y0 (.v (.lst (e.map ai)))) (y0 (.v (.lst ((dm p q).map .str)))) (y0 (.v (.lst ((dm p q).map .str)))) u0 u0 u0) (h1:=g) (by simp_all [vk])]
 rw [za (Y1:=fk ns K T (y0 (.v (.ref i.length))) (y0 (.v (.lst (e.map ai)))) (y0 (.v (.lst ((dm p q).map .str)))) (y0 (.v (.lst ((dm p q).map .str)))) (y0 (.v (bA K T (e.map ai)))) u0 u0) (h1:=g) (by simp_all [X])]
 have E: ∀l:List D,cU .tuple [.v (.lst l)] g=aF (.tup l) g:=λ_=>rfl
 have tb: ∀l:List D,cU .tuple [.bor l] g=aF (.tup l) g:=λ_=>rfl
 have n1:Gw .ne (.v (.lst ((dm p q).map .str))) (.v (.lst ((dm p q).map .str))) g=y0 false:=pq (dm p q) _ _ g (by show D.lst (GL g _)=_;rw [WP]) (by show D.lst (GL g _)=_;rw [WP])
 rw [xa (by simp_all [E,aF,H,n1])]
 rw [za (Y1:=fk ns K T (y0 (.v (.ref i.length))) (y0 (.v (.lst (e.map ai)))) (y0 (.v (.lst ((dm p q).map .str)))) (y0 (.v (.lst ((dm p q).map .str)))) (y0 (.v (bA K T (e.map ai)))) (y0 (.own ((cy K T e).map .str))) u0) (h1:=g) (by simp_all [E,aF,P])]
 have ib: ∀l:List D,cu .list (.bor l)=y0 true:=λ_=>rfl
 rw [xa (by simp_all [E,tb,aF,e8,M,wG,ib])]
 rw [za (Y1:=fk ns K T (y0 (.v (.ref i.length))) (y0 (.v (.lst (e.map ai)))) (y0 (.v (.lst ((dm p q).map .str)))) (y0 (.v (.lst ((dm p q).map .str)))) (y0 (.v (bA K T (e.map ai)))) (y0 (.own ((cy K T e).map .str))) (y0 (.v (.lst ((cy K T e).map .str))))) (h1:=g) (by simp_all [FI])]
 rw [za (Y1:=fk ns K T (y0 (.v (.ref i.length))) (y0 (.v (.lst (e.map ai)))) (y0 (.v (.lst ((dm p q).map .str)))) (y0 (.v (.lst ((dm p q).map .str)))) (y0 (.v (bA K T (e.map ai)))) (y0 (.own ((cy K T e).map .str++ [.str gr]))) (y0 (.v (.lst ((cy K T e).map .str))))) (h1:=g) (by
  have lm:((cy K T e).map D.str).length<aW:=by rw [Gc,Ab1];omega
  simp_all [lm,if_true])]
 have n2:Gw .ne (.own ((cy K T e).map .str)) (.v (.lst ((cy K T e).map .str))) g=y0 false:=pq (cy K T e) _ _ g (by show D.lst (GL g _)=_;rw [WP]) (by show D.lst (GL g _)=_;rw [WP])
 rw [xa (by simp_all [P,n2])]
 rw [qa (w:= .v (.bl k9)) (h1:=g) (Qc rfl (by simp_all [E,aF,C,H])),f9]
end M
namespace L2.MS
open PySem PyProof.Rows
noncomputable def mn:List String:= ["is_written", "is_word", "is_name", "words_of", "theory_of", "sort_of_sign", "signs_of", "one_deeper", "read_saying", "expression_of_rank", "shown_expression", "saying_of_rank", "shown_fact", "shown_saying", "taken", "with_row", "read_theory", "shown_theory", "_law_cell", "_law_purse", "_law_next", "_law_family", "_law_any_names", "_law_words", "_law_leaf", "_law_expression", "_law_fact", "_law_saying", "_law_level", "_law_text", "_law_saying_level", "_law_saying_text", "_law_tokens", "_law_fact_tokens", "_law_saying_tokens", "_law_sort", "_law_spaced", "_law_same", "_law_shown_rows", "_law_sayings", "_law_mixed_rows", "law"]
def mD:List String:= []
def mL:List String:= []
def l9:List String:= []
noncomputable def Av:eV:=⟨[("Reader", "names"),("Reader", "signs"),("Reader", "place")],[("Reader", "here", "Reader.here"),("Reader", "take", "Reader.take"),("Reader", "take_just", "Reader.take_just"),("Reader", "saying", "Reader.saying"),("Reader", "part", "Reader.part"),("Reader", "unit", "Reader.unit"),("Reader", "fact", "Reader.fact"),("Reader", "count_fact", "Reader.count_fact"),("Reader", "limit", "Reader.limit"),("Reader", "pair_fact", "Reader.pair_fact"),("Reader", "expression", "Reader.expression"),("Reader", "term", "Reader.term"),("Reader", "factor", "Reader.factor"),("Reader", "atom", "Reader.atom")],[("Reader", "Reader.__init__")],["Reader.__init__", "Reader.here", "Reader.take", "Reader.take_just", "Reader.saying", "Reader.part", "Reader.unit", "Reader.fact", "Reader.count_fact", "Reader.limit", "Reader.pair_fact", "Reader.expression", "Reader.term", "Reader.factor", "Reader.atom"],[]⟩
def uK:List (String×List String):= []
end L2.MS
namespace PySem.W.Fast
def tw2336674893780201565:=Nat
def tw18088791018733765621:=Nat
def tw2778342710553937686:=Nat
def tw18220842478246947678:=Nat
def tw3701595211213508856:=Nat
def tw3754428219445348970:=Nat
def tw18159361762588299486:=Nat
def tw675711510769948768:=Nat
def tw12758737352383578033:=Nat
def tw9678633212617437232:=Nat
def tw10968730595096785069:=Nat
def tw8413374468456900675:=Nat
def tw291454776871633878:=Nat
def tw17210292702239077537:=Nat
def tw400615064285220856:=Nat
def tw8789121477989863792:=Nat
def tw2315111589570510302:=Nat
def tw15539679795122072406:=Nat
def tw2625238440687111319:=Nat
def tw15589999247036365628:=Nat
def tw1468782918275176143:=Nat
def tw14806719047817822167:=Nat
def tw2582376341576963294:=Nat
def tw10990822701433116881:=Nat
def tw17066461149609976942:=Nat
def tw16474208884883304836:=Nat
def tw4145205341972057496:=Nat
def tw10483421038240709169:=Nat
def tw17430337661489323985:=Nat
def tw12659306366078307334:=Nat
def tw7375250820323130604:=Nat
def tw1866421095956267324:=Nat
def tw15196255542119900734:=Nat
def tw10906161004150915060:=Nat
def tw900354693069237646:=Nat
def tw8972572754256679324:=Nat
def tw16449037719741688807:=Nat
def tw2063358926859348539:=Nat
def tw14066525853564209167:=Nat
def tw4176148681146418533:=Nat
def tw229004014842402778:=Nat
def tw15417157161684707246:=Nat
def tw15521524702262061344:=Nat
def tw2015042882290661942:=Nat
def tw13735601114116831484:=Nat
def tw9378929793692606019:=Nat
def tw3079461922127949544:=Nat
def tw10605220993895168293:=Nat
def tw3529864660558805851:=Nat
def tw13034365721412394598:=Nat
def tw3548949860559073032:=Nat
def tw1642822958563495592:=Nat
def tw10952598711421090759:=Nat
def tw10431878905033446661:=Nat
def tw11056387182142988331:=Nat
def tw922697887663650065:=Nat
def tw377904151190996718:=Nat
def tw3277615215830365278:=Nat
def tw26028452387678657:=Nat
def tw16061090542078118588:=Nat
def tw6489217918275134178:=Nat
def tw2467582865173665882:=Nat
def tw13338309711725591386:=Nat
def tw12646030054763424416:=Nat
def tw9943669205045907216:=Nat
def tw9369332464741468023:=Nat
def tw5919691294799257105:=Nat
def tw336732200567756601:=Nat
def tw13130366198154582839:=Nat
def tw18237686704877378293:=Nat
def tw11529069041893674649:=Nat
def tw6216629559460862527:=Nat
def tw2324886700553945864:=Nat
def tw9252857163835385421:=Nat
def tw17326659251573262272:=Nat
def tw10626240895859517315:=Nat
def tw8324665537282210132:=Nat
def tw6348590602200534792:=Nat
def tw404757338662083883:=Nat
def tw2638167181580787296:=Nat
def tw2145913618073809917:=Nat
def tw1984736866010389853:=Nat
def tw9934450498740401188:=Nat
def tw5220316749367186079:=Nat
def tw1898876823367856384:=Nat
def tw10532013560585388874:=Nat
def tw6788133565855701025:=Nat
def tw2066379189009146200:=Nat
def tw13478341268098113557:=Nat
def tw4933680599945947442:=Nat
def tw13516012624046310212:=Nat
def tw15383314069718984974:=Nat
def tw9933365149449243285:=Nat
def tw696275414174988791:=Nat
def tw9003821700124232189:=Nat
def tw13812338120654503537:=Nat
def tw5672461861148709030:=Nat
def tw14936538692507141190:=Nat
def tw1457517482116377917:=Nat
def tw11858502789412290121:=Nat
def tw7319218965555986149:=Nat
def tw5667811460577039168:=Nat
def tw15198017024616188928:=Nat
def tw12613596228287502491:=Nat
def tw4670412027959604269:=Nat
def tw1711494611280954797:=Nat
def tw1454808913372223972:=Nat
def tw10664498190422384441:=Nat
def tw14498489005135515261:=Nat
def tw13830507210253647205:=Nat
def tw9066612374210187357:=Nat
def tw7422325931828968704:=Nat
def tw13868640769953866630:=Nat
def tw6839211316831775587:=Nat
def tw1774694922004188965:=Nat
def tw845957258887857819:=Nat
def tw16288864495247293434:=Nat
def tw16067187880161520922:=Nat
def tw4431841268290774299:=Nat
def tw12995966951175246144:=Nat
def tw10665861481318021114:=Nat
def tw3911477346511898064:=Nat
def tw9382175132073930492:=Nat
def tw9095752101383376737:=Nat
def tw10802590808150218218:=Nat
def tw17340282089250210814:=Nat
def tw15308647863894399025:=Nat
def tw15354474845990714529:=Nat
def tw11669045536046871807:=Nat
def tw2890995896815601352:=Nat
def tw16732789999388916873:=Nat
def tw11030651090063021287:=Nat
def tw6575381905175506908:=Nat
def tw14507377072503314252:=Nat
def tw12750882015275844042:=Nat
def tw2463163110237692563:=Nat
def tw12712946839314371841:=Nat
def tw3311982383361085469:=Nat
def tw17901518320199283930:=Nat
def tw14472492111518039869:=Nat
def tw14063428672380932536:=Nat
def tw12000864485544700124:=Nat
def tw11872937025784116922:=Nat
def tw11931445645830661588:=Nat
def tw16671904982303049157:=Nat
def tw1428941298203315021:=Nat
def tw14500284877299069643:=Nat
def tw12057658934960503877:=Nat
def tw10379268559253994452:=Nat
def tw10682470944013883133:=Nat
def tw4958693769765265615:=Nat
def tw17962113580940858999:=Nat
def tw16289671554461529570:=Nat
def tw4944654004975009561:=Nat
def tw3695869085889629343:=Nat
def tw12100428601948805296:=Nat
def tw11858646486674960008:=Nat
def tw18280357375097078214:=Nat
def tw15331179252359617449:=Nat
def tw6797954456595706935:=Nat
def tw3669339045756764874:=Nat
def tw2074189410477779862:=Nat
def tw1313253239187360139:=Nat
def tw11874788457248017565:=Nat
def tw9330117675388246987:=Nat
def tw12560358527325740445:=Nat
def tw11177359169271857157:=Nat
def tw285309941387610441:=Nat
def tw15400112883380428209:=Nat
def tw6441761484860805845:=Nat
def tw16947727906405348317:=Nat
def tw16484926609348518439:=Nat
def tw9304390562831875511:=Nat
def tw5287412981619896091:=Nat
def tw14900465709178359666:=Nat
def tw11061235721397374968:=Nat
def tw10160013959275317832:=Nat
def tw13945714744491230324:=Nat
def tw9951639779030855990:=Nat
def tw9411105895180371186:=Nat
def tw9303651159104000307:=Nat
def tw3320862287686010904:=Nat
def tw15434473915007245587:=Nat
def tw14540431958923993750:=Nat
def tw13756926679388717771:=Nat
def tw8597864718514098781:=Nat
def tw5426018482490151693:=Nat
def tw3810905727367413948:=Nat
def tw2323072999984506094:=Nat
def tw18187840155035334679:=Nat
def tw2064818140099790997:=Nat
def tw6397781483523424840:=Nat
def tw11706752101611234207:=Nat
def tw2211775546556482575:=Nat
def tw16946799869134261329:=Nat
def tw10787857247931357222:=Nat
def tw8559877839581015245:=Nat
def tw6504271887263360767:=Nat
def tw18373305882554128331:=Nat
def tw17347546953007304929:=Nat
def tw16101259355210853124:=Nat
def tw9948838924207980417:=Nat
def tw994647725457465426:=Nat
def tw9877885925224761469:=Nat
def tw9746679074537120953:=Nat
def tw9521517554156150397:=Nat
def tw9312204942769774842:=Nat
def tw925491722582993376:=Nat
def tw9193568908678271673:=Nat
def tw9106259312740273895:=Nat
def tw8864092537866383086:=Nat
def tw8854086253287132097:=Nat
def tw8733263894924946949:=Nat
def tw8666124456695662081:=Nat
def tw8627387672254498117:=Nat
def tw8557866684774512272:=Nat
def tw8495152354574406395:=Nat
def tw8467471587900584092:=Nat
def tw8421179467551647831:=Nat
def tw8282521388308634984:=Nat
def tw8249937574208394146:=Nat
def tw8171415395437630741:=Nat
def tw8040106309134905119:=Nat
def tw8006844498828410722:=Nat
def tw7823920278654571192:=Nat
def tw7687545744551444700:=Nat
def tw760793688421500545:=Nat
def tw7539520314536534985:=Nat
def tw7383543886023086394:=Nat
def tw7240580822861430212:=Nat
def tw6694494630276281945:=Nat
def tw6600909421552355242:=Nat
def tw6503638765353002111:=Nat
def tw6349322727080102047:=Nat
def tw60873821622943700:=Nat
def tw5899426909723839631:=Nat
def tw5827875775012850781:=Nat
def tw5805816125616738466:=Nat
def tw5802307500701856486:=Nat
def tw5739802514226501016:=Nat
def tw5676696714033817749:=Nat
def tw5651898260807771950:=Nat
def tw5633814602810049267:=Nat
def tw5582533953773924693:=Nat
def tw5501555779472421133:=Nat
def tw5321591616317284317:=Nat
def tw517294460120479164:=Nat
def tw5123804297486873103:=Nat
def tw4964068969547128266:=Nat
def tw4908443321450188503:=Nat
def tw4902122164247710192:=Nat
def tw4832084534642812230:=Nat
def tw4770858774314487259:=Nat
def tw4189648203874061078:=Nat
def tw3909553504502839170:=Nat
def tw3835031619317057224:=Nat
def tw3556060264336855876:=Nat
def tw3521753942639258460:=Nat
def tw3512312471300297199:=Nat
def tw3381268408591533151:=Nat
def tw3242473194582504428:=Nat
def tw3232754173426943248:=Nat
def tw3229304481674027323:=Nat
def tw3174928853820988950:=Nat
def tw3164826417146395855:=Nat
def tw31552331965983253:=Nat
def tw2966941630141557226:=Nat
def tw2693368998162031741:=Nat
def tw2681827704406440480:=Nat
def tw260362243065862674:=Nat
def tw2526265301525852431:=Nat
def tw2497110012033028863:=Nat
def tw2199769523418841831:=Nat
def tw212013690619294083:=Nat
def tw1845617984741014849:=Nat
def tw18304716008005193363:=Nat
def tw1819000587281390011:=Nat
def tw18175822271664182894:=Nat
def tw17769463832063928198:=Nat
def tw17735802391428914774:=Nat
def tw17460654153085791517:=Nat
def tw17448428460236236182:=Nat
def tw17385585209150341809:=Nat
def tw17343995895612246019:=Nat
def tw17127638183587271169:=Nat
def tw17080818732956996076:=Nat
def tw17060331146309619912:=Nat
def tw16880299554928600101:=Nat
def tw16574756063391877524:=Nat
def tw16452904511507744605:=Nat
def tw16358530116943387880:=Nat
def tw16353373632076721008:=Nat
def tw16345871719410122819:=Nat
def tw16339139577709104951:=Nat
def tw1631415121884374056:=Nat
def tw16304171307404268090:=Nat
def tw16302781225802641366:=Nat
def tw16197399670424113989:=Nat
def tw16010374445697050456:=Nat
def tw15436615379614544983:=Nat
def tw15258845826682200312:=Nat
def tw15183144308804411486:=Nat
def tw15172902269404353156:=Nat
def tw15144223115610887179:=Nat
def tw14991097837828795129:=Nat
def tw14856870422413007593:=Nat
def tw14638502457541909420:=Nat
def tw14601832479557747406:=Nat
def tw14502569287063181058:=Nat
def tw14427643045821598847:=Nat
def tw14302057312373088707:=Nat
def tw14185390774371159341:=Nat
def tw14135113633802279606:=Nat
def tw14126306514351821792:=Nat
def tw1391442962085238970:=Nat
def tw13821007345469850542:=Nat
def tw13792467092027971144:=Nat
def tw13778496830602336995:=Nat
def tw13724270887481564363:=Nat
def tw13567745830536733926:=Nat
def tw6299255634553406315:=Nat
def tw17551467403568736042:=Nat
def tw12921731658472475072:=Nat
def tw3787713633413471684:=Nat
def tw9840757729941750324:=Nat
def tw2382972033849396378:=Nat
def tw12588273237694678883:=Nat
def tw12966905592773596434:=Nat
def tw15132736962636360409:=Nat
def tw9554770065502626303:=Nat
def tw15154623736519546928:=Nat
def tw13760587314743689997:=Nat
def tw723763391992122469:=Nat
def tw16042020424138655319:=Nat
def tw11848222819099582986:=Nat
def tw13289804379228244398:=Nat
def tw9914755304795691628:=Nat
def tw16436579914281140976:=Nat
def tw16000054186331909980:=Nat
def tw11981191040658284602:=Nat
def tw18072655129148546332:=Nat
def tw13557799049562003027:=Nat
def tw1670250687302900659:=Nat
def tw9525948676257918397:=Nat
def tw15111422900452155114:=Nat
def tw7011841453850090455:=Nat
def tw1071846328274856128:=Nat
def tw14647710974952214986:=Nat
def tw8767805351228876565:=Nat
def tw12847525505819703930:=Nat
def tw6000116729835291346:=Nat
def tw5686012714041261916:=Nat
def tw12157923503146235965:=Nat
def tw9625547531744008889:=Nat
def tw12658601949030332964:=Nat
def tw3656542659675419031:=Nat
def tw2414939167220989168:=Nat
def tw10643730360290540922:=Nat
def tw3402529466852735816:=Nat
def tw9119390255627544319:=Nat
def tw8945911580948474194:=Nat
def tw2903635793668688604:=Nat
def tw1485217484637567569:=Nat
def tw18237222236158188951:=Nat
def tw8696451745846848989:=Nat
def tw11193969536771795785:=Nat
def tw10689478700086426828:=Nat
def tw5186174760387577911:=Nat
def tw2593247260256544953:=Nat
def tw7349295906495354075:=Nat
def tw556117524601468098:=Nat
def tw13694356370575031559:=Nat
def tw2752710178172398765:=Nat
def tw2575910770908709815:=Nat
def tw16608467858607620696:=Nat
def tw7774088104712559528:=Nat
def tw15756731822044307745:=Nat
def tw8571121862189808662:=Nat
def tw10321696592691006544:=Nat
def tw12109395683615430285:=Nat
def tw14703198315616154221:=Nat
def tw9701752470123737800:=Nat
def tw6384796316739576808:=Nat
def tw17836860452633291637:=Nat
def tw9349268382145378535:=Nat
def tw5276805703499921627:=Nat
def tw17475965019754350271:=Nat
def tw9626375508306673266:=Nat
def tw1719156097452843443:=Nat
def tw5241962499462663766:=Nat
def tw14957899791337719340:=Nat
def tw17950168922503159036:=Nat
def tw7373171195576630184:=Nat
def tw7139621658003179752:=Nat
def tw18005959174599384343:=Nat
def tw16703819069350978896:=Nat
def tw9760912384535237584:=Nat
def tw17731014517991456966:=Nat
def tw13554258927247222080:=Nat
def tw7708100092703847061:=Nat
def tw2583822597291979771:=Nat
def tw8722383430378066667:=Nat
def tw13611813926756142239:=Nat
def tw12965543301663552611:=Nat
def tw11373677098003801866:=Nat
def tw6871780616485166525:=Nat
def tw14019004029596526678:=Nat
def tw14310162821436616014:=Nat
def tw3149168050188071928:=Nat
def tw17129714693234870362:=Nat
def tw15925630196773100019:=Nat
def tw11624300197761938919:=Nat
def tw17131965716212173270:=Nat
def tw7450373006343196125:=Nat
def tw10379697788871178795:=Nat
def tw15723547090722129109:=Nat
def tw18284872056837305484:=Nat
def tw5486042712272376304:=Nat
def tw4757681878531537745:=Nat
def tw14448960473559733569:=Nat
def tw498291978953424453:=Nat
def tw15478141461369884093:=Nat
def tw13206100693366751355:=Nat
def tw8217635979986637704:=Nat
def tw17605274006279777136:=Nat
def tw4394843053591960983:=Nat
def tw8984176745685688377:=Nat
def tw18379924319959161931:=Nat
def tw6271764598932829848:=Nat
def tw16221836106924897870:=Nat
def tw11881907570483964830:=Nat
def tw14972018691070972686:=Nat
def tw6701365318841334865:=Nat
def tw13870105732722587880:=Nat
def tw10926894822027285807:=Nat
def tw15008354867596651725:=Nat
def tw14746975556163928249:=Nat
def tw4723716222133520277:=Nat
def tw13779184284603701115:=Nat
def tw8884398381453529634:=Nat
def tw15667035289945899838:=Nat
def tw8258216195782723695:=Nat
def tw2495586116112909625:=Nat
def tw13728789879823941612:=Nat
def tw5145437964070224355:=Nat
def tw12063004855481279912:=Nat
def tw16051165447217921130:=Nat
def tw15250947339594127707:=Nat
def tw11169593154138750836:=Nat
def tw16400175642206495393:=Nat
def tw17926013210299116930:=Nat
def tw726180865398243648:=Nat
def tw17294638782482949889:=Nat
def tw175519566565366822:=Nat
def tw18140581913387471145:=Nat
def tw6937152788780884042:=Nat
def tw1625435827247936143:=Nat
def tw8254503223020263722:=Nat
def tw17813913555990490395:=Nat
def tw6295105881310845882:=Nat
def tw17094092166538681629:=Nat
def tw10558832309380003496:=Nat
def tw16494804354603302218:=Nat
def tw16241216549842516852:=Nat
def tw2943494127408332415:=Nat
def tw10211978666461346518:=Nat
def tw15850154600189210968:=Nat
def tw18423710249937847936:=Nat
def tw17394474757621115848:=Nat
def tw3981374542396832510:=Nat
def tw11616897467347306608:=Nat
def tw3582914516735784171:=Nat
def tw17122828293452790681:=Nat
def tw11052273570280350646:=Nat
def tw3016662442262030243:=Nat
def tw8998473734637687557:=Nat
def tw5594662841739667552:=Nat
def tw7309623896742910386:=Nat
def tw1431891354106005916:=Nat
def tw10749724131788513974:=Nat
def tw4419034218572549340:=Nat
def tw12264274497830855881:=Nat
def tw3212288190394402060:=Nat
def tw5190885425185592179:=Nat
def tw7557361380332545197:=Nat
def tw5716880417362221200:=Nat
def tw13934002306968895992:=Nat
def tw16916249359570489630:=Nat
def tw11624211043823381212:=Nat
def tw5547232386635560625:=Nat
def tw10068094808875640207:=Nat
def tw6927941753602066226:=Nat
def tw11950771677235783132:=Nat
def tw13878848601564737873:=Nat
end PySem.W.Fast
open PySem PySem.W PyProof.Rows
set_option maxRecDepth 100000 in
set_option maxHeartbeats 0 in
theorem PySem.Challenge.cw_worldfind_k69_theories_by_rows_holds : PySem.Challenge.rw_worldfind_k69_theories_by_rows.Holds := by
 w_on;o_law;k_head;(case hw=>w_witness2)
 k_fill
 refine L2.MS.walk (l:=PySem.Challenge.rw_worldfind_k69_theories_by_rows) (x:= "_law_script") (2*84+1) ⟨rfl,by decide,by decide⟩ rfl rfl (fun w h Y=>PySem.W.kIn_of Y) ?F
 case F=>
  intro w mg fa h KX G hmg
  exact L2.MS.gX M.prog L2.MS.mn L2.MS.mD L2.MS.mL L2.MS.l9 L2.MS.Av L2.MS.uK 83 KX G hmg (by kernel_rfl) M.eT
