import PyProof.Rows.All
import Wide.All
import OpenK.AllK
import Wide.FinOn
import Lean
import PyProof.EqAt
import PyProof.EqKinds
import PyProof.TupleCall
import PyProof.NeKinds
import PyProof.NsDelKeeps
import KE.KRevSl
import PyProof.StrWalks
import PyProof.ConsumeWalk
import PyProof.SumWalk
import PyProof.Rows.SortStr
import PyProof.SumWalkG
import PyProof.StrCalls2
import PyProof.StrLawsIdx
import PyProof.WalkInts
import PyProof.StrOps2
import PyProof.SliceStr2
import PyProof.Draws
import PyProof.EnumMake
import PyProof.Rows.SetFrom
import PyProof.SetRoads
import PyProof.WalksMore
import PyProof.ListRange
import PyProof.TupleOfSeq
import PyProof.TupleOfGen
import PyProof.Rows.SortShell
import PyProof.ZipIter
import PyProof.DictStraight
import PyProof.TupleKey
import PyProof.DictRoadsH
import PyProof.DictTruth
import PyProof.Rows.TupTab
import KE.KTabLook
import PyProof.FString
import PyProof.CallStr
import KE.KIntText
import PyProof.Rows.Range3
import PyProof.DictRoads
import PyProof.Rows.StrNews2
import KE.KDictOf
import KE.KMinKey
import PySem.Challenge.RW_worldfind_k32_whole_found_or_paper
set_option Elab.async false
set_option linter.all false
set_option maxRecDepth 100000
set_option compiler.extract_closed false
local macro_rules | `(tactic| omega) => `(tactic| lia)
set_option bootstrap.genMatcherCode false
noncomputable section
open List renaming length_map → Aa, getElem?_eq_some_iff → Aa1, mem_cons_of_mem → Aa2, replicate → Aa3, mem_cons_self → Aa4, range → Aa5, length_cons → Aa6, getElem?_eq_getElem → Aa7, length_append → Aa8, mem_append_right → Ab0, map_cons → Ab1, mem_map → Ab6, lookup_cons → Ab7, mem_range → Ab8, getElem?_set_self → Ab9, mem_cons → Ac, size_toArray → Ac0, getElem?_map → Ac2, mem_of_getElem? → Ac3, getD_eq_getElem?_getD → Ac6, mem_singleton → Ac7, mem_append → Ac8, mem_append_left → Ad0, any_eq_true → Ad1, getElem?_append_left → Ad2, length_replicate → Ad3, map_map → Ad6, set_set → Ad8, getElem?_append_right → Ad9, length_nil → Ae, getElem?_set_ne → Ae0, nil_append → Ae2, length_set → Ae3, replicate_succ → Ae4, append_assoc → Ae6, map_nil → Ae9, append_nil → Af0, any_cons → Af2, map_append → Af5, length_take → Af6, length_drop → Af7, isEmpty_iff → Af8, length_range → Ah0, range_succ_eq_map → Ah2, all_cons → Ah5, nodup_cons → Ai, map_congr_left → Ai1, getElem?_replicate → Ai2, not_mem_nil → Ai4, eq_nil_of_length_eq_zero → Ai5, all_eq_true → Ai6, take_of_length_le → Ai7, mem_filter → Ai9, lookup → Aj, length_filter_le → Aj0, nodup_append → Aj2, flatMap_cons → Aj3, any_eq_false → Aj4, filterMap_cons → Aj9, pairwise_cons → Ak1, foldl_cons → Ak2, filter_cons → Al1, cons_append → Al2, sum_cons → Al3, length_zip → Al4, getElem_of_mem → Al5, drop_eq_getElem_cons → Am1, getElem?_take_of_lt → Am3, range'_succ → Am6, filter_map → An, all_map → An0, range_eq_range' → An5, range' → Ao, Pairwise → Ao2, any_map → Ao8, take_length → Ap0, getElem_mem → Ap1
open Bool renaming and_eq_true → Aa0, false_ne_true → Ab2, true_and → Ae1, or_eq_true → Ae5, false_and → Ae7, not_eq_true' → Ag4, and_false → Ah7, false_eq_true → Ak3, eq_false_iff → Ak6, true_or → Am, eq_iff_iff → An1, not_false → An9, or_eq_true_iff → Ao0, not_true → Ao3, not_eq_true → Ap2, noConfusion → Ap3
open Nat renaming le_refl → Aa9, lt_of_lt_of_le → Ab4, le_trans → Ab5, ne_of_lt → Ac5, two_pow_pos → Ac9, pow_le_pow_right → Ad, testBit_two_pow → Ad7, testBit_or → Ae8, mul_le_mul → Af1, zero_le → Af3, and_two_pow_sub_one_eq_mod → Af4, zero_testBit → Af9, lt_succ_self → Ag, testBit_two_pow_sub_one → Ag1, le_of_lt → Ag3, not_lt_zero → Ag5, le_succ → Ag6, testBit_mod_two_pow → Ag8, testBit_div_two_pow → Ag9, testBit_and → Ah1, lt_of_le_of_lt → Ah6, lt_irrefl → Ai3, testBit_lt_two_pow → Ai8, mod_lt → Aj6, eq_of_testBit_eq → Aj8, testBit_two_pow_self → Ak0, min_eq_left → Ak4, or_lt_two_pow → Ak7, mul_comm → Al, le_of_eq → Al0, div_add_mod → Al6, zero_add → Am0, add_sub_cancel_left → Am5, div_div_eq_div_mul → Am8, not_le → An4, pow_lt_pow_right → An7, mul_le_mul_right → An8, sub_le → Ao6, le_succ_of_le → Ao7, sub_self → Ao9, add_comm → Ap
open PySem.W renaming Frag → Ab, kia_one → Af, keepIn → Ah4, emptyDict → Ah8, instObj → Ak, findIn → Ak5, plainGet → Am2, cellsFrom_some → Am4, lookIn → Am9, plainGet_of → An2, callWith_K → An6, kitx_list → Ao1
open PySem.Heap renaming get?_push_of_some → Ab3, lt_size → Ac1, get?_push_size → Ac4, size_push → Ak8, SameBut → Al8, get?_update_other → Am7
open Int renaming toNat_natCast → Ad4, eq_ofNat_of_zero_le → Ah, fdiv_eq_ediv_of_nonneg → Al7, emod_nonneg → An3, natCast_nonneg → Ao4, emod_lt_of_pos → Ao5
open Option renaming some → Ad5, bind_some → Ag0, map_eq_some_iff → Ag2, bind_eq_some_iff → Ag7, isSome_iff_exists → Ah9, isNone_iff_eq_none → Aj7, getD_some → Ak9
open Classical renaming choose_spec → Ah3, byContradiction → Aj1, choose → Aj5, propDecidable → Al9
open Array renaming length_toList → Ai0
open Decidable renaming decide → y9
open Option renaming some → k0, none → y0
open Bool renaming true → u0, false → k9
namespace L2
open PySem PySem.Spec PyProof.Rows
abbrev c4:=Sum Int Str
def lK:c4->Value->Bool
 | .inl k,v=>Value.isInt k v
 | .inr x,v=>Value.isStrOf x v
def C9 (w:World):c4->Int
 | .inl k=>hashInt k
 | .inr x=>hashStr w x
def jd: ∀ {k}{v},lK k v=u0->(∃ i t,k=Sum.inl i/\v=Value.int i t)\/(∃ x t,k=Sum.inr x/\v=Value.str x t)
 | .inl i,v,h=>by
  obtain⟨t,e⟩:=Value.isInt_shape h
  exact .inl ⟨i,t,rfl,e⟩
 | .inr x,v,h=>by
  obtain⟨t,e⟩:=Value.isStrOf_shape h
  exact .inr ⟨x,t,rfl,e⟩
def EV (x) (t):lK (.inr x) (.str x t)=true:=by simp [lK,Value.isStrOf]
def LP (a b):y9 ((Sum.inl a:c4)=Sum.inl b)=(a==b):=by grind
def HH (a b):y9 ((Sum.inr a:c4)=Sum.inr b)=y9 (a=b):=by simp
def yW (a) (b):y9 ((Sum.inl a:c4)=Sum.inr b)=false:=decide_eq_false (λq=>nomatch q)
def He (a) (b):y9 ((Sum.inr a:c4)=Sum.inl b)=false:=decide_eq_false (λq=>nomatch q)
noncomputable def jB (prog:Program) (w:World):PySem.KeyKind prog w c4 where
 is:=lK
 hash:=C9 w
 inj:=λv a b g d=>by
  rcases jd g with⟨i,t,rfl,rfl⟩ | ⟨x,t,rfl,rfl⟩
  ·rcases jd d with⟨j,u,rfl,e⟩ | ⟨y,u,rfl,e⟩
   ·injection e with e1 _;rw [e1]
   ·exact nomatch e
  ·rcases jd d with⟨j,u,rfl,e⟩ | ⟨y,u,rfl,e⟩
   ·exact nomatch e
   ·injection e with e1 _;rw [e1]
 byValue:=λk v h=>by
  rcases jd h with⟨i,t,rfl,rfl⟩ | ⟨x,t,rfl,rfl⟩<;>rfl
 pyHash:=λc h=>by
  rcases jd c with⟨i,t,rfl,rfl⟩ | ⟨x,t,rfl,rfl⟩
  ·exact wpAny_pyHash_int h
  ·exact wpAny_pyHash_str h
 eqBool:=λf c h=>by
  rcases jd f with⟨i,t,rfl,rfl⟩ | ⟨x,t,rfl,rfl⟩
  ·rcases jd c with⟨j,u,rfl,rfl⟩ | ⟨y,u,rfl,rfl⟩
   ·rw [LP]at h;exact wpAny_eqBool_int h
   ·rw [yW]at h;exact SeqAt.EqAt.int_str i t y u _ _ _ _ h
  ·rcases jd c with⟨j,u,rfl,rfl⟩ | ⟨y,u,rfl,rfl⟩
   ·rw [He]at h;exact SeqAt.EqAt.str_int x t j u _ _ _ _ h
   ·rw [HH]at h;exact wpAny_eqBool_str h
 «strs» :=λk x t v h=>by
  rcases jd h with⟨i,u,rfl,e⟩ | ⟨y,u,rfl,e⟩
  ·exact nomatch e
  ·injection e with e1 _
   subst e1
   cases v<;>rfl
def xl (prog) (w) (x) (t):(jB prog w).is (.inr x) (.str x t)=true:=EV x t
inductive V where
 | aj | bl (b:Bool) | int (i:Int) | str (x:Str) | iH (b:Array UInt8) | gT (b:UInt64) | ref (a:Addr) | ty (n:String)
 deriving DecidableEq
def RelV:V->Value->Prop
 | .aj,u=>u=Value.none
 | .bl b,u=>u=Value.bool b
 | .int i,u=> ∃t,u=Value.int i t
 | .str x,u=> ∃t,u=Value.str x t
 | .iH b,u=> ∃t,u=Value.bytes b t
 | .gT b,u=> ∃t,u=Value.float b t
 | .ref a,u=>u=Value.ref a
 | .ty n,u=>u=Value.type n
abbrev Vals:List V->List Value->Prop:=Paired RelV
theorem Vals.length (r:Vals xs us):xs.length=us.length:=Paired.length r
theorem Vals.get: ∀ {xs}{us}{i:Nat}{x},Vals xs us->xs[i]? =k0 x-> ∃u,us[i]? =k0 u/\RelV x u
 | _,_,_,_,.nil,e=>by simp at e
 | _,_,0,_,.cons r _,e=>by simp at e;subst e;exact⟨_,rfl,r⟩
 | _,_,i+1,x,.cons _ t,e=>by
  obtain⟨u,a,b⟩:=Vals.get t (by simpa using e)
  exact⟨u,by simpa using a,b⟩
theorem Vals.set (r:RelV x u): ∀ {xs}{j} i,Vals xs j->Vals (xs.set i x) (j.set i u)
 | _,_,_,.nil=> .nil
 | _,_,0,.cons _ t=> .cons r t
 | _,_,i+1,.cons q t=> .cons q (Vals.set r i t)
theorem Vals.append: ∀ {xs ys}{i ws},Vals xs i->Vals ys ws->Vals (xs++ys) (i++ws)
 | _,_,_,_,.nil,s=>s
 | _,_,_,_,.cons r t,s=> .cons r (Vals.append t s)
theorem Vals.take: ∀ {xs}{i}(n),Vals xs i->Vals (xs.take n) (i.take n)
 | _,_,0,_=> .nil
 | _,_,_+1,.nil=> .nil
 | _,_,n+1,.cons r t=> .cons r (Vals.take n t)
theorem Vals.drop: ∀ {xs}{i}(n),Vals xs i->Vals (xs.drop n) (i.drop n)
 | _,_,0,r=>r
 | _,_,_+1,.nil=> .nil
 | _,_,n+1,.cons _ t=>Vals.drop n t
def cq:Option V->Option Value->Prop
 | some v,k0 u=>RelV v u
 | none,none=>True
 | _,_=>False
def KV {a:Type}:List (a×V)->List (a×Value)->Prop:=Paired λ(p:a×V) (q:a×Value)=>p.1=q.1/\RelV p.2 q.2
def kV:c4->V
 | .inl i=> .int i
 | .inr x=> .str x
inductive HO where
 | lst (xs:List V)
 | tup (xs:List V)
 | dK (kvs:List (c4×V)) | dT (kvs:List (List c4×V))
 | set (S:Int->Bool) (n:Nat)
 | ins (C dx:Addr) (fs:List (Str×V))
 | own (x:Addr)
 | xd (fs:List (Str×V))
 | met (f x:Addr)
 | iC (lo hi:Int)
 | d8 (o:Obj) (u:HO)
 | iE (ps:Array Value)
 | ext (φ:Heap->Prop)
abbrev Hp:=Addr->Option HO
def aL (H:Hp) (a:Addr) (o:HO):Hp:=λb=>if b=a then k0 o else H b
def Zc :aL H a o a=k0 o:=by unfold aL;rw [if_pos rfl]
def Qa (h:b≠a):aL H a o b=H b:=by unfold aL;rw [if_neg h]
def wb {H:Hp}(h:H a=k0 o) (h':H b=y0):a≠b:=by
 intro e;subst e;rw [h]at h';cases h'
def dh (h:Heap) (a:Addr) (b:Array Value):Prop:= ∃o,h.get? a=some o/\o.cls= .type "tuple" /\o.dict=none/\ ∃n,o.data= .seq b n
def dh.is (p:dh h a k8):IsTup h a k8:=let ⟨o,e,c,_,n,d⟩:=p; ⟨o,e,c,n,d⟩
theorem dh.lt (p:dh h a k8):a<h.objs.size:=p.is.lt
def dh.new (h:Heap) (k8):dh (h.push { cls:= .type "tuple",data:= .seq k8 }) h.objs.size k8:=⟨_,Heap.get?_push_size _ rfl,rfl,rfl,_,rfl⟩
section
variable (P:Program) (w:World)
def bb (H:Hp) (h:Heap) (a:Addr):HO->Prop
 | .lst xs=>xs.length<=sizeLine/\ ∃(b:List Value) (n:Nat),Vals xs b/\h.get? a=k0 { cls:= .type "list",data:= .seq b.toArray n }
 | .tup xs=>xs.length<=sizeLine/\ ∃b:List Value,Vals xs b/\dh h a b.toArray
 | .dK kvs=>kvs.length<=sizeLine/\(a==sysModules)=k9/\ ∃d,KV kvs d/\h.DictOf (jB P w) a d
 | .dT kvs=>kvs.length<=sizeLine/\(a==sysModules)=k9/\ ∃xs:List (List c4×Addr×Value),
  Paired (λ(p:List c4×V) (q:List c4×Addr×Value)=>p.1=q.1/\H q.2.1=k0 (.tup (p.1.map kV))/\RelV p.2 q.2.2) kvs xs ∧
  ∃o es e,h.get? a=k0 o/\o.ExactDict/\o.data= .dict es e/\es.toList=xs.map (entryOfKey (tupleKind (jB P w)))/\(xs.map (·.1)).Nodup
 | .set S n=>h.SetOf (intKind P w) a S n
 | .ins C dx fs=>H dx=k0 (.own a)/\fs.length<=1000/\dx≠a/\h.get? a=k0 (Ak C dx) ∧
  ∃mA,h.Ns1 dx mA/\(∀ f,cq (fs.lookup f) (mA f))/\PySem.Within mA (fs.map (·.1))
 | .own _=> ∃o,h.get? a=k0 o
 | .xd fs=> ∃mA,h.Ns1 a mA/\ ∀f,cq (fs.lookup f) (mA f)
 | .iC lo hi=> ∃t u v,h.get? a=k0 { cls:= .type "range",data:= .fields #[.int lo t,.int hi u,.int 1 v] }
 | .d8 o u=>h.get? a=k0 o/\bb H h a u
 | .iE ps=>h.get? a=k0 { cls:= .none,data:= .fields ps }
 | .met f x=>h.get? a=k0 (PySem.W.methodObj (.ref f) (.ref x))
 | .ext c=>c h/\(∃ o,h.get? a=k0 o)/\ ∀h1 h2:Heap,c h1->(∀ o,h1.get? a=k0 o->h2.get? a=k0 o)->c h2
def c3 (H:Hp) (h:Heap):Prop:= ∀a o,H a=k0 o->bb P w H h a o
end
section
variable {P:Program}{w:World}{H H':Hp}{h h':Heap}{a:Addr}{o:HO}
theorem bb.lt (x:bb P w H h a o):a<h.objs.size:=by
 cases o with
 | lst c=>obtain⟨_,_,_,_,e⟩:=x;exact Ac1 e
 | tup c=>obtain⟨_,_,_,p⟩:=x;exact p.lt
 | dK b=>obtain⟨_,_,_,_,o,_,_,e,_⟩:=x;exact Ac1 e
 | dT b=>obtain⟨_,_,_,_,o,_,_,e,_⟩:=x;exact Ac1 e
 | set S n=>obtain⟨o,_,_,_,e,_⟩:=x;exact Ac1 e
 | ins C j fs=>obtain⟨_,_,_,e,_⟩:=x;exact Ac1 e
 | own y=>obtain⟨_,e⟩:=x;exact Ac1 e
 | xd fs=>obtain⟨_,⟨_,_,_,e,_⟩,_⟩:=x;exact Ac1 e
 | iC k g=>obtain⟨_,_,_,e⟩:=x;exact Ac1 e
 | d8 l u=>obtain⟨e,_⟩:=x;exact Ac1 e
 | iE i=>exact Ac1 (x)
 | met f y=>exact Ac1 (x)
 | ext d=>obtain⟨_,⟨_,e⟩,_⟩:=x;exact Ac1 e
theorem Paired.kJ : ∀ {i}{j},Paired F i j->(∀ a b,F a b->G a b)->Paired G i j
 | _,_,.nil,_=> .nil
 | _,_,.cons r t,f=> .cons (f _ _ r) (Paired.kJ t f)
def bb.dO (x:bb P w H h a o) (k: ∀b u,(b=a\/H b=k0 (.own a))->h.get? b=k0 u->h'.get? b=k0 u)
 (E: ∀b,H b=k0 (.own a)->H' b=k0 (.own a)) (G: ∀b xs,H b=k0 (.tup xs)->H' b=k0 (.tup xs)):bb P w H' h' a o:=by
 induction o with
 | lst xs=>obtain⟨z,l,n,r,e⟩:=x;exact⟨z,l,n,r,k _ _ (.inl rfl) e⟩
 | tup xs=>obtain⟨z,l,r,g,e,c⟩:=x;exact⟨z,l,r,g,k _ _ (.inl rfl) e,c⟩
 | dK m=>obtain⟨z,y,D,r,g,i,j,e,c⟩:=x;exact⟨z,y,D,r,g,i,j,k _ _ (.inl rfl) e,c⟩
 | dT m=>
  obtain⟨z,y,xs,r,g,i,j,e,c⟩:=x
  exact⟨z,y,xs,Paired.kJ r λp q z=>⟨z.1,G _ _ z.2.1,z.2.2⟩,g,i,j,k _ _ (.inl rfl) e,c⟩
 | set S n=>obtain⟨g,i,j,t,e,c⟩:=x;exact⟨g,i,j,t,k _ _ (.inl rfl) e,c⟩
 | ins C L fs=>
  obtain⟨d,z,ne,e,s,⟨A,i,j,e2,c⟩,r⟩:=x
  exact⟨E _ d,z,ne,k _ _ (.inl rfl) e,s,⟨A,i,j,k _ _ (.inr d) e2,c⟩,r⟩
 | own y=>obtain⟨g,e⟩:=x;exact⟨g,k _ _ (.inl rfl) e⟩
 | xd fs=>obtain⟨s,⟨A,i,j,e,c⟩,r⟩:=x;exact⟨s,⟨A,i,j,k _ _ (.inl rfl) e,c⟩,r⟩
 | iC M J=>obtain⟨t,u,v,e⟩:=x;exact⟨t,u,v,k _ _ (.inl rfl) e⟩
 | d8 g u F=>obtain⟨e,q⟩:=x;exact⟨k _ _ (.inl rfl) e,F q⟩
 | iE K=>
  have e:=x
  exact k a _ (.inl rfl) e
 | met f y=>
  have e:=x
  exact k a _ (.inl rfl) e
 | ext I=>obtain⟨p,⟨o,e⟩,B⟩:=x;exact⟨B _ _ p λo q=>k _ _ (.inl rfl) q,⟨o,k _ _ (.inl rfl) e⟩,B⟩
theorem c3.lt (x:c3 P w H h) (e:H a=k0 o):a<h.objs.size:=(x a o e).lt
def c3.fresh (x:c3 P w H h) (e:h.objs.size<=a):H a=none:=by
 cases q:H a with
 | none=>rfl
 | some u=>exact absurd (Ab4 (x.lt q) e) (Ai3 _)
def c3.kept (x:c3 P w H h) (k: ∀b u,h.get? b=k0 u->h'.get? b=k0 u):c3 P w H h':=λa o e=>
 (x a o e).dO (λb u _ q=>k b u q) (λ_ q=>q) λ_ _ q=>q
def c3.laid (x:c3 P w H h) (k: ∀b u,h.get? b=k0 u->h'.get? b=k0 u) (g:h.objs.size<=a) (new:bb P w (aL H a o) h' a o):c3 P w (aL H a o) h':=λb u e=>by
 have f:=x.fresh g
 by_cases d:b=a
 ·subst d;rw [Zc]at e;cases e;exact new
 ·rw [Qa d]at e
  exact(x b u e).dO (λc v _ q=>k c v q) (λc q=>by rw [Qa (wb q f)];exact q) λc i q=>by rw [Qa (wb q f)];exact q
end
def Rd (H:Hp) (a:Addr) (u:HO):Prop:=H a=k0 u\/ ∃o,H a=k0 (.d8 o u)
def Rd.ok (r:Rd H a u) (x:c3 P w H h):bb P w H h a u:=by
 obtain r | ⟨o,r⟩:=r
 ·exact x a u r
 ·obtain⟨_,q⟩:=x a _ r
  exact q
def l4:Option HO->Prop
 | some (.lst _)=>True
 | some (.dK _)=>True
 | some (.dT _)=>True
 | some (.set _ _)=>True
 | some (.ins _ _ _)=>True
 | some (.ext _)=>True
 | _=>False
section
variable {P:Program}{w:World}{H:Hp}{h h':Heap}{x e:Addr}{o':HO}
def c3.write (ok:c3 P w H h) (j:l4 (H x)) (n:e=x\/H e=k0 (.own x)) (k: ∀b u,b≠e->h.get? b=k0 u->h'.get? b=k0 u) (m: ∃u,h'.get? e=k0 u)
 (new:bb P w (aL H x o') h' x o'):c3 P w (aL H x o') h':=λb u q=>by
 have d: ∀c y,H c=k0 (.own y)->c≠x:=λc y r z=>by subst z;rw [r]at j;exact j
 have f: ∀c g,H c=k0 (.tup g)->c≠x:=λc g r z=>by subst z;rw [r]at j;exact j
 by_cases l:b=x
 ·subst l;rw [Zc]at q;cases q;exact new
 ·rw [Qa l]at q
  by_cases a:b=e
  ·have o:H b=k0 (.own x):=by
    obtain z | z:=n
    ·exact absurd (a.trans z) l
    ·rw [a];exact z
   rw [q]at o;cases o
   obtain⟨v,p⟩:=m
   exact⟨v,by rw [a];exact p⟩
  ·refine(ok b u q).dO (λc v i r=>k c v ?_ r) (λc r=>by rw [Qa (d c b r)];exact r) λc g r=>by rw [Qa (f c g r)];exact r
   obtain rfl | i:=i
   ·exact a
   ·rintro rfl
    obtain z | z:=n
    ·exact d c b i z
    ·rw [i]at z;cases z;exact l rfl
end
structure Un (fs ex:List Addr) (H H':Hp) (h h':Heap):Prop where
 keep: ∀b o,h.get? b=k0 o->H b=y0->b∉fs->b∉ex->h'.get? b=k0 o
 slot: ∀b o,h.get? b=k0 o->H b=y0->b∈fs->b∉ex-> ∃sl,h'.get? b=k0 { o with slots:=sl }
 free: ∀b o,h.get? b=k0 o->H b=y0->b∉ex->H' b=y0
 there: ∀b o,h.get? b=k0 o->b∉ex-> ∃o',h'.get? b=k0 o'
 eA: ∀b xs,H b=k0 (.tup xs)->H' b=k0 (.tup xs)
 dJ: ∀b o u,H b=k0 (.d8 o u)->H' b=k0 (.d8 o u)
 eh: ∀b ps,H b=k0 (.iE ps)-> ∃more,H' b=k0 (.iE (ps++more))
section
variable {fs fs' ex ex':List Addr}{H H1 H2:Hp}{h h1 h2 h':Heap}{a x e:Addr}{o:HO}
def Un.any (u:Un fs ex H H1 h h1)(q:h.get? b=k0 ob) (n:H b=y0) (c:b∉ex): ∃sl,h1.get? b=k0 { ob with slots:=sl }:=by
 by_cases a:b∈fs
 ·exact u.slot b ob q n a c
 ·exact⟨ob.slots,u.keep b ob q n a c⟩
def Un.kept (k: ∀b u,h.get? b=k0 u->h'.get? b=k0 u):Un fs ex H H h h':=
 ⟨λb a q _ _ _=>k b a q,λb a q _ _ _=>⟨a.slots,k b a q⟩,λ_ _ _ n _=>n,λb a q _=>⟨a,k b a q⟩,λ_ _ q=>q,λ_ _ _ q=>q,λ_ c q=>⟨#[],by rw [q];simp⟩⟩
def Un.refl:Un fs ex H H h h:=Un.kept λ_ _ q=>q
def Un.laid (k: ∀b u,h.get? b=k0 u->h'.get? b=k0 u) (d:h.objs.size<=a) (c:H a=y0):Un fs ex H (aL H a o) h h' where
 keep:=λb u q _ _ _=>k b u q
 slot:=λb u q _ _ _=>⟨u.slots,k b u q⟩
 free:=λb u q n _=>by rw [Qa (Ac5 (Ab4 (Ac1 q) d))];exact n
 there:=λb u q _=>⟨u,k b u q⟩
 eA:=λb e q=>by rw [Qa (wb q c)];exact q
 dJ:=λb u e q=>by rw [Qa (wb q c)];exact q
 eh:=λb f q=>⟨#[],by rw [Qa (wb q c),q];simp⟩
def Un.write (c:l4 (H x)) (j:e=x\/H e=k0 (.own x)) (k: ∀b u,b≠e->h.get? b=k0 u->h'.get? b=k0 u) (f: ∃u,h'.get? e=k0 u):Un fs ex H (aL H x o) h h':=by
 have i: ∀b,H b=y0->b≠x:=λb n z=>by subst z;rw [n]at c;exact c
 have g: ∀b,H b=y0->b≠e:=λb n z=>by
  subst z
  obtain r | r:=j
  ·exact i b n r
  ·rw [n]at r;cases r
 have d: ∀b u,H b=k0 u-> ¬l4 (k0 u)->b≠x:=λb u q nm z=>by subst z;rw [q]at c;exact nm c
 refine⟨λb u q n _ _=>k b u (g b n) q,λb u q n _ _=>⟨u.slots,k b u (g b n) q⟩,λb u q n _=>by rw [Qa (i b n)];exact n,λb u q _=> ?_,
  λb l q=>by rw [Qa (d b _ q λz=>z)];exact q,λb u l q=>by rw [Qa (d b _ q λz=>z)];exact q,λb m q=>⟨#[],by rw [Qa (d b _ q λz=>z),q];simp⟩⟩
 by_cases a:b=e
 ·subst a;exact f
 ·exact⟨u,k b u a q⟩
end
def sG (h:Heap) (H:Hp):List Addr:=(Aa5 h.objs.size).filter λa=>(H a).isSome
def kg (h:Heap) (H:Hp):Heap:=PySem.W.hideAll h (sG h H)
def CC (h) (H):(kg h H).objs.size=h.objs.size:=PySem.W.hideAll_size _ _
def Lo (e:h.get? b=k0 o) (n:H b=y0):(kg h H).get? b=k0 o:=
 PySem.W.hideAll_get _ e λa=>by
  have q:=(Ai9.mp a).2
  rw [n]at q;simp at q
def Ie (e:(kg h H).get? b=k0 o):h.get? b=k0 o/\H b=none:=by
 have a:=PySem.W.of_hideAll _ e
 refine⟨a,?_⟩
 cases q:H b with
 | none=>rfl
 | some x=>
  have c:b∈sG h H:=Ai9.mpr ⟨Ab8.mpr (Ac1 a),by simp [q]⟩
  have z:(kg h H).get? b=none:=PySem.W.hideAll_none _ c
  rw [z]at e;cases e
noncomputable def Eo (g h:Heap) (L:Addr):List (Addr×Obj):=(Aa5 h.objs.size).filterMap λa=>if a=L\/(g.get? a).isSome=u0 then y0 else(h.get? a).map λo=>(a,o)
def jn (g h:Heap) (L d:Addr):List (Addr×Obj):=(Eo g h L).filter λp=>y9 (p.1≠d)
structure Mod (K:Ab) (mg:Str->Option Value) (base:Heap):Prop where
 kI:K.In base
 glob:base.Ns mainGlobals mg
 blt: ∃mb,base.Ns builtinsNs mb/\ ∀x:Str,x≠ "__name__" ->mb x=bootBuiltins x
 nolimit:base.NoLimit
structure Cx where
 prog:Program
 w:World
 K:Ab
 mg:Str->Option Value
 base:Heap
 A:Around
 N:List Str
 s₀:Shared
 H₀:Hp
 env:Env
 outer:List Env
 stack:List Env
 ex:List Addr
 fn:Str->Bool
 calm:Bool
 pn:List (Addr×Obj)
 xe:Value->Shared->Prop
def e8 (l:List Env):List Addr:=l.filterMap (·.frame)
abbrev Cx.fs (X:Cx):List Addr:=e8 X.outer
def lM (sc:Scope) (x:Str):Prop:=sc.names.lookup x=k0 .local\/sc.names.lookup x=k0 .cell\/sc.names.lookup x=k0 .free
def i9 (sc:Scope) (x:Str):Prop:=sc.names.lookup x=k0 .local\/sc.names.lookup x=k0 .cell
def Dl (env:Env) (h:Heap) (m:Str->Option Value) (x:Str) (u:Value):Prop:=
 (env.kindOf x=k0 .local/\m x=k0 u)\/((env.kindOf x=k0 .cell\/env.kindOf x=k0 .free)/\ ∃c,env.cells.lookup x=k0 c/\h.IsCell c (k0 u))
structure Cx.Ok (X:Cx):Prop where
 mod:Mod X.K X.mg X.base
 kind:X.env.scope.kind= .function
 glob:X.env.globals=mainGlobals
 blt:X.env.builtins=builtinsNs
 above:X.s₀.heap.objs.size<=X.env.locals
 inj: ∀x y c,X.env.cells.lookup x=k0 c->X.env.cells.lookup y=k0 c->x=y
 has: ∀x,(X.env.kindOf x=k0 .cell\/X.env.kindOf x=k0 .free)-> ∃c,X.env.cells.lookup x=k0 c
 oT: ∀x c,X.fn x=u0->X.env.cells.lookup x=k0 c->X.s₀.heap.objs.size<=c
 hd:X.calm=u0->X.A.handled=y0
 frames:X.A.frames=k0 X.stack
 mD:X.stack=X.outer\/(X.stack=X.env::X.outer/\X.env.frame=k0 X.env.locals)
 uc: ∀b∈X.ex,b≠X.env.locals/\ ∀x c,X.env.cells.lookup x=k0 c->c≠b
 bs: ∀b o,X.base.get? b=k0 o->X.s₀.heap.get? b=k0 o/\X.H₀ b=y0
 g7:X.base.objs.size<=X.s₀.heap.objs.size
 iq: ∀b o,X.base.get? b=k0 o->b∉X.ex
 hU: ∀b∈X.ex,b∉X.fs
 c6:X.s₀.heap.FunFrames X.base X.outer
 ke: ∀b∈X.fs,X.H₀ b=y0
structure Inv (X:Cx) (pins:List (Addr×Obj)) (U:List (Option V)) (H:Hp) (s:Shared):Prop where
 ok:X.Ok
 os:s.os=X.s₀.os
 bare:AllBare s.gens
 base:Un X.fs X.ex X.H₀ H X.s₀.heap s.heap
 loc: ∃m,s.heap.Ns X.env.locals m/\ ∀(i:Nat) (x:Str) (v:V),X.N[i]? =k0 x->U[i]? =k0 (k0 v)->lM X.env.scope x-> ∃u,RelV v u/\Dl X.env s.heap m x u
 cell: ∀x c,X.env.cells.lookup x=k0 c-> ∃v,s.heap.IsCell c v
 free:H X.env.locals=y0
 cJ: ∀x c,X.env.cells.lookup x=k0 c->H c=y0
 pin: ∀p∈X.pn++pins,s.heap.get? p.1=k0 p.2/\H p.1=y0/\p.1≠X.env.locals/\p.1∉X.fs/\ ∀v,p.2.data≠ .cell v
 bc:c3 X.prog X.w H s.heap
 len:U.length=X.N.length
section
variable {X:Cx}{pins:List (Addr×Obj)}{U:List (Option V)}{H H':Hp}{s:Shared}{h':Heap}
def Cx.Ok.nq (ok:X.Ok)(e:X.base.get? b=k0 o):b∉X.fs:=λa=>by
 have:=(ok.c6.mem a).1
 rw [e]at this;cases this
theorem Inv.bs (I:Inv X pins U H s): ∀b o,X.base.get? b=k0 o->s.heap.get? b=k0 o/\H b=none:=λb o e=>
 ⟨I.base.keep b o (I.ok.bs b o e).1 (I.ok.bs b o e).2 (I.ok.nq e) (I.ok.iq b o e),I.base.free b o (I.ok.bs b o e).1 (I.ok.bs b o e).2 (I.ok.iq b o e)⟩
def Inv.bk (I:Inv X pins U H s): ∀b o,X.base.get? b=k0 o->s.heap.get? b=k0 o:=λb o e=>(I.bs b o e).1
theorem Inv.mod (I:Inv X pins U H s):Mod X.K X.mg X.base:=I.ok.mod
def Inv.ck (I:Inv X pins U H s):X.K.In s.heap:=I.ok.mod.kI.keeps I.bk
theorem Inv.lt (I:Inv X pins U H s):X.env.locals<s.heap.objs.size:=let ⟨_,a,_⟩:=I.loc;a.lt
def Inv.sz (I:Inv X pins U H s):X.s₀.heap.objs.size<=s.heap.objs.size:=Ab5 I.ok.above (Ag3 I.lt)
def Inv.ox (I:Inv X pins U H s)(h:s.heap.objs.size<=a):a∉X.fs:=λb=>by
 obtain⟨_,o,c,_⟩:=I.ok.c6.mem b
 exact absurd (Ab4 (Ac1 c) (Ab5 I.sz h)) (Ai3 _)
def Inv.hJ (I:Inv X pins U H s): ∀x c,X.env.cells.lookup x=k0 c->c≠X.env.locals:=λx c e z=>by
 obtain⟨v,o,f,d⟩:=I.cell x c e
 obtain⟨m,⟨g,i,h,b,a,_⟩,_⟩:=I.loc
 rw [z,b]at f;cases f;rw [a]at d;cases d
theorem Inv.c6 (I:Inv X pins U H s):s.heap.FunFrames X.base X.outer:=by
 have all: ∀ l,(∀ b∈e8 l,b∈X.fs)->X.s₀.heap.FunFrames X.base l->s.heap.FunFrames X.base l:=by
  intro l
  induction l with
  | nil=>intro _ _;trivial
  | cons g r k=>
   intro f p
   obtain⟨h,⟨L,o,a,m,j,i⟩,n⟩:=p
   have c:=f L (by unfold e8;rw [Aj9,a];exact Aa4)
   obtain⟨sl,e⟩:=I.base.slot L o j (I.ok.ke L c) c λz=>I.ok.hU L z c
   exact⟨h,⟨L,_,a,m,e,i⟩,k (λb d=>f b (by unfold e8;rw [Aj9,a];exact Aa2 _ d)) n⟩
 exact all X.outer (λ_ d=>d) I.ok.c6
theorem Inv.stack (I:Inv X pins U H s):s.heap.FunFrames X.base X.stack:=by
 obtain e | ⟨e,a⟩:=I.ok.mD
 ·rw [e];exact I.c6
 ·rw [e]
  obtain⟨m,b,_⟩:=I.loc
  refine .cons (by rw [I.ok.kind];decide) a b ?_ I.c6
  exact Heap.get?_none_of_le (Ab5 I.ok.g7 I.ok.above)
def Inv.dw (I:Inv X pins U H s): ∀b∈e8 X.stack,b∈X.env.locals::X.fs:=λb a=>by
 obtain e | ⟨e,c⟩:=I.ok.mD
 ·rw [e]at a;exact Aa2 _ a
 ·rw [e]at a
  unfold e8 at a
  rw [Aj9,c]at a
  exact a
def Inv.eH (I:Inv X pins U H s): ∀b∈e8 X.stack,H b=none:=λb a=>by
 rcases Ac.mp (I.dw b a)with e | a
 ·rw [e];exact I.free
 ·obtain⟨_,o,c,_⟩:=I.ok.c6.mem a
  exact I.base.free b o c (I.ok.ke b a) λz=>I.ok.hU b z a
def Inv.step {ch:List Addr}(I:Inv X pins U H s)
 (g: ∀b∈ch,(b∈X.ex\/X.s₀.heap.objs.size<=b)/\b≠X.env.locals/\(∀ x c,X.env.cells.lookup x=k0 c->c≠b)/\ ∀p∈X.pn++pins,p.1≠b)
 (keep: ∀b o,b≠X.env.locals->b∉X.fs->b∉ch->s.heap.get? b=k0 o->H b=y0->h'.get? b=k0 o)
 (w: ∀b o,b≠X.env.locals->b∈X.fs->b∉ch->s.heap.get? b=k0 o->H b=y0-> ∃sl,h'.get? b=k0 { o with slots:=sl }) (f: ∀b o,b∉ch->s.heap.get? b=k0 o->H b=y0->H' b=y0)
 (there: ∀b o,b∉ch->s.heap.get? b=k0 o-> ∃o',h'.get? b=k0 o')
 (D: ∀b xs,H b=k0 (.tup xs)->H' b=k0 (.tup xs)) (C: ∀b o u,H b=k0 (.d8 o u)->H' b=k0 (.d8 o u)) (B: ∀b ps,H b=k0 (.iE ps)-> ∃more,H' b=k0 (.iE (ps++more)))
 (ns: ∀m,s.heap.Ns X.env.locals m->h'.Ns X.env.locals m) (J:c3 X.prog X.w H' h') (O:AllBare g'):
 Inv X pins U H' { s with heap:=h',gens:=g',drawn:=d',toks:=t' }:=by
 have E: ∀b o,X.s₀.heap.get? b=k0 o->b≠X.env.locals:=λb o e=>Ac5 (Ab4 (Ac1 e) I.ok.above)
 have t: ∀b o,X.s₀.heap.get? b=k0 o->b∉X.ex->b∉ch:=λb o e a y=>by
  obtain z | z:=(g b y).1
  ·exact a z
  ·exact absurd (Ab4 (Ac1 e) z) (Ai3 _)
 have j: ∀x c,X.env.cells.lookup x=k0 c-> ∀v,s.heap.IsCell c v->h'.IsCell c v:=by
  rintro x c e v ⟨o,A,F⟩
  have h:=λz=>(g c z).2.2.1 x c e rfl
  by_cases L:c∈X.fs
  ·obtain⟨sl,q⟩:=w c o (I.hJ x c e) L h A (I.cJ x c e)
   exact⟨_,q,F⟩
  ·exact⟨o,keep c o (I.hJ x c e) L h A (I.cJ x c e),F⟩
 refine⟨I.ok,I.os,O,⟨λb o e n y a=> ?_,λb o e n y a=> ?_,λb o e n a=> ?_,λb o e a=> ?_,λb xs e=>D b xs (I.base.eA b xs e),λb o xs e=>C b o xs (I.base.dJ b o xs e),λb ps e=> ?_⟩,?_,λx c e=> ?_,?_,λx c e=> ?_,λp K=> ?_,J,I.len⟩
 ·exact keep b o (E b o e) y (t b o e a) (I.base.keep b o e n y a) (I.base.free b o e n a)
 ·obtain⟨sl,e1⟩:=I.base.slot b o e n y a
  obtain⟨G,e2⟩:=w b _ (E b o e) y (t b o e a) e1 (I.base.free b o e n a)
  exact⟨G,e2⟩
 ·obtain⟨o',e1⟩:=I.base.there b o e a
  exact f b o' (t b o e a) e1 (I.base.free b o e n a)
 ·obtain⟨o',e1⟩:=I.base.there b o e a
  exact there b o' (t b o e a) e1
 ·obtain⟨R,e1⟩:=I.base.eh b ps e
  obtain⟨N,e2⟩:=B b _ e1
  exact⟨R++N,by rw [e2,Array.append_assoc]⟩
 ·obtain⟨m,P,S⟩:=I.loc
  refine⟨m,ns m P,λi x v e1 e2 Q=> ?_⟩
  obtain⟨u,r,l⟩:=S i x v e1 e2 Q
  refine⟨u,r,?_⟩
  obtain l | ⟨k,c,e,z⟩:=l
  ·exact .inl l
  ·exact .inr ⟨k,c,e,j x c e _ z⟩
 ·obtain⟨v,z⟩:=I.cell x c e
  exact⟨v,j x c e v z⟩
 ·obtain⟨m,⟨o,_,_,A,_⟩,_⟩:=I.loc
  exact f _ o (λz=>(g _ z).2.1 rfl) A I.free
 ·obtain⟨v,o,A,F⟩:=I.cell x c e
  exact f c o (λz=>(g c z).2.2.1 x c e rfl) A (I.cJ x c e)
 ·obtain⟨e,n,ne,M,d⟩:=I.pin p K
  have h:=λz=>(g p.1 z).2.2.2 p K rfl
  exact⟨keep p.1 p.2 ne M h e n,f p.1 p.2 h e n,ne,M,d⟩
def Inv.un (I:Inv X pins U H s) (u:Un X.fs [] H H' s.heap h') (g:c3 X.prog X.w H' h'):Inv X pins U H' { s with heap:=h',toks:=t' }:=by
 obtain⟨m,⟨o,l,p,h,r⟩,_⟩:=id I.loc
 obtain⟨sl,i⟩:=u.any h I.free (by simp)
 exact I.step (ch:= []) (λ_ z=>nomatch z) (λb o _ f _ e n=>u.keep b o e n f (by simp)) (λb o _ f _ e n=>u.slot b o e n f (by simp)) (λb o _ e n=>u.free b o e n (by simp)) (λb o _ e=>u.there b o e (by simp)) u.eA u.dJ u.eh (λq j=>by
  obtain⟨t,d,c,a,k⟩:=j
  rw [h]at a;cases a
  exact⟨_,d,c,i,k⟩) g I.bare
def Inv.call (I:Inv X pins U H s) (u:Un (e8 X.stack) ch H H' s.heap h') (j:c3 X.prog X.w H' h') (l:AllBare g')
 (d: ∀b∈ch,(b∈X.ex\/X.s₀.heap.objs.size<=b)/\b≠X.env.locals/\(∀ x c,X.env.cells.lookup x=k0 c->c≠b)/\ ∀p∈X.pn++pins,p.1≠b):
 Inv X pins U H' { s with heap:=h',gens:=g',drawn:=d',toks:=t' }:=by
 obtain⟨m,⟨o,w,y,k,r⟩,_⟩:=id I.loc
 obtain⟨sl,h⟩:=u.any k I.free λz=>(d _ z).2.1 rfl
 exact I.step d (λb o h t a e n=>u.keep b o e n (λz=>(Ac.mp (I.dw b z)).elim h t) a) (λb o _ _ a e n=>u.any e n a) (λb o a e n=>u.free b o e n a) (λb o a e=>u.there b o e a) u.eA u.dJ u.eh (λA q=>by
  obtain⟨B,i,g,f,v⟩:=q
  rw [k]at f;cases f
  exact⟨_,i,g,h,v⟩) j l
def Inv.turned (I:Inv X pins U H s) (k: ∀b o,b≠it->s.heap.get? b=k0 o->h'.get? b=k0 o) (y:H it=y0) (f:it≠X.env.locals)
 (h1:it∈X.ex\/X.s₀.heap.objs.size<=it) (i: ∀x c,X.env.cells.lookup x=k0 c->c≠it) (l: ∀p∈X.pn++pins,p.1≠it):Inv X pins U H { s with heap:=h',toks:=t' }:=by
 have d: ∀b u,H b=k0 u->b≠it:=λb u e z=>by rw [z,y]at e;cases e
 refine I.step (ch:= [it]) (λb t=> ?_) (λb o _ _ a e _=>k b o (λz=>a (by simp [z])) e) (λb o _ _ a e _=>⟨o.slots,k b o (λz=>a (by simp [z])) e⟩) (λ_ _ _ _ n=>n)
  (λb o a e=>⟨o,k b o (λz=>a (by simp [z])) e⟩) (λ_ _ e=>e) (λ_ _ _ e=>e) (λb A e=>⟨#[],by rw [e];simp⟩) (λm j=> ?_) (λb u e=> ?_) I.bare
 ·have e:=by simpa using t
  subst e
  exact⟨h1,f,i,l⟩
 ·obtain⟨o,g,h,w,r⟩:=j
  exact⟨o,g,h,k _ o (Ne.symm f) w,r⟩
 ·refine(I.bc b u e).dO (λc v a q=>k c v ?_ q) (λ_ q=>q) λ_ _ q=>q
  obtain z | z:=a
  ·rw [z];exact d b u e
  ·exact d c _ z
def Inv.tok (I:Inv X pins U H s) (t):Inv X pins U H { s with toks:=t }:=I.un Un.refl I.bc
theorem Inv.kept (I:Inv X pins U H s) (k: ∀b u,s.heap.get? b=k0 u->h'.get? b=k0 u):Inv X pins U H { s with heap:=h',toks:=t' }:=I.un (Un.kept k) (I.bc.kept k)
theorem Inv.laid (I:Inv X pins U H s) (k: ∀b u,s.heap.get? b=k0 u->h'.get? b=k0 u) (c:s.heap.objs.size<=a) (new:bb X.prog X.w (aL H a o) h' a o):
 Inv X pins U (aL H a o) { s with heap:=h',toks:=t' }:=I.un (Un.laid k c (I.bc.fresh c)) (I.bc.laid k c new)
theorem Inv.write (I:Inv X pins U H s) (c:l4 (H x)) (d:e=x\/H e=k0 (.own x)) (k: ∀b u,b≠e->s.heap.get? b=k0 u->h'.get? b=k0 u) (a: ∃u,h'.get? e=k0 u)
 (new:bb X.prog X.w (aL H x o) h' x o):Inv X pins U (aL H x o) { s with heap:=h',toks:=t' }:=I.un (Un.write c d k a) (I.bc.write c d k a new)
def Inv.bO (I:Inv X pins U H s) (h: ∀p∈pins',s.heap.get? p.1=k0 p.2/\H p.1=y0/\p.1≠X.env.locals/\p.1∉X.fs/\ ∀v,p.2.data≠ .cell v):Inv X pins' U H s:=
 ⟨I.ok,I.os,I.bare,I.base,I.loc,I.cell,I.free,I.cJ,λp a=>(Ac8.mp a).elim (λz=>I.pin p (Ad0 _ z)) (h p),I.bc,I.len⟩
def sQ {N:List Str}(c:N.Nodup){i j:Nat}(a:N[i]? =k0 x) (b:N[j]? =k0 x):i=j:=by
 obtain⟨d,e1⟩:=Aa1.mp a
 obtain⟨e,e2⟩:=Aa1.mp b
 exact(List.getElem_inj c).mp (e1.trans e2.symm)
def Ha (I:Inv X pins U H s) (hN:X.N.Nodup) (J:X.N[i]? =k0 x) (t:i9 X.env.scope x) (r:RelV v u)
 (h: ∀s',Inv X pins (U.set i (k0 v)) H s'->(∃ a,Al8 a s.heap s'.heap/\(a=X.env.locals\/X.env.cells.lookup x=k0 a))->Q () s') (hf:X.fn x=u0\/X.env.scope.names.lookup x=k0 .local:=by first | exact .inl rfl | exact .inr rfl | assumption):wpAny M A (storeName X.env x u) Q E s:=by
 obtain⟨m,hn,hl⟩:=id I.loc
 have N:(X.env.scope.kind== .class||(X.env.scope.kind== .module&&X.env.locals != X.env.globals))=false:=by rw [I.ok.kind];rfl
 have L:i<U.length:=by rw [I.len];exact(Aa1.mp J).1
 have hJ:=I.hJ
 have g: ∀ {a}{G},(∃ o,s.heap.get? a=k0 o/\H a=y0)->Al8 a s.heap G->c3 X.prog X.w H G:=λ{a G} ha f b ob e=>by
  obtain⟨_,_,w⟩:=ha
  refine(I.bc b ob e).dO (λc T l q=>(f.2 c ?_).trans q) (λ_ q=>q) λ_ _ q=>q
  rintro rfl
  rcases l with rfl | l
  ·rw [w]at e;cases e
  ·rw [w]at l;cases l
 rcases t with B | B
 ·refine wpAny_storeName_local B hn (λG Y f=> ?_) N
  obtain⟨oL,_,_,Z,_⟩:=id hn
  refine h _ ⟨I.ok,I.os,I.bare,⟨λb o e n C t=> ?_,λb o e n C t=> ?_,I.base.free,λb o e t=> ?_,I.base.eA,I.base.dJ,I.base.eh⟩,⟨_,Y,λj y W e1 e2 e3=> ?_⟩,λy c e=> ?_,I.free,I.cJ,λp V=> ?_,g ⟨oL,Z,I.free⟩ f,by simpa using I.len⟩ ⟨_,f,.inl rfl⟩
  ·exact(f.2 b (Ac5 (Ab4 (Ac1 e) I.ok.above))).trans (I.base.keep b o e n C t)
  ·obtain⟨sl,e1⟩:=I.base.slot b o e n C t
   exact⟨sl,(f.2 b (Ac5 (Ab4 (Ac1 e) I.ok.above))).trans e1⟩
  ·obtain⟨o',e1⟩:=I.base.there b o e t
   exact⟨o',(f.2 b (Ac5 (Ab4 (Ac1 e) I.ok.above))).trans e1⟩
  ·by_cases D:j=i
   ·subst D
    rw [J]at e1;cases e1
    rw [Ab9 L]at e2
    cases e2
    exact⟨u,r,.inl ⟨B,by simp⟩⟩
   ·rw [Ae0 (Ne.symm D)]at e2
    obtain⟨u',r',q⟩:=hl j y W e1 e2 e3
    refine⟨u',r',?_⟩
    rcases q with⟨k,e⟩ | ⟨k,c,e,z⟩
    ·refine .inl ⟨k,?_⟩
     have:y≠x:=λe=>D (sQ hN e1 (e▸J))
     simp [this,e]
    ·exact .inr ⟨k,c,e,z.sameBut f (hJ y c e)⟩
  ·obtain⟨T,z⟩:=I.cell y c e
   exact⟨T,z.sameBut f (hJ y c e)⟩
  ·obtain⟨e,n,ne,nf,d⟩:=I.pin p V
   exact⟨(f.2 p.1 ne).trans e,n,ne,nf,d⟩
 ·have F:X.fn x=true:=by
   rcases hf with z | z
   ·exact z
   ·rw [z]at B;cases B
  obtain⟨c,l⟩:=I.ok.has x (.inl B)
  obtain⟨T,z⟩:=I.cell x c l
  refine wpAny_storeName_cell I.ok.kind B l z (λG R f=> ?_)
  obtain⟨oc,O,P⟩:=id z
  refine h { s with heap:=G } ⟨I.ok,I.os,I.bare,⟨λb o e n C t=> ?_,λb o e n C t=> ?_,I.base.free,λb o e t=> ?_,I.base.eA,I.base.dJ,I.base.eh⟩,⟨m,hn.sameBut f (Ne.symm (hJ x c l)),λj y W e1 e2 e3=> ?_⟩,λy S e=> ?_,I.free,I.cJ,λp V=> ?_,g ⟨oc,O,I.cJ x c l⟩ f,by simpa using I.len⟩ ⟨c,f,.inr l⟩
  ·exact(f.2 b (Ac5 (Ab4 (Ac1 e) (I.ok.oT x c F l)))).trans (I.base.keep b o e n C t)
  ·obtain⟨sl,e1⟩:=I.base.slot b o e n C t
   exact⟨sl,(f.2 b (Ac5 (Ab4 (Ac1 e) (I.ok.oT x c F l)))).trans e1⟩
  ·obtain⟨o',e1⟩:=I.base.there b o e t
   exact⟨o',(f.2 b (Ac5 (Ab4 (Ac1 e) (I.ok.oT x c F l)))).trans e1⟩
  ·by_cases D:j=i
   ·subst D
    rw [J]at e1;cases e1
    rw [Ab9 L]at e2
    cases e2
    exact⟨u,r,.inr ⟨.inl B,c,l,R⟩⟩
   ·rw [Ae0 (Ne.symm D)]at e2
    obtain⟨u',r',q⟩:=hl j y W e1 e2 e3
    refine⟨u',r',?_⟩
    rcases q with q | ⟨k,S,e,z'⟩
    ·exact .inl q
    ·refine .inr ⟨k,S,e,z'.sameBut f ?_⟩
     rintro rfl
     exact D (sQ hN e1 (I.ok.inj _ _ _ e l▸J))
  ·by_cases K:S=c
   ·subst K;exact⟨_,R⟩
   ·obtain⟨w2,z2⟩:=I.cell y S e
    exact⟨w2,z2.sameBut f K⟩
  ·obtain⟨e,n,ne,nf,d⟩:=I.pin p V
   refine⟨(f.2 p.1 ?_).trans e,n,ne,nf,d⟩
   intro q
   rw [q,O]at e
   have q':=Ad5.inj e
   exact d T (by rw [← q'];exact P)
def XS (I:Inv X pins U H s) (b:X.N.Nodup) (e:X.N[i]? =k0 x) (c:i9 X.env.scope x) (r:RelV v u)
 (h: ∀s',Inv X pins (U.set i (k0 v)) H s'->Q () s') (d:X.fn x=u0\/X.env.scope.names.lookup x=k0 .local:=by first | exact .inl rfl | exact .inr rfl | assumption):wpAny M A (storeName X.env x u) Q E s:=
 Ha I b e c r (λs' a _=>h s' a) d
def Inv.kG (I:Inv X pins U H s) (g:s'.os=s.os) (u:Un (e8 X.stack) ch H H' s.heap s'.heap) (a:c3 X.prog X.w H' s'.heap) (f:AllBare s'.gens)
 (d: ∀b∈ch,(b∈X.ex\/X.s₀.heap.objs.size<=b)/\b≠X.env.locals/\(∀ x c,X.env.cells.lookup x=k0 c->c≠b)/\ ∀p∈X.pn++pins,p.1≠b):Inv X pins U H' s':=by
 obtain⟨j,h,k,i,l⟩:=s'
 have e:=g
 subst e
 exact I.call u a f d
end
abbrev XK:=Value->Option Addr->Hp->Prop
abbrev St:=List (Option V)
abbrev VK:=V->Hp->Prop
abbrev TE:=St->Hp->VK->Prop
abbrev TT:=St->Hp->(Bool->Hp->Prop)->Prop
abbrev TA:=St->Hp->(List V->Hp->Prop)->Prop
structure hI where
 nx:St->Hp->Prop
 rt:VK
 bk:St->Hp->Prop:=λ_ _=>False
 ct:St->Hp->Prop:=λ_ _=>False
abbrev TS:=hI->St->Hp->Prop
def EP (X:Cx) (a:List (Addr×Obj)) (U:St) (Q:VK) (u:Value) (b:Shared):Prop:= ∃v H',Inv X a U H' b/\RelV v u/\Q v H'
def TP (X:Cx) (a:List (Addr×Obj)) (U:St) (Q:Bool->Hp->Prop) (b:Bool) (c:Shared):Prop:= ∃H',Inv X a U H' c/\Q b H'
def AP (X:Cx) (a:List (Addr×Obj)) (U:St) (Q:List V->Hp->Prop) (c:List Value) (d:Shared):Prop:= ∃b H',Inv X a U H' d/\Vals b c/\Q b H'
def SP (X:Cx) (a:List (Addr×Obj)) (D:hI) (f:Flow) (c:Shared):Prop:=
 match f with
 | .next=> ∃b H',Inv X a b H' c/\D.nx b H'
 | .brk=> ∃b H',Inv X a b H' c/\D.bk b H'
 | .cont=> ∃b H',Inv X a b H' c/\D.ct b H'
 | .ret u=> ∃v b H',Inv X a b H' c/\RelV v u/\D.rt v H'
def PE (X:Cx) (e:Expr) (t:TE):Prop:=
 ∀(pins:List (Addr×Obj)) (s:Shared) (U:St) (H:Hp) (Q:VK),Inv X pins U H s->t U H Q->wpAny (model X.prog X.w) X.A (eval e X.env) (EP X pins U Q) X.xe s
def PT (X:Cx) (e:Expr) (t:TT):Prop:=
 ∀(pins:List (Addr×Obj)) (s:Shared) (U:St) (H:Hp) (Q:Bool->Hp->Prop),Inv X pins U H s->t U H Q->wpAny (model X.prog X.w) X.A (isTrue e X.env (eval e X.env)) (TP X pins U Q) X.xe s
def PW (X:Cx) (e:Expr) (t:TT):Prop:=
 ∀(a:Sem Value) (pins:List (Addr×Obj)) (s:Shared) (U:St) (H:Hp) (Q:Bool->Hp->Prop),Inv X pins U H s->t U H Q->wpAny (model X.prog X.w) X.A (isTrue e X.env a) (TP X pins U Q) X.xe s
def PW.pt (h:PW X e t):PT X e t:=h _
def PA (X:Cx) (es:List Expr) (t:TA):Prop:=
 ∀(pos:Pos) (pins:List (Addr×Obj)) (s:Shared) (U:St) (H:Hp) (Q:List V->Hp->Prop),Inv X pins U H s->t U H Q->wpAny (model X.prog X.w) X.A (spliced (backTo pos (starEach es X.env))) (AP X pins U Q) X.xe s
def PS (X:Cx) (st:Stmt) (t:TS):Prop:=
 ∀(pins:List (Addr×Obj)) (s:Shared) (U:St) (H:Hp) (D:hI),Inv X pins U H s->t D U H->wpAny (model X.prog X.w) X.A (exec st X.env) (SP X pins D) X.xe s
def de (X:Cx) (st:List Stmt) (t:TS):Prop:=
 ∀(pins:List (Addr×Obj)) (s:Shared) (U:St) (H:Hp) (D:hI),Inv X pins U H s->t D U H->wpAny (model X.prog X.w) X.A (execs st X.env) (SP X pins D) X.xe s
def aO (h:wpAny M A t Q E s) (b: ∀a s,Q a s->Q' a s):wpAny M A t Q' E s:=wpAny_mono h b λ_ _ x=>x
section
variable {X:Cx}
def bin (l:PE X a ta) (k:PE X b tb){R:V->V->Hp->Prop}(I:Inv X pins U H s) (h:ta U H λx H1=>tb U H1 λy H2=>R x y H2)
 {f:Value->Value->Sem α}
 (d: ∀v u L x y H2,Inv X pins U H2 L->RelV x v->RelV y u->R x y H2->wpAny (model X.prog X.w) X.A (f v u) Q X.xe L):
 wpAny (model X.prog X.w) X.A (eval a X.env) (λv j=>wpAny (model X.prog X.w) X.A (eval b X.env) (λu i=>wpAny (model X.prog X.w) X.A (f v u) Q X.xe i) X.xe j) X.xe s:=by
 refine aO (l pins s U H _ I h) ?_
 rintro v g ⟨x,H1,e,m,p⟩
 refine aO (k pins g U H1 _ e p) ?_
 rintro u L ⟨y,H2,c,n,o⟩
 exact d v u L x y H2 c m n o
def mn (i:Nat):TE:=λU H Q=> ∃v,U[i]? =k0 (k0 v)/\Q v H
def tC (v:V):TE:=λ_ H Q=>Q v H
def zH (k:X.N[i]? =some x) (o:lM X.env.scope x) (f:(x==("__debug__" :Str))=false:=by decide) (g:(x==("__classdict__" :Str))=false:=by decide):PE X (.Name x pos) (mn i):=by
 intro d s U H Q I h
 obtain⟨v,e,h⟩:=h
 obtain⟨m,p,q⟩:=I.loc
 obtain⟨u,r,l⟩:=q i x v k e o
 have fin:EP X d U Q u s:=⟨v,H,I,r,h⟩
 obtain⟨b,n⟩ | ⟨b,c,j,a⟩:=l
 ·exact wpAny_Name (wpAny_loadName_local I.ok.kind b p n fin) f
 ·obtain b | b:=b
  ·exact wpAny_Name (wpAny_loadName_cell I.ok.kind b j a fin) f
  ·exact wpAny_Name (wpAny_loadName_free I.ok.kind b j a fin g) f
def Dj {i j pos}:PE X (.Constant (.int i) j pos) (tC (.int i)):=λ_ _ _ H _ I h=>wpAny_Constant_int ⟨.int i,H,I.tok _,⟨_,rfl⟩,h⟩
def Bw {b j pos}:PE X (.Constant (.bool b) j pos) (tC (.bl b)):=λ_ _ _ H _ I h=>Constant_bool ⟨.bl b,H,I,rfl,h⟩
def D9 {j pos}:PE X (.Constant .none j pos) (tC .aj):=λ_ _ _ H _ I h=>Constant_none ⟨.aj,H,I,rfl,h⟩
def nc {x j pos}:PE X (.Constant (.str x) j pos) (tC (.str x)):=λ_ _ _ H _ I h=>Calls.Constant_str ⟨.str x,H,I.tok _,⟨_,rfl⟩,h⟩
def Gl (X:Cx) (x:Str):Prop:=X.env.kindOf x=k0 .globalImplicit
def qT (I:Inv X pins U H s) (b:Gl X x) (a:X.mg x=k0 u) (h:Q u s)
 (c:(x==("__debug__" :Str))=false:=by decide):wpAny (model X.prog X.w) X.A (eval (.Name x pos) X.env) Q E s:=
 Calls.Name_function_global I.ok.kind b (Calls.loadGlobal_global (by rw [I.ok.glob];exact I.mod.glob.keeps I.bk) a h) c
def zE (I:Inv X pins U H s) (c:Gl X x) (a:X.mg x=y0) (e:bootBuiltins x=k0 u) (h:Q u s)
 (f:x≠ "__name__" :=by decide) (d:(x==("__debug__" :Str))=false:=by decide):wpAny (model X.prog X.w) X.A (eval (.Name x pos) X.env) Q E s:=by
 obtain⟨i,b,g⟩:=I.mod.blt
 exact Calls.Name_function_global I.ok.kind c (Calls.loadGlobal_builtin (by rw [I.ok.glob];exact I.mod.glob.keeps I.bk) a (by rw [I.ok.blt];exact b.keeps I.bk) ((g x f).trans e) h) d
def t8 (b:Gl X x) (a:X.mg x=some u) (r:RelV v u) (c:(x==("__debug__" :Str))=false:=by decide):PE X (.Name x pos) (tC v):=
 λ_ _ _ H _ I h=>qT I b a ⟨v,H,I,r,h⟩ c
def CS (b:Gl X x) (a:X.mg x=none) (d:bootBuiltins x=some u) (r:RelV v u) (e:x≠ "__name__" :=by decide) (c:(x==("__debug__" :Str))=false:=by decide):PE X (.Name x pos) (tC v):=
 λ_ _ _ H _ I h=>zE I b a d ⟨v,H,I,r,h⟩ e c
variable {a b:Expr}{ta tb:TE}{pos:Pos}
def PC (X:Cx) (e:CmpOp) (a b:Expr) (t:TE):Prop:=
 ∀(pins:List (Addr×Obj)) (s:Shared) (U:St) (H:Hp) (Q:VK),Inv X pins U H s->t U H Q →
  wpAny (model X.prog X.w) X.A (eval a X.env) (λv d=>wpAny (model X.prog X.w) X.A (eval b X.env) (λu c=>wpAny (model X.prog X.w) X.A (compareOp e v u) (EP X pins U Q) X.xe c) X.xe d) X.xe s
def vW (b)(h:op≠ .In) (a:op≠ .NotIn):behindInMarks op b=false:=by
 have e1:(op==CmpOp.In)=false:=by cases op<;>first | rfl | exact absurd rfl h
 have e2:(op==CmpOp.NotIn)=false:=by cases op<;>first | rfl | exact absurd rfl a
 cases b<;>simp [behindInMarks,e1,e2]
def yB (a:TE):TE:=λU H Q=>a U H λx H1=>Q (.bl (y9 (x= .aj))) H1
def DC (a:TE):TE:=λU H Q=>a U H λx H1=>Q (.bl (!y9 (x= .aj))) H1
def RelV.dX (r:RelV x v):(v==Value.none)=y9 (x= .aj):=by
 cases x with
 | aj=>cases r;rfl
 | bl _=>cases r;rfl
 | int _=>obtain⟨t,rfl⟩:=r;rfl
 | str _=>obtain⟨t,rfl⟩:=r;rfl
 | iH _=>obtain⟨t,rfl⟩:=r;rfl
 | gT _=>obtain⟨t,rfl⟩:=r;rfl
 | ref _=>cases r;rfl
 | ty _=>cases r;rfl
def uA {j pos'}(e:PE X a ta):PC X .Is a (.Constant .none j pos') (yB ta):=by
 intro b s U H Q I h
 refine aO (e b s U H _ I h) ?_
 rintro v i ⟨x,d,g,f,c⟩
 exact Constant_none (is_none_gen ⟨.bl _,d,g,by rw [f.dX];rfl,c⟩)
def vt {j pos'}(e:PE X a ta):PC X .IsNot a (.Constant .none j pos') (DC ta):=by
 intro b s U H Q I h
 refine aO (e b s U H _ I h) ?_
 rintro v i ⟨x,d,g,f,c⟩
 exact Constant_none (isnot_none_gen ⟨.bl _,d,g,by rw [f.dX];rfl,c⟩)
def tB (t:TE):TT:=λU H Q=>t U H λx H1=> ∃c,x= .bl c/\Q c H1
def sV (h:PC X op a b t) (h1:behindInMarks op b=false:=by first | exact vW _ (by decide) (by decide) | rfl):PE X (.Compare a [op] [b] pos) t:=λc s U H Q I d=>wpAny_Compare1 (h c s U H Q I d) h1
def vc (h:PC X op a b t) (h1:behindInMarks op b=false:=by first | exact vW _ (by decide) (by decide) | rfl):PT X (.Compare a [op] [b] pos) (tB t):=by
 intro e s U H Q I f
 refine wpAny_isTrue_Compare1 (aO (h e s U H _ I f) λv m h1=>aO h1 λu o i=>aO i λc n ⟨x,j,g,k,l⟩=> ?_) h1
 obtain⟨d,rfl,q⟩:=l
 cases k
 exact wpAny_truthy_bool ⟨j,g,q⟩
variable {tA tB':TT}{jn:List Expr}
def Ii (t u:TT):TT:=λU H Q=>t U H λc H1=>if c=u0 then u U H1 Q else Q k9 H1
def DA (t u:TT):TT:=λU H Q=>t U H λc H1=>if c=u0 then Q u0 H1 else u U H1 Q
def L9 (t:TT):TT:=λU H Q=>t U H λc H1=>Q (!c) H1
def L7 (d:PT X a tA):PW X (.BoolOp .And [a] pos) tA:=by
 intro g b s U H Q I h
 refine isTrue_and (aO (d b s U H Q I h) λc f e=> ?_)
 cases c with
 | true=>exact isTrue_and_nil e
 | false=>exact e
def yr (d:PT X a tA):PW X (.BoolOp .Or [a] pos) tA:=by
 intro g b s U H Q I h
 refine isTrue_or (aO (d b s U H Q I h) λc f e=> ?_)
 cases c with
 | false=>exact isTrue_or_nil e
 | true=>exact e
def CB (l:PT X a tA) (k:PW X (.BoolOp .And (b::jn) pos) tB'):PW X (.BoolOp .And (a::b::jn) pos) (Ii tA tB'):=by
 intro i d s U H Q I h
 refine isTrue_and (aO (l d s U H _ I h) ?_)
 rintro c j ⟨f,g,e⟩
 cases c with
 | true=>exact k i d j U f Q g e
 | false=>exact⟨f,g,e⟩
def La (l:PT X a tA) (k:PW X (.BoolOp .Or (b::jn) pos) tB'):PW X (.BoolOp .Or (a::b::jn) pos) (DA tA tB'):=by
 intro i d s U H Q I h
 refine isTrue_or (aO (l d s U H _ I h) ?_)
 rintro c j ⟨f,g,e⟩
 cases c with
 | true=>exact⟨f,g,e⟩
 | false=>exact k i d j U f Q g e
def D6 (e:PT X a tA):PT X (.UnaryOp .Not a pos) (L9 tA):=by
 intro b s U H Q I h
 exact isTrue_not (e b s U H (λc d=>Q (!c) d) I h)
def uh {op}(h:PE X a t):PE X (.BoolOp op [a] pos) t:=λb s U H Q I c=>BoolOp_one (h b s U H Q I c)
end
def bu (K:Ab) (H:Hp) (a:Addr) (xs:List V):Prop:=
 Rd H a (.lst xs) ∨
  ∃(o:Obj) (b:Array Value) (n:Nat),K.lookup a=some o/\o.cls= .type "list" /\o.dict=none/\o.data= .seq b n/\b.size<=sizeLine/\Vals xs b.toList
def cA (K:Ab) (H:Hp) (a:Addr) (xs:List V):Prop:=
 Rd H a (.tup xs) ∨
  ∃(o:Obj) (b:Array Value) (n:Nat),K.lookup a=k0 o/\o.cls= .type "tuple" /\o.data= .seq b n/\b.size<=sizeLine/\Vals xs b.toList
noncomputable def IE:Value->Option V
 | .none=>k0 .aj
 | .bool b=>k0 (.bl b)
 | .int i _=>k0 (.int i)
 | .str x _=>k0 (.str x)
 | .bytes b _=>k0 (.iH b)
 | .float b _=>k0 (.gT b)
 | .ref a=>k0 (.ref a)
 | .type n=>k0 (.ty n)
 | _=>y0
def RelV.abs (r:RelV x u):IE u=k0 x:=by
 cases x with
 | aj=>cases r;rfl
 | bl _=>cases r;rfl
 | int _=>obtain⟨t,rfl⟩:=r;rfl
 | str _=>obtain⟨t,rfl⟩:=r;rfl
 | iH _=>obtain⟨t,rfl⟩:=r;rfl
 | gT _=>obtain⟨t,rfl⟩:=r;rfl
 | ref _=>cases r;rfl
 | ty _=>cases r;rfl
theorem RelV.inj (r:RelV x u) (q:RelV y u):x=y:=Ad5.inj (r.abs.symm.trans q.abs)
theorem Vals.inj: ∀ {xs ys}{i},Vals xs i->Vals ys i->xs=ys
 | _,_,_,.nil,.nil=>rfl
 | _,_,_,.cons r t,.cons b a=>by rw [r.inj b,Vals.inj t a]
section
variable {X:Cx}{pins:List (Addr×Obj)}{U:St}{H:Hp}{s:Shared}{a:Addr}{xs ys:List V}
def bu.of {K:Ab}(h:H a=k0 (.lst xs)):bu K H a xs:= .inl (.inl h)
def Inv.list (I:Inv X pins U H s) (h:bu X.K H a xs): ∃i:List Value,Vals xs i/\PlainL s.heap a i.toArray/\xs.length<=sizeLine:=by
 obtain h | ⟨o,i,n,b,c,d,f,g,r⟩:=h
 ·obtain⟨z,i,n,r,e⟩:=h.ok I.bc
  exact⟨i,r,⟨_,n,e,rfl,rfl,rfl⟩,z⟩
 ·refine⟨i.toList,r,⟨o,n,I.ck a o b,c,d,by simpa using f⟩,?_⟩
  have e:=r.length
  simp [Ai0]at e
  lia
def Inv.tuple (I:Inv X pins U H s) (h:cA X.K H a xs): ∃i:List Value,Vals xs i/\IsTup s.heap a i.toArray/\xs.length<=sizeLine:=by
 obtain h | ⟨o,i,n,b,c,d,f,r⟩:=h
 ·obtain⟨z,i,r,p⟩:=h.ok I.bc
  exact⟨i,r,p.is,z⟩
 ·refine⟨i.toList,r,⟨o,I.ck a o b,c,n,by simpa using d⟩,?_⟩
  have e:=r.length
  simp [Ai0]at e
  lia
def Inv.dF (I:Inv X pins U H s) (h:bu X.K H a xs) (h':bu X.K H a ys):xs=ys:=by
 obtain⟨c,r,⟨o,n,e,_,_,d⟩,_⟩:=I.list h
 obtain⟨b,i,⟨l,k,f,_,_,g⟩,_⟩:=I.list h'
 rw [e]at f;cases f
 rw [d]at g
 injection g with j _
 have:c=b:=by simpa using congrArg Array.toList j
 subst this
 exact r.inj i
def Inv.eQ (I:Inv X pins U H s) (h:cA X.K H a xs) (h':cA X.K H a ys):xs=ys:=by
 obtain⟨c,r,⟨o,e,_,n,d⟩,_⟩:=I.tuple h
 obtain⟨b,i,⟨l,f,_,k,g⟩,_⟩:=I.tuple h'
 rw [e]at f;cases f
 rw [d]at g
 injection g with j _
 have:c=b:=by simpa using congrArg Array.toList j
 subst this
 exact r.inj i
end
section
variable {X:Cx}{st:Stmt}{jn:List Stmt}{t u:TS}{e:Expr}{te:TE}{pos:Pos}
def Hf:TS:=λD U H=>D.nx U H
def Hx (t u:TS):TS:=λD U H=>t { D with nx:=u D } U H
def HM:de X [] Hf:=λ_ _ U H _ I h=>wpAny_execs_nil ⟨U,H,I,h⟩
def Bt (h1:PS X st t) (g:de X jn u):de X (st::jn) (Hx t u):=by
 intro a s U H D I h
 refine wpAny_execs_cons (aO (h1 a s U H { D with nx:=u D } I h) λf c q=> ?_)
 cases f with
 | next=>
  obtain⟨e,b,d,q⟩:=q
  exact g a c e b D d q
 | ret v=>exact q
 | brk=>exact q
 | cont=>exact q
def Inv.quiet (I:Inv X pins U H s):interactive X.env=false:=by simp [interactive,I.ok.kind]
def EX (a:TE):TS:=λD U H=>a U H λ_ H1=>D.nx U H1
def w5 (c:PE X e te) (f:swapsWith e y0 pos.line X.env=pure false:=by rfl):PS X (.Expr e pos) (EX te):=by
 intro a s U H D I h
 exact wpAny_Expr_any (aO (c a s U H _ I h) λv i ⟨x,d,g,j,b⟩=>⟨U,d,g,b⟩) I.quiet f
def K5 (a:TE):TS:=λD U H=>a U H D.rt
def uR (c:PE X e te):PS X (.Return (k0 e) pos) (K5 te):=by
 intro a s U H D I h
 exact wpAny_Return_some (aO (c a s U H _ I h) λv i ⟨x,d,g,f,b⟩=>⟨x,U,d,g,f,b⟩)
def EU (c:TT) (t u:TS):TS:=λD U H=>c U H λb H1=>if b=u0 then t D U H1 else u D U H1
def CU (l:PT X c tc) (m:de X a t) (k:de X b u):PS X (.If c a b pos) (EU tc t u):=by
 intro e s U H D I h
 refine wpAny_If (aO (l e s U H _ I h) ?_)
 rintro d i ⟨g,j,f⟩
 cases d with
 | true=>exact m e i U g D j f
 | false=>exact k e i U g D j f
end
abbrev TG:=V->St->Hp->(St->Hp->Prop)->Prop
abbrev lq:=List V->St->Hp->(St->Hp->Prop)->Prop
def PG (X:Cx) (a:Expr) (t:TG):Prop:=
 ∀(pins:List (Addr×Obj)) (s:Shared) (U:St) (H:Hp) (v:V) (u:Value) (Q:St->Hp->Prop),Inv X pins U H s->RelV v u->t v U H Q →
  wpAny (model X.prog X.w) X.A (assign a X.env u) (λ_ s'=> ∃b H',Inv X pins b H' s'/\Q b H') X.xe s
def lu (X:Cx) (d:List Expr) (t:lq):Prop:=
 ∀(pins:List (Addr×Obj)) (s:Shared) (U:St) (H:Hp) (a:List V) (b:List Value) (Q:St->Hp->Prop),Inv X pins U H s->Vals a b->t a U H Q →
  wpAny (model X.prog X.w) X.A (assignInOrder ((assignEach d X.env).map (·.2)) b) (λ_ s'=> ∃c H',Inv X pins c H' s'/\Q c H') X.xe s
abbrev rp:=V->V->V->Hp->(Hp->Prop)->Prop
def m6 (X:Cx) (t:rp):Prop:=
 ∀(pins:List (Addr×Obj)) (s:Shared) (U:St) (H:Hp) (o i v:V) (b a u:Value) (Q:Hp->Prop),Inv X pins U H s->RelV o b->RelV i a->RelV v u->t o i v H Q →
  wpAny (model X.prog X.w) X.A (setItem b a u) (λ_ s'=> ∃H',Inv X pins U H' s'/\Q H') X.xe s
section
variable {X:Cx}{pos:Pos}
def qY (i:Nat):TG:=λv U H Q=>Q (U.set i (k0 v)) H
def j7 (c:X.N.Nodup) (f:X.N[i]? =k0 x) (e:i9 X.env.scope x) (d:X.fn x=u0\/X.env.scope.names.lookup x=k0 .local:=by first | exact .inl rfl | exact .inr rfl | assumption):PG X (.Name x pos) (qY i):=by
 intro a s U H v u Q I r h
 exact wpAny_assign_Name (XS I c f e r (λg b=>⟨_,H,b,h⟩) d)
def yw:lq:=λa U H Q=>a= []/\Q U H
def KN (t:TG) (u:lq):lq:=λa U H Q=> ∃v r,a=v::r/\t v U H λb H'=>u r b H' Q
def sC:lu X [] yw:=by
 intro a s U H b c Q I r h
 obtain⟨e,h⟩:=h
 subst e
 cases r
 exact assignInOrder_nil ⟨U,H,I,h⟩
def jS (h1:PG X e t) (g:lu X es u)
 (d:(assignEach (e::es) X.env).map (·.2)=assign e X.env::(assignEach es X.env).map (·.2):=by rfl):lu X (e::es) (KN t u):=by
 intro a s U H m l Q I r h
 obtain⟨v,n,e1,h⟩:=h
 subst e1
 cases r with
 | cons r c=>
  rw [d]
  refine assignInOrder_cons (aO (h1 a s U H _ _ _ I r h) ?_)
  rintro _ j ⟨b,i,f,k⟩
  exact g a j b i _ _ Q f c k
def yL (K:Ab) (n:Nat) (t:lq):TG:=λv U H Q=> ∃a xs,v= .ref a/\cA K H a xs/\xs.length=n/\t xs U H Q
def sE (m:X.calm=u0) (h:lu X es t)
 (q:(assignEach es X.env).length=n:=by rfl) (d:(assignEach es X.env).findIdx? (·.1)=none:=by rfl):PG X (.Tuple es k pos) (yL X.K n t):=by
 intro c s U H v u Q I r f
 obtain⟨a,j,e1,l,y,f⟩:=f
 subst e1
 cases r
 obtain⟨g,rv,w,z⟩:=I.tuple l
 refine assign_Tuple_tuple (I.ok.hd m) w (by simp [q,←y,rv.length]) d λx i=> ?_
 have p:Inv X c U H { s with heap:=x }:=I.kept λb o e=>i b o (Ac5 (Ac1 e)) e
 exact h c _ U H j _ Q p (by simp_all) f
def yT (b c:TE) (t:rp):TG:=λv U H Q=>b U H λo H1=>c U H1 λi H2=>t o i v H2 λa=>Q U a
def mH (q:PE X o to) (c:PE X i ti) (f:m6 X t)
 (p: ∀v,assign (.Subscript o i pos) X.env v=(do
   let j ←holding [v] (eval o X.env)
   let L ←holding [v,j] (eval i X.env)
   standAt pos
   holding [v,j,L] (setItem j L v)
   release [v,j,L] []):=by intro _;rfl):PG X (.Subscript o i pos) (yT to ti t):=by
 intro a s U H v u Q I r h
 rw [p]
 refine wpAny_bind (wpAny_holding (aO (q a s U H _ I h) ?_))
 rintro j l ⟨x,k,g,w,B⟩
 refine wpAny_bind (wpAny_holding (aO (c a l U k _ g B) ?_))
 rintro L C ⟨y,d,b,z,A⟩
 refine wpAny_bind (wpAny_standAt (wpAny_bind (wpAny_holding (aO (f a C U d x y v j L u _ b w z r A) ?_))))
 rintro _ D ⟨m,e,n⟩
 exact wpAny_release ⟨U,m,e,n⟩
def gU (a:TE) (g:TG):TS:=λD U H=>a U H λx H1=>g x U H1 D.nx
def W3 (c:PE X e te) (d:PG X tg g) (f:swapsWithSole [tg] e pos.line X.env=pure false:=by rfl) (b:swappedStores [tg] e X.env=pure none:=by rfl)
 (h1:(assignEach [tg] X.env).map (·.2)= [assign tg X.env]:=by rfl):PS X (.Assign [tg] e pos) (gU te g):=by
 intro a s U H D I h
 refine wpAny_Assign_stores (aO (c a s U H _ I h) λv k ⟨x,j,i,l,m⟩=> ?_) f b
 rw [h1]
 exact aO (d a k U j x v _ i l m) λ_ n q=>q
def AA (j:X.N.Nodup) (f:X.N[i]? =k0 x) (d:i9 X.env.scope x) (g:PE X e te) (k:swapsWith e (k0 (.Name x pos')) pos.line X.env=pure false:=by rfl) (c:X.fn x=u0\/X.env.scope.names.lookup x=k0 .local:=by first | exact .inl rfl | exact .inr rfl | assumption):
 PS X (.Assign [.Name x pos'] e pos) (gU te (qY i)):=by
 intro a s U H D I h
 refine wpAny_Assign_Name (aO (g a s U H _ I h) λv p ⟨y,m,l,n,o⟩=> ?_) k
 exact XS l j f d n (λq b=>⟨_,m,b,o⟩) c
end
section
variable {X:Cx}{pos:Pos}
def Cs (c:TT) (tb:TS):TS:=λD U H=> ∃W:Nat->St->Hp->Prop,(∃ m,W m U H)/\ ∀m U H,W m U H →
 c U H λb H1=>if b=u0 then ∃N:St->Hp->Prop,(∀ a H',N a H'-> ∃d,d<m/\W d a H')/\tb { D with nx:=N,ct:=N,bk:=D.nx } U H1 else D.nx U H1
def Cj (u:PassesOwn (model X.prog X.w) X.A X.env X.xe) (B:PT X c tc) (E:de X body tb):PS X (.While c body [] pos) (Cs tc tb):=by
 intro a s U H D I h
 obtain⟨W,⟨A,K⟩,d⟩:=h
 refine wpAny_While (codeAny_whileLoop (λn L=> ∃y t,Inv X a y t L/\W n y t) ?_ A ⟨U,H,I,K⟩)
 rintro n F ⟨i,z,C,G⟩
 refine wpAny_passesOwn u (aO (B a F i z _ C (d n i z G)) ?_)
 rintro b J ⟨w,r,k⟩
 cases b with
 | true=>
  obtain⟨N,x,k⟩:=k
  refine wpAny_passesOwn u (aO (E a J i w _ r k) λf M j=> ?_)
  cases f with
  | next=>
   obtain⟨g,e,m,q⟩:=j
   obtain⟨p,o,l⟩:=x g e q
   exact⟨p,o,g,e,m,l⟩
  | cont=>
   obtain⟨g,e,m,q⟩:=j
   obtain⟨p,o,l⟩:=x g e q
   exact⟨p,o,g,e,m,l⟩
  | brk=>exact j
  | ret v=>exact j
 | false=>
  exact wpAny_execs_nil ⟨i,w,r,k⟩
end
structure It where
 go:Nat->Hp->Prop
 eX:Nat->Hp->V->Hp->Prop
 stop:Nat->Hp->Prop
def bw (X:Cx) (a:List (Addr×Obj)) (H:Hp) (b:Addr):Prop:=
 H b=y0/\b≠X.env.locals/\b∉X.fs/\(b∈X.ex\/X.s₀.heap.objs.size<=b)/\(∀ x c,X.env.cells.lookup x=k0 c->c≠b)/\ ∀p∈X.pn++a,p.1≠b
def Inv.c7 (I:Inv X pins U H s) (a:s.heap.objs.size<=b) (f:H' b=y0):bw X pins H' b:=by
 refine⟨f,Nat.ne_of_gt (Ab4 I.lt a),I.ox a,.inr (Ab5 I.sz a),λx c e z=> ?_,λp d z=> ?_⟩
 ·obtain⟨v,q⟩:=I.cell x c e
  exact absurd (Ab4 q.lt (by simp_all)) (Ai3 _)
 ·exact absurd (Ab4 (Ac1 (I.pin p d).1) (by simp_all)) (Ai3 _)
structure hY (P:Program) (w:World) (K:Ab) (tg:Expr) (J:It) (fp:List Addr) (it:Addr) (tn:Nat->Heap->Prop):Prop where
 mem:it∈fp
 obj: ∀i h,tn i h-> ∀b∈fp,∃o,h.get? b=k0 o/\ ∀v,o.data≠ .cell v
 keep: ∀i h h',tn i h->(∀ b∈fp,∀o,h.get? b=k0 o->h'.get? b=k0 o)->tn i h'
 item: ∀(X:Cx),X.prog=P->X.w=w->X.K=K->X.calm=u0-> ∀(i:Nat) (pins:List (Addr×Obj)) (s:Shared) (U:St) (H:Hp) (E:Value->Shared->Prop),Inv X pins U H s->(∀ b∈fp,bw X pins H b)->tn i s.heap->J.go i H →
  wpAny (model P w) X.A (pyNext (.ref it)) (λr s1=> ∃u,r=k0 u ∧
   wpAny (model P w) X.A (letOwnedTupleGo tg (.ref it) u) (λ_ s2=> ∃x H',Inv X pins U H' s2/\RelV x u/\J.eX i H x H'/\tn (i+1) s2.heap/\ ∀b∈fp,H' b=y0) E s1) E s
 done: ∀(X:Cx),X.prog=P->X.w=w->X.K=K->X.calm=u0-> ∀(i:Nat) (pins:List (Addr×Obj)) (s:Shared) (U:St) (H:Hp) (E:Value->Shared->Prop),Inv X pins U H s->(∀ b∈fp,bw X pins H b)->tn i s.heap->J.stop i H →
  wpAny (model P w) X.A (pyNext (.ref it)) (λr s1=>r=y0/\Inv X pins U H s1) E s
 self: ∀(A:Around) (i:Nat) (s:Shared) (Q:Value->Shared->Prop) (E:Value->Shared->Prop),tn i s.heap->Q (.ref it) s->wpAny (model P w) A (pyIter (.ref it)) Q E s
abbrev TI:=St->Hp->(It->Hp->Prop)->Prop
def vq (X:Cx) (a:List (Addr×Obj)) (U:St) (tg:Expr) (R:It->Hp->Prop) (c:Value) (f:Shared):Prop:=
 ∃(e:Addr) (fp:List Addr) (d:Nat->Heap->Prop) (J:It) (H':Hp),c= .ref e/\Inv X a U H' f/\hY X.prog X.w X.K tg J fp e d/\d 0 f.heap/\(∀ b∈fp,bw X a H' b)/\R J H'
def PI (X:Cx) (tg a:Expr) (c:TI):Prop:=
 ∀(pins:List (Addr×Obj)) (s:Shared) (U:St) (H:Hp) (R:It->Hp->Prop),Inv X pins U H s->c U H R →
  wpAny (model X.prog X.w) X.A (eval a X.env) (λv b=>wpAny (model X.prog X.w) X.A (pyIter v) (vq X pins U tg R) X.xe b) X.xe s
def kR (d:s.heap.get? it=k0 o) (b:o.cls= .type n) (c:o.data= .fields vs)
 (e: ["enumerate", "zip", "dict_itemiterator", "dict_reverseitemiterator", "odict_iterator", "itertools.zip_longest", "itertools.pairwise"].contains n=false) (a:Q () s):wpAny M A (letOwnedTupleGo tg (.ref it) u) Q E s:=by
 cases tg<;>first
  | exact wpAny_pure a
  | (cases u<;>first
      | exact wpAny_pure a
      | (refine wpAny_bind (wpAny_load d ?_)
         rw [b,c]
         show wpAny M A (if _=u0 then _ else _) Q E s
         rw [if_neg (by lia)]
         exact wpAny_pure a))
noncomputable def iY (K:Ab) (a:Addr):It:=
 ⟨λi H=> ∃xs x,bu K H a xs/\xs[i]? =k0 x,λi H x H'=>H'=H/\ ∀xs,bu K H a xs->xs[i]? =k0 x,λi H=> ∃xs,bu K H a xs/\xs.length<=i⟩
noncomputable def i7 (K:Ab) (a:Addr):It:=
 ⟨λi H=> ∃xs x,cA K H a xs/\xs[i]? =k0 x,λi H x H'=>H'=H/\ ∀xs,cA K H a xs->xs[i]? =k0 x,λi H=> ∃xs,cA K H a xs/\xs.length<=i⟩
def mh (a:Int) (n:Nat):It:=⟨λi _=>i<n,λi H x H'=>H'=H/\x= .int (a+i),λi _=>n<=i⟩
def CN {K:Ab}(a it):hY P w K tg (iY K a) [it] it (λi h=>h.IsListIter it a i) where
 mem:=by simp
 obj:=λi h f b j=>by
  have e:=by simpa using j
  subst e
  obtain⟨o,e,c,d⟩:=f
  exact⟨o,e,λv z=>by rw [d]at z;cases z⟩
 keep:=λi h L f k=>f.at λo e=>k it (by simp) o e
 item:=by
  intro X G B D M i g s U H E I m f C
  subst G B D
  obtain⟨T,x,n,y⟩:=C
  obtain⟨q,rv,p,V⟩:=I.list n
  obtain⟨u,O,R⟩:=rv.get y
  obtain⟨r,F,S,J,t,A⟩:=m it (by simp)
  refine wpAny_pyNext_list_item f p.isList (by simpa using O) λL l N=> ?_
  have W:Inv X g U H { s with heap:=L }:=I.turned (λb o j e=>(N.2 b j).trans e) r F J t A
  obtain⟨o,e,c,d⟩:=id l
  exact⟨u,rfl,kR e c d (by decide) ⟨x,H,W,R,⟨rfl,λZ Q=>by rw [I.dF Q n];exact y⟩,l,λb j=>(m b j).1⟩⟩
 done:=by
  intro X G B D M i g s U H E I m f C
  subst G B D
  obtain⟨T,n,y⟩:=C
  obtain⟨q,rv,p,V⟩:=I.list n
  obtain⟨r,F,S,J,t,A⟩:=m it (by simp)
  have hl:=rv.length
  exact wpAny_pyNext_list_end (I.ok.hd M) f p.isList (by simp;omega) λL Y=>⟨rfl,I.turned (λb o j e=>Y b o j e) r F J t A⟩
 self:=λ_ _ _ _ _ f h=>wpAny_pyIter_listiter f h
def Bl {K:Ab}(a it):hY P w K tg (i7 K a) [it] it (λi h=>h.IsTupleIter it a i) where
 mem:=by simp
 obj:=λi h f b j=>by
  have e:=by simpa using j
  subst e
  obtain⟨o,e,c,d⟩:=f
  exact⟨o,e,λv z=>by rw [d]at z;cases z⟩
 keep:=λi h L f k=>f.at λo e=>k it (by simp) o e
 item:=by
  intro X G B D M i g s U H E I m f C
  subst G B D
  obtain⟨T,x,n,y⟩:=C
  obtain⟨q,rv,p,V⟩:=I.tuple n
  obtain⟨u,O,R⟩:=rv.get y
  obtain⟨r,F,S,J,t,A⟩:=m it (by simp)
  refine wpAny_pyNext_tuple_item f (p) (by simpa using O) λL l N=> ?_
  have W:Inv X g U H { s with heap:=L }:=I.turned (λb o j e=>(N.2 b j).trans e) r F J t A
  obtain⟨o,e,c,d⟩:=id l
  exact⟨u,rfl,kR e c d (by decide) ⟨x,H,W,R,⟨rfl,λZ Q=>by rw [I.eQ Q n];exact y⟩,l,λb j=>(m b j).1⟩⟩
 done:=by
  intro X G B D M i g s U H E I m f C
  subst G B D
  obtain⟨T,n,y⟩:=C
  obtain⟨q,rv,p,V⟩:=I.tuple n
  obtain⟨r,F,S,J,t,A⟩:=m it (by simp)
  have hl:=rv.length
  exact wpAny_pyNext_tuple_end (I.ok.hd M) f (p) (by simp;omega) λL Y=>⟨rfl,I.turned (λb o j e=>Y b o j e) r F J t A⟩
 self:=λ_ _ _ _ _ f h=>wpAny_pyIter_tupleiter f h
def FX {K:Ab}(it) (lo) (n):hY P w K tg (mh lo n) [it] it (λi h=>IsRangeIter h it (lo+(i:Nat)*1) ((n:Int)-(i:Nat)) 1) where
 mem:=by simp
 obj:=λi h a b d=>by
  have e:=by simpa using d
  subst e
  exact⟨_,a,λv z=>by
   have M:=z
   cases M⟩
 keep:=λi h x a k=>k it (by simp) _ a
 item:=by
  intro X B y A q i c s U H E I g a p
  subst B y A
  obtain⟨j,r,D,u,l,m⟩:=g it (by simp)
  have W:=Walks.range (prog:=X.prog) (w:=X.w) (I.ok.hd q) it lo 1 n
  refine W.item i s _ _ p a λv x C G f L=> ?_
  obtain⟨t,rfl⟩:=G
  have F:Inv X c U H { s with heap:=x,toks:=C }:=I.turned (λb o d e=>L b o (by simpa using d) e) j r u l m
  refine⟨_,rfl,kR f rfl rfl (by decide) ⟨.int (lo+i),H,F,⟨t,?_⟩,⟨rfl,rfl⟩,f,λb d=>(g b d).1⟩⟩
  rw [Int.mul_one]
 done:=by
  intro X B y A q i c s U H E I g a p
  obtain⟨j,r,D,u,l,m⟩:=g it (by simp)
  exact wpAny_pyNext_range_end (I.ok.hd q) a (by have:n<=i:=p;omega) λx J=>⟨rfl,I.turned (λb o d e=>J b o d e) j r u l m⟩
 self:=λ_ _ _ _ _ a h=>wpAny_pyIter_rangeiter a h
section
variable {X:Cx}{tg:Expr}
def IJ {a c:Int}(I:Inv X pins U H s) (h1: -(2 ^ 62)<=a) (f:a<2 ^ 62) (g: -(2 ^ 62)<=c) (h:c<2 ^ 62)
 (q:R (mh a (c-a).toNat) H):wpAny (model X.prog X.w) X.A (pyIter (.ref s.heap.objs.size)) (vq X pins U tg R) E { s with heap:=s.heap.push { cls:= .type "range",data:= .fields #[.int a t,.int c u,.int 1 v] },toks:=tk }:=by
 refine wpAny_pyIter_range (IsRange.new ..) (small_one h1 f g h) ?_
 have d:Inv X pins U H { s with heap:=s.heap.push { cls:= .type "range",data:= .fields #[.int a t,.int c u,.int 1 v] },toks:=tk }:=I.kept fun b o e=>Heap.get?_push_of_some _ e
 refine⟨(s.heap.push { cls:= .type "range",data:= .fields #[.int a t,.int c u,.int 1 v] }).objs.size,[(s.heap.push { cls:= .type "range",data:= .fields #[.int a t,.int c u,.int 1 v] }).objs.size],_,_,H,rfl,
  d.kept λb o e=>Ab3 _ e,FX _ a (c-a).toNat,?_,λb i=> ?_,q⟩
 ·have e1:a+ (0:Nat)*1=a:=by simp
  have e2: (c-a).toNat- (0:Nat)=Builtin.Range.rangeSize a c 1:=by rw [rangeSize_one];split<;>lia
  rw [e1,e2]
  exact Ac4 _ rfl
 ·have e:b=(s.heap.push { cls:= .type "range",data:= .fields #[.int a t,.int c u,.int 1 v] }).objs.size:=by simpa using i
  subst e
  exact d.c7 (Aa9 _) (d.bc.fresh (Aa9 _))
def Lq (b:TA):TI:=λU H R=>b U H λa H1=> ∃j:Int,a= [.int j]/\ -(2 ^ 62)<=j/\j<2 ^ 62/\R (mh 0 j.toNat) H1
def BI (f:Gl X "range") (k:X.mg "range" =none) (l:PA X [a] ta) (g:starEach [a] X.env= [(false,eval a X.env)]:=by rfl):PI X tg (.Call (.Name "range" p) [a] [] pos) (Lq ta):=by
 intro b s U H R I h
 refine Call_ (zE I f k boot_range (PyProof.Rows.callWith_type1 (aO (l pos b s U H _ I h) λo w ⟨u,v,i,m,c⟩=> ?_) g rfl))
 obtain⟨j,e,c,n,q⟩:=c
 subst e
 cases m with
 | cons r d=>
  cases d
  obtain⟨t,rfl⟩:=r
  exact call_range_1 (IJ i (by lia) (by lia) c n (by simp_all))
def IV (d:TI) (g:TG) (tb:TS):TS:=λD U H=>d U H λJ H1=> ∃W:Nat->Nat->St->Hp->Prop,(∃ m,W 0 m U H1)/\ ∀i m U H,W i m U H →
 (J.stop i H/\D.nx U H)\/(J.go i H/\ ∃N:St->Hp->Prop,(∀ a H',N a H'-> ∃b,b<m/\W (i+1) b a H')/\ ∀x H',J.eX i H x H'->g x U H' λc H2=>tb { D with nx:=N,ct:=N,bk:=D.nx } c H2)
def JN (a:List Addr) (h:Heap):List (Addr×Obj):=a.filterMap λb=>(h.get? b).map λo=>(b,o)
def zg (a:b∈fp) (e:h.get? b=k0 o):(b,o)∈JN fp h:=List.mem_filterMap.mpr ⟨b,a,by rw [e];rfl⟩
def WY (d:p∈JN fp h):p.1∈fp/\h.get? p.1=k0 p.2:=by
 obtain⟨b,c,e⟩:=List.mem_filterMap.mp d
 cases q:h.get? b with
 | none=>rw [q]at e;cases e
 | some o=>
  rw [q]at e
  have a:=Ad5.inj e
  subst a
  exact⟨c,q⟩
def Inv.pinned (I:Inv X pins U H s) (h: ∀b∈fp,bw X pins H b) (i: ∀b∈fp,∃o,s.heap.get? b=k0 o/\ ∀v,o.data≠ .cell v):Inv X (pins++JN fp s.heap) U H s:=
 I.bO λp g=>(Ac8.mp g).elim (λz=>I.pin p (Ab0 _ z)) λz=>by
  obtain⟨a,e⟩:=WY z
  obtain⟨f,j,k,_⟩:=h p.1 a
  obtain⟨o,c,d⟩:=i p.1 a
  rw [e]at c;cases c
  exact⟨e,f,j,k,d⟩
def Inv.bJ (I:Inv X (pins++pl) U H s):Inv X pins U H s:=I.bO λp a=>I.pin p (Ab0 _ (Ad0 _ a))
def DV (z:PassesOwn (model X.prog X.w) X.A X.env X.xe) (hc:X.calm=u0) (hi:PI X tg iter wi) (hg:PG X tg g) (p:de X body tb)
 (hs: ∀x,foldedSetIterable iter X.env x=pure x:=by intro _;rfl):PS X (.For tg iter body [] pos) (IV wi g tb):=by
 intro a s U H D I h
 refine wpAny_For (aO (hi a s U H _ I h) λv s1 h1=>aO h1 λitv s2 h2=> ?_) hs
 obtain⟨it,K,tn,J,H2,e,I2,T,M,Z,W,⟨m0,w0⟩,F⟩:=h2
 subst e
 have l: ∀ {t},(∀ b∈K,t b=y0)-> ∀b∈K,bw X a t b:=λhn b p=>⟨hn b p,(Z b p).2⟩
 refine codeAny_forLoop_any (λn Y=> ∃i B t,Inv X a B t Y/\tn i Y.heap/\(∀ b∈K,t b=y0)/\W i n B t) ?_ m0 ⟨0,U,H2,I2,M,λb p=>(Z b p).1,w0⟩
 rintro n s3 ⟨i,G,L,S,A,E,w3⟩
 obtain⟨stop,qn⟩ | ⟨go,N,hN,step⟩:=F i n G L w3
 ·refine wpAny_passesOwn z (aO (T.done X rfl rfl rfl hc i a s3 G L X.xe S (l E) A stop) ?_)
  rintro r s4 ⟨R,I4⟩
  subst R
  exact wpAny_execs_nil ⟨G,L,I4,qn⟩
 ·refine wpAny_passesOwn z (aO (T.item X rfl rfl rfl hc i a s3 G L X.xe S (l E) A go) ?_)
  rintro r s4 ⟨u,R,h4⟩
  subst R
  refine wpAny_passesOwn z (aO h4 ?_)
  rintro _ s5 ⟨x,V,I5,r5,y5,y,O⟩
  have P:=I5.pinned (l O) (T.obj _ _ y)
  refine wpAny_passesOwn z (aO (hg _ s5 G V x u _ P r5 (step x V y5)) ?_)
  rintro _ s6 ⟨U6,H6,I6,q6⟩
  refine wpAny_passesOwn z (aO (p _ s6 U6 H6 _ I6 q6) λf Q w=> ?_)
  have q: ∀ {k}{j},Inv X _ k j Q->N k j-> ∃m,m<n/\ ∃i B t,Inv X a B t Q/\tn i Q.heap/\(∀ b∈K,t b=y0)/\W i m B t:=λ{k j} c C=>by
   obtain⟨m',hm,w7⟩:=hN k j C
   refine⟨m',hm,i+1,k,j,c.bJ,T.keep _ _ _ y λb p o e=>(c.pin _ (Ab0 _ (Ab0 _ (zg p e)))).1,λb p=> ?_,w7⟩
   obtain⟨o,e,d⟩:=T.obj _ _ y b p
   exact(c.pin _ (Ab0 _ (Ab0 _ (zg p e)))).2.1
  cases f with
  | next=>obtain⟨k,j,c,C⟩:=w;exact q c C
  | cont=>obtain⟨k,j,c,C⟩:=w;exact q c C
  | brk=>obtain⟨k,j,c,w⟩:=w;exact⟨k,j,c.bJ,w⟩
  | ret v=>obtain⟨x7,k,j,c,r7,w⟩:=w;exact⟨x7,k,j,c.bJ,r7,w⟩
end
abbrev R2:=V->V->Hp->VK->Prop
def bH (X:Cx) (f:Value->Value->Sem Value) (r:R2):Prop:=
 ∀(pins:List (Addr×Obj)) (s:Shared) (U:St) (H:Hp) (x y:V) (v u:Value) (Q:VK),Inv X pins U H s->RelV x v->RelV y u->r x y H Q →
  wpAny (model X.prog X.w) X.A (f v u) (EP X pins U Q) X.xe s
def mU (X:Cx) (f:Value->Sem Value) (r:V->Hp->VK->Prop):Prop:=
 ∀(pins:List (Addr×Obj)) (s:Shared) (U:St) (H:Hp) (x:V) (v:Value) (Q:VK),Inv X pins U H s->RelV x v->r x H Q →
  wpAny (model X.prog X.w) X.A (f v) (EP X pins U Q) X.xe s
def zu (X:Cx) (f:Value) (r:List V->Hp->VK->Prop):Prop:=
 ∀(pins:List (Addr×Obj)) (s:Shared) (U:St) (H:Hp) (xs:List V) (a:List Value) (Q:VK),Inv X pins U H s->Vals xs a->r xs H Q →
  wpAny (model X.prog X.w) X.A (call f a) (EP X pins U Q) X.xe s
def LI (X:Cx) (r:V->Hp->(Bool->Hp->Prop)->Prop):Prop:=
 ∀(pins:List (Addr×Obj)) (s:Shared) (U:St) (H:Hp) (x:V) (v:Value) (Q:Bool->Hp->Prop),Inv X pins U H s->RelV x v->r x H Q →
  wpAny (model X.prog X.w) X.A (truthy v) (TP X pins U Q) X.xe s
def ly (r:R2) (a tb:TE):TE:=λU H Q=>a U H λx H1=>tb U H1 λy H2=>r x y H2 Q
def AG (r:V->Hp->VK->Prop) (a:TE):TE:=λU H Q=>a U H λx H1=>r x H1 Q
def rI (C:Int->Int->Prop) (g:Int->Int->V):R2:=λx y H Q=> ∃i j,x= .int i/\y= .int j/\C i j/\Q (g i j) H
def fg (g:Int->Int->V):R2:=λx y H Q=> ∃i j,x= .int i/\y= .int j/\Q (g i j) H
def rU (g:Int->V):V->Hp->VK->Prop:=λx H Q=> ∃i,x= .int i/\Q (g i) H
section
variable {X:Cx}{a b c:Expr}{ta tb tc:TE}{pos:Pos}
def oy (l:PE X a ta) (k:PE X b tb){R:V->V->Hp->Prop}(I:Inv X pins U H s)
 (h:ta U H λx H1=>tb U H1 λy H2=>R x y H2){f:Value->Value->Sem Value}
 (d: ∀v u L x y H2,Inv X pins U H2 L->RelV x v->RelV y u->R x y H2->wpAny (model X.prog X.w) X.A (f v u) Q X.xe L):
 wpAny (model X.prog X.w) X.A (eval a X.env) (λv j=>wpAny (model X.prog X.w) X.A (eval b X.env) (λu i=>wpAny (model X.prog X.w) X.A (f v u) Q X.xe i) X.xe j) X.xe s:=by
 refine aO (l pins s U H _ I h) ?_
 rintro v g ⟨x,H1,e,m,p⟩
 refine aO (k pins g U H1 _ e p) ?_
 rintro u L ⟨y,H2,c,n,o⟩
 exact d v u L x y H2 c m n o
def DM (j:bH X (binaryOp op) r) (i:PE X a ta) (g:PE X b tb):PE X (.BinOp a op b pos) (ly r ta tb):=by
 intro c s U H Q I h
 exact wpAny_BinOp (oy i g I h λv u l x y f d k e q=>j c l U f x y v u Q d k e q)
def rY (g:mU X (unaryOp op) r) (f:PE X a ta):PE X (.UnaryOp op a pos) (AG r ta):=by
 intro b s U H Q I h
 exact UnaryOp_ (aO (f b s U H _ I h) λv e ⟨x,d,j,i,c⟩=>g b e U d x v Q j i c)
def kc {g:Int->Int->Int}
 (a: ∀ i j t u s Q E,C i j->Q (.int (g i j) s.toks) { s with toks:=s.toks+1 }->wpAny (model X.prog X.w) X.A (f (.int i t) (.int j u)) Q E s):
 bH X f (rI C λi j=> .int (g i j)):=by
 intro b s U H x y v u Q I k c h
 obtain⟨i,j,rfl,rfl,e,q⟩:=h
 obtain⟨t,rfl⟩:=k
 obtain⟨d,rfl⟩:=c
 exact a i j t d s _ _ e ⟨.int _,H,I.tok _,⟨_,rfl⟩,q⟩
def lh {g:Int->Int->Int}
 (a: ∀ i j t u s Q E,Q (.int (g i j) s.toks) { s with toks:=s.toks+1 }->wpAny (model X.prog X.w) X.A (f (.int i t) (.int j u)) Q E s):
 bH X f (fg λi j=> .int (g i j)):=by
 intro b s U H x y v u Q I e c h
 obtain⟨i,j,rfl,rfl,q⟩:=h
 obtain⟨t,rfl⟩:=e
 obtain⟨d,rfl⟩:=c
 exact a i j t d s _ _ ⟨.int _,H,I.tok _,⟨_,rfl⟩,q⟩
def mw {g:Int->Int->Bool}
 (a: ∀ i j t u s Q E,Q (.bool (g i j)) s->wpAny (model X.prog X.w) X.A (f (.int i t) (.int j u)) Q E s):
 bH X f (fg λi j=> .bl (g i j)):=by
 intro b s U H x y v u Q I e c h
 obtain⟨i,j,rfl,rfl,q⟩:=h
 obtain⟨t,rfl⟩:=e
 obtain⟨d,rfl⟩:=c
 exact a i j t d s _ _ ⟨.bl _,H,I,rfl,q⟩
def uL (i j:Int):Prop:=0<j/\j<1073741824
def uV (i j:Int):Prop:=0<=j/\j<=1000000/\i.natAbs<2 ^ 64
def ie (i j:Int):Prop:=(-(2 ^ 64)<i/\i<2 ^ 64)\/(-(2 ^ 64)<j/\j<2 ^ 64)
def ie.ok (h:ie i j):IntMulOk i j:=by
 obtain⟨b,a⟩ | ⟨b,a⟩:=h
 ·exact .of_left (intBits_le_64 b a)
 ·exact .of_right (intBits_le_64 b a)
def Lp (k):(0:Int)<=2 ^ k:=by
 exact Ao4 _
def FU:bH X (binaryOp .Add) (fg λi j=> .int (i+j)):=lh λ_ _ _ _ _ _ _ q=>add_int q
def Dw:bH X (binaryOp .Sub) (fg λi j=> .int (i-j)):=lh λ_ _ _ _ _ _ _ q=>sub_int q
def yC:bH X (binaryOp .Mult) (rI ie λi j=> .int (i*j)):=kc λ_ _ _ _ _ _ _ a q=>mul_int q a.ok
def Cy:bH X (binaryOp .FloorDiv) (rI uL λi j=> .int (i / j)):=kc λi j _ _ _ _ _ a q=>by
 have b:=a.1
 have c:=a.2
 exact floordiv_int (by lia) (by rw [Al7 i (by lia)];exact q) (.inl (PyProof.noPylong_small (by lia)))
def Bu:bH X (binaryOp .Mod) (rI (λ_ j=>0<j) λi j=> .int (i % j)):=kc λi j _ _ _ _ _ a q=>by
 have b:=a
 exact mod_int' (by lia) (by rw [Int.fmod_eq_emod_of_nonneg i (by lia)];exact q)
def AL:bH X (binaryOp .Pow) (rI uV λi j=> .int (i ^ j.toNat)):=kc λ_ _ _ _ _ _ _ a q=>pow_int_small a.1 a.2.1 a.2.2 q
def LO:bH X (binaryOp .LShift) (rI uV λi j=> .int (i*2 ^ j.toNat)):=kc λ_ _ _ _ _ _ _ a q=>lshift_int_small a.1 a.2.1 a.2.2 q
def BD:bH X (binaryOp .RShift) (rI (λ_ j=>0<=j) λi j=> .int (i / 2 ^ j.toNat)):=kc λi j _ _ _ _ _ a q=>
 rshift_int a (by rw [Al7 i (Lp _)];exact q)
def Mh:bH X (binaryOp .BitAnd) (fg λi j=> .int (Builtin.bitAnd i j)):=lh λ_ _ _ _ _ _ _ q=>and_int q
def Fp:bH X (binaryOp .BitOr) (fg λi j=> .int (Builtin.bitOr i j)):=lh λ_ _ _ _ _ _ _ q=>or_int q
def Au:bH X (binaryOp .BitXor) (fg λi j=> .int (Builtin.bitXor i j)):=lh λ_ _ _ _ _ _ _ q=>xor_int q
def uu {g:Int->Int}
 (a: ∀ i t s Q E,Q (.int (g i) s.toks) { s with toks:=s.toks+1 }->wpAny (model X.prog X.w) X.A (f (.int i t)) Q E s):
 mU X f (rU λi=> .int (g i)):=by
 intro b s U H x v Q I c h
 obtain⟨i,rfl,q⟩:=h
 obtain⟨t,rfl⟩:=c
 exact a i t s _ _ ⟨.int _,H,I.tok _,⟨_,rfl⟩,q⟩
def FE:mU X (unaryOp .USub) (rU λi=> .int (-i)):=uu λ_ _ _ _ _ q=>neg_int q
def Bj:mU X (unaryOp .Invert) (rU λi=> .int (Builtin.bitNot i)):=uu λ_ _ _ _ _ q=>invert_int q
end
section
variable {X:Cx}{a b c:Expr}{ta tb tc:TE}{pos:Pos}
def XH (I:Inv X pins U H s) (q:Q (.bl k) H) (e:k=k'):EP X pins U Q (.bool k') s:=by
 subst e
 exact⟨.bl k,H,I,rfl,q⟩
def Hu:bH X (compareOp .Lt) (fg λi j=> .bl (y9 (i<j))):=mw λ_ _ _ _ _ _ _ q=>lt_int q
def KI:bH X (compareOp .LtE) (fg λi j=> .bl (y9 (i<=j))):=mw λ_ _ _ _ _ _ _ q=>le_int q
def yU:bH X (compareOp .Gt) (fg λi j=> .bl (y9 (j<i))):=mw λ_ _ _ _ _ _ _ q=>gt_int q
def DE:bH X (compareOp .GtE) (fg λi j=> .bl (y9 (j<=i))):=mw λ_ _ _ _ _ _ _ q=>ge_int q
def HE:bH X (compareOp .Lt) (λx y H Q=> ∃i j,x= .str i/\y= .str j/\Q (.bl (y9 (i.cps.toList<j.cps.toList))) H):=by
 intro a s U H x y v u Q I c b h
 obtain⟨i,j,rfl,rfl,q⟩:=h
 obtain⟨t,rfl⟩:=c
 obtain⟨d,rfl⟩:=b
 exact lt_str (XH I q rfl)
def Lh:bH X (compareOp .In) (λx y H Q=> ∃i j,x= .str i/\y= .str j/\Q (.bl (!(Builtin.Str.occurrences j i 0 j.length 1).isEmpty)) H):=by
 intro a s U H x y v u Q I c b h
 obtain⟨i,j,rfl,rfl,q⟩:=h
 obtain⟨t,rfl⟩:=c
 obtain⟨d,rfl⟩:=b
 exact in_str (XH I q rfl)
def sx (k:bH X (compareOp op) r) (j:PE X a ta) (i:PE X b tb) (g:behindInMarks op b=k9):PE X (.Compare a [op] [b] pos) (ly r ta tb):=by
 intro c s U H Q I h
 exact wpAny_Compare1 (oy j i I h λv u m x y f d l e q=>k c m U f x y v u Q d l e q) g
def pT (t:TE):TT:=λU H Q=>t U H λx H'=> ∃k,x= .bl k/\Q k H'
def uJ (w:bH X (compareOp op) r) (t:PE X a ta) (A:PE X b tb) (m:behindInMarks op b=k9):PT X (.Compare a [op] [b] pos) (pT (ly r ta tb)):=by
 intro d s U H Q I h
 refine wpAny_isTrue_Compare1 (aO (t d s U H _ I h) λv o ⟨x,n,l,B,E⟩=>aO (A d o U n _ l E) λu F ⟨y,i,f,C,D⟩=>
  aO (w d F U i x y v u _ f B C D) λc G ⟨z,p,j,g,k,e,q⟩=> ?_) m
 subst e
 cases g
 exact wpAny_truthy_bool ⟨p,j,q⟩
def ng (r r':R2) (b tb d:TE):TE:=λU H Q=>b U H λx H1=>tb U H1 λy H2=>r x y H2 λz a=> ∃k,z= .bl k ∧
 (if k=u0 then d U a λc e=>r' y c e Q else Q (.bl k9) a)
def Fw (F:bH X (compareOp op) r) (g:bH X (compareOp op') r') (D:PE X a ta) (E:PE X b tb) (q:PE X c tc)
 (A:lastMarks [op,op'] [b,c]=false:=by with_unfolding_all rfl):PE X (.Compare a [op,op'] [b,c] pos) (ng r r' ta tb tc):=by
 intro f s U H Q I h
 refine Compare_chain (aO (D f s U H _ I h) λv C ⟨x,B,t,G,P⟩=>chain_link (aO (E f C U B _ t P) λu R ⟨y,p,n,m,O⟩=>
  aO (F f R U p x y v u _ n G m O) λd M ⟨z,j,i,o,k,e,l⟩=> ?_)) A
 subst e
 cases o
 refine wpAny_truthy_bool ?_
 cases k with
 | false=>exact ite_ff ⟨.bl k9,j,i,rfl,l⟩
 | true=>exact ite_tt (chain_last (aO (q f M U j _ i l) λN S ⟨K,w,L,T,J⟩=>g f S U w y K u N Q L m T J))
def HD (J:bH X (compareOp op) r) (g:bH X (compareOp op') r') (F:PE X a ta) (G:PE X b tb) (t:PE X c tc)
 (B:lastMarks [op,op'] [b,c]=false:=by with_unfolding_all rfl):PT X (.Compare a [op,op'] [b,c] pos) (pT (ng r r' ta tb tc)):=by
 intro f s U H Q I h
 refine isTrue_chain (aO (F f s U H _ I h) λv E ⟨x,D,w,L,Y⟩=>test_link (aO (G f E U D _ w Y) λu Z ⟨y,q,n,m,W⟩=>
  aO (J f Z U q x y v u _ n L m W) λd T ⟨z,j,i,o,k,e,l⟩=> ?_)) B
 subst e
 cases o
 refine wpAny_truthy_bool ?_
 cases k with
 | false=>
  obtain⟨k',P,K⟩:=l
  cases P
  exact ite_ff ⟨j,i,K⟩
 | true=>
  refine ite_tt (test_last (aO (t f T U j _ i l) λV s4 ⟨R,A,S,r4,O⟩=>aO (g f s4 U A y R u V _ S m r4 O) ?_))
  rintro d' s5 ⟨z2,M,C,N,k2,e2,p⟩
  subst e2
  cases N
  exact wpAny_truthy_bool ⟨M,C,p⟩
def ia (K:Ab) (x:V) (H:Hp) (k:Bool):Prop:=
 match x with
 | .aj=>k=k9
 | .bl b=>k=b
 | .int i=>k=(i != 0)
 | .str y=>y.length<=sizeLine/\k=((y.length:Int) != 0)
 | .iH y=>y.size<=sizeLine/\k=((y.size:Int) != 0)
 | .ref p=>(∃ xs,bu K H p xs/\k= !xs.isEmpty)\/(∃ xs,cA K H p xs/\k= !xs.isEmpty)\/ ∃kvs,H p=k0 (.dK kvs)/\k= !kvs.isEmpty
 | _=>False
def DR (r:KV kvs vs):(!vs.isEmpty)= !kvs.isEmpty:=by
 cases r<;>rfl
def zP (r:Vals xs its):(!its.toArray.isEmpty)= !xs.isEmpty:=by
 cases r<;>simp
def ZL:(sizeLine:Nat)<2 ^ 63:=by rw [sizeLine_eq];decide
def l6:LI X (λx H Q=> ∃k,ia X.K x H k/\Q k H):=by
 intro n s U H x v Q I d h
 obtain⟨k,e,q⟩:=h
 have B:=ZL
 have A:=sizeLine_eq
 cases x with
 | aj=>
  cases d
  have a:=e
  subst a
  exact truthy_none ⟨H,I,q⟩
 | bl b=>
  cases d
  have a:=e
  subst a
  exact wpAny_truthy_bool ⟨H,I,q⟩
 | int i=>
  obtain⟨t,rfl⟩:=d
  have a:=e
  subst a
  exact PySem.P.truthy_int ⟨H,I,q⟩
 | str y=>
  obtain⟨t,rfl⟩:=d
  obtain⟨u,a⟩:y.length<=sizeLine/\k=(_ != 0):=e
  subst a
  exact PySem.P.truthy_str (by omega) ⟨H,I.tok _,q⟩
 | iH y=>
  obtain⟨t,rfl⟩:=d
  obtain⟨u,a⟩:y.size<=sizeLine/\k=(_ != 0):=e
  subst a
  exact PySem.W.truthy_bytes (by omega) ⟨H,I.tok _,q⟩
 | ref p=>
  cases d
  have a:=e
  rcases a with⟨w,f,a⟩ | ⟨w,f,a⟩ | ⟨g,f,a⟩
  ·subst a
   obtain⟨j,r,pl,o⟩:=I.list f
   have c:=r.length
   exact wpAny_truthy_list pl.isList (by simp only [Ac0];omega) ⟨H,I.tok _,by rw [zP r];exact q⟩
  ·subst a
   obtain⟨j,r,pl,o⟩:=I.tuple f
   have c:=r.length
   exact truthy_tuple pl (by simp only [Ac0];omega) ⟨H,I.tok _,by rw [zP r];exact q⟩
  ·subst a
   obtain⟨o,z,l,r,m⟩:g.length<=sizeLine/\(p==sysModules)=k9/\ ∃l,KV g l/\s.heap.DictOf _ p l:=I.bc p _ f
   have c:=Paired.length r
   exact wpAny_truthy_dict z m (by omega) ⟨H,I.tok _,by rw [DR r];exact q⟩
 | _=>exact(e).elim
def DF (g:PE X a ta) (c: ∀i,isTrue a X.env i=(do let v ←i;standAt a.pos;holding [v] (truthy v))):
 PT X a (λU H Q=>ta U H λx H'=> ∃k,ia X.K x H' k/\Q k H'):=by
 intro b s U H Q I h
 exact isTrue_plain (aO (g b s U H _ I h) λv f ⟨x,e,d,j,l⟩=>l6 b f U e x v Q d j l) (c _)
def IC:bH X (binaryOp .Add) (λx y H Q=> ∃i j,x= .str i/\y= .str j/\i.length+j.length<=sizeLine/\Q (.str (i++j)) H):=by
 intro a s U H x y v u Q I e b h
 obtain⟨i,j,rfl,rfl,d,q⟩:=h
 obtain⟨t,rfl⟩:=e
 obtain⟨c,rfl⟩:=b
 exact add_str (λc f=>⟨.str _,H,I.tok _,⟨_,rfl⟩,q⟩) d
def XL (r:Vals [x] us): ∃u,us= [u]/\RelV x u:=by
 cases r with
 | cons b a=>cases a;exact⟨_,rfl,b⟩
def sL (r:Vals [x,y] us): ∃u i,us= [u,i]/\RelV x u/\RelV y i:=by
 cases r with
 | cons b a=>
  cases a with
  | cons c d=>cases d;exact⟨_,_,rfl,b,c⟩
def Q0:zu X (.type "int") (fun xs H Q=>(∃ i,xs= [.int i]/\Q (.int i) H)\/ ∃k,xs= [.bl k]/\Q (.int (if k then 1 else 0)) H):=by
 intro a s U H xs c Q I r h
 obtain⟨i,rfl,q⟩ | ⟨k,rfl,q⟩:=h
 ·obtain⟨u,rfl,t,rfl⟩:=XL r
  exact call_int_int ⟨.int i,H,I,⟨_,rfl⟩,q⟩
 ·obtain⟨u,rfl,b⟩:=XL r
  cases b
  exact call_int_bool ⟨.int _,H,I.tok _,⟨_,rfl⟩,q⟩
def W4:zu X (.builtin "divmod") (fun xs H Q=> ∃i j,xs= [.int i,.int j]/\uL i j/\ ∀p,H p=none->Q (.ref p) (aL H p (.tup [.int (i / j),.int (i % j)]))):=by
 intro a s U H xs d Q I r h
 obtain⟨i,j,rfl,⟨f,k⟩,q⟩:=h
 obtain⟨u,l,rfl,⟨t,rfl⟩,⟨g,rfl⟩⟩:=sL r
 refine divmod_int (by lia) ?_ (.inl (PyProof.noPylong_small (by lia)))
 rw [Al7 i (by lia),Int.fmod_eq_emod_of_nonneg i (by lia)]
 have c:=I.bc.fresh (Aa9 _)
 refine⟨.ref s.heap.objs.size,_,?_,rfl,q _ c⟩
 refine I.laid (λb o e=>Ab3 _ e) (Aa9 _) ⟨by simp only [Aa6,Ae];decide,[.int _ s.toks,.int _ (s.toks+1)],.cons ⟨_,rfl⟩ (.cons ⟨_,rfl⟩ .nil),?_⟩
 exact⟨_,Ac4 s.heap rfl,rfl,rfl,0,rfl⟩
end
structure ej (h:Heap) (x dx C:Addr) (mA:Str->Option Value):Prop where
 obj:h.get? x=k0 (Ak C dx)
 ns:h.Ns1 dx mA
 ne:dx≠x
def DU {h:Heap}(n:h.Ns1 dx mA): ∃i,h.get? dx=k0 i/\ ∀name,Am9 name i=k0 (mA name):=by
 obtain⟨o,c,m,l,j,g,_,k⟩:=n
 refine⟨o,l,λname=> ?_⟩
 have e:=k name
 unfold nsFind findBy at e
 rw [← Array.find?_toList]at e
 unfold Am9
 rw [j]
 dsimp only
 split
 ·rename_i y q
  rw [q]at e
  exact congrArg k0 e
 ·rename_i q
  rw [q]at e
  have a:c.toList.any (·.refKey)=false:=by
   rw [Aj4]
   intro y d
   obtain⟨z,t,b⟩:=g y (Array.mem_toList_iff.mp d)
   simp [DictEntry.refKey,b]
  have f: ¬c.toList.any (·.refKey)=true:=by rw [a];exact Ab2
  rw [if_neg f]
  exact congrArg k0 e
def ej.look (I:ej h x dx C mA): ∃i,PySem.W.InstAt h x (Ak C dx) C (k0 i)/\ ∀name,Am9 name i=k0 (mA name):=
 let ⟨i,a,b⟩:=DU I.ns
 ⟨i,⟨I.obj,rfl,rfl,a⟩,b⟩
section
variable {prog:Program}{w:World}{A:Around}{E:Value->Shared->Prop}{s:Shared}{K:Ab}{x dx C f:Addr}{mA:Str->Option Value}{name:Str}{v:Value}
def F6 (X:K.In s.heap) (I:ej s.heap x dx C mA) (b:Am2 K C name=u0) (d:PySem.W.hasDictIn K C=u0)
 (c:Ak5 K (.ref C) name=k0 y0) (e:mA name=k0 v) (a:PySem.W.handedIn v=u0) (h:Q v { s with toks:=s.toks+1 }):
 wpAny (model prog w) A (getAttr (.ref x) name expr) Q E s:=by
 obtain⟨g,J,f⟩:=I.look
 exact PySem.W.get_value X J (An2 b).1 (PySem.W.findObj_own d c rfl (by rw [f,e])) a h
def IX (X:K.In s.heap) (I:ej s.heap x dx C mA) (a:Am2 K C name=u0)
 (c:Ak5 K (.ref C) name=k0 (k0 (.ref f))) (b:PySem.W.isFn K (.ref f)=u0) (e:mA name=y0) (h:Q (.ref f,[.ref x]) s):
 wpAny (model prog w) A (getMethod (.ref x) name pl) Q E s:=by
 obtain⟨g,J,d⟩:=I.look
 exact PySem.W.method_fn X J (An2 a).1 (An2 a).2 c (beq_iff_eq.mp b) (by show(Am9 name g).map _=k0 k9;rw [d,e];rfl) h
def Hw (X:K.In s.heap) (I:ej s.heap x dx C mA)
 (o:PySem.W.findIn K (.ref C) "__setattr__" =some (some (.builtin "object.__setattr__"))) (i:PySem.W.plainOver K C=true) (r:PySem.W.takerIn K C name=some none) (j:PySem.W.hasDictIn K C=true)
 (m:PySem.Within mA ns) (q:ns.length<=sizeLine)
 (h: ∀h',ej h' x dx C (λy=>if y=name then k0 v else mA y)->Al8 dx s.heap h'->Q () { s with heap:=h',toks:=s.toks+2 }):
 wpAny (model prog w) A (setAttr (.ref x) name v) Q E s:=by
 obtain⟨z,J,u⟩:=I.look
 refine PySem.W.set_plain X J o (PySem.W.osa_open X J i r λb=> ?_)
 obtain⟨cd,n,d⟩:=PySem.W.any_some j
 have l:=I.obj
 refine wpAny_bind (wpAny_pure (wpAny_bind (wpAny_bind (wpAny_loadPart l (wpAny_bind (PySem.W.Looks.here (PySem.W.looks_clsIn X n) ?_))))))
 rw [d]
 refine wpAny_pure (wpAny_bind (wpAny_pure (wpAny_bind ?_)))
 refine wpAny_nsSet1 I.ns λh' a c=> ?_
 obtain⟨t,p,k,g,e,f⟩:=a.count (PySem.Within.cons name v m)
 refine wpAny_bind (wpAny_lookBehind g (by rw [e];exact pastItsLine_dict (Ab5 f (by simp_all))) ?_)
 exact wpAny_pure (h _ ⟨(c.2 _ (Ne.symm I.ne)).trans I.obj,a,I.ne⟩ c)
def Cb (X:K.In s.heap) (b:PySem.W.makesIn K C=u0)
 (e:PySem.W.findIn K (.ref C) "__init__" =some (some (.ref f))) (c:PySem.W.typeIn K (.ref f)=some (.type "function"))
 (h:codeAny (model prog w) (A.under (.builtin "type.__call__" ⟨.ref C::vs,kw⟩)) (.call (.ref f) ⟨.ref (s.heap.objs.size+1)::vs,kw⟩) (PySem.W.InitBack (s.heap.objs.size+1) R)
   { s with heap:=(s.heap.push Ah8).push (Ak C s.heap.objs.size) }):
 codeAny (model prog w) A (.call (.ref C) ⟨vs,kw⟩) R s:=by
 obtain⟨j,g,d,t,i⟩:=s
 exact PySem.W.make_core (PySem.W.makes_of X b) (PySem.W.looks_findIn X e) (λa=>PySem.W.bind_fn X a c) (.inl rfl) h
end
noncomputable def aU (f:Str) (v:V):List (Str×V)->List (Str×V)
 | []=> [(f,v)]
 | (g,x)::r=>if g=f then(g,v)::r else(g,x)::aU f v r
theorem qH (f g) (v): ∀fs:List (Str×V),(aU f v fs).lookup g=if g=f then k0 v else fs.lookup g
 | []=>by
  show Aj g [(f,v)]=_
  by_cases h:g=f
  ·have a:=beq_iff_eq.mpr h
   simp only [Aj,a,if_pos h]
  ·have a:=beq_eq_false_iff_ne.mpr h
   simp only [Aj,a,if_neg h]
 | (k,x)::r=>by
  have c:=qH f g v r
  rw [show aU f v ((k,x)::r)=(if k=f then(k,v)::r else(k,x)::aU f v r)from rfl]
  by_cases b:k=f
  ·rw [if_pos b]
   by_cases h:g=k
   ·have a:=beq_iff_eq.mpr h
    simp only [Aj,a,if_pos (h.trans b)]
   ·have a:=beq_eq_false_iff_ne.mpr h
    simp only [Aj,a,if_neg (λe:g=f=>h (e.trans b.symm))]
  ·rw [if_neg b]
   by_cases h:g=k
   ·have a:=beq_iff_eq.mpr h
    simp only [Aj,a,if_neg (λe:g=f=>b (h.symm.trans e))]
   ·have a:=beq_eq_false_iff_ne.mpr h
    simp only [Aj,a]
    exact c
theorem xI (f) (v): ∀fs:List (Str×V),f∈(aU f v fs).map (·.1)/\ ∀g,g∈fs.map (·.1)->g∈(aU f v fs).map (·.1)
 | []=>⟨by simp [aU],λg h=>by simp at h⟩
 | (k,x)::r=>by
  obtain⟨i1,i2⟩:=xI f v r
  rw [show aU f v ((k,x)::r)=(if k=f then(k,v)::r else(k,x)::aU f v r)from rfl]
  by_cases a:k=f
  ·rw [if_pos a]
   subst a
   exact⟨by simp,λg h=>by simpa using h⟩
  ·rw [if_neg a]
   refine⟨?_,λg h=> ?_⟩
   ·rw [Ab1]
    exact Aa2 _ i1
   ·rw [Ab1]at h ⊢
    rcases Ac.mp h with e | e
    ·exact Ac.mpr (.inl e)
    ·exact Aa2 _ (i2 g e)
theorem qJ (f) (v): ∀fs:List (Str×V),(aU f v fs).length<=fs.length+1
 | []=>by simp [aU]
 | (k,x)::r=>by
  have b:=qJ f v r
  rw [show aU f v ((k,x)::r)=(if k=f then(k,v)::r else(k,x)::aU f v r)from rfl]
  by_cases a:k=f
  ·rw [if_pos a,Aa6,Aa6];omega
  ·rw [if_neg a,Aa6,Aa6];omega
def cq.some_of (r:cq (k0 v) o): ∃u,o=k0 u/\RelV v u:=by
 cases o with
 | none=>exact(r).elim
 | some u=>exact⟨u,rfl,r⟩
def cq.none_of (r:cq y0 o):o=none:=by
 cases o with
 | none=>rfl
 | some u=>exact(r).elim
def Ir (r:RelV v u):PySem.W.handedIn u=true:=by
 cases v with
 | aj=>cases (r);rfl
 | bl b=>cases (r);rfl
 | int i=>obtain⟨t,e⟩:=(r);cases e;rfl
 | str x=>obtain⟨t,e⟩:=(r);cases e;rfl
 | iH b=>obtain⟨t,e⟩:=(r);cases e;rfl
 | gT b=>obtain⟨t,e⟩:=(r);cases e;rfl
 | ref a=>cases (r);rfl
 | ty n=>cases (r);rfl
section
variable {P:Program}{w:World}{H H':Hp}{h h':Heap}{a C dx:Addr}{fs fs':List (Str×V)}
def WS (b:c3 P w H h) (e:H a=k0 (.ins C dx fs)): ∃mA,ej h a dx C mA/\(∀ f,cq (fs.lookup f) (mA f))/\PySem.Within mA (fs.map (·.1))/\fs.length<=1000/\H dx=k0 (.own a):=by
 obtain⟨d,z,ne,c,mA,n,r,q⟩:=(show bb P w H h a (.ins C dx fs)from b a _ e)
 exact⟨mA,⟨c,n,ne⟩,r,q,z,d⟩
end
structure dR (K:Ab) (C:Addr):Prop where
 pg:Am2 K C Str.empty=u0
 hd:PySem.W.hasDictIn K C=u0
 po:PySem.W.plainOver K C=u0
 sa:PySem.W.findIn K (.ref C) "__setattr__" =some (some (.builtin "object.__setattr__"))
def dR.get {K:Ab}(c:dR K C) (f):Am2 K C f=true:=c.pg
def bZ (K:Ab) (C:Addr) (f:Str):Prop:=Ak5 K (.ref C) f=k0 y0
def bZ.lA {K:Ab}(n:bZ K C f):PySem.W.takerIn K C f=k0 none:=by
 unfold PySem.W.takerIn
 rw [show Ak5 K _ f=k0 y0 from n]
 rfl
structure Mv (K:Ab) (C:Addr) (f:Str) (v:V) (u:Value):Prop where
 at_:Ak5 K (.ref C) f=k0 (k0 u)
 rel:RelV v u
 get:PySem.W.specialIn K u "__get__" =some none
 cp:PySem.W.copiedNames.contains f=k9
structure mi (K:Ab) (C:Addr) (m:Str) (f:Addr):Prop where
 at_:Ak5 K (.ref C) m=k0 (k0 (.ref f))
 fn:PySem.W.isFn K (.ref f)=u0
 kp:Ah4 K (.ref f)=u0
section
variable {X:Cx}{pins:List (Addr×Obj)}{U:St}{H:Hp}{s:Shared}{a C dx:Addr}{fs:List (Str×V)}{f:Str}{v:V}{A:Around}{E:Value->Shared->Prop}
def yz (I:Inv X pins U H s) (e:H a=k0 (.ins C dx fs)) (c:dR X.K C) (n:bZ X.K C f) (l:fs.lookup f=k0 v)
 (h: ∀u s',Inv X pins U H s'->RelV v u->Q u s'):wpAny (model X.prog X.w) A (getAttr (.ref a) f b) Q E s:=by
 obtain⟨i,O,r,_,_,_⟩:=WS I.bc e
 obtain⟨u,g,d⟩:=cq.some_of (by rw [← l];exact r f)
 exact F6 I.ck O (c.get f) c.hd n g (Ir d) (h u _ (I.tok _) d)
def Cg (I:Inv X pins U H s) (e:H a=k0 (.ins C dx fs)) (c:dR X.K C) (k:mi X.K C m g) (l:fs.lookup m=y0)
 (h:Q (.ref g,[.ref a]) s):wpAny (model X.prog X.w) A (getMethod (.ref a) m pl) Q E s:=by
 obtain⟨d,O,r,_,_,_⟩:=WS I.bc e
 have b:=cq.none_of (by rw [← l];exact r m)
 exact IX I.ck O (c.get m) k.at_ k.fn b h
def ER (I:Inv X pins U H s) (e:H a=k0 (.ins C dx fs)) (c:dR X.K C) (n:bZ X.K C f) (D:fs.length<1000) (l:RelV y u)
 (h: ∀s',Inv X pins U (aL H a (.ins C dx (aU f y fs))) s'->Q () s'):wpAny (model X.prog X.w) A (setAttr (.ref a) f u) Q E s:=by
 obtain⟨w,O,r,i,_,j⟩:=WS I.bc e
 have t:(fs.map (·.1)).length<=sizeLine:=by rw [Aa,sizeLine_eq];lia
 refine Hw I.ck O c.sa c.po n.lA c.hd i t λx d k=>h _ ?_
 have p: ∃o,x.get? dx=k0 o:=let ⟨o,_,_,B,_⟩:=d.ns; ⟨o,B⟩
 refine I.write (by rw [e];exact True.intro) (.inr j) (λb q v z=>(k.2 b v).trans z) p ?_
 refine⟨by rw [Qa O.ne];exact j,?_,O.ne,d.obj,_,d.ns,λg=> ?_,λg m=> ?_⟩
 ·have:=qJ f y fs;lia
 ·show cq _ _
  rw [qH]
  by_cases q:g=f
  ·rw [if_pos q,if_pos q];exact l
  ·rw [if_neg q,if_neg q];exact r g
 ·by_cases q:g=f
  ·rw [q];exact(xI f y fs).1
  ·refine(xI f y fs).2 g (i g λz=>m ?_)
   show(if g=f then k0 u else w g)=y0
   rw [if_neg q];exact z
def Inv.made (I:Inv X pins U H s):Inv X pins U (aL (aL H s.heap.objs.size (.own (s.heap.objs.size+1))) (s.heap.objs.size+1) (.ins C s.heap.objs.size []))
 { s with heap:=(s.heap.push Ah8).push (Ak C s.heap.objs.size) }:=by
 have e1:(s.heap.push Ah8).get? s.heap.objs.size=k0 Ah8:=Ac4 s.heap rfl
 have e2:=by
  have:=Ac4 (s.heap.push Ah8) (o:=Ak C s.heap.objs.size) rfl
  rwa [Ak8]at this
 have d:(s.heap.push Ah8).Ns s.heap.objs.size (λ_=>y0):=⟨Ah8, #[],_,e1,rfl,(λe a=>absurd a (by simp)),λ_=>rfl⟩
 have f:=I.laid (o:= .own (s.heap.objs.size+1)) (t':=s.toks) (λb u q=>Ab3 _ q) (Aa9 _) ⟨_,e1⟩
 refine f.laid (λb u q=>Ab3 _ q) (Al0 (Ak8 _ _)) ?_
 have ne:s.heap.objs.size≠s.heap.objs.size+1:=Ac5 (Ag _)
 refine⟨by rw [Qa ne,Zc],Af3 _,ne,e2,λ_=>y0,(Heap.Ns1.of_empty d).at λo q=>Ab3 _ q,λ_=>True.intro,λy c=>absurd rfl c⟩
def LG (a:attributeBase e f env (eval e env)=eval e env)
 (h:wpAny (model prog w) A (eval e env) (λo i=>wpAny (model prog w) A (getAttr o f u0) Q E i) E s):wpAny (model prog w) A (eval (.Attribute e f pos) env) Q E s:=
 Attribute_any_ h (by rw [arm_eval_Attribute,a])
end
def CD (K:Ab) (b:TE) (f:Str):TE:=λU H Q=>b U H λx H1=> ∃a C dx fs v,x= .ref a/\H1 a=k0 (.ins C dx fs)/\dR K C/\bZ K C f/\fs.lookup f=k0 v/\Q v H1
def AK (K:Ab) (b c:TE) (f:Str):TS:=λD U H=>c U H λy H1=>b U H1 λx H2=> ∃a C dx fs,x= .ref a/\H2 a=k0 (.ins C dx fs)/\dR K C/\bZ K C f/\fs.length<1000 ∧
 D.nx U (aL H2 a (.ins C dx (aU f y fs)))
section
variable {X:Cx}{o e value:Expr}{f:Str}{pos pos' tpos:Pos}{ta tv:TE}
def HA (j:PE X e ta) (o:attributeBase e f X.env (eval e X.env)=eval e X.env):PE X (.Attribute e f pos) (CD X.K ta f):=by
 intro b s U H Q I h
 refine LG o (aO (j b s U H _ I h) ?_)
 rintro u t ⟨x,m,k,p,a,C,r,fs,v,ex,g,c,n,l,q⟩
 subst ex
 obtain rfl:u=Value.ref a:=p
 exact yz k g c n l λw y d i=>⟨v,m,d,i,q⟩
def pw (r:PE X o ta) (t:PE X value tv) (j:swapsWith value (k0 (.Attribute o f pos')) pos.line X.env=pure k9):PS X (.Assign [.Attribute o f pos'] value pos) (AK X.K ta tv f):=by
 intro b s U H D I h
 refine plainObj_wpAny_Assign_Attribute (aO (t b s U H _ I h) λu p ⟨y,m,k,g,q⟩=>aO (r b p U m _ k q) λv F ⟨x,A,d,w,a,C,B,fs,ex,e,c,n,l,z⟩=> ?_) j
 subst ex
 obtain rfl:v=Value.ref a:=w
 exact ER d e c n l g λE i=>⟨U,_,i,z⟩
end
section
variable {X:Cx}{pins:List (Addr×Obj)}{U:St}{H:Hp}{s:Shared}{A:Around}{E:Value->Shared->Prop}{Q:Value->Shared->Prop}{c:Value}{b:Bool}
inductive ff (K:Ab) (H:Hp):V->Value->Prop where
 | aj:ff K H .aj (.type "NoneType")
 | bl (x:Bool):ff K H (.bl x) (.type "bool")
 | int (i:Int):ff K H (.int i) (.type "int")
 | str (x:Str):ff K H (.str x) (.type "str")
 | gT (x:UInt64):ff K H (.gT x) (.type "float")
 | lst {a:Addr}{xs:List V}(e:H a=k0 (.lst xs)):ff K H (.ref a) (.type "list")
 | d8 {a:Addr}{o:Obj}{xs:List V}(e:H a=k0 (.d8 o (.lst xs))):ff K H (.ref a) (.type "list")
 | tup {a:Addr}{xs:List V}(e:H a=k0 (.tup xs)):ff K H (.ref a) (.type "tuple")
 | dK {a:Addr}{kvs:List (c4×V)}(e:H a=k0 (.dK kvs)):ff K H (.ref a) (.type "dict")
 | dT {a:Addr}{kvs:List (List c4×V)}(e:H a=k0 (.dT kvs)):ff K H (.ref a) (.type "dict")
 | ins {a C dx:Addr}{fs:List (Str×V)}(e:H a=some (.ins C dx fs)) (cl:dR K C) (ha:PySem.W.findIn K (.ref C) "__class__" =some (some (.builtin "object.__class__")))
  (hn:PySem.W.specialIn K (.builtin "object.__class__") "__get__" =some (some (.builtin "getset_descriptor.__get__"))) (htk:PySem.W.takesIn K (.builtin "object.__class__")=some true)
  (hm:PySem.W.mroIn K C (.type "object")=some true):ff K H (.ref a) (.ref C)
def Xk (I:Inv X pins U H s) (f:RelV x u) (ty:ff X.K H x t) (e:PySem.W.kitOne X.K t c=k0 b) (h: ∀tk,Q (.bool b) { s with toks:=tk }):
 wpAny (model X.prog X.w) A (call (.builtin "isinstance") [u,c]) Q E s:=by
 cases ty with
 | aj=>cases (show u=Value.none from f);exact Af PySem.W.kitx_none I.ck True.intro e (λz=>nomatch z) h
 | bl y=>cases (show u=Value.bool y from f);exact Af PySem.W.kitx_bool I.ck True.intro e (λz=>nomatch z) h
 | int i=>obtain⟨t,q⟩:=(show ∃t,u=Value.int i t from f);cases q;exact Af PySem.W.kitx_int I.ck True.intro e (λz=>nomatch z) h
 | str y=>obtain⟨t,q⟩:=(show ∃t,u=Value.str y t from f);cases q;exact Af PySem.W.kitx_str I.ck True.intro e (λz=>nomatch z) h
 | gT y=>obtain⟨t,q⟩:=(show ∃t,u=Value.float y t from f);cases q;exact Af PySem.W.kitx_float I.ck True.intro e (λz=>nomatch z) h
 | @lst a k d=>
  cases (show u=Value.ref a from f)
  obtain⟨_,_,n,_,g⟩:=(show bb X.prog X.w H s.heap a (.lst k)from I.bc a _ d)
  exact Af Ao1 I.ck ⟨_,g,rfl⟩ e (λz=>nomatch z) h
 | @d8 a D k d=>
  cases (show u=Value.ref a from f)
  obtain⟨_,_,_,n,_,g⟩:=(show bb X.prog X.w H s.heap a (.d8 D _)from I.bc a _ d)
  exact Af Ao1 I.ck ⟨_,g,rfl⟩ e (λz=>nomatch z) h
 | @tup a k d=>
  cases (show u=Value.ref a from f)
  obtain⟨_,_,_,p⟩:=(show bb X.prog X.w H s.heap a (.tup k)from I.bc a _ d)
  obtain⟨o,g,l,_⟩:=p
  exact Af PySem.W.kitx_tuple I.ck ⟨o,g,l⟩ e (λz=>nomatch z) h
 | @dK a j d=>
  cases (show u=Value.ref a from f)
  obtain⟨_,_,K,_,p⟩:=(show bb X.prog X.w H s.heap a (.dK j)from I.bc a _ d)
  obtain⟨o,v,w,g,l,_⟩:=p
  exact Af PySem.W.kitx_dict I.ck ⟨o,g,l.1⟩ e (λz=>nomatch z) h
 | @dT a j d=>
  cases (show u=Value.ref a from f)
  obtain⟨_,_,k,_,o,v,w,g,l,_⟩:=(show bb X.prog X.w H s.heap a (.dT j)from I.bc a _ d)
  exact Af PySem.W.kitx_dict I.ck ⟨o,g,l.1⟩ e (λz=>nomatch z) h
 | @ins a C L fs d r F G m B=>
  cases (show u=Value.ref a from f)
  obtain⟨M,O,_⟩:=WS I.bc d
  obtain⟨N,J,_⟩:=O.look
  exact Af (PySem.W.kitx_own (r.get _) r.hd F G m B) I.ck J e (λz=>nomatch z) h
end
structure a0 (k:Nat) (A:Around):Prop where
 hd:A.handled=y0
 dp:A.depth+k+5<recursionLimit
 un:A.units+16*k+200<cLine
def a0.mono (r:a0 k A) (h:j<=k):a0 j A:=⟨r.hd,by have:=r.dp;lia,by have:=r.un;lia⟩
theorem a0.deeper (r:a0 (k+1) A) (env):a0 k (A.deeper env):=
 ⟨r.hd,by have:=r.dp;show A.depth+1+k+5<_;lia,by have:=r.un;show A.units+3+16*k+200<_;lia⟩
theorem a0.in1 (r:a0 (k+1) A):a0 k A.in1:=
 ⟨r.hd,by have:=r.dp;lia,by have:=r.un;lia⟩
def L1 {A:Around}:(A.under (.builtin "type.__call__" ⟨.ref C::us,kw⟩)).depth=A.depth+1:=by
 first | rfl | simp [guardIds]
def yJ {A:Around}:(A.under (.builtin "type.__call__" ⟨.ref C::us,kw⟩)).units=A.units+1:=by
 first | rfl | simp [Code.isFrame]
def a0.make (r:a0 (k+1) A) (C) (us) (kw):a0 k (A.under (.builtin "type.__call__" ⟨.ref C::us,kw⟩)):=
 ⟨r.hd,by have:=r.dp;rw [L1];lia,by have:=r.un;rw [yJ];lia⟩
theorem a0.depth (r:a0 k A):A.depth<recursionLimit:=by have:=r.dp;omega
def mj:TA:=λ_ H Q=>Q [] H
def oo (a:TE) (tr:TA):TA:=λU H Q=>a U H λx H1=>tr U H1 λxs H2=>Q (x::xs) H2
section
variable {X:Cx}{e:Expr}{es:List Expr}{te:TE}{t:TA}{pos:Pos}
def Qr:PA X [] mj:=λ_ _ _ _ H Q I h=>Calls.spliced_nil ⟨[],H,I,.nil,h⟩
def Wi (l:PE X e te) (n:PA X es t) (g:starEach (e::es) X.env=(k9,eval e X.env)::starEach es X.env:=by rfl):PA X (e::es) (oo te t):=by
 intro b a s U H Q I h
 rw [g]
 refine Calls.spliced_cons (aO (l a s U H _ I h) ?_)
 rintro u k ⟨x,j,i,m,q⟩
 exact aO (n b a k U j _ i q) λr v ⟨d,f,c,o,p⟩=>⟨x::d,f,c,.cons m o,p⟩
def yI (t:TA):TE:=λU H Q=>t U H λxs H1=>xs.length<=sizeLine/\ ∀p,H1 p=y0->Q (.ref p) (aL H1 p (.tup xs))
def DP (t:TA):TE:=λU H Q=>t U H λxs H1=>xs.length<=sizeLine/\ ∀p,H1 p=y0->Q (.ref p) (aL H1 p (.lst xs))
def BU {x1}(h:PA X es t):PE X (.Tuple es x1 pos) (yI t):=by
 intro a s U H Q I i
 refine wpAny_Tuple_spliced (aO (h pos a s U H _ I i) λf d ⟨k,j,c,r,z,q⟩=>⟨by rw [← r.length];exact z,?_⟩)
 have g:=c.bc.fresh (Aa9 _)
 refine⟨.ref d.heap.objs.size,aL j d.heap.objs.size _,c.laid (λb u e=>Ab3 _ e) (Aa9 _) ?_,rfl,q _ g⟩
 exact⟨z,f,r,⟨_,Ac4 _ rfl,rfl,rfl,_,rfl⟩⟩
def CI (h:PA X es t):PE X (.List es pos) (DP t):=by
 intro a s U H Q I i
 refine wpAny_List_spliced (aO (h pos a s U H _ I i) λf d ⟨k,j,c,r,z,q⟩=>⟨by rw [← r.length];exact z,?_⟩)
 have g:=c.bc.fresh (Aa9 _)
 refine⟨.ref d.heap.objs.size,aL j d.heap.objs.size _,c.laid (λb u e=>Ab3 _ e) (Aa9 _) ?_,rfl,q _ g⟩
 exact⟨z,f,0,r,Ac4 _ rfl⟩
end
abbrev Sp:=List V->Hp->VK->XK->Prop
abbrev f7:=List Env->Hp->Shared->XK->Value->Shared->Prop
structure dm (P:Program) (w:World) (K:Ab) (mg:Str->Option Value) (base:Heap) (A:Around) (outer:List Env) (s:Shared) (H:Hp):Prop where
 frames:A.frames=k0 outer
 mod:Mod K mg base
 bs: ∀b o,base.get? b=k0 o->s.heap.get? b=k0 o/\H b=y0
 g7:base.objs.size<=s.heap.objs.size
 c6:s.heap.FunFrames base outer
 ke: ∀b∈e8 outer,H b=y0
 bc:c3 P w H s.heap
 bare:AllBare s.gens
def CE (a:List Env) (P:Program) (w:World) (H:Hp) (s:Shared) (Q:VK) (u:Value) (b:Shared):Prop:=
 ∃v H',b.os=s.os/\AllBare b.gens/\Un (e8 a) [] H H' s.heap b.heap/\c3 P w H' b.heap/\RelV v u/\Q v H'
def CR (c:f7) (a:List Env) (P:Program) (w:World) (H:Hp) (s:Shared) (Q:VK) (E:XK) (r:Result) (b:Shared):Prop:=
 match r with
 | .ok (.ret u)=>CE a P w H s Q u b
 | .ok _=>False
 | .error e=>c a H s E e b
structure ZF (P:Program) (w:World) (K:Ab) (mg:Str->Option Value) (base:Heap) (CX:f7) (k:Nat) (f:Addr) (fd:FuncData) (ps:List Str) (sp:Sp):Prop where
 len: ∀vs H Q E,sp vs H Q E->vs.length=ps.length
 run: ∀(A:Around) (outer:List Env) (s:Shared) (H:Hp) (args:Args) (us:List Value) (vs:List V) (Q:VK) (E:XK),a0 k A->dm P w K mg base A outer s H->BindsTo s fd args (ps.zip us)->Vals vs us->sp vs H Q E →
  codeAny (model P w) A (.call (.ref f) args) (CR CX outer P w H s Q E) s
def dm.make {K:Ab}(e:dm P w K mg base A outer s H) (C:Addr) (a:List Value) (b:List (Str×Value)):
 dm P w K mg base (A.under (.builtin "type.__call__" ⟨.ref C::a,b⟩)) outer s H:=⟨by first | exact e.frames | (simpa [pushEnvs]using e.frames),e.mod,e.bs,e.g7,e.c6,e.ke,e.bc,e.bare⟩
theorem dm.in1 {K:Ab}(e:dm P w K mg base A outer s H):
 dm P w K mg base A.in1 outer s H:=⟨e.frames,e.mod,e.bs,e.g7,e.c6,e.ke,e.bc,e.bare⟩
section
variable {X:Cx}{pins:List (Addr×Obj)}{U:St}{H:Hp}{s s':Shared}
def Inv.iO (I:Inv X pins U H s):dm X.prog X.w X.K X.mg X.base X.A X.stack s H:=
 ⟨I.ok.frames,I.ok.mod,I.bs,Ab5 I.ok.g7 I.sz,I.stack,I.eH,I.bc,I.bare⟩
def Inv.after (I:Inv X pins U H s) (h:CE X.stack X.prog X.w H s Q u s'):EP X pins U Q u s':=by
 obtain⟨v,f,i,a,un,e,r,q⟩:=h
 obtain⟨j,g,d,t,c⟩:=s'
 obtain rfl:c=s.os:=i
 exact⟨v,f,I.call un e a (λb z=>absurd z (by simp)),r,q⟩
end
def rJ (c:Sp) (a:List V) (E:XK) (t:TA):TE:=λU H Q=>t U H λb H1=>c (b++a) H1 Q E
def Ar (C:Addr) (m:Str) (d:Sp) (b:List V) (E:XK) (e:TE) (t:TA):TE:=λU H Q=>e U H λx H1=> ∃a dx fs,x= .ref a/\H1 a=k0 (.ins C dx fs)/\fs.lookup m=y0 ∧
 t U H1 λc H2=>d (x::(c++b)) H2 Q E
def BQ (C:Addr) (c:Sp) (a:List V) (E:XK) (t:TA):TE:=λU H Q=>t U H λb H1=> ∀x dx,H1 x=y0->H1 dx=y0->dx≠x →
 c (.ref x::(b++a)) (aL (aL H1 dx (.own x)) x (.ins C dx [])) (λv H2=>v= .aj/\Q (.ref x) H2) E
def Binds (K:Ab) (b:FuncData) (ps:List Str) (ds:List Value):Prop:=
 ∀(s:Shared) (a:List Value),K.In s.heap->(a++ds).length=ps.length->BindsTo s b ⟨a,[]⟩ (ps.zip (a++ds))
def Binds.all {K:Ab}(h: ∀i:List Value,i.length=ps.length->bindArgs fd ⟨i,[]⟩=pure (ps.zip i)):Binds K fd ps []:=λs i _ a=>by
 rw [Af0]at a ⊢
 exact .of_eq (h i a)
def qE (a:f7) (X:Cx) (E:XK):Prop:= ∀(pins:List (Addr×Obj)) (U:St) (H:Hp) (s:Shared) (e:Value) (s':Shared),Inv X pins U H s->a X.stack H s E e s'->X.xe e s'
section
variable {X:Cx}{CX:f7}{k:Nat}{f C:Addr}{fd:FuncData}{ps:List Str}{sp:Sp}{dvs:List V}{ds:List Value}{E:XK}{x m:Str}{p pos apos:Pos}{e o:Expr}{es:List Expr}{ta:TE}{t:TA}
def nO (F:ZF X.prog X.w X.K X.mg X.base CX k f fd ps sp) (c:a0 k X.A) (d:Binds X.K fd ps ds) (g:Vals dvs ds) (i:qE CX X E)
 (I:Inv X pins U H s) (r:Vals vs us) (h:sp (vs++dvs) H Q E):wpAny (model X.prog X.w) X.A (call (.ref f) us) (EP X pins U Q) X.xe s:=by
 have b:=r.append g
 have j:(us++ds).length=ps.length:=by rw [← b.length];exact F.len _ _ _ _ h
 refine wpAny_call (codeAny_mono (F.run X.A X.stack s H ⟨us,[]⟩ _ _ Q E c I.iO (d s us I.ck j) b h) λr m a=> ?_)
 cases r with
 | error e=>exact i pins U H s e m I a
 | ok l=>
  cases l with
  | ret u=>exact I.after a
  | next=>exact False.elim a
  | brk=>exact False.elim a
  | cont=>exact False.elim a
def Fd (F:ZF X.prog X.w X.K X.mg X.base CX k f fd ps sp) (v:a0 k X.A) (j:Gl X x) (n:X.mg x=k0 (.ref f)) (l:Ah4 X.K (.ref f)=u0) (o:Binds X.K fd ps ds) (m:Vals dvs ds) (g:qE CX X E)
 (u:PA X (e::es) t) (b:(x==("__debug__" :Str))=false:=by decide) (i:starEach (e::es) X.env=(false,eval e X.env)::starEach es X.env:=by rfl) (c:(backTo pos (starEach es X.env)).any (·.1)=false:=by rfl):
 PE X (.Call (.Name x p) (e::es) [] pos) (rJ sp dvs E t):=by
 intro a s U H Q I h
 refine wpAny_Call_Name_kw (qT I j n ?_ b)
 refine An6 I.ok.mod.kI l (aO (u pos a s U H _ I h) λw A ⟨y,z,d,r,q⟩=>⟨d.ck,?_⟩) i c
 exact nO F v o m g d r q
def HZ (F:ZF X.prog X.w X.K X.mg X.base CX k f fd ps sp) (d:a0 k X.A) (e:Gl X x) (c:X.mg x=k0 (.ref f)) (g:Ah4 X.K (.ref f)=u0) (i:Binds X.K fd ps ds) (j:Vals dvs ds) (l:qE CX X E)
 (a:(x==("__debug__" :Str))=false:=by decide):PE X (.Call (.Name x p) [] [] pos) (rJ sp dvs E mj):=by
 intro b s U H Q I h
 refine wpAny_Call_Name_kw (qT I e c ?_ a)
 exact PySem.W.callWith_K0 I.ck g (nO F d i j l I .nil h)
def FF (y:PE X o ta) (c:dR X.K C) (p:mi X.K C m f) (F:ZF X.prog X.w X.K X.mg X.base CX k f fd ps sp) (K:a0 k X.A) (D:Binds X.K fd ps ds) (z:Vals dvs ds) (w:qE CX X E) (G:PA X (e::es) t)
 (d:starEach (e::es) X.env=(k9,eval e X.env)::starEach es X.env:=by rfl) (g:(backTo pos (starEach es X.env)).any (·.1)=false:=by rfl)
 (M:eval (.Call (.Attribute o m apos) (e::es) [] pos) X.env=(do
   let L ←eval o X.env
   standAt apos.atName
   let (f,first) ←holding [L] (getMethod L m pl)
   callWith pos f first (backTo pos (starEach (e::es) X.env)) (backToKw pos (keywordEach [] X.env))):=by rfl):
 PE X (.Call (.Attribute o m apos) (e::es) [] pos) (Ar C m sp dvs E ta t):=by
 intro b s U H Q I h
 refine PySem.W.methodCall_KW (aO (y b s U H _ I h) λu B ⟨x,A,n,J,a,R,fs,ex,v,l,q⟩=> ?_) M
 subst ex
 obtain rfl:u=Value.ref a:=J
 refine Cg n v c p l ?_
 refine An6 I.ok.mod.kI p.kp (aO (G pos b B U A _ n q) λO S ⟨j,P,i,r,N⟩=>⟨i.ck,?_⟩) d g
 exact nO (vs:= .ref a::j) F K D z w i (.cons rfl r) N
structure Mk (K:Ab) (C f:Addr):Prop where
 makes:PySem.W.makesIn K C=u0
 init:PySem.W.findIn K (.ref C) "__init__" =some (some (.ref f))
 fn:PySem.W.isFn K (.ref f)=u0
 kp:Ah4 K (.ref C)=u0
def F9 (M:Mk X.K C f) (F:ZF X.prog X.w X.K X.mg X.base CX k f fd ps sp) (p:a0 (k+1) X.A) (o:Binds X.K fd ps ds) (l:Vals dvs ds)
 (i:qE CX X E) (I:Inv X pins U H s) (r:Vals vs us)
 (h: ∀x dx,H x=y0->H dx=y0->dx≠x->sp (.ref x::(vs++dvs)) (aL (aL H dx (.own x)) x (.ins C dx [])) (λv H2=>v= .aj/\Q (.ref x) H2) E):
 wpAny (model X.prog X.w) X.A (call (.ref C) us) (EP X pins U Q) X.xe s:=by
 have c:=h _ s.heap.objs.size (I.bc.fresh (Ag6 _)) (I.bc.fresh (Aa9 _)) (Ac5 (Ag _))
 have b:=Inv.made (C:=C) I
 have d:Vals (V.ref (s.heap.objs.size+1)::(vs++dvs)) _:= .cons rfl (r.append l)
 have q:=by
  have e:=d.length
  rw [F.len _ _ _ _ c]at e
  exact e.symm
 refine wpAny_call (Cb I.ck M.makes M.init (beq_iff_eq.mp M.fn) (codeAny_mono (F.run _ X.stack _ _ ⟨Value.ref _::us,[]⟩ _ _ _ E (p.make C us [])
  (b.iO.make C us []) (o _ _ b.ck q) d c) λr w a=> ?_))
 cases r with
 | error e=>exact i pins U _ _ e w b a
 | ok t=>
  cases t with
  | ret u=>
   obtain⟨v,g,m,rv,j,n⟩:=b.after a
   subst j
   exact⟨rv,⟨V.ref _,g,m,rfl,n⟩⟩
  | next=>exact False.elim a
  | brk=>exact False.elim a
  | cont=>exact False.elim a
def DQ (M:Mk X.K C f) (F:ZF X.prog X.w X.K X.mg X.base CX k f fd ps sp) (u:a0 (k+1) X.A) (j:Gl X x) (m:X.mg x=k0 (.ref C)) (n:Binds X.K fd ps ds) (l:Vals dvs ds) (g:qE CX X E)
 (o:PA X (e::es) t) (b:(x==("__debug__" :Str))=false:=by decide) (i:starEach (e::es) X.env=(false,eval e X.env)::starEach es X.env:=by rfl) (c:(backTo pos (starEach es X.env)).any (·.1)=false:=by rfl):
 PE X (.Call (.Name x p) (e::es) [] pos) (BQ C sp dvs E t):=by
 intro a s U H Q I h
 refine wpAny_Call_Name_kw (qT I j m ?_ b)
 refine An6 I.ok.mod.kI M.kp (aO (o pos a s U H _ I h) λv z ⟨w,y,d,r,q⟩=>⟨d.ck,?_⟩) i c
 exact F9 M F u n l g d r q
end
def PK (X:Cx) (a:List Keyword) (t:TA):Prop:=
 ∀(pos:Pos) (pins:List (Addr×Obj)) (s:Shared) (U:St) (H:Hp) (Q:List V->Hp->Prop),Inv X pins U H s->t U H Q->wpAny (model X.prog X.w) X.A (evalAll ((backToKw pos (keywordEach a X.env)).map (·.2))) (AP X pins U Q) X.xe s
section
variable {X:Cx}{CX:f7}{k:Nat}{f C:Addr}{fd:FuncData}{ps ks:List Str}{sp:Sp}{E:XK}{x m:Str}{p pos apos kpos:Pos}{e o:Expr}{es:List Expr}{kws:List Keyword}{te ta:TE}{t tk:TA}{nm:Option Str}
def F1:PK X [] mj:=λ_ _ _ _ H Q I h=>wpAny_evalAll_nil ⟨[],H,I,.nil,h⟩
def EK (k:PE X e te) (m:PK X kws t):PK X (⟨nm,e,kpos⟩::kws) (oo te t):=by
 intro b a s U H Q I h
 refine wpAny_evalAll_cons (wpAny_bind (aO (k a s U H _ I h) λu j ⟨x,i,g,l,p⟩=>wpAny_bind (wpAny_standAt (wpAny_pure ?_))))
 exact aO (m b a j U i _ g p) λq r ⟨d,f,c,n,o⟩=>⟨x::d,f,c,.cons l n,o⟩
structure Mr (K:Ab) (fd:FuncData) (ps ks:List Str) (g:List Value->List Value->List Value) (gV:List V->List V->List V):Prop where
 to: ∀(s:Shared) (us ws:List Value),K.In s.heap->(g us ws).length=ps.length->BindsTo s fd ⟨us,ks.zip ws⟩ (ps.zip (g us ws))
 rel: ∀ {vs:List V}{us:List Value}{zs:List V}{ws:List Value},Vals vs us->Vals zs ws->Vals (gV vs zs) (g us ws)
variable {g:List Value->List Value->List Value}{gV:List V->List V->List V}
end
structure ZC (N P:List Str) (sc:Scope):Prop where
 kind:sc.kind= .function
 co:sc.isCoroutine=k9
 gen:sc.isGenerator=k9
 nd:N.Nodup
 pre:N.take P.length=P
 par: ∀x∈P,sc.names.lookup x=k0 .local\/sc.names.lookup x=k0 .cell
 iu: ∀y∈sc.names,y.2≠ .free
theorem QW {a:Str->Option NameKind}: ∀ {i}{m},(∀ v,(x,v)∉i)->bindL a i m x=m x
 | [],_,_=>rfl
 | (n,v)::r,m,h=>by
  unfold bindL
  rw [QW λw b=>h w (Aa2 _ b)]
  split
  ·have:x≠n:=by rintro rfl;exact h v Aa4
   simp [this]
  ·rfl
theorem ZY {a:Str->Option NameKind}: ∀ {i}{m},(∀ v,(x,v)∉i)->bindC a i m x=m x
 | [],_,_=>rfl
 | (n,v)::r,m,h=>by
  unfold bindC
  rw [ZY λw b=>h w (Aa2 _ b)]
  split
  ·rfl
  ·have:x≠n:=by rintro rfl;exact h v Aa4
   simp [this]
theorem jY {a:Str->Option NameKind}: ∀ {P:List Str}{vs}{i:Nat}{m},P.Nodup->P[i]? =k0 x->vs[i]? =k0 v->a x=k0 .local →
 bindL a (P.zip vs) m x=k0 v
 | [],_,_,_,_,h,_,_=>by simp at h
 | _::_,[],_,_,_,_,h,_=>by simp at h
 | p::P,w::vs,0,m,e,b,c,d=>by
  simp at b c;subst b;subst c
  show bindL a ((p,w)::P.zip vs) m p=_
  unfold bindL
  rw [QW λv f=>(Ai.mp e).1 (List.of_mem_zip f).1,if_pos d]
  simp
 | p::P,w::vs,i+1,m,e,b,c,d=>by
  unfold bindL
  exact jY (Ai.mp e).2 (by simpa using b) (by simpa using c) d
theorem JZ {a:Str->Option NameKind}: ∀ {P:List Str}{vs}{i:Nat}{m},P.Nodup->P[i]? =k0 x->vs[i]? =k0 v->a x≠k0 .local →
 bindC a (P.zip vs) m x=k0 v
 | [],_,_,_,_,h,_,_=>by simp at h
 | _::_,[],_,_,_,_,h,_=>by simp at h
 | p::P,w::vs,0,m,e,b,c,d=>by
  simp at b c;subst b;subst c
  show bindC a ((p,w)::P.zip vs) m p=_
  unfold bindC
  rw [ZY λv f=>(Ai.mp e).1 (List.of_mem_zip f).1,if_neg d]
  simp
 | p::P,w::vs,i+1,m,e,b,c,d=>by
  unfold bindC
  exact JZ (Ai.mp e).2 (by simpa using b) (by simpa using c) d
def start (N:List Str) (vs:List V):St:=vs.map k0++Aa3 (N.length-vs.length) y0
noncomputable def hC (CX:f7) (P:Program) (w:World) (K:Ab) (mg:Str->Option Value) (base:Heap) (N:List Str) (y8:Str) (scope:Scope) (f:Addr) (cd:Value) (A:Around) (outer:List Env) (s:Shared) (H:Hp) (E:XK):Cx where
 prog:=P
 w:=w
 K:=K
 mg:=mg
 base:=base
 A:=A.deeper (envOfC y8 scope s.heap.objs.size f cd)
 N:=N
 s₀:=s
 H₀:=H
 env:=envOfC y8 scope s.heap.objs.size f cd
 outer:=outer
 stack:=envOfC y8 scope s.heap.objs.size f cd::outer
 ex:= []
 calm:=u0
 fn:=λ_=>u0
 pn:= []
 xe:=λe s'=>wpAny (model P w) (A.deeper (envOfC y8 scope s.heap.objs.size f cd)) (leaving (envOfC y8 scope s.heap.objs.size f cd) e) (λ_ s''=>CX outer H s E e s'') (λe' s''=>CX outer H s E e' s'') s'
def yj {sc:Scope}(h:sc.names.lookup x=k0 .cell): ∃c,(cellsFrom n sc.names []).lookup x=k0 c:=by
 have q:=Am4 sc.names n [] (.inl h)
 exact Ah9.mp q
def Ds {K:Ab}
 (S:ZC N ps scope) (hd:A.handled=y0) (e0:dm P w K mg base A outer s H) (hl:vs.length=ps.length) (r:Vals vs us)
 (x:InCallC s s.heap.objs.size (bindL (envOfC y8 scope s.heap.objs.size f cd).kindOf (ps.zip us) λ_=>y0) (cellsFrom (s.heap.objs.size+1) scope.names []) (bindC (envOfC y8 scope s.heap.objs.size f cd).kindOf (ps.zip us) λ_=>y0) s1):
 Inv (hC CX P w K mg base N y8 scope f cd A outer s H E) [] (start N vs) H s1:=by
 have hpl:ps.length<=N.length:=by have:=congrArg List.length S.pre;rw [Af6]at this;lia
 obtain⟨h1,tk,rfl,hk⟩:=x.done
 have noA: ∀b:Addr,b∉(hC CX P w K mg base N y8 scope f cd A outer s H E).ex:=λb z=>absurd (show b∈([]:List Addr)from z) (by simp)
 refine⟨⟨e0.mod,S.kind,rfl,rfl,Aa9 _,λy z c h1 h2=> ?_,λy hy=> ?_,λy c _ h=> ?_,λ_=>hd,Around.frames_deeper e0.frames,.inr ⟨rfl,rfl⟩,λb z=>absurd z (noA b),e0.bs,e0.g7,λb _ _=>noA b,λb z=>absurd z (noA b),e0.c6,e0.ke⟩,
  rfl,e0.bare,Un.kept hk,⟨_,x.toInCall.ns,λi y v h1 h2 h3=> ?_⟩,λy c h=>⟨_,x.cell y c h⟩,e0.bc.fresh (Aa9 _),λy c h=> ?_,λp hp=>absurd (show p∈([]:List _)from hp) (by simp),e0.bc.kept hk,?_⟩
 ·exact name_of_addr x.apart (PySem.mem_of_lookup h1) (PySem.mem_of_lookup h2)
 ·have hy:scope.names.lookup y=k0 .cell\/scope.names.lookup y=k0 .free:=hy
  obtain hy | hy:=hy
  ·exact yj hy
  ·exact absurd rfl (S.iu _ (PySem.mem_of_lookup hy))
 ·exact Ag3 (x.above y c (PySem.mem_of_lookup h))
 ·have hi:i<vs.length:=by
   unfold start at h2
   by_cases hi:i<vs.length
   ·exact hi
   ·rw [Ad9 (by simpa using hi)]at h2
    rw [Ai2]at h2
    split at h2<;>cases h2
  have ha:vs[i]? =k0 v:=by
   unfold start at h2
   rw [Ad2 (by simpa using hi),Ac2]at h2
   cases e:vs[i]? with
   | none=>rw [e]at h2;cases h2
   | some a=>rw [e]at h2;cases h2;rfl
  obtain⟨u,hu,rv⟩:=r.get ha
  have hp:ps[i]? =k0 y:=by
   rw [← S.pre,Am3 (by lia)];exact h1
  have ndP:ps.Nodup:=by rw [← S.pre];exact S.nd.sublist (List.take_sublist _ _)
  refine⟨u,rv,?_⟩
  rcases S.par y (Ac3 hp)with k | k
  ·exact .inl ⟨k,jY ndP hp hu k⟩
  ·obtain⟨c,e⟩:=yj (n:=s.heap.objs.size+1) k
   refine .inr ⟨.inl k,c,e,?_⟩
   have q:=x.cell y c e
   rw [JZ ndP hp hu (by show scope.names.lookup y≠_;rw [k];decide)]at q
   exact q
 ·exact e0.bc.fresh (Ag3 (x.above y c (PySem.mem_of_lookup h)))
 ·unfold start
  show _=N.length
  rw [Aa8,Aa,Ad3]
  lia
def yS {K:Ab}{dV kV doc pm cdv ct oc:Value}
 (lk:K.lookup f=k0 ⟨oc,od,.func (PySem.W.fnOf name y8 params body scope dV kV doc pm an cdv ct),osl⟩) (hcd:PySem.W.codeIn K cdv y8=u0) (S:ZC N ps scope)
 (len: ∀vs H Q E,sp vs H Q E->vs.length=ps.length)
 (hbody: ∀ A outer s H vs Q E,a0 k (A.deeper (envOfC y8 scope s.heap.objs.size f cdv))->sp vs H Q E →
   ∃t,de (hC CX P w K mg base N y8 scope f cdv A outer s H E) body t/\t { nx:=λ_ H'=>Q .aj H',rt:=Q } (start N vs) H):
 ZF P w K mg base CX (k+1) f (PySem.W.fnOf name y8 params body scope dV kV doc pm an cdv ct) ps sp:=by
 refine⟨len,λA outer s H args us vs Q E hr e0 hb r hsp=> ?_⟩
 have hl:=len _ _ _ _ hsp
 have KX:=e0.mod.kI.keeps λb o e=>(e0.bs b o e).1
 have lim:=e0.mod.nolimit.keeps λb o e=>(e0.bs b o e).1
 have hkind: ∀y∈ps.zip us,scope.names.lookup y.1=k0 .local\/(scope.names.lookup y.1=k0 .cell/\((cellsFrom (s.heap.objs.size+1) scope.names []).lookup y.1).isSome=u0):=by
  rintro ⟨n,v⟩ hy
  obtain q | q:=S.par n (List.of_mem_zip hy).1
  ·exact .inl q
  ·exact .inr ⟨q,Am4 _ _ _ (.inl q)⟩
 refine codeAny_call_function hr.depth (KX _ _ lk) rfl S.co S.gen rfl (PySem.W.codeRec_of KX hcd) (hb _ _ _ _ ?_)
 refine wpAny_newFunctionEnv_cells S.kind hkind λenv he s1 x=> ?_
 subst he
 refine⟨lim.keeps x.toInCall.keep,codeAny_func ?_⟩
 obtain⟨t,ht,hq⟩:=hbody A outer s H vs Q E (hr.deeper _) hsp
 have I:Inv (hC CX P w K mg base N y8 scope f cdv A outer s H E) [] _ H s1:=Ds S hr.hd e0 hl r x
 refine wpAny_mono (ht [] s1 _ H _ I hq) (λfl s' hs=> ?_) λe s' hs=>hs
 have fin: ∀ {U'}{H'}{v}{u},Inv (hC CX P w K mg base N y8 scope f cdv A outer s H E) [] U' H' s'->RelV v u->Q v H'->CE outer P w H s Q u s':=
  λ{U' H' v u} J rv q=>⟨v,H',J.os,J.bare,J.base,J.bc,rv,q⟩
 cases fl with
 | ret u=>
  obtain⟨v,U',H',J,rv,q⟩:=hs
  exact fin J rv q
 | next=>
  obtain⟨U',H',J,q⟩:=hs
  exact fin (v:=V.aj) J rfl q
 | brk=>
  obtain⟨_,_,_,q⟩:=hs
  exact False.elim q
 | cont=>
  obtain⟨_,_,_,q⟩:=hs
  exact False.elim q
section
variable {X:Cx}{x:Str}{p pos:Pos}{e:Expr}{es:List Expr}{t:TA}{id T:String}{r:List V->Hp->VK->Prop}
def nP (r:List V->Hp->VK->Prop) (t:TA):TE:=λU H Q=>t U H λa H1=>r a H1 Q
def jo (j:zu X (.builtin id) r) (i:Gl X x) (l:X.mg x=none) (q:bootBuiltins x=some (.builtin id)) (o:PA X (e::es) t) (v:x≠ "__name__" :=by decide) (b:(x==("__debug__" :Str))=false:=by decide)
 (f:starEach (e::es) X.env=(k9,eval e X.env)::starEach es X.env:=by rfl) (c:(backTo pos (starEach es X.env)).any (·.1)=false:=by rfl):PE X (.Call (.Name x p) (e::es) [] pos) (nP r t):=by
 intro a s U H Q I h
 refine wpAny_Call_Name_kw (zE I i l q ?_ v b)
 exact PyProof.Rows.callWith_builtin1 (aO (o pos a s U H _ I h) λd n ⟨g,m,k,u,w⟩=>j a n U m g d Q k u w) f c
def wz (j:zu X (.type T) r) (i:Gl X x) (l:X.mg x=none) (q:bootBuiltins x=some (.type T)) (o:PA X (e::es) t) (v:x≠ "__name__" :=by decide) (b:(x==("__debug__" :Str))=false:=by decide)
 (f:starEach (e::es) X.env=(k9,eval e X.env)::starEach es X.env:=by rfl) (c:(backTo pos (starEach es X.env)).any (·.1)=false:=by rfl):PE X (.Call (.Name x p) (e::es) [] pos) (nP r t):=by
 intro a s U H Q I h
 refine wpAny_Call_Name_kw (zE I i l q ?_ v b)
 exact PyProof.Rows.callWith_type1 (aO (o pos a s U H _ I h) λd n ⟨g,m,k,u,w⟩=>j a n U m g d Q k u w) f c
end
end L2
namespace HT
open PySem PyProof.Rows
section
variable {prog:Program}{w:World}{A:Around}{E:Value->Shared->Prop}{s:Shared}
def gq (x:IsTup s.heap t vs.toArray) (u:IsTup s.heap b ws.toArray) (o:vs≠ [])
 (h1:ws= []->Q (.ref t) s) (r:ws≠ []->Q (.ref s.heap.objs.size) { s with heap:=s.heap.push { cls:= .type "tuple",data:= .seq (vs++ws).toArray } })
 (v:vs.length+ws.length<=sizeLine):wpAny (model prog w) A (binaryOp .Add (.ref t) (.ref b)) Q E s:=by
 obtain⟨⟨L,dd,i,sl⟩,f,p,n,q⟩:=id x
 obtain⟨⟨m,d,k,c⟩,a,j,l,g⟩:=id u
 subst p q j g
 have e:vs.toArray++ws.toArray=(vs++ws).toArray:=by simp
 by_cases h:ws= []
 ·exact concat_meets ⟨_,f,rfl⟩ ⟨_,a,rfl⟩ noFill_tuple_add seq_tuple_add PySem.F.slot_tuple_add PySem.F.entry_tuple_add (PySem.F.args_tuple_add_2 _ _)
   (tuple_addW1 t b vs.toArray ws.toArray n l dd d sl c (by simpa using o) (by simp [h])) ⟨f,a,h1 h⟩
 ·refine concat_meets ⟨_,f,rfl⟩ ⟨_,a,rfl⟩ noFill_tuple_add seq_tuple_add PySem.F.slot_tuple_add PySem.F.entry_tuple_add (PySem.F.args_tuple_add_2 _ _)
   (tuple_addW2 t b vs.toArray ws.toArray n l dd d sl c (by simpa using o) (by simp_all) (by simp_all)) ⟨f,a,?_⟩
  rw [e]
  exact r h
def aX (n d:Nat):Option Int->Nat
 | none=>d
 | some v=>if v<0 then(v+(n:Int)).toNat else min v.toNat n
def EY (n d) (b:d<=n) (o):aX n d o<=n:=by
 cases o with
 | none=>exact b
 | some v=>
  show(if v<0 then(v+ n).toNat else min v.toNat n)<=n
  by_cases a:v<0
  ·rw [if_pos a];lia
  ·rw [if_neg a];exact Nat.min_le_right _ _
def sM (v) (n d:Nat):(if v<0 then max (v+(n:Int)) 0 else min v (n:Int))=((aX n d (k0 v):Nat):Int):=by
 show(if v<0 then max _ 0 else min v n)=(((if v<0 then(v+(n:Int)).toNat else min v.toNat n)))
 by_cases a:v<0
 ·simp only [if_pos a];lia
 ·simp [if_neg a];lia
def Ly (a b) (n:Nat):Builtin.Slice.sliceAdjust a b 1 (n:Int)=(((aX n 0 a:Nat):Int),((aX n n b:Nat):Int)):=by
 have c: ¬(1<0):=by lia
 refine Prod.ext ?_ ?_
 ·cases a with
  | none=>rfl
  | some v=>exact sM v n 0
 ·cases b with
  | none=>rfl
  | some v=>exact sM v n n
def Lc (i j:Nat):Builtin.Slice.slicePlaces (i:Int) (j:Int) 1=j-i:=by
 unfold Builtin.Slice.slicePlaces
 have a: 1>0:=by lia
 simp [Int.ediv_one]
 split<;>lia
def wP (p:IsPart v o) (h:Q o s):wpAny (model prog w) A (Builtin.Slice.slicePartIndex v) Q E s:=by
 cases p with
 | none=>exact slicePart_none h
 | int i t=>exact slicePart_int h
def bI {a d:Option Int}{Q:Int×Int×Nat->Shared->Prop}(g:s.heap.IsSliceOf sl vl vu .none) (pl:IsPart vl a) (e:IsPart vu d)
 (h:Q (((aX n 0 a:Nat):Int),1,aX n n d-aX n 0 a) s):wpAny (model prog w) A (Builtin.Slice.sliceApplied (.ref sl) (pure (n:Int))) Q E s:=by
 obtain⟨i,c,f,b⟩:=id g
 refine wpAny_bind (wpAny_bind (wpAny_field c b (x:=vl) rfl (wpAny_bind (wpAny_field c b (x:=vu) rfl (wpAny_bind (wpAny_field c b rfl (wpAny_pure ?_)))))))
 refine wpAny_bind (slicePart_none ?_)
 refine wpAny_bind (wP pl (wpAny_bind (wP e (wpAny_bind (wpAny_pure ?_)))))
 show wpAny _ _ (match Builtin.Slice.sliceAdjust a d 1 (n:Int)with | (a,d)=>pure (a,(1:Int),Builtin.Slice.slicePlaces a d 1)) _ _ s
 rw [Ly a d n]
 show wpAny _ _ (pure _) _ _ s
 rw [Lc]
 exact wpAny_pure h
def HU (xs:Array Value) (i k:Nat):((Aa5 k).filterMap λ(m:Nat)=>xs[((i:Int)+(m:Int)*1).toNat]?).toArray=((xs.toList.drop i).take k).toArray:=by
 have e:(λ(m:Nat)=>xs[(i+(m:Int)*1).toNat]?)=λm=>xs[i+m]? :=by
  funext m
  have:(i+(m:Int)*1).toNat=i+m:=by lia
  rw [this]
 rw [e]
 have:=pick_run xs i k
 rw [List.filterMap_map]at this
 have e2:((λx=>xs[x]?)∘λx=>i+x)=λm=>xs[i+m]? :=rfl
 rw [e2]at this
 rw [this]
def cD {a b:Option Int}(d:IsTup s.heap t k8) (j:s.heap.IsSliceOf sl vl vu .none) (pl:IsPart vl a) (k:IsPart vu b)
 (m: ¬(aX k8.size 0 a=0/\aX k8.size k8.size b=k8.size))
 (h:Q (.ref s.heap.objs.size) { s with heap:=s.heap.push { cls:= .type "tuple",data:= .seq ((k8.toList.drop (aX k8.size 0 a)).take (aX k8.size k8.size b-aX k8.size 0 a)).toArray } })
 (o:k8.size<=sizeLine):wpAny (model prog w) A (getItem (.ref t) (.ref sl)) Q E s:=by
 have c:=by
  show((k8.toList.drop (aX k8.size 0 a)).take (aX k8.size k8.size b-aX k8.size 0 a)).toArray.size<=sizeLine
  rw [Ac0,Af6,Af7,Ai0]
  omega
 have p:aX k8.size k8.size b<=k8.size:=EY _ _ (Aa9 _) b
 obtain⟨n,e,f,l⟩:=id j
 have i:s.TypeIs (.ref sl) "slice" :=⟨n,e,f⟩
 unfold getItem
 try with_reducible refine wpAny_holding ?_
 refine wpAny_bind (wpAny_sequenceKey d.typeIs rfl ?_)
 refine wpAny_bind (wpAny_callSpecial?_slot d.typeIs PyProof.Rows.slot_tuple_getitem
  (wpAny_call_entry PyProof.Rows.slot_tuple_getitem d.typeIs entry_tuple_getitem ?_ (args_tuple_getitem _ _)))
 show wpAny _ _ (Builtin.Tuple.tupleItemsOf _ >>= _) _ _ s
 refine wpAny_bind (tupleItemsOf_ d ?_)
 refine wpAny_bind (wpAny_typeOf i ?_)
 refine wpAny_bind (bI j pl k ?_)
 have g: ¬((((aX k8.size 0 a:Nat):Int)==0&&(1:Int)==1&&(aX k8.size k8.size b-aX k8.size 0 a)==k8.size)=u0):=by
  intro q
  rw [Aa0,Aa0]at q
  have u:=eq_of_beq q.1.1
  have r:=eq_of_beq q.2
  exact m ⟨by lia,by omega⟩
 show wpAny _ _ (if _=u0 then _ else _) _ _ s
 rw [if_neg g,HU]
 first
  | exact wpAny_bind _
  | exact wpAny_bind (wpAny_newObj_type (wpAny_bind (wpAny_pure (wpAny_pure ⟨_,rfl,wpAny_pure h⟩))) c)
  | exact wpAny_bind _
  | exact wpAny_bind _
end
end HT
namespace L2
open PySem PySem.Spec PyProof.Rows
abbrev TO:=St->Hp->(Option Int->Hp->Prop)->Prop
def PO (X:Cx) (e:Option Expr) (t:TO):Prop:=
 ∀(pins:List (Addr×Obj)) (s:Shared) (U:St) (H:Hp) (Q:Option Int->Hp->Prop),Inv X pins U H s->t U H Q →
  wpAny (model X.prog X.w) X.A (evalPart e X.env) (λu s'=> ∃o H',Inv X pins U H' s'/\IsPart u o/\Q o H') X.xe s
def DW:TO:=λ_ H Q=>Q y0 H
def Hl (t:TE):TO:=λU H Q=>t U H λx H1=> ∃i,x= .int i/\Q (k0 i) H1
section
variable {X:Cx}{e:Expr}{te:TE}{lo hi:Option Expr}{tl th:TO}{pos p2:Pos}
def vN:PO X y0 DW:=by
 intro a s U H Q I h
 exact wpAny_pure ⟨y0,H,I,.none,h⟩
def wQ (h:PE X e te):PO X (k0 e) (Hl te):=by
 intro a s U H Q I b
 refine aO (h a s U H _ I b) ?_
 rintro u j ⟨x,d,c,f,g⟩
 obtain⟨i,rfl,q⟩:=g
 obtain⟨t,rfl⟩:=f
 exact⟨k0 i,d,c,.int i t,q⟩
def f6 (X:Cx) (r:V->Option Int->Option Int->Hp->VK->Prop):Prop:=
 ∀(pins:List (Addr×Obj)) (s:Shared) (U:St) (H:Hp) (x:V) (v b a:Value) (lo hi:Option Int) (sl:Addr) (Q:VK),Inv X pins U H s->RelV x v->s.heap.IsSliceOf sl b a .none->IsPart b lo->IsPart a hi->r x lo hi H Q →
  ∃T id,typeLookup (.type T) "__getitem__" =pure (some (.builtin id))/\s.TypeIs v T/\wpAny (model X.prog X.w) X.A (getItem v (.ref sl)) (EP X pins U Q) X.xe s
def f6.or (h:f6 X r) (h':f6 X r'):f6 X (λx lo hi H Q=>r x lo hi H Q\/r' x lo hi H Q):=by
 intro a s U H x v f d lo hi sl Q I e c pl b q
 obtain q | q:=q
 ·exact h a s U H x v f d lo hi sl Q I e c pl b q
 ·exact h' a s U H x v f d lo hi sl Q I e c pl b q
def B4 (r:V->Option Int->Option Int->Hp->VK->Prop) (d:TE) (a c:TO):TE:=λU H Q=>d U H λx H1=>a U H1 λl H2=>c U H2 λu b=>r x l u b Q
def XT (C:f6 X r) (n:PE X e te) (E:PO X lo tl) (k:PO X hi th):PE X (.Subscript e (.Slice lo hi y0 p2) pos) (B4 r te tl th):=by
 intro a s U H Q I h
 refine Subscript_ (aO (n a s U H _ I h) ?_)
 rintro v z ⟨x,y,w,B,J⟩
 refine wpAny_Slice (aO (E a z U y _ w J) λf K ⟨l,p,i,pl,G⟩=>aO (k a K U p _ i G) ?_)
 rintro d c ⟨u,g,t,j,A⟩
 refine wpAny_pure ?_
 have F:Inv X a U g { c with heap:=c.heap.push { cls:= .type "slice",data:= .fields #[f,d,.none] } }:=t.kept fun b L q=>Heap.get?_push_of_some _ q
 obtain⟨T,id,m,D,o⟩:=C a { c with heap:=c.heap.push { cls:= .type "slice",data:= .fields #[f,d,.none] } } U g x v f d l u c.heap.objs.size Q F B (Heap.IsSliceOf.new ..) pl j A
 exact tail_any D m o (by with_unfolding_all rfl)
noncomputable def lD (xs:List V) (a b:Option Int):List V:=(xs.drop (HT.aX xs.length 0 a)).take (HT.aX xs.length xs.length b-HT.aX xs.length 0 a)
def qK (xs) (lo hi):(lD xs lo hi).length<=xs.length:=by
 unfold lD
 rw [Af6,Af7]
 lia
def o7 (K:Ab):V->Option Int->Option Int->Hp->VK->Prop:=λx lo hi H Q=> ∃a xs,x= .ref a/\cA K H a xs ∧
 ¬(HT.aX xs.length 0 lo=0/\HT.aX xs.length xs.length hi=xs.length)/\ ∀p,H p=y0->Q (.ref p) (aL H p (.tup (lD xs lo hi)))
def DB:f6 X (o7 X.K):=by
 intro e s U H x v w u o l sl Q I p n pl j h
 obtain⟨a,f,rfl,k,m,q⟩:=h
 cases p
 obtain⟨d,r,i,g⟩:=I.tuple k
 have c:d.toArray.size=f.length:=by rw [Ac0];exact r.length.symm
 refine⟨"tuple",_,PyProof.Rows.slot_tuple_getitem.lookup,i.typeIs,?_⟩
 refine HT.cD i n pl j (by rw [c];exact m) ?_ (by rw [c];exact g)
 rw [c]
 refine⟨.ref s.heap.objs.size,_,I.laid (λb t q=>Ab3 _ q) (Aa9 _) ?_,rfl,q _ (I.bc.fresh (Aa9 _))⟩
 exact⟨Ab5 (qK f o l) g,_,(r.drop _).take _,dh.new _ _⟩
def Bg (K:Ab):R2:=λx y H Q=> ∃a b xs ys,x= .ref a/\y= .ref b/\cA K H a xs/\cA K H b ys/\xs≠ []/\xs.length+ys.length<=sizeLine ∧
 (ys= []->Q (.ref a) H)/\(ys≠ []-> ∀p,H p=y0->Q (.ref p) (aL H p (.tup (xs++ys))))
def Vals.dB (r:Vals xs us):us= []↔xs= []:=by
 cases r with
 | nil=>simp
 | cons _ _=>simp
def AM:bH X (binaryOp .Add) (Bg X.K):=by
 intro f s U H x y v u Q I n k h
 obtain⟨a,b,A,B,rfl,rfl,l,m,j,g,r,p⟩:=h
 cases n
 cases k
 obtain⟨i,d,o,_⟩:=I.tuple l
 obtain⟨e,c,t,_⟩:=I.tuple m
 refine HT.gq o t (λz=>j (d.dB.mp z)) (λz=>⟨.ref a,H,I,rfl,r (c.dB.mp z)⟩) (λz=> ?_) (by rw [← d.length,←c.length];exact g)
 refine⟨.ref s.heap.objs.size,_,I.laid (λb C q=>Ab3 _ q) (Aa9 _) ?_,rfl,p (λw=>z (c.dB.mpr w)) _ (I.bc.fresh (Aa9 _))⟩
 exact⟨by rw [Aa8];exact g,_,d.append c,dh.new _ _⟩
end
noncomputable def dy (n:Nat) (i:Int):Option Nat:=if 0<=i then(if i<n then k0 i.toNat else y0)else if -(n:Int)<=i then k0 (i+n).toNat else y0
def aV {a:Type}(xs:List a) (i:Int):Option a:=(dy xs.length i).bind λj=>xs[j]?
def pN (h:dy n i=k0 j):seqIndex? i n=k0 j/\j<n/\ -(n:Int)<=i/\i<n:=by
 unfold dy at h
 by_cases b:0<=i
 ·rw [if_pos b]at h
  by_cases a:i<n
  ·rw [if_pos a]at h
   have e:=Ad5.inj h
   exact⟨by rw [seqIndex_of b a,e],by lia,by lia,a⟩
  ·rw [if_neg a]at h;cases h
 ·rw [if_neg b]at h
  by_cases a: - n<=i
  ·rw [if_pos a]at h
   have e:=Ad5.inj h
   exact⟨by rw [seqIndex_neg (by lia) a,e],by lia,a,by lia⟩
  ·rw [if_neg a]at h;cases h
def z7 (h:aV xs i=k0 v): ∃j,seqIndex? i xs.length=k0 j/\xs[j]? =k0 v/\j<xs.length/\ -(xs.length:Int)<=i/\i<xs.length:=by
 unfold aV at h
 cases e:dy xs.length i with
 | none=>rw [e]at h;cases h
 | some j=>
  rw [e]at h
  obtain⟨c,d,a,b⟩:=pN e
  exact⟨j,c,h,d,a,b⟩
def Qg {j:Nat}(h:xs[j]? =k0 v):aV xs (j:Int)=k0 v:=by
 have a:=(Aa1.mp h).1
 have e:dy xs.length j=k0 j:=by
  unfold dy
  rw [if_pos (by lia),if_pos (by lia)];simp
 unfold aV;rw [e];exact h
def ug (b:Expr):Prop:= ∀o i,subscripted b k9 o i=operate [o,i] (getItem o i)
def gg (X:Cx) (r:R2):Prop:=
 ∀(value a:Expr) (pins:List (Addr×Obj)) (s:Shared) (U:St) (H:Hp) (x y:V) (v u:Value) (Q:VK),Inv X pins U H s->RelV x v->RelV y u->r x y H Q →
  subscripted a k9 v u=operate [v,u] (getItem v u)->wpAny (model X.prog X.w) X.A (subscriptTail value a v u) (EP X pins U Q) X.xe s
def oa (X:Cx) (id:String) (r:V->List V->Hp->VK->Prop):Prop:=
 ∀(pins:List (Addr×Obj)) (s:Shared) (U:St) (H:Hp) (x:V) (xs:List V) (v:Value) (a:List Value) (Q:VK),Inv X pins U H s->RelV x v->Vals xs a->r x xs H Q →
  wpAny (model X.prog X.w) X.A (call (.builtin id) (v::a)) (EP X pins U Q) X.xe s
section
variable {X:Cx}{a b:Expr}{ta tb:TE}{pos:Pos}
def gg.or (h:gg X r) (h':gg X r'):gg X (λx y H Q=>r x y H Q\/r' x y H Q):=by
 intro a b c s U H x y v u Q I d e q f
 obtain q | q:=q
 ·exact h a b c s U H x y v u Q I d e q f
 ·exact h' a b c s U H x y v u Q I d e q f
def nY (l:gg X r) (j:PE X a ta) (i:PE X b tb) (g:ug b):PE X (.Subscript a b pos) (ly r ta tb):=by
 intro c s U H Q I h
 exact Subscript_ (oy j i I h λv u m x y f d k e q=>l a b c m U f x y v u Q d k e q (g _ _))
def tI (K:Ab):R2:=λx y H Q=> ∃p xs i v,x= .ref p/\y= .int i/\bu K H p xs/\aV xs i=k0 v/\Q v H
def sF (K:Ab):R2:=λx y H Q=> ∃p xs i v,x= .ref p/\y= .int i/\cA K H p xs/\aV xs i=k0 v/\Q v H
def uB:R2:=λx y H Q=> ∃z i c,x= .str z/\y= .int i/\z.length<=sizeLine/\aV z.cps.toList i=k0 c/\Q (.str ⟨#[c]⟩) H
def gy:gg X (tI X.K):=by
 intro f e a s U H x y v u Q I C n h k
 obtain⟨p,F,i,z,rfl,rfl,o,A,q⟩:=h
 cases C
 obtain⟨t,rfl⟩:=n
 obtain⟨c,r,pl,G⟩:=I.list o
 obtain⟨j,b,B,J,m,D⟩:=z7 A
 obtain⟨w,ew,d⟩:=r.get B
 have E:=r.length
 have K:=ZL
 have fin:EP X a U Q w s:=⟨z,H,I,d,q⟩
 by_cases l:0<=i
 ·have g:=by
   rw [seqIndex_of l D]at b
   exact Ad5.inj b
  exact item_listR pl.isList l (by lia) (by rw [g];simpa using ew) fin k
 ·have g:(i+ c.toArray.size).toNat=j:=by
   rw [seqIndex_neg (by lia) m]at b
   rw [Ac0,←E]
   exact Ad5.inj b
  exact subscriptTail_builtinR pl.isList.typeIs slot_list_getitem.lookup
   (wpAny_getItem_list_neg pl.isList (by lia) (by simp_all) (by lia) (by rw [g];simpa using ew) ⟨rfl,fin⟩) k
def ab:gg X (sF X.K):=by
 intro d c a s U H x y v u Q I o f h m
 obtain⟨p,C,i,z,rfl,rfl,k,l,q⟩:=h
 cases o
 obtain⟨t,rfl⟩:=f
 obtain⟨e,r,pl,D⟩:=I.tuple k
 obtain⟨j,g,n,E,B,G⟩:=z7 l
 obtain⟨w,ew,b⟩:=r.get n
 have A:=r.length
 have F:=ZL
 have fin:EP X a U Q w s:=⟨z,H,I,b,q⟩
 exact subscriptTail_builtinR pl.typeIs slot_tuple_getitem.lookup
  (getItem_tuple pl (by lia) (by lia) (by rw [Ac0,←A];exact g) (by simpa using ew) ⟨rfl,fin⟩) m
def oz:gg X uB:=by
 intro b a d s U H x y v u Q I n g h l
 obtain⟨z,i,c,rfl,rfl,w,k,q⟩:=h
 obtain⟨t,rfl⟩:=n
 obtain⟨r,rfl⟩:=g
 obtain⟨j,e,m,A,f,o⟩:=z7 k
 have p:z.cps.toList.length=z.length:=by simp [Str.length]
 rw [p]at e f o
 have B:=ZL
 exact tail_any (typeIs_str s z t) slot_str_getitem.lookup (getItem_str (by
  have e1:y9 (i< -(2 ^ 63:Int))=false:=decide_eq_false (by lia)
  have e2:y9 (i>=2 ^ 63)=false:=decide_eq_false (by lia)
  rw [e1,e2,Bool.or_false]) (by rw [e];simpa using m) ⟨.str ⟨#[c]⟩,H,I.tok _,⟨_,rfl⟩,q⟩) l
def IZ (K:Ab):R2:=λx y H Q=>tI K x y H Q\/sF K x y H Q\/uB x y H Q
def CF:gg X (IZ X.K):=gy.or (ab.or oz)
def FY (a:List Value) (n j) (u):Obj.mapSeq (·.setIfInBounds j u) { cls:= .type "list",data:= .seq a.toArray n }= { cls:= .type "list",data:= .seq (a.set j u).toArray n }:=by
 simp [Obj.mapSeq]
theorem Inv.lst (I:Inv X pins U H s) (h:H p=k0 (.lst xs)):
 ∃ i n,Vals xs i/\s.heap.get? p=k0 { cls:= .type "list",data:= .seq i.toArray n }/\xs.length<=sizeLine:=by
 obtain⟨z,i,n,r,e⟩:=I.bc p _ h
 exact⟨i,n,r,e,z⟩
def Inv.ig {c a:List Value}(I:Inv X pins U H s) (h:H p=k0 (.lst xs))
 (i:s.heap.get? p=k0 { cls:= .type "list",data:= .seq c.toArray n }) (d:f { cls:= .type "list",data:= .seq c.toArray n }= { cls:= .type "list",data:= .seq a.toArray n' }) (r:Vals ys a) (j:ys.length<=sizeLine) (t):
 Inv X pins U (aL H p (.lst ys)) { s with heap:=s.heap.update p f,toks:=t }:=by
 have e:(s.heap.update p f).get? p=k0 { cls:= .type "list",data:= .seq a.toArray n' }:=by
  rw [Heap.get?_update_self f i (by rw [d]<;>rfl),d]
 refine I.write (by rw [h];trivial) (.inl rfl) (λb u g q=>(Am7 _ _ (Ne.symm g)).trans q) ⟨_,e⟩ ?_
 exact⟨j,a,n',r,e⟩
def FW:V->V->V->Hp->(Hp->Prop)->Prop:=λo i v H Q=> ∃p xs k j,o= .ref p/\i= .int k/\H p=k0 (.lst xs)/\dy xs.length k=k0 j/\Q (aL H p (.lst (xs.set j v)))
def QT:m6 X FW:=by
 intro f s U H o i v E G u Q I w z rv h
 obtain⟨p,B,k,j,rfl,rfl,e,y,q⟩:=h
 cases w
 obtain⟨t,rfl⟩:=z
 obtain⟨a,n,r,d,C⟩:=I.lst e
 obtain⟨b,D,x,m⟩:=pN y
 have A:=r.length
 have F:=ZL
 have l:=
  I.ig e d (FY a n j u) (r.set rv j) (by simp_all) s.toks
 by_cases g:0<=k
 ·have c:=by
   rw [seqIndex_of g m]at b
   exact Ad5.inj b
  exact PySem.W.ki_setAt d g (by lia) (by simp_all) (by rw [c];exact⟨_,l,q⟩)
 ·have c:(k+ a.toArray.size).toNat=j:=by
   rw [seqIndex_neg (by lia) x]at b
   rw [Ac0,←A]
   exact Ad5.inj b
  exact PySem.W.ki_setBack d (by lia) (by simp_all) (by lia) (by rw [c];exact⟨_,l,q⟩)
def XZ (lo hi) (n):(sliceBounds lo hi y0 n).1=((HT.aX n 0 lo:Nat):Int)/\(sliceBounds lo hi y0 n).2.1=((HT.aX n n hi:Nat):Int)/\(sliceBounds lo hi y0 n).2.2=1:=by
 refine⟨?_,?_,rfl⟩
 ·cases lo with
  | none=>simp [sliceBounds,HT.aX]
  | some i=>
   simp [sliceBounds,HT.aX,if_true]
   by_cases h:i<0
   ·simp [h,if_true]<;>lia
   ·simp [h,if_false]<;>lia
 ·cases hi with
  | none=>simp [sliceBounds,HT.aX]
  | some i=>
   simp [sliceBounds,HT.aX,if_true]
   by_cases h:i<0
   ·simp [h,if_true]<;>lia
   ·simp [h,if_false]<;>lia
def xS (a:List Value) (lo hi):slicePick a.toArray lo hi y0=((a.drop (HT.aX a.length 0 lo)).take (HT.aX a.length a.length hi-HT.aX a.length 0 lo)).toArray:=by
 obtain⟨b,c,d⟩:=XZ lo hi a.toArray.size
 unfold slicePick
 rw [b,c,d]
 simp only [sliceRange_one,pick_run,Ac0]<;>rfl
def nh (K:Ab):V->Option Int->Option Int->Hp->VK->Prop:=λx lo hi H Q=> ∃a xs,x= .ref a/\bu K H a xs/\ ∀p,H p=y0->Q (.ref p) (aL H p (.lst (lD xs lo hi)))
def gL:f6 X (nh X.K):=by
 intro d s U H x v u t n j sl Q I o m pl f h
 obtain⟨a,k,rfl,i,q⟩:=h
 cases o
 obtain⟨g,r,e,l⟩:=I.list i
 have c:=r.length
 refine⟨"list",_,slot_list_getitem.lookup,e.isList.typeIs,?_⟩
 refine wpAny_getItem_list_slice e.isList m pl f .none (by simp) ?_ (by simp_all)
 rw [xS,←c]
 refine⟨.ref s.heap.objs.size,_,I.laid (λb p q=>Ab3 _ q) (Aa9 _) ?_,rfl,q _ (I.bc.fresh (Aa9 _))⟩
 exact⟨Ab5 (qK k n j) l,_,0,(r.drop _).take _,Ac4 _ rfl⟩
def jM:V->Bool
 | .aj=>u0
 | .bl _=>u0
 | .int _=>u0
 | .str _=>u0
 | _=>k9
noncomputable def gr:V->V->Bool
 | .aj,.aj=>u0
 | .bl a,.bl b=>a==b
 | .bl a,.int b=>(if a then 1 else 0)==b
 | .int a,.bl b=>a==(if b then 1 else 0)
 | .int a,.int b=>a==b
 | .str a,.str b=>a==b
 | _,_=>k9
def BW (e:RelV y u) (c:RelV x v) (f:jM y=u0) (fx:jM x=u0):SeqAt.EqAt A s u v (gr y x):=by
 cases y with
 | aj=>
  cases e
  cases x with
  | aj=>cases c;exact SeqAt.EqAt.same _
  | bl b=>cases c;exact SeqAt.EqAt.none_bool b
  | int b=>obtain⟨t,rfl⟩:=c;exact SeqAt.EqAt.none_int b t
  | str b=>obtain⟨t,rfl⟩:=c;exact SeqAt.EqAt.none_str b t
  | _=>exact absurd (fx) Ab2
 | bl a=>
  cases e
  cases x with
  | aj=>cases c;exact SeqAt.EqAt.bool_none a
  | bl b=>cases c;exact SeqAt.EqAt.bool_bool a b
  | int b=>obtain⟨t,rfl⟩:=c;exact SeqAt.EqAt.bool_int a b t
  | str b=>obtain⟨t,rfl⟩:=c;exact SeqAt.EqAt.bool_str a b t
  | _=>exact absurd (fx) Ab2
 | int a=>
  obtain⟨d,rfl⟩:=e
  cases x with
  | aj=>cases c;exact SeqAt.EqAt.int_none a d
  | bl b=>cases c;exact SeqAt.EqAt.int_bool a d b
  | int b=>obtain⟨t,rfl⟩:=c;exact SeqAt.EqAt.int_int a d b t
  | str b=>obtain⟨t,rfl⟩:=c;exact SeqAt.EqAt.int_str a d b t
  | _=>exact absurd (fx) Ab2
 | str a=>
  obtain⟨d,rfl⟩:=e
  cases x with
  | aj=>cases c;exact SeqAt.EqAt.str_none a d
  | bl b=>cases c;exact SeqAt.EqAt.str_bool a d b
  | int b=>obtain⟨t,rfl⟩:=c;exact SeqAt.EqAt.str_int a d b t
  | str b=>obtain⟨t,rfl⟩:=c;exact SeqAt.EqAt.str_str a d b t
  | _=>exact absurd (fx) Ab2
 | _=>exact absurd (f) Ab2
def iD (x:V) (u:Value):Bool:=match u with
 | .none=>gr .aj x
 | .bool b=>gr (.bl b) x
 | .int i _=>gr (.int i) x
 | .str z _=>gr (.str z) x
 | _=>k9
def uG (r:RelV y u) (f:jM y=u0):iD x u=gr y x:=by
 cases y with
 | aj=>cases r;rfl
 | bl b=>cases r;rfl
 | int i=>obtain⟨t,rfl⟩:=r;rfl
 | str z=>obtain⟨t,rfl⟩:=r;rfl
 | _=>exact absurd (f) Ab2
theorem JI : ∀ {xs}{i},Vals xs i->xs.all jM=u0->i.any (iD x)=xs.any λy=>gr y x
 | _,_,.nil,_=>rfl
 | y::xs,u::i,.cons r t,f=>by
  rw [Ah5,Aa0]at f
  rw [Af2,Af2,uG r f.1,JI t f.2]
theorem Zz (b:RelV x v) (fx:jM x=u0): ∀ {xs}{i},Vals xs i->xs.all jM=u0-> ∀u∈i,SeqAt.EqAt A s u v (iD x u)
 | _,_,.nil,_=>λu a=>by cases a
 | y::xs,u::i,.cons r t,f=>λc a=>by
  rw [Ah5,Aa0]at f
  rcases Ac.mp a with rfl | a
  ·rw [uG r f.1];exact BW r b f.1 fx
  ·exact Zz b fx t f.2 c a
def l0 (x:V) (xs:List V):Bool:=xs.any λy=>gr y x
def rK (K:Ab) (neg:Bool):R2:=λx y H Q=> ∃p xs,y= .ref p/\(bu K H p xs\/cA K H p xs)/\jM x=u0/\xs.all jM=u0/\Q (.bl (if neg then !l0 x xs else l0 x xs)) H
def KL:bH X (compareOp .In) (rK X.K k9):=by
 intro c s U H x y v u Q I d e h
 obtain⟨p,i,rfl,b,fx,fs,q⟩:=h
 cases e
 obtain b | b:=b
 ·obtain⟨a,r,pl,g⟩:=I.list b
  refine SeqAt.in_listAt _ pl.isList (λw f=>Zz d fx r fs w (by simp_all)) ⟨.bl _,H,I,rfl,?_⟩
  rw [show a.toArray.any _=a.any (iD x)by simp,JI r fs]
  exact q
 ·obtain⟨a,r,pl,g⟩:=I.tuple b
  refine SeqAt.in_tupleAt _ pl (λw f=>Zz d fx r fs w (by simp_all)) ⟨.bl _,H,I,rfl,?_⟩
  rw [show a.toArray.any _=a.any (iD x)by simp,JI r fs]
  exact q
def JY:bH X (compareOp .NotIn) (rK X.K u0):=by
 intro c s U H x y v u Q I d e h
 obtain⟨p,i,rfl,b,fx,fs,q⟩:=h
 cases e
 obtain b | b:=b
 ·obtain⟨a,r,pl,g⟩:=I.list b
  refine SeqAt.notIn_listAt _ pl.isList (λw f=>Zz d fx r fs w (by simp_all)) ⟨.bl _,H,I,rfl,?_⟩
  rw [show a.toArray.any _=a.any (iD x)by simp,JI r fs]
  exact q
 ·obtain⟨a,r,pl,g⟩:=I.tuple b
  refine SeqAt.notIn_tupleAt _ pl (λw f=>Zz d fx r fs w (by simp_all)) ⟨.bl _,H,I,rfl,?_⟩
  rw [show a.toArray.any _=a.any (iD x)by simp,JI r fs]
  exact q
def j4:bH X (compareOp .NotIn) (λx y H Q=> ∃i j,x= .str i/\y= .str j/\Q (.bl (!(!(Builtin.Str.occurrences j i 0 j.length 1).isEmpty))) H):=by
 intro a s U H x y v u Q I c b h
 obtain⟨i,j,rfl,rfl,q⟩:=h
 obtain⟨t,rfl⟩:=c
 obtain⟨d,rfl⟩:=b
 exact notIn_str ⟨.bl _,H,I,rfl,q⟩
def wV:zu X (.builtin "len") (fun xs H Q=> ∃p ys,xs= [.ref p]/\(bu X.K H p ys\/cA X.K H p ys)/\Q (.int ys.length) H):=by
 intro e s U H xs i Q I r h
 obtain⟨p,ys,rfl,b,q⟩:=h
 obtain⟨u,rfl,g⟩:=XL r
 cases g
 have j:=ZL
 obtain b | b:=b
 ·obtain⟨c,d,pl,f⟩:=I.list b
  have a:=d.length
  exact Calls.call_len_list pl.isList (by simp [Ac0]<;>lia) ⟨.int ys.length,H,I.tok _,⟨s.toks+1,by rw [Ac0,a]⟩,q⟩
 ·obtain⟨c,d,pl,f⟩:=I.tuple b
  have a:=d.length
  exact len_tuple pl (by simp [Ac0]<;>lia) ⟨.int ys.length,H,I.tok _,⟨s.toks+1,by rw [Ac0,a]⟩,q⟩
def W0:zu X (.builtin "len") (fun xs H Q=> ∃z,xs= [.str z]/\z.length<=sizeLine/\Q (.int z.length) H):=by
 intro a s U H xs b Q I r h
 obtain⟨z,rfl,c,q⟩:=h
 obtain⟨u,rfl,t,rfl⟩:=XL r
 have d:=ZL
 exact len_str (by lia) ⟨.int z.length,H,I.tok _,⟨_,rfl⟩,q⟩
def zV:zu X (.type "list") (fun xs H Q=> ∃p ys,xs= [.ref p]/\(bu X.K H p ys\/cA X.K H p ys)/\ ∀l,H l=none->Q (.ref l) (aL H l (.lst ys))):=by
 intro g s U H xs x Q I r h
 obtain⟨p,ys,rfl,i,q⟩:=h
 obtain⟨u,rfl,w⟩:=XL r
 cases w
 have fin: ∀ a,Vals ys a->ys.length<=sizeLine-> ∀ b c,_ →
  b.get? s.heap.objs.size=some { cls:= .type "list",dict:=none,data:= .seq a.toArray c,slots:= #[] }->EP X g U Q _ { s with heap:=b }:=fun a d j b c k e=>
  ⟨.ref s.heap.objs.size,_,I.laid k (Aa9 _) (show bb X.prog X.w _ b _ (.lst ys)from⟨j,a,c,d,e⟩),rfl,q _ (I.bc.fresh (Aa9 _))⟩
 obtain i | i:=i
 ·obtain⟨a,d,pl,j⟩:=I.list i
  have f:=d.length
  obtain⟨o,v,m,n,t⟩:=pl.isList
  exact call_list_seq p (.inl rfl) v m t (λb c k e=>fin a d j b c k e) (by simp_all)
 ·obtain⟨a,d,pl,j⟩:=I.tuple i
  have f:=d.length
  obtain⟨o,v,m,n,t⟩:=pl
  exact call_list_seq p (.inr rfl) v m t (λb c k e=>fin a d j b c k e) (by simp_all)
def Jg:zu X (.type "tuple") (fun xs H Q=> ∃p ys,xs= [.ref p]/\((bu X.K H p ys/\ ∀l,H l=none->Q (.ref l) (aL H l (.tup ys)))\/(cA X.K H p ys/\Q (.ref p) H))):=by
 intro a s U H xs v Q I r h
 obtain⟨p,ys,rfl,h⟩:=h
 obtain⟨u,rfl,n⟩:=XL r
 cases n
 obtain⟨d,q⟩ | ⟨d,q⟩:=h
 ·obtain⟨c,g,pl,j⟩:=I.list d
  have i:=g.length
  refine call_tuple_list pl.isList (λf t=> ?_) (by simp_all)
  have k:Inv X a U H { s with heap:=f }:=I.kept t
  have m:Inv X a U _ { s with heap:=f.push { cls:= .type "tuple",data:= .seq c.toArray } }:=
   k.laid (λb o e=>Ab3 _ e) (Aa9 _) (show bb X.prog X.w _ _ _ (.tup ys)from⟨j,c,g,dh.new _ _⟩)
  exact⟨.ref f.objs.size,_,m,rfl,q _ (k.bc.fresh (Aa9 _))⟩
 ·obtain⟨c,g,pl,j⟩:=I.tuple d
  exact call_tuple_same pl ⟨.ref p,H,I,rfl,q⟩
def n7 (K:Ab) (T:String) (x:V) (H:Hp):Prop:=match x with
 | .str _=>T= "str"
 | .int _=>T= "int"
 | .ref p=>(T= "list" /\ ∃xs,bu K H p xs)\/(T= "tuple" /\ ∃o,K.lookup p=some o/\o.cls= .type "tuple" /\o.dict=none) ∨
  (T= "dict" /\((∃ kvs,H p=some (.dK kvs))\/ ∃kvs,H p=some (.dT kvs)))\/(T= "set" /\ ∃S n,H p=some (.set S n))
 | _=>False
def vX (I:Inv X pins U H s) (r:RelV x v) (ty:n7 X.K T x H):
 s.TypeIs v T/\ ∀a,v= .ref a-> ∃ob,s.heap.get? a=k0 ob/\ob.dict=none:=by
 cases x with
 | str z=>
  obtain⟨t,rfl⟩:=r
  cases (ty)
  exact⟨typeIs_str s z t,λ_ e=>nomatch e⟩
 | int i=>
  obtain⟨t,rfl⟩:=r
  cases (ty)
  exact⟨typeIs_int s i t,λ_ e=>nomatch e⟩
 | ref p=>
  cases r
  obtain⟨rfl,k,h⟩ | ⟨rfl,o,b,j,d⟩ | ⟨rfl,b⟩ | ⟨rfl,S,n,b⟩:=ty
  ·obtain⟨g,_,pl,_⟩:=I.list h
   refine⟨pl.isList.typeIs,λa e=> ?_⟩
   cases e
   obtain⟨o,n,e,c,d,_⟩:=pl
   exact⟨o,e,d⟩
  ·refine⟨⟨o,I.ck p o b,j⟩,λa e=> ?_⟩
   cases e
   exact⟨o,I.ck _ o b,d⟩
  ·have z: ∃o,s.heap.get? p=k0 o/\o.ExactDict:=by
    obtain⟨f,b⟩ | ⟨f,b⟩:=b
    ·obtain⟨_,_,_,_,o,_,_,e,ex,_⟩:=I.bc p _ b
     exact⟨o,e,ex⟩
    ·obtain⟨_,_,_,_,o,_,_,e,ex,_⟩:=I.bc p _ b
     exact⟨o,e,ex⟩
   obtain⟨o,e,ex⟩:=z
   refine⟨⟨o,e,ex.1⟩,λa e2=> ?_⟩
   cases e2
   exact⟨o,e,ex.2.1⟩
  ·obtain⟨o,_,_,_,e,ex,_⟩:=I.bc p _ b
   refine⟨⟨o,e,ex.1⟩,λa e2=> ?_⟩
   cases e2
   exact⟨o,e,ex.2.1⟩
 | _=>exact False.elim ty
def Fq (K:Ab) (T:String) (r:V->List V->Hp->VK->Prop) (a:TE):TE:=λU H Q=>a U H λx H1=>n7 K T x H1/\r x [] H1 Q
def BB (K:Ab) (T:String) (r:V->List V->Hp->VK->Prop) (a:TE) (t:TA):TE:=λU H Q=>a U H λx H1=>n7 K T x H1/\t U H1 λxs H2=>r x xs H2 Q
variable {o e:Expr}{es:List Expr}{to:TE}{t:TA}{name:Str}{apos k7:Pos}{T id:String}{r:V->List V->Hp->VK->Prop}
def Fh (p:PlainAttrs T) (d:Slot T name id) (e:typeOf (.builtin id)=pure (.type "method_descriptor")) (k:oa X id r) (n:PE X o to)
 (c:attributeBase o name X.env (eval o X.env)=eval o X.env:=by rfl) (b:(apos.endLine==k7.line)=true:=by rfl):PE X (.Call (.Attribute o name apos) [] [] k7) (Fq X.K T r to):=by
 intro a s U H Q I h
 refine wpAny_Call_method0_late c b (aO (n a s U H _ I h) ?_)
 rintro v m ⟨x,l,f,g,ty,q⟩
 obtain⟨i,j⟩:=vX f g ty
 exact⟨T,id,p,d,e,i,j,Calls.callWith_builtin rfl (PySem.evalArgs_none (k a m U l x [] v [] Q f g .nil q))⟩
def ri (E:PlainAttrs T) (f:Slot T name id) (i:typeOf (.builtin id)=pure (.type "method_descriptor")) (z:oa X id r) (D:PE X o to) (C:PA X (e::es) t)
 (c:attributeBase o name X.env (eval o X.env)=eval o X.env:=by rfl)
 (d:((backTo k7 (starEach (e::es) X.env)).all (λx=> !x.1)&&(backToKw k7 (keywordEach [] X.env)).all (λx=>x.1.isSome)
   &&y9 ((e::es).length+([]:List Keyword).length+(if ([]:List Keyword).isEmpty then 0 else 1)<30))=true:=by rfl)
 (b:(apos.endLine==k7.line)=true:=by rfl) (w:starEach (e::es) X.env=(k9,eval e X.env)::starEach es X.env:=by rfl) (g:(backTo k7 (starEach es X.env)).any (·.1)=false:=by rfl):
 PE X (.Call (.Attribute o name apos) (e::es) [] k7) (BB X.K T r to t):=by
 intro a s U H Q I h
 refine wpAny_Call_method_late c d b rfl (aO (D a s U H _ I h) ?_)
 rintro v B ⟨x,A,k,l,ty,J⟩
 obtain⟨p,y⟩:=vX k l ty
 refine⟨T,id,E,f,i,p,y,?_⟩
 have j:=C k7 a B U A _ k J
 rw [w]at j ⊢
 refine Calls.callWith_builtin (by assumption) (Calls.evalArgs_plain ?_)
 exact aO j λn K ⟨q,u,m,F,G⟩=>z a K U u x q v n Q m l F G
end
def ij (X:Cx) (id:String) (r:V->List V->Hp->VK->Prop):Prop:=
 ∀(pins:List (Addr×Obj)) (s:Shared) (U:St) (H:Hp) (x:V) (xs:List V) (v:Value) (a:List Value) (Q:VK),Inv X pins U H s->RelV x v->Vals xs a->r x xs H Q →
  wpAny (model X.prog X.w) X.A (call (.builtin id) (v::a)) (EP X pins U Q) X.xe s
def Vals.one: ∀ {x}{i},Vals [x] i-> ∃u,i= [u]/\RelV x u
 | _,_,.cons r .nil=>⟨_,rfl,r⟩
theorem Vals.rep (h:Vals xs us): ∀k:Nat,Vals (Aa3 k xs).flatten (Aa3 k us).flatten
 | 0=> .nil
 | k+1=>by
  exact Vals.append h (Vals.rep h k)
theorem ZV (its): ∀ k (a:List Value),
 List.foldl (λj i=>j++i) a.toArray (Aa3 k its.toArray)=(a++(Aa3 k its).flatten).toArray
 | 0,a=>by simp
 | k+1,a=>by
  have e:a.toArray++its.toArray=(a++its).toArray:=by simp
  have e2:(a++its)++(Aa3 k its).flatten=a++(Aa3 (k+1) its).flatten:=by
   rw [Ae4,List.flatten_cons,Ae6]
  rw [← e2,←ZV its k (a++its),←e,Ae4,Ak2]
section
variable {X:Cx}{pins:List (Addr×Obj)}{U:St}{H:Hp}{s:Shared}{l b:Addr}{xs ys zs:List V}
def Inv.kA {b a:List Value}(I:Inv X pins U H s) (i:H l=k0 (.lst xs))
 (e:s.heap.get? l=k0 { cls:= .type "list",data:= .seq b.toArray n }) (g:f b.toArray=a.toArray) (h:Vals ys a) (j:ys.length<=sizeLine):
 Inv X pins U (aL H l (.lst ys)) { s with heap:=s.heap.update l (Obj.mapSeq f),toks:=t' }:=by
 have q:=PySem.IsL.update e f
 rw [g]at q
 refine I.write (by rw [i];exact trivial) (.inl rfl) (λk u d c=>(Am7 s.heap _ (Ne.symm d)).trans c) ⟨_,q⟩ ?_
 exact⟨j,a,_,h,q⟩
def Inv.kO (I:Inv X pins U H s) (a:Vals ys its) (b:ys.length<=sizeLine):
 Inv X pins U (aL H s.heap.objs.size (.lst ys)) { s with heap:=s.heap.push { cls:= .type "list",data:= .seq its.toArray },toks:=t' }:=
 I.laid (λ_ _ q=>Ab3 _ q) (Aa9 _) ⟨b,its,0,a,Ac4 _ rfl⟩
theorem Inv.fresh (I:Inv X pins U H s):H s.heap.objs.size=none:=I.bc.fresh (Aa9 _)
def Inv.iP (I:Inv X pins U H s) (a:H l=k0 (.lst xs)):xs.length<=sizeLine/\ ∃ i n,Vals xs i/\xs.length=i.length/\s.heap.get? l=k0 { cls:= .type "list",data:= .seq i.toArray n }:=by
 obtain⟨z,i,n,r,e⟩:=I.bc l _ a
 exact⟨z,i,n,r,r.length,e⟩
def tS (h:n<=sizeLine):Builtin.List.listTooLong n=false:=by
 exact decide_eq_false (by lia)
end
section
variable {X:Cx}
def BK:V->List V->Hp->VK->Prop:=λx a H Q=> ∃l xs y,x= .ref l/\a= [y]/\H l=k0 (.lst xs)/\xs.length<sizeLine/\Q .aj (aL H l (.lst (xs++ [y])))
def KJ:ij X "list.append" BK:=by
 intro b s U H x j v g Q I f rv h
 obtain⟨l,i,y,rfl,rfl,c,k,q⟩:=h
 cases f
 obtain⟨u,rfl,d⟩:=rv.one
 obtain⟨z,a,n,r,m,e⟩:=I.iP c
 refine call_meets F.slot_list_append ⟨_,e,rfl⟩ F.entry_list_append (F.args_list_append_2 _ _) (PySem.list_append l a.toArray n u (by simp_all)) ⟨e,?_⟩
 refine⟨.aj,_,I.kA c e (by simp) (r.append (.cons d .nil)) ?_,rfl,q⟩
 rw [Aa8,List.length_singleton]
 lia
def EM:V->List V->Hp->VK->Prop:=λx a H Q=> ∃l b xs zs,x= .ref l/\a= [.ref b]/\H l=k0 (.lst xs)/\H b=k0 (.lst zs)/\xs.length+zs.length<=sizeLine/\Q .aj (aL H l (.lst (xs++zs)))
def B9:ij X "list.extend" EM:=by
 intro g s U H x C v y Q I p rv h
 obtain⟨l,b,B,w,rfl,rfl,i,o,D,q⟩:=h
 cases p
 obtain⟨u,rfl,j⟩:=rv.one
 cases j
 obtain⟨z,c,n,r,E,e⟩:=I.iP i
 obtain⟨A,a,k,t,m,e2⟩:=I.iP o
 have f:c.toArray.size+a.toArray.size<=sizeLine:=by rw [Ac0,Ac0];lia
 have d: ¬(!c.toArray.isEmpty&&Builtin.List.listTooLong (c.toArray.size+a.toArray.size))=true:=by
  rw [tS f,Ah7]
  exact Ab2
 refine call_meets F.slot_list_extend ⟨_,e,rfl⟩ F.entry_list_extend (F.args_list_extend_2 _ _)
  (AutoSeq1.list_extend_list_list_0 l c.toArray n b a.toArray k d (by simp_all) (by lia)) ⟨e,e2,?_⟩
 refine⟨.aj,_,I.kA i e (by simp) (r.append t) ?_,rfl,q⟩
 rw [Aa8]
 lia
def yV (xs:List α) (k):(Aa3 k xs).flatten.length=k*xs.length:=by simp
end
end L2
namespace Att
open PySem PySem.W PySem.Calls PyProof.Rows
def WJ : ∀ ns vs,WellAll P h vs (ns.map WData.int)->IntsAre vs ns:=by
 intro ns
 induction ns with
 | nil=>
  intro vs w
  cases w
  exact .nil
 | cons n ns c=>
  intro vs w
  cases w with
  | cons a b=>
   cases a
   exact .cons _ _ (c _ b)
def Cu {l:OpenLaw}(v:l.most=k0 n)
 (b:l.row.toRowW.claim.pre args=u0) (i:WellAll P h vals args):
 ∃a vs ns,vals= [Value.ref a]/\args= [WData.list (ns.map WData.int)]/\h.get? a=k0 { cls:= .type "list",data:= .seq vs.toArray }/\IntsAre vs ns/\ns.length<=n:=by
 have g:WShape.hasAll [] args [.list .int]=true:=(pre_splitW b).1
 have m:=(pre_splitW b).2
 obtain⟨d,r,rfl,k,o⟩:=hasAllW_cons g
 obtain rfl:=hasAllW_nil o
 obtain⟨x,rfl,p⟩:=hasW_list k
 obtain⟨ns,rfl⟩:=items_int p
 have c:ns.length<=n:=by
  have f:=by
   have f:=(holds_andW m).1
   rw [v]at f
   exact f
  have j:=condW_of f (w_not (w_lt w_lit (w_len_list (w_arg rfl))))
  refine Nat.le_of_not_lt λq=> ?_
  have t:=by omega
  first
   | (rw [decide_eq_true t]at j)
   | (simp at j;lia)
 cases i with
 | cons s w=>
  cases w
  cases s with
  | list u e=>exact⟨_,_,ns,rfl,rfl,u,WJ ns _ e,c⟩
def Cv (l:OpenLaw) (args):l.row.toRowW.claim.post args (.bool u0) args=true:=
 postW_of
  (show WShape.has [] _ .bool=u0 by first | rfl | decide | simp [WShape.armsAll])
  (show (WTm.eq .res _).value [] { args:=args,res:=k0 _,after:=args }=k0 (.bool _)from w_eq_bool (w_res rfl) w_lit) rfl
def d0 {l:OpenLaw}
 (H:l.most=k0 n) (h:d.params.defaults= [])
 (call: ∀ w j i mg O M o V cd L a vs ns,
   Ground q loose [] XP w j mg O i.heap->YP w i.heap →
   i.heap.get? M=k0 o->o.data= .func (docDef d.name d.params d.body d.scope V cd L)->i.heap.CodeRec cd d.name->mg d.name=k0 (.ref M) →
   i.heap.get? a=k0 { cls:= .type "list",data:= .seq vs.toArray }->IntsAre vs ns->ns.length<=n->i.gens= #[] →
   codeAny (model l.prog w) callerA (.call (.ref M) ⟨[.ref a],[]⟩) (λr s'=>r= .ok (.ret (.bool u0))/\OldK i.heap s'.heap/\s'.os=i.os/\AllBare s'.gens) i):
 WalkO q loose XP YP l.row.toRowW d [] (λf vs=>PySem.call f vs):=by
 intro w j i mg O G Y M o V cd L E kV F A k t p z v s K g u J m I
 obtain rfl:E= .none:=Dflts.none t h
 obtain rfl:kV= .none:=Dflts.noKw t
 obtain⟨a,vs,ns,rfl,rfl,e,b,c⟩:=Cu H g m
 refine enter_call (codeAny_mono (call w j i mg O M o V cd L a vs ns G Y F (fd_plain A) k p e b c z) λr s' y=> ?_)
 obtain⟨rfl,B,D,x⟩:=y
 exact⟨.inl ⟨.bool u0,.bool u0,[],rfl,λ_=>rfl,.bool u0,Cv l _,λ_=>⟨Ao2.nil,λ_ C=>(nomatch C)⟩⟩,B,D,x⟩
end Att
namespace L2
open PySem PySem.Spec PyProof.Rows
theorem Z1: ∀ {vs}{ns},IntsAre vs ns->Vals (ns.map V.int) vs
 | _,_,.nil=> .nil
 | _,_,.cons n t h=> .cons ⟨t,rfl⟩ (Z1 h)
def nK (H:Hp):Prop:= ∀b,H b=y0\/ ∃o xs,H b=k0 (.d8 o (.lst xs))
def BV {K:Ab}
 (S:K.In s₁.heap) (E:s₁.heap.Ns mainGlobals mg) (c:s₁.heap.Ns builtinsNs mb) (J: ∀x:Str,x≠ "__name__" ->mb x=bootBuiltins x) (y:s₁.heap.NoLimit) (hg:s₁.gens= #[])
 (G:s₁.heap.get? a=k0 { cls:= .type "list",data:= .seq vs.toArray }) (R:IntsAre vs ns) (U:ns.length<=sizeLine) (hr:a0 k callerA)
 (F: ∀base:Heap,K.In base->base.Ns mainGlobals mg->ZF P w K mg base CX k fa fd [x] sp) (i: ∀ s u,BindsTo s fd ⟨[u],[]⟩ [(x,u)])
 (M: ∀H:Hp,nK H->bu K H a (ns.map V.int)->sp [.ref a] H (λv _=>v= .bl u0) λ_ _ _=>False)
 (I: ∀H e s',CX [] H s₁ (λ_ _ _=>False) e s'->False):
 codeAny (model P w) callerA (.call (.ref fa) ⟨[.ref a],[]⟩) (λr s'=>r= .ok (.ret (.bool u0))/\OldK s₁.heap s'.heap/\s'.os=s₁.os/\AllBare s'.gens) s₁:=by
 have rv:=Z1 R
 have p:=R.length
 have g: ∀H:Hp,nK H->bu K H a (ns.map V.int)->c3 P w H s₁.heap->(∀ b,H b≠y0->b=a)->(H a≠y0->K.lookup a=y0) →
  codeAny (model P w) callerA (.call (.ref fa) ⟨[.ref a],[]⟩) (λr s'=>r= .ok (.ret (.bool u0))/\OldK s₁.heap s'.heap/\s'.os=s₁.os/\AllBare s'.gens) s₁:=by
  intro H T hS D Q hK
  have bz: ∀ {b}{o},s₁.heap.get? b=k0 o->H b=y0->(kg s₁.heap H).get? b=k0 o:=λe n=>Lo e n
  have O: ∀ {b}{o}{l}{t},s₁.heap.get? b=k0 o->o.data= .dict l t->H b=none:=λ{b o l t} e d=>by
   cases q:H b with
   | none=>rfl
   | some u=>
    have N:b=a:=Q b (by rw [q];simp)
    subst N
    rw [G]at e;cases e
    have W:Data.seq vs.toArray _=Data.dict l t:=d
    cases W
  have f: ∀ {b}{m},s₁.heap.Ns b m->(kg s₁.heap H).Ns b m:=λ{b m} ⟨o,l,t,e,d,r⟩=>⟨o,l,t,bz e (O e d),d,r⟩
  have A:K.In _:=λb o e=>bz (S b o e) (by
   cases q:H b with
   | none=>rfl
   | some u=>
    have N:b=a:=Q b (by rw [q];simp)
    subst N
    rw [hK (by rw [q];simp)]at e;cases e)
  have Z:Mod K mg _:=⟨A,f E,⟨mb,f c,J⟩,let ⟨mc,Y,h2⟩:=y; ⟨mc,f Y,h2⟩⟩
  have e0:dm P w K mg _ callerA [] s₁ H:=⟨rfl,Z,λb o e=>Ie e,Al0 (CC _ _),trivial,λb c=>absurd (show b∈([]:List Addr)from c) (by simp),D,.of_eq hg⟩
  refine codeAny_mono ((F _ A (f E)).run callerA [] s₁ H ⟨[.ref a],[]⟩ [.ref a] [.ref a] _ _ hr e0 (i s₁ _) (.cons rfl .nil) (M H T hS)) λr s' h=> ?_
  cases r with
  | error e=>exact(I H e s' h).elim
  | ok fl=>
   cases fl with
   | next=>exact False.elim h
   | brk=>exact False.elim h
   | cont=>exact False.elim h
   | ret u=>
    obtain⟨v,H',os,j,un,C,r',q⟩:=h
    have q':v= .bl true:=q
    subst q'
    obtain rfl:u=Value.bool true:=r'
    refine⟨rfl,OldK.of_keep λb o e=> ?_,os,j⟩
    cases q:H b with
    | none=>exact un.keep b o e q (by intro z;exact absurd (show b∈([]:List Addr)from z) (by simp)) (by simp)
    | some u=>
     obtain z | ⟨ob,xs,z⟩:=T b
     ·rw [q]at z;cases z
     ·have X:=un.dJ b ob _ z
      obtain⟨e1,_⟩:=D b _ z
      obtain⟨e2,_⟩:=C b _ X
      rw [e]at e1;cases e1
      exact e2
 cases L:K.lookup a with
 | some o=>
  have e:=S a o L
  rw [G]at e
  cases e
  refine g (λ_=>y0) (λ_=> .inl rfl) (.inr ⟨_,vs.toArray,_,L,rfl,rfl,rfl,by rw [Ac0,p];exact U,by simpa using rv⟩) (λb u z=>by have B:(none:Option HO)=k0 u:=z;cases B) (λb z=>absurd rfl z) λz=>absurd rfl z
 | none=>
  refine g (fun b=>if b=a then some (.d8 { cls:= .type "list",data:= .seq vs.toArray } _)else none) (fun b=> ?_) (.inl (.inr ⟨{ cls:= .type "list",data:= .seq vs.toArray },if_pos rfl⟩)) (fun b u z=> ?_) (fun b z=> ?_) fun _=>L
  ·by_cases c:b=a
   ·exact .inr ⟨_,_,if_pos c⟩
   ·exact .inl (if_neg c)
  ·by_cases c:b=a
   ·have B:=(if_pos c).symm.trans z
    cases B
    subst c
    exact⟨G,by rw [Aa];exact U,vs,_,rv,G⟩
   ·have B:=(if_neg c).symm.trans z
    cases B
  ·by_cases c:b=a
   ·exact c
   ·exact absurd (if_neg c) z
abbrev Mm {K:Ab}{h:Heap}(_:K.In h):Ab:=K
def gH {l:PySem.W.OpenLaw}{K:Params->Ab}{z:World->f7}{A:World->Sp}
 (P:l.most=k0 n) (m:n<=sizeLine) (r:d.params.defaults= []) (Q:a0 k callerA)
 (O: ∀ w h,YP w h->(K w.params).In h)
 (F: ∀ w mg j h,(K w.params).In h->h.Ns mainGlobals mg->mg d.name=k0 (.ref j) →
   ∃fd:FuncData,(∀ s u,BindsTo s fd ⟨[u],[]⟩ [(x,u)]) ∧
    ∀base:Heap,(K w.params).In base->base.Ns mainGlobals mg->ZF l.prog w (K w.params) mg base (z w) k j fd [x] (A w))
 (t: ∀ w H a (ns:List Int),ns.length<=n->nK H->bu (K w.params) H a (ns.map V.int)->A w [.ref a] H (λv _=>v= .bl u0) λ_ _ _=>False)
 (p: ∀ w H s e s',z w [] H s (λ_ _ _=>False) e s'->False):
 PySem.W.WalkO q loose XP YP l.row.toRowW d [] (λf vs=>PySem.call f vs):=by
 refine Att.d0 P r λw C g mg R j o T cd L a vs ns G Y U S J y i c b I=> ?_
 have B:=O w _ Y
 obtain⟨fd,M,E⟩:=F w mg j _ B G.T.g y
 exact BV B G.T.g G.T.b G.T.builtins G.T.nolimit I i c (Ab5 b m) Q E M (λH N D=>t w H a ns b N D) λH e s'=>p w H g e s'
noncomputable def yQ (s:Stmt):Arguments:=match s with
 | .FunctionDef _ a _ _ _ _ _ _ _ _=>a
 | _=> { posonlyargs:= [],args:= [],vararg:=y0,kwonlyargs:= [],kw_defaults:= [],kwarg:=y0,defaults:= [] }
def jK (s:Stmt):List Stmt:=match s with
 | .FunctionDef _ _ b _ _ _ _ _ _ _=>b
 | _=> []
noncomputable def Ql (s:Stmt):Scope:=match s with
 | .FunctionDef _ _ _ _ _ _ a _ _ _=>a
 | _=> { kind:= .function,names:= [],isGenerator:=k9,isCoroutine:=k9 }
abbrev kK:f7:=λ_ _ _ _ _ _=>False
abbrev E0:XK:=λ_ _ _=>False
structure l9 (K:Ab) (x y8:Str) (st:Stmt) (f:Addr) (fd:FuncData):Prop where
 ex: ∃(oc:Value) (od:Option Addr) (kV doc pm:Value) (an:Option Addr) (cdv ct:Value) (osl:Array (Option Value)),
  fd=PySem.W.fnOf x y8 (yQ st) (jK st) (Ql st) .none kV doc pm an cdv ct/\K.lookup f=k0 ⟨oc,od,.func fd,osl⟩/\PySem.W.codeIn K cdv y8=u0
 kp:Ah4 K (.ref f)=u0
def qr (h:n<=1000):n<sizeLine:=Ah6 h (by decide)
section
variable {X:Cx}
def pv (i)(d:X.N[i]? =some x:=by rfl) (b:lM X.env.scope x:=by first | exact Or.inl rfl | exact Or.inr (Or.inl rfl) | exact Or.inr (Or.inr rfl)) (c:(x==("__debug__" :Str))=false:=by decide)
 (a:(x==("__classdict__" :Str))=false:=by decide):PE X (.Name x pos) (mn i):=zH d b c a
end
def nM {A B:Prop}(h:B):if k9=u0 then A else B:=by
 exact h
def nW {A B:Prop}(h:A):if u0=u0 then A else B:=by
 exact h
end L2
set_option maxHeartbeats 4000000
namespace L2
open PySem PySem.Spec PyProof.Rows
noncomputable def Xe (env:Env) (a:List (Str×Addr)) (y:Str×NameKind):List (Str×Addr):=
 if y.2== .free then(match env.cells.lookup y.1 with | some c=>(y.1,c)::a | none=>a)else a
def zQ (a:Scope) (env:Env):List (Str×Addr):=a.names.foldl (Xe env) []
theorem tj : ∀(a:List (Str×NameKind)) i,(∀ y∈a,y.2= .free-> ∃c,env.cells.lookup y.1=k0 c) →
 (do
   let mut j:=i
   for (name,kind) in a do
    if kind== .free then j:=(name,←cellOf env name)::j
   return j:Sem (List (Str×Addr)))=pure (a.foldl (Xe env) i)
 | [],i,_=>by simp
 | (n,k)::r,i,h=>by
  have f:=λj=>tj r j λy l=>h y (Aa2 _ l)
  by_cases d:k= .free
  ·subst d
   obtain⟨c,b⟩:=h (n,.free) Aa4 rfl
   have b:=b
   have e:Xe env i (n,.free)=(n,c)::i:=by
    show(if (NameKind.free==NameKind.free)=u0 then(match env.cells.lookup n with | some c=>(n,c)::i | none=>i)else i)=_
    rw [if_pos (show (NameKind.free==NameKind.free)=u0 from rfl),b]
   rw [Ak2,e,←f]
   simp [cellOf,b]
  ·have g:(k==NameKind.free)=false:=by simpa using d
   have e:Xe env i (n,k)=i:=by
    show(if (k==NameKind.free)=u0 then _ else i)=_
    rw [g,if_neg Ab2]
   rw [Ak2,e,←f]
   simp [d]
def zS (h: ∀y∈scope.names,y.2= .free-> ∃c,env.cells.lookup y.1=k0 c):closureFor scope env=pure (zQ scope env):=
 tj scope.names [] h
theorem ZH : ∀(a:List (Str×NameKind)) i,(∀ x c,i.lookup x=k0 c->env.cells.lookup x=k0 c)-> ∀x c,(a.foldl (Xe env) i).lookup x=k0 c->env.cells.lookup x=k0 c
 | [],_,h=>h
 | (n,k)::r,i,h=>by
  refine ZH r (Xe env i (n,k)) λx c e=> ?_
  unfold Xe at e
  split at e
  ·split at e
   ·rename_i f d
    rw [Ab7]at e
    cases b:x==n with
    | true=>
     rw [b]at e
     have:x=n:=by simpa using b
     subst this
     cases e
     exact d
    | false=>rw [b]at e;exact h x c e
   ·exact h x c e
  ·exact h x c e
theorem zW (b:env.cells.lookup x=k0 c): ∀(a:List (Str×NameKind)) j,((x,.free)∈a\/ ∃i,j.lookup x=k0 i)-> ∃i,(a.foldl (Xe env) j).lookup x=k0 i
 | [],j,h=>h.elim (λz=>absurd z (by simp)) id
 | (n,k)::r,j,h=>by
  refine zW b r (Xe env j (n,k)) ?_
  have grow:(∃ i,j.lookup x=k0 i)-> ∃i,(Xe env j (n,k)).lookup x=k0 i:=by
   rintro ⟨i,e⟩
   unfold Xe
   split
   ·split
    ·rw [Ab7]
     cases x==n with
     | true=>exact⟨_,rfl⟩
     | false=>exact⟨i,e⟩
    ·exact⟨i,e⟩
   ·exact⟨i,e⟩
  rcases h with h | h
  ·rcases Ac.mp h with h | h
   ·cases h
    refine .inr ⟨c,?_⟩
    show Aj x (if (NameKind.free==NameKind.free)=u0 then(match env.cells.lookup x with | some c=>(x,c)::j | none=>j)else j)=_
    rw [if_pos (show (NameKind.free==NameKind.free)=u0 from rfl),b]
    simp
   ·exact .inl h
  ·exact .inr (grow h)
def x3 (I:Nat->Shared->Prop)
 (k: ∀n s,I n s->wpAny (model prog w) A (pyNext it) (λr L=>match r with
   | none=>R (.ok .next) L
   | some v=>wpAny (model prog w) A (letOwnedTupleGo tg it v) (λ_ i=>wpAny (model prog w) A (assign tg env v) (λ_ O=>
    wpAny (model prog w) A (forIn ifs u0 λc r=>if r=u0 then do let ok ←isTrue c env (eval c env);pure (ForInStep.yield ok)else pure (ForInStep.yield r)) (λok j=>
     if ok=u0 then wpAny (model prog w) A (eval elt env) (λx M=>
      wpAny (model prog w) A (call (.builtin "list.append") [acc,x]) (fun _ V=> ∃m,m<n/\I m V) (notedBy (model prog w) A env fun e s'=>R (.error e) s') M) (notedBy (model prog w) A env fun e s'=>R (.error e) s') j
     else ∃m,m<n/\I m j) (notedBy (model prog w) A env λe s'=>R (.error e) s') O) (notedBy (model prog w) A env λe s'=>R (.error e) s') i) (notedBy (model prog w) A env λe s'=>R (.error e) s') L) (notedBy (model prog w) A env λe s'=>R (.error e) s') s)
 (n) (h:I n s):codeAny (model prog w) A (.compLoop (.ListComp elt [⟨tg,iter,ifs,0⟩] scope pos) 0 it acc env) R s:=by
 refine codeAny_loop rfl I (λn s p=> ?_) n h
 refine wpAny_noted ?_
 rw [compTurn_list]
 refine wpAny_bind (wpAny_standAt (wpAny_bind (wpAny_mono (k n s p) (λr L d=> ?_) λ_ _ a=>a)))
 cases r with
 | none=>exact wpAny_pure d
 | some v=>
  refine wpAny_bind (wpAny_mono d (λ_ i f=> ?_) λ_ _ a=>a)
  refine wpAny_bind (wpAny_mono f (λ_ O g=>wpAny_bind (wpAny_mono g (λok j b=> ?_) λ_ _ a=>a)) λ_ _ a=>a)
  cases ok with
  | false=>exact wpAny_pure ⟨rfl,b⟩
  | true=>
   exact wpAny_bind (wpAny_bind (wpAny_mono b (λx M o=>wpAny_bind (wpAny_mono o (λ_ V l=>wpAny_pure (wpAny_pure ⟨rfl,l⟩)) λ_ _ a=>a)) λ_ _ a=>a))
theorem w6 : ∀ i n j,(x,NameKind.cell)∉i->(cellsFrom n i j).lookup x=j.lookup x
 | [],_,_,_=>rfl
 | (y,k)::r,n,j,h=>by
  unfold cellsFrom
  split
  ·rename_i a
   have a:=by simpa using a
   subst a
   rw [w6 r (n+1) _ λz=>h (Aa2 _ z),Ab7]
   cases b:x==y with
   | true=>
    have:x=y:=by simpa using b
    subst this
    exact absurd Aa4 h
   | false=>rfl
  ·exact w6 r n j λz=>h (Aa2 _ z)
theorem z8 : ∀ i (h:Heap) j L,(j.lookup x=k0 c->L\/(h.IsCell c y0/\(x,NameKind.cell)∈i\/h.IsCell c y0/\L))-> ∀lo,lo<=h.objs.size →
 (cellsFrom h.objs.size i j).lookup x=k0 c->j.lookup x=k0 c\/(lo<=c/\(x,NameKind.cell)∈i/\(pushCells h i).IsCell c y0)
 | [],_,_,_,_,_,_,e=> .inl e
 | (y,k)::r,h,j,L,n,lo,d,e=>by
  unfold cellsFrom at e
  unfold pushCells
  split at e
  ·rename_i a
   rw [if_pos a]
   have a:=by simpa using a
   subst a
   have e:(cellsFrom (h.push { cls:= .type "cell",data:= .cell none }).objs.size r ((y,h.objs.size)::j)).lookup x=some c:=by rw [Heap.size_push];exact e
   rcases z8 r (h.push { cls:= .type "cell",data:= .cell none }) _ True (fun _=> .inl trivial) lo (by rw [Heap.size_push];omega) e with q | ⟨m,g,l⟩
   ·rw [Ab7]at q
    cases f:x==y with
    | true=>
     rw [f]at q
     have:x=y:=by simpa using f
     subst this
     cases q
     exact .inr ⟨d,List.mem_cons_self,(show (h.push { cls:= .type "cell",data:= .cell none }).IsCell h.objs.size none from⟨_,Heap.get?_push_size _ rfl,rfl⟩).keeps fun b o e=>pushCells_keeps r _ b o e⟩
    | false=>
     rw [f]at q
     exact .inl q
   ·exact .inr ⟨m,Aa2 _ g,l⟩
  ·rename_i a
   rw [if_neg a]
   rcases z8 r h j True (λ_=> .inl trivial) lo d e with q | ⟨m,g,l⟩
   ·exact .inl q
   ·exact .inr ⟨m,Aa2 _ g,l⟩
theorem ou: ∀(j) (n) (i),(∀ x c,i.lookup x=k0 c->c<n)->(∀ x y c,i.lookup x=k0 c->i.lookup y=k0 c->x=y) →
 ∀x y c,(cellsFrom n j i).lookup x=k0 c->(cellsFrom n j i).lookup y=k0 c->x=y
 | [],_,_,_,a=>a
 | (z,k)::r,n,i,b,a=>by
  unfold cellsFrom
  split
  ·have look: ∀x c,((z,n)::i).lookup x=k0 c->(x=z/\c=n)\/(i.lookup x=k0 c):=λx c e=>by
    rw [Ab7]at e
    cases d:x==z with
    | true=>
     rw [d]at e
     cases e
     exact .inl ⟨by simpa using d,rfl⟩
    | false=>
     rw [d]at e
     exact .inr e
   refine ou r (n+1) _ (λx c e=> ?_) λx y c e1 e2=> ?_
   ·rcases look x c e with⟨_,q⟩ | q
    ·exact q▸Ag n
    ·exact Nat.lt_succ_of_lt (b x c q)
   ·rcases look x c e1 with⟨f,l⟩ | p<;>rcases look y c e2 with⟨h,g⟩ | q
    ·rw [f,h]
    ·exact absurd (l▸b y c q) (Ai3 _)
    ·exact absurd (g▸b x c p) (Ai3 _)
    ·exact a x y c p q
  ·exact ou r n i b a
theorem wO : ∀(a:List (Str×NameKind)) i,(a.foldl (Xe env) i).lookup x=k0 c->i.lookup x=k0 c\/(x,NameKind.free)∈a
 | [],_,h=> .inl h
 | (y,k)::r,i,h=>by
  rcases wO r _ h with q | q
  ·unfold Xe at q
   split at q
   ·rename_i b
    have b:=by simpa using b
    subst b
    split at q
    ·rw [Ab7]at q
     cases d:x==y with
     | true=>
      have:x=y:=by simpa using d
      subst this
      exact .inr Aa4
     | false=>
      rw [d]at q
      exact .inl q
    ·exact .inl q
   ·exact .inl q
  ·exact .inr (Aa2 _ q)
theorem ZX {env:Env}: ∀ {a:List (Str×NameKind)}{x},
 ((a.map λ(n,k)=>if(k==NameKind.free&&env.scope.kind== .function&&env.kindOf n==k0 .cell)then(n,NameKind.cell)else(n,k)).lookup x=k0 .cell ∨
   (a.map λ(n,k)=>if(k==NameKind.free&&env.scope.kind== .function&&env.kindOf n==k0 .cell)then(n,NameKind.cell)else(n,k)).lookup x=k0 .free)->(x,.free)∈a\/(x,.cell)∈a
 | [],_,h=>by simp at h
 | (n,k)::r,x,h=>by
  have e:= @ZX env r x
  rw [Ab1]at h
  by_cases b:(k==NameKind.free&&env.scope.kind== .function&&env.kindOf n==k0 .cell)=u0
  ·have f:=by
    rw [Aa0,Aa0]at b
    simpa using b.1.1
   subst f
   simp only [b,if_true,Ab7]at h
   cases c:x==n with
   | true=>
    have:x=n:=by simpa using c
    subst this
    exact .inl Aa4
   | false=>
    rw [c]at h
    exact(e h).imp (Aa2 _) (Aa2 _)
  ·have d:=Ak6.mpr b
   simp only [d,Ak3,if_false,Ab7]at h
   cases c:x==n with
   | true=>
    have:x=n:=by simpa using c
    subst this
    rw [c]at h
    rcases h with h | h
    ·have:k= .cell:=by simpa using h
     subst this
     exact .inr Aa4
    ·have:k= .free:=by simpa using h
     subst this
     exact .inl Aa4
   | false=>
    rw [c]at h
    exact(e (by simpa using h)).imp (Aa2 _) (Aa2 _)
theorem pX: ∀ {a:List (Str×NameKind)}{x}{k i},(a.map Prod.fst).Nodup->(x,k)∈a->(x,i)∈a->k=i
 | (y,j)::r,x,k,i,b,c,d=>by
  rw [Ab1,Ai]at b
  rcases Ac.mp c with e1 | e1<;>rcases Ac.mp d with e2 | e2
  ·cases e1;cases e2;rfl
  ·cases e1;exact absurd (Ab6.mpr ⟨_,e2,rfl⟩) b.1
  ·cases e2;exact absurd (Ab6.mpr ⟨_,e1,rfl⟩) b.1
  ·exact pX b.2 e1 e2
theorem nV: ∀ {a:List (Str×NameKind)}{x}{k},(a.map Prod.fst).Nodup->(x,k)∈a->a.lookup x=k0 k
 | (y,j)::r,x,k,b,h=>by
  rw [Ab1,Ai]at b
  rw [Ab7]
  rcases Ac.mp h with e | e
  ·cases e;simp
  ·have:(x==y)=false:=by
    cases c:x==y with
    | false=>rfl
    | true=>
     have:x=y:=by simpa using c
     subst this
     exact absurd (Ab6.mpr ⟨_,e,rfl⟩) b.1
   rw [this]
   exact nV b.2 e
def gY (a:Scope) (C:Addr) (env:Env):List (Str×Addr):=cellsFrom (C+1) a.names (zQ a env)
def QB 
 (d:Q (newEnv scope s.heap.objs.size globals (cellsFrom (s.heap.objs.size+1) scope.names cl) y8 y0 .none (k0 env) builtinsNs) { s with heap:=pushCells (s.heap.push { cls:= .type "dict",data:= .dict #[] }) scope.names }):
 wpAny M A (newFunctionEnv scope globals cl [] y8 y0 .none (k0 env)) Q E s:=by
 simp only [newFunctionEnv,Option.isSome_some,if_true]
 refine wpAny_bind (wpAny_alloc ?_)
 refine wpAny_bind (wpAny_layCells _ (λname a b=>by cases c:a==NameKind.cell<;>simp [c]) _ _ _ _ ?_)
 rw [show ({ s with heap:=s.heap.push { cls:= .type "dict",data:= .dict #[] } }:Shared).heap.objs.size=s.heap.objs.size+1 from Heap.size_push ..]
 refine wpAny_bind ?_
 exact wpAny_pure (wpAny_pure d)
noncomputable def Wd (X:Cx) (N:List Str) (a:Scope) (C:Addr) (b:List Addr) (s:Shared) (H:Hp):Cx where
 prog:=X.prog
 w:=X.w
 K:=X.K
 mg:=X.mg
 base:=X.base
 A:=X.A
 N:=N
 s₀:=s
 H₀:=H
 env:=compEnvC a (gY a C X.env) C X.env
 outer:=X.stack
 stack:=X.stack
 ex:=b
 fn:=λx=>y9 (a.names.lookup x=k0 .cell)
 calm:=X.calm
 pn:= []
 xe:=λ_ _=>False
def cz (X:Cx):List Nat->List Str->Prop
 | [],[]=>True
 | j::a,x::xs=>X.N[j]? =k0 x/\(X.env.kindOf x=k0 .cell\/X.env.kindOf x=k0 .free)/\cz X a xs
 | _,_=>False
theorem cz.get {U:St}: ∀ {aB}{xs}{i:Nat}{x}{v},cz X aB xs->xs[i]? =k0 x->(aB.map λj=>(U[j]?).join)[i]? =k0 (k0 v) →
 ∃j:Nat,X.N[j]? =k0 x/\U[j]? =k0 (k0 v)/\(X.env.kindOf x=k0 .cell\/X.env.kindOf x=k0 .free)
 | [],[],_,_,_,_,e,_=>by simp at e
 | [],_::_,_,_,_,h,_,_=>h.elim
 | _::_,[],_,_,_,h,_,_=>h.elim
 | j::b,a::xs,0,x,v,h,e1,e2=>by
  obtain⟨c,d,_⟩:=h
  simp at e1
  subst e1
  refine⟨j,c,?_,d⟩
  have e2:k0 ((U[j]?).join)=k0 (k0 v):=by simpa using e2
  have e2:=Ad5.inj e2
  cases q:U[j]? with
  | none=>rw [q]at e2;cases e2
  | some z=>rw [q]at e2;have:z=k0 v:=e2;rw [this]
 | j::b,a::xs,i+1,x,v,h,e1,e2=>cz.get h.2.2 (by simpa using e1) (by simpa using e2)
theorem cz.length : ∀ {aB}{xs},cz X aB xs->aB.length=xs.length
 | [],[],_=>rfl
 | [],_::_,h=>h.elim
 | _::_,[],h=>h.elim
 | _::_,_::_,h=>congrArg (· +1) (cz.length h.2.2)
def lX (k:Nat) (aB:List Nat) (U:St):St:=Aa3 k y0++aB.map λ(j:Nat)=>(U[j]?).join
def gv (X:Cx) (a:List Expr) (t:TT):Prop:=
 ∀(pins:List (Addr×Obj)) (s:Shared) (U:St) (H:Hp) (Q:Bool->Hp->Prop),Inv X pins U H s->t U H Q →
  wpAny (model X.prog X.w) X.A (forIn a u0 λc r=>if r=u0 then do let ok ←isTrue c X.env (eval c X.env);pure (ForInStep.yield ok)else pure (ForInStep.yield r)) (TP X pins U Q) X.xe s
def Fb:TT:=λ_ H Q=>Q u0 H
def ya :gv X [] Fb:=λ_ _ _ H _ I h=>wpAny_tests_nil ⟨H,I,h⟩
def rE (h:PT X c t):gv X [c] t:=λa s U H Q I b=>wpAny_tests_one (h a s U H Q I b)
def AQ (J:It) (g:TG) (j:TT) (l:TE) (e:St) (n:Hp) (Q:VK):Prop:= ∃W:Nat->Nat->List V->St->Hp->Prop,(∃ m,W 0 m [] e n)/\ ∀i m ys τ H,W i m ys τ H →
 (J.stop i H/\ys.length<=sizeLine/\ ∀D,H D=y0->Q (.ref D) (aL H D (.lst ys))) ∨
 (J.go i H/\ys.length<sizeLine/\ ∃N:List V->St->Hp->Prop,(∀ c d H',N c d H'-> ∃h,h<m/\W (i+1) h c d H') ∧
   ∀x H',J.eX i H x H'->g x τ H' λa H2=>j a H2 λb f=>if b=u0 then l a f λy k=>N (ys++ [y]) a k else N ys a f)
abbrev kf (a:Type):=Addr->List Addr->Shared->Hp->a
def mO (k:Nat) (aB:List Nat) (a:TI) (g:kf TG) (b:kf TT) (c:kf TE):TE:=λU H Q=>a U H λJ H1=> ∀C fp s,AQ J (g C fp s H1) (b C fp s H1) (c C fp s H1) (lX k aB U) H1 Q
def Inv.adopt (I:Inv X pins U H s) (m:bw X pins H D) (w:X.s₀.heap.objs.size<=D)
 (e:s.heap.get? D=k0 { cls:= .type "list",data:= .seq its.toArray n }) (r:Vals ys its) (v:ys.length<=sizeLine):Inv X pins U (aL H D (.lst ys)) s:=by
 obtain⟨A,l,E,F,i,C⟩:=m
 have up: ∀b o,H b=k0 o->aL H D (.lst ys) b=k0 o:=λb o q=>by rw [Qa (wb q A)];exact q
 have a: ∀b o,X.s₀.heap.get? b=k0 o->b≠D:=λb o q z=>by rw [z]at q;exact absurd (Ab4 (Ac1 q) w) (Ai3 _)
 refine⟨I.ok,I.os,I.bare,⟨I.base.keep,I.base.slot,λb o h y k=> ?_,I.base.there,λb f q=>up b _ (I.base.eA b f q),λb o u q=>up b _ (I.base.dJ b o u q),λb t q=> ?_⟩,I.loc,I.cell,?_,λx c q=> ?_,λp d=> ?_,λb u q=> ?_,I.len⟩
 ·rw [Qa (a b o h)];exact I.base.free b o h y k
 ·obtain⟨more,B⟩:=I.base.eh b t q
  exact⟨more,up b _ B⟩
 ·rw [Qa (Ne.symm l)];exact I.free
 ·rw [Qa (i x c q)];exact I.cJ x c q
 ·obtain⟨j,a2,a3⟩:=I.pin p d
  exact⟨j,by rw [Qa (C p d)];exact a2,a3⟩
 ·by_cases g:b=D
  ·subst g
   rw [Zc]at q
   cases q
   exact⟨v,its,n,r,e⟩
  ·rw [Qa g]at q
   exact(I.bc b u q).dO (λ_ _ _ z=>z) (λc z=>up c _ z) λc f z=>up c _ z
theorem Zj {env:Env}: ∀ {b:List (Str×NameKind)}{x},b.lookup x=k0 .free →
 ((b.map λ(n,k)=>if(k==NameKind.free&&env.scope.kind== .function&&env.kindOf n==k0 .cell)then(n,NameKind.cell)else(n,k)).lookup x=k0 .cell ∨
   (b.map λ(n,k)=>if(k==NameKind.free&&env.scope.kind== .function&&env.kindOf n==k0 .cell)then(n,NameKind.cell)else(n,k)).lookup x=k0 .free)
 | [],_,h=>by simp at h
 | (n,k)::r,x,h=>by
  have f:= @Zj env r x
  rw [Ab1]
  rw [Ab7]at h
  cases d:x==n with
  | true=>
   rw [d]at h
   have e:=by simpa using h
   subst e
   by_cases a:(NameKind.free==NameKind.free&&env.scope.kind== .function&&env.kindOf n==k0 .cell)=u0
   ·simp only [a,if_true,Ab7,d]
    first | exact .inl rfl | exact .inl trivial | simp
   ·have c:=Ak6.mpr a
    simp only [c,Ak3,if_false,Ab7,d]
    first | exact .inr rfl | exact .inr trivial | simp
  | false=>
   rw [d]at h
   have q:=f h
   by_cases a:(k==NameKind.free&&env.scope.kind== .function&&env.kindOf n==k0 .cell)=u0
   ·simp only [a,if_true,Ab7,d]
    exact q
   ·have c:=Ak6.mpr a
    simp only [c,Ak3,if_false,Ab7,d]
    exact q
structure qV (X:Cx) (scope:Scope) (N:List Str) (k:Nat) (aB:List Nat):Prop where
 kind:scope.kind= .function
 nd:(scope.names.map Prod.fst).Nodup
 names: ∀y∈scope.names,y.2= .local->scope.names.lookup y.1=k0 .local
 free: ∀y∈scope.names,y.2= .free->X.env.kindOf y.1=k0 .cell\/X.env.kindOf y.1=k0 .free
 gA: ∀x∈N.drop k,scope.names.lookup x=k0 .free
 aB:cz X aB (N.drop k)
 le:k<=N.length
structure Mx (sc scope:Scope) (N:List Str) (k:Nat):Prop where
 kind:scope.kind= .function
 nd:(scope.names.map Prod.fst).Nodup
 names: ∀y∈scope.names,y.2= .local->scope.names.lookup y.1=k0 .local
 free: ∀y∈scope.names,y.2= .free->sc.names.lookup y.1=k0 .cell\/sc.names.lookup y.1=k0 .free
 gA: ∀x∈N.drop k,scope.names.lookup x=k0 .free
 le:k<=N.length
section
variable {X:Cx}{elt tg iter:Expr}{ifs:List Expr}{scope:Scope}{pos p0:Pos}{N:List Str}{k:Nat}{aB:List Nat}{wi:TI}{g:kf TG}{tc:kf TT}{te:kf TE}
def AY (ok:qV X scope N k aB) (a:Inv X pins U H2 s2) (G: ∀b∈fp,bw X pins H2 b) (O: ∀b∈fp,b<s2.heap.objs.size)
 (s:s2.heap.objs.size<=C) (M:h₁.Ns C m) (f: ∀b o,s2.heap.get? b=k0 o->h₁.get? b=k0 o)
 (d: ∀x c,(gY scope C X.env).lookup x=k0 c->(zQ scope X.env).lookup x=k0 c\/(C+1<=c/\(x,NameKind.cell)∈scope.names/\h₁.IsCell c y0)):
 Inv (Wd X N scope C fp s2 H2) [] (lX k aB U) H2 { s2 with heap:=h₁,toks:=tk }:=by
 have sub: ∀x c,(zQ scope X.env).lookup x=k0 c->X.env.cells.lookup x=k0 c:=ZH scope.names [] λx c e=>by simp at e
 have F: ∀x,(x,NameKind.free)∈scope.names-> ∃c,(zQ scope X.env).lookup x=k0 c:=λx I=>by
  obtain⟨c,w⟩:=a.ok.has x (ok.free _ I rfl)
  exact zW w scope.names [] (.inl I)
 have lt: ∀x c,(zQ scope X.env).lookup x=k0 c->c<C+1:=λx c e=>by
  obtain⟨v,o,B,_⟩:=a.cell x c (sub x c e)
  exact Nat.lt_succ_of_le (Ab5 (Ag3 (Ac1 B)) s)
 have inj:=ou scope.names _ _ lt λx y c A H=>a.ok.inj x y c (sub x c A) (sub y c H)
 have keep: ∀x c,(x,NameKind.free)∈scope.names->(zQ scope X.env).lookup x=k0 c->(gY scope C X.env).lookup x=k0 c:=λx c I e=>by
  unfold gY
  rw [w6 scope.names _ _ λz=>by cases pX ok.nd I z]
  exact e
 have E: ∀x,_∈scope.names\/(x,NameKind.cell)∈scope.names-> ∃c,(gY scope C X.env).lookup x=k0 c:=λx h=>by
  rcases h with h | h
  ·obtain⟨c,w⟩:=F x h
   exact⟨c,keep x c h w⟩
  ·exact Ah9.mp (Am4 scope.names _ _ (.inl (nV ok.nd h)))
 refine⟨⟨a.ok.mod,ok.kind,a.ok.glob,a.ok.blt,s,inj,λx h=>E x (ZX h),λx c t e=> ?_,a.ok.hd,a.ok.frames,.inl rfl,λb n=>⟨?_,λx c e=> ?_⟩,
  λb o e=>a.bs b o e,Ab5 a.ok.g7 a.sz,λb o e n=> ?_,λb n z=>(Ac.mp (a.dw b z)).elim (G b n).2.1 (G b n).2.2.1,a.stack,a.eH⟩,
  rfl,a.bare,Un.kept f,⟨m,M,λi x v e1 e2 e3=> ?_⟩,λx c e=> ?_,a.bc.fresh s,λx c e=> ?_,λp Q=>absurd (show p∈([]:List _)from Q) (by simp),a.bc.kept f,?_⟩
 ·have t:=of_decide_eq_true t
  rcases d x c e with q | q
  ·rcases wO scope.names [] q with z | z
   ·simp at z
   ·have:=nV ok.nd z
    rw [t]at this
    cases this
  ·exact Ab5 s (Ab5 (Ag6 C) q.1)
 ·show b≠C
  exact Ac5 (Ab4 (O b n) s)
 ·rcases d x c e with q | q
  ·exact(G b n).2.2.2.2.1 x c (sub x c q)
  ·exact Ne.symm (Ac5 (Ab4 (O b n) (Ab5 s (Ab5 (Ag6 C) q.1))))
 ·rcases (G b n).2.2.2.1 with z | z
  ·exact a.ok.iq b o e z
  ·have A:=Ac1 e
   have H:=a.ok.g7
   exact absurd (Ab4 A (Ab5 H z)) (Ai3 _)
 ·have g:k<=i:=by
   by_cases g:i<k
   ·have e2:(Aa3 k y0++aB.map λ(j:Nat)=>(U[j]?).join)[i]? =k0 _:=e2
    rw [Ad2 (by simpa using g),Ai2,if_pos g]at e2
    cases e2
   ·omega
  have D:(N.drop k)[i-k]? =k0 x:=by
   rw [List.getElem?_drop,show k+(i-k)=i by omega];exact e1
  have K:(aB.map λ(j:Nat)=>(U[j]?).join)[i-k]? =k0 (k0 v):=by
   have e2:(Aa3 k y0++aB.map λ(j:Nat)=>(U[j]?).join)[i]? =k0 _:=e2
   rw [Ad9 (by simpa using g),Ad3]at e2
   exact e2
  obtain⟨j,S,R,P⟩:=ok.aB.get (U:=U) D K
  obtain⟨Y,Z,V⟩:=a.loc
  obtain⟨u,r,l⟩:=V j x v S R (.inr (P.elim (λz=> .inl z) λz=> .inr z))
  refine⟨u,r,.inr ?_⟩
  have t:=ok.gA x (Ac3 D)
  refine⟨Zj t,?_⟩
  obtain⟨c,w⟩:=F x (PySem.mem_of_lookup t)
  refine⟨c,keep x c (PySem.mem_of_lookup t) w,?_⟩
  rcases l with⟨T,_⟩ | ⟨_,W,L,o,B,J⟩
  ·rcases P with z | z<;>(rw [T]at z;cases z)
  ·have d:=sub x c w
   rw [L]at d
   cases d
   exact⟨o,f _ o B,J⟩
 ·rcases d x c e with q | q
  ·obtain⟨v,o,B,J⟩:=a.cell x c (sub x c q)
   exact⟨v,o,f c o B,J⟩
  ·exact⟨y0,q.2.2⟩
 ·rcases d x c e with q | q
  ·exact a.cJ x c (sub x c q)
  ·exact a.bc.fresh (Ab5 s (Ab5 (Ag6 C) q.1))
 ·show(Aa3 k y0++aB.map λ(j:Nat)=>(U[j]?).join).length=N.length
  have A:=ok.aB.length
  have H:=ok.le
  rw [Aa8,Ad3,Aa,A,Af7]
  omega
def zZ (use) (hc:X.calm=u0) (ok:qV X scope N k aB) (hi:PI X tg iter wi)
 (hg: ∀C fp s H,PG (Wd X N scope C fp s H) tg (g C fp s H)) (ht: ∀C fp s H,gv (Wd X N scope C fp s H) ifs (tc C fp s H)) (he: ∀C fp s H,PE (Wd X N scope C fp s H) elt (te C fp s H))
 (hs: ∀x,foldedSetIterable iter X.env x=pure x)
 (I:Inv X pins U H s) (h:mO k aB wi g tc te U H Q)
 (fin: ∀(D C:Addr) (oC:Obj) (m:Str->Option Value) (H4:Hp) (s4:Shared),Inv X (pins++ [(C,oC)]) U H4 s4->bw X pins H4 C->Q (.ref D) H4->(∀ h:Heap,h.get? C=k0 oC->h.Ns C m) →
   compPost (model X.prog X.w) X.A X.xe use Q' (.ref D) C (.ok .next) s4):
 wpAny (model X.prog X.w) X.A (comprehension (.ListComp elt [⟨tg,iter,ifs,0⟩] scope pos) scope X.env p0 (newList []) k9 (eval iter X.env) use) Q' X.xe s:=by
 have hcl:closureFor scope X.env=pure _:=zS λy hy hf=>I.ok.has y.1 (ok.free y hy hf)
 refine wpAny_comprehension_free (use:=use) rfl hs hcl ok.kind ok.names (aO (hi pins s U H _ I h) λv s1 h1=>aO h1 λitv s2 h2=> ?_)
 obtain⟨it,fp,tn,J,H2,e,I2,T,st2,f2,hW⟩:=h2
 subst e
 refine wpAny_newObj_type (QB ?_)
 dsimp only
 generalize hHp:s2.heap.push { cls:= .type "list",dict:=none,data:= .seq ([]:List Value).toArray }=HP
 have hCs:HP.objs.size=s2.heap.objs.size+1:=by rw [← hHp,Ak8]
 generalize hDD:s2.heap.objs.size=D at hCs ⊢
 have hns0:(HP.push { cls:= .type "dict",data:= .dict #[] }).Ns HP.objs.size fun _=>none:=Heap.Ns.new HP _
 have hlk: ∀x c,(gY scope HP.objs.size X.env).lookup x=some c->(zQ scope X.env).lookup x=some c\/(HP.objs.size+1<=c/\(x,NameKind.cell)∈scope.names/\(pushCells (HP.push { cls:= .type "dict",data:= .dict #[] }) scope.names).IsCell c none):=fun x c e=>by
  refine z8 scope.names _ _ True (λ_=> .inl trivial) _ (by rw [Ak8];exact Aa9 _) ?_
  rw [Ak8]
  exact e
 generalize hh1:pushCells _ scope.names=h₁ at hlk ⊢
 have hns₁:h₁.Ns HP.objs.size λ_=>none:=by rw [← hh1];exact hns0.keeps (pushCells_keeps _ _)
 have hk1: ∀b o,HP.get? b=k0 o->h₁.get? b=k0 o:=λb o e=>by
  rw [← hh1]
  exact pushCells_keeps _ _ b o (Ab3 _ e)
 generalize hCC:HP.objs.size=C at hCs hns₁ hlk ⊢
 have hDC:D≠C:=by rw [hCs];exact Ac5 (Ag _)
 have hle:s2.heap.objs.size<=C:=by rw [hDD,hCs];exact Ag6 _
 have hleD:s2.heap.objs.size<=D:=Al0 hDD
 have fo: ∀b∈fp,b<D:=λb hb=>by
  obtain⟨o,eo,_⟩:=T.obj _ _ st2 b hb
  rw [← hDD]
  exact Ac1 eo
 have old: ∀b o,s2.heap.get? b=k0 o->h₁.get? b=k0 o:=λb o e=>by
  exact hk1 b o (hHp▸Ab3 _ e)
 have hacc:h₁.get? D=k0 { cls:= .type "list",data:= .seq ([]:List Value).toArray }:=by
  refine hk1 _ _ ?_
  rw [← hHp,←hDD]
  exact Ac4 _ rfl
 obtain⟨W,⟨m0,w0⟩,turn⟩:=hW C fp s2
 have I3:Inv _ [] _ H2 { s2 with heap:=h₁,toks:=s2.toks }:=
  AY ok I2 f2 (λb hb=>by rw [hDD];exact fo b hb) hle hns₁ old hlk
 have st3:tn 0 h₁:=T.keep _ _ _ st2 λb _ o e=>old b o e
 have hch: ∀b∈fp,_/\b≠X.env.locals/\(∀ x c,X.env.cells.lookup x=k0 c->c≠b)/\ ∀p∈X.pn++pins,p.1≠b:=λb hb=>⟨(f2 b hb).2.2.2.1,(f2 b hb).2.1,(f2 b hb).2.2.2.2.1,(f2 b hb).2.2.2.2.2⟩
 have FD: ∀ {H':Hp},H' D=y0->bw X pins H' D:=λhn=>I2.c7 hleD hn
 have FC: ∀ {H':Hp},H' C=y0->bw X pins H' C:=λhn=>I2.c7 hle hn
 have sub: ∀x c,(zQ scope X.env).lookup x=k0 c->X.env.cells.lookup x=k0 c:=ZH scope.names [] λx c e=>by simp at e
 have hDst:D∉e8 X.stack:=λz=>(Ac.mp (I2.dw D z)).elim (FD (H':=λ_=>y0) rfl).2.1 (FD (H':=λ_=>y0) rfl).2.2.1
 have hDc: ∀x c,(gY scope C X.env).lookup x=k0 c->c≠D:=λx c e=>by
  rcases hlk x c e with q | q
  ·exact(FD (H':=λ_=>y0) rfl).2.2.2.2.1 x c (sub x c q)
  ·exact Ne.symm (Ac5 (Ab4 (by rw [hCs];exact Nat.lt_succ_of_lt (Ag _)) q.1))
 have loop: ∀s₃:Shared,s₃= { s2 with heap:=h₁,toks:=s2.toks } →
  codeAny (model X.prog X.w) X.A (.compLoop (.ListComp elt [⟨tg,iter,ifs,0⟩] scope pos) 0 (.ref it) (.ref D) (compEnvC scope (gY scope C X.env) C X.env))
   (compPost (model X.prog X.w) X.A X.xe use Q' (.ref D) C) s₃:=by
  rintro s₃ rfl
  refine x3 (λn s'=> ∃i ys its kk τ H',Inv (Wd X N scope C fp s2 H2) [] τ H' s'/\tn i s'.heap/\(∀ b∈fp,H' b=y0)/\H' D=y0/\s'.heap.get? D=k0 { cls:= .type "list",data:= .seq (its:List Value).toArray kk }/\Vals ys its/\W i n ys τ H')
   ?_ m0 ⟨0,[],[],0,_,H2,I3,st3,λb hb=>(f2 b hb).1,I2.bc.fresh hleD,hacc,.nil,w0⟩
  rintro n s3 ⟨i,ys,its,kk,τ,H3,I3,st3,fr3,hD3,eD3,rv3,w3⟩
  have IP:Inv (Wd X N scope C fp s2 H2) [(D,{ cls:= .type "list",data:= .seq its.toArray kk })] τ H3 s3:=I3.bO fun p hp=>by
   have e:p=(D,{ cls:= .type "list",data:= .seq its.toArray kk }):=by simpa using hp
   subst e
   exact⟨eD3,hD3,hDC,hDst,λv z=>by cases z⟩
  have fpok: ∀ {H':Hp},(∀ b∈fp,H' b=y0)-> ∀b∈fp,bw (Wd X N scope C fp s2 H2) [(D,{ cls:= .type "list",data:= .seq its.toArray kk })] H' b:=fun {H'} hn b hb=>by
   refine⟨hn b hb,I3.ok.uc b hb |>.1,I3.ok.hU b hb,.inl hb,I3.ok.uc b hb |>.2,λp hp=> ?_⟩
   have e:p=(D,{ cls:= .type "list",data:= .seq its.toArray kk }):=by
    have hp:p∈([]:List (Addr×Obj))++ [(D,{ cls:= .type "list",data:= .seq its.toArray kk })]:=hp
    simpa using hp
   rw [e]
   exact Ne.symm (Ac5 (fo b hb))
  rcases turn i n ys τ H3 w3 with⟨stop,hz,q⟩ | ⟨go,hz,NN,hN,step⟩
  ·refine aO (T.done (Wd X N scope C fp s2 H2) rfl rfl rfl hc i _ s3 τ H3 _ IP (fpok fr3) st3 stop) ?_
   rintro r s4 ⟨hr,I4⟩
   subst hr
   have eD4:=(I4.pin _ (Ab0 _ Aa4)).1
   have I5:Inv X pins U H3 s4:=I2.kG (ch:=fp) I4.os I4.base I4.bc I4.bare hch
   have I6:=I5.adopt (FD hD3) (Ab5 I2.sz hleD) eD4 rv3 hz
   obtain⟨m,⟨oC,es,ep,hoC,hdC,hr⟩,_⟩:=I4.loc
   have fC:bw X pins (aL H3 D (.lst ys)) C:=FC (by rw [Qa (Ne.symm hDC)];exact I4.free)
   have I7:Inv X (pins++ [(C,oC)]) U (aL H3 D (.lst ys)) s4:=I6.bO λp hp=>(Ac8.mp hp).elim (λz=>I6.pin p (Ab0 _ z)) λz=>by
    have e:p=(C,oC):=by simpa using z
    subst e
    exact⟨hoC,fC.1,fC.2.1,fC.2.2.1,λv z=>by rw [hdC]at z;cases z⟩
   exact fin D C oC m _ s4 I7 fC (q D hD3) λh e=>⟨oC,es,ep,e,hdC,hr⟩
  ·refine aO (T.item (Wd X N scope C fp s2 H2) rfl rfl rfl hc i _ s3 τ H3 _ IP (fpok fr3) st3 go) ?_
   rintro r s4 ⟨u,hr,h4⟩
   subst hr
   refine aO h4 ?_
   rintro _ s5 ⟨x,H5,I5,r5,y5,st5,fr5⟩
   have I5':=I5.pinned (fpok fr5) (T.obj _ _ st5)
   refine wpAny_mono (hg C fp s2 H2 _ s5 τ H5 x u _ I5' r5 (step x H5 y5)) (λ_ s6 ⟨U6,H6,I6,q6⟩=> ?_) λ_ _ z=>False.elim z
   refine wpAny_mono (ht C fp s2 H2 _ s6 U6 H6 _ I6 q6) (λb s7 ⟨H7,I7,q7⟩=> ?_) λ_ _ z=>False.elim z
   have hp5: ∀b∈fp,∃o,s5.heap.get? b=k0 o:=λb hb=>let ⟨o,e,_⟩:=T.obj _ _ st5 b hb; ⟨o,e⟩
   cases b with
   | false=>
    rw [if_neg Ab2]at q7 ⊢
    obtain⟨m',hm,w7⟩:=hN _ _ _ q7
    refine⟨m',hm,i+1,ys,its,kk,U6,H7,I7.bO λp hp=>absurd hp (by simp),T.keep _ _ _ st5 λb hb o e=>(I7.pin (b,o) (Ab0 _ (Ab0 _ (zg hb e)))).1,λb hb=> ?_,?_,?_,rv3,w7⟩
    ·obtain⟨o,e⟩:=hp5 b hb
     exact(I7.pin (b,o) (Ab0 _ (Ab0 _ (zg hb e)))).2.1
    ·exact(I7.pin _ (Ab0 _ (Ad0 _ Aa4))).2.1
    ·exact(I7.pin _ (Ab0 _ (Ad0 _ Aa4))).1
   | true=>
    rw [if_pos rfl]at q7 ⊢
    refine wpAny_mono (he C fp s2 H2 _ s7 U6 H7 _ I7 q7) (λy s8 ⟨yv,H8,I8,r8,q8⟩=> ?_) λ_ _ z=>False.elim z
    have pD:=I8.pin _ (Ab0 _ (Ad0 _ Aa4))
    have eD8:s8.heap.get? D=k0 { cls:= .type "list",data:= .seq its.toArray kk }:=pD.1
    have hD8:H8 D=none:=pD.2.1
    have u8:=rv3.length
    refine call_meets F.slot_list_append ⟨_,eD8,rfl⟩ F.entry_list_append (F.args_list_append_2 _ _) (PySem.list_append D its.toArray kk y (by rw [Ac0];omega)) ⟨eD8,?_⟩
    obtain⟨m',hm,w8⟩:=hN _ _ _ q8
    have IQ:Inv (Wd X N scope C fp s2 H2) (JN fp s5.heap) U6 H8 s8:=I8.bO λp hp=>I8.pin p (Ab0 _ (Ab0 _ hp))
    have e9:=PySem.IsL.update eD8 (·.push y)
    rw [show its.toArray.push y=(its++ [y]).toArray by simp]at e9
    have I9:Inv (Wd X N scope C fp s2 H2) (JN fp s5.heap) U6 H8 { s8 with heap:=s8.heap.update D (Obj.mapSeq (·.push y)),toks:=s8.toks }:=
     IQ.turned (it:=D) (λb o hb e=>(Am7 s8.heap (Obj.mapSeq (·.push y)) (Ne.symm hb)).trans e) hD8 hDC (.inr hleD) hDc λp hp=>by
      have hp:p∈([]:List (Addr×Obj))++JN fp s5.heap:=hp
      have:=fo p.1 (WY (by simpa using hp)).1
      exact Ac5 this
    refine⟨m',hm,i+1,ys++ [yv],its++ [y],_,U6,H8,I9.bO λp hp=>absurd hp (by simp),T.keep _ _ _ st5 λb hb o e=>(I9.pin (b,o) (Ab0 _ (zg hb e))).1,λb hb=> ?_,hD8,e9,rv3.append (.cons r8 .nil),w8⟩
    obtain⟨o,e⟩:=hp5 b hb
    exact(I9.pin (b,o) (Ab0 _ (zg hb e))).2.1
 exact codeAny_compStart_list (loop _ rfl) (T.self _ 0 _ _ _ st3 (loop _ rfl))
def F3 (ok:qV X scope N k aB) (l:PI X tg iter wi)
 (p: ∀C fp s H,PG (Wd X N scope C fp s H) tg (g C fp s H)) (w: ∀C fp s H,gv (Wd X N scope C fp s H) ifs (tc C fp s H)) (n: ∀C fp s H,PE (Wd X N scope C fp s H) elt (te C fp s H))
 (r:X.calm=true:=by rfl) (t: ∀x,foldedSetIterable iter X.env x=pure x:=by intro _;rfl):PE X (.ListComp elt [⟨tg,iter,ifs,0⟩] scope pos) (mO k aB wi g tc te):=by
 intro f s U H Q I h
 refine zZ y0 r ok l p w n t I h λD C y m u A i a q d=> ?_
 have j:=i.pin _ (Ab0 _ (Ab0 _ Aa4))
 refine⟨m,d _ j.1,λz c=>⟨.ref D,u,?_,rfl,q⟩⟩
 exact(i.bJ).turned (λb o v e=>c.extBut b o v e) a.1 a.2.1 a.2.2.2.1 a.2.2.2.2.1 a.2.2.2.2.2
def By (E:X.N.Nodup) (c:X.N[i]? =k0 x) (r:i9 X.env.scope x) (ok:qV X scope N k aB) (w:PI X tg iter wi)
 (A: ∀C fp s H,PG (Wd X N scope C fp s H) tg (g C fp s H)) (K: ∀C fp s H,gv (Wd X N scope C fp s H) ifs (tc C fp s H)) (z: ∀C fp s H,PE (Wd X N scope C fp s H) elt (te C fp s H))
 (f:swapsWith (.ListComp elt [⟨tg,iter,ifs,0⟩] scope p0) (k0 (.Name x pos')) pos.line X.env=pure true:=by rfl)
 (B:X.calm=true:=by rfl) (F: ∀x,foldedSetIterable iter X.env x=pure x:=by intro _;rfl) (p:X.fn x=u0\/X.env.scope.names.lookup x=k0 .local:=by first | exact .inl rfl | exact .inr rfl | assumption):
 PS X (.Assign [.Name x pos'] (.ListComp elt [⟨tg,iter,ifs,0⟩] scope p0) pos) (gU (mO k aB wi g tc te) (qY i)):=by
 intro l s U H D I h
 rw [exec_Assign_Name_used _ _ _ _ f]
 refine wpAny_bind (wpAny_standAt (wpAny_bind ?_))
 refine wpAny_bind (wpAny_mono (zZ _ B ok w A K z F I h λu C M m G R L a q j=> ?_) (λ_ Q y=>wpAny_pure (wpAny_pure y)) λ_ _ e=>e)
 refine wpAny_assign_Name (XS L E c r (v:= .ref u) rfl (λP n=> ?_) p)
 have t:=n.pin _ (Ab0 _ (Ab0 _ Aa4))
 refine⟨m,j _ t.1,λO d=>⟨_,G,?_,q⟩⟩
 exact(n.bJ).turned (λb o J e=>d.extBut b o J e) a.1 a.2.1 a.2.2.2.1 a.2.2.2.2.1 a.2.2.2.2.2
end
structure Mq (P:Program) (w:World) (K:Ab) (mg:Str->Option Value) (base:Heap) (k:Nat) (x:Str) (ps:List Str) (sp:Sp):Prop where
 ex: ∃f fd,ZF P w K mg base kK k f fd ps sp/\Binds K fd ps []/\Ah4 K (.ref f)=u0/\mg x=k0 (.ref f)
open PySem PySem.Spec PySem.Calls PySem.W PyProof.Rows
structure Ml (K:Frag) (C:Addr):Prop where
 ga:findIn K (.ref C) "__getattribute__" =some (some (.builtin "BaseException.__getattribute__"))
 gn:findIn K (.ref C) "__getattr__" =some none
 cl:findIn K (.ref C) "__class__" =some (some (.builtin "object.__class__"))
 get:specialIn K (.builtin "object.__class__") "__get__" =some (some (.builtin "getset_descriptor.__get__"))
 set:takesIn K (.builtin "object.__class__")=some true
 obj:mroIn K C (.type "object")=some true
 bas:mroIn K C (.type "BaseException")=some true
 slf:kitCls K (.ref C) (.ref C)=k0 u0
 cls:(clsIn K C).isSome=u0
section
variable {P:Program}{w:World}{K:Frag}{mg:Str->Option Value}{base:Heap}{N:List Str}{y8:Str}{scope:Scope}{f:Addr}{cd:Value}{A:Around}{outer:List Env}{s:Shared}{H:Hp}{E:XK}
abbrev pG:List Value:= [.type "ValueError",.type "Exception",.type "BaseException",.type "object"]
end
noncomputable def iK (x:Str):It:=⟨λi _=> ∃c,x.cps[i]? =k0 c,λi H y H'=>H'=H/\ ∃c,x.cps[i]? =k0 c/\y= .str ⟨#[c]⟩,λi _=>x.cps[i]? =y0⟩
def LX {K:PySem.W.Frag}(it) (x) (t):hY P w K tg (iK x) [it] it (λi h=>h.IsStrIter it "str_ascii_iterator" x t i) where
 mem:=by simp
 obj:=λi h a b g=>by
  have e:=by simpa using g
  subst e
  obtain⟨o,e,c,d⟩:=a
  exact⟨o,e,λv z=>by rw [d]at z;cases z⟩
 keep:=λi h y a k=>by
  obtain⟨o,e,c,d⟩:=a
  exact⟨o,k it (by simp) o e,c,d⟩
 item:=by
  intro X N G L B i f s U H E I l a q
  obtain⟨c,A⟩:=q
  obtain⟨m,r,F,u,n,p⟩:=l it (by simp)
  refine wpAny_pyNext_ascii_item a A λy j D=> ?_
  have J:Inv X f U H { s with heap:=y,toks:=s.toks+1 }:=I.turned (λb o g e=>(D.2 b g).trans e) m r u n p
  obtain⟨o,e,C,d⟩:=id j
  exact⟨_,rfl,kR e C d (by decide) ⟨.str ⟨#[c]⟩,H,J,⟨_,rfl⟩,⟨rfl,c,A,rfl⟩,j,λb g=>(l b g).1⟩⟩
 done:=by
  intro X N G L B i f s U H E I l a q
  obtain⟨m,r,F,u,n,p⟩:=l it (by simp)
  exact wpAny_pyNext_ascii_end (I.ok.hd B) a q λy M=>⟨rfl,I.turned (λb o g e=>M b o g e) m r u n p⟩
 self:=λ_ _ _ _ _ a h=>wpAny_pyIter_striter_ascii a h
def D5 {K:PySem.W.Frag}(it) (x) (t):hY P w K tg (iK x) [it] it (λi h=>h.IsStrIter it "str_iterator" x t i) where
 mem:=by simp
 obj:=λi h a b g=>by
  have e:=by simpa using g
  subst e
  obtain⟨o,e,c,d⟩:=a
  exact⟨o,e,λv z=>by rw [d]at z;cases z⟩
 keep:=λi h y a k=>by
  obtain⟨o,e,c,d⟩:=a
  exact⟨o,k it (by simp) o e,c,d⟩
 item:=by
  intro X N G L B i f s U H E I l a q
  obtain⟨c,A⟩:=q
  obtain⟨m,r,F,u,n,p⟩:=l it (by simp)
  refine wpAny_pyNext_wide_item a A λy j D=> ?_
  have J:Inv X f U H { s with heap:=y,toks:=s.toks+1 }:=I.turned (λb o g e=>(D.2 b g).trans e) m r u n p
  obtain⟨o,e,C,d⟩:=id j
  exact⟨_,rfl,kR e C d (by decide) ⟨.str ⟨#[c]⟩,H,J,⟨_,rfl⟩,⟨rfl,c,A,rfl⟩,j,λb g=>(l b g).1⟩⟩
 done:=by
  intro X N G L B i f s U H E I l a q
  obtain⟨m,r,F,u,n,p⟩:=l it (by simp)
  exact wpAny_pyNext_wide_end (I.ok.hd B) a q λy M=>⟨rfl,I.turned (λb o g e=>M b o g e) m r u n p⟩
 self:=λ_ _ _ _ _ a h=>wpAny_pyIter_striter_wide a h
def HB (K:Ab) (b:TE):TI:=λU H R=>b U H λx H1=>(∃ a,x= .ref a/\(∃ xs,bu K H1 a xs)/\R (iY K a) H1)\/(∃ a,x= .ref a/\(∃ xs,cA K H1 a xs)/\R (i7 K a) H1)\/ ∃z,x= .str z/\R (iK z) H1
def nG (w:PE X l tl):PI X tg l (HB X.K tl):=by
 intro g s U H R I h
 refine aO (w g s U H _ I h) ?_
 rintro v d ⟨x,i,c,m,y⟩
 obtain⟨a,e,⟨r,k⟩,q⟩ | ⟨a,e,⟨r,k⟩,q⟩ | ⟨z,e,q⟩:=y
 ·subst e
  cases m
  obtain⟨j,rv,p,u⟩:=c.list k
  refine wpAny_pyIter_list p.isList ?_
  refine⟨d.heap.objs.size,[d.heap.objs.size],_,_,i,rfl,c.kept λb o e=>Ab3 _ e,CN a _,⟨_,Ac4 _ rfl,rfl,rfl⟩,λb f=> ?_,q⟩
  have e:=by simpa using f
  subst e
  exact c.c7 (Aa9 _) (c.bc.fresh (Aa9 _))
 ·subst e
  cases m
  obtain⟨j,rv,p,u⟩:=c.tuple k
  refine wpAny_pyIter_tuple (p) ?_
  refine⟨d.heap.objs.size,[d.heap.objs.size],_,_,i,rfl,c.kept λb o e=>Ab3 _ e,Bl a _,⟨_,Ac4 _ rfl,rfl,rfl⟩,λb f=> ?_,q⟩
  have e:=by simpa using f
  subst e
  exact c.c7 (Aa9 _) (c.bc.fresh (Aa9 _))
 ·subst e
  obtain⟨t,rfl⟩:=m
  cases n:z.cps.all (· <128)with
  | true=>
   refine wpAny_pyIter_ascii n ?_
   refine⟨d.heap.objs.size,[d.heap.objs.size],_,_,i,rfl,c.kept λb o e=>Ab3 _ e,LX _ z t,⟨_,Ac4 _ rfl,rfl,rfl⟩,λb f=> ?_,q⟩
   have e:=by simpa using f
   subst e
   exact c.c7 (Aa9 _) (c.bc.fresh (Aa9 _))
  | false=>
   refine wpAny_pyIter_wide n ?_
   refine⟨d.heap.objs.size,[d.heap.objs.size],_,_,i,rfl,c.kept λb o e=>Ab3 _ e,D5 _ z t,⟨_,Ac4 _ rfl,rfl,rfl⟩,λb f=> ?_,q⟩
   have e:=by simpa using f
   subst e
   exact c.c7 (Aa9 _) (c.bc.fresh (Aa9 _))
section
variable {X:Cx}
def Vals.hX (r:Vals xs us){i:Nat}(h:us[i]? =k0 u): ∃x,xs[i]? =k0 x/\RelV x u:=by
 have d:=r.length
 have e:=(Aa1.mp h).1
 have a:i<xs.length:=by lia
 obtain⟨f,b,c⟩:=r.get (Aa7 a)
 rw [h]at b
 cases b
 exact⟨_,Aa7 a,c⟩
def CQ (bs:List Bool):(Aa5 bs.length).all (λi=>bs.getD i k9)=bs.all id:=by
 induction bs with
 | nil=>rfl
 | cons b bs a=>
  rw [Aa6,Ah2,Ah5,An0,Ah5,←a]
  rfl
def Hn (bs:List Bool):(Aa5 bs.length).any (λi=>bs.getD i k9)=bs.any id:=by
 induction bs with
 | nil=>rfl
 | cons b bs a=>
  rw [Aa6,Ah2,Af2,Ao8,Af2,←a]
  rfl
def jW {bs:List Bool}(r:Vals (bs.map V.bl) its):TruthOf P w A (λi v=>its.toArray[i]? =k0 v) (λi=>bs.getD i k9):=by
 intro i v s Q E d f
 obtain⟨x,a,g⟩:=r.hX (by simpa using d)
 rw [Ac2]at a
 cases c:bs[i]? with
 | none=>rw [c]at a;cases a
 | some b=>
  rw [c]at a
  cases a
  cases g
  refine wpAny_truthy_bool ?_
  have e:bs.getD i k9=b:=by rw [Ac6,c];rfl
  rw [← e]
  exact f
def HK (l:X.calm=u0):zu X (.builtin "all") (fun xs H Q=> ∃p,∃bs:List Bool,xs= [.ref p]/\bu X.K H p (bs.map V.bl)/\Q (.bl (bs.all id)) H):=by
 intro c s U H xs w Q I r h
 obtain⟨p,bs,rfl,j,q⟩:=h
 obtain⟨u,rfl,t⟩:=XL r
 cases t
 obtain⟨d,rv,pl,x⟩:=I.list j
 have a:=rv.length
 rw [Aa]at a
 refine call_all_walk (wpAny_pyIter_list pl.isList ?_)
 have f:p≠s.heap.objs.size:=by
  obtain⟨o,n,_⟩:=pl.isList
  exact Ac5 (Ac1 n)
 refine⟨s.heap.objs.size,_,_,_,_,_,λi=>bs.getD i k9,rfl,Walks.list (A:=X.A.in1) (I.ok.hd l) _ p f d.toArray,⟨⟨_,Ac4 _ rfl,rfl,rfl⟩,pl.isList.at λo e=>Ab3 _ e⟩,jW rv,λv g k=> ?_⟩
 have m:Inv X c U H { s with heap:=v,toks:=g }:=I.kept λb o e=>k b o (by simp;exact Ac5 (Ac1 e)) (Ab3 _ e)
 refine⟨.bl _,H,m,?_,q⟩
 show _=_
 rw [Ac0,←a,CQ]
def yD (l:X.calm=u0):zu X (.builtin "any") (fun xs H Q=> ∃p,∃bs:List Bool,xs= [.ref p]/\bu X.K H p (bs.map V.bl)/\Q (.bl (bs.any id)) H):=by
 intro c s U H xs w Q I r h
 obtain⟨p,bs,rfl,j,q⟩:=h
 obtain⟨u,rfl,t⟩:=XL r
 cases t
 obtain⟨d,rv,pl,x⟩:=I.list j
 have a:=rv.length
 rw [Aa]at a
 refine call_any_walk (wpAny_pyIter_list pl.isList ?_)
 have f:p≠s.heap.objs.size:=by
  obtain⟨o,n,_⟩:=pl.isList
  exact Ac5 (Ac1 n)
 refine⟨s.heap.objs.size,_,_,_,_,_,λi=>bs.getD i k9,rfl,Walks.list (A:=X.A.in1) (I.ok.hd l) _ p f d.toArray,⟨⟨_,Ac4 _ rfl,rfl,rfl⟩,pl.isList.at λo e=>Ab3 _ e⟩,jW rv,λv g k=> ?_⟩
 have m:Inv X c U H { s with heap:=v,toks:=g }:=I.kept λb o e=>k b o (by simp;exact Ac5 (Ac1 e)) (Ab3 _ e)
 refine⟨.bl _,H,m,?_,q⟩
 show _=_
 rw [Ac0,←a,Hn]
def gi:List Int->Int
 | []=>0
 | i::r=>i+gi r
theorem qW: ∀(xs) (x),gi (xs++ [x])=gi xs+x
 | [],x=>by simp [gi]
 | y::a,x=>by
  show y+gi (a++ [x])=y+gi a+x
  rw [qW a x];omega
theorem JH (ns:List Int): ∀j,j<=ns.length->preSum (λi=>ns.getD i 0) j=gi (ns.take j)
 | 0,_=>rfl
 | j+1,h=>by
  rw [preSum,JH ns j (by omega),List.take_succ,Aa7 (by omega)]
  show _=gi (ns.take j++ [ns[j]])
  rw [qW,Ac6,Aa7 (by omega)]
  rfl
end
section
variable {X:Cx}
theorem zD: ∀ {j}{i},Vals (j.map V.str) i->StrsAre i j
 | [],i,r=>by cases r;exact .nil
 | z::j,i,r=>by
  cases r with
  | cons h t=>
   obtain⟨k,rfl⟩:=h
   exact .cons _ _ (zD t)
theorem tu: ∀ {j}{i},StrsAre j i->Vals (i.map V.str) j
 | _,_,.nil=> .nil
 | _,_,.cons _ _ h=> .cons ⟨_,rfl⟩ (tu h)
def J1:zu X (.builtin "sorted") (fun xs H Q=> ∃p,∃j:List Str,xs= [.ref p]/\bu X.K H p (j.map V.str)/\j.length<64/\ ∀i,i.Perm j->sortedS i=true-> ∀l,H l=none->Q (.ref l) (aL H l (.lst (i.map V.str)))):=by
 intro f s U H xs x Q I r h
 obtain⟨p,j,rfl,m,v,q⟩:=h
 obtain⟨u,rfl,t⟩:=XL r
 cases t
 obtain⟨d,rv,pl,g⟩:=I.list m
 have c:=rv.length
 rw [Aa]at c
 refine sorted_strs pl.isList (zD rv) (by lia) λa i k a2 a3=> ?_
 obtain⟨e,n⟩:=sortedAll_at s.heap d a
 have w:i.length<=sizeLine:=by rw [a2.length_eq];rw [Aa]at g;exact g
 refine⟨.ref _,_,I.laid (λb o e=>sortedAll_old e) (Ag6 _) (show bb X.prog X.w _ _ _ (.lst _)from⟨by rw [Aa];exact w,a.toList,e,tu k,by simpa [seqObj]using n⟩),rfl,q i a2 a3 _ (I.bc.fresh (Ag6 _))⟩
end
section
variable {X:Cx}
def g9 (x:Str) (n:Nat):Str:=⟨(Aa3 n x.cps).foldl (· ++ ·) #[]⟩
theorem Z3 : ∀ n (a b:Array α),((Aa3 n a).foldl (· ++ ·) b).toList=b.toList++(Aa3 n a.toList).flatten
 | 0,a,b=>by simp
 | n+1,a,b=>by
  rw [Ae4,Ak2,Z3 n,Ae4,List.flatten_cons]
  simp
def wI (x) (n):(g9 x n).cps.toList=(Aa3 n x.cps.toList).flatten:=by
 unfold g9
 rw [Z3]
 simp
def CK (x) (n):(g9 x n).length=x.length*n:=by
 show(g9 x n).cps.size=x.cps.size*n
 rw [← Ai0,wI]
 simp [Al]
def uo {a b:Str}(h:a.cps.toList=b.cps.toList):a=b:=by
 cases a;cases b
 simp [Str.mk.injEq]
 exact Array.toList_inj.mp h
def Ek:bH X (binaryOp .Mult) (λx y H Q=> ∃z k,x= .str z/\y= .int k/\0<=k/\k<=1000/\z.length*k.toNat<=1000000/\Q (.str (g9 z k.toNat)) H):=by
 intro pins s U H x y v u Q I rx ry h
 obtain⟨z,k,rfl,rfl,h0,h1,hl,q⟩:=h
 obtain⟨t,rfl⟩:=rx
 obtain⟨t',rfl⟩:=ry
 have hsz:(g9 z k.toNat).length<=sizeLine:=by rw [CK];exact Ab5 hl (by decide)
 refine P.mul_str (by
  have a: ¬k< -(2 ^ 63:Int):=by lia
  have b: ¬k>=2 ^ 63:=by lia
  rw [decide_eq_false a,decide_eq_false b];rfl) (λc1 c2=> ?_) (λc1 c2=> ?_) ?_
 ·have hk:=by omega
  have:(2:Int) ^ 63-1>=(z.length:Int)*k:=by
   have e:((z.length*k.toNat:Nat):Int)=(z.length:Int)*k:=by rw [Int.natCast_mul,Int.toNat_of_nonneg h0]
   have:=hl
   lia
  have:=Int.le_ediv_of_mul_le (c:=k) (by omega) (by omega)
  lia
 ·unfold Builtin.Str.tooLong
  exact decide_eq_false (by have:sizeLine>=1000000:=by decide
                            lia)
 ·by_cases c1:k<1
  ·have hk:k=0:=by lia
   subst hk
   rw [if_pos c1]
   exact⟨by decide,.str _,H,I.kept λb o e=>e,⟨_,rfl⟩,q⟩
  ·rw [if_neg c1]
   by_cases c2:(k==1||z.length==0)=u0
   ·rw [if_pos c2]
    have e:g9 z k.toNat=z:=by
     apply uo
     rw [wI]
     obtain c | c:=Ao0.mp c2
     ·have:k=1:=by simpa using c
      subst this
      simp
     ·have:z.cps.toList= []:=by
       have c:z.length=0:=by simpa using c
       have c:z.cps.size=0:=c
       rw [← Ai0]at c
       exact Ai5 c
      rw [this]
      simp
    rw [e]at q
    exact⟨.str z,H,I,⟨t,rfl⟩,q⟩
   ·rw [if_neg c2]
    exact⟨hsz,.str _,H,I.kept λb o e=>e,⟨_,rfl⟩,q⟩
def AU:bH X (binaryOp .Add) (λx y H Q=> ∃a b ys,x= .ref a/\y= .ref b/\cA X.K H a []/\cA X.K H b ys/\Q (.ref b) H):=by
 intro k s U H x y v u Q I D r h
 obtain⟨a,b,ys,rfl,rfl,A,B,q⟩:=h
 cases D
 cases r
 obtain⟨p,C,E,_⟩:=I.tuple A
 obtain⟨c,J,G,_⟩:=I.tuple B
 cases C
 obtain⟨⟨F,dd,l,sl⟩,o,w,n,z⟩:=id E
 obtain⟨⟨m,i,j,f⟩,d,g,t,e⟩:=id G
 subst w z g e
 exact concat_meets ⟨_,o,rfl⟩ ⟨_,d,rfl⟩ noFill_tuple_add seq_tuple_add PySem.F.slot_tuple_add PySem.F.entry_tuple_add (PySem.F.args_tuple_add_2 _ _)
  (tuple_addW0 a b _ c.toArray n t dd i sl f rfl) ⟨o,d,.ref b,H,I,rfl,q⟩
def yM (y:X.calm=u0):zu X (.builtin "sum") (fun xs H Q=> ∃p,∃ns:List Int,xs= [.ref p]/\bu X.K H p (ns.map V.int)/\Q (.int (gi ns)) H):=by
 intro f s U H xs G Q I r h
 obtain⟨p,ns,rfl,n,q⟩:=h
 obtain⟨u,rfl,E⟩:=XL r
 cases E
 obtain⟨k,rv,pl,J⟩:=I.list n
 have a:=rv.length
 rw [Aa]at a
 refine call_sum_walkG (wpAny_pyIter_list pl.isList ?_)
 have d:p<s.heap.objs.size:=by
  obtain⟨o,C,_⟩:=pl.isList
  exact Ac1 C
 have j:s.heap.objs.size<(s.heap.push { cls:= .type "list_iterator",data:= .fields #[.ref p,.int 0 0] }).objs.size:=Heap.lt_size (Heap.get?_push_size _ rfl)
 refine⟨s.heap.objs.size,_,_,_,_,_,λi=>ns.getD i 0,rfl,Walks.list (A:=X.A.in1) (I.ok.hd y) _ p (Ac5 d) k.toArray,⟨⟨_,Ac4 _ rfl,rfl,rfl⟩,pl.isList.at λo e=>Ab3 _ e⟩,λb c=> ?_,λi v D=> ?_,λF l m w=> ?_⟩
 ·simp [or_false]at c
  obtain rfl | rfl:=c
  ·exact j
  ·exact Nat.lt_trans d j
 ·obtain⟨x,g,B⟩:=rv.hX (by simpa using D)
  rw [Ac2]at g
  cases c:ns[i]? with
  | none=>rw [c]at g;cases g
  | some b=>
   rw [c]at g
   cases g
   obtain⟨t,rfl⟩:=B
   exact⟨t,by show Value.int b t=Value.int (ns.getD i 0) t;rw [Ac6,c];rfl⟩
 ·have z:Inv X f U H { s with heap:=F,toks:=l }:=I.kept λb o e=>w b o (by simp;exact Ac5 (Ac1 e)) (Ab3 _ e)
  refine⟨.int _,H,z,⟨m,?_⟩,q⟩
  rw [Ac0,←a,JH ns _ (Aa9 _),Ap0]
theorem QN: ∀ {ns}{i},Vals (ns.map V.int) i-> ∃ps:List (Int×Tok),i=ps.map (λp=> .int p.1 p.2)/\ps.map (·.1)=ns
 | [],i,r=>by cases r;exact⟨[],rfl,rfl⟩
 | n::ns,i,r=>by
  cases r with
  | cons h t=>
   obtain⟨k,rfl⟩:=h
   obtain⟨ps,e1,e2⟩:=QN t
   exact⟨(n,k)::ps,by rw [e1];rfl,by rw [← e2];rfl⟩
def WF (lo) (d n) (a:d<=n):(match lo with | none=>(d:Int) | some i=>max 0 (min (if i<0 then i+n else i) n))=((HT.aX n d lo:Nat):Int)/\HT.aX n d lo<=n:=by
 cases lo with
 | none=>exact⟨rfl,a⟩
 | some i=>
  by_cases q:i<0
  ·simp [HT.aX,q,if_true];lia
  ·simp [HT.aX,q,if_false];lia
def QX (x:Str) (a b:Option Int):Builtin.Str.strSliceIndices a b 1 x.length=(Aa5 (HT.aX x.length x.length b-HT.aX x.length 0 a)).map λk=>HT.aX x.length 0 a+k:=by
 have d:=WF a 0 x.length (Af3 _)
 have c:=WF b x.length x.length (Aa9 _)
 have e:Builtin.Str.strSliceIndices a b 1 x.length=sliceRange ((HT.aX x.length 0 a)) ((HT.aX x.length x.length b)) 1:=by
  rw [← d.1,←c.1]
  cases a<;>cases b<;>rfl
 rw [e]
 unfold sliceRange
 simp only [show (1:Int)>0 by decide,if_true,Int.ediv_one,Int.one_mul]
 have e2:(if ((HT.aX x.length 0 a))<((HT.aX x.length x.length b:Nat):Int)then((HT.aX x.length x.length b))-((HT.aX x.length 0 a:Nat):Int)+1-1 else 0).toNat=HT.aX x.length x.length b-HT.aX x.length 0 a:=by
  split<;>lia
 rw [e2]
 refine Ai1 λk _=> ?_
 lia
noncomputable def kq (x:Str) (a b:Option Int):Str:=⟨((x.cps.toList.drop (HT.aX x.length 0 a)).take (HT.aX x.length x.length b-HT.aX x.length 0 a)).toArray⟩
def EN (x) (lo hi):Txt.slice x lo hi=kq x lo hi:=by
 have c:=(WF lo 0 x.length (Af3 _)).2
 have a:=(WF hi x.length x.length (Aa9 _)).2
 by_cases q:HT.aX x.length 0 lo<=HT.aX x.length x.length hi
 ·have e:=StrLaws.sliceText_nat x q a
  rw [show kq x lo hi=⟨((x.cps.toList.drop _).take _).toArray⟩from rfl,←e]
  unfold Txt.slice StrLaws.sliceText
  rw [QX x lo hi,StrLaws.strSliceIndices_plain q a]
 ·have b:HT.aX x.length x.length hi-HT.aX x.length 0 lo=0:=by lia
  unfold Txt.slice kq
  rw [QX x lo hi,b]
  rw [if_neg (by simp;lia)]
  simp
def oQ:V->Option Int->Option Int->Hp->VK->Prop:=λx lo hi H Q=> ∃z,x= .str z/\z.length<=sizeLine/\Q (.str (kq z lo hi)) H
def oH:f6 X oQ:=by
 intro a s U H x v r p i g sl Q I n c pl j h
 obtain⟨z,rfl,m,q⟩:=h
 obtain⟨t,rfl⟩:=n
 refine⟨"str",_,F.slot_str_getitem.lookup,typeIs_str _ _ _,?_⟩
 have fin: ∀f k,EP X a U Q (.str (Txt.slice z i g) f) { s with toks:=k }:=λf k=>by
  rw [EN]
  exact⟨.str _,H,I.kept (t':=k) λb o e=>e,⟨_,rfl⟩,q⟩
 have d:(Txt.slice z i g).length<=sizeLine:=Ab5 (Txt.slice_le z _ _) m
 cases pl<;>cases j
 ·exact wpAny_getItem_str_slice (l:=y0) (u:=y0) (st:=y0) c rfl (post_val_or_str ⟨d,fin⟩)
 ·exact wpAny_getItem_str_slice (l:=y0) (u:=k0 (_,_)) (st:=y0) c rfl (post_val_or_str ⟨d,fin⟩)
 ·exact wpAny_getItem_str_slice (l:=k0 (_,_)) (u:=y0) (st:=y0) c rfl (post_val_or_str ⟨d,fin⟩)
 ·exact wpAny_getItem_str_slice (l:=k0 (_,_)) (u:=k0 (_,_)) (st:=y0) c rfl (post_val_or_str ⟨d,fin⟩)
end
open PySem PySem.Spec PyProof.Rows PySem.MeetsSeq
section
variable {X:Cx}
def LD {e:Nat->Bool}(k:IsTup s.heap a k8)
 (o: ∀i y,k8[i]? =k0 y->PySem.SeqAt.EqAt A.in1 s y x (e i)) (r:j<k8.size) (d:e j=u0) (f: ∀i,i<j->e i=k9) (h: ∀t',Q (.int (j:Int) t') { s with toks:=s.toks+1 }):
 wpAny (model prog w) A (call (.builtin "tuple.index") [.ref a,x]) Q E s:=by
 refine wpAny_call_entry F.slot_tuple_index k.typeIs F.entry_tuple_index ?_ (F.args_tuple_index_2 _ _)
 refine wpAny_bind (wpAny_of_eq (show PySem.selfAndSome "tuple.index" "index" 1 3 ⟨[.ref a,x],[]⟩=pure (Value.ref a,[x])from rfl) ?_)
 refine wpAny_bind (tupleItemsOf_ k ?_)
 refine wpAny_bind (wpAny_pure (wpAny_bind (wpAny_pure (wpAny_bind ?_))))
 rw [Nat.min_self,Std.Legacy.Range.forIn_eq_forIn_range']
 refine wpAny_forIn_list _ (λjn b g=>g=s/\b=(y0,())/\ ∃i,i<=j/\jn=Ao i (k8.size-i)) _ ?_ ?_ _ _ ⟨rfl,rfl,0,Af3 _,by simp⟩
 ·rintro i jn b g ⟨rfl,rfl,i0,n,c⟩
  have e1:k8.size-i0=(k8.size-(i0+1))+1:=by lia
  rw [e1,Am6]at c
  injection c with m p
  subst m
  have l:i<k8.size:=by lia
  rw [Array.getElem?_eq_getElem l]
  refine wpAny_bind (o i k8[i] (Array.getElem?_eq_getElem l) prog w _ _ ?_)
  by_cases q:i=j
  ·subst q
   rw [d,if_pos rfl]
   refine wpAny_bind (wpAny_bind (wpAny_mkInt ?_))
   exact wpAny_pure (wpAny_pure (wpAny_pure ⟨_,rfl,h _⟩))
  ·rw [f i (by lia),if_neg Ab2]
   exact wpAny_pure ⟨rfl,rfl,i+1,by lia,p⟩
 ·rintro b g ⟨rfl,rfl,i0,n,c⟩
  have e1:k8.size-i0=(k8.size-(i0+1))+1:=by lia
  rw [e1,Am6]at c
  cases c
abbrev vA:=V->Hp->Prop
def mM (X:Cx) (T:String) (ty:vA):Prop:= ∀(pins:List (Addr×Obj)) (s:Shared) (U:St) (H:Hp) (x:V) (v:Value),Inv X pins U H s->RelV x v->ty x H->s.TypeIs v T/\ ∀a,v= .ref a-> ∃ob,s.heap.get? a=k0 ob/\ob.dict=y0
def yK (ty:vA) (r:V->List V->Hp->VK->Prop) (a:TE) (t:TA):TE:=λU H Q=>a U H λx H1=>ty x H1/\t U H1 λxs H2=>r x xs H2 Q
def lJ {T id:String}(E:PlainAttrs T) (f:Slot T name id) (i:typeOf (.builtin id)=pure (.type "method_descriptor")) (F:mM X T ty) (B:ij X id r) (D:PE X o to) (C:PA X (e::es) t)
 (c:attributeBase o name X.env (eval o X.env)=eval o X.env)
 (d:((backTo k7 (starEach (e::es) X.env)).all (λx=> !x.1)&&(backToKw k7 (keywordEach [] X.env)).all (λx=>x.1.isSome)
   &&y9 ((e::es).length+([]:List Keyword).length+(if ([]:List Keyword).isEmpty then 0 else 1)<30))=u0)
 (b:(apos.endLine==k7.line)=u0) (z:starEach (e::es) X.env=(k9,eval e X.env)::starEach es X.env) (g:(backTo k7 (starEach es X.env)).any (·.1)=k9):
 PE X (.Call (.Attribute o name apos) (e::es) [] k7) (yK ty r to t):=by
 intro a s U H Q I h
 refine wpAny_Call_method_late c d b rfl (aO (D a s U H _ I h) ?_)
 rintro v m ⟨x,l,k,n,M,K⟩
 obtain⟨u,A⟩:=F a m U l x v k n M
 refine⟨T,id,E,f,i,u,A,?_⟩
 have j:=C k7 a m U l _ k K
 rw [z]at j ⊢
 refine Calls.callWith_builtin (by assumption) (Calls.evalArgs_plain ?_)
 exact aO j λq L ⟨w,y,p,G,J⟩=>B a L U y x w v q Q p n G J
def yh (K:PySem.W.Frag) (H:Hp) (a:Addr):Prop:=(∃ xs,H a=some (.tup xs))\/ ∃o,K.lookup a=some o/\o.cls= .type "tuple" /\o.dict=none
def yO:mM X "tuple" (fun x H=> ∃a,x= .ref a/\yh X.K H a):=by
 intro f s U H x v I r h
 obtain⟨a,rfl,h⟩:=h
 cases r
 obtain⟨l,h⟩ | ⟨o,g,j,k⟩:=h
 ·obtain⟨_,i,_,o,e,c,d,n,m⟩:=I.bc a _ h
  refine⟨⟨o,e,c⟩,λb z=> ?_⟩
  cases z
  exact⟨o,e,d⟩
 ·refine⟨⟨o,I.ck a o g,j⟩,λb z=> ?_⟩
  cases z
  exact⟨o,I.ck _ o g,k⟩
def D3:mM X "str" (fun x _=> ∃z,x= .str z):=by
 intro a s U H x v I r h
 obtain⟨z,rfl⟩:=h
 obtain⟨t,rfl⟩:=r
 exact⟨typeIs_str s z t,λ_ e=>nomatch e⟩
def yp:mM X "list" (fun x H=> ∃a xs,x= .ref a/\bu X.K H a xs):=by
 intro d s U H x v I r h
 obtain⟨a,xs,rfl,h⟩:=h
 cases r
 obtain⟨f,_,pl,_⟩:=I.list h
 refine⟨pl.isList.typeIs,λb e=> ?_⟩
 cases e
 obtain⟨o,n,e,c,g,_⟩:=pl
 exact⟨o,e,g⟩
def ky (x:Str):List Str->Option Nat
 | []=>y0
 | y::ys=>if y=x then k0 0 else(ky x ys).map (· +1)
theorem rb : ∀ {L}{j},ky x L=k0 j->j<L.length/\L[j]? =k0 x/\ ∀i,i<j-> ∀y,L[i]? =k0 y->y≠x
 | [],_,h=>by cases h
 | y::g,j,h=>by
  unfold ky at h
  split at h
  ·rename_i q
   cases h
   exact⟨Nat.zero_lt_succ _,by simp [q],λi b=>absurd b (Ag5 _)⟩
  ·rename_i q
   obtain⟨k,e,rfl⟩:=Ag2.mp h
   obtain⟨d,c,f⟩:=rb e
   refine⟨Nat.succ_lt_succ d,by simpa using c,λi b z a=> ?_⟩
   cases i with
   | zero=>simp at a;rw [← a];exact q
   | succ i=>exact f i (by omega) z (by simpa using a)
def F7 (K:Ab):V->List V->Hp->VK->Prop:=λx c H Q=> ∃a z j,∃b:List Str,x= .ref a/\c= [.str z]/\cA K H a (b.map V.str)/\ky z b=k0 j/\Q (.int (j:Nat)) H
def Bd:ij X "tuple.index" (F7 X.K):=by
 intro l s U H x N v L Q I K rv h
 obtain⟨a,z,j,f,rfl,rfl,D,J,q⟩:=h
 cases K
 obtain⟨u,rfl,B⟩:=rv.one
 obtain⟨t,rfl⟩:=B
 obtain⟨g,r,p,O⟩:=I.tuple D
 obtain⟨M,F,G⟩:=rb J
 have m:=r.length
 have look: ∀(i:Nat) y,g.toArray[i]? =k0 y-> ∃w d,f[i]? =k0 w/\y=Value.str w d:=λi y k=>by
  obtain⟨P,e1,e2⟩:=r.hX (by simpa using k)
  rw [Ac2]at e1
  cases n:f[i]? with
  | none=>rw [n]at e1;cases e1
  | some b=>
   rw [n]at e1
   cases e1
   obtain⟨d,rfl⟩:=e2
   exact⟨b,d,rfl,rfl⟩
 refine LD (e:=λi=>y9 (f[i]? =k0 z)) p (λi y k=> ?_) (by simp_all) (decide_eq_true F) (λi C=> ?_) λd=>⟨.int j,H,I.kept λb o e=>e,⟨d,rfl⟩,q⟩
 ·obtain⟨w,d,e,rfl⟩:=look i y k
  have:=PySem.SeqAt.EqAt.str_str (A:=X.A.in1) (s:=s) w d z t
  have e2:y9 (f[i]? =k0 z)=(w==z):=by
   rw [e]
   by_cases q:w=z
   ·subst q;simp
   ·simp [q]
  rw [e2]
  exact this
 ·have E:=by omega
  exact decide_eq_false λc=>G i C z c rfl
def CY (K:Ab):V->List V->Hp->VK->Prop:=λx c H Q=> ∃a n,∃b:List Int,x= .ref a/\c= [.int n]/\bu K H a (b.map V.int)/\Q (.int ((b.count n:Nat):Int)) H
def BN:ij X "list.count" (CY X.K):=by
 intro d s U H x E v C Q I A rv h
 obtain⟨a,n,J,rfl,rfl,m,q⟩:=h
 cases A
 obtain⟨u,rfl,l⟩:=rv.one
 obtain⟨t,rfl⟩:=l
 obtain⟨j,r,pl,G⟩:=I.list m
 obtain⟨D,rfl,e2⟩:=QN r
 obtain⟨⟨B,dd,f,sl⟩,g,w,k,z⟩:=id pl.isList
 subst w z
 refine call_meets F.slot_list_count ⟨_,g,rfl⟩ F.entry_list_count (F.args_list_count_2 _ _) (PySem.SeqAt.list_countAt a _ k dd sl _ (λy=>match y with | .int i _=>i==n | _=>k9)) ⟨g,λy c=> ?_,?_⟩
 ·simp only [List.mem_toArray,Ab6]at c
  obtain⟨p,_,rfl⟩:=c
  exact PySem.SeqAt.EqAt.int_int p.1 p.2 n t
 ·refine⟨.int _,H,I.kept λb o e=>e,⟨s.toks,?_⟩,q⟩
  rw [← e2,List.count_eq_countP,List.countP_map]
  simp only [List.countP_map]
  rfl
end
section
variable {X:Cx}{pins:List (Addr×Obj)}{U:St}{H:Hp}{s:Shared}{h':Heap}
def Inv.gu (I:Inv X pins U H s) (k: ∀b o,b≠e->b≠it->s.heap.get? b=k0 o->h'.get? b=k0 o) (J:H it=y0) (y:H e=y0) (l:it≠X.env.locals) (f:e≠X.env.locals)
 (h1:it∈X.ex\/X.s₀.heap.objs.size<=it) (g:e∈X.ex\/X.s₀.heap.objs.size<=e) (A: ∀x c,X.env.cells.lookup x=k0 c->c≠it) (i: ∀x c,X.env.cells.lookup x=k0 c->c≠e) (C: ∀p∈X.pn++pins,p.1≠it) (j: ∀p∈X.pn++pins,p.1≠e):Inv X pins U H { s with heap:=h',toks:=t' }:=by
 have d: ∀b u,H b=k0 u->b≠e/\b≠it:=λb u q=>⟨λz=>(by simp_all),λz=>(by simp_all)⟩
 have h: ∀b o,b∉ [e,it]->s.heap.get? b=k0 o->h'.get? b=k0 o:=λb o a q=>k b o (λz=>a (by simp [z])) (λz=>a (by simp [z])) q
 refine I.step (λb D=> ?_) (λb o _ _ a e _=>h b o a e) (λb o _ _ a e _=>⟨o.slots,h b o a e⟩) (λ_ _ _ _ n=>n)
  (λb o a e=>⟨o,h b o a e⟩) (λ_ _ e=>e) (λ_ _ _ e=>e) (λb G e=>⟨#[],by rw [e];simp⟩) (λm B=> ?_) (λb u q=> ?_) I.bare
 ·obtain z | z:=Ac.mp D
  ·rw [z];exact⟨g,f,i,j⟩
  ·rw [Ac7.mp z];exact⟨h1,l,A,C⟩
 ·obtain⟨o,t,w,F,r⟩:=B
  exact⟨o,t,w,k _ o (Ne.symm f) (Ne.symm l) F,r⟩
 ·refine(I.bc b u q).dO (λc v a E=>k c v ?_ ?_ E) (λ_ q=>q) λ_ _ q=>q
  ·obtain z | z:=a
   ·rw [z];exact(d b u q).1
   ·exact(d c _ z).1
  ·obtain z | z:=a
   ·rw [z];exact(d b u q).2
   ·exact(d c _ z).2
end
def zM:bootBuiltins "enumerate" =some (.type "enumerate"):=by decide +kernel
def yZ (h:ItemsOf (λi v=> ∃t,v=Value.int (0+(i:Int)*1) t) acc n):Vals ((Aa5 n).map λ(i:Nat)=>V.int (i:Int)) acc.toList:=by
 have d: ∀ a k m,a.length=m->(∀ j v,a[j]? =k0 v-> ∃t,v=Value.int (k+j:Nat) t)->Vals ((Ao k m).map λ(i:Nat)=>V.int i) a:=by
  intro a
  induction a with
  | nil=>intro k m b _;cases b;exact .nil
  | cons x a g=>
   intro k m b c
   cases b
   refine .cons (c 0 x rfl) (g _ _ rfl λj v f=> ?_)
   obtain⟨t,e⟩:=c (j+1) v (by simp_all)
   exact⟨t,by rw [e];congr 1;lia⟩
 rw [An5]
 refine d acc.toList 0 n (by rw [Ai0];exact h.1) λj v f=> ?_
 obtain⟨t,e⟩:=h.2 j v (by simp_all)
 exact⟨t,by rw [e];congr 1;lia⟩
section
variable {X:Cx}
def FJ:bootBuiltins "range" =some (.type "range"):=by decide +kernel
end
def jL {e g:Option Int}(a:IsTup s.heap t vs) (f:s.heap.IsSliceOf sl vl vu .none) (pl:IsPart vl e) (i:IsPart vu g)
 (l:HT.aX vs.size 0 e=0) (h1:HT.aX vs.size vs.size g=vs.size) (h:Q (.ref t) s):wpAny (model prog w) A (getItem (.ref t) (.ref sl)) Q E s:=by
 obtain⟨j,d,c,k⟩:=id f
 have b:s.TypeIs (.ref sl) "slice" :=⟨j,d,c⟩
 unfold getItem
 try with_reducible refine wpAny_holding ?_
 refine wpAny_bind (wpAny_sequenceKey a.typeIs rfl (wpAny_bind (wpAny_callSpecial?_slot a.typeIs PyProof.Rows.slot_tuple_getitem
  (wpAny_call_entry PyProof.Rows.slot_tuple_getitem a.typeIs PyProof.Rows.entry_tuple_getitem ?_ (PyProof.Rows.args_tuple_getitem _ _)))))
 show wpAny _ _ (Builtin.Tuple.tupleItemsOf _ >>= _) _ _ s
 refine wpAny_bind (tupleItemsOf_ a (wpAny_bind (wpAny_typeOf b ?_)))
 refine wpAny_bind (HT.bI f pl i ?_)
 show wpAny _ _ (if _=u0 then _ else _) _ _ s
 rw [if_pos (by simp_all)]
 refine wpAny_bind (wpAny_bind (wpAny_typeOf a.typeIs (wpAny_pure ?_)))
 exact wpAny_bind (wpAny_rule (wpAny_pure ⟨_,rfl,wpAny_pure h⟩))
section
variable {X:Cx}
def oU (K:Ab):V->Option Int->Option Int->Hp->VK->Prop:=λx lo hi H Q=> ∃a xs,x= .ref a/\cA K H a xs/\HT.aX xs.length 0 lo=0/\HT.aX xs.length xs.length hi=xs.length/\Q (.ref a) H
def Bo:f6 X (oU X.K):=by
 intro d s U H x v u t p n sl Q I m k pl f h
 obtain⟨a,j,rfl,g,l,i,q⟩:=h
 cases m
 obtain⟨c,r,e,o⟩:=I.tuple g
 have b:c.toArray.size=j.length:=by rw [Ac0];exact r.length.symm
 refine⟨"tuple",_,PyProof.Rows.slot_tuple_getitem.lookup,e.typeIs,?_⟩
 exact jL e k pl f (by rw [b];exact l) (by rw [b];exact i) ⟨.ref a,H,I,rfl,q⟩
end
section
variable {X:Cx}
def C3:bootBuiltins "list" =some (.type "list"):=by decide +kernel
def L5 (b:TA):TE:=λU H Q=>b U H λa H1=> ∃n:Nat,a= [.int (n:Int)]/\n<=1000/\ ∀l,H1 l=y0->Q (.ref l) (aL H1 l (.lst ((Aa5 n).map λ(i:Nat)=>V.int (i:Int))))
def HG (A:X.calm=true) (x:Gl X "list") (C:X.mg "list" =none) (g:Gl X "range") (i:X.mg "range" =none) (D:PA X [a] ta) (B:starEach [a] X.env= [(false,eval a X.env)]):
 PE X (.Call (.Name "list" p) [.Call (.Name "range" p2) [a] [] pos2] [] pos) (L5 ta):=by
 intro c s U H Q I h
 refine Call_ (zE I x C C3 (PyProof.Rows.callWith_type1 (Calls.spliced_cons (Call_ (zE I g i FJ (PyProof.Rows.callWith_type1 (aO (D pos2 c s U H _ I h) λK m ⟨L,M,j,F,G⟩=> ?_) B rfl)))) rfl rfl))
 obtain⟨n,e,N,q⟩:=G
 subst e
 cases F with
 | cons r v=>
  cases v
  obtain⟨t,rfl⟩:=r
  refine call_range_1 (Calls.spliced_nil ?_)
  have k:Builtin.Range.rangeSize 0 n 1= n:=by
   unfold Builtin.Range.rangeSize
   simp
   lia
  refine call_list_range (j.ok.hd A) (IsRange.new ..) (small_one (by decide) (by decide) (by lia) (by lia)) k (by lia) λO J l u y w d=> ?_
  have E:=yZ d
  have f: ∀o:Obj,m.heap.objs.size<=(m.heap.push o).objs.size:=λo=>by rw [Ak8];exact Ag6 _
  refine⟨.ref _,_,j.laid (o:= .lst _) (λb o z=>y b o (Ab3 _ z)) (f _) ⟨by rw [Aa,Ah0,sizeLine_eq];lia,l.toList,u,E,by simpa using w⟩,rfl,q _ (j.bc.fresh (f _))⟩
end
section
variable {X:Cx}{pins:List (Addr×Obj)}{U:St}{H:Hp}{s:Shared}{h':Heap}
def Inv.b7 {ch:List Addr}(I:Inv X pins U H s) (k: ∀b o,b∉ch->s.heap.get? b=k0 o->h'.get? b=k0 o) (f: ∀b∈ch,bw X pins H b):Inv X pins U H { s with heap:=h',toks:=t' }:=by
 have d: ∀b u,H b=k0 u->b∉ch:=λb u q z=>by rw [(f b z).1]at q;cases q
 refine I.step (λb p=> ?_) (λb o _ _ a e _=>k b o a e) (λb o _ _ a e _=>⟨o.slots,k b o a e⟩) (λ_ _ _ _ n=>n)
  (λb o a e=>⟨o,k b o a e⟩) (λ_ _ e=>e) (λ_ _ _ e=>e) (λb C e=>⟨#[],by rw [e];simp⟩) (λm l=> ?_) (λb u q=> ?_) I.bare
 ·obtain⟨A,w,B,y,g,i⟩:=f b p
  exact⟨y,w,g,i⟩
 ·obtain⟨o,h,j,x,r⟩:=l
  exact⟨o,h,j,k _ o (λz=>(f _ z).2.1 rfl) x,r⟩
 ·refine(I.bc b u q).dO (λc v a t=>k c v ?_ t) (λ_ q=>q) λ_ _ q=>q
  obtain z | z:=a
  ·rw [z];exact d b u q
  ·exact d c _ z
end
end L2
set_option maxHeartbeats 8000000
namespace L2
open PySem PySem.Spec PyProof.Rows
open Sem (wp)
abbrev K2:=List (Int ⊕ List Int)
section
variable (prog:Program) (w:World)
inductive XU (h:Heap):K2->List Value->Prop
 | nil:XU h [] []
 | int {i:Int}{t:Tok}{ks:K2}{vs:List Value}:XU h ks vs->XU h (.inl i::ks) (.int i t::vs)
 | tup {l:List Int}{a:Addr}{ks:K2}{vs:List Value}:IsTupleKey (intKind prog w) h l a->XU h ks vs->XU h (.inr l::ks) (.ref a::vs)
end
abbrev WK:=Int×List Int×List Int
section
variable {X:Cx}{pins:List (Addr×Obj)}{U:St}{H:Hp}{s:Shared}{a b:Addr}{k:WK}{xs:List (WK×Addr×Value)}{r:Value}{A:Around}{E:Value->Shared->Prop}
def X8 (I:Inv X pins U H s):sysModules<s.heap.objs.size:=by
 have h:=(I.mod.glob.keeps I.bk).lt
 exact Nat.lt_trans (by decide) h
end
open PySem.AutoSeq1 (wpAny_loadPart')
open MeetsSeq MeetsSeq2 MeetsSeq3 SeqRoads2 PySem.SeqAt
open PySem PySem.Spec PyProof.Rows PyProof.Rows.KTD PyProof.V
section
variable {X:Cx}{pins:List (Addr×Obj)}{U:St}{H:Hp}{s:Shared}
theorem jP {K:Type} [DecidableEq K]: ∀(more a:List (K×Value)),((a++more).map (·.1)).Nodup->merged a more=a++more
 | [],a,_=>by simp [merged]
 | p::more,a,h=>by
  have e:stored a p.1 p.2=a++ [p]:=by
   unfold stored
   rw [if_neg]
   intro z
   obtain⟨b,c,e⟩:=Ad1.mp z
   rw [Af5,Aj2]at h
   exact h.2.2 b.1 (List.mem_map_of_mem c) p.1 (by simp) (of_decide_eq_true e)
  show merged (stored a p.1 p.2) more=_
  rw [e,jP more (a++ [p]) (by simpa using h)]
  simp
end
noncomputable def oh (K:Ab) (a:Addr):It:=
 ⟨λi H=> ∃xs x,bu K H a xs/\xs[i]? =k0 x,λi H x H'=> ∃p y,H p=y0/\x= .ref p/\H'=aL H p (.tup [.int (i:Int),y])/\ ∀xs,bu K H a xs->xs[i]? =k0 y,λi H=> ∃xs,bu K H a xs/\xs.length=i⟩
def C5 {K:Ab}(a it e) (t:e≠it):hY P w K (.Tuple elts x1 tp) (oh K a) [e,it] e (λi h=>(∃ j,IsEnum h e it (i:Int) j)/\h.IsListIter it a i) where
 mem:=by simp
 obj:=λi h l b G=>by
  obtain⟨⟨j,q⟩,⟨o,q2,c,d⟩⟩:=l
  rcases Ac.mp G with z | z
  ·subst z
   exact⟨_,q,λv z=>by cases z⟩
  ·rw [Ac7.mp z]
   exact⟨o,q2,λv z=>by rw [d]at z;cases z⟩
 keep:=λi h h' l k=>⟨let ⟨j,q⟩:=l.1; ⟨j,k e (by simp) _ q⟩,let ⟨o,q,r⟩:=l.2; ⟨o,k it (by simp) o q,r⟩⟩
 item:=by
  intro X hP T W hc i m s U H E I O l hg
  subst hP T W
  obtain⟨⟨j,B⟩,f⟩:=l
  obtain⟨xs,x,M,Y⟩:=hg
  obtain⟨g,rv,p,hz⟩:=I.list M
  obtain⟨u,hu,ru⟩:=rv.get Y
  have C:=p.isList
  have n:a≠it:=λz=>by
   obtain⟨o,q,c,_⟩:=C
   obtain⟨o',Z,D,_⟩:=f
   rw [z,Z]at q;cases q
   rw [c]at D;exact absurd D (by decide)
  have hae:a≠e:=λz=>by
   obtain⟨o,q,c,_⟩:=C
   rw [z,B]at q;cases q
   exact absurd (show Value.type "enumerate" =Value.type "list" from c) (by decide)
  obtain⟨f0,f1,f2,f3,f4,f5⟩:=O e (by simp)
  obtain⟨Q,g1,g2,g3,g4,g5⟩:=O it (by simp)
  have R:=by
   have:=Aa1.mp hu
   simpa using this.1
  have A:X.A.in1.handled=none:=I.ok.hd hc
  refine wpAny_pyNext_enum_itemD (Draws.list A it a n g.toArray) B ⟨f,C⟩ R t (by simp [t,Ne.symm hae]) λy h1 J L ho S hT hsz hk=> ?_
  have ey:y=u:=by
   rw [List.getElem?_toArray]at L
   rw [hu]at L;cases L;rfl
  subst ey
  refine⟨_,rfl,wpAny_letOwnedTupleGo_enum ho λh2 V N=> ?_⟩
  have N:=N
  have hep:=Nat.ne_of_gt (Ac1 B)
  have hn:=I.bc.fresh (Aa9 _)
  have I1:Inv X m U (aL H s.heap.objs.size (.tup [.int (i:Int),x])) { s with heap:=s.heap.push { cls:= .type "tuple",data:= .seq #[.int i J,y] },toks:=J+1 }:=by
   refine I.laid (λb o q=>Ab3 _ q) (Aa9 _) ⟨by simp only [Aa6,Ae];rw [sizeLine_eq];decide,[.int i J,y],.cons ⟨_,rfl⟩ (.cons ru .nil),?_⟩
   exact⟨_,Ac4 s.heap rfl,rfl,rfl,_,rfl⟩
  have F:it<s.heap.objs.size:=by obtain⟨o,q,_⟩:=f;exact Ac1 q
  have ee:=Ac1 B
  have I2:=I1.gu (t':=J+1) (λb o b1 b2 q=>by
   refine(N.2 b b1).trans ?_
   rcases Heap.get?_push_cases (show (s.heap.push { cls:= .type "tuple",data:= .seq #[.int i J,y] }).get? b=some o from q)with⟨z,z2⟩ | z
   ·rw [z,z2];exact hT
   ·exact hk b o b1 b2 z) (by rw [Qa (Ac5 F)];exact Q) (by rw [Qa (Ac5 ee)];exact f0) g1 f1 g3 f3 g4 f4 g5 f5
  refine⟨.ref s.heap.objs.size,_,I2,rfl,⟨s.heap.objs.size,x,hn,rfl,rfl,λys L=>by rw [I.dF L M];exact Y⟩,⟨⟨y,by simpa using V⟩,?_⟩,λb G=> ?_⟩
  ·obtain⟨o,q,r⟩:=S.1
   exact⟨o,(N.2 it (Ne.symm t)).trans q,r⟩
  ·rcases Ac.mp G with z | z
   ·rw [z,Qa (Ac5 ee)];exact f0
   ·rw [Ac7.mp z,Qa (Ac5 F)];exact Q
 done:=by
  intro X hP T W hc i m s U H E I O l hg
  subst hP T W
  obtain⟨⟨j,B⟩,f⟩:=l
  obtain⟨xs,M,Y⟩:=hg
  obtain⟨g,rv,p,hz⟩:=I.list M
  have C:s.heap.IsList a g.toArray:=p.isList
  have n:a≠it:=λz=>by
   obtain⟨o,q,c,_⟩:=C
   obtain⟨o',Z,D,_⟩:=f
   rw [z,Z]at q;cases q
   rw [c]at D;exact absurd D (by decide)
  obtain⟨Q,g1,g2,g3,g4,g5⟩:=O it (by simp)
  have hl:=rv.length
  have A:X.A.in1.handled=none:=I.ok.hd hc
  have hi:i=g.toArray.size:=by simp;omega
  subst hi
  exact wpAny_pyNext_enum_endD (Draws.list A it a n g.toArray) B ⟨f,C⟩ λh' eb=>⟨rfl,I.turned (λb o G q=>eb b o G q) Q g1 g3 g4 g5⟩
 self:=λ_ _ _ _ _ l h=>wpAny_pyIter_enum l.1.choose_spec h
def BG (K:Ab) (c:TA):TI:=λU H R=>c U H λb H1=> ∃a xs,b= [.ref a]/\bu K H1 a xs/\R (oh K a) H1
def Ma (n:Gl X "enumerate") (u:X.mg "enumerate" =none) (x:PA X [a] ta) (t:starEach [a] X.env= [(false,eval a X.env)]:=by rfl):PI X (.Tuple elts x1 tp) (.Call (.Name "enumerate" p) [a] [] pos) (BG X.K ta):=by
 intro f s U H R I h
 refine Call_ (zE I n u zM (PyProof.Rows.callWith_type1 (aO (x pos f s U H _ I h) λC g ⟨E,v,d,y,B⟩=> ?_) t rfl))
 obtain⟨b,D,e,m,q⟩:=B
 subst e
 cases y with
 | cons r l=>
  cases l
  cases r
  obtain⟨k,rv,pl,F⟩:=d.list m
  refine call_enumerate_list pl.isList λG j i A o=> ?_
  refine wpAny_pyIter_enum j ?_
  refine⟨g.heap.objs.size+1,[g.heap.objs.size+1,g.heap.objs.size],_,_,v,rfl,d.kept o,C5 b g.heap.objs.size _ (Nat.succ_ne_self _),⟨⟨_,by simpa using j⟩,i⟩,λc w=> ?_,q⟩
  obtain z | z:=Ac.mp w
  ·rw [z];exact d.c7 (Ag6 _) (d.bc.fresh (Ag6 _))
  ·rw [Ac7.mp z];exact d.c7 (Aa9 _) (d.bc.fresh (Aa9 _))
open PySem PySem.Spec PySem.Calls PySem.W PyProof.Rows
def px:List Value->Bool
 | []=>k9
 | x::r=>match x with
  | .ref _=>px r
  | _=>x::r==pG
def pV (K:Frag) (C:Addr):Bool:=(clsIn K C).any λcd=>px cd.mro&&cd.hasDict
noncomputable def IS (K:Frag) (C:Addr):Bool:=match K.lookup C with
 | some ⟨.type "type",_,.cls cd,sl⟩=>(match cd.mro,sl.toList with
  | .ref c::a,[_,_,_,_,k0 (.builtin n),_]=>c==C&&(n== "ValueError.__new__" &&(!cd.hasDel&&(tailIn K pG a&&nsOkIn K cd.ns)))
  | _,_=>k9)
 | _=>k9
structure Mo (K:Frag) (C:Addr) (f:Str):Prop where
 cls:IS K C=u0
 ov:pV K C=u0
 sa:findIn K (.ref C) "__setattr__" =some (some (.builtin "object.__setattr__"))
 no:findIn K (.ref C) f=k0 y0
 kp:keepIn K (.ref C)=u0
structure Mu (K:Frag) (f:Str) (fI:Addr) (fd:FuncData) (ps:List Str):Prop where
 ex: ∃x y8 st N n1 n2 p1 p2 p3 p4,l9 K x y8 st fI fd/\ps= [n1,n2]/\N= [n1,n2]/\ZC N ps (Ql st)/\jK st= [.Assign [.Attribute (.Name n1 p1) f p2] (.Name n2 p3) p4]/\(n1==("__debug__" :Str))=false/\(n2==("__debug__" :Str))=false ∧
  (n1==("__classdict__" :Str))=false/\(n2==("__classdict__" :Str))=false
 bd:Binds K fd ps []
 fn:typeIn K (.ref fI)=k0 (.type "function")
structure Mz (K:Frag) (C:Addr) (f:Str):Prop where
 ov:pV K C=u0
 no:findIn K (.ref C) f=k0 y0
 ga:findIn K (.ref C) "__getattribute__" =some (some (.builtin "BaseException.__getattribute__"))
 gh:findIn K (.ref C) "__getattr__" =some none
end L2
namespace L2
open PySem PySem.Spec PyProof.Rows PySem.Builtin.Str
def bQ:Str:=⟨#[32]⟩
noncomputable def lZ (z:Str) (a:List Str):Bool:= !(y9 (z.length<bQ.length)||y9 (strKind z<strKind bQ))&& !(occurrences z bQ 0 z.length (z.length+1)).isEmpty&&y9 (z.length<=1000)&&y9 (partsBetween z (occurrences z bQ 0 z.length (z.length+1)) bQ.length=a)&&y9 (a.length<=1000)
section
variable {X:Cx}
theorem W2: ∀(ps) (t),Vals (ps.map V.str) (strsFrom t ps)
 | [],_=> .nil
 | p::ps,t=> .cons ⟨_,rfl⟩ (W2 ps (t+1))
def E6:ij X "str.split" (fun x vs H Q=> ∃ z i,x= .str z/\vs= [.str bQ]/\lZ z i=true/\ ∀p,H p=none->Q (.ref p) (aL H p (.lst (i.map V.str)))):=by
 intro d s U H x vs v w Q I n rv h
 obtain⟨z,i,rfl,rfl,a,q⟩:=h
 obtain⟨t,rfl⟩:=n
 obtain⟨u,rfl,g⟩:=rv.one
 obtain⟨k,rfl⟩:=g
 unfold lZ at a
 simp only [Aa0,Ag4,decide_eq_true_eq]at a
 obtain⟨⟨⟨⟨j,l⟩,m⟩,c⟩,f⟩:=a
 refine call_meets PySem.F.slot_str_split (typeIs_str _ _ _) PySem.F.entry_str_split (PySem.F.args_str_split_2 _ _) (meets_str_split_sep z bQ t k j rfl l (Ag3 (qr m)) (by rw [c];exact(Ag3 (qr f)))) ?_
 rw [c]
 have r:=I.bc.fresh (Aa9 _)
 refine⟨.ref s.heap.objs.size,_,?_,rfl,q _ r⟩
 exact I.laid (λb o e=>Ab3 _ e) (Aa9 _) (show bb X.prog X.w _ _ _ (.lst _)from⟨by rw [Aa];exact(Ag3 (qr f)),strsFrom s.toks i,0,W2 i s.toks,Ac4 s.heap rfl⟩)
end
open PySem PySem.Spec PyProof.Rows
def dS (a:List (Str×V)):HO:= .dK (a.map λp=>(.inr p.1,p.2))
noncomputable def gX (a:List (Str×V)) (k:Str) (v:V):List (Str×V):=if a.any (λp=>y9 (p.1=k))then a.map (λp=>if p.1=k then(p.1,v)else p)else a++ [(k,v)]
theorem uC : ∀ {c:List (Str×V)}{vs},KV (c.map λp=>((.inr p.1:c4),p.2)) vs->(vs.any λi=>i.1= .inr k)=c.any λp=>y9 (p.1=k)
 | [],_,.nil=>rfl
 | p::c,(a,b)::vs,.cons r t=>by
  obtain⟨e1,e2⟩:=r
  rw [Af2,Af2,uC t,←e1]
  by_cases q:p.1=k<;>simp [q]
theorem ml : ∀ {c:List (Str×V)}{vs},KV (c.map λp=>((.inr p.1:c4),p.2)) vs->cq (c.lookup k) (valueAt vs (.inr k))
 | [],_,.nil=>trivial
 | p::c,(a,b)::vs,.cons r t=>by
  obtain⟨e1,e2⟩:=r
  have d:=ml (k:=k) t
  unfold valueAt at d ⊢
  rw [List.find?_cons,Ab7,←e1]
  by_cases q:p.1=k
  ·rw [beq_iff_eq.mpr q.symm]
   simp only [q,decide_true]
   exact e2
  ·rw [beq_eq_false_iff_ne.mpr λz=>q z.symm]
   have: ¬(Sum.inr p.1:c4)= .inr k:=λz=>q (by injection z)
   simp only [this,decide_false]
   exact d
def E9 (d:RelV v u)(h:KV (kvs.map λp=>((.inr p.1:c4),p.2)) vs):KV ((gX kvs k v).map λp=>((.inr p.1:c4),p.2)) (stored vs (.inr k) u):=by
 unfold gX stored
 rw [uC h]
 by_cases c:(kvs.any λp=>y9 (p.1=k))=u0
 ·rw [if_pos c,if_pos c]
  clear c
  induction kvs generalizing vs with
  | nil=>cases h;exact .nil
  | cons p kvs e=>
   cases h with
   | @cons _ q _ vs r t=>
    obtain⟨a,b⟩:=q
    obtain⟨e1,e2⟩:=r
    subst e1
    refine .cons ?_ (e t)
    by_cases q:p.1=k
    ·subst q
     simp only [if_true]
     exact⟨trivial,d⟩
    ·have: ¬(Sum.inr p.1:c4)= .inr k:=λz=>q (by injection z)
     simp only [q,this,if_false]
     exact⟨trivial,e2⟩
 ·rw [if_neg c,if_neg c,Af5]
  exact Paired.snoc h ⟨rfl,d⟩
section
variable {X:Cx}{pins:List (Addr×Obj)}{U:St}{H:Hp}{s:Shared}{a:Addr}{k:Str}{kvs:List (Str×V)}{u r:Value}{A:Around}{E:Value->Shared->Prop}
def X5 (I:Inv X pins U H s) (e:H a=k0 (dS kvs)):kvs.length<=sizeLine/\(a==sysModules)=k9/\ ∃vs,KV (kvs.map λp=>((.inr p.1:c4),p.2)) vs/\s.heap.DictOf (jB X.prog X.w) a vs:=by
 obtain⟨z,c,vs,b,dd⟩:=(show bb X.prog X.w H s.heap a (dS kvs)from I.bc a _ e)
 rw [Aa]at z
 exact⟨z,c,vs,b,dd⟩
def IF (I:Inv X pins U H s) (e:H a=k0 (dS kvs)) (f:RelV (.str k) u) (l:kvs.lookup k=k0 v) (h: ∀i s',Inv X pins U H s'->RelV v i->Q i s'):wpAny (model X.prog X.w) A (getItem (.ref a) u) Q E s:=by
 obtain⟨z,j,g,b,dd⟩:=X5 I e
 obtain⟨t,rfl⟩:=f
 obtain⟨i,d,c⟩:=cq.some_of (by rw [← l];exact ml b)
 exact wpAny_getItem_of (xl _ _ k t) dd.mapOf d (h i _ (I.tok _) c)
def uT (r:cq o q):q.isSome=o.isSome:=by
 cases o with
 | none=>rw [cq.none_of r];rfl
 | some v=>obtain⟨u,rfl,_⟩:=cq.some_of r;rfl
def AN (I:Inv X pins U H s) (e:H a=k0 (dS kvs)) (d:RelV (.str k) u) (h: ∀s',Inv X pins U H s'->Q (.bool (kvs.lookup k).isSome) s'):wpAny (model X.prog X.w) A (compareOp .In u (.ref a)) Q E s:=by
 obtain⟨z,c,f,b,dd⟩:=X5 I e
 obtain⟨t,rfl⟩:=d
 refine wpAny_in_of (xl _ _ k t) c dd.mapOf ?_
 rw [uT (ml b)]
 exact h _ (I.tok _)
def L0 (I:Inv X pins U H s) (e:H a=k0 (dS kvs)) (d:RelV (.str k) u) (h: ∀s',Inv X pins U H s'->Q (.bool (!(kvs.lookup k).isSome)) s'):wpAny (model X.prog X.w) A (compareOp .NotIn u (.ref a)) Q E s:=by
 obtain⟨z,c,f,b,dd⟩:=X5 I e
 obtain⟨t,rfl⟩:=d
 refine wpAny_notIn_of (xl _ _ k t) c dd.mapOf ?_
 rw [uT (ml b)]
 exact h _ (I.tok _)
def LW (kvs) (k) (v):(gX kvs k v).length<=kvs.length+1:=by
 unfold gX
 split
 ·rw [Aa];lia
 ·simp
def D8 (I:Inv X pins U H s) (e:H a=k0 (dS kvs)) (f:RelV (.str k) u) (rv:RelV v r) (w:kvs.length<sizeLine) (h: ∀s',Inv X pins U (aL H a (dS (gX kvs k v))) s'->Q () s'):wpAny (model X.prog X.w) A (setItem (.ref a) u r) Q E s:=by
 obtain⟨z,l,j,b,dd⟩:=X5 I e
 obtain⟨t,rfl⟩:=f
 have p:j.length<=sizeLine:=by rw [← Paired.length b,Aa];exact z
 refine wpAny_setItem_pairs (xl _ _ k t) dd λn c m=>h _ ?_
 have i: ∃q,n.get? a=k0 q:=let ⟨q,_,_,g,_⟩:=c; ⟨q,g⟩
 refine I.write (by rw [e];exact True.intro) (.inl rfl) (λo q d z=>(m.2 o d).trans z) i ⟨?_,l,_,E9 rv b,c⟩
 rw [Aa]
 have:=LW kvs k v
 lia
def KY (I:Inv X pins U H s) (e:H a=k0 (dS kvs)) (h: ∀p s',H p=y0->Inv X pins U (aL H p (dS kvs)) s'->Q (.ref p) s'):wpAny (model X.prog X.w) A (call (.type "dict") [.ref a]) Q E s:=by
 obtain⟨z,i,g,c,dd⟩:=X5 I e
 refine kt_call_dict i dd (by rw [← Paired.length c,Aa];exact z) λk d j=> ?_
 refine h _ _ (I.bc.fresh (Aa9 _)) (I.laid (λb q f=> ?_) (Aa9 _) ⟨by rw [Aa];exact z,beq_eq_false_iff_ne.mpr (Ne.symm (Ac5 (X8 I))),g,c,d⟩)
 exact(j.2 b (Ac5 (Ac1 f))).trans (Ab3 _ f)
def H9:TE:=λ_ H Q=> ∀p,H p=y0->Q (.ref p) (aL H p (dS []))
def Dt :PE X (.Dict [] [] pos) H9:=λa s U H Q I h=>
 wpAny_Dict_empty ⟨.ref s.heap.objs.size,_,I.laid (o:=dS []) (λ_ _ q=>Ab3 _ q) (Aa9 _) ⟨Af3 _,beq_eq_false_iff_ne.mpr (Ne.symm (Ac5 (X8 I))),[],.nil,Heap.DictOf.new _⟩,rfl,h _ (I.bc.fresh (Aa9 _))⟩
end
open PySem PySem.Spec PySem.Calls PySem.W PyProof.Rows
def oD:List TE->St->Hp->(List V->Hp->Prop)->Prop
 | [],_,H,Q=>Q [] H
 | t::b,U,H,Q=>t U H λv H1=>oD b U H1 λa H2=>Q (v::a) H2
section
variable {X:Cx}
def kX (X:Cx):List Str->List TE->List (Option Expr)->List Expr->Prop
 | [],f,ks,d=>f= []/\ks= []/\d= []
 | x::r,f,ks,d=> ∃j p e t a c b,f=t::b/\ks=k0 (.Constant (.str x) j p)::a/\d=e::c/\PE X e t/\kX X r b a c
theorem sO: ∀ {T}{i}{ks}{vs},kX X T i ks vs->ks.all (·.isSome)=u0/\ks.length=T.length/\vs.length=T.length
 | [],_,_,_,⟨rfl,rfl,rfl⟩=>⟨rfl,rfl,rfl⟩
 | x::r,_,_,_,⟨j,p,e,t,b,c,g,rfl,rfl,rfl,_,ok⟩=>by
  obtain⟨a,d,f⟩:=sO ok
  exact⟨by simpa using a,by simp [d],by simp [f]⟩
theorem WN : ∀ {T}{O}{ks}{vs}{s}{H}{Q}{i},kX X T O ks vs->Inv X pins U H s->oD O U H Q →
 (∀ ws H1 kvs L M,Inv X pins U H1 M->Carries (jB X.prog X.w) L kvs->KV ((T.zip ws).map λp=>((.inr p.1:c4),p.2)) kvs->kvs.map (·.1)=T.map .inr->Q ws H1->i L M) →
 wpAny (model X.prog X.w) X.A (evalPairs (pairTrees ks vs X.env pos)) i X.xe s
 | [],_,_,_,s,H,Q,i,⟨rfl,rfl,rfl⟩,I,h,q=>pairTrees_nil_walk (q [] H [] [] s I trivial .nil rfl h)
 | x::r,_,_,_,s,H,Q,i,⟨j,p,e,t,g,l,o,rfl,rfl,rfl,b,ok⟩,I,h,q=>
  pairTrees_cons_walk (Calls.Constant_str (aO (b pins _ U H _ (I.tok _) h) λu M ⟨v,H1,n,w,d⟩=>
   WN ok n d λws k kvs L z a c f m y=>q (v::ws) k ((.inr x,u)::kvs) _ z a ⟨xl _ _ x _,rfl,c⟩ (.cons ⟨rfl,w⟩ f) (by simp [m]) y))
def AJ (ok:kX X T ts ks vs) (y:T≠ []) (n:T.length<=15) (B:T.Nodup):
 PE X (.Dict ks vs pos) (λU H Q=> ∀p,H p=y0->oD ts U (aL H p (dS [])) λws H1=>H1 p=k0 (dS [])/\Q (.ref p) (aL H1 p (dS (T.zip ws)))):=by
 intro j s U H Q I h
 obtain⟨r,a2,a3⟩:=sO ok
 have A:=X8 I
 have k:=beq_eq_false_iff_ne.mpr (Ne.symm (Ac5 A))
 have t:=I.laid (o:=dS []) (t':=s.toks) (λ_ _ q=>Heap.get?_push_of_some { cls:= .type "dict",data:= .dict #[] } q) (Nat.le_refl _) ⟨Nat.zero_le _,k,[],.nil,Heap.DictOf.new _⟩
 refine wpAny_Dict_walk (knd:=jB X.prog X.w) r (a2.trans a3.symm) (λz=>y (List.length_eq_zero_iff.mp (by simp_all))) (by lia) ?_
 refine WN ok t (h _ (I.bc.fresh (Aa9 _))) λws H1 d E F l c f m q=>⟨d,c,?_,λC dd x=> ?_⟩
 ·obtain⟨_,_,w,g,dd⟩:=X5 l q.1
  cases g
  exact dd
 ·rw [jP d [] (by rw [Ae2,m];exact Ao2.map _ (λa b z e=>z (by injection e)) B),Ae2]at dd
  have v: ∃q,C.get? s.heap.objs.size=k0 q:=let ⟨q,_,_,u,_⟩:=dd; ⟨q,u⟩
  refine⟨.ref s.heap.objs.size,_,l.write (o:=dS _) (by rw [q.1];exact True.intro) (.inl rfl) (λD q i z=>(x.2 D i).trans z) v ⟨?_,k,_,f,dd⟩,rfl,q.2⟩
  rw [Aa,Al4]
  have:=n
  exact Ab5 (Nat.min_le_left _ _) (Ab5 n (by decide))
end
open PySem PySem.Spec PySem.Calls PyProof.Rows
section
variable {X:Cx}
def EF:oa X "int.bit_length" (fun x xs H Q=> ∃i:Int,x= .int i/\xs= []/\Q (.int ((Builtin.Int.intBits i:Nat):Int)) H):=by
 intro a s U H x xs v c Q I b rv h
 obtain⟨i,rfl,rfl,q⟩:=h
 obtain⟨t,rfl⟩:=b
 cases rv
 exact call_int_bit_length ⟨.int _,H,I.tok _,⟨_,rfl⟩,q⟩
end
def dc (H H':Hp):Prop:= ∀a o,H a=k0 o->H' a=k0 o
def dc.refl :dc H H:=λ_ _ h=>h
def dc.trans (a:dc H H1) (b:dc H1 H2):dc H H2:=λx o h=>b x o (a x o h)
def bu.le {K:Ab}(h:bu K H a xs) (l:dc H H'):bu K H' a xs:=by
 obtain h | h:=h
 ·refine .inl ?_
  obtain h | ⟨u,h⟩:=h
  ·exact .inl (l _ _ h)
  ·exact .inr ⟨u,l _ _ h⟩
 ·exact .inr h
def ft (g:Int->Int):Int->List Int->Int
 | b,[]=>b
 | b,x::xs=>if g x<g b then ft g x xs else ft g b xs
def Q3 {id:String}(b:(args.any (·.1)||kws.any (·.1.isNone))=k9)
 (h:wpAny M A (evalArgs (.builtin id) u0 args kws) (λa i=>wpAny M A (call (.builtin id) (first++a.pos) a.kw) Q E i) E s):
 wpAny M A (callWith pos (.builtin id) first args kws) Q E s:=by
 refine wpAny_bind (wpAny_holding (wpAny_mono h (λa i c=>wpAny_bind (wpAny_standAt ?_)) λ_ _ x=>x))
 simp only [b]
 refine wpAny_bind (wpAny_pure ?_)
 exact wpAny_bind (wpAny_mono c (λr d e=>wpAny_bind (wpAny_holding (wpAny_point (wpAny_pure e)))) λ_ _ x=>x)
section
variable {X:Cx}{pins:List (Addr×Obj)}{U:St}{H0:Hp}{q l S J:Addr}{is:List Int}{g:Int->Int}{R:Result->Shared->Prop}
def nj (X:Cx) (U:St) (a:Hp) (q:Addr) (is:List Int) (g:Int->Int):Prop:= ∀(pins:List (Addr×Obj)) (s:Shared) (H:Hp) (n:Int) (t:Tok),n∈is->Inv X pins U H s->dc a H →
 wpAny (model X.prog X.w) X.A.in1 (call (.ref q) [.int n t]) (EP X pins U λv H'=>v= .int (g n)/\dc H H') (λ_ _=>False) s
def bw.keep (h:bw X pins H b) (n:H' b=y0):bw X pins H' b:=⟨n,h.2⟩
def rg (T:nj X U H0 q is g) (r:n∈is) (I:Inv X pins U H s) (d:dc H0 H) (fS:bw X pins H S) (j:bw X pins H J) (i:s.heap.get? S=k0 oS) (e:s.heap.get? J=k0 oJ) (dS: ∀v,oS.data≠ .cell v) (o: ∀v,oJ.data≠ .cell v)
 (k: ∀t' s' H',Inv X pins U H' s'->dc H0 H'->bw X pins H' S->bw X pins H' J->s'.heap.get? S=k0 oS->s'.heap.get? J=k0 oJ->Q (.int (g n) t') s'):
 wpAny (model X.prog X.w) X.A.in1 (call (.ref q) [.int n t]) Q E s:=by
 have p:=I.pinned (λb a=>by
  obtain rfl | a:=Ac.mp a
  ·exact fS
  ·rw [Ac7.mp a];exact j) (λb a=>by
  obtain rfl | a:=Ac.mp a
  ·exact⟨_,i,dS⟩
  ·rw [Ac7.mp a];exact⟨_,e,o⟩)
 refine wpAny_mono (T _ s H n t r p d) (λu s' l=> ?_) λ_ _ z=>z.elim
 obtain⟨v,H',c,m,rfl,le⟩:=l
 obtain⟨t',rfl⟩:=m
 have h:=c.pin _ (Ab0 _ (Ab0 _ (zg (by simp) i)))
 have f:=c.pin _ (Ab0 _ (Ab0 _ (zg (by simp) e)))
 exact k t' s' H' c.bJ (d.trans le) (fS.keep h.2.1) (j.keep f.2.1) h.1 f.1
def Ln (hh:X.A.handled=y0) (T:nj X U H0 q is g) (hl:bu X.K H0 l (is.map .int)) (hlJ:l≠J) (F:S≠J): ∀(jn:List Int) (j:Nat) (f:Int) (tv tb:Tok) (c:Nat) (s:Shared) (H:Hp),is.drop (j+1)=jn->j+1<=is.length->Inv X pins U H s->dc H0 H->bw X pins H S->bw X pins H J →
 s.heap.get? S=k0 (seqObj "list" #[.int f tv,.int (g f) tb] c)->s.heap.IsListIter J l (j+1)->(∀ t s' H',Inv X pins U H' s'->dc H0 H'->R (.ok (.ret (.int (ft g f jn) t))) s')->codeAny (model X.prog X.w) X.A (.builtin "min.loop" ⟨[.ref J,.ref q,.ref S],[]⟩) R s:=by
 have k:(toString "min" ++toString ".loop" :String)= "min.loop" :=by decide
 intro jn
 induction jn with
 | nil=>
  intro j f tv tb c s H O hj I N fS fJ Y B hR
  obtain⟨d,rv,pl, -⟩:=I.list (hl.le N)
  have il:d.length=is.length:=by rw [← rv.length,Aa]
  have hin:j+1=is.length:=by
   have:=congrArg List.length O
   rw [Af7]at this
   simp at this
   omega
  have W:=Walks.list (prog:=X.prog) (w:=X.w) (A:=X.A.in1) hh J l hlJ d.toArray
  refine codeAny_builtin PySem.F.entry_min_loop ?_
  rw [Around.under_plainId PySem.F.plain_min_loop _]
  show wpAny _ X.A.in1 _ _ _ _
  refine wpAny_bind (wpAny_seqItems Y rfl ?_)
  show wpAny _ X.A.in1 (tryCatch (pyNext (.ref J)) _ >>= _) _ _ _
  refine wpAny_bind (wpAny_tryCatch (W.done _ _ _ ⟨by rw [Ac0,il,←hin];exact B,pl.isList⟩ λh' K m=> ?_))
  have L:=m S _ (by simpa using F) Y
  have s1:=Al8.update h' S (Obj.mapSeq λ_=>(#[]:Array Value))
  show wpAny _ X.A.in1 (updateSeq S (λ_=> #[]) >>= _) _ _ _
  refine wpAny_bind ?_
  refine wpAny_updateSeq L rfl (wpAny_bind (wpAny_letGo (wpAny_pure ?_)))
  have I1:Inv X pins U H { s with heap:=h',toks:=K }:=I.b7 (ch:= [J]) (λb o a e=>m b o a e) λb a=>by rw [Ac7.mp a];exact fJ
  exact hR _ _ _ (I1.b7 (ch:= [S]) (λb o a e=>(s1.2 b (by simpa using a)).trans e) λb a=>by rw [Ac7.mp a];exact fS) N
 | cons n jn ih=>
  intro j f tv tb c s H O hj I N fS fJ Y B hR
  obtain⟨d,rv,pl, -⟩:=I.list (hl.le N)
  have il:d.length=is.length:=by rw [← rv.length,Aa]
  have D:j+1<is.length:=by
   have:=congrArg List.length O
   rw [Af7]at this
   simp at this
   omega
  have en:is[j+1]? =k0 n:=by
   have:=congrArg (·[0]?) O
   simpa using this
  have W:=Walks.list (prog:=X.prog) (w:=X.w) (A:=X.A.in1) hh J l hlJ d.toArray
  refine codeAny_builtin PySem.F.entry_min_loop ?_
  rw [Around.under_plainId PySem.F.plain_min_loop _]
  show wpAny _ X.A.in1 (seqItems? (.ref S) >>= _) _ _ _
  refine wpAny_bind (wpAny_seqItems Y rfl ?_)
  show wpAny _ X.A.in1 (tryCatch (pyNext (.ref J)) _ >>= _) _ _ _
  refine wpAny_bind (wpAny_tryCatch (W.item (j+1) _ _ _ (by rw [Ac0,il];exact D) ⟨B,pl.isList⟩ λv h' K hP M m=> ?_))
  obtain⟨u,hu,ru⟩:=rv.get (i:=j+1) (x:= .int n) (by rw [Ac2,en];rfl)
  obtain⟨r,rfl⟩:=ru
  obtain rfl:v= .int n r:=by
   have:d[j+1]? =k0 v:=by simpa using hP
   rw [hu]at this
   exact(Ad5.inj this).symm
  obtain⟨oJ,hoJ,Q,C⟩:=id M.1
  have I1:Inv X pins U H { s with heap:=h',toks:=K }:=I.b7 (ch:= [J]) (λb o a e=>m b o a e) λb a=>by rw [Ac7.mp a];exact fJ
  have L:h'.get? S=k0 _:=m S _ (by simpa using F) Y
  show wpAny _ X.A.in1 (tryCatch (holding [.int n r] (call (.ref q) [.int n r])) _ >>= _) _ _ _
  refine wpAny_bind (wpAny_tryCatch (wpAny_holding (rg T (Ac3 en) I1 N fS fJ L hoJ (λv z=>by cases z) (λv z=>by rw [C]at z;cases z) λy s2 H2 I2 hH2 G Z E eJ2=> ?_)))
  have V:s2.heap.IsListIter J l (j+1+1):=⟨oJ,eJ2,Q,C⟩
  have hd2:is.drop (j+1+1)=jn:=by
   have:=congrArg List.tail O
   simpa [List.tail_drop]using this
  show wpAny _ X.A.in1 (tryCatch (holding [.int n r,.int (g n) y] (richCompare .Lt (.int (g n) y) (.int (g f) tb) >>= _)) _ >>= _) _ _ _
  refine wpAny_bind (wpAny_tryCatch (wpAny_holding (wpAny_bind (CmpOf.ints_lt (prog:=X.prog) (w:=X.w) (A:=X.A.in1) (P:=λ(i:Nat) v=> ∃t,v= .int (if i=0 then g n else g f) t) (λi=>if i=0 then g n else g f) (λi v h=>h) 0 1 _ _ _ _ _ ⟨y,rfl⟩ ⟨tb,rfl⟩ ?_))))
  refine wpAny_bind (wpAny_holding (wpAny_truthy_bool ?_))
  refine wpAny_bind (wpAny_letGo (wpAny_pure ?_))
  show wpAny _ X.A.in1 (if y9 (g n<g f)=u0 then _ else _) _ _ _
  by_cases p:g n<g f
  ·have s1:=Al8.update s2.heap S (Obj.mapSeq λ_=> #[.int n r,.int (g n) y])
   obtain⟨c2,hc2⟩: ∃c2,(s2.heap.update S (Obj.mapSeq fun _=> #[.int n r,.int (g n) y])).get? S=k0 (seqObj "list" #[.int n r,.int (g n) y] c2):=⟨_,get?_update_seq E fun _=> #[.int n r,.int (g n) y]⟩
   rw [if_pos (decide_eq_true p)]
   refine wpAny_bind ?_
   refine wpAny_updateSeq E rfl (wpAny_bind (wpAny_letGo ?_))
   rw [k]
   refine wpAny_pure ⟨plainId_quiet PySem.F.plain_min_loop _,ih (j+1) n r y c2 _ H2 hd2 D ?_ hH2 G Z hc2 ⟨oJ,(s1.2 J F.symm).trans eJ2,Q,C⟩ λt s' H' I' l'=> ?_⟩
   ·exact I2.b7 (ch:= [S]) (λb o a e=>(s1.2 b (by simpa using a)).trans e) λb a=>by rw [Ac7.mp a];exact G
   ·have:=hR t s' H' I' l'
    rw [ft,if_pos p]at this
    exact this
  ·rw [if_neg (by rw [decide_eq_false p];exact Ab2)]
   refine wpAny_bind (wpAny_letGo ?_)
   rw [k]
   refine wpAny_pure ⟨plainId_quiet PySem.F.plain_min_loop _,ih (j+1) f tv tb c _ H2 hd2 D I2 hH2 G Z E V λt s' H' I' l'=> ?_⟩
   have:=hR t s' H' I' l'
   rw [ft,if_neg p]at this
   exact this
def Fs (hh:X.A.handled=y0)(T:nj X U H q (n::is) g) (I:Inv X pins U H s) (hl:bu X.K H l ((n::is).map .int)) (hQ: ∀t s' H',Inv X pins U H' s'->dc H H'->Q (.int (ft g n is) t) s'):
 wpAny (model X.prog X.w) X.A (call (.builtin "min") [.ref l] [(Str.ofString "key",.ref q)]) Q E s:=by
 have a:(toString "min" ++toString ".loop" :String)= "min.loop" :=by decide
 obtain⟨d,rv,pl, -⟩:=I.list hl
 have h:=pl.isList
 obtain⟨ol,K,_⟩:=id h
 have hll:l<s.heap.objs.size:=Ac1 K
 have il:d.length=(n::is).length:=by rw [← rv.length,Aa]
 refine kmk_tree PySem.F.kind_min PySem.F.plain_min PySem.F.entry_min (kmk_min_key _ _) ?_
 show wpAny _ X.A.in1 _ _ _ s
 refine wpAny_bind (wpAny_of_eq (show Builtin.Builtins.bindParams "min" ["key", "default"] 0 ⟨[],[(Str.ofString "key",.ref q)]⟩=pure [some (.ref q),none]from rfl) ?_)
 refine wpAny_bind (wpAny_pure ?_)
 refine wpAny_bind (wpAny_pyIter_list h ?_)
 refine wpAny_bind (wpAny_newList ?_ (Af3 _))
 rw [a]
 have L:(s.heap.push { cls:= .type "list_iterator",data:= .fields #[.ref l,.int 0 0] }).objs.size=s.heap.objs.size+1:=size_push' ..
 have j:l≠s.heap.objs.size:=Ac5 hll
 have c:(s.heap.push { cls:= .type "list_iterator",data:= .fields #[.ref l,.int 0 0] }).objs.size≠s.heap.objs.size:=by rw [L];exact Nat.ne_of_gt (Nat.lt_succ_self _)
 have fJ:bw X pins H s.heap.objs.size:=I.c7 (Aa9 _) (I.bc.fresh (Aa9 _))
 have fS:bw X pins H (s.heap.push { cls:= .type "list_iterator",data:= .fields #[.ref l,.int 0 0] }).objs.size:=I.c7 (by rw [L];exact Nat.le_succ _) (I.bc.fresh (by rw [L];exact Nat.le_succ _))
 refine wpAny_pure ⟨plainId_quiet PySem.F.plain_min_loop _,?_⟩
 have M:((s.heap.push { cls:= .type "list_iterator",data:= .fields #[.ref l,.int 0 0] }).push (seqObj "list" #[] 0)).get? s.heap.objs.size=some { cls:= .type "list_iterator",data:= .fields #[.ref l,.int 0 0] }:=
  Ab3 _ (Ac4 _ rfl)
 have V:((s.heap.push { cls:= .type "list_iterator",data:= .fields #[.ref l,.int 0 0] }).push (seqObj "list" #[] 0)).get? (s.heap.push { cls:= .type "list_iterator",data:= .fields #[.ref l,.int 0 0] }).objs.size=some _:=Heap.get?_push_size _ rfl
 have I0:Inv X pins U H { s with heap:=(s.heap.push { cls:= .type "list_iterator",data:= .fields #[.ref l,.int 0 0] }).push (seqObj "list" #[] 0),toks:=s.toks }:=I.kept fun b u e=>Heap.get?_push_of_some _ (Heap.get?_push_of_some _ e)
 have C:((s.heap.push { cls:= .type "list_iterator",data:= .fields #[.ref l,.int 0 0] }).push (seqObj "list" #[] 0)).IsList l d.toArray:=h.at fun o e=>Heap.get?_push_of_some _ (Heap.get?_push_of_some _ e)
 generalize (s.heap.push { cls:= .type "list_iterator",data:= .fields #[.ref l,.int 0 0] }).objs.size=S at c fS V I0 C M ⊢
 generalize s.heap.objs.size=J at j c fJ M ⊢
 have W:=Walks.list (prog:=X.prog) (w:=X.w) (A:=X.A.in1) hh J l j d.toArray
 refine codeAny_builtin PySem.F.entry_min_loop ?_
 rw [Around.under_plainId PySem.F.plain_min_loop _]
 show wpAny _ X.A.in1 _ _ _ _
 refine wpAny_bind (wpAny_seqItems V rfl ?_)
 show wpAny _ X.A.in1 (tryCatch (pyNext (.ref J)) _ >>= _) _ _ _
 refine wpAny_bind (wpAny_tryCatch (W.item 0 _ _ _ (by rw [Ac0,il];exact Nat.succ_pos _) ⟨⟨_,M,rfl,rfl⟩,C⟩ λv G r hP y F=> ?_))
 obtain⟨u,hu,ru⟩:=rv.get (i:=0) (x:= .int n) rfl
 obtain⟨f,rfl⟩:=ru
 obtain rfl:v= .int n f:=by
  have:d[0]? =k0 v:=by simpa using hP
  rw [hu]at this
  exact(Ad5.inj this).symm
 obtain⟨oJ,Z,R,p⟩:=id y.1
 have N:=I0.b7 (h':=G) (t':=r) (ch:= [J]) (λb o k e=>F b o k e) λb k=>by rw [Ac7.mp k];exact fJ
 have N:Inv X pins U H { s with heap:=G,toks:=r }:=N
 have O:G.get? S=k0 _:=F S _ (by simpa using c) V
 show wpAny _ X.A.in1 (tryCatch (holding [.int n f] (call (.ref q) [.int n f])) _ >>= _) _ _ _
 refine wpAny_bind (wpAny_tryCatch (wpAny_holding (rg T Aa4 N dc.refl fS fJ O Z (λv z=>by cases z) (λv z=>by rw [p]at z;cases z) λm s2 H2 I2 P B Y D eJ2=> ?_)))
 have s1:=Al8.update s2.heap S (Obj.mapSeq λ_=> #[.int n f,.int (g n) m])
 obtain⟨c2,hc2⟩: ∃c2,(s2.heap.update S (Obj.mapSeq fun _=> #[.int n f,.int (g n) m])).get? S=k0 (seqObj "list" #[.int n f,.int (g n) m] c2):=⟨_,get?_update_seq D fun _=> #[.int n f,.int (g n) m]⟩
 show wpAny _ X.A.in1 (updateSeq S (λ_=> #[.int n f,.int (g n) m]) >>= _) _ _ _
 refine wpAny_bind ?_
 refine wpAny_updateSeq D rfl ?_
 rw [a]
 refine wpAny_pure ⟨plainId_quiet PySem.F.plain_min_loop _,Ln hh T hl j c is 0 n f m c2 _ H2 rfl (Nat.succ_le_succ (Af3 _)) ?_ P B Y hc2 ⟨oJ,(s1.2 J c.symm).trans eJ2,R,p⟩ λt s' H' I' l'=>hQ t s' H' I' l'⟩
 exact I2.b7 (ch:= [S]) (λb o k e=>(s1.2 b (by simpa using k)).trans e) λb k=>by rw [Ac7.mp k];exact B
end
def A9 (K:Ab) (c:Sp) (E:XK) (b:TE):TE:=λU H Q=>b U H λx H1=> ∃(l:Addr) (n:Int) (is:List Int) (g:Int->Int),x= .ref l/\bu K H1 l ((n::is).map .int)/\(∀ m∈n::is,∀H2,dc H1 H2->c [.int m] H2 (λv a=>v= .int (g m)/\dc H2 a) E)/\ ∀H2,dc H1 H2->Q (.int (ft g n is)) H2
section
variable {X:Cx}{CX:f7}{k:Nat}{f:Addr}{fd:FuncData}{ps:List Str}{sp:Sp}{E:XK}{x fn:Str}{p p2 kp pos:Pos}{e:Expr}{te:TE}
def Fg (hc:X.calm=true) (R:X.A.handled=none) (hg:Gl X x) (hm:X.mg x=none) (hv:bootBuiltins x=some (.builtin "min")) (F:ZF X.prog X.w X.K X.mg X.base CX k f fd ps sp) (hr:a0 (k+1) X.A) (B:Gl X fn) (q:X.mg fn=some (.ref f)) (hb:Binds X.K fd ps [])
 (hE: ∀outer H s e s', ¬CX outer H s E e s') (Z:PE X e te) (hn:x≠ "__name__" :=by decide) (z:(x==("__debug__" :Str))=false:=by decide) (A:(fn==("__debug__" :Str))=false:=by decide)
 (C:starEach [e] X.env=(k9,eval e X.env)::starEach [] X.env:=by rfl):PE X (.Call (.Name x p) [e] [⟨k0 (Str.ofString "key"),.Name fn p2,kp⟩] pos) (A9 X.K sp E te):=by
 intro a s U H Q I h
 refine wpAny_Call_Name_kw (zE I hg hm hv ?_ hn z)
 have ha:=Wi Z Qr C
 have hk:PK X [⟨k0 (Str.ofString "key"),.Name fn p2,kp⟩] (oo (tC (.ref f)) mj):=EK (t8 B q rfl A) F1
 have L:=ha pos a s U H (λo i=>match o with
  | [v]=> ∃ l n is g,v= .ref l/\bu X.K i l ((n::is).map .int)/\(∀ m∈n::is,∀b,dc i b->sp [.int m] b (λv H3=>v= .int (g m)/\dc b H3) E)/\ ∀b,dc i b->Q (.int (ft g n is)) b
  | _=>False) I h
 ·refine Q3 (by rw [C];rfl) ?_
  rw [C]at L ⊢
  refine evalArgs_kw rfl (aO L ?_)
  rintro us s1 ⟨o,i,I1,r1,N⟩
  obtain⟨v,rfl⟩: ∃v,o= [v]:=by
   match o,N with
   | [v],_=>exact⟨v,rfl⟩
  obtain⟨l,n,is,g,rfl,hl,G,T⟩:=N
  refine aO (hk pos a s1 U i (λJ b=>J= [.ref f]/\b=i) I1 ?_) λws s2 ⟨J,b,O,rz,P,Y⟩=> ?_
  ·exact⟨rfl,rfl⟩
  subst P Y
  obtain⟨u,rfl,W⟩:=r1.one
  obtain⟨w,rfl,y⟩:=rz.one
  obtain rfl:u= .ref l:=W
  obtain rfl:w= .ref f:=y
  refine Fs R (λa s H d t D I S=> ?_) O hl λt s' K I' l'=>⟨.int _,K,I',⟨_,rfl⟩,T K l'⟩
  have c:=G d D H S
  have M:Vals [V.int d] [Value.int d t]:= .cons ⟨_,rfl⟩ .nil
  refine wpAny_call (codeAny_mono (F.run X.A.in1 X.stack s H ⟨[.int d t],[]⟩ [.int d t] [.int d] _ E hr.in1 I.iO.in1 (hb s [.int d t] I.ck (by rw [Af0,←M.length];exact F.len _ _ _ _ c)) M c) λr s' j=> ?_)
  cases r with
  | error e=>exact hE _ _ _ _ _ j
  | ok fl=>
   cases fl with
   | ret u=>exact I.after j
   | next=>exact False.elim j
   | brk=>exact False.elim j
   | cont=>exact False.elim j
end
end L2
set_option genSizeOfSpec false
namespace M
abbrev Tx:=List Nat
def vG: ∃n:Nat,n=1000000:=⟨_,rfl⟩
noncomputable def bh:Nat:=Aj5 vG
def Gg:bh=1000000:=Ah3 vG
def pb: ∃n:Int,n=1073741824:=⟨_,rfl⟩
noncomputable def kz:Int:=Aj5 pb
def GO:kz=1073741824:=Ah3 pb
def yk: ∃n:Int,n=2 ^ 62:=⟨_,rfl⟩
noncomputable def fH:Int:=Aj5 yk
def GQ:fH=2 ^ 62:=Ah3 yk
def tf: ∃n:Int,n=2 ^ 64:=⟨_,rfl⟩
noncomputable def dU:Int:=Aj5 tf
def GY:dU=2 ^ 64:=Ah3 tf
def uD: ∃n:Int,n=1000000:=⟨_,rfl⟩
noncomputable def BP:Int:=Aj5 uD
def Kb:BP=1000000:=Ah3 uD
def pJ: ∃n:Nat,n=2 ^ 64:=⟨_,rfl⟩
noncomputable def zev:Nat:=Aj5 pJ
def GD:zev=2 ^ 64:=Ah3 pJ
inductive D where
 | aj
 | bl (b:Bool)
 | int (i:Int)
 | str (s:Tx)
 | tup (xs:List D)
 | lst (xs:List D)
 | ref (r:Nat)
inductive W where
 | v (d:D)
 | own (xs:List D)
 | bor (xs:List D)
abbrev WK:=Int×List Int×List Int
inductive Cell where
 | lst (xs:List D)
 | aM (kvs:List (Tx×D))
 | obj (c:String) (fs:List (String×D))
abbrev AH:=List Cell
abbrev Sl:=List (Option W)
inductive R (α:Type) where
 | ok (a:α) (h:AH)
 | fail
def R.bind {c b:Type}:R c->(c->AH->R b)->R b
 | .ok a h,f=>f a h
 | .fail,_=> .fail
inductive O where
 | next (τ:Sl) (h:AH)
 | ret (w:W) (h:AH)
 | brk (τ:Sl) (h:AH)
 | cont (τ:Sl) (h:AH)
 | fail
def O.seq:O->(Sl->AH->O)->O
 | .next τ h,f=>f τ h
 | o,_=>o
def R.cP {b:Type}:R b->(b->AH->O)->O
 | .ok a h,f=>f a h
 | .fail,_=> .fail
section
variable {α β:Type}
@[simp] theorem R.ae (a) (h) (f:α->AH->R β):(R.ok a h).bind f=f a h:=rfl
@[simp] theorem R.au (a) (h) (f:α->AH->O):(R.ok a h).cP f=f a h:=rfl
@[simp] theorem O.bM (τ) (h) (f):(O.next τ h).seq f=f τ h:=rfl
@[simp] theorem O.cE (w) (h) (f):(O.ret w h).seq f= .ret w h:=rfl
end
inductive Op where
 | add | sub | mul | fdiv | mod | pow | shl | shr | band | bor | bxor
 deriving DecidableEq
inductive Cp where
 | eq | ne | lt | le | gt | ge | mem | eS | cN | fQ
 deriving DecidableEq
inductive Ty where
 | aj | bool | int | str | list | tuple
 deriving DecidableEq
inductive Mt where
 | index | count | b3
 deriving DecidableEq
inductive Bi where
 | len | int | list | tuple | sum | all | any | sorted | divmod | str | min | max | abs
 deriving DecidableEq
set_option genInjectivity false
mutual
inductive E where
 | var (i:Nat)
 | con (x:String)
 | int (i:Int)
 | bl (b:Bool)
 | aj
 | str (s:Tx)
 | tup (es:Es)
 | lst (es:Es)
 | bin (o:Op) (a b:E)
 | cmp (o:Cp) (a b:E)
 | chain (o p:Cp) (a b c:E)
 | eU (neg:Bool) (a:E)
 | neg (a:E)
 | inv (a:E)
 | not (a:E)
 | and (a b:E)
 | or (a b:E)
 | call (f:String) (es:Es)
 | bi (b:Bi) (es:Es)
 | b8 (a:E) (t:Ty)
 | ix (a b:E)
 | sl (a lo hi:E)
 | fB (a lo:E)
 | fG (a hi:E)
 | comp (tg:List Nat) (one:Bool) (k:Nat) (aB:List Nat) (it:It) (y7:Bool) (c elt:E)
 | c8
 | eE (i:Nat) (a:E)
 | cQ (neg:Bool) (a:E) (i:Nat)
 | ef (i:Nat)
 | fu (k1:Tx) (a:E) (k2:Tx) (b:E) (k3:Tx) (c:E) (i:Nat)
 | share (a:E)
 | bY (a:E)
 | dE (s:Tx) (ts:List Tx)
 | dz (m:Mt) (a:E) (es:Es)
 | make (c q:String) (es:Es)
 | aG (a:E) (c f:String)
 | bL (a:E) (c m q:String) (es:Es)
 | eV (a:E)
 | eM (f:String) (a:E)
inductive Es where
 | nil
 | cons (e:E) (es:Es)
inductive It where
 | seq (e:E)
 | av (a:E)
 | cj (e:E)
end
set_option genInjectivity true
mutual
inductive S where
 | set (i:Nat) (e:E)
 | af (i:Nat) (e:E)
 | fb (is:List Nat) (e:E)
 | bT (o k e:E)
 | app (i:Nat) (e:E)
 | ext (i:Nat) (e:E)
 | cm (i:Nat) (k e:E)
 | dY (i:Nat) (k e:E)
 | bS (i:Nat) (c f:String) (e:E)
 | ex (e:E)
 | ret (e:E)
 | iff (c:E) (a b:Ss)
 | ip (n:Nat) (c:E) (b:Ss)
 | for (tg:List Nat) (one:Bool) (it:It) (b:Ss)
 | fT (o k:E) (j:Nat) (e:E)
 | bF (i:Nat) (c f:String) (e:E)
 | ea
inductive Ss where
 | nil
 | cons (s:S) (ss:Ss)
end
noncomputable section
mutual
@[simp,reducible] noncomputable def Gf:D->Bool
 | .ref _=>k9
 | .tup xs=>Gc xs
 | .lst xs=>Gc xs
 | _=>u0
@[simp,reducible] noncomputable def Gc:List D->Bool
 | []=>u0
 | x::xs=>Gf x&&Gc xs
end
mutual
@[simp,reducible] noncomputable def dep:D->Nat
 | .tup xs=>GF xs+1
 | .lst xs=>GF xs+1
 | _=>0
@[simp,reducible] noncomputable def GF:List D->Nat
 | []=>0
 | x::xs=>max (dep x) (GF xs)
end
def Cell.pure:Cell->Bool
 | .obj _ fs=>Gc (fs.map (·.2))
 | _=>u0
def Gx (h:AH):Bool:=h.all Cell.pure
@[reducible] def GZ (a b:D):Bool:=Gf a&&Gf b&&y9 (dep a<150)
mutual
@[simp] noncomputable def res (h:AH):D->D
 | .ref r=>match h[r]? with
  | some (.lst xs)=> .lst xs
  | _=> .ref r
 | .tup xs=> .tup (GU h xs)
 | .lst xs=> .lst (GU h xs)
 | d=>d
@[simp] noncomputable def GU (h:AH):List D->List D
 | []=> []
 | x::xs=>res h x::GU h xs
end
mutual
@[simp] noncomputable def cu:D->D->Bool
 | .aj,.aj=>u0
 | .bl a,.bl b=>a==b
 | .int i,.int j=>i==j
 | .bl a,.int j=>(a.toNat:Int)==j
 | .int i,.bl b=>i==(b.toNat:Int)
 | .str s,.str t=>s==t
 | .tup xs,.tup ys=>GK xs ys
 | .lst xs,.lst ys=>GK xs ys
 | _,_=>k9
@[simp] noncomputable def GK:List D->List D->Bool
 | [],[]=>u0
 | x::xs,y::ys=>cu x y&&GK xs ys
 | _,_=>k9
end
def g8 (s:Tx):List D:=s.map λc=> .str [c]
def W.d:W->Option D
 | .v d=>k0 d
 | .own xs=>k0 (.lst xs)
 | .bor _=>y0
def W.arg:W->W
 | .own xs=> .bor xs
 | w=>w
@[simp] theorem W.bV (d):(W.v d).arg= .v d:=rfl
@[simp] theorem W.eG (xs):(W.own xs).arg= .bor xs:=rfl
@[simp] theorem W.gx (xs):(W.bor xs).arg= .bor xs:=rfl
def W.dd (h:AH):W->D
 | .v d=>res h d
 | .own xs=> .lst (GU h xs)
 | .bor xs=> .lst (GU h xs)
noncomputable def W.cc (h:AH):W->Option (List D)
 | .v (.lst xs)=>k0 xs
 | .own xs=>k0 xs
 | .bor xs=>k0 xs
 | .v (.ref r)=>match h[r]? with
  | some (.lst xs)=>k0 xs
  | _=>y0
 | _=>y0
noncomputable def W.seq? (h:AH):W->Option (List D)
 | .v (.tup xs)=>k0 xs
 | .v (.lst xs)=>k0 xs
 | .own xs=>k0 xs
 | .bor xs=>k0 xs
 | .v (.ref r)=>match h[r]? with
  | some (.lst xs)=>k0 xs
  | _=>y0
 | _=>y0
def R.of {b:Type}(h:AH):Option b->R b
 | some a=> .ok a h
 | none=> .fail
@[simp] abbrev aq (d:D) (h:AH):R W:= .ok (.v d) h
def G6 (h:AH):W->Option Bool
 | .v .aj=>k0 k9
 | .v (.bl b)=>k0 b
 | .v (.int i)=>k0 (i != 0)
 | .v (.str s)=>if s.length<=bh then k0 (!s.isEmpty)else y0
 | .v (.tup xs)=>k0 (!xs.isEmpty)
 | .v (.lst xs)=>k0 (!xs.isEmpty)
 | .own xs=>k0 (!xs.isEmpty)
 | .bor xs=>k0 (!xs.isEmpty)
 | _=>y0
@[simp] theorem R.ak (h) (a:α):R.of h (k0 a)= .ok a h:=rfl
@[simp] theorem W.lP (d):(W.v d).d=k0 d:=rfl
@[simp] theorem W.fk (xs):(W.own xs).d=k0 (.lst xs):=rfl
@[simp] theorem W.gw (h) (d):(W.v d).dd h=res h d:=rfl
@[simp] theorem W.hO (h) (xs):(W.own xs).dd h= .lst (GU h xs):=rfl
@[simp] theorem W.ic (h) (xs):(W.bor xs).dd h= .lst (GU h xs):=rfl
@[simp] theorem W.k6 (h) (xs):(W.v (.lst xs)).cc h=k0 xs:=rfl
@[simp] theorem GS (h) (b):G6 h (.v (.bl b))=k0 b:=rfl
@[simp] theorem sP (h) (i):G6 h (.v (.int i))=k0 (i != 0):=rfl
noncomputable def G9 (i j:Int):Option Int:=
 if 0<=i then(if 0<=j then k0 ((i.toNat &&& j.toNat:Nat):Int)else k0 ((i.toNat-(i.toNat &&& (-j-1).toNat):Nat):Int))else y0
def i6 (i j:Int):Option Int:=if 0<=i/\0<=j then k0 ((i.toNat ||| j.toNat:Nat):Int)else y0
def Kx (i j:Int):Option Int:=if 0<=i/\0<=j then k0 ((i.toNat ^^^ j.toNat:Nat):Int)else y0
def Gi (o:Op) (i j:Int):Option Int:=match o with
 | .add=>k0 (i+j)
 | .sub=>k0 (i-j)
 | .mul=>if(-(dU)<i/\i<dU)\/(-(dU)<j/\j<dU)then k0 (i*j)else y0
 | .fdiv=>if 0<j/\j<kz then k0 (i / j)else y0
 | .mod=>if 0<j then k0 (i % j)else y0
 | .pow=>if 0<=j/\j<=BP/\i.natAbs<zev then k0 (i ^ j.toNat)else y0
 | .shl=>if 0<=j/\j<=BP/\i.natAbs<zev then k0 (i*2 ^ j.toNat)else y0
 | .shr=>if 0<=j then k0 (i / 2 ^ j.toNat)else y0
 | .band=>G9 i j
 | .bor=>i6 i j
 | .bxor=>Kx i j
def W.int? :W->Option Int
 | .v (.int i)=>k0 i
 | _=>y0
def W.bG :W->Option Tx
 | .v (.str s)=>k0 s
 | _=>y0
def W.eP :W->Option (List D)
 | .v (.tup s)=>k0 s
 | _=>y0
def KD (xs a:List D) (h:AH):R W:=if xs.length+a.length<=bh then .ok (.own (xs++a)) h else .fail
def Kv (xs:List D) (j:Int) (h:AH):R W:=if -1000<=j/\j<=1000/\xs.length*j.toNat<=bh then .ok (.own (Aa3 j.toNat xs).flatten) h else .fail
def KC (a b:W) (h:AH):R W:=match a.bG,b.bG with
 | some s,k0 t=>if s.length+t.length<=bh then aq (.str (s++t)) h else .fail
 | _,_=>match a.eP,b.eP with
  | some xs,k0 ys=>if xs.length+ys.length<=bh then aq (.tup (xs++ys)) h else .fail
  | _,_=>match a.cc h,b.cc h with
   | some xs,k0 ys=>KD xs ys h
   | _,_=> .fail
noncomputable def W.gR (h:AH):W->Option (List D)
 | .own xs=>k0 xs
 | .bor xs=>k0 xs
 | .v (.ref r)=>match h[r]? with
  | some (.lst xs)=>k0 xs
  | _=>y0
 | _=>y0
def KB (a b:W) (h:AH):R W:=match a.bG,b.int? with
 | some s,k0 j=>if 0<=j/\j<=1000/\s.length*j.toNat<=bh then aq (.str (Aa3 j.toNat s).flatten) h else .fail
 | _,_=>match a.gR h,b.int? with
  | some xs,k0 j=>Kv xs j h
  | _,_=> .fail
def GW (o:Op) (a b:W) (h:AH):R W:=match a.int?,b.int? with
 | some i,k0 j=>(R.of h (Gi o i j)).bind λk h=>aq (.int k) h
 | _,_=>match o with
  | .add=>KC a b h
  | .mul=>KB a b h
  | _=> .fail
def inD (x:D) (xs:List D):Bool:=xs.any λy=>cu y x
@[simp,reducible] def GN:D->Bool
 | .aj=>u0
 | .bl _=>u0
 | .int _=>u0
 | .str _=>u0
 | _=>k9
def Kw (a b:W) (h:AH):Option Bool:=match b.dd h with
 | .lst ys=>if Gf (a.dd h)&&Gc ys&&y9 (GF ys<140)then k0 (inD (a.dd h) ys)else y0
 | _=>y0
def Kh (a b:W) (h:AH):Option Bool:=match a.bG,b.bG with
 | some s,k0 t=>match s with
  | [c]=>k0 (t.contains c)
  | _=>y0
 | _,_=>match a.d,b.seq? h with
  | some d,k0 xs=>if GN d&&xs.all GN then k0 (inD d xs)else Kw a b h
  | _,_=>y0
noncomputable def Ky (o:Cp) (i j:Int):Option Bool:=match o with
 | .lt=>k0 (y9 (i<j))
 | .le=>k0 (y9 (i<=j))
 | .gt=>k0 (y9 (j<i))
 | .ge=>k0 (y9 (j<=i))
 | _=>y0
def KA (o:Cp) (i j:Tx):Option Bool:=match o with
 | .lt=>k0 (y9 (i<j))
 | .ge=>k0 (!y9 (i<j))
 | _=>y0
def Km:W->W->Option Bool
 | .v .aj,.v (.bl _)=>k0 k9
 | .v (.bl b),.v (.bl c)=>k0 (b==c)
 | _,_=>y0
def Gr (o:Cp) (a b:W) (h:AH):Option Bool:=match o with
 | .eq=>if GZ (a.dd h) (b.dd h)then k0 (cu (a.dd h) (b.dd h))else y0
 | .ne=>if GZ (a.dd h) (b.dd h)then k0 (!cu (a.dd h) (b.dd h))else y0
 | .mem=>Kh a b h
 | .eS=>(Kh a b h).map (!·)
 | .cN=>Km a b
 | .fQ=>(Km a b).map (!·)
 | o=>match a.int?,b.int? with
  | some i,k0 j=>Ky o i j
  | _,_=>match a.bG,b.bG with
   | some s,k0 t=>KA o s t
   | _,_=>y0
noncomputable def dy (n:Nat) (i:Int):Option Nat:=if 0<=i then(if i<n then k0 i.toNat else y0)else if -(n:Int)<=i then k0 (i+n).toNat else y0
def aV {a:Type}(xs:List a) (i:Int):Option a:=(dy xs.length i).bind λj=>xs[j]?
def dN (a b:W) (h:AH):Option D:=match b.int? with
 | some i=>match a.bG with
  | some s=>if s.length<=bh then(aV s i).map λc=> .str [c]else y0
  | none=>(a.seq? h).bind λxs=>aV xs i
 | none=>y0
def aX (n d:Nat):Option Int->Nat
 | none=>d
 | some v=>if v<0 then(v+n).toNat else min v.toNat n
noncomputable def cut {b:Type}(xs:List b) (a c:Option Int):List b:=(xs.drop (aX xs.length 0 a)).take (aX xs.length xs.length c-aX xs.length 0 a)
def fX (a:W) (b c:Option Int) (h:AH):R W:=match a.bG with
 | some s=>if s.length<=bh then aq (.str (cut s b c)) h else .fail
 | none=>match a.eP with
  | some xs=>aq (.tup (cut xs b c)) h
  | none=>match a.cc h with
   | some xs=> .ok (.own (cut xs b c)) h
   | none=> .fail
def Ki:List D->Option Int
 | []=>k0 0
 | .int i::r=>(Ki r).map (i+ ·)
 | _::_=>y0
def GM:List D->Option (List Int)
 | []=>k0 []
 | .int i::r=>(GM r).map (i:: ·)
 | _::_=>y0
def GR:List D->Option (List Tx)
 | []=>k0 []
 | .str s::r=>(GR r).map (s:: ·)
 | _::_=>y0
def AI:List Int->Option Int
 | []=>y0
 | i::r=>k0 (r.foldl (λa b=>if b>a then b else a) i)
def BX:List Int->Option Int
 | []=>y0
 | i::r=>k0 (r.foldl (λa b=>if b<a then b else a) i)
def Kf (x:Tx):List Tx->List Tx
 | []=> [x]
 | y::ys=>if y<x then y::Kf x ys else x::y::ys
def Gz:List Tx->List Tx
 | []=> []
 | x::xs=>Kf x (Gz xs)
def Kj (x:Tx):List Tx->Option Nat
 | []=>y0
 | y::ys=>if y=x then k0 0 else(Kj x ys).map (· +1)
def Kl:List D->Option (List Bool)
 | []=>k0 []
 | .bl b::r=>(Kl r).map (b:: ·)
 | _::_=>y0
def gB (b:Bi) (w:W) (h:AH):R W:=match b with
 | .len=>match w.bG with
  | some s=>if s.length<=bh then aq (.int s.length) h else .fail
  | none=>(R.of h (w.seq? h)).bind λxs h=>aq (.int xs.length) h
 | .int=>match w with
  | .v (.int i)=>aq (.int i) h
  | .v (.bl b)=>aq (.int (b.toNat:Int)) h
  | _=> .fail
 | .list=>(R.of h (w.seq? h)).bind λxs h=> .ok (.own xs) h
 | .tuple=>(R.of h (w.seq? h)).bind λxs h=>aq (.tup xs) h
 | .sum=>(R.of h ((w.cc h).bind λxs=>if xs.length<=bh then Ki xs else y0)).bind λi h=>aq (.int i) h
 | .all=>(R.of h ((w.cc h).bind Kl)).bind λbs h=>aq (.bl (bs.all id)) h
 | .any=>(R.of h ((w.cc h).bind Kl)).bind λbs h=>aq (.bl (bs.any id)) h
 | .max=>(R.of h (((w.cc h).bind GM).bind AI)).bind λi h=>aq (.int i) h
 | .min=>(R.of h (((w.cc h).bind GM).bind BX)).bind λi h=>aq (.int i) h
 | .sorted=>(R.of h ((w.cc h).bind GR)).bind λa h=>if a.length<64 then .ok (.own ((Gz a).map .str)) h else .fail
 | _=> .fail
noncomputable def mJ (m:Mt) (x:W) (h:AH):Bool:=match m with
 | .index=>x.eP.isSome
 | .count=>(x.cc h).isSome
 | .b3=>(x.cc h).isSome
@[simp] theorem ph (xs) (h):mJ .index (.v (.tup xs)) h=true:=rfl
def Kk:Nat->List D->List D
 | _,[]=> []
 | i,d::ds=> .tup [.int (i:Int),d]::Kk (i+1) ds
def Kq (d:D):List D->Option Nat
 | []=>y0
 | y::ys=>if cu y d=u0 then k0 0 else(Kq d ys).map (· +1)
def Kz (a b:W) (h:AH):Option Nat:=match b.dd h with
 | .lst ys=>if(Gf (a.dd h)&&Gc ys&&y9 (GF ys<140))&&y9 (ys.length<=bh)then Kq (a.dd h) ys else y0
 | _=>y0
def me (m:Mt) (x:W) (ws:List W) (h:AH):R W:=match m,ws with
 | .index,[w]=>(R.of h (x.eP.bind GR)).bind λa h=>(R.of h w.bG).bind λt h=>(R.of h (Kj t a)).bind λn h=>if a.length<=bh then aq (.int (n:Int)) h else .fail
 | .count,[w]=>(R.of h ((x.cc h).bind GM)).bind λis h=>(R.of h w.int?).bind λi h=>if is.length<=bh then aq (.int ((is.count i:Nat):Int)) h else .fail
 | .b3,[w]=>(R.of h (Kz w x h)).bind λn h=>aq (.int (n:Int)) h
 | _,_=> .fail
def ym (b:Bi) (i j:Int) (h:AH):R W:=match b with
 | .divmod=>if 0<j/\j<kz then aq (.tup [.int (i / j),.int (i % j)]) h else .fail
 | .min=>aq (.int (if j<i then j else i)) h
 | .max=>aq (.int (if j>i then j else i)) h
 | _=> .fail
def dk (b:Bi) (ws:List W) (h:AH):R W:=match ws with
 | [w]=>gB b w h
 | [v,w]=>(R.of h v.int?).bind λi h=>(R.of h w.int?).bind λj h=>ym b i j h
 | _=> .fail
@[simp] theorem GH (o) (i j) (h):GW o (.v (.int i)) (.v (.int j)) h=(R.of h (Gi o i j)).bind λk h=>aq (.int k) h:=rfl
@[simp] theorem Xc (i j):Gi .add i j=k0 (i+j):=rfl
@[simp] theorem Ze (i j):Gi .sub i j=k0 (i-j):=rfl
@[simp] theorem L4 (s u) (h):GW .add (.v (.str s)) (.v (.str u)) h=if s.length+u.length<=bh then aq (.str (s++u)) h else .fail:=rfl
@[simp] theorem yF (s u) (h):GW .add (.v (.tup s)) (.v (.tup u)) h=if s.length+u.length<=bh then aq (.tup (s++u)) h else .fail:=rfl
@[simp] theorem Hy (s u) (h):GW .add (.own s) (.own u) h=if s.length+u.length<=bh then .ok (.own (s++u)) h else .fail:=rfl
@[simp] theorem jZ (i j) (h):Gr .lt (.v (.int i)) (.v (.int j)) h=k0 (y9 (i<j)):=rfl
@[simp] theorem Q1 (i j) (h):Gr .le (.v (.int i)) (.v (.int j)) h=k0 (y9 (i<=j)):=rfl
@[simp] theorem y6 (i j) (h):Gr .gt (.v (.int i)) (.v (.int j)) h=k0 (y9 (j<i)):=rfl
@[simp] theorem Ls (i j) (h):Gr .ge (.v (.int i)) (.v (.int j)) h=k0 (y9 (j<=i)):=rfl
@[simp] theorem uf (a b) (h):Gr .eq a b h=if GZ (a.dd h) (b.dd h)then k0 (cu (a.dd h) (b.dd h))else none:=rfl
@[simp] theorem sW (a b) (h):Gr .ne a b h=if GZ (a.dd h) (b.dd h)then k0 (!cu (a.dd h) (b.dd h))else none:=rfl
@[simp] theorem int?_int (i):(W.v (.int i)).int? =k0 i:=rfl
@[simp] theorem len_str (s) (h):dk .len [.v (.str s)] h=if s.length<=bh then aq (.int s.length) h else .fail:=rfl
@[simp] theorem Xf (s) (h):dk .len [.v (.tup s)] h=aq (.int s.length) h:=rfl
@[simp] theorem zL (s) (h):dk .len [.v (.lst s)] h=aq (.int s.length) h:=rfl
@[simp] theorem Bh (s) (h):dk .len [.bor s] h=aq (.int s.length) h:=rfl
@[simp] theorem int_int (i) (h):dk .int [.v (.int i)] h=aq (.int i) h:=rfl
@[simp] theorem pM (s) (h):dk .list [.v (.tup s)] h= .ok (.own s) h:=rfl
@[simp] theorem W1 (s) (h):dk .tuple [.own s] h=aq (.tup s) h:=rfl
@[simp] theorem JJ (s) (h):dk .tuple [.bor s] h=aq (.tup s) h:=rfl
@[simp] theorem Mw (s) (h):dk .all [.own s] h=(R.of h (Kl s)).bind λbs h=>aq (.bl (bs.all id)) h:=rfl
@[simp] theorem Mp (s) (h):dk .any [.own s] h=(R.of h (Kl s)).bind λbs h=>aq (.bl (bs.any id)) h:=rfl
@[simp] theorem tJ (s) (h):dk .sum [.own s] h=(R.of h (if s.length<=bh then Ki s else y0)).bind λi h=>aq (.int i) h:=rfl
@[simp] theorem W7 (i j) (h):dk .divmod [.v (.int i),.v (.int j)] h=if 0<j/\j<kz then aq (.tup [.int (i / j),.int (i % j)]) h else .fail:=rfl
@[simp] theorem oz (s) (i) (h):dN (.v (.str s)) (.v (.int i)) h=if s.length<=bh then(aV s i).map λc=> .str [c]else none:=rfl
@[simp] theorem ab (s) (i) (h):dN (.v (.tup s)) (.v (.int i)) h=aV s i:=rfl
@[simp] theorem Qp (s) (i) (h):dN (.v (.lst s)) (.v (.int i)) h=aV s i:=rfl
@[simp] theorem ZN (s) (i) (h):dN (.own s) (.v (.int i)) h=aV s i:=rfl
@[simp] theorem Em (s) (i) (h):dN (.bor s) (.v (.int i)) h=aV s i:=rfl
@[simp] theorem t7 (s) (lo hi) (h):fX (.v (.lst s)) lo hi h= .ok (.own (cut s lo hi)) h:=rfl
@[simp] theorem E2 (s) (lo hi) (h):fX (.bor s) lo hi h= .ok (.own (cut s lo hi)) h:=rfl
abbrev dR:=List (String×String)
noncomputable def Ij:W->Option Ty
 | .v .aj=>k0 .aj
 | .v (.bl _)=>k0 .bool
 | .v (.int _)=>k0 .int
 | .v (.str _)=>k0 .str
 | .v (.tup _)=>k0 .tuple
 | .v (.lst _)=>k0 .list
 | .own _=>k0 .list
 | .bor _=>k0 .list
 | .v (.ref _)=>y0
def Ty.le:Ty->Ty->Bool
 | .bool,.int=>u0
 | a,b=>y9 (a=b)
def b8 (t:Ty) (w:W):Option Bool:=(Ij w).map λu=>u.le t
@[simp] theorem KU (t) (i):b8 t (.v (.int i))=k0 (Ty.le .int t):=rfl
@[simp] theorem Ce (t) (s):b8 t (.v (.tup s))=k0 (Ty.le .tuple t):=rfl
@[simp] theorem Ty.gK (t):Ty.le t t=true:=by cases t<;>rfl
@[simp] theorem Ty.kD:Ty.le .int .tuple=false:=rfl
@[simp] def Gn:Sl->Nat->Option W
 | [],_=>y0
 | x::_,0=>x
 | _::r,n+1=>Gn r n
@[simp] def GC:Sl->Nat->W->Sl
 | [],_,_=> []
 | _::r,0,w=>k0 w::r
 | x::r,n+1,w=>x::GC r n w
def Gj (τ:Sl) (i:Nat):Option W:=match Gn τ i with
 | some (.own xs)=>k0 (.bor xs)
 | o=>o
@[simp] theorem Kd (e:Gn τ i=k0 (.own xs)):Gj τ i=k0 (.bor xs):=by simp [Gj,e]
@[simp] theorem Kn (e:Gn τ i=k0 (.v d)):Gj τ i=k0 (.v d):=by simp [Gj,e]
@[simp] theorem G8 (e:Gn τ i=k0 (.bor xs)):Gj τ i=k0 (.bor xs):=by simp [Gj,e]
@[simp] noncomputable def aY:List Nat->List D->Sl->Option Sl
 | [],[],τ=>k0 τ
 | i::is,d::ds,τ=>aY is ds (GC τ i (.v d))
 | _,_,_=>y0
def Gp (tg:List Nat) (one:Bool) (d:D) (τ:Sl):Option Sl:=match one with
 | true=>match tg with
  | [i]=>k0 (GC τ i (.v d))
  | _=>y0
 | false=>match d with
  | .tup ds=>aY tg ds τ
  | _=>y0
noncomputable def Gy (step:D->AH->R (Option D)):List D->AH->R (List D)
 | [],h=> .ok [] h
 | d::ds,h=>match step d h with
  | .ok o h1=>match Gy step ds h1 with
   | .ok r h2=> .ok (match o with | some x=>x::r | none=>r) h2
   | _=> .fail
  | _=> .fail
structure Fx where
 call:String->List W->AH->R W
 cl:dR
 con:List (String×D)
noncomputable def GX (h:AH):Option W->Option (Nat×String×List (String×D))
 | some (.v (.ref r))=>match h[r]? with
  | some (.obj c fs)=>k0 (r,c,fs)
  | _=>y0
 | _=>y0
noncomputable def aU (f:String) (d:D):List (String×D)->List (String×D)
 | []=> [(f,d)]
 | (g,x)::r=>if g=f then(g,d)::r else(g,x)::aU f d r
def yl:W->Option (List D)
 | .v (.lst xs)=>k0 xs
 | .own xs=>k0 xs
 | _=>y0
noncomputable def GT (h:AH):Option W->Option (Nat×List (Tx×D))
 | some (.v (.ref r))=>match h[r]? with
  | some (.aM ks)=>k0 (r,ks)
  | _=>y0
 | _=>y0
noncomputable def GE (a:List (Tx×D)) (k:Tx) (d:D):List (Tx×D):=if a.any (λp=>y9 (p.1=k))then a.map (λp=>if p.1=k then(p.1,d)else p)else a++ [(k,d)]
noncomputable def eE (w:W) (o:Option (Nat×List (Tx×D))) (h:AH):R W:=match w,o with
 | .v (.str k),k0 (_,ks)=>match ks.lookup k with
  | some d=>aq d h
  | none=> .fail
 | _,_=> .fail
noncomputable def cQ (neg:Bool) (w:W) (o:Option (Nat×List (Tx×D))) (h:AH):R W:=match w,o with
 | .v (.str k),k0 (_,ks)=>aq (.bl (if neg then !(ks.lookup k).isSome else(ks.lookup k).isSome)) h
 | _,_=> .fail
noncomputable def fu (T:List (Tx×W)) (o:Option W) (h:AH):R W:=match o with
 | some (.v (.str k))=>match T.lookup k with
  | some (.v d)=>if GN d then aq d h else .fail
  | _=> .fail
 | _=> .fail
def Kg (i:Int):Nat:=if i=0 then 0 else Nat.log2 i.natAbs+1
def G7:R W->Option Int
 | .ok (.v (.int y)) []=>k0 y
 | _=>y0
noncomputable def GV (key:Int->R W):Int->Int->List Int->Option Int
 | b,_,[]=>k0 b
 | b,a,x::xs=>(G7 (key x)).bind λk=>if k<a then GV key x k xs else GV key b a xs
def Ke (key:Int->R W):Option (List Int)->Option Int
 | some (x::xs)=>(G7 (key x)).bind λk=>GV key x k xs
 | _=>y0
mutual
@[simp] noncomputable def eval (F:Fx):E->Sl->AH->R W
 | .var i,τ,h=>match Gj τ i with
  | some w=> .ok w h
  | none=> .fail
 | .con x,_,h=>match F.con.lookup x with
  | some d=>aq d h
  | none=> .fail
 | .int i,_,h=>aq (.int i) h
 | .bl b,_,h=>aq (.bl b) h
 | .aj,_,h=>aq .aj h
 | .str s,_,h=>aq (.str s) h
 | .tup es,τ,h=>(Gw F es τ h).bind λds h=>aq (.tup ds) h
 | .lst es,τ,h=>(Gw F es τ h).bind λds h=> .ok (.own ds) h
 | .bin o a b,τ,h=>(eval F a τ h).bind λx h=>(eval F b τ h).bind λy h=>GW o x y h
 | .cmp o a b,τ,h=>(eval F a τ h).bind λx h=>(eval F b τ h).bind λy h=>(R.of h (Gr o x y h)).bind λc h=>aq (.bl c) h
 | .chain o p a b c,τ,h=>(eval F a τ h).bind λx h=>(eval F b τ h).bind λy h=>(R.of h (Gr o x y h)).bind λt h=>match t with
  | true=>(eval F c τ h).bind λz h=>(R.of h (Gr p y z h)).bind λc h=>aq (.bl c) h
  | false=>aq (.bl k9) h
 | .eU neg a,τ,h=>(eval F a τ h).bind λx h=>match x with
  | .v .aj=>aq (.bl (!neg)) h
  | _=>aq (.bl neg) h
 | .neg a,τ,h=>(eval F a τ h).bind λx h=>(R.of h x.int?).bind λi h=>aq (.int (-i)) h
 | .inv a,τ,h=>(eval F a τ h).bind λx h=>(R.of h x.int?).bind λi h=>aq (.int (-i-1)) h
 | .not a,τ,h=>(eval F a τ h).bind λx h=>(R.of h (G6 h x)).bind λc h=>aq (.bl (!c)) h
 | .and a b,τ,h=>(eval F a τ h).bind λx h=>(R.of h (G6 h x)).bind λc h=>match c with
  | true=>eval F b τ h
  | false=> .ok x h
 | .or a b,τ,h=>(eval F a τ h).bind λx h=>(R.of h (G6 h x)).bind λc h=>match c with
  | true=> .ok x h
  | false=>eval F b τ h
 | .call f es,τ,h=>(Gd F es τ h).bind λws h=>F.call f (ws.map W.arg) h
 | .bi b es,τ,h=>(Gd F es τ h).bind λws h=>dk b ws h
 | .b8 a t,τ,h=>(eval F a τ h).bind λx h=>(R.of h (b8 t x)).bind λc h=>aq (.bl c) h
 | .ix a b,τ,h=>(eval F a τ h).bind λx h=>(eval F b τ h).bind λy h=>(R.of h (dN x y h)).bind λd h=>aq d h
 | .sl a lo hi,τ,h=>(eval F a τ h).bind λx h=>(eval F lo τ h).bind λl h=>(R.of h l.int?).bind λl h=>(eval F hi τ h).bind λu h=>(R.of h u.int?).bind λu h=>fX x (k0 l) (k0 u) h
 | .fB a lo,τ,h=>(eval F a τ h).bind λx h=>(eval F lo τ h).bind λl h=>(R.of h l.int?).bind λl h=>fX x (k0 l) y0 h
 | .fG a hi,τ,h=>(eval F a τ h).bind λx h=>(eval F hi τ h).bind λu h=>(R.of h u.int?).bind λu h=>fX x y0 (k0 u) h
 | .comp tg one k aB it y7 c elt,τ,h=>(Gk F it τ h).bind λds h=>
  if ds.length<=bh then
   (Gy (λd h=>match Gp tg one d (Aa3 k y0++aB.map λj=>Gj τ j)with
     | none=> .fail
     | some τ'=>(if y7 then(eval F c τ' h).bind λx h=>R.of h (G6 h x)else .ok u0 h).bind λb h=>match b with
      | true=>(eval F elt τ' h).bind λy h=>(R.of h y.d).bind λy h=> .ok (k0 y) h
      | false=> .ok y0 h) ds h).bind λys h=> .ok (.own ys) h
  else .fail
 | .c8,_,h=>aq (.ref h.length) (h++ [.aM []])
 | .eE i a,τ,h=>match GT h (Gn τ i)with
  | some _=>(eval F a τ h).bind λx h=>eE x (GT h (Gn τ i)) h
  | none=> .fail
 | .cQ neg a i,τ,h=>(eval F a τ h).bind λx h=>cQ neg x (GT h (Gn τ i)) h
 | .fu k1 a k2 b k3 c i,τ,h=>(eval F a τ h).bind λx h=>(eval F b τ h).bind λy h=>(eval F c τ h).bind λz h=>fu [(k1,x),(k2,y),(k3,z)] (Gn τ i) h
 | .ef i,τ,h=>match GT h (Gn τ i)with
  | some (_,ks)=>aq (.ref h.length) (h++ [.aM ks])
  | none=> .fail
 | .share a,τ,h=>(eval F a τ h).bind λx h=>match x with
  | .own xs=>if Gc xs then aq (.ref h.length) (h++ [.lst xs])else .fail
  | _=> .fail
 | .bY a,τ,h=>(eval F a τ h).bind λx h=>(R.of h x.int?).bind λn h=>if 0<=n/\n<=1000 then .ok (.own ((Aa5 n.toNat).map λ(i:Nat)=> .int (i:Int))) h else .fail
 | .dE _ ts,τ,h=> .ok (.own (ts.map .str)) h
 | .dz m a es,τ,h=>(eval F a τ h).bind λx h=>if mJ m x h then(Gd F es τ h).bind λws h=>me m x ws h else .fail
 | .make c q es,τ,h=>(Gd F es τ h).bind λws h=>(F.call q (.v (.ref h.length)::ws.map W.arg) (h++ [.obj c []])).bind λw h'=>match w with
  | .v .aj=>aq (.ref h.length) h'
  | _=> .fail
 | .aG a c f,τ,h=>(eval F a τ h).bind λw h=>match GX h (k0 w)with
  | some (_,c',fs)=>if c'=c then(R.of h (fs.lookup f)).bind λd h=>aq d h else .fail
  | none=> .fail
 | .bL a c m q es,τ,h=>(eval F a τ h).bind λw h=>match GX h (k0 w)with
  | some (r,c',fs)=>if c'=c/\(fs.lookup m).isNone=u0 then(Gd F es τ h).bind λws h=>F.call q (.v (.ref r)::ws.map W.arg) h else .fail
  | none=> .fail
 | .eV a,τ,h=>(eval F a τ h).bind λw h=>(R.of h w.int?).bind λi h=>aq (.int ((Kg i:Nat):Int)) h
 | .eM f a,τ,h=>(eval F a τ h).bind λw h=>(R.of h (Ke (λx=>F.call f [.v (.int x)] []) ((w.cc h).bind GM))).bind λi h=>aq (.int i) h
@[simp] noncomputable def Gd (F:Fx):Es->Sl->AH->R (List W)
 | .nil,_,h=> .ok [] h
 | .cons e es,τ,h=>(eval F e τ h).bind λw h=>(Gd F es τ h).bind λws h=> .ok (w::ws) h
@[simp] noncomputable def Gw (F:Fx):Es->Sl->AH->R (List D)
 | .nil,_,h=> .ok [] h
 | .cons e es,τ,h=>(eval F e τ h).bind λw h=>(R.of h w.d).bind λd h=>(Gw F es τ h).bind λds h=> .ok (d::ds) h
@[simp] noncomputable def Gk (F:Fx):It->Sl->AH->R (List D)
 | .seq e,τ,h=>(eval F e τ h).bind λw h=>match w with
  | .v (.str s)=> .ok (g8 s) h
  | .v (.tup xs)=> .ok xs h
  | .v (.lst xs)=> .ok xs h
  | .own xs=> .ok xs h
  | .bor xs=> .ok xs h
  | _=> .fail
 | .av a,τ,h=>(eval F a τ h).bind λw h=>(R.of h w.int?).bind λn h=>if -(fH)<=n/\n<fH then .ok ((Aa5 n.toNat).map λ(i:Nat)=> .int (i:Int)) h else .fail
 | .cj e,τ,h=>(eval F e τ h).bind λw h=>(R.of h (yl w)).bind λxs h=> .ok (Kk 0 xs) h
end
noncomputable def kW:W->Option (List D)
 | .v (.str s)=>k0 (g8 s)
 | .v (.tup xs)=>k0 xs
 | .v (.lst xs)=>k0 xs
 | .own xs=>k0 xs
 | _=>y0
noncomputable def iW:W->Option (List D)
 | .v (.str s)=>k0 (g8 s)
 | .v (.tup xs)=>k0 xs
 | .v (.lst xs)=>k0 xs
 | .bor xs=>k0 xs
 | _=>y0
@[simp] theorem Kp (xs):kW (.v (.tup xs))=k0 xs:=rfl
@[simp] theorem Kr (xs):kW (.v (.lst xs))=k0 xs:=rfl
@[simp] theorem Ka (xs):kW (.own xs)=k0 xs:=rfl
@[simp] theorem Ku (xs):iW (.v (.tup xs))=k0 xs:=rfl
@[simp] theorem Ks (xs):iW (.v (.lst xs))=k0 xs:=rfl
@[simp] theorem Ko (xs):iW (.bor xs)=k0 xs:=rfl
@[simp] def GJ:E->Option Nat
 | .var i=>k0 i
 | _=>y0
@[simp] def Gs (F:Fx) (it:It) (τ:Sl) (h:AH):R (List D):=match it with
 | .seq e=>match GJ e with
  | some i=>R.of h ((Gn τ i).bind iW)
  | none=>(eval F e τ h).bind λw h=>R.of h (kW w)
 | it=>Gk F it τ h
noncomputable def Gq (c:D->Sl->Option Sl) (b:Sl->AH->O):List D->Sl->AH->O
 | [],τ,h=> .next τ h
 | d::ds,τ,h=>match c d τ with
  | none=> .fail
  | some e=>match b e h with
   | .next a h2=>Gq c b ds a h2
   | .cont a h2=>Gq c b ds a h2
   | .brk a h2=> .next a h2
   | o=>o
noncomputable def GG (c:Sl->AH->R Bool) (d:Sl->AH->O):Nat->Sl->AH->O
 | 0,_,_=> .fail
 | n+1,τ,h=>(c τ h).cP λb h1=>match b with
  | false=> .next τ h1
  | true=>match d τ h1 with
   | .next a h2=>GG c d n a h2
   | .cont a h2=>GG c d n a h2
   | .brk a h2=> .next a h2
   | o=>o
def Gm (F:Fx) (e:E) (τ:Sl) (h:AH):R Bool:=(eval F e τ h).bind λx h=>R.of h (G6 h x)
def fq :W->Option (D×D)
 | .v (.tup [a,b])=>k0 (a,b)
 | _=>y0
def Kt (w a b:W) (τ:Sl) (h:AH):O:=match w,a,b with
 | .v d,.v (.ref r),.v (.int j)=>match h[r]? with
  | some (.lst xs)=>match dy xs.length j with
   | some n=>if GN d then .next τ (h.set r (.lst (xs.set n d)))else .fail
   | none=> .fail
  | _=> .fail
 | _,_,_=> .fail
mutual
@[simp] noncomputable def exec (F:Fx):S->Sl->AH->O
 | .set i e,τ,h=>(eval F e τ h).cP λw h=>match w with
  | .bor _=> .fail
  | w=> .next (GC τ i w) h
 | .af i e,τ,h=>(eval F e τ h).cP λw h=>match w.d with
  | some d=> .next (GC τ i (.v d)) h
  | none=> .fail
 | .fb is e,τ,h=>(eval F e τ h).cP λw h=>match w with
  | .v (.tup ds)=>match aY is ds τ with
   | some τ'=> .next τ' h
   | none=> .fail
  | _=> .fail
 | .fT o k j e,τ,h=>(eval F e τ h).cP λw h=>match fq w with
  | some (d1,d2)=>(eval F o τ h).cP λow h=>(eval F k τ h).cP λkw h=>if GN d2 then(match Kt (.v d1) ow kw τ h with
   | .next τ h=> .next (GC τ j (.v d2)) h
   | _=> .fail)else .fail
  | none=> .fail
 | .bT o k e,τ,h=>(eval F e τ h).cP λw h=>(eval F o τ h).cP λow h=>(eval F k τ h).cP λkw h=>Kt w ow kw τ h
 | .app i e,τ,h=>match Gn τ i with
  | some (.own xs)=>(eval F e τ h).cP λw h=>match w.d with
   | some d=>if xs.length<bh then .next (GC τ i (.own (xs++ [d]))) h else .fail
   | none=> .fail
  | _=> .fail
 | .ext i e,τ,h=>match Gn τ i with
  | some (.own xs)=>(eval F e τ h).cP λw h=>match w with
   | .own ys=>if xs.length+ys.length<bh then .next (GC τ i (.own (xs++ys))) h else .fail
   | _=> .fail
  | _=> .fail
 | .bS i c f e,τ,h=>(eval F e τ h).cP λw h=>match w.d with
  | some d=>match GX h (Gn τ i)with
   | some (r,c',fs)=>if c'=c/\Gf d=u0/\fs.length<100 then .next τ (h.set r (.obj c (aU f d fs)))else .fail
   | none=> .fail
  | none=> .fail
 | .dY i k e,τ,h=>(eval F e τ h).cP λw h=>match Gn τ i with
  | some (.own xs)=>(eval F k τ h).cP λkw h=>match w,kw with
   | .v d,.v (.int j)=>(match dy xs.length j with
    | some n=> .next (GC τ i (.own (xs.set n d))) h
    | none=> .fail)
   | _,_=> .fail
  | _=> .fail
 | .cm i k e,τ,h=>(eval F e τ h).cP λw h=>match GT h (Gn τ i)with
  | some _=>(eval F k τ h).cP λkw h=>match w,kw,GT h (Gn τ i)with
   | .v d,.v (.str t),k0 (r,ks)=>if ks.length<bh/\Gf d=u0 then .next τ (h.set r (.aM (GE ks t d)))else .fail
   | _,_,_=> .fail
  | none=> .fail
 | .ex e,τ,h=>(eval F e τ h).cP λ_ h=> .next τ h
 | .ret e,τ,h=>match GJ e with
  | some i=>match Gn τ i with
   | some (.bor _)=> .fail
   | some w=> .ret w h
   | none=> .fail
  | none=>(eval F e τ h).cP λw h=>match w with
   | .bor _=> .fail
   | w=> .ret w h
 | .iff c a b,τ,h=>(Gm F c τ h).cP λt h=>match t with
  | true=>execs F a τ h
  | false=>execs F b τ h
 | .ip n c b,τ,h=>GG (λτ h=>Gm F c τ h) (λτ h=>execs F b τ h) n τ h
 | .for tg one it b,τ,h=>(Gs F it τ h).cP λds h=>Gq (Gp tg one) (λτ h=>execs F b τ h) ds τ h
 | .bF i c f e,τ,h=>(eval F e τ h).cP λw h=>match w with
  | .v d=>match GX h (Gn τ i)with
   | some (r,c',fs)=>if c'=c/\fs.length<100 then .next τ (h.set r (.obj c (aU f d fs)))else .fail
   | none=> .fail
  | _=> .fail
 | .ea,_,_=> .fail
@[simp] noncomputable def execs (F:Fx):Ss->Sl->AH->O
 | .nil,τ,h=> .next τ h
 | .cons s ss,τ,h=>(exec F s τ h).seq λτ h=>execs F ss τ h
end
structure Fn where
 ps:Nat
 n:Nat
 body:Ss
structure Prog where
 fns:List (String×Fn)
 cl:dR
 con:List (String×D)
def W.keep:W->Bool
 | .v d=>Gf d
 | .own xs=>Gc xs
 | .bor _=>u0
noncomputable def fin (n:Nat) (w:W) (h:AH):R W:=if h.length=n then .ok w h else if w.keep&&Gx (h.take n)then .ok w (h.take n)else .ok w h
def Gv (n:Nat):O->R W
 | .ret w h=>match w with
  | .bor _=> .fail
  | w=>fin n w h
 | .next _ h=>fin n (.v .aj) h
 | _=> .fail
@[simp] theorem Ga (d) (h h':AH) (e:h'.length=h.length):Gv h.length (.ret (.v d) h')= .ok (.v d) h':=by simp [Gv,fin,e]
@[simp] theorem Gu (xs) (h h':AH) (e:h'.length=h.length):Gv h.length (.ret (.own xs) h')= .ok (.own xs) h':=by simp [Gv,fin,e]
@[simp] theorem GB (τ) (h h':AH) (e:h'.length=h.length):Gv h.length (.next τ h')= .ok (.v .aj) h':=by simp [Gv,fin,e]
def run (F:Fx) (d:Fn) (ws:List W) (h:AH):R W:=if ws.length=d.ps then Gv h.length (execs F d.body (ws.map k0++Aa3 (d.n-d.ps) y0) h)else .fail
def call (p:Prog):Nat->String->List W->AH->R W
 | 0,_,_,_=> .fail
 | k+1,f,a,h=>match p.fns.lookup f with
  | some d=>run ⟨call p k,p.cl,p.con⟩ d a h
  | none=> .fail
def Gb (e:p.fns.lookup f=k0 d) (k) (ws) (h) (a:ws.length=d.ps):
 call p (k+1) f ws h=Gv h.length (execs ⟨call p k,p.cl,p.con⟩ d.body (ws.map k0++Aa3 (d.n-d.ps) y0) h):=by
 rw [call,e]
 simp [run,a]
end
end M
namespace L2.MS
open PySem PySem.Spec
section
open PySem.Calls PySem.W PyProof.Rows
def d4 (P:Program) (w:World):f7:=λ_ _ _ _ _ _=>False
def BY {P:Program}{w:World}{K:Ab}{j:Str->Option Value}{base:Heap}{x b:Str}{st:Stmt}{f:Addr}{i:FuncData}{N ps:List Str}{k:Nat}{e:Sp}(F:l9 K x b st f i) (S:ZC N ps (Ql st)) (len: ∀vs H Q E,e vs H Q E->vs.length=ps.length)
 (d: ∀(c:Value) (A:Around) (a:List Env) (s:Shared) (H:Hp) (vs:List V) (Q:VK) (E:XK),a0 k (A.deeper (envOfC b (Ql st) s.heap.objs.size f c))->e vs H Q E →
   ∃t,de (hC (d4 P w) P w K j base N b (Ql st) f c A a s H E) (jK st) t/\t { nx:=λ_ H'=>Q .aj H',rt:=Q } (start N vs) H):ZF P w K j base (d4 P w) (k+1) f i ps e:=by
 obtain⟨oc,u,kV,m,q,p,c,r,l,rfl,n,g⟩:=F.ex
 exact yS n g S len λA a s H vs Q E o h=>d c A a s H vs Q E o h
def yA {P:Program}{w:World}{K:Ab}{h:Str->Option Value}{base:Heap}{N:List Str}{b:Str}{a:Scope}{f:Addr}{cd:Value}{A:Around}{c:List Env}{s:Shared}{H:Hp}{E:XK}:PassesOwn (model P w) (A.deeper (envOfC b a s.heap.objs.size f cd)) (envOfC b a s.heap.objs.size f cd) (hC (d4 P w) P w K h base N b a f cd A c s H E).xe:=
 PassesOwn.leaving (M:=model P w) (A:=A.deeper (envOfC b a s.heap.objs.size f cd)) (env:=envOfC b a s.heap.objs.size f cd) (Q₁:=λe d=>d4 P w c H s E e d) (E₁:=λg d=>d4 P w c H s E g d)
def HL {P:Program}{w:World}{K:Ab}{i:Str->Option Value}{base:Heap}{k:Nat}{f:Addr}{g:FuncData}{ps:List Str}{e b:Sp}(F:ZF P w K i base (d4 P w) k f g ps e)
 (h: ∀vs H Q E,b vs H Q E->e vs H Q (λ_ _ _=>False)):ZF P w K i base kK k f g ps b:=by
 refine⟨λvs H Q E q=>F.len vs H Q _ (h _ _ _ _ q),λA a s H d j vs Q E p l n o m=>codeAny_mono (F.run A a s H d j vs Q _ p l n o (h _ _ _ _ m)) λres v c=> ?_⟩
 cases res with
 | ok r=>
  cases r with
  | ret u=>exact c
  | next=>exact c
  | brk=>exact c
  | cont=>exact c
 | error t=>exact False.elim c
end
structure Ge where
 K:Ab
 ca:String->Addr
 cl:M.dR
 own:List String
 ma:String->Addr
structure Gh where
 fz:Addr->Prop
 aR:Nat->Addr
 n:Nat
def eW (Y:Ge) (G:Gh) (H:Hp) (a:Addr) (vs:List V):Prop:=(G.fz a/\H a=k0 (.tup vs)) ∨
 ∃(o:Obj) (b:Array Value) (n:Nat),Y.K.lookup a=some o/\o.cls= .type "tuple" /\o.dict=none/\o.data= .seq b n/\b.size<=sizeLine/\Vals vs b.toList
def sT (Y:Ge) (a:Addr) (vs:List V):Prop:= ∃(o:Obj) (b:Array Value) (n:Nat),Y.K.lookup a=some o/\o.cls= .type "list" /\o.dict=none/\o.data= .seq b n/\b.size<=sizeLine/\Vals vs b.toList
def iT (Y:Ge) (G:Gh) (H:Hp) (a:Addr) (vs:List V):Prop:=(G.fz a/\Rd H a (.lst vs))\/sT Y a vs
def eW.sq (h:eW Y G H a vs):cA Y.K H a vs:=h.elim (λz=> .inl (.inl z.2)) λ⟨o,b,n,e,c,_,d⟩=> .inr ⟨o,b,n,e,c,d⟩
def eW.pl (h:eW Y G H a vs):yh Y.K H a:=h.elim (λz=> .inl ⟨_,z.2⟩) λ⟨o,_,_,d,b,c,_⟩=> .inr ⟨o,d,b,c⟩
def iT.sq (h:iT Y G H a vs):bu Y.K H a vs:=h.elim (λz=> .inl z.2) λz=> .inr z
def aC (s:M.Tx):Str:=⟨s.toArray⟩
mutual
def aA (Y:Ge) (G:Gh) (H:Hp):M.D->V->Prop
 | .aj,v=>v= .aj
 | .bl b,v=>v= .bl b
 | .int i,v=>v= .int i
 | .str s,v=>v= .str (aC s)
 | .tup ds,v=> ∃a vs,v= .ref a/\eW Y G H a vs/\aa Y G H ds vs
 | .lst ds,v=> ∃a vs,v= .ref a/\iT Y G H a vs/\aa Y G H ds vs
 | .ref r,v=>r<G.n/\v= .ref (G.aR r)
def aa (Y:Ge) (G:Gh) (H:Hp):List M.D->List V->Prop
 | [],vs=>vs= []
 | d::ds,vs=> ∃v r,vs=v::r/\aA Y G H d v/\aa Y G H ds r
end
def bx (Y:Ge) (G:Gh) (H:Hp) (a:Addr):M.Cell->Prop
 | .lst xs=>M.Gc xs=u0/\ ∃d,H a=k0 (.lst d)/\aa Y G H xs d
 | .aM ks=>M.Gc (ks.map (·.2))=u0/\ ∃b,H a=k0 (dS ((ks.map λp=>aC p.1).zip b))/\aa Y G H (ks.map (·.2)) b
 | .obj c fs=> ∃dx b,H a=k0 (.ins (Y.ca c) dx ((fs.map λp=>Str.ofString p.1).zip b))/\aa Y G H (fs.map (·.2)) b
structure ag (Y:Ge) (G:Gh) (h:M.AH) (H:Hp):Prop where
 len:h.length=G.n
 any: ∀r c,h[r]? =k0 c-> ¬G.fz (G.aR r)/\bx Y G H (G.aR r) c
 inj: ∀r s,r<G.n->s<G.n->G.aR r=G.aR s->r=s
 live: ∀a,G.fz a-> ∃o,H a=k0 o
def du (G:Gh) (a:Addr):Prop:= ∀r,r<G.n->G.aR r≠a
structure Ext (G:Gh) (H:Hp) (G':Gh) (H':Hp):Prop where
 keep: ∀a o,H a=k0 o->du G a->H' a=k0 o
 le:G.n<=G'.n
 aR: ∀r,r<G.n->G'.aR r=G.aR r
 new: ∀r,G.n<=r->r<G'.n->H (G'.aR r)=y0
 fz: ∀a,G.fz a->G'.fz a
 old: ∀a,G'.fz a->G.fz a\/H a=y0
 cells: ∀r,r<G.n->(∃ o,H (G.aR r)=k0 o)-> ∃o,H' (G.aR r)=k0 o
def ah (Y:Ge) (G:Gh) (H:Hp):M.W->V->Prop
 | .v d,v=>aA Y G H d v
 | .own xs,v=> ∃a b,v= .ref a/\ ¬G.fz a/\du G a/\H a=k0 (.lst b)/\aa Y G H xs b
 | .bor xs,v=> ∃a b,v= .ref a/\du G a/\Rd H a (.lst b)/\aa Y G H xs b
def fZ:M.W->Bool
 | .own _=>u0
 | .bor _=>u0
 | _=>k9
structure ao (Y:Ge) (G:Gh) (τ:M.Sl) (h:M.AH) (U:St) (H:Hp):Prop where
 len:τ.length=U.length
 slot: ∀i w,M.Gn τ i=k0 w-> ∃v,U[i]? =k0 (k0 v)/\ah Y G H w v
 apart: ∀i j xs w a,i≠j->M.Gn τ i=k0 (.own xs)->M.Gn τ j=k0 w->fZ w=u0->U[i]? =k0 (k0 (.ref a))->U[j]? ≠k0 (k0 (.ref a))
 heap:ag Y G h H
section
variable {Y:Ge}{G G' G1 G2:Gh}{H H' H1 H2:Hp}{h h':M.AH}{τ:M.Sl}{U:St}
def ag.cell (R:ag Y G h H) (r) (xs) (e:h[r]? =k0 (M.Cell.lst xs)): ¬G.fz (G.aR r)/\ ∃vs,H (G.aR r)=k0 (.lst vs)/\aa Y G H xs vs:=⟨(R.any r _ e).1,(R.any r _ e).2.2⟩
def ag.pure (R:ag Y G h H) (r:Nat) (xs) (e:h[r]? =k0 (M.Cell.lst xs)):M.Gc xs=true:=(R.any r _ e).2.1
theorem ag.obj (R:ag Y G h H) (r) (c) (fs) (e:h[r]? =k0 (M.Cell.obj c fs)): ¬G.fz (G.aR r)/\ ∃dx i,H (G.aR r)=k0 (.ins (Y.ca c) dx ((fs.map λp=>Str.ofString p.1).zip i))/\aa Y G H (fs.map (·.2)) i:=R.any r _ e
def ag.lt (R:ag Y G h H)(e:h[r]? =k0 c):r<G.n:=by rw [← R.len];exact(Aa1.mp e).1
def ag.at (R:ag Y G h H)(a:i<G.n): ∃c,h[i]? =k0 c:=⟨_,Aa7 (by rw [R.len];exact a)⟩
def bx.there {a:Addr}{c:M.Cell}(z:bx Y G H a c): ∃o,H a=k0 o:=by
 cases c with
 | lst b=>obtain⟨_,_,z,_⟩:=z;exact⟨_,z⟩
 | aM d=>obtain⟨_,_,z,_⟩:=z;exact⟨_,z⟩
 | obj c fs=>obtain⟨_,_,z,_⟩:=z;exact⟨_,z⟩
def ag.kN (r:ag Y G h H)(a:i<G.n): ¬G.fz (G.aR i):=let ⟨_,e⟩:=r.at a;(r.any i _ e).1
def ag.off (r:ag Y G h H)(b:G.fz a):du G a:=λi c z=>r.kN c (z▸b)
theorem ag.there (r:ag Y G h H)(a:i<G.n): ∃o,H (G.aR i)=k0 o:=let ⟨_,e⟩:=r.at a;(r.any i _ e).2.there
def Ext.refl:Ext G H G H:=⟨λ_ _ e _=>e,Aa9 _,λ_ _=>rfl,λr a b=>absurd a (An4.mpr b),λ_ z=>z,λ_ z=> .inl z,λ_ _ z=>z⟩
theorem Ext.none (e:Ext G H G' H') (d:ag Y G h H)(z:H' a=y0):H a=none:=by
 cases q:H a with
 | none=>rfl
 | some o=>
  by_cases b:du G a
  ·rw [e.keep a o q b]at z;cases z
  ·unfold du at b
   have: ∃r,r<G.n/\G.aR r=a:=Aj1 λg=>b λr d z=>g ⟨r,d,z⟩
   obtain⟨r,c,rfl⟩:=this
   obtain⟨i,f⟩:=e.cells r c ⟨o,q⟩
   rw [z]at f;cases f
def Ext.off (e:Ext G H G' H')(f:H a=k0 o) (b:du G a):du G' a:=λr d z=>by
 by_cases c:r<G.n
 ·rw [e.aR r c]at z;exact b r c z
 ·have:=e.new r (Nat.not_lt.mp c) d
  rw [z,f]at this;cases this
def Ext.trans (b:Ext G H G1 H1) (f:ag Y G h H) (d:Ext G1 H1 G2 H2):Ext G H G2 H2 where
 keep:=λa o z e=>d.keep a o (b.keep a o z e) (b.off z e)
 le:=Ab5 b.le d.le
 aR:=λr c=>by rw [d.aR r (Ab4 c b.le),b.aR r c]
 new:=λr i g=>by
  by_cases c:r<G1.n
  ·rw [d.aR r c];exact b.new r i c
  ·exact b.none f (d.new r (Nat.not_lt.mp c) g)
 fz:=λa z=>d.fz a (b.fz a z)
 old:=λa z=>(d.old a z).elim (λz=>b.old a z) λz=> .inr (b.none f z)
 cells:=λr c z=>by
  have:=d.cells r (Ab4 c b.le) (by rw [b.aR r c];exact b.cells r c z)
  rwa [b.aR r c]at this
def Ext.rd (e:Ext G H G' H')(z:Rd H a u) (b:du G a):Rd H' a u:=z.elim (λz=> .inl (e.keep a _ z b)) λ⟨o,z⟩=> .inr ⟨o,e.keep a _ z b⟩
structure Mon (G:Gh) (H:Hp) (G':Gh) (H':Hp):Prop where
 keep: ∀a o,G.fz a->H a=k0 o->H' a=k0 o
 le:G.n<=G'.n
 aR: ∀r,r<G.n->G'.aR r=G.aR r
 fz: ∀a,G.fz a->G'.fz a
def Ext.mon (e:Ext G H G' H') (b:ag Y G h H):Mon G H G' H':=⟨λa o z q=>e.keep a o q (b.off z),e.le,e.aR,e.fz⟩
def Mon.rd (e:Mon G H G' H')(z:Rd H a u) (b:G.fz a):Rd H' a u:=z.elim (λz=> .inl (e.keep a _ b z)) λ⟨o,z⟩=> .inr ⟨o,e.keep a _ b z⟩
mutual
theorem aA.mon (e:Mon G H G' H'): ∀ {d:M.D}{v:V},aA Y G H d v->aA Y G' H' d v
 | .aj,_,z=>z
 | .bl _,_,z=>z
 | .int _,_,z=>z
 | .str _,_,z=>z
 | .tup _,_,⟨a,vs,z1,z2,z3⟩=>⟨a,vs,z1,z2.elim (λz=> .inl ⟨e.fz a z.1,e.keep a _ z.1 z.2⟩) λz=> .inr z,aa.mon e z3⟩
 | .lst _,_,⟨a,vs,z1,z2,z3⟩=>⟨a,vs,z1,z2.elim (λz=> .inl ⟨e.fz a z.1,e.rd z.2 z.1⟩) .inr,aa.mon e z3⟩
 | .ref r,_,⟨z1,z2⟩=>⟨Ab4 z1 e.le,by rw [e.aR r z1];exact z2⟩
theorem aa.mon (e:Mon G H G' H'): ∀ {ds:List M.D}{vs:List V},aa Y G H ds vs->aa Y G' H' ds vs
 | [],_,z=>z
 | _::_,_,⟨v,r,z1,z2,z3⟩=>⟨v,r,z1,aA.mon e z2,aa.mon e z3⟩
end
theorem bx.mon (e:Mon G H G' H'){a:Addr}{c:M.Cell}(k: ∀o,H a=k0 o->H' a=k0 o) (z:bx Y G H a c):bx Y G' H' a c:=by
 cases c with
 | lst j=>obtain⟨g,h,b,d⟩:=z;exact⟨g,h,k _ b,d.mon e⟩
 | aM l=>obtain⟨g,f,b,d⟩:=z;exact⟨g,f,k _ b,d.mon e⟩
 | obj c fs=>obtain⟨i,f,b,d⟩:=z;exact⟨i,f,k _ b,d.mon e⟩
def aA.ext (e:Ext G H G' H') (a:ag Y G h H)(z:aA Y G H d v):aA Y G' H' d v:=z.mon (e.mon a)
def aa.ext (e:Ext G H G' H') (a:ag Y G h H)(z:aa Y G H d v):aa Y G' H' d v:=z.mon (e.mon a)
theorem ah.ext (e:Ext G H G' H') (f:ag Y G h H)(z:ah Y G H w v):ah Y G' H' w v:=by
 cases w with
 | v d=>exact aA.ext e f z
 | own k=>
  obtain⟨a,g,i,l,c,b,j⟩:=z
  refine⟨a,g,i,λq=> ?_,e.off b c,e.keep a _ b c,aa.ext e f j⟩
  obtain q | q:=e.old a q
  ·exact l q
  ·rw [b]at q;cases q
 | bor k=>
  obtain⟨a,g,i,c,b,j⟩:=z
  refine⟨a,g,i,?_,e.rd b c,aa.ext e f j⟩
  obtain b | ⟨o,b⟩:=b
  ·exact e.off b c
  ·exact e.off b c
theorem ao.ext (s:ao Y G τ h U H) (e:Ext G H G' H') (a:ag Y G' h' H'):ao Y G' τ h' U H' where
 len:=s.len
 slot:=λi w z=>let ⟨v,b,c⟩:=s.slot i w z; ⟨v,b,c.ext e s.heap⟩
 apart:=s.apart
 heap:=a
theorem aa.length: ∀ {ds}{vs},aa Y G H ds vs->ds.length=vs.length
 | [],_,rfl=>rfl
 | _::_,_,⟨_,_,rfl,_,z⟩=>congrArg (· +1) (aa.length z)
theorem aa.get: ∀ {ds}{vs}{i:Nat}{d},aa Y G H ds vs->ds[i]? =k0 d-> ∃v,vs[i]? =k0 v/\aA Y G H d v
 | [],_,_,_,_,e=>by simp at e
 | _::_,_,0,_,⟨v,_,rfl,z,_⟩,e=>by simp at e;subst e;exact⟨v,rfl,z⟩
 | _::_,_,i+1,_,⟨_,_,rfl,_,z⟩,e=>by
  obtain⟨v,a,b⟩:=aa.get z (by simpa using e)
  exact⟨v,by simpa using a,b⟩
theorem aa.append: ∀ {ds es}{vs i},aa Y G H ds vs->aa Y G H es i->aa Y G H (ds++es) (vs++i)
 | [],_,_,_,rfl,z=>z
 | _::_,_,_,_,⟨v,r,rfl,a,b⟩,z=>⟨v,r++_,rfl,a,aa.append b z⟩
theorem aa.drop: ∀ {ds}{vs}(n),aa Y G H ds vs->aa Y G H (ds.drop n) (vs.drop n)
 | _,_,0,z=>z
 | [],_,_+1,rfl=>rfl
 | _::_,_,n+1,⟨_,_,rfl,_,z⟩=>aa.drop n z
theorem aa.take: ∀ {ds}{vs}(n),aa Y G H ds vs->aa Y G H (ds.take n) (vs.take n)
 | _,_,0,_=>rfl
 | [],_,_+1,rfl=>rfl
 | _::_,_,n+1,⟨v,r,rfl,a,z⟩=>⟨v,r.take n,rfl,a,aa.take n z⟩
theorem aa.set (z:aA Y G H d v): ∀ {ds}{vs} i,aa Y G H ds vs->aa Y G H (ds.set i d) (vs.set i v)
 | [],_,_,rfl=>rfl
 | _::_,_,0,⟨_,r,rfl,_,a⟩=>⟨v,r,rfl,z,a⟩
 | _::_,_,i+1,⟨u,r,rfl,b,a⟩=>⟨u,r.set i v,rfl,b,aa.set z i a⟩
def Gh.more (G:Gh) (a:Addr):Gh:= { G with fz:=λb=>G.fz b\/b=a }
def qs (o) (b:H p=y0):Ext G H G (aL H p o) where
 keep:=λa u z _=>by rw [Qa (wb z b)];exact z
 le:=Aa9 _
 aR:=λ_ _=>rfl
 new:=λr d c=>absurd d (An4.mpr c)
 fz:=λ_ z=>z
 old:=λ_ z=> .inl z
 cells:=λr _ ⟨u,z⟩=>⟨u,by rw [Qa (wb z b)];exact z⟩
def xG (o) (b:H p=y0):Ext G H (G.more p) (aL H p o) where
 keep:=λa u z _=>by rw [Qa (wb z b)];exact z
 le:=Aa9 _
 aR:=λ_ _=>rfl
 new:=λr d c=>absurd d (An4.mpr c)
 fz:=λ_ z=> .inl z
 old:=λa z=>z.elim .inl λe=> .inr (e▸b)
 cells:=λr _ ⟨u,z⟩=>⟨u,by rw [Qa (wb z b)];exact z⟩
def ag.new (r:ag Y G h H)(o) (b:H p=y0):ag Y G h (aL H p o) where
 len:=r.len
 any:=λi c z=>⟨(r.any i c z).1,(r.any i c z).2.mon ((qs o b).mon r) λu q=>by rw [Qa (wb q b)];exact q⟩
 inj:=r.inj
 live:=λa z=>let ⟨u,q⟩:=r.live a z; ⟨u,by rw [Qa (wb q b)];exact q⟩
def ag.kY (r:ag Y G h H)(o) (b:H p=y0):ag Y (G.more p) h (aL H p o) where
 len:=r.len
 any:=λi c z=>by
  obtain⟨g,d⟩:=r.any i c z
  obtain⟨u,f⟩:=d.there
  exact⟨λq=>q.elim g (wb f b),d.mon ((xG o b).mon r) λu q=>by rw [Qa (wb q b)];exact q⟩
 inj:=r.inj
 live:=λa z=>z.elim (λz=>let ⟨u,q⟩:=r.live a z; ⟨u,by rw [Qa (wb q b)];exact q⟩) λe=>⟨o,by rw [e];exact Zc⟩
def wt (a):Mon G H (G.more a) H:=⟨λ_ _ _ z=>z,Aa9 _,λ_ _=>rfl,λ_ z=> .inl z⟩
theorem Ext.more (e:Ext G H G1 H1)(c:H a=Option.none):Ext G H (G1.more a) H1:=
 ⟨e.keep,e.le,e.aR,e.new,λb z=> .inl (e.fz b z),λb z=>z.elim (λz=>e.old b z) λz=> .inr (z▸c),e.cells⟩
theorem ag.more (r:ag Y G h H)(d:du G a) (f: ∃o,H a=k0 o):ag Y (G.more a) h H where
 len:=r.len
 any:=λi c z=>⟨λq=>q.elim (r.any i c z).1 λe=>d i (r.lt z) e,(r.any i c z).2.mon (wt a) λ_ q=>q⟩
 inj:=r.inj
 live:=λb z=>z.elim (λz=>r.live b z) λe=>e▸f
theorem ah.more (z:ah Y G H w v) (k:fZ w=u0->v≠ .ref a):ah Y (G.more a) H w v:=by
 cases w with
 | v d=>exact aA.mon (wt a) z
 | own l=>
  obtain⟨b,f,c,j,g,i,h⟩:=z
  exact⟨b,f,c,λq=>q.elim j λe=>k rfl (e▸c),g,i,h.mon (wt a)⟩
 | bor l=>
  obtain⟨b,f,c,g,i,h⟩:=z
  exact⟨b,f,c,g,i,h.mon (wt a)⟩
theorem ao.more (s:ao Y G τ h U H)(b:du G a) (d: ∃o,H a=k0 o) (g: ∀ i w,M.Gn τ i=k0 w->fZ w=u0->U[i]? ≠k0 (k0 (.ref a))):ao Y (G.more a) τ h U H where
 len:=s.len
 slot:=λi w z=>by
  obtain⟨v,c,f⟩:=s.slot i w z
  exact⟨v,c,f.more λq e=>g i w z q (e▸c)⟩
 apart:=s.apart
 heap:=s.heap.more b d
def aI (τ:M.Sl) (U:St) (H:Hp):M.W->V->Prop
 | .v _,_=>True
 | .own _,v=> ∃a,v= .ref a/\H a=y0
 | .bor _,v=> ∃(i:Nat) (w:M.W),M.Gn τ i=k0 w/\fZ w=u0/\U[i]? =k0 (k0 v)
def aI.back (e:Ext G H G1 H1) (b:ag Y G h H)(z:aI τ U H1 w v):aI τ U H w v:=by
 cases w with
 | v d=>trivial
 | own f=>obtain⟨a,c,g⟩:=z;exact⟨a,c,e.none b g⟩
 | bor f=>exact z
def ao.cT (s:ao Y G τ h U H)(e:M.Gn τ i=k0 w) (l:fZ w=u0) (q:U[i]? =k0 (k0 (.ref a))): ∃o,H a=k0 o:=by
 obtain⟨v,f,g⟩:=s.slot i w e
 rw [q]at f
 cases f
 cases w with
 | v d=>cases l
 | own k=>obtain⟨b,j,f,_,_,c,_⟩:=g;cases f;exact⟨_,c⟩
 | bor k=>
  obtain⟨b,j,f,_,c,_⟩:=g
  cases f
  obtain c | ⟨o,c⟩:=c
  ·exact⟨_,c⟩
  ·exact⟨_,c⟩
def aw {b:Type}(Y:Ge) (E:XK) (G:Gh) (H:Hp) (r:M.R b) (P:b->M.AH->Gh->Hp->Prop):Prop:=match r with
 | .ok a h'=> ∀G' H',Ext G H G' H'->ag Y G' h' H'->P a h' G' H'
 | .fail=>False
def tD (Y:Ge) (E:XK) (m:M.Sl->M.AH->M.R M.W):TE:=λU H Q=> ∃G τ h,ao Y G τ h U H/\aw Y E G H (m τ h) λw h' G' H'=> ∀v,ah Y G' H' w v->aI τ U H w v->Q v H'
def cV (Y:Ge) (E:XK) (m:M.Sl->M.AH->M.R Bool):TT:=λU H Q=> ∃G τ h,ao Y G τ h U H/\aw Y E G H (m τ h) λb _ _ H'=>Q b H'
def Wa {c:Type}{E:XK}{b:Gh}{a:Hp}{i:M.AH}{m:M.Sl->M.AH->M.R M.W}{f:M.W->M.AH->M.R c}{P:c->M.AH->Gh->Hp->Prop}{Q:VK}(n:ag Y b i a) (g:Ext b a G H) (s:ao Y G τ h U H)
 (p:aw Y E b a ((m τ h).bind f) P)
 (k: ∀w v h1 G1 H1,Ext b a G1 H1->Ext G H G1 H1->ao Y G1 τ h1 U H1->ah Y G1 H1 w v->aI τ U H w v->aw Y E b a (f w h1) P->Q v H1):tD Y E m U H Q:=by
 refine⟨G,τ,h,s,?_⟩
 cases q:m τ h with
 | ok w h1=>
  rw [q]at p
  exact λG1 H1 e l v j d=>k w v h1 G1 H1 (g.trans n e) e (s.ext e l) j d p
 | fail=>rw [q]at p;exact p
def xT {d:Type}{E:XK}{c:Gh}{a:Hp}{i:M.AH}{m:M.Sl->M.AH->M.R Bool}{f:Bool->M.AH->M.R d}{P:d->M.AH->Gh->Hp->Prop}{Q:Bool->Hp->Prop}(l:ag Y c i a) (g:Ext c a G H) (s:ao Y G τ h U H)
 (p:aw Y E c a ((m τ h).bind f) P)
 (k: ∀b h1 G1 H1,Ext c a G1 H1->Ext G H G1 H1->ao Y G1 τ h1 U H1->aw Y E c a (f b h1) P->Q b H1):cV Y E m U H Q:=by
 refine⟨G,τ,h,s,?_⟩
 cases q:m τ h with
 | ok w h1=>
  rw [q]at p
  exact λG1 H1 e j=>k w h1 G1 H1 (g.trans l e) e (s.ext e j) p
 | fail=>rw [q]at p;exact p
def iN (Y:Ge) (E:XK) (m:M.Sl->M.AH->M.R (List M.D)):TA:=λU H Q=> ∃G τ h,ao Y G τ h U H/\aw Y E G H (m τ h) λds _ G' H'=> ∀a,aa Y G' H' ds a->Q a H'
def bj (Y:Ge) (G:Gh) (H:Hp):List M.W->List V->Prop
 | [],a=>a= []
 | w::b,a=> ∃v r,a=v::r/\ah Y G H w v/\bj Y G H b r
theorem bj.ext (e:Ext G H G' H') (a:ag Y G h H): ∀ {ws}{vs},bj Y G H ws vs->bj Y G' H' ws vs
 | [],_,z=>z
 | _::_,_,⟨v,r,c,d,b⟩=>⟨v,r,c,ah.ext e a d,bj.ext e a b⟩
theorem bj.length: ∀ {ws}{vs},bj Y G H ws vs->ws.length=vs.length
 | [],_,rfl=>rfl
 | _::_,_,⟨_,_,rfl,_,z⟩=>congrArg (· +1) (bj.length z)
def fi (Y:Ge) (E:XK) (m:M.Sl->M.AH->M.R (List M.W)):TA:=λU H Q=> ∃G τ h,ao Y G τ h U H/\aw Y E G H (m τ h) λb _ G' H'=> ∀a,bj Y G' H' b a->Q a H'
def oO {c:Type}{E:XK}{b:Gh}{a:Hp}{g:M.AH}{m:M.Sl->M.AH->M.R (List M.D)}{f:List M.D->M.AH->M.R c}{P:c->M.AH->Gh->Hp->Prop}{Q:List V->Hp->Prop}(j:ag Y b g a) (d:Ext b a G H) (s:ao Y G τ h U H)
 (p:aw Y E b a ((m τ h).bind f) P)
 (k: ∀ds vs h1 G1 H1,Ext b a G1 H1->Ext G H G1 H1->ao Y G1 τ h1 U H1->aa Y G1 H1 ds vs->aw Y E b a (f ds h1) P->Q vs H1):iN Y E m U H Q:=by
 refine⟨G,τ,h,s,?_⟩
 cases q:m τ h with
 | ok w h1=>
  rw [q]at p
  exact λG1 H1 e i vs z=>k w vs h1 G1 H1 (d.trans j e) e (s.ext e i) z p
 | fail=>rw [q]at p;exact p
def Jp {c:Type}{E:XK}{b:Gh}{a:Hp}{g:M.AH}{m:M.Sl->M.AH->M.R (List M.W)}{f:List M.W->M.AH->M.R c}{P:c->M.AH->Gh->Hp->Prop}{Q:List V->Hp->Prop}(j:ag Y b g a) (d:Ext b a G H) (s:ao Y G τ h U H)
 (p:aw Y E b a ((m τ h).bind f) P)
 (k: ∀ds vs h1 G1 H1,Ext b a G1 H1->Ext G H G1 H1->ao Y G1 τ h1 U H1->bj Y G1 H1 ds vs->aw Y E b a (f ds h1) P->Q vs H1):fi Y E m U H Q:=by
 refine⟨G,τ,h,s,?_⟩
 cases q:m τ h with
 | ok w h1=>
  rw [q]at p
  exact λG1 H1 e i vs z=>k w vs h1 G1 H1 (d.trans j e) e (s.ext e i) z p
 | fail=>rw [q]at p;exact p
theorem aw.of (p:aw Y E G H ((M.R.of h o).bind f) P): ∃b,o=k0 b/\aw Y E G H (f b h) P:=by
 cases o with
 | none=>exact p.elim
 | some b=>exact⟨b,rfl,p⟩
def aw.at (p:aw Y E G H (.ok a h) P) (e:Ext G H G1 H1) (b:ag Y G1 h H1):P a h G1 H1:=p G1 H1 e b
def o5 (e:Ext G H G1 H1) (s:ao Y G1 τ h U H1) (x:ao Y G τ h' U H)(r:ah Y G1 H1 w v) (f:aI τ U H w v) (c:w.d=k0 d):
 ∃G2,Ext G H G2 H1/\ao Y G2 τ h U H1/\aA Y G2 H1 d v/\Mon G1 H1 G2 H1:=by
 cases w with
 | v y=>cases c;exact⟨G1,e,s,r,⟨λ_ _ _ z=>z,Aa9 _,λ_ _=>rfl,λ_ z=>z⟩⟩
 | own l=>
  cases c
  obtain⟨a,m,rfl,A,n,k,p⟩:=r
  obtain⟨b,t,g⟩:=f
  cases t
  refine⟨G1.more a,e.more g,s.more n ⟨_,k⟩ λi w q u z=> ?_,⟨a,m,rfl,.inl ⟨.inr rfl,.inl k⟩,p.mon (wt a)⟩,wt a⟩
  obtain⟨o,j⟩:=x.cT q u z
  rw [g]at j;cases j
 | bor l=>cases c
end
open PySem PySem.Spec PyProof.Rows
mutual
def RV (hp:Heap):M.D->Value->Prop
 | .aj,u=>u= .none
 | .bl b,u=>u= .bool b
 | .int i,u=> ∃t,u= .int i t
 | .str s,u=> ∃t,u= .str (aC s) t
 | .tup ds,u=> ∃(a:Addr) (its:List Value),u= .ref a/\IsTup hp a its.toArray/\cb hp ds its
 | .lst ds,u=> ∃(a:Addr) (its:List Value),u= .ref a/\hp.IsList a its.toArray/\cb hp ds its
 | .ref _,_=>False
def cb (hp:Heap):List M.D->List Value->Prop
 | [],us=>us= []
 | d::ds,us=> ∃u r,us=u::r/\RV hp d u/\cb hp ds r
end
theorem cb.length : ∀ {ds}{i},cb hp ds i->ds.length=i.length
 | [],_,rfl=>rfl
 | _::_,_,⟨_,_,rfl,_,z⟩=>congrArg (· +1) (cb.length z)
theorem cb.get : ∀ {ds}{us}{j:Nat}{u},cb hp ds us->us[j]? =k0 u-> ∃d,ds[j]? =k0 d/\RV hp d u
 | [],_,_,_,rfl,e=>by simp at e
 | d::_,_,0,_,⟨v,_,rfl,z,_⟩,e=>by simp at e;subst e;exact⟨d,rfl,z⟩
 | _::_,_,j+1,_,⟨_,_,rfl,_,z⟩,e=>by
  obtain⟨v,a,b⟩:=cb.get z (by simpa using e)
  exact⟨v,by simpa using a,b⟩
section
variable {X:Cx}{Y:Ge}{G:Gh}{H:Hp}{h:M.AH}{pins:List (Addr×Obj)}{U:St}{s:Shared}
mutual
theorem aA.i8 (I:Inv X pins U H s) (hK:X.K=Y.K): ∀ {d:M.D}{x:V}{u:Value},aA Y G H d x->RelV x u->M.Gf d=u0->RV s.heap d u
 | .aj,_,_,rfl,r,_=>r
 | .bl _,_,_,rfl,r,_=>r
 | .int _,_,_,rfl,r,_=>r
 | .str _,_,_,rfl,r,_=>r
 | .tup ds,_,_,⟨a,vs,rfl,z2,z3⟩,r,n=>by
  cases r
  obtain⟨its,r1,p1,_⟩:=I.tuple (hK▸z2.sq)
  exact⟨a,its,rfl,p1,aa.i8 I hK z3 r1 (by simpa [M.Gf]using n)⟩
 | .lst ds,_,_,⟨a,vs,rfl,z2,z3⟩,r,n=>by
  cases r
  obtain⟨its,r1,p1,_⟩:=I.list (hK▸z2.sq)
  exact⟨a,its,rfl,p1.isList,aa.i8 I hK z3 r1 (by simpa [M.Gf]using n)⟩
 | .ref _,_,_,_,_,n=>by simp [M.Gf]at n
theorem aa.i8 (I:Inv X pins U H s) (hK:X.K=Y.K): ∀ {ds:List M.D}{xs:List V}{us:List Value},aa Y G H ds xs->Vals xs us->M.Gc ds=u0->cb s.heap ds us
 | [],_,_,rfl,.nil,_=>rfl
 | d::ds,_,_,⟨v,r,rfl,z1,z2⟩,.cons r1 r2,n=>by
  have n':M.Gf d=u0/\M.Gc ds=true:=by simpa [M.Gc]using n
  exact⟨_,_,rfl,aA.i8 I hK z1 r1 n'.1,aa.i8 I hK z2 r2 n'.2⟩
end
mutual
theorem aA.rv (I:Inv X pins U H s) (hK:X.K=Y.K) (hr:ag Y G h H): ∀ {d:M.D}{x:V}{u:Value},aA Y G H d x->RelV x u->M.Gf (M.res h d)=u0->RV s.heap (M.res h d) u
 | .aj,_,_,rfl,r,_=>r
 | .bl _,_,_,rfl,r,_=>r
 | .int _,_,_,rfl,r,_=>r
 | .str _,_,_,rfl,r,_=>r
 | .tup ds,_,_,⟨a,vs,rfl,z2,z3⟩,r,n=>by
  cases r
  obtain⟨its,r1,p1,_⟩:=I.tuple (hK▸z2.sq)
  rw [M.res]at n ⊢
  exact⟨a,its,rfl,p1,aa.rv I hK hr z3 r1 (by simpa [M.Gf]using n)⟩
 | .lst ds,_,_,⟨a,vs,rfl,z2,z3⟩,r,n=>by
  cases r
  obtain⟨its,r1,p1,_⟩:=I.list (hK▸z2.sq)
  rw [M.res]at n ⊢
  exact⟨a,its,rfl,p1.isList,aa.rv I hK hr z3 r1 (by simpa [M.Gf]using n)⟩
 | .ref i,_,_,⟨hi,e⟩,r,n=>by
  subst e
  cases r
  rw [M.res]at n ⊢
  cases q:h[i]? with
  | none=>rw [q]at n;simp [M.Gf]at n
  | some c=>
   cases c with
   | lst xs=>
    rw [q]at n
    obtain⟨_,vs,z2,z3⟩:=hr.cell i xs q
    obtain⟨its,r1,p1,_⟩:=I.list (bu.of (K:=X.K) z2)
    exact⟨_,its,rfl,p1.isList,aa.i8 I hK z3 r1 (by simpa [M.Gf]using n)⟩
   | obj c fs=>rw [q]at n;simp [M.Gf]at n
   | aM ks=>rw [q]at n;simp [M.Gf]at n
theorem aa.rv (I:Inv X pins U H s) (hK:X.K=Y.K) (hr:ag Y G h H): ∀ {ds:List M.D}{xs:List V}{us:List Value},aa Y G H ds xs->Vals xs us->M.Gc (M.GU h ds)=u0->cb s.heap (M.GU h ds) us
 | [],_,_,rfl,.nil,_=>rfl
 | d::ds,_,_,⟨v,r,rfl,z1,z2⟩,.cons r1 r2,n=>by
  rw [M.GU]at n ⊢
  have n':M.Gf (M.res h d)=u0/\M.Gc (M.GU h ds)=true:=by simpa [M.Gc]using n
  exact⟨_,_,rfl,aA.rv I hK hr z1 r1 n'.1,aa.rv I hK hr z2 r2 n'.2⟩
end
theorem ah.rv (I:Inv X pins U H s) (j:X.K=Y.K) (c:ag Y G h H)(z:ah Y G H w x) (r:RelV x u) (n:M.Gf (w.dd h)=u0):RV s.heap (w.dd h) u:=by
 cases w with
 | v d=>exact aA.rv I j c z r n
 | own l=>
  obtain⟨a,k,rfl,_,_,i,e⟩:=z
  cases r
  obtain⟨b,g,f,_⟩:=I.list (bu.of i)
  exact⟨a,b,rfl,f.isList,aa.rv I j c e g (by simp_all)⟩
 | bor l=>
  obtain⟨a,k,rfl,_,i,e⟩:=z
  cases r
  obtain⟨b,g,f,_⟩:=I.list (.inl i)
  exact⟨a,b,rfl,f.isList,aa.rv I j c e g (by simp_all)⟩
end
def WB (h:aC a=aC b):a=b:=by
 have:=congrArg Str.cps h
 simpa [aC]using this
def xV {xs c:List Value}(h1:IsTup hp a xs.toArray) (e:IsTup hp a c.toArray):xs=c:=by
 obtain⟨o,e1,_,n,d⟩:=h1
 obtain⟨g,e2,_,f,b⟩:=e
 rw [e1]at e2;cases e2
 rw [d]at b;cases b
 rfl
def qO {b:Heap}{xs d:List Value}(h1:b.IsList a xs.toArray) (f:b.IsList a d.toArray):xs=d:=by
 obtain⟨o,e1,_,n,e⟩:=h1
 obtain⟨h,e2,_,g,c⟩:=f
 rw [e1]at e2;cases e2
 rw [e]at c;cases c
 rfl
def WE (h1:IsTup hp a xs) (d:hp.IsList a ys):False:=by
 obtain⟨o,e1,c,_⟩:=h1
 obtain⟨e,e2,b,_⟩:=d
 rw [e1]at e2;cases e2
 rw [c]at b
 exact absurd b (by decide)
mutual
theorem RV.inj {hp:Heap}: ∀ {d e:M.D}{u:Value},RV hp d u->RV hp e u->d=e
 | .aj,e,_,rfl,q=>by cases e<;>first | rfl | (simp [RV]at q)
 | .bl _,e,_,rfl,q=>by cases e<;>first | (simp [RV]at q;done) | (have q:=q;simp [RV]at q;try rw [q])
 | .int _,e,_,⟨t,rfl⟩,q=>by cases e<;>first | (simp [RV]at q;done) | (have q:=q;simp [RV]at q;try rw [q])
 | .str _,e,_,⟨t,rfl⟩,q=>by
  cases e with
  | str z=>
   obtain⟨t',q⟩:=q
   injection q with q1 q2
   rw [WB q1]
  | _=>simp [RV]at q
 | .tup ds,e,_,⟨a,its,rfl,p,r⟩,q=>by
  cases e with
  | tup es=>
   obtain⟨b,its2,e,p2,r2⟩:=q
   cases e
   cases xV p p2
   rw [cb.inj r r2]
  | lst es=>
   obtain⟨b,its2,e,p2,r2⟩:=q
   cases e
   exact(WE p p2).elim
  | _=>simp [RV]at q
 | .lst ds,e,_,⟨a,its,rfl,p,r⟩,q=>by
  cases e with
  | lst es=>
   obtain⟨b,its2,e,p2,r2⟩:=q
   cases e
   cases qO p p2
   rw [cb.inj r r2]
  | tup es=>
   obtain⟨b,its2,e,p2,r2⟩:=q
   cases e
   exact(WE p2 p).elim
  | _=>simp [RV]at q
 | .ref _,_,_,q,_=>q.elim
theorem cb.inj {hp:Heap}: ∀ {d e:List M.D}{u:List Value},cb hp d u->cb hp e u->d=e
 | [],e,_,rfl,q=>by
  cases e with
  | nil=>rfl
  | cons a b=>obtain⟨_,_,z,_⟩:=q;cases z
 | d::ds,e,_,⟨u,r,rfl,z1,z2⟩,q=>by
  cases e with
  | nil=>cases (show _::_= []from q)
  | cons a b=>
   obtain⟨_,_,z,y1,y2⟩:=q
   cases z
   rw [RV.inj z1 y1,cb.inj z2 y2]
end
mutual
theorem RV.refl {hp:Heap}: ∀ {d:M.D}{u:Value},RV hp d u->M.cu d d=u0
 | .aj,_,_=>rfl
 | .bl _,_,_=>by simp
 | .int _,_,_=>by simp
 | .str _,_,_=>by simp
 | .tup ds,_,⟨_,_,_,_,r⟩=>by rw [M.cu];exact cb.refl r
 | .lst ds,_,⟨_,_,_,_,r⟩=>by rw [M.cu];exact cb.refl r
 | .ref _,_,q=>q.elim
theorem cb.refl {hp:Heap}: ∀ {d:List M.D}{u:List Value},cb hp d u->M.GK d d=u0
 | [],_,_=>rfl
 | d::ds,_,⟨_,_,_,z1,z2⟩=>by rw [M.GK,RV.refl z1,cb.refl z2];rfl
end
def ib (xs c:List M.D) (j:Nat):Bool:=match xs[j]?,c[j]? with
 | some a,k0 b=>M.cu a b
 | _,_=>u0
def qM (n) (e):(Aa5 (n+1)).all e=(e 0&&(Aa5 n).all λj=>e (j+1)):=by
 rw [Ah2,Ah5,An0];rfl
theorem Z5: ∀(xs ys),xs.length=ys.length->(Aa5 xs.length).all (ib xs ys)=M.GK xs ys
 | [],[],_=>rfl
 | [],_::_,h=>by simp at h
 | _::_,[],h=>by simp at h
 | x::xs,y::ys,h=>by
  rw [Aa6,qM,M.GK]
  have a:=Z5 xs ys (by simpa using h)
  rw [← a]
  rfl
theorem ua: ∀(xs ys),M.GK xs ys=u0->xs.length=ys.length
 | [],[],_=>rfl
 | [],_::_,h=>by simp at h
 | _::_,[],h=>by simp at h
 | x::xs,y::ys,h=>by
  rw [M.GK,Aa0]at h
  rw [Aa6,Aa6,ua xs ys h.2]
def pz (h:xs.length≠ys.length):M.GK xs ys=false:=by
 cases e:M.GK xs ys with
 | false=>rfl
 | true=>exact absurd (ua xs ys e) h
open SeqAt in
structure dv (A:Around) (s:Shared) (u v:Value) (b:Bool):Prop where
 rc:RcAt A s u v b
 ne:RcNeAt A s u v (!b)
 eq:EqAt A s u v b
section
open SeqAt
variable {A:Around}{s:Shared}
theorem zG: ∀ {ds}{j:Nat}{d},ds[j]? =k0 d->M.dep d<=M.GF ds
 | [],_,_,e=>by simp at e
 | x::a,0,d,e=>by simp at e;subst e;simp only [M.GF];omega
 | x::a,j+1,d,e=>by
  have:=zG (by simpa using e)
  simp only [M.GF]
  omega
def mS (b:Bool):((if b then(1:Int)else 0))=((b.toNat:Nat):Int):=by cases b<;>rfl
def vF (a b):(aC a==aC b)=(a==b):=by
 by_cases h:a=b
 ·subst h;simp
 ·have c:=λe=>h (WB e)
  rw [beq_eq_false_iff_ne.mpr h,beq_eq_false_iff_ne.mpr c]
def Bm (h:s.heap.IsList l its.toArray) (f:s.heap.IsList b its2.toArray) (k:cb s.heap xs its) (m:cb s.heap ys its2) (i:A.units<cLine)
 (w: ∀(j:Nat) a c u v,xs[j]? =k0 a->ys[j]? =k0 c->RV s.heap a u->RV s.heap c v->EqAt A.in1 s u v (M.cu a c)):dv A s (.ref l) (.ref b) (M.GK xs ys):=by
 have p: ∀ j t (y:j<its2.toArray.size),EqAt A.in1 s its.toArray[j] its2.toArray[j] (ib xs ys j):=λj t y=>by
  obtain⟨a,n,x⟩:=k.get (j:=j) (u:=its.toArray[j]) (by simp)
  obtain⟨c,o,z⟩:=m.get (j:=j) (u:=its2.toArray[j]) (by simp)
  have:=w j a c _ _ n o x z
  unfold ib
  rw [n,o]
  exact this
 have r:=k.length
 have l2:=m.length
 have two:RcAt A s (.ref l) (.ref b) (M.GK xs ys)/\RcNeAt A s (.ref l) (.ref b) (!M.GK xs ys):=by
  by_cases q:xs.length=ys.length
  ·have d:its.toArray.size=its2.toArray.size:=by simp;lia
   have e:(Aa5 its.toArray.size).all (ib xs ys)=M.GK xs ys:=by
    rw [Ac0,←r];exact Z5 xs ys q
   have a:=RcAt.lists h f d i p
   have c:=RcNeAt.lists h f d i p
   rw [e]at a c
   exact⟨a,c⟩
  ·have d:(its.toArray.size != its2.toArray.size)=true:=by simp;lia
   rw [pz q]
   exact⟨RcAt.lists_lengths h f d i,RcNeAt.lists_lengths h f d i⟩
 refine⟨two.1,two.2,?_⟩
 by_cases g:l=b
 ·subst g
  cases qO h f
  cases cb.inj k m
  rw [cb.refl k]
  exact EqAt.same _
 ·exact EqAt.of_refs g two.1
def Dr (i:IsTup s.heap l its.toArray) (h:IsTup s.heap b its2.toArray) (g:cb s.heap xs its) (k:cb s.heap ys its2) (n:A.units<cLine)
 (t: ∀(j:Nat) a c u v,xs[j]? =k0 a->ys[j]? =k0 c->RV s.heap a u->RV s.heap c v->EqAt A.in1 s u v (M.cu a c)):dv A s (.ref l) (.ref b) (M.GK xs ys):=by
 have p: ∀ j r (x:j<its2.toArray.size),EqAt A.in1 s its.toArray[j] its2.toArray[j] (ib xs ys j):=λj r x=>by
  obtain⟨a,m,w⟩:=g.get (j:=j) (u:=its.toArray[j]) (by simp)
  obtain⟨c,o,y⟩:=k.get (j:=j) (u:=its2.toArray[j]) (by simp)
  have:=t j a c _ _ m o w y
  unfold ib
  rw [m,o]
  exact this
 have q:=g.length
 have l2:=k.length
 have e:((Aa5 (min its.toArray.size its2.toArray.size)).all (ib xs ys)&&its.toArray.size==its2.toArray.size)=M.GK xs ys:=by
  rw [Ac0,Ac0,←q,←l2]
  by_cases f:xs.length=ys.length
  ·rw [← f,Nat.min_self,Z5 xs ys f];simp
  ·rw [pz f];simp [f]
 have a:=RcAt.tuples i h n p
 have c:=RcNeAt.tuples i h n p
 rw [e]at a c
 refine⟨a,c,?_⟩
 by_cases d:l=b
 ·subst d
  cases xV i h
  cases cb.inj g k
  rw [cb.refl g]
  exact EqAt.same _
 ·exact EqAt.of_refs d a
def dv.of (h:dv A s u v b) (e:b=b'):dv A s u v b':=e▸h
def oI: ∀(n:Nat) (d e:M.D) (A:Around) (u v:Value),M.dep d<=n->A.units+n<cLine->RV s.heap d u->RV s.heap e v->dv A s u v (M.cu d e):=by
 intro n
 induction n with
 | zero=>
  intro d e A u v B K m f
  have c:A.units<cLine:=by omega
  cases d with
  | aj=>
   cases (show u= .none from m)
   cases e with
   | aj=>cases (show v= .none from f);exact⟨RcAt.none_none,RcNeAt.none_none,EqAt.same _⟩
   | bl b=>cases (show v= .bool b from f);exact⟨RcAt.none_bool b,RcNeAt.none_bool b,EqAt.none_bool b⟩
   | int i=>obtain⟨t,rfl⟩:=f;exact⟨RcAt.none_int i t,RcNeAt.none_int i t,EqAt.none_int i t⟩
   | str z=>obtain⟨t,rfl⟩:=f;exact⟨RcAt.none_str _ t,RcNeAt.none_str _ t,EqAt.none_str _ t⟩
   | tup o=>obtain⟨a,k,rfl,p,_⟩:=f;exact⟨RcAt.none_tuple p c,RcNeAt.none_tuple p c,EqAt.none_tuple p c⟩
   | lst o=>obtain⟨a,k,rfl,p,_⟩:=f;exact⟨RcAt.none_list p c,RcNeAt.none_list p c,EqAt.none_list p c⟩
   | ref _=>exact f.elim
  | bl x=>
   cases (show u= .bool x from m)
   cases e with
   | aj=>cases (show v= .none from f);exact⟨RcAt.bool_none x,RcNeAt.bool_none x,EqAt.bool_none x⟩
   | bl b=>cases (show v= .bool b from f);exact⟨RcAt.bool_bool x b,RcNeAt.bool_bool x b,EqAt.bool_bool x b⟩
   | int i=>obtain⟨t,rfl⟩:=f;exact(dv.mk (RcAt.bool_int x i t) (RcNeAt.bool_int x i t) (EqAt.bool_int x i t)).of (by rw [mS];rfl)
   | str z=>obtain⟨t,rfl⟩:=f;exact⟨RcAt.bool_str x _ t,RcNeAt.bool_str x _ t,EqAt.bool_str x _ t⟩
   | tup o=>obtain⟨a,k,rfl,p,_⟩:=f;exact⟨RcAt.bool_tuple x p c,RcNeAt.bool_tuple x p c,EqAt.bool_tuple x p c⟩
   | lst o=>obtain⟨a,k,rfl,p,_⟩:=f;exact⟨RcAt.bool_list x p c,RcNeAt.bool_list x p c,EqAt.bool_list x p c⟩
   | ref _=>exact f.elim
  | int x=>
   obtain⟨g,rfl⟩:=m
   cases e with
   | aj=>cases (show v= .none from f);exact⟨RcAt.int_none x g,RcNeAt.int_none x g,EqAt.int_none x g⟩
   | bl b=>cases (show v= .bool b from f);exact(dv.mk (RcAt.int_bool x g b) (RcNeAt.int_bool x g b) (EqAt.int_bool x g b)).of (by rw [mS];rfl)
   | int i=>obtain⟨t,rfl⟩:=f;exact⟨RcAt.int_int x g i t,RcNeAt.int_int x g i t,EqAt.int_int x g i t⟩
   | str z=>obtain⟨t,rfl⟩:=f;exact⟨RcAt.int_str x g _ t,RcNeAt.int_str x g _ t,EqAt.int_str x g _ t⟩
   | tup o=>obtain⟨a,k,rfl,p,_⟩:=f;exact⟨RcAt.int_tuple x g p c,RcNeAt.int_tuple x g p c,EqAt.int_tuple x g p c⟩
   | lst o=>obtain⟨a,k,rfl,p,_⟩:=f;exact⟨RcAt.int_list x g p c,RcNeAt.int_list x g p c,EqAt.int_list x g p c⟩
   | ref _=>exact f.elim
  | str x=>
   obtain⟨g,rfl⟩:=m
   cases e with
   | aj=>cases (show v= .none from f);exact⟨RcAt.str_none _ g,RcNeAt.str_none _ g,EqAt.str_none _ g⟩
   | bl b=>cases (show v= .bool b from f);exact⟨RcAt.str_bool _ g b,RcNeAt.str_bool _ g b,EqAt.str_bool _ g b⟩
   | int i=>obtain⟨t,rfl⟩:=f;exact⟨RcAt.str_int _ g i t,RcNeAt.str_int _ g i t,EqAt.str_int _ g i t⟩
   | str z=>obtain⟨t,rfl⟩:=f;exact(dv.mk (RcAt.str_str _ g _ t) (RcNeAt.str_str _ g _ t) (EqAt.str_str _ g _ t)).of (by rw [vF];rfl)
   | tup o=>obtain⟨a,k,rfl,p,_⟩:=f;exact⟨RcAt.str_tuple _ g p c,RcNeAt.str_tuple _ g p c,EqAt.str_tuple _ g p c⟩
   | lst o=>obtain⟨a,k,rfl,p,_⟩:=f;exact⟨RcAt.str_list _ g p c,RcNeAt.str_list _ g p c,EqAt.str_list _ g p c⟩
   | ref _=>exact f.elim
  | tup y=>simp only [M.dep]at B;omega
  | lst y=>simp only [M.dep]at B;omega
  | ref _=>exact m.elim
 | succ n w=>
  intro d e A u v B K m f
  have c:A.units<cLine:=by omega
  cases d with
  | tup y=>
   obtain⟨l,C,rfl,h,G⟩:=m
   have r:M.GF y<=n:=by simp only [M.dep]at B;omega
   cases e with
   | aj=>cases (show v= .none from f);exact⟨RcAt.tuple_none h c,RcNeAt.tuple_none h c,EqAt.tuple_none h c⟩
   | bl b=>cases (show v= .bool b from f);exact⟨RcAt.tuple_bool b h c,RcNeAt.tuple_bool b h c,EqAt.tuple_bool b h c⟩
   | int i=>obtain⟨t,rfl⟩:=f;exact⟨RcAt.tuple_int i t h c,RcNeAt.tuple_int i t h c,EqAt.tuple_int i t h c⟩
   | str z=>obtain⟨t,rfl⟩:=f;exact⟨RcAt.tuple_str _ t h c,RcNeAt.tuple_str _ t h c,EqAt.tuple_str _ t h c⟩
   | tup o=>
    obtain⟨a,k,rfl,p,q⟩:=f
    rw [M.cu]
    exact Dr h p G q c λj H D J F e1 e2 I E=>(w H D A.in1 J F (Ab5 (zG e1) r) (by show A.units+1+n<cLine;omega) I E).eq
   | lst o=>obtain⟨a,k,rfl,p,_⟩:=f;exact⟨RcAt.tuple_list h p c,RcNeAt.tuple_list h p c,EqAt.tuple_list h p c⟩
   | ref _=>exact f.elim
  | lst y=>
   obtain⟨l,C,rfl,h,G⟩:=m
   have r:M.GF y<=n:=by simp only [M.dep]at B;omega
   cases e with
   | aj=>cases (show v= .none from f);exact⟨RcAt.list_none h c,RcNeAt.list_none h c,EqAt.list_none h c⟩
   | bl b=>cases (show v= .bool b from f);exact⟨RcAt.list_bool b h c,RcNeAt.list_bool b h c,EqAt.list_bool b h c⟩
   | int i=>obtain⟨t,rfl⟩:=f;exact⟨RcAt.list_int i t h c,RcNeAt.list_int i t h c,EqAt.list_int i t h c⟩
   | str z=>obtain⟨t,rfl⟩:=f;exact⟨RcAt.list_str _ t h c,RcNeAt.list_str _ t h c,EqAt.list_str _ t h c⟩
   | lst o=>
    obtain⟨a,k,rfl,p,q⟩:=f
    rw [M.cu]
    exact Bm h p G q c λj H D J F e1 e2 I E=>(w H D A.in1 J F (Ab5 (zG e1) r) (by show A.units+1+n<cLine;omega) I E).eq
   | tup o=>obtain⟨a,k,rfl,p,_⟩:=f;exact⟨RcAt.list_tuple h p c,RcNeAt.list_tuple h p c,EqAt.list_tuple h p c⟩
   | ref _=>exact f.elim
  | aj=>exact w .aj e A u v (by simp) (by omega) m f
  | bl x=>exact w (.bl x) e A u v (by simp) (by omega) m f
  | int x=>exact w (.int x) e A u v (by simp) (by omega) m f
  | str x=>exact w (.str x) e A u v (by simp) (by omega) m f
  | ref _=>exact m.elim
end
def az (Y:Ge) (E:XK) (G:Gh) (H:Hp) (r:M.R M.W) (Q:VK):Prop:=aw Y E G H r λw _ G' H'=> ∀v,ah Y G' H' w v->aI [] [] H w v->Q v H'
section
variable {X:Cx}{Y:Ge}{G:Gh}{H:Hp}{h:M.AH}{pins:List (Addr×Obj)}{U:St}{s:Shared}{Q:VK}{E:XK}
theorem az.v (p:az Y E G H (.ok (.v d) h) Q) (a:ag Y G h H){v:V}(z:aA Y G H d v):Q v H:=p G H Ext.refl a v z trivial
def ag.ik (b:ag Y G h H)(c:H a=y0): ¬G.fz a:=λq=>by
 obtain⟨o,z⟩:=b.live a q
 rw [c]at z;cases z
def ag.fL (b:ag Y G h H)(c:H a=y0):du G a:=λr d e=>by
 obtain⟨o,q⟩:=b.there d
 rw [e,c]at q;cases q
theorem az.own (p:az Y E G H (.ok (.own xs) h) Q) (c:ag Y G h H) (z:aa Y G H xs vs) (a) (b:H a=y0):Q (.ref a) (aL H a (.lst vs)):=
 p G _ (qs _ b) (c.new _ b) _ ⟨a,vs,rfl,c.ik b,c.fL b,Zc,z.ext (qs _ b) c⟩ ⟨a,rfl,b⟩
theorem az.tup (p:az Y E G H (.ok (.v (.tup xs)) h) Q) (c:ag Y G h H) (z:aa Y G H xs vs) (a) (b:H a=y0):Q (.ref a) (aL H a (.tup vs)):=
 p _ _ (xG _ b) (c.kY _ b) _ ⟨a,vs,rfl,.inl ⟨.inr rfl,Zc⟩,z.ext (xG _ b) c⟩ trivial
theorem az.of (p:az Y E G H ((M.R.of h o).bind f) Q): ∃b,o=k0 b/\az Y E G H (f b h) Q:=aw.of p
def az.mk {g:Gh}{b:Hp}{l:M.AH}{τ:M.Sl}{U:St}{r:M.R M.W}(p:aw Y E g b r λw _ G' H'=> ∀v,ah Y G' H' w v->aI τ U b w v->Q v H') (e:Ext g b G H) (j:ag Y g l b):az Y E G H r Q:=by
 cases r with
 | ok w q=>
  refine λG' H' n c v m h=>p G' H' (e.trans j n) c v m ?_
  cases w with
  | v d=>trivial
  | own k=>obtain⟨a,f,o⟩:=h;exact⟨a,f,e.none j o⟩
  | bor k=>obtain⟨i,w,f,_⟩:=h;simp at f
 | fail=>exact p
theorem ah.lst (j:ag Y G h H){w:M.W}{v:V}{xs:List M.D}(z:ah Y G H w v) (e:w.cc h=k0 xs): ∃a vs,v= .ref a/\bu Y.K H a vs/\aa Y G H xs vs:=by
 cases w with
 | v d=>
  cases d with
  | lst i=>cases e;obtain⟨a,vs,g,b,f⟩:=z;exact⟨a,vs,g,b.sq,f⟩
  | ref r=>
   obtain⟨l,g⟩:=z
   have e:(match h[r]? with | some (M.Cell.lst zs)=>k0 zs | _=>y0)=k0 xs:=e
   cases q:h[r]? with
   | none=>rw [q]at e;cases e
   | some c=>
    cases c with
    | lst i=>
     rw [q]at e
     cases e
     obtain⟨_,vs,b,f⟩:=j.cell r _ q
     exact⟨_,vs,g,bu.of b,f⟩
    | obj c fs=>rw [q]at e;cases e
    | aM k=>rw [q]at e;cases e
  | aj=>cases e
  | bl _=>cases e
  | int _=>cases e
  | str _=>cases e
  | tup _=>cases e
 | own i=>cases e;obtain⟨a,vs,g,_,_,b,f⟩:=z;exact⟨a,vs,g,bu.of b,f⟩
 | bor i=>cases e;obtain⟨a,vs,g,_,b,f⟩:=z;exact⟨a,vs,g,.inl b,f⟩
theorem ah.m3 (j:ag Y G h H){w:M.W}{v:V}{xs:List M.D}(z:ah Y G H w v) (e:w.gR h=k0 xs): ∃a vs,v= .ref a/\Rd H a (.lst vs)/\aa Y G H xs vs:=by
 cases w with
 | v d=>
  cases d with
  | ref r=>
   obtain⟨l,g⟩:=z
   have e:(match h[r]? with | some (M.Cell.lst zs)=>k0 zs | _=>y0)=k0 xs:=e
   cases q:h[r]? with
   | none=>rw [q]at e;cases e
   | some c=>
    cases c with
    | lst i=>
     rw [q]at e
     cases e
     obtain⟨_,vs,b,f⟩:=j.cell r _ q
     exact⟨_,vs,g,.inl b,f⟩
    | obj c fs=>rw [q]at e;cases e
    | aM k=>rw [q]at e;cases e
  | _=>cases e
 | own i=>cases e;obtain⟨a,vs,g,_,_,b,f⟩:=z;exact⟨a,vs,g,.inl b,f⟩
 | bor i=>cases e;obtain⟨a,vs,g,_,b,f⟩:=z;exact⟨a,vs,g,b,f⟩
theorem ah.seq (j:ag Y G h H){w:M.W}{v:V}{xs:List M.D}(z:ah Y G H w v) (e:w.seq? h=k0 xs): ∃a vs,v= .ref a/\(bu Y.K H a vs\/cA Y.K H a vs)/\aa Y G H xs vs:=by
 have b:w.cc h=k0 xs-> ∃a vs,v= .ref a/\(bu Y.K H a vs\/cA Y.K H a vs)/\aa Y G H xs vs:=λe=>by
  obtain⟨a,vs,f,g,c⟩:=z.lst j e
  exact⟨a,vs,f,.inl g,c⟩
 cases w with
 | v d=>
  cases d with
  | tup i=>cases e;obtain⟨a,vs,f,g,c⟩:=z;exact⟨a,vs,f,.inr g.sq,c⟩
  | lst i=>exact b e
  | ref r=>exact b e
  | aj=>cases e
  | bl _=>cases e
  | int _=>cases e
  | str _=>cases e
 | own i=>exact b e
 | bor i=>exact b e
def EO (I:Inv X pins U H s)(r:Rd H a (.lst vs)):vs.length<=sizeLine/\ ∃ i n,Vals vs i/\vs.length=i.length/\s.heap.get? a=k0 { cls:= .type "list",data:= .seq i.toArray n }:=by
 obtain⟨z,i,n,r,e⟩:=r.ok I.bc
 exact⟨z,i,n,r,r.length,e⟩
def Jj:M.bh<=sizeLine:=by rw [M.Gg];decide
def Az (K:Ab):R2:=λx y H Q=> ∃l b xs zs,x= .ref l/\y= .ref b/\bu K H l xs/\bu K H b zs/\xs.length+zs.length<=sizeLine/\ ∀p,H p=y0->Q (.ref p) (aL H p (.lst (xs++zs)))
def LZ:bH X (binaryOp .Add) (Az X.K):=by
 intro k s U H x y v u Q I F z h
 obtain⟨l,b,N,L,rfl,rfl,B,E,O,q⟩:=h
 cases F
 cases z
 obtain⟨c,r,G,_⟩:=I.list B
 obtain⟨a,t,K,_⟩:=I.list E
 have M:=r.length
 have l2:=t.length
 have w:c.toArray++a.toArray=(c++a).toArray:=by simp
 obtain⟨⟨J,dd,m,sl⟩,p,C,n,D⟩:=id G.isList
 obtain⟨⟨o,i,j,f⟩,d,g,A,e⟩:=id K.isList
 subst C D g e
 refine concat_meets ⟨_,p,rfl⟩ ⟨_,d,rfl⟩ noFill_list_add seq_list_add PySem.F.slot_list_add PySem.F.entry_list_add (PySem.F.args_list_add_2 _ _) (list_addW l b c.toArray a.toArray n A dd i sl f (by simp_all)) ⟨p,d,?_⟩
 rw [w]
 exact⟨.ref _,_,I.kO (r.append t) (by simp_all),rfl,q _ I.fresh⟩
def LA:R2:=λx y H Q=> ∃l k xs,x= .ref l/\y= .int k/\Rd H l (.lst xs)/\ -(2 ^ 63)<=k/\k<2 ^ 63/\xs.length*k.toNat<=sizeLine ∧
 ∀p,H p=y0->Q (.ref p) (aL H p (.lst (Aa3 k.toNat xs).flatten))
def Du:bH X (binaryOp .Mult) LA:=by
 intro j s U H x y v u Q I G w h
 obtain⟨l,k,L,rfl,rfl,A,B,E,o,q⟩:=h
 cases G
 obtain⟨t,rfl⟩:=w
 obtain⟨z,b,n,r,J,e⟩:=EO I A
 have d:b.toArray.size*k.toNat<=sizeLine:=by rw [Ac0,←J];exact o
 have f: ¬b.toArray.size*k.toNat>(2 ^ 63-1) / 8:=by
  have: sizeLine<=(2 ^ 63-1) / 8:=by decide
  lia
 have g: ¬(!Builtin.List.listFitsIndex k)=true:=by
  rw [fitsIndex_both B E]
  exact Ab2
 have c: ¬Builtin.List.listTooLong (b.toArray.size*k.toNat)=true:=by
  rw [tS d]
  exact Ab2
 have i:List.foldl (λD C=>D++C) #[] (Aa3 (if b.toArray.isEmpty=u0 then 0 else k.toNat) b.toArray)=(Aa3 k.toNat b).flatten.toArray:=by
  have p:=λm=>by
   have:=ZV b m []
   rw [Ae2]at this
   exact this
  rw [p]
  cases b with
  | nil=>simp
  | cons a M=>rw [if_neg (by simp)]
 refine wpAny_binaryOp_repeat_ref rfl ⟨_,e,rfl⟩ (λK=>typeIs_int K k t) noFill_list_mul F.fills_int_mul F.slot_int_rmul repeat_list F.slot_int_index.lookup
  (call_meets F.slot_int_rmul (typeIs_int s k t) F.entry_int_rmul (F.args_int_rmul_2 _ _) (int___rmul___int_list k t l b.toArray n)
    ⟨e,rfl,⟨_,e,rfl⟩,call_meets F.slot_list_mul ⟨_,e,rfl⟩ F.entry_list_mul (F.args_list_mul_2 _ _) (AutoListH.list___mul___list_int_3 l b.toArray n k t g f c) ⟨e,?_⟩⟩)
 rw [i]
 exact⟨.ref _,_,I.kO (r.rep k.toNat) (by rw [yV,Al];exact o),rfl,q _ I.fresh⟩
theorem aa.rep (z:aa Y G H ds vs): ∀k:Nat,aa Y G H (Aa3 k ds).flatten (Aa3 k vs).flatten
 | 0=>rfl
 | k+1=>by
  exact z.append (aa.rep z k)
def zd (a b:Nat):Builtin.bitAnd (a:Int) (b:Int)=((a &&& b:Nat):Int):=by
 rfl
def Iu (a:Nat) (j) (b: ¬0<=j):Builtin.bitAnd (a:Int) j=((a-(a &&& (-j-1).toNat):Nat):Int):=by
 have e:(Builtin.bitNot j).toNat=(-j-1).toNat:=by unfold Builtin.bitNot;lia
 unfold Builtin.bitAnd
 rw [decide_eq_true (Ao4 a),decide_eq_false b]
 show a-((a &&& (Builtin.bitNot j).toNat:Nat):Int)=_
 rw [e]
 have:= @Nat.and_le_left a (-j-1).toNat
 omega
def Zl (a b:Nat):Builtin.bitOr (a:Int) (b:Int)=((a ||| b:Nat):Int):=by
 have c: ¬ 0<=Builtin.bitNot a:=by unfold Builtin.bitNot;lia
 have d: ¬ 0<=Builtin.bitNot b:=by unfold Builtin.bitNot;lia
 have e1:(Builtin.bitNot (Builtin.bitNot a)).toNat=a:=by unfold Builtin.bitNot;lia
 have e2:(Builtin.bitNot (Builtin.bitNot b)).toNat=b:=by unfold Builtin.bitNot;lia
 unfold Builtin.bitOr Builtin.bitAnd
 rw [decide_eq_false c,decide_eq_false d]
 show Builtin.bitNot (Builtin.bitNot _)=_
 rw [e1,e2]
 unfold Builtin.bitNot
 lia
def D4 (h:M.G9 i j=k0 k):Builtin.bitAnd i j=k:=by
 unfold M.G9 at h
 split at h
 ·rename_i d
  obtain⟨a,rfl⟩:=Ah d
  split at h
  ·rename_i c
   obtain⟨b,rfl⟩:=Ah c
   cases h
   exact zd a b
  ·rename_i c
   cases h
   exact Iu a j c
 ·cases h
def LC (h:M.i6 i j=k0 k):Builtin.bitOr i j=k:=by
 unfold M.i6 at h
 split at h
 ·rename_i c
  obtain⟨a,rfl⟩:=Ah c.1
  obtain⟨b,rfl⟩:=Ah c.2
  cases h
  exact Zl a b
 ·cases h
def Ey: ∀a b:Nat,(a ||| b)=(a ^^^ b)+(a &&& b):=by
 intro a
 induction a using Nat.strongRecOn with
 | ind a g=>
  intro b
  by_cases h:a=0
  ·subst h;simp
  ·have i:=g (a / 2) (by lia) (b / 2)
   have c:= @Nat.or_div_two_pow a b 1
   have j:= @Nat.xor_div_two_pow a b 1
   have k:= @Nat.and_div_two_pow a b 1
   have l:= @Nat.or_mod_two_pow a b 1
   have f:= @Nat.xor_mod_two_pow a b 1
   have d:= @Nat.and_mod_two_pow a b 1
   rw [← c,←j,←k]at i
   have e:(a ||| b) % 2=(a ^^^ b) % 2+(a &&& b) % 2:=by
    rw [l,f,d]
    rcases Nat.mod_two_eq_zero_or_one a with u | u<;>rcases Nat.mod_two_eq_zero_or_one b with v | v<;>rw [u,v]<;>rfl
   lia
def Im (h:M.Kx i j=k0 k):Builtin.bitXor i j=k:=by
 unfold M.Kx at h
 split at h
 ·rename_i c
  obtain⟨a,rfl⟩:=Ah c.1
  obtain⟨b,rfl⟩:=Ah c.2
  cases h
  show Builtin.bitOr a b-Builtin.bitAnd a b=((a ^^^ b))
  rw [Zl,zd,Ey]
  lia
 ·cases h
noncomputable def mI:M.Op->Operator
 | .add=> .Add | .sub=> .Sub | .mul=> .Mult | .fdiv=> .FloorDiv | .mod=> .Mod | .pow=> .Pow | .shl=> .LShift | .shr=> .RShift | .band=> .BitAnd | .bor=> .BitOr | .bxor=> .BitXor
def Dv (Y:Ge) (E:XK) (o:M.Op):R2:=λx y H Q=> ∃G h a b,ag Y G h H/\ah Y G H a x/\ah Y G H b y/\az Y E G H (M.GW o a b h) Q
def A0 (s t):aC s++aC t=aC (s++t):=by
 show Str.mk _=Str.mk _
 simp [aC]
def Xd (s):(aC s).length=s.length:=by
 show s.toArray.size=s.length
 simp
def mT:M.Op->Bool
 | _=>u0
def KW (d:mT o=u0)(e:M.Gi o i j=k0 k)(I:Inv X pins U H s) (b:RelV (.int i) v) (a:RelV (.int j) u) (q:Q (.int k) H):
 wpAny (model X.prog X.w) X.A (binaryOp (mI o) v u) (EP X pins U Q) X.xe s:=by
 cases o with
 | add=>cases e;exact FU pins s U H _ _ v u Q I b a ⟨i,j,rfl,rfl,q⟩
 | sub=>cases e;exact Dw pins s U H _ _ v u Q I b a ⟨i,j,rfl,rfl,q⟩
 | mul=>
  simp only [M.Gi,M.GY,M.GD]at e
  split at e
  ·rename_i c;cases e;exact yC pins s U H _ _ v u Q I b a ⟨i,j,rfl,rfl,c,q⟩
  ·cases e
 | fdiv=>
  simp only [M.Gi,M.GO,M.GD]at e
  split at e
  ·rename_i c;cases e;exact Cy pins s U H _ _ v u Q I b a ⟨i,j,rfl,rfl,c,q⟩
  ·cases e
 | mod=>
  simp only [M.Gi,M.GD]at e
  split at e
  ·rename_i c;cases e;exact Bu pins s U H _ _ v u Q I b a ⟨i,j,rfl,rfl,c,q⟩
  ·cases e
 | pow=>
  simp only [M.Gi,M.Kb,M.GD]at e
  split at e
  ·rename_i c;cases e;exact AL pins s U H _ _ v u Q I b a ⟨i,j,rfl,rfl,c,q⟩
  ·cases e
 | shl=>
  simp only [M.Gi,M.Kb,M.GD]at e
  split at e
  ·rename_i c;cases e;exact LO pins s U H _ _ v u Q I b a ⟨i,j,rfl,rfl,c,q⟩
  ·cases e
 | shr=>
  simp only [M.Gi,M.GD]at e
  split at e
  ·rename_i c;cases e;exact BD pins s U H _ _ v u Q I b a ⟨i,j,rfl,rfl,c,q⟩
  ·cases e
 | band=>exact Mh pins s U H _ _ v u Q I b a ⟨i,j,rfl,rfl,by dsimp only;rw [D4 e];exact q⟩
 | bor=>exact Fp pins s U H _ _ v u Q I b a ⟨i,j,rfl,rfl,by dsimp only;rw [LC e];exact q⟩
 | bxor=>exact Au pins s U H _ _ v u Q I b a ⟨i,j,rfl,rfl,by dsimp only;rw [Im e];exact q⟩
theorem ah.int (z:ah Y G H w v) (e:w.int? =k0 i):v= .int i:=by
 cases w with
 | v d=>
  cases d with
  | int j=>cases e;exact z
  | _=>cases e
 | _=>cases e
theorem ah.str (z:ah Y G H w v) (e:w.bG =k0 i):v= .str (aC i):=by
 cases w with
 | v d=>
  cases d with
  | str j=>cases e;exact z
  | _=>cases e
 | _=>cases e
theorem ah.tup (z:ah Y G H w v) (e:w.eP =k0 xs): ∃a vs,v= .ref a/\eW Y G H a vs/\aa Y G H xs vs:=by
 cases w with
 | v d=>
  cases d with
  | tup j=>cases e;exact z
  | _=>cases e
 | _=>cases e
def IB (o) (N:mT o=u0) (r:X.K=Y.K):bH X (binaryOp (mI o)) (Dv Y E o):=by
 intro d s U H x y v u Q I q l ⟨G,h,P,R,f,t,A,p⟩
 have O:=Jj
 unfold M.GW at p
 split at p
 ·rename_i i j e1 e2
  obtain⟨k,e,p⟩:=p.of
  cases t.int e1
  cases A.int e2
  exact KW N e I q l (p.v f rfl)
 ·split at p
  · -- add
    unfold M.KC at p
    split at p
    ·rename_i a b e1 e2
     cases t.str e1
     cases A.str e2
     split at p
     ·rename_i c
      exact IC d s U H _ _ v u Q I q l ⟨_,_,rfl,rfl,by rw [Xd,Xd];lia,by rw [A0];exact p.v f rfl⟩
     ·exact p.elim
    ·split at p
     ·rename_i K L e1 e2
      obtain⟨a,n,rfl,m,g⟩:=t.tup e1
      obtain⟨b,B,rfl,F,w⟩:=A.tup e2
      split at p
      ·rename_i c
       have J:=g.length
       have l2:=w.length
       by_cases ex:n= []
       ·subst ex
        have:K= []:=Ai5 J
        subst this
        exact AU d s U H _ _ v u Q I q l ⟨a,b,B,rfl,rfl,r▸m.sq,r▸F.sq,p.v f ⟨b,B,rfl,F,w⟩⟩
       refine AM d s U H _ _ v u Q I q l ⟨a,b,n,B,rfl,rfl,r▸m.sq,r▸F.sq,ex,by lia,λe=> ?_,λe D C=>p.tup f (g.append w) D C⟩
       ·subst e
        have:L= []:=Ai5 l2
        subst this
        rw [Af0]at p
        exact p.v f ⟨a,n,rfl,m,g⟩
      ·exact p.elim
     ·split at p
      ·rename_i K L e1 e2
       obtain⟨a,n,rfl,m,g⟩:=t.lst f e1
       obtain⟨b,B,rfl,F,w⟩:=A.lst f e2
       unfold M.KD at p
       split at p
       ·have J:=g.length
        have l2:=w.length
        exact LZ d s U H _ _ v u Q I q l ⟨a,b,n,B,rfl,rfl,r▸m,r▸F,by lia,λD C=>p.own f (g.append w) D C⟩
       ·exact p.elim
      ·exact p.elim
  · -- mul
    unfold M.KB at p
    split at p
    ·rename_i z j e1 e2
     cases t.str e1
     cases A.int e2
     split at p
     ·rename_i c
      rw [M.Gg]at c
      refine Ek d s U H _ _ v u Q I q l ⟨_,j,rfl,rfl,c.1,c.2.1,by rw [Xd];exact c.2.2,?_⟩
      have e:g9 (aC z) j.toNat=aC (Aa3 j.toNat z).flatten:=by
       apply uo
       rw [wI]
       rfl
      rw [e]
      exact p.v f rfl
     ·exact p.elim
    split at p
    ·rename_i K j e1 e2
     obtain⟨a,n,rfl,m,g⟩:=t.m3 f e1
     cases A.int e2
     unfold M.Kv at p
     split at p
     ·rename_i c
      have J:=g.length
      exact Du d s U H _ _ v u Q I q l ⟨a,j,n,rfl,rfl,m,by lia,by lia,by rw [← J];lia,λD C=>p.own f (g.rep j.toNat) D C⟩
     ·exact p.elim
    ·exact p.elim
  ·exact p.elim
noncomputable def fe:M.Cp->CmpOp
 | .eq=> .Eq | .ne=> .NotEq | .lt=> .Lt | .le=> .LtE | .gt=> .Gt | .ge=> .GtE | .mem=> .In | .eS=> .NotIn | .cN=> .Is | .fQ=> .IsNot
def iQ (Y:Ge) (o:M.Cp):R2:=λx y H Q=> ∃G h a c b,ag Y G h H/\ah Y G H a x/\ah Y G H c y/\M.Gr o a c h=k0 b/\Q (.bl b) H
def WL:M.Cp->Bool
 | .mem=>u0
 | .eS=>u0
 | _=>u0
def Fz (e:M.Ky o i j=k0 b)(I:Inv X pins U H s) (c:RelV (.int i) v) (a:RelV (.int j) u) (q:Q (.bl b) H):
 wpAny (model X.prog X.w) X.A (compareOp (fe o) v u) (EP X pins U Q) X.xe s:=by
 cases o with
 | lt=>cases e;exact Hu pins s U H _ _ v u Q I c a ⟨i,j,rfl,rfl,q⟩
 | le=>cases e;exact KI pins s U H _ _ v u Q I c a ⟨i,j,rfl,rfl,q⟩
 | gt=>cases e;exact yU pins s U H _ _ v u Q I c a ⟨i,j,rfl,rfl,q⟩
 | ge=>cases e;exact DE pins s U H _ _ v u Q I c a ⟨i,j,rfl,rfl,q⟩
 | _=>cases e
def BF (g:X.K=Y.K)(m:a0 k X.A):bH X (compareOp .Eq) (iQ Y .eq):=by
 intro f s U H x y v u Q I l i ⟨G,h,o,p,b,d,j,n,e,q⟩
 simp only [M.Gr]at e
 split at e
 ·rename_i c
  cases e
  have a:=by simpa [M.GZ]using c
  exact(oI 150 _ _ X.A v u (by lia) (by have:=m.un;lia) (j.rv I g d l a.1.1) (n.rv I g d i a.1.2)).rc _ _ _ _ ⟨.bl _,H,I,rfl,q⟩
 ·cases e
def Lf (g:X.K=Y.K)(m:a0 k X.A):bH X (compareOp .NotEq) (iQ Y .ne):=by
 intro f s U H x y v u Q I l i ⟨G,h,o,p,b,d,j,n,e,q⟩
 simp only [M.Gr]at e
 split at e
 ·rename_i c
  cases e
  have a:=by simpa [M.GZ]using c
  exact(oI 150 _ _ X.A v u (by lia) (by have:=m.un;lia) (j.rv I g d l a.1.1) (n.rv I g d i a.1.2)).ne _ _ _ _ ⟨.bl _,H,I,rfl,q⟩
 ·cases e
end
def PE.imp (h:PE X e t) (k: ∀U H Q,t' U H Q->t U H Q):PE X e t':=λa s U H Q I q=>h a s U H Q I (k _ _ _ q)
def PT.imp (h:PT X e t) (k: ∀U H Q,t' U H Q->t U H Q):PT X e t':=λa s U H Q I q=>h a s U H Q I (k _ _ _ q)
def PA.imp (h:PA X e t) (k: ∀U H Q,t' U H Q->t U H Q):PA X e t':=λb a s U H Q I q=>h b a s U H Q I (k _ _ _ q)
section
variable {X:Cx}{Y:Ge}{G:Gh}{H:Hp}{h:M.AH}{pins:List (Addr×Obj)}{U:St}{s:Shared}{Q:VK}{E:XK}
def bj.one (z:bj Y G H [w] vs): ∃v,vs= [v]/\ah Y G H w v:=by
 obtain⟨v,r,rfl,a,b⟩:=z
 cases (show r= []from b)
 exact⟨v,rfl,a⟩
def bj.two (z:bj Y G H [w,w'] vs): ∃v v',vs= [v,v']/\ah Y G H w v/\ah Y G H w' v':=by
 obtain⟨v,r,rfl,b,c⟩:=z
 obtain⟨v',rfl,a⟩:=c.one
 exact⟨v,v',rfl,b,a⟩
def nX (Y:Ge) (E:XK) (b:M.Bi):List V->Hp->VK->Prop:=λxs H Q=> ∃G h a,ag Y G h H/\bj Y G H a xs/\az Y E G H (M.dk b a h) Q
def mx {K:Ab}(h:bu K H a vs\/cA K H a vs):bu K H a vs\/cA K H a vs:=h
noncomputable def mB:M.Bi->Bool
 | .len=>u0 | .int=>u0 | .list=>u0 | .tuple=>u0 | .divmod=>u0 | .sum=>u0 | .all=>u0 | .any=>u0 | .sorted=>u0
 | _=>k9
noncomputable def tZ:M.Bi->Value
 | .len=> .builtin "len" | .int=> .type "int" | .list=> .type "list" | .tuple=> .type "tuple" | .sum=> .builtin "sum" | .all=> .builtin "all" | .any=> .builtin "any"
 | .sorted=> .builtin "sorted" | .divmod=> .builtin "divmod" | .str=> .type "str" | .min=> .builtin "min" | .max=> .builtin "max" | .abs=> .builtin "abs"
def az.of2 {f:α->β->M.AH->M.R M.W}(p:az Y E G H ((M.R.of h o).bind λa h=>(M.R.of h o').bind λb h=>f a b h) Q): ∃a b,o=k0 a/\o'=k0 b/\az Y E G H (f a b h) Q:=by
 obtain⟨a,e,p⟩:=p.of
 obtain⟨b,c,p⟩:=p.of
 exact⟨a,b,e,c,p⟩
theorem W8 : ∀ {xs}{vs}{bs},M.Kl xs=k0 bs->aa Y G H xs vs->vs=bs.map V.bl
 | [],_,_,e,z=>by cases e;exact z
 | x::xs,_,bs,e,⟨v,r,c,d,a⟩=>by
  subst c
  cases x with
  | bl b=>
   obtain⟨f,e1,rfl⟩:=Ag2.mp (e)
   cases (d)
   rw [W8 e1 a];rfl
  | _=>cases e
theorem rR : ∀ {xs}{vs}{n},M.Ki xs=k0 n->aa Y G H xs vs-> ∃ns:List Int,vs=ns.map V.int/\n=gi ns
 | [],_,_,e,z=>by cases e;exact⟨[],z,rfl⟩
 | x::xs,_,n,e,⟨v,r,f,a,c⟩=>by
  subst f
  cases x with
  | int i=>
   have e:=e
   obtain⟨k,e1,rfl⟩:=Ag2.mp e
   obtain⟨ns,b,d⟩:=rR e1 c
   cases (a)
   exact⟨i::ns,by rw [b];rfl,by rw [d];rfl⟩
  | _=>cases e
theorem qI : ∀ {xs}{vs}{ns},M.GM xs=k0 ns->aa Y G H xs vs->vs=ns.map V.int
 | [],_,_,e,z=>by cases e;exact z
 | x::xs,_,ns,e,⟨v,r,c,d,a⟩=>by
  subst c
  cases x with
  | int b=>
   obtain⟨f,e1,rfl⟩:=Ag2.mp (e)
   cases (d)
   rw [qI e1 a];rfl
  | _=>cases e
theorem qR : ∀ {xs}{vs}{ns},M.GR xs=k0 ns->aa Y G H xs vs->vs=(ns.map aC).map V.str
 | [],_,_,e,z=>by cases e;exact z
 | x::xs,_,ns,e,⟨v,r,c,d,a⟩=>by
  subst c
  cases x with
  | str b=>
   obtain⟨f,e1,rfl⟩:=Ag2.mp (e)
   cases (show v= .str (aC b)from d)
   rw [qR e1 a];rfl
  | _=>cases e
theorem zR : ∀(a:List M.Tx),aa Y G H (a.map .str) ((a.map aC).map V.str)
 | []=>rfl
 | t::a=>⟨_,_,rfl,rfl,zR a⟩
theorem ue (x): ∀ {ys},ys.Pairwise (λa b=> ¬b<a)->(M.Kf x ys).Pairwise (λa b=> ¬b<a)
 | [],_=>List.pairwise_singleton _ _
 | y::ys,h=>by
  have e:=Ak1.mp h
  unfold M.Kf
  split
  ·rename_i q
   refine Ak1.mpr ⟨λz d=> ?_,ue x e.2⟩
   have:z=x\/z∈ys:=by
    have f: ∀ {x}{ys},z∈M.Kf x ys->z=x\/z∈ys:=by
     intro x ys
     induction ys with
     | nil=>intro h;simp [M.Kf]at h;exact .inl h
     | cons y ys g=>
      intro h
      unfold M.Kf at h
      split at h
      ·rcases Ac.mp h with h | h
       ·exact .inr (h▸Aa4)
       ·exact(g h).imp id (Aa2 _)
      ·rcases Ac.mp h with h | h
       ·exact .inl h
       ·exact .inr h
    exact f d
   rcases this with rfl | d
   ·exact λc=>List.lt_irrefl _ (List.lt_trans c q)
   ·exact e.1 z d
  ·rename_i q
   refine Ak1.mpr ⟨λz d=> ?_,h⟩
   rcases Ac.mp d with rfl | d
   ·exact q
   ·exact List.le_trans q (e.1 z d)
theorem sf: ∀xs:List M.Tx,(M.Gz xs).Pairwise (λa b=> ¬b<a)
 | []=> .nil
 | x::xs=>ue x (sf xs)
theorem Qq (x): ∀ys:List M.Tx,(M.Kf x ys).Perm (x::ys)
 | []=> .refl _
 | y::ys=>by
  unfold M.Kf
  by_cases q:y<x
  ·rw [if_pos q]
   exact((Qq x ys).cons y).trans (.swap x y ys)
  ·rw [if_neg q]
theorem qk: ∀xs:List M.Tx,(M.Gz xs).Perm xs
 | []=> .refl _
 | x::xs=>(Qq x (M.Gz xs)).trans ((qk xs).cons x)
theorem yo: ∀ {l}{p},risingS p l=u0->(p::l).Pairwise (λa b=> ¬b.cps.toList<a.cps.toList)
 | [],p,_=>List.pairwise_singleton _ _
 | x::r,p,h=>by
  have h:(!ltCps x.cps.toList p.cps.toList&&risingS x r)=true:=h
  rw [Aa0,ltCps_eq]at h
  have e:=by simpa using h.1
  have d:=yo h.2
  refine Ak1.mpr ⟨λz c=> ?_,d⟩
  rcases Ac.mp c with rfl | c
  ·exact e
  ·exact List.le_trans e ((Ak1.mp d).1 z c)
def Ib (s):aC s.cps.toList=s:=by cases s;simp [aC]
def Hd (d:ss.Perm (ts.map aC)) (f:sortedS ss=u0):ss=(M.Gz ts).map aC:=by
 have g:=by
  have:=d.map (λs=>s.cps.toList)
  rw [Ad6]at this
  have e:((λs:Str=>s.cps.toList)∘aC)=id:=by funext t;simp [aC]
  rw [e,List.map_id]at this
  exact this
 have h:(ss.map λs=>s.cps.toList).Pairwise (λa b=> ¬b<a):=by
  rw [List.pairwise_map]
  cases ss with
  | nil=>exact .nil
  | cons p l=>exact yo f
 have c:=List.Perm.eq_of_pairwise (λa b _ _ x y=>List.le_antisymm x y) h (sf ts) (g.trans (qk ts).symm)
 rw [← c,Ad6]
 have e:(aC∘λs:Str=>s.cps.toList)=id:=by funext t;exact Ib t
 rw [e,List.map_id]
def EE (b:M.Bi) (B:mB b=u0) (A:X.K=Y.K) (K:X.calm=u0):zu X (tZ b) (nX Y E b):=by
 intro f s U H W u Q I r ⟨G,h,ws,g,D,p⟩
 have Z:=Jj
 unfold M.dk at p
 split at p
 ·rename_i w
  obtain⟨v,rfl,z⟩:=D.one
  cases b with
  | len=>
   simp only [M.gB]at p
   split at p
   ·rename_i y e
    cases z.str e
    split at p
    ·exact W0 f s U H _ u Q I r ⟨_,rfl,by rw [Xd];omega,by rw [Xd];exact p.v g rfl⟩
    ·exact p.elim
   ·obtain⟨C,e,p⟩:=p.of
    obtain⟨a,t,rfl,m,o⟩:=z.seq g e
    refine wV f s U H _ u Q I r ⟨a,t,rfl,A▸mx m,?_⟩
    rw [← o.length]
    exact p.v g rfl
  | int=>
   simp only [M.gB]at p
   split at p
   ·cases (show v= .int _ from z)
    exact Q0 f s U H _ u Q I r (.inl ⟨_,rfl,p.v g rfl⟩)
   ·rename_i k
    cases (show v= .bl _ from z)
    refine Q0 f s U H _ u Q I r (.inr ⟨_,rfl,?_⟩)
    have:=p.v g (v:= .int (k.toNat:Int)) rfl
    cases k<;>exact this
   ·exact p.elim
  | list=>
   simp only [M.gB]at p
   obtain⟨C,e,p⟩:=p.of
   obtain⟨a,t,rfl,m,o⟩:=z.seq g e
   exact zV f s U H _ u Q I r ⟨a,t,rfl,A▸mx m,λl x=>p.own g o l x⟩
  | tuple=>
   simp only [M.gB]at p
   obtain⟨C,e,F⟩:=p.of
   clear p
   cases w with
   | v d=>
    cases d with
    | tup J=>
     cases e
     obtain⟨a,t,rfl,m,o⟩:=z
     exact Jg f s U H _ u Q I r ⟨a,t,rfl,.inr ⟨A▸m.sq,F.v g ⟨a,t,rfl,m,o⟩⟩⟩
    | lst J=>
     obtain⟨a,t,rfl,m,o⟩:=ah.lst g z e
     exact Jg f s U H _ u Q I r ⟨a,t,rfl,.inl ⟨A▸m,λl x=>F.tup g o l x⟩⟩
    | ref q=>
     obtain⟨a,t,rfl,m,o⟩:=ah.lst g z e
     exact Jg f s U H _ u Q I r ⟨a,t,rfl,.inl ⟨A▸m,λl x=>F.tup g o l x⟩⟩
    | aj=>cases e
    | bl _=>cases e
    | int _=>cases e
    | str _=>cases e
   | own J=>
    obtain⟨a,t,rfl,m,o⟩:=ah.lst g z e
    exact Jg f s U H _ u Q I r ⟨a,t,rfl,.inl ⟨A▸m,λl x=>F.tup g o l x⟩⟩
   | bor J=>
    obtain⟨a,t,rfl,m,o⟩:=ah.lst g z e
    exact Jg f s U H _ u Q I r ⟨a,t,rfl,.inl ⟨A▸m,λl x=>F.tup g o l x⟩⟩
  | divmod=>exact p.elim
  | min=>cases B
  | max=>cases B
  | sum=>
   simp only [M.gB]at p
   obtain⟨n,e,p⟩:=p.of
   obtain⟨C,e1,e2⟩:=Ag7.mp e
   split at e2
   rotate_left
   ·cases e2
   obtain⟨a,t,rfl,m,o⟩:=ah.lst g z e1
   obtain⟨P,rfl,rfl⟩:=rR e2 o
   exact yM K f s U H _ u Q I r ⟨a,P,rfl,A▸m,p.v g rfl⟩
  | all=>
   simp only [M.gB]at p
   obtain⟨bs,e,p⟩:=p.of
   obtain⟨C,e1,e2⟩:=Ag7.mp e
   obtain⟨a,t,rfl,m,o⟩:=ah.lst g z e1
   cases W8 e2 o
   exact HK K f s U H _ u Q I r ⟨a,bs,rfl,A▸m,p.v g rfl⟩
  | any=>
   simp only [M.gB]at p
   obtain⟨bs,e,p⟩:=p.of
   obtain⟨C,e1,e2⟩:=Ag7.mp e
   obtain⟨a,t,rfl,m,o⟩:=ah.lst g z e1
   cases W8 e2 o
   exact yD K f s U H _ u Q I r ⟨a,bs,rfl,A▸m,p.v g rfl⟩
  | sorted=>
   simp only [M.gB]at p
   obtain⟨R,e,p⟩:=p.of
   obtain⟨C,e1,e2⟩:=Ag7.mp e
   obtain⟨a,t,rfl,m,o⟩:=ah.lst g z e1
   cases qR e2 o
   split at p
   ·rename_i x
    refine J1 f s U H _ u Q I r ⟨a,R.map aC,rfl,A▸m,by rw [Aa];exact x,λL N O l x=> ?_⟩
    rw [Hd N O]
    exact p.own g (zR _) l x
   ·exact p.elim
  | str=>cases B
  | abs=>cases B
 ·rename_i w w'
  obtain⟨v,V,rfl,z,T⟩:=D.two
  obtain⟨i,j,e,S,p⟩:=p.of2
  cases z.int e
  cases T.int S
  cases b with
  | divmod=>
   simp only [M.ym,M.GO]at p
   split at p
   ·rename_i c
    exact W4 f s U H _ u Q I r ⟨i,j,rfl,c,λl x=>p.tup g (vs:= [.int (i / j),.int (i % j)]) ⟨_,_,rfl,rfl,_,_,rfl,rfl,rfl⟩ l x⟩
   ·exact p.elim
  | min=>cases B
  | max=>cases B
  | len=>exact p.elim
  | int=>exact p.elim
  | list=>exact p.elim
  | tuple=>exact p.elim
  | sum=>exact p.elim
  | all=>exact p.elim
  | any=>exact p.elim
  | sorted=>exact p.elim
  | str=>cases B
  | abs=>cases B
 ·exact p.elim
noncomputable def cW:M.Ty->String
 | .aj=> "NoneType" | .bool=> "bool" | .int=> "int" | .str=> "str" | .list=> "list" | .tuple=> "tuple"
def Zw (K): ∀ u t,t≠ .aj->PySem.W.kitOne K (.type (cW u)) (.type (cW t))=k0 (M.Ty.le u t):=by
 intro u t a
 cases u<;>cases t<;>first | exact absurd rfl a | kernel_rfl
def FZ (Y:Ge):List V->Hp->VK->Prop:=λxs H Q=> ∃G h w x t b,xs= [x,.ty (cW t)]/\t≠ .aj/\ag Y G h H/\ah Y G H w x/\M.b8 t w=k0 b/\Q (.bl b) H
def EZ (E:X.K=Y.K):zu X (.builtin "isinstance") (FZ Y):=by
 intro k s U H P O Q I r ⟨G,h,w,x,t,b,F,j,S,z,e,q⟩
 subst F
 obtain⟨u,T,rfl,g,J⟩:=sL r
 cases J
 have fin: ∀A,EP X k U Q (.bool b) { s with toks:=A }:=λA=>⟨.bl b,H,I.tok A,rfl,q⟩
 have lst: ∀ {a:Addr}{l:List V},x= .ref a->Rd H a (.lst l)->M.Ty.le .list t=b->wpAny (model X.prog X.w) X.A (call (.builtin "isinstance") [u,.type (cW t)]) (EP X k U Q) X.xe s:=by
  intro a l ex rd N
  subst ex N
  rcases rd with rd | ⟨o,rd⟩
  ·exact Xk I g (.lst rd) (Zw _ .list t j) fin
  ·exact Xk I g (.d8 rd) (Zw _ .list t j) fin
 unfold M.b8 at e
 cases w with
 | v d=>
  cases d with
  | aj=>cases e;cases (show x= .aj from z);exact Xk I g .aj (Zw _ .aj t j) fin
  | bl c=>cases e;cases (show x= .bl c from z);exact Xk I g (.bl c) (Zw _ .bool t j) fin
  | int i=>cases e;cases (show x= .int i from z);exact Xk I g (.int i) (Zw _ .int t j) fin
  | str y=>cases e;cases (show x= .str _ from z);exact Xk I g (.str _) (Zw _ .str t j) fin
  | tup D=>
   cases e
   obtain⟨a,l,rfl,f,K⟩:=z
   rcases f with⟨_,f⟩ | ⟨o,p,n,C,B,L,_⟩
   ·exact Xk I g (.tup f) (Zw _ .tuple t j) fin
   ·cases g
    exact Af PySem.W.kitx_tuple I.ck ⟨o,I.ck a o (E▸C),B⟩ (Zw _ .tuple t j) (λz=>nomatch z) fin
  | lst D=>
   cases e
   obtain⟨a,l,m,f,K⟩:=z
   rcases f with f | ⟨o,p,n,C,B,L,_⟩
   ·exact lst m f.2 rfl
   ·subst m
    cases g
    exact Af Ao1 I.ck ⟨o,I.ck a o (E▸C),B⟩ (Zw _ .list t j) (λz=>nomatch z) fin
  | ref R=>cases e
 | own D=>cases e;obtain⟨a,l,m,_,_,f,_⟩:=z;exact lst m (.inl f) rfl
 | bor D=>cases e;obtain⟨a,l,m,_,f,_⟩:=z;exact lst m f rfl
def lR (m:X.K=Y.K) (p:ag Y G h H){w:M.W}{x:V}{b:Bool}(z:ah Y G H w x) (e:M.G6 h w=k0 b):ia X.K x H b:=by
 have lst: ∀ {a:Addr}{f:List V}{g:List M.D},x= .ref a->bu X.K H a f->aa Y G H g f->(!g.isEmpty)=b->ia X.K x H b:=by
  intro a f g ex rd l n
  subst ex n
  refine .inl ⟨f,rd,?_⟩
  cases g with
  | nil=>cases (show f= []from l);rfl
  | cons _ _=>obtain⟨_,_,rfl,_⟩:=l;rfl
 cases w with
 | v d=>
  cases d with
  | aj=>cases e;cases (show x= .aj from z);exact rfl
  | bl _=>cases e;cases (show x= .bl _ from z);exact rfl
  | int _=>cases e;cases (show x= .int _ from z);exact rfl
  | str y=>
   cases (show x= .str _ from z)
   have e:(if y.length<=M.bh then k0 (!y.isEmpty)else y0)=k0 b:=e
   split at e
   ·rename_i c
    cases e
    refine⟨by rw [Xd];have:=Jj;omega,?_⟩
    rw [Xd]
    cases y with
    | nil=>rfl
    | cons a r=>
     have:((((a::r).length:Nat):Int) != 0)=true:=by
      rw [Aa6,bne_iff_ne];omega
     rw [this];rfl
   ·cases e
  | tup g=>
   cases e
   obtain⟨a,f,rfl,i,l⟩:=z
   refine .inr (.inl ⟨f,m▸i.sq,?_⟩)
   cases g with
   | nil=>cases (show f= []from l);rfl
   | cons _ _=>obtain⟨_,_,rfl,_⟩:=l;rfl
  | lst g=>cases e;obtain⟨a,f,k,i,j⟩:=z;exact lst k (m▸i.sq) j rfl
  | ref o=>cases e
 | own g=>cases e;obtain⟨a,f,k,_,_,i,j⟩:=z;exact lst k (bu.of i) j rfl
 | bor g=>cases e;obtain⟨a,f,k,_,i,j⟩:=z;exact lst k (.inl i) j rfl
end
abbrev Qf (x:String):Str:=Str.ofString x
example:("len" :Str)=Qf "len" :=rfl
structure gj where
 fl:List (String×String)
 mt:List (String×String×String)
 eO:List (String×String)
 ms:List String
 er:List (String×String)
structure Cf where
 sc:Scope
 N:List Str
 fns:List String
 own:List String
 dI:List String
 dP:List String
 ob:gj
noncomputable def wU (sc:Scope) (x:Str):Bool:=match sc.names.lookup x with
 | some .local=>u0
 | some .cell=>u0
 | some .free=>u0
 | _=>k9
def kT (sc:Scope) (x:Str):Bool:=match sc.names.lookup x with
 | some .globalImplicit=>u0
 | _=>k9
def iw (sc:Scope) (x:Str):Bool:=match sc.names.lookup x with
 | some .local=>u0
 | some .cell=>u0
 | _=>k9
def bg (x:Str):Bool:= !(x==("__debug__" :Str))&& !(x==("__classdict__" :Str))
noncomputable def lO:M.Bi->String
 | .len=> "len" | .int=> "int" | .list=> "list" | .tuple=> "tuple" | .sum=> "sum" | .all=> "all" | .any=> "any" | .sorted=> "sorted" | .divmod=> "divmod" | .str=> "str" | .min=> "min" | .max=> "max" | .abs=> "abs"
noncomputable def cF:List String:= ["len", "int", "list", "tuple", "sum", "all", "any", "sorted", "divmod", "str", "min", "max", "abs", "isinstance", "bool", "range", "reversed", "zip", "enumerate", "set", "dict", "ValueError"]
def nT:Expr->Str->Bool
 | .Name y _,x=>y==x
 | _,_=>k9
def cH (sc:Scope) (x:String) (e:Expr):Bool:=nT e (Qf x)&&kT sc (Qf x)&&bg (Qf x)
def rC:M.Mt->String
 | .index=> "index" | .count=> "count" | .b3=> "index"
def td:M.Mt->Bool
 | .index=>u0 | .count=>u0 | .b3=>u0
def wR:Expr->Bool
 | .Call _ [] _ _=>k9
 | _=>u0
noncomputable def qu (a:Cf):List Nat->List Expr->Bool
 | [],[]=>u0
 | i::is,.Name x _::es=>y9 (a.N[i]? =k0 x)&&iw a.sc x&&qu a is es
 | _,_=>k9
def qf (a:Cf) (tg:List Nat) (one:Bool) (e:Expr):Bool:=match one,e with
 | true,.Name x p=>(match tg with | [_]=>u0 | _=>k9)&&qu a tg [.Name x p]
 | false,.Tuple es _ _=>qu a tg es
 | _,_=>k9
def Xb:Expr->Bool
 | .Starred .. =>k9
 | _=>u0
def Wc:Expr->Bool
 | .Slice .. =>k9
 | _=>u0
def Wg:Expr->Bool
 | .Set .. =>k9
 | _=>u0
noncomputable def zJ (a:Cf):List Nat->List Str->Bool
 | [],[]=>u0
 | j::b,x::xs=>y9 (a.N[j]? =k0 x)&&y9 (a.sc.names.lookup x=k0 .cell\/a.sc.names.lookup x=k0 .free)&&zJ a b xs
 | _,_=>k9
def J6 (b:Cf) (a:Scope) (N:List Str) (k:Nat) (aB:List Nat):Bool:=
 y9 (a.kind= .function)&&y9 (a.names.map Prod.fst).Nodup&&a.names.all (λy=>y9 (y.2= .local->a.names.lookup y.1=k0 .local))&&
 a.names.all (λy=>y9 (y.2= .free->b.sc.names.lookup y.1=k0 .cell\/b.sc.names.lookup y.1=k0 .free))&&(N.drop k).all (λx=>y9 (a.names.lookup x=k0 .free))&&
 zJ b aB (N.drop k)&&y9 (k<=N.length)&&decide N.Nodup&&decide aB.Nodup
def HY:Expr->List Str
 | .Name x _=> [x]
 | .Tuple es _ _=>es.filterMap λ| .Name x _=>k0 x | _=>y0
 | _=> []
def zz (a:Cf) (t:Expr) (aB:List Nat):List Str:=HY t++aB.filterMap λj=>a.N[j]?
def fv:M.E->Bool
 | .share _=>k9
 | .not a=>fv a
 | .and a b=>fv a&&fv b
 | .or a b=>fv a&&fv b
 | _=>u0
def mK (neg:Bool):CmpOp:=if neg then .NotIn else .In
def cv {P:Prop}(h:k9=u0):P:=nomatch h
set_option backward.match.sparseCases false
def lC {a:Type}(l:List a) (f:a->List a->Bool):Bool:=match l with
 | x::r=>f x r
 | _=>k9
def oS {a:Type}(l:Option a) (f:a->Bool):Bool:=match l with
 | some x=>f x
 | _=>k9
@[elab_as_elim] theorem kC {P:List α->Prop}(k: ∀x r,f x r=u0->P (x::r)): ∀l,lC l f=u0->P l:=by rintro (_|_)<;>first | exact cv | exact k _ _
@[elab_as_elim] theorem kS {P:Option α->Prop}(k: ∀x,f x=u0->P (k0 x)): ∀l,oS l f=u0->P l:=by rintro (_|_)<;>first | exact cv | exact k _
def Xw (e:Expr) (f:Str->Bool):Bool:=match e with
 | .Name x _=>f x
 | _=>k9
@[elab_as_elim] theorem qx {P:Expr->Prop}(k: ∀x p,f x=u0->P (.Name x p)): ∀e,Xw e f=u0->P e:=by rintro (_|_)<;>first | exact cv | exact k _ _
def zy (e:Expr) (f:Const->Bool):Bool:=match e with
 | .Constant x _ _=>f x
 | _=>k9
@[elab_as_elim] theorem QE {P:Expr->Prop}(k: ∀x n p,f x=u0->P (.Constant x n p)): ∀e,zy e f=u0->P e:=by rintro (_|_)<;>first | exact cv | exact k _ _ _
def md (e:Expr) (f:List Expr->Bool):Bool:=match e with
 | .Tuple x _ _=>f x
 | _=>k9
@[elab_as_elim] theorem o6 {P:Expr->Prop}(k: ∀x n p,f x=u0->P (.Tuple x n p)): ∀e,md e f=u0->P e:=by rintro (_|_)<;>first | exact cv | exact k _ _ _
def t9 (e:Expr) (f:List Expr->Bool):Bool:=match e with
 | .List x _=>f x
 | _=>k9
@[elab_as_elim] theorem Md {P:Expr->Prop}(k: ∀x p,f x=u0->P (.List x p)): ∀e,t9 e f=u0->P e:=by rintro (_|_)<;>first | exact cv | exact k _ _
def vf (e:Expr) (f:Expr->Operator->Expr->Bool):Bool:=match e with
 | .BinOp x o y _=>f x o y
 | _=>k9
@[elab_as_elim] theorem B6 {P:Expr->Prop}(k: ∀x o y p,f x o y=u0->P (.BinOp x o y p)): ∀e,vf e f=u0->P e:=by rintro (_|_)<;>first | exact cv | exact k _ _ _ _
def la (e:Expr) (f:Expr->List CmpOp->List Expr->Bool):Bool:=match e with
 | .Compare x o y _=>f x o y
 | _=>k9
@[elab_as_elim] theorem mr {P:Expr->Prop}(k: ∀x o y p,f x o y=u0->P (.Compare x o y p)): ∀e,la e f=u0->P e:=by rintro (_|_)<;>first | exact cv | exact k _ _ _ _
def lY (e:Expr) (f:UnaryOp->Expr->Bool):Bool:=match e with
 | .UnaryOp o x _=>f o x
 | _=>k9
@[elab_as_elim] theorem oA {P:Expr->Prop}(k: ∀o x p,f o x=u0->P (.UnaryOp o x p)): ∀e,lY e f=u0->P e:=by rintro (_|_)<;>first | exact cv | exact k _ _ _
def nF (e:Expr) (f:BoolOp->List Expr->Pos->Bool):Bool:=match e with
 | .BoolOp o x p=>f o x p
 | _=>k9
@[elab_as_elim] theorem rB {P:Expr->Prop}(k: ∀o x p,f o x p=u0->P (.BoolOp o x p)): ∀e,nF e f=u0->P e:=by rintro (_|_)<;>first | exact cv | exact k _ _ _
def xp (e:Expr) (f:Expr->List Expr->List Keyword->Pos->Bool):Bool:=match e with
 | .Call g x l p=>f g x l p
 | _=>k9
@[elab_as_elim] theorem jp {P:Expr->Prop}(k: ∀g x l p,f g x l p=u0->P (.Call g x l p)): ∀e,xp e f=u0->P e:=by rintro (_|_)<;>first | exact cv | exact k _ _ _ _
def fV (e:Expr) (f:Expr->Expr->Bool):Bool:=match e with
 | .Subscript x y _=>f x y
 | _=>k9
@[elab_as_elim] theorem gm {P:Expr->Prop}(k: ∀x y p,f x y=u0->P (.Subscript x y p)): ∀e,fV e f=u0->P e:=by rintro (_|_)<;>first | exact cv | exact k _ _ _
def mC (e:Expr) (f:Option Expr->Option Expr->Option Expr->Bool):Bool:=match e with
 | .Slice x y z _=>f x y z
 | _=>k9
@[elab_as_elim] theorem nz {P:Expr->Prop}(k: ∀x y z p,f x y z=u0->P (.Slice x y z p)): ∀e,mC e f=u0->P e:=by rintro (_|_)<;>first | exact cv | exact k _ _ _ _
def yd (e:Expr) (f:Expr->List Comprehension->Scope->Bool):Bool:=match e with
 | .ListComp y g s _=>f y g s
 | _=>k9
@[elab_as_elim] theorem r6 {P:Expr->Prop}(k: ∀y g s p,f y g s=u0->P (.ListComp y g s p)): ∀e,yd e f=u0->P e:=by rintro (_|_)<;>first | exact cv | exact k _ _ _ _
def JS (e:Expr) (f:Expr->Str->Pos->Bool):Bool:=match e with
 | .Attribute x n p=>f x n p
 | _=>k9
@[elab_as_elim] theorem ZZ {P:Expr->Prop}(k: ∀x n p,f x n p=u0->P (.Attribute x n p)): ∀e,JS e f=u0->P e:=by rintro (_|_)<;>first | exact cv | exact k _ _ _
def nU (e:Expr) (f:List (Option Expr)->List Expr->Bool):Bool:=match e with
 | .Dict x y _=>f x y
 | _=>k9
@[elab_as_elim] theorem pI {P:Expr->Prop}(k: ∀x y p,f x y=u0->P (.Dict x y p)): ∀e,nU e f=u0->P e:=by rintro (_|_)<;>first | exact cv | exact k _ _ _
def gb (e:Stmt) (f:List Expr->Expr->Bool):Bool:=match e with
 | .Assign t v _=>f t v
 | _=>k9
@[elab_as_elim] theorem gG {P:Stmt->Prop}(k: ∀t v p,f t v=u0->P (.Assign t v p)): ∀e,gb e f=u0->P e:=by rintro (_|_)<;>first | exact cv | exact k _ _ _
def lN (e:Stmt) (f:Expr->Bool):Bool:=match e with
 | .Expr v _=>f v
 | _=>k9
@[elab_as_elim] theorem m2 {P:Stmt->Prop}(k: ∀v p,f v=u0->P (.Expr v p)): ∀e,lN e f=u0->P e:=by rintro (_|_)<;>first | exact cv | exact k _ _
def uy (e:Stmt) (f:Option Expr->Bool):Bool:=match e with
 | .Return v _=>f v
 | _=>k9
@[elab_as_elim] theorem HJ {P:Stmt->Prop}(k: ∀v p,f v=u0->P (.Return v p)): ∀e,uy e f=u0->P e:=by rintro (_|_)<;>first | exact cv | exact k _ _
def sD (e:Stmt) (f:Expr->List Stmt->List Stmt->Bool):Bool:=match e with
 | .If x y z _=>f x y z
 | _=>k9
@[elab_as_elim] theorem LL {P:Stmt->Prop}(k: ∀x y z p,f x y z=u0->P (.If x y z p)): ∀e,sD e f=u0->P e:=by rintro (_|_)<;>first | exact cv | exact k _ _ _ _
def vv (e:Stmt) (f:Expr->List Stmt->List Stmt->Bool):Bool:=match e with
 | .While x y z _=>f x y z
 | _=>k9
@[elab_as_elim] theorem K9 {P:Stmt->Prop}(k: ∀x y z p,f x y z=u0->P (.While x y z p)): ∀e,vv e f=u0->P e:=by rintro (_|_)<;>first | exact cv | exact k _ _ _ _
def pB (e:Stmt) (f:Expr->Expr->List Stmt->List Stmt->Bool):Bool:=match e with
 | .For t i y z _=>f t i y z
 | _=>k9
@[elab_as_elim] theorem KZ {P:Stmt->Prop}(k: ∀t i y z p,f t i y z=u0->P (.For t i y z p)): ∀e,pB e f=u0->P e:=by rintro (_|_)<;>first | exact cv | exact k _ _ _ _ _
set_option backward.match.sparseCases true
def vB (a:Cf) (i:Nat) (x:Str):Bool:=y9 (a.N[i]? =k0 x)&&wU a.sc x&&bg x
def kZ {a:Type}(l:List a) (b:Bool):Bool:=l.isEmpty&&b
def hV (t:M.Tx) (e:Option Expr):Bool:=oS e λe=>zy e λc=>y9 (c= .str (aC t))
def nZ (h:hV t e=u0): ∃j p,e=k0 (.Constant (.str (aC t)) j p):=by
 refine kS (λe h=> ?_) e h
 refine QE (λc n p h=> ?_) e h
 cases of_decide_eq_true h
 exact⟨_,_,rfl⟩
mutual
noncomputable def wc (cf:Cf):M.E->Expr->Bool
 | .var i,e=>Xw e (vB cf i)
 | .con c,e=>cH cf.sc c e
 | .int i,e=>zy e λj=>y9 (j= .int i)
 | .bl i,e=>zy e λj=>y9 (j= .bool i)
 | .aj,e=>zy e λj=>y9 (j= .none)
 | .str i,e=>zy e λj=>y9 (j= .str (aC i))
 | .tup es,e=>md e λxs=>y9 (xs.length<=1000)&&bU cf es xs
 | .lst es,e=>t9 e λxs=>y9 (xs.length<=1000)&&bU cf es xs
 | .bin o a b,e=>vf e λx p y=>y9 (p=mI o)&&mT o&&wc cf a x&&wc cf b y
 | .cmp o a b,e=>la e λx p y=>lC y λy r=>y9 (p= [fe o]/\r= [])&&WL o&&Wg y&&wc cf a x&&wc cf b y
 | .chain o q a b c,e=>la e λx p y=>lC y λy r=>lC r λz r=>y9 (p= [fe o,fe q]/\r= [])&&WL o&&WL q&&Wg z&&wc cf a x&&wc cf b y&&wc cf c z
 | .eU neg a,e=>la e λx p y=>lC y λy r=>zy y λj=>y9 (p= [if neg then .IsNot else .Is]/\r= [])&&y9 (j= .none)&&wc cf a x
 | .neg a,e=>lY e λo x=>y9 (o= .USub)&&wc cf a x
 | .inv a,e=>lY e λo x=>y9 (o= .Invert)&&wc cf a x
 | .not a,e=>lY e λo x=>y9 (o= .Not)&&wc cf a x
 | .and a b,e=>nF e λo x p=>lC x λx r=>lC r λy r=>y9 (o= .And)&&wc cf a x&&bif r.isEmpty then wc cf b y else wc cf b (.BoolOp .And (y::r) p)
 | .or a b,e=>nF e λo x p=>lC x λx r=>lC r λy r=>y9 (o= .Or)&&wc cf a x&&bif r.isEmpty then wc cf b y else wc cf b (.BoolOp .Or (y::r) p)
 | .call f es,e=>xp e λg xs l _=>kZ l (cH cf.sc f g&&cf.fns.contains f&&bU cf es xs)
 | .bi b es,e=>xp e λg xs l _=>kZ l (lC xs λx r=>cH cf.sc (lO b) g&&mB b&&bU cf es (x::r))
 | .b8 a t,e=>xp e λg xs l _=>kZ l (lC xs λx r=>lC r λy r=>kZ r (cH cf.sc "isinstance" g&&cH cf.sc (cW t) y&&decide (t≠ .aj)&&Xb x&&wc cf a x))
 | .ix a b,e=>fV e λx y=>Wc y&&wc cf a x&&wc cf b y
 | .sl a lo hi,e=>fV e λx y=>mC y λl u z=>oS l λl=>oS u λu=>z.isNone&&wc cf a x&&wc cf lo l&&wc cf hi u
 | .fB a lo,e=>fV e λx y=>mC y λl u z=>oS l λl=>u.isNone&&z.isNone&&wc cf a x&&wc cf lo l
 | .fG a hi,e=>fV e λx y=>mC y λl u z=>oS u λu=>l.isNone&&z.isNone&&wc cf a x&&wc cf hi u
 | .comp tg one k aB it y7 c elt,e=>yd e λy g scope=>lC g λg r=>
  y9 (g.is_async=0/\r= [])&&J6 cf scope (zz cf g.target aB) k aB&&tg.all (λi=>y9 (i<k))&&qf { cf with sc:=scope,N:=zz cf g.target aB } tg one g.target&&d3 cf it g.iter&&wc { cf with sc:=scope,N:=zz cf g.target aB } elt y&&
   bif y7 then(lC g.ifs λz r=>kZ r (fv c&&wc { cf with sc:=scope,N:=zz cf g.target aB } c z))else g.ifs.isEmpty
 | .c8,e=>nU e λx y=>x.isEmpty&&y.isEmpty
 | .eE i a,e=>fV e λg y=>Xw g λx=>vB cf i x&&Wc y&&wc cf a y
 | .cQ neg a i,e=>la e λx p y=>lC y λy r=>Xw y λy=>y9 (p= [mK neg]/\r= [])&&vB cf i y&&wc cf a x
 | .fu k1 a k2 b k3 c i,e=>fV e λd y=>nU d λks vs=>Xw y λx=>lC ks λq1 ks=>lC ks λq2 ks=>lC ks λq3 ks=>kZ ks (lC vs λv1 vs=>lC vs λv2 vs=>lC vs λv3 vs=>kZ vs ((vB cf i x&&hV k1 q1&&hV k2 q2&&hV k3 q3)&&(decide [k1,k2,k3].Nodup&&wc cf a v1&&wc cf b v2&&wc cf c v3)))
 | .ef i,e=>xp e λg xs l _=>kZ l (lC xs λx r=>kZ r (cH cf.sc "dict" g&&Xw x (vB cf i)))
 | .share a,e=>wc cf a e
 | .bY a,e=>xp e λg xs l _=>kZ l (lC xs λx r=>kZ r (xp x λg2 xs l _=>kZ l (lC xs λx r=>kZ r (cH cf.sc "list" g&&cH cf.sc "range" g2&&Xb x&&wc cf a x))))
 | .dE s ts,e=>xp e λg xs l q=>kZ l (lC xs λx r=>kZ r (JS g λo n p=>zy o λc=>zy x λc2=>decide (n=Qf "split")&&decide (c= .str (aC s))&&decide (c2= .str bQ)&&(p.endLine==q.line)&&lZ (aC s) (ts.map aC)))
 | .dz m a es,e=>xp e λg xs l q=>kZ l (lC xs λx r=>kZ r (JS g λo n p=>y9 (n=Qf (rC m))&&td m&&(p.endLine==q.line)&&wR o&&wc cf a o&&bU cf es [x]))
 | .make c q es,e=>xp e λg ys l _=>kZ l (lC ys λx r=>cH cf.sc c g&&cf.ob.eO.contains (c,q)&&bU cf es (x::r))
 | .aG a c f,e=>JS e λx n _=>y9 (n=Qf f)&&cf.ob.fl.contains (c,f)&&wR x&&wc cf a x
 | .bL a c m q es,e=>xp e λg ys l s=>kZ l (JS g λx n p=>y9 (n=Qf m)&&cf.ob.mt.contains (c,m,q)&&(p.endLine==s.line)&&y9 (ys.length<=20)&&wR x&&wc cf a x&&lC ys λy r=>bU cf es (y::r))
 | .eV a,e=>xp e λg ys l s=>kZ l (kZ ys (JS g λx n p=>y9 (n=Qf "bit_length")&&(p.endLine==s.line)&&wR x&&wc cf a x))
 | .eM f a,e=>xp e λg ys l _=>lC ys λx r=>kZ r (lC l λw r=>kZ r (y9 (w.arg=k0 (Qf "key"))&&cH cf.sc f w.value&&cf.fns.contains f&&cH cf.sc "min" g&&Xb x&&wc cf a x))
noncomputable def bU (cf:Cf):M.Es->List Expr->Bool
 | .nil,xs=>xs.isEmpty
 | .cons e es,xs=>lC xs λx xs=>Xb x&&wc cf e x&&bU cf es xs
noncomputable def d3 (cf:Cf):M.It->Expr->Bool
 | .seq a,e=>Wg e&&wc cf a e
 | .av a,e=>xp e λg xs l _=>kZ l (lC xs λx r=>kZ r (cH cf.sc "range" g&&Xb x&&wc cf a x))
 | .cj _,_=>k9
end
def zC:Expr->Bool
 | .ListComp .. =>k9
 | .SetComp .. =>k9
 | .DictComp .. =>k9
 | _=>u0
def Xl:Expr->Bool
 | .Tuple .. =>k9
 | _=>u0
def wF (a:Cf) (i:Nat) (x:Str):Bool:=y9 (a.N[i]? =k0 x)&&iw a.sc x
def Z0 (b:Cf) (i:Nat) (m:Str) (e:Expr) (a:Pos):Bool:=JS e λx n p=>Xw x λx=>vB b i x&&y9 (n=m)&&(p.endLine==a.line)
def oE (b:Cf):M.It->Expr->Bool
 | .seq a,e=>Wg e&&wc b a e
 | .av a,e=>d3 b (.av a) e
 | .cj a,e=>xp e λg xs l _=>kZ l (lC xs λx r=>kZ r (cH b.sc "enumerate" g&&Xb x&&wc b a x))
def nt:M.It->Expr->Bool
 | .cj _,e=> !Xl e
 | _,_=>u0
mutual
noncomputable def u1 (cf:Cf):M.S->Stmt->Bool
 | .set i e,st=>gb st λts v=>lC ts λt r=>Xw t λx=>kZ r (wF cf i x&&wc cf e v)
 | .af i e,st=>gb st λts v=>lC ts λt r=>Xw t λx=>kZ r (wF cf i x&&wc cf e v)
 | .fb is e,st=>gb st λts v=>lC ts λt r=>md t λts=>kZ r (qu cf is ts&&Xl v&&wc cf e v)
 | .fT o kx j e,st=>gb st λts v=>lC ts λt r=>kZ r (md t λts=>lC ts λt1 r=>lC r λt2 r=>kZ r (fV t1 λx y=>Xw t2 λa=>Wc y&&Xl v&&wF cf j a&&wc cf o x&&(wc cf kx y&&wc cf e v)))
 | .bT o kx e,st=>gb st λts v=>lC ts λt r=>fV t λx y=>kZ r (Wc y&&Xl v&&zC v&&wc cf o x&&wc cf kx y&&wc cf e v)
 | .app i e,st=>lN st λc=>xp c λf xs l p=>kZ l (lC xs λv r=>kZ r (Z0 cf i "append" f p&&Xb v&&wc cf e v))
 | .ext i e,st=>lN st λc=>xp c λf xs l p=>kZ l (lC xs λv r=>kZ r (Z0 cf i "extend" f p&&Xb v&&wc cf e v))
 | .bS i c f e,st=>gb st λts v=>lC ts λt r=>JS t λx n _=>Xw x λx=>kZ r (vB cf i x&&(y9 (n=Qf f)&&cf.ob.fl.contains (c,f)&&wc cf e v))
 | .dY i kx e,st=>gb st λts v=>lC ts λt r=>fV t λx y=>Xw x λx=>kZ r (vB cf i x&&Wc y&&wc cf kx y&&wc cf e v)
 | .cm i kx e,st=>gb st λts v=>lC ts λt r=>fV t λx y=>Xw x λx=>kZ r (vB cf i x&&Wc y&&wc cf kx y&&wc cf e v)
 | .ex e,st=>lN st λv=>zC v&&wc cf e v
 | .ret e,st=>uy st λv=>oS v λv=>wc cf e v
 | .iff c a b,st=>sD st λx ys zs=>fv c&&wc cf c x&&cU cf a ys&&cU cf b zs
 | .ip _ c b,st=>vv st λx ys zs=>kZ zs (fv c&&wc cf c x&&cU cf b ys)
 | .for tg one it b,st=>pB st λt iter ys zs=>kZ zs (nt it t&&qf cf tg one t&&oE cf it iter&&cU cf b ys)
 | .bF i c f e,st=>gb st λts v=>lC ts λt r=>JS t λx n _=>Xw x λx=>kZ r (vB cf i x&&y9 (n=Qf f)&&cf.ob.fl.contains (c,f)&&wc cf e v)
 | .ea,_=>u0
noncomputable def cU (cf:Cf):M.Ss->List Stmt->Bool
 | .nil,sts=>sts.isEmpty
 | .cons s ss,sts=>lC sts λst sts=>u1 cf s st&&cU cf ss sts
end
structure Hr (X:Cx) (k:Nat) (x:Str) (ps:List Str) (sp:Sp):Prop where
 ex: ∃f fd,ZF X.prog X.w X.K X.mg X.base (d4 X.prog X.w) k f fd ps sp/\Binds X.K fd ps []/\Ah4 X.K (.ref f)=u0/\X.mg x=k0 (.ref f)
def mR:M.W->Bool
 | .own _=>k9
 | _=>u0
def gD (Y:Ge) (m:List M.W->M.AH->M.R M.W):Sp:=λb H Q E=> ∃G h a,ag Y G h H/\bj Y G H a b/\(∀ w∈a,mR w=u0)/\az Y E G H (m a h) Q
structure Go (Y:Ge) (F:M.Fx) (X:Cx) (E:XK) (k:Nat) (cf:Cf):Prop where
 N:X.N=cf.N
 K:X.K=Y.K
 cl:F.cl=Y.cl
 ow:cf.own=Y.own
 nd:cf.N.Nodup
 gW: ∀x,wU cf.sc x=u0->lM X.env.scope x
 r9: ∀x,cf.sc.names.lookup x=k0 .local->X.env.scope.names.lookup x=k0 .local
 iR: ∀x,iw cf.sc x=u0->i9 X.env.scope x/\(X.fn x=u0\/X.env.scope.names.lookup x=k0 .local)
 mE: ∀x,(cf.sc.names.lookup x=k0 .cell\/cf.sc.names.lookup x=k0 .free)->X.env.kindOf x=k0 .cell\/X.env.kindOf x=k0 .free
 gl: ∀x,kT cf.sc x=u0->Gl X x
 calm:X.calm=u0
 room:a0 k X.A
 dZ:a0 (k+1) X.A
 pass:qE (d4 X.prog X.w) X E
 blt: ∀x,x∈cF->X.mg (Qf x)=y0
 con: ∀x d,F.con.lookup x=k0 d-> ∃u v,X.mg (Qf x)=k0 u/\RelV v u/\ ∀G H,aA Y G H d v
 fn: ∀f,cf.fns.contains f=u0-> ∃ps,Hr X k (Qf f) ps (gD Y (F.call f))
 cls: ∀c,cf.own.contains c=u0->X.mg (Qf c)=k0 (.ref (Y.ca c))
 fld: ∀c f,cf.ob.fl.contains (c,f)=u0->dR X.K (Y.ca c)/\bZ X.K (Y.ca c) (Qf f)
 ki: ∀c m q,cf.ob.mt.contains (c,m,q)=u0->dR X.K (Y.ca c)/\ ∃fa fd ps,mi X.K (Y.ca c) (Qf m) fa/\ZF X.prog X.w X.K X.mg X.base (d4 X.prog X.w) k fa fd ps (gD Y (F.call q))/\Binds X.K fd ps []
 eO: ∀c q,cf.ob.eO.contains (c,q)=u0->X.mg (Qf c)=k0 (.ref (Y.ca c))/\ ∃fa fd ps,Mk X.K (Y.ca c) fa/\ZF X.prog X.w X.K X.mg X.base (d4 X.prog X.w) k fa fd ps (gD Y (F.call q))/\Binds X.K fd ps []
@[elab_as_elim] theorem kE {P:List α->Prop}(k:b=u0->P []): ∀l,kZ l b=u0->P l:=by rintro (_|_)<;>first | exact cv | exact k
def a2 (h:(a&&b)=u0):a=u0/\b=true:=Bool.and_eq_true_iff.mp h
def a3 (h:(a&&b&&c)=u0):a=u0/\b=u0/\c=true:=⟨(a2 (a2 h).1).1,(a2 (a2 h).1).2,(a2 h).2⟩
def a4 (h:(a&&b&&c&&d)=u0):a=u0/\b=u0/\c=u0/\d=true:=⟨(a3 (a2 h).1).1,(a3 (a2 h).1).2.1,(a3 (a2 h).1).2.2,(a2 h).2⟩
def a5 (h:(a&&b&&c&&d&&e)=u0):a=u0/\b=u0/\c=u0/\d=u0/\e=true:=⟨(a2 (a4 h).1).1,(a2 (a4 h).1).2,(a4 h).2⟩
def a6 (h:(a&&b&&c&&d&&e&&f)=u0):a=u0/\b=u0/\c=u0/\d=u0/\e=u0/\f=true:=⟨(a2 (a5 h).1).1,(a2 (a5 h).1).2,(a5 h).2⟩
def a7 (h:(a&&b&&c&&d&&e&&f&&g)=u0):a=u0/\b=u0/\c=u0/\d=u0/\e=u0/\f=u0/\g=true:=⟨(a2 (a6 h).1).1,(a2 (a6 h).1).2,(a6 h).2⟩
def nn (h:o.isNone=u0):o=none:=Aj7.mp h
def fR (h:vB cf i x=u0):cf.N[i]? =k0 x/\wU cf.sc x=u0/\bg x=true:=⟨of_decide_eq_true (a3 h).1,(a3 h).2⟩
def Qd (h:cH sc x e=true): ∃p,e= .Name (Qf x) p/\kT sc (Qf x)=true/\(Qf x==("__debug__" :Str))=false:=by
 unfold cH at h
 rw [Aa0,Aa0]at h
 obtain⟨⟨b,c⟩,a⟩:=h
 unfold bg at a
 rw [Aa0]at a
 cases e with
 | Name y p=>
  have:y=Qf x:=by simpa [nT]using b
  subst this
  exact⟨p,rfl,c,by simpa using a.1⟩
 | _=>simp [nT]at b
def Xx (h:x∈cF):Qf x≠("__name__" :Str):=by
 have:(cF.all λx=>decide (Qf x≠ "__name__"))=true:=by decide +kernel
 exact of_decide_eq_true (Ai6.mp this x h)
section
variable {Y:Ge}{F:M.Fx}{X:Cx}{E:XK}{k:Nat}{cf:Cf}
section
variable {G:Gh}{H:Hp}{h:M.AH}{τ:M.Sl}{U:St}{Q:VK}
def aw.val (p:aw Y E G0 H0 (.ok w h) λw _ G' H'=> ∀v,ah Y G' H' w v->aI τ U H0 w v->Q v H') (e:Ext G0 H0 G H) (a:ag Y G h H) (z:ah Y G H w v) (f:aI τ U H0 w v):Q v H:=
 p G H e a v z f
end
def Ig (c:Go Y F X E k cf)(m:cf.N[i]? =k0 x) (u:wU cf.sc x=u0) (b:bg x=u0):PE X (.Name x pos) (tD Y E (M.eval F (.var i))):=by
 unfold bg at b
 rw [Aa0]at b
 refine PE.imp (zH (by rw [c.N];exact m) (c.gW x u) (by simpa using b.1) (by simpa using b.2)) λU H Q n=> ?_
 obtain⟨G,t,h,s,p⟩:=n
 rw [M.eval]at p
 cases q:M.Gn t i with
 | none=>simp [M.Gj,q]at p;exact p.elim
 | some w=>
  obtain⟨v,e,r⟩:=s.slot i w q
  refine⟨v,e,?_⟩
  cases w with
  | v d=>
   rw [M.Kn q]at p
   exact aw.val p Ext.refl s.heap r trivial
  | own f=>
   rw [M.Kd q]at p
   obtain⟨a,g,o,z,j,y,l⟩:=r
   exact aw.val p Ext.refl s.heap ⟨a,g,o,j,.inl y,l⟩ ⟨i,_,q,rfl,e⟩
  | bor f=>
   rw [M.G8 q]at p
   exact aw.val p Ext.refl s.heap r ⟨i,_,q,rfl,e⟩
def FT (g:Go Y F X E k cf)(i:cH cf.sc c e=u0):PE X e (tD Y E (M.eval F (.con c))):=by
 obtain⟨p,rfl,j,n⟩:=Qd i
 cases q:F.con.lookup c with
 | none=>
  intro f s U H Q I ⟨G,o,h,b,a⟩
  rw [M.eval,q]at a
  exact a.elim
 | some d=>
  obtain⟨u,v,m,rv,rd⟩:=g.con c d q
  refine PE.imp (t8 (g.gl _ j) m rv n) λU H Q l=> ?_
  obtain⟨G,o,h,b,a⟩:=l
  rw [M.eval,q]at a
  exact aw.val a Ext.refl b.heap (rd G H) trivial
def FL :PE X (.Constant (.int i) j pos) (tD Y E (M.eval F (.int i))):=PE.imp Dj λU H Q ⟨G,a,h,s,p⟩=>aw.val p Ext.refl s.heap rfl trivial
def Bn :PE X (.Constant (.bool i) j pos) (tD Y E (M.eval F (.bl i))):=PE.imp Bw λU H Q ⟨G,a,h,s,p⟩=>aw.val p Ext.refl s.heap rfl trivial
def El :PE X (.Constant .none j pos) (tD Y E (M.eval F .aj)):=PE.imp D9 λU H Q ⟨G,a,h,s,p⟩=>aw.val p Ext.refl s.heap rfl trivial
def Hh :PE X (.Constant (.str (aC i)) j pos) (tD Y E (M.eval F (.str i))):=PE.imp nc λU H Q ⟨G,a,h,s,p⟩=>aw.val p Ext.refl s.heap rfl trivial
section
variable {a b c:M.E}{x y z:Expr}{pos:Pos}
def Hm (t:Go Y F X E k cf)(n:mT o=u0) (l:PE X x (tD Y E (M.eval F a))) (i:PE X y (tD Y E (M.eval F b))):PE X (.BinOp x (mI o) y pos) (tD Y E (M.eval F (.bin o a b))):=by
 refine PE.imp (DM (IB (E:=E) o n t.K) l i) λU H Q g=> ?_
 obtain⟨G,J,h,s,p⟩:=g
 refine Wa s.heap Ext.refl s p λj v1 B K D e1 m d q I r=> ?_
 refine Wa s.heap e1 d r λv v2 f e C e2 c w u A z=> ?_
 exact⟨e,f,j,v,w.heap,q.ext c d.heap,u,az.mk z e2 s.heap⟩
def Q7 (z:aA Y G H d v) (f:M.GN d=u0):jM v=true:=by
 cases d with
 | aj=>cases (z);rfl
 | bl _=>cases (z);rfl
 | int _=>cases (z);rfl
 | str _=>cases (z);rfl
 | _=>exact absurd (f) Ab2
theorem jU : ∀ {ds}{vs},aa Y G H ds vs->ds.all M.GN=u0->vs.all jM=u0
 | [],_,rfl,_=>rfl
 | d::ds,_,⟨v,r,rfl,a,b⟩,f=>by
  rw [Ah5,Aa0]at f ⊢
  exact⟨Q7 a f.1,jU b f.2⟩
def DI (z:aA Y G H d v) (y:aA Y G H e u) (f:M.GN d=u0) (c:M.GN e=u0):gr v u=M.cu d e:=by
 cases d with
 | aj=>
  cases (z)
  cases e with
  | aj=>cases (y);rfl
  | bl _=>cases (y);rfl
  | int _=>cases (y);rfl
  | str _=>cases (y);rfl
  | _=>exact absurd (c) Ab2
 | bl a=>
  cases (z)
  cases e with
  | aj=>cases (y);rfl
  | bl _=>cases (y);rfl
  | int j=>cases (y);show(_==j)=(a.toNat==j);rw [mS]
  | str _=>cases (y);rfl
  | _=>exact absurd (c) Ab2
 | int i=>
  cases (z)
  cases e with
  | aj=>cases (y);rfl
  | bl b=>cases (y);show(i==(if b then(1:Int)else 0))=(i== b.toNat);rw [mS]
  | int _=>cases (y);rfl
  | str _=>cases (y);rfl
  | _=>exact absurd (c) Ab2
 | str i=>
  cases (z)
  cases e with
  | aj=>cases (y);rfl
  | bl _=>cases (y);rfl
  | int _=>cases (y);rfl
  | str j=>cases (y);exact vF i j
  | _=>exact absurd (c) Ab2
 | _=>exact absurd (f) Ab2
theorem vM (z:aA Y G H d v) (a:M.GN d=u0): ∀ {ds}{vs},aa Y G H ds vs->ds.all M.GN=u0->l0 v vs=M.inD d ds
 | [],_,rfl,_=>rfl
 | e::ds,_,⟨u,r,rfl,c,g⟩,f=>by
  rw [Ah5,Aa0]at f
  have b:=vM z a g f.2
  unfold l0 M.inD at b ⊢
  rw [Af2,Af2,b,DI c z f.1 a]
def ah.lg (z:ah Y G H w v) (e:w.d=k0 d) (f:M.GN d=u0):aA Y G H d v:=by
 cases w with
 | v b=>cases e;exact z
 | own a=>cases e;exact absurd (f) Ab2
 | bor a=>cases e
theorem pH (a: ∀c y,RV hp c y->ee y=M.cu c d): ∀ {ys}{i},cb hp ys i->i.any ee=M.inD d ys
 | [],_,rfl=>rfl
 | c::ys,_,⟨u,r,rfl,e,f⟩=>by
  have b:=pH a f
  unfold M.inD at b ⊢
  rw [Af2,Af2,b,a c u e]
def tQ (e:a0 k X.A)(r:M.GF ys<140) (p:RV s.heap d v) (o:cb s.heap ys its): ∃i:Value->Bool,(∀ c y,RV s.heap c y->i y=M.cu c d)/\ ∀y,y∈its.toArray->SeqAt.EqAt X.A.in1 s y v (i y):=by
 have f: ∃i:Value->Bool,∀c y,RV s.heap c y->i y=M.cu c d:=⟨λy=> @y9 (∃ a,RV s.heap a y/\M.cu a d=u0) (Al9 _),λc y z=>by
  cases q:M.cu c d with
  | true=>exact @decide_eq_true _ (Al9 _) ⟨c,z,q⟩
  | false=>exact @decide_eq_false _ (Al9 _) λ⟨d,m,h⟩=>by rw [RV.inj m z,q]at h;cases h⟩
 obtain⟨i,g⟩:=f
 refine⟨i,g,λy l=> ?_⟩
 obtain⟨j,n⟩:=List.getElem?_of_mem (List.mem_toArray.mp l)
 obtain⟨a,b,rd⟩:=o.get n
 rw [g a y rd]
 exact(oI 140 a _ X.A.in1 y v (by have:=zG b;lia) (by have:=e.un;lia) rd p).eq
def IT (l:X.K=Y.K)(g:a0 k X.A) (neg:Bool){x y:V}(I:Inv X pins U H s) (B:RelV x v) (t:RelV y u){b:Bool}(o:ag Y G h H)
 (A:ah Y G H w1 x) (D:ah Y G H w2 y) (e:M.Kw w1 w2 h=k0 b) (q:Q (.bl (if neg then !b else b)) H):wpAny (model X.prog X.w) X.A (compareOp (if neg then .NotIn else .In) v u) (EP X pins U Q) X.xe s:=by
 unfold M.Kw at e
 split at e
 ·rename_i z e2
  split at e
  ·rename_i c
   cases e
   have i:=by simpa using c
   have C:=A.rv I l o B i.1.1
   have r:=D.rv I l o t (by simp_all)
   rw [e2]at r
   obtain⟨a,d,rfl,p,n⟩:=r
   obtain⟨f,w,j⟩:=tQ g i.2 C n
   have m:d.toArray.any f=M.inD (w1.dd h) z:=by rw [List.any_toArray];exact pH w n
   cases neg with
   | true=>exact SeqAt.notIn_listAt f p j ⟨.bl _,H,I,rfl,by rw [m];exact q⟩
   | false=>exact SeqAt.in_listAt f p j ⟨.bl _,H,I,rfl,by rw [m];exact q⟩
  ·cases e
 ·cases e
def uq (m:X.K=Y.K)(p:a0 k X.A) (neg:Bool){x y:V}(I:Inv X pins U H s) (g:RelV x v) (f:RelV y u){b:Bool}(A:ag Y G h H)
 (n:ah Y G H w1 x) (o:ah Y G H w2 y) (e:M.Kh w1 w2 h=k0 b) (q:Q (.bl (if neg then !b else b)) H):wpAny (model X.prog X.w) X.A (compareOp (if neg then .NotIn else .In) v u) (EP X pins U Q) X.xe s:=by
 unfold M.Kh at e
 split at e
 ·rename_i i j e1 e2
  split at e
  ·rename_i c
   cases e
   cases n.str e1
   cases o.str e2
   have w:(!(Builtin.Str.occurrences (aC j) (aC [c]) 0 (aC j).length 1).isEmpty)=j.contains c:=by
    have:=PySem.StrLaws.found_one (aC j) c
    refine this.trans ?_
    rw [An1,decide_eq_true_eq,List.contains_iff_mem]
    simp [aC]
   cases neg with
   | true=>exact j4 pins s U H _ _ v u Q I g f ⟨_,_,rfl,rfl,by rw [w];exact q⟩
   | false=>exact Lh pins s U H _ _ v u Q I g f ⟨_,_,rfl,rfl,by rw [w];exact q⟩
  ·cases e
 ·split at e
  ·rename_i d B e1 e2
   split at e
   ·rename_i c
    rw [Aa0]at c
    cases e
    have z:=n.lg e1 c.1
    obtain⟨a,t,rfl,r,l⟩:=o.seq A e2
    rw [← vM z c.1 l c.2]at q
    cases neg with
    | true=>exact JY pins s U H _ _ v u Q I g f ⟨a,t,rfl,m▸mx r,Q7 z c.1,jU l c.2,q⟩
    | false=>exact KL pins s U H _ _ v u Q I g f ⟨a,t,rfl,m▸mx r,Q7 z c.1,jU l c.2,q⟩
   ·exact IT m p neg I g f A n o e q
  ·cases e
def Cd:bH X (compareOp .GtE) (λx y H Q=> ∃i j,x= .str i/\y= .str j/\Q (.bl (!y9 (i.cps.toList<j.cps.toList))) H):=by
 intro a s U H x y v u Q I d b ⟨i,j,ex,c,q⟩
 subst ex c
 obtain⟨t,rfl⟩:=d
 obtain⟨e,rfl⟩:=b
 exact PySem.P.ge_str (XH I q rfl)
def qN (r:Go Y F X E k cf) (o) (C:WL o=u0):bH X (compareOp (fe o)) (iQ Y o):=by
 have g: ∀ {o},(∀ a d h b,M.Gr o a d h=k0 b->(∃ i j,M.W.int? a=k0 i/\M.W.int? d=k0 j/\M.Ky o i j=k0 b)\/(∃ i j,M.W.bG a=k0 i/\M.W.bG d=k0 j/\M.KA o i j=k0 b))->bH X (compareOp (fe o)) (iQ Y o):=by
  intro o A f s U H x y v u Q I m l ⟨G,h,a,d,b,w,n,p,e,q⟩
  obtain⟨i,j,e1,e2,z⟩ | ⟨i,j,e1,e2,z⟩:=A a d h b e
  ·cases n.int e1
   cases p.int e2
   exact Fz z I m l q
  ·cases n.str e1
   cases p.str e2
   cases o with
   | lt=>
    cases z
    refine HE f s U H _ _ v u Q I m l ⟨_,_,rfl,rfl,?_⟩
    have:y9 ((aC i).cps.toList<(aC j).cps.toList)=y9 (i<j):=decide_eq_decide.mpr (by simp [aC])
    exact q
   | ge=>
    cases z
    have:y9 ((aC i).cps.toList<(aC j).cps.toList)=y9 (i<j):=decide_eq_decide.mpr (by simp [aC])
    exact Cd f s U H _ _ v u Q I m l ⟨_,_,rfl,rfl,q⟩
   | _=>cases z
 have mk: ∀ {o}{a d}{h:M.AH}{b},(match M.W.int? a,M.W.int? d with
  | some i,k0 j=>M.Ky o i j
  | _,_=>match M.W.bG a,M.W.bG d with
   | some s,k0 t=>M.KA o s t
   | _,_=>y0)=k0 b->(∃ i j,M.W.int? a=k0 i/\M.W.int? d=k0 j/\M.Ky o i j=k0 b)\/(∃ i j,M.W.bG a=k0 i/\M.W.bG d=k0 j/\M.KA o i j=k0 b):=by
  intro o a d h b e
  split at e
  ·rename_i i j e1 e2;exact .inl ⟨i,j,e1,e2,e⟩
  ·split at e
   ·rename_i i j e1 e2;exact .inr ⟨i,j,e1,e2,e⟩
   ·cases e
 cases o with
 | eq=>exact BF r.K r.room
 | ne=>exact Lf r.K r.room
 | lt=>exact g λa d h b e=>mk (h:=h) e
 | le=>exact g λa d h b e=>mk (h:=h) e
 | gt=>exact g λa d h b e=>mk (h:=h) e
 | ge=>exact g λa d h b e=>mk (h:=h) e
 | mem=>
  intro f s U H x y v u Q I m l ⟨G,h,a,d,b,w,n,p,e,q⟩
  exact uq r.K r.room k9 I m l w n p e q
 | eS=>
  intro f s U H x y v u Q I m l ⟨G,h,a,d,b,w,n,p,e,q⟩
  have e:(M.Kh a d h).map (!·)=k0 b:=e
  cases e2:M.Kh a d h with
  | none=>rw [e2]at e;cases e
  | some c=>
   rw [e2]at e
   cases e
   exact uq r.K r.room u0 I m l w n p e2 q
 | cN=>
  intro f s U H x y v u Q I m l ⟨G,h,a,d,b,w,n,p,e,q⟩
  have e:M.Km a d=k0 b:=e
  unfold M.Km at e
  split at e
  ·cases e
   cases n
   cases p
   cases m
   obtain⟨t,rfl⟩:=l
   exact wpAny_is_plain rfl (XH I q rfl)
  ·cases e
   cases n
   cases p
   obtain⟨t,rfl⟩:=m
   obtain⟨B,rfl⟩:=l
   exact PyProof.Rows.is_bool (XH I q rfl)
  ·cases e
 | fQ=>
  intro f s U H x y v u Q I m l ⟨G,h,a,d,b,w,n,p,e,q⟩
  have e:(M.Km a d).map (!·)=k0 b:=e
  unfold M.Km at e
  split at e
  ·cases e
   cases n
   cases p
   cases m
   obtain⟨t,rfl⟩:=l
   exact wpAny_isNot_plain rfl (XH I q rfl)
  ·cases e
   cases n
   cases p
   obtain⟨t,rfl⟩:=m
   obtain⟨B,rfl⟩:=l
   exact PyProof.Rows.isnot_bool (XH I q rfl)
  ·cases e
def Jr (h:Wg e=u0):behindInMarks o e=false:=by
 cases e<;>first | rfl | (simp [Wg]at h)
def rH (D:Go Y F X E k cf)(s:ao Y G τ h U H)
 (p:aw Y E G H ((M.eval F a τ h).bind λx h=>(M.eval F b τ h).bind λy h=>(M.R.of h (M.Gr o x y h)).bind λc h=> .ok c h) λc _ _ H'=>R (.bl c) H'):
 ly (iQ Y o) (tD Y E (M.eval F a)) (tD Y E (M.eval F b)) U H R:=by
 refine Wa s.heap Ext.refl s p λm v1 w C A e1 n f q B r=> ?_
 refine Wa s.heap e1 f r λu v2 l j z e2 d g t v e=> ?_
 obtain⟨c,i,e⟩:=e.of
 exact⟨j,l,m,u,c,g.heap,q.ext d f.heap,t,i,e.at e2 g.heap⟩
def aw.map {c b:Type}{G:Gh}{H:Hp}{r:M.R c}{f:c->b}{P:b->M.AH->Gh->Hp->Prop}(p:aw Y E G H (r.bind λa h=> .ok (f a) h) P):aw Y E G H r λa h G' H'=>P (f a) h G' H':=by
 cases r with
 | ok a h=>exact p
 | fail=>exact p
def qh (r:M.R α) (f) (g:β->M.AH->M.R γ):(r.bind f).bind g=r.bind λa h=>(f a h).bind g:=by cases r<;>rfl
def KH (j:Go Y F X E k cf){o:M.Cp}(t:WL o=u0) (l:Wg y=u0) (r:PE X x (tD Y E (M.eval F a))) (n:PE X y (tD Y E (M.eval F b))):PE X (.Compare x [fe o] [y] pos) (tD Y E (M.eval F (.cmp o a b))):=by
 refine PE.imp (sx (qN j o t) r n (Jr l)) λU H Q m=> ?_
 obtain⟨G,d,h,s,p⟩:=m
 rw [M.eval]at p
 refine rH j s ?_
 have z:aw Y E G H (((M.eval F a d h).bind λx h=>(M.eval F b d h).bind λy h=>(M.R.of h (M.Gr o x y h)).bind λc h=> .ok c h).bind λc h=> .ok (M.W.v (.bl c)) h) λw _ i f=> ∀v,ah Y i f w v->aI d U H w v->Q v f:=by
  simpa only [qh,M.R.ae]using p
 have g:=z.map
 cases q:(M.eval F a d h).bind λx h=>(M.eval F b d h).bind λy h=>(M.R.of h (M.Gr o x y h)).bind λc h=> .ok c h with
 | ok c A=>rw [q]at g;exact λi f e u=>g i f e u (.bl c) rfl trivial
 | fail=>rw [q]at g;exact g
def Df (i:Go Y F X E k cf){o:M.Cp}(r:WL o=u0) (l:Wg y=u0) (n:PE X x (tD Y E (M.eval F a))) (t:PE X y (tD Y E (M.eval F b))):PT X (.Compare x [fe o] [y] pos) (cV Y E (M.Gm F (.cmp o a b))):=by
 refine PT.imp (uJ (qN i o r) n t (Jr l)) λU H Q m=> ?_
 obtain⟨G,d,h,s,p⟩:=m
 unfold M.Gm at p
 rw [M.eval]at p
 refine rH i s ?_
 have f:aw Y E G H ((M.eval F a d h).bind λx h=>(M.eval F b d h).bind λy h=>(M.R.of h (M.Gr o x y h)).bind λc h=> .ok c h) λb _ _ g=>Q b g:=by
  simpa only [qh,M.R.ae,M.GS,M.R.ak]using p
 cases q:(M.eval F a d h).bind λx h=>(M.eval F b d h).bind λy h=>(M.R.of h (M.Gr o x y h)).bind λc h=> .ok c h with
 | ok c v=>rw [q]at f;exact λj g e u=>⟨c,rfl,f j g e u⟩
 | fail=>rw [q]at f;exact f
end
end
section
variable {Y:Ge}{F:M.Fx}{X:Cx}{E:XK}{k:Nat}{cf:Cf}{a b c:M.E}{x y z:Expr}{pos:Pos}
def XF (r:M.R α):(r.bind λw h=> .ok w h)=r:=by cases r<;>rfl
def Dp (r:Go Y F X E k cf) (l:PE X x (tD Y E (M.eval F a))) (e: ∀i,isTrue x X.env i=(do let v ←i;standAt x.pos;holding [v] (truthy v))):PT X x (cV Y E (M.Gm F a)):=by
 refine PT.imp (DF l e) λU H Q f=> ?_
 obtain⟨G,w,h,s,p⟩:=f
 refine Wa s.heap Ext.refl s p λj v1 d o g e1 m c n u b=> ?_
 cases q:M.G6 d j with
 | none=>rw [q]at b;exact b.elim
 | some t=>
  rw [q]at b
  exact⟨t,lR r.K c.heap n q,b o g e1 c.heap⟩
def DN (i:PE X x ta):PE X (.UnaryOp .Not x pos) (λU H Q=>ta U H λv H1=> ∃t,ia X.K v H1 t/\Q (.bl (!t)) H1):=by
 intro a s U H Q I h
 refine UnaryOp_ (aO (i a s U H _ I h) ?_)
 rintro v g ⟨x,H1,f,j,t,l,k⟩
 exact not_of (aO (l6 a g U H1 x v (λc d=>Q (.bl (!c)) d) f j ⟨t,l,k⟩) λc m ⟨e,b,q⟩=>⟨.bl (!c),e,b,rfl,q⟩)
def Fj (i:Go Y F X E k cf) (e:PE X x (tD Y E (M.eval F a))):PE X (.UnaryOp .Not x pos) (tD Y E (M.eval F (.not a))):=by
 refine PE.imp (DN e) λU H Q d=> ?_
 obtain⟨G,o,h,s,p⟩:=d
 refine Wa s.heap Ext.refl s p λm v1 j r l e1 f c g n b=> ?_
 obtain⟨t,q,b⟩:=b.of
 exact⟨t,lR i.K c.heap g q,aw.val b e1 c.heap rfl trivial⟩
def yt (e:PT X x (cV Y E (M.Gm F a))):PT X (.UnaryOp .Not x pos) (cV Y E (M.Gm F (.not a))):=by
 refine PT.imp (D6 e) λU H Q g=> ?_
 obtain⟨G,c,h,s,p⟩:=g
 unfold M.Gm at p
 rw [M.eval]at p
 have f:aw Y E G H ((M.Gm F a c h).bind λt h=> .ok (!t) h) λb _ _ d=>Q b d:=by
  unfold M.Gm
  simpa only [qh,M.R.ae,M.GS,M.R.ak]using p
 exact⟨G,c,h,s,f.map⟩
def K0 {jn:List Expr}(l:PE X x ta) (k:PE X (.BoolOp .And (y::jn) pos) tb):PE X (.BoolOp .And (x::y::jn) pos) (λU H Q=>ta U H λv H1=> ∃t,ia X.K v H1 t/\if t=u0 then tb U H1 Q else Q v H1):=by
 intro a s U H Q I h
 refine BoolOp_and (aO (l a s U H _ I h) ?_)
 rintro v j ⟨x,H1,g,f,t,n,m⟩
 refine aO (l6 a j U H1 x v (λc d=>if c=u0 then tb U d Q else Q x d) g f ⟨t,n,m⟩) λc o i=> ?_
 obtain⟨e,b,q⟩:=i
 cases c with
 | true=>exact k a o U e Q b q
 | false=>exact⟨x,e,b,f,q⟩
def K3 {jn:List Expr}(l:PE X x ta) (k:PE X (.BoolOp .Or (y::jn) pos) tb):PE X (.BoolOp .Or (x::y::jn) pos) (λU H Q=>ta U H λv H1=> ∃t,ia X.K v H1 t/\if t=u0 then Q v H1 else tb U H1 Q):=by
 intro a s U H Q I h
 refine BoolOp_or (aO (l a s U H _ I h) ?_)
 rintro v j ⟨x,H1,g,f,t,n,m⟩
 refine aO (l6 a j U H1 x v (λc d=>if c=u0 then Q x d else tb U d Q) g f ⟨t,n,m⟩) λc o i=> ?_
 obtain⟨e,b,q⟩:=i
 cases c with
 | false=>exact k a o U e Q b q
 | true=>exact⟨x,e,b,f,q⟩
def vm (o:Go Y F X E k cf){jn:List Expr}(l:PE X x (tD Y E (M.eval F a))) (j:PE X (.BoolOp .And (y::jn) pos) (tD Y E (M.eval F b))):PE X (.BoolOp .And (x::y::jn) pos) (tD Y E (M.eval F (.and a b))):=by
 refine PE.imp (K0 l j) λU H Q g=> ?_
 obtain⟨G,I,h,s,p⟩:=g
 refine Wa s.heap Ext.refl s p λD v1 w J C e1 m d e n c=> ?_
 obtain⟨t,q,c⟩:=c.of
 refine⟨t,lR o.K d.heap e q,?_⟩
 cases t with
 | true=>
  exact Wa s.heap e1 d (by rw [XF];exact c) λK v2 B A z e2 i u r f v=>aw.val v e2 u.heap r (f.back e1 s.heap)
 | false=>
  exact aw.val c e1 d.heap e n
def rQ (o:Go Y F X E k cf){jn:List Expr}(l:PE X x (tD Y E (M.eval F a))) (j:PE X (.BoolOp .Or (y::jn) pos) (tD Y E (M.eval F b))):PE X (.BoolOp .Or (x::y::jn) pos) (tD Y E (M.eval F (.or a b))):=by
 refine PE.imp (K3 l j) λU H Q g=> ?_
 obtain⟨G,I,h,s,p⟩:=g
 refine Wa s.heap Ext.refl s p λD v1 w J C e1 m d e n c=> ?_
 obtain⟨t,q,c⟩:=c.of
 refine⟨t,lR o.K d.heap e q,?_⟩
 cases t with
 | false=>
  exact Wa s.heap e1 d (by rw [XF];exact c) λK v2 B A z e2 i u r f v=>aw.val v e2 u.heap r (f.back e1 s.heap)
 | true=>
  exact aw.val c e1 d.heap e n
def IG :M.Gm F (.and a b) τ h=(M.Gm F a τ h).bind λt h=>match t with
 | true=>M.Gm F b τ h
 | false=> .ok k9 h:=by
 unfold M.Gm
 rw [M.eval]
 simp only [qh]
 congr 1
 funext w h1
 cases q:M.G6 h1 w with
 | none=>rfl
 | some t=>
  cases t with
  | true=>rfl
  | false=>simp [q]
def HC :M.Gm F (.or a b) τ h=(M.Gm F a τ h).bind λt h=>match t with
 | true=> .ok u0 h
 | false=>M.Gm F b τ h:=by
 unfold M.Gm
 rw [M.eval]
 simp only [qh]
 congr 1
 funext w h1
 cases q:M.G6 h1 w with
 | none=>rfl
 | some t=>
  cases t with
  | false=>rfl
  | true=>simp [q]
def pA {jn:List Expr}(o:PT X x (cV Y E (M.Gm F a))) (n:PW X (.BoolOp .And (y::jn) pos) (cV Y E (M.Gm F b))):PW X (.BoolOp .And (x::y::jn) pos) (cV Y E (M.Gm F (.and a b))):=by
 intro i c g U H Q I ⟨G,B,h,s,p⟩
 refine CB o n i c g U H Q I ?_
 rw [IG]at p
 refine xT s.heap Ext.refl s p λt z r m e1 q d e=> ?_
 cases t with
 | true=>
  exact xT s.heap e1 d (f:=λw h=> .ok w h) (by rw [XF];exact e) λC A k j e2 l u v=>v k j e2 u.heap
 | false=>
  exact e r m e1 d.heap
def uz {jn:List Expr}(o:PT X x (cV Y E (M.Gm F a))) (n:PW X (.BoolOp .Or (y::jn) pos) (cV Y E (M.Gm F b))):PW X (.BoolOp .Or (x::y::jn) pos) (cV Y E (M.Gm F (.or a b))):=by
 intro i c g U H Q I ⟨G,B,h,s,p⟩
 refine La o n i c g U H Q I ?_
 rw [HC]at p
 refine xT s.heap Ext.refl s p λt z r m e1 q d e=> ?_
 cases t with
 | false=>
  exact xT s.heap e1 d (f:=λw h=> .ok w h) (by rw [XF];exact e) λC A k j e2 l u v=>v k j e2 u.heap
 | true=>
  exact e r m e1 d.heap
def Hc (e:PE X x (tD Y E (M.eval F a))):PE X (.UnaryOp .USub x pos) (tD Y E (M.eval F (.neg a))):=by
 refine PE.imp (rY FE e) λU H Q c=> ?_
 obtain⟨G,m,h,s,p⟩:=c
 refine Wa s.heap Ext.refl s p λk v1 i n j e1 f d g l b=> ?_
 obtain⟨t,q,b⟩:=b.of
 exact⟨t,g.int q,aw.val b e1 d.heap rfl trivial⟩
def E7 (f:PE X x (tD Y E (M.eval F a))):PE X (.UnaryOp .Invert x pos) (tD Y E (M.eval F (.inv a))):=by
 refine PE.imp (rY Bj f) λU H Q c=> ?_
 obtain⟨G,n,h,s,p⟩:=c
 refine Wa s.heap Ext.refl s p λl v1 j o k e1 g d i m b=> ?_
 obtain⟨t,q,b⟩:=b.of
 refine⟨t,i.int q,?_⟩
 have e:Builtin.bitNot t= -t-1:=by unfold Builtin.bitNot;lia
 exact aw.val b e1 d.heap rfl trivial
def tM {G:Gh}{H:Hp}{w:M.W}{v:V}(r:ah Y G H w v):(v= .aj)↔w= .v .aj:=by
 constructor
 ·intro e
  subst e
  cases w with
  | v d=>
   cases d with
   | aj=>rfl
   | bl _=>cases (show V.aj= .bl _ from r)
   | int _=>cases (show V.aj= .int _ from r)
   | str _=>cases (show V.aj= .str _ from r)
   | tup _=>obtain⟨_,_,e,_⟩:=r;cases e
   | lst _=>obtain⟨_,_,e,_⟩:=r;cases e
   | ref _=>obtain⟨_,e⟩:=r;cases e
  | own _=>obtain⟨_,_,e,_⟩:=r;cases e
  | bor _=>obtain⟨_,_,e,_⟩:=r;cases e
 ·intro e
  subst e
  exact r
def n5 (neg:Bool):M.W->Bool
 | .v .aj=> !neg
 | _=>neg
def ub :M.eval F (.eU neg a) τ h=(M.eval F a τ h).bind λw h=>M.aq (.bl (n5 neg w)) h:=by
 rw [M.eval]
 congr 1
 funext w h1
 cases w with
 | v d=>cases d<;>rfl
 | own _=>rfl
 | bor _=>rfl
def uY (r:ah Y G H w v) (neg:Bool):(if neg then !y9 (v= .aj)else y9 (v= .aj))=n5 neg w:=by
 by_cases a:v= .aj
 ·have b:=(tM r).mp a
  subst b a
  cases neg<;>rfl
 ·have b:=λe=>a ((tM r).mpr e)
  have e1:=decide_eq_false a
  rw [e1]
  have e2:n5 neg w=neg:=by
   cases w with
   | v d=>cases d<;>first | rfl | exact absurd rfl b
   | own _=>rfl
   | bor _=>rfl
  rw [e2]
  cases neg<;>rfl
def Ho (d:PE X x (tD Y E (M.eval F a))):PE X (.Compare x [if neg then .IsNot else .Is] [.Constant .none j pos'] pos) (tD Y E (M.eval F (.eU neg a))):=by
 have b: ∀U H Q,tD Y E (M.eval F (.eU neg a)) U H Q->tD Y E _ U H λv c=>Q (.bl (if neg then !y9 (v= .aj)else decide _)) c:=λU H Q e=>by
  obtain⟨G,o,h,s,p⟩:=e
  rw [ub]at p
  refine Wa s.heap Ext.refl s p λm v1 l q c e1 g f i n k=> ?_
  rw [uY i neg]
  exact aw.val k e1 f.heap rfl trivial
 cases neg with
 | true=>exact PE.imp (sV (vt d)) b
 | false=>exact PE.imp (sV (uA d)) b
def A4 {neg:Bool}{j:Nat}{d:Pos}(k:PE X x (tD Y E (M.eval F a))):PT X (.Compare x [if neg then .IsNot else .Is] [.Constant .none j d] pos) (cV Y E (M.Gm F (.eU neg a))):=by
 have i: ∀U H Q,cV Y E (M.Gm F (.eU neg a)) U H Q->tD Y E (M.eval F a) U H λv b=>Q (if neg then !y9 (v= .aj)else y9 (v= .aj)) b:=λU H Q n=>by
  obtain⟨G,g,h,s,p⟩:=n
  unfold M.Gm at p
  rw [ub,qh]at p
  refine Wa s.heap Ext.refl s p λD v1 C z b e1 u o y I B=> ?_
  rw [uY y neg]
  exact B z b e1 o.heap
 have fin: ∀U H (Q:Bool->Hp->Prop),cV Y E (M.Gm F (.eU neg a)) U H Q->tD Y E (M.eval F a) U H λv b=> ∃c,V.bl (if neg then !y9 (v= .aj)else y9 (v= .aj))= .bl c/\Q c b:=λU H Q t=>by
  obtain⟨G,g,h,s,p⟩:=i U H Q t
  refine⟨G,g,h,s,?_⟩
  cases q:M.eval F a g h with
  | ok w J=>rw [q]at p;exact λm l e A v r f=>⟨_,rfl,p m l e A v r f⟩
  | fail=>rw [q]at p;exact p
 cases neg with
 | true=>exact PT.imp (vc (vt k)) fin
 | false=>exact PT.imp (vc (uA k)) fin
def vo (h:Wg e'=u0):lastMarks [o,o'] [e,e']=false:=Jr h
def u3 (V:Go Y F X E k cf)(s:ao Y G τ h U H)
 (m: ∀b h' G' H',P (.v (.bl b)) h' G' H'->R (.bl b) H') (p:aw Y E G H (M.eval F (.chain o o' a b c) τ h) P):
 ng (iQ Y o) (iQ Y o') (tD Y E (M.eval F a)) (tD Y E (M.eval F b)) (tD Y E (M.eval F c)) U H R:=by
 refine Wa s.heap Ext.refl s p λA v1 K T N e1 B l C Q I=> ?_
 refine Wa s.heap e1 l I λq v2 x w L e2 i d n J e=> ?_
 obtain⟨t,f,e⟩:=e.of
 refine⟨w,x,A,q,t,d.heap,C.ext i l.heap,n,f,t,rfl,?_⟩
 cases t with
 | true=>
  refine Wa s.heap e2 d e λu v3 z y O D j r v S g=> ?_
  obtain⟨t,f,g⟩:=g.of
  exact⟨y,z,q,u,t,r.heap,n.ext j d.heap,v,f,m _ _ _ _ (g.at D r.heap)⟩
 | false=>
  exact m _ _ _ _ (e.at e2 d.heap)
def Cc (e:Go Y F X E k cf)(j:WL o=u0) (d:WL o'=u0) (g:Wg z=u0) (i:PE X x (tD Y E (M.eval F a))) (l:PE X y (tD Y E (M.eval F b))) (f:PE X z (tD Y E (M.eval F c))):
 PE X (.Compare x [fe o,fe o'] [y,z] pos) (tD Y E (M.eval F (.chain o o' a b c))):=
 PE.imp (Fw (qN e o j) (qN e o' d) i l f (vo g)) λU H Q ⟨G,r,h,s,p⟩=>u3 e s (λb t n m q=>q _ rfl trivial) p
def LV (i:Go Y F X E k cf){o d:M.Cp}(u:WL o=u0) (g:WL d=u0) (m:Wg z=u0) (r:PE X x (tD Y E (M.eval F a))) (t:PE X y (tD Y E (M.eval F b))) (l:PE X z (tD Y E (M.eval F c))):
 PT X (.Compare x [fe o,fe d] [y,z] pos) (cV Y E (M.Gm F (.chain o d a b c))):=by
 refine PT.imp (HD (qN i o u) (qN i d g) r t l (vo m)) λU H Q n=> ?_
 obtain⟨G,v,h,s,p⟩:=n
 refine u3 i s (P:=λw _ _ f=> ∀b,w= .v (.bl b)->Q b f) (λb C j f q=>⟨b,rfl,q b rfl⟩) ?_
 unfold M.Gm at p
 cases q:M.eval F (.chain o d a b c) v h with
 | ok w C=>rw [q]at p;exact λj f e B b A=>by subst A;exact p j f e B
 | fail=>rw [q]at p;exact p
end
def Qb (h:Xb e=u0):starEach (e::es) env=(k9,eval e env)::starEach es env:=by
 cases e<;>first | rfl | (simp [Xb]at h)
def Jq (h: ∀e∈es,Xb e=u0):(backTo pos (starEach es env)).any (·.1)=false:=by
 induction es with
 | nil=>rfl
 | cons e r c=>
  rw [Qb (h e Aa4)]
  show(k9||(backTo pos _).any _)=k9
  rw [c λb a=>h b (Aa2 _ a)]
  rfl
section
variable {Y:Ge}{F:M.Fx}{X:Cx}{E:XK}{k:Nat}{cf:Cf}{a b c:M.E}{x y z:Expr}{pos:Pos}{es:M.Es}{xs:List Expr}
def Bb:PA X [] (iN Y E (M.Gw F .nil)):=PA.imp Qr λU H Q ⟨G,a,h,s,p⟩=>p G H Ext.refl s.heap [] rfl
def Iw (g:Xb x=u0) (o:PE X x (tD Y E (M.eval F a))) (v:PA X xs (iN Y E (M.Gw F es))):PA X (x::xs) (iN Y E (M.Gw F (.cons a es))):=by
 refine PA.imp (Wi o v (Qb g)) λU H Q l=> ?_
 obtain⟨G,I,h,s,p⟩:=l
 refine Wa s.heap Ext.refl s p λD v1 z J C e1 r m u t b=> ?_
 obtain⟨d,q,b⟩:=b.of
 obtain⟨A,e2,f,rd,_⟩:=o5 e1 m s u t q
 refine oO s.heap e2 f b λK e B k n w c y i j=> ?_
 exact j k n w y.heap (v1::e) ⟨v1,e,rfl,rd.ext c f.heap,i⟩
def IU:PA X [] (fi Y E (M.Gd F .nil)):=PA.imp Qr λU H Q ⟨G,a,h,s,p⟩=>p G H Ext.refl s.heap [] rfl
def Fm (e:Xb x=u0) (l:PE X x (tD Y E (M.eval F a))) (o:PA X xs (fi Y E (M.Gd F es))):PA X (x::xs) (fi Y E (M.Gd F (.cons a es))):=by
 refine PA.imp (Wi l o (Qb e)) λU H Q j=> ?_
 obtain⟨G,A,h,s,p⟩:=j
 refine Wa s.heap Ext.refl s p λy v1 u B w e1 m d n z r=> ?_
 refine Jp s.heap e1 d r λC c v i k q b t f g=> ?_
 exact g i k q t.heap (v1::c) ⟨v1,c,rfl,n.ext b d.heap,f⟩
def Cz {n:Nat}(C:xs.length<=1000) (a: ∀τ h ds h',M.Gw F es τ h= .ok ds h'->ds.length=xs.length) (t:PA X xs (iN Y E (M.Gw F es))):PE X (.Tuple xs n pos) (tD Y E (M.eval F (.tup es))):=by
 refine PE.imp (BU t) λU H Q m=> ?_
 obtain⟨G,τ,h,s,p⟩:=m
 rw [M.eval]at p
 cases q:M.Gw F es τ h with
 | ok b o=>
  have l:=a _ _ _ _ q
  refine oO s.heap Ext.refl s (f:=λds h=>if ds.length=xs.length then M.aq (.tup ds) h else .fail) (P:=λw h' j e=> ∀v,ah Y j e w v->aI τ U H w v->Q v e) ?_ λds z y B A e1 u r i c=> ?_
  ·rw [q]at p ⊢
   show aw Y E G H (if b.length=xs.length then M.aq (.tup b) o else .fail) _
   rw [if_pos l]
   exact p
  ·by_cases g:ds.length=xs.length
   ·rw [if_pos g]at c
    have x:=i.length
    exact⟨Ag3 (qr (by omega)),λk d=>az.tup (az.mk c e1 s.heap) r.heap i k d⟩
   ·rw [if_neg g]at c;exact c.elim
 | fail=>rw [q]at p;exact p.elim
def Eg (B:xs.length<=1000) (a: ∀τ h ds h',M.Gw F es τ h= .ok ds h'->ds.length=xs.length) (r:PA X xs (iN Y E (M.Gw F es))):PE X (.List xs pos) (tD Y E (M.eval F (.lst es))):=by
 refine PE.imp (CI r) λU H Q m=> ?_
 obtain⟨G,τ,h,s,p⟩:=m
 rw [M.eval]at p
 cases q:M.Gw F es τ h with
 | ok b n=>
  have l:=a _ _ _ _ q
  refine oO s.heap Ext.refl s (f:=λds h=>if ds.length=xs.length then .ok (.own ds) h else .fail) (P:=λw h' j e=> ∀v,ah Y j e w v->aI τ U H w v->Q v e) ?_ λds y x A z e1 t o i c=> ?_
  ·rw [q]at p ⊢
   show aw Y E G H (if b.length=xs.length then .ok (M.W.own b) n else .fail) _
   rw [if_pos l]
   exact p
  ·by_cases g:ds.length=xs.length
   ·rw [if_pos g]at c
    have u:=i.length
    exact⟨Ag3 (qr (by omega)),λk d=>az.own (az.mk c e1 s.heap) o.heap i k d⟩
   ·rw [if_neg g]at c;exact c.elim
 | fail=>rw [q]at p;exact p.elim
def Dm (r:ah Y G H w v):ah Y G H w.arg v:=by
 cases w with
 | v d=>exact r
 | own g=>obtain⟨a,b,e,_,c,h,f⟩:=r;exact⟨a,b,e,c,.inl h,f⟩
 | bor g=>exact r
theorem zx : ∀ {ws}{vs},bj Y G H ws vs->bj Y G H (ws.map M.W.arg) vs
 | [],_,z=>z
 | _::_,_,⟨v,r,b,c,a⟩=>⟨v,r,b,Dm c,zx a⟩
def Wz (ws:List M.W): ∀w∈ws.map M.W.arg,mR w=true:=λw a=>by
 obtain⟨u,_,rfl⟩:=Ab6.mp a
 cases u<;>rfl
def KO (a:Go Y F X E k cf)(m:cH cf.sc f g=u0) (d:cf.fns.contains f=u0) (c: ∀e∈x::xs,Xb e=u0) (u:PA X (x::xs) (fi Y E (M.Gd F es))):PE X (.Call g (x::xs) [] pos) (tD Y E (M.eval F (.call f es))):=by
 obtain⟨p,rfl,n,r⟩:=Qd m
 obtain⟨j,J,I,b,C,z,q⟩:=(a.fn f d).imp λj h=>h.ex
 refine PE.imp (Fd b a.room (a.gl _ n) q z C .nil a.pass u r (Qb (c _ Aa4)) (Jq λe l=>c e (Aa2 _ l))) λU H Q o=> ?_
 obtain⟨G,L,h,s,p⟩:=o
 refine Jp s.heap Ext.refl s p λw D i A K e1 v t y B=> ?_
 rw [Af0]
 exact⟨A,i,_,t.heap,zx y,Wz w,az.mk B e1 s.heap⟩
def D1 (a:Go Y F X E k cf)(e:cH cf.sc f g=u0) (c:cf.fns.contains f=u0):PE X (.Call g [] [] pos) (tD Y E (M.eval F (.call f .nil))):=by
 obtain⟨p,rfl,i,m⟩:=Qd e
 obtain⟨d,r,q,b,o,n,l⟩:=(a.fn f c).imp λd h=>h.ex
 refine PE.imp (HZ b a.room (a.gl _ i) l n o .nil a.pass m) λU H Q j=> ?_
 obtain⟨G,t,h,s,p⟩:=j
 have p:=p
 exact⟨G,h,_,s.heap,zx (ws:= []) rfl,Wz [],az.mk p Ext.refl s.heap⟩
def DO (b:M.Bi) (a:mB b=u0):bootBuiltins (Qf (lO b))=k0 (tZ b):=by
 cases b<;>first | (exact absurd (show k9=u0 from a) Ab2) | decide +kernel
def vz (b):lO b∈cF:=by cases b<;>decide
def FK (c:Go Y F X E k cf){b:M.Bi}(q:mB b=u0) (v:cH cf.sc (lO b) g=u0) (r: ∀e∈x::xs,Xb e=u0) (m:PA X (x::xs) (fi Y E (M.Gd F es))):PE X (.Call g (x::xs) [] pos) (tD Y E (M.eval F (.bi b es))):=by
 obtain⟨p,rfl,i,l⟩:=Qd v
 have j:=c.blt _ (vz b)
 have n:=Xx (vz b)
 have bt:=DO b q
 have f:zu X _ (nX Y E b):=EE b q c.K c.calm
 have a: ∀U H Q,tD Y E (M.eval F (.bi b es)) U H Q->nP (nX Y E b) (fi Y E _) U H Q:=λU H Q w=>by
  obtain⟨G,J,h,s,p⟩:=w
  refine Jp s.heap Ext.refl s p λz D t B I e1 y d A C=> ?_
  exact⟨B,t,z,d.heap,A,az.mk C e1 s.heap⟩
 have d:=Qb (env:=X.env) (es:=xs) (r _ Aa4)
 have o:=Jq (env:=X.env) (pos:=pos) λe u=>r e (Aa2 _ u)
 cases b with
 | len=>exact PE.imp (jo f (c.gl _ i) j bt m n l d o) a
 | divmod=>exact PE.imp (jo f (c.gl _ i) j bt m n l d o) a
 | min=>cases q
 | max=>cases q
 | int=>exact PE.imp (wz f (c.gl _ i) j bt m n l d o) a
 | list=>exact PE.imp (wz f (c.gl _ i) j bt m n l d o) a
 | tuple=>exact PE.imp (wz f (c.gl _ i) j bt m n l d o) a
 | sum=>exact PE.imp (jo f (c.gl _ i) j bt m n l d o) a
 | all=>exact PE.imp (jo f (c.gl _ i) j bt m n l d o) a
 | any=>exact PE.imp (jo f (c.gl _ i) j bt m n l d o) a
 | sorted=>exact PE.imp (jo f (c.gl _ i) j bt m n l d o) a
 | str=>cases q
 | abs=>cases q
def bz (h:wR o=u0) (w):attributeBase o n env w=w:=by
 cases o with
 | Call f a b p=>
  cases a with
  | nil=>exact absurd (h) Ab2
  | cons x a=>cases f<;>rfl
 | _=>rfl
theorem rn (t): ∀ {ts}{n},M.Kj t ts=k0 n->ky (aC t) (ts.map aC)=k0 n
 | [],_,e=>by cases e
 | y::ys,n,e=>by
  unfold M.Kj at e
  rw [Ab1,ky]
  split at e
  ·rename_i q
   cases e
   rw [if_pos (by rw [q])]
  ·rename_i q
   obtain⟨k,e1,rfl⟩:=Ag2.mp e
   rw [if_neg (λc=>q (by
    have:=congrArg (λs:Str=>s.cps.toList) c
    simpa [aC]using this)),rn t e1]
   rfl
theorem p8 {b:Value->Bool}(a: ∀c y,RV hp c y->b y=M.cu c d): ∀ {ys}{L}{j},cb hp ys L->M.Kq d ys=k0 j-> ∃y,L[j]? =k0 y/\b y=u0/\ ∀m z,m<j->L[m]? =k0 z->b z=k9
 | [],_,_,rfl,h=>by cases h
 | c::ys,_,j,⟨u,r,rfl,k,l⟩,h=>by
  rw [M.Kq]at h
  by_cases q:M.cu c d=u0
  ·rw [if_pos q]at h
   cases h
   exact⟨u,rfl,by rw [a c u k];exact q,λm z g=>absurd g (Ag5 m)⟩
  ·rw [if_neg q]at h
   obtain⟨i,e,rfl⟩:=Ag2.mp h
   obtain⟨y,n,o,p⟩:=p8 a l e
   refine⟨y,n,o,λm z g f=> ?_⟩
   cases m with
   | zero=>cases f;rw [a c u k];simpa using q
   | succ m=>exact p m z (by omega) f
def LM (Y:Ge):V->List V->Hp->VK->Prop:=λx c H Q=> ∃G h a b y j,c= [y]/\ag Y G h H/\ah Y G H a x/\ah Y G H b y/\M.Kz b a h=k0 j/\Q (.int (j:Nat)) H
def II (t:X.K=Y.K)(i:a0 k X.A):ij X "list.index" (LM Y):=by
 intro p s U H x vs v us Q I R rv ⟨G,h,w1,w2,y,j,E,A,P,T,e,q⟩
 subst E
 obtain⟨u,rfl,C⟩:=rv.one
 unfold M.Kz at e
 split at e
 ·rename_i ys e2
  split at e
  ·rename_i c
   have l:=by simpa using c
   have S:=T.rv I t A C l.1.1.1
   have B:=P.rv I t A R (by simp_all)
   rw [e2]at B
   obtain⟨a,d,rfl,V,f⟩:=B
   obtain⟨N,J,F⟩:=tQ i l.1.2 S f
   obtain⟨z,D,h2,O⟩:=p8 J f e
   obtain⟨⟨W,dd,r,sl⟩,w,K,k,L⟩:=id V
   subst K L
   have n:=f.length
   obtain⟨hj,Z⟩:=Aa1.mp D
   have hL:=M.Gg
   refine call_meets PySem.F.slot_list_index ⟨_,w,rfl⟩ PySem.F.entry_list_index (PySem.F.args_list_index_2 _ _) (PySem.SeqAt.list_indexAt a d.toArray k dd sl u N j (by simp_all) (by lia) (by simp_all) (λm hm g=> ?_)) ⟨w,F,?_⟩
   ·exact O m _ g (by simp)
   ·exact⟨.int j,H,I.kept λb o e=>e,⟨_,rfl⟩,q⟩
  ·cases e
 ·cases e
def C1 (j:Go Y F X E k cf)(hm:td m=u0) (hl:(apos.endLine==k7.line)=u0) (O:wR o=u0) (q:Xb x=u0) (V:PE X o (tD Y E (M.eval F a))) (L:PA X [x] (fi Y E (M.Gd F es))):
 PE X (.Call (.Attribute o (Qf (rC m)) apos) [x] [] k7) (tD Y E (M.eval F (.dz m a es))):=by
 cases m with
 | index=>
  refine PE.imp (lJ PySem.F.plainAttrs_tuple PySem.F.slot_tuple_index PySem.F.type_tuple_index yO Bd V L (bz O _) (by rw [Qb q];rfl) hl (Qb q) rfl) λU H Q A=> ?_
  obtain⟨G,τ,h,s,p⟩:=A
  refine Wa s.heap Ext.refl s p λT v1 h1 G1 H1 e1 B f g f1 e=> ?_
  split at e
  ·rename_i D
   obtain⟨xs,ex⟩:=Ah9.mp (D)
   obtain⟨b,z,rfl,r,N⟩:=g.tup ex
   refine⟨⟨b,rfl,j.K▸r.pl⟩,?_⟩
   refine Jp s.heap e1 f e λC us S R H2 e2 d l I c=> ?_
   obtain⟨b',P,W,Z,J⟩:=ah.ext (w:= .v (.tup xs)) d f.heap ⟨b,z,rfl,r,N⟩
   cases W
   cases C with
   | nil=>exact c.elim
   | cons w wr=>
    cases wr with
    | cons _ _=>exact c.elim
    | nil=>
     obtain⟨u,rfl,y⟩:=I.one
     have c:=c
     obtain⟨ts,v,c⟩:=c.of
     obtain⟨t,q2,c⟩:=c.of
     obtain⟨n,K,c⟩:=c.of
     cases y.str q2
     rw [ex,Ag0]at v
     cases qR v J
     split at c
     ·exact⟨b,aC t,n,ts.map aC,rfl,rfl,j.K▸eW.sq Z,rn t K,(az.mk c e2 s.heap).v l.heap rfl⟩
     ·exact c.elim
  ·exact e.elim
 | b3=>
  refine PE.imp (lJ PySem.F.plainAttrs_list PySem.F.slot_list_index PySem.F.type_list_index yp (II j.K j.room) V L (bz O _) (by rw [Qb q];rfl) hl (Qb q) rfl) λU H Q A=> ?_
  obtain⟨G,τ,h,s,p⟩:=A
  refine Wa s.heap Ext.refl s p λT v1 h1 G1 H1 e1 B f g f1 e=> ?_
  split at e
  ·rename_i D
   obtain⟨ys,ey⟩:=Ah9.mp (D)
   obtain⟨b,z,rfl,r,N⟩:=ah.lst f.heap g ey
   refine⟨⟨b,z,rfl,j.K▸r⟩,?_⟩
   refine Jp s.heap e1 f e λC us S R H2 e2 d l I c=> ?_
   cases C with
   | nil=>exact c.elim
   | cons w wr=>
    cases wr with
    | cons _ _=>exact c.elim
    | nil=>
     obtain⟨u,rfl,y⟩:=I.one
     have c:=c
     obtain⟨n,v,c⟩:=c.of
     exact⟨R,S,T,w,u,n,rfl,l.heap,g.ext d f.heap,y,v,(az.mk c e2 s.heap).v l.heap rfl⟩
  ·exact e.elim
 | count=>
  refine PE.imp (lJ PySem.F.plainAttrs_list PySem.F.slot_list_count PySem.F.type_list_count yp BN V L (bz O _) (by rw [Qb q];rfl) hl (Qb q) rfl) λU H Q A=> ?_
  obtain⟨G,τ,h,s,p⟩:=A
  refine Wa s.heap Ext.refl s p λT v1 h1 G1 H1 e1 B f g f1 e=> ?_
  split at e
  ·rename_i D
   obtain⟨ys,ey⟩:=Ah9.mp (D)
   obtain⟨b,z,rfl,r,N⟩:=ah.lst f.heap g ey
   refine⟨⟨b,z,rfl,j.K▸r⟩,?_⟩
   refine Jp s.heap e1 f e λC us S R H2 e2 d l I c=> ?_
   cases C with
   | nil=>exact c.elim
   | cons w wr=>
    cases wr with
    | cons _ _=>exact c.elim
    | nil=>
     obtain⟨u,rfl,y⟩:=I.one
     have c:=c
     obtain⟨is,v,c⟩:=c.of
     obtain⟨i,q2,c⟩:=c.of
     obtain⟨ys2,K,q4⟩:=Ag7.mp v
     obtain⟨b',P,W,y2,y3⟩:=ah.lst l.heap (g.ext d f.heap) K
     cases W
     cases qI q4 y3
     cases y.int q2
     split at c
     ·exact⟨b,i,is,rfl,rfl,j.K▸y2,(az.mk c e2 s.heap).v l.heap rfl⟩
     ·exact c.elim
  ·exact e.elim
def Bk: "range" ∈cF:=by decide
def HN: "list" ∈cF:=by decide
def Mi (d:Go Y F X E k cf)(o:cH cf.sc "list" g=true) (e:cH cf.sc "range" g2=true) (j:Xb x=true) (v:PE X x (tD Y E (M.eval F a))):PE X (.Call g [.Call g2 [x] [] pos2] [] pos) (tD Y E (M.eval F (.bY a))):=by
 obtain⟨p,rfl,q,J⟩:=Qd o
 obtain⟨O,rfl,f,B⟩:=Qd e
 refine PE.imp (HG d.calm (d.gl _ q) (d.blt _ HN) (d.gl _ f) (d.blt _ Bk) (Wi v Qr (Qb j)) (Qb j)) λU H Q r=> ?_
 obtain⟨G,N,h,s,p⟩:=r
 refine Wa s.heap Ext.refl s p λK v1 I A t e1 w u y L b=> ?_
 obtain⟨n,D,b⟩:=b.of
 cases y.int D
 split at b
 ·rename_i c
  refine⟨n.toNat,by rw [Int.toNat_of_nonneg c.1],by lia,λl C=> ?_⟩
  have m:aa Y A t ((Aa5 n.toNat).map λ(i:Nat)=>M.D.int i) ((Aa5 n.toNat).map λ(i:Nat)=>V.int i):=by
   induction Aa5 n.toNat with
   | nil=>rfl
   | cons i is z=>exact⟨_,_,rfl,rfl,z⟩
  exact az.own (az.mk b e1 s.heap) u.heap m l C
 ·exact b.elim
def K4 (r:Go Y F X E k cf){s:M.Tx}{d:List M.Tx}{g f:Nat}{m o c b:Pos}(n:(c.endLine==b.line)=u0) (j:lZ (aC s) (d.map aC)=u0):
 PE X (.Call (.Attribute (.Constant (.str (aC s)) g m) (Qf "split") c) [.Constant (.str bQ) f o] [] b) (tD Y E (M.eval F (.dE s d))):=by
 refine PE.imp (lJ PySem.F.plainAttrs_str PySem.F.slot_str_split PySem.F.type_str_split D3 E6 nc (Wi nc Qr rfl) rfl rfl n rfl rfl) λU H Q i=> ?_
 obtain⟨G,q,h,e,p⟩:=i
 rw [M.eval]at p
 exact⟨⟨_,rfl⟩,aC s,d.map aC,rfl,rfl,j,λa l=>az.own (az.mk p Ext.refl e.heap) e.heap (zR _) a l⟩
def B0 (d:Go Y F X E k cf)(f:t≠ .aj) (r:cH cf.sc "isinstance" g=true) (n:cH cf.sc (cW t) y=true) (j:Xb x=true) (B:PE X x (tD Y E (M.eval F a))):PE X (.Call g [x,y] [] pos) (tD Y E (M.eval F (.b8 a t))):=by
 obtain⟨p,rfl,u,z⟩:=Qd r
 obtain⟨q,rfl,m,K⟩:=Qd n
 have dD:cW t∈cF:=by cases t<;>first | exact absurd rfl f | decide
 have bt:bootBuiltins (Qf (cW t))=k0 (.type (cW t)):=by cases t<;>first | exact absurd rfl f | decide +kernel
 have bi:bootBuiltins _=k0 _:=boot_isinstance
 have b: "isinstance" ∈cF:=by decide
 have e:PE X (.Name (Qf (cW t)) q) (tC (.ty (cW t))):=CS (d.gl _ m) (d.blt _ dD) bt rfl (Xx dD) K
 refine PE.imp (jo (EZ d.K) (d.gl _ u) (d.blt _ b) bi (Wi B (Wi e Qr) (Qb j)) (Xx b) z (Qb j) rfl) λU H Q w=> ?_
 obtain⟨G,O,h,s,p⟩:=w
 rw [M.eval]at p
 refine Wa s.heap Ext.refl s p λA v1 o J L e1 C l I N i=> ?_
 obtain⟨c,D,i⟩:=i.of
 exact⟨J,o,A,v1,t,c,rfl,f,l.heap,I,D,aw.val i e1 l.heap (v:= .bl c) rfl trivial⟩
def My (xs:List α) (i):M.aV xs i=L2.aV xs i:=rfl
theorem aa.aV (z:aa Y G H ds vs) (e:M.aV ds i=k0 d): ∃v,L2.aV vs i=k0 v/\aA Y G H d v:=by
 unfold M.aV at e
 unfold L2.aV
 rw [z.length]at e
 cases q:M.dy vs.length i with
 | none=>rw [q]at e;cases e
 | some j=>
  rw [q]at e
  obtain⟨v,b,c⟩:=z.get (e)
  refine⟨v,?_,c⟩
  have a:L2.dy vs.length i=k0 j:=q
  rw [a]
  exact b
def JP (a:Wc y=u0):ug y:=by
 intro o i
 cases y<;>first | rfl | (simp [Wc]at a)
def Dd (w:Go Y F X E k cf) (z:Wc y=u0) (L:PE X x (tD Y E (M.eval F a))) (J:PE X y (tD Y E (M.eval F b))):PE X (.Subscript x y pos) (tD Y E (M.eval F (.ix a b))):=by
 refine PE.imp (nY CF L J (JP z)) λU H Q I=> ?_
 obtain⟨G,τ,h,s,p⟩:=I
 refine Wa s.heap Ext.refl s p λK v1 T G1 Z e1 N t j f1 P=> ?_
 refine Wa s.heap e1 t P λw2 v2 D W V e2 n o R S m=> ?_
 obtain⟨d,q,m⟩:=m.of
 have j:=j.ext n t.heap
 unfold M.dN at q
 split at q
 ·rename_i i B
  cases R.int B
  split at q
  ·rename_i g A
   cases j.str A
   split at q
   ·rename_i hl
    cases c:M.aV g i with
    | none=>rw [c]at q;cases q
    | some O=>
     rw [c]at q
     cases q
     refine .inr (.inr ⟨aC g,i,O,rfl,rfl,by rw [Xd];have:=Jj;lia,?_,aw.val m e2 o.heap rfl trivial⟩)
     have:(aC g).cps.toList=g:=by simp [aC]
     exact c
   ·cases q
  ·cases c:K.seq? D with
   | none=>rw [c]at q;cases q
   | some ds=>
    rw [c]at q
    obtain⟨l,r,rfl,f,C⟩:=j.seq o.heap c
    obtain⟨v,e,rd⟩:=C.aV (q)
    have u:=aw.val m e2 o.heap rd trivial
    obtain f | f:=f
    ·exact .inl ⟨l,r,i,v,rfl,rfl,w.K▸f,e,u⟩
    ·exact .inr (.inl ⟨l,r,i,v,rfl,rfl,w.K▸f,e,u⟩)
 ·cases q
end
section
variable {Y:Ge}{F:M.Fx}{X:Cx}{E:XK}{k:Nat}{cf:Cf}{a b c:M.E}{x y z:Expr}{pos p2:Pos}
def om (xs:List α) (lo hi):M.cut xs lo hi=(xs.drop (HT.aX xs.length 0 lo)).take (HT.aX xs.length xs.length hi-HT.aX xs.length 0 lo):=by
 unfold M.cut
 have e: ∀d o,M.aX xs.length d o=HT.aX xs.length d o:=λd o=>by cases o<;>rfl
 rw [e,e]
theorem aa.cut (z:aa Y G H ds vs) (lo hi):aa Y G H (M.cut ds lo hi) (lD vs lo hi):=by
 rw [om]
 rw [z.length]
 exact(z.drop _).take _
def oW {d b:Option Int}(n:ag Y G0 h0 H0) (e:Ext G0 H0 G H) (j:ag Y G h H) (r:ah Y G H w v)
 (p:aw Y E G0 H0 (M.fX w d b h) λw _ G' H'=> ∀v,ah Y G' H' w v->aI τ U H0 w v->Q v H'):((nh Y.K v d b H Q\/o7 Y.K v d b H Q)\/oU Y.K v d b H Q)\/oQ v d b H Q:=by
 unfold M.fX at p
 split at p
 ·rename_i z q
  cases r.str q
  split at p
  ·rename_i c
   have o:=Jj
   refine .inr ⟨_,rfl,by rw [Xd];lia,?_⟩
   have e1:kq (aC z) d b=aC (M.cut z d b):=by
    unfold kq
    rw [Xd,om]
    simp [aC]
   exact az.v (az.mk p e n) j rfl
  ·exact p.elim
 ·split at p
  ·rename_i m q
   obtain⟨l,f,rfl,i,g⟩:=r.tup q
   by_cases c:HT.aX f.length 0 d=0/\HT.aX f.length f.length b=f.length
   ·have e2:M.cut m d b=m:=by
     rw [om,g.length,c.1,c.2,List.drop_zero,Nat.sub_zero,←g.length,Ap0]
    rw [e2]at p
    exact .inl (.inr ⟨l,f,rfl,i.sq,c.1,c.2,p G H e j _ ⟨l,f,rfl,i,g⟩ trivial⟩)
   ·exact .inl (.inl (.inr ⟨l,f,rfl,i.sq,c,λa k=>az.tup (az.mk p e n) j (g.cut d b) a k⟩))
  ·split at p
   ·rename_i m q
    obtain⟨l,f,rfl,i,g⟩:=r.lst j q
    exact .inl <| .inl <| .inl ⟨l,f,rfl,i,λa k=>az.own (az.mk p e n) j (g.cut d b) a k⟩
   ·exact p.elim
def Iy (K:Ab):V->Option Int->Option Int->Hp->VK->Prop:=λx lo hi H Q=>((nh K x lo hi H Q\/o7 K x lo hi H Q)\/oU K x lo hi H Q)\/oQ x lo hi H Q
def nJ:f6 X (Iy X.K):=((gL.or DB).or Bo).or oH
def Hv (B:Go Y F X E k cf){f e:M.E}(t:PE X x (tD Y E (M.eval F a))) (D:PE X l (tD Y E (M.eval F f))) (n:PE X u (tD Y E (M.eval F e))):PE X (.Subscript x (.Slice (k0 l) (k0 u) y0 p2) pos) (tD Y E (M.eval F (.sl a f e))):=by
 refine PE.imp (XT nJ t (wQ D) (wQ n)) λU H Q r=> ?_
 obtain⟨G,τ,h,s,p⟩:=r
 refine Wa s.heap Ext.refl s p λW v1 L G1 T e1 v g w Z A=> ?_
 refine Wa s.heap e1 g A λw2 v2 P O N e2 c m C K p2=> ?_
 obtain⟨i,y,p2⟩:=p2.of
 refine⟨i,C.int y,?_⟩
 refine Wa s.heap e2 m p2 λJ v3 S R V z d I o f3 b=> ?_
 obtain⟨j,q,b⟩:=b.of
 exact⟨j,o.int q,B.K▸oW s.heap z I.heap ((w.ext c g.heap).ext d m.heap) b⟩
def CJ (o:Go Y F X E k cf){c:M.E}(f:PE X x (tD Y E (M.eval F a))) (r:PE X l (tD Y E (M.eval F c))):PE X (.Subscript x (.Slice (k0 l) y0 y0 p2) pos) (tD Y E (M.eval F (.fB a c))):=by
 refine PE.imp (XT nJ f (wQ r) vN) λU H Q e=> ?_
 obtain⟨G,D,h,s,p⟩:=e
 refine Wa s.heap Ext.refl s p λB v1 v I A e1 g d j C n=> ?_
 refine Wa s.heap e1 d n λJ v2 z y w e2 b t q u p2=> ?_
 obtain⟨i,m,p2⟩:=p2.of
 exact⟨i,q.int m,o.K▸oW s.heap e2 t.heap (j.ext b d.heap) p2⟩
def ET (n:Go Y F X E k cf)(f:PE X x (tD Y E (M.eval F a))) (d:PE X u (tD Y E (M.eval F hi))):PE X (.Subscript x (.Slice y0 (k0 u) y0 p2) pos) (tD Y E (M.eval F (.fG a hi))):=by
 refine PE.imp (XT nJ f vN (wQ d)) λU H Q e=> ?_
 obtain⟨G,C,h,s,p⟩:=e
 refine Wa s.heap Ext.refl s p λA v1 t D z e1 g c j B m=> ?_
 refine Wa s.heap e1 c m λI v2 y w v e2 b q o r p2=> ?_
 obtain⟨i,l,p2⟩:=p2.of
 exact⟨i,o.int l,n.K▸oW s.heap e2 q.heap (j.ext b c.heap) p2⟩
def Gh.cell (G:Gh) (a:Addr):Gh:= { G with aR:=λr=>if r=G.n then a else G.aR r,n:=G.n+1 }
def sS (a):Mon G H (G.cell a) H:=⟨λ_ _ _ z=>z,Ag6 _,λr b=>by show(if r=G.n then a else G.aR r)=_;rw [if_neg (by lia)],λ_ z=>z⟩
def JF {a:Addr}{c:M.Cell}(d:ag Y G h H) (n: ¬G.fz a) (k:du G a) (z:bx Y G H a c):ag Y (G.cell a) (h++ [c]) H where
 len:=by rw [Aa8,d.len];rfl
 any:=λr g q=>by
  show ¬G.fz (if r=G.n then a else G.aR r)/\bx Y (G.cell a) H (if r=G.n then a else G.aR r) g
  by_cases j:r=G.n
  ·rw [if_pos j]
   rw [j,←d.len,Ad9 (Aa9 _),Ao9]at q
   cases q
   exact⟨n,z.mon (sS a) λ_ e=>e⟩
  ·rw [if_neg j]
   have i:r<G.n:=by
    have:=(Aa1.mp q).1
    rw [Aa8,d.len]at this
    simp at this
    omega
   rw [Ad2 (by rw [d.len];exact i)]at q
   exact⟨(d.any r g q).1,(d.any r g q).2.mon (sS a) λ_ e=>e⟩
 inj:=λr s l m e=>by
  have l:r<G.n+1:=l
  have m:s<G.n+1:=m
  have e:(if r=G.n then a else G.aR r)=(if s=G.n then a else G.aR s):=e
  by_cases f:r=G.n
  ·by_cases b:s=G.n
   ·omega
   ·rw [if_pos f,if_neg b]at e
    exact absurd e.symm (k s (by omega))
  ·by_cases b:s=G.n
   ·rw [if_neg f,if_pos b]at e
    exact absurd e (k r (by omega))
   ·rw [if_neg f,if_neg b]at e
    exact d.inj r s (by omega) (by omega) e
 live:=d.live
def zY {a:Addr}(b:ag Y G h H) (f: ¬G.fz a) (d:du G a) (e:H a=k0 (.lst vs)) (z:aa Y G H xs vs) (c:M.Gc xs=u0):ag Y (G.cell a) (h++ [.lst xs]) H:=JF b f d ⟨c,vs,e,z⟩
def LN {a:Addr}(b:ag Y G h H) (d: ¬G.fz a) (c:du G a)(e:H a=k0 (.ins (Y.ca c0) dx0 [])):ag Y (G.cell a) (h++ [.obj c0 []]) H:=JF b d c ⟨dx0,[],e,rfl⟩
def xx {a:Addr}(e:Ext G0 H0 G H) (f:H0 a=y0):Ext G0 H0 (G.cell a) H where
 keep:=e.keep
 le:=Ab5 e.le (Ag6 _)
 aR:=λr d=>by show(if r=G.n then a else G.aR r)=_;rw [if_neg (by have:=e.le;omega)];exact e.aR r d
 new:=λr g c=>by
  have c:r<G.n+1:=c
  show H0 (if r=G.n then a else G.aR r)=y0
  by_cases b:r=G.n
  ·rw [if_pos b];exact f
  ·rw [if_neg b];exact e.new r g (by omega)
 fz:=e.fz
 old:=e.old
 cells:=e.cells
def ED:PE X (.Dict [] [] pos) (tD Y E (M.eval F .c8)):=by
 refine PE.imp Dt λU H Q d=> ?_
 obtain⟨G,e,h,s,p⟩:=d
 intro a b
 have p:=p
 have e1:Ext G H G (aL H a (dS [])):=qs _ b
 have c:=s.heap.new (dS []) b
 refine aw.val p (xx e1 b) (JF c (λz=>by obtain⟨o,q⟩:=s.heap.live a z;rw [b]at q;cases q) (s.heap.fL b) ⟨rfl,[],Zc,rfl⟩) ?_ trivial
 show h.length<G.n+1/\V.ref a= .ref (if h.length=G.n then a else G.aR h.length)
 rw [s.heap.len,if_pos rfl]
 exact⟨Ag _,rfl⟩
abbrev dr (a:List (M.Tx×M.D)) (b:List V):List (Str×V):=(a.map λp=>aC p.1).zip b
def JR (e:M.GT h o=k0 (r,ks)):o=k0 (.v (.ref r))/\h[r]? =k0 (.aM ks):=by
 unfold M.GT at e
 split at e
 ·split at e
  ·rename_i q
   cases e
   exact⟨rfl,q⟩
  ·cases e
 ·cases e
def Jo (s:ao Y G τ h U H)(e:M.GT h (M.Gn τ i)=k0 (r,ks)):U[i]? =k0 (k0 (.ref (G.aR r)))/\M.Gc (ks.map (·.2))=u0/\ ∃j,H (G.aR r)=k0 (dS (dr ks j))/\aa Y G H (ks.map (·.2)) j:=by
 obtain⟨e1,e2⟩:=JR e
 obtain⟨v,a,b⟩:=s.slot i _ e1
 obtain⟨d,c⟩:=(b)
 subst c
 exact⟨a,(s.heap.any r _ e2).2⟩
def n8 (a b):(aC a==aC b)=(a==b):=by
 cases q:a==b with
 | true=>rw [eq_of_beq q];exact beq_self_eq_true _
 | false=>exact beq_eq_false_iff_ne.mpr λz=>(beq_eq_false_iff_ne.mp q) (WB z)
section
variable {G:Gh}{H:Hp}
theorem p6 {k:M.Tx}: ∀ {ks}{i},aa Y G H (ks.map (·.2)) i->ks.lookup k=k0 d-> ∃v,(dr ks i).lookup (aC k)=k0 v/\aA Y G H d v
 | [],_,_,e=>by cases e
 | (g,x)::fs,_,⟨v,r,rfl,a,b⟩,e=>by
  rw [Ab7]at e
  show ∃w,((aC g,v)::dr fs r).lookup (aC k)=k0 w/\_
  rw [Ab7,n8]
  cases q:k==g with
  | true=>rw [q]at e;cases e;exact⟨v,rfl,a⟩
  | false=>rw [q]at e;exact p6 b e
theorem o3 {k:M.Tx}: ∀ {ks}{i},aa Y G H (ks.map (·.2)) i->((dr ks i).lookup (aC k)).isSome=(ks.lookup k).isSome
 | [],_,_=>rfl
 | (g,x)::fs,_,⟨v,r,rfl,b,a⟩=>by
  show(((aC g,v)::dr fs r).lookup (aC k)).isSome=_
  rw [Ab7,Ab7,n8]
  cases q:k==g with
  | true=>rfl
  | false=>exact o3 a
theorem sN {k:M.Tx}: ∀ {ks}{i},aa Y G H (ks.map (·.2)) i->((dr ks i).any λp=>y9 (p.1=aC k))=ks.any λp=>y9 (p.1=k)
 | [],_,_=>rfl
 | (g,x)::fs,_,⟨v,r,rfl,b,a⟩=>by
  show(y9 (aC g=aC k)||(dr fs r).any λp=>y9 (p.1=aC k))=(y9 (g=k)||fs.any λp=>y9 (p.1=k))
  rw [sN a]
  congr 1
  exact decide_eq_decide.mpr ⟨WB,congrArg aC⟩
theorem vi {k:M.Tx}(rv:aA Y G H d v): ∀ {ks}{j},aa Y G H (ks.map (·.2)) j-> ∃i,aa Y G H ((ks.map λp=>if p.1=k then(p.1,d)else p).map (·.2)) i/\((dr ks j).map λp=>if p.1=aC k then(p.1,v)else p)=dr (ks.map λp=>if p.1=k then(p.1,d)else p) i
 | [],_,rfl=>⟨[],rfl,rfl⟩
 | (g,x)::fs,_,⟨u,r,rfl,e,c⟩=>by
  obtain⟨i,a,b⟩:=vi rv c
  by_cases q:g=k
  ·refine⟨v::i,?_,?_⟩
   ·simp only [Ab1,q,if_true]
    exact⟨v,i,rfl,rv,a⟩
   ·show(if aC g=aC k then(aC g,v)else(aC g,u))::(dr fs r).map _=dr ((if g=k then(g,d)else(g,x))::fs.map _) (v::i)
    rw [b,if_pos (congrArg aC q),if_pos q]
    rfl
  ·have f:=λz=>q (WB z)
   refine⟨u::i,?_,?_⟩
   ·simp only [Ab1,q,if_false]
    exact⟨u,i,rfl,e,a⟩
   ·show(if aC g=aC k then(aC g,v)else(aC g,u))::(dr fs r).map _=dr ((if g=k then(g,d)else(g,x))::fs.map _) (u::i)
    rw [b,if_neg f,if_neg q]
    rfl
theorem ZR {k:M.Tx}(rv:aA Y G H d v): ∀ {ks}{i},aa Y G H (ks.map (·.2)) i->aa Y G H ((ks++ [(k,d)]).map (·.2)) (i++ [v])/\dr ks i++ [(aC k,v)]=dr (ks++ [(k,d)]) (i++ [v])
 | [],_,rfl=>⟨⟨v,[],rfl,rv,rfl⟩,rfl⟩
 | (g,x)::fs,_,⟨u,r,rfl,b,a⟩=>⟨⟨u,_,rfl,b,(ZR rv a).1⟩,congrArg ((aC g,u):: ·) (ZR rv a).2⟩
def BO {k:M.Tx}(rv:aA Y G H d v)(z:aa Y G H (ks.map (·.2)) us): ∃i,aa Y G H ((M.GE ks k d).map (·.2)) i/\gX (dr ks us) (aC k) v=dr (M.GE ks k d) i:=by
 unfold M.GE gX
 rw [sN z]
 by_cases c:(ks.any λp=>y9 (p.1=k))=u0
 ·rw [if_pos c,if_pos c];exact vi rv z
 ·rw [if_neg c,if_neg c];exact⟨_,ZR rv z⟩
end
theorem jN: ∀ {ds},M.Gc ds=u0↔ ∀d∈ds,M.Gf d=u0
 | []=>⟨λ_ _ h=>absurd h Ai4,λ_=>rfl⟩
 | d::ds=>by
  rw [Aa0,jN,List.forall_mem_cons]
def yN {k:M.Tx}(b:M.Gf d=u0)(z:M.Gc (ks.map (·.2))=u0):M.Gc ((M.GE ks k d).map (·.2))=true:=by
 rw [jN]at z ⊢
 unfold M.GE
 split
 ·intro y a
  rw [Ad6,Ab6]at a
  obtain⟨p,c,rfl⟩:=a
  dsimp only [Function.comp]
  split
  ·exact b
  ·exact z _ (List.mem_map_of_mem c)
 ·intro y a
  rw [Af5,Ac8]at a
  obtain a | a:=a
  ·exact z y a
  ·cases Ac7.mp a;exact b
def yY (z:aa Y G H (ks.map (·.2)) us):(dr ks us).length=ks.length:=by
 have:=z.length
 rw [Aa]at this
 rw [Al4,Aa];lia
def Ep:R2:=λx y H Q=> ∃k a kvs v,y= .str k/\x= .ref a/\H a=k0 (dS kvs)/\kvs.lookup k=k0 v/\Q v H
def sJ:gg X Ep:=by
 intro c b e o U H x y v u Q I m g ⟨k,a,j,d,l,ex,f,h,q⟩ i
 subst ex l
 cases m
 obtain⟨_,_,_,_,dd⟩:=X5 I f
 exact tail_any dd.mapOf.typeIs slot_dict_getitem.lookup (IF I f g h λp s n r=>⟨_,H,n,r,q⟩) i
def Eb (neg:Bool):R2:=λx y H Q=> ∃k a kvs,x= .str k/\y= .ref a/\H a=k0 (dS kvs)/\Q (.bl (if neg then !(kvs.lookup k).isSome else(kvs.lookup k).isSome)) H
def vd (neg):bH X (compareOp (mK neg)) (Eb neg):=by
 intro c i U H x y v u Q I e f ⟨k,a,j,ex,g,d,q⟩
 subst ex g
 cases f
 cases neg with
 | false=>exact AN I d e λh b=>⟨.bl _,H,b,rfl,q⟩
 | true=>exact L0 I d e λh b=>⟨.bl _,H,b,rfl,q⟩
def Cn:V->V->V->Hp->(Hp->Prop)->Prop:=λo i v H Q=> ∃k a kvs,i= .str k/\o= .ref a/\H a=k0 (dS kvs)/\kvs.length<sizeLine/\Q (aL H a (dS (gX kvs k v)))
def Iv:m6 X Cn:=by
 intro b l U H o i v m p u Q I c g rv ⟨k,a,n,e,f,d,j,q⟩
 subst e f
 cases c
 exact D8 I d g rv j λr h=>⟨_,h,q⟩
def EC:List V->Hp->VK->Prop:=λb H Q=> ∃a kvs,b= [.ref a]/\H a=k0 (dS kvs)/\ ∀p,H p=y0->Q (.ref p) (aL H p (dS kvs))
def Lz:zu X (.type "dict") EC:=by
 intro b k U H l j Q I rv ⟨a,f,d,e,q⟩
 subst d
 cases rv with
 | cons g i=>
  cases i
  cases g
  exact KY I e λp m c h=>⟨.ref p,_,h,rfl,q p c⟩
def Li (r:PE X x (tD Y E (M.eval F a))):PE X x (tD Y E (M.eval F (.share a))):=by
 refine PE.imp r λU H Q o=> ?_
 obtain⟨G,D,h,s,p⟩:=o
 refine Wa s.heap Ext.refl s p λq v1 c g C e1 t i w u b=> ?_
 cases q with
 | own e=>
  obtain⟨l,A,rfl,j,k,z,n⟩:=w
  obtain⟨B,m,y⟩:=u
  cases m
  have b:aw Y E G H (if M.Gc e=u0 then M.aq _ (c++ [.lst e])else .fail) _:=b
  by_cases f:M.Gc e=u0
  rotate_left
  ·rw [if_neg f]at b;exact b.elim
  rw [if_pos f]at b
  refine aw.val b (xx e1 y) (zY i.heap j k z n f) ?_ trivial
  show c.length<g.n+1/\V.ref l= .ref (if c.length=g.n then l else g.aR c.length)
  rw [i.heap.len,if_pos rfl]
  exact⟨Ag _,rfl⟩
 | v d=>exact b.elim
 | bor e=>exact b.elim
end
structure xK (Y:Ge) (J:It) (ds:List M.D) (C:Gh->Hp->Prop):Prop where
 go: ∀i G H,C G H->i<ds.length->J.go i H
 eX: ∀i G H x H',C G H->i<ds.length->J.eX i H x H'-> ∃G',Ext G H G' H'/\(∀ h,ag Y G h H->ag Y G' h H')/\ ∃d,ds[i]? =k0 d/\aA Y G' H' d x
 stop: ∀i G H,C G H->ds.length<=i->i<=ds.length->J.stop i H
 keep: ∀G H G' H' h,C G H->Ext G H G' H'->ag Y G h H->C G' H'
noncomputable def wm (τ:M.Sl) (U:St) (H:Hp):Hp:=λa=>open Classical in if ∃(i:Nat) (xs:List M.D),M.Gn τ i=k0 (.own xs)/\U[i]? =k0 (k0 (.ref a))then y0 else H a
def gs (Y:Ge) (E:XK) (a:Bool) (m:M.Sl->M.AH->M.R (List M.D)):TI:=λU H R=> ∃G τ h,ao Y G τ h U H/\aw Y E G H (m τ h) λds _ G' H'=> ∀J C,xK Y J ds C->C G' H'->(a=u0->C G' (wm τ U H'))->R J H'
def PI.imp (h:PI X tg e t) (k: ∀U H R,t' U H R->t U H R):PI X tg e t':=λa s U H R I q=>h a s U H R I (k _ _ _ q)
section
variable {Y:Ge}{F:M.Fx}{X:Cx}{E:XK}{k:Nat}{cf:Cf}{a b c:M.E}{x y z tg:Expr}{pos p2:Pos}{lp:Bool}
def lE (Y:Ge) (G:Gh) (H:Hp) (l:Addr) (vs:List V):Prop:=(Rd H l (.lst vs)/\du G l)\/sT Y l vs
def CL (Y:Ge) (ds:List M.D) (l:Addr) (vs:List V) (G:Gh) (H:Hp):Prop:=lE Y G H l vs/\aa Y G H ds vs
def lE.sq (z:lE Y G H l vs):bu Y.K H l vs:=z.elim (λz=> .inl z.1) .inr
def iT.oZ (z:iT Y G H l vs) (a:ag Y G h H):lE Y G H l vs:=z.elim (λz=> .inl ⟨z.2,a.off z.1⟩) .inr
def CL.keep (z:CL Y ds l vs G H) (e:Ext G H G' H') (c:ag Y G h H):CL Y ds l vs G' H':=by
 obtain⟨a,d⟩:=z
 refine⟨?_,d.ext e c⟩
 obtain⟨a,b⟩ | a:=a
 ·refine .inl ⟨e.rd a b,?_⟩
  obtain a | ⟨o,a⟩:=a
  ·exact e.off a b
  ·exact e.off a b
 ·exact .inr a
def CL.walk {K:Ab}(d:K=Y.K):xK Y (iY K l) ds (CL Y ds l vs) where
 go:=by
  rintro i G H ⟨c,b⟩ a
  obtain⟨v,e,_⟩:=b.get (Aa7 a)
  exact⟨vs,v,d▸c.sq,e⟩
 eX:=by
  rintro i G H x f ⟨c,b⟩ a ⟨e,y⟩
  subst e
  obtain⟨v,e,rd⟩:=b.get (Aa7 a)
  have:=y vs (d▸c.sq)
  rw [e]at this
  cases this
  exact⟨G,Ext.refl,λ_ q=>q,_,Aa7 a,rd⟩
 stop:=λi G H ⟨c,b⟩ a _=>⟨vs,d▸c.sq,by rw [← b.length];exact a⟩
 keep:=λG H j f h z e g=>z.keep e g
def CT (Y:Ge) (ds:List M.D) (l:Addr) (vs:List V) (G:Gh) (H:Hp):Prop:=eW Y G H l vs/\aa Y G H ds vs
def eW.mon (z:eW Y G H l vs) (e:Mon G H G' H'):eW Y G' H' l vs:=z.elim (λz=> .inl ⟨e.fz l z.1,e.keep l _ z.1 z.2⟩) λz=> .inr z
def CT.walk {K:Ab}(d:K=Y.K):xK Y (i7 K l) ds (CT Y ds l vs) where
 go:=by
  rintro i G H ⟨c,b⟩ a
  obtain⟨v,e,_⟩:=b.get (Aa7 a)
  exact⟨vs,v,d▸c.sq,e⟩
 eX:=by
  rintro i G H x g ⟨c,b⟩ a ⟨e,y⟩
  subst e
  obtain⟨v,e,rd⟩:=b.get (Aa7 a)
  have:=y vs (d▸c.sq)
  rw [e]at this
  cases this
  exact⟨G,Ext.refl,λ_ q=>q,_,Aa7 a,rd⟩
 stop:=λi G H ⟨c,b⟩ a _=>⟨vs,d▸c.sq,by rw [← b.length];exact a⟩
 keep:=λG H j g h z e f=>⟨z.1.mon (e.mon f),z.2.ext e f⟩
def CM {b:Int}:xK Y (mh b n) ((Aa5 n).map λ(i:Nat)=>M.D.int (b+(i:Int))) (λ_ _=>True) where
 go:=λi G H _ a=>show i<n by simpa using a
 eX:=λi G H x d _ a c=>by
  obtain⟨e,y⟩:=c
  subst e y
  have a:=by simpa using a
  exact⟨G,Ext.refl,λ_ q=>q,.int (b+i),by simp [a],rfl⟩
 stop:=λi G H _ a _=>show n<=i by simpa using a
 keep:=λ_ _ _ _ _ _ _ _=>trivial
def XG {z:M.Tx}:xK Y (iK (aC z)) (M.g8 z) (λ_ _=>True) where
 go:=λi G H _ a=>by
  have a:=by simpa [M.g8]using a
  exact⟨z[i],by simp [aC,a]⟩
 eX:=λi G H x g _ a f=>by
  obtain⟨e,c,b,d⟩:=f
  subst e d
  have a:=by simpa [M.g8]using a
  have b:=by simpa [aC]using b
  exact⟨G,Ext.refl,λ_ q=>q,.str [c],by simp [M.g8,b],rfl⟩
 stop:=λi G H _ a _=>by
  have a:=by simpa [M.g8]using a
  show(aC z).cps[i]? =y0
  simp [aC,a]
 keep:=λ_ _ _ _ _ _ _ _=>trivial
def xk (a: ¬ ∃ i xs,M.Gn τ i=k0 (.own xs)/\U[i]? =k0 (k0 (.ref l))):wm τ U H l=H l:=by
 unfold wm
 rw [if_neg a]
def Xp (s:ao Y G τ h U H)(e:M.Gn τ i=k0 (.own xs)) (c:U[i]? =k0 (k0 (.ref l))): ¬G.fz l/\du G l/\ ∃vs,H l=k0 (.lst vs)/\aa Y G H xs vs:=by
 obtain⟨v,b,a,vs,j,d,k,f,g⟩:=s.slot i _ e
 rw [c]at b
 cases b
 cases j
 exact⟨d,k,vs,f,g⟩
def Wx (s:ao Y G τ h U H):Mon G H G (wm τ U H):=by
 refine⟨λa o z e=> ?_,Aa9 _,λ_ _=>rfl,λ_ z=>z⟩
 rw [xk λ⟨i,d,c,b⟩=>(Xp s c b).1 z]
 exact e
def Ej (r:Go Y F X E k cf) (I:PE X x (tD Y E (M.eval F a))):PI X tg x (gs Y E k9 (M.Gk F (.seq a))):=by
 refine PI.imp (nG I) λU H R B=> ?_
 obtain⟨G,L,h,s,p⟩:=B
 rw [M.Gk]at p
 refine Wa s.heap Ext.refl s p λD v1 A n c e1 K q m N f=> ?_
 have lst: ∀ {e:List M.D},aw Y E G H (.ok e A) (λe x y t=> ∀J C,xK Y J e C->C y t->(k9=u0->C y (wm L U t))->R J t)->(∃ l b,v1= .ref l/\lE Y n c l b/\aa Y n c e b) →
  (∃ a,v1= .ref a/\(∃ u,bu X.K c a u)/\R (iY X.K a) c)\/(∃ a,v1= .ref a/\(∃ u,cA X.K c a u)/\R (i7 X.K a) c)\/ ∃z,v1= .str z/\R (iK z) c:=λ{e} p ⟨l,b,j,g,o⟩=>
  .inl ⟨l,j,⟨b,r.K▸g.sq⟩,p n c e1 q.heap _ _ (CL.walk (vs:=b) r.K) ⟨g,o⟩ λz=>absurd z Ab2⟩
 cases D with
 | v d=>
  cases d with
  | tup e=>
   obtain⟨l,b,rfl,g,i⟩:=m
   exact .inr (.inl ⟨l,rfl,⟨b,r.K▸g.sq⟩,f n c e1 q.heap _ _ (CT.walk (vs:=b) r.K) ⟨g,i⟩ λz=>absurd z Ab2⟩)
  | lst e=>obtain⟨l,b,j,g,i⟩:=m;exact lst f ⟨l,b,j,g.oZ q.heap,i⟩
  | aj=>exact f.elim
  | bl _=>exact f.elim
  | int _=>exact f.elim
  | str z=>
   cases (show v1= .str (aC z)from m)
   exact .inr (.inr ⟨_,rfl,f n c e1 q.heap _ _ XG trivial λz=>absurd z Ab2⟩)
  | ref _=>exact f.elim
 | own e=>obtain⟨l,b,j,_,i,o,w⟩:=m;exact lst f ⟨l,b,j,.inl ⟨.inl o,i⟩,w⟩
 | bor e=>obtain⟨l,b,j,i,o,w⟩:=m;exact lst f ⟨l,b,j,.inl ⟨o,i⟩,w⟩
def C4 (n:Int):((Aa5 n.toNat).map λ(i:Nat)=>M.D.int (i:Int))=(Aa5 n.toNat).map λ(i:Nat)=>M.D.int (0+(i:Int)):=by
 congr 1;funext i;rw [Int.zero_add]
def AW: "range" ∈cF:=by decide
def QI (e:Go Y F X E k cf)(f:cH cf.sc "range" g=true) (d:Xb x=true) (o:PE X x (tD Y E (M.eval F a))):PI X tg (.Call g [x] [] pos) (gs Y E lp (M.Gk F (.av a))):=by
 obtain⟨p,rfl,i,w⟩:=Qd f
 refine PI.imp (BI (e.gl _ i) (e.blt _ AW) (Wi o Qr (Qb d)) (Qb d)) λU H R j=> ?_
 obtain⟨G,A,h,s,p⟩:=j
 refine Wa s.heap Ext.refl s p λy v1 v u l e1 r m t z b=> ?_
 obtain⟨n,q,b⟩:=b.of
 split at b
 ·rename_i c
  rw [M.GQ]at c
  cases t.int q
  rw [C4]at b
  exact⟨n,rfl,c.1,c.2,b u l e1 m.heap _ _ CM trivial λ_=>trivial⟩
 ·exact b.elim
end
section
variable {Y:Ge}{F:M.Fx}{X:Cx}{E:XK}{k:Nat}{cf:Cf}
theorem zl: ∀(τ) (i j) (w),M.Gn (M.GC τ i w) j=if j=i/\i<τ.length then k0 w else M.Gn τ j
 | [],i,j,w=>by simp
 | x::r,0,0,w=>by simp
 | x::r,0,j+1,w=>by simp
 | x::r,i+1,0,w=>by simp
 | x::r,i+1,j+1,w=>by
  have:=zl r i j w
  simp only [M.GC,M.Gn,this,Aa6]
  by_cases h:j=i/\i<r.length
  ·rw [if_pos h,if_pos (by omega)]
  ·rw [if_neg h,if_neg (by omega)]
theorem Xv: ∀(τ) (i) (w),(M.GC τ i w).length=τ.length
 | [],_,_=>rfl
 | _::_,0,_=>rfl
 | _::r,i+1,w=>by simp [Xv r i w]
theorem Zv: ∀ {τ}{i}{w},M.Gn τ i=k0 w->i<τ.length
 | [],_,_,e=>by simp at e
 | _::_,0,_,_=>by simp
 | _::r,i+1,w,e=>by
  have:=Zv (by simpa using e)
  simp;omega
theorem ao.set (s:ao Y G τ h U H)(r:ah Y G H w v)
 (l:fZ w=u0-> ∀ j L,j≠i->M.Gn τ j=k0 L->fZ L=u0-> ∀a,v= .ref a->U[j]? ≠k0 (k0 (.ref a))):ao Y G (M.GC τ i w) h (U.set i (k0 v)) H where
 len:=by rw [Xv,Ae3];exact s.len
 slot:=λj L e=>by
  rw [zl]at e
  by_cases c:j=i/\i<τ.length
  ·rw [if_pos c]at e
   cases e
   obtain⟨rfl,c⟩:=c
   exact⟨v,Ab9 (by rw [← s.len];exact c),r⟩
  ·rw [if_neg c]at e
   have y:=λz=>c ⟨z,by subst z;exact Zv e⟩
   obtain⟨o,x,n⟩:=s.slot j L e
   exact⟨o,by rw [Ae0 (Ne.symm y)];exact x,n⟩
 apart:=λp q t L a b e1 e2 k g=>by
  rw [zl]at e1 e2
  by_cases d:p=i/\i<τ.length
  ·rw [if_pos d]at e1
   cases e1
   obtain⟨rfl,d⟩:=d
   rw [if_neg (λz=>b z.1.symm)]at e2
   rw [Ab9 (by rw [← s.len];exact d)]at g
   cases g
   rw [Ae0 b]
   exact l rfl q L (Ne.symm b) e2 k a rfl
  ·rw [if_neg d]at e1
   have m:=λz=>d ⟨z,by subst z;exact Zv e1⟩
   rw [Ae0 (Ne.symm m)]at g
   by_cases f:q=i/\i<τ.length
   ·rw [if_pos f]at e2
    cases e2
    obtain⟨rfl,f⟩:=f
    rw [Ab9 (by rw [← s.len];exact f)]
    intro z
    cases z
    exact l k p _ m e1 rfl a rfl g
   ·rw [if_neg f]at e2
    have u:=λz=>f ⟨z,by subst z;exact Zv e2⟩
    rw [Ae0 (Ne.symm u)]
    exact s.apart p q t L a b e1 e2 k g
 heap:=s.heap
def ao.eg (s:ao Y G τ h U H)(r:aA Y G H d v):ao Y G (M.GC τ i (.v d)) h (U.set i (k0 v)) H:=s.set r λz=>by cases z
def gE:List Nat->List V->St->St
 | i::is,v::a,U=>gE is a (U.set i (k0 v))
 | _,_,U=>U
theorem XN : ∀ {is}{ds}{vs}{τ j}{U},M.aY is ds τ=k0 j->aa Y G H ds vs->ao Y G τ h U H->ao Y G j h (gE is vs U) H/\is.length=vs.length
 | [],[],_,_,_,_,e,rfl,s=>by cases e;exact⟨s,rfl⟩
 | [],_::_,_,_,_,_,e,_,_=>by simp [M.aY]at e
 | _::_,[],_,_,_,_,e,_,_=>by simp [M.aY]at e
 | i::is,d::ds,_,_,_,_,e,⟨v,r,rfl,a,b⟩,s=>by
  obtain⟨c,f⟩:=XN (by simpa [M.aY]using e) b (s.eg a)
  exact⟨c,congrArg (· +1) f⟩
def gM (Y:Ge) (tg:List Nat) (one:Bool):TG:=λv U H Q=>match one with
 | true=> ∃i,tg= [i]/\Q (U.set i (k0 v)) H
 | false=> ∃G ds b a,v= .ref a/\eW Y G H a b/\aa Y G H ds b/\tg.length=b.length/\Q (gE tg b U) H
theorem wZ (b:Go Y F X E k cf): ∀ {is}{es},qu cf is es=u0->lu X es (λvs U H Q=>vs.length=is.length/\Q (gE is vs U) H)
 | [],[],_=>λa s U H vs d Q I r h=>by
  have c:=Ai5 h.1
  subst c
  exact sC a s U H [] d Q I r ⟨rfl,h.2⟩
 | [],_::_,h=>by simp [qu]at h
 | _::_,[],h=>by simp [qu]at h
 | i::is,e::es,h=>by
  cases e with
  | Name x p=>
   simp only [qu,Aa0,decide_eq_true_eq]at h
   obtain⟨⟨g,j⟩,l⟩:=h
   have m:=wZ b l
   have c:=b.iR x j
   have f:=jS (j7 (pos:=p) (by rw [b.N];exact b.nd) (by rw [b.N];exact g) c.1 c.2) m
   intro a s U H vs d Q I r q
   refine f a s U H vs d Q I r ?_
   cases vs with
   | nil=>simp at q
   | cons v vs=>
    refine⟨v,vs,rfl,?_⟩
    exact⟨by simpa using q.1,q.2⟩
  | _=>simp [qu]at h
theorem ve : ∀ {is}{es},qu cf is es=u0->(assignEach es env).length=is.length/\(assignEach es env).findIdx? (·.1)=y0
 | [],[],_=>⟨rfl,rfl⟩
 | [],_::_,h=>by simp [qu]at h
 | _::_,[],h=>by simp [qu]at h
 | i::is,e::es,h=>by
  cases e with
  | Name x p=>
   simp only [qu,Aa0]at h
   obtain⟨a,b⟩:=ve h.2
   have e1:assignEach (.Name x p::es) env=(k9,assign (.Name x p) env)::assignEach es env:=rfl
   rw [e1]
   refine⟨congrArg (· +1) a,?_⟩
   rw [List.findIdx?_cons]
   simp [b]
  | _=>simp [qu]at h
def qz (c:Go Y F X E k cf)(h:qf cf tg one e=u0):PG X e (gM Y tg one):=by
 cases one with
 | true=>
  cases e with
  | Name x p=>
   simp [qf,Aa0]at h
   cases tg with
   | nil=>simp at h
   | cons i r=>
    cases r with
    | cons _ _=>simp at h
    | nil=>
     simp only [qu,Aa0,decide_eq_true_eq]at h
     obtain⟨_,⟨m,t⟩,_⟩:=h
     have l:=c.iR x t
     have d:=j7 (pos:=p) (by rw [c.N];exact c.nd) (by rw [c.N];exact m) l.1 l.2
     intro b s U H v u Q I r q
     obtain⟨j,e,q⟩:=q
     cases e
     exact d b s U H v u Q I r q
  | _=>simp [qf]at h
 | false=>
  cases e with
  | Tuple A n p=>
   have h:=h
   obtain⟨y,f⟩:=ve h
   have d:=sE (k:=n) (pos:=p) c.calm (wZ c h) y f
   intro b s U H v u Q I r q
   obtain⟨G,B,o,a,rfl,w,z,g,q⟩:=q
   exact d b s U H _ u Q I r ⟨a,o,rfl,c.K▸w.sq,g.symm,g.symm,q⟩
  | _=>simp [qf]at h
def xn (k) (l): ∀ i,M.Gn (Aa3 k y0++l) (k+i)=M.Gn l i:=by
 induction k with
 | zero=>intro i;simp
 | succ k a=>intro i;rw [Ae4,show k+1+i=(k+i)+1 by lia];exact a i
def jv (k) (l): ∀ {i},i<k->M.Gn (Aa3 k y0++l) i=none:=by
 induction k with
 | zero=>intro i h;lia
 | succ k a=>
  intro i h
  cases i with
  | zero=>rfl
  | succ i=>rw [Ae4];exact a (by lia)
theorem wG: ∀(l) (i),M.Gn l i=(l[i]?).join
 | [],_=>by simp
 | _::_,0=>by simp
 | _::r,i+1=>by simpa using wG r i
def zN (s:ao Y G τ h U H)(e:M.Gj τ j=k0 w): ∃v,U[j]? =k0 (k0 v)/\ah Y G H w v/\(fZ w=u0-> ∃i,M.Gn τ j=k0 i/\fZ i=u0)/\mR w=true:=by
 unfold M.Gj at e
 cases q:M.Gn τ j with
 | none=>rw [q]at e;cases e
 | some i=>
  obtain⟨v,b,c⟩:=s.slot j i q
  rw [q]at e
  cases i with
  | v d=>cases e;exact⟨v,b,c,λz=>(by cases z),rfl⟩
  | own l=>cases e;obtain⟨a,f,n,o,m,g,k⟩:=c;exact⟨v,b,⟨a,f,n,m,.inl g,k⟩,λ_=>⟨_,rfl,rfl⟩,rfl⟩
  | bor l=>cases e;exact⟨v,b,c,λ_=>⟨_,rfl,rfl⟩,rfl⟩
def gN (k:Nat) (aB:List Nat) (τ:M.Sl):M.Sl:=Aa3 k y0++aB.map λj=>M.Gj τ j
def ES (s:ao Y G τ h U H) (kk) (aB)(b:Ub.length=kk+aB.length) (d: ∀i,i<aB.length->Ub[kk+i]? =k0 ((U[aB.getD i 0]?).join)):
 ao Y G (gN kk aB τ) h Ub H where
 len:=by unfold gN;rw [Aa8,Ad3,Aa,b]
 slot:=λi w e=>by
  unfold gN at e
  by_cases f:i<kk
  ·rw [jv kk _ f]at e;cases e
  ·obtain⟨j,rfl⟩: ∃j,i=kk+j:=⟨i-kk,by omega⟩
   rw [xn,wG,Ac2]at e
   cases q:aB[j]? with
   | none=>rw [q]at e;cases e
   | some c=>
    rw [q]at e
    have e:=e
    obtain⟨v,m,g,_⟩:=zN s e
    have n:=(Aa1.mp q).1
    refine⟨v,?_,g⟩
    rw [d j n,Ac6,q]
    show k0 ((U[c]?).join)=_
    rw [m]
    rfl
 apart:=λi j o w a k e1 e2 r p=>by
  exfalso
  unfold gN at e1
  by_cases f:i<kk
  ·rw [jv kk _ f]at e1;cases e1
  ·obtain⟨l,rfl⟩: ∃j,i=kk+j:=⟨i-kk,by omega⟩
   rw [xn,wG,Ac2]at e1
   cases q:aB[l]? with
   | none=>rw [q]at e1;cases e1
   | some c=>
    rw [q]at e1
    have e1:=e1
    obtain⟨_,_,_,_,z⟩:=zN s e1
    cases z
 heap:=s.heap
end
theorem Je {env:Env}{d:NameKind}(g:d≠ .free): ∀ {a:List (Str×NameKind)}{x},a.lookup x=k0 d →
 (a.map λ(n,k)=>if(k==NameKind.free&&env.scope.kind== .function&&env.kindOf n==k0 .cell)then(n,NameKind.cell)else(n,k)).lookup x=k0 d
 | [],_,h=>by simp at h
 | (n,k)::r,x,h=>by
  have j:= @Je env d g r x
  rw [Ab1]
  rw [Ab7]at h
  cases c:x==n with
  | true=>
   rw [c]at h
   have e:=by simpa using h
   subst e
   have i:(k==NameKind.free)=false:=by simpa using g
   simp only [i,Ae7,Ak3,if_false,Ab7,c]
  | false=>
   rw [c]at h
   have q:=j h
   by_cases b:(k==NameKind.free&&env.scope.kind== .function&&env.kindOf n==k0 .cell)=u0
   ·simp only [b,if_true,Ab7,c]
    exact q
   ·have f:=Ak6.mpr b
    simp only [f,Ak3,if_false,Ab7,c]
    exact q
section
variable {Y:Ge}{F:M.Fx}{X:Cx}{E:XK}{k:Nat}{cf:Cf}
structure iX (cf:Cf) (scope:Scope) (N:List Str) (k:Nat) (aB:List Nat):Prop where
 kind:scope.kind= .function
 A5:(scope.names.map Prod.fst).Nodup
 names: ∀y∈scope.names,y.2= .local->scope.names.lookup y.1=k0 .local
 free: ∀y∈scope.names,y.2= .free->cf.sc.names.lookup y.1=k0 .cell\/cf.sc.names.lookup y.1=k0 .free
 gA: ∀x∈N.drop k,scope.names.lookup x=k0 .free
 aB:zJ cf aB (N.drop k)=u0
 le:k<=N.length
 nd:N.Nodup
def jH (h:J6 cf scope N kk aB=u0):iX cf scope N kk aB:=by
 simp only [J6,Aa0,decide_eq_true_eq,Ai6]at h
 obtain⟨⟨⟨⟨⟨⟨⟨⟨j,k⟩,b⟩,d⟩,f⟩,c⟩,e⟩,i⟩,l⟩:=h
 exact⟨j,k,λy a=>b y a,λy a=>d y a,λx g=>f x g,c,e,i⟩
theorem XX (a:Go Y F X E k cf): ∀ {aB}{xs},zJ cf aB xs=u0->cz X aB xs
 | [],[],_=>trivial
 | [],_::_,h=>by simp [zJ]at h
 | _::_,[],h=>by simp [zJ]at h
 | j::e,x::xs,h=>by
  simp only [zJ,Aa0,decide_eq_true_eq]at h
  obtain⟨⟨c,d⟩,b⟩:=h
  exact⟨by rw [a.N];exact c,a.mE x d,XX a b⟩
def WX (a:Go Y F X E k cf)(h:iX cf scope N kk aB):qV X scope N kk aB:=
 ⟨h.kind,h.A5,h.names,λy b c=>a.mE y.1 (h.free y b c),h.gA,XX a h.aB,h.le⟩
def ui (h:wU sc x=u0):sc.names.lookup x=k0 .local\/sc.names.lookup x=k0 .cell\/sc.names.lookup x=k0 .free:=by
 unfold wU at h
 split at h
 ·rename_i q;exact .inl q
 ·rename_i q;exact .inr (.inl q)
 ·rename_i q;exact .inr (.inr q)
 ·cases h
def vI (h:iw sc x=u0):sc.names.lookup x=k0 .local\/sc.names.lookup x=k0 .cell:=by
 unfold iw at h
 split at h
 ·rename_i q;exact .inl q
 ·rename_i q;exact .inr q
 ·cases h
def pF (h:kT sc x=u0):sc.names.lookup x=k0 .globalImplicit:=by
 unfold kT at h
 split at h
 ·rename_i q;exact q
 ·cases h
def qD (b:Go Y F X E k cf){a:Scope}{N:List Str}{v:Nat}{aB:List Nat}(h:iX cf a N v aB) (C:Addr) (j:List Addr) (s:Shared) (H:Hp):Go Y F (Wd X N a C j s H) E0 k { cf with sc:=a,N:=N } where
 N:=rfl
 K:=b.K
 cl:=b.cl
 ow:=b.ow
 nd:=h.nd
 gW:=λx c=>by
  rcases ui c with q | q | q
  ·exact .inl (Je (by decide) q)
  ·exact .inr (.inl (Je (by decide) q))
  ·exact .inr (Zj q)
 r9:=λx c=>Je (by decide) c
 iR:=λx c=>by
  rcases vI c with q | q
  ·exact⟨.inl (Je (by decide) q),.inr (Je (by decide) q)⟩
  ·exact⟨.inr (Je (by decide) q),.inl (decide_eq_true q)⟩
 mE:=λx c=>by
  rcases c with q | q
  ·exact .inl (Je (by decide) q)
  ·exact Zj q
 gl:=λx c=>Je (by decide) (pF c)
 calm:=b.calm
 room:=b.room
 dZ:=b.dZ
 pass:=λd U w y e i _ o=>o.elim
 blt:=b.blt
 con:=b.con
 fn:=λf m=>by
  obtain⟨g,r,p,n,t,u,l⟩:=(b.fn f m).imp λg h=>h.ex
  exact⟨g,⟨r,p,n,t,u,l⟩⟩
 cls:=b.cls
 fld:=b.fld
 ki:=b.ki
 eO:=b.eO
theorem vQ: ∀(is) (vs) (U) (j),j∉is->(gE is vs U)[j]? =U[j]?
 | [],_,_,_,_=>rfl
 | _::_,[],_,_,_=>rfl
 | i::is,v::vs,U,j,h=>by
  show(gE is vs (U.set i (k0 v)))[j]? =U[j]?
  rw [vQ is vs _ j λz=>h (Aa2 _ z),Ae0 (λz:i=j=>h (by rw [z];exact Aa4))]
theorem QJ: ∀(is) (vs) (U),(gE is vs U).length=U.length
 | [],_,_=>rfl
 | _::_,[],_=>rfl
 | i::is,v::vs,U=>by
  show(gE is vs (U.set i (k0 v))).length=U.length
  rw [QJ is vs,Ae3]
def ae (e:M.Gp tg one d τ=k0 τ') (r:aA Y G H d x) (s:ao Y G τ h U H)
 (g: ∀L,ao Y G τ' h L H->(∀ j,j∉tg->L[j]? =U[j]?)->L.length=U.length->Q L H):gM Y tg one x U H Q:=by
 cases one with
 | true=>
  cases tg with
  | nil=>cases e
  | cons i l=>
   cases l with
   | cons _ _=>cases e
   | nil=>
    cases e
    exact⟨i,rfl,g _ (s.eg r) (λj c=>Ae0 λz=>c (by simp [z])) (Ae3 ..)⟩
 | false=>
  cases d with
  | tup m=>
   obtain⟨a,b,rfl,k,f⟩:=r
   obtain⟨o,n⟩:=XN (e) f s
   exact⟨G,m,b,a,rfl,k,f,n,g _ o (λj c=>vQ tg b U j c) (QJ tg b U)⟩
  | _=>cases e
def J9 {step:M.D->M.AH->M.R (Option M.D)}(e:M.Gy step (x::ds) h= .ok ys hf): ∃o h1 r,step x h= .ok o h1/\M.Gy step ds h1= .ok r hf/\ys=(match o with | some y=>y::r | none=>r):=by
 rw [M.Gy]at e
 split at e
 ·rename_i o h1 e1
  split at e
  ·rename_i r a e2
   cases e
   exact⟨o,h1,r,e1,e2,rfl⟩
  ·cases e
 ·cases e
def lx (F:M.Fx) (tg:List Nat) (one:Bool) (f:M.Sl) (a:Bool) (c elt:M.E):M.D->M.AH->M.R (Option M.D):=λd h=>match M.Gp tg one d f with
 | none=> .fail
 | some e=>(if a then(M.eval F c e h).bind λx h=>M.R.of h (M.G6 h x)else .ok u0 h).bind λb h=>match b with
  | true=>(M.eval F elt e h).bind λy h=>(M.R.of h y.d).bind λy h=> .ok (k0 y) h
  | false=> .ok y0 h
def EH :M.eval F (.comp tg one kk aB it y7 c elt) τ h=(M.Gk F it τ h).bind λds h=>
 if ds.length<=M.bh then(M.Gy (lx F tg one (gN kk aB τ) y7 c elt) ds h).bind λys h=> .ok (.own ys) h else .fail:=by
 rw [M.eval];rfl
noncomputable def km (F:M.Fx) (a:Bool) (c:M.E):M.Sl->M.AH->M.R Bool:=λτ h=>if a then M.Gm F c τ h else .ok u0 h
def xh {d c:Type}{r:M.R d}{f:d->M.AH->M.R c}{b:c}{h:M.AH}(e:r.bind f= .ok b h): ∃a h1,r= .ok a h1/\f a h1= .ok b h:=by
 cases r with
 | ok a h1=>exact⟨a,h1,rfl,e⟩
 | fail=>cases e
def X6 (a:Wg iter=u0): ∀v,foldedSetIterable iter env v=pure v:=λv=>by cases iter<;>first | rfl | (simp [Wg]at a)
def sZ {tg:List Nat}{one e:Bool}{u:Nat}{aB:List Nat}{it:M.It}{c elt:M.E}(htk: ∀i∈tg,i<u){U:St}{H:Hp}{Q:VK}(h0:tD Y E (M.eval F (.comp tg one u aB it e c elt)) U H Q):
 mO u aB (gs Y E k9 (M.Gk F it)) (λ_ _ _ _=>gM Y tg one) (λ_ _ _ _=>cV Y E0 (km F e c)) (λ_ _ _ _=>tD Y E0 (M.eval F elt)) U H Q:=by
 obtain⟨G,L,h,s,p⟩:=h0
 rw [EH]at p
 refine⟨G,L,h,s,?_⟩
 cases qi:M.Gk F it L h with
 | fail=>rw [qi]at p;exact p
 | ok k h1=>
  rw [qi]at p
  intro G1 H1 e1 B J C R c0 _ Ca fp st
  have p:aw Y E G H (if k.length<=M.bh then(M.Gy (lx F tg one (gN u aB L) e c elt) k h1).bind λZ h=> .ok (.own Z) h else .fail) λw q l g=> ∀v,ah Y l g w v->aI L U H w v->Q v g:=p
  by_cases hL:k.length<=M.bh
  rotate_left
  ·rw [if_neg hL]at p;exact p.elim
  rw [if_pos hL]at p
  cases qc:M.Gy (lx F tg one (gN u aB L) e c elt) k h1 with
  | fail=>rw [qc]at p;exact p.elim
  | ok Z hf=>
   rw [qc]at p
   have p:aw Y E G H (.ok (M.W.own Z) hf) λw q l g=> ∀v,ah Y l g w v->aI L U H w v->Q v g:=p
   have hLs:=Jj
   refine⟨λi m yv Ub g=> ∃l q done jn,(m=k.length-i/\i<=k.length/\done.length<=i)/\Ext G1 H1 l g/\ag Y l q g/\C l g/\aa Y l g done yv ∧
    M.Gy (lx F tg one (gN u aB L) e c elt) (k.drop i) q= .ok jn hf/\Z=done++jn/\Ub.length=u+aB.length/\ ∀j,j<aB.length->Ub[u+j]? =k0 ((U[aB.getD j 0]?).join),⟨k.length,?_⟩,?_⟩
   ·refine⟨G1,h1,[],Z,⟨by simp,Af3 _,Aa9 _⟩,Ext.refl,B,c0,rfl,qc,rfl,?_,λj hj=> ?_⟩
    ·unfold lX;rw [Aa8,Ad3,Aa]
    ·unfold lX
     rw [Ad9 (by simp),Ad3,Am5,Ac2,Aa7 hj,Ac6,Aa7 hj]
     rfl
   ·rintro i m yv Ub g ⟨l,q,done,jn,⟨rfl,hi',hd⟩,e2,f,P,rd,qg,I,n,K⟩
    have ldone:=rd.length
    by_cases y:i<k.length
    ·refine .inr ⟨R.go i l g P y,by omega,_,λyv' Ub' X w=>⟨k.length-(i+1),by omega,w⟩,λx X hy=> ?_⟩
     obtain⟨G4,x4,hx4,d,ed,rdx⟩:=R.eX i l g x X P y hy
     have P:=R.keep _ _ _ _ q P x4 f
     have rd:=rd.ext x4 f
     have e2:=e2.trans B x4
     have f:=hx4 _ f
     have edr:k.drop i=d::k.drop (i+1):=by
      rw [Am1 y]
      rw [Aa7 y]at ed
      cases ed
      rfl
     rw [edr]at qg
     obtain⟨o,h2,r,S,qg2,er⟩:=J9 qg
     unfold lx at S
     cases qb:M.Gp tg one d (gN u aB L)with
     | none=>rw [qb]at S;cases S
     | some A=>
      rw [qb]at S
      have so:=s.ext (e1.trans s.heap e2) f
      have sb:=ES so u aB n K
      refine ae qb rdx sb λU2 s2 same V=> ?_
      have t: ∀j,j<aB.length->U2[u+j]? =k0 ((U[aB.getD j 0]?).join):=λj hj=>by
       rw [same _ λz=>by have:=htk _ z;omega];exact K j hj
      obtain⟨b,h3,N,a⟩:=xh (show (km F e c A q).bind _=_ from S)
      refine⟨G4,A,q,s2,?_⟩
      rw [N]
      intro G3 H3 T W
      have s3:=s2.ext T W
      cases b with
      | false=>
       refine nM ?_
       have a:M.R.ok (none:Option M.D) h3= .ok o h2:=a
       cases a
       exact⟨G3,_,done,r,⟨rfl,by omega,by omega⟩,e2.trans B T,W,R.keep _ _ _ _ q P T f,rd.ext T f,qg2,by rw [I,er],by rw [V];exact n,t⟩
      | true=>
       refine nW ?_
       obtain⟨w,h4,qe,a⟩:=xh (show (M.eval F elt A h3).bind _=_ from a)
       refine⟨G3,A,h3,s3,?_⟩
       rw [qe]
       intro G4 H4 e4 hr4 v rw' fw
       obtain⟨dd,h5,qd,a⟩:=xh (show (M.R.of h4 w.d).bind _=_ from a)
       cases qw:w.d with
       | none=>rw [qw]at qd;cases qd
       | some d'=>
        rw [qw]at qd
        cases qd
        cases (show M.R.ok (k0 dd) h4= .ok o h2 from a)
        have s4:=s3.ext e4 hr4
        obtain⟨G5,e5,s5,rdv,m5⟩:=o5 e4 s4 s3 rw' fw qw
        have O:=T.trans f e5
        refine⟨G5,_,done++ [dd],r,⟨rfl,by omega,by rw [Aa8,List.length_singleton];omega⟩,e2.trans B O,s5.heap,R.keep _ _ _ _ q P O f,(rd.ext O f).append ⟨v,[],rfl,rdv,rfl⟩,qg2,?_,by rw [V];exact n,t⟩
        rw [I,er]
        simp
    ·have ei:i=k.length:=by omega
     subst ei
     rw [List.drop_length]at qg
     cases (show M.R.ok ([]:List M.D) q= .ok jn hf from qg)
     rw [Af0]at I
     subst I
     exact .inl ⟨R.stop _ l g P (Aa9 _) (Aa9 _),by omega,λD hD=>az.own (az.mk p (e1.trans s.heap e2) s.heap) f rd D hD⟩
def FN (e:Go Y F X E k cf)(a:iX cf scope N kk aB)
 (l:aB.length=(N.drop kk).length) (d:qf { cf with sc:=scope,N:=N } tg one t=u0) (f: ∀i∈tg,i<kk) (b:Wg iter=u0)
 (m:PI X t iter (gs Y E k9 (M.Gk F it)))
 (g: ∀C fp s H,PE (Wd X N scope C fp s H) y (tD Y E0 (M.eval F elt)))
 (j: ∀C fp s H,gv (Wd X N scope C fp s H) ifs (cV Y E0 (km F y7 c))):
 PE X (.ListComp y [⟨t,iter,ifs,0⟩] scope pos) (tD Y E (M.eval F (.comp tg one kk aB it y7 c elt))):=
 PE.imp (F3 (WX e a) m (λC fp s H=>qz (qD e a C fp s H) d) j g e.calm (X6 b)) λU H Q h=>sZ f h
def J5 (a:Go Y F X E k cf)(p:cf.N[i]? =k0 x) (m:iw cf.sc x=u0)(h:swapsWith (.ListComp y [⟨t,iter,ifs,0⟩] scope p0) (k0 (.Name x pos2)) pos.line X.env=pure u0) (e:iX cf scope N kk aB)
 (u:aB.length=(N.drop kk).length) (g:qf { cf with sc:=scope,N:=N } tg one t=u0) (f: ∀i∈tg,i<kk) (b:Wg iter=u0)
 (n:PI X t iter (gs Y E k9 (M.Gk F it)))
 (o: ∀C fp s H,PE (Wd X N scope C fp s H) y (tD Y E0 (M.eval F elt)))
 (r: ∀C fp s H,gv (Wd X N scope C fp s H) ifs (cV Y E0 (km F y7 c))):
 PS X (.Assign [.Name x pos2] (.ListComp y [⟨t,iter,ifs,0⟩] scope p0) pos) (gU (tD Y E (M.eval F (.comp tg one kk aB it y7 c elt))) (qY i)):=by
 have l:=a.iR x m
 have j:=By (by rw [a.N];exact a.nd) (by rw [a.N];exact p) l.1 (WX a e) n (λC fp s H=>qz (qD a e C fp s H) g) r o h a.calm (X6 b) l.2
 exact λd s U H D I q=>j d s U H D I (sZ f q)
def Zr (b:Go Y F X E k cf)(h1:cf.N[i]? =k0 x) (c:wU cf.sc x=u0) (a:bg x=u0):PE X (.Name x p) (mn i):=by
 unfold bg at a
 rw [Aa0]at a
 exact zH (by rw [b.N];exact h1) (b.gW x c) (by simpa using a.1) (by simpa using a.2)
def sH: "dict" ∈cF:=by decide
def K7 (u:Go Y F X E k cf)(h1:cf.N[i]? =k0 y) (e:wU cf.sc y=u0) (g:bg y=u0) (m:PE X x (tD Y E (M.eval F a))):PE X (.Compare x [mK neg] [.Name y j] pos) (tD Y E (M.eval F (.cQ neg a i))):=by
 refine PE.imp (sx (vd neg) m (Zr u h1 e g) (Jr rfl)) λU H Q f=> ?_
 obtain⟨G,D,h,s,p⟩:=f
 refine Wa s.heap Ext.refl s p λB v1 h1 t A e1 n b o C j=> ?_
 unfold M.cQ at j
 split at j
 ·rename_i q r I c
  cases o
  obtain⟨l,z,w,d,v⟩:=Jo b c
  exact⟨_,l,aC q,_,_,rfl,rfl,d,by rw [o3 v];exact j t _ e1 b.heap _ rfl trivial⟩
 ·exact j.elim
def Ed (u:Go Y F X E k cf)(h1:cf.N[i]? =k0 y) (e:wU cf.sc y=u0) (g:bg y=u0) (m:PE X x (tD Y E (M.eval F a))):PT X (.Compare x [mK neg] [.Name y j] pos) (cV Y E (M.Gm F (.cQ neg a i))):=by
 refine PT.imp (uJ (vd neg) m (Zr u h1 e g) (Jr rfl)) λU H Q f=> ?_
 obtain⟨G,D,h,s,p⟩:=f
 unfold M.Gm at p
 rw [M.eval,qh]at p
 refine Wa s.heap Ext.refl s p λB v1 h1 t A e1 n b o C j=> ?_
 unfold M.cQ at j
 split at j
 ·rename_i q r I c
  cases o
  obtain⟨l,z,w,d,v⟩:=Jo b c
  exact⟨_,l,aC q,_,_,rfl,rfl,d,_,rfl,by rw [o3 v];exact j t _ e1 b.heap⟩
 ·exact j.elim
def Dx (J:Go Y F X E k cf)(h1:cf.N[i]? =k0 y) (t:wU cf.sc y=u0) (w:bg y=u0) (o:Wc x=u0) (z:PE X x (tD Y E (M.eval F a))):PE X (.Subscript (.Name y j) x pos) (tD Y E (M.eval F (.eE i a))):=by
 refine PE.imp (nY sJ (Zr J h1 t w) z (JP o)) λU H Q u=> ?_
 obtain⟨G,B,h,s,p⟩:=u
 rw [M.eval]at p
 cases q:M.GT h (M.Gn B i)with
 | none=>rw [q]at p;exact p.elim
 | some I=>
  obtain⟨S,f⟩:=I
  rw [q]at p
  have sl:=(Jo s q).1
  refine⟨_,sl,?_⟩
  refine Wa s.heap Ext.refl s p λP v1 h1 V O e1 A c C R j=> ?_
  unfold M.eE at j
  split at j
  ·rename_i D r T m
   cases C
   obtain⟨e,N,L,n,K⟩:=Jo c m
   have b:=by rw [sl]at e;exact Ad5.inj (Ad5.inj e)
   split at j
   ·rename_i d l
    obtain⟨v,g,rv⟩:=p6 K l
    exact⟨aC D,_,_,v,rfl,b,n,g,(az.mk j e1 s.heap).v c.heap rv⟩
   ·exact j.elim
  ·exact j.elim
def Ay (e:Go Y F X E k cf)(n:cH cf.sc "dict" g=true) (h1:cf.N[i]? =some y) (t:wU cf.sc y=true) (v:bg y=true):PE X (.Call g [.Name y p1] [] pos) (tD Y E (M.eval F (.ef i))):=by
 obtain⟨p,rfl,j,B⟩:=Qd n
 refine PE.imp (wz Lz (e.gl _ j) (e.blt _ sH) (by decide +kernel) (Wi (Zr e h1 t v) Qr rfl) (Xx sH) B rfl rfl) λU H Q u=> ?_
 obtain⟨G,x,h,s,p⟩:=u
 rw [M.eval]at p
 cases q:M.GT h (M.Gn x i)with
 | none=>rw [q]at p;exact p.elim
 | some A=>
  obtain⟨r,f⟩:=A
  rw [q]at p
  obtain⟨w,l,d,m,C⟩:=Jo s q
  refine⟨_,w,_,_,rfl,m,λa b=> ?_⟩
  have p:=p
  have e1:Ext G H G (aL H a (dS (dr f d))):=qs _ b
  have c:=s.heap.new (dS (dr f d)) b
  refine aw.val p (xx e1 b) (JF c (λz=>by obtain⟨o,q⟩:=s.heap.live a z;rw [b]at q;cases q) (s.heap.fL b) ⟨l,d,Zc,C.ext e1 s.heap⟩) ?_ trivial
  show h.length<G.n+1/\V.ref a= .ref (if h.length=G.n then a else G.aR h.length)
  rw [s.heap.len,if_pos rfl]
  exact⟨Ag _,rfl⟩
def E4 (a:M.GN d=u0) (z:aA Y G H d v):aA Y G' H' d v:=by
 cases d<;>first | exact z | exact absurd a (by simp)
def Lg (e:Ext G H G1 H1) (d:H a=y0):Ext G H G1 (aL H1 a o):=
 ⟨λb u z c=>by rw [Qa (λq:b=a=>by rw [q,d]at z;cases z)];exact e.keep b u z c,e.le,e.aR,e.new,e.fz,e.old,λr f z=>by
   obtain⟨u,z⟩:=z
   obtain⟨h,g⟩:=e.cells r f ⟨u,z⟩
   exact⟨h,by rw [Qa (λq:G.aR r=a=>by rw [q,d]at z;cases z)];exact g⟩⟩
def CV (d:ag Y G h H) (f: ¬G.fz a) (of:du G a):ag Y G h (aL H a o):=by
 have mon:Mon G H G (aL H a o):=⟨λb u z q=>by rw [Qa (λe:b=a=>f (e▸z))];exact q,Aa9 _,λ_ _=>rfl,λ_ z=>z⟩
 refine⟨d.len,λq c e=>⟨(d.any q c e).1,(d.any q c e).2.mon mon λu z=>by rw [Qa (of q (d.lt e))];exact z⟩,d.inj,λb z=> ?_⟩
 obtain⟨u,q⟩:=d.live b z
 exact⟨u,by rw [Qa (λe:b=a=>f (e▸z))];exact q⟩
def gF (G:Gh) (H:Hp) (a:Addr) (o:HO):Prop:=H a=k0 o/\ ¬G.fz a/\du G a
def gF.ext (l:gF G H a o) (e:Ext G H G1 H1):gF G1 H1 a o:=
 ⟨e.keep a o l.1 l.2.2,λz=>(e.old a z).elim l.2.1 (λq=>by rw [l.1]at q;cases q),e.off l.1 l.2.2⟩
def Mc {a b c k:M.Tx}(i:ah Y G H w1 v1) (h:ah Y G H w2 v2) (j:ah Y G H w3 v3) (e: [(a,w1),(b,w2),(c,w3)].lookup k=k0 w): ∃v,[(aC a,v1),(aC b,v2),(aC c,v3)].lookup (aC k)=k0 v/\ah Y G H w v:=by
 simp [Ab7,List.lookup_nil]at e ⊢
 simp [n8]
 cases g:k==a with
 | true=>rw [g]at e;cases e;exact⟨v1,rfl,i⟩
 | false=>
  rw [g]at e
  cases f:k==b with
  | true=>rw [f]at e;cases e;exact⟨v2,rfl,h⟩
  | false=>
   rw [f]at e
   cases d:k==c with
   | true=>rw [d]at e;cases e;exact⟨v3,rfl,j⟩
   | false=>rw [d]at e;cases e
def Ip (go:Go Y F X E k cf)(h1:cf.N[i]? =k0 x) (C:wU cf.sc x=u0) (D:bg x=u0) (n:hV k1 q1=u0) (m:hV k2 q2=u0) (r:hV k3 q3=u0) (S: [k1,k2,k3].Nodup)
 (ha:PE X y1 (tD Y E (M.eval F a))) (hb:PE X y2 (tD Y E (M.eval F b))) (hc:PE X y3 (tD Y E (M.eval F c))):PE X (.Subscript (.Dict [q1,q2,q3] [y1,y2,y3] L) (.Name x p2) pos) (tD Y E (M.eval F (.fu k1 a k2 b k3 c i))):=by
 obtain⟨j1,P,rfl⟩:=nZ n
 obtain⟨Z,o2,rfl⟩:=nZ m
 obtain⟨j3,W,rfl⟩:=nZ r
 have ok:kX X [aC k1,aC k2,aC k3] [tD Y E _,tD Y E _,tD Y E _] [k0 (.Constant (.str (aC k1)) j1 P),k0 (.Constant (.str (aC k2)) Z o2),k0 (.Constant (.str (aC k3)) j3 W)] [y1,y2,y3]:=
  ⟨_,_,_,_,_,_,_,rfl,rfl,rfl,ha,_,_,_,_,_,_,_,rfl,rfl,rfl,hb,_,_,_,_,_,_,_,rfl,rfl,rfl,hc,rfl,rfl,rfl⟩
 refine PE.imp (nY sJ (AJ ok (by simp) (show 3<=15 by decide) (Ao2.map (l:= [k1,k2,k3]) aC (λa b z q=>z (WB q)) S)) (Zr go h1 C D) (JP rfl)) λU H Q qq=> ?_
 obtain⟨G,τ,h,s,p⟩:=qq
 rw [M.eval]at p
 intro t e
 have A:Ext G H G (aL H t (dS [])):=qs _ e
 have T:ao Y G τ h U _:=s.ext A (s.heap.new _ e)
 have V:gF G (aL H t (dS [])) t _:=⟨Zc,s.heap.ik e,s.heap.fL e⟩
 refine Wa s.heap A T p λw1 v1 h1 G1 H1 e1 y B R f1 L=> ?_
 refine Wa s.heap e1 B L λw2 v2 C G2 H2 e2 j o r2 f2 p2=> ?_
 refine Wa s.heap e2 o p2 λw3 v3 D G3 H3 e3 g J O f3 f=> ?_
 have w:=((V.ext y).ext j).ext g
 refine⟨w.1,?_⟩
 unfold M.fu at f
 split at f
 ·rename_i I es
  obtain⟨v,N,rv⟩:=J.slot i _ es
  cases (show v= .str (aC I)from rv)
  split at f
  ·rename_i d K
   split at f
   ·rename_i hf
    obtain⟨u,eu,ru⟩:=Mc ((R.ext j B.heap).ext g o.heap) (r2.ext g o.heap) O K
    exact⟨_,N,aC I,_,_,u,rfl,rfl,Zc,eu,aw.val f (Lg e3 e) (CV J.heap w.2.1 w.2.2) (v:=u) (show aA Y G3 _ d u from E4 hf ru) trivial⟩
   ·exact f.elim
  ·exact f.elim
 ·exact f.elim
def vO (h:Str.ofString a=Str.ofString b):a=b:=by
 rw [Str.ofString_eq_toList,Str.ofString_eq_toList]at h
 have e:=by
  have:=congrArg (λs:Str=>s.cps.toList) h
  simpa using this
 have inj: ∀(l m:List Char),l.map Char.toNat=m.map Char.toNat->l=m:=by
  intro l
  induction l with
  | nil=>intro m q;cases m with | nil=>rfl | cons _ _=>cases q
  | cons c l f=>
   intro m q
   cases m with
   | nil=>cases q
   | cons d m=>
    simp [List.cons.injEq]at q
    rw [Char.toNat_inj.mp q.1,f m q.2]
 exact String.toList_inj.mp (inj _ _ e)
def WH (e:M.GX h o=k0 (r,c,fs)):o=k0 (.v (.ref r))/\h[r]? =k0 (.obj c fs):=by
 unfold M.GX at e
 split at e
 ·split at e
  ·rename_i q
   cases e
   exact⟨rfl,q⟩
  ·cases e
 ·cases e
def vb (s:ao Y G τ h U H)(e:M.GX h (M.Gn τ i)=k0 (r,c,fs)):U[i]? =k0 (k0 (.ref (G.aR r))):=by
 obtain⟨e1,e2⟩:=WH e
 obtain⟨v,a,d⟩:=s.slot i _ e1
 obtain⟨_,b⟩:=(show r<G.n/\v= .ref (G.aR r)from d)
 rw [a,b]
abbrev gI (fs:List (String×M.D)):List Str:=fs.map λp=>Str.ofString p.1
section
variable {G:Gh}{H:Hp}
def pj (a b):(Qf a==Str.ofString b)=(a==b):=by
 cases q:a==b with
 | true=>rw [eq_of_beq q];exact beq_self_eq_true _
 | false=>exact beq_eq_false_iff_ne.mpr λz=>(beq_eq_false_iff_ne.mp q) (vO z)
theorem vT : ∀ {fs}{i},aa Y G H (fs.map (·.2)) i->fs.lookup f=k0 d-> ∃v,((gI fs).zip i).lookup (Qf f)=k0 v/\aA Y G H d v
 | [],_,_,e=>by cases e
 | (g,x)::fs,_,⟨v,r,rfl,a,b⟩,e=>by
  rw [Ab7]at e
  show ∃w,(((Str.ofString g),v)::(gI fs).zip r).lookup (Qf f)=k0 w/\_
  rw [Ab7,pj]
  cases q:f==g with
  | true=>rw [q]at e;cases e;exact⟨v,rfl,a⟩
  | false=>rw [q]at e;exact vT b e
theorem wY : ∀ {fs}{a:List V},fs.lookup f=y0->((gI fs).zip a).lookup (Qf f)=y0
 | [],_,_=>rfl
 | (g,x)::fs,[],_=>rfl
 | (g,x)::fs,v::r,e=>by
  rw [Ab7]at e
  show(((Str.ofString g),v)::(gI fs).zip r).lookup (Qf f)=y0
  rw [Ab7,pj]
  cases q:f==g with
  | true=>rw [q]at e;cases e
  | false=>rw [q]at e;exact wY e
theorem QQ (rv:aA Y G H d v): ∀ {fs}{j},aa Y G H (fs.map (·.2)) j-> ∃i,aa Y G H ((M.aU f d fs).map (·.2)) i/\L2.aU (Qf f) v ((gI fs).zip j)=(gI (M.aU f d fs)).zip i
 | [],_,z=>by cases z;exact⟨[v],⟨v,[],rfl,rv,rfl⟩,rfl⟩
 | (g,x)::fs,_,⟨u,r,rfl,e,c⟩=>by
  show ∃i,aa Y G H ((if g=f then(g,d)::fs else(g,x)::M.aU f d fs).map (·.2)) i/\(if Str.ofString g=Qf f then(Str.ofString g,v)::(gI fs).zip r else(Str.ofString g,u)::L2.aU (Qf f) v ((gI fs).zip r))=(gI (if g=f then(g,d)::fs else(g,x)::M.aU f d fs)).zip i
  by_cases q:g=f
  ·rw [if_pos q,if_pos (congrArg Str.ofString q)]
   exact⟨v::r,⟨v,r,rfl,rv,c⟩,rfl⟩
  ·rw [if_neg q,if_neg λz=>q (vO z)]
   obtain⟨i,a,b⟩:=QQ rv c
   exact⟨u::i,⟨u,i,rfl,e,a⟩,by rw [b];rfl⟩
end
def BE (e:Ext G H G1 H1) (a:r<G.n):ah Y G1 H1 (.v (.ref r)) (.ref (G.aR r)):=⟨Ab4 a e.le,by rw [e.aR r a]⟩
def BZ (c:attributeBase o name env (eval o env)=eval o env) (b:methodCallForm args.length (backTo pos (starEach args env)) (backToKw pos (keywordEach [] env))=u0) (a:(apos.endLine==pos.line)=u0):
 eval (.Call (.Attribute o name apos) args [] pos) env=(do
  let i ←eval o env
  standAt apos.atName
  let (f,first) ←holding [i] (getMethod i name (do return (← importBound o env).getD u0))
  callWith pos f first (backTo pos (starEach args env)) (backToKw pos (keywordEach [] env))):=by
 have e1:methodCallForm (args.length+([]:List Keyword).length) _ _=true:=b
 have e2:methodCallPos u0 o env apos pos=pure pos:=by unfold methodCallPos;simp [a]
 rw [arm_eval_Call,c]
 unfold methodCall
 rw [e1]
 simp only [e2,calleeOf,if_true,pure_bind]
def CW (h: ∀e∈args,Xb e=u0) (b:args.length<29):methodCallForm args.length (backTo pos (starEach args env)) (backToKw pos (keywordEach [] env))=true:=by
 unfold methodCallForm
 have e1:(backTo pos (starEach args env)).all (λx=> !x.1)=true:=by
  have:=Jq (env:=env) (pos:=pos) h
  rw [Ai6]
  intro x a
  rw [Aj4]at this
  simpa using this x a
 rw [e1]
 have e2:(backToKw pos (keywordEach [] env))= []:=rfl
 rw [e2]
 simp
 lia
def Et (q:Go Y F X E k cf){c o:String}{g y:Expr}{u:List Expr}{pos:Pos}{es:M.Es}(Z:cH cf.sc c g=u0) (hm:cf.ob.eO.contains (c,o)=u0) (D: ∀e∈y::u,Xb e=u0) (ha:PA X (y::u) (fi Y E (M.Gd F es))):
 PE X (.Call g (y::u) [] pos) (tD Y E (M.eval F (.make c o es))):=by
 obtain⟨p0,rfl,R,g3⟩:=Qd Z
 obtain⟨A,fa,fd,ps,mk,C,bd⟩:=q.eO c o hm
 refine PE.imp (DQ mk C q.dZ (q.gl _ R) A bd .nil q.pass ha g3 (Qb (D _ Aa4)) (Jq λe T=>D e (Aa2 _ T))) λU H Q qq=> ?_
 obtain⟨G,τ,h,s,p⟩:=qq
 rw [M.eval]at p
 refine Jp s.heap Ext.refl s p λz W i b j e1 e1' m r1 l=> ?_
 intro a f n I ne
 rw [Af0]
 have J:aL j f (.own a) a=none:=by rw [Qa (Ne.symm ne)];exact n
 have x1:Ext b j b (aL j f (.own a)):=qs _ I
 have r2:=m.heap.new (.own a) I
 have x2:Ext b (aL j f (.own a)) b (aL (aL j f (.own a)) a (.ins (Y.ca c) f [])):=qs _ J
 have S:=r2.new (.ins (Y.ca c) f []) J
 have kN: ¬b.fz a:=m.heap.ik n
 have r4:ag Y (b.cell a) (i++ [.obj c []]) (aL (aL j f (.own a)) a (.ins (Y.ca c) f [])):=LN S kN (m.heap.fL n) Zc
 have K:Ext b j (b.cell a) (aL (aL j f (.own a)) a (.ins (Y.ca c) f [])):=xx (x1.trans m.heap x2) n
 have x:ah Y (b.cell a) (aL (aL j f (.own a)) a (.ins (Y.ca c) f [])) (.v (.ref i.length)) (.ref a):=by
  show i.length<b.n+1/\V.ref a= .ref (if i.length=b.n then a else b.aR i.length)
  rw [m.heap.len,if_pos rfl]
  exact⟨Ag _,rfl⟩
 refine⟨b.cell a,i++ [.obj c []],.v (.ref i.length)::z.map M.W.arg,r4,⟨.ref a,W,rfl,x,bj.ext K m.heap (zx r1)⟩,λw t=> ?_,?_⟩
 ·rcases Ac.mp t with rfl | t
  ·rfl
  ·exact Wz z w t
 ·cases L:F.call o (.v (.ref i.length)::z.map M.W.arg) (i++ [.obj c []])with
  | fail=>rw [L]at l;exact l.elim
  | ok w h'=>
   rw [L]at l
   intro P O B r v rv _
   cases w with
   | own _=>exact l.elim
   | bor _=>exact l.elim
   | v d=>
    cases d with
    | aj=>
     refine⟨rv,?_⟩
     have l:aw Y E G H (M.aq (.ref i.length) h') _:=l
     have N:i.length<(b.cell a).n:=x.1
     exact l P O ((e1.trans s.heap K).trans s.heap B) r (.ref a) ⟨Ab4 N B.le,by rw [B.aR _ N];exact x.2⟩ trivial
    | _=>exact l.elim
def E5 (l:Go Y F X E k cf)(i:cf.ob.fl.contains (c,f)=u0) (e:wR x=u0) (I:PE X x (tD Y E (M.eval F a))):PE X (.Attribute x (Qf f) pos) (tD Y E (M.eval F (.aG a c f))):=by
 refine PE.imp (HA I (bz e _)) λU H Q D=> ?_
 obtain⟨G,P,h,s,p⟩:=D
 refine Wa s.heap Ext.refl s p λw v z g O e1 J j L R b=> ?_
 cases q:M.GX z (k0 w)with
 | none=>rw [q]at b;exact b.elim
 | some o=>
  obtain⟨r,m,fs⟩:=o
  rw [q]at b
  dsimp only at b
  split at b
  ·rename_i e
   subst e
   obtain⟨d,n,b⟩:=b.of
   obtain⟨A,e2⟩:=WH q
   cases A
   obtain⟨_,B⟩:=(show r<g.n/\v= .ref (g.aR r)from L)
   obtain⟨S,C,N,K,y⟩:=j.heap.obj r _ fs e2
   obtain⟨u,t,rv⟩:=vT y n
   exact⟨g.aR r,Y.ca m,C,_,u,B,K,(l.fld _ _ i).1,(l.fld _ _ i).2,t,aw.val b e1 j.heap rv trivial⟩
  ·exact b.elim
def BR (n:Go Y F X E k cf)(P:cf.ob.mt.contains (c,m,q0)=u0) (hl:(apos.endLine==pos.line)=u0) (A:(y::ys).length<=20) (g:wR x=u0) (T:PE X x (tD Y E (M.eval F a))) (d: ∀e∈y::ys,Xb e=u0) (R:PA X (y::ys) (fi Y E (M.Gd F es))):
 PE X (.Call (.Attribute x (Qf m) apos) (y::ys) [] pos) (tD Y E (M.eval F (.bL a c m q0 es))):=by
 obtain⟨N,fa,fd,ps,mt,t,bd⟩:=n.ki c m q0 P
 refine PE.imp (FF T N mt t n.room bd .nil n.pass R (Qb (d _ Aa4)) (Jq λe D=>d e (Aa2 _ D)) (BZ (bz g _) (CW d (by lia)) hl)) λU H Q O=> ?_
 obtain⟨G,τ,h,s,p⟩:=O
 refine Wa s.heap Ext.refl s p λw v B l H1 e1 S u W f1 b=> ?_
 cases q:M.GX B (k0 w)with
 | none=>rw [q]at b;exact b.elim
 | some o=>
  obtain⟨r,c',fs⟩:=o
  rw [q]at b
  dsimp only at b
  split at b
  ·rename_i g
   obtain⟨rfl,A⟩:=g
   obtain⟨C,e2⟩:=WH q
   cases C
   obtain⟨j,rfl⟩:=(show r<l.n/\v= .ref (l.aR r)from W)
   obtain⟨nf,J,us,V,ru⟩:=u.heap.obj r _ fs e2
   refine⟨l.aR r,J,_,rfl,V,wY (Aj7.mp A),?_⟩
   refine Jp s.heap e1 u b λz I L K H2 e2 i s2 Z p2=> ?_
   rw [Af0]
   refine⟨K,L,.v _::z.map M.W.arg,s2.heap,⟨.ref _,I,rfl,BE i j,zx Z⟩,λw f=> ?_,az.mk p2 e2 s.heap⟩
   obtain rfl | f:=Ac.mp f
   ·rfl
   ·exact Wz z w f
  ·exact b.elim
def Hi (z:Go Y F X E k cf)(m:(apos.endLine==pos.line)=u0) (c:wR x=u0) (g:PE X x (tD Y E (M.eval F a))):
 PE X (.Call (.Attribute x (Qf "bit_length") apos) [] [] pos) (tD Y E (M.eval F (.eV a))):=by
 refine PE.imp (Fh PySem.F.plainAttrs_int slot_int_bit_length type_int_bit_length EF g (bz c _) m) λU H Q d=> ?_
 obtain⟨G,t,h,s,p⟩:=d
 refine Wa s.heap Ext.refl s p λw v o y r e1 f e l u b=> ?_
 obtain⟨i,n,b⟩:=b.of
 cases l.int n
 have j:Builtin.Int.intBits i=M.Kg i:=by
  unfold Builtin.Int.intBits M.Kg
  by_cases q:i=0
  ·rw [if_pos q,if_pos (by rw [q];rfl)]
  ·rw [if_neg q,if_neg (by simpa using q)]
 refine⟨rfl,i,rfl,rfl,?_⟩
 rw [j]
 exact aw.val b e1 e.heap rfl trivial
def Ez (b:ag Y G h H) (l:dc H H'):Ext G H G H'/\ag Y G h H':=
 ⟨⟨λa o e _=>l a o e,Aa9 _,λ_ _=>rfl,λr f g=>absurd f (An4.mpr g),λ_ h=>h,λ_ h=> .inl h,λr _ ⟨o,e⟩=>⟨o,l _ _ e⟩⟩,
  ⟨b.len,λr c e=>⟨(b.any r c e).1,(b.any r c e).2.mon ⟨λa o _ e=>l a o e,Aa9 _,λ_ _=>rfl,λ_ h=>h⟩ λo e=>l _ _ e⟩,b.inj,λa d=>(b.live a d).imp λo e=>l _ _ e⟩⟩
def fE (key:Int->M.R M.W) (m:Int):Int:=(M.G7 (key m)).getD 0
theorem w9 : ∀ {is}{b i},M.GV key b (fE key b) is=k0 i->(∀ m∈is,∃y,M.G7 (key m)=k0 y)/\i=ft (fE key) b is
 | [],b,i,h=>⟨λm a=>absurd a Ai4,(Ad5.inj h).symm⟩
 | x::is,b,i,h=>by
  rw [M.GV]at h
  cases q:M.G7 (key x)with
  | none=>rw [q]at h;cases h
  | some y=>
   have e:fE key x=y:=by rw [fE,q];rfl
   rw [q,Ag0]at h
   rw [ft,e]
   by_cases c:y<fE key b
   ·rw [if_pos c,←e]at h
    rw [if_pos c]
    obtain⟨f,d⟩:=w9 h
    exact⟨λm a=>(Ac.mp a).elim (λz=>z▸⟨y,q⟩) (f m),d⟩
   ·rw [if_neg c]at h
    rw [if_neg c]
    obtain⟨f,d⟩:=w9 h
    exact⟨λm a=>(Ac.mp a).elim (λz=>z▸⟨y,q⟩) (f m),d⟩
def EW (h:M.Ke key o=k0 i): ∃n is,o=k0 (n::is)/\(∀ m∈n::is,∃y,M.G7 (key m)=k0 y)/\i=ft (fE key) n is:=by
 match o,h with
 | some (n::is),h=>
  rw [M.Ke]at h
  cases q:M.G7 (key n)with
  | none=>rw [q]at h;cases h
  | some y=>
   have e:fE key n=y:=by rw [fE,q];rfl
   rw [q,Ag0,←e]at h
   obtain⟨c,a⟩:=w9 h
   exact⟨n,is,rfl,λm b=>(Ac.mp b).elim (λz=>z▸⟨y,q⟩) (c m),a⟩
def s9: "min" ∈cF:=by decide
def L8 (h:M.G7 r=k0 y):r= .ok (.v (.int y)) []:=by
 unfold M.G7 at h
 split at h
 ·cases h;rfl
 ·cases h
def Hs (b:Go Y F X E k cf){f:String}{a:M.E}{g x:Expr}{w:Keyword}{pos:Pos}(d:w.arg=some (Qf "key")) (u:cH cf.sc f w.value=true) (hf:cf.fns.contains f=true) (W:cH cf.sc "min" g=true) (R:Xb x=true) (L:PE X x (tD Y E (M.eval F a))):
 PE X (.Call g [x] [w] pos) (tD Y E (M.eval F (.eM f a))):=by
 obtain⟨p0,rfl,J,g3⟩:=Qd W
 obtain⟨T,wv,wq⟩:=w
 obtain⟨j,e1,f2,P⟩:=Qd u
 have e1:wv= .Name (Qf f) j:=e1
 have d:T=k0 (Qf "key"):=d
 subst e1 d
 obtain⟨V,fa,fd,z,bd,kp,A⟩:=(b.fn f hf).imp λV h=>h.ex
 refine PE.imp (Fg (E:=E0) b.calm b.room.hd (b.gl _ J) (b.blt _ s9) (by decide +kernel) z b.dZ (b.gl _ f2) A bd (λC H s e s' K=>K.elim) L (Xx s9) g3 P (Qb R)) λU H Q S=> ?_
 obtain⟨G,τ,h,s,p⟩:=S
 rw [M.eval]at p
 refine Wa s.heap Ext.refl s p λw v h1 G1 H1 e1 e1' D O f1 j=> ?_
 obtain⟨i,ei,j⟩:=j.of
 obtain⟨n,is,eo,Z,rfl⟩:=EW ei
 obtain⟨xs,ex,B⟩:=Ag7.mp eo
 obtain⟨l,vs,rfl,sq,rd⟩:=O.lst D.heap ex
 cases qI B rd
 refine⟨l,n,is,fE λx=>F.call f [.v (.int x)] [],rfl,b.K▸sq,λm A H2 _=> ?_,λH2 le=> ?_⟩
 ·obtain⟨y,I⟩:=Z m A
  have ey:fE (λx=>F.call f [.v (.int x)] []) m=y:=by rw [fE,I];rfl
  refine⟨⟨λ_=>False,λ_=>0,0⟩,[],[.v (.int m)],⟨rfl,λr c e=>by simp at e,λr s t=>absurd t (Ag5 _),λa ha=>ha.elim⟩,⟨.int m,[],rfl,rfl,rfl⟩,λw d=>by rw [Ac7.mp d];rfl,?_⟩
  rw [L8 I]
  intro G' H' e t v rv _
  have rv:v= .int y:=rv
  exact⟨by rw [rv,ey],λa o q=>e.keep a o q λr t=>absurd t (Ag5 _)⟩
 ·obtain⟨x1,N⟩:=Ez D.heap le
  exact aw.val j (e1.trans s.heap x1) N (w:= .v (.int _)) rfl trivial
end
def PW.eL (h:PT X (.BoolOp op vs pos) t):PW X (.BoolOp op vs pos) t:=λb a s U H Q I q=>by
 have:=h a s U H Q I q
 exact this
theorem wB : ∀ {es}{xs}{τ}{h}{ds}{h'},bU cf es xs=u0->M.Gw F es τ h= .ok ds h'->ds.length=xs.length
 | .nil,xs,_,_,_,_,c,e=>by
  cases Af8.mp c
  rw [M.Gw]at e;cases e;rfl
 | .cons a es,xs,τ,h,ds,h',c,e=>by
  refine kC (λx r c=> ?_) xs c
  obtain⟨w,f,e1,e⟩:=xh e
  obtain⟨d,g,e2,e⟩:=xh e
  obtain⟨r,i,b,e⟩:=xh e
  cases e
  rw [Aa6,Aa6,wB (a2 c).2 b]
theorem Zh : ∀ {es}{xs},bU cf es xs=u0-> ∀e∈xs,Xb e=u0
 | .nil,xs,c=>by
  cases Af8.mp c
  intro e b;cases b
 | .cons a es,xs,c=>by
  refine kC (λx r c=> ?_) xs c
  intro e b
  rcases Ac.mp b with rfl | b
  ·exact(a3 c).1
  ·exact Zh (a2 c).2 e b
theorem ZK : ∀ {aB}{xs},zJ cf aB xs=u0->aB.length=xs.length
 | [],[],_=>rfl
 | [],_::_,h=>by simp [zJ]at h
 | _::_,[],h=>by simp [zJ]at h
 | j::a,x::xs,h=>by
  simp only [zJ,Aa0]at h
  exact congrArg (· +1) (ZK h.2)
def FP (h:xp e f=u0):Wg e=true:=by
 refine jp (λg x l p h=> ?_) e h
 rfl
def J0 {b:Cf}{it:M.It}{e:Expr}(h:d3 b it e=u0):Wg e=true:=by
 cases it with
 | seq a=>exact(a2 h).1
 | av a=>exact FP h
 | cj a=>exact cv h
section
variable {Y:Ge}{F:M.Fx}{k:Nat}
def bo (b:Go Y F X E k cf) (r:PE X x (tD Y E (M.eval F m))) (a: ∀i,isTrue x X.env i=(do let v ←i;standAt x.pos;holding [v] (truthy v))):PE X x (tD Y E (M.eval F m))/\(fv m=u0->PT X x (cV Y E (M.Gm F m))):=⟨r,λ_=>Dp b r a⟩
mutual
theorem Jc: ∀(m:M.E){X:Cx}{E:XK}{cf:Cf}{e:Expr},Go Y F X E k cf->wc cf m e=u0->PE X e (tD Y E (M.eval F m))/\(fv m=u0->PT X e (cV Y E (M.Gm F m)))
 | .var i,X,E,cf,e,go,h=>by
  refine qx (λx p h=> ?_) e h
  obtain⟨h1,h2,h3⟩:=fR h
  exact bo go (Ig go h1 h2 h3) λ_=>rfl
 | .con c,X,E,cf,e,go,h=>by
  have r:=FT go h
  obtain⟨p,rfl,_,_⟩:=Qd h
  exact bo go r λ_=>rfl
 | .int i,X,E,cf,e,go,h=>by
  refine QE (λx n p h=> ?_) e h
  cases of_decide_eq_true h;exact bo go FL λ_=>rfl
 | .bl i,X,E,cf,e,go,h=>by
  refine QE (λx n p h=> ?_) e h
  cases of_decide_eq_true h;exact bo go Bn λ_=>rfl
 | .aj,X,E,cf,e,go,h=>by
  refine QE (λx n p h=> ?_) e h
  cases of_decide_eq_true h;exact bo go El λ_=>rfl
 | .str i,X,E,cf,e,go,h=>by
  refine QE (λx n p h=> ?_) e h
  cases of_decide_eq_true h;exact bo go Hh λ_=>rfl
 | .tup es,X,E,cf,e,go,h=>by
  refine o6 (λx n p h=> ?_) e h
  obtain⟨h1,h2⟩:=a2 h
  exact bo go (Cz (of_decide_eq_true h1) (λτ hh ds h' q=>wB h2 q) (iB es go h2)) λ_=>rfl
 | .lst es,X,E,cf,e,go,h=>by
  refine Md (λx p h=> ?_) e h
  obtain⟨h1,h2⟩:=a2 h
  exact bo go (Eg (of_decide_eq_true h1) (λτ hh ds h' q=>wB h2 q) (iB es go h2)) λ_=>rfl
 | .bin o a b,X,E,cf,e,go,h=>by
  refine B6 (λx o y p h=> ?_) e h
  obtain⟨h0,ho,h1,h2⟩:=a4 h
  cases of_decide_eq_true h0
  exact bo go (Hm go ho (Jc a go h1).1 (Jc b go h2).1) λ_=>rfl
 | .cmp o a b,X,E,cf,e,go,h=>by
  refine mr (λx o y p h=> ?_) e h
  refine kC (λy r h=> ?_) y h
  obtain⟨h0,ho,hs,h1,h2⟩:=a5 h
  obtain⟨rfl,rfl⟩:=of_decide_eq_true h0
  exact⟨KH go ho hs (Jc a go h1).1 (Jc b go h2).1,λ_=>Df go ho hs (Jc a go h1).1 (Jc b go h2).1⟩
 | .chain o q a b c,X,E,cf,e,go,h=>by
  refine mr (λx o y p h=> ?_) e h
  refine kC (λy r h=> ?_) y h
  refine kC (λz r h=> ?_) r h
  obtain⟨h0,ho,hq,hs,h1,h2,h3⟩:=a7 h
  obtain⟨rfl,rfl⟩:=of_decide_eq_true h0
  exact⟨Cc go ho hq hs (Jc a go h1).1 (Jc b go h2).1 (Jc c go h3).1,λ_=>LV go ho hq hs (Jc a go h1).1 (Jc b go h2).1 (Jc c go h3).1⟩
 | .eU neg a,X,E,cf,e,go,h=>by
  refine mr (λx o y p h=> ?_) e h
  refine kC (λy r h=> ?_) y h
  refine QE (λj n p h=> ?_) y h
  obtain⟨h0,h1,h2⟩:=a3 h
  obtain⟨rfl,rfl⟩:=of_decide_eq_true h0
  cases of_decide_eq_true h1
  exact⟨Ho (Jc a go h2).1,λ_=>A4 (Jc a go h2).1⟩
 | .neg a,X,E,cf,e,go,h=>by
  refine oA (λo x p h=> ?_) e h
  cases of_decide_eq_true (a2 h).1
  exact bo go (Hc (Jc a go (a2 h).2).1) λ_=>rfl
 | .inv a,X,E,cf,e,go,h=>by
  refine oA (λo x p h=> ?_) e h
  cases of_decide_eq_true (a2 h).1
  exact bo go (E7 (Jc a go (a2 h).2).1) λ_=>rfl
 | .not a,X,E,cf,e,go,h=>by
  refine oA (λo x p h=> ?_) e h
  cases of_decide_eq_true (a2 h).1
  exact⟨Fj go (Jc a go (a2 h).2).1,λt=>yt ((Jc a go (a2 h).2).2 t)⟩
 | .and a b,X,E,cf,e,go,h=>by
  refine rB (λo x p h=> ?_) e h
  refine kC (λx r h=> ?_) x h
  refine kC (λy r h=> ?_) r h
  obtain⟨h0,h1,h2⟩:=a3 h
  cases of_decide_eq_true h0
  cases r with
  | nil=>exact⟨vm go (Jc a go h1).1 (uh (Jc b go h2).1),λt=>(pA ((Jc a go h1).2 (a2 t).1) (L7 ((Jc b go h2).2 (a2 t).2))).pt⟩
  | cons z r=>exact⟨vm go (Jc a go h1).1 (Jc b go h2).1,λt=>(pA ((Jc a go h1).2 (a2 t).1) (PW.eL ((Jc b go h2).2 (a2 t).2))).pt⟩
 | .or a b,X,E,cf,e,go,h=>by
  refine rB (λo x p h=> ?_) e h
  refine kC (λx r h=> ?_) x h
  refine kC (λy r h=> ?_) r h
  obtain⟨h0,h1,h2⟩:=a3 h
  cases of_decide_eq_true h0
  cases r with
  | nil=>exact⟨rQ go (Jc a go h1).1 (uh (Jc b go h2).1),λt=>(uz ((Jc a go h1).2 (a2 t).1) (yr ((Jc b go h2).2 (a2 t).2))).pt⟩
  | cons z r=>exact⟨rQ go (Jc a go h1).1 (Jc b go h2).1,λt=>(uz ((Jc a go h1).2 (a2 t).1) (PW.eL ((Jc b go h2).2 (a2 t).2))).pt⟩
 | .call f es,X,E,cf,e,go,h=>by
  refine jp (λg x l p h=> ?_) e h
  refine kE (λh=> ?_) l h
  obtain⟨h1,h2,h3⟩:=a3 h
  cases x with
  | nil=>
   cases es with
   | cons _ _=>exact cv h3
   | nil=>
    have r:=D1 (pos:=p) go h1 h2
    obtain⟨p,rfl,_,_⟩:=Qd h1
    exact bo go r λ_=>rfl
  | cons x r=>
   have r:=KO (pos:=p) go h1 h2 (Zh h3) (dt es go h3)
   obtain⟨p,rfl,_,_⟩:=Qd h1
   exact bo go r λ_=>rfl
 | .bi b es,X,E,cf,e,go,h=>by
  refine jp (λg x l p h=> ?_) e h
  refine kE (λh=> ?_) l h
  refine kC (λx r h=> ?_) x h
  obtain⟨h1,h2,h3⟩:=a3 h
  have r:=FK (pos:=p) go h2 h1 (Zh h3) (dt es go h3)
  obtain⟨p,rfl,_,_⟩:=Qd h1
  exact bo go r λ_=>rfl
 | .b8 a t,X,E,cf,e,go,h=>by
  refine jp (λg x l p h=> ?_) e h
  refine kE (λh=> ?_) l h
  refine kC (λx r h=> ?_) x h
  refine kC (λy r h=> ?_) r h
  refine kE (λh=> ?_) r h
  obtain⟨h1,h2,h3,h4,h5⟩:=a5 h
  have r:=B0 (pos:=p) go (of_decide_eq_true h3) h1 h2 h4 (Jc a go h5).1
  obtain⟨p,rfl,_,_⟩:=Qd h1
  exact bo go r λ_=>rfl
 | .ix a b,X,E,cf,e,go,h=>by
  refine gm (λx y p h=> ?_) e h
  obtain⟨h1,h2,h3⟩:=a3 h
  exact bo go (Dd go h1 (Jc a go h2).1 (Jc b go h3).1) λ_=>rfl
 | .sl a lo hi,X,E,cf,e,go,h=>by
  refine gm (λx y p h=> ?_) e h
  refine nz (λl u z p2 h=> ?_) y h
  refine kS (λl h=> ?_) l h
  refine kS (λu h=> ?_) u h
  obtain⟨h0,h1,h2,h3⟩:=a4 h
  cases nn h0
  exact bo go (Hv go (Jc a go h1).1 (Jc lo go h2).1 (Jc hi go h3).1) λ_=>rfl
 | .fB a lo,X,E,cf,e,go,h=>by
  refine gm (λx y p h=> ?_) e h
  refine nz (λl u z p2 h=> ?_) y h
  refine kS (λl h=> ?_) l h
  obtain⟨h0,h1,h2,h3⟩:=a4 h
  cases nn h0;cases nn h1
  exact bo go (CJ go (Jc a go h2).1 (Jc lo go h3).1) λ_=>rfl
 | .fG a hi,X,E,cf,e,go,h=>by
  refine gm (λx y p h=> ?_) e h
  refine nz (λl u z p2 h=> ?_) y h
  refine kS (λu h=> ?_) u h
  obtain⟨h0,h1,h2,h3⟩:=a4 h
  cases nn h0;cases nn h1
  exact bo go (ET go (Jc a go h2).1 (Jc hi go h3).1) λ_=>rfl
 | .comp tg one kk aB it y7 c elt,X,E,cf,e,go,h=>by
  refine r6 (λy g s p h=> ?_) e h
  refine kC (λg r h=> ?_) g h
  obtain⟨t,iter,ifs,z⟩:=g
  obtain⟨h0,h1,h2,h3,h4,h5,h6⟩:=a7 h
  obtain⟨rfl,rfl⟩:=of_decide_eq_true h0
  simp only [Ai6,decide_eq_true_eq]at h2
  have sc:=jH h1
  have ht: ∀C fp w H,gv (Wd X (zz cf t aB) s C fp w H) ifs (cV Y E0 (km F y7 c)):=λC fp w H=>by
   have gc:=qD go sc C fp w H
   cases y7 with
   | true=>
    refine kC (λz r h=> ?_) ifs h6
    refine kE (λh=> ?_) r h
    exact rE ((Jc c gc (a2 h).2).2 (a2 h).1)
   | false=>
    cases Af8.mp h6
    intro pins s1 U H1 Q I ⟨G,τ,h,st,p⟩
    exact ya pins s1 U H1 Q I (p G H1 Ext.refl st.heap)
  exact bo go (FN go sc (ZK sc.aB) h3 h2 (J0 h4) (lj it go h4) (λC fp s H=>(Jc elt (qD go sc C fp s H) h5).1) ht) λ_=>rfl
 | .c8,X,E,cf,e,go,h=>by
  refine pI (λx y p h=> ?_) e h
  cases Af8.mp (a2 h).1
  cases Af8.mp (a2 h).2
  exact bo go ED λ_=>rfl
 | .eE i a,X,E,cf,e,go,h=>by
  refine gm (λg y p h=> ?_) e h
  refine qx (λx p1 h=> ?_) g h
  obtain⟨h0,h4,h5⟩:=a3 h
  obtain⟨h1,h2,h3⟩:=fR h0
  exact bo go (Dx go h1 h2 h3 h4 (Jc a go h5).1) λ_=>rfl
 | .cQ neg a i,X,E,cf,e,go,h=>by
  refine mr (λx o y p h=> ?_) e h
  refine kC (λy r h=> ?_) y h
  refine qx (λy p1 h=> ?_) y h
  obtain⟨h0,h1,h4⟩:=a3 h
  obtain⟨rfl,rfl⟩:=of_decide_eq_true h0
  obtain⟨h1,h2,h3⟩:=fR h1
  exact⟨K7 go h1 h2 h3 (Jc a go h4).1,λ_=>Ed go h1 h2 h3 (Jc a go h4).1⟩
 | .fu k1 a k2 b k3 c i,X,E,cf,e,go,h=>by
  refine gm (λd y p h=> ?_) e h
  refine pI (λks vs p0 h=> ?_) d h
  refine qx (λx p1 h=> ?_) y h
  refine kC (λq1 ks h=> ?_) ks h
  refine kC (λq2 ks h=> ?_) ks h
  refine kC (λq3 ks h=> ?_) ks h
  refine kE (λh=> ?_) ks h
  refine kC (λv1 vs h=> ?_) vs h
  refine kC (λv2 vs h=> ?_) vs h
  refine kC (λv3 vs h=> ?_) vs h
  refine kE (λh=> ?_) vs h
  obtain⟨g1,g2⟩:=a2 h
  obtain⟨h0,h4,h5,h6⟩:=a4 g1
  obtain⟨h7,h8,h9,h10⟩:=a4 g2
  obtain⟨h1,h2,h3⟩:=fR h0
  exact bo go (Ip go h1 h2 h3 h4 h5 h6 (of_decide_eq_true h7) (Jc a go h8).1 (Jc b go h9).1 (Jc c go h10).1) λ_=>rfl
 | .ef i,X,E,cf,e,go,h=>by
  refine jp (λg x l p h=> ?_) e h
  refine kE (λh=> ?_) l h
  refine kC (λx r h=> ?_) x h
  refine kE (λh=> ?_) r h
  obtain⟨h0,h1⟩:=a2 h
  refine qx (λx p1 h=> ?_) x h1
  obtain⟨h1,h2,h3⟩:=fR h
  exact bo go (Ay go h0 h1 h2 h3) λ_=>rfl
 | .share a,X,E,cf,e,go,h=>⟨Li (Jc a go h).1,λt=>cv t⟩
 | .bY a,X,E,cf,e,go,h=>by
  refine jp (λg x l p h=> ?_) e h
  refine kE (λh=> ?_) l h
  refine kC (λx r h=> ?_) x h
  refine kE (λh=> ?_) r h
  refine jp (λg2 x l p2 h=> ?_) x h
  refine kE (λh=> ?_) l h
  refine kC (λx r h=> ?_) x h
  refine kE (λh=> ?_) r h
  obtain⟨h1,h2,h3,h4⟩:=a4 h
  exact bo go (Mi go h1 h2 h3 (Jc a go h4).1) λ_=>rfl
 | .dE s ts,X,E,cf,e,go,h=>by
  refine jp (λg x l p h=> ?_) e h
  refine kE (λh=> ?_) l h
  refine kC (λx r h=> ?_) x h
  refine kE (λh=> ?_) r h
  refine ZZ (λo n q h=> ?_) g h
  refine QE (λc k1 p1 h=> ?_) o h
  refine QE (λc2 k2 p2 h=> ?_) x h
  obtain⟨h1,h2,h3,h4,h5⟩:=a5 h
  cases of_decide_eq_true h1
  cases of_decide_eq_true h2
  cases of_decide_eq_true h3
  exact bo go (K4 go h4 h5) λ_=>rfl
 | .make c q es,X,E,cf,e,go,h=>by
  refine jp (λg x l p h=> ?_) e h
  refine kE (λh=> ?_) l h
  refine kC (λx r h=> ?_) x h
  obtain⟨h1,h2,h3⟩:=a3 h
  exact bo go (Et go h1 h2 (Zh h3) (dt es go h3)) λ_=>rfl
 | .aG a c f,X,E,cf,e,go,h=>by
  refine ZZ (λx n q h=> ?_) e h
  obtain⟨h0,h1,h2,h3⟩:=a4 h
  cases of_decide_eq_true h0
  exact bo go (E5 go h1 h2 (Jc a go h3).1) λ_=>rfl
 | .bL a c m q es,X,E,cf,e,go,h=>by
  refine jp (λg ys l p h=> ?_) e h
  refine kE (λh=> ?_) l h
  refine ZZ (λx n p2 h=> ?_) g h
  obtain⟨h0,h1,h2,h3,h4,h5,h6⟩:=a7 h
  cases of_decide_eq_true h0
  revert h3
  refine kC (λy ys h6 h3=> ?_) ys h6
  exact bo go (BR go h1 h2 (of_decide_eq_true h3) h4 (Jc a go h5).1 (Zh h6) (dt es go h6)) λ_=>rfl
 | .eV a,X,E,cf,e,go,h=>by
  refine jp (λg ys l p h=> ?_) e h
  refine kE (λh=> ?_) l h
  refine kE (λh=> ?_) ys h
  refine ZZ (λx n p2 h=> ?_) g h
  obtain⟨h0,h1,h2,h3⟩:=a4 h
  cases of_decide_eq_true h0
  exact bo go (Hi go h1 h2 (Jc a go h3).1) λ_=>rfl
 | .eM f a,X,E,cf,e,go,h=>by
  refine jp (λg ys l p h=> ?_) e h
  refine kC (λx r h=> ?_) ys h
  refine kE (λh=> ?_) r h
  refine kC (λw r h=> ?_) l h
  refine kE (λh=> ?_) r h
  obtain⟨h0,h1,h2,h3,h4,h5⟩:=a6 h
  exact bo go (Hs go (of_decide_eq_true h0) h1 h2 h3 h4 (Jc a go h5).1) λ_=>rfl
 | .dz m a es,X,E,cf,e,go,h=>by
  refine jp (λg x l p h=> ?_) e h
  refine kE (λh=> ?_) l h
  refine kC (λx r h=> ?_) x h
  refine kE (λh=> ?_) r h
  refine ZZ (λo n q h=> ?_) g h
  obtain⟨h1,h2,h3,h4,h5,h6⟩:=a6 h
  cases of_decide_eq_true h1
  exact bo go (C1 go h2 h3 h4 (Zh h6 _ Aa4) (Jc a go h5).1 (dt es go h6)) λ_=>rfl
theorem iB: ∀(es:M.Es){X:Cx}{E:XK}{cf:Cf}{xs:List Expr},Go Y F X E k cf->bU cf es xs=u0->PA X xs (iN Y E (M.Gw F es))
 | .nil,X,E,cf,xs,go,h=>by
  cases Af8.mp h
  exact Bb
 | .cons a es,X,E,cf,xs,go,h=>by
  refine kC (λx r h=> ?_) xs h
  obtain⟨h1,h2,h3⟩:=a3 h
  exact Iw h1 (Jc a go h2).1 (iB es go h3)
theorem dt: ∀(es:M.Es){X:Cx}{E:XK}{cf:Cf}{xs:List Expr},Go Y F X E k cf->bU cf es xs=u0->PA X xs (fi Y E (M.Gd F es))
 | .nil,X,E,cf,xs,go,h=>by
  cases Af8.mp h
  exact IU
 | .cons a es,X,E,cf,xs,go,h=>by
  refine kC (λx r h=> ?_) xs h
  obtain⟨h1,h2,h3⟩:=a3 h
  exact Fm h1 (Jc a go h2).1 (dt es go h3)
theorem lj: ∀(it:M.It){X:Cx}{E:XK}{cf:Cf}{tg e:Expr},Go Y F X E k cf->d3 cf it e=u0->PI X tg e (gs Y E k9 (M.Gk F it))
 | .seq a,X,E,cf,tg,e,go,h=>Ej go (Jc a go (a2 h).2).1
 | .av a,X,E,cf,tg,e,go,h=>by
  refine jp (λg x l p h=> ?_) e h
  refine kE (λh=> ?_) l h
  refine kC (λx r h=> ?_) x h
  refine kE (λh=> ?_) r h
  obtain⟨h1,h2,h3⟩:=a3 h
  exact QI go h1 h2 (Jc a go h3).1
 | .cj a,X,E,cf,tg,e,go,h=>cv h
end
end
structure Bs where
 G:Gh
 H:Hp
 h:M.AH
structure br (Y:Ge) (B:Bs) (G:Gh) (τ:M.Sl) (h:M.AH) (U:St) (H:Hp):Prop where
 st:ao Y G τ h U H
 ext:Ext B.G B.H G H
 hr:ag Y B.G B.h B.H
 own: ∀i xs a,M.Gn τ i=k0 (.own xs)->U[i]? =k0 (k0 (.ref a))->B.H a=y0
def Qs (Y:Ge) (E:XK) (B:Bs) (o:M.O) (D:hI):Prop:=match o with
 | .next τ h=> ∀G U H,br Y B G τ h U H->D.nx U H
 | .ret w h=> ∀G v H,Ext B.G B.H G H->ag Y G h H->ah Y G H w v->aI [] [] B.H w v->D.rt v H
 | .brk τ h=> ∀G U H,br Y B G τ h U H->D.bk U H
 | .cont τ h=> ∀G U H,br Y B G τ h U H->D.ct U H
 | .fail=>False
def cS (Y:Ge) (E:XK) (m:M.Sl->M.AH->M.O):TS:=λD U H=> ∃B G τ h,br Y B G τ h U H/\Qs Y E B (m τ h) D
def PS.imp {st:Stmt}(h:PS X st t) (k: ∀D U H,t' D U H->t D U H):PS X st t':=λa s U H D I q=>h a s U H D I (k _ _ _ q)
def de.imp {st:List Stmt}(h:de X st t) (k: ∀D U H,t' D U H->t D U H):de X st t':=λa s U H D I q=>h a s U H D I (k _ _ _ q)
section
variable {Y:Ge}{E:XK}{B:Bs}{G G1:Gh}{τ:M.Sl}{h h1:M.AH}{U:St}{H H1:Hp}{D:hI}
def br.on (s:br Y B G τ h U H) (e:Ext G H G1 H1) (a:ag Y G1 h1 H1):br Y B G1 τ h1 U H1:=⟨s.st.ext e a,s.ext.trans s.hr e,s.hr,s.own⟩
def wd {m:M.Sl->M.AH->M.R M.W}{f:M.W->M.AH->M.O}{Q:VK}(s:br Y B G τ h U H) (p:Qs Y E B ((m τ h).cP f) D)
 (k: ∀w v h1 G1 H1,Ext G H G1 H1->br Y B G1 τ h1 U H1->ah Y G1 H1 w v->aI τ U H w v->Qs Y E B (f w h1) D->Q v H1):tD Y E m U H Q:=by
 refine⟨G,τ,h,s.st,?_⟩
 cases q:m τ h with
 | ok w h1=>rw [q]at p;exact λG1 H1 e a v b c=>k w v h1 G1 H1 e (s.on e a) b c p
 | fail=>rw [q]at p;exact p
def tN {m:M.Sl->M.AH->M.R Bool}{f:Bool->M.AH->M.O}{Q:Bool->Hp->Prop}(s:br Y B G τ h U H) (p:Qs Y E B ((m τ h).cP f) D)
 (k: ∀b h1 G1 H1,Ext G H G1 H1->br Y B G1 τ h1 U H1->Qs Y E B (f b h1) D->Q b H1):cV Y E m U H Q:=by
 refine⟨G,τ,h,s.st,?_⟩
 cases q:m τ h with
 | ok w h1=>rw [q]at p;exact λG1 H1 e a=>k w h1 G1 H1 e (s.on e a) p
 | fail=>rw [q]at p;exact p
theorem br.set (m:br Y B G τ h U H) (e:Ext G H G1 H1) (s:br Y B G1 τ h1 U H1) (r:ah Y G1 H1 w v) (f:aI τ U H w v) (t: ∀xs,w≠ .bor xs):br Y B G1 (M.GC τ i w) h1 (U.set i (k0 v)) H1:=by
 refine⟨s.st.set r λu j x n e1 l a q z=> ?_,s.ext,s.hr,λj xs a e1 e2=> ?_⟩
 ·cases w with
  | v d=>cases u
  | bor xs=>exact t xs rfl
  | own xs=>
   obtain⟨b,g,k⟩:=f
   subst q
   cases g
   obtain⟨o,p⟩:=m.st.cT e1 l z
   rw [k]at p;cases p
 ·rw [zl]at e1
  by_cases c:j=i/\i<τ.length
  ·rw [if_pos c]at e1
   cases e1
   obtain⟨rfl,c⟩:=c
   rw [Ab9 (by rw [← s.st.len];exact c)]at e2
   cases e2
   obtain⟨b,g,k⟩:=f
   cases g
   exact m.ext.none m.hr k
  ·rw [if_neg c]at e1
   have n:=λz=>c ⟨z,by subst z;exact Zv e1⟩
   rw [Ae0 (Ne.symm n)]at e2
   exact s.own j xs a e1 e2
def br.fz (a:br Y B G τ h U H) (e:Ext G H G1 H1) (s:br Y B G1 τ h1 U H1) (r:ah Y G1 H1 w v) (f:aI τ U H w v) (b:w.d=k0 d): ∃G2,Ext G H G2 H1/\br Y B G2 τ h1 U H1/\aA Y G2 H1 d v:=by
 obtain⟨G2,e2,c,rd,_⟩:=o5 e s.st a.st r f b
 exact⟨G2,e2,⟨c,a.ext.trans a.hr e2,s.hr,s.own⟩,rd⟩
def br.eg (s:br Y B G τ h U H) (r:aA Y G H d v):br Y B G (M.GC τ i (.v d)) h (U.set i (k0 v)) H:=br.set s Ext.refl s r trivial λa z=>by cases z
theorem br.aY: ∀ {is}{ds}{vs}{τ j}{U},M.aY is ds τ=k0 j->aa Y G H ds vs->br Y B G τ h U H->br Y B G j h (gE is vs U) H/\is.length=vs.length
 | [],[],_,_,_,_,e,rfl,s=>by cases e;exact⟨s,rfl⟩
 | [],_::_,_,_,_,_,e,_,_=>by simp [M.aY]at e
 | _::_,[],_,_,_,_,e,_,_=>by simp [M.aY]at e
 | i::is,d::ds,_,_,_,_,e,⟨v,r,rfl,a,b⟩,s=>by
  obtain⟨c,f⟩:=br.aY (by simpa [M.aY]using e) b (s.eg a)
  exact⟨c,congrArg (· +1) f⟩
def tx (e:M.Gp tg one d τ=k0 τ') (r:aA Y G H d x) (s:br Y B G τ h U H) (c: ∀j,br Y B G τ' h j H->Q j H):gM Y tg one x U H Q:=by
 cases one with
 | true=>
  cases tg with
  | nil=>cases e
  | cons i g=>
   cases g with
   | cons _ _=>cases e
   | nil=>
    cases e
    exact⟨i,rfl,c _ (s.eg r)⟩
 | false=>
  cases d with
  | tup k=>
   obtain⟨a,f,rfl,l,b⟩:=r
   obtain⟨n,m⟩:=br.aY (e) b s
   exact⟨G,k,f,a,rfl,l,b,m,c _ n⟩
  | _=>cases e
def br.write (s:br Y B G τ h U H) (f:M.Gn τ i=k0 (.own xs)) (n:U[i]? =k0 (k0 (.ref a))) (r:aa Y G H ys us):br Y B G (M.GC τ i (.own ys)) h U (aL H a (.lst us)):=by
 obtain⟨N,of,Z,ha,_⟩:=Xp s.st f n
 have P:=s.own i xs a f n
 have mon:Mon G H G (aL H a (.lst us)):=⟨λb o z q=>by rw [Qa (λe:b=a=>N (e▸z))];exact q,Aa9 _,λ_ _=>rfl,λ_ z=>z⟩
 have R:=Zv f
 have D:ag Y G h (aL H a (.lst us)):=by
  refine⟨s.st.heap.len,λq c e=>⟨(s.st.heap.any q c e).1,(s.st.heap.any q c e).2.mon mon λo z=>by rw [Qa (of q (s.st.heap.lt e))];exact z⟩,s.st.heap.inj,λb z=> ?_⟩
  obtain⟨o,q⟩:=s.st.heap.live b z
  exact⟨o,by rw [Qa (λe:b=a=>N (e▸z))];exact q⟩
 refine⟨⟨by rw [Xv];exact s.st.len,λj w e=> ?_,λp q x w b O m l X T=> ?_,D⟩,⟨λb o q F=> ?_,s.ext.le,s.ext.aR,s.ext.new,s.ext.fz,s.ext.old,λq E z=> ?_⟩,s.hr,λj x b m l=> ?_⟩
 ·rw [zl]at e
  by_cases c:j=i/\i<τ.length
  ·rw [if_pos c]at e
   cases e
   obtain⟨rfl,_⟩:=c
   exact⟨.ref a,n,a,us,rfl,N,of,Zc,r.mon mon⟩
  ·rw [if_neg c]at e
   have Q:=λz=>c ⟨z,by subst z;exact Zv e⟩
   obtain⟨v,I,y⟩:=s.st.slot j w e
   refine⟨v,I,?_⟩
   cases w with
   | v d=>exact aA.mon mon y
   | own V=>
    obtain⟨b,bs,rfl,S,K,k,C⟩:=y
    have t:b≠a:=λz=>s.st.apart i j xs _ a (Ne.symm Q) f e rfl n (z▸I)
    exact⟨b,bs,rfl,S,K,by rw [Qa t];exact k,C.mon mon⟩
   | bor V=>
    obtain⟨b,bs,rfl,K,k,C⟩:=y
    have t:b≠a:=λz=>s.st.apart i j xs _ a (Ne.symm Q) f e rfl n (z▸I)
    refine⟨b,bs,rfl,K,?_,C.mon mon⟩
    obtain k | ⟨o,k⟩:=k
    ·exact .inl (by rw [Qa t];exact k)
    ·exact .inr ⟨o,by rw [Qa t];exact k⟩
 ·rw [zl]at m l
  have J: ∃g,M.Gn τ p=k0 (.own g):=by
   by_cases c:p=i/\i<τ.length
   ·exact⟨xs,by rw [c.1];exact f⟩
   ·rw [if_neg c]at m;exact⟨x,m⟩
  have A: ∃u,M.Gn τ q=k0 u/\fZ u=true:=by
   by_cases c:q=i/\i<τ.length
   ·exact⟨.own xs,by rw [c.1];exact f,rfl⟩
   ·rw [if_neg c]at l;exact⟨w,l,X⟩
  obtain⟨g,J⟩:=J
  obtain⟨u,A,L⟩:=A
  exact s.st.apart p q g u b O J A L T
 ·rw [Qa (λe:b=a=>by rw [e,P]at q;cases q)]
  exact s.ext.keep b o q F
 ·obtain⟨o,W⟩:=s.ext.cells q E z
  have:B.G.aR q≠a:=λe=>by
   have:=of q (Ab4 E s.ext.le)
   rw [s.ext.aR q E]at this
   exact this e
  exact⟨o,by rw [Qa this];exact W⟩
 ·rw [zl]at m
  by_cases c:j=i/\i<τ.length
  ·obtain⟨rfl,_⟩:=c
   rw [n]at l
   cases l
   exact P
  ·rw [if_neg c]at m;exact s.own j x b m l
theorem XB: ∀(xs) (n){d},M.Gc xs=u0->M.Gf d=u0->M.Gc (xs.set n d)=u0
 | [],_,_,_,_=>rfl
 | x::xs,0,d,h,a=>by
  have h:=h
  rw [Aa0]at h
  show(M.Gf d&&M.Gc xs)=u0
  rw [a,h.2];rfl
 | x::xs,n+1,d,h,a=>by
  have h:=h
  rw [Aa0]at h
  show(M.Gf x&&M.Gc (xs.set n d))=u0
  rw [h.1,XB xs n h.2 a];rfl
def br.fK (s:br Y B G τ h U H) (p:h[r]? =k0 c0) (z:bx Y G (aL H (G.aR r) o1) (G.aR r) c1):br Y B G τ (h.set r c1) U (aL H (G.aR r) o1):=by
 have D:=(Aa1.mp p).1
 have g:=s.st.heap.lt p
 have n:=s.st.heap.kN g
 have mon:Mon G H G (aL H _ o1):=⟨λb o w q=>by rw [Qa (λe:b=G.aR r=>n (e▸w))];exact q,Aa9 _,λ_ _=>rfl,λ_ w=>w⟩
 have m:ag Y G (h.set r c1) (aL H (G.aR r) o1):=by
  refine⟨by rw [Ae3];exact s.st.heap.len,λq c e=> ?_,s.st.heap.inj,λb w=> ?_⟩
  ·by_cases c:q=r
   ·subst c
    rw [Ab9 D]at e
    cases e
    exact⟨n,z⟩
   ·rw [Ae0 (Ne.symm c)]at e
    exact⟨(s.st.heap.any q _ e).1,(s.st.heap.any q _ e).2.mon mon λo w=>by rw [Qa λC=>c (s.st.heap.inj q r (s.st.heap.lt e) g C)];exact w⟩
  ·obtain⟨o,q⟩:=s.st.heap.live b w
   exact⟨o,by rw [Qa (λe:b=G.aR r=>n (e▸w))];exact q⟩
 refine⟨⟨s.st.len,λj w e=> ?_,s.st.apart,m⟩,⟨λb o q i=> ?_,s.ext.le,s.ext.aR,s.ext.new,s.ext.fz,s.ext.old,λq t w=> ?_⟩,s.hr,s.own⟩
 ·obtain⟨v,x,k⟩:=s.st.slot j w e
  refine⟨v,x,?_⟩
  cases w with
  | v d=>exact aA.mon mon k
  | own A=>
   obtain⟨b,bs,rfl,u,f,a,l⟩:=k
   exact⟨b,bs,rfl,u,f,by rw [Qa (Ne.symm (f r g))];exact a,l.mon mon⟩
  | bor A=>
   obtain⟨b,bs,rfl,f,a,l⟩:=k
   refine⟨b,bs,rfl,f,?_,l.mon mon⟩
   obtain a | ⟨o,a⟩:=a
   ·exact .inl (by rw [Qa (Ne.symm (f r g))];exact a)
   ·exact .inr ⟨o,by rw [Qa (Ne.symm (f r g))];exact a⟩
 ·have y:b≠G.aR r:=λe=>by
   by_cases c:r<B.G.n
   ·exact i r c (by rw [← s.ext.aR r c];exact e.symm)
   ·have:=s.ext.new r (Nat.not_lt.mp c) g
    rw [← e,q]at this
    cases this
  rw [Qa y]
  exact s.ext.keep b o q i
 ·by_cases c:B.G.aR q=G.aR r
  ·exact⟨_,by rw [c];exact Zc⟩
  ·obtain⟨o,E⟩:=s.ext.cells q t w
   exact⟨o,by rw [Qa c];exact E⟩
def ZP (a:ag Y G h H) (c:r<G.n) (o):Mon G H G (aL H (G.aR r) o):=⟨λb o w q=>by rw [Qa (λe:b=G.aR r=>a.kN c (e▸w))];exact q,Aa9 _,λ_ _=>rfl,λ_ w=>w⟩
def br.cell (s:br Y B G τ h U H) (a:h[r]? =k0 (.lst xs)) (b:M.Gc ys=u0) (z:aa Y G H ys us):br Y B G τ (h.set r (.lst ys)) U (aL H (G.aR r) (.lst us)):=
 s.fK a ⟨b,us,Zc,z.mon (ZP s.st.heap (s.st.heap.lt a) _)⟩
def br.hB (s:br Y B G τ h U H) (a:h[r]? =k0 (.obj c0 xs)) (z:aa Y G H (ys.map (·.2)) us):br Y B G τ (h.set r (.obj c0 ys)) U (aL H (G.aR r) (.ins (Y.ca c0) dx0 ((ys.map λp=>Str.ofString p.1).zip us))):=
 s.fK a ⟨dx0,us,Zc,z.mon (ZP s.st.heap (s.st.heap.lt a) _)⟩
end
structure mQ (Y:Ge) (F:M.Fx) (X:Cx) (E:XK) (k:Nat) (cf:Cf):Prop extends Go Y F X E k cf where
 iS:PassesOwn (model X.prog X.w) X.A X.env X.xe
 mD:X.stack=X.env::X.outer
 Dq:X.env.frame=k0 X.env.locals
 ex:X.ex= []
section
variable {Y:Ge}{F:M.Fx}{X:Cx}{E:XK}{k:Nat}{cf:Cf}
def wK (h:wF cf i x=u0):cf.N[i]? =k0 x/\iw cf.sc x=true:=by
 simpa [wF]using h
def Ew (o:tD Y E (M.eval F (.share a)) U H Q):tD Y E (M.eval F a) U H Q:=by
 obtain⟨G,B,h,s,p⟩:=o
 refine Wa s.heap Ext.refl s p λq v1 c g A e1 r i u t b=> ?_
 cases q with
 | own e=>
  obtain⟨l,y,rfl,j,k,x,n⟩:=u
  obtain⟨z,m,w⟩:=t
  cases m
  have b:aw Y E G H (if M.Gc e=u0 then M.aq _ (c++ [.lst e])else .fail) _:=b
  by_cases f:M.Gc e=u0
  rotate_left
  ·rw [if_neg f]at b;exact b.elim
  rw [if_pos f]at b
  refine aw.val b (xx e1 w) (zY i.heap j k x n f) ?_ trivial
  show c.length<g.n+1/\V.ref l= .ref (if c.length=g.n then l else g.aR c.length)
  rw [i.heap.len,if_pos rfl]
  exact⟨Ag _,rfl⟩
 | v d=>exact b.elim
 | bor e=>exact b.elim
def qo (h:zC v=u0):swapsWith v t l env=pure false:=by
 cases v<;>first | rfl | (simp [zC]at h)
def WM :swapsWith v (k0 (.Attribute o n p)) l env=pure false:=by cases v<;>rfl
def X0 (a:Go Y F X E k cf)(b:wF cf i x=u0) (d:PE X v (tD Y E (M.eval F m))) (c:swapsWith v (k0 (.Name x p)) pos.line X.env=pure k9):
 PS X (.Assign [.Name x p] v pos) (gU (tD Y E (M.eval F m)) (qY i)):=by
 obtain⟨e,f⟩:=wK b
 have b:=a.iR x f
 exact AA (by rw [a.N];exact a.nd) (by rw [a.N];exact e) b.1 d c b.2
def u2:M.E->Bool
 | .share _=>u0
 | .comp .. =>u0
 | _=>k9
def KQ (h:wc cf m v=u0) (a:u2 m=k9):zC v=true:=by
 cases v with
 | ListComp _ _ _ _=>cases m<;>first | exact cv h | (exact absurd (a) Ap3)
 | SetComp _ _ _ _=>cases m<;>first | exact cv h | (exact absurd (a) Ap3)
 | DictComp _ _ _ _ _=>cases m<;>first | exact cv h | (exact absurd (a) Ap3)
 | _=>rfl
def AF (d:Cf) (a:Bool) (b:List Expr) (c:M.E):Bool:=bif a then(lC b λz r=>kZ r (fv c&&wc d c z))else b.isEmpty
def A8 (h:wc cf (.comp tg one kk aB it y7 c elt) v=u0): ∃y t iter ifs scope p0,v= .ListComp y [⟨t,iter,ifs,0⟩] scope p0 ∧
 iX cf scope (zz cf t aB) kk aB/\(∀ i∈tg,i<kk)/\qf { cf with sc:=scope,N:=zz cf t aB } tg one t=u0/\d3 cf it iter=u0/\wc { cf with sc:=scope,N:=zz cf t aB } elt y=u0 ∧
 AF { cf with sc:=scope,N:=zz cf t aB } y7 ifs c=true:=by
 refine r6 (λy g s p h=> ?_) v h
 refine kC (λg r h=> ?_) g h
 obtain⟨t,iter,ifs,z⟩:=g
 obtain⟨j,d,a,f,b,k,e⟩:=a7 h
 obtain⟨rfl,rfl⟩:=of_decide_eq_true j
 simp [decide_eq_true_eq]at a
 exact⟨y,t,iter,ifs,s,p,rfl,jH d,a,f,b,k,e⟩
def LH (e:Go Y F X E k cf)(u:wF cf i x=u0)(h:wc cf (.comp tg one kk aB it y7 c elt) v=u0):
 PS X (.Assign [.Name x p] v pos) (gU (tD Y E (M.eval F (.comp tg one kk aB it y7 c elt))) (qY i)):=by
 have N:=(Jc _ e h).1
 obtain⟨y,t,j,d,a,D,rfl,l,J,K,m,P,n⟩:=A8 h
 obtain⟨b,q⟩: ∃b,swapsWith (.ListComp y [⟨t,j,d,0⟩] a D) (k0 (.Name x p)) pos.line X.env=pure b:=⟨_,rfl⟩
 cases b with
 | false=>exact X0 e u N q
 | true=>
  obtain⟨B,w⟩:=wK u
  have O: ∀C f s H,gv (Wd X _ a C f s H) d (cV Y E0 (km F y7 c)):=λC f s H=>by
   have R:=qD e l C f s H
   cases y7 with
   | true=>
    refine kC (λz r h=> ?_) d n
    refine kE (λh=> ?_) r h
    exact rE ((Jc c R (a2 h).2).2 (a2 h).1)
   | false=>
    cases Af8.mp n
    intro g L U o Q I ⟨G,S,h,A,p⟩
    exact ya g L U o Q I (p G o Ext.refl A.heap)
  exact J5 e B w q l (ZK l.aB) K J (J0 m) (lj it e m) (λC f s H=>(Jc elt (qD e l C f s H) P).1) O
def Jb (a:Go Y F X E k cf)(b:wF cf i x=u0)(h:wc cf m v=u0) (c:u2 m=k9):PS X (.Assign [.Name x p] v pos) (gU (tD Y E (M.eval F m)) (qY i)):=
 X0 a b (Jc m a h).1 (qo (KQ h c))
theorem ot (b:Go Y F X E k cf)(c:wF cf i x=u0): ∀ m,wc cf m v=u0->PS X (.Assign [.Name x p] v pos) (gU (tD Y E (M.eval F m)) (qY i))
 | .share a,h=>PS.imp (ot b c a h) λD U H q=>Ew q
 | .comp ..,h=>LH b c h
 | .c8,h=>Jb b c h rfl
 | .eE ..,h=>Jb b c h rfl
 | .cQ ..,h=>Jb b c h rfl
 | .ef _,h=>Jb b c h rfl
 | .fu ..,h=>Jb b c h rfl
 | .var _,h=>Jb b c h rfl
 | .con _,h=>Jb b c h rfl
 | .int _,h=>Jb b c h rfl
 | .bl _,h=>Jb b c h rfl
 | .aj,h=>Jb b c h rfl
 | .str _,h=>Jb b c h rfl
 | .tup _,h=>Jb b c h rfl
 | .lst _,h=>Jb b c h rfl
 | .bin ..,h=>Jb b c h rfl
 | .cmp ..,h=>Jb b c h rfl
 | .chain ..,h=>Jb b c h rfl
 | .eU ..,h=>Jb b c h rfl
 | .neg _,h=>Jb b c h rfl
 | .inv _,h=>Jb b c h rfl
 | .not _,h=>Jb b c h rfl
 | .and ..,h=>Jb b c h rfl
 | .or ..,h=>Jb b c h rfl
 | .call ..,h=>Jb b c h rfl
 | .bi ..,h=>Jb b c h rfl
 | .b8 ..,h=>Jb b c h rfl
 | .ix ..,h=>Jb b c h rfl
 | .sl ..,h=>Jb b c h rfl
 | .fB ..,h=>Jb b c h rfl
 | .fG ..,h=>Jb b c h rfl
 | .bY _,h=>Jb b c h rfl
 | .dE ..,h=>Jb b c h rfl
 | .dz ..,h=>Jb b c h rfl
 | .make ..,h=>Jb b c h rfl
 | .aG ..,h=>Jb b c h rfl
 | .bL ..,h=>Jb b c h rfl
 | .eV ..,h=>Jb b c h rfl
 | .eM ..,h=>Jb b c h rfl
def Bz (n:Go Y F X E k cf)(o:wF cf i x=u0)(h:wc cf m v=u0):PS X (.Assign [.Name x p] v pos) (cS Y E (M.exec F (.set i m))):=by
 refine PS.imp (ot n o m h) λD U H l=> ?_
 obtain⟨B,G,t,h,s,p⟩:=l
 refine wd s p λw v q j c e1 e g f a=> ?_
 cases w with
 | bor b=>exact a.elim
 | v d=>exact a j _ c (br.set s e1 e g f λb z=>by cases z)
 | own r=>exact a j _ c (br.set s e1 e g f λb z=>by cases z)
def K8 (l:Go Y F X E k cf)(n:wF cf i x=u0)(h:wc cf m v=u0):PS X (.Assign [.Name x p] v pos) (cS Y E (M.exec F (.af i m))):=by
 refine PS.imp (ot l n m h) λD U H c=> ?_
 obtain⟨B,G,t,h,s,p⟩:=c
 refine wd s p λw v r u e e1 f j g a=> ?_
 cases q:w.d with
 | none=>rw [q]at a;exact a.elim
 | some d=>
  rw [q]at a
  obtain⟨b,e2,o,rd⟩:=br.fz s e1 f j g q
  exact a b _ e (o.eg rd)
def xW :swapsWithSole [.Tuple ts n p] v l env=pure false:=by
 cases v<;>rfl
def XI (h:Xl v=u0):swappedStores [.Tuple ts n p] v env=pure none:=by
 cases v<;>first | rfl | (simp [Xl]at h)
def C2 (f:Go Y F X E k cf)(x:qu cf is ts=u0) (t:Xl v=u0)(h:wc cf m v=u0):PS X (.Assign [.Tuple ts n p] v pos) (cS Y E (M.exec F (.fb is m))):=by
 refine PS.imp (W3 (Jc m f h).1 (qz f (one:=k9) x) xW (XI t) rfl) λD U H j=> ?_
 obtain⟨B,G,c,h,s,p⟩:=j
 refine wd s p λw v g u l e1 o r z a=> ?_
 cases w with
 | v d=>
  cases d with
  | tup e=>
   have a:Qs Y E B (match M.aY is e c with | some b=> .next b g | none=> .fail) D:=a
   cases q:M.aY is e c with
   | none=>rw [q]at a;exact a.elim
   | some b=>
    rw [q]at a
    exact tx (show M.Gp is k9 (.tup e) c=k0 b from q) r o λi y=>a u i l y
  | _=>exact a.elim
 | own _=>exact a.elim
 | bor _=>exact a.elim
def WI :swapsWithSole [.Subscript x y p] v l env=pure false:=by
 cases v<;>rfl
def jC :swappedStores [.Subscript x y p] v env=pure none:=by
 cases v<;>rfl
def XR (a:Wc y=u0) (v):assign (.Subscript x y p) env v=(do
 let i ←holding [v] (eval x env)
 let j ←holding [v,i] (eval y env)
 standAt p
 holding [v,i,j] (setItem i j v)
 release [v,i,j] []):=by
 cases y<;>first | rfl | (simp [Wc]at a)
def WR (a:M.GN d=u0) (z:aA Y G H d v):aA Y G' H' d v:=by
 cases d with
 | aj=>exact z
 | bl _=>exact z
 | int _=>exact z
 | str _=>exact z
 | _=>exact absurd (a) Ab2
def JM (a:M.GN d=u0):M.Gf d=true:=by
 cases d<;>first | rfl | exact absurd (a) Ab2
def Q6 (c:Go Y F X E k cf)(t:Wc y=u0)(L:wc cf o x=u0) (A:wc cf kx y=u0) (h:wc cf m v=u0):PS X (.Assign [.Subscript x y p] v pos) (cS Y E (M.exec F (.bT o kx m))):=by
 refine PS.imp (W3 (Jc m c h).1 (mH (Jc o c L).1 (Jc kx c A).1 QT (XR t)) WI jC rfl) λD U H I=> ?_
 obtain⟨B,G,τ,h,s,p⟩:=I
 refine wd s p λw v W G1 H1 e1 J O f1 Q=> ?_
 refine wd J Q λow ov h2 G2 Z e2 i S V C=> ?_
 refine wd i C λkw iv h3 g K P e u f3 a=> ?_
 unfold M.Kt at a
 split at a
 ·rename_i d r j
  split at a
  ·rename_i b q
   split at a
   ·rename_i n l
    split at a
    ·rename_i f
     obtain⟨T,R⟩:=(ah.ext P i.st.heap S)
     subst R
     cases (u)
     have rd:aA Y g K d v:=WR f O
     obtain⟨_,z,N,rv⟩:=e.st.heap.cell r b q
     refine⟨_,z,j,n,rfl,rfl,N,by rw [← rv.length];exact l,?_⟩
     exact a g U _ (e.cell q (XB b n (e.st.heap.pure r b q) (JM f)) (aa.set rd n rv))
    ·exact a.elim
   ·exact a.elim
  ·exact a.elim
 ·exact a.elim
def Hb (h:M.fq w=k0 (a,b)):w= .v (.tup [a,b]):=by
 unfold M.fq at h
 split at h
 ·cases h;rfl
 ·cases h
def Hj (f:Go Y F X E k cf){x y v:Expr}{a:Str}{j n:Nat}{p pa pt pos:Pos}(hy:Wc y=u0) (W:Xl v=u0) (T:wF cf j a=u0){o u m:M.E}(ho:wc cf o x=u0) (hk:wc cf u y=u0) (h:wc cf m v=u0):PS X (.Assign [.Tuple [.Subscript x y p,.Name a pa] n pt] v pos) (cS Y E (M.exec F (.fT o u j m))):=by
 obtain⟨j1,j2⟩:=wK T
 have K:=f.iR a j2
 refine PS.imp (W3 (Jc m f h).1 (sE f.calm (jS (mH (Jc o f ho).1 (Jc u f hk).1 QT (XR hy)) (jS (j7 (i:=j) (X:=X) (by rw [f.N];exact f.nd) (by rw [f.N];exact j1) K.1 K.2) sC))) xW (XI W) rfl) λD U H qq=> ?_
 obtain⟨B,G,τ,h,s,p⟩:=qq
 rw [M.exec]at p
 refine wd s p λw v h1 Z H1 e1 s1 V f1 g=> ?_
 cases t:M.fq w with
 | none=>rw [t]at g;exact g.elim
 | some dd=>
  obtain⟨A,d2⟩:=dd
  rw [t]at g
  dsimp only at g
  cases Hb t
  obtain⟨b,J,rfl,z2,v1,r',rfl,z3,v2,r'',rfl,z4,rfl⟩:=(show aA Y Z H1 (.tup [A,d2]) v from V)
  refine⟨b,[v1,v2],rfl,f.K▸z2.sq,rfl,v1,[v2],rfl,?_⟩
  refine wd s1 g λS ov h2 G2 H2 e2 L r2 f2 p2=> ?_
  refine wd L p2 λkw iv h3 z N e3 I R f3 e=> ?_
  split at e
  rotate_left
  ·exact e.elim
  rename_i C
  cases c:M.Kt (.v A) S kw τ h3 with
  | next τ' h'=>
   rw [c]at e
   dsimp only at e
   unfold M.Kt at c
   split at c
   ·rename_i d r P e1
    cases e1
    split at c
    ·rename_i l q
     split at c
     ·rename_i n Q
      split at c
      ·rename_i O
       cases c
       obtain⟨h4,h5⟩:=(show aA Y z N (.ref r) ov from ah.ext (w:= .v (.ref r)) e3 L.st.heap r2)
       subst h5
       cases (show iv= .int P from R)
       have rd:aA Y z N A v1:=WR O z3
       obtain⟨_,J,hv,rv⟩:=I.st.heap.cell r l q
       refine⟨_,J,P,n,rfl,rfl,hv,by rw [← rv.length];exact Q,?_⟩
       have s4:=I.cell q (XB l n (I.st.heap.pure r l q) (JM O)) (aa.set rd n rv)
       exact⟨v2,[],rfl,rfl,e z _ _ (s4.eg (WR C z4))⟩
      ·cases c
     ·cases c
    ·cases c
   ·cases c
  | ret _ _=>rw [c]at e;exact e.elim
  | brk _ _=>rw [c]at e;exact e.elim
  | cont _ _=>rw [c]at e;exact e.elim
  | fail=>rw [c]at e;exact e.elim
def vj (h:Z0 cf i m e k7=u0): ∃x p apos,e= .Attribute (.Name x p) m apos/\cf.N[i]? =k0 x/\wU cf.sc x=u0/\bg x=u0/\(apos.endLine==k7.line)=true:=by
 refine ZZ (λx n q h=> ?_) e h
 refine qx (λx p h=> ?_) x h
 obtain⟨h,b,c⟩:=a3 h
 obtain⟨d,f,a⟩:=fR h
 cases of_decide_eq_true b
 exact⟨_,_,_,rfl,d,f,a,c⟩
def Dh (o:Go Y F X E k cf)(I:Z0 cf i "append" f k7=true) (n:Xb v=true)(h:wc cf m v=true):PS X (.Expr (.Call f [v] [] k7) pos) (cS Y E (M.exec F (.app i m))):=by
 obtain⟨x,p,u,rfl,e,L,c,A⟩:=vj I
 unfold bg at c
 rw [Aa0]at c
 have pv:=zH (pos:=p) (by rw [o.N];exact e) (o.gW x L) (by simpa using c.1) (by simpa using c.2)
 refine PS.imp (w5 (ri PySem.F.plainAttrs_list PySem.F.slot_list_append PySem.F.type_list_append KJ pv (Wi (Jc m o h).1 Qr (Qb n)) rfl (by rw [Qb n];rfl) A (Qb n) rfl) (qo rfl)) λD U H N=> ?_
 obtain⟨B,G,P,h,s,p⟩:=N
 rw [M.exec]at p
 cases q:M.Gn P i with
 | none=>rw [q]at p;exact p.elim
 | some V=>
  rw [q]at p
  cases V with
  | v d=>exact p.elim
  | bor l=>exact p.elim
  | own l=>
   obtain⟨v0,g,a,J,rfl,W,Z,T,z5⟩:=s.st.slot i _ q
   refine⟨.ref a,g,.inl ⟨rfl,J,bu.of T⟩,?_⟩
   refine wd s p λw v e G1 H1 e1 O S R b=> ?_
   cases j:w.d with
   | none=>rw [j]at b;exact b.elim
   | some d=>
    rw [j]at b
    obtain⟨K,e2,z,rd⟩:=br.fz s e1 O S R j
    have b:Qs Y E B (if l.length<M.bh then .next _ e else .fail) D:=b
    by_cases t:l.length<M.bh
    ·rw [if_pos t]at b
     obtain⟨nf,of,C,Q,y⟩:=Xp z.st q g
     have r:=y.length
     exact⟨a,C,v,rfl,rfl,Q,by have:=Jj;lia,b K U _ (z.write q g (y.append ⟨v,[],rfl,rd,rfl⟩))⟩
    ·rw [if_neg t]at b;exact b.elim
def F5 (y:Go Y F X E k cf)(N:Z0 cf i "extend" f k7=true) (u:Xb v=true)(h:wc cf m v=true):PS X (.Expr (.Call f [v] [] k7) pos) (cS Y E (M.exec F (.ext i m))):=by
 obtain⟨x,p,C,rfl,n,P,g,K⟩:=vj N
 unfold bg at g
 rw [Aa0]at g
 have pv:=zH (pos:=p) (by rw [y.N];exact n) (y.gW x P) (by simpa using g.1) (by simpa using g.2)
 refine PS.imp (w5 (ri PySem.F.plainAttrs_list PySem.F.slot_list_extend PySem.F.type_list_extend B9 pv (Wi (Jc m y h).1 Qr (Qb u)) rfl (by rw [Qb u];rfl) K (Qb u) rfl) (qo rfl)) λD U H Q=> ?_
 obtain⟨B,G,R,h,s,p⟩:=Q
 rw [M.exec]at p
 cases q:M.Gn R i with
 | none=>rw [q]at p;exact p.elim
 | some w0=>
  rw [q]at p
  cases w0 with
  | v d=>exact p.elim
  | bor r=>exact p.elim
  | own r=>
   obtain⟨v0,o,a,O,rfl,z2,z3,Z,z5⟩:=s.st.slot i _ q
   refine⟨.ref a,o,.inl ⟨rfl,O,bu.of Z⟩,?_⟩
   refine wd s p λw v n W H1 e1 I V f1 c=> ?_
   cases w with
   | v d=>exact c.elim
   | bor j=>exact c.elim
   | own j=>
    obtain⟨b,l,rfl,_,_,S,e⟩:=V
    have c:Qs Y E B (if r.length+j.length<M.bh then .next _ n else .fail) D:=c
    by_cases A:r.length+j.length<M.bh
    ·rw [if_pos A]at c
     obtain⟨nf,of,L,T,J⟩:=Xp I.st q o
     have z:=J.length
     have t:=e.length
     exact⟨a,b,L,l,rfl,rfl,T,S,by have:=Jj;lia,c W U _ (I.write q o (J.append e))⟩
    ·rw [if_neg A]at c;exact c.elim
def q5 (a:Go Y F X E k cf)(h1:cf.N[i]? =k0 x) (J:wU cf.sc x=u0) (L:bg x=u0) (g:cf.ob.fl.contains (c,f)=u0) (h:wc cf m v=u0):PS X (.Assign [.Attribute (.Name x j) (Qf f) p2] v pos) (cS Y E (M.exec F (.bF i c f m))):=by
 refine PS.imp (pw (Zr a h1 J L) (Jc m a h).1 WM) λD U H K=> ?_
 obtain⟨B,G,N,h,s,p⟩:=K
 refine wd s p λw v h1 l Q e1 e O R j=> ?_
 cases w with
 | own _=>exact j.elim
 | bor _=>exact j.elim
 | v d=>
  cases q:M.GX h1 (M.Gn N i)with
  | none=>rw [q]at j;exact j.elim
  | some o=>
   obtain⟨r,t,fs⟩:=o
   rw [q]at j
   dsimp only at j
   split at j
   ·rename_i A
    obtain⟨rfl,T⟩:=A
    obtain⟨e2,n⟩:=WH q
    obtain⟨S,C,P,z,y⟩:=e.st.heap.obj r _ fs n
    obtain⟨u,b,I⟩:=QQ (O) y
    refine⟨_,vb e.st q,l.aR r,Y.ca t,C,_,rfl,z,(a.fld _ _ g).1,(a.fld _ _ g).2,?_,?_⟩
    ·rw [Al4,Aa];lia
    ·rw [I]
     exact j l U _ (e.hB n b)
   ·exact j.elim
def wX (a:Go Y F X E k cf)(h1:cf.N[i]? =k0 x) (K:wU cf.sc x=u0) (N:bg x=u0) (l:cf.ob.fl.contains (c,f)=u0) (h:wc cf m v=u0):PS X (.Assign [.Attribute (.Name x j) (Qf f) p2] v pos) (cS Y E (M.exec F (.bS i c f m))):=by
 refine PS.imp (pw (Zr a h1 K N) (Jc m a h).1 WM) λD U H L=> ?_
 obtain⟨B,G,P,h,s,p⟩:=L
 refine wd s p λw v h1 W V e1 O R Q j=> ?_
 cases b:w.d with
 | none=>rw [b]at j;exact j.elim
 | some d=>
  rw [b]at j
  obtain⟨n,e2,g,rd⟩:=br.fz s e1 O R Q b
  cases q:M.GX h1 (M.Gn P i)with
  | none=>rw [q]at j;exact j.elim
  | some o=>
   obtain⟨r,u,fs⟩:=o
   rw [q]at j
   dsimp only at j
   split at j
   ·rename_i C
    obtain⟨rfl,T,hl⟩:=C
    obtain⟨e2,t⟩:=WH q
    obtain⟨Z,I,S,A,z⟩:=g.st.heap.obj r _ fs t
    obtain⟨y,e,J⟩:=QQ rd z
    refine⟨_,vb g.st q,n.aR r,Y.ca u,I,_,rfl,A,(a.fld _ _ l).1,(a.fld _ _ l).2,?_,?_⟩
    ·rw [Al4,Aa];lia
    ·rw [J]
     exact j n U _ (g.hB t e)
   ·exact j.elim
def DL (n:Go Y F X E k cf)(h1:cf.N[i]? =k0 x) (o:wU cf.sc x=u0) (P:bg x=u0) (C:Wc y=u0)(L:wc cf kx y=u0) (h:wc cf m v=u0):PS X (.Assign [.Subscript (.Name x p) y p2] v pos) (cS Y E (M.exec F (.cm i kx m))):=by
 refine PS.imp (W3 (Jc m n h).1 (mH (Zr n h1 o P) (Jc kx n L).1 Iv (XR C)) WI jC rfl) λD U H O=> ?_
 obtain⟨B,G,Q,h,s,p⟩:=O
 refine wd s p λw v h1 G1 H1 e1 l R f1 c=> ?_
 cases q:M.GT h1 (M.Gn Q i)with
 | none=>rw [q]at c;exact c.elim
 | some S=>
  obtain⟨r0,A⟩:=S
  rw [q]at c
  have sl:=(Jo l.st q).1
  refine⟨_,sl,?_⟩
  refine wd l c λkw iv o N Z e2 e T W p2=> ?_
  split at p2
  ·rename_i d t r ks g
   split at p2
   ·rename_i J
    obtain⟨u,I,V,K,z⟩:=Jo e.st g
    have j:=by rw [sl]at u;exact Ad5.inj (Ad5.inj u)
    cases T
    have rd:=(R).ext e2 l.st.heap
    obtain⟨f,a,b⟩:=BO rd z
    refine⟨aC t,_,_,rfl,j,K,by rw [yY z];have:=Jj;lia,?_⟩
    rw [b]
    exact p2 N U _ (e.fK (JR g).2 ⟨yN J.2 I,f,Zc,a.mon (ZP e.st.heap (e.st.heap.lt (JR g).2) _)⟩)
   ·exact p2.elim
  ·exact p2.elim
def FO (e:Go Y F X E k cf)(h1:cf.N[i]? =k0 x) (l:wU cf.sc x=u0) (c:bg x=u0) (u:Wc y=u0)(A:wc cf kx y=u0) (h:wc cf m v=u0):PS X (.Assign [.Subscript (.Name x p) y p2] v pos) (cS Y E (M.exec F (.dY i kx m))):=by
 unfold bg at c
 rw [Aa0]at c
 have pv:=zH (pos:=p) (by rw [e.N];exact h1) (e.gW x l) (by simpa using c.1) (by simpa using c.2)
 refine PS.imp (W3 (Jc m e h).1 (mH pv (Jc kx e A).1 QT (XR u)) WI jC rfl) λD U H J=> ?_
 obtain⟨B,G,K,h,s,p⟩:=J
 refine wd s p λw v h1 G1 Z e1 g N f1 b=> ?_
 cases q:M.Gn K i with
 | none=>rw [q]at b;exact b.elim
 | some P=>
  rw [q]at b
  cases P with
  | v d=>exact b.elim
  | bor I=>exact b.elim
  | own I=>
   obtain⟨v0,f,a,S,rfl,Q,T,z4,W⟩:=g.st.slot i _ q
   refine⟨.ref a,f,?_⟩
   refine wd g b λkw iv l C V e2 r O R p2=> ?_
   split at p2
   ·rename_i d j
    split at p2
    ·rename_i n t
     cases (O)
     have rd:=(N).ext e2 g.st.heap
     obtain⟨nf,of,z,L,o⟩:=Xp r.st q f
     refine⟨_,z,j,n,rfl,rfl,L,by rw [← o.length];exact t,?_⟩
     exact p2 C U _ (r.write q f (aa.set rd n o))
    ·exact p2.elim
   ·exact p2.elim
end
section
variable {Y:Ge}{E:XK}{B:Bs}{G:Gh}{τ:M.Sl}{h:M.AH}{U:St}{H:Hp}{D:hI}
def KS (c:M.Gn τ i=k0 (.own xs)) (b:U[i]? =k0 (k0 (.ref a))):wm τ U H a=none:=by
 unfold wm
 rw [if_pos ⟨i,xs,c,b⟩]
def tF (e:wm τ U H a=k0 o):H a=k0 o:=by
 unfold wm at e
 split at e
 ·cases e
 ·exact e
def Ef (s:ao Y G τ h U H):ag Y G h (wm τ U H) where
 len:=s.heap.len
 any:=λr c e=>⟨(s.heap.any r c e).1,(s.heap.any r c e).2.mon (Wx s) λo z=>by rw [xk λ⟨i,f,b,d⟩=>(Xp s b d).2.1 r (s.heap.lt e) rfl];exact z⟩
 inj:=s.heap.inj
 live:=λa z=>by
  obtain⟨o,q⟩:=s.heap.live a z
  exact⟨o,by rw [xk λ⟨i,f,b,d⟩=>(Xp s b d).1 z];exact q⟩
def gQ (G:Gh) (τ:M.Sl) (h:M.AH) (U:St) (H:Hp):Bs:=⟨G,wm τ U H,h⟩
def JT (s:br Y B G τ h U H):Ext B.G B.H G (wm τ U H) where
 keep:=λa o e c=>by
  rw [xk λ⟨i,b,f,d⟩=>by rw [s.own i b a f d]at e;cases e]
  exact s.ext.keep a o e c
 le:=s.ext.le
 aR:=s.ext.aR
 new:=s.ext.new
 fz:=s.ext.fz
 old:=s.ext.old
 cells:=λr g z=>by
  obtain⟨o,q⟩:=s.ext.cells r g z
  refine⟨o,?_⟩
  rw [xk λj=>by
   obtain⟨i,b,f,d⟩:=j
   obtain⟨u,z⟩:=z
   rw [s.own i b _ f d]at z
   cases z]
  exact q
def Be (s:br Y B G τ h U H):br Y (gQ G τ h U H) G τ h U H where
 st:=s.st
 ext:=⟨λa o e _=>tF e,Aa9 _,λ_ _=>rfl,λr h1 h2=>absurd h1 (An4.mpr h2),λ_ z=>z,λ_ z=> .inl z,λr hr ⟨o,z⟩=>⟨o,tF z⟩⟩
 hr:=Ef s.st
 own:=λi xs a e1 e2=>KS e1 e2
def jQ (s:br Y B G τ h U H)(b:br Y (gQ G τ h U H) G2 τ2 h2 U2 H2):br Y B G2 τ2 h2 U2 H2:=
 ⟨b.st,(JT s).trans s.hr b.ext,s.hr,λi c a e1 e2=>(JT s).none s.hr (b.own i c a e1 e2)⟩
def yX (s:br Y B G τ h U H){o:M.O}(p:Qs Y E B o D):Qs Y E (gQ G τ h U H) o D:=by
 cases o with
 | next i k=>exact λc g b j=>p c g b (jQ s j)
 | brk i k=>exact λc g b j=>p c g b (jQ s j)
 | cont i k=>exact λc g b j=>p c g b (jQ s j)
 | ret w k=>
  refine λc v b e q r f=>p c v b ((JT s).trans s.hr e) q r ?_
  cases w with
  | v d=>trivial
  | own m=>obtain⟨a,n,l⟩:=f;exact⟨a,n,(JT s).none s.hr l⟩
  | bor m=>exact f
 | fail=>exact p
end
section
variable {Y:Ge}{F:M.Fx}{X:Cx}{E:XK}{k:Nat}{cf:Cf}
def CL.hide (s:ao Y G τ h U H) (c:CL Y ds l vs G H) (b: ¬ ∃ i xs,M.Gn τ i=k0 (.own xs)/\U[i]? =k0 (k0 (.ref l))):CL Y ds l vs G (wm τ U H):=by
 obtain⟨a,d⟩:=c
 refine⟨?_,d.mon (Wx s)⟩
 obtain⟨a,e⟩ | a:=a
 ·refine .inl ⟨?_,e⟩
  obtain a | ⟨o,a⟩:=a
  ·exact .inl (by rw [xk b];exact a)
  ·exact .inr ⟨o,by rw [xk b];exact a⟩
 ·exact .inr a
def CL.hF (s:ao Y G τ h U H) (a:iT Y G H l vs) (b:aa Y G H ds vs):CL Y ds l vs G (wm τ U H):=by
 refine⟨?_,b.mon (Wx s)⟩
 obtain a | a:=a
 ·exact(CL.hide s ⟨.inl ⟨a.2,s.heap.off a.1⟩,b⟩ λ⟨j,e,c,d⟩=>(Xp s c d).1 a.1).1
 ·exact .inr a
def CT.hide (s:ao Y G τ h U H) (c:CT Y ds l vs G H):CT Y ds l vs G (wm τ U H):=⟨c.1.mon (Wx s),c.2.mon (Wx s)⟩
def WV (h:M.GJ a=k0 i):a= .var i:=by
 cases a<;>first | (cases h;rfl) | cases h
def IA (h:wc cf (.var i) e=u0): ∃x p,e= .Name x p/\cf.N[i]? =k0 x/\wU cf.sc x=u0/\bg x=true:=by
 refine qx (λx p h=> ?_) e h
 exact⟨_,_,rfl,fR h⟩
def rh (b:Go Y F X E k cf)(h:wc cf (.var i) e=u0):PE X e (mn i):=by
 obtain⟨x,p,rfl,c,d,a⟩:=IA h
 unfold bg at a
 rw [Aa0]at a
 exact zH (by rw [b.N];exact c) (b.gW x d) (by simpa using a.1) (by simpa using a.2)
def Lm (s:ao Y G τ h U H)(e:M.Gn τ i=k0 w) (g:w= .v (.lst xs)\/w= .bor xs):
 ∃l vs,U[i]? =k0 (k0 (.ref l))/\CL Y xs l vs G H/\CL Y xs l vs G (wm τ U H):=by
 obtain⟨v,e2,r⟩:=s.slot i w e
 obtain rfl | rfl:=g
 ·obtain⟨l,vs,rfl,a,b⟩:=r
  exact⟨l,vs,e2,⟨a.oZ s.heap,b⟩,CL.hF s a b⟩
 ·obtain⟨l,vs,rfl,a,b,m⟩:=r
  have c:CL Y xs l vs G H:=⟨.inl ⟨b,a⟩,m⟩
  refine⟨l,vs,e2,c,c.hide s λ⟨j,k,f,n⟩=> ?_⟩
  have d:j≠i:=λz=>by rw [z,e]at f;cases f
  exact s.apart j i k _ l d f e rfl n e2
def zX (k:ao Y G0 τ h0 U H0) (s:ao Y G τ h U H)(r:ah Y G H w v) (f:aI τ U H0 w v) (d:w= .v (.lst xs)\/w= .own xs):
 ∃l vs,v= .ref l/\CL Y xs l vs G H/\CL Y xs l vs G (wm τ U H):=by
 obtain rfl | rfl:=d
 ·obtain⟨l,vs,rfl,b,a⟩:=r
  exact⟨l,vs,rfl,⟨b.oZ s.heap,a⟩,CL.hF s b a⟩
 ·obtain⟨l,vs,rfl,b,a,p,g⟩:=r
  obtain⟨t,e,i⟩:=f
  cases e
  have c:CL Y xs l vs G H:=⟨.inl ⟨.inl p,a⟩,g⟩
  refine⟨l,vs,rfl,c,c.hide s λ⟨j,q,n,m⟩=> ?_⟩
  obtain⟨o,z⟩:=k.cT n rfl m
  rw [i]at z;cases z
def Ih (j:Go Y F X E k cf){a:M.E}{e tg:Expr}(Q:wc cf a e=u0):PI X tg e (gs Y E u0 (M.Gs F (.seq a))):=by
 cases q:M.GJ a with
 | some i=>
  cases WV q
  refine PI.imp (nG (rh j Q)) λU H R L=> ?_
  obtain⟨G,t,h,s,p⟩:=L
  have p:aw Y E G H (M.R.of h ((M.Gn t i).bind M.iW)) λu _ g f=> ∀J C,xK Y J u C->C g f->(u0=u0->C g (wm t U f))->R J f:=p
  cases B:M.Gn t i with
  | none=>rw [B]at p;exact p.elim
  | some w=>
   rw [B]at p
   have lst: ∀ {b:List M.D},(w= .v (.lst b)\/w= .bor b)->aw Y E G H (.ok b h) (λu _ g f=> ∀J C,xK Y J u C->C g f->(u0=u0->C g (wm t U f))->R J f) →
    ∃v,U[i]? =k0 (k0 v)/\((∃ a,v= .ref a/\(∃ b,bu X.K H a b)/\R (iY X.K a) H)\/(∃ a,v= .ref a/\(∃ b,cA X.K H a b)/\R (i7 X.K a) H)\/ ∃z,v= .str z/\R (iK z) H):=λ{b} I p=>by
    obtain⟨l,m,e2,A,P⟩:=Lm s B I
    exact⟨_,e2,.inl ⟨l,rfl,⟨m,j.K▸A.1.sq⟩,p G H Ext.refl s.heap _ _ (CL.walk j.K) A λ_=>P⟩⟩
   cases w with
   | v d=>
    cases d with
    | lst b=>exact lst (.inl rfl) p
    | tup b=>
     obtain⟨v,e2,l,m,rfl,x,K⟩:=s.slot i _ B
     have c:CT Y b l m G H:=⟨x,K⟩
     exact⟨_,e2,.inr (.inl ⟨l,rfl,⟨m,j.K▸x.sq⟩,p G H Ext.refl s.heap _ _ (CT.walk j.K) c λ_=>c.hide s⟩)⟩
    | aj=>exact p.elim
    | bl _=>exact p.elim
    | int _=>exact p.elim
    | str z=>
     obtain⟨v,e2,r⟩:=s.slot i _ B
     cases (show v= .str (aC z)from r)
     exact⟨_,e2,.inr (.inr ⟨_,rfl,p G H Ext.refl s.heap _ _ XG trivial λ_=>trivial⟩)⟩
    | ref _=>exact p.elim
   | bor b=>exact lst (.inr rfl) p
   | own b=>exact p.elim
 | none=>
  refine PI.imp (nG (Jc a j Q).1) λU H R L=> ?_
  obtain⟨G,t,h,s,p⟩:=L
  have p:aw Y E G H ((M.eval F a t h).bind λw h=>M.R.of h (M.kW w)) λu _ g f=> ∀J C,xK Y J u C->C g f->(u0=u0->C g (wm t U f))->R J f:=by
   unfold M.Gs at p
   dsimp only at p
   rw [q]at p
   exact p
  refine Wa s.heap Ext.refl s p λN v1 S D n e1 T y O V o=> ?_
  have lst: ∀ {b:List M.D},(N= .v (.lst b)\/N= .own b)->aw Y E G H (.ok b S) (λu _ g f=> ∀J C,xK Y J u C->C g f->(u0=u0->C g (wm t U f))->R J f) →
   ((∃ a,v1= .ref a/\(∃ b,bu X.K n a b)/\R (iY X.K a) n)\/(∃ a,v1= .ref a/\(∃ b,cA X.K n a b)/\R (i7 X.K a) n)\/ ∃z,v1= .str z/\R (iK z) n):=λ{b} I p=>by
   obtain⟨l,m,e2,A,P⟩:=zX s y O V I
   exact .inl ⟨l,e2,⟨m,j.K▸A.1.sq⟩,p D n e1 y.heap _ _ (CL.walk j.K) A λ_=>P⟩
  cases N with
  | v d=>
   cases d with
   | lst b=>exact lst (.inl rfl) o
   | tup b=>
    obtain⟨l,m,rfl,x,K⟩:=O
    have c:CT Y b l m D n:=⟨x,K⟩
    exact .inr (.inl ⟨l,rfl,⟨m,j.K▸x.sq⟩,o D n e1 y.heap _ _ (CT.walk j.K) c λ_=>c.hide y⟩)
   | aj=>exact o.elim
   | bl _=>exact o.elim
   | int _=>exact o.elim
   | str z=>
    cases (show v1= .str (aC z)from O)
    exact .inr (.inr ⟨_,rfl,o D n e1 y.heap _ _ XG trivial λ_=>trivial⟩)
   | ref _=>exact o.elim
  | own b=>exact lst (.inr rfl) o
  | bor b=>exact o.elim
theorem qG: ∀(ds) (i),(M.Kk i ds).length=ds.length
 | [],_=>rfl
 | d::ds,i=>congrArg (· +1) (qG ds (i+1))
theorem sd: ∀(ds) (j i) (h:i<ds.length),(M.Kk j ds)[i]? =k0 (.tup [.int ((j+i:Nat):Int),ds[i]])
 | d::ds,j,0,_=>rfl
 | d::ds,j,i+1,h=>by
  have:=sd ds (j+1) i (by simpa using h)
  rw [show j+1+i=j+(i+1)by omega]at this
  simpa [M.Kk]using this
def Fo: "enumerate" ∈cF:=by decide
def CL.kB {l:Addr}{vs:List V}{K:Ab}(g:K=Y.K):xK Y (oh K l) (M.Kk 0 ds) (CL Y ds l vs) where
 go:=by
  rintro i G H ⟨d,c⟩ b
  rw [qG]at b
  obtain⟨v,e,_⟩:=c.get (Aa7 b)
  exact⟨vs,v,g▸d.sq,e⟩
 eX:=by
  rintro i G H x k ⟨d,c⟩ b ⟨p,y,f,ex,t,m⟩
  rw [qG]at b
  subst ex t
  obtain⟨v,e,rd⟩:=c.get (Aa7 b)
  have:=m vs (g▸d.sq)
  rw [e]at this
  cases this
  refine⟨G.more p,xG _ f,λh j=>j.kY _ f,.tup [.int i,ds[i]],by rw [sd ds 0 i b,Am0],⟨p,[.int i,y],rfl,.inl ⟨.inr rfl,Zc⟩,⟨.int i,[y],rfl,rfl,⟨y,[],rfl,?_,rfl⟩⟩⟩⟩
  have s:Mon G H (G.more p) (aL H p (.tup [.int i,y])):=⟨λa o w q=>by rw [Qa (wb q f)];exact q,Aa9 _,λ_ _=>rfl,λ_ z=>Or.inl z⟩
  exact rd.mon s
 stop:=by
  rintro i G H ⟨d,c⟩ n r
  rw [qG]at n r
  exact⟨vs,g▸d.sq,by rw [← c.length];omega⟩
 keep:=λG H u k h z e j=>z.keep e j
def AO (b:Go Y F X E k cf)(o:cH cf.sc "enumerate" g=true) (d:Xb x=true) (r:wc cf a x=true):PI X (.Tuple elts x1 tp) (.Call g [x] [] pos) (gs Y E true (M.Gs F (.cj a))):=by
 obtain⟨D,rfl,t,I⟩:=Qd o
 refine PI.imp (Ma (b.gl _ t) (b.blt _ Fo) (Wi (Jc a b r).1 Qr (Qb d)) (Qb d)) λU H R u=> ?_
 obtain⟨G,J,h,s,p⟩:=u
 have p:=p
 refine Wa s.heap Ext.refl s p λi v1 C A v e1 w f z y c=> ?_
 obtain⟨e,q,c⟩:=c.of
 have m:i= .v (.lst e)\/i= .own e:=by
  unfold M.yl at q
  split at q
  ·cases q;exact .inl rfl
  ·cases q;exact .inr rfl
  ·cases q
 obtain⟨l,n,e2,j,B⟩:=zX s f z y m
 subst e2
 exact⟨l,n,rfl,b.K▸j.1.sq,c A v e1 f.heap _ _ (CL.kB b.K) j λ_=>B⟩
def CG (b:Go Y F X E k cf){it:M.It}{e tg:Expr}(j:nt it tg=u0) (h:oE cf it e=u0):PI X tg e (gs Y E u0 (M.Gs F it))/\Wg e=true:=by
 cases it with
 | seq a=>exact⟨Ih b (a2 h).2,(a2 h).1⟩
 | av a=>
  refine jp (λg x l p h=> ?_) e h
  refine kE (λh=> ?_) l h
  refine kC (λx r h=> ?_) x h
  refine kE (λh=> ?_) r h
  obtain⟨c,f,d⟩:=a3 h
  exact⟨QI b c f (Jc a b d).1,rfl⟩
 | cj a=>
  cases tg with
  | Tuple i n m=>
   refine jp (λg x l p h=> ?_) e h
   refine kE (λh=> ?_) l h
   refine kC (λx r h=> ?_) x h
   refine kE (λh=> ?_) r h
   obtain⟨c,f,d⟩:=a3 h
   exact⟨AO b c f d,rfl⟩
  | _=>exact cv j
end
section
variable {Y:Ge}{G G0:Gh}{H H0:Hp}{h:M.AH}
def Gh.cut (G:Gh) (n:Nat):Gh:= { G with n:=n }
mutual
theorem aA.cut (n:Nat): ∀ {d:M.D}{v:V},M.Gf d=u0->aA Y G H d v->aA Y (G.cut n) H d v
 | .aj,_,_,z=>z
 | .bl _,_,_,z=>z
 | .int _,_,_,z=>z
 | .str _,_,_,z=>z
 | .tup _,_,q,⟨a,vs,z1,z2,z3⟩=>⟨a,vs,z1,z2,aa.eB n (by simpa [M.Gf]using q) z3⟩
 | .lst _,_,q,⟨a,vs,z1,z2,z3⟩=>⟨a,vs,z1,z2,aa.eB n (by simpa [M.Gf]using q) z3⟩
 | .ref r,_,q,_=>by simp [M.Gf]at q
theorem aa.eB (n:Nat): ∀ {ds:List M.D}{vs:List V},M.Gc ds=u0->aa Y G H ds vs->aa Y (G.cut n) H ds vs
 | [],_,_,z=>z
 | d::ds,_,q,⟨v,r,z1,z2,z3⟩=>by
  have q':M.Gf d=u0/\M.Gc ds=true:=by simpa [M.Gc]using q
  exact⟨v,r,z1,aA.cut n q'.1 z2,aa.eB n q'.2 z3⟩
end
theorem ag.cut (r:ag Y G h H){n:Nat}(k:n<=G.n) (l:M.Gx (h.take n)=u0):ag Y (G.cut n) (h.take n) H where
 len:=by rw [Af6,r.len];exact Ak4 k
 any:=λi c e=>by
  have o:i<n:=by
   have:=(Aa1.mp e).1
   rw [Af6]at this
   omega
  have q:c.pure=true:=Ai6.mp l c (Ac3 e)
  rw [Am3 o]at e
  obtain⟨u,g⟩:=r.any i c e
  refine⟨u,?_⟩
  cases c with
  | lst v=>obtain⟨b,p,a,d⟩:=g;exact⟨b,p,a,aa.eB n b d⟩
  | aM w=>obtain⟨b,f,a,d⟩:=g;exact⟨b,f,a,aa.eB n b d⟩
  | obj c fs=>obtain⟨s,f,a,d⟩:=g;exact⟨s,f,a,aa.eB n q d⟩
 inj:=λi j m t e=>r.inj i j (Ab4 m k) (Ab4 t k) e
 live:=r.live
theorem Ext.cut (e:Ext G0 H0 G H):Ext G0 H0 (G.cut G0.n) H:=⟨e.keep,Aa9 _,e.aR,λr a b=>absurd a (An4.mpr b),e.fz,e.old,e.cells⟩
theorem ah.cut (n) (k:n<=G.n)(q:w.keep=u0) (f: ∀xs,w≠ .bor xs) (z:ah Y G H w v):ah Y (G.cut n) H w v:=by
 cases w with
 | v d=>exact aA.cut n q z
 | own xs=>
  obtain⟨a,c,g,i,e,j,h⟩:=z
  exact⟨a,c,g,i,λr b=>e r (Ab4 b k),j,aa.eB n q h⟩
 | bor xs=>exact absurd rfl (f xs)
end
section
variable {Y:Ge}{F:M.Fx}{X:Cx}{E:XK}{k:Nat}{cf:Cf}
def HR (g:Go Y F X E k cf)(d:zC v=u0)(h:wc cf m v=u0):PS X (.Expr v pos) (cS Y E (M.exec F (.ex m))):=by
 refine PS.imp (w5 (Jc m g h).1 (qo d)) λD U H a=> ?_
 obtain⟨B,G,j,h,s,p⟩:=a
 exact wd s p λw v i e b e1 c n l f=>f e U b c
def Av (s:br Y B G τ h U H)(f:aI τ U H w v) (c: ∀xs,w≠ .bor xs):aI [] [] B.H w v:=by
 cases w with
 | v d=>trivial
 | own xs=>obtain⟨a,b,e⟩:=f;exact⟨a,b,s.ext.none s.hr e⟩
 | bor xs=>exact absurd rfl (c xs)
def DJ (t:Go Y F X E k cf)(h:wc cf m v=u0):PS X (.Return (k0 v) pos) (cS Y E (M.exec F (.ret m))):=by
 cases q:M.GJ m with
 | some i=>
  cases WV q
  refine PS.imp (uR (rh t h)) λD U H f=> ?_
  obtain⟨B,G,g,h,s,p⟩:=f
  rw [M.exec,q]at p
  dsimp only at p
  cases e:M.Gn g i with
  | none=>rw [e]at p;exact p.elim
  | some w=>
   rw [e]at p
   obtain⟨v,e2,r⟩:=s.st.slot i w e
   refine⟨v,e2,?_⟩
   cases w with
   | bor b=>exact p.elim
   | v d=>exact p G v H s.ext s.st.heap r trivial
   | own b=>
    have x:=r
    obtain⟨a,A,rfl,_⟩:=x
    exact p G _ H s.ext s.st.heap r ⟨a,rfl,s.own i b a e e2⟩
 | none=>
  refine PS.imp (uR (Jc m t h).1) λD U H f=> ?_
  obtain⟨B,G,g,h,s,p⟩:=f
  have p:Qs Y E B ((M.eval F m g h).cP λw h=>match w with
   | .bor _=> .fail
   | w=> .ret w h) D:=by
   rw [M.exec,q]at p;exact p
  refine wd s p λw v y o l e1 c n u j=> ?_
  cases w with
  | bor b=>exact j.elim
  | v d=>exact j o v l c.ext c.st.heap n trivial
  | own b=>exact j o v l c.ext c.st.heap n (Av s u λb z=>by cases z)
def Lj (j:PT X x (cV Y E (M.Gm F c))) (m:de X ys (cS Y E (M.execs F a))) (l:de X zs (cS Y E (M.execs F b))):PS X (.If x ys zs pos) (cS Y E (M.exec F (.iff c a b))):=by
 refine PS.imp (CU j m l) λD U H k=> ?_
 obtain⟨B,G,f,h,s,p⟩:=k
 refine tN s p λt d g n e1 e i=> ?_
 cases t with
 | true=>exact nW ⟨B,g,f,d,e,i⟩
 | false=>exact nM ⟨B,g,f,d,e,i⟩
def HW {s:M.S}{e:M.Ss}{st:Stmt}{b:List Stmt}(h1:PS X st (cS Y E (M.exec F s))) (g:de X b (cS Y E (M.execs F e))):de X (st::b) (cS Y E (M.execs F (.cons s e))):=by
 refine de.imp (Bt h1 g) λD U H i=> ?_
 obtain⟨B,G,d,h,k,p⟩:=i
 rw [M.execs]at p
 refine⟨B,G,d,h,k,?_⟩
 cases q:M.exec F s d h with
 | next a c=>rw [q]at p;exact λf m l j=>⟨B,f,a,c,j,p⟩
 | ret w c=>rw [q]at p;exact p
 | brk a c=>rw [q]at p;exact p
 | cont a c=>rw [q]at p;exact p
 | fail=>rw [q]at p;exact p
def BA:de X [] (cS Y E (M.execs F .nil)):=de.imp HM λD U H ⟨B,G,a,h,s,p⟩=>p G U H s
def Ic (L:mQ Y F X E k cf){n:Nat}{c:M.E}{b:M.Ss}{x:Expr}{y:List Stmt}{pos:Pos}(C:PT X x (cV Y E (M.Gm F c))) (K:de X y (cS Y E (M.execs F b))):PS X (.While x y [] pos) (cS Y E (M.exec F (.ip n c b))):=by
 refine PS.imp (Cj L.iS C K) λD U H I=> ?_
 obtain⟨B,G,a,h,s,p⟩:=I
 rw [M.exec]at p
 refine⟨λm U H=> ∃G a h,br Y B G a h U H/\Qs Y E B (M.GG (λa h=>M.Gm F c a h) (λa h=>M.execs F b a h) m a h) D,⟨n,G,a,h,s,p⟩,?_⟩
 rintro m U H ⟨G,a,h,s,p⟩
 cases m with
 | zero=>exact p.elim
 | succ m=>
  rw [M.GG]at p
  refine tN s p λt l A J e1 z d=> ?_
  cases t with
  | false=>exact nM (d A U J z)
  | true=>
   refine nW ⟨_,λv u w=>⟨m,Ag _,w⟩,B,A,a,l,z,?_⟩
   have d:Qs Y E B (match M.execs F b a l with
    | .next e g=>M.GG (λa h=>M.Gm F c a h) (λa h=>M.execs F b a h) m e g
    | .cont e g=>M.GG (λa h=>M.Gm F c a h) (λa h=>M.execs F b a h) m e g
    | .brk e g=> .next e g
    | o=>o) D:=d
   cases q:M.execs F b a l with
   | next f i=>rw [q]at d;exact λj v u r=>⟨j,f,i,r,d⟩
   | cont f i=>rw [q]at d;exact λj v u r=>⟨j,f,i,r,d⟩
   | ret w i=>rw [q]at d;exact d
   | brk f i=>rw [q]at d;exact d
   | fail=>rw [q]at d;exact d
def Fy (O:mQ Y F X E k cf){tg:List Nat}{one:Bool}{it:M.It}{b:M.Ss}{t u:Expr}{ys:List Stmt}{pos:Pos}(he:nt it t=u0) (ht:qf cf tg one t=u0) (hi:oE cf it u=u0) (hb:de X ys (cS Y E (M.execs F b))):
 PS X (.For t u ys [] pos) (cS Y E (M.exec F (.for tg one it b))):=by
 obtain⟨li,ls⟩:=CG (tg:=t) O.toGo he hi
 refine PS.imp (DV O.iS O.calm li (qz O.toGo ht) hb (X6 ls)) λD U H qq=> ?_
 obtain⟨B,G,f,h,s,p⟩:=qq
 rw [M.exec]at p
 refine⟨G,f,h,s.st,?_⟩
 cases q:M.Gs F it f h with
 | fail=>rw [q]at p;exact p
 | ok g r=>
  rw [q]at p
  intro v L e hr J C N c0 Q
  have s1:=s.on e hr
  have p1:Qs Y E (gQ v f r U L) (M.Gq (M.Gp tg one) (λf h=>M.execs F b f h) g f r) D:=yX s1 p
  have cB:C (gQ v f r U L).G (gQ v f r U L).H:=Q rfl
  have s2:=Be s1
  refine⟨λi m W A=> ∃I n K,(m=g.length-i/\i<=g.length)/\br Y (gQ v f r U L) I n K W A/\Qs Y E (gQ v f r U L) (M.Gq (M.Gp tg one) (λf h=>M.execs F b f h) (g.drop i) n K) D,
   ⟨g.length,v,f,r,⟨by simp,Af3 _⟩,s2,p1⟩,?_⟩
  rintro i m W A ⟨I,n,K,⟨rfl,hi'⟩,z,c⟩
  have R:=N.keep _ _ _ _ _ cB z.ext z.hr
  by_cases l:i<g.length
  ·refine .inr ⟨N.go i I A R l,_,λU2 H2 w=>⟨g.length-(i+1),by omega,w⟩,λx H'' hy=> ?_⟩
   obtain⟨G4,x4,T,d,ed,P⟩:=N.eX i I A x H'' R l hy
   have z:=z.on x4 (T _ z.st.heap)
   have V:g.drop i=d::g.drop (i+1):=by
    rw [Am1 l]
    rw [Aa7 l]at ed
    cases ed
    rfl
   rw [V,M.Gq]at c
   cases qb:M.Gp tg one d n with
   | none=>rw [qb]at c;exact c.elim
   | some y=>
    rw [qb]at c
    refine tx qb P z λU2 s3=>⟨_,G4,y,K,s3,?_⟩
    have c:Qs Y E (gQ v f r U L) (match M.execs F b y K with
     | .next a j=>M.Gq (M.Gp tg one) (λf h=>M.execs F b f h) (g.drop (i+1)) a j
     | .cont a j=>M.Gq (M.Gp tg one) (λf h=>M.execs F b f h) (g.drop (i+1)) a j
     | .brk a j=> .next a j
     | o=>o) D:=c
    cases q:M.execs F b y K with
    | next a j=>rw [q]at c;exact λS U3 H3 Z=>⟨S,a,j,⟨rfl,by omega⟩,Z,c⟩
    | cont a j=>rw [q]at c;exact λS U3 H3 Z=>⟨S,a,j,⟨rfl,by omega⟩,Z,c⟩
    | ret w j=>rw [q]at c;exact c
    | brk a j=>rw [q]at c;exact c
    | fail=>rw [q]at c;exact c
  ·have ei:i=g.length:=by omega
   subst ei
   rw [List.drop_length]at c
   exact .inl ⟨N.stop _ I A R (Aa9 _) (Aa9 _),c I W A z⟩
end
section
variable {Y:Ge}{F:M.Fx}{k:Nat}{X:Cx}{E:XK}{cf:Cf}
mutual
theorem B7 (go:mQ Y F X E k cf): ∀(m:M.S){st:Stmt},u1 cf m st=u0->PS X st (cS Y E (M.exec F m))
 | .set i e,st,h=>by
  refine gG (λts v p h=> ?_) st h
  refine kC (λt r h=> ?_) ts h
  refine qx (λx p1 h=> ?_) t h
  refine kE (λh=> ?_) r h
  exact Bz go.toGo (a2 h).1 (a2 h).2
 | .af i e,st,h=>by
  refine gG (λts v p h=> ?_) st h
  refine kC (λt r h=> ?_) ts h
  refine qx (λx p1 h=> ?_) t h
  refine kE (λh=> ?_) r h
  exact K8 go.toGo (a2 h).1 (a2 h).2
 | .fb is e,st,h=>by
  refine gG (λts v p h=> ?_) st h
  refine kC (λt r h=> ?_) ts h
  refine o6 (λx n p1 h=> ?_) t h
  refine kE (λh=> ?_) r h
  obtain⟨h1,h2,h3⟩:=a3 h
  exact C2 go.toGo h1 h2 h3
 | .bS i c f e,st,h=>by
  refine gG (λts v p h=> ?_) st h
  refine kC (λt r h=> ?_) ts h
  refine ZZ (λx n p1 h=> ?_) t h
  refine qx (λx p2 h=> ?_) x h
  refine kE (λh=> ?_) r h
  obtain⟨h0,h⟩:=a2 h
  obtain⟨hn,h4,h6⟩:=a3 h
  obtain⟨h1,h2,h3⟩:=fR h0
  cases of_decide_eq_true hn
  exact wX go.toGo h1 h2 h3 h4 h6
 | .dY i kx e,st,h=>by
  refine gG (λts v p h=> ?_) st h
  refine kC (λt r h=> ?_) ts h
  refine gm (λx y p1 h=> ?_) t h
  refine qx (λx p2 h=> ?_) x h
  refine kE (λh=> ?_) r h
  obtain⟨h0,h4,h6,h7⟩:=a4 h
  obtain⟨h1,h2,h3⟩:=fR h0
  exact FO go.toGo h1 h2 h3 h4 h6 h7
 | .cm i kx e,st,h=>by
  refine gG (λts v p h=> ?_) st h
  refine kC (λt r h=> ?_) ts h
  refine gm (λx y p1 h=> ?_) t h
  refine qx (λx p2 h=> ?_) x h
  refine kE (λh=> ?_) r h
  obtain⟨h0,h4,h6,h7⟩:=a4 h
  obtain⟨h1,h2,h3⟩:=fR h0
  exact DL go.toGo h1 h2 h3 h4 h6 h7
 | .fT o kx j e,st,h=>by
  refine gG (λts v p h=> ?_) st h
  refine kC (λt r h=> ?_) ts h
  refine kE (λh=> ?_) r h
  refine o6 (λts n p h=> ?_) t h
  refine kC (λt1 r h=> ?_) ts h
  refine kC (λt2 r h=> ?_) r h
  refine kE (λh=> ?_) r h
  refine gm (λx y p1 h=> ?_) t1 h
  refine qx (λa p2 h=> ?_) t2 h
  obtain⟨h1,h2,h3,h4,h5⟩:=a5 h
  obtain⟨h5,h6⟩:=a2 h5
  exact Hj go.toGo h1 h2 h3 h4 h5 h6
 | .bT o kx e,st,h=>by
  refine gG (λts v p h=> ?_) st h
  refine kC (λt r h=> ?_) ts h
  refine gm (λx y p1 h=> ?_) t h
  refine kE (λh=> ?_) r h
  obtain⟨h1,_,_,h4,h5,h6⟩:=a6 h
  exact Q6 go.toGo h1 h4 h5 h6
 | .app i e,st,h=>by
  refine m2 (λc p h=> ?_) st h
  refine jp (λf x l q h=> ?_) c h
  refine kE (λh=> ?_) l h
  refine kC (λv r h=> ?_) x h
  refine kE (λh=> ?_) r h
  obtain⟨h1,h2,h3⟩:=a3 h
  exact Dh go.toGo h1 h2 h3
 | .ext i e,st,h=>by
  refine m2 (λc p h=> ?_) st h
  refine jp (λf x l q h=> ?_) c h
  refine kE (λh=> ?_) l h
  refine kC (λv r h=> ?_) x h
  refine kE (λh=> ?_) r h
  obtain⟨h1,h2,h3⟩:=a3 h
  exact F5 go.toGo h1 h2 h3
 | .bF i c f e,st,h=>by
  refine gG (λts v p h=> ?_) st h
  refine kC (λt r h=> ?_) ts h
  refine ZZ (λx n p1 h=> ?_) t h
  refine qx (λx p2 h=> ?_) x h
  refine kE (λh=> ?_) r h
  obtain⟨h0,hn,h4,h6⟩:=a4 h
  obtain⟨h1,h2,h3⟩:=fR h0
  cases of_decide_eq_true hn
  exact q5 go.toGo h1 h2 h3 h4 h6
 | .ea,st,h=>λpins s U H D I ⟨B,G,τ,h,s',p⟩=>p.elim
 | .ex e,st,h=>by
  refine m2 (λv p h=> ?_) st h
  exact HR go.toGo (a2 h).1 (a2 h).2
 | .ret e,st,h=>by
  refine HJ (λv p h=> ?_) st h
  refine kS (λv h=> ?_) v h
  exact DJ go.toGo h
 | .iff c a b,st,h=>by
  refine LL (λx y z p h=> ?_) st h
  obtain⟨h0,h1,h2,h3⟩:=a4 h
  exact Lj ((Jc c go.toGo h1).2 h0) (dq go a h2) (dq go b h3)
 | .ip n c b,st,h=>by
  refine K9 (λx y z p h=> ?_) st h
  refine kE (λh=> ?_) z h
  obtain⟨h0,h1,h2⟩:=a3 h
  exact Ic go ((Jc c go.toGo h1).2 h0) (dq go b h2)
 | .for tg one it b,st,h=>by
  refine KZ (λt i y z p h=> ?_) st h
  refine kE (λh=> ?_) z h
  obtain⟨h1,h2,h3,h4⟩:=a4 h
  exact Fy go h1 h2 h3 (dq go b h4)
theorem dq (go:mQ Y F X E k cf): ∀(m:M.Ss){sts:List Stmt},cU cf m sts=u0->de X sts (cS Y E (M.execs F m))
 | .nil,sts,h=>by
  cases Af8.mp h
  exact BA
 | .cons s ss,sts,h=>by
  refine kC (λst r h=> ?_) sts h
  exact HW (B7 go s (a2 h).1) (dq go ss (a2 h).2)
end
end
section
variable {P:Program}{w:World}{K:Ab}{mg:Str->Option Value}{base:Heap}{N:List Str}{y8:Str}{scope:Scope}{f:Addr}{cd:Value}{A:Around}{outer:List Env}{s:Shared}{H:Hp}{E:XK}
def Hg:qE (d4 P w) (hC (d4 P w) P w K mg base N y8 scope f cd A outer s H E) E:=λ_ _ _ _ _ _ _ z=>z.elim
end
structure Txt (K:Ab) (mg:Str->Option Value) (f:String) where
 st:Stmt
 fa:Addr
 fd:FuncData
 N:List Str
 ps:List Str
structure mN {K:Ab}{mg:Str->Option Value}{f:String}(t:Txt K mg f) (d:M.Fn) (fns own dI dP:List String) (ob:gj):Prop where
 fn: ∃x y8,l9 K x y8 t.st t.fa t.fd
 bd:Binds K t.fd t.ps []
 sc:ZC t.N t.ps (Ql t.st)
 n:t.N.length=d.n
 p:t.ps.length=d.ps
 le:d.ps<=d.n
 CH:cU ⟨Ql t.st,t.N,fns,own,dI,dP,ob⟩ d.body (jK t.st)=u0
structure m8 (Y:Ge) (p:M.Prog) (mg:Str->Option Value) (own dI dP:List String) (ob:gj):Prop where
 cl:p.cl=Y.cl
 ow:own=Y.own
 blt: ∀x,x∈cF->mg (Qf x)=y0
 con: ∀x d,p.con.lookup x=k0 d-> ∃u v,mg (Qf x)=k0 u/\RelV v u/\ ∀G H,aA Y G H d v
 cls: ∀c,own.contains c=u0->mg (Qf c)=k0 (.ref (Y.ca c))
 fld: ∀c f,ob.fl.contains (c,f)=u0->dR Y.K (Y.ca c)/\bZ Y.K (Y.ca c) (Qf f)
 ki: ∀c m q,ob.mt.contains (c,m,q)=u0->dR Y.K (Y.ca c)/\ob.ms.contains q=u0/\mi Y.K (Y.ca c) (Qf m) (Y.ma q)
 eO: ∀c q,ob.eO.contains (c,q)=u0->mg (Qf c)=k0 (.ref (Y.ca c))/\ob.ms.contains q=u0/\Mk Y.K (Y.ca c) (Y.ma q)
section
variable {P:Program}{w:World}{Y:Ge}{mg:Str->Option Value}{base:Heap}{p:M.Prog}{own dI dP fns:List String}{ob:gj}
def Br (k:ag Y G h H) (r:bj Y G H ws vs) (no: ∀w∈ws,mR w=u0) (x:N.length=n):br Y ⟨G,H,h⟩ G (ws.map k0++Aa3 (n-ws.length) y0) h (start N vs) H:=by
 have y:=r.length
 have get: ∀ {i}{w},M.Gn (ws.map k0++Aa3 (n-ws.length) y0) i=k0 w->ws[i]? =k0 w:=λ{i w} e=>by
  rw [wG]at e
  by_cases g:i<ws.length
  ·rw [Ad2 (by simpa using g),Ac2]at e
   cases q:ws[i]? with
   | none=>rw [q]at e;cases e
   | some A=>rw [q]at e;exact e
  ·rw [Ad9 (by simpa using g),Ai2]at e
   split at e<;>cases e
 have d: ∀ {ws}{vs}{i:Nat}{w},bj Y G H ws vs->ws[i]? =k0 w-> ∃v,vs[i]? =k0 v/\ah Y G H w v:=by
  intro ws
  induction ws with
  | nil=>intro vs i w _ e;simp at e
  | cons a r u=>
   intro vs i w ⟨v,z,e1,t,l⟩ e
   subst e1
   cases i with
   | zero=>simp at e;subst e;exact⟨v,rfl,t⟩
   | succ i=>
    obtain⟨m,o,s⟩:=u l (by assumption)
    exact⟨m,by simpa using o,s⟩
 have b: ∀ {i}{c},M.Gn _ i≠k0 (.own c):=λ{i c} e=>by
  have:=no _ (Ac3 (get e))
  cases this
 refine⟨⟨?_,λi w e=> ?_,λi j c w a p e1=>absurd e1 b,k⟩,Ext.refl,k,λi c a e1=>absurd e1 b⟩
 ·unfold start
  rw [Aa8,Aa8,Aa,Aa,Ad3,Ad3,x,y]
 ·obtain⟨v,e2,f⟩:=d r (get e)
  refine⟨v,?_,f⟩
  unfold start
  have g:=(Aa1.mp e2).1
  rw [Ad2 (by simp_all),Ac2,e2]
  rfl
def B5 {E:XK}{G:Gh}{H:Hp}{h:M.AH}{Q:VK}{o:M.O}(l:ag Y G h H) (p:az Y E G H (M.Gv h.length o) Q):Qs Y E ⟨G,H,h⟩ o { nx:=λ_ H'=>Q .aj H',rt:=Q }:=by
 have c: ∀ {w:M.W}{g:M.AH}{b:Gh}{H':Hp}{v:V},(∀ i,w≠ .bor i)->az Y E G H (M.fin h.length w g) Q->Ext G H b H'->ag Y b g H'->ah Y b H' w v->aI [] [] H w v->Q v H':=λ{w g b H' v} n p e a r f=>by
  unfold M.fin at p
  split at p
  ·exact p b H' e a v r f
  ·split at p
   ·rename_i j
    rw [Aa0,l.len]at j
    have q:=e.cut
    rw [l.len]at p
    exact p (b.cut G.n) H' q (a.cut e.le j.2) v (r.cut G.n e.le j.1 n) f
   ·exact p b H' e a v r f
 cases o with
 | next k g=>exact λb s H' m=>c (w:= .v .aj) (v:= .aj) (λi z=>by cases z) p m.ext m.st.heap rfl trivial
 | ret w g=>
  cases w with
  | bor i=>exact p.elim
  | v d=>exact λb v H' e a r f=>c (λi z=>by cases z) p e a r f
  | own i=>exact λb v H' e a r f=>c (λi z=>by cases z) p e a r f
 | brk k g=>exact p.elim
 | cont k g=>exact p.elim
 | fail=>exact p.elim
end
section
variable {P:Program}{w:World}{Y:Ge}{mg:Str->Option Value}{base:Heap}{p:M.Prog}{own dI dP fns:List String}{ob:gj}
def sr (P:Program) (w:World) (Y:Ge) (b:Str->Option Value) (base:Heap) (p:M.Prog) (k:Nat) (f:String):Prop:=
 ∃ps a fd,ZF P w Y.K b base (d4 P w) (2*k+1) a fd ps (gD Y (M.call p k f))/\Binds Y.K fd ps []/\Ah4 Y.K (.ref a)=u0/\b (Qf f)=k0 (.ref a)
def sU (P:Program) (w:World) (Y:Ge) (a:Str->Option Value) (base:Heap) (p:M.Prog) (k:Nat) (q:String):Prop:=
 ∃ps fd,ZF P w Y.K a base (d4 P w) (2*k+1) (Y.ma q) fd ps (gD Y (M.call p k q))/\Binds Y.K fd ps []
def nv (l:m8 Y p mg own dI dP ob){f:String}{d:M.Fn}{t:Txt Y.K mg f}(ok:mN t d fns own dI dP ob) (R:p.fns.lookup f=k0 d) (k:Nat) (ih: ∀g,fns.contains g=u0->sr P w Y mg base p k g) (T: ∀q,ob.ms.contains q=u0->sU P w Y mg base p k q):
 ZF P w Y.K mg base (d4 P w) (2*(k+1)+1) t.fa t.fd t.ps (gD Y (M.call p (k+1) f)):=by
 have a: ∀ {b:List M.W}{h:M.AH},b.length≠d.ps->M.call p (k+1) f b h= .fail:=λ{b h} C=>by
  rw [M.call,R]
  simp [M.run,C]
 have j: ∀ {b:List M.W}{h:M.AH},b.length=d.ps->M.call p (k+1) f b h=M.Gv h.length (M.execs ⟨M.call p k,p.cl,p.con⟩ d.body (b.map k0++Aa3 (d.n-d.ps) y0) h):=λ{b h} C=>M.Gb R k b h C
 obtain⟨x,S,F⟩:=ok.fn
 rw [show 2*(k+1)+1=(2*k+1+1)+1 by omega]
 refine BY F ok.sc (λV H Q E ⟨G,h,b,I,D,no,q⟩=> ?_) λX A J s H V Q E e ⟨G,h,b,I,D,no,q⟩=> ?_
 ·by_cases o:b.length=d.ps
  ·rw [← D.length,o,ok.p]
  ·rw [a o]at q;exact q.elim
 ·by_cases o:b.length=d.ps
  rotate_left
  ·rw [a o]at q;exact q.elim
  rw [j o]at q
  refine⟨cS Y E (M.execs ⟨M.call p k,p.cl,p.con⟩ d.body),dq (k:=2*k+1) ?_ d.body ok.CH,?_⟩
  ·refine { N:=rfl,K:=rfl,cl:=l.cl,ow:=l.ow,nd:=ok.sc.nd,gW:=λx i=>ui i,r9:=λx i=>i,iR:=λx i=>⟨vI i,.inl rfl⟩,mE:=λx i=>i,gl:=λx i=>pF i,calm:=rfl,room:=e.mono (by omega),dZ:=e,pass:=Hg,blt:=l.blt,con:=l.con,fn:=λg W=> ?_,cls:=l.cls,fld:=l.fld,ki:=λc m q y=> ?_,eO:=λc q y=> ?_,iS:=yA,mD:=rfl,Dq:=rfl,ex:=rfl }
   ·obtain⟨L,Z,O,r,u,h3,U⟩:=ih g W
    exact⟨L,⟨Z,O,r,u,h3,U⟩⟩
   ·obtain⟨B,v,z⟩:=l.ki c m q y
    obtain⟨L,O,r,u⟩:=T q v
    exact⟨B,_,O,L,z,r,u⟩
   ·obtain⟨B,v,z⟩:=l.eO c q y
    obtain⟨L,O,r,u⟩:=T q v
    exact⟨B,_,O,L,z,r,u⟩
  ·refine⟨⟨G,H,h⟩,G,b.map k0++Aa3 (d.n-d.ps) y0,h,?_,B5 I q⟩
   have:=Br (N:=t.N) (n:=d.n) I D no ok.n
   rw [o]at this
   exact this
def rl (f:String) (e:Addr) (d:FuncData) (ps:List Str):ZF P w Y.K mg base (d4 P w) (2*0+1) e d ps (gD Y (M.call p 0 f)):=
 ⟨λc H Q E ⟨G,h,g,j,i,no,q⟩=>q.elim,λA a s H b k c Q E _ _ _ _ ⟨G,h,g,j,i,no,q⟩=>q.elim⟩
def Fu (l:m8 Y p mg own dI dP ob) (all: ∀f,fns.contains f=u0-> ∃d,p.fns.lookup f=k0 d/\ ∃t:Txt Y.K mg f,mN t d fns own dI dP ob/\Ah4 Y.K (.ref t.fa)=u0/\mg (Qf f)=k0 (.ref t.fa))
 (a: ∀q,ob.ms.contains q=u0-> ∃d,p.fns.lookup q=k0 d/\ ∃t:Txt Y.K mg q,mN t d fns own dI dP ob/\t.fa=Y.ma q): ∀k,(∀ f,fns.contains f=u0->sr P w Y mg base p k f)/\ ∀q,ob.ms.contains q=u0->sU P w Y mg base p k q:=by
 intro k
 induction k with
 | zero=>
  refine⟨λf h=> ?_,λq g=> ?_⟩
  ·obtain⟨d,b,t,ok,i,e⟩:=all f h
   exact⟨t.ps,t.fa,t.fd,rl f _ _ _,ok.bd,i,e⟩
  ·obtain⟨d,b,t,ok,j⟩:=a q g
   exact⟨t.ps,t.fd,rl q _ _ _,ok.bd⟩
 | succ k c=>
  refine⟨λf h=> ?_,λq g=> ?_⟩
  ·obtain⟨d,b,t,ok,i,e⟩:=all f h
   exact⟨t.ps,t.fa,t.fd,nv l ok b k c.1 c.2,ok.bd,i,e⟩
  ·obtain⟨d,b,t,ok,j⟩:=a q g
   exact⟨t.ps,t.fd,j▸nv l ok b k c.1 c.2,ok.bd⟩
def mZ (K:Ab):Sp:=λc H Q _=> ∃(a:Addr) (b:List Int),c= [.ref a]/\bu K H a (b.map V.int)/\b.length<=63/\ ∀H',Q (.bl u0) H'
theorem tH : ∀(ns:List Int),aa Y G H (ns.map M.D.int) (ns.map V.int)
 | []=>rfl
 | n::ns=>⟨_,_,rfl,rfl,tH ns⟩
def Ax {n k:Nat}{i:Addr}{h:FuncData}{ps:List Str}(F:ZF P w Y.K mg base (d4 P w) n i h ps (gD Y (M.call p k "law"))) (fy: ∀ns:List Int,ns.length<=63-> ∃h',M.call p k "law" [.v (.lst (ns.map .int))] []= .ok (.v (.bl true)) h'):
 ZF P w Y.K mg base kK n i h ps (mZ Y.K):=by
 refine HL F ?_
 rintro B H Q E ⟨a,ns,u,d,x,q⟩
 subst u
 obtain⟨h',t⟩:=fy ns x
 have fin: ∀G:Gh,ag Y G [] H->iT Y G H a (ns.map V.int)->gD Y (M.call p k "law") [.ref a] H Q (fun _ _ _=>False):=fun G y l=>by
  refine⟨G,[],[.v (.lst (ns.map .int))],y,⟨.ref a,[],rfl,⟨a,ns.map V.int,rfl,l,tH ns⟩,rfl⟩,λw m=> ?_,?_⟩
  ·cases Ac7.mp m;rfl
  ·rw [t]
   intro A j _ _ v r _
   cases (show v= .bl u0 from r)
   exact q j
 rcases d with d | d
 ·refine fin ⟨λb=>b=a,λ_=>0,0⟩ ⟨rfl,λr c e=>by simp at e,λr s f=>absurd f (Ag5 _),λb g=> ?_⟩ (.inl ⟨rfl,d⟩)
  subst g
  rcases d with z | ⟨o,z⟩
  ·exact⟨_,z⟩
  ·exact⟨_,z⟩
 ·exact fin ⟨λ_=>False,λ_=>0,0⟩ ⟨rfl,λr c e=>by simp at e,λr s f=>absurd f (Ag5 _),λb g=>g.elim⟩ (.inr d)
def walk {l:PySem.W.OpenLaw}{K:Params->Ab}(k) (e:a0 k callerA) (m:l.most=k0 63) (b:d.params.defaults= [])
 (j: ∀ w h,YP w h->(K w.params).In h)
 (F: ∀ w mg i h,(K w.params).In h->h.Ns mainGlobals mg->mg d.name=k0 (.ref i) →
   ∃fd:FuncData,(∀ s u,BindsTo s fd ⟨[u],[]⟩ [(x,u)])/\ ∀base:Heap,(K w.params).In base->base.Ns mainGlobals mg->ZF l.prog w (K w.params) mg base kK k i fd [x] (mZ (K w.params))):
 PySem.W.WalkO q loose XP YP l.row.toRowW d [] (λf vs=>PySem.call f vs):=
 L2.gH m (by decide) b e j F (λ_ _ a g n _ c=>⟨a,g,rfl,c,n,λ_=>rfl⟩) λ_ _ _ _ _ z=>z
end
open PySem PySem.W PyProof.Rows KTD
theorem uE {f g:Str->Option (Str×Value)}: ∀ {l:List Str},(∀ n∈l,f n=g n)->l.filterMap f=l.filterMap g
 | [],_=>rfl
 | a::l,h=>by rw [Aj9,Aj9,h a Aa4,uE λn b=>h n (Aa2 _ b)]
theorem vH: ∀ {ps:List Str}{b:List Value},ps.Nodup->b.length=ps.length->ps.filterMap (λn=>((ps.zip b).lookup n).map (n, ·))=ps.zip b
 | [],b,_,_=>rfl
 | p::ps,[],_,h=>by cases h
 | p::ps,u::b,c,h=>by
  have a:=Ai.mp c
  rw [List.zip_cons_cons,List.filterMap_cons_some (by rw [List.lookup_cons_self];rfl)]
  congr 1
  refine(uE λn d=> ?_).trans (vH a.2 (Nat.succ.inj h))
  rw [Ab7,beq_eq_false_iff_ne.mpr (λe=>a.1 (e▸d):n≠p)]
def CA {ps:List Str}{a:List Value}(h:a.length=ps.length)(b:n∈ps):((ps.zip a).lookup n).isSome=true:=by
 induction ps generalizing a with
 | nil=>cases b
 | cons p ps c=>
  cases a with
  | nil=>cases h
  | cons u a=>
   rw [List.zip_cons_cons,Ab7]
   cases e:n==p with
   | true=>rfl
   | false=>exact c (Nat.succ.inj h) ((Ac.mp b).resolve_left (beq_eq_false_iff_ne.mp e))
abbrev d5 (a:FuncData):List Str:=a.params.args.map (·.arg)
def Dg (h1:fd.params.posonlyargs= []) (h2:fd.params.vararg=y0) (h3:fd.params.kwonlyargs= []) (h4:fd.params.kwarg=y0) (h5:fd.defaults= .none) (nd:(d5 fd).Nodup)(hl:us.length=(d5 fd).length):bindArgs fd ⟨us,[]⟩=pure ((d5 fd).zip us):=by
 have e: ∀k,((d5 fd).take k).filter (λn=>(((d5 fd).zip us).lookup n).isNone)= []:=λk=>List.filter_eq_nil_iff.mpr λn hn=>by
  have:=CA hl (List.mem_of_mem_take hn)
  cases q:((d5 fd).zip us).lookup n with
  | none=>rw [q]at this;cases this
  | some _=>simp
 have f:=vH nd hl
 obtain⟨n,q,⟨po,as,va,ko,kd,ka,df⟩,b,sc,g,cl,d,kV,doc,pm,an,cd,ct,bi⟩:=fd
 cases h1
 cases h2
 cases h3
 cases h4
 cases h5
 refine(if_neg ?_).trans ((if_neg ?_).trans ?_)
 ·simpa using Al0 hl
 ·exact λz=>by
   have z':=(congrArg (λl:List Str=> !l.isEmpty) (e _)).symm.trans z
   cases z'
 ·refine Eq.trans ?_ (congrArg pure f)
  rw [show ∀k,List.drop k (none.getD #[]).toList= []from λk=>List.drop_nil,List.zip_nil_right]
  exact congrArg (λl:List Str=>(pure _:Sem _)) (Af0 _)
noncomputable def lG (K:Frag) (a:Addr) (f:FuncData->List Stmt->Bool):Bool:=match K.lookup a with
 | some ⟨_,_,.func fd,_⟩=>(match fd.body with
  | .stmts b=>f fd b
  | _=>k9)
 | _=>k9
def vE {K:Frag}(h:lG K a f=u0): ∃oc i fd sl b,K.lookup a=k0 ⟨oc,i,.func fd,sl⟩/\fd.body= .stmts b/\f fd b=true:=by
 unfold lG at h
 split at h
 ·rename_i e
  split at h
  ·rename_i e2
   exact⟨_,_,_,_,_,e,e2,h⟩
  ·cases h
 ·cases h
def l7 (K:Frag) (a:Addr) (b:FuncData) (N:List Str):Prop:=
 (b.globals=mainGlobals/\b.builtins=builtinsNs/\b.closure= []/\b.defaults= .none)/\codeIn K b.code b.qualname=u0/\keepIn K (.ref a)=u0 ∧
 (b.params.posonlyargs.isEmpty=u0/\b.params.vararg.isNone=u0/\b.params.kwonlyargs.isEmpty=u0/\b.params.kwarg.isNone=u0) ∧
 b.scope.kind= .function/\b.scope.isCoroutine=k9/\b.scope.isGenerator=k9/\N.Nodup/\N.take (d5 b).length=d5 b/\(∀ x∈d5 b,b.scope.names.lookup x=k0 .local\/b.scope.names.lookup x=k0 .cell)/\ ∀y∈b.scope.names,y.2≠ .free
instance {K:Frag}{a:Addr}{fd:FuncData}{N:List Str}:Decidable (l7 K a fd N):=by unfold l7;infer_instance
def EA {K:Frag}(l:K.lookup a=k0 ⟨oc,od,.func fd,sl⟩) (o:fd.body= .stmts b) (p:l7 K a fd N):
 ∃st x q,jK st=b/\Ql st=fd.scope/\l9 K x q st a fd/\ZC N (d5 fd) fd.scope/\ ∀i:List Value,i.length=(d5 fd).length->bindArgs fd ⟨i,[]⟩=pure ((d5 fd).zip i):=by
 obtain⟨⟨g,bi,k,c⟩,m,r,⟨f,a2,a3,a4⟩,n,u,t,e,d,h,j⟩:=p
 refine⟨.FunctionDef fd.name fd.params b [] y0 [] fd.scope y0 fd.name ⟨0,0,0,0⟩,fd.name,fd.qualname,rfl,rfl,⟨⟨oc,od,fd.kwdefaults,fd.doc,fd.pyModule,fd.annotations,fd.code,fd.closureTuple,sl,?_,l,m⟩,r⟩,⟨n,u,t,e,d,h,j⟩,λi s=>Dg (Af8.mp f) (Aj7.mp a2) (Af8.mp a3) (Aj7.mp a4) c (d▸(List.take_sublist _ _).nodup e) s⟩
 cases fd
 cases o
 cases g
 cases bi
 cases k
 cases c
 rfl
def n6:Option (Option Value)->Addr
 | some (k0 (.ref a))=>a
 | _=>0
abbrev ez (K:Frag) (c:String):Addr:=n6 (nsIn K mainGlobals (Qf c))
abbrev o8 (K:Frag) (c:String):Prop:=nsIn K mainGlobals (Qf c)=k0 (k0 (.ref (ez K c)))
noncomputable def gZ (K:Frag) (a:gj) (q:String):Addr:=match a.mt.find? (·.2.2==q)with
 | some (c,m,_)=>n6 (findIn K (.ref (ez K c)) (Qf m))
 | none=>match a.eO.find? (·.2==q)with
  | some (c,_)=>n6 (findIn K (.ref (ez K c)) "__init__")
  | none=>0
def FH (sc:Scope):List Str:=sc.names.filterMap λy=>if y.2= .local\/y.2= .cell then k0 y.1 else y0
def m9 (K:Frag) (p:M.Prog) (g own c e:List String) (h:gj) (nm:List (String×List String)) (a:Addr) (f:String):Bool:=lG K a λfd b=>match p.fns.lookup f with
 | some d=>(λN=>y9 (l7 K a fd N/\N.length=d.n/\(d5 fd).length=d.ps/\d.ps<=d.n)&&cU ⟨fd.scope,N,g,own,c,e,h⟩ d.body b) (((nm.lookup f).map λl=>l.map Qf).getD (FH fd.scope))
 | none=>k9
def nI {K:Frag}(mg) (h:m9 K p fns own dI dP ob nm a f=u0):
 ∃d,p.fns.lookup f=k0 d/\ ∃t:Txt K mg f,mN t d fns own dI dP ob/\t.fa=a/\keepIn K (.ref a)=u0/\ ∃oc j sl,K.lookup a=k0 ⟨oc,j,.func t.fd,sl⟩/\t.ps=d5 t.fd/\ ∀i:List Value,i.length=t.ps.length->bindArgs t.fd ⟨i,[]⟩=pure (t.ps.zip i):=by
 obtain⟨oc,j,L,sl,b,l,v,h⟩:=vE h
 cases e:p.fns.lookup f with
 | none=>rw [e]at h;cases h
 | some d=>
  rw [e]at h
  generalize ((nm.lookup f).map λl=>l.map Qf).getD _=N at h
  obtain⟨r,c⟩:=(Aa0 _ _).mp h
  obtain⟨q,s,m,w⟩:=of_decide_eq_true r
  obtain⟨n,x,u,rfl,o,F,g,k⟩:=EA l v q
  rw [← o]at g c
  exact⟨d,rfl,⟨n,a,L,_,d5 L⟩,⟨⟨x,u,F⟩,.all k,g,s,m,w,c⟩,rfl,F.kp,oc,j,sl,l,rfl,k⟩
noncomputable def n3 (K:Frag) (a:Addr) (f:List Value->Bool):Bool:=match K.lookup a with
 | some o=>(match o.data with
  | .seq b _=>y9 (o.cls= .type "tuple" /\o.dict=none/\b.size<=100)&&f b.toList
  | _=>k9)
 | none=>k9
def Lb (h:n3 Y.K a f=u0): ∃i,f i=u0/\ ∀vs,Vals vs i-> ∀G H,eW Y G H a vs:=by
 unfold n3 at h
 split at h
 ·rename_i o e
  split at h
  ·rename_i b n e2
   obtain⟨j,k⟩:=(Aa0 _ _).mp h
   obtain⟨d,c,g⟩:=of_decide_eq_true j
   exact⟨_,k,λvs r G H=> .inr ⟨o,b,n,e,d,c,e2,Ab5 g (by rw [sizeLine_eq];decide),r⟩⟩
  ·cases h
 ·cases h
mutual
noncomputable def oX (K:Frag):M.D->Value->Bool
 | .int i,.int j _=>y9 (i=j)
 | .str s,.str t _=>y9 (aC s=t)
 | .tup ds,.ref a=>n3 K a λus=>fD K ds us
 | _,_=>k9
noncomputable def fD (K:Frag):List M.D->List Value->Bool
 | [],[]=>u0
 | d::ds,u::us=>oX K d u&&fD K ds us
 | _,_=>k9
end
def vS (K:Frag) (x:String) (d:M.D):Bool:=match nsIn K mainGlobals (Qf x)with
 | some (k0 u)=>oX K d u
 | _=>k9
mutual
theorem uW {Y:Ge}: ∀ {d:M.D}{u:Value},oX Y.K d u=u0-> ∃v,RelV v u/\ ∀G H,aA Y G H d v
 | .int _,.int _ _,h=>by cases of_decide_eq_true h;exact⟨.int _,⟨_,rfl⟩,λ_ _=>rfl⟩
 | .str _,.str _ _,h=>by cases of_decide_eq_true h;exact⟨.str _,⟨_,rfl⟩,λ_ _=>rfl⟩
 | .tup ds,.ref a,h=>by
  obtain⟨us,h1,h2⟩:=Lb h
  obtain⟨vs,r,h3⟩:=eJ h1
  exact⟨.ref a,rfl,λG H=>⟨a,vs,rfl,h2 vs r G H,h3 G H⟩⟩
theorem eJ {Y:Ge}: ∀ {ds:List M.D}{us:List Value},fD Y.K ds us=u0-> ∃vs,Vals vs us/\ ∀G H,aa Y G H ds vs
 | [],[],_=>⟨[],.nil,λ_ _=>rfl⟩
 | d::ds,u::us,h=>by
  obtain⟨h1,h2⟩:=(Aa0 _ _).mp h
  obtain⟨v,r1,h3⟩:=uW h1
  obtain⟨vs,r2,h4⟩:=eJ h2
  exact⟨v::vs,.cons r1 r2,λG H=>⟨v,vs,rfl,h3 G H,h4 G H⟩⟩
end
theorem sk : ∀ {l:List (String×α)}{x}{d},l.lookup x=k0 d->(x,d)∈l
 | (k,v)::l,x,d,h=>by
  rw [Ab7]at h
  by_cases q:(x==k)=u0
  ·rw [q]at h;cases h;rw [eq_of_beq q];exact Aa4
  ·rw [eq_false_of_ne_true q]at h;exact Aa2 _ (sk h)
abbrev uK (K:Frag) (C:Addr):Prop:=plainGet K C Str.empty=true/\hasDictIn K C=true/\plainOver K C=true/\findIn K (.ref C) "__setattr__" =some (some (.builtin "object.__setattr__"))
def nC (K:Frag) (p:M.Prog) (b own d e:List String) (a:gj) (nm:List (String×List String)):Prop:=
 (∀ x∈cF,nsIn K mainGlobals (Qf x)=k0 y0)/\(∀ x∈p.con,vS K x.1 x.2=u0)/\(∀ c∈own,o8 K c) ∧
 (∀ c∈a.fl,uK K (ez K c.1)/\findIn K (.ref (ez K c.1)) (Qf c.2)=k0 y0) ∧
 (∀ c∈a.mt,uK K (ez K c.1)/\a.ms.contains c.2.2=u0/\findIn K (.ref (ez K c.1)) (Qf c.2.1)=k0 (k0 (.ref (gZ K a c.2.2)))/\isFn K (.ref (gZ K a c.2.2))=u0/\keepIn K (.ref (gZ K a c.2.2))=u0) ∧
 (∀ c∈a.eO,o8 K c.1/\a.ms.contains c.2=true/\makesIn K (ez K c.1)=true/\findIn K (.ref (ez K c.1)) "__init__" =some (some (.ref (gZ K a c.2)))/\isFn K (.ref (gZ K a c.2))=true/\keepIn K (.ref (ez K c.1))=true) ∧
 (∀ f∈b,o8 K f/\m9 K p b own d e a nm (ez K f) f=true)/\(∀ q∈a.ms,m9 K p b own d e a nm (gZ K a q) q=true)/\b.contains "law" =true/\lG K (ez K "law") (fun fd _=>decide (d5 fd= [("_law_script" :Str)]))=true
set_option synthInstance.maxSize 1000 in
instance {K:Frag}{p:M.Prog}{fns own dI dP:List String}{ob:gj}{nm:List (String×List String)}:Decidable (nC K p fns own dI dP ob nm):=by unfold nC;infer_instance
def WZ  [BEq α] [LawfulBEq α] {l:List α}(h:l.contains x=u0):x∈l:=List.contains_iff_mem.mp h
def ir {l:OpenLaw}{K:Frag}(p) (fns own dI dP) (ob) (nm) (k) (X:K.In h) (G:h.Ns mainGlobals mg) (C:mg "law" =some (.ref fa)) (T:decide (nC K p fns own dI dP ob nm)=true)
 (fy: ∀ns:List Int,ns.length<=63-> ∃h',M.call p (k+1) "law" [.v (.lst (ns.map .int))] []= .ok (.v (.bl true)) h'):
 ∃fd:FuncData,(∀ s v,BindsTo s fd ⟨[v],[]⟩ [("_law_script",v)])/\ ∀base:Heap,K.In base->base.Ns mainGlobals mg->ZF l.prog w K mg base kK (2*(k+1)+1) fa fd ["_law_script"] (mZ K):=by
 obtain⟨t1,t0,S,t6,V,Z,E,H,n,D⟩:=of_decide_eq_true T
 have L:m8 ⟨K,ez K,p.cl,own,gZ K ob⟩ p mg own dI dP ob:=by
  refine⟨rfl,rfl,λx N=>mg_none_of X G (t1 x N),λx d b=> ?_,λc a=>mg_of X G (S c (WZ a)),λc f a=> ?_,λc m q a=> ?_,λc q a=> ?_⟩
  ·have z:=t0 _ (sk b)
   unfold vS at z
   split at z
   ·rename_i u e
    obtain⟨v,r⟩:=uW (Y:=⟨K,ez K,p.cl,own,gZ K ob⟩) z
    exact⟨u,v,mg_of X G e,r⟩
   ·cases z
  ·obtain⟨⟨e1,e2,o,A⟩,j⟩:=t6 _ (WZ a)
   exact⟨⟨e1,e2,o,A⟩,j⟩
  ·obtain⟨⟨e1,e2,o,A⟩,j,F,O,Q⟩:=V (c,m,q) (WZ a)
   exact⟨⟨e1,e2,o,A⟩,j,F,O,Q⟩
  ·obtain⟨e1,e2,o,A,j,F⟩:=Z (c,q) (WZ a)
   exact⟨mg_of X G e1,e2,o,A,j,F⟩
 have i:=λf B=>mg_of X G (E f (WZ B)).1
 have e:ez K "law" =fa:=by
  have:=(i "law" n).symm.trans C
  cases this
  rfl
 obtain⟨d,b,t,ok,g,J,oc,od,sl,W,U,bd⟩:=nI mg (E "law" (WZ n)).2
 obtain⟨_,_,fd,_,_,y,_,z⟩:=vE D
 rw [W]at y
 cases y
 have z:=U.trans (of_decide_eq_true z)
 refine⟨t.fd,λs v=> .of_eq ((bd [v] (by rw [z];rfl)).trans (by rw [z];rfl)),λbase _ _=> ?_⟩
 have I:=Fu (P:=l.prog) (w:=w) (base:=base) L (λf B=>by
  obtain⟨d,b,t,ok,g,J,_⟩:=nI mg (E f (WZ B)).2
  exact⟨d,b,t,ok,g▸J,g▸i f B⟩) (λq R=>by
  obtain⟨d,b,t,ok,g,_⟩:=nI mg (H q (WZ R))
  exact⟨d,b,t,ok,g⟩) k
 have:=Ax (nv L ok b k I.1 I.2) fy
 rw [g,e,z]at this
 exact this
end L2.MS
namespace Wf
def gO (t k):t / 2 ^ k % 2=(t.testBit k).toNat:=(Nat.toNat_testBit t k).symm
theorem QM: ∀(n a b:Nat),a<=n->(a ||| b)+(a &&& b)=a+b
 | 0,a,b,h=>by
  have:a=0:=by omega
  subst this;simp
 | n+1,a,b,h=>by
  by_cases c:a=0
  ·subst c;simp
  have l:=QM n (a / 2) (b / 2) (by omega)
  have e1:=Al6 (a ||| b) 2
  have e2:=Al6 (a &&& b) 2
  rw [Nat.or_div_two]at e1
  rw [Nat.and_div_two]at e2
  have d:(a ||| b) % 2=1↔a % 2=1\/b % 2=1:=Nat.or_mod_two_eq_one
  have f:(a &&& b) % 2=1↔a % 2=1/\b % 2=1:=Nat.and_mod_two_eq_one
  have g:=Al6 a 2
  have k:=Al6 b 2
  have i:(a ||| b) % 2<2:=Aj6 _ (by decide)
  have j:(a &&& b) % 2<2:=Aj6 _ (by decide)
  generalize (a ||| b) % 2=p at*
  generalize (a &&& b) % 2=q at*
  by_cases c:a % 2=1<;>by_cases e:b % 2=1
  ·have:p=1:=d.mpr (.inl c)
   have:q=1:=f.mpr ⟨c,e⟩
   omega
  ·have:p=1:=d.mpr (.inl c)
   have: ¬q=1:=λh=>e (f.mp h).2
   omega
  ·have:p=1:=d.mpr (.inr e)
   have: ¬q=1:=λh=>c (f.mp h).1
   omega
  ·have: ¬p=1:=λh=>(d.mp h).elim c e
   have: ¬q=1:=λh=>c (f.mp h).1
   omega
def KP (a b:Nat):a-(a &&& b)=a ^^^ (a &&& b):=by
 have h:=QM _ (a ^^^ (a &&& b)) (a &&& b) (Aa9 _)
 have e1:(a ^^^ (a &&& b)) ||| (a &&& b)=a:=Aj8 λk=>by
  simp [Ah1]
  cases a.testBit k<;>cases b.testBit k<;>rfl
 have e2:(a ^^^ (a &&& b)) &&& (a &&& b)=0:=Aj8 λk=>by
  simp only [Nat.testBit_xor,Ah1,Af9]
  cases a.testBit k<;>cases b.testBit k<;>rfl
 lia
def aQ (a b k:Nat):(a-(a &&& b)).testBit k=(a.testBit k&& !b.testBit k):=by
 rw [KP]
 simp [Ah1]
 cases a.testBit k<;>cases b.testBit k<;>rfl
def ax (n t:Nat):List (Nat×Nat):=((Aa5 (n*n)).filter t.testBit).map λk=>(k / n,k % n)
def cO (n:Nat) (ps:List (Nat×Nat)):Nat:=ps.foldl (λt p=>t ||| 2 ^ (p.1*n+p.2)) 0
def gk (n:Nat) (ps:List (Nat×Nat)):Prop:= ∀p∈ps,p.1<n/\p.2<n
def place_lt {n a b:Nat}(c:a<n) (d:b<n):a*n+b<n*n:=by
 have:a*n+n<=n*n:=by
  have:=An8 n (Nat.succ_le_of_lt c)
  rwa [Nat.succ_mul]at this
 omega
def aF {n a b:Nat}(c:b<n):(a*n+b) / n=a:=by
 rw [Al,Nat.mul_add_div (by lia),Nat.div_eq_of_lt c,Nat.add_zero]
def aJ {n a b:Nat}(c:b<n):(a*n+b) % n=b:=by
 rw [Al,Nat.mul_add_mod,Nat.mod_eq_of_lt c]
def a8 {n k:Nat}(h:k<n*n):k / n<n:=Nat.div_lt_of_lt_mul h
def aW {n k:Nat}(h:k<n*n):k % n<n:=Aj6 _ (by
 cases n with
 | zero=>simp at h
 | succ m=>lia)
def bq (n k:Nat):k / n*n+k % n=k:=by rw [Al];exact Al6 k n
theorem ur (n): ∀(ps:List (Nat×Nat)) (t k:Nat),(ps.foldl (λt p=>t ||| 2 ^ (p.1*n+p.2)) t).testBit k=(t.testBit k||ps.any λp=>y9 (p.1*n+p.2=k))
 | [],t,k=>by simp
 | p::r,t,k=>by
  rw [Ak2,ur n r,Ae8,Ad7,Af2,Bool.or_assoc]
def cI (n) (ps) (k):(cO n ps).testBit k=ps.any λp=>y9 (p.1*n+p.2=k):=by
 unfold cO;rw [ur];simp
def cZ (h:gk n ps):cO n ps<2 ^ (n*n):=by
 refine Nat.lt_pow_two_of_testBit _ λi b=> ?_
 rw [cI,Aj4]
 intro p a
 have:=h p a
 have:=place_lt this.1 this.2
 simp;omega
def bC :p∈ax n t↔ ∃k,k<n*n/\t.testBit k=u0/\p=(k / n,k % n):=by
 unfold ax
 simp [Ab8]
 constructor
 ·rintro ⟨k,⟨b,a⟩,rfl⟩;exact⟨k,b,a,rfl⟩
 ·rintro ⟨k,b,a,rfl⟩;exact⟨k,⟨b,a⟩,rfl⟩
def bR (n t):gk n (ax n t):=λp b=>by
 obtain⟨k,a,c,rfl⟩:=bC.mp b
 exact⟨a8 a,aW a⟩
def kL (ps:List (Nat×Nat)):List (Nat×Nat):=ps.map λp=>(p.2,p.1)
def eC (h:gk n ps):gk n (kL ps):=λp b=>by
 obtain⟨q,a,rfl⟩:=Ab6.mp b
 exact⟨(h q a).2,(h q a).1⟩
def bE (n t:Nat):Nat:=cO n (kL (ax n t))
def fm (n t):bE n t<2 ^ (n*n):=cZ (eC (bR n t))
def eN (f:k<n*n):(bE n t).testBit k=t.testBit (k % n*n+k / n):=by
 unfold bE
 rw [cI]
 have d:=a8 f
 have m:=aW f
 by_cases h:t.testBit (k % n*n+k / n)=u0
 ·rw [h,Ad1]
  refine⟨(k / n,k % n),?_,?_⟩
  ·refine Ab6.mpr ⟨(k % n,k / n),bC.mpr ⟨k % n*n+k / n,place_lt m d,h,?_⟩,rfl⟩
   rw [aF d,aJ d]
  ·simp [decide_eq_true_eq];exact bq n k
 ·have c:=by simpa using h
  rw [c,Aj4]
  intro p l
  obtain⟨q,i,rfl⟩:=Ab6.mp l
  obtain⟨j,a,b,rfl⟩:=bC.mp i
  simp [decide_eq_true_eq]
  intro e
  subst e
  have g:=a8 a
  have a2:=aW a
  rw [aF g,aJ g,bq]at c
  rw [c]at b
  cases b
def bA (n:Nat):Nat:=cO n ((Aa5 n).map λa=>(a,a))
def dG (n):gk n ((Aa5 n).map λa=>(a,a)):=λp c=>by
 obtain⟨a,b,rfl⟩:=Ab6.mp c
 exact⟨Ab8.mp b,Ab8.mp b⟩
def IW (c:k<n*n):(bA n).testBit k=y9 (k / n=k % n):=by
 unfold bA
 rw [cI]
 have f:=a8 c
 have g:=aW c
 by_cases h:k / n=k % n
 ·rw [decide_eq_true h,Ad1]
  refine⟨_,Ab6.mpr ⟨k / n,Ab8.mpr f,rfl⟩,?_⟩
  simp [decide_eq_true_eq]
  have:=bq n k
  rw [← h]at this
  exact this
 ·rw [decide_eq_false h,Aj4]
  intro p d
  obtain⟨a,b,rfl⟩:=Ab6.mp d
  simp [decide_eq_true_eq]
  intro e
  subst e
  have b:=Ab8.mp b
  exact h (by rw [aF b,aJ b])
def cg (n p b:Nat):Nat:=p / 2 ^ (b*n) % 2 ^ n
def joinM (n o p:Nat):Nat:=(ax n o).foldl (λt q=>t ||| cg n p q.2*2 ^ (q.1*n)) 0
def cY (n p b):cg n p b<2 ^ n:=Aj6 _ (Nat.pow_pos (by decide))
def rO (a:c<n):(cg n p b).testBit c=p.testBit (b*n+c):=by
 unfold cg
 rw [Ag8,decide_eq_true a,Ae1,Ag9,Ap]
def LF (d:x<2 ^ n) (f:0<n):(x*2 ^ (a*n)).testBit k=(y9 (k / n=a)&&x.testBit (k % n)):=by
 rw [Nat.testBit_mul_two_pow]
 have e:=bq n k
 by_cases h:k / n=a
 ·subst h
  rw [decide_eq_true rfl,Ae1]
  have:k / n*n<=k:=by lia
  rw [decide_eq_true (this),Ae1]
  rw [show k-k / n*n=k % n by lia]
 ·rw [decide_eq_false h,Ae7]
  by_cases b:k>=a*n
  ·rw [decide_eq_true b,Ae1]
   refine Ai8 (Ab4 d (Ad (by decide) ?_))
   have c:a<k / n:=by
    have:a<=k / n:=(Nat.le_div_iff_mul_le f).mpr b
    lia
   have g:=An8 n c
   lia
  ·rw [decide_eq_false b,Ae7]
theorem yb (n p) (a:0<n): ∀(ps:List (Nat×Nat)) t k,(ps.foldl (λt q=>t ||| cg n p q.2*2 ^ (q.1*n)) t).testBit k=(t.testBit k||ps.any λq=>y9 (k / n=q.1)&&(cg n p q.2).testBit (k % n))
 | [],t,k=>by simp
 | q::r,t,k=>by
  rw [Ak2,yb n p a r,Ae8,LF (cY n p q.2) a,Af2,Bool.or_assoc]
def Ht (h:k<n*n):0<n:=by
 cases n with
 | zero=>simp at h
 | succ m=>omega
def JB (n o p k:Nat):Bool:=(Aa5 n).any λb=>o.testBit (k / n*n+b)&&p.testBit (b*n+k % n)
def b4 (f:k<n*n):(joinM n o p).testBit k=JB n o p k:=by
 have m:=Ht f
 have i:=a8 f
 have h:=aW f
 unfold joinM JB
 rw [yb n p m]
 simp [Bool.false_or]
 rw [An1,Ad1,Ad1]
 constructor
 ·rintro ⟨q,l,a⟩
  obtain⟨j,c,d,rfl⟩:=bC.mp l
  rw [Aa0,decide_eq_true_eq]at a
  obtain⟨e,a⟩:=a
  refine⟨j % n,Ab8.mpr (aW c),?_⟩
  rw [rO h]at a
  have e:=e
  rw [e,bq,d,a];rfl
 ·rintro ⟨b,a,g⟩
  have a:=Ab8.mp a
  rw [Aa0]at g
  refine⟨_,bC.mpr ⟨k / n*n+b,place_lt i a,g.1,by rw [aF a,aJ a]⟩,?_⟩
  rw [rO h,g.2]
  simp
def c9 (n o p):joinM n o p<2 ^ (n*n):=by
 have c: ∀(a:List (Nat×Nat)) t,(∀ q∈a,q.1<n)->t<2 ^ (n*n)->a.foldl (λt q=>t ||| cg n p q.2*2 ^ (q.1*n)) t<2 ^ (n*n):=by
  intro a
  induction a with
  | nil=>intro t _ h;exact h
  | cons q r i=>
   intro t d f
   refine i _ (λz g=>d z (Aa2 _ g)) (Ak7 f ?_)
   have b:=d q Aa4
   have:=cY n p q.2
   have e:2 ^ n*2 ^ (q.1*n)<=2 ^ (n*n):=by
    rw [← Nat.pow_add]
    refine Ad (by decide) ?_
    have:=An8 n (Nat.succ_le_of_lt b)
    lia
   exact Ab4 (Nat.mul_lt_mul_of_pos_right this (Nat.pow_pos (by decide))) e
 exact c _ _ (λq b=>(bR n o q b).1) (Nat.pow_pos (by decide))
def d6 (c:s<2 ^ n) (a:t<2 ^ n) (h: ∀k,k<n->s.testBit k=t.testBit k):s=t:=
 Aj8 λk=>by
  by_cases b:k<n
  ·exact h k b
  ·rw [Ai8 (Ab4 c (Ad (by decide) (by lia))),Ai8 (Ab4 a (Ad (by decide) (by lia)))]
def d9 (d:a<n) (c:b<n):(bA n).testBit (a*n+b)=y9 (a=b):=by
 rw [IW (place_lt d c),aF c,aJ c]
def fA (n):bA n<2 ^ (n*n):=cZ (dG n)
inductive TC (n t a:Nat):Nat->Prop
 | step {b:Nat}:a<n->b<n->t.testBit (a*n+b)=u0->TC n t a b
 | more {b c:Nat}:TC n t a b->b<n->c<n->t.testBit (b*n+c)=u0->TC n t a c
def TC.trans (h1:TC n t a b) (e:TC n t b c):TC n t a c:=by
 induction e with
 | step x y z=>exact .more h1 x y z
 | more _ x y z d=>exact .more d x y z
structure eR (n t r:Nat):Prop where
 lt:r<2 ^ (n*n)
 bit: ∀a b,a<n->b<n->(r.testBit (a*n+b)=u0↔TC n t a b)
structure fW (n t r:Nat):Prop where
 lt:r<2 ^ (n*n)
 sub: ∀a b,a<n->b<n->r.testBit (a*n+b)=u0->TC n t a b
 sup: ∀k,t.testBit k=u0->r.testBit k=u0
def fW.start (h:t<2 ^ (n*n)):fW n t t:=⟨h,λ_ _ b a h=> .step b a h,λ_ h=>h⟩
def cG (d:c<n):JB n o p (a*n+c)=(Aa5 n).any λb=>o.testBit (a*n+b)&&p.testBit (b*n+c):=by
 unfold JB
 rw [aF d,aJ d]
def fW.next (h:fW n t r):fW n t (r ||| joinM n r r):=by
 refine⟨Ak7 h.lt (c9 _ _ _),λa b g e d=> ?_,λk i=> ?_⟩
 ·rw [Ae8,Ae5]at d
  obtain d | d:=d
  ·exact h.sub a b g e d
  ·rw [b4 (place_lt g e),cG e,Ad1]at d
   obtain⟨c,f,d⟩:=d
   have f:=Ab8.mp f
   rw [Aa0]at d
   exact(h.sub a c g f d.1).trans (h.sub c b f e d.2)
 ·rw [Ae8,h.sup k i,Am]
def FA {a b:Nat}(h:a ||| b=a) (k) (c:b.testBit k=u0):a.testBit k=true:=by
 rw [← h,Ae8,c,Bool.or_true]
def fW.done (h:fW n t r) (e:r ||| joinM n r r=r):eR n t r:=by
 refine⟨h.lt,λa b i k=>⟨h.sub a b i k,λj=> ?_⟩⟩
 induction j with
 | step f g d=>exact h.sup _ d
 | more j f g d c=>
  have c:=c f
  refine FA e _ ?_
  rw [b4 (place_lt i g),cG g,Ad1]
  exact⟨_,Ab8.mpr f,by rw [c,h.sup _ d];rfl⟩
def fW.grow (h:fW n t r) (ne:r ||| joinM n r r≠r):r<r ||| joinM n r r:=by
 have:= @Nat.left_le_or r (joinM n r r)
 lia
structure Mn (n t a:Nat) (re wa:List Nat):Prop where
 an:a<n
 nd:re.Nodup
 tc: ∀x∈re,TC n t a x
 wl: ∀x∈wa,x<n/\(x=a\/x∈re)
 cl: ∀x,(x=a\/x∈re)->x∉wa-> ∀b,b<n->t.testBit (x*n+b)=u0->b∈re
structure Lk (n t a:Nat) (re wa:List Nat) (h b:Nat):Prop where
 an:a<n
 nd:re.Nodup
 tc: ∀x∈re,TC n t a x
 wl: ∀x∈wa,x<n/\(x=a\/x∈re)
 cl: ∀x,(x=a\/x∈re)->x∉wa->x≠h-> ∀b,b<n->t.testBit (x*n+b)=u0->b∈re
 hn:h<n
 hr:h=a\/h∈re
 hb: ∀b',b'<b->t.testBit (h*n+b')=u0->b'∈re
end Wf
namespace M
noncomputable abbrev uO:Tx:=[115,111,109,101,32,110,111,32,108,101,97,115,116,32,109,111,115,116,32,101,97,99,104,32,105,110,32,97,110,100,32,111,114,32,110,111,116,32,115,97,109,101,32,97,108,108,32,110,111,110,101,32,107,105,110,100,32,116,105,101,32,115,97,121]
abbrev fh:Tx:=[108,101,97,115,116]
abbrev fN:Tx:=[112,97,112,101,114]
abbrev rZ:Tx:=[97,98,99,100,101,102,103,104,105,106,107,108,109,110,111,112,113,114,115,116,117,118,119,120,121,122]
abbrev hZ:Tx:=[98,114,111,107,101,110]
abbrev g6:Tx:=[119,111,114,108,100]
abbrev gf:Tx:=[115,111,109,101]
abbrev gJ:Tx:=[109,111,115,116]
abbrev lF:Tx:=[101,97,99,104,108,101,97,115,116]
abbrev iA:Tx:=[101,113,117,97,108]
abbrev iL:Tx:=[110,111,110,101]
abbrev hM:Tx:=[115,97,109,101]
abbrev kU:Tx:=[115,112,108,105,116]
abbrev fU:Tx:=[105,110]
abbrev iM:Tx:=[110,111,116]
abbrev nS:Tx:=[106,111,105,110,101,100]
abbrev oj:Tx:=[116,117,114,110,101,100]
abbrev iy:Tx:=[97,108,108]
abbrev pK:Tx:=[101,97,99,104,109,111,115,116]
abbrev gP:Tx:=[111,114]
abbrev mG:Tx:=[108,101,115,115]
abbrev i5:Tx:=[97,110,100]
abbrev g0:Tx:=[110,111]
abbrev mm:Tx:=[110,97,109,101]
abbrev sj:Tx:=[99,108,111,115,101,100]
abbrev m7:Tx:=[112,108,117,115]
abbrev oB:Tx:=[98,111,116,104]
abbrev S.r (c x:E):S:= .iff c (.cons (.ret x) .nil) .nil
abbrev E.v0:E:= .var 0
abbrev E.v1:E:= .var 1
abbrev E.v2:E:= .var 2
abbrev E.v3:E:= .var 3
abbrev E.v4:E:= .var 4
abbrev E.v5:E:= .var 5
abbrev E.v6:E:= .var 6
abbrev E.v7:E:= .var 7
abbrev E.v8:E:= .var 8
abbrev E.v9:E:= .var 9
abbrev E.i0:E:= .int 0
abbrev E.i1:E:= .int 1
abbrev E.i2:E:= .int 2
abbrev E.i3:E:= .int 3
abbrev E.i4:E:= .int 4
abbrev Es.a (x:E):Es:= .cons x .nil
abbrev Es.b (x y:E):Es:= .cons x (.cons y .nil)
abbrev Es.c (x y z:E):Es:= .cons x (.cons y (.cons z .nil))
abbrev Es.d (x y z u:E):Es:= .cons x (.cons y (.cons z (.cons u .nil)))
abbrev Es.f (x y z u v:E):Es:= .cons x (.cons y (.cons z (.cons u (.cons v .nil))))
abbrev Es.g (x y z u v w:E):Es:= .cons x (.cons y (.cons z (.cons u (.cons v (.cons w .nil)))))
abbrev Ss.a (x:S):Ss:= .cons x .nil
def Co:Fn:=⟨1,1,.cons (.ret (.and (.b8 .v0 .int) (.not (.b8 .v0 .bool)))) .nil⟩
def QC:Fn:=⟨2,2,.cons (.ret (.and (.call "is_whole" (.a .v0)) (.chain .le .lt .i0 .v0 .v1))) .nil⟩
noncomputable def ZE:E:= .comp [0] u0 1 [1,0] (.av (.bin .mul .v0 .v0)) u0 (.bin .band (.bin .shr .v1 .v0) .i1) (.bi .divmod (.b .v0 .v2))
def ZM:Fn:=⟨2,2,.cons (.ret ZE) .nil⟩
def Zi:Ss:= .cons (.af 2 (.bin .bor .v2 (.bin .shl .i1 (.bin .add (.bin .mul .v3 .v0) .v4)))) .nil
def ZO:Fn:=⟨2,5,.cons (.af 2 .i0) (.cons (.for [3,4] k9 (.seq .v1) Zi) (.a (.ret .v2)))⟩
def yc:Fn:=⟨2,2,.cons (.ret (.bin .band .v0 .v1)) .nil⟩
def yn:Fn:=⟨2,2,.cons (.ret (.bin .bor .v0 .v1)) .nil⟩
def jX:Fn:=⟨2,2,.cons (.ret (.bin .band .v0 (.inv .v1))) .nil⟩
def QA:E:= .comp [0,1] false 2 [] (.seq (.call "pairs_of" (.b .v0 .v1))) false (.bl true) (.tup (.b .v1 .v0))
def r3:Fn:=⟨2,2,.cons (.ret (.call "gathered" (.b .v0 QA))) .nil⟩
noncomputable def Xt:Ss:= .cons (.af 7 (.bin .band (.bin .shr .v2 (.bin .mul .v6 .v0)) .v3)) (.a (.af 4 (.bin .bor .v4 (.bin .shl .v7 (.bin .mul .v5 .v0)))))
def ye:Fn:=⟨3,8,.cons (.af 3 (.bin .sub (.bin .shl .i1 .v0) .i1)) (.cons (.af 4 .i0) (.cons (.for [5,6] k9 (.seq (.call "pairs_of" (.b .v0 .v1))) Xt) (.a (.ret .v4))))⟩
def xt:E:= .cmp .ne .v3 .v2
def Zt:Ss:= .cons (.af 2 .v3) (.a (.af 3 (.call "either" (.b .v2 (.call "joined" (.c .v0 .v2 .v2))))))
def sy:Fn:=⟨2,4,.cons (.af 2 .v1) (.cons (.af 3 (.call "either" (.b .v2 (.call "joined" (.c .v0 .v2 .v2))))) (.cons (.ip 100000 xt Zt) (.a (.ret .v2))))⟩
def xQ:E:= .comp [0] u0 1 [] (.av .v0) k9 (.bl u0) (.tup (.b .v0 .v0))
def vY:Fn:=⟨1,1,.cons (.ret (.call "gathered" (.b .v0 xQ))) .nil⟩
def rN:Fn:=⟨1,1,.cons (.ret (.bin .sub (.bin .shl .i1 (.bin .mul .v0 .v0)) .i1)) .nil⟩
def wh:E:= .comp [0] u0 1 [4] (.av .v3) u0 (.bin .band (.bin .shr .v1 .v0) .i1) (.tup (.b .v0 .v0))
def Zq:Fn:=⟨3,5,.cons (.r (.cmp .mem .v2 (.ix .v0 .i1)) (.ix (.ix .v1 .i2) (.dz .index (.ix .v0 .i1) (.a .v2)))) (.cons (.af 3 (.ix .v1 .i0)) (.cons (.af 4 (.ix (.ix .v1 .i1) (.dz .index (.ix .v0 .i0) (.a .v2)))) (.a (.ret (.call "gathered" (.b .v3 wh))))))⟩
def Xz:Fn:=⟨3,3,.cons (.r (.cmp .eq .v1 (.str hM)) (.call "same" (.a .v0))) (.cons (.r (.cmp .eq .v1 (.str iy)) (.call "every" (.a .v0))) (.cons (.r (.cmp .eq .v1 (.str iL)) .i0) (.cons (.r (.cmp .eq .v1 (.str m7)) (.call "either" (.b (.ix .v2 .i0) (.ix .v2 .i1)))) (.cons (.r (.cmp .eq .v1 (.str mG)) (.call "without" (.b (.ix .v2 .i0) (.ix .v2 .i1)))) (.cons (.r (.cmp .eq .v1 (.str oB)) (.call "common" (.b (.ix .v2 .i0) (.ix .v2 .i1)))) (.cons (.r (.cmp .eq .v1 (.str nS)) (.call "joined" (.c .v0 (.ix .v2 .i0) (.ix .v2 .i1)))) (.cons (.r (.cmp .eq .v1 (.str oj)) (.call "turned" (.b .v0 (.ix .v2 .i0)))) (.a (.ret (.call "closed" (.b .v0 (.ix .v2 .i0))))))))))))⟩
def xC:E:= .comp [0] u0 1 [4] (.av .v0) k9 (.bl u0) (.dz .count .v1 (.a .v0))
def ZD:E:= .comp [0,1] k9 2 [] (.seq .v3) k9 (.bl u0) .v0
def u5:Fn:=⟨3,5,.cons (.af 3 (.call "pairs_of" (.b .v0 .v2))) (.cons (.r (.cmp .mem .v1 (.tup (.b (.str fh) (.str gJ)))) (.lst (.a (.bi .len (.a .v3))))) (.cons (.af 4 ZD) (.a (.ret xC))))⟩
def XC:E:= .comp [0,1] k9 2 [] (.seq .v5) k9 (.bl u0) .v1
def WC:E:= .comp [0,1] k9 2 [] (.seq .v5) k9 (.bl u0) .v0
def qt:E:= .comp [0] u0 1 [0,1] (.seq (.fB .v2 .i1)) k9 (.bl u0) (.call "bounds" (.c .v1 .v2 .v0))
def bB:Fn:=⟨3,9,.cons (.af 3 (.ix .v2 .i0)) (.cons (.iff (.cmp .eq .v3 (.str mm)) (.cons (.af 4 (.ix .v2 .i1)) (.a (.ret (.tup (.b (.call "value_of_name" (.c .v0 (.ix .v1 .i0) .v4)) (.call "value_of_name" (.c .v0 (.ix .v1 .i1) .v4))))))) .nil) (.cons (.af 5 qt) (.cons (.af 6 WC) (.cons (.af 7 XC) (.cons (.r (.cmp .eq .v3 (.str mG)) (.tup (.b (.call "without" (.b (.ix .v6 .i0) (.ix .v7 .i1))) (.call "without" (.b (.ix .v7 .i0) (.ix .v6 .i1)))))) (.cons (.af 8 (.ix (.ix .v1 .i0) .i0)) (.a (.ret (.tup (.b (.call "made" (.c .v8 .v3 .v6)) (.call "made" (.c .v8 .v3 .v7))))))))))))⟩
def JV:Fn:=⟨2,2,.cons (.r .v0 (.bl u0)) (.cons (.r .v1 (.bl k9)) (.a (.ret .aj)))⟩
def xN:Fn:=⟨1,1,.cons (.ret (.call "settled" (.b (.cmp .cN .v0 (.bl false)) (.cmp .cN .v0 (.bl true))))) .nil⟩
def xO:Fn:=⟨2,2,.cons (.ret (.call "settled" (.b (.and (.cmp .cN .v0 (.bl true)) (.cmp .cN .v1 (.bl true))) (.or (.cmp .cN .v0 (.bl false)) (.cmp .cN .v1 (.bl false)))))) .nil⟩
def qX:Fn:=⟨2,2,.cons (.ret (.call "settled" (.b (.or (.cmp .cN .v0 (.bl true)) (.cmp .cN .v1 (.bl true))) (.and (.cmp .cN .v0 (.bl false)) (.cmp .cN .v1 (.bl false)))))) .nil⟩
def J3:Fn:=⟨2,2,.cons (.ret (.call "settled" (.b (.cmp .eq (.call "without" (.b (.ix .v0 .i1) (.ix .v1 .i0))) .i0) (.cmp .ne (.call "without" (.b (.ix .v0 .i0) (.ix .v1 .i1))) .i0)))) .nil⟩
def wu:E:= .comp [0] u0 1 [2] (.seq .v5) k9 (.bl u0) (.cmp .le .v0 .v1)
def Zu:E:= .comp [0] u0 1 [2] (.seq .v4) k9 (.bl u0) (.cmp .gt .v0 .v1)
def Wu:E:= .comp [0] u0 1 [2] (.seq .v4) k9 (.bl u0) (.cmp .ge .v0 .v1)
def Qu:E:= .comp [0] u0 1 [2] (.seq .v5) k9 (.bl u0) (.cmp .lt .v0 .v1)
def XD:Fn:=⟨4,6,.cons (.af 4 (.call "counts" (.c .v0 .v1 (.ix .v3 .i0)))) (.cons (.af 5 (.call "counts" (.c .v0 .v1 (.ix .v3 .i1)))) (.cons (.r (.cmp .mem .v1 (.tup (.b (.str fh) (.str lF)))) (.call "settled" (.b (.bi .all (.a Wu)) (.bi .any (.a Qu))))) (.a (.ret (.call "settled" (.b (.bi .all (.a wu)) (.bi .any (.a Zu))))))))⟩
def cw:Fn:=⟨3,4,.cons (.af 3 (.ix .v2 .i0)) (.cons (.r (.cmp .eq .v3 (.str iM)) (.call "not_told" (.a (.call "told" (.c .v0 .v1 (.ix .v2 .i1)))))) (.cons (.r (.cmp .eq .v3 (.str i5)) (.call "and_told" (.b (.call "told" (.c .v0 .v1 (.ix .v2 .i1))) (.call "told" (.c .v0 .v1 (.ix .v2 .i2)))))) (.cons (.r (.cmp .eq .v3 (.str gP)) (.call "or_told" (.b (.call "told" (.c .v0 .v1 (.ix .v2 .i1))) (.call "told" (.c .v0 .v1 (.ix .v2 .i2)))))) (.a (.ret (.call "fact_told" (.c .v0 .v1 .v2)))))))⟩
def aS:Fn:=⟨3,7,.cons (.af 3 (.ix .v2 .i0)) (.cons (.af 4 (.ix (.ix .v1 .i0) .i0)) (.cons (.af 5 (.call "bounds" (.c .v0 .v1 (.ix .v2 (.neg .i1))))) (.cons (.r (.cmp .eq .v3 (.str gf)) (.call "count_told" (.d .v4 (.str fh) .i1 .v5))) (.cons (.r (.cmp .eq .v3 (.str g0)) (.call "count_told" (.d .v4 (.str gJ) .i0 .v5))) (.cons (.r (.cmp .eq .v3 (.str fU)) (.call "in_told" (.b (.call "bounds" (.c .v0 .v1 (.ix .v2 .i1))) .v5))) (.cons (.iff (.cmp .eq .v3 (.str iA)) (.cons (.af 6 (.call "bounds" (.c .v0 .v1 (.ix .v2 .i1)))) (.a (.ret (.call "and_told" (.b (.call "in_told" (.b .v6 .v5)) (.call "in_told" (.b .v5 .v6))))))) .nil) (.a (.ret (.call "count_told" (.d .v4 .v3 (.ix .v2 .i1) .v5))))))))))⟩
def J2:Fn:=⟨1,1,.cons (.ret (.call "is_below" (.b .v0 (.bin .add (.con "GREATEST_SIZE") .i1)))) .nil⟩
noncomputable def u4:Fn:=⟨2,2,.cons (.ret (.bin .add (.bin .mul (.lst (.a .v1)) (.bi .len (.a (.ix .v0 .i0)))) (.bin .mul (.lst (.a (.bin .mul .v1 .v1))) (.bi .len (.a (.ix .v0 .i1)))))) .nil⟩
def tR:Fn:=⟨2,2,.cons (.ret (.bi .sum (.a (.call "widths" (.b .v0 .v1))))) .nil⟩
def jE:Fn:=⟨1,1,.cons (.iff (.not (.call "is_size" (.a .v0))) (.cons .ea .nil) .nil) .nil⟩
def xE:Fn:=⟨3,4,.cons (.ex (.call "check_size" (.a .v1))) (.cons (.af 3 (.call "bits" (.b .v0 .v1))) (.a (.iff (.cmp .gt .v3 .v2) (.cons .ea .nil) .nil)))⟩
def Zs:Ss:= .cons (.app 3 (.bin .band .v4 (.bin .sub (.bin .shl .i1 .v5) .i1))) (.a (.af 4 (.bin .shr .v4 .v5)))
def XM:Fn:=⟨3,7,.cons (.ex (.call "check_size" (.a .v1))) (.cons (.iff (.not (.call "is_below" (.b .v2 (.bin .shl .i1 (.call "bits" (.b .v0 .v1)))))) (.cons .ea .nil) .nil) (.cons (.set 3 (.lst .nil)) (.cons (.af 4 .v2) (.cons (.for [5] true (.seq (.call "widths" (.b .v0 .v1))) Zs) (.cons (.af 6 (.bi .len (.a (.ix .v0 .i0)))) (.a (.ret (.tup (.c .v1 (.bi .tuple (.a (.fG .v3 .v6))) (.bi .tuple (.a (.fB .v3 .v6))))))))))))⟩
noncomputable def xH:Fn:=⟨2,2,.cons (.iff (.cmp .gt (.bi .len (.a .v1)) (.con "MOST_SAYINGS")) (.cons .ea .nil) .nil) (.a (.ret (.tup (.b .v0 (.bi .tuple (.a .v1))))))⟩
def Wn:E:= .comp [0,1] false 2 [3] (.seq (.call "pairs_of" (.b .v1 (.call "every" (.a .v1))))) false (.bl true) (.tup (.c .v2 .v0 .v1))
def Zy:Ss:= .cons (.ext 2 Wn) .nil
def zo:E:= .comp [0] u0 1 [3] (.av .v1) k9 (.bl u0) (.tup (.c .v1 .v0 .v0))
def Xy:Ss:= .cons (.ext 2 zo) .nil
noncomputable def Wv:Fn:=⟨2,4,.cons (.set 2 (.lst .nil)) (.cons (.for [3] u0 (.seq (.ix .v0 .i0)) Xy) (.cons (.for [3] u0 (.seq (.ix .v0 .i1)) Zy) (.a (.ret .v2))))⟩
noncomputable def Ww:Fn:=⟨3,3,.cons (.r (.or (.not (.b8 .v0 .tuple)) (.cmp .ne (.bi .len (.a .v0)) .v2)) (.bl k9)) (.a (.ret (.and (.b8 (.ix .v0 .i0) .str) (.cmp .eq (.ix .v0 .i0) .v1))))⟩
def qj:Fn:=⟨3,3,.cons (.bF 0 "Cases" "words" (.ix .v1 .i0)) (.cons (.bF 0 "Cases" "sayings" (.ix .v1 .i1)) (.cons (.bF 0 "Cases" "size" .v2) (.cons (.bS 0 "Cases" "places" (.call "places_of" (.b (.ix .v1 .i0) .v2))) (.a (.bF 0 "Cases" "whole" (.bin .sub (.bin .shl .i1 (.bi .len (.cons (.aG .v0 "Cases" "places") .nil))) .i1))))))⟩
def xi:Fn:=⟨2,2,.cons (.ret (.call "world_of" (.cons (.aG .v0 "Cases" "words") (.cons (.aG .v0 "Cases" "size") (.a .v1))))) .nil⟩
def Wy:Fn:=⟨4,5,.cons (.af 4 (.tup (.cons (.bL .v0 "Cases" "world_of_code" "Cases.world_of_code" (.a .v2)) (.cons (.bL .v0 "Cases" "world_of_code" "Cases.world_of_code" (.a .v3)) .nil)))) (.a (.ret (.call "told" (.cons (.aG .v0 "Cases" "words") (.b .v4 (.ix (.aG .v0 "Cases" "sayings") .v1))))))⟩
def Ju:Fn:=⟨4,4,.cons (.r (.or (.not (.b8 .v1 .str)) (.or (.not (.call "is_whole" (.a .v2))) (.not (.call "is_whole" (.a .v3))))) .i0) (.cons (.r (.cmp .eS (.tup (.c .v1 .v2 .v3)) (.aG .v0 "Cases" "places")) .i0) (.a (.ret (.bin .shl .i1 (.dz .b3 (.aG .v0 "Cases" "places") (.a (.tup (.c .v1 .v2 .v3))))))))⟩
def Zf:Fn:=⟨4,6,.cons (.iff (.call "is_tuple_of" (.c .v1 (.str hZ) .i2)) (.cons (.af 4 (.ix .v1 .i1)) (.a (.ret (.and (.call "is_below" (.b .v4 (.bi .len (.cons (.aG .v0 "Cases" "sayings") .nil)))) (.cmp .cN (.bL .v0 "Cases" "truth" "Cases.truth" (.c .v4 .v2 .v3)) (.bl false)))))) .nil) (.cons (.r (.not (.call "is_tuple_of" (.c .v1 (.str kU) (.int 6)))) (.bl false)) (.cons (.af 5 (.bL .v0 "Cases" "bit_of" "Cases.bit_of" (.c (.ix .v1 .i1) (.ix .v1 .i2) (.ix .v1 .i3)))) (.cons (.r (.cmp .eq (.bin .band (.bin .band .v5 .v3) (.inv .v2)) .i0) (.bl false)) (.a (.ret (.and (.bL .v0 "Cases" "is_shown" "Cases.is_shown" (.c (.ix .v1 .i4) (.bin .bor .v2 .v5) .v3)) (.bL .v0 "Cases" "is_shown" "Cases.is_shown" (.c (.ix .v1 (.int 5)) .v2 (.bin .band .v3 (.inv .v5))))))))))⟩
def u6:Fn:=⟨3,4,.cons (.ex (.call "check_bits" (.c (.ix .v0 .i0) .v1 (.con "MOST_BITS")))) (.cons (.af 3 (.make "Cases" "Cases.__init__" (.b .v0 .v1))) (.a (.ret (.bL .v3 "Cases" "is_shown" "Cases.is_shown" (.cons .v2 (.cons .i0 (.cons (.aG .v3 "Cases" "whole") .nil)))))))⟩
def qm:Ss:= .cons (.iff (.b8 .v2 .tuple) (.a (.ext 1 (.call "names_in" (.a .v2)))) .nil) .nil
noncomputable def qB:Fn:=⟨1,3,.cons (.r (.cmp .eq (.ix .v0 .i0) (.str mm)) (.lst (.a (.ix .v0 .i1)))) (.cons (.set 1 (.lst .nil)) (.cons (.for [2] u0 (.seq (.fB .v0 .i1)) qm) (.a (.ret .v1))))⟩
def Zk:Ss:= .cons (.iff (.cmp .mem (.ix .v5 .i0) .v2) (.a (.af 3 (.bin .bor .v3 (.bin .shl .i1 .v4)))) .nil) .nil
def jT:Fn:=⟨2,6,.cons (.af 2 (.call "names_in" (.a .v1))) (.cons (.af 3 .i0) (.cons (.for [4,5] false (.cj (.aG .v0 "Cases" "places")) Zk) (.a (.ret .v3))))⟩
def Jd:E:= .cmp .gt .v0 .i0
def Ji:Ss:= .cons (.af 0 (.bin .band .v0 (.bin .sub .v0 .i1))) (.a (.af 1 (.bin .add .v1 .i1)))
def xM:Fn:=⟨1,2,.cons (.af 1 .i0) (.cons (.ip 100000 Jd Ji) (.a (.ret .v1)))⟩
def Jf:E:= .comp [0] u0 1 [0] (.seq (.ix .v1 .i1)) k9 (.bl u0) (.call "needed_bits" (.cons (.aG .v1 "Search" "cases") (.a .v0)))
def zh:Fn:=⟨3,3,.cons (.bF 0 "Search" "cases" (.make "Cases" "Cases.__init__" (.b .v1 .v2))) (.cons (.bS 0 "Search" "needs" Jf) .nil)⟩
noncomputable def jg:Fn:=⟨2,2,.cons (.ret (.bL .v0 "Search" "told_of_case" "Search.told_of_case" (.cons .v1 (.cons .i0 (.cons (.aG (.aG .v0 "Search" "cases") "Cases" "whole") .nil))))) .nil⟩
noncomputable def wg:E:= .comp [0] u0 1 [0,3,2] (.seq .v1) k9 (.bl u0) (.bin .band (.bin .band (.ix (.aG .v1 "Search" "needs") .v0) .v2) (.inv .v3))
def Qe:Fn:=⟨4,6,.cons (.af 4 wg) (.cons (.af 5 (.eM "how_many_set" .v4)) (.a (.ret (.bin .sub (.eV (.bin .band .v5 (.neg .v5))) .i1))))⟩
noncomputable def ja:Ss:= .cons (.af 6 (.bL (.aG .v0 "Search" "cases") "Cases" "truth" "Cases.truth" (.c .v5 .v2 .v3))) (.cons (.r (.cmp .cN .v6 (.bl false)) (.tup (.b (.str fN) (.tup (.b (.str hZ) .v5))))) (.a (.iff (.eU false .v6) (.a (.app 4 .v5)) .nil)))
def aK:Fn:=⟨4,7,.cons (.set 4 (.lst .nil)) (.cons (.for [5] u0 (.seq .v1) ja) (.cons (.r (.cmp .eq .v4 (.lst .nil)) (.tup (.cons (.str g6) (.cons (.bL (.aG .v0 "Search" "cases") "Cases" "world_of_code" "Cases.world_of_code" (.a .v2)) .nil)))) (.a (.ret (.bL .v0 "Search" "told_of_halves" "Search.told_of_halves" (.c .v4 .v2 .v3))))))⟩
noncomputable def aE:Fn:=⟨4,11,.cons (.af 4 (.bL .v0 "Search" "chosen_place" "Search.chosen_place" (.c .v1 .v2 .v3))) (.cons (.af 5 (.bin .shl .i1 .v4)) (.cons (.af 6 (.bL .v0 "Search" "told_of_case" "Search.told_of_case" (.c .v1 (.bin .bor .v2 .v5) .v3))) (.cons (.r (.or (.cmp .eq (.ix .v6 .i0) (.str g6)) (.bL (.aG .v0 "Search" "cases") "Cases" "is_shown" "Cases.is_shown" (.c (.ix .v6 .i1) .v2 .v3))) .v6) (.cons (.af 7 (.bL .v0 "Search" "told_of_case" "Search.told_of_case" (.c .v1 .v2 (.bin .band .v3 (.inv .v5))))) (.cons (.r (.cmp .eq (.ix .v7 .i0) (.str g6)) .v7) (.cons (.fb [8,9,10] (.ix (.aG (.aG .v0 "Search" "cases") "Cases" "places") .v4)) (.a (.ret (.tup (.b (.str fN) (.tup (.g (.str kU) .v8 .v9 (.var 10) (.ix .v6 .i1) (.ix .v7 .i1)))))))))))))⟩
def Q5:Fn:=⟨2,2,.cons (.ex (.call "check_bits" (.c (.ix .v0 .i0) .v1 (.con "MOST_BITS")))) (.a (.ret (.bL (.make "Search" "Search.__init__" (.b .v0 .v1)) "Search" "told_of_sayings" "Search.told_of_sayings" (.a (.bY (.bi .len (.a (.ix .v0 .i1))))))))⟩
def wJ:Fn:=⟨1,1,.cons (.ret (.lst (.c .v0 .i0 (.bi .sum (.a (.fG .v0 .i1)))))) .nil⟩
noncomputable def qP:Fn:=⟨1,1,.cons (.bT .v0 .i1 (.bin .add (.ix .v0 .i1) .i1)) (.cons (.bT .v0 .i2 (.bin .mod (.bin .add (.bin .mul (.int 7) (.ix .v0 .i1)) (.bi .sum (.a (.fG (.ix .v0 .i0) (.int 9))))) (.int 16777213))) (.a (.iff (.cmp .lt (.ix .v0 .i1) (.bi .len (.a (.ix .v0 .i0)))) (.a (.bT .v0 .i2 (.ix (.ix .v0 .i0) (.ix .v0 .i1)))) .nil)))⟩
noncomputable def xD:Fn:=⟨2,3,.cons (.iff (.not (.chain .le .lt .i0 (.ix .v0 .i2) (.bin .pow (.int 10) (.int 18)))) (.cons (.fT .v0 .i2 2 (.bi .divmod (.b (.ix .v0 .i2) .v1))) (.a (.ret .v2))) .nil) (.cons (.bT .v0 .i2 (.bin .mod (.bin .add (.bin .add (.bin .mul (.ix .v0 .i2) (.int 742939)) (.bin .mul (.ix .v0 .i1) (.int 65063))) (.int 40503)) (.int 16777213))) (.a (.ret (.bin .mod (.bin .fdiv (.bin .mul (.ix .v0 .i2) (.bin .add (.bin .mod (.ix .v0 .i2) (.int 4093)) (.int 7))) (.int 64)) .v1))))⟩
def Qj:Ss:= .cons (.af 8 (.bin .add (.bin .add (.fG .v4 .v6) (.ix .v2 (.bin .mod (.bin .add .v3 (.bin .mul (.int 5) .v5)) (.int 26)))) (.fB .v4 .v6))) (.cons (.iff (.cmp .mem .v8 (.dE uO [gf,g0,fh,gJ,[101,97,99,104],fU,i5,gP,iM,hM,iy,iL,[107,105,110,100],[116,105,101],[115,97,121]])) (.a (.af 8 (.bin .add .v8 (.str [113])))) .nil) (.a (.app 7 .v8)))
def Xo:Ss:= .cons (.af 4 (.bin .add .v4 (.ix .v2 (.call "_law_draw" (.b .v0 (.int 26)))))) .nil
def Jw:E:= .comp [0] u0 1 [2,3] (.av .v1) k9 (.bl u0) (.bin .mul (.ix .v1 .v2) (.bin .add .v0 .i1))
def zw:Fn:=⟨2,9,.cons (.af 2 (.str rZ)) (.cons (.af 3 (.call "_law_draw" (.b .v0 (.int 26)))) (.cons (.r (.cmp .eq (.call "_law_draw" (.b .v0 .i3)) .i0) Jw) (.cons (.af 4 (.str [])) (.cons (.for [5] true (.av (.call "_law_draw" (.b .v0 (.int 6)))) Xo) (.cons (.af 6 (.call "_law_draw" (.b .v0 (.bin .add (.bi .len (.a .v4)) .i1)))) (.cons (.set 7 (.lst .nil)) (.cons (.for [5] true (.av .v1) Qj) (.a (.ret .v7)))))))))⟩
def jJ:Fn:=⟨1,6,.cons (.af 1 (.lst (.cons (.tup (.c .i0 .i1 .i2)) (.cons (.tup (.c .i1 .i1 .i2)) (.cons (.tup (.c .i0 .i1 .i2)) (.g (.tup (.c .i2 .i1 .i2)) (.tup (.c .i1 .i0 .i3)) (.tup (.c .i2 .i0 .i3)) (.tup (.c .i0 .i1 .i1)) (.tup (.c .i3 .i2 .i1)) (.tup (.c .i1 .i0 .i4)))))))) (.cons (.af 1 (.bin .add .v1 (.lst (.d (.tup (.c .i0 .i2 .i2)) (.tup (.c .i1 .i1 .i0)) (.tup (.c .i1 .i1 .i1)) (.tup (.c .i0 .i1 .i3)))))) (.cons (.fb [2,3,4] (.ix .v1 (.call "_law_draw" (.b .v0 (.bi .len (.a .v1)))))) (.cons (.af 5 (.call "_law_names" (.b .v0 (.bin .add .v2 .v3)))) (.a (.ret (.tup (.b .v4 (.tup (.b (.bi .tuple (.a (.bi .sorted (.a (.fG .v5 .v2))))) (.bi .tuple (.a (.bi .sorted (.a (.fB .v5 .v2))))))))))))))⟩
def ze:E:= .comp [0] u0 1 [] (.seq .v1) k9 (.bl u0) (.tup (.b (.str mm) .v0))
def jf:Fn:=⟨3,7,.cons (.af 3 (.call "_law_draw" (.b .v0 (.int 10)))) (.cons (.iff (.or (.cmp .eq .v2 .i0) (.cmp .lt .v3 .i3)) (.cons (.af 4 (.bin .add (.bin .mul ze .i2) (.lst (.c (.tup (.a (.str hM))) (.tup (.a (.str iy))) (.tup (.a (.str iL))))))) (.a (.ret (.ix .v4 (.call "_law_draw" (.b .v0 (.bi .len (.a .v4)))))))) .nil) (.cons (.af 5 (.call "_law_expression" (.c .v0 .v1 (.bin .sub .v2 .i1)))) (.cons (.r (.cmp .lt .v3 (.int 5)) (.tup (.b (.ix (.lst (.b (.str oj) (.str sj))) (.bin .sub .v3 .i3)) .v5))) (.cons (.af 6 (.call "_law_expression" (.c .v0 .v1 (.bin .sub .v2 .i1)))) (.a (.ret (.tup (.c (.ix (.lst (.f (.str m7) (.str mG) (.str oB) (.str nS) (.str nS))) (.bin .sub .v3 (.int 5))) .v5 .v6))))))))⟩
def bf:Fn:=⟨3,6,.cons (.af 3 (.call "_law_draw" (.b .v0 (.int 11)))) (.cons (.iff (.and (.cmp .gt .v2 .i0) (.cmp .gt .v3 (.int 7))) (.cons (.af 4 (.call "_law_saying" (.c .v0 .v1 (.bin .sub .v2 .i1)))) (.cons (.r (.cmp .eq .v3 (.int 8)) (.tup (.b (.str iM) .v4))) (.a (.ret (.tup (.c (.ix (.lst (.b (.str i5) (.str gP))) (.bin .sub .v3 (.int 9))) .v4 (.call "_law_saying" (.c .v0 .v1 (.bin .sub .v2 .i1))))))))) .nil) (.cons (.af 5 (.ix (.lst (.cons (.str fU) (.cons (.str iA) (.g (.str gf) (.str g0) (.str fh) (.str gJ) (.str lF) (.str pK))))) (.bin .mod .v3 (.int 8)))) (.cons (.af 4 (.call "_law_expression" (.c .v0 .v1 .i1))) (.cons (.r (.or (.cmp .eq .v5 (.str fU)) (.cmp .eq .v5 (.str iA))) (.tup (.c .v5 .v4 (.call "_law_expression" (.c .v0 .v1 .i1))))) (.cons (.r (.or (.cmp .eq .v5 (.str gf)) (.cmp .eq .v5 (.str g0))) (.tup (.b .v5 .v4))) (.a (.ret (.tup (.c .v5 (.ix (.lst (.cons .i0 (.cons .i1 (.g .i1 .i2 .i2 .i3 .i4 (.bin .add (.int 10) (.call "_law_draw" (.b .v0 (.int 90)))))))) (.call "_law_draw" (.b .v0 (.int 8)))) .v4)))))))))⟩
def Jh:Ss:= .cons (.ex (.call "_law_turn" (.a .v0))) (.cons (.app 4 (.call "_law_saying" (.c .v0 .v3 .i1))) (.a (.iff (.and (.cmp .gt .v5 .i0) (.cmp .eq (.call "_law_draw" (.b .v0 (.int 9))) .i0)) (.cons (.dY 4 (.neg .i1) (.tup (.b (.str iM) (.ix .v4 (.call "_law_draw" (.b .v0 .v5)))))) .nil) .nil)))
def Xr:Fn:=⟨3,6,.cons (.af 3 (.bi .list (.a (.bin .add (.ix .v1 .i0) (.ix .v1 .i1))))) (.cons (.set 4 (.lst .nil)) (.cons (.for [5] u0 (.av (.call "_law_draw" (.b .v0 (.bin .add .v2 .i1)))) Jh) (.a (.ret (.tup (.b .v1 (.bi .tuple (.a .v4))))))))⟩
noncomputable def zi:Ss:= .cons (.iff (.cmp .eq (.bin .band (.bin .shr .v1 (.bin .add (.bin .mul .v4 .v0) .v5)) .i1) .i1) (.cons (.af 6 (.bin .band (.bin .shr .v2 (.bin .mul .v5 .v0)) (.bin .sub (.bin .shl .i1 .v0) .i1))) (.a (.af 3 (.bin .bor .v3 (.bin .shl .v6 (.bin .mul .v4 .v0)))))) .nil) .nil
def xu:Ss:= .cons (.for [5] u0 (.av .v0) zi) .nil
def JE:Fn:=⟨3,7,.cons (.af 3 .i0) (.cons (.for [4] u0 (.av .v0) xu) (.a (.ret .v3)))⟩
noncomputable def Wm:Ss:= .cons (.iff (.cmp .eq (.bin .band (.bin .shr .v1 (.bin .add (.bin .mul .v3 .v0) .v4)) .i1) .i1) (.a (.af 2 (.bin .bor .v2 (.bin .shl .i1 (.bin .add (.bin .mul .v4 .v0) .v3))))) .nil) .nil
def zv:Ss:= .cons (.for [4] u0 (.av .v0) Wm) .nil
def Wr:Fn:=⟨2,5,.cons (.af 2 .i0) (.cons (.for [3] u0 (.av .v0) zv) (.a (.ret .v2)))⟩
def Xm:Ss:= .cons (.af 2 (.bin .bor .v2 (.call "_law_joined" (.c .v0 .v2 .v1)))) .nil
def xF:Fn:=⟨2,4,.cons (.af 2 .v1) (.cons (.for [3] u0 (.av .v0) Xm) (.a (.ret .v2)))⟩
def xr:E:= .comp [0] u0 1 [0] (.av .v0) k9 (.bl u0) (.bin .shl .i1 (.bin .add (.bin .mul .v0 .v1) .v0))
def zO:Fn:=⟨1,1,.cons (.ret (.bi .sum (.a xr))) .nil⟩
def WU:Fn:=⟨4,4,.cons (.r (.cmp .eq .v0 (.str m7)) (.bin .bor .v2 .v3)) (.cons (.r (.cmp .eq .v0 (.str oB)) (.bin .band .v2 .v3)) (.a (.ret (.call "_law_joined" (.c .v1 .v2 .v3)))))⟩
def ay:Fn:=⟨3,10,.cons (.af 3 (.ix .v2 .i0)) (.cons (.af 4 (.bin .sub (.bin .shl .i1 (.bin .mul .v0 .v0)) .i1)) (.cons (.r (.cmp .eq .v3 (.str mm)) (.eE 1 (.ix .v2 .i1))) (.cons (.iff (.cmp .mem .v3 (.lst (.c (.str hM) (.str iy) (.str iL)))) (.cons (.af 5 (.fu hM (.call "_law_same" (.a .v0)) iy .v4 iL .i0 3)) (.a (.ret (.tup (.b .v5 .v5))))) .nil) (.cons (.fb [6,7] (.call "_law_bounds" (.c .v0 .v1 (.ix .v2 .i1)))) (.cons (.r (.cmp .eq .v3 (.str oj)) (.tup (.b (.call "_law_turned" (.b .v0 .v6)) (.call "_law_turned" (.b .v0 .v7))))) (.cons (.r (.cmp .eq .v3 (.str sj)) (.tup (.b (.call "_law_closed" (.b .v0 .v6)) (.call "_law_closed" (.b .v0 .v7))))) (.cons (.fb [8,9] (.call "_law_bounds" (.c .v0 .v1 (.ix .v2 .i2)))) (.cons (.r (.cmp .eq .v3 (.str mG)) (.tup (.b (.bin .band .v6 (.bin .bxor .v4 .v9)) (.bin .band .v7 (.bin .bxor .v4 .v8))))) (.a (.ret (.tup (.b (.call "_law_two" (.d .v3 .v0 .v6 .v8)) (.call "_law_two" (.d .v3 .v0 .v7 .v9))))))))))))))⟩
def Jl:E:= .cmp .gt .v0 .i0
def zm:Ss:= .cons (.af 1 (.bin .add .v1 (.bin .mod .v0 .i2))) (.a (.af 0 (.bin .fdiv .v0 .i2)))
def QO:Fn:=⟨1,2,.cons (.af 1 .i0) (.cons (.ip 100000 Jl zm) (.a (.ret .v1)))⟩
def wy:E:= .comp [0,1] k9 2 [1] (.seq .v2) k9 (.bl u0) (.cmp .gt .v0 .v2)
def Jy:E:= .comp [0,1] k9 2 [1] (.seq .v2) k9 (.bl u0) (.cmp .le .v1 .v2)
def jy:E:= .comp [0,1] k9 2 [1] (.seq .v2) k9 (.bl u0) (.cmp .lt .v1 .v2)
def Jx:E:= .comp [0,1] k9 2 [1] (.seq .v2) k9 (.bl u0) (.cmp .ge .v0 .v2)
noncomputable def Qv:Fn:=⟨3,3,.cons (.iff .v0 (.cons (.r (.bi .all (.a Jx)) (.bl u0)) (.a (.ret (.ix (.lst (.b .aj (.bl k9))) (.bi .int (.a (.bi .any (.a jy)))))))) .nil) (.cons (.r (.bi .all (.a Jy)) (.bl u0)) (.a (.ret (.ix (.lst (.b .aj (.bl k9))) (.bi .int (.a (.bi .any (.a wy))))))))⟩
noncomputable def zF:Fn:=⟨2,2,.cons (.r (.cmp .eq (.bin .band (.ix .v0 .i1) (.ix .v1 .i0)) (.ix .v0 .i1)) (.bl u0)) (.a (.ret (.ix (.lst (.b .aj (.bl k9))) (.bi .int (.a (.cmp .ne (.bin .band (.ix .v0 .i0) (.ix .v1 .i1)) (.ix .v0 .i0)))))))⟩
def Xs:E:= .comp [0] u0 1 [4,0,6,5] (.av .v0) k9 (.bl u0) (.tup (.b (.call "_law_many" (.a (.bin .band (.bin .shr .v1 (.bin .mul .v0 .v2)) .v3))) (.call "_law_many" (.a (.bin .band (.bin .shr .v4 (.bin .mul .v0 .v2)) .v3)))))
def bp:Fn:=⟨3,8,.cons (.af 3 (.ix .v2 .i0)) (.cons (.iff (.or (.cmp .eq .v3 (.str gf)) (.cmp .eq .v3 (.str g0))) (.cons (.af 2 (.tup (.c (.ix (.lst (.b (.str gJ) (.str fh))) (.bi .int (.a (.cmp .eq .v3 (.str gf))))) (.bi .int (.a (.cmp .eq .v3 (.str gf)))) (.ix .v2 .i1)))) (.a (.af 3 (.ix .v2 .i0)))) .nil) (.cons (.fb [4,5] (.call "_law_bounds" (.c .v0 .v1 (.ix .v2 .i2)))) (.cons (.r (.or (.cmp .eq .v3 (.str fh)) (.cmp .eq .v3 (.str gJ))) (.call "_law_ruled" (.c (.cmp .eq .v3 (.str fh)) (.ix .v2 .i1) (.lst (.a (.tup (.b (.call "_law_many" (.a .v4)) (.call "_law_many" (.a .v5))))))))) (.cons (.af 6 (.bin .sub (.bin .shl .i1 .v0) .i1)) (.cons (.af 7 Xs) (.a (.ret (.call "_law_ruled" (.c (.cmp .eq .v3 (.str lF)) (.ix .v2 .i1) .v7)))))))))⟩
def zq:E:= .comp [0] u0 1 [0,1] (.seq .v5) k9 (.bl u0) (.call "_law_told" (.c .v1 .v2 .v0))
def a9:Fn:=⟨3,7,.cons (.af 3 (.ix .v2 .i0)) (.cons (.iff (.cmp .eq .v3 (.str iM)) (.cons (.af 4 (.call "_law_told" (.c .v0 .v1 (.ix .v2 .i1)))) (.cons (.r (.eU false .v4) .aj) (.a (.ret (.not .v4))))) .nil) (.cons (.iff (.cmp .mem .v3 (.lst (.c (.str i5) (.str gP) (.str iA)))) (.cons (.af 5 (.lst (.b (.ix .v2 .i1) (.ix .v2 .i2)))) (.cons (.iff (.cmp .eq .v3 (.str iA)) (.a (.af 5 (.lst (.b (.tup (.c (.str fU) (.ix .v2 .i1) (.ix .v2 .i2))) (.tup (.c (.str fU) (.ix .v2 .i2) (.ix .v2 .i1))))))) .nil) (.cons (.af 6 zq) (.cons (.r (.cmp .mem (.cmp .eq .v3 (.str gP)) .v6) (.cmp .eq .v3 (.str gP))) (.cons (.r (.cmp .mem .aj .v6) .aj) (.a (.ret (.cmp .ne .v3 (.str gP))))))))) .nil) (.cons (.r (.cmp .eq .v3 (.str fU)) (.call "_law_within" (.b (.call "_law_bounds" (.c .v0 .v1 (.ix .v2 .i1))) (.call "_law_bounds" (.c .v0 .v1 (.ix .v2 .i2)))))) (.a (.ret (.call "_law_fact" (.c .v0 .v1 .v2)))))))⟩
def Z9:Fn:=⟨1,1,.cons (.ret (.and (.b8 .v0 .int) (.not (.b8 .v0 .bool)))) .nil⟩
noncomputable def Jm:E:= .comp [0] u0 1 [1,0] (.av .v0) k9 (.bl u0) (.bin .shl (.bin .band (.bin .shr .v1 .v0) .i1) (.bin .add (.bin .mul .v0 .v2) .v0))
def JD:Fn:=⟨2,2,.cons (.ret (.bi .sum (.a Jm))) .nil⟩
def jq:Ss:= .cons (.cm 3 (.ix (.ix .v0 .i1) .v4) (.tup (.b (.ix (.ix .v1 .i2) .v4) (.ix (.ix .v1 .i2) .v4)))) .nil
def Wq:Ss:= .cons (.af 5 (.call "_law_spread" (.b .v2 (.ix (.ix .v1 .i1) .v4)))) (.cons (.cm 3 (.ix (.ix .v0 .i0) .v4) (.tup (.b .v5 .v5))) .nil)
def jA:Fn:=⟨2,6,.cons (.af 2 (.ix .v1 .i0)) (.cons (.set 3 .c8) (.cons (.for [4] u0 (.av (.bi .len (.a (.ix .v0 .i0)))) Wq) (.cons (.for [4] u0 (.av (.bi .len (.a (.ix .v0 .i1)))) jq) (.a (.ret .v3)))))⟩
def Xi:Ss:= .cons (.r (.or (.not (.call "_law_whole" (.a .v5))) (.not (.chain .le .lt .i0 .v5 (.bin .shl .i1 (.ix (.lst (.b .v1 (.bin .mul .v1 .v1))) .v3))))) (.bl false)) .nil
def zj:Ss:= .cons (.af 4 (.ix .v2 (.bin .add .i1 .v3))) (.cons (.r (.or (.not (.b8 .v4 .tuple)) (.cmp .ne (.bi .len (.a .v4)) (.bi .len (.a (.ix .v0 .v3))))) (.bl k9)) (.a (.for [5] u0 (.seq .v4) Xi)))
def qv:Fn:=⟨3,6,.cons (.r (.or (.not (.b8 .v2 .tuple)) (.or (.cmp .ne (.bi .len (.a .v2)) .i3) (.or (.not (.call "_law_whole" (.a (.ix .v2 .i0)))) (.cmp .ne (.ix .v2 .i0) .v1)))) (.bl false)) (.cons (.for [3] true (.av .i2) zj) (.a (.ret (.bl true))))⟩
def Qx:E:= .comp [0] true 1 [1,2] (.seq (.ix .v0 .i1)) false (.bl true) (.cmp .cN (.call "_law_told" (.c (.ix .v1 .i0) .v2 .v0)) (.bl true))
def Jv:Fn:=⟨2,3,.cons (.af 2 (.call "_law_seen" (.b (.ix .v0 .i0) .v1))) (.a (.ret (.bi .all (.a Qx))))⟩
def Wp:Ss:= .cons (.cm 2 .v3 (.tup (.b .i0 (.bin .sub (.bin .shl .i1 (.bin .mul .v1 .v1)) .i1)))) .nil
def xq:Ss:= .cons (.cm 2 .v3 (.tup (.b .i0 (.call "_law_same" (.a .v1))))) .nil
noncomputable def wC:Fn:=⟨2,4,.cons (.set 2 .c8) (.cons (.for [3] u0 (.seq (.ix .v0 .i0)) xq) (.cons (.for [3] u0 (.seq (.ix .v0 .i1)) Wp) (.a (.ret .v2))))⟩
def xv:Fn:=⟨3,11,.cons (.fb [3,4,5] .v2) (.cons (.r (.or (.not (.b8 .v3 .str)) (.or (.cQ u0 .v3 1) (.or (.not (.call "_law_whole" (.a .v4))) (.not (.call "_law_whole" (.a .v5)))))) .aj) (.cons (.r (.or (.not (.chain .le .lt .i0 .v4 .v0)) (.not (.chain .le .lt .i0 .v5 .v0))) .aj) (.cons (.fb [6,7] (.eE 1 .v3)) (.cons (.af 8 (.bin .shl .i1 (.bin .add (.bin .mul .v4 .v0) .v5))) (.cons (.r (.or (.cmp .ne (.bin .band .v6 .v8) .i0) (.cmp .eq (.bin .band .v7 .v8) .i0)) .aj) (.cons (.set 9 (.ef 1)) (.cons (.cm 9 .v3 (.tup (.b (.bin .bor .v6 .v8) .v7))) (.cons (.set 10 (.ef 1)) (.cons (.cm 10 .v3 (.tup (.b .v6 (.bin .sub .v7 .v8)))) (.a (.ret (.lst (.b .v9 (.var 10))))))))))))))⟩
def Zn:Fn:=⟨4,5,.cons (.r (.or (.not (.b8 .v3 .tuple)) (.cmp .eq (.bi .len (.a .v3)) .i0)) (.bl false)) (.cons (.iff (.and (.cmp .eq (.ix .v3 .i0) (.str hZ)) (.cmp .eq (.bi .len (.a .v3)) .i2)) (.cons (.r (.or (.not (.call "_law_whole" (.a (.ix .v3 .i1)))) (.not (.chain .le .lt .i0 (.ix .v3 .i1) (.bi .len (.a (.ix .v0 .i1)))))) (.bl false)) (.a (.ret (.cmp .cN (.call "_law_told" (.c .v1 .v2 (.ix (.ix .v0 .i1) (.ix .v3 .i1)))) (.bl false))))) .nil) (.cons (.r (.or (.cmp .ne (.ix .v3 .i0) (.str kU)) (.cmp .ne (.bi .len (.a .v3)) (.int 6))) (.bl false)) (.cons (.af 4 (.call "_law_split" (.c .v1 .v2 (.sl .v3 .i1 .i4)))) (.cons (.r (.eU false .v4) (.bl false)) (.a (.ret (.and (.call "_law_walks" (.d .v0 .v1 (.ix .v4 .i0) (.ix .v3 .i4))) (.call "_law_walks" (.d .v0 .v1 (.ix .v4 .i1) (.ix .v3 (.int 5)))))))))))⟩
noncomputable def Qn:Ss:= .cons (.app 5 (.bin .mod .v2 (.bin .shl .i1 (.bin .mul .v1 .v1)))) (.a (.af 2 (.bin .shr .v2 (.bin .mul .v1 .v1))))
def Xn:Ss:= .cons (.app 3 (.bin .mod .v2 (.bin .shl .i1 .v1))) (.a (.af 2 (.bin .shr .v2 .v1)))
def zK:Fn:=⟨3,6,.cons (.set 3 (.lst .nil)) (.cons (.for [4] u0 (.seq (.ix .v0 .i0)) Xn) (.cons (.set 5 (.lst .nil)) (.cons (.for [4] u0 (.seq (.ix .v0 .i1)) Qn) (.a (.ret (.tup (.c .v1 (.bi .tuple (.a .v3)) (.bi .tuple (.a .v5)))))))))⟩
def ww:Fn:=⟨3,3,.cons (.r (.or (.not (.b8 .v2 .tuple)) (.cmp .ne (.bi .len (.a .v2)) .i2)) (.bl k9)) (.cons (.r (.cmp .eq (.ix .v2 .i0) (.str g6)) (.and (.call "_law_is_world" (.c (.ix .v0 .i0) .v1 (.ix .v2 .i1))) (.call "_law_keeps" (.b .v0 (.ix .v2 .i1))))) (.a (.ret (.and (.cmp .eq (.ix .v2 .i0) (.str fN)) (.call "_law_walks" (.d .v0 .v1 (.call "_law_open" (.b (.ix .v0 .i0) .v1)) (.ix .v2 .i1)))))))⟩
def Q9:E:= .comp [0] u0 1 [5] (.seq .v9) k9 (.bl u0) (.call "_law_keeps" (.b .v1 .v0))
def zT:E:= .comp [0] u0 1 [3,2] (.av .v8) k9 (.bl u0) (.call "_law_world" (.c .v1 .v2 .v0))
def dM:Fn:=⟨1,11,.cons (.set 1 (.share (.call "_law_start" (.a .v0)))) (.cons (.fb [2,3] (.call "_law_words" (.a .v1))) (.cons (.af 4 (.bin .add (.bin .mul .v2 (.bi .len (.a (.ix .v3 .i0)))) (.bin .mul (.bin .mul .v2 .v2) (.bi .len (.a (.ix .v3 .i1)))))) (.cons (.af 5 (.call "_law_theory" (.c .v1 .v3 (.ix (.lst (.c (.int 5) .i2 .i1)) (.bin .add (.bi .int (.a (.cmp .gt .v4 .i4))) (.bi .int (.a (.cmp .gt .v4 (.int 8))))))))) (.cons (.af 6 (.call "theory_of" (.b .v3 (.bi .list (.a (.ix .v5 .i1)))))) (.cons (.af 7 (.call "found" (.b .v6 .v2))) (.cons (.r (.or (.cmp .ne .v6 .v5) (.not (.call "_law_right" (.c .v5 .v2 .v7)))) (.bl false)) (.cons (.r (.and (.cmp .eq (.ix .v7 .i0) (.str fN)) (.cmp .fQ (.call "holds" (.c .v5 .v2 (.ix .v7 .i1))) (.bl true))) (.bl false)) (.cons (.af 8 (.bin .shl .i1 .v4)) (.cons (.iff (.and (.cmp .eq (.ix .v7 .i0) (.str fN)) (.cmp .lt .v8 (.int 65))) (.cons (.af 9 zT) (.a (.r (.bi .any (.a Q9)) (.bl false)))) .nil) (.cons (.r (.cmp .gt .v8 (.int 64)) (.bl true)) (.cons (.af 10 (.call "found" (.b .v5 .v2))) (.a (.ret (.and (.call "_law_right" (.c .v5 .v2 (.var 10))) (.cmp .eq (.ix (.var 10) .i0) (.ix .v7 .i0))))))))))))))))⟩
def prog:Prog:=⟨[("is_whole",Co),("is_below",QC),("pairs_of",ZM),("gathered",ZO),("common",yc),("either",yn),("without",jX),("turned",r3),("joined",ye),("closed",sy),("same",vY),("every",rN),("value_of_name",Zq),("made",Xz),("counts",u5),("bounds",bB),("settled",JV),("not_told",xN),("and_told",xO),("or_told",qX),("in_told",J3),("count_told",XD),("told",cw),("fact_told",aS),("is_size",J2),("widths",u4),("bits",tR),("check_size",jE),("check_bits",xE),("world_of",XM),("theory_of",xH),("places_of",Wv),("is_tuple_of",Ww),("Cases.__init__",qj),("Cases.world_of_code",xi),("Cases.truth",Wy),("Cases.bit_of",Ju),("Cases.is_shown",Zf),("holds",u6),("names_in",qB),("needed_bits",jT),("how_many_set",xM),("Search.__init__",zh),("Search.told_of_sayings",jg),("Search.chosen_place",Qe),("Search.told_of_case",aK),("Search.told_of_halves",aE),("found",Q5),("_law_start",wJ),("_law_turn",qP),("_law_draw",xD),("_law_names",zw),("_law_words",jJ),("_law_expression",jf),("_law_saying",bf),("_law_theory",Xr),("_law_joined",JE),("_law_turned",Wr),("_law_closed",xF),("_law_same",zO),("_law_two",WU),("_law_bounds",ay),("_law_many",QO),("_law_ruled",Qv),("_law_within",zF),("_law_fact",bp),("_law_told",a9),("_law_whole",Z9),("_law_spread",JD),("_law_seen",jA),("_law_is_world",qv),("_law_keeps",Jv),("_law_open",wC),("_law_split",xv),("_law_walks",Zn),("_law_world",zK),("_law_right",ww),("law",dM)],[("WorldError", "ValueError"),("NoSize", "WorldError"),("NoCode", "WorldError"),("Crowded", "WorldError"),("TooBig", "WorldError")],[("GREATEST_SIZE",.int 4),("MOST_SAYINGS",.int 12),("MOST_BITS",.int 16)]⟩
abbrev u9 (m:Nat):Fx:=⟨call prog m,prog.cl,prog.con⟩
abbrev W.i (n:Nat):W:= .v (.int (n:Int))
abbrev W.r (n:Nat):W:= .v (.ref n)
abbrev W.s (t:Tx):W:= .v (.str t)
abbrev W.b (b:Bool):W:= .v (.bl b)
abbrev W.t (t:List D):W:= .v (.tup t)
abbrev W.l (t:List D):W:= .v (.lst t)
abbrev sv (d:D):Option W:=k0 (.v d)
abbrev si (n:Nat):Option W:=k0 (.i n)
def nk (m j:Nat) (h:j<=m): ∃k,m=k+j:=⟨m-j,by omega⟩
abbrev D.n (n:Nat):D:= .int (n:Int)
theorem XA (f): ∀ ds,(∀ d∈ds,step d h= .ok (f d) h)->Gy step ds h= .ok (ds.filterMap f) h
 | [],_=>rfl
 | d::ds,a=>by
  have c:=XA f ds λd b=>a d (Aa2 _ b)
  rw [Gy,a d Aa4]
  simp only [c]
  cases q:f d<;>simp [q]
def yf (f) (p:Gk F it τ h= .ok ds h) (m:ds.length<=bh)
 (n: ∀d∈ds,∃i b,Gp tg one d (Aa3 k y0++aB.map λj=>Gj τ j)=k0 i/\Gm F c i h= .ok b h/\(if b=u0 then ∃w y,eval F elt i h= .ok w h/\w.d=k0 y/\f d=k0 y else f d=y0)):
 eval F (.comp tg one k aB it u0 c elt) τ h= .ok (.own (ds.filterMap f)) h:=by
 rw [eval,p,R.ae,if_pos m,XA f]
 ·rfl
 intro d l
 obtain⟨i,b,o,e,a⟩:=n d l
 rw [o]
 show((Gm F c i h).bind _)=_
 rw [e]
 cases b with
 | true=>
  obtain⟨w,y,e1,e2,g⟩:=a
  simp [e1,e2,g]
 | false=>
  rw [if_neg (by simp)]at a
  simp [a]
def ql (f) (l:Gk F it τ h= .ok ds h) (b:ds.length<=bh)
 (e: ∀d∈ds,∃i,Gp tg one d (Aa3 k y0++aB.map λj=>Gj τ j)=k0 i/\ ∃w,eval F elt i h= .ok w h/\w.d=k0 (f d)):
 eval F (.comp tg one k aB it k9 c elt) τ h= .ok (.own (ds.map f)) h:=by
 rw [eval,l,R.ae,if_pos b,XA (λd=>k0 (f d))]
 ·simp [List.filterMap_eq_map']
 intro d a
 obtain⟨i,g,w,e1,e2⟩:=e d a
 rw [g]
 simp [e1,e2]
def FI (bnd) (body) (d) (ds) (τ) (h):Gq bnd body (d::ds) τ h=match bnd d τ with
 | none=> .fail
 | some c=>match body c h with
  | .next a b=>Gq bnd body ds a b
  | .cont a b=>Gq bnd body ds a b
  | .brk a b=> .next a b
  | o=>o:=rfl
@[simp] theorem ZI (bnd) (body) (τ) (h):Gq bnd body [] τ h= .next τ h:=rfl
def jb (b:bnd d τ=k0 τ1) (a:body τ1 h= .next τ2 h2):Gq bnd body (d::ds) τ h=Gq bnd body ds τ2 h2:=by
 rw [FI,b];simp [a]
@[simp] theorem GA (i) (d) (τ):Gp [i] u0 d τ=k0 (GC τ i (.v d)):=rfl
@[simp] theorem Kc (tg) (ds) (τ):Gp tg k9 (.tup ds) τ=aY tg ds τ:=rfl
def zd (a b:Nat):G9 (a:Int) (b:Int)=k0 ((a &&& b:Nat):Int):=by simp [G9]
def Zl (a b:Nat):i6 (a:Int) (b:Int)=k0 ((a ||| b:Nat):Int):=by simp [i6]
@[simp] theorem AE (i j):Gi .mod i j=if 0<j then k0 (i % j)else none:=rfl
@[simp] theorem Bp (i j):Gi .fdiv i j=if 0<j/\j<kz then k0 (i / j)else none:=rfl
@[simp] theorem jc (i j):Gi .band i j=G9 i j:=rfl
@[simp] theorem Zm (i j):Gi .bor i j=i6 i j:=rfl
def Qc (a b:Nat) (h:a<2 ^ 64):Gi .mul (a:Int) (b:Int)=k0 ((a*b:Nat):Int):=by
 have c:(-dU< a/\ a<dU)\/(-dU< b/\ b<dU):=by rw [GY];omega
 show(if _ then _ else _)=_
 rw [if_pos c,Int.natCast_mul]
def ZU (k:Nat) (h:k<=1000000):Gi .shl 1 (k:Int)=k0 ((2 ^ k:Nat):Int):=by
 have a: 0<=(k:Int)/\ k<=BP/\(1:Int).natAbs<zev:=by rw [Kb,GD];exact⟨by lia,by lia,by decide⟩
 show(if _ then _ else _)=_
 rw [if_pos a,Int.one_mul,Ad4]
 simp
def Jk (t k:Nat):Gi .shr (t:Int) (k:Int)=k0 ((t / 2 ^ k:Nat):Int):=by
 simp [Gi,Int.natCast_pow]
def ZQ (t k):(t / 2 ^ k &&& 1)=(t.testBit k).toNat:=by
 have:=Af4 (t / 2 ^ k) 1
 rw [this]
 exact Wf.gO t k
def pD (p:Nat×Nat):D:= .tup [.int (p.1:Nat),.int (p.2:Nat)]
def Ck (n t:Nat) (m):(((Aa5 m).map λi=>D.n i).filterMap λd=>match d with
 | .int i=>if t.testBit i.toNat then k0 (.tup [.int (i / (n:Int)),.int (i % (n:Int))])else y0
 | _=>y0)=(((Aa5 m).filter t.testBit).map λk=>(k / n,k % n)).map pD:=by
 induction Aa5 m with
 | nil=>rfl
 | cons x c a=>
  by_cases b:t.testBit x=u0
  ·simp [b,pD,a]
  ·simp [b,a]
def iC (m)(b:d∈(Aa5 m).map λi=>D.n i): ∃i:Nat,i<m/\d= .n i:=by
 obtain⟨i,a,rfl⟩:=Ab6.mp b
 exact⟨i,Ab8.mp a,rfl⟩
def Qh (a:n<=20):n*n<=400:=Ab5 (Af1 a a) (by decide)
def uI (a:n<=20):n*n<=bh:=Ab5 (Qh a) (by rw [Gg];decide)
def Jt (e:eval F a τ h= .ok (.i m) h) (c:m<=1000000):Gk F (.av a) τ h= .ok ((Aa5 m).map λi=> .n i) h:=by
 have b: -fH<= m/\ m<fH:=by rw [GQ];lia
 rw [Gk,e,R.ae,int?_int,R.ak,R.ae,if_pos b,Ad4]
def EL (b:n<=20) (e:Gj τ i=si n/\Gj τ j=si n):Gk F (.av (.bin .mul (.var i) (.var j))) τ h= .ok ((Aa5 (n*n)).map λi=> .n i) h:=by
 have c:=Qh b
 refine Jt ?_ (by lia)
 have a:=Qc n n (by lia)
 simp [e.1,e.2,a]
def jt (k n t) (h) (e:n<=20):call prog (k+1) "pairs_of" [.i n,.i t] h= .ok (.own ((Wf.ax n t).map pD)) h:=by
 rw [Gb rfl _ _ _ rfl]
 simp only [ZM,execs,exec,ZE,GJ]
 rw [yf (λd=>match d with
  | .int i=>if t.testBit i.toNat then k0 (.tup [.int _,.int (i % n)])else y0
  | _=>y0) (EL e (by simp [Gj])) (by simpa using uI e)]
 ·rw [Ck]
  simp [Wf.ax]
 ·intro d g
  obtain⟨i,j,rfl⟩:=iC _ g
  have a:0<n:=by cases n with
   | zero=>simp at j
   | succ m=>lia
  have b:0< n/\ n<kz:=by rw [GO];lia
  have f:G9 ((t / 2 ^ i:Nat)) 1=k0 (((t.testBit i).toNat:Nat):Int):=by
   rw [show 1=((1:Nat):Int)from rfl,zd,ZQ]
  refine⟨_,t.testBit i,rfl,?_,?_⟩
  ·unfold Gm
   simp only [eval,Gj,Ae4,List.replicate_zero,Ab1,Al2,Ae2,GC,Gn,R.ae,GH,Jk,jc,f,R.ak,sP]
   cases t.testBit i<;>rfl
  ·by_cases c:t.testBit i=u0
   ·simp [c,Gj,b,a]
   ·simp [c]
end M
local macro_rules | `(tactic| simp_all [$xs,*]) => `(tactic| simp only [M.exec, M.execs, M.Gm, M.eval, M.Gd, M.Gw, M.Gk, M.Gs, M.GJ, M.Gj, M.Gn, M.GC, M.aY, M.R.ae, M.R.au, M.R.ak, M.O.bM, M.O.cE, M.W.lP, M.W.fk, M.W.bV, M.W.eG, M.W.gx, Ab1, Ae9, Al2, Ae2, Nat.reduceSub, Ae4, List.replicate_zero, M.GS, Ao3, An9, M.GH, Ag0, M.Ks, M.Ko, M.Ku, M.Ka, M.Kr, M.Kp, M.int?_int, M.Ga, M.Gu, M.GB, M.GA, M.Kc, $xs,*])
namespace M
def LK (i:n<=20)(f:a<n) (e:b<n) (h):
 execs F Zi [si n,k0 l,si t,si a,si b] h=
  .next [si n,k0 l,si (t ||| 2 ^ (a*n+b)),si a,si b] h:=by
 have d:=Qc a n (by lia)
 have c:Gi .shl 1 _=k0 ((2 ^ (a*n+b):Nat):Int):=ZU _ (by
  have:=Wf.place_lt f e
  have:=Qh i
  lia)
 have g:=Zl t (2 ^ (a*n+b))
 rw [Int.natCast_add]at c
 simp only [Zi,execs,exec,eval,Gj,Gn,R.ae,R.ak,R.au,O.bM,GH,d,Xc,c,Zm,g,W.lP,GC]
theorem sY (c:n<=20)(h): ∀ ps t r x y,Wf.gk n ps-> ∃i j,
 Gq (Gp [3,4] k9) (λτ h=>execs F Zi τ h) (ps.map pD++r) [si n,k0 l,si t,x,y] h=
  Gq (Gp [3,4] k9) (λτ h=>execs F Zi τ h) r [si n,k0 l,sv (.int ((ps.foldl (λt p=>t ||| 2 ^ (p.1*n+p.2)) t:Nat):Int)),i,j] h
 | [],t,r,x,y,_=>⟨x,y,rfl⟩
 | p::ps,t,r,x,y,b=>by
  have a:=b p Aa4
  obtain⟨i,j,e⟩:=sY c h ps (t ||| 2 ^ (p.1*n+p.2)) r (sv (.int p.1)) (sv (.int p.2)) λq d=>b q (Aa2 _ d)
  refine⟨i,j,?_⟩
  rw [Ab1,Al2,jb rfl (LK c a.1 a.2 h),e]
  rfl
def Dn (k n) (ps) (l) (b:iW l=k0 (ps.map pD)) (h) (c:n<=20) (a:Wf.gk n ps):call prog (k+1) "gathered" [.i n,l] h= .ok (.i (Wf.cO n ps)) h:=by
 rw [Gb rfl _ _ _ rfl]
 obtain⟨f,d,e⟩:=sY c h ps 0 [] y0 y0 a
 rw [Af0,ZI]at e
 simp [ZO,b,R.ak]
 rw [show (0)=((0:Nat):Int)from rfl,e]
 simp [Wf.cO]
def QK (k n) (ps) (h) (a:n<=20) (b:Wf.gk n ps):call prog (k+3) "gathered" [.i n,.bor (ps.map pD)] h= .ok (.i (Wf.cO n ps)) h:=Dn _ n ps _ rfl h a b
def QP (k s t) (h):call prog (k+1) "either" [.i s,.i t] h= .ok (.i (s ||| t)) h:=by
 rw [Gb rfl _ _ _ rfl]
 simp_all [yn,Zm,Zl]
def DZ (k s t) (h):call prog (k+1) "common" [.i s,.i t] h= .ok (.i (s &&& t)) h:=by
 rw [Gb rfl _ _ _ rfl]
 simp_all [yc,jc,zd]
def jI (s t:Nat):G9 (s:Int) (-(t:Int)-1)=k0 ((s-(s &&& t):Nat):Int):=by
 have b: ¬(0<= -(t:Int)-1):=by lia
 have c: 0<=(s:Int):=by lia
 have a:(-(-(t:Int)-1)-1).toNat=t:=by lia
 rw [G9,if_pos c,if_neg b,a,Ad4]
def Zx (k s t) (h):call prog (k+1) "without" [.i s,.i t] h= .ok (.i (s-(s &&& t))) h:=by
 rw [Gb rfl _ _ _ rfl]
 simp_all [jX,jc,jI]
def FG (q:eval F e τ h= .ok (.own xs) h):Gk F (.seq e) τ h= .ok xs h:=by
 rw [Gk,q];rfl
def FQ (q:eval F e τ h= .ok (.t xs) h):Gk F (.seq e) τ h= .ok xs h:=by
 rw [Gk,q];rfl
def ZJ (n t) (a:n<=20):((Wf.ax n t).map pD).length<=bh:=by
 refine Ab5 ?_ (uI a)
 simp only [Wf.ax,Aa]
 exact Ab5 (Aj0 _ _) (by simp)
def LY (k n t) (h) (a:n<=20):call prog (k+4) "turned" [.i n,.i t] h= .ok (.i (Wf.bE n t)) h:=by
 rw [Gb rfl _ _ _ rfl]
 have b: ∀h,eval (u9 (k+3)) QA [si n,si t] h= .ok (.own ((Wf.kL (Wf.ax n t)).map pD)) h:=by
  intro h
  rw [QA,ql (λd=>match d with | .tup [x,y]=> .tup [y,x] | d=>d) (FG ?_) (ZJ n t a)]
  ·simp [Wf.kL,pD,Function.comp_def]
  ·intro d c
   obtain⟨p,e,rfl⟩:=Ab6.mp c
   exact⟨_,rfl,_,rfl,rfl⟩
  ·simp_all [jt _ n t h a]
 simp_all [r3,b,QK k n _ h a (Wf.eC (Wf.bR n t))]
 rfl
def Cr (k n) (h) (c:n<=20):call prog (k+4) "same" [.i n] h= .ok (.i (Wf.bA n)) h:=by
 rw [Gb rfl _ _ _ rfl]
 have b: ∀h,eval (u9 (k+3)) xQ [si n] h= .ok (.own (((Aa5 n).map λa=>(a,a)).map pD)) h:=by
  intro h
  rw [xQ,ql (λd=> .tup [d,d]) (Jt (m:=n) (by simp_all []) (by lia)) (by simp;rw [Gg];lia)]
  ·simp [pD,Function.comp_def]
  ·intro d e
   exact⟨_,rfl,_,rfl,rfl⟩
 simp_all [vY,b,QK k n _ h c (Wf.dG n)]
 rfl
def tY (k n) (h) (b:n<=20):call prog (k+1) "every" [.i n] h= .ok (.i (2 ^ (n*n)-1)) h:=by
 rw [Gb rfl _ _ _ rfl]
 have a:=Qc n n (by lia)
 have d:=ZU (n*n) (by have:=Qh b;lia)
 have c:((2 ^ (n*n):Nat))-1=((2 ^ (n*n)-1:Nat):Int):=by
  have:=Ac9 (n*n)
  omega
 simp_all [rN,a,d,Ze,c]
def WQ (x k:Nat) (a:x<2 ^ 64) (h:k<=1000000):Gi .shl (x:Int) (k:Int)=k0 ((x*2 ^ k:Nat):Int):=by
 have b: 0<=(k:Int)/\ k<=BP/\(x:Int).natAbs<zev:=by rw [Kb,GD];exact⟨by lia,by lia,by simpa using a⟩
 show(if _ then _ else _)=_
 rw [if_pos b,Ad4,Int.natCast_mul,Int.natCast_pow]
 rfl
def Bx (d:n<=20) (g:a<n) (k:b<n)(h):
 execs F Xt [si n,si o,si p,si (2 ^ n-1),si t,si a,si b,x7] h=
  .next [si n,si o,si p,si (2 ^ n-1),si (t ||| Wf.cg n p b*2 ^ (a*n)),si a,si b,si (Wf.cg n p b)] h:=by
 have e:=Qc a n (by lia)
 have c:=Qc b n (by lia)
 have f:(p / 2 ^ (b*n) &&& (2 ^ n-1))=Wf.cg n p b:=by rw [Af4];rfl
 have i:=Ab5 (Af1 (Ag3 g) (Aa9 n)) (Qh d)
 have j:=WQ _ (a*n) (Ab4 (Wf.cY n p b) (Ab5 (Ad (by decide) d) (by decide))) (by lia)
 simp_all [Xt,e,c,Jk,jc,zd,f,j,Zm,Zl]
theorem ux (c:n<=20) (h): ∀ ps t x y z,Wf.gk n ps-> ∃i j L,
 Gq (Gp [5,6] k9) (λτ h=>execs F Xt τ h) (ps.map pD) [si n,si o,si p,si (2 ^ n-1),si t,x,y,z] h=
  .next [si n,si o,si p,si (2 ^ n-1),sv (.int ((ps.foldl (λt q=>t ||| Wf.cg n p q.2*2 ^ (q.1*n)) t:Nat):Int)),i,j,L] h
 | [],t,x,y,z,_=>⟨x,y,z,rfl⟩
 | q::ps,t,x,y,z,b=>by
  have a:=b q Aa4
  obtain⟨i,j,L,e⟩:=ux c h ps (t ||| Wf.cg n p q.2*2 ^ (q.1*n)) (sv (.int q.1)) (sv (.int q.2)) (si (Wf.cg n p q.2)) λq d=>b q (Aa2 _ d)
  refine⟨i,j,L,?_⟩
  rw [Ab1,jb rfl (Bx c a.1 a.2 h),e]
  rfl
def ZT (k n o p) (h) (a:n<=20):call prog (k+2) "joined" [.i n,.i o,.i p] h= .ok (.i (Wf.joinM n o p)) h:=by
 rw [Gb rfl _ _ _ rfl]
 have c:=ZU n (by lia)
 have b:((2 ^ n:Nat))-1=((2 ^ n-1:Nat):Int):=by
  have:=Ac9 n
  lia
 obtain⟨g,d,f,e⟩:=ux a h _ 0 y0 y0 y0 (Wf.bR n o)
 simp_all [ye,c,Ze,b,jt k n o h a]
 rw [show (0)=((0:Nat):Int)from rfl,e]
 simp_all []
 rfl
theorem ZW (g:n<=20) (h): ∀ f r,2 ^ (n*n)-r<f->Wf.fW n t r-> ∃r',Wf.eR n t r' ∧
 GG (λτ h=>Gm (u9 (k+2)) xt τ h) (λτ h=>execs (u9 (k+2)) Zt τ h) f [si n,si t,si r,si (r ||| Wf.joinM n r r)] h=
  .next [si n,si t,si r',si r'] h
 | 0,r,d,_=>absurd d (Ag5 _)
 | f+1,r,d,c=>by
  have o: ∀ a b,Gm (u9 (k+2)) xt [si n,si t,si a,si b] h= .ok (!y9 (b=a)) h:=by
   intro a b
   simp [Gm,xt,Gj,GZ]
   by_cases q:b=a
   ·simp [q]
   ·have: ¬(b=(a:Int)):=by omega
    simp [q,this]
  rw [GG,o,R.au]
  by_cases e:r ||| Wf.joinM n r r=r
  ·refine⟨r,c.done e,?_⟩
   simp only [e,decide_true,Ao3]
  ·have p:=c.grow e
   have i:=c.next.lt
   obtain⟨r',j,l⟩:=ZW g h f (r ||| Wf.joinM n r r) (by omega) c.next
   refine⟨r',j,?_⟩
   simp only [e,decide_false,An9]
   have m:execs (u9 (k+2)) Zt [si n,si t,si r,si (r ||| Wf.joinM n r r)] h=
    .next [si n,si t,si (r ||| Wf.joinM n r r),si ((r ||| Wf.joinM n r r) ||| Wf.joinM n (r ||| Wf.joinM n r r) (r ||| Wf.joinM n r r))] h:=by
    simp_all [Zt,ZT k n _ _ h g,QP (k+1) _ _ h]
   simp only [m]
   exact l
def yx (k n t) (h) (a:n<=4) (d:t<2 ^ (n*n)): ∃r,Wf.eR n t r/\call prog (k+3) "closed" [.i n,.i t] h= .ok (.i r) h:=by
 rw [Gb rfl _ _ _ rfl]
 have e:2 ^ (n*n)-t<100000:=by
  have:n*n<=16:=Af1 a a
  have:2 ^ _<=2 ^ 16:=Ad (by decide) this
  lia
 obtain⟨r,c,b⟩:=ZW (by lia) h 100000 t e (Wf.fW.start d)
 refine⟨r,c,?_⟩
 simp [Gm]at b
 simp_all [sy,ZT k n _ _ h (by lia),QP _ _ _ h]
 rw [b]
 simp_all []
def za (e:exec F s τ h= .next τ1 h1):execs F (.cons s ss) τ h=execs F ss τ1 h1:=by rw [execs,e,O.bM]
def fx (e:exec F s τ h= .next τ1 h1) (g:Gv n (execs F ss τ1 h1)=r):Gv n (execs F (.cons s ss) τ h)=r:=by rw [za e];exact g
def qa (e:exec F s τ h= .ret w h1):execs F (.cons s ss) τ h= .ret w h1:=by rw [execs,e,O.cE]
def Wt (e:Gm F c τ h= .ok u0 h1):exec F (.iff c a b) τ h=execs F a τ h1:=by rw [exec,e,R.au]
def n0 (e:Gm F c τ h= .ok k9 h1):exec F (.iff c a b) τ h=execs F b τ h1:=by rw [exec,e,R.au]
def wA (a:GJ e=y0) (q:eval F e τ h= .ok (.own xs) h1):exec F (.ret e) τ h= .ret (.own xs) h1:=by
 rw [exec,a];simp [q,R.au]
def Xa (a:GJ e=y0) (q:eval F e τ h= .ok (.v d) h1):exec F (.ret e) τ h= .ret (.v d) h1:=by
 rw [exec,a];simp [q,R.au]
def Xu (e:h[r]? =k0 (.lst xs)) (i):dN (.r r) (.v (.int i)) h=aV xs i:=by
 simp [dN,W.bG,W.seq?,e]
def mf (x y z:D):aV [x,y,z] 0=k0 x:=rfl
def XW (x y z:D):aV [x,y,z] 1=k0 y:=rfl
def kr (x y z:D):aV [x,y,z] 2=k0 z:=rfl
def F4:dy 3 2=k0 2:=rfl
def zA (c:eval F e τ h= .ok (.v d) h) (a:Gj τ i=k0 (.r r)) (b:h[r]? =k0 (.lst xs)) (k:dy xs.length j=k0 n) (f:GN d=u0) (g:h2=h.set r (.lst (xs.set n d))):
 exec F (.bT (.var i) (.int j) e) τ h= .next τ h2:=by
 subst g
 simp only [exec,c,R.au,eval,a,Kt,b,k,f,if_true]
def j8 (a b) (h: -(2:Int) ^ 64<b/\b<2 ^ 64):Gi .mul a b=k0 (a*b):=by
 have c:(-dU<a/\a<dU)\/(-dU<b/\b<dU):=by rw [GY];exact .inr h
 show(if _ then _ else _)=_
 rw [if_pos c]
def K1 (a b) (h: -(2:Int) ^ 64<a/\a<2 ^ 64):Gi .mul a b=k0 (a*b):=by
 have c:(-dU<a/\a<dU)\/(-dU<b/\b<dU):=by rw [GY];exact .inl h
 show(if _ then _ else _)=_
 rw [if_pos c]
def XJ (a b) (h:0<b):Gi .mod a b=k0 (a % b):=by
 rw [AE,if_pos h]
def tW (a b) (h:0<b) (c:b<1073741824):Gi .fdiv a b=k0 (a / b):=by
 rw [Bp,if_pos ⟨h,by rw [GO];exact c⟩]
def L6 (i j) (h):Gr .eq (.v (.int i)) (.v (.int j)) h=k0 (y9 (i=j)):=by
 rfl
theorem QV: ∀xs:List Int,Ki (xs.map .int)=k0 xs.sum
 | []=>rfl
 | x::xs=>by simp [Ki,QV xs]
def y4 (f:α->β) (xs) (lo hi):cut (xs.map f) lo hi=(cut xs lo hi).map f:=by
 simp [cut,List.map_take]
def D2 (xs:List α) (lo hi):(cut xs lo hi).length<=xs.length:=by
 simp [cut,Af7]
 lia
abbrev kP:Tx:= rZ
noncomputable def B3:List Tx:= [gf,g0,fh,gJ,[101,97,99,104],fU,i5,gP,iM,hM,iy,iL,[107,105,110,100],[116,105,101],[115,97,121]]
structure DK (t:Tx):Prop where
 lo:1<=t.length
 hi:t.length<=8
 Fl: ∀c∈t,97<=c/\c<=122
 free:t∉B3
def AV (i:Nat) (h:i<26):aV kP (i:Int)=k0 (97+i):=by
 have: ∀i:Nat,i<26->aV kP i=k0 (97+i):=by decide
 exact this i h
def mX (xs:List α) (n:Nat):cut xs y0 (k0 (n:Int))=xs.take n:=by
 have a: ¬((n:Int)<0):=by lia
 simp only [cut,aX,a,if_false,Ad4,List.drop_zero,Nat.sub_zero]
 by_cases q:n<=xs.length
 ·rw [Ak4 q]
 ·rw [Nat.min_eq_right (by lia),Ai7 (Aa9 _),Ai7 (by lia)]
def XV (xs:List α) (n:Nat):cut xs (k0 (n:Int)) y0=xs.drop n:=by
 have a: ¬((n:Int)<0):=by lia
 simp [cut,aX,a,Ad4]
 by_cases q:n<=xs.length
 ·rw [Ak4 q,Ai7 (by simp)]
 ·rw [Nat.min_eq_right (by lia),List.drop_of_length_le (Aa9 _),List.drop_of_length_le (by lia),List.take_nil]
def oH (s) (lo hi) (h) (a:s.length<=bh):fX (.s s) lo hi h= .ok (.s (cut s lo hi)) h:=by
 show(if s.length<=bh then _ else _)=_
 rw [if_pos a]
def mul_str (s) (n) (h) (b:n<=1000) (a:s.length*n<=1000000):GW .mul (.s s) (.i n) h= .ok (.v (.str (Aa3 n s).flatten)) h:=by
 show(if 0<=(n:Int)/\(n:Int)<=1000/\s.length*(n:Int).toNat<=bh then _ else _)=_
 rw [if_pos ⟨by lia,by lia,by rw [Gg,Ad4];exact a⟩,Ad4]
def add_str (s u) (h) (a:s.length+u.length<=1000000):GW .add (.s s) (.s u) h= .ok (.s (s++u)) h:=by
 rw [L4,if_pos (by rw [Gg];exact a)]
def xA (i) (a:i<26) (h):dN (.s kP) (.i i) h=k0 (.str [97+i]):=by
 rw [oz,if_pos (by rw [Gg];decide),AV i a]
 rfl
def p7 (f:Nat->α) (m) (h:m<=8) (g: ∀i,i<8-> ∀j,j<8->i≠j->f i≠f j):((Aa5 m).map f).Nodup:=by
 rw [List.Nodup,List.pairwise_map]
 refine Ao2.imp_of_mem ?_ (List.nodup_range)
 intro a b e d c
 exact g a (by have:=Ab8.mp e;lia) b (by have:=Ab8.mp d;lia) c
def kQ (a b:Nat) (c:0<b):Gi .mod (a:Int) (b:Int)=k0 ((a % b:Nat):Int):=by
 rw [XJ _ _ (by lia)];rfl
def Aq (a b:Nat) (d:0<b) (c:b<1073741824):Gi .fdiv (a:Int) (b:Int)=k0 ((a / b:Nat):Int):=by
 rw [tW _ _ (by lia) (by lia)];rfl
def C7 (a b:Nat):Gi .add (a:Int) (b:Int)=k0 ((a+b:Nat):Int):=rfl
def Qg (xs:List α) (i) (h:i<xs.length):aV xs (i:Int)=xs[i]? :=by
 have:(i)< xs.length:=by omega
 simp [aV,dy,this]
def Jn (i j) (h):Gr .eq (.i i) (.i j) h=k0 (y9 (i=j)):=by
 rw [L6]
 congr 1
 exact decide_eq_decide.mpr (by lia)
theorem zD: ∀i:List Tx,GR (i.map .str)=k0 i
 | []=>rfl
 | t::i=>by simp [GR,zD i]
theorem yg (s): ∀i:List Tx,inD (.str s) (i.map .str)=y9 (s∈i)
 | []=>rfl
 | t::i=>by
  have a:=yg s i
  simp only [inD]at a
  by_cases q:t=s
  ·subst q
   simp [inD]
  ·have b: ¬s=t:=λe=>q e.symm
   simp only [inD,Ab1,Af2,a,Ac,b,false_or]
   simp [q]
def ID (a:List Tx):(a.map D.str).all GN=true:=by simp
def qy (s) (a:List Tx) (w) (h) (c:w.seq? h=k0 (a.map .str)) (b:w.bG =y0):Kh (.s s) w h=k0 (y9 (s∈a)):=by
 unfold Kh
 rw [b]
 simp only [W.bG,W.lP,c,ID,Ae1,if_true,yg]
structure Nm (ts:List Tx):Prop where
 nd:ts.Nodup
 good: ∀t∈ts,DK t
def we (x) (r:List α):aV (x::r) 0=k0 x:=by
 have: 0< (x::r).length:=by simp
 simp [aV,dy,this]
def Cw (xs) (n) (h) (b:n<=1000) (a:xs.length*n<=1000000):GW .mul (.own xs) (.i n) h= .ok (.own (Aa3 n xs).flatten) h:=by
 show Kv xs n h=_
 rw [Kv,if_pos ⟨by lia,by lia,by rw [Ad4,Gg];exact a⟩,Ad4]
def mV (a:Gf d=u0) (c:n<=h.length) (b:Gx (h.take n)=u0): ∃h',Gv n (.ret (.v d) h)= .ok (.v d) h'/\h'=h.take n:=by
 by_cases q:h.length=n
 ·exact⟨h,by simp [Gv,fin,q],by rw [← q,Ap0]⟩
 ·exact⟨h.take n,by simp [Gv,fin,q,W.keep,a,b],rfl⟩
theorem Qo: ∀i:List Tx,Gc (i.map .str)=u0
 | []=>rfl
 | t::i=>by simp [Qo i]
def Ft (b:Gd F es τ h= .ok ws h) (a:F.call f (ws.map W.arg) h= .ok (.own xs) h) (c:Gc xs=u0):eval F (.share (.call f es)) τ h= .ok (.r h.length) (h++ [.lst xs]):=by
 simp only [eval,b,R.ae,a,c,if_true]
theorem Qq (x): ∀ys:List Tx,(Kf x ys).Perm (x::ys)
 | []=> .refl _
 | y::ys=>by
  unfold Kf
  by_cases q:y<x
  ·rw [if_pos q]
   exact((Qq x ys).cons y).trans (.swap x y ys)
  ·rw [if_neg q]
theorem qk: ∀xs:List Tx,(Gz xs).Perm xs
 | []=> .refl _
 | x::xs=>(Qq x (Gz xs)).trans ((qk xs).cons x)
abbrev hA (a:List Tx):D:= .tup (a.map .str)
abbrev wD (K T:List Tx):D:= .tup [hA K,hA T]
def wM (ts) (h) (a:ts.length<64):dk .sorted [.own (ts.map .str)] h= .ok (.own ((Gz ts).map .str)) h:=by
 show(R.of h ((k0 _).bind GR)).bind _=_
 rw [Ag0,zD,R.ak,R.ae,if_pos a]
abbrev ar (l:List Nat):List D:=l.map λ(x:Nat)=> .n x
abbrev iG (n:Nat) (a b:List Nat):D:= .tup [.n n,.tup (ar a),.tup (ar b)]
structure Bv (n K T:Nat) (ks ts:List Nat):Prop where
 n4:n<=4
 lk:ks.length=K
 lt:ts.length=T
 bk: ∀x∈ks,x<2 ^ n
 bt: ∀x∈ts,x<2 ^ (n*n)
inductive Ex where
 | name (t:Tx)
 | same
 | all
 | none
 | turned (a:Ex)
 | closed (a:Ex)
 | plus (a b:Ex)
 | less (a b:Ex)
 | both (a b:Ex)
 | joined (a b:Ex)
abbrev Zg:Tx:= [110,97,109,101]
abbrev xg:Tx:= [115,97,109,101]
abbrev wn:Tx:= [97,108,108]
abbrev Xg:Tx:= [110,111,110,101]
abbrev jF:Tx:= [112,108,117,115]
abbrev qp:Tx:= [108,101,115,115]
abbrev jz:Tx:= [98,111,116,104]
abbrev xf:Tx:= [106,111,105,110,101,100]
abbrev Xh:Tx:= [116,117,114,110,101,100]
abbrev Wh:Tx:= [99,108,111,115,101,100]
noncomputable def aT:Ex->D
 | .name t=> .tup [.str Zg,.str t]
 | .same=> .tup [.str xg]
 | .all=> .tup [.str wn]
 | .none=> .tup [.str Xg]
 | .turned a=> .tup [.str Xh,aT a]
 | .closed a=> .tup [.str Wh,aT a]
 | .plus a b=> .tup [.str jF,aT a,aT b]
 | .less a b=> .tup [.str qp,aT a,aT b]
 | .both a b=> .tup [.str jz,aT a,aT b]
 | .joined a b=> .tup [.str xf,aT a,aT b]
def Ex.wf (N:List Tx):Ex->Prop
 | .name t=>t∈N
 | .turned a=>a.wf N
 | .closed a=>a.wf N
 | .plus a b=>a.wf N/\b.wf N
 | .less a b=>a.wf N/\b.wf N
 | .both a b=>a.wf N/\b.wf N
 | .joined a b=>a.wf N/\b.wf N
 | _=>True
noncomputable def Ex.dp:Ex->Nat
 | .turned a=>a.dp+1
 | .closed a=>a.dp+1
 | .plus a b=>max a.dp b.dp+1
 | .less a b=>max a.dp b.dp+1
 | .both a b=>max a.dp b.dp+1
 | .joined a b=>max a.dp b.dp+1
 | _=>0
end M
namespace Wf
def wr (g:Nat->Nat->Bool):Nat->Nat->Nat->Bool
 | 0,a,b=>g a b
 | k+1,a,b=>wr g k a b||(wr g k a k&&wr g k k b)
theorem Z8 : ∀k,g a b=u0->wr g k a b=u0
 | 0,h=>h
 | k+1,h=>by rw [wr,Z8 k h,Am]
theorem vP : ∀ k m,m<k-> ∀a b,wr g k a m=u0->wr g k m b=u0->wr g k a b=u0
 | 0,m,f=>absurd f (Ag5 _)
 | k+1,m,f=>λa b c d=>by
  rw [wr,Ae5,Aa0]at c d
  rw [wr,Ae5,Aa0]
  by_cases q:m=k
  ·subst q
   have c:=c.elim id And.left
   have d:=d.elim id And.right
   exact .inr ⟨c,d⟩
  ·have h:m<k:=by omega
   have e:=vP (g:=g) k m h
   rcases c with c | c<;>rcases d with d | d
   ·exact .inl (e a b c d)
   ·exact .inr ⟨e a k c d.1,d.2⟩
   ·exact .inr ⟨c.1,e k b c.2 d⟩
   ·exact .inr ⟨c.1,d.2⟩
theorem QG (e: ∀a b,a<n->b<n->(g a b=u0↔t.testBit (a*n+b)=u0)): ∀k,k<=n-> ∀a b,a<n->b<n->wr g k a b=u0->TC n t a b
 | 0,_,a,b,c,d,h=> .step c d ((e a b c d).mp h)
 | k+1,f,a,b,c,d,h=>by
  rw [wr,Ae5,Aa0]at h
  rcases h with h | h
  ·exact QG e k (by omega) a b c d h
  ·exact(QG e k (by omega) a k c (by omega) h.1).trans (QG e k (by omega) k b (by omega) d h.2)
def Hk (f: ∀a b,a<n->b<n->(g a b=u0↔t.testBit (a*n+b)=u0))(h:TC n t a b):wr g n a b=true:=by
 induction h with
 | step c e d=>exact Z8 n ((f _ _ c e).mpr d)
 | more j c e d i=>exact vP n _ c _ _ i (Z8 n ((f _ _ c e).mpr d))
def iz (c: ∀a b,a<n->b<n->(g a b=u0↔t.testBit (a*n+b)=u0))(e:a<n) (d:b<n):wr g n a b=u0↔TC n t a b:=⟨QG c n (Aa9 n) a b e d,Hk c⟩
end Wf
namespace M
def cX (t:Tx) (a:List Tx):Nat:=(Kj t a).getD 0
theorem xm : ∀ {i},t∈i->Kj t i=k0 (cX t i)/\cX t i<i.length
 | y::a,h=>by
  unfold cX
  by_cases q:y=t
  ·simp [Kj,q]
  ·have b:t∈a:=by
    rcases Ac.mp h with e | e
    ·exact absurd e.symm q
    ·exact e
   obtain⟨e,l⟩:=xm b
   simp only [Kj,q,if_false,e,Option.map_some,Ak9,Aa6]at l ⊢
   exact⟨trivial,by omega⟩
structure Wo where
 n:Nat
 K:List Tx
 T:List Tx
 ks:List Nat
 ts:List Nat
structure Wo.Ok (w:Wo):Prop where
 hK:w.K.length<=4
 hT:w.T.length<=4
 nd:(w.K++w.T).Nodup
 wl:Bv w.n w.K.length w.T.length w.ks w.ts
def Wo.at (w:Wo) (t:Tx) (a b:Nat):Prop:=if t∈w.T then(w.ts.getD (cX t w.T) 0).testBit (a*w.n+b)=u0 else a=b/\(w.ks.getD (cX t w.K) 0).testBit a=u0
def fc (w:Wo):Ex->Nat->Nat->Prop
 | .name t,a,b=>w.at t a b
 | .same,a,b=>a=b
 | .all,_,_=>True
 | .none,_,_=>False
 | .turned e,a,b=>fc w e b a
 | .closed e,a,b=> ∃t,t<2 ^ (w.n*w.n)/\(∀ x y,x<w.n->y<w.n->(t.testBit (x*w.n+y)=u0↔fc w e x y))/\Wf.TC w.n t a b
 | .plus e f,a,b=>fc w e a b\/fc w f a b
 | .less e f,a,b=>fc w e a b/\ ¬fc w f a b
 | .both e f,a,b=>fc w e a b/\fc w f a b
 | .joined e f,a,b=> ∃c,c<w.n/\fc w e a c/\fc w f c b
def Is (w:Wo) (e:Ex) (v:Nat):Prop:=v<2 ^ (w.n*w.n)/\ ∀a b,a<w.n->b<w.n->(v.testBit (a*w.n+b)=u0↔fc w e a b)
def oY (a:s<2 ^ n) (b:t<2 ^ n):s ||| t<2 ^ n:=Ak7 a b
def Wo.words (w:Wo):D:=wD w.K w.T
def Wo.aD (w:Wo):D:=iG w.n w.ks w.ts
def mF (l) (i:Nat) (h:i<l.length):aV (ar l) (i:Int)=k0 (.n (l.getD i 0)):=by
 rw [Qg _ _ (by simp_all),Ac2,Aa7 h,Ac6,Aa7 h]
 rfl
def QY (ts) (t) (h) (a:t∈ts) (b:ts.length<=1000):me .index (.v (hA ts)) [.s t] h= .ok (.i (cX t ts)) h:=by
 show(R.of h ((k0 _).bind GR)).bind _=_
 rw [Ag0,zD,R.ak,R.ae]
 show(R.of h (k0 t)).bind _=_
 rw [R.ak,R.ae,(xm a).1,R.ak,R.ae,if_pos (by rw [Gg];lia)]
def yu (x y z:D):aV [x,y,z] 0=k0 x:=rfl
def zf (x y:D):aV [x,y] 0=k0 x:=rfl
def We (x y:D):aV [x,y] 1=k0 y:=rfl
def E3 (x:D):aV [x] 0=k0 x:=rfl
def Z6 (n x:Nat):List (Nat×Nat):=((Aa5 n).filter x.testBit).map λa=>(a,a)
def wS (n x):Wf.gk n (Z6 n x):=λp c=>by
 obtain⟨a,b,rfl⟩:=Ab6.mp c
 have:=Ab8.mp (Ai9.mp b).1
 exact⟨this,this⟩
def tX (h:a<n) (f:b<n):(Wf.cO n (Z6 n x)).testBit (a*n+b)=u0↔a=b/\x.testBit a=true:=by
 rw [Wf.cI,Ad1]
 refine⟨λ⟨p,i,e⟩=> ?_,λ⟨e,j⟩=> ?_⟩
 ·obtain⟨c,d,rfl⟩:=Ab6.mp i
  have g:=Ai9.mp d
  have d:=Ab8.mp g.1
  have e:=of_decide_eq_true e
  have e1:=congrArg (· / n) e
  have e2:=congrArg (· % n) e
  simp [Wf.aF d,Wf.aF f,Wf.aJ d,Wf.aJ f]at e1 e2
  subst e1
  exact⟨e2,g.2⟩
 ·subst e
  exact⟨_,Ab6.mpr ⟨a,Ai9.mpr ⟨Ab8.mpr h,j⟩,rfl⟩,decide_eq_true rfl⟩
def DH (n x) (l:n<=4) (h):eval F wh [a,b,c,si n,si x] h= .ok (.own ((Z6 n x).map pD)) h:=by
 rw [wh,yf (λd=>match d with
  | .int i=>if x.testBit i.toNat then k0 (.tup [.int i,.int i])else y0
  | _=>y0) (Jt (m:=n) (by simp_all []) (by lia)) (by simp;rw [Gg];lia)]
 ·congr 2
  rw [List.filterMap_map,Z6,Ad6]
  induction Aa5 n with
  | nil=>rfl
  | cons y k f=>
   by_cases e:x.testBit y=u0
   ·simp [e,pD,f]
   ·simp [e,f]
 ·intro d j
  obtain⟨i,o,rfl⟩:=iC _ j
  have g:G9 ((x / 2 ^ i:Nat)) 1=k0 (((x.testBit i).toNat:Nat):Int):=by
   rw [show 1=((1:Nat):Int)from rfl,zd,ZQ]
  refine⟨[si i,si x],x.testBit i,rfl,?_,?_⟩
  ·unfold Gm
   simp only [eval,Gj,Gn,R.ae,GH,Jk,jc,g,R.ak,sP]
   cases x.testBit i<;>rfl
  ·by_cases e:x.testBit i=u0
   ·simp [e,Gj]
   ·simp [e]
def uQ (t) (ts) (h):Gr .mem (.s t) (.v (hA ts)) h=k0 (y9 (t∈ts)):=qy t ts (.v (hA ts)) h rfl rfl
def zr (k)(ok:w.Ok) (t) (g:t∈w.K++w.T) (h): ∃v,Is w (.name t) v/\call prog (k+4) "value_of_name" [.v w.words,.v w.aD,.s t] h= .ok (.i v) h:=by
 rw [Gb rfl _ _ _ rfl]
 simp only [Zq]
 show ∃v,_/\Gv _ (execs _ _ [sv (wD w.K w.T),sv (iG w.n w.ks w.ts),k0 _,y0,y0] h)=_
 have i:=ok.hK
 have j:=ok.hT
 by_cases q:t∈w.T
 ·have c:=(xm q).2
  refine⟨w.ts.getD (cX t w.T) 0,⟨?_,λa b e d=> ?_⟩,?_⟩
  ·rw [Ac6,Aa7 (by rw [ok.wl.lt];exact c)]
   exact ok.wl.bt _ (Ap1 _)
  ·show _↔w.at t a b
   rw [Wo.at,if_pos q]
  ·rw [qa,Ga _ _ _ rfl]
   rw [Wt (h1:=h) (by simp_all [ab,We,uQ,decide_eq_true q])]
   exact qa (Xa rfl (by simp only [eval,Gd,Gj,Gn,R.ae,ab,We,kr,R.ak,ph,if_true,QY w.T t h q (by omega)];rw [mF _ _ (by rw [ok.wl.lt];exact c)];rfl))
 ·have f:=(Ac8.mp g).resolve_right q
  have c:=(xm f).2
  have n4:=ok.wl.n4
  refine⟨Wf.cO w.n (Z6 w.n (w.ks.getD (cX t w.K) 0)),⟨Wf.cZ (wS _ _),λa b e d=> ?_⟩,?_⟩
  ·show _↔w.at t a b
   rw [Wo.at,if_neg q]
   exact tX e d
  ·rw [za (τ1:= [sv (wD w.K w.T),sv (iG w.n w.ks w.ts),k0 (.s t),y0,y0]) (h1:=h) (by simp_all [ab,We,uQ,decide_eq_false q])]
   rw [za (τ1:= [sv _,sv _,k0 _,si w.n,y0]) rfl]
   rw [za (τ1:= [sv _,sv _,k0 _,si w.n,si _]) (by simp only [exec,eval,Gd,Gj,Gn,R.ae,ab,zf,XW,R.ak,ph,if_true,QY w.K t h f (by omega)];rw [mF _ _ (by rw [ok.wl.lk];exact c)];rfl)]
   rw [qa (Xa rfl ?_),Ga _ _ _ rfl]
   simp only [eval,Gd,Gj,Gn,R.ae,DH w.n _ n4 h,Ab1,Ae9,W.bV,W.eG,QK k w.n _ h (by omega) (wS _ _)]
def Ja (s t:Tx) (h:AH):Gr .eq (.s s) (.s t) h=k0 (s==t):=by simp [GZ]
def xa (e:Gm F c τ h= .ok k9 h):execs F (.cons (.iff c a .nil) ss) τ h=execs F ss τ h:=za (n0 e)
def je (e:Gm F c τ h= .ok u0 h) (r:exec F s τ h= .ret w h):execs F (.cons (.iff c (.cons s .nil) .nil) ss) τ h= .ret w h:=qa ((Wt e).trans (qa r))
def xb (s X) (h):Gm F (.cmp .eq .v1 (.str X)) [a,k0 (.s s),c] h= .ok (s==X) h:=by
 simp only [Gm,eval,Gj,Gn,R.ae,Ja,R.ak,GS]
abbrev kv (n:Nat) (s:Tx) (l:List D):Sl:= [si n,k0 (.s s),k0 (.l l)]
def Mf (k n) (l) (h) (a:n<=4):call prog (k+5) "made" [.i n,.s xg,.l l] h= .ok (.i (Wf.bA n)) h:=by
 rw [Gb rfl _ _ _ rfl]
 simp only [Xz]
 show Gv _ (execs _ _ (kv n xg l) h)=_
 rw [je (xb _ _ _) (Xa rfl (by simp only [eval,Gd,Gj,Gn,R.ae,Ab1,Ae9,W.bV,Cr k n h (by lia)];rfl)),Ga _ _ _ rfl]
def HX (k n) (l) (h) (a:n<=4):call prog (k+5) "made" [.i n,.s wn,.l l] h= .ok (.i (2 ^ (n*n)-1)) h:=by
 rw [Gb rfl _ _ _ rfl]
 simp only [Xz]
 show Gv _ (execs _ _ (kv n wn l) h)=_
 rw [xa (xb _ _ _),je (xb _ _ _) (Xa rfl (by simp only [eval,Gd,Gj,Gn,R.ae,Ab1,Ae9,W.bV,tY _ n h (by lia)];rfl)),Ga _ _ _ rfl]
def Ea (k n) (l) (h):call prog (k+5) "made" [.i n,.s Xg,.l l] h= .ok (.i (0)) h:=by
 rw [Gb rfl _ _ _ rfl]
 simp only [Xz]
 rw [xa (xb _ _ _),xa (xb _ _ _),je (xb _ _ _) _,Ga _ _ _ rfl]
 rfl
abbrev l2 (s t:Nat):List D:= [.n s,.n t]
def jV (k n s t) (h):call prog (k+5) "made" [.i n,.s jF,.l (l2 s t)] h= .ok (.i (s ||| t)) h:=by
 rw [Gb rfl _ _ _ rfl]
 simp only [Xz]
 show Gv _ (execs _ _ (kv n jF _) h)=_
 rw [xa (xb _ _ _),xa (xb _ _ _),xa (xb _ _ _),je (xb _ _ _) (Xa rfl (by simp only [eval,Gd,Gj,Gn,R.ae,Qp,zf,We,R.ak,Ab1,Ae9,W.bV,QP _ s t h];rfl)),Ga _ _ _ rfl]
def qZ (k n s t) (h):call prog (k+5) "made" [.i n,.s jz,.l (l2 s t)] h= .ok (.i (s &&& t)) h:=by
 rw [Gb rfl _ _ _ rfl]
 simp only [Xz]
 show Gv _ (execs _ _ (kv n jz _) h)=_
 rw [xa (xb _ _ _),xa (xb _ _ _),xa (xb _ _ _),xa (xb _ _ _),xa (xb _ _ _),je (xb _ _ _) (Xa rfl (by simp only [eval,Gd,Gj,Gn,R.ae,Qp,zf,We,R.ak,Ab1,Ae9,W.bV,DZ _ s t h];rfl)),Ga _ _ _ rfl]
def wH (k n s t) (h) (a:n<=4):call prog (k+5) "made" [.i n,.s xf,.l (l2 s t)] h= .ok (.i (Wf.joinM n s t)) h:=by
 rw [Gb rfl _ _ _ rfl]
 simp only [Xz]
 show Gv _ (execs _ _ (kv n xf _) h)=_
 rw [xa (xb _ _ _),xa (xb _ _ _),xa (xb _ _ _),xa (xb _ _ _),xa (xb _ _ _),xa (xb _ _ _),je (xb _ _ _) (Xa rfl (by simp only [eval,Gd,Gj,Gn,R.ae,Qp,zf,We,R.ak,Ab1,Ae9,W.bV,ZT _ n s t h (by lia)];rfl)),Ga _ _ _ rfl]
def zI (k n s) (h) (a:n<=4):call prog (k+5) "made" [.i n,.s Xh,.l [.n s]] h= .ok (.i (Wf.bE n s)) h:=by
 rw [Gb rfl _ _ _ rfl]
 simp only [Xz]
 show Gv _ (execs _ _ (kv n Xh [.n s]) h)=_
 rw [xa (xb _ _ _),xa (xb _ _ _),xa (xb _ _ _),xa (xb _ _ _),xa (xb _ _ _),xa (xb _ _ _),xa (xb _ _ _),je (xb _ _ _) (Xa rfl (by simp only [eval,Gd,Gj,Gn,R.ae,Qp,E3,R.ak,Ab1,Ae9,W.bV,LY k n s h (by lia)];rfl)),Ga _ _ _ rfl]
def xJ (k n s) (h) (c:n<=4) (b:s<2 ^ (n*n)): ∃r,Wf.eR n s r/\call prog (k+5) "made" [.i n,.s Wh,.l [.n s]] h= .ok (.i r) h:=by
 obtain⟨r,a,e⟩:=yx (k+1) n s h c b
 refine⟨r,a,?_⟩
 rw [Gb rfl _ _ _ rfl]
 simp only [Xz]
 rw [xa (xb _ _ _),xa (xb _ _ _),xa (xb _ _ _),xa (xb _ _ _),xa (xb _ _ _),xa (xb _ _ _),xa (xb _ _ _),xa (xb _ _ _),qa (Xa rfl (by assumption)),Ga _ _ _ rfl]
def B8 (a:Gk F it τ h= .ok [] h):eval F (.comp tg one k aB it k9 c elt) τ h= .ok (.own []) h:=by
 rw [eval,a,R.ae,if_pos (show [].length<=bh from Af3 _)]
 rfl
def p5 (a:Gk F it τ h= .ok [d] h) (e:eval F elt (GC (Aa3 k y0++aB.map λj=>Gj τ j) 0 (.v d)) h= .ok (.v y) h):eval F (.comp [0] u0 k aB it k9 c elt) τ h= .ok (.own [y]) h:=by
 have b: [d].length<=bh:=by rw [Gg];simp
 rw [eval,a,R.ae,if_pos b]
 simp [Gy,e,R.ak]
def z0 (e:Gk F it τ h= .ok [d1,d2] h) (d:eval F elt (GC (Aa3 k y0++aB.map λj=>Gj τ j) 0 (.v d1)) h= .ok (.v y1) h) (b:eval F elt (GC (Aa3 k y0++aB.map λj=>Gj τ j) 0 (.v d2)) h= .ok (.v y2) h):eval F (.comp [0] u0 k aB it k9 c elt) τ h= .ok (.own [y1,y2]) h:=by
 have a: [d1,d2].length<=bh:=by rw [Gg];simp
 rw [eval,e,R.ae,if_pos a]
 simp [Gy,d,b,R.ak]
def xo (f) (c:eval F e τ h= .ok (.i n) h) (m:n<=1000)
 (k: ∀i,i<n-> ∃w,eval F elt (si i::aB.map λj=>Gj τ j) h= .ok w h/\w.d=k0 (f i)):eval F (.comp [0] u0 1 aB (.av e) k9 (.bl u0) elt) τ h= .ok (.own ((Aa5 n).map f)) h:=by
 rw [ql (λd=>match d with | .int i=>f i.toNat | d=>d) (Jt c (by lia)) (by simp;rw [Gg];lia)]
 ·simp [Function.comp_def]
 ·intro d g
  obtain⟨i,l,rfl⟩:=iC _ g
  obtain⟨w,b,a⟩:=k i l
  exact⟨_,rfl,w,b,by simpa using a⟩
def Xq (x y) (r:List D):aV (x::y::r) 1=k0 y:=by
 have:=Qg (x::y::r) 1 (by simp)
 exact this
abbrev tb (n v:Nat) (a b:Nat):Bool:=v.testBit (a*n+b)
def Z4 (n:Nat) (g:Nat->Nat->Bool) (a:Nat):Nat:=((Aa5 n).map λb=>(g a b).toNat).sum
theorem zt (g): ∀l:List Nat,(l.filter g).length=(l.map λb=>(g b).toNat).sum
 | []=>rfl
 | x::l=>by
  have a:=zt g l
  by_cases q:g x=u0
  ·rw [List.filter_cons_of_pos q,Aa6,Ab1,Al3,a,q];simp;omega
  ·have c:=by simpa using q
   rw [List.filter_cons_of_neg q,Ab1,Al3,a,c];simp
def zB (m n):Aa5 ((m+1)*n)=Aa5 (m*n)++(Aa5 n).map (m*n+ ·):=by
 rw [Nat.succ_mul,List.range_add]
def De {b:Nat}(a:b<n):(m*n+b) / n=m:=Wf.aF a
theorem uX (n v) (a): ∀m,((((Aa5 (m*n)).filter v.testBit).map (· / n)).count a)=if a<m then Z4 n (tb n v) a else 0
 | 0=>by simp
 | m+1=>by
  have h:=uX n v a m
  rw [zB,List.filter_append,Af5,List.count_append,h,An,Ad6]
  have e:((Aa5 n).filter (v.testBit∘(m*n+ ·))).map ((· / n)∘(m*n+ ·))=Aa3 ((Aa5 n).filter (v.testBit∘(m*n+ ·))).length m:=by
   rw [List.eq_replicate_iff]
   refine⟨by simp,λx f=> ?_⟩
   obtain⟨b,d,rfl⟩:=Ab6.mp f
   exact De (Ab8.mp (Ai9.mp d).1)
  rw [e,List.count_replicate,zt]
  by_cases q:a=m
  ·subst q
   simp [Z4,tb]
  ·have g: ¬(m==a)=true:=by simp;exact λe=>q e.symm
   rw [if_neg g]
   by_cases c:a<m
   ·rw [if_pos c,if_pos (by omega)];omega
   ·rw [if_neg c,if_neg (by omega)]
def D0 (b:a<n):((Wf.ax n v).map (·.1)).count a=Z4 n (tb n v) a:=by
 have:=uX n v a n
 rw [if_pos b]at this
 rw [← this,Wf.ax,Ad6]
 rfl
theorem JG (n v): ∀m,((Aa5 (m*n)).filter v.testBit).length=((Aa5 m).map (Z4 n (tb n v))).sum
 | 0=>by simp
 | m+1=>by
  have a:=JG n v m
  rw [zB,List.filter_append,Aa8,a,An,Aa,zt,List.range_succ,Af5,List.sum_append]
  simp [Z4,tb]
def CP (n v):(Wf.ax n v).length=((Aa5 n).map (Z4 n (tb n v))).sum:=by
 rw [Wf.ax,Aa,JG]
abbrev Za:Tx:= [108,101,97,115,116]
abbrev zc:Tx:= [109,111,115,116]
abbrev zb:Tx:= [101,97,99,104,108,101,97,115,116]
abbrev jh:Tx:= [101,97,99,104,109,111,115,116]
abbrev ZG:Tx:= [105,110]
abbrev Zb:Tx:= [101,113,117,97,108]
abbrev xj:Tx:= [115,111,109,101]
abbrev QZ:Tx:= [110,111]
def QR (s a b) (h):Gr .mem (.s s) (.t [.str a,.str b]) h=k0 (y9 (s∈ [a,b])):=qy s [a,b] (.t [.str a,.str b]) h rfl rfl
def WA (n v:Nat):List Nat:=(Aa5 n).map (Z4 n (tb n v))
def zk (n v:Nat) (s:Tx):List Nat:=if s∈ [Za,zc]then [(WA n v).sum]else WA n v
theorem j9: ∀l:List Nat,GM (ar l)=k0 (l.map λ(x:Nat)=>(x:Int))
 | []=>rfl
 | x::l=>by
  have:=j9 l
  simp only [Ab1,GM]at this ⊢
  rw [this];rfl
def Hq (l:List Nat) (a:Nat):(l.map λ(x:Nat)=>(x:Int)).count (a:Int)=l.count a:=by
 induction l with
 | nil=>rfl
 | cons x l b=>
  rw [Ab1,List.count_cons,List.count_cons,b]
  by_cases q:x=a
  ·simp [q]
  ·have: ¬(x=(a:Int)):=by lia
   simp [q,this]
def rS (k n v) (s) (i:n<=4) (h):call prog (k+2) "counts" [.i n,.s s,.i v] h= .ok (.own (ar (zk n v s))) h:=by
 rw [Gb rfl _ _ _ rfl]
 simp only [u5]
 refine fx (by simp_all [jt k n v h (by omega)];rfl) ?_
 by_cases q:s∈ [Za,zc]
 ·rw [qa,Gu _ _ _ rfl]
  rw [Wt (h1:=h) (by simp_all [QR,decide_eq_true q])]
  refine qa (wA rfl ?_)
  simp only [eval,Gw,Gd,Gj,Gn,R.ae,zL,W.lP,R.ak,Aa,CP]
  rw [zk,if_pos q]
  rfl
 ·refine fx (by simp_all [QR,decide_eq_false q];rfl) ?_
  have e2:eval (u9 (k+1)) ZD [si n,k0 (.s s),si v,k0 (.l ((Wf.ax n v).map pD)),y0] h= .ok (.own (ar ((Wf.ax n v).map (·.1)))) h:=by
   rw [ZD,ql (λd=>match d with | .tup [x,_]=>x | d=>d) (by simp_all []) (ZJ n v (by omega))]
   ·simp [pD,ar,Function.comp_def]
   ·intro d c
    obtain⟨p,_,rfl⟩:=Ab6.mp c
    exact⟨_,rfl,_,rfl,rfl⟩
  have e1:eval (u9 (k+1)) xC [si n,k0 (.s s),si v,k0 (.l ((Wf.ax n v).map pD)),k0 (.l (ar ((Wf.ax n v).map (·.1))))] h= .ok (.own (ar (WA n v))) h:=by
   rw [xC,xo (λa=> .n _) rfl (by omega) λa b=>⟨.i _,?_,rfl⟩]
   ·rw [ar,WA,Ad6];rfl
   ·have f:((((Wf.ax n v).map (·.1)).map λ(x:Nat)=>(x:Int))).length<=bh:=by
     have:=ZJ n v (show n<=20 by omega)
     simpa using this
    have g:me .count (.l (ar ((Wf.ax n v).map (·.1)))) [.i a] h= .ok (.i (Z4 n (tb n v) a)) h:=by
     show(R.of h ((k0 (ar ((Wf.ax n v).map (·.1)))).bind GM)).bind _=_
     rw [Ag0,j9,R.ak,R.ae]
     show(R.of h (k0 (a:Int))).bind _=_
     rw [R.ak,R.ae,if_pos f,Hq,D0 b]
    have e:mJ .count (.l (ar ((Wf.ax n v).map (·.1)))) h=true:=rfl
    simp only [eval,Gd,Gj,Gn,Ab1,Ae9,R.ae,e,if_true,g]
  rw [za (τ1:= [si n,k0 (.s s),si v,k0 (.l ((Wf.ax n v).map pD)),k0 (.l (ar ((Wf.ax n v).map (·.1))))]) (by rw [exec,e2];rfl)]
  rw [qa (wA rfl e1),Gu _ _ _ rfl,zk,if_neg q]
inductive Fc where
 | dA (a b:Ex)
 | dQ (a b:Ex)
 | dH (a:Ex)
 | aj (a:Ex)
 | cnt (s:Tx) (k:Nat) (a:Ex)
def dj:Fc->D
 | .dA a b=> .tup [.str ZG,aT a,aT b]
 | .dQ a b=> .tup [.str Zb,aT a,aT b]
 | .dH a=> .tup [.str xj,aT a]
 | .aj a=> .tup [.str QZ,aT a]
 | .cnt s k a=> .tup [.str s,.n k,aT a]
def Fc.wf (N:List Tx):Fc->Prop
 | .dA a b=>a.wf N/\b.wf N
 | .dQ a b=>a.wf N/\b.wf N
 | .dH a=>a.wf N
 | .aj a=>a.wf N
 | .cnt s _ a=>s∈ [Za,zc,zb,jh]/\a.wf N
def Fc.dp:Fc->Nat
 | .dA a b=>max a.dp b.dp
 | .dQ a b=>max a.dp b.dp
 | .dH a=>a.dp
 | .aj a=>a.dp
 | .cnt _ _ a=>a.dp
theorem oR: ∀bs:List Bool,Kl (bs.map .bl)=k0 bs
 | []=>rfl
 | b::bs=>by simp [Kl,oR bs]
def qA {bs:List Bool}(q:eval F e τ h= .ok (.own (bs.map .bl)) h):eval F (.bi .all (.cons e .nil)) τ h= .ok (.b (bs.all id)) h:=by
 rw [eval,Gd,q]
 simp [oR,R.ak]
def m4 (p) (l:List α):(l.map p).all id=l.all p:=by
 rw [An0];rfl
theorem qU: ∀l:List Nat,Ki (ar l)=k0 ((l.sum:Nat):Int)
 | []=>rfl
 | x::l=>by
  have:=qU l
  simp only [Ab1,Ki]at this ⊢
  rw [this,Al3]
  simp
def Ms :eval F (.neg (.int 1)) τ h= .ok (.v (.int (-1))) h:=rfl
def t5 (x y:D):aV [x,y] (-1)=k0 y:=rfl
def JQ (x y z:D):aV [x,y,z] (-1)=k0 z:=rfl
def pk (s:Tx) (k:Nat) (l:List Nat):Bool:=if s∈ [Za,zb]then l.all λx=>y9 (k<=x)else l.all λx=>y9 (x<=k)
def wE (x y z:D):aV [x,y,z] 2=k0 z:=rfl
def Wj (X)(e:Gn τ i=k0 (.s s)):Gm F (.cmp .eq (.var i) (.str X)) τ h= .ok (s==X) h:=by
 simp only [Gm,eval,Gj,e,R.ae,Ja,R.ak,GS]
structure V (n v:Nat) (g:Nat->Nat->Bool):Prop where
 lt:v<2 ^ (n*n)
 bit: ∀a b,a<n->b<n->(v.testBit (a*n+b)=u0↔g a b=u0)
section
variable {n s t:Nat}{g f:Nat->Nat->Bool}
def V.plus (h:V n s g) (q:V n t f):V n (s ||| t) λa b=>g a b||f a b:=⟨oY h.1 q.1,λa b d c=>by
 rw [Ae8,Ae5,h.2 a b d c,q.2 a b d c,Ae5]⟩
def V.both (h:V n s g) (q:V n t f):V n (s &&& t) λa b=>g a b&&f a b:=⟨Nat.and_lt_two_pow s q.1,λa b d c=>by
 rw [Ah1,Aa0,h.2 a b d c,q.2 a b d c,Aa0]⟩
def V.less (h:V n s g) (q:V n t f):V n (s-(s &&& t)) λa b=>g a b&& !f a b:=⟨Ah6 (Ao6 _ _) h.1,λa b d c=>by
 have e:=An1.mpr (q.2 a b d c)
 rw [Wf.aQ,Aa0,h.2 a b d c,e,Aa0]⟩
def V.turned (h:V n s g):V n (Wf.bE n s) λa b=>g b a:=⟨Wf.fm _ _,λa b d c=>by
 rw [Wf.eN (Wf.place_lt d c),Wf.aF c,Wf.aJ c,h.2 b a c d]⟩
def V.joined (h:V n s g) (q:V n t f):V n (Wf.joinM n s t) λa b=>(Aa5 n).any λc=>g a c&&f c b:=⟨Wf.c9 _ _ _,λa b j i=>by
 rw [Wf.b4 (Wf.place_lt j i),Wf.cG i,Ad1,Ad1]
 constructor
 ·rintro ⟨c,e,z⟩
  have d:=Ab8.mp e
  rw [Aa0]at z
  exact⟨c,e,by rw [Aa0];exact⟨(h.2 a c j d).mp z.1,(q.2 c b d i).mp z.2⟩⟩
 ·rintro ⟨c,e,z⟩
  have d:=Ab8.mp e
  rw [Aa0]at z
  exact⟨c,e,by rw [Aa0];exact⟨(h.2 a c j d).mpr z.1,(q.2 c b d i).mpr z.2⟩⟩⟩
def V.closed (h:V n s g)(q:Wf.eR n s r):V n r (Wf.wr g n):=⟨q.lt,λa b d c=>(q.bit a b d c).trans (Wf.iz (λx y f e=>(h.2 x y f e).symm) d c).symm⟩
end
abbrev xX (s:Tx):Nat->Nat->Bool:=λa b=>(s==wn)||((s==xg)&&y9 (a=b))
abbrev bW (a b:Wo):D:= .tup [a.aD,b.aD]
structure Pt (a b:Wo):Prop where
 mW:a.Ok
 Ll:b.Ok
 en:b.n=a.n
 eK:b.K=a.K
 eT:b.T=a.T
def Pt.ew (p:Pt a b):b.words=a.words:=by rw [Wo.words,Wo.words,p.eK,p.eT]
abbrev fP (a b:Wo) (d:D) (s:Tx) (x4 c x6 x7 e:Option W):Sl:= [sv a.words,sv (bW a b),sv d,k0 (.s s),x4,c,x6,x7,e]
abbrev aZ (v u:Nat):D:= .tup [.n v,.n u]
section
variable {m:Nat}{a b:Wo}{h:AH}
def j5 :Gk F (.seq (.fB .v2 (.int 1))) (fP a b (.tup (s::ds)) z x4 x5 x6 x7 x8) h= .ok ds h:=by
 have e:cut (s::ds) (k0 1) y0=ds:=XV (s::ds) 1
 refine FQ ?_
 show(if aX (s::ds).length 0 (k0 1)=0/\aX (s::ds).length (s::ds).length y0=(s::ds).length then R.fail else R.ok _ h)=_
 rw [if_neg (λc=>by have:=c.1;simp [aX]at this),e]
def ju (q:call prog m "bounds" [.v a.words,.v (bW a b),.v d] h= .ok (.v y) h):eval (u9 m) (.call "bounds" (.c .v1 .v2 .v0)) (GC (List.replicate 1 none++ [0,1].map fun j=>Gj (fP a b v z x4 x5 x6 x7 x8) j) 0 (.v d)) h= .ok (.v y) h:=by simp_all
def tL {s:Tx}{ds:List D}{x:W}(g:(s==Zg)=k9){ps:List (Nat×Nat)}(i:ps.length<=2)
 (h1:eval (u9 m) qt (fP a b (.tup (.str s::ds)) s y0 y0 y0 y0 y0) h= .ok (.own (ps.map pD)) h){d:D}
 (q:execs (u9 m) (match bB.body with | .cons _ (.cons _ (.cons _ (.cons _ (.cons _ r))))=>r | r=>r) (fP a b (.tup (.str s::ds)) s y0 (k0 (.l (ps.map pD))) (k0 (.l (ar (ps.map (·.1))))) (k0 (.l (ar (ps.map (·.2))))) y0) h= .ret (.v d) h):
 call prog (m+1) "bounds" [.v a.words,.v (bW a b),.t (.str s::ds)] h= .ok (.v d) h:=by
 rw [Gb (d:=bB) rfl _ _ _ rfl]
 simp only [bB]at q ⊢
 refine fx (by simp_all [ab,we];rfl) ?_
 rw [xa (by simp_all [Ja,g])]
 have e:(ps.map pD).length<=bh:=by rw [Gg];simp;omega
 rw [za (τ1:=fP a b _ s y0 _ y0 y0 y0) (h1:=h) (by rw [exec,h1];rfl)]
 have e2:eval (u9 m) WC (fP a b (.tup (.str s::ds)) s y0 (k0 (.l (ps.map pD))) y0 y0 y0) h= .ok (.own (ar (ps.map (·.1)))) h:=by
  rw [WC,ql (h:=h) (ds:=ps.map pD) (λd=>match d with | .tup [x,_]=>x | d=>d) (by simp_all []) e]
  ·simp [pD,ar,Function.comp_def]
  ·intro d c
   obtain⟨p,_,rfl⟩:=Ab6.mp c
   exact⟨_,rfl,_,rfl,rfl⟩
 rw [za (τ1:=fP a b _ s y0 _ _ y0 y0) (h1:=h) (by rw [exec,e2];rfl)]
 have f:eval (u9 m) XC (fP a b (.tup (.str s::ds)) s y0 (k0 (.l (ps.map pD))) (k0 (.l (ar (ps.map (·.1))))) y0 y0) h= .ok (.own (ar (ps.map (·.2)))) h:=by
  rw [XC,ql (h:=h) (ds:=ps.map pD) (λd=>match d with | .tup [_,x]=>x | d=>d) (by simp_all []) e]
  ·simp [pD,ar,Function.comp_def]
  ·intro d c
   obtain⟨p,_,rfl⟩:=Ab6.mp c
   exact⟨_,rfl,_,rfl,rfl⟩
 rw [za (τ1:=fP a b _ s y0 _ _ _ y0) (h1:=h) (by rw [exec,f];rfl)]
 rw [q,Ga _ _ _ rfl]
def ZB {s:Tx}{ds:List D}(f:(s==Zg)=k9) (c:(s==qp)=k9){ps:List (Nat×Nat)}(e:ps.length<=2){v u:Nat}
 (h1:eval (u9 m) qt (fP a b (.tup (.str s::ds)) s y0 y0 y0 y0 y0) h= .ok (.own (ps.map pD)) h)
 (g:call prog m "made" [.i a.n,.s s,.l (ar (ps.map (·.1)))] h= .ok (.i v) h) (d:call prog m "made" [.i a.n,.s s,.l (ar (ps.map (·.2)))] h= .ok (.i u) h):
 call prog (m+1) "bounds" [.v a.words,.v (bW a b),.t (.str s::ds)] h= .ok (.v (aZ v u)) h:=by
 refine tL (x:= .v .aj) f e h1 ?_
 simp only [bB]
 rw [xa (by simp_all [Ja,c])]
 have i:dN (.v (bW a b)) (.v (.int 0)) h=k0 a.aD:=rfl
 have e1:dN (.v a.aD) (.v (.int 0)) h=k0 _:=rfl
 refine(za (by simp_all [e1];rfl)).trans ?_
 rw [qa (Xa rfl (by simp_all [g,d];rfl))]
def Io 
 (h1:eval (u9 (k+1)) qt (fP a b (.tup (.str qp::ds)) qp y0 y0 y0 y0 y0) h= .ok (.own ([(s,s'),(t,t')].map pD)) h):
 call prog (k+2) "bounds" [.v a.words,.v (bW a b),.t (.str qp::ds)] h= .ok (.v (aZ (s-(s &&& t')) (s'-(s' &&& t)))) h:=by
 refine tL (x:= .v .aj) rfl (by simp) h1 ?_
 refine qa ((Wt (h1:=h) ?_).trans (qa (Xa rfl ?_)))
 ·simp_all [Ja];rfl
 ·simp_all [Qp,zf,We,Zx k s t' h,Zx k s' t h]
end
abbrev qL:Tx:= [110,111,116]
abbrev jw:Tx:= [97,110,100]
abbrev Qz:Tx:= [111,114]
inductive Sy where
 | fact (f:Fc)
 | neg (a:Sy)
 | cx (a b:Sy)
 | cn (a b:Sy)
def aP:Sy->D
 | .fact f=>dj f
 | .neg a=> .tup [.str qL,aP a]
 | .cx a b=> .tup [.str jw,aP a,aP b]
 | .cn a b=> .tup [.str Qz,aP a,aP b]
def Sy.wf (N:List Tx):Sy->Prop
 | .fact f=>f.wf N
 | .neg a=>a.wf N
 | .cx a b=>a.wf N/\b.wf N
 | .cn a b=>a.wf N/\b.wf N
def Sy.dp:Sy->Nat
 | .fact f=>f.dp
 | .neg a=>a.dp+1
 | .cx a b=>max a.dp b.dp+1
 | .cn a b=>max a.dp b.dp+1
def FR (f) (wf:f.wf N): ∃s ds,dj f= .tup (.str s::ds)/\(s==qL)=k9/\(s==jw)=k9/\(s==Qz)=false:=by
 cases f with
 | dA a b=>exact⟨ZG,_,rfl,rfl,rfl,rfl⟩
 | dQ a b=>exact⟨Zb,_,rfl,rfl,rfl,rfl⟩
 | dH a=>exact⟨xj,_,rfl,rfl,rfl,rfl⟩
 | aj a=>exact⟨QZ,_,rfl,rfl,rfl,rfl⟩
 | cnt s j a=>
  have: ∀s∈ [Za,zc,zb,jh],(s==qL)=k9/\(s==jw)=k9/\(s==Qz)=false:=by decide
  exact⟨s,_,rfl,this s wf.1⟩
def aH:Option Bool->D
 | none=> .aj
 | some b=> .bl b
def xR (a b:Bool):Option Bool:=if a then k0 u0 else if b then k0 k9 else y0
def ek (r q:Option Bool):Option Bool:=xR (r==k0 u0&&q==k0 u0) (r==k0 k9||q==k0 k9)
def eY (r q:Option Bool):Option Bool:=xR (r==k0 u0||q==k0 u0) (r==k0 k9&&q==k0 k9)
def zn (k) (a b) (h):call prog (k+1) "settled" [.b a,.b b] h= .ok (.v (aH (xR a b))) h:=by
 rw [Gb rfl _ _ _ rfl]
 simp [JV]
 cases a
 ·cases b
  ·simp_all []
   rfl
  ·simp_all []
   rfl
 ·simp_all []
  rfl
def Ci (r) (b):Km (.v (aH r)) (.b b)=k0 (r==k0 b):=by
 cases r with
 | none=>rfl
 | some c=>cases c<;>cases b<;>rfl
def kl (r) (b) (h):Gr .cN (.v (aH r)) (.b b) h=k0 (r==k0 b):=Ci r b
section
variable {k:Nat}{r q:Option Bool}{h:AH}
def yP:call prog (k+2) "not_told" [.v (aH r)] h= .ok (.v (aH (r.map (!·)))) h:=by
 rw [Gb rfl _ _ _ rfl]
 simp only [xN]
 rw [qa (Xa (d:=aH (xR (r==k0 k9) (r==k0 u0))) (h1:=h) rfl (by simp_all [kl,zn])),Ga _ _ _ rfl]
 cases r with
 | none=>rfl
 | some c=>cases c<;>rfl
def kn (h1:eval F e τ h= .ok (.b a) h) (c:eval F f τ h= .ok (.b b) h):eval F (.or e f) τ h= .ok (.b (a||b)) h:=by
 rw [eval,h1]
 cases a
 ·simp [c,Bool.false_or]
 ·simp [Am]
def w4 (h1:eval F e τ h= .ok (.b a) h) (c:eval F f τ h= .ok (.b b) h):eval F (.and e f) τ h= .ok (.b (a&&b)) h:=by
 rw [eval,h1]
 cases a
 ·simp [Ae7]
 ·simp [c,Ae1]
def qF (b) (e:Gj τ i=sv (aH r)):eval F (.cmp .cN (.var i) (.bl b)) τ h= .ok (.b (r==k0 b)) h:=by
 simp [e,kl,R.ak]
def jO:call prog (k+2) "and_told" [.v (aH r),.v (aH q)] h= .ok (.v (aH (ek r q))) h:=by
 rw [Gb rfl _ _ _ rfl]
 simp only [xO]
 show Gv _ (execs _ _ [sv _,sv _] h)=_
 have e1:=w4 (F:=(u9 (k+1))) (qF (h:=h) (τ:= [sv (aH r),sv (aH q)]) (i:=0) u0 rfl) (qF (i:=1) u0 rfl)
 have e2:=kn (F:=(u9 (k+1))) (qF (h:=h) (τ:= [sv (aH r),sv (aH q)]) (i:=0) k9 rfl) (qF (i:=1) k9 rfl)
 rw [qa (Xa (d:=aH (ek r q)) rfl (by
  rw [eval,Gd,e1,R.ae,Gd,e2]
  simp only [R.ae,Gd,Ab1,Ae9,W.bV,zn]
  rfl)),Ga _ _ _ rfl]
def AX:call prog (k+2) "or_told" [.v (aH r),.v (aH q)] h= .ok (.v (aH (eY r q))) h:=by
 rw [Gb rfl _ _ _ rfl]
 simp only [qX]
 show Gv _ (execs _ _ [sv _,sv _] h)=_
 have e1:=kn (F:=(u9 (k+1))) (qF (h:=h) (τ:= [sv (aH r),sv (aH q)]) (i:=0) u0 rfl) (qF (i:=1) u0 rfl)
 have e2:=w4 (F:=(u9 (k+1))) (qF (h:=h) (τ:= [sv (aH r),sv (aH q)]) (i:=0) k9 rfl) (qF (i:=1) k9 rfl)
 rw [qa (Xa (d:=aH (eY r q)) rfl (by
  rw [eval,Gd,e1,R.ae,Gd,e2]
  simp only [R.ae,Gd,Ab1,Ae9,W.bV,zn]
  rfl)),Ga _ _ _ rfl]
end
def xz {bs:List Bool}(q:eval F e τ h= .ok (.own (bs.map .bl)) h):eval F (.bi .any (.cons e .nil)) τ h= .ok (.b (bs.any id)) h:=by
 rw [eval,Gd,q]
 simp [oR,R.ak]
def ny (p) (l:List α):(l.map p).any id=l.any p:=by
 rw [Ao8];rfl
def Il (n) (h):Gr .ne (.i n) (.v (.int 0)) h=k0 (!y9 (n=0)):=by
 have this:Gr .eq _ (.v (.int 0)) h=k0 _:=Jn n 0 h
 rw [uf]at this
 rw [sW]
 split at this
 ·rename_i c
  rw [if_pos c]
  have:=Ad5.inj this
  rw [← this]
 ·cases this
def j6 (n) (h):Gr .eq (.i n) (.v (.int 0)) h=k0 (y9 (n=0)):=Jn n 0 h
def dD (v u a b:Nat):Option Bool:=xR (y9 (u-(u &&& a)=0)) (!y9 (v-(v &&& b)=0))
def xY (k v u v' u') (h):call prog (k+2) "in_told" [.v (aZ v u),.v (aZ v' u')] h= .ok (.v (aH (dD v u v' u'))) h:=by
 rw [Gb rfl _ _ _ rfl]
 simp only [J3]
 rw [qa (Xa (d:=aH (dD v u v' u')) rfl (by simp_all [ab,zf,We,Zx k u v' h,Zx k v u' h,j6,Il,zn];rfl)),Ga _ _ _ rfl]
noncomputable def JL (s:Tx) (j:Nat) (l u:List Nat):Option Bool:=if s∈ [Za,zb]then xR (l.all λx=>y9 (j<=x)) (u.any λx=>y9 (x<j))else xR (u.all λx=>y9 (x<=j)) (l.any λx=>y9 (j<x))
def l1 (p) (m:l.length<=4) (a:Gj τ i=k0 (.l (ar l))) (b:Gj τ c=si j) (f: ∀x:Nat,Gr o (.i x) (.i j) h=k0 (p x)):
 eval F (.comp [0] u0 1 [c] (.seq (.var i)) k9 (.bl u0) (.cmp o .v0 .v1)) τ h= .ok (.own ((l.map p).map .bl)) h:=by
 have g:Gk F (.seq (.var i)) τ h= .ok (ar l) h:=by
  simp [a,R.ae]
 rw [ql (λd=>match d with | .int x=> .bl (p x.toNat) | d=>d) g (by rw [Gg,ar,Aa];lia)]
 ·simp [Function.comp_def]
 ·intro k e
  obtain⟨x,_,rfl⟩:=Ab6.mp e
  refine⟨[si x,si j],by simp only [Ab1,b];rfl,.b (p x),?_,by simp⟩
  simp_all [f]
def vp (j x) (h):Gr .le (.i x) (.i j) h=k0 (y9 (x<=j)):=by
 rw [Q1];congr 1;exact decide_eq_decide.mpr (by lia)
def tT (j x) (h):Gr .ge (.i x) (.i j) h=k0 (y9 (j<=x)):=by
 rw [Ls];congr 1;exact decide_eq_decide.mpr (by lia)
def k5 (j x) (h):Gr .lt (.i x) (.i j) h=k0 (y9 (x<j)):=by
 rw [jZ];congr 1;exact decide_eq_decide.mpr (by omega)
def fM (j x) (h):Gr .gt (.i x) (.i j) h=k0 (y9 (j<x)):=by
 rw [y6];congr 1;exact decide_eq_decide.mpr (by omega)
def vy (n v) (s) (a:n<=4):(zk n v s).length<=4:=by
 rw [zk]
 split
 ·simp
 ·simp [WA];omega
abbrev mv (n:Nat) (s:Tx) (j v u:Nat) (x4 a:Option W):Sl:= [si n,k0 (.s s),si j,sv (aZ v u),x4,a]
def Zp (k n) (s) (j v u) (a:n<=4) (h):call prog (k+3) "count_told" [.i n,.s s,.i j,.v (aZ v u)] h= .ok (.v (aH (JL s j (zk n v s) (zk n u s)))) h:=by
 rw [Gb rfl _ _ _ rfl]
 simp only [XD]
 refine fx (by simp_all [ab,zf,rS k n v s a h];rfl) ?_
 refine fx (by simp_all [ab,We,rS k n u s a h];rfl) ?_
 have b:=vy n v s a
 have e:=vy n u s a
 rw [JL]
 by_cases q:s∈ [Za,zb]
 ·have e1:=l1 (F:=(u9 (k+2))) (τ:=mv n s j v u (k0 (.l _)) (k0 (.l (ar (zk n u s))))) (i:=4) (c:=2) _ b rfl rfl λx=>tT j x h
  have e2:=l1 (F:=(u9 (k+2))) (τ:=mv n s j v u (k0 (.l (ar (zk n v s)))) (k0 (.l _))) (i:=5) (c:=2) (h:=h) _ e rfl rfl λx=>k5 j x h
  rw [if_pos q,je (by simp_all [QR,decide_eq_true q]) (Xa (d:=aH (xR ((zk n v s).all λx=>y9 (j<=x)) ((zk n u s).any λx=>y9 (x<j)))) rfl (by
   rw [eval,Gd,Wu,qA e1,R.ae,Gd,Qu,xz e2,m4,ny]
   simp only [R.ae,Gd,Ab1,Ae9,W.bV,zn])),Ga _ _ _ rfl]
 ·have e1:=l1 (F:=(u9 (k+2))) (τ:=mv n s j v u (k0 (.l (ar (zk n v s)))) (k0 (.l (ar (zk n u s))))) (i:=5) (c:=2) (o:= .le) (h:=h) _ e rfl rfl λx=>vp j x h
  have e2:=l1 (F:=(u9 (k+2))) (τ:=mv n s j v u (k0 (.l (ar (zk n v s)))) (k0 (.l (ar (zk n u s))))) (i:=4) (c:=2) (o:= .gt) (h:=h) _ b rfl rfl λx=>fM j x h
  rw [if_neg q,xa (by simp_all [QR,decide_eq_false q]),qa (Xa (d:=aH (xR ((zk n u s).all λx=>y9 (x<=j)) ((zk n v s).any λx=>y9 (j<x)))) (h1:=h) rfl (by
   rw [eval,Gd,wu,qA e1,R.ae,Gd,Zu,xz e2,m4,ny]
   simp only [R.ae,Gd,Ab1,Ae9,W.bV,zn])),Ga _ _ _ rfl]
noncomputable abbrev pU (a b:Wo) (d:D) (s:Tx) (v u:Nat) (x6:Option W):Sl:= [sv a.words,sv (bW a b),sv d,k0 (.s s),si a.n,sv (aZ v u),x6]
section
variable {k m:Nat}{a b:Wo}{h:AH}{v u v' u':Nat}{e e':Ex}
def xy (c:aV (.str s::ds) (-1)=k0 (aT e)) (f:call prog m "bounds" [.v a.words,.v (bW a b),.v (aT e)] h= .ok (.v (aZ v u)) h)
 (q:execs (u9 m) (match aS.body with | .cons _ (.cons _ (.cons _ r))=>r | r=>r) (pU a b (.tup (.str s::ds)) s v u y0) h= .ret (.v d) h):call prog (m+1) "fact_told" [.v a.words,.v (bW a b),.t (.str s::ds)] h= .ok (.v d) h:=by
 rw [Gb rfl _ _ _ rfl]
 simp only [aS]at q ⊢
 have i0:dN (.v (bW a b)) (.v (.int 0)) h=k0 a.aD:=rfl
 have i1:dN (.v a.aD) (.v (.int 0)) h=k0 _:=rfl
 refine fx (by simp_all [ab,we];rfl) ?_
 refine fx (by simp_all [i1];rfl) ?_
 rw [za (τ1:=pU a b (.tup (.str s::ds)) s v u y0) (h1:=h) (by simp_all [ab,c,f]),q,Ga _ _ _ rfl]
variable (n4:a.n<=4) (e1:call prog (k+3) "bounds" [.v a.words,.v (bW a b),.v (aT e)] h= .ok (.v (aZ v u)) h) (e2:call prog (k+3) "bounds" [.v a.words,.v (bW a b),.v (aT e')] h= .ok (.v (aZ v' u')) h)
include n4 e1
def HF:call prog (k+4) "fact_told" [.v a.words,.v (bW a b),.v (dj (.dH e))] h= .ok (.v (aH (JL Za 1 (zk a.n v Za) (zk a.n u Za)))) h:=by
 refine xy (t5 _ _) e1 ?_
 have c:=Zp k a.n Za 1 v u n4 h
 have c:=c
 simp only [aS]
 rw [je (Wj (s:=xj) _ rfl) (Xa rfl (by assumption))]
def BM:call prog (k+4) "fact_told" [.v a.words,.v (bW a b),.v (dj (.aj e))] h= .ok (.v (aH (JL zc 0 (zk a.n v zc) (zk a.n u zc)))) h:=by
 refine xy (t5 _ _) e1 ?_
 have c:=Zp k a.n zc 0 v u n4 h
 have c:=c
 simp only [aS]
 rw [xa (Wj (s:=QZ) _ rfl),je (Wj (s:=QZ) _ rfl) (Xa rfl (by assumption))]
def E8 (d:s∈ [Za,zc,zb,jh]):call prog (k+4) "fact_told" [.v a.words,.v (bW a b),.v (dj (.cnt s j e))] h= .ok (.v (aH (JL s j (zk a.n v s) (zk a.n u s)))) h:=by
 refine xy (JQ _ _ _) e1 ?_
 have c:=Zp k a.n s j v u n4 h
 have ne:=by
  have: ∀s∈ [Za,zc,zb,jh],(s==xj)=k9/\(s==QZ)=k9/\(s==ZG)=k9/\(s==Zb)=false:=by decide
  exact this s d
 simp only [aS]
 rw [xa ((Wj _ rfl).trans (by rw [ne.1])),xa ((Wj _ rfl).trans (by rw [ne.2.1])),xa ((Wj _ rfl).trans (by rw [ne.2.2.1])),xa ((Wj _ rfl).trans (by rw [ne.2.2.2])),qa (Xa rfl (by assumption))]
include e2
theorem Ct:call prog (k+4) "fact_told" [.v a.words,.v (bW a b),.v (dj (.dA e' e))] h= .ok (.v (aH (dD v' u' v u))) h:=by
 refine xy (JQ _ _ _) e1 ?_
 simp only [aS]
 rw [xa (Wj (s:=ZG) _ rfl),xa (Wj (s:=ZG) _ rfl),je (Wj (s:=ZG) _ rfl) (Xa rfl (by simp_all [ab,Xq,e2,xY];rfl))]
theorem A3:call prog (k+4) "fact_told" [.v a.words,.v (bW a b),.v (dj (.dQ e' e))] h= .ok (.v (aH (ek (dD v' u' v u) (dD v u v' u')))) h:=by
 refine xy (JQ _ _ _) e1 ?_
 simp only [aS]
 rw [xa (Wj (s:=Zb) _ rfl),xa (Wj (s:=Zb) _ rfl),xa (Wj (s:=Zb) _ rfl)]
 refine qa ((Wt (Wj (s:=Zb) _ rfl)).trans ?_)
 refine(za (by simp_all [ab,Xq,e2];rfl)).trans ?_
 exact qa (Xa rfl (by simp_all [xY,jO]))
end
def V.leaf :V n (Wf.bA n) (xX xg)/\V n (2 ^ (n*n)-1) (xX wn)/\V n 0 (xX Xg):=by
 refine⟨⟨Wf.fA _,λa b c d=> ?_⟩,⟨Nat.sub_lt (Ac9 _) (by decide),λa b c d=> ?_⟩,⟨Ac9 _,λa b c d=> ?_⟩⟩
 ·rw [Wf.d9 c d,decide_eq_true_eq]
  show _↔(k9||(u0&&decide _))=u0
  simp
 ·rw [Ag1,decide_eq_true (Wf.place_lt c d)]
  show _↔(u0||(k9&&decide _))=u0
  simp
 ·rw [Af9]
  show _↔(k9||(k9&&decide _))=u0
  simp
noncomputable def bg (w:Wo) (t:Tx) (x y:Nat):Bool:=if t∈w.T then(w.ts.getD (cX t w.T) 0).testBit (x*w.n+y)else y9 (x=y)&&(w.ks.getD (cX t w.K) 0).testBit x
def vJ (w) (t) (x y):bg w t x y=u0↔fc w (.name t) x y:=by
 show _↔w.at t x y
 unfold bg Wo.at
 split
 ·exact Iff.rfl
 ·rw [Aa0,decide_eq_true_eq]
def bt (a b:Wo):Bool->Ex->Nat->Nat->Bool
 | false,.name t=>bg a t
 | true,.name t=>bg b t
 | _,.same=>xX xg
 | _,.all=>xX wn
 | _,.none=>xX Xg
 | p,.turned e=>λx y=>bt a b p e y x
 | p,.closed e=>Wf.wr (bt a b p e) a.n
 | p,.plus e f=>λx y=>bt a b p e x y||bt a b p f x y
 | p,.less e f=>λx y=>bt a b p e x y&& !bt a b (!p) f x y
 | p,.both e f=>λx y=>bt a b p e x y&&bt a b p f x y
 | p,.joined e f=>λx y=>(Aa5 a.n).any λc=>bt a b p e x c&&bt a b p f c y
def yE (w): ∀ e p,bt w w p e=bt w w u0 e:=by
 intro e
 induction e with
 | name t=>intro p;cases p<;>rfl
 | turned e b=>intro p;simp [bt,b p]
 | closed e b=>intro p;simp [bt,b p]
 | plus e f b a=>intro p;simp [bt,b p,a p]
 | less e f b a=>intro p;simp [bt,b p,a _]
 | both e f b a=>intro p;simp [bt,b p,a p]
 | joined e f b a=>intro p;simp [bt,b p,a p]
 | _=>intro p;cases p<;>rfl
structure Le (a c:Wo):Prop where
 en:c.n=a.n
 nm: ∀t x y,bg a t x y=u0->bg c t x y=u0
def Le.refl (a):Le a a:=⟨rfl,λ_ _ _ h=>h⟩
theorem kH (h: ∀x y,g x y=u0->g' x y=u0): ∀k x y,Wf.wr g k x y=u0->Wf.wr g' k x y=u0
 | 0,x,y,z=>h x y z
 | k+1,x,y,z=>by
  rw [Wf.wr,Ae5,Aa0]at z ⊢
  exact z.elim (λz=> .inl (kH h k x y z)) λz=> .inr ⟨kH h k _ _ z.1,kH h k _ _ z.2⟩
def rD (h: ∀c,f c=u0->g c=u0) (l:List Nat) (z:l.any f=u0):l.any g=true:=by
 rw [Ad1]at z ⊢
 exact let ⟨c,b,a⟩:=z; ⟨c,b,h c a⟩
def wT (L:Le a a') (h:Le b' b): ∀ e x y,(bt a b k9 e x y=u0->bt a' b' k9 e x y=u0)/\(bt a' b' u0 e x y=u0->bt a b u0 e x y=u0):=by
 intro e
 induction e with
 | name t=>exact λx y=>⟨L.nm t x y,h.nm t x y⟩
 | same=>exact λx y=>⟨id,id⟩
 | all=>exact λx y=>⟨id,id⟩
 | none=>exact λx y=>⟨id,id⟩
 | turned e g=>exact λx y=>g y x
 | closed e g=>
  intro x y
  simp [bt,L.en]
  exact⟨kH (λx y=>(g x y).1) _ x y,kH (λx y=>(g x y).2) _ x y⟩
 | plus e f g d=>
  intro x y
  simp [bt,Ae5]
  exact⟨λz=>z.elim (λz=> .inl ((g x y).1 z)) λz=> .inr ((d x y).1 z),λz=>z.elim (λz=> .inl ((g x y).2 z)) λz=> .inr ((d x y).2 z)⟩
 | less e f g d=>
  intro x y
  simp only [bt,Aa0,Ag4,←Ap2]
  exact⟨λz=>⟨(g x y).1 z.1,λq=>z.2 ((d x y).2 q)⟩,λz=>⟨(g x y).2 z.1,λq=>z.2 ((d x y).1 q)⟩⟩
 | both e f g d=>
  intro x y
  simp only [bt,Aa0]
  exact⟨λz=>⟨(g x y).1 z.1,(d x y).1 z.2⟩,λz=>⟨(g x y).2 z.1,(d x y).2 z.2⟩⟩
 | joined e f g d=>
  intro x y
  simp only [bt,L.en]
  exact⟨rD (λc z=>by rw [Aa0]at z ⊢;exact⟨(g x c).1 z.1,(d c y).1 z.2⟩) _,rD (λc z=>by rw [Aa0]at z ⊢;exact⟨(g x c).2 z.1,(d c y).2 z.2⟩) _⟩
def Sub (v w:Nat):Prop:= ∀k,v.testBit k=u0->w.testBit k=u0
def V.sub (h:V n v g) (q:V n w f) (d: ∀x y,g x y=u0->f x y=u0):Sub v w:=λk z=>by
 by_cases a:k<n*n
 ·have c:=h.2 _ _ (Wf.a8 a) (Wf.aW a)
  have b:=q.2 _ _ (Wf.a8 a) (Wf.aW a)
  rw [Wf.bq]at c b
  exact b.mpr (d _ _ (c.mp z))
 ·rw [Ai8 (Ab4 h.1 (Ad (by decide) (Nat.not_lt.mp a)))]at z
  cases z
def Sub.and (h:Sub v w):v &&& w=v:=Aj8 λk=>by
 rw [Ah1]
 cases q:v.testBit k with
 | false=>rfl
 | true=>rw [h k q];rfl
def sub_zero :v-(v &&& w)=0↔Sub v w:=by
 refine⟨λh k z=> ?_,λh=>by rw [h.and,Ao9]⟩
 have e:=congrArg (·.testBit k) h
 simp [Wf.aQ,z,Ae1]at e
 simpa using e
structure B (a b:Wo) (e:Ex) (v u:Nat):Prop where
 lo:V a.n v (bt a b k9 e)
 hi:V a.n u (bt a b u0 e)
section
variable {a b a' b':Wo}{e:Ex}{v u w z:Nat}
def B.mono (h:B a b e v u) (q:B a' b' e w z) (L:Le a a') (c:Le b' b):Sub v w/\Sub z u:=
 ⟨V.sub h.lo (L.en▸q.lo) λx y=>(wT L c e x y).1,V.sub (L.en▸q.hi) h.hi λx y=>(wT L c e x y).2⟩
def B.in (h:B a b e v u) (L:Le a b):Sub v u:=V.sub h.lo h.hi λx y q=>(wT (Le.refl a) L e x y).2 (yE a e k9▸(wT (Le.refl a) L e x y).1 q)
end
def wL (h:a=u0->a'=u0) (q:b=u0->b'=u0) (n:a'=u0->b'=u0->False) (e:xR a b=k0 x):xR a' b'=k0 x:=by
 cases a with
 | true=>rw [h rfl];exact e
 | false=>
  cases b with
  | false=>cases e
  | true=>
   rw [q rfl]
   cases a' with
   | true=>exact(n rfl (q rfl)).elim
   | false=>exact e
def uF (a):xR a (!a)=k0 a:=by cases a<;>rfl
def qS (h:Sub v w/\Sub z u) (q:Sub v' w'/\Sub z' u') (h1:Sub w z) (c:Sub w' z') (e:dD v u v' u'=k0 x):dD w z w' z'=k0 x:=by
 refine wL (λk=> ?_) (λk=> ?_) (λk b=> ?_) e
 ·rw [decide_eq_true_eq,sub_zero]at k ⊢
  exact λi a=>q.1 i (k i (h.2 i a))
 ·rw [Ag4,decide_eq_false_iff_not,sub_zero]at k ⊢
  exact λl=>k λi a=>q.2 i (l i (h.1 i a))
 ·rw [decide_eq_true_eq,sub_zero]at k
  rw [Ag4,decide_eq_false_iff_not,sub_zero]at b
  exact b λi a=>c i (k i (h1 i a))
def di:List Nat->List Nat->Prop
 | [],[]=>True
 | x::xs,y::ys=>x<=y/\di xs ys
 | _,_=>False
theorem di.map (h: ∀x,f x<=g x): ∀l:List Nat,di (l.map f) (l.map g)
 | []=>trivial
 | x::l=>⟨h x,di.map h l⟩
theorem di.sum: ∀ {l m},di l m->l.sum<=m.sum
 | [],[],_=>Aa9 _
 | x::b,y::a,h=>by
  exact Nat.add_le_add h.1 (di.sum h.2)
 | [],_::_,h=>h.elim
 | _::_,[],h=>h.elim
theorem di.all (a: ∀x y,x<=y->p x=u0->q y=u0): ∀ {l m},di l m->l.all p=u0->m.all q=u0
 | [],[],_,_=>rfl
 | x::c,y::b,h,z=>by
  rw [Ah5,Aa0]at z ⊢
  exact⟨a x y h.1 z.1,di.all a h.2 z.2⟩
 | [],_::_,h,_=>h.elim
 | _::_,[],h,_=>h.elim
theorem di.dn (a: ∀x y,x<=y->p y=u0->q x=u0): ∀ {l m},di l m->m.all p=u0->l.all q=u0
 | [],[],_,_=>rfl
 | x::c,y::b,h,z=>by
  rw [Ah5,Aa0]at z ⊢
  exact⟨a x y h.1 z.1,di.dn a h.2 z.2⟩
 | [],_::_,h,_=>h.elim
 | _::_,[],h,_=>h.elim
def uM (p q) (h: ∀x,p x= !q x) (l:List Nat):l.any p= !l.all q:=by
 induction l with
 | nil=>rfl
 | cons x l a=>rw [Af2,Ah5,a,h x,Bool.not_and]
def vZ (j x:Nat):y9 (x<j)= !y9 (j<=x):=by grind
def pQ (s) (j) (l u):JL s j l u=if s∈ [Za,zb]then xR (l.all λx=>y9 (j<=x)) (!u.all λx=>y9 (j<=x))else xR (u.all λx=>y9 (x<=j)) (!l.all λx=>y9 (x<=j)):=by
 rw [JL,uM _ (λx=>decide _) (λx=>vZ j x),uM (λx=>decide _) (λx=>decide _) (λx=>vZ x j)]
def LS (h:di l l') (q:di u' u) (n:di l' u') (e:JL s j l u=k0 x):JL s j l' u'=k0 x:=by
 have up: ∀x y:Nat,x<=y->y9 (j<=x)=u0->y9 (j<=y)=true:=λx y h k=>by
  rw [decide_eq_true_eq]at k ⊢;lia
 have dn: ∀x y:Nat,x<=y->y9 (y<=j)=u0->y9 (x<=j)=true:=λx y h k=>by
  rw [decide_eq_true_eq]at k ⊢;lia
 rw [pQ]at e ⊢
 split at e
 ·rename_i c
  rw [if_pos c]
  refine wL (λk=>h.all up k) (λk=> ?_) (λk a=> ?_) e
  ·rw [Ag4,←Ap2]at k ⊢
   exact λl=>k (q.all up l)
  ·rw [n.all up k]at a;cases a
 ·rename_i c
  rw [if_neg c]
  refine wL (λk=>q.dn dn k) (λk=> ?_) (λk a=> ?_) e
  ·rw [Ag4,←Ap2]at k ⊢
   exact λl=>k (h.dn dn l)
  ·rw [n.dn dn k]at a;cases a
def z6 (s) (h:Sub v w):di (zk n v s) (zk n w s):=by
 have r:di (WA n v) (WA n w):=di.map (λa=>di.sum (di.map (λb=>by
  unfold tb
  cases q:v.testBit (a*n+b)with
  | false=>exact Af3 _
  | true=>rw [h _ q];exact Aa9 _) _)) _
 unfold zk
 split
 ·exact⟨r.sum,trivial⟩
 ·exact r
def QH (s) (j) (l):JL s j l l=k0 (pk s j l):=by
 rw [pQ,pk]
 split<;>exact uF _
def ZS (v u):dD v v u u=k0 (y9 (v-(v &&& u)=0)):=uF _
def gd (a b:Wo):Fc->Option Bool->Prop
 | .dA x y,r=> ∃v u v' u',B a b x v u/\B a b y v' u'/\r=dD v u v' u'
 | .dQ x y,r=> ∃v u v' u',B a b x v u/\B a b y v' u'/\r=ek (dD v u v' u') (dD v' u' v u)
 | .dH x,r=> ∃v u,B a b x v u/\r=JL Za 1 (zk a.n v Za) (zk a.n u Za)
 | .aj x,r=> ∃v u,B a b x v u/\r=JL zc 0 (zk a.n v zc) (zk a.n u zc)
 | .cnt s j x,r=> ∃v u,B a b x v u/\r=JL s j (zk a.n v s) (zk a.n u s)
def Td (a b:Wo):Sy->Option Bool->Prop
 | .fact f,r=>gd a b f r
 | .neg s,r=> ∃q,Td a b s q/\r=q.map (!·)
 | .cx s t,r=> ∃p q,Td a b s p/\Td a b t q/\r=ek p q
 | .cn s t,r=> ∃p q,Td a b s p/\Td a b t q/\r=eY p q
def XY (h: ∀x,p=k0 x->p'=k0 x) (k: ∀x,q=k0 x->q'=k0 x) (e:ek p q=k0 x):ek p' q'=k0 x:=by
 rcases p with _ | _ | _<;>rcases q with _ | _ | _<;>cases e<;>(first | rw [h _ rfl] | skip)<;>(first | rw [k _ rfl] | skip)<;>first | rfl | (rcases p' with _ | _ | _<;>rfl) | (rcases q' with _ | _ | _)
def IK (h: ∀x,p=k0 x->p'=k0 x) (k: ∀x,q=k0 x->q'=k0 x) (e:eY p q=k0 x):eY p' q'=k0 x:=by
 rcases p with _ | _ | _<;>rcases q with _ | _ | _<;>cases e<;>(first | rw [h _ rfl] | skip)<;>(first | rw [k _ rfl] | skip)<;>first | rfl | (rcases p' with _ | _ | _<;>rfl) | (rcases q' with _ | _ | _)
theorem gd.mono (L:Le a a') (g:Le b' b) (i:Le a' b')(h:gd a b f r) (q:gd a' b' f r') (e:r=k0 x):r'=k0 x:=by
 have cnt: ∀ {y}{v u l o}{s}{j},B a b y v u->B a' b' y l o->JL s j _ _=k0 x->JL s j (zk a'.n l s) (zk a'.n o s)=k0 x:=λd c e=>by
  have m:=d.mono c L g
  rw [L.en]
  exact LS (z6 _ m.1) (z6 _ m.2) (z6 _ (c.in i)) e
 cases f with
 | dA y z=>
  obtain⟨v,u,l,o,d,n,rfl⟩:=h
  obtain⟨w,t,A,p,c,k,rfl⟩:=q
  exact qS (d.mono c L g) (n.mono k L g) (c.in i) (k.in i) e
 | dQ y z=>
  obtain⟨v,u,l,o,d,n,rfl⟩:=h
  obtain⟨w,t,A,p,c,k,rfl⟩:=q
  exact XY (λx=>qS (d.mono c L g) (n.mono k L g) (c.in i) (k.in i)) (λx=>qS (n.mono k L g) (d.mono c L g) (k.in i) (c.in i)) e
 | dH y=>
  obtain⟨v,u,d,rfl⟩:=h
  obtain⟨w,t,c,rfl⟩:=q
  exact cnt d c e
 | aj y=>
  obtain⟨v,u,d,rfl⟩:=h
  obtain⟨w,t,c,rfl⟩:=q
  exact cnt d c e
 | cnt s j y=>
  obtain⟨v,u,d,rfl⟩:=h
  obtain⟨w,t,c,rfl⟩:=q
  exact cnt d c e
theorem Td.mono (L:Le a a') (d:Le b' b) (g:Le a' b'): ∀ s r r' x,Td a b s r->Td a' b' s r'->r=k0 x->r'=k0 x
 | .fact f,r,r',x,h,q,e=>gd.mono L d g h q e
 | .neg s,r,r',x,⟨p,h,i⟩,⟨w,q,c⟩,e=>by
  rw [c] ;rw [i]at e
  cases p with
  | none=>cases e
  | some y=>rw [Td.mono L d g s _ _ y h q rfl];exact e
 | .cx s t,r,r',x,⟨n,v,k,m,i⟩,⟨u,o,l,j,c⟩,e=>by
  rw [c];rw [i]at e
  exact XY (λy z=>Td.mono L d g s _ _ y k l z) (λy z=>Td.mono L d g t _ _ y m j z) e
 | .cn s t,r,r',x,⟨n,v,k,m,i⟩,⟨u,o,l,j,c⟩,e=>by
  rw [c];rw [i]at e
  exact IK (λy z=>Td.mono L d g s _ _ y k l z) (λy z=>Td.mono L d g t _ _ y m j z) e
def zp (P:Pt a b) (h): ∀ e m,e.dp+7<=m->e.wf (a.K++a.T)-> ∃v u,B a b e v u/\call prog m "bounds" [.v a.words,.v (bW a b),.v (aT e)] h= .ok (.v (aZ v u)) h:=by
 have n4:=P.mW.wl.n4
 have ew:=P.ew
 have leaf: ∀ e s k v,aT e= .tup [.str s]->(s==Zg)=k9->(s==qp)=k9->V a.n v (bt a b k9 e)->V a.n v (bt a b u0 e)->(∀ l,call prog (k+5) "made" [.i a.n,.s s,.l l] h= .ok (.i v) h)-> ∃v u,B a b e v u/\call prog (k+6) "bounds" [.v a.words,.v (bW a b),.v (aT e)] h= .ok (.v (aZ v u)) h:=by
  intro e s k v L E M A z f
  rw [L]
  exact⟨v,v,⟨A,z⟩,ZB (ps:= []) E M (by simp) (B8 j5) (f _) (f _)⟩
 intro e
 induction e with
 | name t=>
  intro m f wf
  obtain⟨k,rfl⟩: ∃k,m=k+6:=⟨m-6,by simp [Ex.dp]at f;omega⟩
  have G:t∈b.K++b.T:=by rw [P.eK,P.eT];exact wf
  obtain⟨v,A,e1⟩:=zr (k+1) P.mW t wf h
  obtain⟨u,z,e2⟩:=zr (k+1) P.Ll t G h
  have N:V a.n v _:=⟨A.1,λx y D C=>(A.2 x y D C).trans (vJ a t x y).symm⟩
  have J:V b.n u _:=⟨z.1,λx y D C=>(z.2 x y D C).trans (vJ b t x y).symm⟩
  rw [P.en]at J
  rw [ew]at e2
  refine⟨v,u,⟨N,J⟩,?_⟩
  rw [Gb (d:=bB) rfl _ _ _ rfl]
  simp only [bB,aT]
  have i0:dN (.v (bW a b)) (.v (.int 0)) h=k0 a.aD:=rfl
  have i1:dN (.v (bW a b)) (.v (.int 1)) h=k0 b.aD:=rfl
  refine fx (by simp_all [ab,we];rfl) ?_
  rw [qa (w:= .v (aZ v u)) (h1:=h) ((Wt (h1:=h) (Wj (s:=Zg) _ rfl)).trans ?_),Ga _ _ _ rfl]
  refine(za (by simp_all [ab,We];rfl)).trans ?_
  exact qa (Xa rfl (by simp_all [i0,i1,e1,e2]))
 | same=>
  intro m f wf
  obtain⟨k,rfl⟩: ∃k,m=k+6:=⟨m-6,by simp [Ex.dp]at f;omega⟩
  exact leaf .same xg k _ rfl rfl rfl V.leaf.1 V.leaf.1 λl=>Mf k a.n l h n4
 | all=>
  intro m f wf
  obtain⟨k,rfl⟩: ∃k,m=k+6:=⟨m-6,by simp [Ex.dp]at f;omega⟩
  exact leaf .all wn k _ rfl rfl rfl V.leaf.2.1 V.leaf.2.1 λl=>HX k a.n l h n4
 | none=>
  intro m f wf
  obtain⟨k,rfl⟩: ∃k,m=k+6:=⟨m-6,by simp [Ex.dp]at f;omega⟩
  exact leaf .none Xg k _ rfl rfl rfl V.leaf.2.2 V.leaf.2.2 λl=>Ea k a.n l h
 | turned c I=>
  intro m f wf
  simp only [Ex.dp]at f
  obtain⟨k,rfl⟩:=nk m 6 (by omega)
  obtain⟨v,u,q,e1⟩:=I (k+5) (by omega) wf
  exact⟨_,_,⟨q.lo.turned,q.hi.turned⟩,ZB (ps:= [(v,u)]) rfl rfl (by simp) (p5 j5 (ju e1)) (zI k a.n v h n4) (zI k a.n u h n4)⟩
 | closed c I=>
  intro m f wf
  simp only [Ex.dp]at f
  obtain⟨k,rfl⟩:=nk m 6 (by omega)
  obtain⟨v,u,q,e1⟩:=I (k+5) (by omega) wf
  obtain⟨r,O,K⟩:=xJ k a.n v h n4 q.lo.1
  obtain⟨Q,F,H⟩:=xJ k a.n u h n4 q.hi.1
  exact⟨_,_,⟨q.lo.closed O,q.hi.closed F⟩,ZB (ps:= [(v,u)]) rfl rfl (by simp) (p5 j5 (ju e1)) K H⟩
 | plus c d i j=>
  intro m f wf
  simp only [Ex.dp]at f
  obtain⟨k,rfl⟩:=nk m 6 (by omega)
  obtain⟨v,u,q,e1⟩:=i (k+5) (by omega) wf.1
  obtain⟨o,p,n,g⟩:=j (k+5) (by omega) wf.2
  exact⟨_,_,⟨q.lo.plus n.lo,q.hi.plus n.hi⟩,ZB (ps:= [(v,u),(o,p)]) rfl rfl (by simp) (z0 j5 (ju e1) (ju g)) (jV k a.n v o h) (jV k a.n u p h)⟩
 | less c d i j=>
  intro m f wf
  simp only [Ex.dp]at f
  obtain⟨k,rfl⟩:=nk m 6 (by omega)
  obtain⟨v,u,q,e1⟩:=i (k+5) (by omega) wf.1
  obtain⟨o,p,n,g⟩:=j (k+5) (by omega) wf.2
  exact⟨_,_,⟨q.lo.less n.hi,q.hi.less n.lo⟩,Io (z0 j5 (ju e1) (ju g))⟩
 | both c d i j=>
  intro m f wf
  simp only [Ex.dp]at f
  obtain⟨k,rfl⟩:=nk m 6 (by omega)
  obtain⟨v,u,q,e1⟩:=i (k+5) (by omega) wf.1
  obtain⟨o,p,n,g⟩:=j (k+5) (by omega) wf.2
  exact⟨_,_,⟨q.lo.both n.lo,q.hi.both n.hi⟩,ZB (ps:= [(v,u),(o,p)]) rfl rfl (by simp) (z0 j5 (ju e1) (ju g)) (qZ k a.n v o h) (qZ k a.n u p h)⟩
 | joined c d i j=>
  intro m f wf
  simp only [Ex.dp]at f
  obtain⟨k,rfl⟩:=nk m 6 (by omega)
  obtain⟨v,u,q,e1⟩:=i (k+5) (by omega) wf.1
  obtain⟨o,p,n,g⟩:=j (k+5) (by omega) wf.2
  exact⟨_,_,⟨q.lo.joined n.lo,q.hi.joined n.hi⟩,ZB (ps:= [(v,u),(o,p)]) rfl rfl (by simp) (z0 j5 (ju e1) (ju g)) (wH k a.n v o h n4) (wH k a.n u p h n4)⟩
def Q4 (P:Pt a b) (h) (f) (m) (c:f.dp+7<=m) (wf:f.wf (a.K++a.T)): ∃r,gd a b f r/\call prog (m+1) "fact_told" [.v a.words,.v (bW a b),.v (dj f)] h= .ok (.v (aH r)) h:=by
 have n4:=P.mW.wl.n4
 obtain⟨k,rfl⟩:=nk m 3 (by lia)
 cases f with
 | dA x y=>
  simp [Fc.dp]at c
  obtain⟨d,i,g,l⟩:=zp P h x (k+3) (by lia) wf.1
  obtain⟨v,u,q,e⟩:=zp P h y (k+3) (by lia) wf.2
  exact⟨_,⟨d,i,v,u,g,q,rfl⟩,Ct n4 e l⟩
 | dQ x y=>
  simp [Fc.dp]at c
  obtain⟨d,i,g,l⟩:=zp P h x (k+3) (by lia) wf.1
  obtain⟨v,u,q,e⟩:=zp P h y (k+3) (by lia) wf.2
  exact⟨_,⟨d,i,v,u,g,q,rfl⟩,A3 n4 e l⟩
 | dH x=>
  obtain⟨v,u,q,e⟩:=zp P h x _ c wf
  exact⟨_,⟨v,u,q,rfl⟩,HF n4 e⟩
 | aj x=>
  obtain⟨v,u,q,e⟩:=zp P h x _ c wf
  exact⟨_,⟨v,u,q,rfl⟩,BM n4 e⟩
 | cnt s j x=>
  obtain⟨v,u,q,e⟩:=zp P h x _ c wf.2
  exact⟨_,⟨v,u,q,rfl⟩,E8 n4 e wf.1⟩
abbrev rj (a b:Wo) (d:D) (s:Tx):Sl:= [sv a.words,sv (bW a b),sv d,k0 (.s s)]
section
variable {m k:Nat}{a b:Wo}{h:AH}{x y:D}{r q:Option Bool}
def jG (z:execs (u9 m) (match cw.body with | .cons _ r=>r | r=>r) (rj a b (.tup (.str s::ds)) s) h= .ret (.v d) h):call prog (m+1) "told" [.v a.words,.v (bW a b),.t (.str s::ds)] h= .ok (.v d) h:=by
 rw [Gb rfl _ _ _ rfl]
 simp only [cw]at z ⊢
 rw [za (τ1:=rj a b (.tup (.str s::ds)) s) (h1:=h) (by simp_all [ab,we]),z,Ga _ _ _ rfl]
def DT (c:call prog (k+2) "told" [.v a.words,.v (bW a b),.v x] h= .ok (.v (aH r)) h):call prog (k+3) "told" [.v a.words,.v (bW a b),.t [.str qL,x]] h= .ok (.v (aH (r.map (!·)))) h:=by
 refine jG ?_
 simp only [cw]
 rw [je (Wj (s:=qL) _ rfl) (Xa rfl (by simp_all [ab,Xq,c,yP];rfl))]
def DG (d:call prog (k+2) "told" [.v a.words,.v (bW a b),.v x] h= .ok (.v (aH r)) h) (c:call prog (k+2) "told" [.v a.words,.v (bW a b),.v y] h= .ok (.v (aH q)) h):call prog (k+3) "told" [.v a.words,.v (bW a b),.t [.str jw,x,y]] h= .ok (.v (aH (ek r q))) h:=by
 refine jG ?_
 simp only [cw]
 rw [xa (Wj (s:=jw) _ rfl),je (Wj (s:=jw) _ rfl) (Xa rfl (by simp_all [ab,Xq,wE,d,c,jO];rfl))]
def BH (d:call prog (k+2) "told" [.v a.words,.v (bW a b),.v x] h= .ok (.v (aH r)) h) (c:call prog (k+2) "told" [.v a.words,.v (bW a b),.v y] h= .ok (.v (aH q)) h):call prog (k+3) "told" [.v a.words,.v (bW a b),.t [.str Qz,x,y]] h= .ok (.v (aH (eY r q))) h:=by
 refine jG ?_
 simp only [cw]
 rw [xa (Wj (s:=Qz) _ rfl),xa (Wj (s:=Qz) _ rfl),je (Wj (s:=Qz) _ rfl) (Xa rfl (by simp_all [ab,Xq,wE,d,c,AX];rfl))]
def HI (wf:f.wf N) (e:call prog m "fact_told" [.v a.words,.v (bW a b),.v (dj f)] h= .ok (.v (aH r)) h):call prog (m+1) "told" [.v a.words,.v (bW a b),.v (dj f)] h= .ok (.v (aH r)) h:=by
 obtain⟨s,j,d,g,i,c⟩:=FR f wf
 rw [d]at e ⊢
 refine jG ?_
 simp only [cw]
 rw [xa ((Wj _ rfl).trans (by rw [g])),xa ((Wj _ rfl).trans (by rw [i])),xa ((Wj _ rfl).trans (by rw [c])),qa (Xa rfl (by assumption))]
end
def LR (P:Pt a b) (h): ∀ s m,s.dp+9<=m->s.wf (a.K++a.T)-> ∃r,Td a b s r/\call prog m "told" [.v a.words,.v (bW a b),.v (aP s)] h= .ok (.v (aH r)) h:=by
 intro s
 induction s with
 | fact f=>
  intro m c wf
  simp [Sy.dp]at c
  obtain⟨k,rfl⟩:=nk m 2 (by lia)
  obtain⟨r,t,e⟩:=Q4 P h f k (by lia) wf
  exact⟨r,t,HI wf e⟩
 | neg x l=>
  intro m c wf
  simp [Sy.dp]at c
  obtain⟨k,rfl⟩:=nk m 3 (by lia)
  obtain⟨r,t,e⟩:=l (k+2) (by lia) wf
  exact⟨_,⟨r,t,rfl⟩,DT e⟩
 | cx x y g d=>
  intro m c wf
  simp [Sy.dp]at c
  obtain⟨k,rfl⟩:=nk m 3 (by lia)
  obtain⟨r,t,e⟩:=g (k+2) (by lia) wf.1
  obtain⟨q,i,j⟩:=d (k+2) (by lia) wf.2
  exact⟨_,⟨r,q,t,i,rfl⟩,DG e j⟩
 | cn x y g d=>
  intro m c wf
  simp [Sy.dp]at c
  obtain⟨k,rfl⟩:=nk m 3 (by lia)
  obtain⟨r,t,e⟩:=g (k+2) (by lia) wf.1
  obtain⟨q,i,j⟩:=d (k+2) (by lia) wf.2
  exact⟨_,⟨r,q,t,i,rfl⟩,BH e j⟩
mutual
theorem vg: ∀ {d:D},Gf d=u0->cu d d=u0
 | .aj,_=>rfl
 | .bl b,_=>by simp
 | .int i,_=>by simp
 | .str s,_=>by simp
 | .tup xs,h=>by
  rw [cu];exact GI (by simpa [Gf]using h)
 | .lst xs,h=>by
  rw [cu];exact GI (by simpa [Gf]using h)
 | .ref _,h=>by simp at h
theorem GI: ∀ {xs:List D},Gc xs=u0->GK xs xs=u0
 | [],_=>rfl
 | x::xs,h=>by
  have h':Gf x=u0/\Gc xs=true:=by simpa [Gc]using h
  rw [GK,vg h'.1,GI h'.2];rfl
end
mutual
theorem lW {h:AH}: ∀ {d:D},Gf d=u0->res h d=d
 | .aj,_=>rfl
 | .bl b,_=>rfl
 | .int i,_=>rfl
 | .str s,_=>rfl
 | .tup xs,q=>by
  rw [res,GL (by simpa [Gf]using q)]
 | .lst xs,q=>by
  rw [res,GL (by simpa [Gf]using q)]
 | .ref _,q=>by simp at q
theorem GL {h:AH}: ∀ {xs:List D},Gc xs=u0->GU h xs=xs
 | [],_=>rfl
 | x::xs,q=>by
  have h':Gf x=u0/\Gc xs=true:=by simpa [Gc]using q
  rw [GU,lW h'.1,GL h'.2]
end
theorem Xj (f) (a: ∀x,Gf (f x)=u0): ∀l:List α,Gc (l.map f)=u0
 | []=>rfl
 | x::l=>by simp [a x,Xj f a l]
theorem Qy (f) (k) (a: ∀x,dep (f x)<=k): ∀l:List α,GF (l.map f)<=k
 | []=>Af3 _
 | x::l=>by
  have b:=a x
  have c:=Qy f k a l
  exact Nat.max_le.mpr ⟨b,c⟩
def Iq (d) (a:Gf d=u0) (b:dep d<150) (h):Gr .eq (.v d) (.v d) h=k0 true:=by
 show(if GZ (res h d) (res h d)then k0 (cu (res h d) (res h d))else y0)=_
 rw [lW a,if_pos (by simp_all),vg a]
def jx:D->Bool
 | .int _=>u0
 | _=>k9
def Js (d:D) (e:Int):Bool:=match d with
 | .int i=>y9 (0<=i)&&y9 (i<e)
 | _=>k9
def JC (k) (d) (h) (a:Gf d=u0):call prog (k+1) "is_whole" [.v d] h= .ok (.b (jx d)) h:=by
 cases d<;>first | exact Ga _ _ _ rfl | cases a
def jD (k) (d) (e) (h) (b:Gf d=u0):call prog (k+2) "is_below" [.v d,.v (.int e)] h= .ok (.b (Js d e)) h:=by
 rw [Gb rfl _ _ _ rfl]
 have a:=JC k d h b
 cases d with
 | int i=>
  simp [a,QC,jx,Js,Gj]
  by_cases c:0<=i<;>simp [c]
 | _=>first | (simp [a,QC,jx,Js,Gj]) | (simp at b)
def mP (l):Gc (ar l)=true:=Xj _ (λ_=>rfl) l
def Dy (l):GF (ar l)<=0:=Qy _ 0 (λ_=>Aa9 _) l
def AS (k) (d) (h) (c:Gf d=u0):call prog (k+3) "is_size" [.v d] h= .ok (.b (Js d 5)) h:=by
 rw [Gb rfl _ _ _ rfl]
 have b:=jD k d 5 h c
 have e:prog.con.lookup "GREATEST_SIZE" =some _:=rfl
 have a:(4:Int)+1=5:=rfl
 simp only [J2]
 simp_all [e,Xc,a,b]
def pq (k) (d) (h) (c:Gf d=u0) (b:Js d 5=u0):call prog (k+4) "check_size" [.v d] h= .ok (.v .aj) h:=by
 rw [Gb rfl _ _ _ rfl]
 have a:=AS k d h c
 rw [b]at a
 simp only [jE]
 rw [xa (by simp_all [a])]
 simp_all []
def cd:List (Nat×Nat)->Nat
 | []=>0
 | q::r=>q.2+2 ^ q.1*cd r
def dg:List Nat->Nat->List Nat
 | [],_=> []
 | w::a,c=>c % 2 ^ w::dg a (c / 2 ^ w)
def cK (n K T:Nat):List Nat:=Aa3 K n++Aa3 T (n*n)
structure Wl (n:Nat) (ks ts:List Nat):Prop where
 n4:n<=4
 k4:ks.length<=4
 t4:ts.length<=4
 bk: ∀x∈ks,x<2 ^ n
 bt: ∀x∈ts,x<2 ^ (n*n)
def lU (n K T):(cK n K T).length=K+T:=by simp [cK]
abbrev lH (A B:List D):D:= .tup [.tup A,.tup B]
def DD (n K T):ar (cK n K T)=Aa3 K (.n n)++Aa3 T (.n (n*n)):=by simp [cK]
theorem xw (x): ∀m,(Aa3 m x).sum=m*x
 | 0=>by simp
 | m+1=>by rw [Ae4,Al3,xw x m,Nat.succ_mul,Ap]
def o9 (n K T):(cK n K T).sum=K*n+T*(n*n):=by rw [cK,List.sum_append,xw,xw]
theorem uZ (h): ∀ ws c i j,(∀ w∈ws,w<=16)->i.length+ws.length<=1000-> ∃M L,
 Gq (Gp [5] u0) (λτ h=>execs F Zs τ h) (ar ws) [x0,x1,x2,k0 (.own (ar i)),si c,j,x6] h= .next [x0,x1,x2,k0 (.own (ar (i++dg ws c))),M,L,x6] h
 | [],c,i,j,_,_=>⟨si c,j,by simp [dg]⟩
 | w::ws,c,i,j,b,o=>by
  rw [Aa6]at o
  have d:=b w Aa4
  obtain⟨M,L,e⟩:=uZ h ws (c / 2 ^ w) (i++ [c % 2 ^ w]) (si w) (λx f=>b x (Aa2 _ f)) (by simp;omega)
  refine⟨M,L,?_⟩
  have k:=ZU w (by omega)
  have p:0<2 ^ w:=Nat.pow_pos (by decide)
  have l:((2 ^ w:Nat))-1=((2 ^ w-1:Nat):Int):=by omega
  have a:=zd c (2 ^ w-1)
  rw [Af4]at a
  have n:=Jk c w
  have g:(ar i).length<bh:=by rw [Gg,Aa];omega
  have m:ar (i++ [c % 2 ^ w])=ar i++ [.n (c % 2 ^ w)]:=by simp
  rw [show ar (w::ws)= .n w::ar ws from rfl,jb rfl ?_,e,Ae6]
  ·rfl
  ·rw [m]
   simp_all [Zs,k,Ze,l,jc,a,g,if_true,n]
def rk (x) (m) (a:m<=1000) (h):GW .mul (.own [x]) (.i m) h= .ok (.own (Aa3 m x)) h:=by
 show Kv [x] m h=_
 have c: -1000<=(m:Int)/\(m:Int)<=1000/\ [x].length*(m:Int).toNat<=bh:=by rw [Gg,Ad4];simp;lia
 rw [Kv,if_pos c,Ad4,show(Aa3 m [x]).flatten=Aa3 m x by simp]
def tw (k n) (A B) (h) (g:n<=4) (f:A.length<=4) (e:B.length<=4):call prog (k+1) "widths" [.v (lH A B),.i n] h= .ok (.own (ar (cK n A.length B.length))) h:=by
 rw [Gb rfl _ _ _ rfl]
 have a:=Qc n n (by lia)
 have c:=rk (.n n) A.length (by lia) h
 have d:=rk (.n (n*n)) B.length (by lia) h
 have b:(Aa3 A.length (D.n n)).length+(Aa3 B.length (D.n (n*n))).length<=bh:=by rw [Gg];simp;lia
 rw [DD]
 simp only [u4]
 simp_all [ab,zf,We,Xf,c,a,d,Hy,b,if_true]
def u7 (k n) (A B) (h) (e:n<=4) (d:A.length<=4) (c:B.length<=4):call prog (k+2) "bits" [.v (lH A B),.i n] h= .ok (.i ((cK n A.length B.length).sum)) h:=by
 rw [Gb rfl _ _ _ rfl]
 have a:=tw k n A B h e d c
 have b:(ar (cK n A.length B.length)).length<=bh:=by rw [Gg,Aa,lU];lia
 simp only [tR]
 simp_all [a,tJ,b,if_true,qU]
theorem rr (n): ∀m,Aa5 (m*n)=(Aa5 m).flatMap λa=>(Aa5 n).map (a*n+ ·)
 | 0=>by simp
 | m+1=>by rw [zB,rr n m,List.range_succ,List.flatMap_append];simp
def K6 (n t):Wf.ax n t=(Aa5 n).flatMap λa=>((Aa5 n).filter λb=>t.testBit (a*n+b)).map λb=>(a,b):=by
 unfold Wf.ax
 rw [rr n n,List.filter_flatMap,List.map_flatMap]
 rw [List.flatMap_def,List.flatMap_def]
 congr 1
 refine Ai1 λa d=> ?_
 rw [An,Ad6]
 refine Ai1 λb c=> ?_
 have c:=Ab8.mp (Ai9.mp c).1
 show(_ / n,_ % n)=_
 rw [Wf.aF c,Wf.aJ c]
def Q2 (n t) (f) (z:α):(Wf.ax n t).foldl f z=(Aa5 n).foldl (λz a=>(Aa5 n).foldl (λz b=>if t.testBit (a*n+b)then f z (a,b)else z) z) z:=by
 rw [K6,List.foldl_flatMap]
 congr 1
 funext z a
 rw [List.foldl_map,List.foldl_filter]
def lz (e:Gj τ i=si n) (a:n<=1000000):Gs F (.av (.var i)) τ h= .ok ((Aa5 n).map λi=> .n i) h:=Jt (by rw [eval,e]) a
def su {st:Nat->Option W->Option W->Option W->Sl}{f:Nat->Nat->Nat->Nat}(A:n<=1000)
 (o:b2= .cons (.for [j] u0 (.av .v0) b1) .nil) (s: ∀t x y z,Gj (st t x y z) 0=si n)
 (q: ∀d t x y z,GC (st t x y z) i (.v d)=st t (sv d) y z) (w: ∀d t x y z,GC (st t x y z) j (.v d)=st t x (sv d) z)
 (r: ∀a b t z,a<n->b<n-> ∃L,execs F b1 (st t (si a) (si b) z) h= .next (st (f a b t) (si a) (si b) L) h):
 ∀(l:List Nat) t x y z,(∀ a∈l,a<n)-> ∃V M L,Gq (Gp [i] u0) (λτ h=>execs F b2 τ h) (l.map λa=>D.n a) (st t x y z) h= .next (st (l.foldl (λt a=>(Aa5 n).foldl (λt b=>f a b t) t) t) V M L) h:=by
 have dA: ∀ a,a<n-> ∀(l:List Nat) t y z,(∀ b∈l,b<n)-> ∃M L,Gq (Gp [j] u0) (λτ h=>execs F b1 τ h) (l.map λb=>D.n b) (st t (si a) y z) h= .next (st (l.foldl (λt b=>f a b t) t) (si a) M L) h:=by
  intro a u l
  induction l with
  | nil=>exact λt y z _=>⟨y,z,rfl⟩
  | cons b l p=>
   intro t y z g
   obtain⟨m,e1⟩:=r a b t z u (g b Aa4)
   obtain⟨M,L,e⟩:=p _ _ m λc k=>g c (Aa2 _ k)
   refine⟨M,L,?_⟩
   rw [Ab1,jb (by simp_all) e1,e]
   rfl
 intro l
 induction l with
 | nil=>exact λt x y z _=>⟨x,y,z,rfl⟩
 | cons a l p=>
  intro t x y z g
  obtain⟨v,m,e1⟩:=dA a (g a Aa4) _ t y z λb o=>Ab8.mp o
  obtain⟨V,M,L,e⟩:=p _ _ v m λc k=>g c (Aa2 _ k)
  refine⟨V,M,L,?_⟩
  rw [Ab1,jb (by rw [GA,q]) (by
   rw [o,execs,exec]
   rw [lz (s _ _ _ _) (by lia),R.au,e1,O.bM,execs]),e]
  rfl
def oM (o c):Gi .band ((o / 2 ^ c:Nat):Int) 1=k0 ((((o.testBit c).toNat:Nat)):Int):=by
 rw [jc,show 1=((1:Nat):Int)from rfl,zd,ZQ]
def rF (x) (h):Gr .eq (.i (x.toNat)) (.v (.int 1)) h=k0 x:=by
 cases x<;>rfl
abbrev lB (n o p t:Nat) (x y z:Option W):Sl:= [si n,si o,si p,si t,x,y,z]
def wW (k n o p) (h) (l:n<=20):call prog (k+1) "_law_joined" [.i n,.i o,.i p] h= .ok (.i (Wf.joinM n o p)) h:=by
 rw [Gb rfl _ _ _ rfl]
 have step: ∀a b t z,a<n->b<n-> ∃g,execs (u9 k) zi (lB n o p t (si a) (si b) z) h= .next (lB n o p (if o.testBit (a*n+b)then t ||| Wf.cg n p b*2 ^ (a*n)else t) (si a) (si b) g) h:=by
  intro a b t z f B
  have j:Gi .mul (a:Int) (n:Int)=k0 _:=Qc a n (by omega)
  have d:Gi .mul (b:Int) (n:Int)=k0 _:=Qc b n (by omega)
  have x:(p / 2 ^ (b*n) &&& (2 ^ n-1))=Wf.cg n p b:=by rw [Af4];rfl
  have y:a*n<=400:=Ab5 (Af1 (Ag3 f) (Aa9 n)) (Qh l)
  have u:=WQ _ (a*n) (Ab4 (Wf.cY n p b) (Ab5 (Ad (by decide) l) (by decide))) (by omega)
  have v:=ZU n (by omega)
  have c:((2 ^ n:Nat):Int)-1=((2 ^ n-1:Nat):Int):=by
   have:=Ac9 n
   omega
  have m:Gm (u9 k) (.cmp .eq (.bin .band (.bin .shr .v1 (.bin .add (.bin .mul .v4 .v0) .v5)) (.int 1)) (.int 1)) (lB n o p t (si a) (si b) z) h= .ok (o.testBit (a*n+b)) h:=by
   have r:(((a*n:Nat):Int)+(b:Int))=((a*n+b:Nat):Int):=rfl
   simp_all [j,Xc,r,Jk,oM,rF]
  cases q:o.testBit (a*n+b)with
  | false=>
   refine⟨z,?_⟩
   unfold zi
   rw [xa (by rw [m,q]),execs]
   rfl
  | true=>
   refine⟨si (Wf.cg n p b),?_⟩
   unfold zi
   rw [execs,Wt (by rw [m,q])]
   simp_all [j,d,Jk,v,Ze,c,jc,zd,x,u,Zm,Zl,if_true]
 obtain⟨A,s,g,e⟩:=su (i:=4) (b2:=xu) (by omega) rfl (λ_ _ _ _=>rfl) (λ_ _ _ _ _=>rfl) (λ_ _ _ _ _=>rfl) step _ 0 y0 y0 y0 λa f=>Ab8.mp f
 simp only [JE]
 rw [za (τ1:=lB n o p 0 y0 y0 y0) rfl]
 rw [za (τ1:=lB n o p (Wf.joinM n o p) A s g) (h1:=h) (by
  rw [exec,lz (n:=n) rfl (by omega),R.au,e]
  rw [Wf.joinM,Q2])]
 rw [qa (w:= .i (Wf.joinM n o p)) (h1:=h) rfl,Ga _ _ _ rfl]
abbrev iZ (n o t:Nat) (x y:Option W):Sl:= [si n,si o,si t,x,y]
def rq (k n o) (h) (v:n<=20):call prog (k+1) "_law_turned" [.i n,.i o] h= .ok (.i (Wf.bE n o)) h:=by
 rw [Gb (d:=Wr) rfl _ _ _ rfl]
 have step: ∀a b t (z:Option W),a<n->b<n-> ∃A:Option W,execs (u9 k) Wm (iZ n o t (si a) (si b)) h= .next (iZ n o (if o.testBit (a*n+b)then t ||| 2 ^ (b*n+a)else t) (si a) (si b)) h:=by
  intro a b t z f s
  refine⟨y0,?_⟩
  have p:Gi .mul (a:Int) (n:Int)=k0 _:=Qc a n (by omega)
  have c:Gi .mul (b:Int) (n:Int)=k0 _:=Qc b n (by omega)
  have B:b*n+a<=400:=Ab5 (Ag3 (Wf.place_lt s f)) (Qh v)
  have r:=ZU (b*n+a) (by omega)
  have u:(((b*n:Nat):Int)+(a:Int))=((b*n+a:Nat):Int):=rfl
  have g:Gm (u9 k) (.cmp .eq (.bin .band (.bin .shr .v1 (.bin .add (.bin .mul .v3 .v0) .v4)) (.int 1)) (.int 1)) (iZ n o t (si a) (si b)) h= .ok (o.testBit (a*n+b)) h:=by
   have l:(((a*n:Nat):Int)+(b:Int))=((a*n+b:Nat):Int):=rfl
   simp_all [p,Xc,l,Jk,oM,rF]
  unfold Wm
  cases q:o.testBit (a*n+b)with
  | false=>
   rw [xa (by rw [g,q]),execs]
   rfl
  | true=>
   rw [execs,Wt (h1:=h) (by rw [g,q])]
   simp_all [c,Xc,u,r,Zm,Zl,if_true]
 obtain⟨C,m,A,e⟩:=su (st:=λt x y _=>iZ n o t x y) (i:=3) (j:=4) (b2:=zv) (by omega) rfl (λ_ _ _ _=>rfl) (λ_ _ _ _ _=>rfl) (λ_ _ _ _ _=>rfl) step _ 0 y0 y0 y0 λa f=>Ab8.mp f
 simp only [Wr]
 rw [za (τ1:=iZ n o 0 y0 y0) (h1:=h) rfl]
 rw [za (τ1:=iZ n o (Wf.bE n o) C m) (h1:=h) (by
  rw [exec,lz (n:=n) rfl (by omega),R.au,e]
  rw [Wf.bE,Wf.cO,Wf.kL,List.foldl_map,Q2])]
 rw [qa (w:= .i (Wf.bE n o)) (h1:=h) rfl,Ga _ _ _ rfl]
def cL (n t:Nat):Nat->Nat
 | 0=>t
 | i+1=>cL n t i ||| Wf.joinM n (cL n t i) t
theorem mu : ∀ {l:List Nat},(∀ x∈l,p x=u0->q x=u0)->(∃ x∈l,q x=u0/\p x=k9)->(l.filter p).length<(l.filter q).length
 | [],_,h=>by obtain⟨x,a,_⟩:=h;cases a
 | y::l,h,g=>by
  have le: ∀l:List Nat,(∀ x∈l,p x=u0->q x=u0)->(l.filter p).length<=(l.filter q).length:=by
   intro l
   induction l with
   | nil=>exact λ_=>Aa9 _
   | cons z l b=>
    intro c
    have j:=b λx a=>c x (Aa2 _ a)
    have i:=c z Aa4
    rw [Al1,Al1]
    cases e1:p z with
    | true=>rw [i e1,if_pos rfl,if_pos rfl,Aa6,Aa6];omega
    | false=>
     rw [if_neg Ab2]
     cases q z with
     | true=>rw [if_pos rfl,Aa6];omega
     | false=>rw [if_neg Ab2];exact j
  have k:=le l λx a=>h x (Aa2 _ a)
  have f:=h y Aa4
  obtain⟨x,a,e,d⟩:=g
  rw [Al1,Al1]
  rcases Ac.mp a with rfl | a
  ·rw [e,d,if_pos rfl,if_neg Ab2,Aa6];omega
  ·have b:=mu (λx a=>h x (Aa2 _ a)) ⟨x,a,e,d⟩
   cases e1:p y with
   | true=>rw [f e1,if_pos rfl,if_pos rfl,Aa6,Aa6];omega
   | false=>
    rw [if_neg Ab2]
    cases q y with
    | true=>rw [if_pos rfl,Aa6];omega
    | false=>rw [if_neg Ab2];exact b
section
variable {n t:Nat}
def Qt (e:a<n) (d:b<n):(cL n t (i+1)).testBit (a*n+b)=((cL n t i).testBit (a*n+b)||(Aa5 n).any λc=>(cL n t i).testBit (a*n+c)&&t.testBit (c*n+b)):=by
 rw [cL,Ae8,Wf.b4 (Wf.place_lt e d),Wf.cG d]
def ku (n t i a:Nat):Prop:= ∀b,b<n->(cL n t (i+1)).testBit (a*n+b)=(cL n t i).testBit (a*n+b)
def JX (e:a<n) (h:ku n t i a):ku n t (i+1) a:=λb d=>by
 rw [Qt e d]
 cases q:(Aa5 n).any λc=>(cL n t _).testBit _&&t.testBit (c*n+b)with
 | false=>rw [Bool.or_false]
 | true=>
  rw [Bool.or_true,Qt e d,Ao0.mpr (.inr ?_)]
  rw [Ad1]at q ⊢
  obtain⟨c,f,z⟩:=q
  rw [h c (Ab8.mp f)]at z
  exact⟨c,f,z⟩
abbrev lQ (n t i a:Nat):Nat:=((Aa5 n).filter λb=>(cL n t i).testBit (a*n+b)).length
def sA (d:a<n) (h: ¬ku n t i a):lQ n t i a<lQ n t (i+1) a:=by
 have h: ∃b,b<n/\(cL n t _).testBit _≠(cL n t i).testBit _:=Aj1 λz=>h λb c=>Aj1 λq=>z ⟨b,c,q⟩
 obtain⟨b,c,ne⟩:=h
 refine mu (λx e z=>by rw [Qt d (Ab8.mp e),z,Am]) ⟨b,Ab8.mpr c,?_⟩
 cases q:(cL n t i).testBit (a*n+b)with
 | false=>rw [q]at ne;exact⟨by simpa using ne,rfl⟩
 | true=>exact absurd (by rw [Qt d c,q,Am]) ne
theorem pd (b:a<n): ∀i,ku n t i a\/i<=lQ n t i a
 | 0=> .inr (Af3 _)
 | i+1=>(pd b i).elim (λz=> .inl (JX b z)) λz=>by
  by_cases q:ku n t i a
  ·exact .inl (JX b q)
  ·have:=sA b q
   exact .inr (by omega)
def En (b:a<n):ku n t n a:=(pd b n).elim id λz=>Aj1 λq=>by
 have c:=sA b q
 have d:lQ n t (n+1) a<=n:=Ab5 (Aj0 _ _) (by simp)
 omega
theorem z9: ∀(i a b),a<n->b<n->(cL n t i).testBit (a*n+b)=u0->Wf.TC n t a b
 | 0,a,b,d,e,z=> .step d e z
 | i+1,a,b,d,e,z=>by
  rw [Qt d e,Ae5,Ad1]at z
  rcases z with z | ⟨c,f,z⟩
  ·exact z9 i a b d e z
  ·rw [Aa0]at z
   have f:=Ab8.mp f
   exact .more (z9 i a c d f z.1) f e z.2
theorem pR: ∀(i k),t.testBit k=u0->(cL n t i).testBit k=u0
 | 0,_,z=>z
 | i+1,k,z=>by rw [cL,Ae8,pR i k z,Am]
theorem vD (a:t<2 ^ (n*n)): ∀i,cL n t i<2 ^ (n*n)
 | 0=>a
 | i+1=>Ak7 (vD a i) (Wf.c9 _ _ _)
def ra (i:t<2 ^ (n*n)):Wf.eR n t (cL n t n):=⟨vD i n,λa b c j=>⟨z9 n a b c j,λg=>by
 induction g with
 | step e f d=>exact pR n _ d
 | more g e f d h=>
  rw [← En c _ f,Qt c f,Ao0,Ad1]
  exact .inr ⟨_,Ab8.mpr e,by rw [h e,d];rfl⟩⟩⟩
end
abbrev lI (n t r:Nat) (x:Option W):Sl:= [si n,si t,si r,x]
theorem WO (k n t) (a:n<=20) (h): ∀ m i x,∃L,Gq (Gp [3] u0) (λτ h=>execs (u9 (k+1)) Xm τ h) ((Aa5 m).map λj=>D.n (i+j)) (lI n t (cL n t i) x) h= .next (lI n t (cL n t (i+m)) L) h
 | 0,i,x=>⟨x,rfl⟩
 | m+1,i,x=>by
  obtain⟨L,e⟩:=WO k n t a h m (i+1) (si (i))
  refine⟨L,?_⟩
  rw [Ah2,Ab1,Ad6,jb (τ1:=lI n t (cL n t i) (si (i))) rfl (by
   unfold Xm
   rw [za (τ1:=lI n t (cL n t (i+1)) (si (i))) (by simp_all [wW k n (cL n t i) t h a,Zl];rfl),execs])]
  have:((λj=>D.n (i+j))∘Nat.succ)=λj=>D.n (i+1+j):=by
   funext j
   show D.n (i+(j+1))=_
   rw [show i+(j+1)=i+1+j by omega]
  rw [this,e,show i+1+m=i+(m+1)by omega]
def p9 (k n t) (h) (a:n<=20):call prog (k+2) "_law_closed" [.i n,.i t] h= .ok (.i (cL n t n)) h:=by
 rw [Gb rfl _ _ _ rfl]
 obtain⟨b,e⟩:=WO k n t a h n 0 y0
 simp [Am0]at e
 simp only [xF]
 rw [za rfl]
 rw [za (by rw [exec,lz rfl (by lia),R.au];exact e)]
 rw [qa rfl,Ga _ _ _ rfl]
def Ba (a b:Nat):Kx (a:Int) (b:Int)=k0 ((a ^^^ b:Nat):Int):=rfl
def ud (k n) (h) (l:n<=4):call prog (k+1) "_law_same" [.i n] h= .ok (.i (Wf.bA n)) h:=by
 rw [Gb rfl _ _ _ rfl]
 have e:eval (u9 k) xr [si n] h= .ok (.own (ar ((Aa5 n).map λa=>2 ^ (a*n+a)))) h:=by
  unfold xr
  rw [xo (λa=> .n _) rfl (by omega) λa b=>⟨.i _,?_,rfl⟩]
  ·rw [ar,Ad6];rfl
  ·have d:=Qc a n (by omega)
   have g:=ZU (a*n+a) (by have:=Wf.place_lt b b;have:=Qh (show n<=20 by omega);omega)
   have f:(((a*n:Nat):Int)+(a:Int))=((a*n+a:Nat):Int):=rfl
   simp_all [d,Xc,f,g]
 have j:((Aa5 n).map λa=>2 ^ (a*n+a)).sum=Wf.bA n:=by
  have:n=0\/n=1\/n=2\/n=3\/n=4:=by omega
  rcases this with rfl | rfl | rfl | rfl | rfl<;>decide +kernel
 have i:dk .sum [.own (ar ((Aa5 n).map λa=>2 ^ (a*n+a)))] h= .ok (.i (Wf.bA n)) h:=by
  show(R.of h ((k0 (ar ((Aa5 n).map λa=>2 ^ (a*n+a)))).bind λc=>if c.length<=bh then Ki c else y0)).bind _=_
  rw [Ag0,if_pos (by rw [Gg,ar,Aa,Aa,Ah0];omega),qU,j]
  rfl
 simp only [zO]
 rw [qa (w:= .i (Wf.bA n)) (h1:=h) (Xa rfl (by simp_all [e,i])),Ga _ _ _ rfl]
def XO (k n s t) (h) (a:n<=20):(call prog (k+2) "_law_two" [.s jF,.i n,.i s,.i t] h= .ok (.i (s ||| t)) h ∧
 call prog (k+2) "_law_two" [.s jz,.i n,.i s,.i t] h= .ok (.i (s &&& t)) h) ∧
 call prog (k+2) "_law_two" [.s xf,.i n,.i s,.i t] h= .ok (.i (Wf.joinM n s t)) h:=by
 refine⟨⟨?_,?_⟩,?_⟩
 all_goals
  rw [Gb rfl _ _ _ rfl]
  simp only [WU]
 ·show Gv _ (execs _ _ [k0 _,si n,si s,si t] h)=_
  rw [je (w:= .i (s ||| t)) (Wj (s:=jF) _ rfl) (Xa rfl (by simp_all [Zm,Zl])),Ga _ _ _ rfl]
 ·show Gv _ (execs _ _ [k0 _,si n,si s,si t] h)=_
  rw [xa (Wj (s:=jz) _ rfl),je (w:= .i (s &&& t)) (Wj (s:=jz) _ rfl) (Xa rfl (by simp_all [jc,zd])),Ga _ _ _ rfl]
 ·show Gv _ (execs _ _ [k0 (.s xf),si n,si s,si t] h)=_
  rw [xa (Wj (s:=xf) _ rfl),xa (Wj (s:=xf) _ rfl),qa (w:= .i (Wf.joinM n s t)) (h1:=h) (Xa rfl (by simp_all [wW k n s t h a])),Ga _ _ _ rfl]
def V.hG (h:V n s g) (q:V n t f):V n (s &&& ((2 ^ (n*n)-1) ^^^ t)) λa b=>g a b&& !f a b:=⟨Ah6 Nat.and_le_left h.1,λa b j i=>by
 have l:=h.2 a b j i
 have k:=q.2 a b j i
 rw [Ah1,Nat.testBit_xor,Ag1,decide_eq_true (Wf.place_lt j i),Bool.true_xor,Aa0,Aa0,l]
 constructor
 ·rintro ⟨d,c⟩
  refine⟨d,?_⟩
  cases e:f a b with
  | false=>rfl
  | true=>rw [k.mpr e]at c;cases c
 ·rintro ⟨d,c⟩
  refine⟨d,?_⟩
  cases e:t.testBit (a*n+b)with
  | false=>rfl
  | true=>rw [k.mp e]at c;cases c⟩
def aN (N:List Tx) (f:Tx->Nat×Nat):List (Tx×D):=N.map λt=>(t,aZ (f t).1 (f t).2)
theorem og : ∀ {N},t∈N->(aN N f).lookup t=k0 (aZ (f t).1 (f t).2)
 | y::N,h=>by
  show Aj t ((y,_)::aN N f)=_
  rw [Ab7]
  by_cases e:t=y
  ·subst e;rw [beq_self_eq_true]
  ·rw [beq_eq_false_iff_ne.mpr e]
   exact og ((Ac.mp h).resolve_left e)
structure Dc (a b:Wo) (f:Tx->Nat×Nat) (r:Nat) (h:AH):Prop where
 ad:h[r]? =k0 (.aM (aN (a.K++a.T) f))
 n4:a.n<=4
 lo: ∀t∈a.K++a.T,V a.n (f t).1 (bg a t)
 hi: ∀t∈a.K++a.T,V a.n (f t).2 (bg b t)
noncomputable abbrev iU (n r:Nat) (d:D) (s:Tx) (b x6 x7 c a:Option W):Sl:= [si n,k0 (.r r),sv d,k0 (.s s),si (2 ^ (n*n)-1),b,x6,x7,c,a]
def QS (s) (a:List Tx) (h):Gr .mem (.s s) (.own (a.map .str)) h=k0 (y9 (s∈a)):=qy s a (.own _) h rfl rfl
section
variable {m n r:Nat}{h:AH}
def jR (e:n<=4) (z:execs (u9 m) (match ay.body with | .cons _ (.cons _ r)=>r | r=>r) (iU n r (.tup (.str s::ds)) s y0 y0 y0 y0 y0) h= .ret w h) (c:Gv h.length (.ret w h)= .ok w h):call prog (m+1) "_law_bounds" [.i n,.r r,.t (.str s::ds)] h= .ok w h:=by
 rw [Gb rfl _ _ _ rfl]
 simp only [ay]at z ⊢
 have b:=Qc n n (by lia)
 have d:=ZU (n*n) (by have:=Qh (show n<=20 by lia);lia)
 have a:((2 ^ (n*n):Nat):Int)-1=((2 ^ (n*n)-1:Nat):Int):=by
  have:=Ac9 (n*n)
  lia
 refine fx (by simp_all [ab,we];rfl) ?_
 rw [za (τ1:=iU n r (.tup (.str s::ds)) s y0 y0 y0 y0 y0) (h1:=h) (by simp_all [b,d,Ze,a]),z]
 exact c
def Mj (a:n<=4) (e:h[r]? =k0 (.aM kvs)) (l:kvs.lookup t=k0 d):call prog (m+1) "_law_bounds" [.i n,.r r,.t [.str Zg,.str t]] h= .ok (.v d) h:=by
 refine jR a ?_ (Ga _ _ _ rfl)
 simp only [ay]
 have dd:GT h (k0 (.r r))=k0 (r,kvs):=by unfold GT;simp [e]
 have dg:eE (.s t) (k0 (r,kvs)) h=aq d h:=by unfold eE;simp [l]
 rw [je (w:= .v d) (Wj (s:=Zg) _ rfl) (Xa rfl (by simp_all [dd,ab,We,dg]))]
def q9 (e:n<=4) (i:(s==Zg)=k9) (f:s∈ [xg,wn,Xg]) (a:List.lookup s [(xg,Wf.bA n),(wn,2 ^ (n*n)-1),(Xg,0)]=k0 v):call prog (m+2) "_law_bounds" [.i n,.r r,.t [.str s]] h= .ok (.v (aZ v v)) h:=by
 refine jR e ?_ (Ga _ _ _ rfl)
 simp only [ay]
 have j:Gm (u9 (m+1)) (.cmp .mem .v3 (.lst (.c (.str xg) (.str wn) (.str Xg)))) (iU n r (.tup [.str s]) s y0 y0 y0 y0 y0) h= .ok u0 h:=by
  have:=QS s [xg,wn,Xg] h
  simp only [Ab1,Ae9]at this
  simp_all [this,decide_eq_true f]
 have g:fu [(xg,.i (Wf.bA n)),(wn,.i (2 ^ (n*n)-1)),(Xg,.v (.int 0))] (k0 (.s s)) h= .ok (.i v) h:=by
  unfold fu
  simp only [Ab7,List.lookup_nil]at a ⊢
  cases d:s==xg with
  | true=>rw [d]at a;cases a;rfl
  | false=>
   rw [d]at a
   cases c:s==wn with
   | true=>rw [c]at a;cases a;rfl
   | false=>
    rw [c]at a
    cases b:s==Xg with
    | true=>rw [b]at a;cases a;rfl
    | false=>rw [b]at a;cases a
 rw [xa ((Wj _ rfl).trans (by rw [i]))]
 rw [qa]
 refine(Wt j).trans ?_
 refine(za (by simp_all [ud m n h e,g];rfl)).trans ?_
 rw [qa (w:= .v (aZ v v)) (h1:=h) (Xa rfl (by simp_all []))]
def pf (a:aV (.str s::ds) i=k0 d) (e:call prog m "_law_bounds" [.i n,.r r,.v d] h= .ok (.v (aZ v u)) h):eval (u9 m) (.call "_law_bounds" (.c .v0 .v1 (.ix .v2 (.int i)))) (iU n r (.tup (.str s::ds)) s x5 x6 x7 x8 x9) h= .ok (.v (aZ v u)) h:=by
 simp_all [ab,a,e]
def ni (f:n<=4) (c:(s==Zg)=k9) (b:s∉ [xg,wn,Xg]) (e:call prog m "_law_bounds" [.i n,.r r,.v d] h= .ok (.v (aZ v u)) h)
 (z:execs (u9 m) (match ay.body with | .cons _ (.cons _ (.cons _ (.cons _ (.cons _ r))))=>r | r=>r) (iU n r (.tup (.str s::d::ds)) s y0 (si v) (si u) y0 y0) h= .ret w h) (a:Gv h.length (.ret w h)= .ok w h):call prog (m+1) "_law_bounds" [.i n,.r r,.t (.str s::d::ds)] h= .ok w h:=by
 refine jR f ?_ a
 simp only [ay]at z ⊢
 have g:Gm (u9 m) (.cmp .mem .v3 (.lst (.c (.str xg) (.str wn) (.str Xg)))) (iU n r (.tup (.str s::d::ds)) s y0 y0 y0 y0 y0) h= .ok k9 h:=by
  have:=QS s [xg,wn,Xg] h
  simp only [Ab1,Ae9]at this
  simp_all [this,decide_eq_false b]
 rw [xa ((Wj _ rfl).trans (by rw [c])),xa g]
 refine(za (by rw [exec,pf (Xq _ _ _) e,R.au];rfl)).trans ?_
 exact z
def Ia (a:n<=4) (e:call prog (m+1) "_law_bounds" [.i n,.r r,.v d] h= .ok (.v (aZ v u)) h):call prog (m+2) "_law_bounds" [.i n,.r r,.t [.str Xh,d]] h= .ok (.v (aZ (Wf.bE n v) (Wf.bE n u))) h:=by
 refine ni a rfl (by decide) e ?_ (Ga _ _ _ rfl)
 simp only [ay]
 rw [je (w:= .v (aZ (Wf.bE n v) (Wf.bE n u))) (Wj (s:=Xh) _ rfl) (Xa rfl (by simp_all [rq m n v h (by lia),rq m n u h (by lia)]))]
def Dk (a:n<=4) (e:call prog (m+2) "_law_bounds" [.i n,.r r,.v d] h= .ok (.v (aZ v u)) h):call prog (m+3) "_law_bounds" [.i n,.r r,.t [.str Wh,d]] h= .ok (.v (aZ (cL n v n) (cL n u n))) h:=by
 refine ni a rfl (by decide) e ?_ (Ga _ _ _ rfl)
 simp only [ay]
 rw [xa (Wj (s:=Wh) _ rfl),je (w:= .v (aZ (cL n v n) (cL n u n))) (Wj (s:=Wh) _ rfl) (Xa rfl (by simp_all [p9 m n v h (by lia),p9 m n u h (by lia)]))]
def uk (g:n<=4) (f:(s==Zg)=k9) (c:s∉ [xg,wn,Xg]) (h1:(s==Xh)=k9) (i:(s==Wh)=k9) (e:call prog m "_law_bounds" [.i n,.r r,.v d] h= .ok (.v (aZ v u)) h) (b:call prog m "_law_bounds" [.i n,.r r,.v d'] h= .ok (.v (aZ v' u')) h)
 (z:execs (u9 m) (match ay.body with | .cons _ (.cons _ (.cons _ (.cons _ (.cons _ (.cons _ (.cons _ (.cons _ r)))))))=>r | r=>r) (iU n r (.tup [.str s,d,d']) s y0 (si v) (si u) (si v') (si u')) h= .ret w h) (a:Gv h.length (.ret w h)= .ok w h):call prog (m+1) "_law_bounds" [.i n,.r r,.t [.str s,d,d']] h= .ok w h:=by
 refine ni g f c e ?_ a
 simp only [ay]at z ⊢
 rw [xa ((Wj _ rfl).trans (by rw [h1])),xa ((Wj _ rfl).trans (by rw [i]))]
 refine(za (by rw [exec,pf (wE _ _ _) b,R.au];rfl)).trans ?_
 exact z
def Lx (c:n<=4) (e:call prog m "_law_bounds" [.i n,.r r,.v d] h= .ok (.v (aZ v u)) h) (b:call prog m "_law_bounds" [.i n,.r r,.v d'] h= .ok (.v (aZ v' u')) h):call prog (m+1) "_law_bounds" [.i n,.r r,.t [.str qp,d,d']] h= .ok (.v (aZ (v &&& ((2 ^ (n*n)-1) ^^^ u')) (u &&& ((2 ^ (n*n)-1) ^^^ v')))) h:=by
 refine uk c rfl (by decide) rfl rfl e b ?_ (Ga _ _ _ rfl)
 simp only [ay]
 have a: ∀i j:Int,Gi .bxor i j=Kx i j:=λ_ _=>rfl
 rw [je (w:= .v (aZ (v &&& ((2 ^ (n*n)-1) ^^^ u')) (u &&& ((2 ^ (n*n)-1) ^^^ v')))) (Wj (s:=qp) _ rfl) (Xa rfl (by simp_all [a,Ba,jc,zd]))]
def oe (j:n<=4) (i:(s==Zg)=k9) (f:s∉ [xg,wn,Xg]) (h1:(s==Xh)=k9) (k:(s==Wh)=k9) (a:(s==qp)=k9) (e:call prog m "_law_bounds" [.i n,.r r,.v d] h= .ok (.v (aZ v u)) h) (b:call prog m "_law_bounds" [.i n,.r r,.v d'] h= .ok (.v (aZ v' u')) h)
 (g:call prog m "_law_two" [.s s,.i n,.i v,.i v'] h= .ok (.i x) h) (c:call prog m "_law_two" [.s s,.i n,.i u,.i u'] h= .ok (.i y) h):call prog (m+1) "_law_bounds" [.i n,.r r,.t [.str s,d,d']] h= .ok (.v (aZ x y)) h:=by
 refine uk j i f h1 k e b ?_ (Ga _ _ _ rfl)
 simp only [ay]
 rw [xa ((Wj _ rfl).trans (by rw [a])),qa (w:= .v (aZ x y)) (h1:=h) (Xa rfl (by simp_all [g,c]))]
end
def jk (P:Dc a b f r h): ∀ e m,e.dp+4<=m->e.wf (a.K++a.T)-> ∃v u,B a b e v u/\call prog m "_law_bounds" [.i a.n,.r r,.v (aT e)] h= .ok (.v (aZ v u)) h:=by
 have n4:=P.n4
 intro e
 induction e with
 | name t=>
  intro m g wf
  obtain⟨k,rfl⟩:=nk m 1 (by omega)
  exact⟨_,_,⟨P.lo t wf,P.hi t wf⟩,Mj n4 P.ad (og wf)⟩
 | same=>
  intro m g wf
  obtain⟨k,rfl⟩:=nk m 2 (by omega)
  exact⟨_,_,⟨V.leaf.1,V.leaf.1⟩,q9 n4 rfl (by decide) rfl⟩
 | all=>
  intro m g wf
  obtain⟨k,rfl⟩:=nk m 2 (by omega)
  exact⟨_,_,⟨V.leaf.2.1,V.leaf.2.1⟩,q9 n4 rfl (by decide) rfl⟩
 | none=>
  intro m g wf
  obtain⟨k,rfl⟩:=nk m 2 (by omega)
  exact⟨_,_,⟨V.leaf.2.2,V.leaf.2.2⟩,q9 n4 rfl (by decide) rfl⟩
 | turned c s=>
  intro m g wf
  simp only [Ex.dp]at g
  obtain⟨k,rfl⟩:=nk m 2 (by omega)
  obtain⟨v,u,q,e1⟩:=s (k+1) (by omega) wf
  exact⟨_,_,⟨q.lo.turned,q.hi.turned⟩,Ia n4 e1⟩
 | closed c s=>
  intro m g wf
  simp only [Ex.dp]at g
  obtain⟨k,rfl⟩:=nk m 3 (by omega)
  obtain⟨v,u,q,e1⟩:=s (k+2) (by omega) wf
  exact⟨_,_,⟨q.lo.closed (ra q.lo.1),q.hi.closed (ra q.hi.1)⟩,Dk n4 e1⟩
 | plus c d j l=>
  intro m g wf
  simp only [Ex.dp]at g
  obtain⟨k,rfl⟩:=nk m 3 (by omega)
  obtain⟨v,u,q,e1⟩:=j (k+2) (by omega) wf.1
  obtain⟨o,p,n,i⟩:=l (k+2) (by omega) wf.2
  exact⟨_,_,⟨q.lo.plus n.lo,q.hi.plus n.hi⟩,oe n4 rfl (by decide) rfl rfl rfl e1 i (XO k a.n v o h (by omega)).1.1 (XO k a.n u p h (by omega)).1.1⟩
 | less c d j l=>
  intro m g wf
  simp only [Ex.dp]at g
  obtain⟨k,rfl⟩:=nk m 3 (by omega)
  obtain⟨v,u,q,e1⟩:=j (k+2) (by omega) wf.1
  obtain⟨o,p,n,i⟩:=l (k+2) (by omega) wf.2
  exact⟨_,_,⟨q.lo.hG n.hi,q.hi.hG n.lo⟩,Lx n4 e1 i⟩
 | both c d j l=>
  intro m g wf
  simp only [Ex.dp]at g
  obtain⟨k,rfl⟩:=nk m 3 (by omega)
  obtain⟨v,u,q,e1⟩:=j (k+2) (by omega) wf.1
  obtain⟨o,p,n,i⟩:=l (k+2) (by omega) wf.2
  exact⟨_,_,⟨q.lo.both n.lo,q.hi.both n.hi⟩,oe n4 rfl (by decide) rfl rfl rfl e1 i (XO k a.n v o h (by omega)).1.2 (XO k a.n u p h (by omega)).1.2⟩
 | joined c d j l=>
  intro m g wf
  simp only [Ex.dp]at g
  obtain⟨k,rfl⟩:=nk m 3 (by omega)
  obtain⟨v,u,q,e1⟩:=j (k+2) (by omega) wf.1
  obtain⟨o,p,n,i⟩:=l (k+2) (by omega) wf.2
  exact⟨_,_,⟨q.lo.joined n.lo,q.hi.joined n.hi⟩,oe n4 rfl (by decide) rfl rfl rfl e1 i (XO k a.n v o h (by omega)).2 (XO k a.n u p h (by omega)).2⟩
def kj:Nat->Nat->Nat
 | 0,_=>0
 | L+1,v=>v % 2+kj L (v / 2)
theorem oG: ∀(L v),kj L v=((Aa5 L).filter v.testBit).length
 | 0,_=>rfl
 | L+1,v=>by
  rw [kj,oG L,Ah2,Al1,An]
  have e:(v.testBit∘Nat.succ)=(v / 2).testBit:=by
   funext i
   exact Nat.testBit_succ v i
  rw [e]
  by_cases q:v % 2=1
  ·rw [if_pos (by rw [Nat.testBit_zero,decide_eq_true q]),Aa6,Aa,q];omega
  ·rw [if_neg (by rw [Nat.testBit_zero,decide_eq_false q];exact Ab2),Aa];omega
abbrev ll (v a:Nat):Sl:= [si v,si a]
theorem tq (h): ∀ L f v a,v<2 ^ L->L<f->GG (λτ h=>Gm F Jl τ h) (λτ h=>execs F zm τ h) f (ll v a) h= .next (ll 0 (a+kj L v)) h
 | L,0,v,a,_,b=>absurd b (Ag5 _)
 | L,f+1,v,a,c,b=>by
  have d:Gm F Jl (ll v a) h= .ok (y9 (0<v)) h:=by
   have:Gr .gt (.i v) (.v (.int 0)) h=k0 (y9 (0<v)):=by
    show k0 (y9 (0<(v:Int)))=_
    congr 1
    exact decide_eq_decide.mpr (by omega)
   unfold Jl
   simp_all [this]
  rw [GG,d,R.au]
  by_cases q:0<v
  ·cases L with
   | zero=>simp at c;omega
   | succ L=>
    have e:execs F zm (ll v a) h= .next (ll (v / 2) (a+v % 2)) h:=by
     have i:Gi .mod v 2=k0 ((v % 2:Nat):Int):=kQ v 2 (by decide)
     have g:Gi .fdiv v 2=k0 ((v / 2:Nat):Int):=Aq v 2 (by decide) (by decide)
     unfold zm
     simp_all [i,g,C7]
    rw [decide_eq_true q]
    simp only [e]
    rw [tq h L f (v / 2) (a+v % 2) (by rw [Nat.pow_succ]at c;omega) (by omega),kj,Nat.add_assoc]
  ·have v0:v=0:=by omega
   subst v0
   have z:kj L 0=0:=by rw [oG];simp
   rw [decide_eq_false q,z]
   rfl
def WT (k L v) (h) (b:L<=16) (a:v<2 ^ L):call prog (k+1) "_law_many" [.i v] h= .ok (.v (.int ((((List.range L).filter v.testBit).length:Nat):Int))) h:=by
 rw [Gb rfl _ _ _ rfl]
 simp only [QO]
 rw [za rfl]
 rw [za (by rw [exec];exact tq h L 100000 v 0 a (by lia))]
 rw [qa rfl,Ga _ _ _ rfl,Am0,oG]
def J8 {F:Fx}{e:E}{τ:Sl}{h:AH}{b:Bool}(q:eval F e τ h= .ok (.b b) h):eval F (.ix (.lst (.b .aj (.bl k9))) (.bi .int (.cons e .nil))) τ h= .ok (.v (aH (xR k9 b))) h:=by
 have e1:eval F (.bi .int (.cons e .nil)) τ h= .ok (.i b.toNat) h:=by
  rw [eval,Gd,q];rfl
 rw [eval,show eval F _ τ h= .ok _ h from rfl,R.ae,e1,R.ae,ZN]
 cases b<;>rfl
def lT {F:Fx}{τ:Sl}{i j:Nat}{ps:List (Nat×Nat)}{h:AH}{o:Cp}(p:Nat->Bool) (k:ps.length<=4) (f:Gk F (.seq .v2) τ h= .ok (ps.map pD) h) (c:Gj τ 1=si j) (b:i=0\/i=1) (a: ∀x:Nat,Gr o (.i x) (.i j) h=k0 (p x)):
 eval F (.comp [0,1] k9 2 [1] (.seq .v2) k9 (.bl u0) (.cmp o (.var i) .v2)) τ h= .ok (.own ((ps.map λq=>p (if i=0 then q.1 else q.2)).map .bl)) h:=by
 rw [ql (h:=h) (ds:=ps.map pD) (λd=>match d with | .tup [.int x,.int y]=> .bl (p (if i=0 then x.toNat else y.toNat)) | d=>d) f (by rw [Gg,Aa];lia)]
 ·simp [Function.comp_def,pD]
 ·intro g e
  obtain⟨q,_,rfl⟩:=Ab6.mp e
  refine⟨[si (q.1),si (q.2),si j],?_,?_⟩
  ·rw [Ab1,Ae9,c];rfl
  ·obtain rfl | rfl:=b
   ·exact⟨.b (p q.1),by simp_all [a],by simp [pD]⟩
   ·exact⟨.b (p q.2),by simp_all [a],by simp [pD]⟩
def nA {F:Fx}{e:E}{a:Ss}{b:Ss}{τ:Sl}{h:AH}{x y:Bool}(c:eval F e τ h= .ok (.b x) h) (z:execs F b τ h= .ret (.v (aH (xR k9 y))) h):execs F (.cons (.r e (.bl u0)) b) τ h= .ret (.v (aH (xR x y))) h:=by
 have t:Gm F e τ h= .ok x h:=by rw [Gm,c,R.ae];rfl
 cases x with
 | true=>exact qa ((Wt t).trans (qa rfl))
 | false=>rw [xa t];exact z
def yH (k j:Nat) (up:Bool){w:W}{ps:List (Nat×Nat)}(h:AH) (e:ps.length<=4) (c: ∀a b:Option W,Gk (u9 k) (.seq .v2) [a,b,k0 w] h= .ok (ps.map pD) h):
 call prog (k+1) "_law_ruled" [.b up,.i j,w] h= .ok (.v (aH (if up then xR ((ps.map (·.1)).all fun x=>decide (j<=x)) ((ps.map (·.2)).any fun x=>decide (x<j))else xR ((ps.map (·.2)).all fun x=>decide (x<=j)) ((ps.map (·.1)).any fun x=>decide (j<x))))) h:=by
 rw [Gb (d:=Qv) rfl _ _ _ rfl]
 show Gv _ (execs _ _ [k0 _,si j,k0 w] h)=_
 simp only [Qv,wy,Jy,jy,Jx]
 have g:=qA (lT (F:=(u9 k)) (τ:= [k0 (.b up),si j,k0 w]) (i:=0) (λx=>y9 (j<=x)) e (c _ _) rfl (.inl rfl) (λx=>tT j x h))
 have f:=xz (lT (F:=(u9 k)) (τ:= [k0 (.b up),si j,k0 w]) (i:=1) (λx=>y9 (x<j)) e (c _ _) rfl (.inr rfl) (λx=>k5 j x h))
 have e2:=qA (lT (F:=(u9 k)) (τ:= [k0 (.b up),si j,k0 w]) (i:=1) (λx=>y9 (x<=j)) e (c _ _) rfl (.inr rfl) (λx=>vp j x h))
 have e1:=xz (lT (F:=(u9 k)) (τ:= [k0 (.b up),si j,k0 w]) (i:=0) (λx=>y9 (j<x)) e (c _ _) rfl (.inl rfl) (λx=>fM j x h))
 rw [m4]at g e2
 rw [ny]at f e1
 rw [An0,Ao8,An0,Ao8]
 cases up with
 | true=>
  rw [qa (w:= .v _) (h1:=h) ((Wt (h1:=h) rfl).trans (nA (a:= .nil) g (qa (Xa rfl (J8 f))))),Ga _ _ _ rfl]
  rfl
 | false=>
  rw [xa rfl,nA (a:= .nil) e2 (qa (Xa rfl (J8 e1))),Ga _ _ _ rfl]
  rfl
def vn (u v):y9 (u &&& v=u)=y9 (u-(u &&& v)=0):=by
 have:= @Nat.and_le_left u v
 exact decide_eq_decide.mpr (by lia)
def vr (i j) (h):Gr .ne (.i i) (.i j) h=k0 (!y9 (i=j)):=by
 have this:=Jn i j h
 exact congrArg (Option.map (!·)) this
def HQ (k v u v' u') (h):call prog (k+1) "_law_within" [.v (aZ v u),.v (aZ v' u')] h= .ok (.v (aH (dD v u v' u'))) h:=by
 rw [Gb rfl _ _ _ rfl]
 simp only [zF]
 rw [nA (a:= .nil) (x:=y9 (u &&& v'=u)) (y:= !y9 (v &&& u'=v)) (by simp_all [ab,zf,We,jc,zd,Jn]) (qa (Xa rfl (J8 (by simp_all [ab,zf,We,jc,zd,vr])))),Ga _ _ _ rfl,dD,vn,vn]
abbrev kM (n r:Nat) (d:D) (s:Tx) (x4 a x6 x7:Option W):Sl:= [si n,k0 (.r r),sv d,k0 (.s s),x4,a,x6,x7]
def rA (n v a):((Aa5 n).filter (v / 2 ^ (a*n) &&& (2 ^ n-1)).testBit).length=Z4 n (tb n v) a:=by
 rw [zt,Z4]
 congr 1
 refine Ai1 λb c=> ?_
 have c:=Ab8.mp c
 rw [Af4,Ag8,decide_eq_true c,Ae1,Ag9,Ap]
section
variable {m n r:Nat}{h:AH}
def oq (A:n<=4) (I:s∈ [Za,zc,zb,jh]) (H:v<2 ^ (n*n)) (C:u<2 ^ (n*n)) (e:call prog (m+1) "_law_bounds" [.i n,.r r,.v x] h= .ok (.v (aZ v u)) h):
 execs (u9 (m+1)) (match bp.body with | .cons _ (.cons _ r)=>r | r=>r) (kM n r (.tup [.str s,.n j,x]) s y0 y0 y0 y0) h= .ret (.v (aH (JL s j (zk n v s) (zk n u s)))) h:=by
 have g:n*n<=16:=Af1 A A
 simp only [bp]
 refine(za (by rw [exec];simp_all [ab,wE,e];rfl)).trans ?_
 have B:Gm (u9 (m+1)) (.or (.cmp .eq .v3 (.str Za)) (.cmp .eq .v3 (.str zc))) (kM n r (.tup [.str s,.n j,x]) s (si v) (si u) y0 y0) h= .ok (s==Za||s==zc) h:=by
  rw [Gm,kn (a:=s==Za) (b:=s==zc) (by simp_all [Ja]) (by simp_all [Ja]),R.ae];rfl
 have i: ∀(w:W) (p:List (Nat×Nat)) (X:Tx),p.length<=4->(∀ a b:Option W,Gk (u9 m) (.seq .v2) [a,b,k0 w] h= .ok (p.map pD) h)->call prog _ "_law_ruled" [.b _,.i j,w] h= .ok _ h:=fun w p X d E=>yH m j (s==X) h d E
 have up:(s∈ [Za,zb])↔(s==Za)=u0\/(s==zb)=true:=by simp
 by_cases c:(s==Za||s==zc)=u0
 ·have f:s∈ [Za,zc]:=by simpa using c
  have ne:(s==zb)=false:=by
   have: ∀s∈ [Za,zc],(s==zb)=false:=by decide
   exact this s f
  have k:=i (.bor [aZ (WA n v).sum (WA n u).sum]) [((WA n v).sum,(WA n u).sum)] Za (by simp) (λa b=>rfl)
  have t:call prog (m+1) "_law_many" [.i v] h= .ok (.i ((WA n v).sum)) h:=by rw [WT m _ v h g H,JG n v n,WA]
  have o:call prog (m+1) "_law_many" [.i u] h= .ok (.i ((WA n u).sum)) h:=by rw [WT m _ u h g C,JG n u n,WA]
  rw [qa (w:= .v (aH (JL s j (zk n v s) (zk n u s)))) (h1:=h)]
  refine(Wt (h1:=h) (by rw [B,c])).trans (qa (Xa rfl ?_))
  rw [JL,zk,zk,if_pos f,if_pos f]
  simp_all [Ja,ab,Xq,t,o,k]
  have iff:(s∈ [Za,zb])↔(s==Za)=true:=up.trans (by rw [ne];simp)
  by_cases q:s∈ [Za,zb]
  ·rw [if_pos q,if_pos (iff.mp q)]
  ·rw [if_neg q,if_neg λz=>q (iff.mpr z)]
 ·have l:(s==Za||s==zc)=false:=by simpa using c
  have f:s∉ [Za,zc]:=by simpa using c
  have ne:(s==Za)=false:=by
   rw [Bool.or_eq_false_iff]at l
   exact l.1
  rw [xa (by rw [B,l])]
  have G:=ZU n (by omega)
  have d:((2 ^ n:Nat):Int)-1=((2 ^ n-1:Nat):Int):=by
   have:=Ac9 n
   omega
  refine(za (by simp_all [G,Ze,d];rfl)).trans ?_
  have D:eval (u9 (m+1)) Xs (kM n r (.tup [.str s,.n j,x]) s (si v) (si u) (si (2 ^ n-1)) y0) h= .ok (.own (((WA n v).zip (WA n u)).map pD)) h:=by
   unfold Xs
   rw [xo (n:=n) (λa=>aZ (Z4 n (tb n v) a) (Z4 n (tb n u) a)) rfl (by omega) λa J=>⟨.v (aZ (Z4 n (tb n v) a) (Z4 n (tb n u) a)),?_,rfl⟩]
   ·rw [WA,WA,List.zip_map',Ad6];rfl
   ·have F:Gi .mul (a:Int) (n:Int)=k0 ((a*n:Nat):Int):=Qc a n (by omega)
    have lt: ∀w:Nat,(w / 2 ^ (a*n) &&& (2 ^ n-1))<2 ^ n:=λw=>by rw [Af4];exact Aj6 _ (Ac9 n)
    have t:call prog (m+1) "_law_many" [.i (v / 2 ^ (a*n) &&& (2 ^ n-1))] h= .ok (.i (Z4 n (tb n v) a)) h:=by rw [WT m n _ h (by omega) (lt v),rA]
    have o:call prog (m+1) "_law_many" [.i (u / 2 ^ (a*n) &&& (2 ^ n-1))] h= .ok (.i (Z4 n (tb n u) a)) h:=by rw [WT m n _ h (by omega) (lt u),rA]
    simp_all [F,Jk,jc,zd,t,o]
  have y:(WA n v).length=(WA n u).length:=by simp [WA]
  have k:=i (.l (((WA n v).zip (WA n u)).map pD)) ((WA n v).zip (WA n u)) zb (by rw [Al4];simp [WA];omega) (λa b=>rfl)
  rw [List.map_fst_zip (Al0 y),List.map_snd_zip (Al0 y.symm)]at k
  refine(za (by rw [exec,D];rfl)).trans ?_
  rw [qa (w:= .v (aH (JL s j (zk n v s) (zk n u s)))) (h1:=h)]
  refine Xa rfl ?_
  rw [JL,zk,zk,if_neg f,if_neg f]
  simp_all [Ja,ab,Xq,k]
  have iff:(s∈ [Za,zb])↔(s==zb)=true:=up.trans (by rw [ne];simp)
  by_cases q:s∈ [Za,zb]
  ·rw [if_pos q,if_pos (iff.mp q)]
  ·rw [if_neg q,if_neg λz=>q (iff.mpr z)]
def Fv (i:n<=4) (d:s∈ [Za,zc,zb,jh]) (g:v<2 ^ (n*n)) (f:u<2 ^ (n*n)) (e:call prog (m+1) "_law_bounds" [.i n,.r r,.v x] h= .ok (.v (aZ v u)) h):call prog (m+2) "_law_fact" [.i n,.r r,.t [.str s,.n j,x]] h= .ok (.v (aH (JL s j (zk n v s) (zk n u s)))) h:=by
 have z:=oq (j:=j) i d g f e
 rw [Gb rfl _ _ _ rfl]
 simp only [bp]at z ⊢
 have c:=by
  have: ∀s∈ [Za,zc,zb,jh],(s==xj)=k9/\(s==QZ)=false:=by decide
  exact this s d
 refine fx (by simp_all [we];rfl) ?_
 rw [xa (by rw [Gm,kn (a:=s==xj) (b:=s==QZ) (by simp_all [Ja]) (by simp_all [Ja]),R.ae,c.1,c.2];rfl),z,Ga _ _ _ rfl]
def pW {b:Bool}(f:n<=4) (c:v<2 ^ (n*n)) (a:u<2 ^ (n*n)) (e:call prog (m+1) "_law_bounds" [.i n,.r r,.v x] h= .ok (.v (aZ v u)) h):call prog (m+2) "_law_fact" [.i n,.r r,.t [.str (if b then xj else QZ),x]] h= .ok (.v (aH (JL (if b then Za else zc) b.toNat (zk n v (if b then Za else zc)) (zk n u (if b then Za else zc))))) h:=by
 cases b with
 | true=>
  have z:=oq (s:=Za) (j:=1) f (by decide) c a e
  rw [Gb rfl _ _ _ rfl]
  simp only [bp]at z ⊢
  refine fx (by simp_all [ab,we];rfl) ?_
  rw [za (τ1:=kM n r (.tup [.str Za,.n (1),x]) Za y0 y0 y0 y0) rfl,z,Ga _ _ _ rfl]
  rfl
 | false=>
  have z:=oq (s:=zc) (j:=0) f (by decide) c a e
  rw [Gb (d:=bp) rfl _ _ _ rfl]
  simp only [bp]at z ⊢
  refine fx (by simp_all [ab,we];rfl) ?_
  rw [za (τ1:=kM n r (.tup [.str zc,.n (0),x]) zc y0 y0 y0 y0) (h1:=h) rfl,z,Ga _ _ _ rfl]
  rfl
end
abbrev gC (n r:Nat) (d:D) (s:Tx) (x4 a x6:Option W):Sl:= [si n,k0 (.r r),sv d,k0 (.s s),x4,a,x6]
def C8 (b) (p q) (h):Gr .mem (.b b) (.l [aH p,aH q]) h=k0 (p==k0 b||q==k0 b):=by
 cases b<;>rcases p with _ | _ | _<;>rcases q with _ | _ | _<;>rfl
def Fi (p q) (h):Gr .mem (.v .aj) (.l [aH p,aH q]) h=k0 (p==y0||q==y0):=by
 rcases p with _ | _ | _<;>rcases q with _ | _ | _<;>rfl
def Bf (b) (p q:Option Bool) (c:(p==k0 b||q==k0 b)=u0):k0 b=if b then eY p q else ek p q:=by
 cases b<;>rcases p with _ | _ | _<;>rcases q with _ | _ | _<;>first | rfl | cases c
def IY (b) (p q:Option Bool) (c:(p==k0 b||q==k0 b)=k9) (a:(p==y0||q==y0)=u0):y0=if b then eY p q else ek p q:=by
 cases b<;>rcases p with _ | _ | _<;>rcases q with _ | _ | _<;>first | rfl | exact absurd c (by decide) | exact absurd a (by decide)
def C6 (b) (p q) (a:(p==k0 b||q==k0 b)=k9) (c:(p==y0||q==y0)=k9):k0 (!b)=if b then eY p q else ek p q:=by
 cases b<;>rcases p with _ | _ | _<;>rcases q with _ | _ | _<;>first | rfl | exact absurd a (by decide) | exact absurd c (by decide)
section
variable {m n r:Nat}{h:AH}
def Qw (z:execs (u9 m) (match a9.body with | .cons _ r=>r | r=>r) (gC n r (.tup (.str s::ds)) s y0 y0 y0) h= .ret (.v d) h):call prog (m+1) "_law_told" [.i n,.r r,.t (.str s::ds)] h= .ok (.v d) h:=by
 rw [Gb rfl _ _ _ rfl]
 simp only [a9]at z ⊢
 rw [za (τ1:=gC n r (.tup (.str s::ds)) s y0 y0 y0) (h1:=h) (by simp_all [ab,we]),z,Ga _ _ _ rfl]
def Lu (e:call prog m "_law_told" [.i n,.r r,.v x] h= .ok (.v (aH p)) h):call prog (m+1) "_law_told" [.i n,.r r,.t [.str qL,x]] h= .ok (.v (aH (p.map (!·)))) h:=by
 refine Qw ?_
 simp only [a9]
 rw [qa]
 refine(Wt (Wj (s:=qL) _ rfl)).trans ?_
 refine(za (by simp_all [ab,Xq,e];rfl)).trans ?_
 cases p with
 | none=>exact qa ((Wt rfl).trans (qa rfl))
 | some b=>
  rw [xa rfl]
  exact qa (Xa rfl (by simp_all [];rfl))
def DS (b:call prog m "_law_told" [.i n,.r r,.v x] h= .ok (.v (aH p)) h) (a:call prog m "_law_told" [.i n,.r r,.v y] h= .ok (.v (aH q)) h):eval (u9 m) zq (gC n r d s x4 (some (.l [x,y])) none) h= .ok (.own [aH p,aH q]) h:=by
 exact z0 rfl (by assumption) (by assumption)
def pe (g:call prog m "_law_told" [.i n,.r r,.v x] h= .ok (.v (aH p)) h) (f:call prog m "_law_told" [.i n,.r r,.v y] h= .ok (.v (aH q)) h):execs (u9 m) (.cons (.af 6 zq) (.cons (.r (.cmp .mem (.cmp .eq .v3 (.str Qz)) .v6) (.cmp .eq .v3 (.str Qz))) (.cons (.r (.cmp .mem .aj .v6) .aj) (.a (.ret (.cmp .ne .v3 (.str Qz))))))) (gC n r d s none (some (.l [x,y])) none) h= .ret (.v (aH (if s==Qz then eY p q else ek p q))) h:=by
 rw [za (τ1:=gC n r d s y0 _ _) (by rw [exec,DS g f];rfl)]
 have e:Gm (u9 m) (.cmp .mem (.cmp .eq .v3 (.str Qz)) .v6) (gC n r d s y0 (k0 (.l [x,y])) (k0 (.l [aH p,aH q]))) h= .ok (p==k0 (s==Qz)||q==k0 (s==Qz)) h:=by
  simp_all [Ja,C8]
 have c:Gm (u9 m) (.cmp .mem .aj .v6) (gC n r d s y0 (k0 (.l [x,y])) (k0 (.l [aH p,aH q]))) h= .ok (p==y0||q==y0) h:=by
  simp_all [Fi]
 have ne:Gr .ne (.s s) (.s Qz) h=k0 (!(s==Qz)):=by
  have this:=Ja s Qz h
  exact congrArg (Option.map (!·)) this
 cases a:(p==k0 _||q==k0 _)with
 | true=>
  rw [je (w:= .b (s==Qz)) (by rw [e,a]) (Xa rfl (by simp_all [Ja]))]
  rw [← Bf _ p q a]
  rfl
 | false=>
  rw [xa (by rw [e,a])]
  cases b:(p==y0||q==y0)with
  | true=>
   rw [je (by rw [c,b]) rfl]
   rw [← IY _ p q a b]
   rfl
  | false=>
   rw [xa (by rw [c,b]),qa (w:= .b (!(s==Qz))) (h1:=h) (Xa rfl (by simp_all [ne]))]
   rw [← C6 _ p q a b]
   rfl
def my :Gm (u9 m) (.cmp .mem .v3 (.lst (.c (.str jw) (.str Qz) (.str Zb)))) (gC n r d s y0 y0 y0) h= .ok (y9 (s∈ [jw,Qz,Zb])) h:=by
 have:=QS s [jw,Qz,Zb] h
 simp only [Ab1,Ae9]at this
 simp_all [this]
def yi (e:(s==qL)=k9) (d:s∈ [jw,Qz,Zb]) (a:(s==Zb)=k9) (c:call prog m "_law_told" [.i n,.r r,.v x] h= .ok (.v (aH p)) h) (b:call prog m "_law_told" [.i n,.r r,.v y] h= .ok (.v (aH q)) h):call prog (m+1) "_law_told" [.i n,.r r,.t [.str s,x,y]] h= .ok (.v (aH (if s==Qz then eY p q else ek p q))) h:=by
 refine Qw ?_
 simp only [a9]
 rw [xa ((Wj _ rfl).trans (by rw [e])),qa]
 refine(Wt (by rw [my,decide_eq_true d])).trans ?_
 refine(za (by simp_all [wE];rfl)).trans ?_
 rw [xa ((Wj _ rfl).trans (by rw [a]))]
 exact pe c b
def Aw (b:call prog m "_law_told" [.i n,.r r,.t [.str ZG,x,y]] h= .ok (.v (aH p)) h) (a:call prog m "_law_told" [.i n,.r r,.t [.str ZG,y,x]] h= .ok (.v (aH q)) h):call prog (m+1) "_law_told" [.i n,.r r,.t [.str Zb,x,y]] h= .ok (.v (aH (ek p q))) h:=by
 refine Qw ?_
 simp only [a9]
 rw [xa (Wj (s:=Zb) _ rfl),qa]
 refine(Wt (by rw [my];rfl)).trans ?_
 refine(za (by simp_all [wE];rfl)).trans ?_
 rw [za ((Wt (Wj (s:=Zb) _ rfl)).trans (by
  rw [za (τ1:=gC n r (.tup [.str Zb,x,y]) Zb y0 (k0 (.l [.tup [.str ZG,x,y],.tup [.str ZG,y,x]])) y0) (h1:=h) (by simp_all [ab,Xq,wE]),execs]))]
 exact pe b a
def oN (b:call prog (m+1) "_law_bounds" [.i n,.r r,.v x] h= .ok (.v (aZ v u)) h) (a:call prog (m+1) "_law_bounds" [.i n,.r r,.v y] h= .ok (.v (aZ v' u')) h):call prog (m+2) "_law_told" [.i n,.r r,.t [.str ZG,x,y]] h= .ok (.v (aH (dD v u v' u'))) h:=by
 refine Qw ?_
 simp only [a9]
 rw [xa (Wj (s:=ZG) _ rfl),xa (by rw [my];rfl),je (w:= .v (aH (dD v u v' u'))) (Wj (s:=ZG) _ rfl) (Xa rfl (by simp_all [ab,Xq,wE,b,a,HQ]))]
def W5 (h1:(s==qL)=k9) (a:s∉ [jw,Qz,Zb]) (b:(s==ZG)=k9) (e:call prog m "_law_fact" [.i n,.r r,.t (.str s::ds)] h= .ok (.v d) h):call prog (m+1) "_law_told" [.i n,.r r,.t (.str s::ds)] h= .ok (.v d) h:=by
 refine Qw ?_
 simp only [a9]
 rw [xa ((Wj _ rfl).trans (by rw [h1])),xa (by rw [my,decide_eq_false a]),xa ((Wj _ rfl).trans (by rw [b])),qa (w:= .v d) (h1:=h) (Xa rfl (by assumption))]
end
def vR (P:Dc a b f r h): ∀ s m,s.dp+8<=m->s.wf (a.K++a.T)-> ∃q,Td a b s q/\call prog m "_law_told" [.i a.n,.r r,.v (aP s)] h= .ok (.v (aH q)) h:=by
 have n4:=P.n4
 intro s
 induction s with
 | fact f=>
  intro m c wf
  simp only [Sy.dp]at c
  cases f with
  | dA x y=>
   simp only [Fc.dp]at c
   obtain⟨k,rfl⟩:=nk m 2 (by lia)
   obtain⟨v,u,q,e⟩:=jk P x (k+1) (by lia) wf.1
   obtain⟨l,w,o,d⟩:=jk P y (k+1) (by lia) wf.2
   exact⟨_,⟨v,u,l,w,q,o,rfl⟩,oN e d⟩
  | dQ x y=>
   simp only [Fc.dp]at c
   obtain⟨k,rfl⟩:=nk m 3 (by lia)
   obtain⟨v,u,q,e⟩:=jk P x (k+1) (by lia) wf.1
   obtain⟨l,w,o,d⟩:=jk P y (k+1) (by lia) wf.2
   exact⟨_,⟨v,u,l,w,q,o,rfl⟩,Aw (oN e d) (oN d e)⟩
  | dH x=>
   simp only [Fc.dp]at c
   obtain⟨k,rfl⟩:=nk m 3 (by lia)
   obtain⟨v,u,q,e⟩:=jk P x (k+1) (by lia) wf
   exact⟨_,⟨v,u,q,rfl⟩,W5 rfl (by decide) rfl (pW (b:=u0) n4 q.lo.1 q.hi.1 e)⟩
  | aj x=>
   simp only [Fc.dp]at c
   obtain⟨k,rfl⟩:=nk m 3 (by lia)
   obtain⟨v,u,q,e⟩:=jk P x (k+1) (by lia) wf
   exact⟨_,⟨v,u,q,rfl⟩,W5 rfl (by decide) rfl (pW (b:=k9) n4 q.lo.1 q.hi.1 e)⟩
  | cnt s j x=>
   simp only [Fc.dp]at c
   obtain⟨k,rfl⟩:=nk m 3 (by lia)
   obtain⟨v,u,q,e⟩:=jk P x (k+1) (by lia) wf.2
   have A: ∀s∈ [Za,zc,zb,jh],(s==qL)=k9/\s∉ [jw,Qz,Zb]/\(s==ZG)=false:=by decide
   obtain⟨z,B,C⟩:=A s wf.1
   exact⟨_,⟨v,u,q,rfl⟩,W5 z B C (Fv n4 wf.1 q.lo.1 q.hi.1 e)⟩
 | neg x D=>
  intro m c wf
  simp only [Sy.dp]at c
  obtain⟨k,rfl⟩:=nk m 1 (by lia)
  obtain⟨q,t,e⟩:=D k (by lia) wf
  exact⟨_,⟨q,t,rfl⟩,Lu e⟩
 | cx x y i g=>
  intro m c wf
  simp only [Sy.dp]at c
  obtain⟨k,rfl⟩:=nk m 1 (by lia)
  obtain⟨p,t,e⟩:=i k (by lia) wf.1
  obtain⟨q,n,d⟩:=g k (by lia) wf.2
  exact⟨_,⟨p,q,t,n,rfl⟩,yi (s:=jw) rfl (by decide) rfl e d⟩
 | cn x y i g=>
  intro m c wf
  simp only [Sy.dp]at c
  obtain⟨k,rfl⟩:=nk m 1 (by lia)
  obtain⟨p,t,e⟩:=i k (by lia) wf.1
  obtain⟨q,n,d⟩:=g k (by lia) wf.2
  exact⟨_,⟨p,q,t,n,rfl⟩,yi (s:=Qz) rfl (by decide) rfl e d⟩
abbrev ai (ns:List Int) (i:Nat) (v:Int):Cell:= .lst [.lst (ns.map .int),.n i,.int v]
def Mb:Gi .pow 10 18=k0 1000000000000000000:=by
 have:(0:Int)<=18/\ 18<=BP/\(10:Int).natAbs<zev:=by rw [Kb,GD];decide
 show(if _ then _ else _)=_
 rw [if_pos this]
 rfl
def B1 (v)(e:eval F (.ix .v0 (.int 2)) τ h= .ok (.v (.int v)) h):Gm F (.not (.chain .le .lt (.int 0) (.ix .v0 (.int 2)) (.bin .pow (.int 10) (.int 18)))) τ h= .ok (!(y9 (0<=v)&&y9 (v<1000000000000000000))) h:=by
 rw [Gm,eval]
 rw [show eval F _ τ h= .ok (.b (y9 (0<=v)&&y9 (v<1000000000000000000))) h by
  rw [eval,eval,R.ae,e,R.ae]
  by_cases q: 0<=v
  ·simp_all [Q1,jZ,Mb,q,decide_true,Ae1]
  ·simp_all [Q1,q,decide_false,Ae7]]
 simp_all []
def jj (k:Nat){ns:List Int}{i:Nat}{v:Int}{h:AH}{r m:Nat}(e:h[r]? =k0 (ai ns i v)) (D:0<m) (E:m<1073741824):
 ∃(d:Nat) (g:Int),d<m/\call prog (k+1) "_law_draw" [.r r,.i m] h= .ok (.i d) (h.set r (ai ns i g)):=by
 rw [Gb (d:=xD) rfl _ _ _ rfl]
 have a:(0:Int)<(m:Int):=by omega
 have y:r<h.length:=(Aa1.mp e).1
 have i2:eval (u9 k) (.ix .v0 (.int 2)) [k0 (.r r),si m,y0] h= .ok (.v (.int v)) h:=by simp_all [Xu e,kr]
 have j:=B1 v i2
 show ∃d g,_/\Gv _ (execs _ _ [k0 (.r r),si m,y0] h)=_
 simp only [xD]
 have l: ∀x:Int,∃d:Nat,d<m/\x % (m:Int)=(d:Int):=λx=>⟨(x % (m:Int)).toNat,by have:=Ao5 x a;have:=An3 x (Int.ne_of_gt a);omega,by have:=An3 x (Int.ne_of_gt a);omega⟩
 cases c:(y9 (0<=v)&&y9 (v<1000000000000000000))with
 | false=>
  obtain⟨d,f,b⟩:=l v
  refine⟨d,v / (m:Int),f,?_⟩
  have q:dk .divmod [.v (.int v),.i m] h=aq (.tup [.int (v / (m:Int)),.n d]) h:=by
   rw [W7,if_pos ⟨a,by rw [GO];omega⟩,b]
  rw [qa (w:= .i d) (h1:=h.set r (ai ns i (v / (m:Int))))]
  ·exact Ga _ h _ (by rw [Ae3])
  refine(Wt (h1:=h) (by rw [j,c];rfl)).trans ?_
  refine(za (by
   rw [exec,show eval (u9 k) (.bi .divmod (.b (.ix .v0 (.int 2)) .v1)) [k0 (.r r),si m,y0] h=aq (.tup [.int (v / (m:Int)),.n d]) h by simp_all [Xu e,kr,q]]
   simp_all [aq,fq,Kt,e,F4,GN,if_true]
   rfl)).trans ?_
  exact qa rfl
 | true=>
  rw [Aa0,decide_eq_true_eq,decide_eq_true_eq]at c
  have A:Gi .mul v 742939=k0 (v*742939):=j8 _ _ (by decide)
  have t:Gi .mul (i:Int) 65063=k0 ((i:Int)*65063):=j8 _ _ (by decide)
  have o:Gi .mod (v*742939+(i:Int)*65063+40503) 16777213=k0 ((v*742939+(i:Int)*65063+40503) % 16777213):=XJ _ _ (by decide)
  have p:=An3 (v*742939+(i:Int)*65063+40503) (show (16777213:Int)≠0 by decide)
  have z:=Ao5 (v*742939+(i:Int)*65063+40503) (show (0:Int)<16777213 by decide)
  generalize C:(v*742939+(i:Int)*65063+40503) % 16777213=w at o p z
  have i1:eval (u9 k) (.ix .v0 (.int 1)) [k0 (.r r),si m,y0] h= .ok (.i i) h:=by simp_all [Xu e,XW]
  have e2:(h.set r (ai ns i w))[r]? =k0 (ai ns i w):=Ab9 y
  obtain⟨d,f,b⟩:=l (w*(w % 4093+7) / 64)
  refine⟨d,w,f,?_⟩
  rw [xa (by rw [j,decide_eq_true c.1,decide_eq_true c.2];rfl)]
  rw [za (τ1:= [k0 (.r r),si m,y0]) (h1:=h.set r (ai ns i w)) (zA (d:= .int w) (xs:= [.lst (ns.map .int),.n i,.int v]) (n:=2) (by
   simp_all [Xu e,XW,kr,A,t,Xc,o]) rfl e rfl rfl rfl)]
  have F:=An3 w (show (4093:Int)≠0 by decide)
  have G:=Ao5 w (show (0:Int)<4093 by decide)
  have u:Gi .mod w 4093=k0 (w % 4093):=XJ _ _ (by decide)
  have s:Gi .mul w (w % 4093+7)=k0 (w*(w % 4093+7)):=j8 _ _ (by omega)
  have B:Gi .fdiv (w*(w % 4093+7)) 64=k0 (w*(w % 4093+7) / 64):=tW _ _ (by decide) (by decide)
  have n4:Gi .mod (w*(w % 4093+7) / 64) (m:Int)=k0 ((d:Nat):Int):=by rw [XJ _ _ a,b]
  rw [qa (w:= .i d) (h1:=h.set r (ai ns i w)) (Xa rfl (by simp_all [Xu e2,kr,u,Xc,s,B,n4]))]
  exact Ga _ h _ (by rw [Ae3])
def sm {ns:List Int}(b:ns.length<=63) (q:eval F e τ h= .ok (.l (ns.map .int)) h): ∃s,eval F (.bi .sum (.a (.fG e (.int j)))) τ h= .ok (.v (.int s)) h:=by
 have a:(cut ns y0 (k0 j)).length<=bh:=by
  have:=D2 ns y0 (k0 j)
  rw [Gg];lia
 refine⟨(cut ns y0 (k0 j)).sum,?_⟩
 simp_all [q,t7,y4,tJ,QV,Aa,a,if_true]
def yy (k) (ns:List Int) (a:ns.length<=63) (h): ∃v,call prog (k+1) "_law_start" [.l (ns.map .int)] h= .ok (.own [.lst (ns.map .int),.n (0),.int v]) h:=by
 show ∃v,Gv _ (execs _ _ [k0 _] h)=_
 obtain⟨s,e⟩:=sm (F:=(u9 k)) (e:= .var 0) (τ:= [k0 (.l (ns.map .int))]) (h:=h) (j:=1) a (by simp_all [])
 refine⟨s,?_⟩
 simp only [wJ]
 rw [qa (w:= .own [.lst (ns.map .int),.n (0),.int s]) (h1:=h) (wA rfl (by
  generalize E.bi _ _=X at e ⊢
  simp_all [e]
  rfl)),Gu _ _ _ rfl]
def IM (k)(o:ns.length<=63) (e:h[r]? =k0 (ai ns i v)):
 ∃v':Int,call prog (k+1) "_law_turn" [.r r] h= .ok (.v .aj) (h.set r (ai ns (i+1) v')):=by
 rw [Gb rfl _ _ _ rfl]
 have g:r<h.length:=(Aa1.mp e).1
 have e1:(h.set r (ai ns (i+1) v))[r]? =k0 _:=Ab9 g
 show ∃v',Gv _ (execs _ _ [k0 (.r r)] h)=_
 simp only [qP]
 obtain⟨s,c⟩:=sm (F:=(u9 k)) (e:= .ix .v0 (.int 0)) (τ:= [k0 (.r r)]) (h:=h.set r (ai ns (i+1) v)) o (by simp_all [Xu e1,mf])
 have m:Gi .mul 7 _=k0 (7*((i+1:Nat):Int)):=K1 _ _ (by decide)
 have j: ∀x:Int,Gi .mod x 16777213=k0 _:=λx=>XJ _ _ (by decide)
 have a: ∀x y,(h.set r (ai ns (i+1) x)).set r _=h.set r (ai ns (i+1) y):=λx y=>Ad8 ..
 have i1:((i:Int)+1)=((i+1:Nat):Int):=rfl
 generalize l:(7*((i+1:Nat):Int)+s) % 16777213=w
 have e2:(h.set r (ai ns (i+1) w))[r]? =k0 _:=Ab9 g
 rw [za (h1:=h.set r (ai ns (i+1) v)) (zA (d:= .n (i+1)) (xs:= [.lst (ns.map .int),.n i,.int v]) (n:=1) (by simp_all [Xu e,XW,Xc,i1]) rfl e rfl rfl rfl)]
 rw [za (τ1:= [k0 (.r r)]) (h1:=h.set r (ai ns (i+1) w)) (zA (d:= .int w) (xs:= [.lst (ns.map .int),.n (i+1),.int v]) (n:=2) (by
  generalize E.bi _ _=X at c ⊢
  simp_all [c,Xu e1,XW,m,Xc,j,l]) rfl e1 rfl rfl (a v w).symm)]
 have f:Gm (u9 k) (.cmp .lt (.ix .v0 (.int 1)) (.bi .len (.a (.ix .v0 (.int 0))))) [k0 (.r r)] (h.set r (ai ns (i+1) w))= .ok (y9 (i+1<ns.length)) (h.set r (ai ns (i+1) w)):=by
  have:(y9 (((i+1:Nat):Int)<(ns.length:Int)))=y9 (i+1<ns.length):=decide_eq_decide.mpr (by omega)
  simp_all [Xu e2,XW,mf,zL,aq,Aa,jZ,this]
 by_cases q:i+1<ns.length
 ·refine⟨ns[i+1],?_⟩
  have b:aV (ns.map D.int) ((i+1:Nat):Int)=k0 (.int ns[i+1]):=by
   rw [Qg _ _ (by rw [Aa];exact q),Ac2,Aa7 q];rfl
  rw [za (τ1:= [k0 (.r r)]) (h1:=h.set r (ai ns (i+1) ns[i+1])) ((Wt (h1:=h.set r (ai ns (i+1) w)) (by rw [f,decide_eq_true q])).trans (by
   rw [za (τ1:= [k0 (.r r)]) (h1:=h.set r (ai ns (i+1) ns[i+1])) (zA (d:= .int ns[i+1]) (xs:= [.lst (ns.map .int),.n (i+1),.int w]) (n:=2) (by
    simp_all [Xu e2,mf,XW,Qp,b]) rfl e2 rfl rfl (a w _).symm),execs]))]
  rw [execs]
  exact GB _ h _ (by rw [Ae3])
 ·refine⟨w,?_⟩
  rw [xa (by rw [f,decide_eq_false q]),execs]
  exact GB _ h _ (by rw [Ae3])
def V.uniq (h:V n v g) (q:V n w g):v=w:=Wf.d6 h.lt q.lt λk a=>by
 have b:=h.2 _ _ (Wf.a8 a) (Wf.aW a)
 have c:=q.2 _ _ (Wf.a8 a) (Wf.aW a)
 rw [Wf.bq]at b c
 rw [An1,b,c]
theorem B.uniq (h:B a b e v u) (q:B a b e v' u'):v=v'/\u=u':=⟨h.lo.uniq q.lo,h.hi.uniq q.hi⟩
theorem gd.uniq (h:gd a b f p) (k:gd a b f q):p=q:=by
 cases f with
 | dA x y=>
  obtain⟨v,u,i,m,c,g,rfl⟩:=h
  obtain⟨w,t,n,l,d,e,rfl⟩:=k
  obtain⟨rfl,rfl⟩:=c.uniq d
  obtain⟨rfl,rfl⟩:=g.uniq e
  rfl
 | dQ x y=>
  obtain⟨v,u,i,m,c,g,rfl⟩:=h
  obtain⟨w,t,n,l,d,e,rfl⟩:=k
  obtain⟨rfl,rfl⟩:=c.uniq d
  obtain⟨rfl,rfl⟩:=g.uniq e
  rfl
 | dH x=>
  obtain⟨v,u,c,rfl⟩:=h
  obtain⟨w,t,d,rfl⟩:=k
  obtain⟨rfl,rfl⟩:=c.uniq d
  rfl
 | aj x=>
  obtain⟨v,u,c,rfl⟩:=h
  obtain⟨w,t,d,rfl⟩:=k
  obtain⟨rfl,rfl⟩:=c.uniq d
  rfl
 | cnt s j x=>
  obtain⟨v,u,c,rfl⟩:=h
  obtain⟨w,t,d,rfl⟩:=k
  obtain⟨rfl,rfl⟩:=c.uniq d
  rfl
theorem Td.uniq : ∀ {s}{p q},Td a b s p->Td a b s q->p=q
 | .fact _,_,_,h,k=>gd.uniq h k
 | .neg _,_,_,⟨p,h,e⟩,⟨q,k,c⟩=>by rw [e,c,Td.uniq h k]
 | .cx _ _,_,_,⟨p,q,h,d,e⟩,⟨g,i,k,f,c⟩=>by rw [e,c,Td.uniq h k,Td.uniq d f]
 | .cn _ _,_,_,⟨p,q,h,d,e⟩,⟨g,i,k,f,c⟩=>by rw [e,c,Td.uniq h k,Td.uniq d f]
theorem rG : ∀ {N},((aN N f).lookup t).isSome=y9 (t∈N)
 | []=>rfl
 | y::N=>by
  show(Aj t ((y,_)::aN N f)).isSome=_
  rw [Ab7]
  by_cases e:t=y
  ·subst e;rw [beq_self_eq_true,decide_eq_true Aa4];rfl
  ·rw [beq_eq_false_iff_ne.mpr e]
   rw [rG]
   exact decide_eq_decide.mpr ⟨Aa2 _,λh=>(Ac.mp h).resolve_left e⟩
def JU (f:Tx->Nat×Nat) (t:Tx) (p:Nat×Nat):Tx->Nat×Nat:=λx=>if x=t then p else f x
def vU (h:t∈N):GE (aN N f) t (aZ p.1 p.2)=aN N (JU f t p):=by
 unfold GE aN
 rw [if_pos (Ad1.mpr ⟨_,Ab6.mpr ⟨t,h,rfl⟩,by simp⟩)]
 rw [Ad6]
 refine Ai1 λx a=> ?_
 show(if x=t then(x,aZ p.1 p.2)else(x,aZ (f x).1 (f x).2))=(x,aZ (JU f t p x).1 (JU f t p x).2)
 unfold JU
 by_cases e:x=t
 ·rw [if_pos e,if_pos e]
 ·rw [if_neg e,if_neg e]
def wx (k) (d) (h) (a:Gf d=u0):call prog (k+1) "_law_whole" [.v d] h= .ok (.b (jx d)) h:=by
 cases d<;>first | exact Ga _ _ _ rfl | cases a
abbrev vx (n r:Nat) (e dn b c:D) (x6 x7 d a x10:Option W):Sl:= [si n,k0 (.r r),sv e,sv dn,sv b,sv c,x6,x7,d,a,x10]
def jr (e:h[r]? =k0 (.aM ks)):GT h (k0 (.r r))=k0 (r,ks):=by unfold GT;simp [e]
def W6 (v p:Nat):Gi .band (v:Int) ((2 ^ p:Nat):Int)=k0 ((if v.testBit p then 2 ^ p else 0:Nat):Int):=by
 rw [jc,zd]
 congr 2
 refine Aj8 λk=> ?_
 rw [Ah1,Ad7]
 by_cases e:p=k
 ·subst e
  rw [decide_eq_true rfl,Bool.and_true]
  cases v.testBit p with
  | true=>rw [if_pos rfl,Ak0]
  | false=>rw [if_neg Ab2,Af9]
 ·rw [decide_eq_false e,Ah7]
  cases v.testBit p with
  | true=>rw [if_pos rfl,Ad7,decide_eq_false e]
  | false=>rw [if_neg Ab2,Af9]
def AZ (k)(e:h[r]? =k0 (.aM (aN N f))) (G:n<=4) (j:t∈N) (hN:N.length<=100) (v:a<n) (u:b<n) (s:(f t).1.testBit (a*n+b)=k9) (g:(f t).2.testBit (a*n+b)=u0):
 call prog (k+2) "_law_split" [.i n,.r r,.t [.str t,.n a,.n b]] h= .ok (.own [.ref h.length,.ref (h.length+1)]) (h++ [.aM (aN N (JU f t ((f t).1 ||| 2 ^ (a*n+b),(f t).2))),.aM (aN N (JU f t ((f t).1,(f t).2-2 ^ (a*n+b))))]):=by
 rw [Gb (d:=xv) rfl _ _ _ rfl]
 have Z:r<h.length:=(Aa1.mp e).1
 have z:a*n+b<16:=by
  have:=Wf.place_lt v u
  have:n*n<=16:=Af1 G G
  omega
 have ge:2 ^ _<=(f t).2:=Nat.ge_two_pow_of_testBit g
 generalize M:a*n+b=p at s g z ge ⊢
 have C:(aN N f).length<bh:=by rw [Gg,aN,Aa];omega
 generalize O:(f t).1=A at s ⊢
 generalize X:(f t).2=c at g ge ⊢
 have E:aN N _=GE (aN N f) t _:=(vU (p:=(A ||| 2 ^ p,c)) j).symm
 have K:aN N _=GE (aN N f) t _:=(vU (p:=(A,c-2 ^ p)) j).symm
 have m:(aN N f).lookup t=k0 (aZ A c):=by rw [og j,O,X]
 simp only [xv]
 have dd:=jr e
 refine fx (by simp_all [];rfl) ?_
 have P:cQ u0 (.s t) (k0 (r,aN N f)) h= .ok (.b k9) h:=by
  unfold cQ
  simp only [rG,decide_eq_true j,if_true]
  rfl
 have T:=wx k (.n a) h rfl
 have w2:=wx k (.n b) h rfl
 have q:b8 .str (.s t)=k0 true:=rfl
 rw [xa (by simp_all [q,dd,P,T,w2,jx])]
 have i: ∀x:Nat,x<n->((0:Int)<=(x:Int)/\(x:Int)<(n:Int)):=λx hx=>by omega
 rw [xa (by simp_all [Q1,jZ,decide_eq_true (i a v).1,decide_eq_true (i a v).2,decide_eq_true (i b u).1,decide_eq_true (i b u).2,aq])]
 have dg:eE (.s t) (k0 (r,aN N f)) h= .ok (.v (aZ A c)) h:=by unfold eE;simp only [m]
 refine fx (by simp_all [dd,dg];rfl) ?_
 have R:Gi .mul (a:Int) (n:Int)=k0 ((a*n:Nat):Int):=Qc a n (by omega)
 have H:(((a*n:Nat):Int)+(b:Int))=((p:Nat):Int):=by rw [← M];rfl
 have S:=ZU p (by omega)
 refine fx (by simp_all [R,Xc,H,S];rfl) ?_
 have F:=W6 A p
 have D:=W6 c p
 rw [s,if_neg Ab2]at F
 rw [g,if_pos rfl]at D
 have p0:0<2 ^ p:=Ac9 p
 have V:Gr .ne (.i (0)) (.v (.int 0)) h=k0 false:=rfl
 have L:Gr .eq (.i (2 ^ p)) (.v (.int 0)) h=k0 false:=by
  have:=Jn (2 ^ p) 0 h
  rw [decide_eq_false (by omega)]at this
  exact this
 rw [xa (by simp_all [F,D,V,L])]
 have I:((c:Int)-((2 ^ p:Nat):Int))=((c-2 ^ p:Nat):Int):=by omega
 have Q:(h++ [Cell.aM (aN N f)])[h.length]? =k0 (.aM (aN N f)):=by simp
 have y:(h++ [Cell.aM (aN N f)]).set h.length (.aM (GE (aN N f) t (aZ (A ||| 2 ^ p) c)))=h++ [.aM (GE (aN N f) t (aZ (A ||| 2 ^ p) c))]:=by simp
 have nr:Gf (aZ (A ||| 2 ^ p) c)=true:=rfl
 have o:Gf (aZ A (c-2 ^ p))=true:=rfl
 refine fx (by simp_all [dd,aq];rfl) ?_
 rw [za (τ1:=vx n r (.tup [.str t,.n a,.n b]) (.str t) (.n a) (.n b) (si A) (si c) (si (2 ^ p)) (k0 (.r h.length)) y0) (h1:=h++ [.aM (GE (aN N f) t (aZ (A ||| 2 ^ p) c))]) (by
  simp_all [Zm,Zl,jr Q,aq]
  rw [if_pos ⟨C,nr⟩,y])]
 have B:(h++ [Cell.aM (GE (aN N f) t (aZ (A ||| 2 ^ p) c))])[r]? =k0 (.aM (aN N f)):=by rw [Ad2 Z,e]
 generalize GE (aN N f) t (aZ (A ||| 2 ^ p) c)=U at B E ⊢
 have J:(h++ [Cell.aM U]++ [Cell.aM (aN N f)])[h.length+1]? =k0 (.aM (aN N f)):=by simp
 have l:(h++ [Cell.aM U]++ [Cell.aM (aN N f)]).set (h.length+1) (.aM (GE (aN N f) t (aZ A (c-2 ^ p))))=h++ [Cell.aM U,.aM (GE (aN N f) t (aZ A (c-2 ^ p)))]:=by simp [List.set_append]
 have Y:(h++ [Cell.aM U]).length=h.length+1:=by simp
 refine fx (by simp_all [jr B,aq,Y];rfl) ?_
 rw [za (τ1:=vx n r (.tup [.str t,.n a,.n b]) (.str t) (.n a) (.n b) (si A) (si c) (si (2 ^ p)) (k0 (.r h.length)) (k0 (.r (h.length+1)))) (h1:=h++ [.aM U,.aM (GE (aN N f) t (aZ A (c-2 ^ p)))]) (by
  simp_all [Ze,I,jr J,aq]
  rw [if_pos ⟨C,o⟩,l])]
 rw [qa (w:= .own [.ref h.length,.ref (h.length+1)]) (h1:=h++ [.aM U,.aM (GE (aN N f) t (aZ A (c-2 ^ p)))]) (wA rfl (by simp_all [])),E,K]
 show fin h.length (.own [.ref h.length,.ref (h.length+1)]) _=_
 unfold fin
 rw [if_neg (by simp),if_neg (by simp [W.keep])]
abbrev Pl:=Tx×Nat×Nat
def bK (p:Pl):D:= .tup [.str p.1,.n (p.2.1),.n (p.2.2)]
def eF (n:Nat) (t:Tx):List Pl:=(Aa5 n).map λa=>(t,a,a)
def fF (n:Nat) (t:Tx):List Pl:=(Wf.ax n (2 ^ (n*n)-1)).map λq=>(t,q.1,q.2)
abbrev eD (K T:List Tx) (n:Nat) (l:List Pl) (x:Option W):Sl:= [sv (wD K T),si n,k0 (.own (l.map bK)),x]
theorem nL (g) (c: ∀t,(g t).length<=16) (d: ∀ t l,l.length<=200->execs F b (eD K T n l (k0 (.s t))) h= .next (eD K T n (l++g t) (k0 (.s t))) h):
 ∀(a:List Tx) l x,l.length+16*a.length<=200-> ∃i,Gq (Gp [3] u0) (λτ h=>execs F b τ h) (a.map .str) (eD K T n l x) h= .next (eD K T n (l++a.flatMap g) i) h
 | [],l,x,_=>⟨x,by simp [Gq]⟩
 | t::a,l,x,f=>by
  rw [Aa6]at f
  have:=c t
  obtain⟨i,e⟩:=nL g c d a (l++g t) (k0 (.s t)) (by rw [Aa8];omega)
  refine⟨i,?_⟩
  rw [Ab1,jb rfl (d t l (by omega)),e,Aj3,Ae6]
def AD (k n) (K T) (h) (p:n<=4) (E:K.length<=4) (D:T.length<=4):call prog (k+3) "places_of" [.v (wD K T),.i n] h= .ok (.own ((K.flatMap (eF n)++T.flatMap (fF n)).map bK)) h:=by
 rw [Gb (d:=Wv) rfl _ _ _ rfl]
 have o:n*n<=16:=Af1 p p
 simp only [Wv]
 have m: ∀t,(eF n t).length<=16:=λt=>by simp [eF];omega
 have lt: ∀t,(fF n t).length<=16:=λt=>by
  rw [fF,Aa,Wf.ax,Aa]
  exact Ab5 (Aj0 _ _) (by rw [Ah0];exact o)
 have i: ∀(c:List Tx) (g:Tx->List Pl),(∀ t,(g t).length<=16)->(c.flatMap g).length<=16*c.length:=λc g f=>by
  induction c with
  | nil=>simp
  | cons t c G=>rw [Aj3,Aa8,Aa6];have:=f t;omega
 have ext: ∀ e b (g:Tx->List Pl),(∀ t,(g t).length<=16)->b= .cons (.ext 2 e) .nil->(∀ (t:Tx) (l:List Pl),eval (u9 (k+2)) e (eD K T n l (k0 (.s t))) h= .ok (.own ((g t).map bK)) h)-> ∀(t:Tx) (l:List Pl),l.length<=200->execs (u9 (k+2)) b (eD K T n l (k0 (.s t))) h= .next (eD K T n (l++g t) (k0 (.s t))) h:=λe b g f z r t l H=>by
  have B:(l.map bK).length+((g t).map bK).length<bh:=by rw [Gg,Aa,Aa];have:=f t;omega
  rw [z,za (τ1:=eD K T n (l++g t) (k0 (.s t))) (h1:=h) (by rw [exec];simp_all [r,B,if_true];rw [← Af5]),execs]
 have v:=ext zo Xy _ m rfl λt l=>by
  unfold zo
  rw [xo (n:=n) (λa=>bK (t,a,a)) rfl (by omega) λa F=>⟨.v _,by simp_all [];rfl,rfl⟩]
  rw [eF,Ad6];rfl
 have A:=ext Wn Zy _ lt rfl λt l=>by
  unfold Wn
  have C:Gk (u9 (k+2)) (.seq (.call "pairs_of" (.b .v1 (.call "every" (.a .v1))))) (eD K T n l (some (.s t))) h= .ok ((Wf.ax n (2 ^ (n*n)-1)).map pD) h:=by
   simp_all [tY _ n h (by omega),jt _ n _ h (by omega)]
  rw [ql (h:=h) (ds:=(Wf.ax n (2 ^ (n*n)-1)).map pD) (λd=>match d with | .tup [x,y]=> .tup [.str t,x,y] | d=>d) C (by rw [Gg,Aa,Wf.ax,Aa];have:=Aj0 (2 ^ (n*n)-1).testBit (Aa5 (n*n));rw [Ah0]at this;omega)]
  ·rw [fF,Ad6,Ad6];rfl
  ·intro d s
   obtain⟨q,_,rfl⟩:=Ab6.mp s
   exact⟨[si _,si _,k0 _],rfl,.t [.str t,.n _,.n _],by simp_all [],rfl⟩
 obtain⟨j,e1⟩:=nL _ m v K [] y0 (by simp;omega)
 obtain⟨u,e2⟩:=nL _ lt A T (K.flatMap (eF n)) j (by have:=i K (eF n) m;omega)
 rw [Ae2]at e1
 rw [za (τ1:=eD K T n [] y0) (h1:=h) rfl]
 rw [za (τ1:=eD K T n (K.flatMap (eF n)) j) (h1:=h) (by
  rw [exec,show Gs (u9 (k+2)) (.seq (.ix .v0 (.int 0))) (eD K T n [] y0) h= .ok (K.map .str) h by simp_all [ab,zf],R.au];exact e1)]
 rw [za (τ1:=eD K T n (K.flatMap (eF n)++T.flatMap (fF n)) u) (h1:=h) (by
  rw [exec,show Gs (u9 (k+2)) (.seq (.ix .v0 (.int 1))) (eD K T n (K.flatMap (eF n)) j) h= .ok (T.map .str) h by simp_all [ab,We],R.au];exact e2)]
 rw [qa (w:= .own ((K.flatMap (eF n)++T.flatMap (fF n)).map bK)) (h1:=h) rfl,Gu _ _ _ rfl]
noncomputable abbrev lr:List Tx:= [gf,g0,fh,gJ,[101,97,99,104],fU,i5,gP,iM,hM,iy,iL,[107,105,110,100],[116,105,101],[115,97,121]]
def QU (st:Tx) (at' f k:Nat):Tx:=st.take at'++ [97+(f+5*k) % 26]++st.drop at'
def cM (st:Tx) (at' f k:Nat):Tx:=if QU st at' f k∈lr then QU st at' f k++ [113]else QU st at' f k
def vC (h:at'<=st.length):(cM st at' f k)[at']? =k0 (97+(f+5*k) % 26):=by
 have b:(QU st at' f k)[at']? =k0 (97+(f+5*k) % 26):=by
  unfold QU
  rw [Ae6,Ad9 (by simp_all),Af6,Ak4 h,Ao9]
  rfl
 unfold cM
 split
 ·rw [Ad2 (Aa1.mp b).1];exact b
 ·exact b
def IL (a:st.length<=6):(cM st at' f k).length<=8:=by
 have b:(QU st at' f k).length<=7:=by
  unfold QU
  rw [Aa8,Aa8,Af6,Af7]
  simp only [Aa6,Ae]
  lia
 unfold cM
 split
 ·rw [Aa8];simp [Ae];lia
 ·lia
def CZ (st) (at' f m) (h:at'<=st.length) (a:m<=8):((Aa5 m).map (cM st at' f)).Nodup:=p7 _ m a λi c j b ne z=>by
 have e1:=vC (f:=f) (k:=i) h
 have e2:=vC (f:=f) (k:=j) h
 rw [z,e2]at e1
 have:=Ad5.inj e1
 lia
abbrev c5 (r m:Nat) (f:Nat) (x4 a x6 x7 b:Option W):Sl:= [k0 (.r r),si m,k0 (.s kP),si f,x4,a,x6,x7,b]
theorem pC (k): ∀(l:List Nat) h v st x,h[r]? =k0 (ai ns i v)->st.length+l.length<=6-> ∃ L v' M,L.length<=6 ∧
 Gq (Gp [5] u0) (λτ h=>execs (u9 (k+1)) Xo τ h) (l.map λj=>D.n j) (c5 r m f (k0 (.s st)) x y0 y0 y0) h= .next (c5 r m f (k0 (.s L)) M y0 y0 y0) (h.set r (ai ns i v'))
 | [],h,v,st,x,e,a=>⟨st,v,x,by simpa using a,by
  rw [show h.set r (ai ns i v)=h by
   refine List.ext_getElem? λj=> ?_
   by_cases q:r=j
   ·subst q
    rw [Ab9 (Aa1.mp e).1,e]
   ·rw [Ae0 q]]
  rfl⟩
 | j::l,h,v,st,x,e,a=>by
  rw [Aa6]at a
  obtain⟨d,v1,b,e1⟩:=jj k e (m:=26) (by decide) (by decide)
  have g:=(Aa1.mp e).1
  obtain⟨L,v',M,c,e2⟩:=pC k l (h.set r (ai ns i v1)) v1 (st++ [97+d]) (si j) (Ab9 g) (by rw [Aa8];simp;omega)
  rw [Ad8]at e2
  refine⟨L,v',M,c,?_⟩
  have e1:call prog (k+1) "_law_draw" [.r r,.v (.int 26)] h= .ok (.i d) (h.set r (ai ns i v1)):=e1
  rw [Ab1,jb (τ1:=c5 r m f (k0 (.s st)) (si j) y0 y0 y0) rfl (by
   unfold Xo
   rw [za (τ1:=c5 r m f (k0 (.s (st++ [97+d]))) (si j) y0 y0 y0) (h1:=h.set r (ai ns i v1)) (by simp_all [e1,xA d b,add_str st [97+d] _ (by simp;omega)]),execs]),e2]
theorem rW (p:st.length<=6) (h): ∀ c j M L,j+c<=100-> ∃V O,Gq (Gp [5] u0) (λτ h=>execs F Qj τ h) ((Aa5 c).map λi=>D.n (j+i)) (c5 r m f (k0 (.s st)) M (si at') (k0 (.own (((Aa5 j).map (cM st at' f)).map .str))) L) h= .next (c5 r m f (k0 (.s st)) V (si at') (k0 (.own (((Aa5 (j+c)).map (cM st at' f)).map .str))) O) h
 | 0,j,M,L,_=>⟨M,L,rfl⟩
 | c+1,j,M,L,G=>by
  obtain⟨l,w,e⟩:=rW p h c (j+1) (si (j)) (k0 (.s (cM st at' f j))) (by omega)
  refine⟨l,w,?_⟩
  have s:execs F Qj (c5 r m f (k0 (.s st)) (si (j)) (si at') (k0 (.own (((Aa5 j).map (cM st at' f)).map .str))) L) h= .next (c5 r m f (k0 (.s st)) (si (j)) (si at') (k0 (.own (((Aa5 (j+1)).map (cM st at' f)).map .str))) (k0 (.s (cM st at' f j)))) h:=by
   have k:Gi .mul 5 (j:Int)=k0 ((5*j:Nat):Int):=Qc 5 j (by decide)
   have g:((f:Int)+((5*j:Nat):Int))=((f+5*j:Nat):Int):=rfl
   have B:Gi .mod ((f+5*j:Nat):Int) 26=k0 (((f+5*j) % 26:Nat):Int):=kQ _ 26 (by decide)
   have n:=xA ((f+5*j) % 26) (Aj6 _ (by decide)) h
   have o:st.length<=bh:=by rw [Gg];omega
   have u:cut st y0 (k0 (at':Int))=st.take at':=mX st at'
   have A:cut st (k0 (at':Int)) y0=st.drop at':=XV st at'
   have C:(st.take at').length<=6:=by rw [Af6];omega
   have l2:(st.drop at').length<=6:=by rw [Af7];omega
   have d:=add_str (st.take at') [97+(f+5*j) % 26] h (by simp only [Aa6,Ae];omega)
   have a2:=add_str (st.take at'++ [97+(f+5*j) % 26]) (st.drop at') h (by rw [Aa8];simp only [Aa6,Ae];omega)
   have E:(QU st at' f j).length<=13:=by
    unfold QU
    rw [Aa8,Aa8]
    simp only [Aa6,Ae]
    omega
   have a3:=add_str (QU st at' f j) [113] h (by simp only [Aa6,Ae];omega)
   have x:=QS (QU st at' f j) lr h
   have y:(((Aa5 j).map (cM st at' f)).map D.str).length<bh:=by rw [Gg,Aa,Aa,Ah0];omega
   have v:((Aa5 (j+1)).map (cM st at' f)).map D.str=((Aa5 j).map (cM st at' f)).map D.str++ [.str (cM st at' f j)]:=by rw [List.range_succ];simp
   unfold Qj
   rw [za (τ1:=c5 r m f (k0 (.s st)) (si (j)) (si at') (k0 (.own (((Aa5 j).map (cM st at' f)).map .str))) (k0 (.s (QU st at' f j)))) (by
    simp_all [oH,o,u,A,k,Xc,g,B,n,d,a2]
    rfl)]
   have b:Gm F (.cmp .mem .v8 (.dE uO lr)) (c5 r m f (k0 (.s st)) (si (j)) (si at') (k0 (.own (((Aa5 j).map (cM st at' f)).map .str))) (k0 (.s (QU st at' f j)))) h= .ok (y9 (QU st at' f j∈lr)) h:=by
    rw [Gm,eval,eval]
    rw [show Gj (c5 r m f (k0 (.s st)) (si (j)) (si at') (k0 (.own (((Aa5 j).map (cM st at' f)).map .str))) (k0 (.s (QU st at' f j)))) 8=k0 (.s (QU st at' f j))from rfl,R.ae,eval,R.ae,x]
    rfl
   have a: ∀t:Tx,t=cM st at' f j->execs F (.a (.app 7 .v8)) (c5 r m f (k0 (.s st)) (si (j)) (si at') (k0 (.own (((Aa5 j).map (cM st at' f)).map .str))) (k0 (.s t))) h= .next (c5 r m f (k0 (.s st)) (si (j)) (si at') (k0 (.own (((Aa5 (j+1)).map (cM st at' f)).map .str))) (k0 (.s (cM st at' f j)))) h:=λt z=>by
    subst z
    rw [v]
    simp_all [y,if_true]
   by_cases q:QU st at' f j∈lr
   ·rw [za (τ1:=c5 r m f (k0 (.s st)) (si (j)) (si at') (k0 (.own (((Aa5 j).map (cM st at' f)).map .str))) (k0 (.s (QU st at' f j++ [113])))) (h1:=h) ((Wt (by rw [b,decide_eq_true q])).trans (by simp_all [a3]))]
    exact a _ (by rw [cM,if_pos q])
   ·rw [xa (by rw [b,decide_eq_false q])]
    exact a _ (by rw [cM,if_neg q])
  rw [Ah2,Ab1,Ad6,jb rfl s]
  have:((λi=>D.n (j+i))∘Nat.succ)=λi=>D.n (j+1+i):=by
   funext i
   show D.n (j+(i+1))=_
   rw [show j+(i+1)=j+1+i by omega]
  rw [this,e,show j+1+c=j+(c+1)by omega]
def Ff (c k:Nat):(Aa3 k [c]).flatten=Aa3 k c:=by simp
def L3 (k)(e:h[r]? =k0 (ai ns i v)) (D:m<=8): ∃(N:List Tx) (B:Int),N.length=m/\N.Nodup/\(∀ t∈N,t.length<=8)/\call prog (k+2) "_law_names" [.r r,.i m] h= .ok (.own (N.map .str)) (h.set r (ai ns i B)):=by
 have S:r<h.length:=(Aa1.mp e).1
 have p: ∀w,_[r]? =k0 (ai ns i w):=λw=>Ab9 S
 have I: ∀w,(h.set r (ai ns i w)).length=h.length:=λw=>Ae3 ..
 rw [Gb (d:=zw) rfl _ _ _ rfl]
 show ∃N B,_/\_/\_/\Gv _ _=_
 simp only [zw]
 obtain⟨f,v1,K,e1⟩:=jj k e (m:=26) (by decide) (by decide)
 have e1:call prog _ "_law_draw" [.r r,.v (.int 26)] h= .ok _ _:=e1
 obtain⟨d,v2,U,e2⟩:=jj k (p v1) (m:=3) (by decide) (by decide)
 rw [Ad8]at e2
 have e2:call prog _ "_law_draw" [.r r,.v (.int 3)] _= .ok _ _:=e2
 rw [za (τ1:= [k0 (.r r),si m,k0 (.s kP),y0,y0,y0,y0,y0,y0]) (h1:=h) rfl]
 rw [za (τ1:=c5 r m f y0 y0 y0 y0 y0) (h1:=h.set r (ai ns i v1)) (by simp_all [e1])]
 have Q: ∀h,Gr .eq _ (.v (.int 0)) h=k0 (y9 (d=0)):=λh=>Jn d 0 h
 have H:Gm (u9 (k+1)) (.cmp .eq (.call "_law_draw" (.b .v0 (.int 3))) (.int 0)) (c5 r m f none none none none none) (h.set r (ai ns i v1))= .ok (decide (d=0)) (h.set r (ai ns i v2)):=by simp_all [e2,Q]
 by_cases q:d=0
 ·refine⟨(Aa5 m).map λj=>Aa3 (j+1) (97+f),v2,by simp,p7 _ m D (λa O b E ne z=>by have:=congrArg List.length z;simp at this;omega),λt y=> ?_,?_⟩
  ·obtain⟨j,x,rfl⟩:=Ab6.mp y
   rw [Ad3]
   have:=Ab8.mp x
   omega
  ·rw [qa (w:= .own (((Aa5 m).map λj=>Aa3 (j+1) (97+f)).map .str)) (h1:=h.set r (ai ns i v2)) ((Wt (h1:=h.set r (ai ns i v2)) (by rw [H,decide_eq_true q])).trans (qa (wA rfl ?_)))]
   ·exact Gu _ h _ (I v2)
   ·unfold Jw
    rw [xo (n:=m) (λj=> .str (Aa3 (j+1) (97+f))) rfl (by omega) λj x=>⟨.s (Aa3 (j+1) (97+f)),?_,rfl⟩]
    ·rw [Ad6];rfl
    ·have u:((j:Int)+1)=((j+1:Nat):Int):=rfl
     have A:=mul_str [97+f] (j+1) (h.set r (ai ns i v2)) (by omega) (by simp;omega)
     rw [Ff]at A
     simp_all [xA f K,Xc,u,A]
 ·rw [za (τ1:=c5 r m f y0 y0 y0 y0 y0) (h1:=h.set r (ai ns i v2)) ((n0 (h1:=h.set r (ai ns i v2)) (by rw [H,decide_eq_false q])).trans rfl)]
  rw [za (τ1:=c5 r m f (k0 (.s [])) y0 y0 y0 y0) (h1:=h.set r (ai ns i v2)) rfl]
  obtain⟨c,v3,V,s⟩:=jj k (p v2) (m:=6) (by decide) (by decide)
  rw [Ad8]at s
  have s:call prog (k+1) "_law_draw" [.r r,.v (.int 6)] (h.set r (ai ns i v2))= .ok (.i c) (h.set r (ai ns i v3)):=s
  obtain⟨g,v4,o,l,J⟩:=pC k (ns:=ns) (i:=i) (r:=r) (m:=m) (f:=f) (Aa5 c) (h.set r (ai ns i v3)) v3 [] y0 (p v3) (by simp;omega)
  rw [Ad8]at J
  have T:Gs (u9 (k+1)) (.av (.call "_law_draw" (.b .v0 (.int 6)))) (c5 r m f (some (.s [])) none none none none) (h.set r (ai ns i v2))= .ok ((List.range c).map fun i=> .n i) (h.set r (ai ns i v3)):=by
   have E: -fH<=(c:Int)/\(c:Int)<fH:=by rw [GQ];omega
   simp_all [s]
   rw [if_pos E,Ad4]
  rw [za (τ1:=c5 r m f (k0 (.s g)) o y0 y0 y0) (h1:=h.set r (ai ns i v4)) (by rw [exec,T,R.au];exact J)]
  obtain⟨a,v5,O,C⟩:=jj k (p v4) (m:=g.length+1) (by omega) (by omega)
  rw [Ad8]at C
  have M:g.length<=bh:=by rw [Gg];omega
  have u:((g.length:Int)+1)=((g.length+1:Nat):Int):=rfl
  rw [za (τ1:=c5 r m f (k0 (.s g)) o (si a) y0 y0) (h1:=h.set r (ai ns i v5)) (by simp_all [len_str,M,if_true,aq,Xc,u,C])]
  rw [za (τ1:=c5 r m f (k0 (.s g)) o (si a) (k0 (.own [])) y0) (h1:=h.set r (ai ns i v5)) rfl]
  obtain⟨L,P,G⟩:=rW (F:=(u9 (k+1))) (r:=r) (m:=m) (f:=f) (at':=a) l (h.set r (ai ns i v5)) m 0 o y0 (by omega)
  simp only [Am0]at G
  rw [za (τ1:=c5 r m f (k0 (.s g)) L (si a) (k0 (.own (((Aa5 m).map (cM g a f)).map .str))) P) (h1:=h.set r (ai ns i v5)) (by rw [exec,lz (n:=m) rfl (by omega),R.au];exact G)]
  refine⟨(Aa5 m).map (cM g a f),v5,by simp,CZ g a f m (by omega) D,λt y=> ?_,?_⟩
  ·obtain⟨j,x,rfl⟩:=Ab6.mp y
   exact IL l
  ·rw [qa (w:= .own (((Aa5 m).map (cM g a f)).map .str)) (h1:=h.set r (ai ns i v5)) rfl]
   exact Gu _ h _ (I v5)
noncomputable abbrev bX:List (Nat×Nat×Nat):= [(0,1,2),(1,1,2),(0,1,2),(2,1,2),(1,0,3),(2,0,3),(0,1,1),(3,2,1),(1,0,4),(0,2,2),(1,1,0),(1,1,1),(0,1,3)]
def dW (p:Nat×Nat×Nat):D:= .tup [.n (p.1),.n (p.2.1),.n (p.2.2)]
structure bD (n:Nat) (K T:List Tx):Prop where
 n4:n<=4
 k4:K.length<=4
 t4:T.length<=4
 b6:K.length*n+T.length*(n*n)<=9
 nd:(K++T).Nodup
 l8: ∀t∈K++T,t.length<=8
abbrev iV (r:Nat) (l:List D) (a b c:Option W) (x:Option W):Sl:= [k0 (.r r),k0 (.l l),a,b,c,x]
def Me (k)(e:h[r]? =k0 (ai ns i v)): ∃ n K T v',bD n K T/\call prog (k+3) "_law_words" [.r r] h= .ok (.t [.n n,wD K T]) (h.set r (ai ns i v')):=by
 have J:r<h.length:=(Aa1.mp e).1
 have I: ∀w,(h.set r (ai ns i w))[r]? =k0 (ai ns i w):=λw=>Ab9 J
 have O: ∀w,(h.set r (ai ns i w)).length=h.length:=λw=>Ae3 ..
 rw [Gb rfl _ _ _ rfl]
 show ∃n K T v',_/\Gv _ (execs _ _ [k0 (.r r),y0,y0,y0,y0,y0] h)=_
 simp only [jJ]
 obtain⟨d,v1,x,e1⟩:=jj (k+1) e (m:=13) (by decide) (by decide)
 have e1:call prog (k+2) "_law_draw" [.r r,.v (.int 13)] h= .ok (.i d) (h.set r (ai ns i v1)):=e1
 have E: ∀p∈bX,p.1+p.2.1<=8/\p.2.2<=4/\p.1<=4/\p.2.1<=4/\p.1*p.2.2+p.2.1*(p.2.2*p.2.2)<=9:=by decide
 obtain⟨⟨a,b,n⟩,s⟩: ∃p,bX[d]? =k0 p:=⟨bX[d],Aa7 x⟩
 obtain⟨l,q,o,j,F⟩:=E _ (Ac3 s)
 have l:a+b<=8:=l
 have q:n<=4:=q
 have o:a<=4:=o
 have j:b<=4:=j
 have c:aV (bX.map dW) (d:Int)=k0 (dW (a,b,n)):=by
  rw [Qg _ _ (by rw [Aa];exact x),Ac2,s];rfl
 obtain⟨N,v2,Q,nn,A,e2⟩:=L3 k (I v1) l
 rw [Ad8]at e2
 have g:((a:Int)+(b:Int))=((a+b:Nat):Int):=rfl
 refine⟨n,Gz (N.take a),Gz (N.drop a),v2,?_,?_⟩
 ·have y:=qk (N.take a)
  have pt:=qk (N.drop a)
  have z:(Gz (N.take a)).length=a:=by rw [y.length_eq,Af6];omega
  have lt:(Gz (N.drop a)).length=b:=by rw [pt.length_eq,Af7];omega
  have u:(Gz (N.take a)++Gz (N.drop a)).Perm N:=(y.append pt).trans (by rw [List.take_append_drop])
  exact⟨q,by rw [z];exact o,by rw [lt];exact j,by rw [z,lt];exact F,u.nodup_iff.mpr nn,λt M=>A t (u.mem_iff.mp M)⟩
 ·rw [za (τ1:=iV r ((bX.take 9).map dW) y0 y0 y0 y0) (h1:=h) rfl]
  have B:GW .add (.l ((bX.take 9).map dW)) (.own ((bX.drop 9).map dW)) h= .ok (.own (bX.map dW)) h:=by
   show(if ((bX.take 9).map dW).length+((bX.drop 9).map dW).length<=bh then _ else _)=_
   rw [if_pos (by rw [Gg];decide)]
   rfl
  rw [za (τ1:=iV r (bX.map dW) y0 y0 y0 y0) (h1:=h) (by
   rw [exec,show eval (u9 (k+2)) (.bin .add .v1 (.lst (.d (.tup (.c (.int 0) (.int 2) (.int 2))) (.tup (.c (.int 1) (.int 1) (.int 0))) (.tup (.c (.int 1) (.int 1) (.int 1))) (.tup (.c (.int 0) (.int 1) (.int 3)))))) (iV r ((bX.take 9).map dW) y0 y0 y0 y0) h= .ok (.own (bX.map dW)) h from B]
   rfl)]
  rw [za (τ1:=iV r (bX.map dW) (si a) (si b) (si n) y0) (h1:=h.set r (ai ns i v1)) (by
   rw [exec,show eval (u9 (k+2)) (.ix .v1 (.call "_law_draw" (.b .v0 (.bi .len (.a .v1))))) (iV r (bX.map dW) none none none none) h= .ok (.v (dW (a,b,n))) (h.set r (ai ns i v1))by
    have f:call prog (k+2) "_law_draw" [.r r,.v (.int ((bX.map dW).length:Int))] h= .ok (.i d) (h.set r (ai ns i v1)):=e1
    generalize bX.map dW=L at c f ⊢
    simp_all [zL,aq,f,Qp,c]]
   rfl)]
  rw [za (τ1:=iV r (bX.map dW) (si a) (si b) (si n) (k0 (.l (N.map .str)))) (h1:=h.set r (ai ns i v2)) (by simp_all [Xc,g,e2])]
  have H:=wM (N.take a) (h.set r (ai ns i v2)) (by rw [Af6];omega)
  have P:=wM (N.drop a) (h.set r (ai ns i v2)) (by rw [Af7];omega)
  have G:cut (N.map D.str) y0 (k0 (a:Int))=(N.take a).map D.str:=by rw [mX,List.map_take]
  have C:cut (N.map D.str) (k0 (a:Int)) y0=(N.drop a).map D.str:=by rw [XV,List.map_drop]
  rw [qa (w:= .t [.n n,wD (Gz (N.take a)) (Gz (N.drop a))]) (h1:=h.set r (ai ns i v2)) (Xa rfl (by
   simp_all [t7,G,C,H,P,W1,aq]))]
  exact Ga _ h _ (O v2)
def BS (s:Nat) (h1:3<=s) (b:s<5): ∃f:Ex->Ex,(∀ a,(f a).dp=a.dp+1)/\(∀ N a,a.wf N->(f a).wf N)/\ ∃t,aV [D.str Xh,.str Wh] ((s:Int)-3)=k0 (.str t)/\ ∀a,aT (f a)= .tup [.str t,aT a]:=by
 match s,h1,b with
 | 3,_,_=>exact⟨.turned,λ_=>rfl,λ_ _ h=>h,Xh,rfl,λ_=>rfl⟩
 | 4,_,_=>exact⟨.closed,λ_=>rfl,λ_ _ h=>h,Wh,rfl,λ_=>rfl⟩
 | s+5,_,h=>exact absurd h (by lia)
def EB (s:Nat) (h1:5<=s) (c:s<10): ∃f:Ex->Ex->Ex,(∀ a b,(f a b).dp=max a.dp b.dp+1)/\(∀ N a b,a.wf N->b.wf N->(f a b).wf N)/\ ∃t,aV [D.str jF,.str qp,.str jz,.str xf,.str xf] ((s:Int)-5)=k0 (.str t)/\ ∀a b,aT (f a b)= .tup [.str t,aT a,aT b]:=by
 match s,h1,c with
 | 5,_,_=>exact⟨.plus,λ_ _=>rfl,λ_ _ _ h g=>⟨h,g⟩,jF,rfl,λ_ _=>rfl⟩
 | 6,_,_=>exact⟨.less,λ_ _=>rfl,λ_ _ _ h g=>⟨h,g⟩,qp,rfl,λ_ _=>rfl⟩
 | 7,_,_=>exact⟨.both,λ_ _=>rfl,λ_ _ _ h g=>⟨h,g⟩,jz,rfl,λ_ _=>rfl⟩
 | 8,_,_=>exact⟨.joined,λ_ _=>rfl,λ_ _ _ h g=>⟨h,g⟩,xf,rfl,λ_ _=>rfl⟩
 | 9,_,_=>exact⟨.joined,λ_ _=>rfl,λ_ _ _ h g=>⟨h,g⟩,xf,rfl,λ_ _=>rfl⟩
 | s+10,_,h=>exact absurd h (by lia)
abbrev iF (r:Nat) (N:List Tx) (g p:Nat) (x4 a x6:Option W):Sl:= [k0 (.r r),k0 (.l (N.map .str)),si g,si p,x4,a,x6]
def eZ (N:List Tx):List Ex:=(N++N).map .name++ [.same,.all,.none]
def mz (h:e∈eZ N):e.wf N/\e.dp=0:=by
 obtain h | h:=Ac8.mp h
 ·obtain⟨t,a,rfl⟩:=Ab6.mp h
  exact⟨(Ac8.mp a).elim id id,rfl⟩
 ·have:e= .same\/e= .all\/e= .none:=by simpa using h
  rcases this with rfl | rfl | rfl<;>exact⟨trivial,rfl⟩
def rX (m)(k:N.length<=8) (e:h[r]? =some (ai ns i v)): ∃ x v',x∈eZ N/\execs (u9 (m+1)) (.cons (.af 4 (.bin .add (.bin .mul ze (.int 2)) (.lst (.c (.tup (.a (.str xg))) (.tup (.a (.str wn))) (.tup (.a (.str Xg))))))) (.a (.ret (.ix .v4 (.call "_law_draw" (.b .v0 (.bi .len (.a .v4)))))))) (iF r N g p none none none) h= .ret (.v (aT x)) (h.set r (ai ns i v')):=by
 have l:(eZ N).length=2*N.length+3:=by simp [eZ];omega
 obtain⟨d,v1,b,e1⟩:=jj m e (m:=(eZ N).length) (by omega) (by omega)
 refine⟨_[d],v1,Ap1 b,?_⟩
 have c:eval (u9 (m+1)) ze (iF r N g p y0 y0 y0) h= .ok (.own (N.map λt=>aT (.name t))) h:=by
  unfold ze
  rw [ql (ds:=N.map .str) (λd=> .tup [.str Zg,d]) (by simp_all []) (by rw [Gg,Aa];omega)]
  ·rw [Ad6];rfl
  ·intro d b
   exact⟨[sv d],rfl,.t [.str Zg,d],by simp_all [],rfl⟩
 have f:=Cw (N.map λt=>aT (.name t)) 2 h (by decide) (by rw [Aa];omega)
 have j:GW .add (.own (Aa3 2 (N.map λt=>aT (.name t))).flatten) (.own [.tup [.str xg],.tup [.str wn],.tup [.str Xg]]) h= .ok (.own ((eZ N).map aT)) h:=by
  show(if ((Aa3 2 (N.map λt=>aT (.name t))).flatten).length+3<=bh then _ else _)=_
  rw [if_pos (by rw [Gg];simp;omega)]
  simp [eZ,aT,aq,Ae4,Function.comp_def]
 rw [za (τ1:=iF r N g p (k0 (.l ((eZ N).map aT))) y0 y0) (h1:=h) (by
  have f:GW .mul _ (.v (.int 2)) h= .ok _ h:=f
  generalize (Aa3 2 (N.map λt=>aT (.name t))).flatten=Z at f j
  simp_all [c,f,j])]
 have a:aV ((eZ N).map aT) d=k0 (aT (eZ N)[d]):=by
  rw [Qg _ _ (by rw [Aa];exact b),Ac2,Aa7 b];rfl
 have e1:call prog (m+1) "_law_draw" [.r r,.v (.int (((eZ N).map aT).length))] h= .ok (.i d) (h.set r (ai ns i v1)):=by rw [List.length_map];exact e1
 generalize (eZ N).map aT=L at a e1 ⊢
 exact qa (Xa rfl (by simp_all [zL,aq,e1,Qp,a]))
def uP (H:N.length<=8): ∀ g k h v,h[r]? =k0 (ai ns i v)-> ∃ e v',e.wf N/\e.dp<=g/\call prog (g+k+2) "_law_expression" [.r r,.l (N.map .str),.i g] h= .ok (.v (aT e)) (h.set r (ai ns i v')):=by
 intro g
 induction g with
 | zero=>
  intro k h v e
  have B:r<h.length:=(Aa1.mp e).1
  have j: ∀w,_[r]? =k0 (ai ns i w):=λw=>Ab9 B
  obtain⟨p,v1,E,e1⟩:=jj _ e (m:=10) (by decide) (by decide)
  have e1:call prog (0+k+1) "_law_draw" [.r r,.v (.int 10)] h= .ok _ _:=e1
  obtain⟨x,v2,c,e2⟩:=rX (0+k) H (j v1)
  rw [Ad8]at e2
  refine⟨x,v2,(mz c).1,Al0 (mz c).2,?_⟩
  rw [Gb rfl _ _ _ rfl]
  simp only [jf]
  refine fx (by simp_all [e1];rfl) ?_
  rw [qa ((Wt (h1:=h.set r (ai ns i v1)) (by
   have z:Gr .eq (.i (0)) (.v (.int 0)) (h.set r (ai ns i v1))=k0 true:=Jn 0 0 _
   simp_all [z])).trans e2)]
  exact Ga _ h _ (Ae3 ..)
 | succ g I=>
  intro k h v e
  have B:r<h.length:=(Aa1.mp e).1
  have j: ∀w,(h.set r (ai ns i w))[r]? =k0 (ai ns i w):=λw=>Ab9 B
  have C: ∀w,(h.set r (ai ns i w)).length=h.length:=λw=>Ae3 ..
  rw [show g+1+k+2=(g+k+2)+1 by omega]
  obtain⟨p,v1,E,e1⟩:=jj (g+k+1) e (m:=10) (by decide) (by decide)
  have e1:call prog (g+k+2) "_law_draw" [.r r,.v (.int 10)] h= .ok (.i p) (h.set r (ai ns i v1)):=e1
  have J:Gm (u9 (g+k+2)) (.or (.cmp .eq .v2 (.int 0)) (.cmp .lt .v3 (.int 3))) (iF r N (g+1) p y0 y0 y0) (h.set r (ai ns i v1))= .ok (y9 (p<3)) (h.set r (ai ns i v1)):=by
   have z:Gr .eq (.i (g+1)) (.v (.int 0)) (h.set r (ai ns i v1))=k0 false:=by
    have:=Jn (g+1) 0 (h.set r (ai ns i v1))
    rw [decide_eq_false (by omega)]at this
    exact this
   have n:=k5 3 p (h.set r (ai ns i v1))
   have n:Gr .lt (.i p) (.v (.int 3)) (h.set r (ai ns i v1))=k0 (y9 (p<3)):=n
   rw [Gm,kn (a:=k9) (b:=y9 (p<3)) (by simp_all [z]) (by simp_all [n]),R.ae]
   rfl
  rw [Gb (d:=jf) rfl _ _ _ rfl]
  show ∃e v',_/\_/\Gv _ (execs _ _ [k0 (.r r),k0 (.l (N.map .str)),si (g+1),y0,y0,y0,y0] h)=_
  simp only [jf]
  rw [za (τ1:=iF r N (g+1) p y0 y0 y0) (h1:=h.set r (ai ns i v1)) (by simp_all [e1])]
  by_cases q:p<3
  ·obtain⟨x,v2,c,e2⟩:=rX (g+k+1) (g:=g+1) (p:=p) H (j v1)
   rw [Ad8]at e2
   refine⟨x,v2,(mz c).1,by rw [(mz c).2];omega,?_⟩
   rw [qa (w:= .v (aT x)) (h1:=h.set r (ai ns i v2)) ((Wt (h1:=h.set r (ai ns i v1)) (by rw [J,decide_eq_true q])).trans e2)]
   exact Ga _ h _ (C v2)
  ·rw [xa (by rw [J,decide_eq_false q])]
   obtain⟨x,v2,F,O,e2⟩:=I k _ v1 (j v1)
   rw [Ad8]at e2
   have D:(((g+1:Nat):Int)-1)=((g:Nat):Int):=by omega
   rw [za (τ1:=iF r N (g+1) p y0 (sv (aT x)) y0) (h1:=h.set r (ai ns i v2)) (by simp_all [Ze,D,e2])]
   have G:Gr .lt (.i p) (.v (.int 5)) (h.set r (ai ns i v2))=k0 (y9 (p<5)):=k5 5 p _
   by_cases s:p<5
   ·obtain⟨f,u,o,t,A,l⟩:=BS p (by omega) s
    refine⟨f x,v2,o N x F,by rw [u];omega,?_⟩
    rw [je (w:= .v (aT (f x))) (by simp_all [G,decide_eq_true s]) (Xa rfl (by rw [l];simp_all [Ze,ZN,A]))]
    exact Ga _ h _ (C v2)
   ·rw [xa (by simp_all [G,decide_eq_false s])]
    obtain⟨y,v3,L,M,K⟩:=I k _ v2 (j v2)
    rw [Ad8]at K
    rw [za (τ1:=iF r N (g+1) p y0 (sv (aT x)) (sv (aT y))) (h1:=h.set r (ai ns i v3)) (by simp_all [Ze,D,K])]
    obtain⟨f,u,o,t,A,l⟩:=EB p (by omega) E
    refine⟨f x y,v3,o N x y F L,by rw [u];omega,?_⟩
    rw [qa (w:= .v (aT (f x y))) (h1:=h.set r (ai ns i v3)) (Xa rfl (by rw [l];simp_all [Ze,ZN,A]))]
    exact Ga _ h _ (C v3)
theorem oF: ∀(ws) (c j w),ws[j]? =k0 w->(dg ws c)[j]? =k0 (c / 2 ^ (ws.take j).sum % 2 ^ w)
 | [],_,_,_,h=>by simp at h
 | u::ws,c,0,w,h=>by
  have:u=w:=by simpa using h
  subst this
  simp [dg]
 | u::ws,c,j+1,w,h=>by
  have h:=by simpa using h
  show(dg ws (c / 2 ^ u))[j]? =_
  rw [oF ws _ j w h,List.take_succ_cons,Al3,Am8,←Nat.pow_add]
theorem Z2: ∀(ws) (c),(dg ws c).length=ws.length
 | [],_=>rfl
 | w::ws,c=>by rw [dg,Aa6,Z2 ws,Aa6]
def cy (n a b c:Nat):List Nat:=(dg (cK n a b) c).take a
def cR (n a b c:Nat):List Nat:=(dg (cK n a b) c).drop a
def DX (n a b j) (h:j<=a):((cK n a b).take j).sum=j*n:=by
 rw [cK,List.take_append_of_le_length (by simp_all),List.take_replicate,xw,Ak4 h]
def F2 (n a b j:Nat) (h:j<=b):((cK n a b).take (a+j)).sum=a*n+j*(n*n):=by
 rw [cK,List.take_append,Ad3,Ai7 (by simp),List.sum_append,List.take_replicate,xw,xw,Am5,Ak4 h]
def mq (h:j<a):(cy n a b c)[j]? =k0 (c / 2 ^ (j*n) % 2 ^ n):=by
 rw [cy,Am3 h,oF _ _ _ n (by rw [cK,Ad2 (by simp_all),Ai2,if_pos h]),DX _ _ _ _ (Ag3 h)]
def l3 (h:j<b):(cR n a b c)[j]? =k0 (c / 2 ^ (a*n+j*(n*n)) % 2 ^ (n*n)):=by
 rw [cR,List.getElem?_drop,oF _ _ _ _ (by rw [cK,Ad9 (by simp),Ad3,Am5,Ai2,if_pos h]),F2 _ _ _ _ (Ag3 h)]
def wo (n:Nat) (K T:List Tx) (c:Nat):Wo:=⟨n,K,T,cy n K.length T.length c,cR n K.length T.length c⟩
def zU (n a b c):(cy n a b c).length=a:=by rw [cy,Af6,Z2,lU];lia
def WP (n a b c):(cR n a b c).length=b:=by rw [cR,Af7,Z2,lU];lia
theorem bD.wo (g:bD n K T) (c):(wo n K T c).Ok:=by
 refine⟨g.k4,g.t4,g.nd,g.n4,zU ..,WP ..,λx b=> ?_,λx b=> ?_⟩
 ·obtain⟨j,a,e⟩:=Al5 b
  have:(cy n K.length T.length c)[j]? =k0 x:=by rw [← e];exact Aa7 a
  rw [mq (by rw [← zU n K.length T.length c];exact a)]at this
  rw [← Ad5.inj this]
  exact Aj6 _ (Ac9 _)
 ·obtain⟨j,a,e⟩:=Al5 b
  have:(cR n K.length T.length c)[j]? =k0 x:=by rw [← e];exact Aa7 a
  rw [l3 (by rw [← WP n K.length T.length c];exact a)]at this
  rw [← Ad5.inj this]
  exact Aj6 _ (Ac9 _)
def bD.pt (g:bD n K T) (c d):Pt (M.wo n K T c) (M.wo n K T d):=⟨g.wo c,g.wo d,rfl,rfl,rfl⟩
theorem xZ : ∀ {i}{j},i.Nodup->i[j]? =k0 t->cX t i=j
 | [],_,_,h=>by simp at h
 | y::c,0,_,h=>by
  have:y=t:=by simpa using h
  simp [cX,Kj,this]
 | y::c,j+1,a,h=>by
  have h:=by simpa using h
  have m:=Ac3 h
  have a:=Ai.mp a
  have ne:y≠t:=λe=>a.1 (e▸m)
  have b:=xZ a.2 h
  rw [cX]at b ⊢
  rw [Kj,if_neg ne,(xm m).1]
  rw [(xm m).1]at b
  simpa using b
theorem nD {d b:Type}(g) (m) (a: ∀t,(g t).length=m): ∀(l:List d) i (y:b),(l.flatMap g)[i]? =k0 y-> ∃j t p,l[j]? =k0 t/\(g t)[p]? =k0 y/\p<m/\i=j*m+p
 | [],i,y,h=>by simp at h
 | t::l,i,y,h=>by
  rw [Aj3]at h
  by_cases q:i<m
  ·rw [Ad2 (by rw [a];exact q)]at h
   exact⟨0,t,i,rfl,h,q,by omega⟩
  ·rw [Ad9 (by rw [a];omega),a]at h
   obtain⟨j,u,p,e,f,c,k⟩:=nD g m a l _ y h
   exact⟨j+1,u,p,e,f,c,by rw [Nat.add_mul];omega⟩
theorem wN {b c:Type}(g:b->List c) (m) (a: ∀t,(g t).length=m): ∀l:List b,(l.flatMap g).length=l.length*m
 | []=>by simp
 | t::l=>by rw [Aj3,Aa8,a,wN g m a l,Aa6,Nat.add_mul];omega
def bP (n:Nat) (K T:List Tx):List Pl:=K.flatMap (eF n)++T.flatMap (fF n)
def ZA (n):Wf.ax n (2 ^ (n*n)-1)=(Aa5 (n*n)).map λk=>(k / n,k % n):=by
 rw [Wf.ax,List.filter_eq_self.mpr λk a=>by rw [Ag1,decide_eq_true (Ab8.mp a)]]
def WG (n) (t):(eF n t).length=n:=by simp [eF]
def uN (n) (t):(fF n t).length=n*n:=by simp [fF,ZA]
def WD (n) (K T):(bP n K T).length=K.length*n+T.length*(n*n):=by rw [bP,Aa8,wN _ _ (WG n),wN _ _ (uN n)]
def Qk (g:bD n K T)(h:(bP n K T)[i]? =k0 (t,x,y)) (c):bg (wo n K T c) t x y=c.testBit i/\t∈K++T/\x<n/\y<n:=by
 obtain⟨f,e,o⟩:=Aj2.mp g.nd
 rw [bP]at h
 by_cases q:i<K.length*n
 ·rw [Ad2 (by rw [wN _ _ (WG n)];exact q)]at h
  obtain⟨j,u,p,d,a,b,l⟩:=nD _ n (WG n) _ _ _ h
  rw [eF,Ac2,List.getElem?_range b]at a
  have a:=Ad5.inj a
  obtain⟨rfl,rfl,rfl⟩:u=t/\p=x/\p=y:=by simpa using a
  have mk:=Ac3 d
  have r:=λz=>o u mk u z rfl
  have k:=(Aa1.mp d).1
  refine⟨?_,Ad0 _ mk,b,b⟩
  rw [bg,if_neg (show u∉(wo n K T c).T from r)]
  show(decide _&&((cy n K.length T.length c).getD (cX u K) 0).testBit p)=_
  rw [xZ f d,Ac6,mq k,Ak9,Ag8,Ag9,decide_eq_true b,decide_eq_true rfl,l,Ap]
  rfl
 ·rw [Ad9 (by rw [wN _ _ (WG n)];omega),wN _ _ (WG n)]at h
  obtain⟨j,u,p,d,a,b,l⟩:=nD _ _ (uN n) _ _ _ h
  rw [fF,ZA,Ad6,Ac2,List.getElem?_range b]at a
  have a:=Ad5.inj a
  obtain⟨rfl,rfl,rfl⟩:u=t/\p / n=x/\p % n=y:=by simpa using a
  have m:=Ac3 d
  have k:=(Aa1.mp d).1
  refine⟨?_,Ab0 _ m,Wf.a8 b,Wf.aW b⟩
  rw [bg,if_pos (show u∈(wo n K T c).T from m)]
  show(((cR n K.length T.length c).getD (cX u T) 0).testBit (p / n*n+p % n))=_
  rw [xZ e d,Ac6,l3 k,Ak9,Ag8,Ag9,Wf.bq,decide_eq_true b,Ae1]
  congr 1
  omega
def oi (b:x<n) (a:y<n) (h:t∈T\/(t∈K/\x=y)): ∃i:Nat,(bP n K T)[i]? =k0 (t,x,y):=by
 have:(t,x,y)∈bP n K T:=by
  rw [bP,Ac8,List.mem_flatMap,List.mem_flatMap]
  obtain h | ⟨h,rfl⟩:=h
  ·refine .inr ⟨t,h,?_⟩
   rw [fF,ZA,Ad6]
   refine Ab6.mpr ⟨x*n+y,Ab8.mpr (Wf.place_lt b a),?_⟩
   show(t,_ / n,_ % n)=_
   rw [Wf.aF a,Wf.aJ a]
  ·exact .inl ⟨t,h,Ab6.mpr ⟨x,Ab8.mpr b,rfl⟩⟩
 obtain⟨i,c,e⟩:=Al5 this
 exact⟨i,by rw [← e];exact Aa7 c⟩
def tV (a:t∈K++T) (d:x<n) (b:y<n) (h:bg (wo n K T c) t x y=u0): ∃i:Nat,(bP n K T)[i]? =k0 (t,x,y):=by
 refine oi d b ?_
 by_cases q:t∈T
 ·exact .inl q
 ·rw [bg,if_neg (show t∉(wo n K T c).T from q),Aa0,decide_eq_true_eq]at h
  exact .inr ⟨(Ac8.mp a).resolve_right q,h.1⟩
def nu (g:bD n K T){i j:Nat}(h:(bP n K T)[i]? =k0 p) (q:(bP n K T)[j]? =k0 p):i=j:=by
 have b:=(Qk g h (2 ^ i)).1
 have a:=(Qk g q (2 ^ i)).1
 rw [b,Ak0,Ad7]at a
 simpa using a.symm
def BC (k n) (A B) (c) (h) (b:n<=4) (h1:A.length<=4) (f:B.length<=4) (lt:c<2 ^ (cK n A.length B.length).sum):call prog (k+5) "world_of" [.v (lH A B),.i n,.i c] h= .ok (.v (iG n (cy n A.length B.length c) (cR n A.length B.length c))) h:=by
 rw [Gb rfl _ _ _ rfl]
 have d:=Af1 b b
 have l:=pq k (.n n) h rfl (by simp [Js];omega)
 have o:=u7 (k+2) n A B h b h1 f
 have a:=tw (k+3) n A B h b h1 f
 have r:(cK n A.length B.length).sum<=100:=by
  rw [o9]
  have p:A.length*n<=4*4:=Af1 h1 b
  have a2:B.length*(n*n)<=4*16:=Af1 f d
  omega
 have m:=ZU (cK n A.length B.length).sum (by omega)
 have g:=jD (k+2) (.n c) ((2 ^ (cK n A.length B.length).sum:Nat):Int) h rfl
 have bt:Js (.n c) ((2 ^ (cK n A.length B.length).sum:Nat):Int)=true:=by
  simp only [Js,Aa0,decide_eq_true_eq];omega
 rw [bt]at g
 obtain⟨s,q,e⟩:=uZ h (cK n A.length B.length) c [] y0 (λw a=>by
  rcases Ac8.mp a with a | a
  ·rw [(List.mem_replicate.mp a).2];omega
  ·rw [(List.mem_replicate.mp a).2];exact d) (by rw [lU];simp;omega)
 rw [Ae2]at e
 simp only [XM]
 refine fx (by simp_all [l];rfl) ?_
 rw [xa (by simp_all [o,m,g])]
 refine fx (by simp_all [];rfl) ?_
 refine fx (by simp_all [];rfl) ?_
 have ew:eval (u9 (k+4)) (.call "widths" (.b .v0 .v1)) [sv (lH A B),si n,si c,some (.own []),si c,none,none] h= .ok (.own (ar (cK n A.length B.length))) h:=by
  simp_all [a]
 rw [za (by
  simp only [exec,Gs,GJ,ew,R.ae,Ka,R.ak,R.au]
  exact e)]
 have j:cut (ar (dg (cK n A.length B.length) c)) y0 (k0 (A.length:Int))=ar (cy n A.length B.length c):=by rw [mX,ar,←List.map_take];rfl
 have i:cut (ar (dg (cK n A.length B.length) c)) (k0 (A.length:Int)) y0=ar (cR n A.length B.length c):=by rw [XV,ar,←List.map_drop];rfl
 refine fx (by simp_all [ab,zf,Xf];rfl) ?_
 rw [qa (w:= .v (iG n (cy n A.length B.length c) (cR n A.length B.length c))) (h1:=h) (Xa rfl (by simp_all [E2,j,i,W1]))]
 exact Ga _ _ _ rfl
abbrev bN (n:Nat) (K T:List Tx):Nat:=K.length*n+T.length*(n*n)
def b0 (n:Nat) (K T:List Tx) (S:List Sy):List (String×D):= [("words",wD K T),("sayings",.tup (S.map aP)),("size",.n n),("places",.lst ((bP n K T).map bK)),("whole",.n (2 ^ bN n K T-1))]
def Zo (e:h[r]? =k0 (.obj c fs)):GX h (k0 (.r r))=k0 (r,c,fs):=by unfold GX;simp [e]
def wj (a:h[r]? =k0 (.obj c fs)) (b:Gn τ i=k0 (.r r)) (e:fs.lookup f=k0 d):eval F (.aG (.var i) c f) τ h= .ok (.v d) h:=by
 rw [eval,eval,Gj,b]
 simp [Zo a,e,aq]
def QF (a:h[r]? =k0 (.obj c fs)) (d:Gn τ i=k0 (.r r)) (e:(fs.lookup m).isNone=u0) (b:Gd F es τ h= .ok ws h):eval F (.bL (.var i) c m q es) τ h=F.call q (.r r::ws.map W.arg) h:=by
 rw [eval,eval,Gj,d]
 simp [Zo a,e,b]
section
variable {n:Nat}{K T:List Tx}{S:List Sy}{ro:Nat}{h:AH}
def X9 (k c) (g:bD n K T) (C:h[ro]? =k0 (.obj "Cases" (b0 n K T S))) (d:c<2 ^ bN n K T):call prog (k+6) "Cases.world_of_code" [.r ro,.i c] h= .ok (.v (wo n K T c).aD) h:=by
 rw [Gb rfl _ _ _ rfl]
 have e:=BC k n (K.map .str) (T.map .str) c h g.n4 (by rw [Aa];exact g.k4) (by rw [Aa];exact g.t4) (by rw [o9,Aa,Aa];exact d)
 rw [Aa,Aa]at e
 simp only [xi]
 have a:=wj (F:=(u9 (k+5))) (τ:= [k0 _,si c]) (i:=0) (f:= "words") C rfl rfl
 have b:=wj (F:=(u9 (k+5))) (τ:= [k0 _,si c]) (i:=0) (f:= "size") C rfl rfl
 rw [qa (w:= .v (wo n K T c).aD) (h1:=h) (Xa rfl (by
  generalize E.aG _ _ _=X at a ⊢
  generalize E.aG _ _ _=Y at b ⊢
  simp_all [a,b,e]
  rfl)),Ga _ _ _ rfl]
def QL (m j c d) (g:bD n K T) (C:h[ro]? =some (.obj "Cases" (b0 n K T S))) (u:c<2 ^ bN n K T) (v:d<2 ^ bN n K T)(p:S[j]? =some s) (x:s.dp+9<=m) (wf:s.wf (K++T)): ∃r,Td (wo n K T c) (wo n K T d) s r/\call prog (m+1) "Cases.truth" [.r ro,.i j,.i c,.i d] h= .ok (.v (aH r)) h:=by
 obtain⟨k,rfl⟩:=nk m 6 (by omega)
 obtain⟨r,y,e⟩:=LR (g.pt c d) h s _ x wf
 refine⟨r,y,?_⟩
 rw [Gb rfl _ _ _ rfl]
 simp only [Wy]
 have b:=QF (F:=(u9 (k+6))) (τ:= [k0 _,si j,si c,si d,y0]) (i:=0) (m:= "world_of_code") (q:= "Cases.world_of_code") (es:= .cons .v2 .nil) (ws:= [.i c]) C rfl rfl (by simp_all [])
 have a:=QF (F:=(u9 (k+6))) (τ:= [k0 _,si j,si c,si d,y0]) (i:=0) (m:= "world_of_code") (q:= "Cases.world_of_code") (es:= .cons .v3 .nil) (ws:= [.i d]) C rfl rfl (by simp_all [])
 have b:=b.trans (X9 k c g C u)
 have a:=a.trans (X9 k d g C v)
 have z:j<S.length:=(Aa1.mp p).1
 have l:aV (S.map aP) (j:Int)=k0 (aP s):=by rw [Qg _ _ (by rw [Aa];exact z),Ac2,p];rfl
 rw [za (τ1:= [k0 (.r ro),si j,si c,si d,sv (bW (wo n K T c) (wo n K T d))]) (h1:=h) (by
  generalize E.bL _ _ _ _ _=X at b ⊢
  generalize E.bL _ _ _ _ _=Y at a ⊢
  simp_all [b,a])]
 have t:=wj (F:=(u9 (k+6))) (τ:= [k0 (.r ro),si j,si c,si d,sv (bW (wo n K T c) (wo n K T d))]) (i:=0) (f:= "words") C rfl rfl
 have o:=wj (F:=(u9 (k+6))) (τ:= [k0 (.r ro),si j,si c,si d,sv (bW (wo n K T c) (wo n K T d))]) (i:=0) (f:= "sayings") C rfl rfl
 have e:call prog _ "told" [.v (wD K T),.v _,.v _] h= .ok _ h:=e
 rw [qa (w:= .v (aH r)) (h1:=h) (Xa rfl (by
  generalize E.aG _ _ _=X at t ⊢
  generalize E.aG _ _ _=Y at o ⊢
  simp_all [t,o,ab,l,e])),Ga _ _ _ rfl]
end
def pP (p) (t) (a b):cu (bK p) (.tup [.str t,.int a,.int b])=u0↔p.1=t/\(p.2.1:Int)=a/\(p.2.2:Int)=b:=by
 simp [bK,GK]
theorem rP (t) (a b): ∀L:List Pl,inD (.tup [.str t,.int a,.int b]) (L.map bK)=u0-> ∃ i x y,Kq (.tup [.str t,.int a,.int b]) (L.map bK)=k0 i/\L[i]? =k0 (t,x,y)/\a=(x:Int)/\b=(y:Int)
 | [],h=>by simp [inD]at h
 | p::L,h=>by
  rw [Ab1,Kq]
  by_cases q:cu (bK p) (.tup [.str t,.int a,.int b])=u0
  ·obtain⟨d,e,c⟩:=(pP p t a b).mp q
   refine⟨0,p.2.1,p.2.2,by rw [if_pos q],?_,e.symm,c.symm⟩
   rw [← d];rfl
  ·rw [if_neg q]
   have h:=by
    rw [inD,Ab1,Af2,Ae5]at h
    exact h.resolve_left q
   obtain⟨i,x,y,d,e,c,f⟩:=rP t a b L h
   exact⟨i+1,x,y,by rw [d];rfl,e,c,f⟩
def pO {x y i:Nat}{L:List Pl}(h:L[i]? =k0 (t,x,y)):inD (.tup [.str t,.n x,.n y]) (L.map bK)=true:=by
 rw [inD,Ad1]
 exact⟨bK _,Ab6.mpr ⟨_,Ac3 h,rfl⟩,(pP _ _ _ _).mpr ⟨rfl,rfl,rfl⟩⟩
def xL (L:List Pl):Gc (L.map bK)=true:=Xj _ (λ_=>rfl) L
def pZ (L:List Pl):GF (L.map bK)<140:=Ah6 (Qy bK 1 (λ_=>by simp [bK]) L) (by decide)
def E1 (t) (a b) (L:List Pl) (h):Gr .eS (.t [.str t,.int a,.int b]) (.l (L.map bK)) h=k0 (!inD (.tup [.str t,.int a,.int b]) (L.map bK)):=by
 have e:Kh (.t [.str t,.int a,.int b]) (.l _) h=Kw _ (.l (L.map bK)) h:=rfl
 have g:Kw (.t [.str t,.int a,.int b]) (.l (L.map bK)) h=k0 (inD (.tup [.str t,.int a,.int b]) (L.map bK)):=by
  unfold Kw
  rw [W.gw,W.gw,lW (by exact xL L)]
  show(if _=u0 then _ else _)=_
  rw [xL,decide_eq_true (pZ L)]
  rfl
 show(Kh _ _ h).map (!·)=_
 rw [e,g]
 rfl
def KG {L:List Pl}(h) (c:L.length<=1000) (e:Kq (.tup [.str t,.int a,.int b]) (L.map bK)=k0 i):me .b3 (.l (L.map bK)) [.t [.str t,.int a,.int b]] h= .ok (.i i) h:=by
 have g:Kz (.t [.str t,.int a,.int b]) (.l (L.map bK)) h=k0 i:=by
  unfold Kz
  rw [W.gw,W.gw,lW (by exact xL L)]
  show(if _=u0 then _ else _)=_
  rw [xL,decide_eq_true (pZ L),decide_eq_true (by rw [Gg,Aa];lia)]
  exact e
 show(R.of h _).bind _=_
 rw [g]
 rfl
section
variable {n:Nat}{K T:List Tx}{S:List Sy}{ro:Nat}{h:AH}
def uw (k) (g:bD n K T) (C:h[ro]? =some (.obj "Cases" (b0 n K T S)))(a:(bP n K T)[i]? =some (t,x,y)):call prog (k+2) "Cases.bit_of" [.r ro,.s t,.i x,.i y] h= .ok (.i (2 ^ i)) h:=by
 rw [Gb rfl _ _ _ rfl]
 simp only [Ju]
 have q:=JC k (.n x) h rfl
 have r:=JC k (.n y) h rfl
 have b:b8 .str (.s t)=k0 true:=rfl
 rw [xa (by simp_all [b,q,r,jx])]
 have c:=wj (F:=(u9 (k+1))) (τ:= [k0 _,k0 (.s t),si x,si y]) (i:=0) (f:= "places") C rfl rfl
 have e:=E1 t x y (bP n K T) h
 rw [pO a]at e
 obtain⟨j,v,s,d,o,e1,e2⟩:=rP t x y _ (pO a)
 obtain rfl:=Int.ofNat.inj e1
 obtain rfl:=Int.ofNat.inj e2
 obtain rfl:=nu g a o
 have u:(bP n K T).length<=100:=by rw [WD];have:=g.b6;lia
 have m:=KG h (by lia) d
 have p:=ZU i (by grind)
 have l:mJ .b3 (.l ((bP n K T).map bK)) h=true:=rfl
 generalize E.aG _ _ _=X at c ⊢
 rw [xa (by simp_all [c,e])]
 rw [qa (w:= .i (2 ^ i)) (h1:=h) (Xa rfl (by simp_all [c,l,if_true,m,p])),Ga _ _ _ rfl]
end
def vh (n a b c j p):((cR n a b c).getD j 0).testBit p=(y9 (j<b)&&(y9 (p<n*n)&&c.testBit (p+(a*n+j*(n*n))))):=by
 rw [Ac6]
 by_cases q:j<b
 ·rw [l3 q,Ak9,Ag8,Ag9,decide_eq_true q,Ae1]
 ·rw [List.getElem?_eq_none (by rw [WP];omega),Option.getD_none,Af9,decide_eq_false q,Ae7]
def vw (n a b c j p):((cy n a b c).getD j 0).testBit p=(y9 (j<a)&&(y9 (p<n)&&c.testBit (p+j*n))):=by
 rw [Ac6]
 by_cases q:j<a
 ·rw [mq q,Ak9,Ag8,Ag9,decide_eq_true q,Ae1]
 ·rw [List.getElem?_eq_none (by rw [zU];omega),Option.getD_none,Af9,decide_eq_false q,Ae7]
def kF (h:Sub c d):Le (wo n K T c) (wo n K T d):=⟨rfl,λt x y z=>by
 unfold bg at z ⊢
 by_cases q:t∈T
 ·rw [if_pos (show t∈(wo n K T _).T from q)]at z ⊢
  have z:((cR n K.length T.length c).getD _ 0).testBit _=true:=z
  show((cR n K.length T.length d).getD _ 0).testBit _=u0
  rw [vh,Aa0,Aa0]at z ⊢
  exact⟨z.1,z.2.1,h _ z.2.2⟩
 ·rw [if_neg (show t∉(wo n K T _).T from q)]at z ⊢
  have z:(decide _&&((cy n K.length T.length c).getD (cX t K) 0).testBit x)=true:=z
  show(decide _&&((cy n K.length T.length d).getD (cX t K) 0).testBit x)=u0
  rw [vw,Aa0,Aa0,Aa0]at z ⊢
  exact⟨z.1,z.2.1,z.2.2.1,h _ z.2.2.2⟩⟩
section
variable {n:Nat}{K T:List Tx}
def JA (c d:Nat)(a:t∈K++T) (f:x<n) (b:y<n) (q: ¬ ∃i:Nat,(bP n K T)[i]? =k0 (t,x,y)):bg (wo n K T c) t x y=false:=by
 cases e:bg _ t x y with
 | false=>rfl
 | true=>exact absurd (tV a f b e) q
def Cm (g:bD n K T)(h:(bP n K T)[i]? =k0 (t,x,y)) (c) (b:t'∈K++T) (f:x'<n) (d:y'<n):bg (wo n K T (c ||| 2 ^ i)) t' x' y'=(bg (wo n K T c) t' x' y'||y9 ((t',x',y')=(t,x,y))):=by
 by_cases q: ∃j:Nat,(bP n K T)[j]? =k0 (t',x',y')
 ·obtain⟨j,a⟩:=q
  rw [(Qk g a _).1,(Qk g a _).1,Ae8,Ad7]
  congr 1
  refine decide_eq_decide.mpr ⟨λe=> ?_,λe=> ?_⟩
  ·subst e;rw [h]at a;exact(Ad5.inj a).symm
  ·rw [e]at a;exact nu g h a
 ·rw [JA _ c b f d q,JA _ c b f d q,decide_eq_false λe=>q ⟨i,by rw [e];exact h⟩]
  rfl
def Eh (g:bD n K T)(h:(bP n K T)[i]? =k0 (t,x,y)) (c) (b:t'∈K++T) (f:x'<n) (d:y'<n):bg (wo n K T (c-(c &&& 2 ^ i))) t' x' y'=(bg (wo n K T c) t' x' y'&& !y9 ((t',x',y')=(t,x,y))):=by
 by_cases q: ∃j:Nat,(bP n K T)[j]? =k0 (t',x',y')
 ·obtain⟨j,a⟩:=q
  rw [(Qk g a _).1,(Qk g a _).1,Wf.aQ,Ad7]
  congr 2
  refine decide_eq_decide.mpr ⟨λe=> ?_,λe=> ?_⟩
  ·subst e;rw [h]at a;exact(Ad5.inj a).symm
  ·rw [e]at a;exact nu g h a
 ·rw [JA _ c b f d q,JA _ c b f d q]
  rfl
def rV {t t':Tx}(c:y<n) (b:y'<n):y9 ((t',x',y')=(t,x,y))=(y9 (t'=t)&&y9 (x*n+y=x'*n+y')):=by
 by_cases e:t'=t
 ·rw [decide_eq_true e,Ae1]
  refine decide_eq_decide.mpr ⟨λz=> ?_,λz=> ?_⟩
  ·have:x'=x/\y'=y:=by simpa [e]using z
   rw [this.1,this.2]
  ·have f:x=x':=by rw [← Wf.aF (a:=x) c,z,Wf.aF b]
   have d:y=y':=by rw [← Wf.aJ c,z,Wf.aJ b]
   rw [e,f,d]
 ·rw [decide_eq_false e,Ae7,decide_eq_false]
  exact λz=>e (by injection z)
variable {f:Tx->Nat×Nat}{r low high:Nat}{h:AH}
def Dc.dE (P:Dc (wo n K T low) (wo n K T high) f r h) (g:bD n K T)(d:(bP n K T)[i]? =k0 (t,x,y)) (h1:high.testBit i=u0) (e:low.testBit i=k9):(f t).1.testBit (x*n+y)=k9/\(f t).2.testBit (x*n+y)=true:=by
 obtain⟨e1,a,c,b⟩:=Qk g d low
 have e2:=(Qk g d high).1
 refine⟨Ak6.mpr λz=> ?_,((P.hi t a).bit x y c b).mpr (by rw [e2,h1])⟩
 have:=((P.lo t a).bit x y c b).mp z
 rw [e1,e]at this
 cases this
def Dc.yes (P:Dc (wo n K T low) (wo n K T high) f r h) (g:bD n K T)(o:(bP n K T)[i]? =k0 (t,x,y))(e:h'[r']? =k0 (.aM (aN (K++T) (JU f t ((f t).1 ||| 2 ^ (x*n+y),(f t).2))))):Dc (wo n K T (low ||| 2 ^ i)) (wo n K T high) (JU f t ((f t).1 ||| 2 ^ (x*n+y),(f t).2)) r' h':=by
 obtain⟨-,s,p,m⟩:=Qk g o low
 refine⟨e,g.n4,λd l=> ?_,λd l=> ?_⟩
 ·have v:=P.lo d l
  have k: ∀a b,a<n->b<n->bg _ d a b=(bg (wo n K T low) d a b||(y9 (d=t)&&y9 (x*n+y=a*n+b))):=λa b j k=>by rw [Cm g o low l j k,rV m k]
  unfold JU
  by_cases q:d=t
  ·subst q
   rw [if_pos rfl]
   refine⟨oY v.lt (An7 (by decide) (Wf.place_lt p m)),λa b j c=> ?_⟩
   rw [k a b j c,decide_eq_true rfl,Ae1]
   rw [Ae8,Ad7,Ae5,Ae5]
   exact or_congr (v.bit a b j c) Iff.rfl
  ·rw [if_neg q]
   refine⟨v.lt,λa b j c=> ?_⟩
   rw [k a b j c,decide_eq_false q,Ae7,Bool.or_false]
   exact v.bit a b j c
 ·have v:=P.hi d l
  unfold JU
  by_cases q:d=t
  ·subst q;rw [if_pos rfl];exact v
  ·rw [if_neg q];exact v
def Dc.no (P:Dc (wo n K T low) (wo n K T high) f r h) (g:bD n K T)(s:(bP n K T)[i]? =k0 (t,x,y)) (o:high.testBit i=u0)(e:h'[r']? =k0 (.aM (aN (K++T) (JU f t ((f t).1,(f t).2-2 ^ (x*n+y)))))):Dc (wo n K T low) (wo n K T (high-(high &&& 2 ^ i))) (JU f t ((f t).1,(f t).2-2 ^ (x*n+y))) r' h':=by
 obtain⟨m,A,w,p⟩:=Qk g s high
 refine⟨e,g.n4,λc l=> ?_,λc l=> ?_⟩
 ·have v:=P.lo c l
  unfold JU
  by_cases q:c=t
  ·subst q;rw [if_pos rfl];exact v
  ·rw [if_neg q];exact v
 ·have v:=P.hi c l
  have k: ∀a b,a<n->b<n->bg _ c a b=(bg (wo n K T high) c a b&& !(y9 (c=t)&&y9 (x*n+y=a*n+b))):=λa b j k=>by rw [Eh g s high l j k,rV p k]
  unfold JU
  by_cases q:c=t
  ·subst q
   rw [if_pos rfl]
   have bt:(f c).2.testBit (x*n+y)=true:=(v.bit x y w p).mpr (by rw [m];exact o)
   have u:=by
    have:=W6 (f c).2 (x*n+y)
    rw [jc,zd,bt,if_pos rfl]at this
    exact Int.ofNat.inj (Ad5.inj this)
   refine⟨Ah6 (Ao6 _ _) v.lt,λa b j d=> ?_⟩
   rw [k a b j d,decide_eq_true rfl,Ae1]
   have z:(f c).2-2 ^ (x*n+y)=(f c).2-((f c).2 &&& 2 ^ (x*n+y)):=by rw [u]
   rw [z,Wf.aQ,Ad7,Aa0,Aa0]
   exact and_congr (v.bit a b j d) Iff.rfl
  ·rw [if_neg q]
   refine⟨v.lt,λa b j d=> ?_⟩
   rw [k a b j d,decide_eq_false q,Ae7,An9,Bool.and_true]
   exact v.bit a b j d
end
abbrev Jz:Tx:= [98,114,111,107,101,110]
abbrev Qi:Tx:= [115,112,108,105,116]
abbrev ba (K T:List Tx) (S:List Sy):D:= .tup [wD K T,.tup (S.map aP)]
def qC (k) (w) (l)(h):call prog (k+1) "is_tuple_of" [.t (.str s::r),.s w,.i l] h= .ok (.b (decide (r.length+1=l)&&s==w)) h:=by
 rw [Gb rfl _ _ _ rfl]
 simp only [Ww]
 have a:b8 .tuple (.t (.str s::r))=k0 true:=rfl
 have c:b8 .str (.s s)=k0 true:=rfl
 have b:=vr (r.length+1) l h
 by_cases e:r.length+1=l
 ·rw [decide_eq_true e]at b ⊢
  rw [xa (by simp_all [a,Xf,aq,Aa6,b])]
  rw [qa (w:= .b (s==w)) (h1:=h) (Xa rfl (by simp_all [ab,we,c,Ja])),Ga _ _ _ rfl]
  rfl
 ·rw [decide_eq_false e]at b ⊢
  rw [je (by simp_all [a,Xf,aq,Aa6,b]) rfl,Ga _ _ _ rfl]
  rfl
section
variable {n:Nat}{K T:List Tx}{S:List Sy}{h:AH}
def A6 (m r)(c:S[j]? =some s) (e:call prog (m+1) "_law_told" [.i n,.r r,.v (aP s)] h= .ok (.v (aH (some false))) h):call prog (m+2) "_law_walks" [.v (ba K T S),.i n,.r r,.t [.str Jz,.n j]] h= .ok (.b true) h:=by
 rw [Gb rfl _ _ _ rfl]
 simp only [Zn]
 have k:=(Aa1.mp c).1
 have d:=wx m (.n j) h rfl
 have b:aV (S.map aP) (j:Int)=k0 (aP s):=by rw [Qg _ _ (by rw [Aa];exact k),Ac2,c];rfl
 have a:b8 .tuple (.t [.str Jz,.n j])=k0 true:=rfl
 have l:Gr .eq (.i (2)) (.v (.int 0)) h=k0 false:=rfl
 have g:Gr .eq (.i (2)) (.v (.int 2)) h=k0 true:=rfl
 have i:((0:Int)<=(j:Int)):=by omega
 have f:((j:Int)<(S.length:Int)):=by omega
 have cN:=kl (k0 k9) k9 h
 rw [xa (by simp_all [a,Xf,aq,Aa6,Ae,l])]
 rw [qa ((Wt (h1:=h) (by simp_all [ab,zf,Ja,aq,show(Jz== hZ)=u0 from rfl,Xf,Aa6,Ae,g])).trans ?_),Ga _ _ _ rfl]
 rw [xa (by simp_all [ab,We,d,jx,aq,Q1,jZ,i,f,decide_true,Xf,Aa])]
 exact qa (Xa rfl (by simp_all [ab,We,b,e,cN,aq];rfl))
def Hz (m r)(e:call prog (m+1) "_law_split" [.i n,.r r,.t [dn,da,db]] h= .ok (.own [.ref h.length,.ref (h.length+1)]) h2) (b:h2.take h.length=h) (j:h.length<=h2.length) (i:Gx h=true)
 (f:call prog (m+1) "_law_walks" [.v (ba K T S),.i n,.r h.length,.v p1] h2= .ok (.b true) h2) (c:call prog (m+1) "_law_walks" [.v (ba K T S),.i n,.r (h.length+1),.v p2] h2= .ok (.b true) h2):
 call prog (m+2) "_law_walks" [.v (ba K T S),.i n,.r r,.t [.str Qi,dn,da,db,p1,p2]] h= .ok (.b true) h:=by
 rw [Gb (d:=Zn) rfl _ _ _ rfl]
 simp only [Zn]
 have a:b8 .tuple (.t [.str Qi,dn,da,db,p1,p2])=k0 true:=rfl
 have q:Gr .eq (.i (6)) (.v (.int 0)) h=k0 false:=rfl
 have g:Gr .ne (.i (6)) (.v (.int 6)) h=k0 false:=rfl
 have p:Gr .ne (.s Qi) (.s kU) h=k0 false:=rfl
 rw [xa (by simp_all [a,Xf,aq,Aa6,Ae,q])]
 rw [xa (by simp_all [ab,we,Ja,aq,show(Qi== hZ)=k9 from rfl]),xa (by simp_all [ab,we,p,aq,Xf,Aa6,Ae,g])]
 have o:fX (.t [D.str Qi,dn,da,db,p1,p2]) (k0 1) (k0 4) h= .ok (.t [dn,da,db]) h:=rfl
 refine fx (by simp_all [o,e];rfl) ?_
 rw [xa (by simp_all [])]
 have a4:aV [D.str Qi,dn,da,db,p1,p2] 4=k0 p1:=rfl
 have a5:aV [D.str Qi,dn,da,db,p1,p2] 5=k0 p2:=rfl
 rw [qa (w:= .b u0) (h1:=h2) (Xa rfl (by simp_all [Qp,zf,We,ab,a4,a5,f,c]))]
 obtain⟨s,k,l⟩:=mV (d:= .bl u0) (h:=h2) (n:=h.length) rfl j (by rw [b];exact i)
 rw [k,l,b]
end
section
variable {n:Nat}{K T:List Tx}{S:List Sy}{h:AH}{ro low high:Nat}
abbrev iJ (ro:Nat) (p:D) (b a:Nat) (x y:Option W):Sl:= [k0 (.r ro),sv p,si b,si a,x,y]
def tP (m)(C:h[ro]? =some (.obj "Cases" (b0 n K T S))) (g:j<S.length) (e:call prog (m+2) "Cases.truth" [.r ro,.i j,.i low,.i high] h= .ok (.v (aH o)) h):call prog (m+3) "Cases.is_shown" [.r ro,.t [.str Jz,.n j],.i low,.i high] h= .ok (.b (o==some false)) h:=by
 rw [Gb rfl _ _ _ rfl]
 simp only [Zf]
 have b:call prog _ "is_tuple_of" [.t [.str Jz,.n j],.s hZ,.v (.int 2)] h= .ok (.b true) h:=qC (m+1) Jz 2 h
 rw [qa ((Wt (h1:=h) (by simp_all [b])).trans ?_),Ga _ _ _ rfl]
 refine(za (by simp_all [ab,We];rfl)).trans ?_
 have c:=jD m (.n j) S.length h rfl
 rw [show Js _ S.length=u0 by rw [Js,Aa0,decide_eq_true_eq,decide_eq_true_eq];omega]at c
 have d:=wj (F:=(u9 (m+2))) (τ:=iJ ro (.tup [.str Jz,.n j]) low high (si j) y0) (i:=0) (f:= "sayings") C rfl rfl
 have a:=QF (F:=(u9 (m+2))) (τ:=iJ ro (.tup [.str Jz,.n j]) low high (si j) y0) (i:=0) (m:= "truth") (q:= "Cases.truth") (es:= .cons .v4 (.b .v2 .v3)) (ws:= [.i j,.i low,.i high]) C rfl rfl (by simp_all [])
 have a:=a.trans e
 have cN:=kl o k9 h
 generalize E.aG _ _ _=X at d ⊢
 generalize E.bL _ _ _ _ _=Y at a ⊢
 exact qa (Xa rfl (by simp_all))
def pE (i):((2 ^ i &&& high)-((2 ^ i &&& high) &&& low)=0)↔ ¬(high.testBit i=u0/\low.testBit i=k9):=by
 rw [sub_zero]
 constructor
 ·rintro z ⟨c,b⟩
  have:=z i (by simp_all)
  rw [b]at this
  cases this
 ·intro z k a
  rw [Ah1,Ad7,Aa0,decide_eq_true_eq]at a
  obtain⟨rfl,a⟩:=a
  cases q:low.testBit i with
  | true=>rfl
  | false=>exact absurd ⟨a,q⟩ z
def rm (m)(C:h[ro]? =k0 (.obj "Cases" (b0 n K T S)))(e:call prog (m+1) "Cases.bit_of" [.r ro,.v dn,.v da,.v db] h= .ok (.i v) h)(g:call prog (m+1) "Cases.is_shown" [.r ro,.v p1,.i (low ||| v),.i high] h= .ok (.b b1) h) (f:call prog (m+1) "Cases.is_shown" [.r ro,.v p2,.i low,.i (high-(high &&& v))] h= .ok (.b b2) h):
 call prog (m+2) "Cases.is_shown" [.r ro,.t [.str Qi,dn,da,db,p1,p2],.i low,.i high] h= .ok (.b (!decide ((v &&& high)-((v &&& high) &&& low)=0)&&(b1&&b2))) h:=by
 rw [Gb (d:=Zf) rfl _ _ _ rfl]
 simp only [Zf]
 have c:call prog _ "is_tuple_of" [.t [.str Qi,dn,da,db,p1,p2],.s hZ,.v (.int 2)] h= .ok (.b false) h:=qC m Jz 2 h
 have o:call prog _ "is_tuple_of" [.t [.str Qi,dn,da,db,p1,p2],.s kU,.v (.int 6)] h= .ok (.b true) h:=qC m Qi 6 h
 rw [xa (by simp_all [c]),xa (by simp_all [o,aq])]
 have j:aV [D.str Qi,dn,da,db,p1,p2] 1=k0 dn:=rfl
 have a2:aV [D.str Qi,dn,da,db,p1,p2] 2=k0 da:=rfl
 have a3:aV [D.str Qi,dn,da,db,p1,p2] 3=k0 db:=rfl
 have a4:aV [D.str Qi,dn,da,db,p1,p2] 4=k0 p1:=rfl
 have a5:aV [D.str Qi,dn,da,db,p1,p2] 5=k0 p2:=rfl
 have b:=QF (F:=(u9 (m+1))) (τ:=iJ ro (.tup [.str Qi,dn,da,db,p1,p2]) low high y0 y0) (i:=0) (m:= "bit_of") (q:= "Cases.bit_of") (es:= .cons (.ix .v1 (.int 1)) (.b (.ix .v1 (.int 2)) (.ix .v1 (.int 3)))) (ws:= [.v dn,.v da,.v db]) C rfl rfl (by simp_all [ab,j,a2,a3])
 have b:=b.trans e
 rw [za (τ1:=iJ ro (.tup [.str Qi,dn,da,db,p1,p2]) low high y0 (si v)) (h1:=h) (by
  generalize E.bL _ _ _ _ _=X at b ⊢
  simp_all [b])]
 have a:Gm (u9 (m+1)) (.cmp .eq (.bin .band (.bin .band .v5 .v3) (.inv .v2)) (.int 0)) (iJ ro (.tup [.str Qi,dn,da,db,p1,p2]) low high y0 (si v)) h= .ok (y9 ((v &&& high)-((v &&& high) &&& low)=0)) h:=by
  simp_all [jc,zd,jI,j6]
 cases q:y9 ((v &&& high)-((v &&& high) &&& low)=0)
 ·rw [q]at a
  rw [xa a]
  have l:=QF (F:=(u9 (m+1))) (τ:=iJ ro (.tup [.str Qi,dn,da,db,p1,p2]) low high y0 (si v)) (i:=0) (m:= "is_shown") (q:= "Cases.is_shown") (es:= .cons (.ix .v1 (.int 4)) (.b (.bin .bor .v2 .v5) .v3)) (ws:= [.v p1,.i (low ||| v),.i high]) C rfl rfl (by simp_all [ab,a4,Zm,Zl])
  have k:=QF (F:=(u9 (m+1))) (τ:=iJ ro (.tup [.str Qi,dn,da,db,p1,p2]) low high y0 (si v)) (i:=0) (m:= "is_shown") (q:= "Cases.is_shown") (es:= .cons (.ix .v1 (.int 5)) (.b .v2 (.bin .band .v3 (.inv .v5)))) (ws:= [.v p2,.i low,.i (high-(high &&& v))]) C rfl rfl (by simp_all [ab,a5,jc,jI])
  rw [qa (w:= .b (b1&&b2)) (h1:=h) (Xa rfl (w4 (l.trans g) (k.trans f))),Ga _ _ _ rfl]
  rfl
 ·rw [q]at a
  rw [je (w:= .b k9) a rfl,Ga _ _ _ rfl]
  rfl
end
def rL (h:Sub a w) (q:Sub b w):Sub (a ||| b) w:=λk z=>by
 rw [Ae8,Ae5]at z
 exact z.elim (h k) (q k)
def pY (h:Sub w c) (q:w.testBit i=k9):Sub w (c-(c &&& 2 ^ i)):=λk z=>by
 rw [Wf.aQ,h k z,Ad7,Ae1,Ag4]
 refine decide_eq_false λe=> ?_
 rw [← e,q]at z
 cases z
def tG (p:Gx h=u0) (a b):Gx (h++ [.aM a,.aM b])=true:=by
 rw [Gx,List.all_append,show h.all Cell.pure=u0 from p];rfl
inductive Pp (n:Nat) (K T:List Tx) (S:List Sy):D->Prop where
 | brk {j:Nat}(h:j<S.length):Pp n K T S (.tup [.str Jz,.n j])
 | dE {i x y:Nat}{t:Tx}{p1 p2:D}(h:(bP n K T)[i]? =k0 (t,x,y)) (h1:Pp n K T S p1) (h2:Pp n K T S p2):Pp n K T S (.tup [.str Qi,.str t,.n x,.n y,p1,p2])
def Pp.nr {S:List Sy}(h:Pp n K T S p):Gf p=true:=by
 induction h with
 | brk _=>rfl
 | dE _ _ _ a b=>simp [a,b]
structure Wk (n:Nat) (K T:List Tx) (S:List Sy) (c:Nat) (p:D) (low high r:Nat) (h:AH):Prop where
 mL:Gx h=true-> ∀m,c<=m->call prog m "_law_walks" [.v (ba K T S),.i n,.r r,.v p] h= .ok (.b true) h
 snd: ∀w,Sub low w->Sub w high-> ∃s∈S,∀o,Td (wo n K T w) (wo n K T w) s o->o=k0 k9
def Lw (n:Nat) (K T:List Tx) (S:List Sy) (c:Nat) (p:D) (b a:Nat):Prop:= ∀f r h,Dc (wo n K T b) (wo n K T a) f r h->Wk n K T S c p b a r h
section
variable {n q c low high:Nat}{K T:List Tx}{S:List Sy}
def Lw.up (w:Lw n K T S c p low high) (l:c<=c'):Lw n K T S c' p low high:=λf r h P=>⟨λb m a=>(w f r h P).mL b m (Ab5 l a),(w f r h P).snd⟩
def Lw.brk (l: ∀s∈S,s.wf (K++T)/\s.dp<=q)(c:S[j]? =k0 s) (d:Td (wo n K T low) (wo n K T high) s (k0 k9)):Lw n K T S (q+10) (.tup [.str Jz,.n j]) low high:=λf r h P=>by
 have b:=Ac3 c
 obtain⟨wf,dp⟩:=l s b
 refine⟨λ_ m p=> ?_,λw i o=>⟨s,b,λg a=>Td.mono (kF i) (kF o) (Le.refl _) s _ g k9 d a rfl⟩⟩
 obtain⟨k,rfl⟩:=nk m 2 (by lia)
 obtain⟨g,a,e⟩:=vR P s (k+1) (by lia) wf
 rw [a.uniq d]at e
 exact A6 k r c e
theorem Lw.dE (g:bD n K T)(a:(bP n K T)[i]? =k0 (t,x,y)) (o:high.testBit i=u0) (z:low.testBit i=k9) (E:3<=c) (A:Lw n K T S c p1 (low ||| 2 ^ i) high) (D:Lw n K T S c p2 low (high-(high &&& 2 ^ i))):Lw n K T S (c+1) (.tup [.str Qi,.str t,.n x,.n y,p1,p2]) low high:=λf r h P=>by
 obtain⟨-,C,B,d⟩:=Qk g a low
 obtain⟨u,l2⟩:=P.dE g a o z
 have v:(K++T).length<=100:=by rw [Aa8];have:=g.k4;have:=g.t4;omega
 have q:=A _ _ _ (P.yes g a (r':=h.length) (h':=h++ [.aM (aN (K++T) (JU f t ((f t).1 ||| 2 ^ (x*n+y),(f t).2))),.aM (aN (K++T) (JU f t ((f t).1,(f t).2-2 ^ (x*n+y))))]) (by simp))
 have s:=D _ _ _ (P.no g a o (r':=h.length+1) (h':=h++ [.aM (aN (K++T) (JU f t ((f t).1 ||| 2 ^ (x*n+y),(f t).2))),.aM (aN (K++T) (JU f t ((f t).1,(f t).2-2 ^ (x*n+y))))]) (by simp))
 refine⟨λb m F=> ?_,λw e l=> ?_⟩
 ·obtain⟨k,rfl⟩:=nk m 3 (by omega)
  exact Hz _ r (AZ k P.ad g.n4 C v B d u l2) (by simp) (by simp) b (q.mL (tG b _ _) _ (by omega)) (s.mL (tG b _ _) _ (by omega))
 ·cases p:w.testBit i with
  | true=>exact q.snd w (rL e λk j=>by
   rw [Ad7,decide_eq_true_eq]at j
   rw [← j];exact p) l
  | false=>exact s.snd w e (pY l p)
def walk (g:bD n K T) (w: ∀s∈S,s.wf (K++T)/\s.dp<=q)(F:Pp n K T S p): ∀d,dep p<=d-> ∀low high:Nat,low<2 ^ bN n K T->high<2 ^ bN n K T-> ∃b:Bool,(∀ m ro (h':AH),d+q+12<=m->h'[ro]? =some (.obj "Cases" (b0 n K T S))->call prog m "Cases.is_shown" [.r ro,.v p,.i low,.i high] h'= .ok (.b b) h')/\(b=true->Lw n K T S (d+q+12) p low high):=by
 induction F with
 | @brk j D=>
  intro d A low high c a
  obtain⟨s,f⟩: ∃s,S[j]? =k0 s:=⟨S[j],Aa7 D⟩
  obtain⟨wf,dp⟩:=w s (Ac3 f)
  obtain⟨o,B, -⟩:=QL (q+9) j low high (ro:=0) (h:= [Cell.obj "Cases" _]) g rfl c a f (by lia) wf
  refine⟨o==k0 k9,λm ro h' L C=> ?_,λz=>(Lw.brk w f (eq_of_beq z▸B)).up (by lia)⟩
  obtain⟨k,rfl⟩:=nk m 3 (by lia)
  obtain⟨R,v,e⟩:=QL (k+1) j low high g C c a f (by lia) wf
  rw [v.uniq B]at e
  exact tP k C D e
 | @dE i x y t Q U r _ _ u l=>
  intro d A low high c a
  simp only [dep,GF]at A
  obtain⟨d,rfl⟩: ∃e,d=e+1:=⟨d-1,by lia⟩
  have E:i<bN n K T:=by
   have:=(Aa1.mp r).1
   rw [WD]at this
   exact this
  obtain⟨P,O,I⟩:=u d (by lia) _ high (oY c (An7 (by decide) E)) a
  obtain⟨M,H,G⟩:=l d (by lia) low _ c (Ah6 (Ao6 _ _) a)
  refine⟨!y9 ((2 ^ i &&& high)-((2 ^ i &&& high) &&& low)=0)&&(P&&M),λm ro h' L C=> ?_,λz=> ?_⟩
  ·obtain⟨k,rfl⟩:=nk m 3 (by lia)
   exact rm _ C (uw k g C r) (O _ ro h' (by lia) C) (H _ ro h' (by lia) C)
  ·rw [Aa0,Aa0,Ag4,decide_eq_false_iff_not]at z
   obtain⟨N,J⟩:=Classical.not_not.mp λy=>z.1 ((pE i).mpr y)
   rw [show d+1+q+12=d+q+12+1 by lia]
   exact Lw.dE g r N J (by lia) (I z.2.1) (G z.2.2)
end
abbrev iI:List Tx:= [ZG,Zb,xj,QZ,Za,zc,zb,jh]
abbrev gz (r:Nat) (N:List Tx) (g p:Nat) (x4 a:Option W):Sl:= [k0 (.r r),k0 (.l (N.map .str)),si g,si p,x4,a]
def W9 (X Y)(e:Gn τ i=k0 (.s s)):Gm F (.or (.cmp .eq (.var i) (.str X)) (.cmp .eq (.var i) (.str Y))) τ h= .ok (s==X||s==Y) h:=by
 rw [Gm,kn (a:=s==X) (b:=s==Y) (by simp only [eval,Gj,e,R.ae,Ja,R.ak,aq]) (by simp only [eval,Gj,e,R.ae,Ja,R.ak,aq]),R.ae]
 rfl
def LU (k)(C:N.length<=8) (e:h[r]? =k0 (ai ns i v)): ∃ f v',f.wf N/\f.dp<=2/\execs (u9 (k+4)) (match bf.body with | .cons _ (.cons _ r)=>r | r=>r) (gz r N g p y0 y0) h= .ret (.v (dj f)) (h.set r (ai ns i v')):=by
 have L:r<h.length:=(Aa1.mp e).1
 have z: ∀w,_[r]? =k0 (ai ns i w):=λw=>Ab9 L
 obtain⟨a,v1,d,A,e1⟩:=uP C 1 _ h v e
 have e1:call prog (k+4) "_law_expression" [.r r,.l (N.map .str),.v (.int 1)] h= .ok (.v (aT a)) (h.set r (ai ns i v1)):=by
  rw [show 1+(k+1)+2=k+4 by omega]at e1
  exact e1
 have J:Gi .mod (p:Int) 8=k0 _:=kQ p 8 (by decide)
 have pl:p % 8<8:=Aj6 _ (by decide)
 obtain⟨w,B⟩: ∃w,iI[p % 8]? =k0 w:=⟨iI[p % 8],Aa7 pl⟩
 have x:aV [D.str ZG,.str Zb,.str xj,.str QZ,.str Za,.str zc,.str zb,.str jh] ((p % 8:Nat):Int)=k0 (.str w):=by
  show aV (iI.map D.str) _=_
  rw [Qg _ _ (by rw [Aa];exact pl),Ac2,B];rfl
 have n:w=ZG\/w=Zb\/w=xj\/w=QZ\/w∈ [Za,zc,zb,jh]:=by
  have:=Ac3 B
  simpa using this
 simp only [bf]
 have H: ∀X,execs (u9 _) X _ _=execs (u9 (k+4)) (.cons (.af 5 (.ix (.lst (.cons (.str fU) (.cons (.str iA) (.g (.str gf) (.str g0) (.str fh) (.str gJ) (.str lF) (.str pK))))) (.bin .mod .v3 (.int 8)))) (.cons (.af 4 (.call "_law_expression" (.c .v0 .v1 (.int 1)))) X)) (gz r N g p none none) h:=fun X=>by
  rw [za (τ1:=gz r N g p y0 (k0 (.s w))) (h1:=h) (by simp_all [J,ZN,x])]
  rw [za (τ1:=gz r N g p (sv (aT a)) (k0 (.s w))) (h1:=h.set r (ai ns i v1)) (by simp_all [e1])]
 rw [← H]
 have two:(w==ZG||w==Zb)=true-> ∃ b v',b.wf N/\b.dp<=2/\ ∀X,execs (u9 (k+4)) (.cons (.r (.or (.cmp .eq .v5 (.str fU)) (.cmp .eq .v5 (.str iA))) (.tup (.c .v5 .v4 (.call "_law_expression" (.c .v0 .v1 (.int 1)))))) X) (gz r N g p (sv (aT a)) (some (.s w))) _= .ret (.t [.str w,aT a,aT b]) (h.set r (ai ns i v')):=fun q=>by
  obtain⟨b,v2,l,G,e2⟩:=uP C 1 (k+1) _ v1 (z v1)
  have e2:call prog (k+4) "_law_expression" [.r r,.l (N.map .str),.v (.int 1)] (h.set r (ai ns i v1))= .ok (.v (aT b)) (h.set r (ai ns i v2)):=by
   rw [show 1+(k+1)+2=k+4 by omega,Ad8]at e2
   exact e2
  refine⟨b,v2,l,by omega,λX=> ?_⟩
  refine qa ((Wt (h1:=h.set r (ai ns i v1)) ?_).trans (qa (Xa rfl ?_)))
  ·rw [W9 ZG Zb rfl,q]
  ·simp_all [e2]
 rcases n with rfl | rfl | rfl | rfl | n
 ·obtain⟨b,v2,l,G,e2⟩:=two rfl
  exact⟨.dA a b,v2,⟨d,l⟩,by simp only [Fc.dp];omega,e2 _⟩
 ·obtain⟨b,v2,l,G,e2⟩:=two rfl
  exact⟨.dQ a b,v2,⟨d,l⟩,by simp only [Fc.dp];omega,e2 _⟩
 ·refine⟨.dH a,v1,d,Ao7 A,?_⟩
  rw [xa (W9 (s:=xj) ZG Zb rfl)]
  exact je (W9 (s:=xj) xj QZ rfl) (Xa rfl (by simp_all [];rfl))
 ·refine⟨.aj a,v1,d,Ao7 A,?_⟩
  rw [xa (W9 (s:=QZ) ZG Zb rfl)]
  exact je (W9 (s:=QZ) xj QZ rfl) (Xa rfl (by simp_all [];rfl))
 ·obtain⟨c,v2,u,e2⟩:=jj (k+3) (z v1) (m:=90) (by decide) (by decide)
  rw [Ad8]at e2
  have e2:call prog (k+4) "_law_draw" [.r r,.v (.int 90)] (h.set r (ai ns i v1))= .ok (.i c) (h.set r (ai ns i v2)):=e2
  obtain⟨o,v3,E,t⟩:=jj (k+3) (z v2) (m:=8) (by decide) (by decide)
  rw [Ad8]at t
  have t:call prog (k+4) "_law_draw" [.r r,.v (.int 8)] (h.set r (ai ns i v2))= .ok (.i o) (h.set r (ai ns i v3)):=t
  have I:((10:Int)+(c:Int))=((10+c:Nat):Int):=rfl
  obtain⟨j,K⟩: ∃j,[0,1,1,2,2,3,4,10+c][o]? =k0 j:=⟨_,Aa7 (show o< [0,1,1,2,2,3,4,10+c].length from E)⟩
  have y:aV [D.int 0,.int 1,.int 1,.int 2,.int 2,.int 3,.int 4,.n (10+c)] (o:Int)=k0 (.n j):=by
   show aV (ar [0,1,1,2,2,3,4,10+c]) _=_
   rw [Qg _ _ (by rw [Aa];exact E),Ac2,K];rfl
  refine⟨.cnt w j a,v3,⟨n,d⟩,Ao7 A,?_⟩
  have F:(w==ZG||w==Zb)=k9/\(w==xj||w==QZ)=false:=by
   have:w=Za\/w=zc\/w=zb\/w=jh:=by simpa using n
   rcases this with rfl | rfl | rfl | rfl<;>exact⟨rfl,rfl⟩
  rw [xa (by rw [W9 ZG Zb rfl,F.1])]
  rw [xa (by rw [W9 xj QZ rfl,F.2])]
  exact qa (Xa rfl (by simp_all [e2,Xc,I,t,ZN,y];rfl))
def BJ (I:N.length<=8): ∀ g k h v,h[r]? =k0 (ai ns i v)-> ∃ s v',s.wf N/\s.dp<=g+2/\call prog (g+k+5) "_law_saying" [.r r,.l (N.map .str),.i g] h= .ok (.v (aP s)) (h.set r (ai ns i v')):=by
 have leaf: ∀ g K h v,h[r]? =k0 (ai ns i v)-> ∀ p v1,(g=0\/ ¬7<p)->call prog (K+4) "_law_draw" [.r r,.v (.int 11)] h= .ok (.i p) (h.set r (ai ns i v1))-> ∃ s v',s.wf N/\s.dp<=g+2/\call prog (K+5) "_law_saying" [.r r,.l (N.map .str),.i g] h= .ok (.v (aP s)) (h.set r (ai ns i v')):=by
  intro g K h v e p v1 q e1
  have l:r<h.length:=(Aa1.mp e).1
  obtain⟨f,v2,wf,S,e2⟩:=LU K I (Ab9 l)
  rw [Ad8]at e2
  refine⟨.fact f,v2,wf,by simp only [Sy.dp];omega,?_⟩
  rw [Gb rfl _ _ _ rfl]
  simp only [bf]at e2 ⊢
  refine fx (by simp_all [e1];rfl) ?_
  rw [xa (by
   have c:=fM 0 g (h.set r (ai ns i v1))
   have c:Gr .gt (.i g) (.v (.int 0)) (h.set r (ai ns i v1))=k0 (y9 (0<g)):=c
   have j:Gr .gt (.i p) (.v (.int 7)) (h.set r (ai ns i v1))=k0 (y9 (7<p)):=fM 7 p _
   rw [Gm,w4 (a:=y9 (0<g)) (b:=y9 (7<p)) (by simp_all [c]) (by simp_all [j]),R.ae]
   have:(y9 (0<g)&&y9 (7<p))=false:=by
    rw [Bool.and_eq_false_iff,decide_eq_false_iff_not,decide_eq_false_iff_not]
    rcases q with q | q
    ·exact .inl (by omega)
    ·exact .inr q
   rw [this]
   rfl),e2]
  exact Ga _ h _ (Ae3 ..)
 intro g
 induction g with
 | zero=>
  intro k h v e
  obtain⟨p,v1,G,e1⟩:=jj _ e (m:=11) (by decide) (by decide)
  rw [show 0+k+5=k+5 by omega]
  have e1:call prog _ "_law_draw" [.r r,.v _] h= .ok _ _:=e1
  exact leaf 0 k h v e p v1 (.inl rfl) e1
 | succ g z=>
  intro k h v e
  have l:r<h.length:=(Aa1.mp e).1
  have A: ∀w,(h.set r (ai ns i w))[r]? =k0 (ai ns i w):=λw=>Ab9 l
  have C: ∀w,(h.set r (ai ns i w)).length=h.length:=λw=>Ae3 ..
  rw [show g+1+k+5=(g+k+1)+5 by omega]
  obtain⟨p,v1,G,e1⟩:=jj (g+k+1+3) e (m:=11) (by decide) (by decide)
  by_cases q:7<p
  ·have e1:call prog (g+k+5) "_law_draw" [.r r,.v (.int 11)] h= .ok (.i p) (h.set r (ai ns i v1)):=e1
   obtain⟨s,v2,x,T,e2⟩:=z k _ v1 (A v1)
   rw [Ad8]at e2
   have o:(((g+1:Nat):Int)-1)=((g:Nat):Int):=by omega
   rw [Gb (d:=bf) rfl _ _ _ rfl]
   show ∃s v',_/\_/\Gv _ (execs _ _ [k0 (.r r),k0 (.l (N.map .str)),si (g+1),y0,y0,y0] h)=_
   simp only [bf]
   rw [za (τ1:=gz r N (g+1) p y0 y0) (h1:=h.set r (ai ns i v1)) (by simp_all [e1])]
   have P: ∀a X,execs (u9 (g+k+5)) (.cons (.iff (.and (.cmp .gt .v2 (.int 0)) (.cmp .gt .v3 (.int 7))) a .nil) X) (gz r N (g+1) p y0 y0) (h.set r (ai ns i v1))=(execs (u9 (g+k+5)) a (gz r N (g+1) p y0 y0) (h.set r (ai ns i v1))).seq λJ h=>execs (u9 (g+k+5)) X J h:=λa X=>by
    rw [execs,Wt (h1:=h.set r (ai ns i v1))]
    have c:Gr .gt (.i (g+1)) (.v (.int 0)) (h.set r (ai ns i v1))=k0 (y9 (0<g+1)):=fM 0 (g+1) _
    have j:Gr .gt (.i p) (.v (.int 7)) (h.set r (ai ns i v1))=k0 (y9 (7<p)):=fM 7 p _
    rw [Gm,w4 (a:=y9 (0<g+1)) (b:=y9 (7<p)) (by simp_all [c]) (by simp_all [j]),R.ae,decide_eq_true q,decide_eq_true (by omega)]
    rfl
   rw [P]
   rw [za (τ1:=gz r N (g+1) p (sv (aP s)) y0) (h1:=h.set r (ai ns i v2)) (by simp_all [Ze,o,e2])]
   have y:Gr .eq (.i p) (.v (.int 8)) (h.set r (ai ns i v2))=k0 (y9 (p=8)):=Jn p 8 _
   by_cases u:p=8
   ·refine⟨.neg s,v2,x,by simp only [Sy.dp];omega,?_⟩
    rw [je (w:= .v (aP (.neg s))) (by simp_all [y,decide_eq_true u]) (Xa rfl (by simp_all [];rfl)),O.cE]
    exact Ga _ h _ (C v2)
   ·rw [xa (by simp_all [y,decide_eq_false u])]
    obtain⟨E,v3,n,Q,B⟩:=z k _ v2 (A v2)
    rw [Ad8]at B
    obtain⟨f,L,H,t,M,F⟩: ∃f:Sy->Sy->Sy,(∀ a b,(f a b).dp=max a.dp b.dp+1)/\(∀ a b,a.wf N->b.wf N->(f a b).wf N)/\ ∃t,aV [D.str jw,.str Qz] ((p:Int)-9)=k0 (.str t)/\ ∀a b,aP (f a b)= .tup [.str t,aP a,aP b]:=by
     have:p=9\/p=10:=by omega
     rcases this with rfl | rfl
     ·exact⟨.cx,λ_ _=>rfl,λ_ _ h g=>⟨h,g⟩,jw,rfl,λ_ _=>rfl⟩
     ·exact⟨.cn,λ_ _=>rfl,λ_ _ h g=>⟨h,g⟩,Qz,rfl,λ_ _=>rfl⟩
    refine⟨f s E,v3,H _ _ x n,by rw [L];omega,?_⟩
    rw [qa (w:= .v (aP (f s E))) (h1:=h.set r (ai ns i v3)) (Xa rfl (by rw [F];simp_all [Ze,ZN,M,o,B])),O.cE]
    exact Ga _ h _ (C v3)
  ·have e1:call prog (g+k+1+4) "_law_draw" [.r r,.v (.int 11)] h= .ok (.i p) (h.set r (ai ns i v1)):=e1
   exact leaf (g+1) (g+k+1) h v e p v1 (.inr q) e1
noncomputable abbrev cW (r:Nat) (w:D) (M:Nat) (N:List Tx) (L:List D) (x:Option W):Sl:= [k0 (.r r),sv w,si M,k0 (.l (N.map .str)),k0 (.own L),x]
def Ec (k)(A:N.length<=8) (E:ns.length<=63) (e:h[r]? =k0 (ai ns i v)) (G:L.length=j) (I:j<5) (B: ∀s∈L,s.wf N/\s.dp<=4+j): ∃ s O v',s.wf N/\s.dp<=5+j/\execs (u9 (k+7)) Jh (cW r w M N (L.map aP) (si j)) h= .next (cW r w M N ((L++ [s]).map aP) (si j)) (h.set r (ai ns O v')):=by
 have C:r<h.length:=(Aa1.mp e).1
 have g: ∀i w,(h.set r (ai ns i w))[r]? =k0 (ai ns i w):=λi w=>Ab9 C
 obtain⟨v1,e1⟩:=IM (k+6) E e
 obtain⟨s,v2,o,K,e2⟩:=BJ A 1 (k+1) _ v1 (g (i+1) v1)
 have e2:call prog (k+7) "_law_saying" [.r r,.l (N.map .str),.v (.int 1)] (h.set r (ai ns (i+1) v1))= .ok (.v (aP s)) (h.set r (ai ns (i+1) v2)):=by
  rw [Ad8,show 1+(k+1)+5=k+7 by omega]at e2
  exact e2
 unfold Jh
 rw [za (τ1:=cW r w M N (L.map aP) (si j)) (h1:=h.set r (ai ns (i+1) v1)) (by simp_all [e1])]
 have D:(L.map aP).length<bh:=by rw [Gg,Aa];omega
 rw [za (τ1:=cW r w M N ((L++ [s]).map aP) (si j)) (h1:=h.set r (ai ns (i+1) v2)) (by
  simp_all [e2,D,if_true]
  rw [Af5]
  rfl)]
 have n: ∀y:AH,Gr .gt (.i j) (.v (.int 0)) y=k0 (y9 (0<j)):=fM 0 j
 by_cases q:0<j
 ·obtain⟨d,v3,H,c⟩:=jj (k+6) (g (i+1) v2) (m:=9) (by decide) (by decide)
  rw [Ad8]at c
  have c:call prog (k+7) "_law_draw" [.r r,.v (.int 9)] (h.set r (ai ns (i+1) v2))= .ok (.i d) (h.set r (ai ns (i+1) v3)):=c
  have p:Gm (u9 (k+7)) (.and (.cmp .gt .v5 (.int 0)) (.cmp .eq (.call "_law_draw" (.b .v0 (.int 9))) (.int 0))) (cW r w M N ((L++ [s]).map aP) (si j)) (h.set r (ai ns (i+1) v2))= .ok (decide (d=0)) (h.set r (ai ns (i+1) v3)):=by
   simp_all [n,decide_eq_true q,c,j6]
  by_cases u:d=0
  ·obtain⟨x,v4,F,t⟩:=jj (k+6) (g (i+1) v3) (m:=j) q (by omega)
   rw [Ad8]at t
   have f:x<L.length:=by omega
   have b:aV ((L++ [s]).map aP) (x:Int)=k0 (aP L[x]):=by
    rw [Qg _ _ (by rw [Aa,Aa8];omega),Ac2,Ad2 f,Aa7 f];rfl
   obtain⟨z,J⟩:=B _ (Ap1 f)
   refine⟨.neg L[x],i+1,v4,z,by simp only [Sy.dp];omega,?_⟩
   have a:dy ((L++ [s]).map aP).length (-1)=k0 L.length:=by
    rw [Aa,Aa8]
    simp [dy]
    omega
   have l:((L++ [s]).map aP).set L.length (.tup [.str qL,aP L[x]])=(L++ [Sy.neg L[x]]).map aP:=by
    rw [Af5,Af5,List.set_append_right _ _ (by rw [Aa];omega),Aa,Ao9]
    rfl
   rw [za (τ1:=cW r w M N ((L++ [Sy.neg L[x]]).map aP) (si j)) (h1:=h.set r (ai ns (i+1) v4)) ((Wt (h1:=h.set r (ai ns (i+1) v3)) (by rw [p,decide_eq_true u])).trans ?_),execs]
   rw [za (τ1:=cW r w M N ((L++ [Sy.neg L[x]]).map aP) (si j)) (h1:=h.set r (ai ns (i+1) v4)),execs]
   generalize (L++ [s]).map aP=Z at b a l ⊢
   simp_all [t,Em,b,a,l,Int.reduceNeg]
  ·refine⟨s,i+1,v3,o,by omega,?_⟩
   rw [za (n0 (h1:=h.set r (ai ns (i+1) v3)) (by rw [p,decide_eq_false u])),execs]
 ·refine⟨s,i+1,v2,o,by omega,?_⟩
  rw [xa (by simp_all [n,decide_eq_false q]),execs]
theorem vK (k)(n:N.length<=8) (q:ns.length<=63): ∀ c j i v (h:AH) (L:List Sy) (x:Option W),h[r]? =k0 (ai ns i v)->L.length=j->j+c<=5->(∀ s∈L,s.wf N/\s.dp<=4+j)-> ∃(d:List Sy) (l:Nat) (g:Int) (m:Option W),(∀ s∈d,s.wf N/\s.dp<=4+(j+c))/\d.length=j+c/\Gq (Gp [5] u0) (λτ h=>execs (u9 (k+7)) Jh τ h) ((Ao j c).map λ(x:Nat)=>D.n x) (cW r w M N (L.map aP) x) h= .next (cW r w M N (d.map aP) m) (h.set r (ai ns l g))
 | 0,j,i,v,h,L,x,e,f,_,b=>⟨L,i,v,x,b,f,by
  rw [List.range'_zero,Ae9,ZI]
  congr 1
  obtain⟨p,e⟩:=Aa1.mp e
  rw [← e,List.set_getElem_self]⟩
 | c+1,j,i,v,h,L,x,e,f,z,b=>by
  have p:r<h.length:=(Aa1.mp e).1
  obtain⟨s,i1,v1,y,B,e1⟩:=Ec k (M:=M) (w:=w) n q e f (by omega) b
  obtain⟨d,l,g,m,u,A,o⟩:=vK k (M:=M) (w:=w) n q c (j+1) i1 v1 (h.set r (ai ns i1 v1)) (L++ [s]) (si j) (Ab9 p) (by rw [Aa8,f];rfl) (by omega) (λt a=>by
   rcases Ac8.mp a with a | a
   ·exact⟨(b t a).1,by have:=(b t a).2;omega⟩
   ·rw [Ac7.mp a];exact⟨y,by omega⟩)
  rw [Ad8]at o
  refine⟨d,l,g,m,λs b=>by have:=u s b;exact⟨this.1,by omega⟩,by omega,?_⟩
  rw [Am6,Ab1,jb (τ1:=cW r w M N (L.map aP) (si j)) rfl e1,o]
def KR (k)(g:bD n K T)(z:M<=5) (u:ns.length<=63) (e:h[r]? =k0 (ai ns i v)): ∃ S j v',(∀ s∈S,s.wf (K++T)/\s.dp<=9)/\S.length<=M/\call prog (k+8) "_law_theory" [.r r,.v (wD K T),.i M] h= .ok (.v (ba K T S)) (h.set r (ai ns j v')):=by
 have q:r<h.length:=(Aa1.mp e).1
 obtain⟨d,v1,A,e1⟩:=jj (k+6) e (m:=M+1) (by omega) (by omega)
 have e1:call prog (k+7) "_law_draw" [.r r,.i (M+1)] h= .ok (.i d) (h.set r (ai ns i v1)):=e1
 have o:(K++T).length<=8:=by rw [Aa8];have:=g.k4;have:=g.t4;omega
 obtain⟨L,j,v',y,a,B,f⟩:=vK k (M:=M) (N:=K++T) (w:=wD K T) o u d 0 i v1 (h.set r (ai ns i v1)) [] y0 (Ab9 q) rfl (by omega) (λ_ h=>absurd h Ai4)
 rw [Ad8]at f
 refine⟨L,j,v',λs p=>by have:=a s p;exact⟨this.1,by omega⟩,by omega,?_⟩
 rw [Gb (d:=Xr) rfl _ _ _ rfl]
 show Gv _ (execs _ _ [k0 (.r r),sv (wD K T),si M,y0,y0,y0] h)=_
 simp only [Xr]
 have l:(K.map D.str).length+(T.map D.str).length<=bh:=by rw [Gg,Aa,Aa];have:=g.k4;have:=g.t4;omega
 rw [za (τ1:= [k0 (.r r),sv (wD K T),si M,k0 (.l ((K++T).map .str)),y0,y0]) (h1:=h) (by
  simp_all [ab,zf,We,yF,l,if_true,aq,pM]
  rw [Af5])]
 rw [za (τ1:=cW r (wD K T) M (K++T) [] y0) (h1:=h) (by simp_all [])]
 have c:((M:Int)+1)=((M+1:Nat):Int):=rfl
 have t:Gs (u9 (k+7)) (.av (.call "_law_draw" (.b .v0 (.bin .add .v2 (.int 1))))) (cW r (wD K T) M (K++T) [] none) h= .ok ((List.range d).map fun x=>D.n x) (h.set r (ai ns i v1)):=by
  have b: -(fH)<=(d:Int)/\(d:Int)<fH:=by rw [GQ];omega
  simp_all [Xc,c,e1,b,and_self,if_true,Ad4]
 rw [za (τ1:=cW r (wD K T) M (K++T) (L.map aP) y) (h1:=h.set r (ai ns j v')) (by
  rw [exec,t,R.au,An5]
  exact f)]
 rw [qa (w:= .v (ba K T L)) (h1:=h.set r (ai ns j v')) (Xa rfl (by simp_all [JJ,aq]))]
 exact Ga _ h _ (Ae3 ..)
def sR {f:Tx->Nat×Nat}{t:Tx}{N:List Tx}(h:t∉N):GE (aN N f) t (aZ (f t).1 (f t).2)=aN (N++ [t]) f:=by
 unfold GE aN
 rw [if_neg,Af5]
 ·rfl
 ·rw [Ad1]
  rintro ⟨p,a,e⟩
  obtain⟨x,b,rfl⟩:=Ab6.mp a
  have e:=by simpa using e
  exact h (e▸b)
def Ws (h) (a b:Cell):(h++ [a]).set h.length b=h++ [b]:=by simp
def jm (h) (a:Cell):(h++ [a])[h.length]? =k0 a:=by simp
theorem nQ {st:Option W->Sl}(c: ∀x d,GC (st x) 3 (.v d)=st (sv d)): ∀(a N:List Tx) (x:Option W),(N++a).Nodup->(∀ t∈a,∀N:List Tx,N.length<=8->execs F b (st (k0 (.s t))) (h++ [.aM (aN N f)])= .next (st (k0 (.s t))) (h++ [.aM (GE (aN N f) t (aZ (f t).1 (f t).2))]))->(N++a).length<=8-> ∃i,Gq (Gp [3] u0) (λτ h=>execs F b τ h) (a.map .str) (st x) (h++ [.aM (aN N f)])= .next (st i) (h++ [.aM (aN (N++a) f)])
 | [],N,x,_,_,_=>⟨x,by rw [Af0];rfl⟩
 | t::a,N,x,g,j,k=>by
  have m:t∉N:=λz=>(Aj2.mp g).2.2 t z t Aa4 rfl
  have e1:=j t Aa4 N (by rw [Aa8]at k;omega)
  rw [sR m]at e1
  obtain⟨i,e⟩:=nQ c a (N++ [t]) (k0 (.s t)) (by rw [Ae6];exact g) (λu l=>j u (Aa2 _ l)) (by rw [Ae6];exact k)
  refine⟨i,?_⟩
  rw [Ab1,jb (τ1:=st (k0 (.s t))) (by rw [GA,c]) e1,e,Ae6]
  rfl
def fO (n:Nat) (T:List Tx) (t:Tx):Nat×Nat:=if t∈T then(0,2 ^ (n*n)-1)else(0,Wf.bA n)
def LB (k)(g:bD n K T) (h):call prog (k+2) "_law_open" [.v (wD K T),.i n] h= .ok (.r h.length) (h++ [.aM (aN (K++T) (fO n T))]):=by
 obtain⟨e,m,r⟩:=Aj2.mp g.nd
 have v:n*n<=16:=Af1 g.n4 g.n4
 have s:Gi .mul (n:Int) (n:Int)=k0 _:=Qc n n (by have:=g.n4;omega)
 have p:=ZU (n*n) (by omega)
 have a:((2 ^ (n*n):Nat):Int)-1=((2 ^ (n*n)-1:Nat):Int):=by
  have:=Ac9 (n*n)
  omega
 rw [Gb (d:=wC) rfl _ _ _ rfl]
 simp only [wC]
 have l: ∀N:List Tx,N.length<=8->(aN N (fO n T)).length<bh:=λN c=>by rw [Gg,aN,Aa];omega
 obtain⟨i,e1⟩:=nQ (F:=(u9 (k+1))) (h:=h) (b:=xq) (f:=fO n T) (st:=λx=> [sv (wD K T),si n,k0 (.r h.length),x]) (λ_ _=>rfl) K [] y0 e (λt j N c=>by
  have u:t∉T:=λz=>r t j t z rfl
  have q:=ud k n (h++ [.aM (aN N (fO n T))]) g.n4
  have nr:Gf (aZ (fO n T t).1 (fO n T t).2)=true:=rfl
  have:fO n T t=(0,Wf.bA n):=by rw [fO,if_neg u]
  unfold xq
  rw [za (τ1:= [sv (wD K T),si n,k0 (.r h.length),k0 (.s t)]) (h1:=h++ [.aM (GE (aN N (fO n T)) t (aZ (fO n T t).1 (fO n T t).2))]) (by
   simp_all [q,jr (jm h (.aM (aN N (fO n T)))),aq]
   rw [if_pos ⟨l N c,rfl⟩,Ws,this]
   rfl),execs]) (by have:=g.k4;rw [Ae2];omega)
 obtain⟨o,e2⟩:=nQ (F:=(u9 (k+1))) (h:=h) (b:=Wp) (f:=fO n T) (st:=λx=> [sv (wD K T),si n,k0 (.r h.length),x]) (λ_ _=>rfl) T K i g.nd (λt j N c=>by
  have:fO n T t=(0,2 ^ (n*n)-1):=by rw [fO,if_pos j]
  unfold Wp
  rw [za (τ1:= [sv (wD K T),si n,k0 (.r h.length),k0 (.s t)]) (h1:=h++ [.aM (GE (aN N (fO n T)) t (aZ (fO n T t).1 (fO n T t).2))]) (by
   simp_all [s,p,Ze,a,jr (jm h (.aM (aN N (fO n T)))),aq]
   rw [if_pos ⟨l N c,rfl⟩,Ws,this]
   rfl),execs]) (by have:=g.k4;have:=g.t4;rw [Aa8];omega)
 rw [Ae2]at e1
 rw [za (τ1:= [sv (wD K T),si n,k0 (.r h.length),y0]) (h1:=h++ [.aM (aN [] (fO n T))]) (by simp_all [aq];rfl)]
 rw [za (τ1:= [sv (wD K T),si n,k0 (.r h.length),i]) (h1:=h++ [.aM (aN K (fO n T))]) (by
  rw [exec,show Gs (u9 (k+1)) (.seq (.ix .v0 (.int 0))) [sv (wD K T),si n,k0 (.r h.length),y0] (h++ [.aM (aN [] (fO n T))])= .ok (K.map .str) (h++ [.aM (aN [] (fO n T))])by simp_all [ab,zf],R.au]
  exact e1)]
 rw [za (τ1:= [sv (wD K T),si n,k0 (.r h.length),o]) (h1:=h++ [.aM (aN (K++T) (fO n T))]) (by
  rw [exec,show Gs (u9 (k+1)) (.seq (.ix .v0 (.int 1))) [sv (wD K T),si n,k0 (.r h.length),i] (h++ [.aM (aN K (fO n T))])= .ok (T.map .str) (h++ [.aM (aN K (fO n T))])by simp_all [ab,We],R.au]
  exact e2)]
 rw [qa (w:= .r h.length) (h1:=h++ [.aM (aN (K++T) (fO n T))]) rfl]
 show fin h.length _ _=_
 unfold fin
 rw [if_neg (by simp),if_neg (by simp [W.keep])]
def CO {n:Nat}{K T:List Tx}(g:bD n K T){r:Nat}{h:AH}(e:h[r]? =k0 (.aM (aN (K++T) (fO n T)))):Dc (wo n K T 0) (wo n K T (2 ^ bN n K T-1)) (fO n T) r h:=by
 have c: ∀ {i x y:Nat}{t:Tx},_[i]? =k0 _->bg _ t x y=true:=λ{i x y t} b=>by
  have j:=(Aa1.mp b).1
  rw [WD]at j
  rw [(Qk g b _).1,Ag1,decide_eq_true j]
 refine⟨e,g.n4,λt f=> ?_,λt f=> ?_⟩
 ·have:(fO n T t).1=0:=by unfold fO;split<;>rfl
  rw [this]
  refine⟨Ac9 _,λx y a d=> ?_⟩
  rw [Af9]
  refine⟨(λz=>by cases z),λz=> ?_⟩
  obtain⟨i,b⟩:=tV f a d z
  rw [(Qk g b 0).1,Af9]at z
  cases z
 ·unfold fO
  by_cases q:t∈T
  ·rw [if_pos q]
   refine⟨Nat.sub_lt (Ac9 _) (by decide),λx y a d=> ?_⟩
   obtain⟨i,b⟩:=oi (K:=K) a d (.inl q)
   have k:x*n+y<n*n:=Wf.place_lt a d
   show(2 ^ _-1).testBit (x*n+y)=u0↔_
   rw [Ag1,decide_eq_true k,c b]
  ·rw [if_neg q]
   have v:=(V.leaf (n:=n)).1
   refine⟨v.lt,λx y a d=>(v.bit x y a d).trans ?_⟩
   have l:=(Ac8.mp f).resolve_right q
   by_cases e:x=y
   ·subst e
    obtain⟨i,b⟩:=oi (T:=T) a a (.inr ⟨l,rfl⟩)
    rw [c b]
    simp [xX]
   ·rw [bg,if_neg (show t∉(wo n K T _).T from q),decide_eq_false e,Ae7]
    simp [xX,e]
def eI (n x:Nat):Nat:=((Aa5 n).map λa=>(x.testBit a).toNat*2 ^ (a*n+a)).sum
def rT {n x:Nat}(a:n<=4) (b:x<2 ^ n):eI n x=Wf.cO n (Z6 n x):=by
 have: ∀n,n<5-> ∀x,x<16->eI n x=Wf.cO n (Z6 n x):=by decide +kernel
 exact this n (by lia) x (Ab4 b (Ad (by decide) a))
def Ld (k n x) (h) (l:n<=4):call prog (k+1) "_law_spread" [.i n,.i x] h= .ok (.i (eI n x)) h:=by
 rw [Gb rfl _ _ _ rfl]
 have e:eval (u9 k) Jm [si n,si x] h= .ok (.own (ar ((Aa5 n).map λa=>(x.testBit a).toNat*2 ^ (a*n+a)))) h:=by
  unfold Jm
  rw [xo (λa=> .n _) rfl (by omega) λa b=>⟨.i _,?_,rfl⟩]
  ·rw [ar,Ad6];rfl
  ·have d:=Qc a n (by omega)
   have j:(x.testBit a).toNat<=1:=by cases x.testBit a<;>decide
   have g:=WQ (x.testBit a).toNat (a*n+a) (by omega) (by have:=Wf.place_lt b b;have:=Qh (show n<=20 by omega);omega)
   have f:(((a*n:Nat):Int)+(a:Int))=((a*n+a:Nat):Int):=rfl
   simp_all [d,Xc,f,Jk,oM,g]
 have i:dk .sum [.own (ar ((Aa5 n).map λa=>(x.testBit a).toNat*2 ^ (a*n+a)))] h= .ok (.i (eI n x)) h:=by
  show(R.of h ((k0 (ar ((Aa5 n).map λa=>(x.testBit a).toNat*2 ^ (a*n+a)))).bind λc=>if c.length<=bh then Ki c else y0)).bind _=_
  rw [Ag0,if_pos (by rw [Gg,ar,Aa,Aa,Ah0];omega),qU]
  rfl
 simp only [JD]
 rw [qa (w:= .i (eI n x)) (h1:=h) (Xa rfl (by simp_all [e,i])),Ga _ _ _ rfl]
theorem mY {st:Option W->Option W->Sl}(g: ∀x y d,GC (st x y) 4 (.v d)=st (sv d) y) (L a:List Tx) (k:(a++L).Nodup) (o:(a++L).length<=8) (n: ∀(j:Nat) (t:Tx) (y:Option W) (N:List Tx),L[j]? =k0 t->N.length<=8-> ∃i,execs F b (st (si j) y) (h++ [.aM (aN N f)])= .next (st (si j) i) (h++ [.aM (GE (aN N f) t (aZ (f t).1 (f t).2))])): ∀(c j:Nat) (x y:Option W),j+c=L.length-> ∃M i,Gq (Gp [4] u0) (λτ h=>execs F b τ h) ((Ao j c).map λ(x:Nat)=>D.n x) (st x y) (h++ [.aM (aN (a++L.take j) f)])= .next (st M i) (h++ [.aM (aN (a++L) f)])
 | 0,j,x,y,q=>⟨x,y,by rw [Ai7 (by omega)];rfl⟩
 | c+1,j,x,y,q=>by
  have l:j<L.length:=by omega
  have s:L[j]? =k0 L[j]:=Aa7 l
  have m:a++L=(a++L.take j)++(L[j]::L.drop (j+1)):=by
   rw [Ae6,←Am1 l,List.take_append_drop]
  have p:L[j]∉a++L.take j:=λz=>by
   rw [m]at k
   exact(Aj2.mp k).2.2 _ z _ Aa4 rfl
  obtain⟨r,e1⟩:=n j L[j] y (a++L.take j) s (by rw [m,Aa8]at o;omega)
  rw [sR p,Ae6,show L.take j++ [L[j]]=L.take (j+1)by rw [List.take_append_getElem l]]at e1
  obtain⟨M,i,e⟩:=mY g L a k o n c (j+1) (si j) r (by omega)
  refine⟨M,i,?_⟩
  rw [Am6,Ab1,jb (τ1:=st (si j) y) (by rw [GA,g]) e1,e]
noncomputable def fS (n:Nat) (K T:List Tx) (c:Nat) (t:Tx):Nat×Nat:=if t∈T then((cR n K.length T.length c).getD (cX t T) 0,(cR n K.length T.length c).getD (cX t T) 0)else(eI n ((cy n K.length T.length c).getD (cX t K) 0),eI n ((cy n K.length T.length c).getD (cX t K) 0))
def Q8 {n c:Nat}{K T:List Tx}(g:bD n K T){r:Nat}{h:AH}(e:h[r]? =k0 (.aM (aN (K++T) (fS n K T c)))):Dc (wo n K T c) (wo n K T c) (fS n K T c) r h:=by
 have ok:=g.wo c
 have a: ∀t∈K++T,V n (fS n K T c t).1 (bg _ t)/\(fS n K T c t).2=(fS n K T c t).1:=λt b=>by
  unfold fS
  by_cases q:t∈T
  ·rw [if_pos q]
   have d:=(xm q).2
   refine⟨⟨?_,λx y i f=> ?_⟩,rfl⟩
   ·show(cR n K.length T.length c).getD _ 0<_
    rw [Ac6,l3 d]
    exact Aj6 _ (Ac9 _)
   ·rw [bg,if_pos (show t∈(wo n K T c).T from q)]
    exact Iff.rfl
  ·rw [if_neg q]
   have j:=(Ac8.mp b).resolve_right q
   have d:=(xm j).2
   have lt:(cy n K.length T.length c).getD (cX t K) 0<2 ^ n:=by
    rw [Ac6,mq d]
    exact Aj6 _ (Ac9 _)
   refine⟨⟨?_,λx y i f=> ?_⟩,rfl⟩
   ·show eI n _<_
    rw [rT g.n4 lt]
    exact Wf.cZ (wS _ _)
   ·show(eI n _).testBit _=u0↔_
    rw [rT g.n4 lt,tX i f,bg,if_neg (show t∉(wo n K T c).T from q),Aa0,decide_eq_true_eq]
    exact Iff.rfl
 exact⟨e,g.n4,λt b=>(a t b).1,λt b=>by rw [(a t b).2];exact(a t b).1⟩
def EG (k c)(g:bD n K T) (h):call prog (k+2) "_law_seen" [.v (wD K T),.v (wo n K T c).aD] h= .ok (.r h.length) (h++ [.aM (aN (K++T) (fS n K T c))]):=by
 obtain⟨o,s,P⟩:=Aj2.mp g.nd
 have n4:=g.n4
 have M:=g.k4
 have U:=g.t4
 rw [Gb (d:=jA) rfl _ _ _ rfl]
 show Gv _ (execs _ _ [sv (wD K T),sv (iG n (cy n K.length T.length c) (cR n K.length T.length c)),y0,y0,y0,y0] h)=_
 simp only [jA]
 have H: ∀N:List Tx,N.length<=8->(aN N (fS n K T c)).length<bh:=λN r=>by rw [Gg,aN,Aa];omega
 have p: ∀(L:List Tx) (j:Nat) (t:Tx),L[j]? =k0 t->aV (L.map D.str) (j:Int)=k0 _:=λL j t e=>by
  rw [Qg _ _ (by rw [Aa];exact(Aa1.mp e).1),Ac2,e];rfl
 generalize m:iG n _ _=a
 have X:aV [D.n n,.tup _,.tup (ar (cR n K.length T.length c))] 1=k0 (.tup (ar (cy n K.length T.length c))):=rfl
 obtain⟨B,C,e1⟩:=mY (F:=(u9 (k+1))) (h:=h) (b:=Wq) (f:=fS n K T c) (st:=λx y=> [sv (wD K T),sv a,si n,k0 (.r h.length),x,y]) (λ_ _ _=>rfl) K [] o (by rw [Ae2];omega) (λj t y N l r=>by
  have A:=Ac3 l
  have S:t∉T:=λz=>P t A t z rfl
  have G:j<(cy n K.length T.length c).length:=by rw [zU];exact(Aa1.mp l).1
  have J:=Ld k n ((cy n K.length T.length c).getD j 0) (h++ [.aM (aN N (fS n K T c))]) n4
  have E:fS n K T c t=(eI n ((cy n K.length T.length c).getD j 0),eI n ((cy n K.length T.length c).getD j 0)):=by rw [fS,if_neg S,xZ o l]
  have u:=mF _ j G
  have a2:=p K j t l
  refine⟨sv (.int ((eI n ((cy n K.length T.length c).getD j 0):Nat):Int)),?_⟩
  unfold Wq
  rw [za (τ1:= [sv (wD K T),sv a,si n,k0 (.r h.length),si j,sv (.int ((eI n ((cy n K.length T.length c).getD j 0):Nat):Int))]) (h1:=h++ [.aM (aN N (fS n K T c))]) (by
   rw [← m]
   simp_all [ab,XW,u,J])]
  rw [za (τ1:= [sv (wD K T),sv a,si n,k0 (.r h.length),si j,sv (.int ((eI n ((cy n K.length T.length c).getD j 0):Nat):Int))]) (h1:=h++ [.aM (GE (aN N (fS n K T c)) t (aZ (fS n K T c t).1 (fS n K T c t).2))]) (by
   simp_all [ab,zf,a2,jr (jm h (.aM (aN N (fS n K T c)))),aq]
   rw [if_pos ⟨H N r,rfl⟩,Ws,E]),execs]) K.length 0 y0 y0 (by omega)
 obtain⟨O,Q,e2⟩:=mY (F:=(u9 (k+1))) (h:=h) (b:=jq) (f:=fS n K T c) (st:=λx y=> [sv (wD K T),sv a,si n,k0 (.r h.length),x,y]) (λ_ _ _=>rfl) T K g.nd (by rw [Aa8];omega) (λj t y N l r=>by
  have A:=Ac3 l
  have G:j<(cR n K.length T.length c).length:=by rw [WP];exact(Aa1.mp l).1
  have E:fS n K T c t=((cR n K.length T.length c).getD j 0,(cR n K.length T.length c).getD j 0):=by rw [fS,if_pos A,xZ s l]
  have u:=mF _ j G
  have a2:=p T j t l
  refine⟨y,?_⟩
  unfold jq
  rw [za (τ1:= [sv (wD K T),sv a,si n,k0 (.r h.length),si j,y]) (h1:=h++ [.aM (GE (aN N (fS n K T c)) t (aZ (fS n K T c t).1 (fS n K T c t).2))]) (by
   rw [← m]
   simp_all [ab,We,kr,u,a2,jr (jm h (.aM (aN N (fS n K T c)))),aq]
   rw [if_pos ⟨H N r,rfl⟩,Ws,E]),execs]) T.length 0 B C (by omega)
 rw [List.take_zero,Ae2]at e1
 rw [List.take_zero,Af0]at e2
 rw [Ae2]at e1
 have I: ∀(i:Int) (L:List Tx) (x y:Option W) (v:AH),L.length<=4->aV [hA K,hA T] i=k0 (hA L)->Gs (u9 (k+1)) (.av (.bi .len (.a (.ix .v0 (.int i))))) [sv (wD K T),sv a,si n,k0 (.r h.length),x,y] v= .ok ((Ao 0 L.length).map λ(x:Nat)=>D.n x) v:=λi L x y v V q=>by
  rw [← An5]
  exact Jt (by simp_all [ab,q,Xf,aq,Aa]) (by omega)
 rw [za (τ1:= [sv (wD K T),sv a,si n,y0,y0,y0]) (h1:=h) (by
  rw [← m]
  simp_all [ab,mf])]
 rw [za (τ1:= [sv (wD K T),sv a,si n,k0 (.r h.length),y0,y0]) (h1:=h++ [.aM (aN [] (fS n K T c))]) (by simp_all [aq];rfl)]
 rw [za (τ1:= [sv (wD K T),sv a,si n,k0 (.r h.length),B,C]) (h1:=h++ [.aM (aN K (fS n K T c))]) (by
  rw [exec,I 0 K y0 y0 _ M rfl,R.au]
  exact e1)]
 rw [za (τ1:= [sv (wD K T),sv a,si n,k0 (.r h.length),O,Q]) (h1:=h++ [.aM (aN (K++T) (fS n K T c))]) (by
  rw [exec,I 1 T B C _ U rfl,R.au]
  exact e2)]
 rw [qa (w:= .r h.length) (h1:=h++ [.aM (aN (K++T) (fS n K T c))]) rfl]
 show fin h.length (.r h.length) _=_
 unfold fin
 rw [if_neg (by simp),if_neg (by simp [W.keep])]
def qQ {F:Fx}{k:Nat}{aB:List Nat}{it:It}{c elt:E}{τ:Sl}{h:AH}{ds:List D}(Q:D->D->Prop) (i:Gk F it τ h= .ok ds h) (l:ds.length<=1000) (e: ∀d∈ds,∃y,eval F elt (GC (Aa3 k y0++aB.map λj=>Gj τ j) 0 (.v d)) h= .ok (.v y) h/\Q d y): ∃f:D->D,eval F (.comp [0] u0 k aB it k9 c elt) τ h= .ok (.own (ds.map f)) h/\ ∀d∈ds,Q d (f d):=by
 have: ∀d,∃y,d∈ds->eval F elt _ h= .ok _ h/\Q d y:=λd=>by
  by_cases m:d∈ds
  ·obtain⟨y,g⟩:=e d m
   exact⟨y,λ_=>g⟩
  ·exact⟨.aj,λz=>absurd z m⟩
 obtain⟨f,b⟩:=Classical.skolem.mp this
 refine⟨f,?_,λd a=>(b d a).2⟩
 exact ql f i (by rw [Gg];lia) λd a=>⟨_,rfl,_,(b d a).1,rfl⟩
theorem oV (f:D->D): ∀ds:List D,(∀ d∈ds,∃b,f d= .bl b)-> ∃bs:List Bool,ds.map f=bs.map .bl
 | [],_=>⟨[],rfl⟩
 | d::ds,h=>by
  obtain⟨b,e⟩:=h d Aa4
  obtain⟨bs,e2⟩:=oV f ds λd a=>h d (Aa2 _ a)
  exact⟨b::bs,by rw [Ab1,e,e2];rfl⟩
section
variable {n q:Nat}{K T:List Tx}{S:List Sy}
def pL (m c) (g:bD n K T) (I: ∀s∈S,s.wf (K++T)/\s.dp<=q) (W:S.length<=100) (U:q+8<=m) (h) (L:Gx h=true): ∃b:Bool,call prog (m+1) "_law_keeps" [.v (ba K T S),.v (wo n K T c).aD] h= .ok (.b b) h/\(b=true↔ ∀s∈S,Td (wo n K T c) (wo n K T c) s (some true)):=by
 obtain⟨k,rfl⟩:=nk m 2 (by omega)
 have e1:=EG k c g h
 have P:=Q8 g (c:=c) (jm h (.aM (aN (K++T) (fS n K T c))))
 rw [Gb (d:=Jv) rfl _ _ _ rfl]
 show ∃b,Gv _ (execs _ _ [sv (ba K T S),sv ((wo n K T c).aD),y0] h)=_/\_
 simp only [Jv]
 have t:(h++ [Cell.aM (aN (K++T) (fS n K T c))]).take h.length=h:=by simp
 have J:h.length<=(h++ [Cell.aM (aN (K++T) (fS n K T c))]).length:=by simp
 generalize h++ [Cell.aM _]=j at e1 P t J
 have A:aV [D.n n,.tup (ar (cy n K.length T.length c)),.tup (ar (cR n K.length T.length c))] 0=k0 _:=rfl
 have H: ∀s∈S,∃o,Td _ _ s o/\eval (u9 (k+2)) (.cmp .cN (.call "_law_told" (.c (.ix .v1 (.int 0)) .v2 .v0)) (.bl true)) [sv (aP s),sv ((wo n K T c).aD),some (.r h.length)] j= .ok (.b (o==some true)) j:=fun s a=>by
  obtain⟨o,r,p⟩:=vR P s (k+2) (by have:=(I s a).2;omega) (I s a).1
  have p:call prog (k+2) "_law_told" [.i n,.r h.length,.v (aP s)] j= .ok (.v (aH o)) j:=p
  have cN:=kl o u0 j
  have N:(wo n K T c).aD= .tup [.n n,.tup (ar (cy n K.length T.length c)),.tup (ar (cR n K.length T.length c))]:=rfl
  refine⟨o,r,?_⟩
  rw [N]
  simp_all [ab,A,p,cN]
 obtain⟨f,u,x⟩:=qQ (F:=(u9 (k+2))) (k:=1) (aB:= [1,2]) (it:= .seq (.ix .v0 (.int 1))) (c:= .bl true) (elt:= .cmp .cN (.call "_law_told" (.c (.ix .v1 (.int 0)) .v2 .v0)) (.bl true)) (τ:= [sv (ba K T S),sv ((wo n K T c).aD),some (.r h.length)]) (h:=j) (ds:=S.map aP) (fun d y=> ∀s∈S,d=aP s-> ∃o,Td (wo n K T c) (wo n K T c) s o/\y= .bl (o==some true)) (by simp_all [ab,We]) (by rw [List.length_map];omega) (fun d l=>by
  obtain⟨s,a,rfl⟩:=Ab6.mp l
  obtain⟨o,r,p⟩:=H s a
  refine⟨.bl (o==k0 u0),p,λR v e=> ?_⟩
  obtain⟨Q,E,i⟩:=H R v
  rw [← e]at i
  rw [p]at i
  refine⟨Q,E,?_⟩
  injection i with i
  injection i)
 obtain⟨bs,C⟩:=oV f (S.map aP) λd l=>by
  obtain⟨s,a,e⟩:=Ab6.mp l
  obtain⟨o, -,e2⟩:=x d l s a e.symm
  exact⟨_,e2⟩
 rw [C]at u
 have u:eval (u9 (k+2)) Qx [sv (ba K T S),sv ((wo n K T c).aD),k0 (.r h.length)] j= .ok (.own (bs.map .bl)) j:=u
 refine⟨bs.all id,?_,λz s a=> ?_,λz=> ?_⟩
 ·have G:aV [wD K T,D.tup (S.map aP)] 0=k0 (wD K T):=rfl
  refine fx (by simp_all [ab,G,e1];rfl) ?_
  rw [qa (w:= .b (bs.all id)) (h1:=j) (Xa rfl (qA u))]
  obtain⟨V,O,M⟩:=mV (d:= .bl (bs.all id)) (h:=j) (n:=h.length) rfl J (by rw [t];exact L)
  rw [O,M,t]
 ·obtain⟨o,r,e⟩:=x (aP s) (Ab6.mpr ⟨s,a,rfl⟩) s a rfl
  have m:f (aP s)∈bs.map D.bl:=by rw [← C];exact Ab6.mpr ⟨_,Ab6.mpr ⟨s,a,rfl⟩,rfl⟩
  obtain⟨b,B,e2⟩:=Ab6.mp m
  rw [e]at e2
  have e2:b=(o==k0 u0):=by injection e2
  have:=Ai6.mp z b B
  rw [e2]at this
  have:o=k0 true:=eq_of_beq this
  rw [← this]
  exact r
 ·rw [Ai6]
  intro b B
  have m:D.bl b∈bs.map D.bl:=Ab6.mpr ⟨b,B,rfl⟩
  rw [← C]at m
  obtain⟨d,l,e⟩:=Ab6.mp m
  obtain⟨s,a,rfl⟩:=Ab6.mp l
  obtain⟨o,r,e2⟩:=x (aP s) l s a rfl
  rw [e2,r.uniq (z s a)]at e
  injection e with e
  exact e.symm
end
theorem nB: ∀(u w) (c),dg (u++w) c=dg u c++dg w (c / 2 ^ u.sum)
 | [],w,c=>by simp [dg]
 | x::u,w,c=>by
  rw [Al2,dg,dg,nB u w,Al2,Al3,Am8,←Nat.pow_add]
def J7 (l) (x):ar (l++ [x])=ar l++ [.n x]:=by simp
theorem oK {st:Nat->List Nat->Option W->Sl}(f: ∀c i x d,GC (st c i x) 4 (.v d)=st c i (sv d)) (g: ∀ c i t,i.length<=8->execs F b (st c i (k0 (.s t))) h= .next (st (c / 2 ^ w) (i++ [c % 2 ^ w]) (k0 (.s t))) h): ∀(a:List Tx) c i x,i.length+a.length<=8-> ∃j,Gq (Gp [4] u0) (λτ h=>execs F b τ h) (a.map .str) (st c i x) h= .next (st (c / 2 ^ (a.length*w)) (i++dg (Aa3 a.length w) c) j) h
 | [],c,i,x,_=>⟨x,by simp [dg]⟩
 | t::a,c,i,x,k=>by
  rw [Aa6]at k
  obtain⟨j,e⟩:=oK f g a (c / 2 ^ w) (i++ [c % 2 ^ w]) (k0 (.s t)) (by rw [Aa8];simp;omega)
  refine⟨j,?_⟩
  rw [Ab1,jb (by rw [GA,f]) (g c i t (by omega)),e,Am8,←Nat.pow_add,Aa6,Ae4,dg,Ae6,show w+a.length*w=(a.length+1)*w by rw [Nat.add_mul];omega]
  rfl
def A7 (k c)(g:bD n K T) (h):call prog (k+1) "_law_world" [.v (wD K T),.i n,.i c] h= .ok (.v (wo n K T c).aD) h:=by
 have n4:=g.n4
 have s:=g.k4
 have v:=g.t4
 have p:n*n<=16:=Af1 n4 n4
 have j:Gi .mul (n:Int) (n:Int)=k0 _:=Qc n n (by omega)
 have o:=ZU n (by omega)
 have r:=ZU (n*n) (by omega)
 rw [Gb rfl _ _ _ rfl]
 simp only [zK]
 have l: ∀a:List Nat,a.length<=8->(ar a).length<bh:=λa e=>by rw [Gg,ar,Aa];omega
 obtain⟨f,e1⟩:=oK (b:=Xn) (st:=λc a x=> [sv (wD K T),si n,si c,k0 (.own (ar a)),x,y0]) (λ_ _ _ _=>rfl) (λc a t e=>by
  have i:=kQ c (2 ^ n) (Ac9 n)
  unfold Xn
  rw [za (τ1:= [sv (wD K T),si n,si c,k0 (.own (ar (a++ [c % 2 ^ n]))),k0 (.s t),y0]) (h1:=h) (by
   simp_all [o,i,l a e,if_true]
   rw [J7])]
  rw [za (τ1:= [sv (wD K T),si n,si (c / 2 ^ n),k0 (.own (ar (a++ [c % 2 ^ n]))),k0 (.s t),y0]) (h1:=h) (by simp_all [Jk]),execs]) K c [] y0 (by simp;omega)
 obtain⟨u,e2⟩:=oK (F:=(u9 k)) (h:=h) (b:=Qn) (w:=n*n) (st:=λd a x=> [sv (wD K T),si n,si d,k0 (.own (ar (dg (Aa3 K.length n) c))),x,k0 (.own (ar a))]) (λ_ _ _ _=>rfl) (λd a t e=>by
  have i:=kQ d (2 ^ (n*n)) (Ac9 _)
  unfold Qn
  rw [za (τ1:= [sv (wD K T),si n,si d,k0 (.own (ar (dg (Aa3 K.length n) c))),k0 (.s t),k0 (.own (ar (a++ [d % 2 ^ (n*n)])))]) (h1:=h) (by
   simp_all [j,r,i,l a e,if_true]
   rw [J7])]
  rw [za (τ1:= [sv (wD K T),si n,si (d / 2 ^ (n*n)),k0 (.own (ar (dg (Aa3 K.length n) c))),k0 (.s t),k0 (.own (ar (a++ [d % 2 ^ (n*n)])))]) (h1:=h) (by simp_all [j,Jk]),execs]) T _ [] f (by simp;omega)
 rw [Ae2]at e1 e2
 rw [za (τ1:= [sv (wD K T),si n,si c,k0 (.own []),y0,y0]) (h1:=h) (by simp_all [])]
 rw [za (τ1:= [sv (wD K T),si n,si (c / 2 ^ (K.length*n)),k0 (.own (ar (dg (Aa3 K.length n) c))),f,y0]) (h1:=h) (by
  rw [exec,show Gs (u9 k) (.seq (.ix .v0 (.int 0))) [sv (wD K T),si n,si c,k0 (.own []),y0,y0] h= .ok (K.map .str) h by simp_all [ab,zf],R.au]
  exact e1)]
 refine fx (by simp_all [];rfl) ?_
 rw [za (by
  rw [exec,show Gs (u9 k) (.seq (.ix .v0 (.int 1))) [sv (wD K T),si n,si (c / 2 ^ (K.length*n)),k0 (.own (ar (dg (Aa3 K.length n) c))),f,k0 (.own [])] h= .ok (T.map .str) h by simp_all [ab,We],R.au]
  exact e2)]
 have q:cy n K.length T.length c=dg (Aa3 K.length n) c:=by
  rw [cy,cK,nB,List.take_left' (by rw [Z2,Ad3])]
 have m:cR n K.length T.length c=dg (Aa3 T.length (n*n)) (c / 2 ^ (K.length*n)):=by
  rw [cR,cK,nB,List.drop_left' (by rw [Z2,Ad3]),xw]
 have ew:(wo n K T c).aD= .tup [.n n,.tup (ar (dg (Aa3 K.length n) c)),.tup (ar (dg (Aa3 T.length (n*n)) (c / 2 ^ (K.length*n))))]:=by
  rw [← q,←m];rfl
 rw [qa (w:= .v (wo n K T c).aD) (h1:=h) (Xa rfl (by rw [ew];simp_all [JJ])),Ga _ _ _ rfl]
noncomputable def b5:Ex->List Tx
 | .name t=> [t]
 | .turned a=>b5 a
 | .closed a=>b5 a
 | .plus a b=>b5 a++b5 b
 | .less a b=>b5 a++b5 b
 | .both a b=>b5 a++b5 b
 | .joined a b=>b5 a++b5 b
 | _=> []
def HV:Fc->List Tx
 | .dA a b=>b5 a++b5 b
 | .dQ a b=>b5 a++b5 b
 | .dH a=>b5 a
 | .aj a=>b5 a
 | .cnt _ _ a=>b5 a
def X4:Sy->List Tx
 | .fact f=>HV f
 | .neg a=>X4 a
 | .cx a b=>X4 a++X4 b
 | .cn a b=>X4 a++X4 b
def QD (h:a<=2 ^ x) (g:b<=2 ^ y):a+b<=2 ^ (max x y+1):=by
 have d:2 ^ x<=2 ^ max x y:=Ad (by decide) (Nat.le_max_left _ _)
 have c:2 ^ y<=2 ^ max x y:=Ad (by decide) (Nat.le_max_right _ _)
 lia
def kb (h:a<=2 ^ x):a<=2 ^ (x+1):=Ab5 h (Ad (by decide) (Ag6 _))
theorem Zd: ∀e:Ex,(b5 e).length<=2 ^ e.dp
 | .name _=>Aa9 _
 | .same=>Af3 _
 | .all=>Af3 _
 | .none=>Af3 _
 | .turned a=>kb (Zd a)
 | .closed a=>kb (Zd a)
 | .plus a b=>by rw [b5,Aa8];exact QD (Zd a) (Zd b)
 | .less a b=>by rw [b5,Aa8];exact QD (Zd a) (Zd b)
 | .both a b=>by rw [b5,Aa8];exact QD (Zd a) (Zd b)
 | .joined a b=>by rw [b5,Aa8];exact QD (Zd a) (Zd b)
theorem Qm: ∀s:Sy,(X4 s).length<=2 ^ (s.dp+1)
 | .fact f=>by
  cases f with
  | dA a b=>show(b5 a++b5 b).length<=_;rw [Aa8];exact QD (Zd a) (Zd b)
  | dQ a b=>show(b5 a++b5 b).length<=_;rw [Aa8];exact QD (Zd a) (Zd b)
  | dH a=>exact kb (Zd a)
  | aj a=>exact kb (Zd a)
  | cnt _ _ a=>exact kb (Zd a)
 | .neg a=>kb (Qm a)
 | .cx a b=>by
  rw [X4,Aa8,Sy.dp]
  have:=QD (Qm a) (Qm b)
  rw [show max (a.dp+1) (b.dp+1)+1=max a.dp b.dp+1+1 by omega]at this
  exact this
 | .cn a b=>by
  rw [X4,Aa8,Sy.dp]
  have:=QD (Qm a) (Qm b)
  rw [show max (a.dp+1) (b.dp+1)+1=max a.dp b.dp+1+1 by omega]at this
  exact this
def hH (m:Nat) (h:AH) (p:D×List Tx):Prop:=(∃ i,p.1= .int i/\p.2= [])\/ ∃xs,p.1= .tup xs/\call prog m "names_in" [.v p.1] h= .ok (.own (p.2.map .str)) h
theorem uS : ∀(ps:List (D×List Tx)) j x,(∀ p∈ps,hH m h p)->j.length+(ps.flatMap (·.2)).length<=900000-> ∃L,Gq (Gp [2] u0) (λτ h=>execs (u9 m) qm τ h) (ps.map (·.1)) [sv th,k0 (.own (j.map .str)),x] h= .next [sv th,k0 (.own ((j++ps.flatMap (·.2)).map .str)),L] h
 | [],j,x,_,_=>⟨x,by simp [Gq]⟩
 | (d,l)::ps,j,x,c,b=>by
  rw [Aj3,Aa8]at b
  have b:j.length+(l.length+(ps.flatMap (·.2)).length)<=900000:=b
  obtain⟨L,e⟩:=uS ps (j++l) (sv d) (λp a=>c p (Aa2 _ a)) (by rw [Aa8];omega)
  refine⟨L,?_⟩
  rw [Ab1,jb (τ1:= [sv th,k0 (.own (j.map .str)),sv d]) rfl,e,Aj3,Ae6]
  show execs _ qm _ h=_
  unfold qm
  rcases c (d,l) Aa4 with⟨i,e1,e2⟩ | ⟨f,e1,e2⟩
  ·cases e1
   cases e2
   rw [xa (by simp_all [KU,Ty.kD]),execs,Af0]
  ·cases e1
   have e2:=e2
   have g:(j.map D.str).length+(l.map D.str).length<bh:=by rw [Gg,Aa,Aa];omega
   rw [za ((Wt (h1:=h) (by simp_all [Ce,Ty.gK])).trans ?_),execs]
   rw [za (τ1:= [sv th,k0 (.own ((j++l).map .str)),k0 (.t f)]) (by
    simp_all [e2,g,if_true]
    rw [Af5]),execs]
def nN (b:(s==Zg)=k9) (ps:List (D×List Tx)) (a: ∀p∈ps,hH m h p) (c:(ps.flatMap (·.2)).length<=900000):call prog (m+1) "names_in" [.t (.str s::ps.map (·.1))] h= .ok (.own ((ps.flatMap (·.2)).map .str)) h:=by
 obtain⟨d,e⟩:=uS ps [] y0 a (by simp_all)
 rw [Ae2]at e
 rw [Gb rfl _ _ _ rfl]
 simp only [qB]
 rw [xa (by
  rw [← b]
  simp_all [ab,we,Ja])]
 refine fx (by simp_all [];rfl) ?_
 have sl:fX (.t (.str s::ps.map (·.1))) (k0 1) y0 h= .ok (.t (ps.map (·.1))) h:=by
  show aq _ h=_
  rw [show cut _ (k0 1) y0=_ from XV _ 1]
  rfl
 rw [za (by
  rw [exec,show Gs (u9 m) _ [k0 _,k0 _,y0] h= .ok (ps.map (·.1)) h by simp_all [sl],R.au]
  exact e)]
 rw [qa rfl,Gu _ _ _ rfl]
def X7 (a:(s==Zg)=k9):call prog (m+1) "names_in" [.t [.str s]] h= .ok (.own (([]:List Tx).map .str)) h:=nN a [] (fun _ h=>absurd h List.not_mem_nil) (Nat.zero_le _)
def lV (c:(s==Zg)=k9) (a:hH m h (d,l)) (e:l.length<=400000):call prog (m+1) "names_in" [.t [.str s,d]] h= .ok (.own (l.map .str)) h:=by
 have:=nN c [_] (λp b=>by rw [Ac7.mp b];exact a) (by simp;lia)
 simpa using this
def xP (e:(s==Zg)=k9) (c:hH m h (d,l)) (b:hH m h (d',l')) (g:l.length<=400000) (f:l'.length<=400000):call prog (m+1) "names_in" [.t [.str s,d,d']] h= .ok (.own ((l++l').map .str)) h:=by
 have:=nN e [_,_] (λp a=>by
  obtain rfl | a:=Ac.mp a
  ·exact c
  ·rw [Ac7.mp a];exact b) (by simp;lia)
 simpa using this
def uU (e): ∃xs,aT e= .tup xs:=by cases e<;>exact⟨_,rfl⟩
def JW (s): ∃xs,aP s= .tup xs:=by
 cases s with
 | fact f=>cases f<;>exact⟨_,rfl⟩
 | _=>exact⟨_,rfl⟩
def JK (d) (h:d<=17):2 ^ d<=400000:=Ab5 (Ad (by decide) h) (by decide)
def EJ (h): ∀ e m,e.dp+1<=m->e.dp<=16->call prog m "names_in" [.v (aT e)] h= .ok (.own ((b5 e).map .str)) h:=by
 intro e
 have ok: ∀ e m,(∀ m,e.dp+1<=m->e.dp<=16->call prog m "names_in" [.v _] h= .ok _ h)->e.dp+1<=m->e.dp<=16->hH m h (aT e,b5 e)/\(b5 e).length<=400000:=fun e m d f l=>by
  obtain⟨n,ex⟩:=uU e
  exact⟨.inr ⟨n,ex,d m f l⟩,Ab5 (Zd e) (JK _ (by omega))⟩
 have one: ∀ s a,_=k9->(∀ m,a.dp+1<=m->a.dp<=16->call prog m "names_in" [.v _] h= .ok _ h)-> ∀m,a.dp+1+1<=m->a.dp+1<=16->call prog m "names_in" [.t [.str s,aT a]] h= .ok _ h:=fun s a j d m f l=>by
  obtain⟨k,rfl⟩:=nk m 1 (by omega)
  obtain⟨i,g⟩:=ok a k d (by omega) (by omega)
  exact lV j i g
 have two: ∀ s a b,_=k9->(∀ m,a.dp+1<=m->a.dp<=16->call prog m "names_in" [.v _] h= .ok _ h)->(∀ m,b.dp+1<=m->b.dp<=16->call prog m "names_in" [.v _] h= .ok _ h)-> ∀m,max a.dp b.dp+1+1<=m->max a.dp b.dp+1<=16->call prog m "names_in" [.t [.str s,aT a,aT b]] h= .ok _ h:=fun s a b j d c m f l=>by
  obtain⟨k,rfl⟩:=nk m 1 (by omega)
  obtain⟨i,g⟩:=ok a k d (by omega) (by omega)
  obtain⟨p,o⟩:=ok b k c (by omega) (by omega)
  exact xP j i p g o
 induction e with
 | name t=>
  intro m f _
  obtain⟨k,rfl⟩: ∃k,m=k+1:=⟨m-1,by simp [Ex.dp]at f;omega⟩
  rw [Gb rfl _ _ _ rfl]
  show Gv _ (execs _ _ [k0 (.t [.str Zg,.str t]),y0,y0] h)=_
  simp only [qB]
  rw [qa (w:= .own [.str t]) (h1:=h) ((Wt (by simp_all [Ja];rfl)).trans (qa (wA rfl (by simp_all [ab,We])))),Gu _ _ _ rfl]
  rfl
 | same=>intro m f _;obtain⟨k,rfl⟩:=nk m 1 (by omega);exact X7 rfl
 | all=>intro m f _;obtain⟨k,rfl⟩:=nk m 1 (by omega);exact X7 rfl
 | none=>intro m f _;obtain⟨k,rfl⟩:=nk m 1 (by omega);exact X7 rfl
 | turned a d=>exact one Xh a rfl d
 | closed a d=>exact one Wh a rfl d
 | plus a b d c=>exact two jF a b rfl d c
 | less a b d c=>exact two qp a b rfl d c
 | both a b d c=>exact two jz a b rfl d c
 | joined a b d c=>exact two xf a b rfl d c
def Ik (h): ∀ s m,s.wf N->s.dp+2<=m->s.dp<=14->call prog m "names_in" [.v (aP s)] h= .ok (.own ((X4 s).map .str)) h:=by
 intro s
 have c: ∀ e m,e.dp+1<=m->e.dp<=14->hH m h (aT e,b5 e)/\(b5 e).length<=400000:=λe m d g=>by
  obtain⟨n,ex⟩:=uU e
  exact⟨.inr ⟨n,ex,EJ h e m d (by omega)⟩,Ab5 (Zd e) (JK _ (by omega))⟩
 induction s with
 | fact f=>
  intro m wf d g
  obtain⟨k,rfl⟩:=nk m 1 (by omega)
  cases f with
  | dA a b=>
   simp only [Sy.dp,Fc.dp]at d g
   obtain⟨l,i⟩:=c a k (by omega) (by omega)
   obtain⟨u,q⟩:=c b k (by omega) (by omega)
   exact xP rfl l u i q
  | dQ a b=>
   simp only [Sy.dp,Fc.dp]at d g
   obtain⟨l,i⟩:=c a k (by omega) (by omega)
   obtain⟨u,q⟩:=c b k (by omega) (by omega)
   exact xP rfl l u i q
  | dH a=>
   simp only [Sy.dp,Fc.dp]at d g
   obtain⟨l,i⟩:=c a k (by omega) (by omega)
   exact lV rfl l i
  | aj a=>
   simp only [Sy.dp,Fc.dp]at d g
   obtain⟨l,i⟩:=c a k (by omega) (by omega)
   exact lV rfl l i
  | cnt t j a=>
   simp only [Sy.dp,Fc.dp]at d g
   obtain⟨l,i⟩:=c a k (by omega) (by omega)
   have w:(t==Zg)=false:=by
    have:t=Za\/t=zc\/t=zb\/t=jh:=by simpa using wf.1
    rcases this with rfl | rfl | rfl | rfl<;>rfl
   have:=xP w (.inl ⟨_,rfl,rfl⟩:hH k h (.n j,[])) l (Af3 _) i
   exact this
 | neg a p=>
  intro m wf d g
  obtain⟨k,rfl⟩:=nk m 1 (by omega)
  simp only [Sy.dp]at d g
  obtain⟨n,ex⟩:=JW a
  exact lV rfl (.inr ⟨n,ex,p k wf (by omega) (by omega)⟩) (Ab5 (Qm a) (JK _ (by omega)))
 | cx a b p o=>
  intro m wf d g
  obtain⟨k,rfl⟩:=nk m 1 (by omega)
  simp only [Sy.dp]at d g
  obtain⟨n,ex⟩:=JW a
  obtain⟨r,v⟩:=JW b
  exact xP rfl (.inr ⟨n,ex,p k wf.1 (by omega) (by omega)⟩) (.inr ⟨r,v,o k wf.2 (by omega) (by omega)⟩) (Ab5 (Qm a) (JK _ (by omega))) (Ab5 (Qm b) (JK _ (by omega)))
 | cn a b p o=>
  intro m wf d g
  obtain⟨k,rfl⟩:=nk m 1 (by omega)
  simp only [Sy.dp]at d g
  obtain⟨n,ex⟩:=JW a
  obtain⟨r,v⟩:=JW b
  exact xP rfl (.inr ⟨n,ex,p k wf.1 (by omega) (by omega)⟩) (.inr ⟨r,v,o k wf.2 (by omega) (by omega)⟩) (Ab5 (Qm a) (JK _ (by omega))) (Ab5 (Qm b) (JK _ (by omega)))
def kh (L:List Tx):Nat->List Pl->Nat->Nat
 | _,[],v=>v
 | i,p::ps,v=>kh L (i+1) ps (if p.1∈L then v ||| 2 ^ i else v)
theorem tU : ∀ ps i v j,(kh L i ps v).testBit j=u0↔v.testBit j=u0\/ ∃ k p,ps[k]? =k0 p/\j=i+k/\p.1∈L
 | [],i,v,j=>by
  exact⟨.inl,λh=>h.elim id λ⟨k,p,e,_⟩=>by simp at e⟩
 | p::ps,i,v,j=>by
  rw [kh,tU ps]
  have b:(if p.1∈L then v ||| 2 ^ i else v).testBit j=u0↔v.testBit j=u0\/(j=i/\p.1∈L):=by
   by_cases q:p.1∈L
   ·rw [if_pos q,Ae8,Ad7,Ae5,decide_eq_true_eq]
    exact or_congr Iff.rfl ⟨λz=>⟨z.symm,q⟩,λz=>z.1.symm⟩
   ·rw [if_neg q]
    exact⟨.inl,λz=>z.elim id λz=>absurd z.2 q⟩
  rw [b]
  constructor
  ·rintro ((h | ⟨rfl,h⟩) | ⟨k,a,e,rfl,h⟩)
   ·exact .inl h
   ·exact .inr ⟨0,p,rfl,rfl,h⟩
   ·exact .inr ⟨k+1,a,e,by omega,h⟩
  ·rintro (h | ⟨k,a,e,rfl,h⟩)
   ·exact .inl (.inl h)
   ·cases k with
    | zero=>
     have:p=a:=by simpa using e
     exact .inl (.inr ⟨rfl,this▸h⟩)
    | succ k=>exact .inr ⟨k,a,by simpa using e,by omega,h⟩
abbrev gS (ro:Nat) (s:D) (L:List Tx) (v:Nat) (x y:Option W):Sl:= [k0 (.r ro),sv s,k0 (.l (L.map .str)),si v,x,y]
def D7 (s) (a:List Tx) (h):Gr .mem (.s s) (.l (a.map .str)) h=k0 (y9 (s∈a)):=qy s a (.l _) h rfl rfl
theorem uv : ∀ ps i v x y,i+ps.length<=1000-> ∃M j,Gq (Gp [4,5] k9) (λτ h=>execs F Zk τ h) (Kk i (ps.map bK)) (gS ro s L v x y) h= .next (gS ro s L (kh L i ps v) M j) h
 | [],i,v,x,y,_=>⟨x,y,rfl⟩
 | p::ps,i,v,x,y,c=>by
  rw [Aa6]at c
  obtain⟨M,j,e⟩:=uv ps (i+1) (if p.1∈L then v ||| 2 ^ i else v) (si i) (sv (bK p)) (by omega)
  refine⟨M,j,?_⟩
  rw [Ab1,Kk,jb (τ1:=gS ro s L v (si i) (sv (bK p))) rfl,e,kh]
  unfold Zk
  have i0:dN (.v (bK p)) (.v (.int 0)) h=k0 (.str p.1):=rfl
  have a:Gm F (.cmp .mem (.ix .v5 (.int 0)) .v2) (gS ro s L v (si i) (sv (bK p))) h= .ok (y9 (p.1∈L)) h:=by simp_all [i0,D7]
  by_cases q:p.1∈L
  ·rw [if_pos q,za ((Wt (by rw [a,decide_eq_true q])).trans ?_),execs]
   have b:=ZU i (by omega)
   rw [za (τ1:=gS ro s L (v ||| 2 ^ i) (si i) (sv (bK p))) (h1:=h) (by simp_all [b,Zm,Zl]),execs]
  ·rw [if_neg q,xa (by rw [a,decide_eq_false q]),execs]
def et (n:Nat) (K T:List Tx) (s:Sy):Nat:=kh (X4 s) 0 (bP n K T) 0
section
variable {n:Nat}{K T:List Tx}{S:List Sy}{ro:Nat}{h:AH}
def pS (s) (j):(et n K T s).testBit j=u0↔ ∃p:Pl,(bP n K T)[j]? =k0 p/\p.1∈X4 s:=by
 rw [et,tU,Af9]
 constructor
 ·rintro (h | ⟨k,p,e,rfl,h⟩)
  ·cases h
  ·exact⟨p,by rw [Am0];exact e,h⟩
 ·rintro ⟨p,e,h⟩
  exact .inr ⟨j,p,e,(Am0 j).symm,h⟩
def Cq (m) (g:bD n K T) (C:h[ro]? =k0 (.obj "Cases" (b0 n K T S)))(wf:s.wf (K++T)) (a:s.dp+2<=m) (c:s.dp<=14):call prog (m+1) "needed_bits" [.r ro,.v (aP s)] h= .ok (.i (et n K T s)) h:=by
 have e1:=Ik h s m wf a c
 have e:0+(bP n K T).length<=1000:=by rw [WD];have:=g.b6;lia
 obtain⟨k,j,e2⟩:=uv _ 0 0 y0 y0 e
 refine fx (by simp_all [e1];rfl) ?_
 rw [za (τ1:=gS ro _ _ 0 y0 y0) (by simp_all [];rfl)]
 have d:=wj (F:=(u9 m)) (τ:=gS ro (aP s) (X4 s) 0 y0 y0) (i:=0) (f:= "places") C rfl rfl
 rw [za (by
  have b:Gs (u9 m) (.cj (.aG .v0 "Cases" "places")) (gS ro (aP s) (X4 s) 0 none none) h= .ok (Kk 0 ((bP n K T).map bK)) h:=by
   show(eval _ _ _ h).bind _=_
   rw [d]
   rfl
  rw [exec,b,R.au]
  exact e2)]
 rw [qa (w:= .i (et n K T s)) (h1:=h) rfl,Ga _ _ _ rfl]
end
theorem uH : ∀ f x a,x<f-> ∃y:Nat,GG (λτ h=>Gm F Jd τ h) (λτ h=>execs F Ji τ h) f [si x,si a] h= .next [si (0),si y] h
 | 0,x,a,c=>absurd c (Ag5 _)
 | f+1,x,a,c=>by
  have d:Gm F Jd [si x,si a] h= .ok (y9 (0<x)) h:=by
   have z:Gr .gt (.i x) (.v (.int 0)) h=k0 (y9 (0<x)):=fM 0 x h
   unfold Jd
   simp_all [z]
  show ∃y:Nat,((Gm F Jd _ h).cP _)=_
  rw [d,R.au]
  by_cases q:0<x
  ·obtain⟨y,e⟩:=uH f (x &&& (x-1)) (a+1) (by have:x &&& (x-1)<=x-1:=Nat.and_le_right;omega)
   refine⟨y,?_⟩
   rw [decide_eq_true q]
   have b:execs F Ji [si x,si a] h= .next [si (x &&& (x-1)),si (a+1)] h:=by
    have g: x-1=((x-1:Nat):Int):=by omega
    have i: a+1=((a+1:Nat):Int):=rfl
    refine(za (by simp_all [Ze,g,jc,zd];rfl)).trans ?_
    rw [za (τ1:= [si (x &&& (x-1)),si (a+1)]) (h1:=h) (by simp_all [Xc,i]),execs]
   simp only [b]
   exact e
  ·refine⟨a,?_⟩
   have:x=0:=by omega
   subst this
   rfl
def yG (k x) (h) (a:x<100000): ∃y:Nat,call prog (k+1) "how_many_set" [.i x] h= .ok (.i y) h:=by
 obtain⟨y,e⟩:=uH 100000 x 0 a
 refine⟨y,?_⟩
 refine fx (by simp_all [];rfl) ?_
 rw [za (by assumption)]
 rw [qa rfl,Ga _ _ _ rfl]
theorem xU : ∀ xs b j,(∀ m∈xs,∃y,G7 (key m)=k0 y)-> ∃i∈b::xs,GV key b j xs=k0 i
 | [],b,j,_=>⟨b,Aa4,rfl⟩
 | x::xs,b,j,h=>by
  obtain⟨y,e⟩:=h x Aa4
  rw [GV,e,Ag0]
  by_cases q:y<j
  ·obtain⟨i,a,d⟩:=xU xs x y λm c=>h m (Aa2 _ c)
   exact⟨i,Aa2 _ a,by rw [if_pos q];exact d⟩
  ·obtain⟨i,a,d⟩:=xU xs b j λm c=>h m (Aa2 _ c)
   refine⟨i,?_,by rw [if_neg q];exact d⟩
   rcases Ac.mp a with rfl | a
   ·exact Aa4
   ·exact Aa2 _ (Aa2 _ a)
def Mg (b:xs≠ []) (h: ∀m∈xs,∃y,G7 (key m)=k0 y): ∃i∈xs,Ke key (k0 xs)=k0 i:=by
 cases xs with
 | nil=>exact absurd rfl b
 | cons x xs=>
  obtain⟨y,e⟩:=h x Aa4
  obtain⟨i,c,d⟩:=xU xs x y λm a=>h m (Aa2 _ a)
  exact⟨i,c,by rw [Ke,e];exact d⟩
def Ei (a:0<f) (h1:f<1024): ∃i:Nat,i<10/\f.testBit i=u0/\f-(f &&& (f-1))=2 ^ i:=by
 have: ∀f,f<1024->0<f->(Aa5 10).any λi=>f.testBit i&&y9 (f-(f &&& (f-1))=2 ^ i):=by decide +kernel
 obtain⟨i,b,e⟩:=Ad1.mp (this f h1 a)
 rw [Aa0,decide_eq_true_eq]at e
 exact⟨i,Ab8.mp b,e.1,e.2⟩
def Lv {f:Nat}(a:0<f):Gi .band (f:Int) (-(f:Int))=k0 ((f-(f &&& (f-1)):Nat):Int):=by
 rw [jc,G9,if_pos (Ao4 f),if_neg (by lia),Ad4,show(-(-(f:Int))-1).toNat=f-1 by lia]
def DY (i):Kg ((2 ^ i:Nat):Int)=i+1:=by
 have:(2 ^ i)≠0:=Nat.ne_of_gt (Ac9 i)
 rw [Kg,if_neg (by lia),Int.natAbs_natCast,Nat.log2_two_pow]
def Z7 (e:Ex):Gf (aT e)=u0/\dep (aT e)<=e.dp+1:=by
 induction e with
 | turned a c=>obtain⟨d,g⟩:=c;exact⟨by simp [aT,d],by simp [aT,Ex.dp];lia⟩
 | closed a c=>obtain⟨d,g⟩:=c;exact⟨by simp [aT,d],by simp [aT,Ex.dp];lia⟩
 | plus a b c k=>obtain⟨d,g⟩:=c;obtain⟨f,h⟩:=k;exact⟨by simp [aT,d,f],by simp [aT,Ex.dp];lia⟩
 | less a b c k=>obtain⟨d,g⟩:=c;obtain⟨f,h⟩:=k;exact⟨by simp [aT,d,f],by simp [aT,Ex.dp];lia⟩
 | both a b c k=>obtain⟨d,g⟩:=c;obtain⟨f,h⟩:=k;exact⟨by simp [aT,d,f],by simp [aT,Ex.dp];lia⟩
 | joined a b c k=>obtain⟨d,g⟩:=c;obtain⟨f,h⟩:=k;exact⟨by simp [aT,d,f],by simp [aT,Ex.dp];lia⟩
 | _=>exact⟨rfl,by simp [aT]⟩
def n9 (s:Sy):Gf (aP s)=u0/\dep (aP s)<=s.dp+2:=by
 induction s with
 | fact f=>
  cases f with
  | dA a b=>obtain⟨c,e⟩:=Z7 a;obtain⟨d,h⟩:=Z7 b;exact⟨by simp [aP,dj,c,d],by simp [aP,dj,Sy.dp,Fc.dp];lia⟩
  | dQ a b=>obtain⟨c,e⟩:=Z7 a;obtain⟨d,h⟩:=Z7 b;exact⟨by simp [aP,dj,c,d],by simp [aP,dj,Sy.dp,Fc.dp];lia⟩
  | dH a=>obtain⟨c,e⟩:=Z7 a;exact⟨by simp [aP,dj,c],by simp [aP,dj,Sy.dp,Fc.dp];lia⟩
  | aj a=>obtain⟨c,e⟩:=Z7 a;exact⟨by simp [aP,dj,c],by simp [aP,dj,GF,Sy.dp,Fc.dp];lia⟩
  | cnt t j a=>obtain⟨c,e⟩:=Z7 a;exact⟨by simp [aP,dj,c],by simp [aP,dj,dep,GF,Sy.dp,Fc.dp];lia⟩
 | neg a g=>obtain⟨c,e⟩:=g;exact⟨by simp [aP,c],by simp [aP,dep,GF,Sy.dp];lia⟩
 | cx a b g k=>obtain⟨c,e⟩:=g;obtain⟨d,h⟩:=k;exact⟨by simp [aP,c,d],by simp [aP,dep,GF,Sy.dp];lia⟩
 | cn a b g k=>obtain⟨c,e⟩:=g;obtain⟨d,h⟩:=k;exact⟨by simp [aP,c,d],by simp [aP,dep,GF,Sy.dp];lia⟩
def XE (k)(g:bD n K T) (h):call prog (k+5) "check_bits" [.v (wD K T),.i n,.v (.int 16)] h= .ok (.v .aj) h:=by
 have n4:=g.n4
 have c:=g.b6
 have b:=pq k (.n n) h rfl (by simp [Js];lia)
 have a:=u7 (k+2) n (K.map .str) (T.map .str) h n4 (by rw [Aa];exact g.k4) (by rw [Aa];exact g.t4)
 rw [Aa,Aa,o9]at a
 rw [Gb rfl _ _ _ rfl]
 simp only [xE]
 refine fx (by simp_all [b];rfl) ?_
 refine fx (by simp_all [a];rfl) ?_
 have z:Gr .gt _ (.v (.int 16)) h=k0 _:=fM 16 (bN n K T) h
 rw [decide_eq_false (by lia)]at z
 rw [xa (by simp_all [z]),execs]
 exact GB _ h _ rfl
def XQ (h:eval F e τ (g++ [.obj c fs])= .ok (.v d) (g++ [.obj c fs])) (a:Gn τ i=k0 (.r g.length)) (j:Gf d=u0) (b:fs.length<100):exec F (.bF i c f e) τ (g++ [.obj c fs])= .next τ (g++ [.obj c (aU f d fs)]):=by
 rw [exec,h,R.au]
 simp only [a,Zo (jm g _),j,b,and_self,if_true,Ws]
def As (d:eval F e τ (g++ [.obj c fs])= .ok (.own xs) (g++ [.obj c fs])) (a:Gn τ i=k0 (.r g.length)) (h:Gc xs=u0) (b:fs.length<100):exec F (.bS i c f e) τ (g++ [.obj c fs])= .next τ (g++ [.obj c (aU f (.lst xs) fs)]):=by
 rw [exec,d,R.au]
 simp only [W.fk,a,Zo (jm g _),show Gf (.lst xs)=u0 from h,b,and_self,if_true,Ws]
def rM (k){S:List Sy}(g:bD n K T) (h:AH):call prog (k+4) "Cases.__init__" [.r h.length,.v (ba K T S),.i n] (h++ [.obj "Cases" []])= .ok (.v .aj) (h++ [Cell.obj "Cases" (b0 n K T S)]):=by
 rw [Gb (d:=qj) rfl _ _ _ rfl]
 show Gv _ (execs _ _ [k0 (.r h.length),sv (ba K T S),si n] (h++ [.obj "Cases" []]))=_
 simp only [qj]
 have p:Gf (wD K T)=true:=by
  show(Gc (K.map .str)&&(Gc (T.map .str)&&u0))=u0
  rw [Qo,Qo];rfl
 have o:Gf (.tup (S.map aP))=true:=Xj _ (λs=>(n9 s).1) S
 have q: ∀a,eval (u9 (k+3)) (.ix .v1 (.int 0)) [k0 (.r h.length),sv (ba K T S),si n] a= .ok (.v (wD K T)) a:=λa=>by simp_all [ab,zf]
 have l: ∀a,eval (u9 (k+3)) (.ix .v1 (.int 1)) [k0 (.r h.length),sv (ba K T S),si n] a= .ok (.t (S.map aP)) a:=λa=>by simp_all [ab,We]
 rw [za (XQ (fs:= []) (q _) rfl p (show 0<100 by decide))]
 rw [za (XQ (fs:=aU "words" (wD K T) []) (l _) rfl o (show 1<100 by decide))]
 rw [za (XQ (fs:=aU "sayings" (.tup (S.map aP)) (aU "words" (wD K T) [])) (d:= .n n) (by simp_all []) rfl rfl (show 2<100 by decide))]
 have pl: ∀a,eval (u9 (k+3)) (.call "places_of" (.b (.ix .v1 (.int 0)) .v2)) [some (.r h.length),sv (ba K T S),si n] a= .ok (.own ((bP n K T).map bK)) a:=fun a=>by
  have e:=AD k n K T a g.n4 g.k4 g.t4
  simp_all [ab,zf,e]
  rfl
 rw [za (As (fs:=aU "size" (.n n) (aU "sayings" (.tup (S.map aP)) (aU "words" (wD K T) []))) (pl _) rfl (xL _) (show 3<100 by decide))]
 have m:aU "places" (.lst ((bP n K T).map bK)) (aU "size" (.n n) (aU "sayings" (.tup (S.map aP)) (aU "words" (wD K T) [])))= [("words",wD K T),("sayings",.tup (S.map aP)),("size",.n n),("places",.lst ((bP n K T).map bK))]:=rfl
 rw [m]
 have r:=g.b6
 have j:=ZU (bN n K T) (by show K.length*n+T.length*(n*n)<=_;omega)
 have c:((2 ^ bN n K T:Nat):Int)-1=((2 ^ bN n K T-1:Nat):Int):=by
  have:=Ac9 (bN n K T)
  omega
 rw [za (XQ (d:= .n (2 ^ bN n K T-1)) (by
  have b:=wj (F:=(u9 (k+3))) (τ:= [k0 (.r h.length),sv (ba K T S),si n]) (i:=0) (f:= "places") (jm h (.obj "Cases" [("words",wD K T),("sayings",.tup (S.map aP)),("size",.n n),("places",.lst ((bP n K T).map bK))])) rfl rfl
  generalize E.aG _ _ _=X at b ⊢
  simp_all [b,zL,aq,Aa,WD,j,Ze,c]) rfl rfl (by simp))]
 rw [execs]
 exact GB _ _ _ (by simp)
noncomputable def el (n:Nat) (K T:List Tx) (S:List Sy) (a:Nat):List (String×D):= [("cases",.ref a),("needs",.lst (ar (S.map (et n K T))))]
structure Se (n:Nat) (K T:List Tx) (S:List Sy) (rs rc:Nat) (h:AH):Prop where
 se:h[rs]? =k0 (.obj "Search" (el n K T S rc))
 cs:h[rc]? =k0 (.obj "Cases" (b0 n K T S))
theorem rf (f) (P:Nat->Prop): ∀ds:List D,(∀ d∈ds,∃x:Nat,f d= .n x/\P x)-> ∃xs:List Nat,ds.map f=ar xs/\(∀ x∈xs,P x)/\xs.length=ds.length
 | [],_=>⟨[],rfl,λ_ h=>absurd h Ai4,rfl⟩
 | d::ds,h=>by
  obtain⟨x,e,p⟩:=h d Aa4
  obtain⟨xs,e2,c,l2⟩:=rf f P ds λd b=>h d (Aa2 _ b)
  refine⟨x::xs,by rw [Ab1,e,e2];rfl,λy a=> ?_,by rw [Aa6,l2,Aa6]⟩
  rcases Ac.mp a with rfl | a
  ·exact p
  ·exact c y a
section
variable {n q:Nat}{K T:List Tx}{S:List Sy}
def HS (m:Nat) (g:bD n K T) (r: ∀s∈S,s.wf (K++T)/\s.dp<=q) (N:S.length<=100) (M:q+7<=m) (L:q<=14) (h:AH):call prog (m+1) "Search.__init__" [.r h.length,.v (ba K T S),.i n] (h++ [.obj "Search" []])= .ok (.v .aj) (h++ [.obj "Search" (el n K T S (h.length+1)),.obj "Cases" (b0 n K T S)]):=by
 obtain⟨k,rfl⟩:=nk m 4 (by omega)
 have e1:=rM k (S:=S) g (h++ [Cell.obj "Search" []])
 have l:(h++ [Cell.obj "Search" []]).length=h.length+1:=by simp
 rw [l]at e1
 rw [Gb (d:=zh) rfl _ _ _ rfl]
 show Gv _ (execs _ _ [k0 (.r h.length),sv (ba K T S),si n] (h++ [.obj "Search" []]))=_
 simp only [zh]
 have v: ∀fs x,GX (h++ [Cell.obj "Search" fs]++x) _=some (h.length, "Search",fs):=fun fs x=>Zo (by simp)
 have u: ∀fs b x,(h++ [Cell.obj "Search" fs]++x).set h.length (.obj "Search" b)=h++ [Cell.obj "Search" b]++x:=fun fs b x=>by simp
 have mk:eval (u9 (k+4)) (.make "Cases" "Cases.__init__" (.b .v1 .v2)) [some (.r h.length),sv (ba K T S),si n] (h++ [.obj "Search" []])= .ok (.r (h.length+1)) (h++ [.obj "Search" []]++ [.obj "Cases" (b0 n K T S)]):=by
  simp_all [l,e1,aq]
 rw [za (τ1:= [k0 (.r h.length),sv (ba K T S),si n]) (h1:=h++ [.obj "Search" [("cases",.ref (h.length+1))]]++ [.obj "Cases" (b0 n K T S)]) (by
  rw [exec,mk,R.au]
  simp only [Gn,v,Ae,show(0:Nat)<100 by decide,and_self,if_true,u]
  rfl)]
 have t:(h++ [Cell.obj "Search" [("cases",.ref (h.length+1))]]++ [Cell.obj "Cases" (b0 n K T S)])[h.length+1]? =some (.obj "Cases" (b0 n K T S)):=by simp
 have j:(h++ [Cell.obj "Search" [("cases",.ref (h.length+1))]]++ [Cell.obj "Cases" (b0 n K T S)])[h.length]? =some (.obj "Search" [("cases",.ref (h.length+1))]):=by simp
 have w:=v [("cases",.ref (h.length+1))] [Cell.obj "Cases" (b0 n K T S)]
 have A:=u [("cases",.ref (h.length+1))] (el n K T S (h.length+1)) [Cell.obj "Cases" (b0 n K T S)]
 have D:h++ [Cell.obj "Search" (el n K T S (h.length+1))]++ [Cell.obj "Cases" (b0 n K T S)]=h++ [.obj "Search" (el n K T S (h.length+1)),.obj "Cases" (b0 n K T S)]:=by simp
 generalize h++ [Cell.obj "Search" [("cases",.ref (h.length+1))]]++ [Cell.obj "Cases" (b0 n K T S)]=H at t j w A ⊢
 have comp:eval (u9 (k+4)) Jf [k0 (.r h.length),sv (ba K T S),si n] H= .ok (.own (ar (S.map (et n K T)))) H:=by
  unfold Jf
  obtain⟨f,G,C⟩:=qQ (F:=(u9 (k+4))) (k:=1) (aB:= [0]) (it:= .seq (.ix .v1 (.int 1))) (c:= .bl true) (elt:= .call "needed_bits" (.cons (.aG .v1 "Search" "cases") (.a .v0))) (τ:= [some (.r h.length),sv (ba K T S),si n]) (h:=H) (ds:=S.map aP) (fun d y=> ∀s∈S,d=aP s->y= .n (et n K T s)) (by simp_all [ab,We]) (by rw [List.length_map];omega) (fun d I=>by
   have p: ∀s∈S,eval (u9 (k+4)) (.call "needed_bits" (.cons (.aG .v1 "Search" "cases") (.a .v0))) [sv (aP s),some (.r h.length)] H= .ok (.i (et n K T s)) H:=fun s a=>by
    have e:=Cq (k+3) g t (r s a).1 (by have:=(r s a).2;omega) (by have:=(r s a).2;omega)
    have z:=wj (F:=(u9 (k+4))) (τ:= [sv (aP s),k0 (.r h.length)]) (i:=1) (f:= "cases") j rfl rfl
    generalize E.aG _ _ _=X at z ⊢
    simp_all [z,e]
   obtain⟨s,a,rfl⟩:=Ab6.mp I
   refine⟨_,p s a,λJ o e=> ?_⟩
   have e1:=p s a
   rw [e,p J o]at e1
   injection e1 with e1
   injection e1 with e1
   exact e1.symm)
  rw [G]
  congr 2
  rw [Ad6,ar,Ad6]
  exact Ai1 λs a=>C (aP s) (Ab6.mpr ⟨s,a,rfl⟩) s a rfl
 rw [za (τ1:= [k0 (.r h.length),sv (ba K T S),si n]) (h1:=h++ [.obj "Search" (el n K T S (h.length+1)),.obj "Cases" (b0 n K T S)]) (by
  rw [exec,comp,R.au]
  simp only [W.fk,Gn,w,show Gf (.lst (ar (S.map (et n K T))))=u0 from mP _,Aa6,Ae,show(0+1:Nat)<100 by decide,and_self,if_true]
  rw [show (aU "needs" (.lst (ar (S.map (et n K T)))) [("cases",.ref (h.length+1))])=el n K T S (h.length+1)from rfl,A,D]),execs]
 show fin _ (.v .aj) _=_
 unfold fin
 have B:Gx ((h++ [Cell.obj "Search" (el n K T S (h.length+1)),.obj "Cases" (b0 n K T S)]).take (h++ [Cell.obj "Search" []]).length)=false:=by
  rw [l,show h++ [Cell.obj "Search" (el n K T S (h.length+1)),.obj "Cases" (b0 n K T S)]=h++ [Cell.obj "Search" (el n K T S (h.length+1))]++ [.obj "Cases" (b0 n K T S)]by simp,List.take_left' (by simp),Gx,List.all_append]
  show(h.all Cell.pure&&k9)=k9
  rw [Ah7]
 rw [if_neg (by simp),B,Ah7,if_neg Ab2]
def f9 (n:Nat) (K T:List Tx) (b a:Nat) (s:Sy):Nat:=(et n K T s &&& a)-((et n K T s &&& a) &&& b)
def sI (low high) (s) (i):(f9 n K T low high s).testBit i=((et n K T s).testBit i&&high.testBit i&& !low.testBit i):=by
 rw [f9,Wf.aQ,Ah1]
def Iz (m)(g:bD n K T) (P:Se n K T S rs rc H) (hh:high<2 ^ bN n K T) (u:js≠ []) (Y:js.length<=1000) (O: ∀j∈js,∃s,S[j]? =k0 s/\f9 n K T low high s≠0):
 ∃i:Nat,i<bN n K T/\high.testBit i=u0/\low.testBit i=k9/\call prog (m+2) "Search.chosen_place" [.r rs,.bor (ar js),.i low,.i high] H= .ok (.i i) H:=by
 have M:bN n K T<=9:=g.b6
 obtain⟨f,l,J⟩:=qQ (F:=(u9 (m+1))) (k:=1) (aB:= [0,3,2]) (it:= .seq .v1) (c:= .bl true) (elt:= .bin .band (.bin .band (.ix (.aG .v1 "Search" "needs") .v0) .v2) (.inv .v3)) (τ:= [some (.r rs),some (.bor (ar js)),si low,si high,none,none]) (h:=H) (ds:=ar js) (fun d y=> ∃x:Nat,y= .n x/\(∃ s,x=f9 n K T low high s)/\x≠0) (by simp_all []) (by rw [List.length_map];exact Y) (fun d r=>by
  obtain⟨j,u,rfl⟩:=Ab6.mp r
  obtain⟨s,e1,e2⟩:=O j u
  have Z:j<S.length:=(Aa1.mp e1).1
  have B:=wj (F:=(u9 (m+1))) (τ:= [si j,k0 (.r rs),si high,si low]) (i:=1) (f:= "needs") P.se rfl rfl
  have v:aV (ar (S.map (et n K T))) (j:Int)=k0 (.n (et n K T s)):=by
   rw [Qg _ _ (by rw [Aa,Aa];exact Z),Ac2,Ac2,e1];rfl
  refine⟨.n (f9 n K T low high s),?_,_,rfl,⟨s,rfl⟩,e2⟩
  show eval _ _ [si j,k0 (.r rs),si high,si low] H=_
  generalize E.aG _ _ _=X at B ⊢
  simp_all [B,Qp,v,jc,zd,jI]
  rfl)
 obtain⟨a,ex,C,A⟩:=rf f (λx=>(∃ s,x=f9 n K T low high s)/\x≠0) (ar js) λd r=>by
  obtain⟨x,e,p⟩:=J d r
  exact⟨x,e,p⟩
 rw [ex]at l
 have lt: ∀x∈a,0<x/\x<512:=λx b=>by
  obtain⟨⟨s,e⟩,ne⟩:=C x b
  refine⟨Nat.pos_of_ne_zero ne,?_⟩
  have q:f9 n K T low high s<=high:=Ab5 (Ao6 _ _) Nat.and_le_right
  have h2:2 ^ bN n K T<=2 ^ 9:=Ad (by decide) M
  omega
 obtain⟨i0,o,t⟩:=Mg (key:=fun x=>call prog (m+1) "how_many_set" [.v (.int x)] []) (xs:=a.map fun(x:Nat)=>(x:Int)) (by
  cases a with
  | nil=>
   rw [Aa]at A
   exact absurd (List.length_eq_zero_iff.mp A.symm) u
  | cons _ _=>simp) (λy I=>by
  obtain⟨x,b,rfl⟩:=Ab6.mp I
  obtain⟨y,e⟩:=yG m x [] (by have:=(lt x b).2;omega)
  exact⟨_,by show G7 (call prog (m+1) "how_many_set" [.i x] [])=_;rw [e];rfl⟩)
 obtain⟨x,b,rfl⟩:=Ab6.mp o
 obtain⟨G,N⟩:=lt x b
 obtain⟨i,_,D,Q⟩:=Ei G (by omega)
 obtain⟨⟨s,rfl⟩,_⟩:=C x b
 rw [sI,Aa0,Aa0,Ag4]at D
 obtain⟨⟨R,V⟩,U⟩:=D
 obtain⟨p,L,_⟩:=(pS s i).mp R
 refine⟨i,?_,V,U,?_⟩
 ·have:=(Aa1.mp L).1
  rw [WD]at this
  exact this
 rw [Gb (d:=Qe) rfl _ _ _ rfl]
 show Gv _ (execs _ _ [k0 (.r rs),k0 (.bor (ar js)),si low,si high,y0,y0] H)=_
 simp only [Qe]
 have l:eval (u9 (m+1)) wg [k0 (.r rs),k0 (.bor (ar js)),si low,si high,y0,y0] H= .ok (.own (ar a)) H:=l
 rw [za (τ1:= [k0 (.r rs),k0 (.bor (ar js)),si low,si high,k0 (.l (ar a)),y0]) (h1:=H) (by simp_all [l])]
 rw [za (τ1:= [k0 (.r rs),k0 (.bor (ar js)),si low,si high,k0 (.l (ar a)),si (f9 n K T low high s)]) (h1:=H) (by
  simp_all [W.k6,j9,t,aq])]
 have z:=Lv G
 rw [Q]at z
 have e1:((i+1:Nat):Int)-1=(i:Int):=by omega
 rw [qa (w:= .i i) (h1:=H) (Xa rfl (by simp_all [z,DY,aq,Ze,e1])),Ga _ _ _ rfl]
end
def Bq : ∀ e p,(∀ t∈b5 e,bg a t=bg b t)->bt a b p e=bt a b u0 e:=by
 intro e
 induction e with
 | name t=>intro p h;cases p with
  | true=>rfl
  | false=>exact h t Aa4
 | turned e g=>intro p h;simp [bt,g p h]
 | closed e g=>intro p h;simp [bt,g p h]
 | plus e f g d=>intro p h;simp [bt,g p λt c=>h t (Ad0 _ c),d p λt c=>h t (Ab0 _ c)]
 | less e f g d=>
  intro p h
  have i:=λt c=>h t (Ad0 _ c)
  have j:=λt c=>h t (Ab0 _ c)
  simp [bt,g p i,d _ j]
 | both e f g d=>intro p h;simp [bt,g p λt c=>h t (Ad0 _ c),d p λt c=>h t (Ab0 _ c)]
 | joined e f g d=>intro p h;simp [bt,g p λt c=>h t (Ad0 _ c),d p λt c=>h t (Ab0 _ c)]
 | _=>intro p h;cases p<;>rfl
def B.nm (h:B a b e v u) (k: ∀t∈b5 e,bg a t=bg b t):v=u:=by
 have l:=h.lo
 rw [Bq e k9 k]at l
 exact l.uniq h.hi
def WW (h:p≠y0) (g:q≠y0):ek p q≠none:=by
 rcases p with _ | _ | _<;>rcases q with _ | _ | _<;>first | exact absurd rfl h | exact absurd rfl g | (intro z;cases z)
def yq (h:p≠y0) (g:q≠y0):eY p q≠none:=by
 rcases p with _ | _ | _<;>rcases q with _ | _ | _<;>first | exact absurd rfl h | exact absurd rfl g | (intro z;cases z)
theorem Td.nm : ∀ s r,Td a b s r->(∀ t∈X4 s,bg a t=bg b t)->r≠y0
 | .fact f,r,h,k=>by
  cases f with
  | dA x y=>
   obtain⟨v,u,l,m,c,g,rfl⟩:=h
   cases c.nm λt i=>k t (Ad0 _ i)
   cases g.nm λt i=>k t (Ab0 _ i)
   rw [ZS];intro z;cases z
  | dQ x y=>
   obtain⟨v,u,l,m,c,g,rfl⟩:=h
   cases c.nm λt i=>k t (Ad0 _ i)
   cases g.nm λt i=>k t (Ab0 _ i)
   rw [ZS,ZS]
   exact WW (λz=>by cases z) λz=>by cases z
  | dH x=>obtain⟨v,u,c,rfl⟩:=h;cases c.nm k;rw [QH];intro z;cases z
  | aj x=>obtain⟨v,u,c,rfl⟩:=h;cases c.nm k;rw [QH];intro z;cases z
  | cnt s j x=>obtain⟨v,u,c,rfl⟩:=h;cases c.nm k;rw [QH];intro z;cases z
 | .neg s,r,⟨q,h,e⟩,k=>by
  have:=Td.nm s q h k
  cases q with
  | none=>exact absurd rfl this
  | some x=>rw [e];intro z;cases z
 | .cx s t,r,⟨p,q,c,g,e⟩,k=>by
  rw [e]
  exact WW (Td.nm s p c λx d=>k x (Ad0 _ d)) (Td.nm t q g λx d=>k x (Ab0 _ d))
 | .cn s t,r,⟨p,q,c,g,e⟩,k=>by
  rw [e]
  exact yq (Td.nm s p c λx d=>k x (Ad0 _ d)) (Td.nm t q g λx d=>k x (Ab0 _ d))
theorem ji : ∀e:Ex,e.wf N-> ∀t∈b5 e,t∈N
 | .name x,w,t,h=>by rw [Ac7.mp h];exact w
 | .turned a,w,t,h=>ji a w t h
 | .closed a,w,t,h=>ji a w t h
 | .plus a b,w,t,h=>(Ac8.mp h).elim (ji a w.1 t) (ji b w.2 t)
 | .less a b,w,t,h=>(Ac8.mp h).elim (ji a w.1 t) (ji b w.2 t)
 | .both a b,w,t,h=>(Ac8.mp h).elim (ji a w.1 t) (ji b w.2 t)
 | .joined a b,w,t,h=>(Ac8.mp h).elim (ji a w.1 t) (ji b w.2 t)
theorem JO : ∀s:Sy,s.wf N-> ∀t∈X4 s,t∈N
 | .fact f,w,t,h=>by
  cases f with
  | dA a b=>exact(Ac8.mp h).elim (ji a w.1 t) (ji b w.2 t)
  | dQ a b=>exact(Ac8.mp h).elim (ji a w.1 t) (ji b w.2 t)
  | dH a=>exact ji a w t h
  | aj a=>exact ji a w t h
  | cnt _ _ a=>exact ji a w.2 t h
 | .neg a,w,t,h=>JO a w t h
 | .cx a b,w,t,h=>(Ac8.mp h).elim (JO a w.1 t) (JO b w.2 t)
 | .cn a b,w,t,h=>(Ac8.mp h).elim (JO a w.1 t) (JO b w.2 t)
section
variable {n:Nat}{K T:List Tx}{low high:Nat}
def Er (g:bD n K T)(f:t∈K++T) (h: ∀ i x y,(bP n K T)[i]? =k0 (t,x,y)->low.testBit i=high.testBit i):bg (wo n K T low) t=bg (wo n K T high) t:=by
 have a: ∀x y,x<n->y<n->bg _ t x y=bg (wo n K T high) t x y:=λx y k j=>by
  by_cases q: ∃i:Nat,(bP n K T)[i]? =k0 (t,x,y)
  ·obtain⟨i,d⟩:=q
   rw [(Qk g d low).1,(Qk g d high).1,h i x y d]
  ·rw [JA low 0 f k j q,JA high 0 f k j q]
 funext x y
 by_cases q:t∈T
 ·have b: ∀c,bg _ t x y=if x*n+y<n*n then bg _ t _ (_ % n)else false:=λc=>by
   unfold bg
   rw [if_pos (show t∈(wo n K T c).T from q),if_pos (show t∈(wo n K T c).T from q)]
   show((cR n K.length T.length c).getD (cX t T) 0).testBit (x*n+y)=if _ then((cR n K.length T.length c).getD (cX t T) 0).testBit ((x*n+y) / n*n+(x*n+y) % n)else k9
   rw [Wf.bq]
   by_cases z:x*n+y<n*n
   ·rw [if_pos z]
   ·rw [if_neg z,vh,decide_eq_false z,Ae7,Ah7]
  rw [b,b]
  by_cases z:x*n+y<n*n
  ·rw [if_pos z,if_pos z]
   exact a _ _ (Wf.a8 z) (Wf.aW z)
  ·rw [if_neg z,if_neg z]
 ·by_cases z:x=y/\x<n
  ·obtain⟨rfl,z⟩:=z
   exact a x x z z
  ·have b: ∀c,bg _ t x y=false:=λc=>by
    unfold bg
    rw [if_neg (show t∉(wo n K T c).T from q)]
    show(decide _&&((cy n K.length T.length c).getD _ 0).testBit x)=k9
    by_cases e:x=y
    ·rw [vw,decide_eq_false (λl=>z ⟨e,l⟩),Ae7,Ah7,Ah7]
    ·rw [decide_eq_false e,Ae7]
   rw [b,b]
def Lr (g:bD n K T) (sub:Sub low high)(wf:s.wf (K++T)) (h:Td (wo n K T low) (wo n K T high) s y0):f9 n K T low high s≠0:=λz=>by
 refine Td.nm s y0 h (λt b=>Er g (JO s wf t b) λi x y d=> ?_) rfl
 have c:=(pS s i).mpr ⟨_,d,b⟩
 have e:=sI (n:=n) (K:=K) (T:=T) low high s i
 rw [z,Af9,c,Ae1]at e
 cases q:high.testBit i with
 | true=>
  rw [q,Ae1]at e
  cases a:low.testBit i with
  | true=>rfl
  | false=>rw [a]at e;cases e
 | false=>
  cases a:low.testBit i with
  | false=>rfl
  | true=>rw [sub i a]at q;cases q
def oc (n:Nat) (K T:List Tx) (b a:Nat):Nat:=((Aa5 (bN n K T)).filter λi=>a.testBit i&& !b.testBit i).length
def Eu (a:i<bN n K T) (h:high.testBit i=u0) (l:low.testBit i=k9):oc n K T (low ||| 2 ^ i) high<oc n K T low high:=by
 refine mu (λj _ z=> ?_) ⟨i,Ab8.mpr a,by rw [h,l];rfl,by rw [Ae8,Ak0,Bool.or_true,Ao3,Ah7]⟩
 rw [Ae8,Bool.not_or,Aa0,Aa0]at z
 rw [z.1,z.2.1];rfl
def FV (a:i<bN n K T) (h:high.testBit i=u0) (l:low.testBit i=k9):oc n K T low (high-(high &&& 2 ^ i))<oc n K T low high:=by
 refine mu (λj _ z=> ?_) ⟨i,Ab8.mpr a,by rw [h,l];rfl,by rw [Wf.aQ,Ak0,Ao3,Ah7,Ae7]⟩
 rw [Wf.aQ,Aa0,Aa0]at z
 rw [z.1.1,z.2];rfl
def yR:oc n K T low high<=bN n K T:=by
 have:=Aj0 (λi=>high.testBit i&& !low.testBit i) (Aa5 (bN n K T))
 rw [Ah0]at this
 exact this
end
abbrev xB:Tx:= [119,111,114,108,100]
abbrev xc:Tx:= [112,97,112,101,114]
structure GP (n:Nat) (K T:List Tx) (S:List Sy) (q d:Nat) (p:D) (low high:Nat):Prop where
 pp:Pp n K T S p
 dp:dep p<=d
 wk:Lw n K T S (d+q+12) p low high
 sh: ∀m ro (h':AH),d+q+12<=m->h'[ro]? =some (.obj "Cases" (b0 n K T S))->call prog m "Cases.is_shown" [.r ro,.v p,.i low,.i high] h'= .ok (.b true) h'
section
variable {n q:Nat}{K T:List Tx}{S:List Sy}{d low high:Nat}{p:D}
theorem GP.up (h:GP n K T S q d p low high) (l:d<=d'):GP n K T S q d' p low high:=⟨h.pp,Ab5 h.dp l,h.wk.up (by omega),λm b a c C=>h.sh m b a (by omega) C⟩
theorem GP.brk (g:bD n K T) (i:low<2 ^ bN n K T) (h:high<2 ^ bN n K T) (c: ∀s∈S,s.wf (K++T)/\s.dp<=q)(a:S[j]? =k0 s) (f:Td (wo n K T low) (wo n K T high) s (k0 k9)) (o:1<=d):GP n K T S q d (.tup [.str Jz,.n j]) low high:=⟨.brk (Aa1.mp a).1,by simp;omega,(Lw.brk c a f).up (by omega),λm l r p C=>by
 obtain⟨wf,dp⟩:=c s (Ac3 a)
 obtain⟨k,rfl⟩:=nk m 3 (by omega)
 obtain⟨t,b,e⟩:=QL (k+1) j low high g C i h a (by omega) wf
 rw [b.uniq f]at e
 exact tP k C (Aa1.mp a).1 e⟩
theorem GP.dE (g:bD n K T)(c:(bP n K T)[i]? =k0 (t,x,y)) (f:high.testBit i=u0) (h:low.testBit i=k9) (b:GP n K T S q d p1 (low ||| 2 ^ i) high) (a:GP n K T S q d p2 low (high-(high &&& 2 ^ i))):GP n K T S q (d+1) (.tup [.str Qi,.str t,.n x,.n y,p1,p2]) low high:=⟨.dE c b.pp a.pp,by
 have:=b.dp
 have:=a.dp
 simp only [dep,GF]
 omega,(Lw.dE g c f h (by omega) b.wk a.wk).up (by omega),λm j e l C=>by
 obtain⟨k,rfl⟩:=nk m 3 (by omega)
 have:=rm (k+1) C (uw k g C c) (b.sh _ j e (by omega) C) (a.sh _ j e (by omega) C)
 rwa [decide_eq_false λz=>(pE i).mp z ⟨f,h⟩]at this⟩
def gp (n:Nat) (K T:List Tx) (S:List Sy) (q d e b:Nat) (a:D):Prop:=(∃ c,Sub e c/\Sub c b/\c<2 ^ bN n K T/\a= .tup [.str xB,(wo n K T c).aD]/\ ∀s∈S,Td (wo n K T c) (wo n K T c) s (k0 u0))\/ ∃p,a= .tup [.str xc,p]/\GP n K T S q d p e b
noncomputable abbrev cC (c:Nat) (d:List Nat) (b a:Nat) (l:List Nat) (x y:Option W):Sl:= [k0 (.r c),k0 (.bor (ar d)),si b,si a,k0 (.own (ar l)),x,y]
theorem nH (g:bD n K T) (C: ∀s∈S,s.wf (K++T)/\s.dp<=q) (N:low<2 ^ bN n K T) (A:high<2 ^ bN n K T)(t:Se n K T S rs rc H) (Q:q+10<=m): ∀ O L x y,(∀ j∈O,j<S.length)->L.length+O.length<=1000 →
 (∃ j s,S[j]? =k0 s/\Td (wo n K T low) (wo n K T high) s (k0 k9)/\Gq (Gp [5] u0) (λτ h=>execs (u9 m) ja τ h) (ar O) (cC rs j0 low high L x y) H= .ret (.t [.str xc,.tup [.str Jz,.n (j)]]) H) ∨
 ∃ M W V,(∀ j∈M,∃s,S[j]? =k0 s/\Td (wo n K T low) (wo n K T high) s y0)/\(∀ j∈O,j∉M-> ∃s,S[j]? =k0 s/\Td (wo n K T low) (wo n K T high) s (k0 u0))/\M.length<=O.length/\Gq (Gp [5] u0) (λτ h=>execs (u9 m) ja τ h) (ar O) (cC rs j0 low high L x y) H= .next (cC rs j0 low high (L++M) W V) H
 | [],L,x,y,_,_=> .inr ⟨[],x,y,λ_ h=>absurd h Ai4,λ_ h=>absurd h Ai4,Aa9 _,by rw [Af0];rfl⟩
 | j::O,L,x,y,G,Y=>by
  rw [Aa6]at Y
  have jl:=G j Aa4
  obtain⟨s,p⟩: ∃s,S[j]? =k0 s:=⟨S[j],Aa7 jl⟩
  obtain⟨wf,dp⟩:=C s (Ac3 p)
  obtain⟨k,rfl⟩:=nk m 1 (by omega)
  obtain⟨o,D,e1⟩:=QL k j low high g t.cs N A p (by omega) wf
  have U:=wj (F:=(u9 (k+1))) (τ:=cC rs j0 low high L (si j) y) (i:=0) (f:= "cases") t.se rfl rfl
  have tr:eval (u9 (k+1)) (.bL (.aG .v0 "Search" "cases") "Cases" "truth" "Cases.truth" (.c .v5 .v2 .v3)) (cC rs j0 low high L (si j) y) H= .ok (.v (aH o)) H:=by
   generalize E.aG _ _ _=X at U ⊢
   rw [eval,U,R.ae]
   simp only [Zo t.cs]
   rw [if_pos ⟨trivial,rfl⟩]
   simp_all [e1]
  have B: ∀X,execs (u9 (k+1)) (.cons (.af 6 (.bL (.aG .v0 "Search" "cases") "Cases" "truth" "Cases.truth" (.c .v5 .v2 .v3))) X) (cC rs j0 low high L (si j) y) H=execs (u9 (k+1)) X (cC rs j0 low high L (si j) (sv (aH o))) H:=fun X=>by
   generalize E.bL _ _ _ _ _=Z at tr ⊢
   rw [za (τ1:=cC rs j0 low high L (si j) (sv (aH o))) (h1:=H) (by simp_all [tr])]
  have i1:=kl o k9 H
  have J:Gm (u9 (k+1)) (.cmp .cN .v6 (.bl k9)) (cC rs j0 low high L (si j) (sv (aH o))) H= .ok (o==k0 k9) H:=by simp_all [i1]
  have v: ∀ c,c.length+O.length<=1000->execs (u9 (k+1)) ja (cC rs j0 low high L (si j) y) H= .next (cC rs j0 low high c (si j) (sv (aH o))) H->Gq (Gp [5] u0) (λτ h=>execs (u9 (k+1)) ja τ h) (ar (j::O)) (cC rs j0 low high L x y) H=Gq (Gp [5] u0) (λτ h=>execs (u9 (k+1)) ja τ h) (ar O) (cC rs j0 low high c (si j) (sv (aH o))) H:=λc _ e=>by
   rw [ar,Ab1,jb (τ1:=cC rs j0 low high L (si j) y) rfl e]
  rcases o with _ | _ | _
  ·have b:execs (u9 (k+1)) ja (cC rs j0 low high L (si j) y) H= .next (cC rs j0 low high (L++ [j]) (si j) (sv (aH y0))) H:=by
    unfold ja
    rw [B,xa J]
    rw [za (τ1:=cC rs j0 low high (L++ [j]) (si j) (sv (aH y0))) (h1:=H) ((Wt (h1:=H) (by simp_all [aH,aq,An9])).trans ?_),execs]
    have lL:(ar L).length<bh:=by rw [Gg,Aa];omega
    rw [za (τ1:=cC rs j0 low high (L++ [j]) (si j) (sv (aH y0))) (h1:=H) (by
     simp_all [lL,if_true]
     simp only [cC,J7]),execs]
   rcases nH (j0:=j0) g C N A t Q O (L++ [j]) (si j) (sv (aH y0)) (λi a=>G i (Aa2 _ a)) (by rw [Aa8];simp;omega)with⟨I,P,d,l,r⟩ | ⟨M,W,V,d,l,r,w⟩
   ·exact .inl ⟨I,P,d,l,(v _ (by rw [Aa8];simp;omega) b).trans r⟩
   ·refine .inr ⟨j::M,W,V,λi a=> ?_,λi a u=> ?_,by rw [Aa6,Aa6];omega,?_⟩
    ·rcases Ac.mp a with rfl | a
     ·exact⟨s,p,D⟩
     ·exact d i a
    ·rcases Ac.mp a with rfl | a
     ·exact absurd Aa4 u
     ·exact l i a λz=>u (Aa2 _ z)
    ·rw [v _ (by rw [Aa8];simp;omega) b,w,Ae6]
     rfl
  ·refine .inl ⟨j,s,p,D,?_⟩
   rw [ar,Ab1,Gq,show Gp [5] u0 (.n j) (cC rs j0 low high L x y)=k0 (cC rs j0 low high L (si j) y)from rfl]
   have b:execs (u9 (k+1)) ja (cC rs j0 low high L (si j) y) H= .ret (.t [.str xc,.tup [.str Jz,.n j]]) H:=by
    unfold ja
    rw [B]
    exact je J (Xa rfl (by simp_all []))
   simp only [b]
  ·have b:execs (u9 (k+1)) ja (cC rs j0 low high L (si j) y) H= .next (cC rs j0 low high L (si j) (sv (aH (k0 u0)))) H:=by
    unfold ja
    rw [B,xa J,xa (by simp_all [aH,aq]),execs]
   rcases nH (j0:=j0) g C N A t Q O L (si j) (sv (aH (k0 u0))) (λi a=>G i (Aa2 _ a)) (by omega)with⟨I,P,d,l,r⟩ | ⟨M,W,V,d,l,r,w⟩
   ·exact .inl ⟨I,P,d,l,(v _ (by omega) b).trans r⟩
   ·refine .inr ⟨M,W,V,d,λi a u=> ?_,by rw [Aa6];omega,(v _ (by omega) b).trans w⟩
    rcases Ac.mp a with rfl | a
    ·exact⟨s,p,D⟩
    ·exact l i a u
end
def tm (e:eval F a τ h= .ok (.r r) h) (b:h[r]? =k0 (.obj c fs)) (f:(fs.lookup m).isNone=u0) (d:Gd F es τ h= .ok ws h):eval F (.bL a c m q es) τ h=F.call q (.r r::ws.map W.arg) h:=by
 rw [eval,e,R.ae]
 simp only [Zo b]
 rw [if_pos ⟨trivial,f⟩,d,R.ae]
def tE (e:eval F a τ h= .ok (.r r) h) (b:h[r]? =k0 (.obj c fs)) (g:fs.lookup f=k0 d):eval F (.aG a c f) τ h= .ok (.v d) h:=by
 rw [eval,e,R.ae]
 simp only [Zo b]
 rw [if_pos trivial,g]
 rfl
def tK (l) (h):Gr .eq (.bor (ar l)) (.own []) h=k0 (l== []):=by
 cases l with
 | nil=>rfl
 | cons x a=>
  show(if GZ _ ((W.own []).dd h)then k0 (cu _ _)else y0)=_
  rw [W.ic,W.hO,GL (mP (x::a))]
  have e:GZ (.lst (ar (x::a))) (.lst (GU h []))=true:=by
   have:=Dy (x::a)
   have:=mP (x::a)
   simp only [GU,decide_eq_true_eq]
   lia
  rw [if_pos e]
  rfl
section
variable {n q:Nat}{K T:List Tx}{S:List Sy}{low high:Nat}
def Tr (n:Nat) (K T:List Tx) (S:List Sy) (b a j:Nat):Prop:= ∃s,S[j]? =k0 s/\Td (wo n K T b) (wo n K T a) s (k0 u0)
theorem Tr.mono (g:bD n K T) (b: ∀s∈S,s.wf (K++T)/\s.dp<=q)(h:Tr n K T S low high j) (c:Sub low low') (k:Sub high' high) (i:Sub low' high') (f:low'<2 ^ bN n K T) (d:high'<2 ^ bN n K T):Tr n K T S low' high' j:=by
 obtain⟨s,e,t⟩:=h
 obtain⟨wf,dp⟩:=b s (Ac3 e)
 obtain⟨r,a,_⟩:=QL _ j low' high' (ro:=0) (h:= [Cell.obj "Cases" _]) g rfl f d e (Nat.le_refl _) wf
 have:=Td.mono (kF c) (kF k) (kF i) s _ _ u0 t a rfl
 exact⟨s,e,this▸a⟩
def Sub.d7 (a):Sub a a:=λ_ h=>h
def Sub.tr (h:Sub a b) (k:Sub b c):Sub a c:=λi z=>k i (h i z)
def gp.of (e:Sub low low') (i:Sub high' high) (h: ∃c,Sub low' c/\Sub c high'/\c<2 ^ bN n K T/\a= .tup [.str xB,(wo n K T c).aD]/\ ∀s∈S,Td (wo n K T c) (wo n K T c) s (k0 u0)):gp n K T S q d low high a:=by
 obtain⟨c,f,g,b⟩:=h
 exact .inl ⟨c,e.tr f,g.tr i,b⟩
def Fe (w:Wo):Gf w.aD=true:=by simp [Wo.aD,mP,Bool.and_self]
def vL (a b):Sub a (a ||| b):=λk z=>by rw [Ae8,z];rfl
def sX (a b):Sub (a-(a &&& b)) a:=λk z=>by
 rw [Wf.aQ,Aa0]at z
 exact z.1
def Di (h:a.testBit i=u0):Sub (2 ^ i) a:=λk z=>by
 rw [Ad7]at z
 rw [← of_decide_eq_true z]
 exact h
def um (i:Nat) (h:i<=1000):Gi .shl (1:Int) (i:Int)=k0 ((2 ^ i:Nat):Int):=by
 have:=WQ 1 i (by decide) (by lia)
 rwa [Nat.one_mul]at this
noncomputable abbrev fj (c:Nat) (d:List Nat) (b a i:Nat) (y z u v w:Option W):Sl:= [k0 (.r c),k0 (.bor (ar d)),si b,si a,si i,si (2 ^ i),y,z,u,v,w]
def sg (g:bD n K T) (L: ∀s∈S,s.wf (K++T)/\s.dp<=q)(v:Se n K T S rs rc H)(IH: ∀(u r:Nat) (l:List Nat),oc n K T u r<oc n K T low high->Sub u r->u<2 ^ bN n K T->r<2 ^ bN n K T->(∀ j∈l,j<S.length)->l.length<=500->(∀ j,j<S.length->j∉l->Tr n K T S u r j)-> ∃a,Gf a=true/\gp n K T S q k u r a/\call prog (m+2) "Search.told_of_case" [.r rs,.bor (ar l),.i u,.i r] H= .ok (.v a) H) (hk:k<90) (sub:Sub low high) (A:low<2 ^ bN n K T) (M:high<2 ^ bN n K T) (w: ∀j∈js,j<S.length) (l5:js.length<=500) (tr: ∀j,j<S.length->j∉js->Tr n K T S low high j) (hm:k+q+18<=m): ∃a,Gf a=true/\gp n K T S q (k+1) low high a/\call prog (m+4) "Search.told_of_case" [.r rs,.bor (ar js),.i low,.i high] H= .ok (.v a) H:=by
 have run:=λ(a:D) (e:execs (u9 (m+3)) aK.body [k0 (.r rs),k0 (.bor (ar js)),si low,si high,y0,y0,y0] H= .ret (.v a) H)=>(show call prog (m+4) "Search.told_of_case" [.r rs,.bor (ar js),.i low,.i high] H= .ok (.v a) H from by
  rw [Gb (d:=aK) rfl _ _ _ rfl]
  show Gv _ (execs _ _ [k0 (.r rs),k0 (.bor (ar js)),si low,si high,y0,y0,y0] H)=_
  rw [e,Ga _ _ _ rfl])
 simp only [aK]at run
 have st: ∀X,execs (u9 (m+3)) (.cons (.set 4 (.lst .nil)) (.cons (.for [5] u0 (.seq .v1) ja) X)) [k0 (.r rs),k0 (.bor (ar js)),si low,si high,y0,y0,y0] H=(Gq (Gp [5] u0) (λτ h=>execs (u9 (m+3)) ja τ h) (ar js) (cC rs js low high [] y0 y0) H).seq λτ h=>execs (u9 (m+3)) X τ h:=λX=>by
  rw [za (τ1:=cC rs js low high [] y0 y0) (h1:=H) (by simp_all [];rfl),execs,exec,show Gs (u9 (m+3)) (.seq .v1) (cC rs js low high [] y0 y0) H= .ok (ar js) H by simp_all [],R.au]
 rcases nH (j0:=js) g L A M v (m:=m+3) (by omega) js [] y0 y0 w (by simp;omega)with⟨j,s,h1,h2,h3⟩ | ⟨l,x',y',h1,h2,h3,h4⟩
 ·refine⟨_,by simp,.inr ⟨_,rfl,GP.brk g A M L h1 h2 (by omega)⟩,run _ ?_⟩
  rw [st,h3,O.cE]
 rw [Ae2]at h4
 have J: ∀j,j<S.length->j∉l->Tr n K T S low high j:=λj w U=>by
  by_cases G:j∈js
  ·exact h2 j G U
  ·exact tr j w G
 by_cases nil:l= []
 ·subst nil
  refine⟨_,by simp [Fe],.inl ⟨low,Sub.d7 low,sub,A,rfl,λs hs=> ?_⟩,run _ ?_⟩
  ·obtain⟨j,w,rfl⟩:=Al5 hs
   obtain⟨s,e,t⟩:=(J j w Ai4).mono g L (Sub.d7 low) sub (Sub.d7 low) A A
   rw [Aa7 w]at e
   injection e with e
   rw [e]
   exact t
  ·rw [st,h4,O.bM]
   have f1:=wj (F:=(u9 (m+3))) (τ:=cC rs js low high [] x' y') (i:=0) (f:= "cases") v.se rfl rfl
   have f2:=tm (m:= "world_of_code") (q:= "Cases.world_of_code") (es:= .cons .v2 .nil) (ws:= [.i low]) f1 v.cs rfl (by simp_all [])
   have V:=X9 (m-3) low g v.cs A
   rw [show m-3+6=m+3 by omega]at V
   have V:=f2.trans V
   generalize E.bL _ _ _ _ _=X at V ⊢
   exact je (by simp_all [show Gr .eq (.bor []) (.own []) H=k0 u0 from tK [] H,aq]) (Xa rfl (by simp_all [V]))
 have Q: ∀j∈l,j<S.length:=λj w=>by
  obtain⟨s,e,_⟩:=h1 j w
  exact(Aa1.mp e).1
 have op: ∀j∈l,∃s,S[j]? =k0 s/\f9 n K T low high s≠0:=λj w=>by
  obtain⟨s,e,t⟩:=h1 j w
  exact⟨s,e,Lr g sub (L s (Ac3 e)).1 t⟩
 have l5':l.length<=500:=by omega
 obtain⟨i,G,hb,lb,ec⟩:=Iz m g v M nil (by omega) op
 have b6:bN n K T<=9:=g.b6
 have C:2 ^ i<2 ^ bN n K T:=An7 (by decide) G
 have hl1:low ||| 2 ^ i<2 ^ bN n K T:=Ak7 A C
 have P:high-(high &&& 2 ^ i)<2 ^ bN n K T:=Ah6 (Ao6 _ _) M
 have su1:Sub (low ||| 2 ^ i) high:=rL sub (Di hb)
 have su2:Sub low (high-(high &&& 2 ^ i)):=pY sub lb
 obtain⟨a1,n1,A1,c1⟩:=IH (low ||| 2 ^ i) high l (Eu G hb lb) su1 hl1 M Q l5' λj w U=>(J j w U).mono g L (vL _ _) (Sub.d7 _) su1 hl1 M
 obtain⟨a2,n2,A2,c2⟩:=IH low (high-(high &&& 2 ^ i)) l (FV G hb lb) su2 A P Q l5' λj w U=>(J j w U).mono g L (Sub.d7 _) (sX _ _) su2 A P
 have I: ∀a,call prog (m+3) "Search.told_of_halves" [.r rs,.bor (ar l),.i low,.i high] H= .ok (.v a) H->call prog (m+4) "Search.told_of_case" [.r rs,.bor (ar js),.i low,.i high] H= .ok (.v a) H:=fun a e=>run a (by
  rw [st,h4,O.bM]
  rw [xa (by simp_all [tK,beq_eq_false_iff_ne.mpr nil,aq])]
  have f1:=QF (F:=(u9 (m+3))) (τ:=cC rs js low high l x' y') (i:=0) (m:= "told_of_halves") (q:= "Search.told_of_halves") (es:= .cons .v4 (.b .v2 .v3)) (ws:= [.bor (ar l),.i low,.i high]) v.se rfl rfl (by simp_all [])
  have f2:=f1.trans e
  exact qa (Xa rfl f2))
 have o:=λ(a:D) (e:execs (u9 (m+2)) aE.body [k0 (.r rs),k0 (.bor (ar l)),si low,si high,y0,y0,y0,y0,y0,y0,y0] H= .ret (.v a) H)=>I a (show call prog (m+3) "Search.told_of_halves" [.r rs,.bor (ar l),.i low,.i high] H= .ok (.v a) H from by
  rw [Gb (d:=aE) rfl _ _ _ rfl]
  show Gv _ (execs _ _ [k0 (.r rs),k0 (.bor (ar l)),si low,si high,y0,y0,y0,y0,y0,y0,y0] H)=_
  rw [e,Ga _ _ _ rfl])
 clear run I st h4
 simp only [aE]at o
 have g1:eval (u9 (m+2)) (.bL .v0 "Search" "chosen_place" "Search.chosen_place" (.c .v1 .v2 .v3)) [some (.r rs),some (.bor (ar l)),si low,si high,none,none,none,none,none,none,none] H= .ok (.i i) H:=(QF (ws:= [.bor (ar l),.i low,.i high]) v.se rfl rfl (by simp_all [])).trans ec
 have g2:eval (u9 (m+2)) (.bL .v0 "Search" "told_of_case" "Search.told_of_case" (.c .v1 (.bin .bor .v2 .v5) .v3)) (fj rs l low high i none none none none none) H= .ok (.v a1) H:=(QF (ws:= [.bor (ar l),.i (low ||| 2 ^ i),.i high]) v.se rfl rfl (by simp_all [Zm,Zl,aq])).trans c1
 have g3:eval (u9 (m+2)) (.bL .v0 "Search" "told_of_case" "Search.told_of_case" (.c .v1 .v2 (.bin .band .v3 (.inv .v5)))) (fj rs l low high i (sv a1) none none none none) H= .ok (.v a2) H:=(QF (ws:= [.bor (ar l),.i low,.i (high-(high &&& 2 ^ i))]) v.se rfl rfl (by simp_all [jc,jI,aq])).trans c2
 generalize E.bL _ _ _ _ _=X1 at g1 o
 generalize E.bL _ _ _ _ _=X2 at g2 o
 generalize E.bL _ _ _ _ _=X3 at g3 o
 have B: ∀X,execs (u9 (m+2)) (.cons (.af 4 X1) (.cons (.af 5 (.bin .shl (.int 1) .v4)) (.cons (.af 6 X2) X))) [k0 (.r rs),k0 (.bor (ar l)),si low,si high,y0,y0,y0,y0,y0,y0,y0] H=execs (u9 (m+2)) X (fj rs l low high i (sv a1) y0 y0 y0 y0) H:=λX=>by
  have e1:=um i (by omega)
  rw [za (τ1:= [k0 (.r rs),k0 (.bor (ar l)),si low,si high,si i,y0,y0,y0,y0,y0,y0]) (h1:=H) (by simp_all [g1]),
   za (τ1:=fj rs l low high i y0 y0 y0 y0 y0) (h1:=H) (by simp_all [e1,aq]),za (τ1:=fj rs l low high i (sv a1) y0 y0 y0 y0) (h1:=H) (by simp_all [g2])]
 rcases A1 with W | ⟨z,rfl,N⟩
 ·refine⟨a1,n1,gp.of (vL _ _) (Sub.d7 _) W,o _ ?_⟩
  obtain⟨c,_,_,_,rfl,_⟩:=W
  rw [B]
  generalize E.bL _ _ _ _ _=Y
  exact je (by simp_all [ab,we,Ja,aq];rfl) rfl
 obtain⟨b,Wb,Wl⟩:=walk g L N.pp k N.dp low high A M
 have e1:=Wb (m+2) rc H (by omega) v.cs
 have g4:eval (u9 (m+2)) (.bL (.aG .v0 "Search" "cases") "Cases" "is_shown" "Cases.is_shown" (.c (.ix .v6 (.int 1)) .v2 .v3)) (fj rs l low high i (some (.t [.str xc,z])) none none none none) H= .ok (.b b) H:=(tm (ws:= [.v z,.i low,.i high]) (wj v.se rfl rfl) v.cs rfl (by simp_all [ab,show aV [D.str xc,z] 1=some z from rfl,aq])).trans e1
 generalize E.bL _ _ _ _ _=Y at g4 o
 have tt:Gm (u9 (m+2)) (.or (.cmp .eq (.ix .v6 (.int 0)) (.str g6)) Y) (fj rs l low high i (k0 (.t [.str xc,z])) y0 y0 y0 y0) H= .ok b H:=by
  simp_all [ab,we,Ja,aq,show(xc== g6)=k9 from rfl,g4]
 cases b with
 | true=>
  refine⟨_,n1,.inr ⟨z,rfl,GP.up ⟨N.pp,N.dp,Wl rfl,Wb⟩ (Ag6 k)⟩,o _ ?_⟩
  rw [B]
  exact je tt rfl
 | false=>
  rcases A2 with W | ⟨C,rfl,P2⟩
  ·refine⟨a2,n2,gp.of (Sub.d7 _) (sX _ _) W,o _ ?_⟩
   obtain⟨c,_,_,_,rfl,_⟩:=W
   rw [B,xa tt,za (τ1:=fj rs l low high i (k0 (.t [.str xc,z])) (k0 (.t [.str xB,(wo n K T c).aD])) y0 y0 y0) (h1:=H) (by simp_all [g3])]
   exact je (by simp_all [ab,we,Ja,aq];rfl) rfl
  ·obtain⟨⟨t,x,y⟩,hp⟩: ∃p,(bP n K T)[i]? =k0 p:=⟨_,Aa7 (by rw [WD];exact G)⟩
   refine⟨.tup [.str xc,.tup [.str Qi,.str t,.n x,.n y,z,C]],by simp [N.pp.nr,P2.pp.nr],.inr ⟨_,rfl,GP.dE g hp hb lb N P2⟩,o _ ?_⟩
   have at1:aV ((bP n K T).map bK) (i:Int)=k0 (.tup [.str t,.n x,.n y]):=by
    rw [Qg _ _ (by rw [Aa,WD];exact G),Ac2,hp]
    rfl
   have g5:eval (u9 (m+2)) (.aG (.aG .v0 "Search" "cases") "Cases" "places") (fj rs l low high i (some (.t [.str xc,z])) (some (.t [.str xc,C])) none none none) H= .ok (.l ((bP n K T).map bK)) H:=tE (wj v.se rfl rfl) v.cs rfl
   generalize E.aG _ _ _=Z at g5 ⊢
   rw [B,xa tt,za (τ1:=fj rs l low high i (k0 (.t [.str xc,z])) (k0 (.t [.str xc,C])) y0 y0 y0) (h1:=H) (by simp_all [g3]),xa (by simp_all [ab,we,Ja,aq,show(xc== g6)=k9 from rfl])]
   rw [za (τ1:=fj rs l low high i (k0 (.t [.str xc,z])) (k0 (.t [.str xc,C])) (k0 (.s t)) (si x) (si y)) (h1:=H) (by simp_all [g5,Qp,at1,aq])]
   exact qa (Xa rfl (by simp_all [ab,show aV [D.str xc,z] 1=k0 z from rfl,show aV [D.str xc,C] 1=k0 C from rfl,aq]))
theorem vk (g:bD n K T) (l: ∀s∈S,s.wf (K++T)/\s.dp<=q)(o:Se n K T S rs rc H): ∀ k low high m i,oc n K T low high<=k->k<80->Sub low high->low<2 ^ bN n K T->high<2 ^ bN n K T->(∀ j∈i,j<S.length)->i.length<=500->(∀ j,j<S.length->j∉i->Tr n K T S low high j)->2*k+q+22<=m-> ∃a,Gf a=u0/\gp n K T S q (k+1) low high a/\call prog m "Search.told_of_case" [.r rs,.bor (ar i),.i low,.i high] H= .ok (.v a) H
 | 0,low,high,m,i,y,u,sub,r,f,p,h,tr,w=>by
  obtain⟨m,rfl⟩: ∃x,m=x+4:=⟨m-4,by omega⟩
  exact sg g l o (λ_ _ _ z=>absurd z (by omega)) (by omega) sub r f p h tr (by omega)
 | k+1,low,high,m,i,y,u,sub,r,f,p,h,tr,w=>by
  obtain⟨m,rfl⟩: ∃x,m=x+4:=⟨m-4,by omega⟩
  exact sg g l o (λv A t z B a b c d e=>vk g l o k v A (m+2) t (by omega) (by omega) B a b c d e (by omega)) (by omega) sub r f p h tr (by omega)
end
section
variable {n q:Nat}{K T:List Tx}{S:List Sy}
def C0 (h:w<2 ^ b):Sub w (2 ^ b-1):=λk z=>by
 rw [Ag1,decide_eq_true_eq]
 refine Nat.lt_of_not_le λl=> ?_
 rw [Ai8 (Ab4 h (Ad (by decide) l))]at z
 cases z
def uj (w):Sub 0 w:=λk z=>by rw [Af9]at z;cases z
def Ee (g:bD n K T) (f: ∀s∈S,s.wf (K++T)/\s.dp<=q) (t:S.length<=100)(b:Se n K T S rs rc H) (r:q+40<=m): ∃a,Gf a=u0/\gp n K T S q 10 0 (2 ^ bN n K T-1) a/\call prog (m+1) "Search.told_of_sayings" [.r rs,.bor (ar (List.range S.length))] H= .ok (.v a) H:=by
 have k:bN n K T<=9:=g.b6
 have h:=Ac9 (bN n K T)
 obtain⟨a,p,A,e⟩:=vk g f b 9 0 (2 ^ bN n K T-1) m (Aa5 S.length) (Ab5 yR k) (by decide) (uj _) h (by omega) (λj c=>Ab8.mp c) (by rw [Ah0];omega) (λj c o=>absurd (Ab8.mpr c) o) (by omega)
 refine⟨a,p,A,?_⟩
 rw [Gb rfl _ _ _ rfl]
 show Gv _ (execs _ _ [k0 (.r rs),k0 (.bor (ar (Aa5 S.length)))] H)=_
 simp only [jg]
 have d:eval (u9 m) (.aG (.aG .v0 "Search" "cases") "Cases" "whole") [some (.r rs),some (.bor (ar (List.range S.length)))] H= .ok (.i (2 ^ bN n K T-1)) H:=tE (wj b.se rfl rfl) b.cs rfl
 generalize E.aG _ _ _=Z at d ⊢
 have l:=QF (F:=(u9 m)) (τ:= [k0 (.r rs),k0 (.bor (ar (List.range S.length)))]) (i:=0) (m:= "told_of_case") (q:= "Search.told_of_case") (es:= .cons .v1 (.cons (.int 0) (.cons Z .nil))) (ws:= [.bor (ar (List.range S.length)),.i (0),.i (2 ^ bN n K T-1)]) b.se rfl rfl (by simp_all [d];rfl)
 rw [qa (Xa rfl (l.trans e)),Ga _ _ _ rfl]
def F8 (p:Gx h=u0) (a:Gx h'=u0):Gx (h++h')=true:=by
 rw [Gx,List.all_append,show h.all Cell.pure=u0 from p,show h'.all Cell.pure=u0 from a]
 rfl
def J4 (a:Gf d=u0) (b:Gx h=u0):Gv h.length (.ret (.v d) (h++h'))= .ok (.v d) h:=by
 have e:(h++h').take h.length=h:=List.take_left' rfl
 obtain⟨x,e1,e2⟩:=mV (n:=h.length) (h:=h++h') a (by simp) (by rw [e];exact b)
 rw [e1,e2,e]
def BL (g:bD n K T) (b: ∀s∈S,s.wf (K++T)/\s.dp<=q) (e:S.length<=100) (l:q<=14)(i:Gx h=u0) (t:q+41<=m): ∃a,Gf a=u0/\gp n K T S q 10 0 (2 ^ bN n K T-1) a/\call prog (m+1) "found" [.v (ba K T S),.i n] h= .ok (.v a) h:=by
 obtain⟨k,rfl⟩:=nk m 5 (by omega)
 have e1:=XE k g h
 have e2:=HS (k+4) g b e (by omega) l h
 have c:Se n K T S h.length (h.length+1) (h++ [.obj "Search" (el n K T S (h.length+1)),.obj "Cases" (b0 n K T S)]):=⟨by simp,by simp⟩
 obtain⟨a,f,A,r⟩:=Ee g b e (m:=k+4) c (by omega)
 refine⟨a,f,A,?_⟩
 rw [Gb (d:=Q5) rfl _ _ _ rfl]
 show Gv _ (execs _ _ [sv (ba K T S),si n] h)=_
 simp only [Q5]
 rw [za (τ1:= [sv (ba K T S),si n]) (h1:=h) (by simp_all [ab,zf,aq,show List.lookup "MOST_BITS" prog.con=some (.int 16)from rfl,e1])]
 have mk:eval (u9 (k+5)) (.make "Search" "Search.__init__" (.b .v0 .v1)) [sv (ba K T S),si n] h= .ok (.r h.length) (h++ [.obj "Search" (el n K T S (h.length+1)),.obj "Cases" (b0 n K T S)]):=by
  simp_all [e2,aq]
 have o:(0:Int)<=(S.length:Int)/\(S.length:Int)<=1000:=by omega
 have p:Gd (u9 (k+5)) (.a (.bY (.bi .len (.a (.ix .v0 (.int 1)))))) [sv (ba K T S),si n] (h++ [.obj "Search" (el n K T S (h.length+1)),.obj "Cases" (b0 n K T S)])= .ok [.own (ar (List.range S.length))] (h++ [.obj "Search" (el n K T S (h.length+1)),.obj "Cases" (b0 n K T S)]):=by
  simp_all [ab,We,aq,Xf,Aa,o,and_self,if_true,Ad4]
 generalize E.make _ _ _=Z at mk ⊢
 have j:eval (u9 (k+5)) (.bL Z "Search" "told_of_sayings" "Search.told_of_sayings" (.a (.bY (.bi .len (.a (.ix .v0 (.int 1))))))) [sv (ba K T S),si n] h= .ok (.v a) (h++ [.obj "Search" (el n K T S (h.length+1)),.obj "Cases" (b0 n K T S)]):=by
  rw [eval,mk,R.ae]
  simp only [Zo c.se]
  rw [if_pos ⟨trivial,rfl⟩,p,R.ae]
  exact r
 rw [qa (Xa rfl j),J4 f i]
end
section
variable {n q:Nat}{K T:List Tx}{S:List Sy}
abbrev fY (K T:List Tx) (n:Nat) (w:D) (b x4 a:Option W):Sl:= [sv (wD K T),si n,sv w,b,x4,a]
theorem vV (a:n<=4) (c:i=0/\e=n\/i=1/\e=n*n): ∀ l x,(∀ y∈l,y<2 ^ e)-> ∃j,Gq (Gp [5] u0) (λτ h=>execs (u9 (m+1)) Xi τ h) (ar l) (fY K T n w (si i) x4 x) h= .next (fY K T n w (si i) x4 j) h
 | [],x,_=>⟨x,rfl⟩
 | y::l,x,f=>by
  obtain⟨j,e2⟩:=vV a c l (si y) λz g=>f z (Aa2 _ g)
  refine⟨j,?_⟩
  have p:=Af1 a a
  rw [ar,Ab1,jb (τ1:=fY K T n w (si i) x4 (si y)) rfl ?_]
  ·exact e2
  have e1:=wx m (.n y) h rfl
  have b:=Qc n n (by omega)
  have k:=um e (by omega)
  have d:eval (u9 (m+1)) (.ix (.lst (.b .v1 (.bin .mul .v1 .v1))) .v3) (fY K T n w (si i) x4 (si y)) h= .ok (.i e) h:=by
   rcases c with⟨rfl,rfl⟩ | ⟨rfl,rfl⟩
   ·simp_all [b,aq]
    rfl
   ·simp_all [b,aq]
    rfl
  have o:Gr .le (.v (.int 0)) (.i y) h=k0 true:=by
   show k0 (y9 (0<= y))=_
   rw [decide_eq_true (by omega)]
  have q:Gr .lt (.i y) (.i (2 ^ e)) h=k0 true:=by
   show k0 (y9 (y<((2 ^ e:Nat):Int)))=_
   rw [decide_eq_true (Int.ofNat_lt.mpr (f y Aa4))]
  unfold Xi
  generalize E.ix _ _=X at d ⊢
  rw [xa (by simp_all [e1,aq,jx,o,d,k,q]),execs]
def tO {m i e:Nat}(o:n<=4) (c:i=0/\e=n\/i=1/\e=n*n) (l) (N:List Tx) (k: ∀y∈l,y<2 ^ e) (f:aV [x,y,z] (1+(i:Int))=k0 (.tup (ar l))) (d:aV [D.tup (K.map .str),.tup (T.map .str)] (i:Int)=k0 (.tup (N.map .str))) (g:l.length=N.length): ∃j L,execs (u9 (m+1)) zj (fY K T n (.tup [x,y,z]) (si i) x4 x5) h= .next (fY K T n (.tup [x,y,z]) (si i) j L) h:=by
 obtain⟨b,e2⟩:=vV (K:=K) (T:=T) (m:=m) (w:= .tup [x,y,z]) (h:=h) o c (x4:=k0 (.t (ar l))) l x5 k
 refine⟨k0 (.t (ar l)),b,?_⟩
 unfold zj
 rw [za (τ1:=fY K T n (.tup [x,y,z]) (si i) (k0 (.t (ar l))) x5) (h1:=h) (by simp_all [Xc,ab,f,aq])]
 rw [xa (by
  have a:b8 .tuple (.t (ar l))=k0 true:=rfl
  have nn:Gr .ne (.i l.length) (.i N.length) h=k0 false:=by
   rw [g]
   show k0 (!(y9 ((N.length:Int)=(N.length:Int))))=_
   rw [decide_eq_true rfl]
   rfl
  simp_all [a,aq,Xf,Aa,ab,d,nn])]
 rw [za (τ1:=fY K T n (.tup [x,y,z]) (si i) (k0 (.t (ar l))) b) (h1:=h) (by
  rw [exec,show Gs (u9 (m+1)) (.seq .v4) (fY K T n (.tup [x,y,z]) (si i) (k0 (.t (ar l))) x5) h= .ok (ar l) h by simp_all [],R.au]
  exact e2),execs]
def LQ (g:bD n K T) (m c) (h):call prog (m+2) "_law_is_world" [.v (wD K T),.i n,.v (wo n K T c).aD] h= .ok (.b true) h:=by
 have ok:=(g.wo c).wl
 obtain⟨k,i,e1⟩:=tO g.n4 (.inl ⟨rfl,rfl⟩) (wo n K T c).ks K ok.bk rfl rfl ok.lk
 obtain⟨a2,j,e2⟩:=tO g.n4 (.inr ⟨rfl,rfl⟩) (wo n K T c).ts T ok.bt rfl rfl ok.lt
 have d:=wx m (.n n) h rfl
 rw [Gb rfl _ _ _ rfl]
 show Gv _ (execs _ _ (fY K T n (.tup [.n n,.tup _,.tup _]) y0 y0 y0) h)=_
 simp only [qv]
 rw [xa (by
  have a:b8 .tuple (.t [.n n,.tup (ar (wo n K T c).ks),.tup (ar (wo n K T c).ts)])=k0 true:=rfl
  have f:Gr .ne (.i (3)) (.v (.int 3)) h=k0 false:=rfl
  have e:Gr .ne (.i n) (.i n) h=k0 false:=by
   show k0 (!(decide _))=_
   rw [decide_eq_true rfl]
   rfl
  simp_all [a,aq,Xf,Aa6,Ae,f,ab,yu,e,d,jx])]
 rw [za (by
  rw [exec,show Gs (u9 _) _ _ h= .ok [.n (0),.n (1)] h by(have b: -(fH)<= 2/\ 2<fH:=by rw [GQ];lia);simp_all [b,and_self,if_true];rfl,R.au]
  rw [jb rfl e1]
  rw [jb rfl e2,ZI])]
 rw [qa rfl,Ga _ _ _ rfl]
def EI (g:bD n K T) (j: ∀s∈S,s.wf (K++T)/\s.dp<=q) (u:S.length<=100)(A:gp n K T S q 10 0 (2 ^ bN n K T-1) a)(e:Gx h=true) (y:q+25<=m):call prog (m+1) "_law_right" [.v (ba K T S),.i n,.v a] h= .ok (.b true) h:=by
 obtain⟨m,rfl⟩: ∃k,m=k+2:=⟨m-2,by omega⟩
 have i: ∀(w:Tx) (p:D) (X:Ss),execs (u9 (m+2)) (.cons (.r (.or (.not (.b8 .v2 .tuple)) (.cmp .ne (.bi .len (.a .v2)) (.int 2))) (.bl k9)) X) [sv (ba K T S),si n,k0 (.t [.str w,p])] h=execs (u9 (m+2)) X [sv (ba K T S),si n,k0 (.t [.str w,p])] h:=λw p X=>by
  have f:b8 .tuple (.t [.str w,p])=k0 true:=rfl
  have v:Gr .ne (.i (2)) (.v (.int 2)) h=k0 false:=rfl
  rw [xa (by simp_all [f,aq,Xf,Aa6,Ae,v])]
 rw [Gb (d:=ww) rfl _ _ _ rfl]
 show Gv _ (execs _ _ [sv (ba K T S),si n,sv a] h)=_
 simp only [ww]
 rcases A with⟨c,_,_,x,rfl,l⟩ | ⟨p,rfl,P⟩
 ·have e1:=LQ g m c h
  obtain⟨b,e2,o⟩:=pL (m+1) c g j u (by omega) h e
  rw [o.mpr l]at e2
  rw [i,je (w:= .b u0) (by simp_all [ab,zf,Ja,aq];rfl) (Xa rfl (by simp_all [ab,zf,We,aq,e1,e2])),Ga _ _ _ rfl]
 ·have e1:=LB m g h
  have t:=P.wk _ _ _ (CO g (r:=h.length) (h:=h++ [.aM (aN (K++T) (fO n T))]) (by simp))
  have e2:=t.mL (F8 e rfl) (m+2) (by omega)
  rw [i,xa (by simp_all [ab,zf,Ja,aq,show(xc== g6)=k9 from rfl])]
  rw [qa (h1:=h++ [.aM (aN (K++T) (fO n T))]) (Xa (d:= .bl u0) rfl (by simp_all [ab,zf,We,Ja,aq,show(xc== fN)=u0 from rfl,e1,e2])),J4 rfl e]
end
section
variable {n q:Nat}{K T:List Tx}{S:List Sy}
def LJ (k) (a:S.length<=12) (h):call prog (k+1) "theory_of" [.v (wD K T),.bor (S.map aP)] h= .ok (.v (ba K T S)) h:=by
 show Gv _ (execs _ _ [sv (wD K T),k0 (.bor (S.map aP))] h)=_
 simp only [xH]
 have c:Gr .gt (.i S.length) (.v (.int 12)) h=k0 false:=by
  show k0 (y9 (12<(S.length:Int)))=_
  rw [decide_eq_false (by omega)]
 rw [xa (by simp_all [Bh,List.length_map,show List.lookup "MOST_SAYINGS" prog.con=some (.int 12)from rfl,c])]
 rw [qa (w:= .v (ba K T S)) (h1:=h) (Xa rfl (by simp_all [JJ,aq])),Ga _ _ _ rfl]
def F0 (m)(g:bD n K T) (P:GP n K T S q 10 p 0 (2 ^ bN n K T-1)) (j:q+22<=m)(d:Gx h=true):call prog (m+1) "holds" [.v (ba K T S),.i n,.v p] h= .ok (.b true) h:=by
 obtain⟨k,rfl⟩:=nk m 5 (by omega)
 have e1:=XE k g h
 have e2:=rM (k+1) (S:=S) g h
 have C:(h++ [Cell.obj "Cases" (b0 n K T S)])[h.length]? =some (.obj "Cases" (b0 n K T S)):=by simp
 have c:=P.sh (k+5) h.length (h++ [Cell.obj "Cases" (b0 n K T S)]) (by omega) C
 rw [Gb rfl _ _ _ rfl]
 show Gv _ (execs _ _ [sv (ba K T S),si n,sv p,y0] h)=_
 simp only [u6]
 have b:prog.con.lookup "MOST_BITS" =some (.int 16):=rfl
 rw [za (τ1:= [sv (ba K T S),si n,sv p,y0]) (h1:=h) (by simp_all [ab,zf,b,aq,e1])]
 rw [za (τ1:= [sv (ba K T S),si n,sv p,k0 (.r h.length)]) (h1:=h++ [Cell.obj "Cases" (b0 n K T S)]) (by simp_all [e2,aq])]
 have a:=wj (F:=(u9 (k+5))) (τ:= [sv (ba K T S),si n,sv p,k0 (.r h.length)]) (i:=3) (f:= "whole") C rfl rfl
 have e:=QF (F:=(u9 (k+5))) (τ:= [sv (ba K T S),si n,sv p,k0 (.r h.length)]) (i:=3) (m:= "is_shown") (q:= "Cases.is_shown") (es:= .cons .v2 (.cons (.int 0) (.cons (.aG .v3 "Cases" "whole") .nil))) (ws:= [.v p,.i (0),.i (2 ^ bN n K T-1)]) C rfl rfl (by
  generalize E.aG _ _ _=X at a ⊢
  simp_all [a]
  rfl)
 rw [qa (w:= .b u0) (h1:=h++ [Cell.obj "Cases" (b0 n K T S)]) (Xa rfl (e.trans c)),J4 rfl d]
end
abbrev dC (sc:D) (c d x4 b x6 x7 e a x10:Option W):Sl:= [sv sc,k0 (.r 0),c,d,x4,b,x6,x7,e,a,x10]
section
variable {n q:Nat}{K T:List Tx}{S:List Sy}
def AR (g:bD n K T) (a b): ∃f,Dc (wo n K T a) (wo n K T b) f 0 [.aM (aN (K++T) f)]:=⟨λt=>((fS n K T a t).1,(fS n K T b t).1),rfl,g.n4,λt c=>(Q8 (r:=0) (h:= [.aM _]) g rfl).lo t c,λt c=>(Q8 (r:=0) (h:= [.aM (aN _ (fS n K T b))]) g rfl).lo t c⟩
def Dz (d: ∀s∈S,s.dp<=9) (h):Gr .ne (.v (ba K T S)) (.v (ba K T S)) h=k0 false:=by
 have g:Gf (ba K T S)=true:=by
  simp only [Gf,Gc,Qo,Xj _ (λs=>(n9 s).1) S,Bool.and_self]
 have k: ∀L:List Sy,(∀ s∈L,s.dp<=9)->GF (L.map aP)<=11:=λL=>by
  induction L with
  | nil=>intro _;simp [GF]
  | cons s L j=>
   intro h
   have:=j λs i=>h s (Aa2 _ i)
   have:=(n9 s).2
   have:=h s Aa4
   rw [Ab1,GF]
   omega
 have f:dep (ba K T S)<150:=by
  have a:=Qy D.str 0 (λ_=>Aa9 _) K
  have b:=Qy D.str 0 (λ_=>Aa9 _) T
  have c:=k S d
  simp only [dep,GF]
  omega
 have e:=Iq _ g f h
 rw [uf]at e
 rw [sW]
 by_cases c:GZ ((W.v (ba K T S)).dd h) ((W.v (ba K T S)).dd h)=u0
 ·rw [if_pos c]at e ⊢
  injection e with e
  rw [e]
  rfl
 ·rw [if_neg c]at e
  cases e
def B2 (g:bD n K T) (L:2 ^ bN n K T<65) (u:Gx H=u0) (B: ∀s∈S,s.wf (K++T)/\s.dp<=9) (N:S.length<=5) (P:GP n K T S 9 10 p 0 (2 ^ bN n K T-1)): ∃y,execs (u9 69) (.cons (.af 9 zT) (.a (.r (.bi .any (.a Q9)) (.bl k9)))) (dC sc (si n) (sv (wD K T)) x4 (sv (ba K T S)) x6 x7 (si (2 ^ bN n K T)) y0 x10) H= .next (dC sc (si n) (sv (wD K T)) x4 (sv (ba K T S)) x6 x7 (si (2 ^ bN n K T)) y x10) H:=by
 have e2:eval (u9 69) zT (dC sc (si n) (sv (wD K T)) x4 (sv (ba K T S)) x6 x7 (si (2 ^ bN n K T)) y0 x10) H= .ok (.own ((Aa5 (2 ^ bN n K T)).map λc=>(wo n K T c).aD)) H:=by
  unfold zT
  exact xo (λc=>(wo n K T c).aD) rfl (by omega) λc M=>⟨.v (wo n K T c).aD,by
   have e:=A7 68 c g H
   simp_all [e],rfl⟩
 refine⟨k0 (.l ((Aa5 (2 ^ bN n K T)).map λc=>(wo n K T c).aD)),?_⟩
 rw [za (τ1:=dC sc (si n) (sv (wD K T)) x4 (sv (ba K T S)) x6 x7 (si (2 ^ bN n K T)) (k0 (.l ((Aa5 (2 ^ bN n K T)).map λc=>(wo n K T c).aD))) x10) (h1:=H) (by simp_all [e2])]
 obtain⟨f,C⟩:=AR g 0 (2 ^ bN n K T-1)
 have a:=(P.wk _ _ _ C).snd
 obtain⟨f,j,q⟩:=qQ (F:=(u9 69)) (k:=1) (aB:= [5]) (it:= .seq .v9) (c:= .bl true) (elt:= .call "_law_keeps" (.b .v1 .v0)) (τ:=dC sc (si n) (sv (wD K T)) x4 (sv (ba K T S)) x6 x7 (si (2 ^ bN n K T)) (some (.l ((List.range (2 ^ bN n K T)).map fun c=>(wo n K T c).aD))) x10) (h:=H) (ds:=(List.range (2 ^ bN n K T)).map fun c=>(wo n K T c).aD) (fun d y=>y= .bl false) (by simp_all []) (by rw [List.length_map,List.length_range];omega) (fun d i=>by
  obtain⟨w,A,rfl⟩:=Ab6.mp i
  obtain⟨b,e,I⟩:=pL 68 w g B (by omega) (by omega) H u
  refine⟨.bl b,by simp_all [e],?_⟩
  cases b with
  | false=>rfl
  | true=>
   obtain⟨G,l,J⟩:=a w (uj w) (C0 (Ab8.mp A))
   cases J _ (I.mp rfl G l))
 obtain⟨bs,r⟩:=oV f _ λd i=>⟨_,q d i⟩
 rw [r]at j
 have t:bs.any id=false:=by
  rw [Aj4]
  intro x v z
  have m:D.bl x∈bs.map D.bl:=Ab6.mpr ⟨x,v,rfl⟩
  rw [← r]at m
  obtain⟨d,i,e⟩:=Ab6.mp m
  rw [q d i]at e
  injection e with e
  rw [← e]at z
  cases z
 have j:eval (u9 69) Q9 (dC sc (si n) (sv (wD K T)) x4 (sv (ba K T S)) x6 x7 (si (2 ^ bN n K T)) (k0 (.l ((Aa5 (2 ^ bN n K T)).map λc=>(wo n K T c).aD))) x10) H= .ok (.own (bs.map .bl)) H:=j
 have o:=xz j
 rw [t]at o
 generalize E.bi _ _=X at o ⊢
 rw [xa (by simp_all [o]),execs]
end
def fy (ns:List Int) (L:ns.length<=63): ∃h',call prog 70 "law" [.v (.lst (ns.map .int))] []= .ok (.b true) h':=by
 suffices v: ∃H,execs (u9 69) dM.body [k0 (.v (.lst (ns.map .int))),y0,y0,y0,y0,y0,y0,y0,y0,y0,y0] []= .ret (.b u0) H by
  obtain⟨H,e⟩:=v
  rw [Gb (d:=dM) rfl _ _ _ rfl]
  show ∃h',Gv 0 (execs _ dM.body [k0 (.v (.lst (ns.map .int))),y0,y0,y0,y0,y0,y0,y0,y0,y0,y0] [])=_
  rw [e]
  obtain⟨h',f1,f2⟩:=mV (d:= .bl u0) (h:=H) (n:=0) rfl (Af3 _) rfl
  exact⟨h',f1⟩
 obtain⟨v0,W⟩:=yy 68 ns L []
 obtain⟨n,K,T,v1,g,e1⟩:=Me 66 (h:= [ai ns 0 v0]) (r:=0) (i:=0) rfl
 have e1:call prog 69 "_law_words" [.r 0] [ai ns 0 v0]= .ok (.t [.n n,wD K T]) [ai ns 0 v1]:=e1
 have n4:=g.n4
 have b9:bN n K T<=9:=g.b6
 have h16:n*n<=16:=Af1 n4 n4
 have m1:Gi .mul (n:Int) (K.length:Int)=k0 ((n*K.length:Nat):Int):=Qc n _ (by have:=g.k4;omega)
 have R:Gi .mul (n:Int) (n:Int)=k0 ((n*n:Nat):Int):=Qc n n (by omega)
 have Y:Gi .mul ((n*n:Nat):Int) (T.length:Int)=k0 ((n*n*T.length:Nat):Int):=Qc _ _ (by have:=g.t4;omega)
 have Q:(((n*K.length:Nat):Int)+((n*n*T.length:Nat):Int))=((bN n K T:Nat):Int):=by
  show((n*K.length+n*n*T.length:Nat):Int)=_
  rw [Al n,Al (n*n)]
 have F: ∀(c:Nat) (h:AH),Gr .gt (.i (bN n K T)) (.i c) h=k0 (y9 (c<bN n K T)):=λc h=>fM c (bN n K T) h
 have k:=F 4 [ai ns 0 v1]
 have j:=F 8 [ai ns 0 v1]
 have k:Gr .gt (.i (bN n K T)) (.v (.int 4)) [ai ns 0 v1]=k0 (y9 (4<bN n K T)):=k
 have j:Gr .gt (.i (bN n K T)) (.v (.int 8)) [ai ns 0 v1]=k0 (y9 (8<bN n K T)):=j
 generalize B:D.lst (ns.map .int)=b
 obtain⟨M,V,J⟩: ∃M:Nat,M<=5/\eval (u9 69) (.ix (.lst (.c (.int 5) (.int 2) (.int 1))) (.bin .add (.bi .int (.a (.cmp .gt .v4 (.int 4)))) (.bi .int (.a (.cmp .gt .v4 (.int 8)))))) (dC b (si n) (sv (wD K T)) (si (bN n K T)) y0 y0 y0 y0 y0 y0) [ai ns 0 v1]= .ok (.i M) [ai ns 0 v1]:=by
  have bt: ∀h,dk .int [.b u0] h= .ok (.v (.int 1)) h:=λ_=>rfl
  have z: ∀h,dk .int [.b k9] h= .ok (.v (.int 0)) h:=λ_=>rfl
  cases O:y9 (4<bN n K T)<;>cases C:y9 (8<bN n K T)<;>rw [O]at k<;>rw [C]at j
  ·exact⟨5,by decide,by simp_all [k,bt,z,j,aq];rfl⟩
  ·exact absurd (of_decide_eq_true C) (by have:=of_decide_eq_false O;omega)
  ·exact⟨2,by decide,by simp_all [k,bt,z,j,aq];rfl⟩
  ·exact⟨1,by decide,by simp_all [k,bt,z,j,aq];rfl⟩
 obtain⟨S,i2,v2,o,lS,e2⟩:=KR 61 g V L (h:= [ai ns 0 v1]) (r:=0) (i:=0) rfl
 have e2:call prog 69 "_law_theory" [.r 0,.v (wD K T),.i M] [ai ns 0 v1]= .ok (.v (ba K T S)) [ai ns i2 v2]:=e2
 generalize U: [ai ns i2 v2]=H at e2
 have l:Gx H=true:=by rw [← U];rfl
 have e3:=LJ (K:=K) (T:=T) (S:=S) 68 (by omega) H
 obtain⟨a,na,A,N⟩:=BL (m:=68) (h:=H) g o (by omega) (by decide) l (by decide)
 have G:=EI (m:=68) (h:=H) g o (by omega) A l (by decide)
 have e6:=Dz (K:=K) (T:=T) (λs Z=>(o s Z).2) H
 refine⟨H,?_⟩
 have x:eval (u9 69) (.share (.call "_law_start" (.a .v0))) [some (.v (.lst (ns.map .int))),none,none,none,none,none,none,none,none,none,none] []= .ok (.r 0) [ai ns 0 v0]:=Ft (ws:= [.v (.lst (ns.map .int))]) (by simp_all []) W (by
  show(Gc (ns.map .int)&&u0)=u0
  rw [Xj _ (λ_=>rfl)];rfl)
 simp only [dM]
 rw [B]at x
 rw [za (τ1:=dC b y0 y0 y0 y0 y0 y0 y0 y0 y0) (h1:= [ai ns 0 v0]) (by
  generalize E.share _=X at x ⊢
  simp_all [x])]
 rw [za (τ1:=dC b (si n) (sv (wD K T)) y0 y0 y0 y0 y0 y0 y0) (h1:= [ai ns 0 v1]) (by simp_all [e1])]
 rw [za (τ1:=dC b (si n) (sv (wD K T)) (si (bN n K T)) y0 y0 y0 y0 y0 y0) (h1:= [ai ns 0 v1]) (by simp_all [ab,zf,We,Xf,aq,Aa,m1,R,Y,Xc,Q])]
 rw [za (τ1:=dC b (si n) (sv (wD K T)) (si (bN n K T)) (sv (ba K T S)) y0 y0 y0 y0 y0) (h1:=H) (by
  generalize E.ix _ _=X at J ⊢
  simp_all [J,e2])]
 rw [za (τ1:=dC b (si n) (sv (wD K T)) (si (bN n K T)) (sv (ba K T S)) (sv (ba K T S)) y0 y0 y0 y0) (h1:=H) (by simp_all [ab,We,pM,aq,e3])]
 rw [za (τ1:=dC b (si n) (sv (wD K T)) (si (bN n K T)) (sv (ba K T S)) (sv (ba K T S)) (sv a) y0 y0 y0) (h1:=H) (by simp_all [N])]
 rw [xa (by simp_all [e6,G,aq])]
 have I:=ZU (bN n K T) (by omega)
 have u:=k5 65 (2 ^ bN n K T) H
 have u:Gr .lt (.i (2 ^ bN n K T)) (.v (.int 65)) H=k0 (y9 (2 ^ bN n K T<65)):=u
 have l2:=fM 64 (2 ^ bN n K T) H
 have l2:Gr .gt (.i (2 ^ bN n K T)) (.v (.int 64)) H=k0 (y9 (64<2 ^ bN n K T)):=l2
 have f: ∀y,execs (u9 69) (.cons (.r (.cmp .gt .v8 (.int 64)) (.bl true)) (.cons (.af 10 (.call "found" (.b .v5 .v2))) (.a (.ret (.and (.call "_law_right" (.c .v5 .v2 (.var 10))) (.cmp .eq (.ix (.var 10) (.int 0)) (.ix .v7 (.int 0)))))))) (dC b (si n) (sv (wD K T)) (si (bN n K T)) (sv (ba K T S)) (sv (ba K T S)) (sv a) (si (2 ^ bN n K T)) y none) H= .ret (.b true) H:=fun y=>by
  cases q:y9 (64<2 ^ bN n K T)
  ·rw [q]at l2
   rw [xa (by simp_all [l2,aq])]
   rw [za (τ1:=dC b (si n) (sv (wD K T)) (si (bN n K T)) (sv (ba K T S)) (sv (ba K T S)) (sv a) (si (2 ^ bN n K T)) y (sv a)) (h1:=H) (by simp_all [N])]
   obtain⟨w,p,rfl⟩: ∃w p,a= .tup [.str w,p]:=by
    rcases A with⟨c,_,_,_,e,_⟩ | ⟨p,e,_⟩
    ·exact⟨_,_,e⟩
    ·exact⟨_,_,e⟩
   exact qa (Xa rfl (by simp_all [G,ab,zf,Ja,beq_self_eq_true,aq]))
  ·rw [q]at l2
   exact je (by simp_all [l2,aq]) rfl
 rcases A with⟨c,_,_,_,rfl,_⟩ | ⟨p,rfl,P⟩
 ·rw [xa (by simp_all [ab,zf,Ja,aq,show(xB== fN)=k9 from rfl])]
  rw [za (τ1:=dC b (si n) (sv (wD K T)) (si (bN n K T)) (sv (ba K T S)) (sv (ba K T S)) (k0 (.t [.str xB,(wo n K T c).aD])) (si (2 ^ bN n K T)) y0 y0) (h1:=H) (by simp_all [I,aq])]
  rw [xa (by simp_all [ab,zf,Ja,aq,show(xB== fN)=k9 from rfl])]
  exact f y0
 ·have e7:=F0 68 g P (by decide) l
  have nb:Gr .fQ (.b u0) (.b u0) H=k0 false:=rfl
  rw [xa (by simp_all [ab,zf,We,Ja,aq,show(xc== fN)=u0 from rfl,e7,nb])]
  rw [za (τ1:=dC b (si n) (sv (wD K T)) (si (bN n K T)) (sv (ba K T S)) (sv (ba K T S)) (k0 (.t [.str xc,p])) (si (2 ^ bN n K T)) y0 y0) (h1:=H) (by simp_all [I,aq])]
  have t:Gm (u9 69) (.and (.cmp .eq (.ix .v7 (.int 0)) (.str fN)) (.cmp .lt .v8 (.int 65))) (dC b (si n) (sv (wD K T)) (si (bN n K T)) (sv (ba K T S)) (sv (ba K T S)) (k0 (.t [.str xc,p])) (si (2 ^ bN n K T)) y0 y0) H= .ok (y9 (2 ^ bN n K T<65)) H:=by
   simp_all [ab,zf,Ja,aq,show(xc== fN)=u0 from rfl,u]
  by_cases q:2 ^ bN n K T<65
  ·obtain⟨y,ey⟩:=B2 (sc:=b) (x4:=si (bN n K T)) (x6:=sv (ba K T S)) (x7:=k0 (.t [.str xc,p])) (x10:=y0) g q l o (by omega) P
   rw [decide_eq_true q]at t
   rw [za ((Wt t).trans ey)]
   exact f y
  ·rw [decide_eq_false q]at t
   rw [xa t]
   exact f y0
end M
namespace L2.MS
open PySem PyProof.Rows
noncomputable def o4:List String:= ["is_whole", "is_below", "pairs_of", "gathered", "common", "either", "without", "turned", "joined", "closed", "same", "every", "value_of_name", "made", "counts", "bounds", "settled", "not_told", "and_told", "or_told", "in_told", "count_told", "told", "fact_told", "is_size", "widths", "bits", "check_size", "check_bits", "world_of", "theory_of", "places_of", "is_tuple_of", "holds", "names_in", "needed_bits", "how_many_set", "found", "_law_start", "_law_turn", "_law_draw", "_law_names", "_law_words", "_law_expression", "_law_saying", "_law_theory", "_law_joined", "_law_turned", "_law_closed", "_law_same", "_law_two", "_law_bounds", "_law_many", "_law_ruled", "_law_within", "_law_fact", "_law_told", "_law_whole", "_law_spread", "_law_seen", "_law_is_world", "_law_keeps", "_law_open", "_law_split", "_law_walks", "_law_world", "_law_right", "law"]
def oP:List String:= ["NoSize", "NoCode", "Crowded"]
def nE:List String:= ["NoSize", "NoCode", "Crowded"]
def nR:List String:= []
noncomputable def Bc:gj:=⟨[("Cases", "words"),("Cases", "sayings"),("Cases", "size"),("Cases", "places"),("Cases", "whole"),("Search", "cases"),("Search", "needs")],[("Cases", "world_of_code", "Cases.world_of_code"),("Cases", "truth", "Cases.truth"),("Cases", "bit_of", "Cases.bit_of"),("Cases", "is_shown", "Cases.is_shown"),("Search", "told_of_sayings", "Search.told_of_sayings"),("Search", "chosen_place", "Search.chosen_place"),("Search", "told_of_case", "Search.told_of_case"),("Search", "told_of_halves", "Search.told_of_halves")],[("Cases", "Cases.__init__"),("Search", "Search.__init__")],["Cases.__init__", "Cases.world_of_code", "Cases.truth", "Cases.bit_of", "Cases.is_shown", "Search.__init__", "Search.told_of_sayings", "Search.chosen_place", "Search.told_of_case", "Search.told_of_halves"],[]⟩
noncomputable def AB:List (String×List String):= [("_law_names",["_law_pack", "_law_many_here", "_law_letters", "_law_first", "_law_stem", "_law_k", "_law_at", "_law_names_here", "_law_name"])]
end L2.MS
namespace PySem.W.Fast
def tw5934111235390043430:=Nat
def tw494339022369049790:=Nat
def tw2528535231639172540:=Nat
def tw14679187211596377026:=Nat
def tw11743970022057511490:=Nat
def tw12839832364006170944:=Nat
def tw663755053808232033:=Nat
def tw10723856449909261416:=Nat
def tw4888763361318342292:=Nat
def tw959396426195844929:=Nat
def tw12101639653576407812:=Nat
def tw2781848705539106033:=Nat
def tw6567546928276442412:=Nat
def tw13250722823754098253:=Nat
def tw9745573273290997222:=Nat
def tw15357837848626131888:=Nat
def tw10051979622269151449:=Nat
def tw7783037521568266968:=Nat
def tw12217880911252950858:=Nat
def tw1934222877978037593:=Nat
def tw10213592525652346330:=Nat
def tw6903531745436286276:=Nat
def tw13031155511037855868:=Nat
def tw2922756099156053421:=Nat
def tw10063524353016424941:=Nat
def tw6362471691742336441:=Nat
def tw10354384357284497100:=Nat
def tw15642734303322415017:=Nat
def tw1067235877284946015:=Nat
def tw9602339176209075945:=Nat
def tw15537250289392757718:=Nat
def tw9161833531867915655:=Nat
def tw6524147331556032071:=Nat
def tw2547502307335864624:=Nat
def tw9452871165298633229:=Nat
def tw10464808585644929778:=Nat
def tw3637881489283248190:=Nat
def tw8867301587026579656:=Nat
def tw11750941497690257670:=Nat
def tw16646757364861870160:=Nat
def tw15083968715279210653:=Nat
def tw696947016282446434:=Nat
def tw7399467803362511415:=Nat
def tw17356808182680779973:=Nat
def tw1718654471320240053:=Nat
def tw13377610091710340337:=Nat
def tw8430254276988934620:=Nat
def tw2241065599488568733:=Nat
def tw3520758630734439639:=Nat
def tw16738602356679686128:=Nat
def tw15119647056865406030:=Nat
def tw11247362060326742465:=Nat
def tw12299028023231911572:=Nat
def tw15374424559728438490:=Nat
def tw11001299087590376508:=Nat
def tw11351389288674970834:=Nat
def tw7922687808931357500:=Nat
def tw8578948138416657266:=Nat
def tw11608360329327729442:=Nat
def tw10504093534039034553:=Nat
def tw4866281085927911122:=Nat
def tw8554603555584100589:=Nat
def tw14326286416368149583:=Nat
def tw2409645288937078291:=Nat
def tw5396221785589391678:=Nat
def tw2839965853573977080:=Nat
def tw8874814197562516430:=Nat
def tw13773265256601767753:=Nat
def tw4899320015308404693:=Nat
def tw1777169027168997845:=Nat
def tw1187738394776063767:=Nat
def tw9564530762946974:=Nat
def tw1353920727804496543:=Nat
def tw18262523331763551204:=Nat
def tw13206891187833871860:=Nat
def tw3093570809682178804:=Nat
def tw15084240887896521009:=Nat
def tw14437219954476229384:=Nat
def tw11552288144012988298:=Nat
def tw18426313872314548953:=Nat
def tw12123764130458480117:=Nat
def tw5153550588708434259:=Nat
def tw4080665019942290252:=Nat
def tw16317736383749304538:=Nat
def tw13088752953595366728:=Nat
def tw7481591802784696940:=Nat
def tw7734530552676492731:=Nat
def tw4289976967776563553:=Nat
def tw11953507122609502114:=Nat
def tw8402674289657852940:=Nat
def tw6510117726277613609:=Nat
def tw1524403869706172161:=Nat
def tw7667433484555780743:=Nat
def tw16545020056747353783:=Nat
def tw8573063046406018771:=Nat
def tw8383873723224535913:=Nat
def tw18106229636604545500:=Nat
def tw9848219144559922535:=Nat
def tw3835593816544479356:=Nat
def tw13829795969898691880:=Nat
def tw11092532045092517580:=Nat
def tw9388450446714034446:=Nat
def tw5326959530240871426:=Nat
def tw17582062856358676445:=Nat
def tw10907810904676434349:=Nat
def tw17597346196707917694:=Nat
def tw1207597113581426889:=Nat
def tw9302467688283376951:=Nat
def tw11995344081242588004:=Nat
def tw12288213428424841313:=Nat
def tw11731263217790980385:=Nat
def tw15033936244744004102:=Nat
def tw8656395247045693748:=Nat
def tw7813160370343273608:=Nat
def tw17656563730660249572:=Nat
def tw17524347530440927788:=Nat
def tw16837024598409995123:=Nat
def tw14425848008799433069:=Nat
def tw14401150701580344379:=Nat
def tw8600238596151181549:=Nat
def tw3392844399398919666:=Nat
def tw3177712959857449471:=Nat
def tw1329099749693116065:=Nat
def tw9903947638238859627:=Nat
def tw6695323942105145281:=Nat
def tw14493076466739171869:=Nat
def tw1246203675583790348:=Nat
def tw9051678640063194960:=Nat
def tw5318736425760648975:=Nat
def tw4183029640606104727:=Nat
def tw17660042065598957152:=Nat
def tw11599883088909534016:=Nat
def tw13832897471533818822:=Nat
def tw14143084799329065096:=Nat
def tw12289021981136352960:=Nat
def tw14801691205982734601:=Nat
def tw3421175043662989015:=Nat
def tw7631916719167970813:=Nat
def tw16659604973823733125:=Nat
def tw14810617064283273049:=Nat
def tw6437741528107956603:=Nat
def tw1361878558706263714:=Nat
def tw14361625154792597153:=Nat
def tw17907821256669157042:=Nat
def tw9927046062847832166:=Nat
def tw4017599842539992659:=Nat
def tw3796313484970931760:=Nat
def tw13890257908016491664:=Nat
def tw9158248021948094893:=Nat
def tw4026743826213074257:=Nat
def tw17815586580157124493:=Nat
def tw13361316546769373779:=Nat
def tw4375626267894283363:=Nat
def tw12332060778836203049:=Nat
def tw10508453727209384845:=Nat
def tw15497253978068435349:=Nat
def tw6739442278433740666:=Nat
def tw11259484190414955109:=Nat
def tw755757811024828746:=Nat
def tw4121429909154644692:=Nat
def tw15569697228170771648:=Nat
def tw15004519607823660613:=Nat
def tw16856336073185405741:=Nat
def tw16877508739954141432:=Nat
def tw708322287773124425:=Nat
def tw1897747376705356689:=Nat
def tw9397092095739427700:=Nat
def tw16582090274997283324:=Nat
def tw18118851825582404261:=Nat
def tw12355616743682418351:=Nat
def tw14002248747261862197:=Nat
def tw17146609490556977355:=Nat
def tw17892707967880542376:=Nat
def tw11500178848114213483:=Nat
def tw8600629313677834195:=Nat
def tw13659576869578516667:=Nat
def tw12040357569827611656:=Nat
def tw7432771136823817153:=Nat
def tw15459009961171820461:=Nat
def tw14325492873261380068:=Nat
def tw2790644030656855383:=Nat
def tw834688475247729390:=Nat
def tw822434815127002246:=Nat
def tw6902564608714319300:=Nat
def tw3555155359891176449:=Nat
def tw18375197791509599007:=Nat
def tw18134575252731840649:=Nat
def tw944830011454669974:=Nat
def tw16355992009249930610:=Nat
def tw6871079164999794028:=Nat
def tw1460514437838302913:=Nat
def tw1100411106476056044:=Nat
def tw18130917879595351039:=Nat
def tw14575171466623134113:=Nat
def tw10409637525516293433:=Nat
def tw7943169416090261460:=Nat
def tw5576026620094825200:=Nat
def tw3840052019697265255:=Nat
def tw16249556323963067893:=Nat
def tw15901861076615431233:=Nat
def tw10565103044847130432:=Nat
def tw3428601627328019764:=Nat
def tw6491525215514057548:=Nat
def tw3487570154706036396:=Nat
def tw15400797952170871158:=Nat
def tw2990690829538500296:=Nat
def tw4481021607752347966:=Nat
def tw16359508629759026741:=Nat
def tw10246650061922593754:=Nat
def tw5383686406953845048:=Nat
def tw2622166159163196442:=Nat
def tw2204030203031825887:=Nat
def tw10208307144639756423:=Nat
def tw5724603893911659896:=Nat
def tw16859901514781909080:=Nat
def tw14571045791675646577:=Nat
def tw13100374740181407385:=Nat
def tw12155416866895030482:=Nat
def tw1086622660003886682:=Nat
def tw10609677929454343482:=Nat
def tw10330413035513841729:=Nat
def tw7016381995448123169:=Nat
def tw5856893479808636972:=Nat
def tw5357186599152638150:=Nat
def tw17267037747574798350:=Nat
def tw15267574715145880594:=Nat
def tw15192004149344394360:=Nat
def tw11869780586637809633:=Nat
def tw6323588171773633380:=Nat
def tw3770900729859187575:=Nat
def tw16551984630836607224:=Nat
def tw14884565304160919817:=Nat
def tw14691476551366699439:=Nat
def tw9131121751616107042:=Nat
def tw8578315748025340882:=Nat
def tw6748287779848221122:=Nat
def tw4247250445351816014:=Nat
def tw1606903794628335936:=Nat
def tw14648995902228804473:=Nat
def tw10828775477264142110:=Nat
def tw9881131109149680678:=Nat
def tw9587876664182396355:=Nat
def tw9578723097560876041:=Nat
def tw9487376022157046769:=Nat
def tw9477558133858522776:=Nat
def tw9455220193791682434:=Nat
def tw9435456480859122198:=Nat
def tw9355988989774906326:=Nat
def tw9177834710148722744:=Nat
def tw8981394231255755512:=Nat
def tw8761479795026034790:=Nat
def tw8300475614834659861:=Nat
def tw8029061538915899517:=Nat
def tw7994800504583917561:=Nat
def tw7956227648141151667:=Nat
def tw7921548075414897805:=Nat
def tw7915646779492137059:=Nat
def tw786664898026946100:=Nat
def tw7858401585105661472:=Nat
def tw7754481150588487402:=Nat
def tw7743304059006117692:=Nat
def tw7523531077346741560:=Nat
def tw7489233637720620308:=Nat
def tw7454210529144477496:=Nat
def tw7437616159258376187:=Nat
def tw7423669705208794154:=Nat
def tw7354906342418167993:=Nat
def tw721632359004487132:=Nat
def tw7058966433470836525:=Nat
def tw6916108330280213399:=Nat
def tw6593817449613622640:=Nat
def tw656968193033639066:=Nat
def tw6558284762417076909:=Nat
def tw6529178443270975038:=Nat
def tw6523970091528198790:=Nat
def tw6197516215838598505:=Nat
def tw6071288507602827481:=Nat
def tw5920780581069139856:=Nat
def tw5644269443059928092:=Nat
def tw5502653838693840599:=Nat
def tw5420901917097601371:=Nat
def tw52546843861243684:=Nat
def tw4941567952977651143:=Nat
def tw4842094015543884736:=Nat
def tw4789314607449523234:=Nat
def tw4769274944128611850:=Nat
def tw4758687729700864997:=Nat
def tw4068588958920984245:=Nat
def tw4068049037647436037:=Nat
def tw3873509628782305317:=Nat
def tw3849132317134251219:=Nat
def tw3819331147395702005:=Nat
def tw351568507430649532:=Nat
def tw3450896912229543148:=Nat
def tw3247495087968961731:=Nat
def tw3149664112199910413:=Nat
def tw3118316063883157791:=Nat
def tw3081227700839957052:=Nat
def tw3020619880274892599:=Nat
def tw2781729765065040684:=Nat
def tw2678106790977336971:=Nat
def tw2651803016557251984:=Nat
def tw2532750104181625503:=Nat
def tw2499758564968195629:=Nat
def tw2327223566271013218:=Nat
def tw2180623227056256476:=Nat
def tw2164364219499631583:=Nat
def tw2102760339754144861:=Nat
def tw18304674724690442614:=Nat
def tw18304442258556045314:=Nat
def tw18301881688311077640:=Nat
def tw1823545131192894851:=Nat
def tw18147036113113263689:=Nat
def tw1808063637561190169:=Nat
def tw17934639487563990271:=Nat
def tw17906774151841416932:=Nat
def tw17877256257534235196:=Nat
def tw17741672532798244635:=Nat
def tw17740027929460536979:=Nat
def tw17632608665514107992:=Nat
def tw17575836394922444684:=Nat
def tw17428640222088680701:=Nat
def tw17342819983293939575:=Nat
def tw17262896083781910089:=Nat
def tw17227316210881884840:=Nat
def tw17218343337767109015:=Nat
def tw17126020906914019049:=Nat
def tw17125910514610887562:=Nat
def tw17125247963825012165:=Nat
def tw17044253159481409811:=Nat
def tw16821778595566677950:=Nat
def tw16596011781628551327:=Nat
def tw16252372212203932384:=Nat
def tw16250783107649199072:=Nat
def tw16175987652420329395:=Nat
def tw1597527067010492550:=Nat
def tw15895358227978565066:=Nat
def tw15874761878630650112:=Nat
def tw15760331789629612061:=Nat
def tw15564757954115105968:=Nat
def tw15428658540202936523:=Nat
def tw15180639146549199715:=Nat
def tw15077592220175933258:=Nat
def tw14851062231565888327:=Nat
def tw1483056530112632803:=Nat
def tw14691989992083961647:=Nat
def tw14552062900382347596:=Nat
def tw14376071770521037875:=Nat
def tw14313668229249745159:=Nat
def tw14180511524164188896:=Nat
def tw14097156580917493857:=Nat
def tw13866531386430291754:=Nat
def tw13864806655187505614:=Nat
def tw138060820285862937:=Nat
def tw13797647877096745636:=Nat
def tw13759711303145558818:=Nat
def tw13758770749408325789:=Nat
def tw13740610292869258107:=Nat
def tw13678610453664178535:=Nat
def tw13566128661129888126:=Nat
def tw13062993311635646702:=Nat
def tw12915797064917742530:=Nat
def tw12914109866873079308:=Nat
def tw12859534763772135399:=Nat
def tw12700665231034420917:=Nat
def tw12699949309199108145:=Nat
def tw12693264339627241343:=Nat
def tw12562703474744833064:=Nat
def tw12334192623683072010:=Nat
def tw12207436792232495286:=Nat
def tw12108315087681613750:=Nat
def tw12054666300150185012:=Nat
def tw11944754574313436241:=Nat
def tw11829662820699585486:=Nat
def tw11779668159771743720:=Nat
def tw11712543746043019536:=Nat
def tw11681297970681296617:=Nat
def tw11542037274854455980:=Nat
def tw11389552347282901747:=Nat
def tw11348924817323741579:=Nat
def tw11273876695852654298:=Nat
def tw10933587611160046774:=Nat
def tw10870262387646633488:=Nat
def tw10838763552859152490:=Nat
def tw10561264967444004428:=Nat
def tw1051396509353136193:=Nat
def tw10428671588783307927:=Nat
def tw1040091915952574271:=Nat
def tw10380847454784495411:=Nat
def tw10296730282744587527:=Nat
def tw10052925761202927930:=Nat
def tw10048815318068658833:=Nat
def tw10046247772380817226:=Nat
def tw6084277485384706391:=Nat
def tw9326659453498539741:=Nat
def tw9609093198060058046:=Nat
def tw17877171042081596873:=Nat
def tw6808039722072735668:=Nat
def tw10705656667409045191:=Nat
def tw4593953121379587990:=Nat
def tw1587119628096467702:=Nat
def tw1449788606110120975:=Nat
def tw7083417892296142588:=Nat
def tw15466295069058499377:=Nat
def tw15660715307300849554:=Nat
def tw7948324087628635598:=Nat
def tw11666724570265155087:=Nat
def tw18255508116044451635:=Nat
def tw10197166429300198286:=Nat
def tw10992132933792324930:=Nat
def tw2788024067772432421:=Nat
def tw11813707882558703775:=Nat
def tw14804293668993863494:=Nat
def tw6907107774735093234:=Nat
def tw18015927341407833190:=Nat
def tw3181903370047083711:=Nat
def tw13249655496427554380:=Nat
def tw6661230737774636244:=Nat
def tw4158316120169615527:=Nat
def tw2144094932062194726:=Nat
def tw16546917615941174895:=Nat
def tw8074679535220629829:=Nat
def tw17188900616493606002:=Nat
def tw6237676026124452660:=Nat
def tw8383950498887478369:=Nat
def tw334784924873182196:=Nat
def tw673552044434964902:=Nat
def tw264923197730492839:=Nat
def tw7644571623515980352:=Nat
def tw13862771356320699164:=Nat
def tw1074784640158308377:=Nat
def tw15125957390727998160:=Nat
def tw3818014691611761643:=Nat
def tw17724246835287083814:=Nat
def tw9555517409452427541:=Nat
def tw10693018046126215768:=Nat
def tw6947783273973208237:=Nat
def tw8504001283214612690:=Nat
def tw14405319747311987916:=Nat
def tw10477037858649332908:=Nat
def tw4300419649260889985:=Nat
def tw12667192711189191307:=Nat
def tw18136903620824551686:=Nat
def tw3164438994441687571:=Nat
def tw4201168231085453959:=Nat
def tw15034926758517034830:=Nat
def tw16537270537766421896:=Nat
def tw2381115258560367623:=Nat
def tw9706326517498962745:=Nat
def tw14661287582803292724:=Nat
def tw5220605458375322840:=Nat
def tw8602112913298174566:=Nat
def tw14070776006473143366:=Nat
def tw2407733236957395575:=Nat
def tw9698928143557867165:=Nat
def tw17640155233768997848:=Nat
def tw3850435518329373940:=Nat
def tw14184798774865102518:=Nat
def tw3231473254169093790:=Nat
def tw15101704283877968163:=Nat
def tw5581906300527993601:=Nat
def tw8718342789657446817:=Nat
def tw15195377758782633376:=Nat
def tw14621323143959925585:=Nat
def tw17283425965194585169:=Nat
def tw15561793162505023161:=Nat
def tw14911457802103560695:=Nat
def tw13808842624940556025:=Nat
def tw2043210255257531851:=Nat
def tw16569820842606980602:=Nat
def tw1466731942707460910:=Nat
def tw6513374261217323313:=Nat
def tw15827506410429699847:=Nat
def tw6996835853101466686:=Nat
def tw6100769867362621327:=Nat
def tw11773096158555350423:=Nat
def tw17712259651360563166:=Nat
def tw8128159747715474293:=Nat
def tw11966730402825028637:=Nat
def tw15794486411872348270:=Nat
def tw4703071124654851292:=Nat
def tw4764376694820443193:=Nat
def tw4562947329717778751:=Nat
def tw12358700499761084331:=Nat
def tw4269696552335257087:=Nat
def tw17790282567378518113:=Nat
def tw8365443280596701692:=Nat
def tw18043779666381532364:=Nat
def tw1904185014855586657:=Nat
def tw3225630665328918060:=Nat
def tw9033593998326842819:=Nat
def tw5299260456304321864:=Nat
def tw12323823214200653670:=Nat
def tw6161873458119897256:=Nat
def tw2744436916531540984:=Nat
def tw2850166034827033772:=Nat
def tw11090257876885654565:=Nat
def tw4504375600900852606:=Nat
def tw1518365700988429385:=Nat
def tw16712450318070718356:=Nat
def tw3639860586752242001:=Nat
def tw7888272794252645043:=Nat
def tw12963950533769251577:=Nat
def tw13647285273724418340:=Nat
def tw7143736558803845351:=Nat
def tw16400691023675928302:=Nat
def tw11022722487844752262:=Nat
def tw17571955380127506889:=Nat
def tw12912014420849519219:=Nat
def tw2396152340365394797:=Nat
def tw12312513061442764412:=Nat
def tw11157645496661404027:=Nat
def tw3484571227883975747:=Nat
def tw7721869283375015896:=Nat
def tw12806646060614105770:=Nat
def tw5912336365563526035:=Nat
def tw10651572585244919481:=Nat
def tw14242321083311767110:=Nat
def tw14931267116770046811:=Nat
def tw4356179331440587566:=Nat
def tw3198677340205402178:=Nat
def tw2874355437176955657:=Nat
def tw12206333991858798322:=Nat
def tw14993826543437318156:=Nat
def tw6939233857753946925:=Nat
def tw15014140151795602014:=Nat
def tw2151409153313394012:=Nat
def tw4663845318005845275:=Nat
def tw7206100966014271549:=Nat
def tw16585260265027086125:=Nat
def tw16206144216549703228:=Nat
def tw6603981380141117416:=Nat
def tw14712586932233835512:=Nat
def tw16157027769531360494:=Nat
def tw17989511235965417828:=Nat
def tw1925687125075123073:=Nat
def tw3754184975247274271:=Nat
def tw16642757275584776375:=Nat
def tw2384609104856115704:=Nat
def tw17946456388124777793:=Nat
def tw5495432384859003549:=Nat
def tw7487357604693135509:=Nat
def tw4169532131045941959:=Nat
def tw4377074499099288818:=Nat
def tw16838965568297009221:=Nat
def tw12849393013360113514:=Nat
def tw631630212787317163:=Nat
def tw10907370866813553749:=Nat
def tw12747123503549457330:=Nat
def tw17257765911838607328:=Nat
def tw15338284193105660355:=Nat
def tw6990688606556086295:=Nat
def tw2632039410668474683:=Nat
def tw7827703991286351915:=Nat
def tw17259701086853596487:=Nat
def tw1094937547828462854:=Nat
def tw8960574833670769043:=Nat
def tw621992929722060169:=Nat
def tw17186064810461660040:=Nat
def tw10725556839096713785:=Nat
def tw6003540737524592570:=Nat
def tw16881985318920084215:=Nat
def tw9635487015965548748:=Nat
def tw8411578656447813662:=Nat
def tw2037757178874640633:=Nat
def tw7787985084623484329:=Nat
def tw18422033040723156083:=Nat
def tw9334522953925101006:=Nat
def tw15358064303752104611:=Nat
def tw11053731154220287548:=Nat
def tw8414255955675593806:=Nat
def tw10924557105831130472:=Nat
def tw17720275692835073048:=Nat
def tw14784650529182537770:=Nat
def tw9087291780962269745:=Nat
end PySem.W.Fast
open PySem PySem.W PyProof.Rows
set_option maxRecDepth 100000 in
set_option maxHeartbeats 0 in
theorem PySem.Challenge.cw_worldfind_k32_whole_found_or_paper_holds : PySem.Challenge.rw_worldfind_k32_whole_found_or_paper.Holds := by
 w_on;o_law;k_head;(case hw=>w_witness2)
 k_fill
 refine L2.MS.walk (l:=PySem.Challenge.rw_worldfind_k32_whole_found_or_paper) (x:= "_law_script") (2*70+1) ⟨rfl,by decide,by decide⟩ rfl rfl (fun w h Y=>PySem.W.kIn_of Y) ?F
 case F=>
  intro w mg fa h KX G hmg
  exact L2.MS.ir M.prog L2.MS.o4 L2.MS.oP L2.MS.nE L2.MS.nR L2.MS.Bc L2.MS.AB 69 KX G hmg (by kernel_rfl) M.fy
