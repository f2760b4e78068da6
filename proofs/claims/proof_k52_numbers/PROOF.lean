import PyProof.Rows.All
import Wide.All
import OpenK.AllK
import Wide.FinOn
import Lean
import PyProof.EqAt
import PyProof.EqKinds
import PyProof.TupleCall
import PyProof.NeKinds
import PyProof.NsDelKeeps
import KE.KRevSl
import PyProof.StrWalks
import PyProof.ConsumeWalk
import PyProof.SumWalk
import PyProof.Rows.SortStr
import PyProof.SumWalkG
import PyProof.StrCalls2
import PyProof.StrLawsIdx
import PyProof.WalkInts
import PyProof.StrOps2
import PyProof.SliceStr2
import PyProof.Draws
import PyProof.EnumMake
import PyProof.Rows.SetFrom
import PyProof.SetRoads
import PyProof.WalksMore
import PyProof.ListRange
import PyProof.TupleOfSeq
import PyProof.TupleOfGen
import PyProof.Rows.SortShell
import PyProof.ZipIter
import PyProof.DictStraight
import PyProof.TupleKey
import PyProof.DictRoadsH
import PyProof.DictTruth
import PyProof.Rows.TupTab
import KE.KTabLook
import PyProof.FString
import PyProof.CallStr
import KE.KIntText
import PyProof.Rows.Range3
import PyProof.DictRoads
import PySem.Challenge.RW_worldfind_k52_numbers
set_option Elab.async false
set_option linter.all false
set_option maxRecDepth 100000
set_option compiler.extract_closed false
local macro_rules | `(tactic| omega) => `(tactic| lia)
set_option bootstrap.genMatcherCode false
noncomputable section
open List renaming length_map → Aa, range → Aa0, mem_cons_of_mem → Aa1, mem_cons_self → Aa3, getElem?_eq_getElem → Aa4, replicate → Aa8, map_cons → Aa9, length_append → Ab0, mem_append_right → Ab1, mem_cons → Ab2, mem_range → Ab3, getD_eq_getElem?_getD → Ab5, length_cons → Ab7, size_toArray → Ab8, getElem?_eq_some_iff → Ac0, mem_map → Ac1, not_mem_nil → Ac2, getElem?_map → Ac5, map_map → Ac6, replicate_succ → Ac7, map_append → Ac8, mem_append_left → Ac9, lookup_cons → Ad0, getElem?_set_ne → Ad3, getElem?_set_self → Ad5, map_nil → Ad6, length_filter_le → Ad9, map_congr_left → Ae, all_eq_true → Ae1, mem_filter → Ae3, length_set → Ae6, any_eq_true → Ae7, length_replicate → Ae8, append_assoc → Ae9, mem_singleton → Af, mem_append → Af0, append_nil → Af1, any_cons → Af2, isEmpty_iff → Af4, getElem?_append_right → Af6, range_succ_eq_map → Af7, getElem?_append_left → Af9, length_singleton → Ag, length_take → Ag0, any_eq_false → Ag3, nil_append → Ag5, foldl_cons → Ag6, nodup_cons → Ah1, eq_nil_of_length_eq_zero → Ah9, sum_cons → Ai3, all_cons → Ai4, contains_eq_mem → Ai6, length_drop → Ai8, getElem_map → Ai9, cons_append → Aj, map_eq_nil_iff → Aj0, getElem_range → Aj1, length_range → Aj4, flatten_cons → Aj5, contains_iff_mem → Aj7, nodup_range → Ak, getElem_mem → Ak0, filter_cons → Ak1, mem_of_getElem? → Ak2, replicate_zero → Ak3, length_zip → Ak4, length_nil → Ak5, mem_replicate → Al2, contains_cons → Al3, drop_eq_getElem_cons → Al8, reverse_cons → Al9, getElem?_replicate → Am2, ext_getElem → Am3, all_map → Am5, length_pos_iff → An0, filterMap_cons → An1, mem_filterMap → An5, map → An6, filter_append → An7, take_length → Ao4
open PySem.Heap renaming get?_push_of_some → Aa2, lt_size → Ab4, get?_push_size → Ab6, size_push → Ag1, get?_update_self → Ai0, get?_update_other → Aj3, SameBut → Aj8, FlyingW → Al5, get?_update_ne → An2
open PySem.W renaming Frag → Aa5, mg_none_of → Ac4, mg_of → Ad1, kitOne → Ad4, keepIn → Ae0, kia_one → Ae2, fnOf → Ai, findIn → Ak6, codeIn → Ak7, cellsFrom_some → Am, kitx_list → An3, instObj → Ao
open Nat renaming le_refl → Aa6, lt_of_lt_of_le → Ab, le_trans → Ac, ne_of_lt → Ac3, pow_le_pow_right → Ad, mul_le_mul → Ad7, testBit_lt_two_pow → Ae5, eq_of_testBit_eq → Af3, zero_add → Ag2, lt_succ_self → Ag7, lt_irrefl → Ag9, testBit_or → Ah, le_of_lt → Ah4, zero_le → Ah5, pow_pos → Ah6, le_succ → Ah7, not_lt_zero → Ai1, mul_comm → Ai2, lt_pow_two_of_testBit → Ai7, two_pow_pos → Aj2, and_two_pow_sub_one_eq_mod → Aj9, testBit_two_pow → Ak8, testBit_and → Ak9, pow_add → Al, min_eq_left → Al0, div_add_mod → Al1, ne_of_gt → Al7, not_lt → Am0, lt_succ_of_lt → Am1, mod_eq_of_lt → Am4, add_comm → Am7, mul_le_mul_right → Am8, mul_add → An4, lt_of_le_of_lt → An8, or_lt_two_pow → Ao0, not_le → Ao1, mod_lt → Ao2, succ_mul → Ao3
open Bool renaming and_eq_true → Aa7, false_ne_true → Ab9, eq_iff_iff → Ad8, false_eq_true → Ag8, true_and → Ai5, eq_false_iff → Aj6, or_eq_true → Am6, false_and → Am9, not_eq_true' → An9, noConfusion → Ao5
open Option renaming bind_eq_some_iff → Ad2, some → Ae4, map_eq_some_iff → Af5, isSome_iff_exists → Ah0, bind_some → Ah3
open Classical renaming choose_spec → Af8, choose → Ah2, propDecidable → Al6
open Int renaming toNat_natCast → Ag4, eq_ofNat_of_zero_le → Ah8, fdiv_eq_ediv_of_nonneg → Al4
open Array renaming length_toList → An
open Decidable renaming decide → v9
open Option renaming some → y0, none → u0
open Bool renaming true → k9, false → y9
namespace L2
open PySem PySem.Spec PyProof.Rows
abbrev dG:=Sum Int Str
def nj:dG->Value->Bool
 | .inl k,v=>Value.isInt k v
 | .inr x,v=>Value.isStrOf x v
def yw (w:World):dG->Int
 | .inl k=>hashInt k
 | .inr x=>hashStr w x
def Wc: ∀ {k}{v},nj k v=k9->(∃ i t,k=Sum.inl i/\v=Value.int i t)\/(∃ x t,k=Sum.inr x/\v=Value.str x t)
 | .inl i,v,h=>by
  obtain⟨t,e⟩:=Value.isInt_shape h
  exact .inl ⟨i,t,rfl,e⟩
 | .inr x,v,h=>by
  obtain⟨t,e⟩:=Value.isStrOf_shape h
  exact .inr ⟨x,t,rfl,e⟩
def Lm (i) (t):nj (.inl i) (.int i t)=true:=by simp [nj,Value.isInt]
def A1 (a b):v9 ((Sum.inl a:dG)=Sum.inl b)=(a==b):=by grind
def LQ (a b):v9 ((Sum.inr a:dG)=Sum.inr b)=v9 (a=b):=by simp
def B5 (a) (b):v9 ((Sum.inl a:dG)=Sum.inr b)=false:=decide_eq_false (λq=>nomatch q)
def AY (a) (b):v9 ((Sum.inr a:dG)=Sum.inl b)=false:=decide_eq_false (λq=>nomatch q)
noncomputable def qL (prog:Program) (w:World):PySem.KeyKind prog w dG where
 is:=nj
 hash:=yw w
 inj:=λv a b g f=>by
  rcases Wc g with⟨i,t,rfl,rfl⟩ | ⟨x,t,rfl,rfl⟩
  ·rcases Wc f with⟨j,u,rfl,e⟩ | ⟨y,u,rfl,e⟩
   ·injection e with c _;rw [c]
   ·exact nomatch e
  ·rcases Wc f with⟨j,u,rfl,e⟩ | ⟨y,u,rfl,e⟩
   ·exact nomatch e
   ·injection e with c _;rw [c]
 byValue:=λk v h=>by
  rcases Wc h with⟨i,t,rfl,rfl⟩ | ⟨x,t,rfl,rfl⟩<;>rfl
 pyHash:=λd h=>by
  rcases Wc d with⟨i,t,rfl,rfl⟩ | ⟨x,t,rfl,rfl⟩
  ·exact wpAny_pyHash_int h
  ·exact wpAny_pyHash_str h
 eqBool:=λl d h=>by
  rcases Wc l with⟨i,t,rfl,rfl⟩ | ⟨x,t,rfl,rfl⟩
  ·rcases Wc d with⟨j,u,rfl,rfl⟩ | ⟨y,u,rfl,rfl⟩
   ·rw [A1]at h;exact wpAny_eqBool_int h
   ·rw [B5]at h;exact SeqAt.EqAt.int_str i t y u _ _ _ _ h
  ·rcases Wc d with⟨j,u,rfl,rfl⟩ | ⟨y,u,rfl,rfl⟩
   ·rw [AY]at h;exact SeqAt.EqAt.str_int x t j u _ _ _ _ h
   ·rw [LQ]at h;exact wpAny_eqBool_str h
 «strs» :=λk x t v h=>by
  rcases Wc h with⟨i,u,rfl,e⟩ | ⟨y,u,rfl,e⟩
  ·exact nomatch e
  ·injection e with c _
   subst c
   cases v<;>rfl
def Wt (prog) (w) (i) (t):(qL prog w).is (.inl i) (.int i t)=true:=Lm i t
inductive V where
 | av | bl (b:Bool) | int (i:Int) | str (x:Str) | iI (b:Array UInt8) | ie (b:UInt64) | ref (a:Addr) | ty (n:String)
 deriving DecidableEq
def RelV:V->Value->Prop
 | .av,u=>u=Value.none
 | .bl b,u=>u=Value.bool b
 | .int i,u=> ∃t,u=Value.int i t
 | .str x,u=> ∃t,u=Value.str x t
 | .iI b,u=> ∃t,u=Value.bytes b t
 | .ie b,u=> ∃t,u=Value.float b t
 | .ref a,u=>u=Value.ref a
 | .ty n,u=>u=Value.type n
abbrev Vals:List V->List Value->Prop:=Paired RelV
theorem Vals.length (r:Vals xs us):xs.length=us.length:=Paired.length r
theorem Vals.get: ∀ {xs}{us}{i:Nat}{x},Vals xs us->xs[i]? =y0 x-> ∃u,us[i]? =y0 u/\RelV x u
 | _,_,_,_,.nil,e=>by simp at e
 | _,_,0,_,.cons r _,e=>by simp at e;subst e;exact⟨_,rfl,r⟩
 | _,_,i+1,x,.cons _ t,e=>by
  obtain⟨u,b,a⟩:=Vals.get t (by simpa using e)
  exact⟨u,by simpa using b,a⟩
theorem Vals.set (r:RelV x u): ∀ {xs}{a} i,Vals xs a->Vals (xs.set i x) (a.set i u)
 | _,_,_,.nil=> .nil
 | _,_,0,.cons _ t=> .cons r t
 | _,_,i+1,.cons q t=> .cons q (Vals.set r i t)
theorem Vals.append: ∀ {xs ys}{a ws},Vals xs a->Vals ys ws->Vals (xs++ys) (a++ws)
 | _,_,_,_,.nil,s=>s
 | _,_,_,_,.cons r t,s=> .cons r (Vals.append t s)
theorem Vals.take: ∀ {xs}{a}(n),Vals xs a->Vals (xs.take n) (a.take n)
 | _,_,0,_=> .nil
 | _,_,_+1,.nil=> .nil
 | _,_,n+1,.cons r t=> .cons r (Vals.take n t)
theorem Vals.drop: ∀ {xs}{a}(n),Vals xs a->Vals (xs.drop n) (a.drop n)
 | _,_,0,r=>r
 | _,_,_+1,.nil=> .nil
 | _,_,n+1,.cons _ t=>Vals.drop n t
def dB:Option V->Option Value->Prop
 | some v,y0 u=>RelV v u
 | none,none=>True
 | _,_=>False
def KV {a:Type}:List (a×V)->List (a×Value)->Prop:=Paired λ(p:a×V) (q:a×Value)=>p.1=q.1/\RelV p.2 q.2
def kV:dG->V
 | .inl i=> .int i
 | .inr x=> .str x
inductive HO where
 | lst (xs:List V)
 | tup (xs:List V)
 | dK (kvs:List (dG×V)) | dT (kvs:List (List dG×V))
 | set (S:Int->Bool) (n:Nat)
 | ins (C dx:Addr) (fs:List (Str×V))
 | own (x:Addr)
 | xd (fs:List (Str×V))
 | met (f x:Addr)
 | gF (lo hi:Int)
 | d4 (o:Obj) (u:HO)
 | ia (ps:Array Value)
 | ext (φ:Heap->Prop)
abbrev Hp:=Addr->Option HO
def aI (H:Hp) (a:Addr) (o:HO):Hp:=λb=>if b=a then y0 o else H b
def wb :aI H a o a=y0 o:=by unfold aI;rw [if_pos rfl]
def ja (h:b≠a):aI H a o b=H b:=by unfold aI;rw [if_neg h]
def Wa {H:Hp}(h:H a=y0 o) (h':H b=u0):a≠b:=by
 intro e;subst e;rw [h]at h';cases h'
def di (h:Heap) (a:Addr) (b:Array Value):Prop:= ∃o,h.get? a=some o/\o.cls= .type "tuple" /\o.dict=none/\ ∃n,o.data= .seq b n
def di.is (p:di h a items):IsTup h a items:=let ⟨o,e,c,_,n,d⟩:=p; ⟨o,e,c,n,d⟩
theorem di.lt (p:di h a items):a<h.objs.size:=p.is.lt
def di.new (h:Heap) (items):di (h.push { cls:= .type "tuple",data:= .seq items }) h.objs.size items:=⟨_,Heap.get?_push_size _ rfl,rfl,rfl,_,rfl⟩
section
variable (P:Program) (w:World)
def aO (H:Hp) (h:Heap) (a:Addr):HO->Prop
 | .lst xs=>xs.length<=sizeLine/\ ∃(c:List Value) (n:Nat),Vals xs c/\h.get? a=y0 { cls:= .type "list",data:= .seq c.toArray n }
 | .tup xs=>xs.length<=sizeLine/\ ∃c:List Value,Vals xs c/\di h a c.toArray
 | .dK b=>b.length<=sizeLine/\(a==sysModules)=y9/\ ∃e,KV b e/\h.DictOf (qL P w) a e
 | .dT b=>b.length<=sizeLine/\(a==sysModules)=y9/\ ∃xs:List (List dG×Addr×Value),
  Paired (λ(p:List dG×V) (q:List dG×Addr×Value)=>p.1=q.1/\H q.2.1=y0 (.tup (p.1.map kV))/\RelV p.2 q.2.2) b xs ∧
  ∃o es g,h.get? a=y0 o/\o.ExactDict/\o.data= .dict es g/\es.toList=xs.map (entryOfKey (tupleKind (qL P w)))/\(xs.map (·.1)).Nodup
 | .set S n=>h.SetOf (intKind P w) a S n
 | .ins C dx fs=>H dx=y0 (.own a)/\fs.length<=1000/\dx≠a/\h.get? a=y0 (Ao C dx) ∧
  ∃mA,h.Ns1 dx mA/\(∀ f,dB (fs.lookup f) (mA f))/\PySem.Within mA (fs.map (·.1))
 | .own _=> ∃o,h.get? a=y0 o
 | .xd fs=> ∃mA,h.Ns1 a mA/\ ∀f,dB (fs.lookup f) (mA f)
 | .gF lo hi=> ∃t u v,h.get? a=y0 { cls:= .type "range",data:= .fields #[.int lo t,.int hi u,.int 1 v] }
 | .d4 o u=>h.get? a=y0 o/\aO H h a u
 | .ia ps=>h.get? a=y0 { cls:= .none,data:= .fields ps }
 | .met f x=>h.get? a=y0 (PySem.W.methodObj (.ref f) (.ref x))
 | .ext d=>d h/\(∃ o,h.get? a=y0 o)/\ ∀h1 h2:Heap,d h1->(∀ o,h1.get? a=y0 o->h2.get? a=y0 o)->d h2
def cN (H:Hp) (h:Heap):Prop:= ∀a o,H a=y0 o->aO P w H h a o
end
section
variable {P:Program}{w:World}{H H':Hp}{h h':Heap}{a:Addr}{o:HO}
theorem aO.lt (x:aO P w H h a o):a<h.objs.size:=by
 cases o with
 | lst c=>obtain⟨_,_,_,_,e⟩:=x;exact Ab4 e
 | tup c=>obtain⟨_,_,_,p⟩:=x;exact p.lt
 | dK b=>obtain⟨_,_,_,_,o,_,_,e,_⟩:=x;exact Ab4 e
 | dT b=>obtain⟨_,_,_,_,o,_,_,e,_⟩:=x;exact Ab4 e
 | set S n=>obtain⟨o,_,_,_,e,_⟩:=x;exact Ab4 e
 | ins C k fs=>obtain⟨_,_,_,e,_⟩:=x;exact Ab4 e
 | own y=>obtain⟨_,e⟩:=x;exact Ab4 e
 | xd fs=>obtain⟨_,⟨_,_,_,e,_⟩,_⟩:=x;exact Ab4 e
 | gF d l=>obtain⟨_,_,_,e⟩:=x;exact Ab4 e
 | d4 g u=>obtain⟨e,_⟩:=x;exact Ab4 e
 | ia i=>exact Ab4 (x)
 | met f y=>exact Ab4 (x)
 | ext j=>obtain⟨_,⟨_,e⟩,_⟩:=x;exact Ab4 e
theorem Paired.lQ : ∀ {c}{e},Paired F c e->(∀ a b,F a b->G a b)->Paired G c e
 | _,_,.nil,_=> .nil
 | _,_,.cons r t,f=> .cons (f _ _ r) (Paired.lQ t f)
def aO.cn (x:aO P w H h a o) (k: ∀b u,(b=a\/H b=y0 (.own a))->h.get? b=y0 u->h'.get? b=y0 u)
 (I: ∀b,H b=y0 (.own a)->H' b=y0 (.own a)) (E: ∀b xs,H b=y0 (.tup xs)->H' b=y0 (.tup xs)):aO P w H' h' a o:=by
 induction o with
 | lst xs=>obtain⟨z,l,n,r,e⟩:=x;exact⟨z,l,n,r,k _ _ (.inl rfl) e⟩
 | tup xs=>obtain⟨z,l,r,g,e,c⟩:=x;exact⟨z,l,r,g,k _ _ (.inl rfl) e,c⟩
 | dK s=>obtain⟨z,y,F,r,g,j,i,e,c⟩:=x;exact⟨z,y,F,r,g,j,i,k _ _ (.inl rfl) e,c⟩
 | dT s=>
  obtain⟨z,y,xs,r,g,j,i,e,c⟩:=x
  exact⟨z,y,xs,Paired.lQ r λp q z=>⟨z.1,E _ _ z.2.1,z.2.2⟩,g,j,i,k _ _ (.inl rfl) e,c⟩
 | set S n=>obtain⟨g,j,i,t,e,c⟩:=x;exact⟨g,j,i,t,k _ _ (.inl rfl) e,c⟩
 | ins C M fs=>
  obtain⟨d,z,ne,e,A,⟨m,j,i,D,c⟩,r⟩:=x
  exact⟨I _ d,z,ne,k _ _ (.inl rfl) e,A,⟨m,j,i,k _ _ (.inr d) D,c⟩,r⟩
 | own y=>obtain⟨g,e⟩:=x;exact⟨g,k _ _ (.inl rfl) e⟩
 | xd fs=>obtain⟨A,⟨m,j,i,e,c⟩,r⟩:=x;exact⟨A,⟨m,j,i,k _ _ (.inl rfl) e,c⟩,r⟩
 | gF J N=>obtain⟨t,u,v,e⟩:=x;exact⟨t,u,v,k _ _ (.inl rfl) e⟩
 | d4 g u G=>obtain⟨e,q⟩:=x;exact⟨k _ _ (.inl rfl) e,G q⟩
 | ia K=>
  have e:=x
  exact k a _ (.inl rfl) e
 | met f y=>
  have e:=x
  exact k a _ (.inl rfl) e
 | ext L=>obtain⟨p,⟨o,e⟩,B⟩:=x;exact⟨B _ _ p λo q=>k _ _ (.inl rfl) q,⟨o,k _ _ (.inl rfl) e⟩,B⟩
theorem cN.lt (x:cN P w H h) (e:H a=y0 o):a<h.objs.size:=(x a o e).lt
def cN.fresh (x:cN P w H h) (e:h.objs.size<=a):H a=none:=by
 cases q:H a with
 | none=>rfl
 | some u=>exact absurd (Ab (x.lt q) e) (Ag9 _)
def cN.kept (x:cN P w H h) (k: ∀b u,h.get? b=y0 u->h'.get? b=y0 u):cN P w H h':=λa o e=>
 (x a o e).cn (λb u _ q=>k b u q) (λ_ q=>q) λ_ _ q=>q
def cN.laid (x:cN P w H h) (k: ∀b u,h.get? b=y0 u->h'.get? b=y0 u) (f:h.objs.size<=a) (new:aO P w (aI H a o) h' a o):cN P w (aI H a o) h':=λb u e=>by
 have hn:=x.fresh f
 by_cases d:b=a
 ·subst d;rw [wb]at e;cases e;exact new
 ·rw [ja d]at e
  exact(x b u e).cn (λc v _ q=>k c v q) (λc q=>by rw [ja (Wa q hn)];exact q) λc g q=>by rw [ja (Wa q hn)];exact q
end
def Rd (H:Hp) (a:Addr) (u:HO):Prop:=H a=y0 u\/ ∃o,H a=y0 (.d4 o u)
def Rd.ok (r:Rd H a u) (x:cN P w H h):aO P w H h a u:=by
 obtain r | ⟨o,r⟩:=r
 ·exact x a u r
 ·obtain⟨_,q⟩:=x a _ r
  exact q
def mG:Option HO->Prop
 | some (.lst _)=>True
 | some (.dK _)=>True
 | some (.dT _)=>True
 | some (.set _ _)=>True
 | some (.ins _ _ _)=>True
 | some (.ext _)=>True
 | _=>False
section
variable {P:Program}{w:World}{H:Hp}{h h':Heap}{x e:Addr}{o':HO}
def cN.write (ok:cN P w H h) (g:mG (H x)) (o:e=x\/H e=y0 (.own x)) (k: ∀b u,b≠e->h.get? b=y0 u->h'.get? b=y0 u) (m: ∃u,h'.get? e=y0 u)
 (new:aO P w (aI H x o') h' x o'):cN P w (aI H x o') h':=λb u q=>by
 have d: ∀c y,H c=y0 (.own y)->c≠x:=λc y r z=>by subst z;rw [r]at g;exact g
 have f: ∀c j,H c=y0 (.tup j)->c≠x:=λc j r z=>by subst z;rw [r]at g;exact g
 by_cases i:b=x
 ·subst i;rw [wb]at q;cases q;exact new
 ·rw [ja i]at q
  by_cases a:b=e
  ·have n:H b=y0 (.own x):=by
    obtain z | z:=o
    ·exact absurd (a.trans z) i
    ·rw [a];exact z
   rw [q]at n;cases n
   obtain⟨v,p⟩:=m
   exact⟨v,by rw [a];exact p⟩
  ·refine(ok b u q).cn (λc v l r=>k c v ?_ r) (λc r=>by rw [ja (d c b r)];exact r) λc j r=>by rw [ja (f c j r)];exact r
   obtain rfl | l:=l
   ·exact a
   ·rintro rfl
    obtain z | z:=o
    ·exact d c b l z
    ·rw [l]at z;cases z;exact i rfl
end
structure Un (fs ex:List Addr) (H H':Hp) (h h':Heap):Prop where
 keep: ∀b o,h.get? b=y0 o->H b=u0->b∉fs->b∉ex->h'.get? b=y0 o
 slot: ∀b o,h.get? b=y0 o->H b=u0->b∈fs->b∉ex-> ∃sl,h'.get? b=y0 { o with slots:=sl }
 free: ∀b o,h.get? b=y0 o->H b=u0->b∉ex->H' b=u0
 there: ∀b o,h.get? b=y0 o->b∉ex-> ∃o',h'.get? b=y0 o'
 cA: ∀b xs,H b=y0 (.tup xs)->H' b=y0 (.tup xs)
 cu: ∀b o u,H b=y0 (.d4 o u)->H' b=y0 (.d4 o u)
 cH: ∀b ps,H b=y0 (.ia ps)-> ∃more,H' b=y0 (.ia (ps++more))
section
variable {fs fs' ex ex':List Addr}{H H1 H2:Hp}{h h1 h2 h':Heap}{a x e:Addr}{o:HO}
def Un.any (u:Un fs ex H H1 h h1)(q:h.get? b=y0 ob) (n:H b=u0) (a:b∉ex): ∃sl,h1.get? b=y0 { ob with slots:=sl }:=by
 by_cases c:b∈fs
 ·exact u.slot b ob q n c a
 ·exact⟨ob.slots,u.keep b ob q n c a⟩
def Un.kept (k: ∀b u,h.get? b=y0 u->h'.get? b=y0 u):Un fs ex H H h h':=
 ⟨λb a q _ _ _=>k b a q,λb a q _ _ _=>⟨a.slots,k b a q⟩,λ_ _ _ n _=>n,λb a q _=>⟨a,k b a q⟩,λ_ _ q=>q,λ_ _ _ q=>q,λ_ c q=>⟨#[],by rw [q];simp⟩⟩
def Un.refl:Un fs ex H H h h:=Un.kept λ_ _ q=>q
def Un.laid (k: ∀b u,h.get? b=y0 u->h'.get? b=y0 u) (e:h.objs.size<=a) (c:H a=u0):Un fs ex H (aI H a o) h h' where
 keep:=λb u q _ _ _=>k b u q
 slot:=λb u q _ _ _=>⟨u.slots,k b u q⟩
 free:=λb u q n _=>by rw [ja (Ac3 (Ab (Ab4 q) e))];exact n
 there:=λb u q _=>⟨u,k b u q⟩
 cA:=λb d q=>by rw [ja (Wa q c)];exact q
 cu:=λb u d q=>by rw [ja (Wa q c)];exact q
 cH:=λb f q=>⟨#[],by rw [ja (Wa q c),q];simp⟩
def Un.write (c:mG (H x)) (j:e=x\/H e=y0 (.own x)) (k: ∀b u,b≠e->h.get? b=y0 u->h'.get? b=y0 u) (f: ∃u,h'.get? e=y0 u):Un fs ex H (aI H x o) h h':=by
 have g: ∀b,H b=u0->b≠x:=λb n z=>by subst z;rw [n]at c;exact c
 have i: ∀b,H b=u0->b≠e:=λb n z=>by
  subst z
  obtain r | r:=j
  ·exact g b n r
  ·rw [n]at r;cases r
 have d: ∀b u,H b=y0 u-> ¬mG (y0 u)->b≠x:=λb u q l z=>by subst z;rw [q]at c;exact l c
 refine⟨λb u q n _ _=>k b u (i b n) q,λb u q n _ _=>⟨u.slots,k b u (i b n) q⟩,λb u q n _=>by rw [ja (g b n)];exact n,λb u q _=> ?_,
  λb m q=>by rw [ja (d b _ q λz=>z)];exact q,λb u m q=>by rw [ja (d b _ q λz=>z)];exact q,λb p q=>⟨#[],by rw [ja (d b _ q λz=>z),q];simp⟩⟩
 by_cases a:b=e
 ·subst a;exact f
 ·exact⟨u,k b u a q⟩
end
def d9 (h:Heap) (H:Hp):List Addr:=(Aa0 h.objs.size).filter λa=>(H a).isSome
def kR (h:Heap) (H:Hp):Heap:=PySem.W.hideAll h (d9 h H)
def BY (h) (H):(kR h H).objs.size=h.objs.size:=PySem.W.hideAll_size _ _
def L3 (e:h.get? b=y0 o) (n:H b=u0):(kR h H).get? b=y0 o:=
 PySem.W.hideAll_get _ e λa=>by
  have q:=(Ae3.mp a).2
  rw [n]at q;simp at q
def AX (e:(kR h H).get? b=y0 o):h.get? b=y0 o/\H b=none:=by
 have a:=PySem.W.of_hideAll _ e
 refine⟨a,?_⟩
 cases q:H b with
 | none=>rfl
 | some x=>
  have c:b∈d9 h H:=Ae3.mpr ⟨Ab3.mpr (Ab4 a),by simp [q]⟩
  have z:(kR h H).get? b=none:=PySem.W.hideAll_none _ c
  rw [z]at e;cases e
noncomputable def F3 (g h:Heap) (L:Addr):List (Addr×Obj):=(Aa0 h.objs.size).filterMap λa=>if a=L\/(g.get? a).isSome=k9 then u0 else(h.get? a).map λo=>(a,o)
def rest (g h:Heap) (L d:Addr):List (Addr×Obj):=(F3 g h L).filter λp=>v9 (p.1≠d)
structure Mod (K:Aa5) (mg:Str->Option Value) (base:Heap):Prop where
 kO:K.In base
 glob:base.Ns mainGlobals mg
 blt: ∃mb,base.Ns builtinsNs mb/\ ∀x:Str,x≠ "__name__" ->mb x=bootBuiltins x
 nolimit:base.NoLimit
structure Cx where
 prog:Program
 w:World
 K:Aa5
 mg:Str->Option Value
 base:Heap
 A:Around
 N:List Str
 s₀:Shared
 H₀:Hp
 env:Env
 outer:List Env
 stack:List Env
 ex:List Addr
 fn:Str->Bool
 calm:Bool
 pn:List (Addr×Obj)
 xe:Value->Shared->Prop
def bG (l:List Env):List Addr:=l.filterMap (·.frame)
abbrev Cx.fs (X:Cx):List Addr:=bG X.outer
def iL (a:Scope) (x:Str):Prop:=a.names.lookup x=y0 .local\/a.names.lookup x=y0 .cell\/a.names.lookup x=y0 .free
def kN (a:Scope) (x:Str):Prop:=a.names.lookup x=y0 .local\/a.names.lookup x=y0 .cell
def vG (env:Env) (h:Heap) (m:Str->Option Value) (x:Str) (u:Value):Prop:=
 (env.kindOf x=y0 .local/\m x=y0 u)\/((env.kindOf x=y0 .cell\/env.kindOf x=y0 .free)/\ ∃c,env.cells.lookup x=y0 c/\h.IsCell c (y0 u))
structure Cx.Ok (X:Cx):Prop where
 mod:Mod X.K X.mg X.base
 kind:X.env.scope.kind= .function
 glob:X.env.globals=mainGlobals
 blt:X.env.builtins=builtinsNs
 above:X.s₀.heap.objs.size<=X.env.locals
 inj: ∀x y c,X.env.cells.lookup x=y0 c->X.env.cells.lookup y=y0 c->x=y
 has: ∀x,(X.env.kindOf x=y0 .cell\/X.env.kindOf x=y0 .free)-> ∃c,X.env.cells.lookup x=y0 c
 l0: ∀x c,X.fn x=k9->X.env.cells.lookup x=y0 c->X.s₀.heap.objs.size<=c
 hd:X.calm=k9->X.A.handled=u0
 frames:X.A.frames=y0 X.stack
 ka:X.stack=X.outer\/(X.stack=X.env::X.outer/\X.env.frame=y0 X.env.locals)
 mz: ∀b∈X.ex,b≠X.env.locals/\ ∀x c,X.env.cells.lookup x=y0 c->c≠b
 bs: ∀b o,X.base.get? b=y0 o->X.s₀.heap.get? b=y0 o/\X.H₀ b=u0
 gx:X.base.objs.size<=X.s₀.heap.objs.size
 fR: ∀b o,X.base.get? b=y0 o->b∉X.ex
 fN: ∀b∈X.ex,b∉X.fs
 cO:X.s₀.heap.FunFrames X.base X.outer
 iR: ∀b∈X.fs,X.H₀ b=u0
structure Inv (X:Cx) (k8:List (Addr×Obj)) (U:List (Option V)) (H:Hp) (s:Shared):Prop where
 ok:X.Ok
 os:s.os=X.s₀.os
 bare:AllBare s.gens
 base:Un X.fs X.ex X.H₀ H X.s₀.heap s.heap
 loc: ∃m,s.heap.Ns X.env.locals m/\ ∀(i:Nat) (x:Str) (v:V),X.N[i]? =y0 x->U[i]? =y0 (y0 v)->iL X.env.scope x-> ∃u,RelV v u/\vG X.env s.heap m x u
 cell: ∀x c,X.env.cells.lookup x=y0 c-> ∃v,s.heap.IsCell c v
 free:H X.env.locals=u0
 bz: ∀x c,X.env.cells.lookup x=y0 c->H c=u0
 pin: ∀p∈X.pn++k8,s.heap.get? p.1=y0 p.2/\H p.1=u0/\p.1≠X.env.locals/\p.1∉X.fs/\ ∀v,p.2.data≠ .cell v
 aM:cN X.prog X.w H s.heap
 len:U.length=X.N.length
section
variable {X:Cx}{k8:List (Addr×Obj)}{U:List (Option V)}{H H':Hp}{s:Shared}{h':Heap}
def Cx.Ok.nF (ok:X.Ok)(e:X.base.get? b=y0 o):b∉X.fs:=λa=>by
 have:=(ok.cO.mem a).1
 rw [e]at this;cases this
theorem Inv.bs (I:Inv X k8 U H s): ∀b o,X.base.get? b=y0 o->s.heap.get? b=y0 o/\H b=none:=λb o e=>
 ⟨I.base.keep b o (I.ok.bs b o e).1 (I.ok.bs b o e).2 (I.ok.nF e) (I.ok.fR b o e),I.base.free b o (I.ok.bs b o e).1 (I.ok.bs b o e).2 (I.ok.fR b o e)⟩
def Inv.bk (I:Inv X k8 U H s): ∀b o,X.base.get? b=y0 o->s.heap.get? b=y0 o:=λb o e=>(I.bs b o e).1
theorem Inv.mod (I:Inv X k8 U H s):Mod X.K X.mg X.base:=I.ok.mod
def Inv.bM (I:Inv X k8 U H s):X.K.In s.heap:=I.ok.mod.kO.keeps I.bk
theorem Inv.lt (I:Inv X k8 U H s):X.env.locals<s.heap.objs.size:=let ⟨_,hn,_⟩:=I.loc;hn.lt
def Inv.sz (I:Inv X k8 U H s):X.s₀.heap.objs.size<=s.heap.objs.size:=Ac I.ok.above (Ah4 I.lt)
def Inv.nD (I:Inv X k8 U H s)(h:s.heap.objs.size<=a):a∉X.fs:=λc=>by
 obtain⟨_,o,b,_⟩:=I.ok.cO.mem c
 exact absurd (Ab (Ab4 b) (Ac I.sz h)) (Ag9 _)
def Inv.gz (I:Inv X k8 U H s): ∀x c,X.env.cells.lookup x=y0 c->c≠X.env.locals:=λx c e z=>by
 obtain⟨v,o,f,d⟩:=I.cell x c e
 obtain⟨m,⟨g,i,h,a,b,_⟩,_⟩:=I.loc
 rw [z,a]at f;cases f;rw [b]at d;cases d
theorem Inv.cO (I:Inv X k8 U H s):s.heap.FunFrames X.base X.outer:=by
 have all: ∀ l,(∀ b∈bG l,b∈X.fs)->X.s₀.heap.FunFrames X.base l->s.heap.FunFrames X.base l:=by
  intro l
  induction l with
  | nil=>intro _ _;trivial
  | cons k r j=>
   intro f i
   obtain⟨m,⟨L,o,d,hn,n,h⟩,g⟩:=i
   have c:=f L (by unfold bG;rw [An1,d];exact Aa3)
   obtain⟨sl,e⟩:=I.base.slot L o n (I.ok.iR L c) c λz=>I.ok.fN L z c
   exact⟨m,⟨L,_,d,hn,e,h⟩,j (λb a=>f b (by unfold bG;rw [An1,d];exact Aa1 _ a)) g⟩
 exact all X.outer (λ_ a=>a) I.ok.cO
theorem Inv.stack (I:Inv X k8 U H s):s.heap.FunFrames X.base X.stack:=by
 obtain e | ⟨e,a⟩:=I.ok.ka
 ·rw [e];exact I.cO
 ·rw [e]
  obtain⟨m,hn,_⟩:=I.loc
  refine .cons (by rw [I.ok.kind];decide) a hn ?_ I.cO
  exact Heap.get?_none_of_le (Ac I.ok.gx I.ok.above)
def Inv.dz (I:Inv X k8 U H s): ∀b∈bG X.stack,b∈X.env.locals::X.fs:=λb a=>by
 obtain e | ⟨e,c⟩:=I.ok.ka
 ·rw [e]at a;exact Aa1 _ a
 ·rw [e]at a
  unfold bG at a
  rw [An1,c]at a
  exact a
def Inv.cw (I:Inv X k8 U H s): ∀b∈bG X.stack,H b=none:=λb a=>by
 rcases Ab2.mp (I.dz b a)with e | a
 ·rw [e];exact I.free
 ·obtain⟨_,o,c,_⟩:=I.ok.cO.mem a
  exact I.base.free b o c (I.ok.iR b a) λz=>I.ok.fN b z a
def Inv.step {ch:List Addr}(I:Inv X k8 U H s)
 (h: ∀b∈ch,(b∈X.ex\/X.s₀.heap.objs.size<=b)/\b≠X.env.locals/\(∀ x c,X.env.cells.lookup x=y0 c->c≠b)/\ ∀p∈X.pn++k8,p.1≠b)
 (keep: ∀b o,b≠X.env.locals->b∉X.fs->b∉ch->s.heap.get? b=y0 o->H b=u0->h'.get? b=y0 o)
 (y: ∀b o,b≠X.env.locals->b∈X.fs->b∉ch->s.heap.get? b=y0 o->H b=u0-> ∃sl,h'.get? b=y0 { o with slots:=sl }) (f: ∀b o,b∉ch->s.heap.get? b=y0 o->H b=u0->H' b=u0)
 (there: ∀b o,b∉ch->s.heap.get? b=y0 o-> ∃o',h'.get? b=y0 o')
 (G: ∀b xs,H b=y0 (.tup xs)->H' b=y0 (.tup xs)) (F: ∀b o u,H b=y0 (.d4 o u)->H' b=y0 (.d4 o u)) (C: ∀b ps,H b=y0 (.ia ps)-> ∃more,H' b=y0 (.ia (ps++more)))
 (R: ∀m,s.heap.Ns X.env.locals m->h'.Ns X.env.locals m) (L:cN X.prog X.w H' h') (T:AllBare g'):
 Inv X k8 U H' { s with heap:=h',gens:=g',drawn:=d',toks:=t' }:=by
 have D: ∀b o,X.s₀.heap.get? b=y0 o->b≠X.env.locals:=λb o e=>Ac3 (Ab (Ab4 e) I.ok.above)
 have w: ∀b o,X.s₀.heap.get? b=y0 o->b∉X.ex->b∉ch:=λb o e a A=>by
  rcases (h b A).1 with z | z
  ·exact a z
  ·exact absurd (Ab (Ab4 e) z) (Ag9 _)
 have j: ∀x c,X.env.cells.lookup x=y0 c-> ∀v,s.heap.IsCell c v->h'.IsCell c v:=by
  rintro x c e v ⟨o,B,K⟩
  have g:c∉ch:=λz=>(h c z).2.2.1 x c e rfl
  by_cases O:c∈X.fs
  ·obtain⟨sl,q⟩:=y c o (I.gz x c e) O g B (I.bz x c e)
   exact⟨_,q,K⟩
  ·exact⟨o,keep c o (I.gz x c e) O g B (I.bz x c e),K⟩
 refine⟨I.ok,I.os,T,⟨λb o e n A a=> ?_,λb o e n A a=> ?_,λb o e n a=> ?_,λb o e a=> ?_,λb xs e=>G b xs (I.base.cA b xs e),λb o xs e=>F b o xs (I.base.cu b o xs e),λb ps e=> ?_⟩,?_,λx c e=> ?_,?_,λx c e=> ?_,λp M=> ?_,L,I.len⟩
 ·exact keep b o (D b o e) A (w b o e a) (I.base.keep b o e n A a) (I.base.free b o e n a)
 ·obtain⟨sl,t⟩:=I.base.slot b o e n A a
  obtain⟨J,E⟩:=y b _ (D b o e) A (w b o e a) t (I.base.free b o e n a)
  exact⟨J,E⟩
 ·obtain⟨o',t⟩:=I.base.there b o e a
  exact f b o' (w b o e a) t (I.base.free b o e n a)
 ·obtain⟨o',t⟩:=I.base.there b o e a
  exact there b o' (w b o e a) t
 ·obtain⟨Q,t⟩:=I.base.cH b ps e
  obtain⟨V,E⟩:=C b _ t
  exact⟨Q++V,by rw [E,Array.append_assoc]⟩
 ·obtain⟨m,hn,S⟩:=I.loc
  refine⟨m,R m hn,λi x v t E P=> ?_⟩
  obtain⟨u,r,l⟩:=S i x v t E P
  refine⟨u,r,?_⟩
  rcases l with l | ⟨k,c,e,z⟩
  ·exact .inl l
  ·exact .inr ⟨k,c,e,j x c e _ z⟩
 ·obtain⟨v,z⟩:=I.cell x c e
  exact⟨v,j x c e v z⟩
 ·obtain⟨m,⟨o,_,_,B,_⟩,_⟩:=I.loc
  exact f _ o (λz=>(h _ z).2.1 rfl) B I.free
 ·obtain⟨v,o,B,K⟩:=I.cell x c e
  exact f c o (λz=>(h c z).2.2.1 x c e rfl) B (I.bz x c e)
 ·obtain⟨e,n,ne,N,d⟩:=I.pin p M
  have g:p.1∉ch:=λz=>(h p.1 z).2.2.2 p M rfl
  exact⟨keep p.1 p.2 ne N g e n,f p.1 p.2 g e n,ne,N,d⟩
def Inv.un (I:Inv X k8 U H s) (u:Un X.fs [] H H' s.heap h') (f:cN X.prog X.w H' h'):Inv X k8 U H' { s with heap:=h',toks:=t' }:=by
 obtain⟨m,⟨o,t,l,h,r⟩,_⟩:=id I.loc
 obtain⟨sl,j⟩:=u.any h I.free (by simp)
 exact I.step (ch:= []) (λ_ z=>nomatch z) (λb o _ c _ e n=>u.keep b o e n c (by simp)) (λb o _ c _ e n=>u.slot b o e n c (by simp)) (λb o _ e n=>u.free b o e n (by simp)) (λb o _ e=>u.there b o e (by simp)) u.cA u.cu u.cH (λp i=>by
  obtain⟨q,g,d,a,k⟩:=i
  rw [h]at a;cases a
  exact⟨_,g,d,j,k⟩) f I.bare
def Inv.call (I:Inv X k8 U H s) (u:Un (bG X.stack) ch H H' s.heap h') (i:cN X.prog X.w H' h') (t:AllBare g')
 (f: ∀b∈ch,(b∈X.ex\/X.s₀.heap.objs.size<=b)/\b≠X.env.locals/\(∀ x c,X.env.cells.lookup x=y0 c->c≠b)/\ ∀p∈X.pn++k8,p.1≠b):
 Inv X k8 U H' { s with heap:=h',gens:=g',drawn:=d',toks:=t' }:=by
 obtain⟨m,⟨o,B,w,k,r⟩,_⟩:=id I.loc
 obtain⟨sl,g⟩:=u.any k I.free λz=>(f _ z).2.1 rfl
 exact I.step f (λb o g q a e n=>u.keep b o e n (λz=>(Ab2.mp (I.dz b z)).elim g q) a) (λb o _ _ a e n=>u.any e n a) (λb o a e n=>u.free b o e n a) (λb o a e=>u.there b o e a) u.cA u.cu u.cH (λy l=>by
  obtain⟨A,j,h,d,v⟩:=l
  rw [k]at d;cases d
  exact⟨_,j,h,g,v⟩) i t
def Inv.turned (I:Inv X k8 U H s) (k: ∀b o,b≠it->s.heap.get? b=y0 o->h'.get? b=y0 o) (j:H it=u0) (f:it≠X.env.locals)
 (h1:it∈X.ex\/X.s₀.heap.objs.size<=it) (h2: ∀x c,X.env.cells.lookup x=y0 c->c≠it) (l: ∀p∈X.pn++k8,p.1≠it):Inv X k8 U H { s with heap:=h',toks:=t' }:=by
 have d: ∀b u,H b=y0 u->b≠it:=λb u e z=>by rw [z,j]at e;cases e
 refine I.step (ch:= [it]) (λb i=> ?_) (λb o _ _ a e _=>k b o (λz=>a (by simp [z])) e) (λb o _ _ a e _=>⟨o.slots,k b o (λz=>a (by simp [z])) e⟩) (λ_ _ _ _ n=>n)
  (λb o a e=>⟨o,k b o (λz=>a (by simp [z])) e⟩) (λ_ _ e=>e) (λ_ _ _ e=>e) (λb y e=>⟨#[],by rw [e];simp⟩) (λm g=> ?_) (λb u e=> ?_) I.bare
 ·have e:=by simpa using i
  subst e
  exact⟨h1,f,h2,l⟩
 ·obtain⟨o,w,h,t,r⟩:=g
  exact⟨o,w,h,k _ o (Ne.symm f) t,r⟩
 ·refine(I.aM b u e).cn (λc v a q=>k c v ?_ q) (λ_ q=>q) λ_ _ q=>q
  obtain z | z:=a
  ·rw [z];exact d b u e
  ·exact d c _ z
def Inv.tok (I:Inv X k8 U H s) (t):Inv X k8 U H { s with toks:=t }:=I.un Un.refl I.aM
theorem Inv.kept (I:Inv X k8 U H s) (k: ∀b u,s.heap.get? b=y0 u->h'.get? b=y0 u):Inv X k8 U H { s with heap:=h',toks:=t' }:=I.un (Un.kept k) (I.aM.kept k)
theorem Inv.laid (I:Inv X k8 U H s) (k: ∀b u,s.heap.get? b=y0 u->h'.get? b=y0 u) (c:s.heap.objs.size<=a) (new:aO X.prog X.w (aI H a o) h' a o):
 Inv X k8 U (aI H a o) { s with heap:=h',toks:=t' }:=I.un (Un.laid k c (I.aM.fresh c)) (I.aM.laid k c new)
theorem Inv.write (I:Inv X k8 U H s) (d:mG (H x)) (c:e=x\/H e=y0 (.own x)) (k: ∀b u,b≠e->s.heap.get? b=y0 u->h'.get? b=y0 u) (a: ∃u,h'.get? e=y0 u)
 (new:aO X.prog X.w (aI H x o) h' x o):Inv X k8 U (aI H x o) { s with heap:=h',toks:=t' }:=I.un (Un.write d c k a) (I.aM.write d c k a new)
def Inv.bF (I:Inv X k8 U H s) (h: ∀p∈pins',s.heap.get? p.1=y0 p.2/\H p.1=u0/\p.1≠X.env.locals/\p.1∉X.fs/\ ∀v,p.2.data≠ .cell v):Inv X pins' U H s:=
 ⟨I.ok,I.os,I.bare,I.base,I.loc,I.cell,I.free,I.bz,λp a=>(Af0.mp a).elim (λz=>I.pin p (Ac9 _ z)) (h p),I.aM,I.len⟩
def QL {N:List Str}(c:N.Nodup){i j:Nat}(a:N[i]? =y0 x) (b:N[j]? =y0 x):i=j:=by
 obtain⟨g,e⟩:=Ac0.mp a
 obtain⟨f,d⟩:=Ac0.mp b
 exact(List.getElem_inj c).mp (e.trans d.symm)
def HQ (I:Inv X k8 U H s) (hN:X.N.Nodup) (S:X.N[i]? =y0 x) (w:kN X.env.scope x) (r:RelV v u)
 (h: ∀s',Inv X k8 (U.set i (y0 v)) H s'->(∃ a,Aj8 a s.heap s'.heap/\(a=X.env.locals\/X.env.cells.lookup x=y0 a))->Q () s') (hf:X.fn x=k9\/X.env.scope.names.lookup x=y0 .local:=by first | exact .inl rfl | exact .inr rfl | assumption):wpAny M A (storeName X.env x u) Q E s:=by
 obtain⟨m,hn,hl⟩:=id I.loc
 have N:(X.env.scope.kind== .class||(X.env.scope.kind== .module&&X.env.locals != X.env.globals))=false:=by rw [I.ok.kind];rfl
 have R:i<U.length:=by rw [I.len];exact(Ac0.mp S).1
 have gz:=I.gz
 have l: ∀ {a}{K},(∃ o,s.heap.get? a=y0 o/\H a=u0)->Aj8 a s.heap K->cN X.prog X.w H K:=λ{a K} ha f b ob e=>by
  obtain⟨_,_,B⟩:=ha
  refine(I.aM b ob e).cn (λc V t q=>(f.2 c ?_).trans q) (λ_ q=>q) λ_ _ q=>q
  rintro rfl
  rcases t with rfl | t
  ·rw [B]at e;cases e
  ·rw [B]at t;cases t
 rcases w with D | D
 ·refine wpAny_storeName_local D hn (λK hn' f=> ?_) N
  obtain⟨oL,_,_,hoL,_⟩:=id hn
  refine h _ ⟨I.ok,I.os,I.bare,⟨λb o e n G w=> ?_,λb o e n G w=> ?_,I.base.free,λb o e w=> ?_,I.base.cA,I.base.cu,I.base.cH⟩,⟨_,hn',λj y v' g C Y=> ?_⟩,λy c e=> ?_,I.free,I.bz,λp hp=> ?_,l ⟨oL,hoL,I.free⟩ f,by simpa using I.len⟩ ⟨_,f,.inl rfl⟩
  ·exact(f.2 b (Ac3 (Ab (Ab4 e) I.ok.above))).trans (I.base.keep b o e n G w)
  ·obtain⟨sl,g⟩:=I.base.slot b o e n G w
   exact⟨sl,(f.2 b (Ac3 (Ab (Ab4 e) I.ok.above))).trans g⟩
  ·obtain⟨o',g⟩:=I.base.there b o e w
   exact⟨o',(f.2 b (Ac3 (Ab (Ab4 e) I.ok.above))).trans g⟩
  ·by_cases J:j=i
   ·subst J
    rw [S]at g;cases g
    rw [Ad5 R]at C
    cases C
    exact⟨u,r,.inl ⟨D,by simp⟩⟩
   ·rw [Ad3 (Ne.symm J)]at C
    obtain⟨Z,r',q⟩:=hl j y v' g C Y
    refine⟨Z,r',?_⟩
    rcases q with⟨k,e⟩ | ⟨k,c,e,z⟩
    ·refine .inl ⟨k,?_⟩
     have:y≠x:=λe=>J (QL hN g (e▸S))
     simp [this,e]
    ·exact .inr ⟨k,c,e,z.sameBut f (gz y c e)⟩
  ·obtain⟨V,z⟩:=I.cell y c e
   exact⟨V,z.sameBut f (gz y c e)⟩
  ·obtain⟨e,n,ne,nf,d⟩:=I.pin p hp
   exact⟨(f.2 p.1 ne).trans e,n,ne,nf,d⟩
 ·have F:X.fn x=true:=by
   rcases hf with z | z
   ·exact z
   ·rw [z]at D;cases D
  obtain⟨c,t⟩:=I.ok.has x (.inl D)
  obtain⟨V,z⟩:=I.cell x c t
  refine wpAny_storeName_cell I.ok.kind D t z (λK O f=> ?_)
  obtain⟨oc,L,T⟩:=id z
  refine h { s with heap:=K } ⟨I.ok,I.os,I.bare,⟨λb o e n G w=> ?_,λb o e n G w=> ?_,I.base.free,λb o e w=> ?_,I.base.cA,I.base.cu,I.base.cH⟩,⟨m,hn.sameBut f (Ne.symm (gz x c t)),λj y v' g C Y=> ?_⟩,λy W e=> ?_,I.free,I.bz,λp hp=> ?_,l ⟨oc,L,I.bz x c t⟩ f,by simpa using I.len⟩ ⟨c,f,.inr t⟩
  ·exact(f.2 b (Ac3 (Ab (Ab4 e) (I.ok.l0 x c F t)))).trans (I.base.keep b o e n G w)
  ·obtain⟨sl,g⟩:=I.base.slot b o e n G w
   exact⟨sl,(f.2 b (Ac3 (Ab (Ab4 e) (I.ok.l0 x c F t)))).trans g⟩
  ·obtain⟨o',g⟩:=I.base.there b o e w
   exact⟨o',(f.2 b (Ac3 (Ab (Ab4 e) (I.ok.l0 x c F t)))).trans g⟩
  ·by_cases J:j=i
   ·subst J
    rw [S]at g;cases g
    rw [Ad5 R]at C
    cases C
    exact⟨u,r,.inr ⟨.inl D,c,t,O⟩⟩
   ·rw [Ad3 (Ne.symm J)]at C
    obtain⟨Z,r',q⟩:=hl j y v' g C Y
    refine⟨Z,r',?_⟩
    rcases q with q | ⟨k,W,e,z'⟩
    ·exact .inl q
    ·refine .inr ⟨k,W,e,z'.sameBut f ?_⟩
     rintro rfl
     exact J (QL hN g (I.ok.inj _ _ _ e t▸S))
  ·by_cases P:W=c
   ·subst P;exact⟨_,O⟩
   ·obtain⟨w2,z2⟩:=I.cell y W e
    exact⟨w2,z2.sameBut f P⟩
  ·obtain⟨e,n,ne,nf,d⟩:=I.pin p hp
   refine⟨(f.2 p.1 ?_).trans e,n,ne,nf,d⟩
   intro q
   rw [q,L]at e
   have q':=Ae4.inj e
   exact d V (by rw [← q'];exact T)
def zo (I:Inv X k8 U H s) (a:X.N.Nodup) (c:X.N[i]? =y0 x) (b:kN X.env.scope x) (r:RelV v u)
 (h: ∀s',Inv X k8 (U.set i (y0 v)) H s'->Q () s') (d:X.fn x=k9\/X.env.scope.names.lookup x=y0 .local:=by first | exact .inl rfl | exact .inr rfl | assumption):wpAny M A (storeName X.env x u) Q E s:=
 HQ I a c b r (λs' e _=>h s' e) d
def Inv.ik (I:Inv X k8 U H s) (g:s'.os=s.os) (u:Un (bG X.stack) ch H H' s.heap s'.heap) (d:cN X.prog X.w H' s'.heap) (f:AllBare s'.gens)
 (a: ∀b∈ch,(b∈X.ex\/X.s₀.heap.objs.size<=b)/\b≠X.env.locals/\(∀ x c,X.env.cells.lookup x=y0 c->c≠b)/\ ∀p∈X.pn++k8,p.1≠b):Inv X k8 U H' s':=by
 obtain⟨h,l,j,i,k⟩:=s'
 have e:=g
 subst e
 exact I.call u d f a
end
abbrev XK:=Value->Option Addr->Hp->Prop
abbrev St:=List (Option V)
abbrev VK:=V->Hp->Prop
abbrev TE:=St->Hp->VK->Prop
abbrev TT:=St->Hp->(Bool->Hp->Prop)->Prop
abbrev TA:=St->Hp->(List V->Hp->Prop)->Prop
structure iz where
 nx:St->Hp->Prop
 rt:VK
 bk:St->Hp->Prop:=λ_ _=>False
 ct:St->Hp->Prop:=λ_ _=>False
abbrev TS:=iz->St->Hp->Prop
def EP (X:Cx) (a:List (Addr×Obj)) (U:St) (Q:VK) (u:Value) (s':Shared):Prop:= ∃v H',Inv X a U H' s'/\RelV v u/\Q v H'
def TP (X:Cx) (a:List (Addr×Obj)) (U:St) (Q:Bool->Hp->Prop) (b:Bool) (s':Shared):Prop:= ∃H',Inv X a U H' s'/\Q b H'
def AP (X:Cx) (a:List (Addr×Obj)) (U:St) (Q:List V->Hp->Prop) (c:List Value) (s':Shared):Prop:= ∃b H',Inv X a U H' s'/\Vals b c/\Q b H'
def SP (X:Cx) (a:List (Addr×Obj)) (D:iz) (f:Flow) (s':Shared):Prop:=
 match f with
 | .next=> ∃b H',Inv X a b H' s'/\D.nx b H'
 | .brk=> ∃b H',Inv X a b H' s'/\D.bk b H'
 | .cont=> ∃b H',Inv X a b H' s'/\D.ct b H'
 | .ret u=> ∃v b H',Inv X a b H' s'/\RelV v u/\D.rt v H'
def PE (X:Cx) (e:Expr) (t:TE):Prop:=
 ∀(k8:List (Addr×Obj)) (s:Shared) (U:St) (H:Hp) (Q:VK),Inv X k8 U H s->t U H Q->wpAny (model X.prog X.w) X.A (eval e X.env) (EP X k8 U Q) X.xe s
def PT (X:Cx) (e:Expr) (t:TT):Prop:=
 ∀(k8:List (Addr×Obj)) (s:Shared) (U:St) (H:Hp) (Q:Bool->Hp->Prop),Inv X k8 U H s->t U H Q->wpAny (model X.prog X.w) X.A (isTrue e X.env (eval e X.env)) (TP X k8 U Q) X.xe s
def PW (X:Cx) (e:Expr) (t:TT):Prop:=
 ∀(a:Sem Value) (k8:List (Addr×Obj)) (s:Shared) (U:St) (H:Hp) (Q:Bool->Hp->Prop),Inv X k8 U H s->t U H Q->wpAny (model X.prog X.w) X.A (isTrue e X.env a) (TP X k8 U Q) X.xe s
def PW.pt (h:PW X e t):PT X e t:=h _
def PA (X:Cx) (es:List Expr) (t:TA):Prop:=
 ∀(pos:Pos) (k8:List (Addr×Obj)) (s:Shared) (U:St) (H:Hp) (Q:List V->Hp->Prop),Inv X k8 U H s->t U H Q->wpAny (model X.prog X.w) X.A (spliced (backTo pos (starEach es X.env))) (AP X k8 U Q) X.xe s
def PS (X:Cx) (st:Stmt) (t:TS):Prop:=
 ∀(k8:List (Addr×Obj)) (s:Shared) (U:St) (H:Hp) (D:iz),Inv X k8 U H s->t D U H->wpAny (model X.prog X.w) X.A (exec st X.env) (SP X k8 D) X.xe s
def cK (X:Cx) (st:List Stmt) (t:TS):Prop:=
 ∀(k8:List (Addr×Obj)) (s:Shared) (U:St) (H:Hp) (D:iz),Inv X k8 U H s->t D U H->wpAny (model X.prog X.w) X.A (execs st X.env) (SP X k8 D) X.xe s
def aL (h:wpAny M A t Q E s) (b: ∀a s,Q a s->Q' a s):wpAny M A t Q' E s:=wpAny_mono h b λ_ _ x=>x
section
variable {X:Cx}
def bin (j:PE X a ta) (m:PE X b tb){R:V->V->Hp->Prop}(I:Inv X k8 U H s) (h:ta U H λx H1=>tb U H1 λy H2=>R x y H2)
 {f:Value->Value->Sem α}
 (o: ∀v u g x y H2,Inv X k8 U H2 g->RelV x v->RelV y u->R x y H2->wpAny (model X.prog X.w) X.A (f v u) Q X.xe g):
 wpAny (model X.prog X.w) X.A (eval a X.env) (λv e=>wpAny (model X.prog X.w) X.A (eval b X.env) (λu c=>wpAny (model X.prog X.w) X.A (f v u) Q X.xe c) X.xe e) X.xe s:=by
 refine aL (j k8 s U H _ I h) ?_
 rintro v p ⟨x,H1,d,n,q⟩
 refine aL (m k8 p U H1 _ d q) ?_
 rintro u g ⟨y,H2,k,l,i⟩
 exact o v u g x y H2 k n l i
def mY (i:Nat):TE:=λU H Q=> ∃v,U[i]? =y0 (y0 v)/\Q v H
def tC (v:V):TE:=λ_ H Q=>Q v H
def Ql (o:X.N[i]? =some x) (p:iL X.env.scope x) (g:(x==("__debug__" :Str))=false:=by decide) (f:(x==("__classdict__" :Str))=false:=by decide):PE X (.Name x pos) (mY i):=by
 intro d s U H Q I h
 obtain⟨v,e,h⟩:=h
 obtain⟨m,hn,n⟩:=I.loc
 obtain⟨u,r,l⟩:=n i x v o e p
 have fin:EP X d U Q u s:=⟨v,H,I,r,h⟩
 obtain⟨b,k⟩ | ⟨b,c,j,a⟩:=l
 ·exact wpAny_Name (wpAny_loadName_local I.ok.kind b hn k fin) g
 ·obtain b | b:=b
  ·exact wpAny_Name (wpAny_loadName_cell I.ok.kind b j a fin) g
  ·exact wpAny_Name (wpAny_loadName_free I.ok.kind b j a fin f) g
def sr {i j pos}:PE X (.Constant (.int i) j pos) (tC (.int i)):=λ_ _ _ H _ I h=>wpAny_Constant_int ⟨.int i,H,I.tok _,⟨_,rfl⟩,h⟩
def Ec {b j pos}:PE X (.Constant (.bool b) j pos) (tC (.bl b)):=λ_ _ _ H _ I h=>Constant_bool ⟨.bl b,H,I,rfl,h⟩
def B1 {j pos}:PE X (.Constant .none j pos) (tC .av):=λ_ _ _ H _ I h=>Constant_none ⟨.av,H,I,rfl,h⟩
def EV {x j pos}:PE X (.Constant (.str x) j pos) (tC (.str x)):=λ_ _ _ H _ I h=>Calls.Constant_str ⟨.str x,H,I.tok _,⟨_,rfl⟩,h⟩
def Gl (X:Cx) (x:Str):Prop:=X.env.kindOf x=y0 .globalImplicit
def jx (I:Inv X k8 U H s) (b:Gl X x) (c:X.mg x=y0 u) (h:Q u s)
 (a:(x==("__debug__" :Str))=false:=by decide):wpAny (model X.prog X.w) X.A (eval (.Name x pos) X.env) Q E s:=
 Calls.Name_function_global I.ok.kind b (Calls.loadGlobal_global (by rw [I.ok.glob];exact I.mod.glob.keeps I.bk) c h) a
def zz (I:Inv X k8 U H s) (c:Gl X x) (f:X.mg x=u0) (g:bootBuiltins x=y0 u) (h:Q u s)
 (d:x≠ "__name__" :=by decide) (b:(x==("__debug__" :Str))=false:=by decide):wpAny (model X.prog X.w) X.A (eval (.Name x pos) X.env) Q E s:=by
 obtain⟨i,e,a⟩:=I.mod.blt
 exact Calls.Name_function_global I.ok.kind c (Calls.loadGlobal_builtin (by rw [I.ok.glob];exact I.mod.glob.keeps I.bk) f (by rw [I.ok.blt];exact e.keeps I.bk) ((a x d).trans g) h) b
def zY (b:Gl X x) (c:X.mg x=some u) (r:RelV v u) (a:(x==("__debug__" :Str))=false:=by decide):PE X (.Name x pos) (tC v):=
 λ_ _ _ H _ I h=>jx I b c ⟨v,H,I,r,h⟩ a
def uE (b:Gl X x) (d:X.mg x=none) (e:bootBuiltins x=some u) (r:RelV v u) (c:x≠ "__name__" :=by decide) (a:(x==("__debug__" :Str))=false:=by decide):PE X (.Name x pos) (tC v):=
 λ_ _ _ H _ I h=>zz I b d e ⟨v,H,I,r,h⟩ c a
variable {a b:Expr}{ta tb:TE}{pos:Pos}
def PC (X:Cx) (op:CmpOp) (a b:Expr) (t:TE):Prop:=
 ∀(k8:List (Addr×Obj)) (s:Shared) (U:St) (H:Hp) (Q:VK),Inv X k8 U H s->t U H Q →
  wpAny (model X.prog X.w) X.A (eval a X.env) (λv d=>wpAny (model X.prog X.w) X.A (eval b X.env) (λu c=>wpAny (model X.prog X.w) X.A (compareOp op v u) (EP X k8 U Q) X.xe c) X.xe d) X.xe s
def W8 (b)(h:op≠ .In) (h2:op≠ .NotIn):behindInMarks op b=false:=by
 have c:(op==CmpOp.In)=false:=by cases op<;>first | rfl | exact absurd rfl h
 have a:(op==CmpOp.NotIn)=false:=by cases op<;>first | rfl | exact absurd rfl h2
 cases b<;>simp [behindInMarks,c,a]
def FU (a:TE):TE:=λU H Q=>a U H λx H1=>Q (.bl (v9 (x= .av))) H1
def Cm (a:TE):TE:=λU H Q=>a U H λx H1=>Q (.bl (!v9 (x= .av))) H1
def RelV.dQ (r:RelV x v):(v==Value.none)=v9 (x= .av):=by
 cases x with
 | av=>cases r;rfl
 | bl _=>cases r;rfl
 | int _=>obtain⟨t,rfl⟩:=r;rfl
 | str _=>obtain⟨t,rfl⟩:=r;rfl
 | iI _=>obtain⟨t,rfl⟩:=r;rfl
 | ie _=>obtain⟨t,rfl⟩:=r;rfl
 | ref _=>cases r;rfl
 | ty _=>cases r;rfl
def sX {j pos'}(g:PE X a ta):PC X .Is a (.Constant .none j pos') (FU ta):=by
 intro b s U H Q I h
 refine aL (g b s U H _ I h) ?_
 rintro v i ⟨x,c,d,e,f⟩
 exact Constant_none (is_none_gen ⟨.bl _,c,d,by rw [e.dQ];rfl,f⟩)
def uY {j pos'}(g:PE X a ta):PC X .IsNot a (.Constant .none j pos') (Cm ta):=by
 intro b s U H Q I h
 refine aL (g b s U H _ I h) ?_
 rintro v i ⟨x,c,d,e,f⟩
 exact Constant_none (isnot_none_gen ⟨.bl _,c,d,by rw [e.dQ];rfl,f⟩)
def tB (t:TE):TT:=λU H Q=>t U H λx H1=> ∃c,x= .bl c/\Q c H1
def vk (h:PC X op a b t) (h1:behindInMarks op b=false:=by first | exact W8 _ (by decide) (by decide) | rfl):PE X (.Compare a [op] [b] pos) t:=λc s U H Q I d=>wpAny_Compare1 (h c s U H Q I d) h1
def ur (h:PC X op a b t) (h1:behindInMarks op b=false:=by first | exact W8 _ (by decide) (by decide) | rfl):PT X (.Compare a [op] [b] pos) (tB t):=by
 intro e s U H Q I i
 refine wpAny_isTrue_Compare1 (aL (h e s U H _ I i) λv o h1=>aL h1 λu n j=>aL j λc m ⟨x,k,f,g,l⟩=> ?_) h1
 obtain⟨d,rfl,q⟩:=l
 cases g
 exact wpAny_truthy_bool ⟨k,f,q⟩
variable {tA tB':TT}{rest:List Expr}
def HB (t u:TT):TT:=λU H Q=>t U H λc H1=>if c=k9 then u U H1 Q else Q y9 H1
def Dw (t u:TT):TT:=λU H Q=>t U H λc H1=>if c=k9 then Q k9 H1 else u U H1 Q
def By (t:TT):TT:=λU H Q=>t U H λc H1=>Q (!c) H1
def Cr (d:PT X a tA):PW X (.BoolOp .And [a] pos) tA:=by
 intro g b s U H Q I h
 refine isTrue_and (aL (d b s U H Q I h) λc f e=> ?_)
 cases c with
 | true=>exact isTrue_and_nil e
 | false=>exact e
def Bq (d:PT X a tA):PW X (.BoolOp .Or [a] pos) tA:=by
 intro g b s U H Q I h
 refine isTrue_or (aL (d b s U H Q I h) λc f e=> ?_)
 cases c with
 | false=>exact isTrue_or_nil e
 | true=>exact e
def CI (j:PT X a tA) (l:PW X (.BoolOp .And (b::rest) pos) tB'):PW X (.BoolOp .And (a::b::rest) pos) (HB tA tB'):=by
 intro k d s U H Q I h
 refine isTrue_and (aL (j d s U H _ I h) ?_)
 rintro c i ⟨e,f,g⟩
 cases c with
 | true=>exact l k d i U e Q f g
 | false=>exact⟨e,f,g⟩
def DC (j:PT X a tA) (l:PW X (.BoolOp .Or (b::rest) pos) tB'):PW X (.BoolOp .Or (a::b::rest) pos) (Dw tA tB'):=by
 intro k d s U H Q I h
 refine isTrue_or (aL (j d s U H _ I h) ?_)
 rintro c i ⟨e,f,g⟩
 cases c with
 | true=>exact⟨e,f,g⟩
 | false=>exact l k d i U e Q f g
def ym (e:PT X a tA):PT X (.UnaryOp .Not a pos) (By tA):=by
 intro b s U H Q I h
 exact isTrue_not (e b s U H (λc d=>Q (!c) d) I h)
def vM {op}(h:PE X a t):PE X (.BoolOp op [a] pos) t:=λb s U H Q I c=>BoolOp_one (h b s U H Q I c)
end
def a8 (K:Aa5) (H:Hp) (a:Addr) (xs:List V):Prop:=
 Rd H a (.lst xs) ∨
  ∃(o:Obj) (b:Array Value) (n:Nat),K.lookup a=some o/\o.cls= .type "list" /\o.dict=none/\o.data= .seq b n/\b.size<=sizeLine/\Vals xs b.toList
def bI (K:Aa5) (H:Hp) (a:Addr) (xs:List V):Prop:=
 Rd H a (.tup xs) ∨
  ∃(o:Obj) (b:Array Value) (n:Nat),K.lookup a=y0 o/\o.cls= .type "tuple" /\o.data= .seq b n/\b.size<=sizeLine/\Vals xs b.toList
noncomputable def A6:Value->Option V
 | .none=>y0 .av
 | .bool b=>y0 (.bl b)
 | .int i _=>y0 (.int i)
 | .str x _=>y0 (.str x)
 | .bytes b _=>y0 (.iI b)
 | .float b _=>y0 (.ie b)
 | .ref a=>y0 (.ref a)
 | .type n=>y0 (.ty n)
 | _=>u0
def RelV.abs (r:RelV x u):A6 u=y0 x:=by
 cases x with
 | av=>cases r;rfl
 | bl _=>cases r;rfl
 | int _=>obtain⟨t,rfl⟩:=r;rfl
 | str _=>obtain⟨t,rfl⟩:=r;rfl
 | iI _=>obtain⟨t,rfl⟩:=r;rfl
 | ie _=>obtain⟨t,rfl⟩:=r;rfl
 | ref _=>cases r;rfl
 | ty _=>cases r;rfl
theorem RelV.inj (r:RelV x u) (q:RelV y u):x=y:=Ae4.inj (r.abs.symm.trans q.abs)
theorem Vals.inj: ∀ {xs ys}{a},Vals xs a->Vals ys a->xs=ys
 | _,_,_,.nil,.nil=>rfl
 | _,_,_,.cons r t,.cons c b=>by rw [r.inj c,Vals.inj t b]
section
variable {X:Cx}{k8:List (Addr×Obj)}{U:St}{H:Hp}{s:Shared}{a:Addr}{xs ys:List V}
def a8.of {K:Aa5}(h:H a=y0 (.lst xs)):a8 K H a xs:= .inl (.inl h)
def Inv.list (I:Inv X k8 U H s) (h:a8 X.K H a xs): ∃b:List Value,Vals xs b/\PlainL s.heap a b.toArray/\xs.length<=sizeLine:=by
 obtain h | ⟨o,b,n,d,c,f,g,i,r⟩:=h
 ·obtain⟨z,b,n,r,e⟩:=h.ok I.aM
  exact⟨b,r,⟨_,n,e,rfl,rfl,rfl⟩,z⟩
 ·refine⟨b.toList,r,⟨o,n,I.bM a o d,c,f,by simpa using g⟩,?_⟩
  have e:=r.length
  simp [An]at e
  lia
def Inv.tuple (I:Inv X k8 U H s) (h:bI X.K H a xs): ∃b:List Value,Vals xs b/\IsTup s.heap a b.toArray/\xs.length<=sizeLine:=by
 obtain h | ⟨o,b,n,d,c,f,g,r⟩:=h
 ·obtain⟨z,b,r,p⟩:=h.ok I.aM
  exact⟨b,r,p.is,z⟩
 ·refine⟨b.toList,r,⟨o,I.bM a o d,c,n,by simpa using f⟩,?_⟩
  have e:=r.length
  simp [An]at e
  lia
def Inv.c9 (I:Inv X k8 U H s) (h:a8 X.K H a xs) (h':a8 X.K H a ys):xs=ys:=by
 obtain⟨c,r,⟨o,n,e,_,_,d⟩,_⟩:=I.list h
 obtain⟨b,i,⟨l,k,f,_,_,g⟩,_⟩:=I.list h'
 rw [e]at f;cases f
 rw [d]at g
 injection g with j _
 have:c=b:=by simpa using congrArg Array.toList j
 subst this
 exact r.inj i
def Inv.cJ (I:Inv X k8 U H s) (h:bI X.K H a xs) (h':bI X.K H a ys):xs=ys:=by
 obtain⟨c,r,⟨o,e,_,n,d⟩,_⟩:=I.tuple h
 obtain⟨b,i,⟨l,f,_,k,g⟩,_⟩:=I.tuple h'
 rw [e]at f;cases f
 rw [d]at g
 injection g with j _
 have:c=b:=by simpa using congrArg Array.toList j
 subst this
 exact r.inj i
end
abbrev Cx.dh (X:Cx) (E:Value->Shared->Prop):Cx:= { X with xe:=E }
abbrev Cx.fm (X:Cx):Cx:=X.dh λ_ _=>False
theorem Cx.Ok.dh {X:Cx}(ok:X.Ok) (E:Value->Shared->Prop):(X.dh E).Ok:=
 ⟨ok.mod,ok.kind,ok.glob,ok.blt,ok.above,ok.inj,ok.has,ok.l0,ok.hd,ok.frames,ok.ka,ok.mz,ok.bs,ok.gx,ok.fR,ok.fN,ok.cO,ok.iR⟩
def Cx.Ok.bR {X:Cx}(ok:(X.dh E).Ok):X.Ok:=
 ⟨ok.mod,ok.kind,ok.glob,ok.blt,ok.above,ok.inj,ok.has,ok.l0,ok.hd,ok.frames,ok.ka,ok.mz,ok.bs,ok.gx,ok.fR,ok.fN,ok.cO,ok.iR⟩
section
variable {X:Cx}{k8:List (Addr×Obj)}{U:St}{H:Hp}{s:Shared}{E:Value->Shared->Prop}
theorem Inv.dh (I:Inv X k8 U H s) (E):Inv (X.dh E) k8 U H s:=⟨I.ok.dh E,I.os,I.bare,I.base,I.loc,I.cell,I.free,I.bz,I.pin,I.aM,I.len⟩
theorem Inv.bR (I:Inv (X.dh E) k8 U H s):Inv X k8 U H s:=⟨I.ok.bR,I.os,I.bare,I.base,I.loc,I.cell,I.free,I.bz,I.pin,I.aM,I.len⟩
theorem SP.bR (h:SP (X.dh E) k8 D f s'):SP X k8 D f s':=by
 cases f with
 | next=>obtain⟨a,b,I,q⟩:=h;exact⟨a,b,I.bR,q⟩
 | brk=>obtain⟨a,b,I,q⟩:=h;exact⟨a,b,I.bR,q⟩
 | cont=>obtain⟨a,b,I,q⟩:=h;exact⟨a,b,I.bR,q⟩
 | ret u=>obtain⟨v,a,b,I,r,q⟩:=h;exact⟨v,a,b,I.bR,r,q⟩
end
section
variable {X:Cx}{st:Stmt}{rest:List Stmt}{t u:TS}{e:Expr}{te:TE}{pos:Pos}
def Dn:TS:=λD U H=>D.nx U H
def Cu (t u:TS):TS:=λD U H=>t { D with nx:=u D } U H
def LW:cK X [] Dn:=λ_ _ U H _ I h=>wpAny_execs_nil ⟨U,H,I,h⟩
def yi (h1:PS X st t) (h2:cK X rest u):cK X (st::rest) (Cu t u):=by
 intro a s U H D I h
 refine wpAny_execs_cons (aL (h1 a s U H { D with nx:=u D } I h) λf c q=> ?_)
 cases f with
 | next=>
  obtain⟨d,e,b,q⟩:=q
  exact h2 a c d e D b q
 | ret v=>exact q
 | brk=>exact q
 | cont=>exact q
def ET (h1:PS X st t):cK X [st] t:=by
 intro a s U H D I h
 refine wpAny_execs_cons (aL (h1 a s U H D I h) λf b q=> ?_)
 cases f with
 | next=>exact wpAny_execs_nil q
 | ret v=>exact q
 | brk=>exact q
 | cont=>exact q
def Inv.quiet (I:Inv X k8 U H s):interactive X.env=false:=by simp [interactive,I.ok.kind]
def BL (a:TE):TS:=λD U H=>a U H λ_ H1=>D.nx U H1
def WI (b:PE X e te) (g:swapsWith e u0 pos.line X.env=pure false:=by rfl):PS X (.Expr e pos) (BL te):=by
 intro a s U H D I h
 exact wpAny_Expr_any (aL (b a s U H _ I h) λv j ⟨x,c,d,i,f⟩=>⟨U,c,d,f⟩) I.quiet g
def Ba (a:TE):TS:=λD U H=>a U H D.rt
def v7 (b:PE X e te):PS X (.Return (y0 e) pos) (Ba te):=by
 intro a s U H D I h
 exact wpAny_Return_some (aL (b a s U H _ I h) λv i ⟨x,c,d,f,g⟩=>⟨x,U,c,d,f,g⟩)
def L1 (c:TT) (t u:TS):TS:=λD U H=>c U H λb H1=>if b=k9 then t D U H1 else u D U H1
def IG (k:PT X c tc) (l:cK X a t) (m:cK X b u):PS X (.If c a b pos) (L1 tc t u):=by
 intro e s U H D I h
 refine wpAny_If (aL (k e s U H _ I h) ?_)
 rintro d i ⟨f,g,j⟩
 cases d with
 | true=>exact l e i U f D g j
 | false=>exact m e i U f D g j
end
abbrev TG:=V->St->Hp->(St->Hp->Prop)->Prop
abbrev lh:=List V->St->Hp->(St->Hp->Prop)->Prop
def PG (X:Cx) (a:Expr) (t:TG):Prop:=
 ∀(k8:List (Addr×Obj)) (s:Shared) (U:St) (H:Hp) (v:V) (u:Value) (Q:St->Hp->Prop),Inv X k8 U H s->RelV v u->t v U H Q →
  wpAny (model X.prog X.w) X.A (assign a X.env u) (λ_ s'=> ∃b H',Inv X k8 b H' s'/\Q b H') X.xe s
def l9 (X:Cx) (ts:List Expr) (t:lh):Prop:=
 ∀(k8:List (Addr×Obj)) (s:Shared) (U:St) (H:Hp) (c:List V) (a:List Value) (Q:St->Hp->Prop),Inv X k8 U H s->Vals c a->t c U H Q →
  wpAny (model X.prog X.w) X.A (assignInOrder ((assignEach ts X.env).map (·.2)) a) (λ_ s'=> ∃b H',Inv X k8 b H' s'/\Q b H') X.xe s
abbrev sO:=V->V->V->Hp->(Hp->Prop)->Prop
def pq (X:Cx) (t:sO):Prop:=
 ∀(k8:List (Addr×Obj)) (s:Shared) (U:St) (H:Hp) (o i v:V) (b a u:Value) (Q:Hp->Prop),Inv X k8 U H s->RelV o b->RelV i a->RelV v u->t o i v H Q →
  wpAny (model X.prog X.w) X.A (setItem b a u) (λ_ s'=> ∃H',Inv X k8 U H' s'/\Q H') X.xe s
section
variable {X:Cx}{pos:Pos}
def zQ (i:Nat):TG:=λv U H Q=>Q (U.set i (y0 v)) H
def rS (c:X.N.Nodup) (d:X.N[i]? =y0 x) (b:kN X.env.scope x) (e:X.fn x=k9\/X.env.scope.names.lookup x=y0 .local:=by first | exact .inl rfl | exact .inr rfl | assumption):PG X (.Name x pos) (zQ i):=by
 intro a s U H v u Q I r h
 exact wpAny_assign_Name (zo I c d b r (λg f=>⟨_,H,f,h⟩) e)
def CD:lh:=λa U H Q=>a= []/\Q U H
def AE (t:TG) (u:lh):lh:=λb U H Q=> ∃v r,b=v::r/\t v U H λa H'=>u r a H' Q
def EG:l9 X [] CD:=by
 intro a s U H c b Q I r h
 obtain⟨e,h⟩:=h
 subst e
 cases r
 exact assignInOrder_nil ⟨U,H,I,h⟩
def yY (h1:PG X e t) (h2:l9 X es u)
 (g:(assignEach (e::es) X.env).map (·.2)=assign e X.env::(assignEach es X.env).map (·.2):=by rfl):l9 X (e::es) (AE t u):=by
 intro a s U H n m Q I r h
 obtain⟨v,l,d,h⟩:=h
 subst d
 cases r with
 | cons r c=>
  rw [g]
  refine assignInOrder_cons (aL (h1 a s U H _ _ _ I r h) ?_)
  rintro _ j ⟨f,i,b,k⟩
  exact h2 a j f i _ _ Q b c k
def AK (K:Aa5) (n:Nat) (t:lh):TG:=λv U H Q=> ∃a xs,v= .ref a/\bI K H a xs/\xs.length=n/\t xs U H Q
def LB (z:X.calm=k9) (h:l9 X es t)
 (w:(assignEach es X.env).length=n:=by rfl) (d:(assignEach es X.env).findIdx? (·.1)=none:=by rfl):PG X (.Tuple es k pos) (AK X.K n t):=by
 intro c s U H v u Q I r f
 obtain⟨a,q,i,m,p,f⟩:=f
 subst i
 cases r
 obtain⟨x,rv,j,A⟩:=I.tuple m
 refine assign_Tuple_tuple (I.ok.hd z) j (by simp [w,←p,rv.length]) d λl y=> ?_
 have g:Inv X c U H { s with heap:=l }:=I.kept λb o e=>y b o (Ac3 (Ab4 e)) e
 exact h c _ U H q _ Q g (by simp_all) f
def yZ (a c:TE) (t:sO):TG:=λv U H Q=>a U H λo H1=>c U H1 λi H2=>t o i v H2 λb=>Q U b
def ra (C:PE X o to) (w:PE X i ti) (z:pq X t)
 (l: ∀v,assign (.Subscript o i pos) X.env v=(do
   let b ←holding [v] (eval o X.env)
   let c ←holding [v,b] (eval i X.env)
   standAt pos
   holding [v,b,c] (setItem b c v)
   release [v,b,c] []):=by intro _;rfl):PG X (.Subscript o i pos) (yZ to ti t):=by
 intro a s U H v u Q I r h
 rw [l]
 refine wpAny_bind (wpAny_holding (aL (C a s U H _ I h) ?_))
 rintro b B ⟨x,A,d,n,D⟩
 refine wpAny_bind (wpAny_holding (aL (w a B U A _ d D) ?_))
 rintro c p ⟨y,j,k,m,g⟩
 refine wpAny_bind (wpAny_standAt (wpAny_bind (wpAny_holding (aL (z a p U j x y v b c u _ k n m r g) ?_))))
 rintro _ E ⟨q,f,e⟩
 exact wpAny_release ⟨U,q,f,e⟩
def iq (a:TE) (g:TG):TS:=λD U H=>a U H λx H1=>g x U H1 D.nx
def J1 (j:PE X e te) (d:PG X tg g) (i:swapsWithSole [tg] e pos.line X.env=pure false:=by rfl) (f:swappedStores [tg] e X.env=pure none:=by rfl)
 (h1:(assignEach [tg] X.env).map (·.2)= [assign tg X.env]:=by rfl):PS X (.Assign [tg] e pos) (iq te g):=by
 intro a s U H D I h
 refine wpAny_Assign_stores (aL (j a s U H _ I h) λv l ⟨x,k,b,c,m⟩=> ?_) i f
 rw [h1]
 exact aL (d a l U k x v _ b c m) λ_ n q=>q
def oY (g:X.N.Nodup) (k:X.N[i]? =y0 x) (j:kN X.env.scope x) (m:PE X e te) (l:swapsWith e (y0 (.Name x pos')) pos.line X.env=pure false:=by rfl) (f:X.fn x=k9\/X.env.scope.names.lookup x=y0 .local:=by first | exact .inl rfl | exact .inr rfl | assumption):
 PS X (.Assign [.Name x pos'] e pos) (iq te (zQ i)):=by
 intro a s U H D I h
 refine wpAny_Assign_Name (aL (m a s U H _ I h) λv q ⟨y,n,b,d,o⟩=> ?_) l
 exact zo b g k j d (λp c=>⟨_,n,c,o⟩) f
end
section
variable {X:Cx}{pos:Pos}
def F1 (c:TT) (tb:TS):TS:=λD U H=> ∃W:Nat->St->Hp->Prop,(∃ m,W m U H)/\ ∀m U H,W m U H →
 c U H λb H1=>if b=k9 then ∃N:St->Hp->Prop,(∀ a H',N a H'-> ∃d,d<m/\W d a H')/\tb { D with nx:=N,ct:=N,bk:=D.nx } U H1 else D.nx U H1
def Ef (y:PassesOwn (model X.prog X.w) X.A X.env X.xe) (G:PT X c tc) (C:cK X body tb):PS X (.While c body [] pos) (F1 tc tb):=by
 intro a s U H D I h
 obtain⟨W,⟨B,J⟩,g⟩:=h
 refine wpAny_While (codeAny_whileLoop (λn L=> ∃u w,Inv X a u w L/\W n u w) ?_ B ⟨U,H,I,J⟩)
 rintro n K ⟨k,z,A,F⟩
 refine wpAny_passesOwn y (aL (G a K k z _ A (g n k z F)) ?_)
 rintro b E ⟨r,t,j⟩
 cases b with
 | true=>
  obtain⟨N,x,j⟩:=j
  refine wpAny_passesOwn y (aL (C a E k r _ t j) λf M i=> ?_)
  cases f with
  | next=>
   obtain⟨d,e,l,o⟩:=i
   obtain⟨p,m,q⟩:=x d e o
   exact⟨p,m,d,e,l,q⟩
  | cont=>
   obtain⟨d,e,l,o⟩:=i
   obtain⟨p,m,q⟩:=x d e o
   exact⟨p,m,d,e,l,q⟩
  | brk=>exact i
  | ret v=>exact i
 | false=>
  exact wpAny_execs_nil ⟨k,r,t,j⟩
end
structure It where
 go:Nat->Hp->Prop
 eU:Nat->Hp->V->Hp->Prop
 stop:Nat->Hp->Prop
def W5 (X:Cx) (a:List (Addr×Obj)) (H:Hp) (b:Addr):Prop:=
 H b=u0/\b≠X.env.locals/\b∉X.fs/\(b∈X.ex\/X.s₀.heap.objs.size<=b)/\(∀ x c,X.env.cells.lookup x=y0 c->c≠b)/\ ∀p∈X.pn++a,p.1≠b
def Inv.cW (I:Inv X k8 U H s) (a:s.heap.objs.size<=b) (f:H' b=u0):W5 X k8 H' b:=by
 refine⟨f,Al7 (Ab I.lt a),I.nD a,.inr (Ac I.sz a),λx c e z=> ?_,λp d z=> ?_⟩
 ·obtain⟨v,q⟩:=I.cell x c e
  exact absurd (Ab q.lt (by simp_all)) (Ag9 _)
 ·exact absurd (Ab (Ab4 (I.pin p d).1) (by simp_all)) (Ag9 _)
structure gY (P:Program) (w:World) (K:Aa5) (tg:Expr) (J:It) (fp:List Addr) (it:Addr) (tn:Nat->Heap->Prop):Prop where
 mem:it∈fp
 obj: ∀i h,tn i h-> ∀b∈fp,∃o,h.get? b=y0 o/\ ∀v,o.data≠ .cell v
 keep: ∀i h h',tn i h->(∀ b∈fp,∀o,h.get? b=y0 o->h'.get? b=y0 o)->tn i h'
 item: ∀(X:Cx),X.prog=P->X.w=w->X.K=K->X.calm=k9-> ∀(i:Nat) (k8:List (Addr×Obj)) (s:Shared) (U:St) (H:Hp) (E:Value->Shared->Prop),Inv X k8 U H s->(∀ b∈fp,W5 X k8 H b)->tn i s.heap->J.go i H →
  wpAny (model P w) X.A (pyNext (.ref it)) (λr s1=> ∃u,r=y0 u ∧
   wpAny (model P w) X.A (letOwnedTupleGo tg (.ref it) u) (λ_ s2=> ∃x H',Inv X k8 U H' s2/\RelV x u/\J.eU i H x H'/\tn (i+1) s2.heap/\ ∀b∈fp,H' b=u0) E s1) E s
 done: ∀(X:Cx),X.prog=P->X.w=w->X.K=K->X.calm=k9-> ∀(i:Nat) (k8:List (Addr×Obj)) (s:Shared) (U:St) (H:Hp) (E:Value->Shared->Prop),Inv X k8 U H s->(∀ b∈fp,W5 X k8 H b)->tn i s.heap->J.stop i H →
  wpAny (model P w) X.A (pyNext (.ref it)) (λr s1=>r=u0/\Inv X k8 U H s1) E s
 self: ∀(A:Around) (i:Nat) (s:Shared) (Q:Value->Shared->Prop) (E:Value->Shared->Prop),tn i s.heap->Q (.ref it) s->wpAny (model P w) A (pyIter (.ref it)) Q E s
abbrev TI:=St->Hp->(It->Hp->Prop)->Prop
def pW (X:Cx) (a:List (Addr×Obj)) (U:St) (g:Expr) (R:It->Hp->Prop) (c:Value) (e:Shared):Prop:=
 ∃(d:Addr) (fp:List Addr) (f:Nat->Heap->Prop) (J:It) (H':Hp),c= .ref d/\Inv X a U H' e/\gY X.prog X.w X.K g J fp d f/\f 0 e.heap/\(∀ b∈fp,W5 X a H' b)/\R J H'
def PI (X:Cx) (c a:Expr) (b:TI):Prop:=
 ∀(k8:List (Addr×Obj)) (s:Shared) (U:St) (H:Hp) (R:It->Hp->Prop),Inv X k8 U H s->b U H R →
  wpAny (model X.prog X.w) X.A (eval a X.env) (λv d=>wpAny (model X.prog X.w) X.A (pyIter v) (pW X k8 U c R) X.xe d) X.xe s
def Z9 (d:s.heap.get? it=y0 o) (b:o.cls= .type n) (c:o.data= .fields vs)
 (e: ["enumerate", "zip", "dict_itemiterator", "dict_reverseitemiterator", "odict_iterator", "itertools.zip_longest", "itertools.pairwise"].contains n=false) (a:Q () s):wpAny M A (letOwnedTupleGo tg (.ref it) u) Q E s:=by
 cases tg<;>first
  | exact wpAny_pure a
  | (cases u<;>first
      | exact wpAny_pure a
      | (refine wpAny_bind (wpAny_load d ?_)
         rw [b,c]
         show wpAny M A (if _=k9 then _ else _) Q E s
         rw [if_neg (by lia)]
         exact wpAny_pure a))
noncomputable def kB (K:Aa5) (a:Addr):It:=
 ⟨λi H=> ∃xs x,a8 K H a xs/\xs[i]? =y0 x,λi H x H'=>H'=H/\ ∀xs,a8 K H a xs->xs[i]? =y0 x,λi H=> ∃xs,a8 K H a xs/\xs.length<=i⟩
noncomputable def kG (K:Aa5) (a:Addr):It:=
 ⟨λi H=> ∃xs x,bI K H a xs/\xs[i]? =y0 x,λi H x H'=>H'=H/\ ∀xs,bI K H a xs->xs[i]? =y0 x,λi H=> ∃xs,bI K H a xs/\xs.length<=i⟩
def me (a:Int) (n:Nat):It:=⟨λi _=>i<n,λi H x H'=>H'=H/\x= .int (a+i),λi _=>n<=i⟩
def IU {K:Aa5}(a it):gY P w K tg (kB K a) [it] it (λi h=>h.IsListIter it a i) where
 mem:=by simp
 obj:=λi h f b j=>by
  have e:=by simpa using j
  subst e
  obtain⟨o,e,c,d⟩:=f
  exact⟨o,e,λv z=>by rw [d]at z;cases z⟩
 keep:=λi h r f k=>f.at λo e=>k it (by simp) o e
 item:=by
  intro X hP B q L i g s U H E I n f y
  subst hP B q
  obtain⟨S,x,m,D⟩:=y
  obtain⟨C,rv,p,Q⟩:=I.list m
  obtain⟨u,T,V⟩:=rv.get D
  obtain⟨A,G,M,t,J,F⟩:=n it (by simp)
  refine wpAny_pyNext_list_item f p.isList (by simpa using T) λr l O=> ?_
  have N:Inv X g U H { s with heap:=r }:=I.turned (λb o j e=>(O.2 b j).trans e) A G t J F
  obtain⟨o,e,c,d⟩:=id l
  exact⟨u,rfl,Z9 e c d (by decide) ⟨x,H,N,V,⟨rfl,λY R=>by rw [I.c9 R m];exact D⟩,l,λb j=>(n b j).1⟩⟩
 done:=by
  intro X hP B q L i g s U H E I n f y
  subst hP B q
  obtain⟨S,m,D⟩:=y
  obtain⟨C,rv,p,Q⟩:=I.list m
  obtain⟨A,G,M,t,J,F⟩:=n it (by simp)
  have Z:=rv.length
  exact wpAny_pyNext_list_end (I.ok.hd L) f p.isList (by simp;omega) λr W=>⟨rfl,I.turned (λb o j e=>W b o j e) A G t J F⟩
 self:=λ_ _ _ _ _ f h=>wpAny_pyIter_listiter f h
def CS {K:Aa5}(a it):gY P w K tg (kG K a) [it] it (λi h=>h.IsTupleIter it a i) where
 mem:=by simp
 obj:=λi h f b j=>by
  have e:=by simpa using j
  subst e
  obtain⟨o,e,c,d⟩:=f
  exact⟨o,e,λv z=>by rw [d]at z;cases z⟩
 keep:=λi h r f k=>f.at λo e=>k it (by simp) o e
 item:=by
  intro X hP B q L i g s U H E I n f y
  subst hP B q
  obtain⟨S,x,m,D⟩:=y
  obtain⟨C,rv,p,Q⟩:=I.tuple m
  obtain⟨u,T,V⟩:=rv.get D
  obtain⟨A,G,M,t,J,F⟩:=n it (by simp)
  refine wpAny_pyNext_tuple_item f (p) (by simpa using T) λr l O=> ?_
  have N:Inv X g U H { s with heap:=r }:=I.turned (λb o j e=>(O.2 b j).trans e) A G t J F
  obtain⟨o,e,c,d⟩:=id l
  exact⟨u,rfl,Z9 e c d (by decide) ⟨x,H,N,V,⟨rfl,λY R=>by rw [I.cJ R m];exact D⟩,l,λb j=>(n b j).1⟩⟩
 done:=by
  intro X hP B q L i g s U H E I n f y
  subst hP B q
  obtain⟨S,m,D⟩:=y
  obtain⟨C,rv,p,Q⟩:=I.tuple m
  obtain⟨A,G,M,t,J,F⟩:=n it (by simp)
  have Z:=rv.length
  exact wpAny_pyNext_tuple_end (I.ok.hd L) f (p) (by simp;omega) λr W=>⟨rfl,I.turned (λb o j e=>W b o j e) A G t J F⟩
 self:=λ_ _ _ _ _ f h=>wpAny_pyIter_tupleiter f h
def yu {K:Aa5}(it) (lo) (n):gY P w K tg (me lo n) [it] it (λi h=>IsRangeIter h it (lo+(i:Nat)*1) ((n:Int)-(i:Nat)) 1) where
 mem:=by simp
 obj:=λi h a b d=>by
  have e:=by simpa using d
  subst e
  exact⟨_,a,λv z=>by
   have G:=z
   cases G⟩
 keep:=λi h j a k=>k it (by simp) _ a
 item:=by
  intro X hP A y q i c s U H E I g a m
  subst hP A y
  obtain⟨p,u,B,l,x,r⟩:=g it (by simp)
  have W:=Walks.range (prog:=X.prog) (w:=X.w) (I.ok.hd q) it lo 1 n
  refine W.item i s _ _ m a λv j F J f L=> ?_
  obtain⟨t,rfl⟩:=J
  have C:Inv X c U H { s with heap:=j,toks:=F }:=I.turned (λb o d e=>L b o (by simpa using d) e) p u l x r
  refine⟨_,rfl,Z9 f rfl rfl (by decide) ⟨.int (lo+i),H,C,⟨t,?_⟩,⟨rfl,rfl⟩,f,λb d=>(g b d).1⟩⟩
  rw [Int.mul_one]
 done:=by
  intro X hP A y q i c s U H E I g a m
  obtain⟨p,u,B,l,x,r⟩:=g it (by simp)
  exact wpAny_pyNext_range_end (I.ok.hd q) a (by have:n<=i:=m;omega) λj D=>⟨rfl,I.turned (λb o d e=>D b o d e) p u l x r⟩
 self:=λ_ _ _ _ _ a h=>wpAny_pyIter_rangeiter a h
section
variable {X:Cx}{tg:Expr}
def x8 {a c:Int}(I:Inv X k8 U H s) (h1: -(2 ^ 62)<=a) (h2:a<2 ^ 62) (f: -(2 ^ 62)<=c) (i:c<2 ^ 62)
 (q:R (me a (c-a).toNat) H):wpAny (model X.prog X.w) X.A (pyIter (.ref s.heap.objs.size)) (pW X k8 U tg R) E { s with heap:=s.heap.push { cls:= .type "range",data:= .fields #[.int a t,.int c u,.int 1 v] },toks:=tk }:=by
 refine wpAny_pyIter_range (IsRange.new ..) (small_one h1 h2 f i) ?_
 have d:Inv X k8 U H { s with heap:=s.heap.push { cls:= .type "range",data:= .fields #[.int a t,.int c u,.int 1 v] },toks:=tk }:=I.kept fun b o e=>Heap.get?_push_of_some _ e
 refine⟨(s.heap.push { cls:= .type "range",data:= .fields #[.int a t,.int c u,.int 1 v] }).objs.size,[(s.heap.push { cls:= .type "range",data:= .fields #[.int a t,.int c u,.int 1 v] }).objs.size],_,_,H,rfl,
  d.kept λb o e=>Aa2 _ e,yu _ a (c-a).toNat,?_,λb j=> ?_,q⟩
 ·have h:a+ (0:Nat)*1=a:=by simp
  have g: (c-a).toNat- (0:Nat)=Builtin.Range.rangeSize a c 1:=by rw [rangeSize_one];split<;>lia
  rw [h,g]
  exact Ab6 _ rfl
 ·have e:b=(s.heap.push { cls:= .type "range",data:= .fields #[.int a t,.int c u,.int 1 v] }).objs.size:=by simpa using j
  subst e
  exact d.cW (Aa6 _) (d.aM.fresh (Aa6 _))
def L4 (a:TA):TI:=λU H R=>a U H λb H1=> ∃j:Int,b= [.int j]/\ -(2 ^ 62)<=j/\j<2 ^ 62/\R (me 0 j.toNat) H1
def Ht (a:TA):TI:=λU H R=>a U H λb H1=> ∃i j:Int,b= [.int i,.int j]/\(-(2 ^ 62)<=i/\i<2 ^ 62/\ -(2 ^ 62)<=j/\j<2 ^ 62)/\R (me i (j-i).toNat) H1
def Fe (m:Gl X "range") (g:X.mg "range" =none) (k:PA X [a] ta) (n:starEach [a] X.env= [(false,eval a X.env)]:=by rfl):PI X tg (.Call (.Name "range" p) [a] [] pos) (L4 ta):=by
 intro b s U H R I h
 refine Call_ (zz I m g boot_range (PyProof.Rows.callWith_type1 (aL (k pos b s U H _ I h) λo w ⟨u,v,d,l,c⟩=> ?_) n rfl))
 obtain⟨j,e,c,i,q⟩:=c
 subst e
 cases l with
 | cons r f=>
  cases f
  obtain⟨t,rfl⟩:=r
  exact call_range_1 (x8 d (by lia) (by lia) c i (by simp_all))
def CA (w:Gl X "range") (n:X.mg "range" =none) (u:PA X [a,b] ta) (x:starEach [a,b] X.env= [(false,eval a X.env),(false,eval b X.env)]:=by rfl) (c:starEach [b] X.env= [(false,eval b X.env)]:=by rfl):
 PI X tg (.Call (.Name "range" p) [a,b] [] pos) (Ht ta):=by
 intro d s U H R I h
 refine Call_ (zz I w n boot_range (PyProof.Rows.callWith_type1 (aL (u pos d s U H _ I h) λA D ⟨B,C,k,v,g⟩=> ?_) (by rw [x,c]) (by rw [c];rfl)))
 obtain⟨i,j,e,⟨g,o,l,m⟩,q⟩:=g
 subst e
 cases v with
 | cons r f=>
  cases f with
  | cons y f=>
   cases f
   obtain⟨t,rfl⟩:=r
   obtain⟨z,rfl⟩:=y
   exact call_range_2 (x8 k g o l m q)
def Fp (c:TI) (g:TG) (tb:TS):TS:=λD U H=>c U H λJ H1=> ∃W:Nat->Nat->St->Hp->Prop,(∃ m,W 0 m U H1)/\ ∀i m U H,W i m U H →
 (J.stop i H/\D.nx U H)\/(J.go i H/\ ∃N:St->Hp->Prop,(∀ a H',N a H'-> ∃b,b<m/\W (i+1) b a H')/\ ∀x H',J.eU i H x H'->g x U H' λd H2=>tb { D with nx:=N,ct:=N,bk:=D.nx } d H2)
def jG (a:List Addr) (h:Heap):List (Addr×Obj):=a.filterMap λb=>(h.get? b).map λo=>(b,o)
def Ji (a:b∈fp) (e:h.get? b=y0 o):(b,o)∈jG fp h:=An5.mpr ⟨b,a,by rw [e];rfl⟩
def ZP (c:p∈jG fp h):p.1∈fp/\h.get? p.1=y0 p.2:=by
 obtain⟨b,d,e⟩:=An5.mp c
 cases q:h.get? b with
 | none=>rw [q]at e;cases e
 | some o=>
  rw [q]at e
  have a:=Ae4.inj e
  subst a
  exact⟨d,q⟩
def Inv.pinned (I:Inv X k8 U H s) (f: ∀b∈fp,W5 X k8 H b) (j: ∀b∈fp,∃o,s.heap.get? b=y0 o/\ ∀v,o.data≠ .cell v):Inv X (k8++jG fp s.heap) U H s:=
 I.bF λp h=>(Af0.mp h).elim (λz=>I.pin p (Ab1 _ z)) λz=>by
  obtain⟨c,e⟩:=ZP z
  obtain⟨i,k,g,_⟩:=f p.1 c
  obtain⟨o,a,d⟩:=j p.1 c
  rw [e]at a;cases a
  exact⟨e,i,k,g,d⟩
def Inv.bO (I:Inv X (k8++pl) U H s):Inv X k8 U H s:=I.bF λp a=>I.pin p (Ab1 _ (Ac9 _ a))
def De (A:PassesOwn (model X.prog X.w) X.A X.env X.xe) (Y:X.calm=k9) (hi:PI X tg iter wi) (hg:PG X tg g) (p:cK X body tb)
 (hs: ∀x,foldedSetIterable iter X.env x=pure x:=by intro _;rfl):PS X (.For tg iter body [] pos) (Fp wi g tb):=by
 intro a s U H D I h
 refine wpAny_For (aL (hi a s U H _ I h) λv s1 h1=>aL h1 λitv s2 h2=> ?_) hs
 obtain⟨it,L,tn,J,H2,e,I2,T,M,S,W,⟨m0,w0⟩,C⟩:=h2
 subst e
 have l: ∀ {t},(∀ b∈L,t b=u0)-> ∀b∈L,W5 X a t b:=λhn b p=>⟨hn b p,(S b p).2⟩
 refine codeAny_forLoop_any (λn Z=> ∃i F t,Inv X a F t Z/\tn i Z.heap/\(∀ b∈L,t b=u0)/\W i n F t) ?_ m0 ⟨0,U,H2,I2,M,λb p=>(S b p).1,w0⟩
 rintro n V ⟨i,E,K,I3,z,B,w3⟩
 rcases C i n E K w3 with⟨stop,qn⟩ | ⟨go,N,hN,step⟩
 ·refine wpAny_passesOwn A (aL (T.done X rfl rfl rfl Y i a V E K X.xe I3 (l B) z stop) ?_)
  rintro r s4 ⟨O,I4⟩
  subst O
  exact wpAny_execs_nil ⟨E,K,I4,qn⟩
 ·refine wpAny_passesOwn A (aL (T.item X rfl rfl rfl Y i a V E K X.xe I3 (l B) z go) ?_)
  rintro r s4 ⟨u,O,h4⟩
  subst O
  refine wpAny_passesOwn A (aL h4 ?_)
  rintro _ s5 ⟨x,H5,I5,r5,y5,y,P⟩
  have Q:=I5.pinned (l P) (T.obj _ _ y)
  refine wpAny_passesOwn A (aL (hg _ s5 E H5 x u _ Q r5 (step x H5 y5)) ?_)
  rintro _ s6 ⟨U6,H6,I6,q6⟩
  refine wpAny_passesOwn A (aL (p _ s6 U6 H6 _ I6 q6) λf R w=> ?_)
  have q: ∀ {c}{k},Inv X _ c k R->N c k-> ∃m,m<n/\ ∃i F t,Inv X a F t R/\tn i R.heap/\(∀ b∈L,t b=u0)/\W i m F t:=λ{c k} j G=>by
   obtain⟨m',hm,w7⟩:=hN c k G
   refine⟨m',hm,i+1,c,k,j.bO,T.keep _ _ _ y λb p o e=>(j.pin (b,o) (Ab1 _ (Ab1 _ (Ji p e)))).1,λb p=> ?_,w7⟩
   obtain⟨o,e,d⟩:=T.obj _ _ y b p
   exact(j.pin (b,o) (Ab1 _ (Ab1 _ (Ji p e)))).2.1
  cases f with
  | next=>obtain⟨c,k,j,G⟩:=w;exact q j G
  | cont=>obtain⟨c,k,j,G⟩:=w;exact q j G
  | brk=>obtain⟨c,k,j,w⟩:=w;exact⟨c,k,j.bO,w⟩
  | ret v=>obtain⟨x7,c,k,j,r7,w⟩:=w;exact⟨x7,c,k,j.bO,r7,w⟩
end
abbrev R2:=V->V->Hp->VK->Prop
def bL (X:Cx) (f:Value->Value->Sem Value) (r:R2):Prop:=
 ∀(k8:List (Addr×Obj)) (s:Shared) (U:St) (H:Hp) (x y:V) (v u:Value) (Q:VK),Inv X k8 U H s->RelV x v->RelV y u->r x y H Q →
  wpAny (model X.prog X.w) X.A (f v u) (EP X k8 U Q) X.xe s
def mD (X:Cx) (f:Value->Sem Value) (r:V->Hp->VK->Prop):Prop:=
 ∀(k8:List (Addr×Obj)) (s:Shared) (U:St) (H:Hp) (x:V) (v:Value) (Q:VK),Inv X k8 U H s->RelV x v->r x H Q →
  wpAny (model X.prog X.w) X.A (f v) (EP X k8 U Q) X.xe s
def qm (X:Cx) (f:Value) (r:List V->Hp->VK->Prop):Prop:=
 ∀(k8:List (Addr×Obj)) (s:Shared) (U:St) (H:Hp) (xs:List V) (a:List Value) (Q:VK),Inv X k8 U H s->Vals xs a->r xs H Q →
  wpAny (model X.prog X.w) X.A (call f a) (EP X k8 U Q) X.xe s
def Dk (X:Cx) (r:V->Hp->(Bool->Hp->Prop)->Prop):Prop:=
 ∀(k8:List (Addr×Obj)) (s:Shared) (U:St) (H:Hp) (x:V) (v:Value) (Q:Bool->Hp->Prop),Inv X k8 U H s->RelV x v->r x H Q →
  wpAny (model X.prog X.w) X.A (truthy v) (TP X k8 U Q) X.xe s
def lV (r:R2) (a tb:TE):TE:=λU H Q=>a U H λx H1=>tb U H1 λy H2=>r x y H2 Q
def Mc (r:V->Hp->VK->Prop) (a:TE):TE:=λU H Q=>a U H λx H1=>r x H1 Q
def rI (C:Int->Int->Prop) (g:Int->Int->V):R2:=λx y H Q=> ∃i j,x= .int i/\y= .int j/\C i j/\Q (g i j) H
def gf (g:Int->Int->V):R2:=λx y H Q=> ∃i j,x= .int i/\y= .int j/\Q (g i j) H
def rU (g:Int->V):V->Hp->VK->Prop:=λx H Q=> ∃i,x= .int i/\Q (g i) H
section
variable {X:Cx}{a b c:Expr}{ta tb tc:TE}{pos:Pos}
def oP (j:PE X a ta) (m:PE X b tb){R:V->V->Hp->Prop}(I:Inv X k8 U H s)
 (h:ta U H λx H1=>tb U H1 λy H2=>R x y H2){f:Value->Value->Sem Value}
 (o: ∀v u g x y H2,Inv X k8 U H2 g->RelV x v->RelV y u->R x y H2->wpAny (model X.prog X.w) X.A (f v u) Q X.xe g):
 wpAny (model X.prog X.w) X.A (eval a X.env) (λv e=>wpAny (model X.prog X.w) X.A (eval b X.env) (λu c=>wpAny (model X.prog X.w) X.A (f v u) Q X.xe c) X.xe e) X.xe s:=by
 refine aL (j k8 s U H _ I h) ?_
 rintro v p ⟨x,H1,d,n,q⟩
 refine aL (m k8 p U H1 _ d q) ?_
 rintro u g ⟨y,H2,k,l,i⟩
 exact o v u g x y H2 k n l i
def EC (l:bL X (binaryOp op) r) (f:PE X a ta) (i:PE X b tb):PE X (.BinOp a op b pos) (lV r ta tb):=by
 intro c s U H Q I h
 exact wpAny_BinOp (oP f i I h λv u j x y e g d k q=>l c j U e x y v u Q g d k q)
def pA (g:mD X (unaryOp op) r) (j:PE X a ta):PE X (.UnaryOp op a pos) (Mc r ta):=by
 intro b s U H Q I h
 exact UnaryOp_ (aL (j b s U H _ I h) λv f ⟨x,c,d,e,i⟩=>g b f U c x v Q d e i)
def kj {g:Int->Int->Int}
 (a: ∀ i j t u s Q E,C i j->Q (.int (g i j) s.toks) { s with toks:=s.toks+1 }->wpAny (model X.prog X.w) X.A (f (.int i t) (.int j u)) Q E s):
 bL X f (rI C λi j=> .int (g i j)):=by
 intro b s U H x y v u Q I c e h
 obtain⟨i,j,rfl,rfl,k,q⟩:=h
 obtain⟨t,rfl⟩:=c
 obtain⟨d,rfl⟩:=e
 exact a i j t d s _ _ k ⟨.int _,H,I.tok _,⟨_,rfl⟩,q⟩
def mj {g:Int->Int->Int}
 (a: ∀ i j t u s Q E,Q (.int (g i j) s.toks) { s with toks:=s.toks+1 }->wpAny (model X.prog X.w) X.A (f (.int i t) (.int j u)) Q E s):
 bL X f (gf λi j=> .int (g i j)):=by
 intro b s U H x y v u Q I c e h
 obtain⟨i,j,rfl,rfl,q⟩:=h
 obtain⟨t,rfl⟩:=c
 obtain⟨d,rfl⟩:=e
 exact a i j t d s _ _ ⟨.int _,H,I.tok _,⟨_,rfl⟩,q⟩
def mq {g:Int->Int->Bool}
 (a: ∀ i j t u s Q E,Q (.bool (g i j)) s->wpAny (model X.prog X.w) X.A (f (.int i t) (.int j u)) Q E s):
 bL X f (gf λi j=> .bl (g i j)):=by
 intro b s U H x y v u Q I c e h
 obtain⟨i,j,rfl,rfl,q⟩:=h
 obtain⟨t,rfl⟩:=c
 obtain⟨d,rfl⟩:=e
 exact a i j t d s _ _ ⟨.bl _,H,I,rfl,q⟩
def uL (i j:Int):Prop:=0<j/\j<1073741824
def tw (i j:Int):Prop:=0<=j/\j<=1000000/\i.natAbs<2 ^ 64
def iC (i j:Int):Prop:=(-(2 ^ 64)<i/\i<2 ^ 64)\/(-(2 ^ 64)<j/\j<2 ^ 64)
def iC.ok (h:iC i j):IntMulOk i j:=by
 obtain⟨a,b⟩ | ⟨a,b⟩:=h
 ·exact .of_left (intBits_le_64 a b)
 ·exact .of_right (intBits_le_64 a b)
def W9 (k):(0:Int)<=2 ^ k:=by
 exact Int.natCast_nonneg _
def BS:bL X (binaryOp .Add) (gf λi j=> .int (i+j)):=mj λ_ _ _ _ _ _ _ q=>add_int q
def Hm:bL X (binaryOp .Sub) (gf λi j=> .int (i-j)):=mj λ_ _ _ _ _ _ _ q=>sub_int q
def DH:bL X (binaryOp .Mult) (rI iC λi j=> .int (i*j)):=kj λ_ _ _ _ _ _ _ a q=>mul_int q a.ok
def FY:bL X (binaryOp .FloorDiv) (rI uL λi j=> .int (i / j)):=kj λi j _ _ _ _ _ a q=>by
 have c:=a.1
 have b:=a.2
 exact floordiv_int (by lia) (by rw [Al4 i (by lia)];exact q) (.inl (PyProof.noPylong_small (by lia)))
def B7:bL X (binaryOp .Mod) (rI (λ_ j=>0<j) λi j=> .int (i % j)):=kj λi j _ _ _ _ _ a q=>by
 have b:=a
 exact mod_int' (by lia) (by rw [Int.fmod_eq_emod_of_nonneg i (by lia)];exact q)
def L0:bL X (binaryOp .Pow) (rI tw λi j=> .int (i ^ j.toNat)):=kj λ_ _ _ _ _ _ _ a q=>pow_int_small a.1 a.2.1 a.2.2 q
def HA:bL X (binaryOp .LShift) (rI tw λi j=> .int (i*2 ^ j.toNat)):=kj λ_ _ _ _ _ _ _ a q=>lshift_int_small a.1 a.2.1 a.2.2 q
def Hk:bL X (binaryOp .RShift) (rI (λ_ j=>0<=j) λi j=> .int (i / 2 ^ j.toNat)):=kj λi j _ _ _ _ _ a q=>
 rshift_int a (by rw [Al4 i (W9 _)];exact q)
def H9:bL X (binaryOp .BitAnd) (gf λi j=> .int (Builtin.bitAnd i j)):=mj λ_ _ _ _ _ _ _ q=>and_int q
def Ld:bL X (binaryOp .BitOr) (gf λi j=> .int (Builtin.bitOr i j)):=mj λ_ _ _ _ _ _ _ q=>or_int q
def vh {g:Int->Int}
 (a: ∀ i t s Q E,Q (.int (g i) s.toks) { s with toks:=s.toks+1 }->wpAny (model X.prog X.w) X.A (f (.int i t)) Q E s):
 mD X f (rU λi=> .int (g i)):=by
 intro b s U H x v Q I c h
 obtain⟨i,rfl,q⟩:=h
 obtain⟨t,rfl⟩:=c
 exact a i t s _ _ ⟨.int _,H,I.tok _,⟨_,rfl⟩,q⟩
def ub:mD X (unaryOp .USub) (rU λi=> .int (-i)):=vh λ_ _ _ _ _ q=>neg_int q
def Mh:mD X (unaryOp .Invert) (rU λi=> .int (Builtin.bitNot i)):=vh λ_ _ _ _ _ q=>invert_int q
end
section
variable {X:Cx}{a b c:Expr}{ta tb tc:TE}{pos:Pos}
def sL (I:Inv X k8 U H s) (q:Q (.bl k) H) (e:k=k'):EP X k8 U Q (.bool k') s:=by
 subst e
 exact⟨.bl k,H,I,rfl,q⟩
def Fm:bL X (compareOp .Lt) (gf λi j=> .bl (v9 (i<j))):=mq λ_ _ _ _ _ _ _ q=>lt_int q
def Fw:bL X (compareOp .LtE) (gf λi j=> .bl (v9 (i<=j))):=mq λ_ _ _ _ _ _ _ q=>le_int q
def CN:bL X (compareOp .Gt) (gf λi j=> .bl (v9 (j<i))):=mq λ_ _ _ _ _ _ _ q=>gt_int q
def yy:bL X (compareOp .GtE) (gf λi j=> .bl (v9 (j<=i))):=mq λ_ _ _ _ _ _ _ q=>ge_int q
def jW (m:bL X (compareOp op) r) (g:PE X a ta) (j:PE X b tb) (e:behindInMarks op b=y9):PE X (.Compare a [op] [b] pos) (lV r ta tb):=by
 intro c s U H Q I h
 exact wpAny_Compare1 (oP g j I h λv u k x y f i d l q=>m c k U f x y v u Q i d l q) e
def rZ (t:TE):TT:=λU H Q=>t U H λx H'=> ∃k,x= .bl k/\Q k H'
def jY (E:bL X (compareOp op) r) (o:PE X a ta) (q:PE X b tb) (j:behindInMarks op b=y9):PT X (.Compare a [op] [b] pos) (rZ (lV r ta tb)):=by
 intro d s U H Q I h
 refine wpAny_isTrue_Compare1 (aL (o d s U H _ I h) λv D ⟨x,C,f,t,F⟩=>aL (q d D U C _ f F) λu w ⟨y,m,n,p,l⟩=>
  aL (E d w U m x y v u _ n t p l) λc G ⟨z,A,i,B,k,e,g⟩=> ?_) j
 subst e
 cases B
 exact wpAny_truthy_bool ⟨A,i,g⟩
def oB (r d:R2) (b tb e:TE):TE:=λU H Q=>b U H λx H1=>tb U H1 λy H2=>r x y H2 λz a=> ∃k,z= .bl k ∧
 (if k=k9 then e U a λf c=>d y f c Q else Q (.bl y9) a)
def Dt (R:bL X (compareOp op) r) (g:bL X (compareOp op') r') (A:PE X a ta) (D:PE X b tb) (N:PE X c tc)
 (p:lastMarks [op,op'] [b,c]=false:=by with_unfolding_all rfl):PE X (.Compare a [op,op'] [b,c] pos) (oB r r' ta tb tc):=by
 intro f s U H Q I h
 refine Compare_chain (aL (A f s U H _ I h) λv P ⟨x,O,n,E,S⟩=>chain_link (aL (D f P U O _ n S) λu F ⟨y,t,w,l,q⟩=>
  aL (R f F U t x y v u _ w E l q) λd C ⟨z,m,j,K,k,e,i⟩=> ?_)) p
 subst e
 cases K
 refine wpAny_truthy_bool ?_
 cases k with
 | false=>exact ite_ff ⟨.bl y9,m,j,rfl,i⟩
 | true=>exact ite_tt (chain_last (aL (N f C U m _ j i) λL J ⟨M,G,B,T,o⟩=>g f J U G y M u L Q B l T o))
def FT (Z:bL X (compareOp op) r) (g:bL X (compareOp op') r') (A:PE X a ta) (E:PE X b tb) (V:PE X c tc)
 (p:lastMarks [op,op'] [b,c]=false:=by with_unfolding_all rfl):PT X (.Compare a [op,op'] [b,c] pos) (rZ (oB r r' ta tb tc)):=by
 intro f s U H Q I h
 refine isTrue_chain (aL (A f s U H _ I h) λv Y ⟨x,W,n,G,q1⟩=>test_link (aL (E f Y U W _ n q1) λu J ⟨y,t,w,l,q⟩=>
  aL (Z f J U t x y v u _ w G l q) λd D ⟨z,m,j,P,k,e,i⟩=> ?_)) p
 subst e
 cases P
 refine wpAny_truthy_bool ?_
 cases k with
 | false=>
  obtain⟨k',F,M⟩:=i
  cases F
  exact ite_ff ⟨m,j,M⟩
 | true=>
  refine ite_tt (test_last (aL (V f D U m _ j i) λR O ⟨S,L,B,r4,o⟩=>aL (g f O U L y S u R _ B l r4 o) ?_))
  rintro d' s5 ⟨z2,T,I5,K,k2,C,N⟩
  subst C
  cases K
  exact wpAny_truthy_bool ⟨T,I5,N⟩
def iF (K:Aa5) (x:V) (H:Hp) (k:Bool):Prop:=
 match x with
 | .av=>k=y9
 | .bl b=>k=b
 | .int i=>k=(i != 0)
 | .str y=>y.length<=sizeLine/\k=((y.length:Int) != 0)
 | .iI y=>y.size<=sizeLine/\k=((y.size:Int) != 0)
 | .ref p=>(∃ xs,a8 K H p xs/\k= !xs.isEmpty)\/(∃ xs,bI K H p xs/\k= !xs.isEmpty)\/ ∃a,H p=y0 (.dK a)/\k= !a.isEmpty
 | _=>False
def Iq (r:KV kvs vs):(!vs.isEmpty)= !kvs.isEmpty:=by
 cases r<;>rfl
def qH (r:Vals xs its):(!its.toArray.isEmpty)= !xs.isEmpty:=by
 cases r<;>simp
def zD:(sizeLine:Nat)<2 ^ 63:=by rw [sizeLine_eq];decide
def W2:Dk X (λx H Q=> ∃k,iF X.K x H k/\Q k H):=by
 intro o s U H x v Q I d h
 obtain⟨k,e,q⟩:=h
 have A:=zD
 have B:=sizeLine_eq
 cases x with
 | av=>
  cases d
  have a:=e
  subst a
  exact truthy_none ⟨H,I,q⟩
 | bl b=>
  cases d
  have a:=e
  subst a
  exact wpAny_truthy_bool ⟨H,I,q⟩
 | int i=>
  obtain⟨t,rfl⟩:=d
  have a:=e
  subst a
  exact PySem.P.truthy_int ⟨H,I,q⟩
 | str y=>
  obtain⟨t,rfl⟩:=d
  obtain⟨u,a⟩:y.length<=sizeLine/\k=(_ != 0):=e
  subst a
  exact PySem.P.truthy_str (by omega) ⟨H,I.tok _,q⟩
 | iI y=>
  obtain⟨t,rfl⟩:=d
  obtain⟨u,a⟩:y.size<=sizeLine/\k=(_ != 0):=e
  subst a
  exact PySem.W.truthy_bytes (by omega) ⟨H,I.tok _,q⟩
 | ref p=>
  cases d
  have a:=e
  rcases a with⟨w,g,a⟩ | ⟨w,g,a⟩ | ⟨f,g,a⟩
  ·subst a
   obtain⟨l,r,pl,n⟩:=I.list g
   have c:=r.length
   exact wpAny_truthy_list pl.isList (by simp only [Ab8];omega) ⟨H,I.tok _,by rw [qH r];exact q⟩
  ·subst a
   obtain⟨l,r,pl,n⟩:=I.tuple g
   have c:=r.length
   exact truthy_tuple pl (by simp only [Ab8];omega) ⟨H,I.tok _,by rw [qH r];exact q⟩
  ·subst a
   obtain⟨n,z,j,r,m⟩:f.length<=sizeLine/\(p==sysModules)=y9/\ ∃j,KV f j/\s.heap.DictOf _ p j:=I.aM p _ g
   have c:=Paired.length r
   exact wpAny_truthy_dict z m (by omega) ⟨H,I.tok _,by rw [Iq r];exact q⟩
 | _=>exact(e).elim
def Lb (e:PE X a ta) (g: ∀b,isTrue a X.env b=(do let v ←b;standAt a.pos;holding [v] (truthy v))):
 PT X a (λU H Q=>ta U H λx H'=> ∃k,iF X.K x H' k/\Q k H'):=by
 intro c s U H Q I h
 exact isTrue_plain (aL (e c s U H _ I h) λv j ⟨x,i,d,f,l⟩=>W2 c j U i x v Q d f l) (g _)
def jF (r:Vals [x] us): ∃u,us= [u]/\RelV x u:=by
 cases r with
 | cons a b=>cases b;exact⟨_,rfl,a⟩
def WX (r:Vals [x,y] us): ∃u a,us= [u,a]/\RelV x u/\RelV y a:=by
 cases r with
 | cons b e=>
  cases e with
  | cons c d=>cases d;exact⟨_,_,rfl,b,c⟩
def D9 (c:X.calm=k9):qm X (.builtin "max") (fun xs H Q=> ∃i j,xs= [.int i,.int j]/\Q (.int (if j>i then j else i)) H):=by
 intro b s U H xs e Q I r h
 obtain⟨i,j,rfl,q⟩:=h
 obtain⟨u,g,rfl,⟨t,rfl⟩,⟨d,rfl⟩⟩:=WX r
 refine max_two_ints (I.ok.hd c) λf l k=>⟨_,H,I.kept k,?_,q⟩
 by_cases a:j>i
 ·rw [if_pos a,if_pos a];exact⟨_,rfl⟩
 ·rw [if_neg a,if_neg a];exact⟨_,rfl⟩
def HN (c:X.calm=k9):qm X (.builtin "min") (fun xs H Q=> ∃i j,xs= [.int i,.int j]/\Q (.int (if j<i then j else i)) H):=by
 intro b s U H xs e Q I r h
 obtain⟨i,j,rfl,q⟩:=h
 obtain⟨u,g,rfl,⟨t,rfl⟩,⟨d,rfl⟩⟩:=WX r
 refine min_two_ints (I.ok.hd c) λf l k=>⟨_,H,I.kept k,?_,q⟩
 by_cases a:j<i
 ·rw [if_pos a,if_pos a];exact⟨_,rfl⟩
 ·rw [if_neg a,if_neg a];exact⟨_,rfl⟩
def zR:qm X (.type "int") (fun xs H Q=>(∃ i,xs= [.int i]/\Q (.int i) H)\/ ∃k,xs= [.bl k]/\Q (.int (if k then 1 else 0)) H):=by
 intro a s U H xs c Q I r h
 obtain⟨i,rfl,q⟩ | ⟨k,rfl,q⟩:=h
 ·obtain⟨u,rfl,t,rfl⟩:=jF r
  exact call_int_int ⟨.int i,H,I,⟨_,rfl⟩,q⟩
 ·obtain⟨u,rfl,b⟩:=jF r
  cases b
  exact call_int_bool ⟨.int _,H,I.tok _,⟨_,rfl⟩,q⟩
def JY:qm X (.builtin "divmod") (fun xs H Q=> ∃i j,xs= [.int i,.int j]/\uL i j/\ ∀p,H p=none->Q (.ref p) (aI H p (.tup [.int (i / j),.int (i % j)]))):=by
 intro a s U H xs d Q I r h
 obtain⟨i,j,rfl,⟨f,k⟩,q⟩:=h
 obtain⟨u,g,rfl,⟨t,rfl⟩,⟨c,rfl⟩⟩:=WX r
 refine divmod_int (by lia) ?_ (.inl (PyProof.noPylong_small (by lia)))
 rw [Al4 i (by lia),Int.fmod_eq_emod_of_nonneg i (by lia)]
 have hn:=I.aM.fresh (Aa6 _)
 refine⟨.ref s.heap.objs.size,_,?_,rfl,q _ hn⟩
 refine I.laid (λb o e=>Aa2 _ e) (Aa6 _) ⟨by simp only [Ab7,Ak5];decide,[.int _ s.toks,.int _ (s.toks+1)],.cons ⟨_,rfl⟩ (.cons ⟨_,rfl⟩ .nil),?_⟩
 exact⟨_,Ab6 s.heap rfl,rfl,rfl,0,rfl⟩
end
structure i7 (h:Heap) (x dx C:Addr) (mA:Str->Option Value):Prop where
 obj:h.get? x=y0 (Ao C dx)
 ns:h.Ns1 dx mA
 ne:dx≠x
def xQ {h:Heap}(n:h.Ns1 dx mA): ∃c,h.get? dx=y0 c/\ ∀name,PySem.W.lookIn name c=y0 (mA name):=by
 obtain⟨o,d,m,l,i,j,_,f⟩:=n
 refine⟨o,l,λname=> ?_⟩
 have e:=f name
 unfold nsFind findBy at e
 rw [← Array.find?_toList]at e
 unfold PySem.W.lookIn
 rw [i]
 dsimp only
 split
 ·rename_i y q
  rw [q]at e
  exact congrArg y0 e
 ·rename_i q
  rw [q]at e
  have a:d.toList.any (·.refKey)=false:=by
   rw [Ag3]
   intro y g
   obtain⟨z,t,b⟩:=j y (Array.mem_toList_iff.mp g)
   simp [DictEntry.refKey,b]
  have k: ¬d.toList.any (·.refKey)=true:=by rw [a];exact Ab9
  rw [if_neg k]
  exact congrArg y0 e
def i7.look (I:i7 h x dx C mA): ∃a,PySem.W.InstAt h x (Ao C dx) C (y0 a)/\ ∀name,PySem.W.lookIn name a=y0 (mA name):=
 let ⟨a,c,b⟩:=xQ I.ns
 ⟨a,⟨I.obj,rfl,rfl,c⟩,b⟩
def dB.some_of (r:dB (y0 v) o): ∃u,o=y0 u/\RelV v u:=by
 cases o with
 | none=>exact(r).elim
 | some u=>exact⟨u,rfl,r⟩
def yX (r:RelV v u):PySem.W.handedIn u=true:=by
 cases v with
 | av=>cases (r);rfl
 | bl b=>cases (r);rfl
 | int i=>obtain⟨t,e⟩:=(r);cases e;rfl
 | str x=>obtain⟨t,e⟩:=(r);cases e;rfl
 | iI b=>obtain⟨t,e⟩:=(r);cases e;rfl
 | ie b=>obtain⟨t,e⟩:=(r);cases e;rfl
 | ref a=>cases (r);rfl
 | ty n=>cases (r);rfl
section
variable {P:Program}{w:World}{H H':Hp}{h h':Heap}{a C dx:Addr}{fs fs':List (Str×V)}
def yU (b:cN P w H h) (e:H a=y0 (.ins C dx fs)): ∃mA,i7 h a dx C mA/\(∀ f,dB (fs.lookup f) (mA f))/\PySem.Within mA (fs.map (·.1))/\fs.length<=1000/\H dx=y0 (.own a):=by
 obtain⟨d,z,ne,c,mA,n,r,q⟩:=(show aO P w H h a (.ins C dx fs)from b a _ e)
 exact⟨mA,⟨c,n,ne⟩,r,q,z,d⟩
end
structure eR (K:Aa5) (C:Addr):Prop where
 pg:PySem.W.plainGet K C Str.empty=k9
 hd:PySem.W.hasDictIn K C=k9
 po:PySem.W.plainOver K C=k9
 sa:PySem.W.findIn K (.ref C) "__setattr__" =some (some (.builtin "object.__setattr__"))
def eR.get {K:Aa5}(c:eR K C) (f):PySem.W.plainGet K C f=true:=c.pg
def rf (K:Aa5) (C:Addr) (f:Str):Prop:=Ak6 K (.ref C) f=y0 u0
structure Mo (K:Aa5) (C:Addr) (f:Str) (v:V) (u:Value):Prop where
 at_:Ak6 K (.ref C) f=y0 (y0 u)
 rel:RelV v u
 get:PySem.W.specialIn K u "__get__" =some none
 cp:PySem.W.copiedNames.contains f=y9
structure uq (K:Aa5) (C:Addr) (m:Str) (f:Addr):Prop where
 at_:Ak6 K (.ref C) m=y0 (y0 (.ref f))
 fn:PySem.W.isFn K (.ref f)=k9
 kp:Ae0 K (.ref f)=k9
section
variable {X:Cx}{k8:List (Addr×Obj)}{U:St}{H:Hp}{s:Shared}{a C dx:Addr}{fs:List (Str×V)}{f:Str}{v:V}{A:Around}{E:Value->Shared->Prop}
def Dp (b:attributeBase e f env (eval e env)=eval e env)
 (h:wpAny (model prog w) A (eval e env) (λo a=>wpAny (model prog w) A (getAttr o f k9) Q E a) E s):wpAny (model prog w) A (eval (.Attribute e f pos) env) Q E s:=
 Attribute_any_ h (by rw [arm_eval_Attribute,b])
end
section
variable {X:Cx}{k8:List (Addr×Obj)}{U:St}{H:Hp}{s:Shared}{A:Around}{E:Value->Shared->Prop}{Q:Value->Shared->Prop}{c:Value}{b:Bool}
inductive fu (K:Aa5) (H:Hp):V->Value->Prop where
 | av:fu K H .av (.type "NoneType")
 | bl (x:Bool):fu K H (.bl x) (.type "bool")
 | int (i:Int):fu K H (.int i) (.type "int")
 | str (x:Str):fu K H (.str x) (.type "str")
 | ie (x:UInt64):fu K H (.ie x) (.type "float")
 | lst {a:Addr}{xs:List V}(e:H a=y0 (.lst xs)):fu K H (.ref a) (.type "list")
 | d4 {a:Addr}{o:Obj}{xs:List V}(e:H a=y0 (.d4 o (.lst xs))):fu K H (.ref a) (.type "list")
 | tup {a:Addr}{xs:List V}(e:H a=y0 (.tup xs)):fu K H (.ref a) (.type "tuple")
 | dK {a:Addr}{kvs:List (dG×V)}(e:H a=y0 (.dK kvs)):fu K H (.ref a) (.type "dict")
 | dT {a:Addr}{kvs:List (List dG×V)}(e:H a=y0 (.dT kvs)):fu K H (.ref a) (.type "dict")
 | ins {a C dx:Addr}{fs:List (Str×V)}(e:H a=some (.ins C dx fs)) (cl:eR K C) (ha:PySem.W.findIn K (.ref C) "__class__" =some (some (.builtin "object.__class__")))
  (hn:PySem.W.specialIn K (.builtin "object.__class__") "__get__" =some (some (.builtin "getset_descriptor.__get__"))) (htk:PySem.W.takesIn K (.builtin "object.__class__")=some true)
  (hm:PySem.W.mroIn K C (.type "object")=some true):fu K H (.ref a) (.ref C)
def xj (I:Inv X k8 U H s) (d:RelV x u) (ty:fu X.K H x t) (e:Ad4 X.K t c=y0 b) (h: ∀tk,Q (.bool b) { s with toks:=tk }):
 wpAny (model X.prog X.w) A (call (.builtin "isinstance") [u,c]) Q E s:=by
 cases ty with
 | av=>cases (show u=Value.none from d);exact Ae2 PySem.W.kitx_none I.bM True.intro e (λz=>nomatch z) h
 | bl y=>cases (show u=Value.bool y from d);exact Ae2 PySem.W.kitx_bool I.bM True.intro e (λz=>nomatch z) h
 | int i=>obtain⟨t,q⟩:=(show ∃t,u=Value.int i t from d);cases q;exact Ae2 PySem.W.kitx_int I.bM True.intro e (λz=>nomatch z) h
 | str y=>obtain⟨t,q⟩:=(show ∃t,u=Value.str y t from d);cases q;exact Ae2 PySem.W.kitx_str I.bM True.intro e (λz=>nomatch z) h
 | ie y=>obtain⟨t,q⟩:=(show ∃t,u=Value.float y t from d);cases q;exact Ae2 PySem.W.kitx_float I.bM True.intro e (λz=>nomatch z) h
 | @lst a k f=>
  cases (show u=Value.ref a from d)
  obtain⟨_,_,n,_,g⟩:=(show aO X.prog X.w H s.heap a (.lst k)from I.aM a _ f)
  exact Ae2 An3 I.bM ⟨_,g,rfl⟩ e (λz=>nomatch z) h
 | @d4 a D k f=>
  cases (show u=Value.ref a from d)
  obtain⟨_,_,_,n,_,g⟩:=(show aO X.prog X.w H s.heap a (.d4 D _)from I.aM a _ f)
  exact Ae2 An3 I.bM ⟨_,g,rfl⟩ e (λz=>nomatch z) h
 | @tup a k f=>
  cases (show u=Value.ref a from d)
  obtain⟨_,_,_,p⟩:=(show aO X.prog X.w H s.heap a (.tup k)from I.aM a _ f)
  obtain⟨o,g,l,_⟩:=p
  exact Ae2 PySem.W.kitx_tuple I.bM ⟨o,g,l⟩ e (λz=>nomatch z) h
 | @dK a j f=>
  cases (show u=Value.ref a from d)
  obtain⟨_,_,K,_,p⟩:=(show aO X.prog X.w H s.heap a (.dK j)from I.aM a _ f)
  obtain⟨o,F,v,g,l,_⟩:=p
  exact Ae2 PySem.W.kitx_dict I.bM ⟨o,g,l.1⟩ e (λz=>nomatch z) h
 | @dT a j f=>
  cases (show u=Value.ref a from d)
  obtain⟨_,_,k,_,o,F,v,g,l,_⟩:=(show aO X.prog X.w H s.heap a (.dT j)from I.aM a _ f)
  exact Ae2 PySem.W.kitx_dict I.bM ⟨o,g,l.1⟩ e (λz=>nomatch z) h
 | @ins a C L fs f r B hn m w=>
  cases (show u=Value.ref a from d)
  obtain⟨M,O,_⟩:=yU I.aM f
  obtain⟨G,J,_⟩:=O.look
  exact Ae2 (PySem.W.kitx_own (r.get _) r.hd B hn m w) I.bM J e (λz=>nomatch z) h
end
structure bg (k:Nat) (A:Around):Prop where
 hd:A.handled=u0
 dp:A.depth+3*k+5<recursionLimit
 un:A.units+16*k+200<cLine
def bg.mono (r:bg k A) (h:j<=k):bg j A:=⟨r.hd,by have:=r.dp;lia,by have:=r.un;lia⟩
theorem bg.deeper (r:bg (k+1) A) (env):bg k (A.deeper env):=
 ⟨r.hd,by have:=r.dp;show A.depth+1+3*k+5<_;lia,by have:=r.un;show A.units+3+16*k+200<_;lia⟩
def D6 {A:Around}:(A.under (.builtin "type.__call__" ⟨.ref C::us,kw⟩)).depth=A.depth+1:=by
 first | rfl | simp [guardIds]
def Q9 {A:Around}:(A.under (.builtin "type.__call__" ⟨.ref C::us,kw⟩)).units=A.units+1:=by
 first | rfl | simp [Code.isFrame]
def bg.make (r:bg (k+1) A) (C) (us) (kw):bg k (A.under (.builtin "type.__call__" ⟨.ref C::us,kw⟩)):=
 ⟨r.hd,by have:=r.dp;rw [D6];lia,by have:=r.un;rw [Q9];lia⟩
theorem bg.depth (r:bg k A):A.depth<recursionLimit:=by have:=r.dp;omega
def vv:TA:=λ_ H Q=>Q [] H
def IE (b:TE) (a:TA):TA:=λU H Q=>b U H λx H1=>a U H1 λxs H2=>Q (x::xs) H2
section
variable {X:Cx}{e:Expr}{es:List Expr}{te:TE}{t:TA}{pos:Pos}
def wg:PA X [] vv:=λ_ _ _ _ H Q I h=>Calls.spliced_nil ⟨[],H,I,.nil,h⟩
def Xb (g:PE X e te) (l:PA X es t) (n:starEach (e::es) X.env=(y9,eval e X.env)::starEach es X.env:=by rfl):PA X (e::es) (IE te t):=by
 intro b a s U H Q I h
 rw [n]
 refine Calls.spliced_cons (aL (g a s U H _ I h) ?_)
 rintro u p ⟨x,o,c,k,q⟩
 exact aL (l b a p U o _ c q) λr v ⟨m,f,i,j,d⟩=>⟨x::m,f,i,.cons k j,d⟩
def Dj (t:TA):TE:=λU H Q=>t U H λxs H1=>xs.length<=sizeLine/\ ∀p,H1 p=u0->Q (.ref p) (aI H1 p (.tup xs))
def Md (t:TA):TE:=λU H Q=>t U H λxs H1=>xs.length<=sizeLine/\ ∀p,H1 p=u0->Q (.ref p) (aI H1 p (.lst xs))
def pK {x1}(h:PA X es t):PE X (.Tuple es x1 pos) (Dj t):=by
 intro a s U H Q I g
 refine wpAny_Tuple_spliced (aL (h pos a s U H _ I g) λf d ⟨k,j,c,r,z,q⟩=>⟨by rw [← r.length];exact z,?_⟩)
 have i:=c.aM.fresh (Aa6 _)
 refine⟨.ref d.heap.objs.size,aI j d.heap.objs.size _,c.laid (λb u e=>Aa2 _ e) (Aa6 _) ?_,rfl,q _ i⟩
 exact⟨z,f,r,⟨_,Ab6 _ rfl,rfl,rfl,_,rfl⟩⟩
def AD (h:PA X es t):PE X (.List es pos) (Md t):=by
 intro a s U H Q I g
 refine wpAny_List_spliced (aL (h pos a s U H _ I g) λf d ⟨k,j,c,r,z,q⟩=>⟨by rw [← r.length];exact z,?_⟩)
 have i:=c.aM.fresh (Aa6 _)
 refine⟨.ref d.heap.objs.size,aI j d.heap.objs.size _,c.laid (λb u e=>Aa2 _ e) (Aa6 _) ?_,rfl,q _ i⟩
 exact⟨z,f,0,r,Ab6 _ rfl⟩
end
abbrev Sp:=List V->Hp->VK->XK->Prop
abbrev gs:=List Env->Hp->Shared->XK->Value->Shared->Prop
structure eA (P:Program) (w:World) (K:Aa5) (mg:Str->Option Value) (base:Heap) (A:Around) (outer:List Env) (s:Shared) (H:Hp):Prop where
 frames:A.frames=y0 outer
 mod:Mod K mg base
 bs: ∀b o,base.get? b=y0 o->s.heap.get? b=y0 o/\H b=u0
 gx:base.objs.size<=s.heap.objs.size
 cO:s.heap.FunFrames base outer
 iR: ∀b∈bG outer,H b=u0
 aM:cN P w H s.heap
 bare:AllBare s.gens
def CE (a:List Env) (P:Program) (w:World) (H:Hp) (s:Shared) (Q:VK) (u:Value) (s':Shared):Prop:=
 ∃v H',s'.os=s.os/\AllBare s'.gens/\Un (bG a) [] H H' s.heap s'.heap/\cN P w H' s'.heap/\RelV v u/\Q v H'
def CR (b:gs) (a:List Env) (P:Program) (w:World) (H:Hp) (s:Shared) (Q:VK) (E:XK) (r:Result) (s':Shared):Prop:=
 match r with
 | .ok (.ret u)=>CE a P w H s Q u s'
 | .ok _=>False
 | .error e=>b a H s E e s'
structure bp (P:Program) (w:World) (K:Aa5) (mg:Str->Option Value) (base:Heap) (CX:gs) (k:Nat) (f:Addr) (fd:FuncData) (ps:List Str) (sp:Sp):Prop where
 len: ∀vs H Q E,sp vs H Q E->vs.length=ps.length
 run: ∀(A:Around) (outer:List Env) (s:Shared) (H:Hp) (args:Args) (us:List Value) (vs:List V) (Q:VK) (E:XK),bg k A->eA P w K mg base A outer s H->BindsTo s fd args (ps.zip us)->Vals vs us->sp vs H Q E →
  codeAny (model P w) A (.call (.ref f) args) (CR CX outer P w H s Q E) s
def eA.make {K:Aa5}(e:eA P w K mg base A outer s H) (C:Addr) (b:List Value) (a:List (Str×Value)):
 eA P w K mg base (A.under (.builtin "type.__call__" ⟨.ref C::b,a⟩)) outer s H:=⟨by first | exact e.frames | (simpa [pushEnvs]using e.frames),e.mod,e.bs,e.gx,e.cO,e.iR,e.aM,e.bare⟩
section
variable {X:Cx}{k8:List (Addr×Obj)}{U:St}{H:Hp}{s s':Shared}
def Inv.i8 (I:Inv X k8 U H s):eA X.prog X.w X.K X.mg X.base X.A X.stack s H:=
 ⟨I.ok.frames,I.ok.mod,I.bs,Ac I.ok.gx I.sz,I.stack,I.cw,I.aM,I.bare⟩
def Inv.after (I:Inv X k8 U H s) (h:CE X.stack X.prog X.w H s Q u s'):EP X k8 U Q u s':=by
 obtain⟨v,f,i,a,un,e,r,q⟩:=h
 obtain⟨j,g,d,t,c⟩:=s'
 obtain rfl:c=s.os:=i
 exact⟨v,f,I.call un e a (λb z=>absurd z (by simp)),r,q⟩
end
def vy (b:Sp) (a:List V) (E:XK) (t:TA):TE:=λU H Q=>t U H λc H1=>b (c++a) H1 Q E
def Binds (K:Aa5) (d:FuncData) (b:List Str) (c:List Value):Prop:=
 ∀(s:Shared) (a:List Value),K.In s.heap->(a++c).length=b.length->BindsTo s d ⟨a,[]⟩ (b.zip (a++c))
def Binds.all {K:Aa5}(h: ∀a:List Value,a.length=ps.length->bindArgs fd ⟨a,[]⟩=pure (ps.zip a)):Binds K fd ps []:=λs a _ b=>by
 rw [Af1]at b ⊢
 exact .of_eq (h a b)
def jQ (a:gs) (X:Cx) (E:XK):Prop:= ∀(k8:List (Addr×Obj)) (U:St) (H:Hp) (s:Shared) (e:Value) (s':Shared),Inv X k8 U H s->a X.stack H s E e s'->X.xe e s'
section
variable {X:Cx}{CX:gs}{k:Nat}{f C:Addr}{fd:FuncData}{ps:List Str}{sp:Sp}{dvs:List V}{ds:List Value}{E:XK}{x m:Str}{p pos apos:Pos}{e o:Expr}{es:List Expr}{ta:TE}{t:TA}
def pR (F:bp X.prog X.w X.K X.mg X.base CX k f fd ps sp) (c:bg k X.A) (l:Binds X.K fd ps ds) (d:Vals dvs ds) (g:jQ CX X E)
 (I:Inv X k8 U H s) (r:Vals vs us) (h:sp (vs++dvs) H Q E):wpAny (model X.prog X.w) X.A (call (.ref f) us) (EP X k8 U Q) X.xe s:=by
 have b:=r.append d
 have i:(us++ds).length=ps.length:=by rw [← b.length];exact F.len _ _ _ _ h
 refine wpAny_call (codeAny_mono (F.run X.A X.stack s H ⟨us,[]⟩ _ _ Q E c I.i8 (l s us I.bM i) b h) λr m a=> ?_)
 cases r with
 | error e=>exact g k8 U H s e m I a
 | ok j=>
  cases j with
  | ret u=>exact I.after a
  | next=>exact False.elim a
  | brk=>exact False.elim a
  | cont=>exact False.elim a
def CH (F:bp X.prog X.w X.K X.mg X.base CX k f fd ps sp) (l:bg k X.A) (n:Gl X x) (g:X.mg x=y0 (.ref f)) (v:Ae0 X.K (.ref f)=k9) (j:Binds X.K fd ps ds) (m:Vals dvs ds) (o:jQ CX X E)
 (i:PA X (e::es) t) (c:(x==("__debug__" :Str))=false:=by decide) (u:starEach (e::es) X.env=(false,eval e X.env)::starEach es X.env:=by rfl) (b:(backTo pos (starEach es X.env)).any (·.1)=false:=by rfl):
 PE X (.Call (.Name x p) (e::es) [] pos) (vy sp dvs E t):=by
 intro a s U H Q I h
 refine wpAny_Call_Name_kw (jx I n g ?_ c)
 refine PySem.W.callWith_K I.ok.mod.kO v (aL (i pos a s U H _ I h) λw A ⟨y,z,d,r,q⟩=>⟨d.bM,?_⟩) u b
 exact pR F l j m o d r q
def F0 (F:bp X.prog X.w X.K X.mg X.base CX k f fd ps sp) (d:bg k X.A) (i:Gl X x) (j:X.mg x=y0 (.ref f)) (c:Ae0 X.K (.ref f)=k9) (l:Binds X.K fd ps ds) (e:Vals dvs ds) (g:jQ CX X E)
 (a:(x==("__debug__" :Str))=false:=by decide):PE X (.Call (.Name x p) [] [] pos) (vy sp dvs E vv):=by
 intro b s U H Q I h
 refine wpAny_Call_Name_kw (jx I i j ?_ a)
 exact PySem.W.callWith_K0 I.bM c (pR F d l e g I .nil h)
structure Mk (K:Aa5) (C f:Addr):Prop where
 makes:PySem.W.makesIn K C=k9
 init:PySem.W.findIn K (.ref C) "__init__" =some (some (.ref f))
 fn:PySem.W.isFn K (.ref f)=k9
 kp:Ae0 K (.ref C)=k9
end
section
variable {X:Cx}{CX:gs}{k:Nat}{f C:Addr}{fd:FuncData}{ps ks:List Str}{sp:Sp}{E:XK}{x m:Str}{p pos apos kpos:Pos}{e o:Expr}{es:List Expr}{kws:List Keyword}{te ta:TE}{t tk:TA}{nm:Option Str}
structure Ml (K:Aa5) (fd:FuncData) (ps ks:List Str) (g:List Value->List Value->List Value) (gV:List V->List V->List V):Prop where
 to: ∀(s:Shared) (us ws:List Value),K.In s.heap->(g us ws).length=ps.length->BindsTo s fd ⟨us,ks.zip ws⟩ (ps.zip (g us ws))
 rel: ∀ {vs:List V}{us:List Value}{zs:List V}{ws:List Value},Vals vs us->Vals zs ws->Vals (gV vs zs) (g us ws)
variable {g:List Value->List Value->List Value}{gV:List V->List V->List V}
end
structure Qp (N P:List Str) (sc:Scope):Prop where
 kind:sc.kind= .function
 co:sc.isCoroutine=y9
 gen:sc.isGenerator=y9
 nd:N.Nodup
 pre:N.take P.length=P
 par: ∀x∈P,sc.names.lookup x=y0 .local\/sc.names.lookup x=y0 .cell
 kb: ∀y∈sc.names,y.2≠ .free
theorem zS {a:Str->Option NameKind}: ∀ {binds}{m},(∀ v,(x,v)∉binds)->bindL a binds m x=m x
 | [],_,_=>rfl
 | (n,v)::r,m,h=>by
  unfold bindL
  rw [zS λw b=>h w (Aa1 _ b)]
  split
  ·have:x≠n:=by rintro rfl;exact h v Aa3
   simp [this]
  ·rfl
theorem ZS {a:Str->Option NameKind}: ∀ {binds}{m},(∀ v,(x,v)∉binds)->bindC a binds m x=m x
 | [],_,_=>rfl
 | (n,v)::r,m,h=>by
  unfold bindC
  rw [ZS λw b=>h w (Aa1 _ b)]
  split
  ·rfl
  ·have:x≠n:=by rintro rfl;exact h v Aa3
   simp [this]
theorem qU {a:Str->Option NameKind}: ∀ {P:List Str}{b}{i:Nat}{m},P.Nodup->P[i]? =y0 x->b[i]? =y0 v->a x=y0 .local →
 bindL a (P.zip b) m x=y0 v
 | [],_,_,_,_,h,_,_=>by simp at h
 | _::_,[],_,_,_,_,h,_=>by simp at h
 | p::P,w::b,0,m,e,d,c,f=>by
  simp at d c;subst d;subst c
  show bindL a ((p,w)::P.zip b) m p=_
  unfold bindL
  rw [zS λv g=>(Ah1.mp e).1 (List.of_mem_zip g).1,if_pos f]
  simp
 | p::P,w::b,i+1,m,e,d,c,f=>by
  unfold bindL
  exact qU (Ah1.mp e).2 (by simpa using d) (by simpa using c) f
theorem JO {a:Str->Option NameKind}: ∀ {P:List Str}{b}{i:Nat}{m},P.Nodup->P[i]? =y0 x->b[i]? =y0 v->a x≠y0 .local →
 bindC a (P.zip b) m x=y0 v
 | [],_,_,_,_,h,_,_=>by simp at h
 | _::_,[],_,_,_,_,h,_=>by simp at h
 | p::P,w::b,0,m,e,d,c,f=>by
  simp at d c;subst d;subst c
  show bindC a ((p,w)::P.zip b) m p=_
  unfold bindC
  rw [ZS λv g=>(Ah1.mp e).1 (List.of_mem_zip g).1,if_neg f]
  simp
 | p::P,w::b,i+1,m,e,d,c,f=>by
  unfold bindC
  exact JO (Ah1.mp e).2 (by simpa using d) (by simpa using c) f
def start (N:List Str) (a:List V):St:=a.map y0++Aa8 (N.length-a.length) u0
noncomputable def jO (CX:gs) (P:Program) (w:World) (K:Aa5) (mg:Str->Option Value) (base:Heap) (N:List Str) (y8:Str) (scope:Scope) (f:Addr) (cd:Value) (A:Around) (outer:List Env) (s:Shared) (H:Hp) (E:XK):Cx where
 prog:=P
 w:=w
 K:=K
 mg:=mg
 base:=base
 A:=A.deeper (envOfC y8 scope s.heap.objs.size f cd)
 N:=N
 s₀:=s
 H₀:=H
 env:=envOfC y8 scope s.heap.objs.size f cd
 outer:=outer
 stack:=envOfC y8 scope s.heap.objs.size f cd::outer
 ex:= []
 calm:=k9
 fn:=λ_=>k9
 pn:= []
 xe:=λe s'=>wpAny (model P w) (A.deeper (envOfC y8 scope s.heap.objs.size f cd)) (leaving (envOfC y8 scope s.heap.objs.size f cd) e) (λ_ s''=>CX outer H s E e s'') (λe' s''=>CX outer H s E e' s'') s'
def J5 {a:Scope}(h:a.names.lookup x=y0 .cell): ∃c,(cellsFrom n a.names []).lookup x=y0 c:=by
 have q:=Am a.names n [] (.inl h)
 exact Ah0.mp q
def Bw {K:Aa5}
 (S:Qp N ps scope) (hd:A.handled=u0) (e0:eA P w K mg base A outer s H) (hl:vs.length=ps.length) (r:Vals vs us)
 (x:InCallC s s.heap.objs.size (bindL (envOfC y8 scope s.heap.objs.size f cd).kindOf (ps.zip us) λ_=>u0) (cellsFrom (s.heap.objs.size+1) scope.names []) (bindC (envOfC y8 scope s.heap.objs.size f cd).kindOf (ps.zip us) λ_=>u0) s1):
 Inv (jO CX P w K mg base N y8 scope f cd A outer s H E) [] (start N vs) H s1:=by
 have hpl:ps.length<=N.length:=by have:=congrArg List.length S.pre;rw [Ag0]at this;omega
 obtain⟨h1,tk,rfl,hk⟩:=x.done
 have noA: ∀b:Addr,b∉(jO CX P w K mg base N y8 scope f cd A outer s H E).ex:=λb z=>absurd (show b∈([]:List Addr)from z) (by simp)
 refine⟨⟨e0.mod,S.kind,rfl,rfl,Aa6 _,λy z c h1 h2=> ?_,λy hy=> ?_,λy c _ h=> ?_,λ_=>hd,Around.frames_deeper e0.frames,.inr ⟨rfl,rfl⟩,λb z=>absurd z (noA b),e0.bs,e0.gx,λb _ _=>noA b,λb z=>absurd z (noA b),e0.cO,e0.iR⟩,
  rfl,e0.bare,Un.kept hk,⟨_,x.toInCall.ns,λi y v h1 h2 h3=> ?_⟩,λy c h=>⟨_,x.cell y c h⟩,e0.aM.fresh (Aa6 _),λy c h=> ?_,λp hp=>absurd (show p∈([]:List _)from hp) (by simp),e0.aM.kept hk,?_⟩
 ·exact name_of_addr x.apart (PySem.mem_of_lookup h1) (PySem.mem_of_lookup h2)
 ·have hy:=hy
  rcases hy with hy | hy
  ·exact J5 hy
  ·exact absurd rfl (S.kb _ (PySem.mem_of_lookup hy))
 ·exact Ah4 (x.above y c (PySem.mem_of_lookup h))
 ·have hi:i<vs.length:=by
   unfold start at h2
   by_cases hi:i<vs.length
   ·exact hi
   ·rw [Af6 (by simpa using hi)]at h2
    rw [Am2]at h2
    split at h2<;>cases h2
  have ha:vs[i]? =y0 v:=by
   unfold start at h2
   rw [Af9 (by simpa using hi),Ac5]at h2
   cases e:vs[i]? with
   | none=>rw [e]at h2;cases h2
   | some a=>rw [e]at h2;cases h2;rfl
  obtain⟨u,hu,rv⟩:=r.get ha
  have hp:ps[i]? =y0 y:=by
   rw [← S.pre,List.getElem?_take_of_lt (by omega)];exact h1
  have ndP:ps.Nodup:=by rw [← S.pre];exact S.nd.sublist (List.take_sublist _ _)
  refine⟨u,rv,?_⟩
  rcases S.par y (Ak2 hp)with k | k
  ·exact .inl ⟨k,qU ndP hp hu k⟩
  ·obtain⟨c,e⟩:=J5 k
   refine .inr ⟨.inl k,c,e,?_⟩
   have q:=x.cell y c e
   rw [JO ndP hp hu (by show scope.names.lookup y≠_;rw [k];decide)]at q
   exact q
 ·exact e0.aM.fresh (Ah4 (x.above y c (PySem.mem_of_lookup h)))
 ·unfold start
  show _=N.length
  rw [Ab0,Aa,Ae8]
  omega
def Fq {K:Aa5}{dV kV doc pm cdv ct oc:Value}
 (lk:K.lookup f=y0 ⟨oc,od,.func (Ai name y8 params body scope dV kV doc pm an cdv ct),osl⟩) (hcd:Ak7 K cdv y8=k9) (S:Qp N ps scope)
 (len: ∀vs H Q E,sp vs H Q E->vs.length=ps.length)
 (hbody: ∀ A outer s H vs Q E,bg k (A.deeper (envOfC y8 scope s.heap.objs.size f cdv))->sp vs H Q E →
   ∃t,cK (jO CX P w K mg base N y8 scope f cdv A outer s H E) body t/\t { nx:=λ_ H'=>Q .av H',rt:=Q } (start N vs) H):
 bp P w K mg base CX (k+1) f (Ai name y8 params body scope dV kV doc pm an cdv ct) ps sp:=by
 refine⟨len,λA outer s H args us vs Q E hr e0 hb r hsp=> ?_⟩
 have hl:=len _ _ _ _ hsp
 have KX:=e0.mod.kO.keeps λb o e=>(e0.bs b o e).1
 have lim:=e0.mod.nolimit.keeps λb o e=>(e0.bs b o e).1
 have hkind: ∀y∈ps.zip us,scope.names.lookup y.1=y0 .local\/(scope.names.lookup y.1=y0 .cell/\((cellsFrom (s.heap.objs.size+1) scope.names []).lookup y.1).isSome=k9):=by
  rintro ⟨n,v⟩ hy
  obtain q | q:=S.par n (List.of_mem_zip hy).1
  ·exact .inl q
  ·exact .inr ⟨q,Am _ _ _ (.inl q)⟩
 refine codeAny_call_function hr.depth (KX _ _ lk) rfl S.co S.gen rfl (PySem.W.codeRec_of KX hcd) (hb _ _ _ _ ?_)
 refine wpAny_newFunctionEnv_cells S.kind hkind λenv he s1 x=> ?_
 subst he
 refine⟨lim.keeps x.toInCall.keep,codeAny_func ?_⟩
 obtain⟨t,ht,hq⟩:=hbody A outer s H vs Q E (hr.deeper _) hsp
 have I:Inv (jO CX P w K mg base N y8 scope f cdv A outer s H E) [] _ H s1:=Bw S hr.hd e0 hl r x
 refine wpAny_mono (ht [] s1 _ H _ I hq) (λfl s' hs=> ?_) λe s' hs=>hs
 have fin: ∀ {U'}{H'}{v}{u},Inv (jO CX P w K mg base N y8 scope f cdv A outer s H E) [] U' H' s'->RelV v u->Q v H'->CE outer P w H s Q u s':=
  λ{U' H' v u} J rv q=>⟨v,H',J.os,J.bare,J.base,J.aM,rv,q⟩
 cases fl with
 | ret u=>
  obtain⟨v,U',H',J,rv,q⟩:=hs
  exact fin J rv q
 | next=>
  obtain⟨U',H',J,q⟩:=hs
  exact fin (v:=V.av) J rfl q
 | brk=>
  obtain⟨_,_,_,q⟩:=hs
  exact False.elim q
 | cont=>
  obtain⟨_,_,_,q⟩:=hs
  exact False.elim q
section
variable {X:Cx}{x:Str}{p pos:Pos}{e:Expr}{es:List Expr}{t:TA}{id T:String}{r:List V->Hp->VK->Prop}
def nS (r:List V->Hp->VK->Prop) (t:TA):TE:=λU H Q=>t U H λa H1=>r a H1 Q
def xh (o:qm X (.builtin id) r) (k:Gl X x) (f:X.mg x=none) (n:bootBuiltins x=some (.builtin id)) (g:PA X (e::es) t) (l:x≠ "__name__" :=by decide) (c:(x==("__debug__" :Str))=false:=by decide)
 (q:starEach (e::es) X.env=(y9,eval e X.env)::starEach es X.env:=by rfl) (b:(backTo pos (starEach es X.env)).any (·.1)=false:=by rfl):PE X (.Call (.Name x p) (e::es) [] pos) (nS r t):=by
 intro a s U H Q I h
 refine wpAny_Call_Name_kw (zz I k f n ?_ l c)
 exact PyProof.Rows.callWith_builtin1 (aL (g pos a s U H _ I h) λi v ⟨m,u,d,j,w⟩=>o a v U u m i Q d j w) q b
def jv (o:qm X (.type T) r) (k:Gl X x) (f:X.mg x=none) (n:bootBuiltins x=some (.type T)) (g:PA X (e::es) t) (l:x≠ "__name__" :=by decide) (c:(x==("__debug__" :Str))=false:=by decide)
 (q:starEach (e::es) X.env=(y9,eval e X.env)::starEach es X.env:=by rfl) (b:(backTo pos (starEach es X.env)).any (·.1)=false:=by rfl):PE X (.Call (.Name x p) (e::es) [] pos) (nS r t):=by
 intro a s U H Q I h
 refine wpAny_Call_Name_kw (zz I k f n ?_ l c)
 exact PyProof.Rows.callWith_type1 (aL (g pos a s U H _ I h) λi v ⟨m,u,d,j,w⟩=>o a v U u m i Q d j w) q b
end
end L2
namespace HT
open PySem PyProof.Rows
noncomputable def lexLt:List Int->List Int->Bool
 | [],[]=>y9
 | [],_::_=>k9
 | _::_,[]=>y9
 | x::xs,y::ys=>if x=y then lexLt xs ys else v9 (x<y)
def cS (x y) (xs ys):lexLt (x::xs) (y::ys)=if x=y then lexLt xs ys else v9 (x<y):=rfl
def QJ:lexLt [] []=false:=rfl
def EI (A) (s) (a) (t) (c) (u): ∃e,SeqAt.EqAt A s (.int a t) (.int c u) e/\(e=k9↔a=c):=
 ⟨_,SeqAt.EqAt.int_int a t c u,by simp⟩
def Ax (A) (s) (a) (t) (c) (u) (prog) (w) (E) (Q) (h:Q (.bool (v9 (a<c))) s):
 wpAny (model prog w) A (richCompare .Lt (.int a t) (.int c u)) Q E s:=
 (PyProof.Rows.lt_int h)
section
variable {prog:Program}{w:World}{A:Around}{E:Value->Shared->Prop}{s:Shared}
def gA (r:IsTup s.heap t vs.toArray) (q:IsTup s.heap b ws.toArray) (m:vs≠ [])
 (h1:ws= []->Q (.ref t) s) (h2:ws≠ []->Q (.ref s.heap.objs.size) { s with heap:=s.heap.push { cls:= .type "tuple",data:= .seq (vs++ws).toArray } })
 (hsz:vs.length+ws.length<=sizeLine):wpAny (model prog w) A (binaryOp .Add (.ref t) (.ref b)) Q E s:=by
 obtain⟨⟨j,dd,f,sl⟩,g,v,n,u⟩:=id r
 obtain⟨⟨o,d,l,c⟩,a,h,p,k⟩:=id q
 subst v u h k
 have e:vs.toArray++ws.toArray=(vs++ws).toArray:=by simp
 by_cases i:ws= []
 ·exact concat_meets ⟨_,g,rfl⟩ ⟨_,a,rfl⟩ noFill_tuple_add seq_tuple_add PySem.F.slot_tuple_add PySem.F.entry_tuple_add (PySem.F.args_tuple_add_2 _ _)
   (tuple_addW1 t b vs.toArray ws.toArray n p dd d sl c (by simpa using m) (by simp [i])) ⟨g,a,h1 i⟩
 ·refine concat_meets ⟨_,g,rfl⟩ ⟨_,a,rfl⟩ noFill_tuple_add seq_tuple_add PySem.F.slot_tuple_add PySem.F.entry_tuple_add (PySem.F.args_tuple_add_2 _ _)
   (tuple_addW2 t b vs.toArray ws.toArray n p dd d sl c (by simpa using m) (by simp_all) (by simp_all)) ⟨g,a,?_⟩
  rw [e]
  exact h2 i
def bh (n d:Nat):Option Int->Nat
 | none=>d
 | some v=>if v<0 then(v+(n:Int)).toNat else min v.toNat n
def Ew (n d) (b:d<=n) (o):bh n d o<=n:=by
 cases o with
 | none=>exact b
 | some v=>
  show(if v<0 then(v+ n).toNat else min v.toNat n)<=n
  by_cases a:v<0
  ·rw [if_pos a];lia
  ·rw [if_neg a];exact Nat.min_le_right _ _
def tE (v) (n d:Nat):(if v<0 then max (v+(n:Int)) 0 else min v (n:Int))=((bh n d (y0 v):Nat):Int):=by
 show(if v<0 then max _ 0 else min v n)=(((if v<0 then(v+(n:Int)).toNat else min v.toNat n)))
 by_cases a:v<0
 ·simp only [if_pos a];lia
 ·simp [if_neg a];lia
def Iw (a b) (n:Nat):Builtin.Slice.sliceAdjust a b 1 (n:Int)=(((bh n 0 a:Nat):Int),((bh n n b:Nat):Int)):=by
 have c: ¬(1<0):=by lia
 refine Prod.ext ?_ ?_
 ·cases a with
  | none=>rfl
  | some v=>exact tE v n 0
 ·cases b with
  | none=>rfl
  | some v=>exact tE v n n
def BA (i j:Nat):Builtin.Slice.slicePlaces (i:Int) (j:Int) 1=j-i:=by
 unfold Builtin.Slice.slicePlaces
 have a: 1>0:=by lia
 simp [Int.ediv_one]
 split<;>lia
def WH (p:IsPart v o) (h:Q o s):wpAny (model prog w) A (Builtin.Slice.slicePartIndex v) Q E s:=by
 cases p with
 | none=>exact slicePart_none h
 | int i t=>exact slicePart_int h
def bE {a d:Option Int}{Q:Int×Int×Nat->Shared->Prop}(g:s.heap.IsSliceOf sl vl vu .none) (pl:IsPart vl a) (f:IsPart vu d)
 (h:Q (((bh n 0 a:Nat):Int),1,bh n n d-bh n 0 a) s):wpAny (model prog w) A (Builtin.Slice.sliceApplied (.ref sl) (pure (n:Int))) Q E s:=by
 obtain⟨i,b,e,c⟩:=id g
 refine wpAny_bind (wpAny_bind (wpAny_field b c (x:=vl) rfl (wpAny_bind (wpAny_field b c (x:=vu) rfl (wpAny_bind (wpAny_field b c rfl (wpAny_pure ?_)))))))
 refine wpAny_bind (slicePart_none ?_)
 refine wpAny_bind (WH pl (wpAny_bind (WH f (wpAny_bind (wpAny_pure ?_)))))
 show wpAny _ _ (match Builtin.Slice.sliceAdjust a d 1 (n:Int)with | (a,d)=>pure (a,(1:Int),Builtin.Slice.slicePlaces a d 1)) _ _ s
 rw [Iw a d n]
 show wpAny _ _ (pure _) _ _ s
 rw [BA]
 exact wpAny_pure h
def LA (xs:Array Value) (i k:Nat):((Aa0 k).filterMap λ(m:Nat)=>xs[((i:Int)+(m:Int)*1).toNat]?).toArray=((xs.toList.drop i).take k).toArray:=by
 have e:(λ(m:Nat)=>xs[(i+(m:Int)*1).toNat]?)=λm=>xs[i+m]? :=by
  funext m
  have:(i+(m:Int)*1).toNat=i+m:=by lia
  rw [this]
 rw [e]
 have:=pick_run xs i k
 rw [List.filterMap_map]at this
 have a:((λx=>xs[x]?)∘λx=>i+x)=λm=>xs[i+m]? :=rfl
 rw [a]at this
 rw [this]
def cq {a b:Option Int}(d:IsTup s.heap t items) (j:s.heap.IsSliceOf sl vl vu .none) (pl:IsPart vl a) (m:IsPart vu b)
 (l: ¬(bh items.size 0 a=0/\bh items.size items.size b=items.size))
 (h:Q (.ref s.heap.objs.size) { s with heap:=s.heap.push { cls:= .type "tuple",data:= .seq ((items.toList.drop (bh items.size 0 a)).take (bh items.size items.size b-bh items.size 0 a)).toArray } })
 (hsz:items.size<=sizeLine):wpAny (model prog w) A (getItem (.ref t) (.ref sl)) Q E s:=by
 have c:=by
  show((items.toList.drop (bh items.size 0 a)).take (bh items.size items.size b-bh items.size 0 a)).toArray.size<=sizeLine
  rw [Ab8,Ag0,Ai8,An]
  omega
 have p:bh items.size items.size b<=items.size:=Ew _ _ (Aa6 _) b
 obtain⟨n,e,g,k⟩:=id j
 have f:s.TypeIs (.ref sl) "slice" :=⟨n,e,g⟩
 unfold getItem
 try with_reducible refine wpAny_holding ?_
 first | refine wpAny_bind _ | skip
 refine wpAny_bind (wpAny_sequenceKey d.typeIs (by decide) ?_)
 refine wpAny_bind (wpAny_callSpecial?_slot d.typeIs PyProof.Rows.slot_tuple_getitem
  (wpAny_call_entry PyProof.Rows.slot_tuple_getitem d.typeIs entry_tuple_getitem ?_ (args_tuple_getitem _ _)))
 show wpAny _ _ (Builtin.Tuple.tupleItemsOf _ >>= _) _ _ s
 refine wpAny_bind (tupleItemsOf_ d ?_)
 refine wpAny_bind (wpAny_typeOf f ?_)
 rw [if_pos (by decide)]
 refine wpAny_bind (bE j pl m ?_)
 have i: ¬((((bh items.size 0 a:Nat):Int)==0&&(1:Int)==1&&(bh items.size items.size b-bh items.size 0 a)==items.size)=k9):=by
  intro q
  rw [Aa7,Aa7]at q
  have r:=eq_of_beq q.1.1
  have o:=eq_of_beq q.2
  exact l ⟨by omega,by omega⟩
 show wpAny _ _ (if (((bh items.size 0 a:Nat):Int)==0&&(1:Int)==1&&(bh items.size items.size b-bh items.size 0 a)==items.size)=k9 then _ else _) _ _ s
 rw [if_neg i,LA]
 first
  | exact wpAny_bind _
  | exact wpAny_bind (wpAny_newObj_type (wpAny_bind (wpAny_pure (wpAny_pure ⟨_,rfl,wpAny_pure h⟩))) c)
  | exact wpAny_bind _
  | exact wpAny_bind _
end
end HT
namespace L2
open PySem PySem.Spec PyProof.Rows
abbrev TO:=St->Hp->(Option Int->Hp->Prop)->Prop
def PO (X:Cx) (e:Option Expr) (t:TO):Prop:=
 ∀(k8:List (Addr×Obj)) (s:Shared) (U:St) (H:Hp) (Q:Option Int->Hp->Prop),Inv X k8 U H s->t U H Q →
  wpAny (model X.prog X.w) X.A (evalPart e X.env) (λu s'=> ∃o H',Inv X k8 U H' s'/\IsPart u o/\Q o H') X.xe s
def IX:TO:=λ_ H Q=>Q u0 H
def A3 (t:TE):TO:=λU H Q=>t U H λx H1=> ∃i,x= .int i/\Q (y0 i) H1
def QG : ∀ {a},Vals (b.map V.int) a->IntsAre a b:=by
 induction b with
 | nil=>intro a r;cases r;exact .nil
 | cons n b c=>
  intro a r
  cases r with
  | cons d f=>
   obtain⟨t,e⟩:=d
   subst e
   exact .cons n t (c f)
section
variable {X:Cx}{e:Expr}{te:TE}{lo hi:Option Expr}{tl th:TO}{pos p2:Pos}
def rx:PO X u0 IX:=by
 intro a s U H Q I h
 exact wpAny_pure ⟨u0,H,I,.none,h⟩
def ZN (h:PE X e te):PO X (y0 e) (A3 te):=by
 intro a s U H Q I d
 refine aL (h a s U H _ I d) ?_
 rintro u j ⟨x,f,b,c,g⟩
 obtain⟨i,rfl,q⟩:=g
 obtain⟨t,rfl⟩:=c
 exact⟨y0 i,f,b,.int i t,q⟩
def g0 (X:Cx) (r:V->Option Int->Option Int->Hp->VK->Prop):Prop:=
 ∀(k8:List (Addr×Obj)) (s:Shared) (U:St) (H:Hp) (x:V) (v a b:Value) (lo hi:Option Int) (sl:Addr) (Q:VK),Inv X k8 U H s->RelV x v->s.heap.IsSliceOf sl a b .none->IsPart a lo->IsPart b hi->r x lo hi H Q →
  ∃T id,typeLookup (.type T) "__getitem__" =pure (some (.builtin id))/\s.TypeIs v T/\wpAny (model X.prog X.w) X.A (getItem v (.ref sl)) (EP X k8 U Q) X.xe s
def g0.or (h:g0 X r) (h':g0 X r'):g0 X (λx lo hi H Q=>r x lo hi H Q\/r' x lo hi H Q):=by
 intro a s U H x v c d lo hi sl Q I b f pl e q
 obtain q | q:=q
 ·exact h a s U H x v c d lo hi sl Q I b f pl e q
 ·exact h' a s U H x v c d lo hi sl Q I b f pl e q
def Cd (r:V->Option Int->Option Int->Hp->VK->Prop) (a:TE) (c th:TO):TE:=λU H Q=>a U H λx H1=>c U H1 λl H2=>th U H2 λu b=>r x l u b Q
def JN (A:g0 X r) (F:PE X e te) (B:PO X lo tl) (D:PO X hi th):PE X (.Subscript e (.Slice lo hi u0 p2) pos) (Cd r te tl th):=by
 intro a s U H Q I h
 refine Subscript_ (aL (F a s U H _ I h) ?_)
 rintro v J ⟨x,G,i,y,K⟩
 refine wpAny_Slice (aL (B a J U G _ i K) λd z ⟨l,o,p,pl,n⟩=>aL (D a z U o _ p n) ?_)
 rintro f c ⟨u,g,m,E,k⟩
 refine wpAny_pure ?_
 have t:Inv X a U g { c with heap:=c.heap.push { cls:= .type "slice",data:= .fields #[d,f,.none] } }:=m.kept fun b L q=>Heap.get?_push_of_some _ q
 obtain⟨T,M,j,w,C⟩:=A a { c with heap:=c.heap.push { cls:= .type "slice",data:= .fields #[d,f,.none] } } U g x v d f l u c.heap.objs.size Q t y (Heap.IsSliceOf.new ..) pl E k
 exact tail_any w j C (by with_unfolding_all rfl)
noncomputable def lX (xs:List V) (a b:Option Int):List V:=(xs.drop (HT.bh xs.length 0 a)).take (HT.bh xs.length xs.length b-HT.bh xs.length 0 a)
def ZE (xs) (lo hi):(lX xs lo hi).length<=xs.length:=by
 unfold lX
 rw [Ag0,Ai8]
 lia
def pj (K:Aa5):V->Option Int->Option Int->Hp->VK->Prop:=λx lo hi H Q=> ∃a xs,x= .ref a/\bI K H a xs ∧
 ¬(HT.bh xs.length 0 lo=0/\HT.bh xs.length xs.length hi=xs.length)/\ ∀p,H p=u0->Q (.ref p) (aI H p (.tup (lX xs lo hi)))
def CP:g0 X (pj X.K):=by
 intro g s U H x v u w k o sl Q I j p pl n h
 obtain⟨a,i,rfl,m,l,q⟩:=h
 cases j
 obtain⟨d,r,e,f⟩:=I.tuple m
 have c:d.toArray.size=i.length:=by rw [Ab8];exact r.length.symm
 refine⟨"tuple",_,PyProof.Rows.slot_tuple_getitem.lookup,e.typeIs,?_⟩
 refine HT.cq e p pl n (by rw [c];exact l) ?_ (by rw [c];exact f)
 rw [c]
 refine⟨.ref s.heap.objs.size,_,I.laid (λb t q=>Aa2 _ q) (Aa6 _) ?_,rfl,q _ (I.aM.fresh (Aa6 _))⟩
 exact⟨Ac (ZE i k o) f,_,(r.drop _).take _,di.new _ _⟩
def yq (K:Aa5):R2:=λx y H Q=> ∃a b xs ys,x= .ref a/\y= .ref b/\bI K H a xs/\bI K H b ys/\xs≠ []/\xs.length+ys.length<=sizeLine ∧
 (ys= []->Q (.ref a) H)/\(ys≠ []-> ∀p,H p=u0->Q (.ref p) (aI H p (.tup (xs++ys))))
def Vals.dC (r:Vals xs us):us= []↔xs= []:=by
 cases r with
 | nil=>simp
 | cons _ _=>simp
def CM:bL X (binaryOp .Add) (yq X.K):=by
 intro f s U H x y v u Q I i p h
 obtain⟨a,b,C,A,rfl,rfl,k,l,o,e,t,j⟩:=h
 cases i
 cases p
 obtain⟨n,d,r,_⟩:=I.tuple k
 obtain⟨g,c,m,_⟩:=I.tuple l
 refine HT.gA r m (λz=>o (d.dC.mp z)) (λz=>⟨.ref a,H,I,rfl,t (c.dC.mp z)⟩) (λz=> ?_) (by rw [← d.length,←c.length];exact e)
 refine⟨.ref s.heap.objs.size,_,I.laid (λb B q=>Aa2 _ q) (Aa6 _) ?_,rfl,j (λw=>z (c.dC.mpr w)) _ (I.aM.fresh (Aa6 _))⟩
 exact⟨by rw [Ab0];exact e,_,d.append c,di.new _ _⟩
end
noncomputable def d8 (n:Nat) (i:Int):Option Nat:=if 0<=i then(if i<n then y0 i.toNat else u0)else if -(n:Int)<=i then y0 (i+n).toNat else u0
def aX {a:Type}(xs:List a) (i:Int):Option a:=(d8 xs.length i).bind λj=>xs[j]?
def uc (h:d8 n i=y0 j):seqIndex? i n=y0 j/\j<n/\ -(n:Int)<=i/\i<n:=by
 unfold d8 at h
 by_cases b:0<=i
 ·rw [if_pos b]at h
  by_cases a:i<n
  ·rw [if_pos a]at h
   have e:=Ae4.inj h
   exact⟨by rw [seqIndex_of b a,e],by lia,by lia,a⟩
  ·rw [if_neg a]at h;cases h
 ·rw [if_neg b]at h
  by_cases a: - n<=i
  ·rw [if_pos a]at h
   have e:=Ae4.inj h
   exact⟨by rw [seqIndex_neg (by lia) a,e],by lia,a,by lia⟩
  ·rw [if_neg a]at h;cases h
def ZZ (h:aX xs i=y0 v): ∃j,seqIndex? i xs.length=y0 j/\xs[j]? =y0 v/\j<xs.length/\ -(xs.length:Int)<=i/\i<xs.length:=by
 unfold aX at h
 cases e:d8 xs.length i with
 | none=>rw [e]at h;cases h
 | some j=>
  rw [e]at h
  obtain⟨c,a,b,d⟩:=uc e
  exact⟨j,c,h,a,b,d⟩
def Qh {j:Nat}(h:xs[j]? =y0 v):aX xs (j:Int)=y0 v:=by
 have a:=(Ac0.mp h).1
 have e:d8 xs.length j=y0 j:=by
  unfold d8
  rw [if_pos (by lia),if_pos (by lia)];simp
 unfold aX;rw [e];exact h
def vw (b:Expr):Prop:= ∀o i,subscripted b y9 o i=operate [o,i] (getItem o i)
def gw (X:Cx) (r:R2):Prop:=
 ∀(value a:Expr) (k8:List (Addr×Obj)) (s:Shared) (U:St) (H:Hp) (x y:V) (v u:Value) (Q:VK),Inv X k8 U H s->RelV x v->RelV y u->r x y H Q →
  subscripted a y9 v u=operate [v,u] (getItem v u)->wpAny (model X.prog X.w) X.A (subscriptTail value a v u) (EP X k8 U Q) X.xe s
def r9 (X:Cx) (b:String) (r:V->List V->Hp->VK->Prop):Prop:=
 ∀(k8:List (Addr×Obj)) (s:Shared) (U:St) (H:Hp) (x:V) (xs:List V) (v:Value) (a:List Value) (Q:VK),Inv X k8 U H s->RelV x v->Vals xs a->r x xs H Q →
  wpAny (model X.prog X.w) X.A (call (.builtin b) (v::a)) (EP X k8 U Q) X.xe s
section
variable {X:Cx}{a b:Expr}{ta tb:TE}{pos:Pos}
def gw.or (h:gw X r) (h':gw X r'):gw X (λx y H Q=>r x y H Q\/r' x y H Q):=by
 intro a b c s U H x y v u Q I d e q f
 obtain q | q:=q
 ·exact h a b c s U H x y v u Q I d e q f
 ·exact h' a b c s U H x y v u Q I d e q f
def LJ (k:gw X r) (f:PE X a ta) (i:PE X b tb) (m:vw b):PE X (.Subscript a b pos) (lV r ta tb):=by
 intro c s U H Q I h
 exact Subscript_ (oP f i I h λv u j x y e g d l q=>k a b c j U e x y v u Q g d l q (m _ _))
def rr (K:Aa5):R2:=λx y H Q=> ∃p xs i v,x= .ref p/\y= .int i/\a8 K H p xs/\aX xs i=y0 v/\Q v H
def u6 (K:Aa5):R2:=λx y H Q=> ∃p xs i v,x= .ref p/\y= .int i/\bI K H p xs/\aX xs i=y0 v/\Q v H
def rK:R2:=λx y H Q=> ∃z i c,x= .str z/\y= .int i/\z.length<=sizeLine/\aX z.cps.toList i=y0 c/\Q (.str ⟨#[c]⟩) H
def gZ:gw X (rr X.K):=by
 intro e g a s U H x y v u Q I n E h l
 obtain⟨p,J,i,z,rfl,rfl,A,F,q⟩:=h
 cases n
 obtain⟨t,rfl⟩:=E
 obtain⟨f,r,pl,G⟩:=I.list A
 obtain⟨j,b,D,K,o,C⟩:=ZZ F
 obtain⟨w,k,c⟩:=r.get D
 have B:=r.length
 have hn:=zD
 have fin:EP X a U Q w s:=⟨z,H,I,c,q⟩
 by_cases m:0<=i
 ·have d:=by
   rw [seqIndex_of m C]at b
   exact Ae4.inj b
  exact item_listR pl.isList m (by lia) (by rw [d];simpa using k) fin l
 ·have d:(i+ f.toArray.size).toNat=j:=by
   rw [seqIndex_neg (by lia) o]at b
   rw [Ab8,←B]
   exact Ae4.inj b
  exact subscriptTail_builtinR pl.isList.typeIs slot_list_getitem.lookup
   (wpAny_getItem_list_neg pl.isList (by lia) (by simp_all) (by lia) (by rw [d];simpa using k) ⟨rfl,fin⟩) l
def ah:gw X (u6 X.K):=by
 intro c d a s U H x y v u Q I e o h A
 obtain⟨p,E,i,z,rfl,rfl,f,B,q⟩:=h
 cases e
 obtain⟨t,rfl⟩:=o
 obtain⟨n,r,pl,D⟩:=I.tuple f
 obtain⟨j,l,m,G,C,F⟩:=ZZ B
 obtain⟨w,k,b⟩:=r.get m
 have g:=r.length
 have hn:=zD
 have fin:EP X a U Q w s:=⟨z,H,I,b,q⟩
 exact subscriptTail_builtinR pl.typeIs slot_tuple_getitem.lookup
  (getItem_tuple pl (by lia) (by lia) (by rw [Ab8,←g];exact l) (by simpa using k) ⟨rfl,fin⟩) A
def Cc:gw X rK:=by
 intro a b d s U H x y v u Q I f p h r
 obtain⟨z,i,c,rfl,rfl,B,w,q⟩:=h
 obtain⟨t,rfl⟩:=f
 obtain⟨A,rfl⟩:=p
 obtain⟨j,e,o,C,k,n⟩:=ZZ w
 have m:z.cps.toList.length=z.length:=by simp [Str.length]
 rw [m]at e k n
 have hn:=zD
 exact tail_any (typeIs_str s z t) slot_str_getitem.lookup (getItem_str (by
  have g:v9 (i< -(2 ^ 63:Int))=false:=decide_eq_false (by omega)
  have l:v9 (i>=2 ^ 63)=false:=decide_eq_false (by omega)
  rw [g,l,Bool.or_false]) (by rw [e];simpa using o) ⟨.str ⟨#[c]⟩,H,I.tok _,⟨_,rfl⟩,q⟩) r
def DN (K:Aa5):R2:=λx y H Q=>rr K x y H Q\/u6 K x y H Q\/rK x y H Q
def EO:gw X (DN X.K):=gZ.or (ah.or Cc)
def AA (a:List Value) (n j) (u):Obj.mapSeq (·.setIfInBounds j u) { cls:= .type "list",data:= .seq a.toArray n }= { cls:= .type "list",data:= .seq (a.set j u).toArray n }:=by
 simp [Obj.mapSeq]
theorem Inv.lst (I:Inv X k8 U H s) (h:H p=y0 (.lst xs)):
 ∃ a n,Vals xs a/\s.heap.get? p=y0 { cls:= .type "list",data:= .seq a.toArray n }/\xs.length<=sizeLine:=by
 obtain⟨z,a,n,r,e⟩:=I.aM p _ h
 exact⟨a,n,r,e,z⟩
def Inv.iM {a its':List Value}(I:Inv X k8 U H s) (h:H p=y0 (.lst xs))
 (g:s.heap.get? p=y0 { cls:= .type "list",data:= .seq a.toArray n }) (c:f { cls:= .type "list",data:= .seq a.toArray n }= { cls:= .type "list",data:= .seq its'.toArray n' }) (r:Vals ys its') (d:ys.length<=sizeLine) (t):
 Inv X k8 U (aI H p (.lst ys)) { s with heap:=s.heap.update p f,toks:=t }:=by
 have e:(s.heap.update p f).get? p=y0 { cls:= .type "list",data:= .seq its'.toArray n' }:=by
  rw [Ai0 f g (by rw [c]<;>rfl),c]
 refine I.write (by rw [h];trivial) (.inl rfl) (λb u i q=>(Aj3 _ _ (Ne.symm i)).trans q) ⟨_,e⟩ ?_
 exact⟨d,its',n',r,e⟩
def Hj:V->V->V->Hp->(Hp->Prop)->Prop:=λo i v H Q=> ∃p xs k j,o= .ref p/\i= .int k/\H p=y0 (.lst xs)/\d8 xs.length k=y0 j/\Q (aI H p (.lst (xs.set j v)))
def LR:pq X Hj:=by
 intro e s U H o i v F B u Q I x A rv h
 obtain⟨p,D,k,j,rfl,rfl,f,y,q⟩:=h
 cases x
 obtain⟨t,rfl⟩:=A
 obtain⟨a,n,r,d,C⟩:=I.lst f
 obtain⟨b,E,z,m⟩:=uc y
 have w:=r.length
 have hn:=zD
 have l:=
  I.iM f d (AA a n j u) (r.set rv j) (by simp_all) s.toks
 by_cases g:0<=k
 ·have c:=by
   rw [seqIndex_of g m]at b
   exact Ae4.inj b
  exact PySem.W.ki_setAt d g (by lia) (by simp_all) (by rw [c];exact⟨_,l,q⟩)
 ·have c:(k+ a.toArray.size).toNat=j:=by
   rw [seqIndex_neg (by lia) z]at b
   rw [Ab8,←w]
   exact Ae4.inj b
  exact PySem.W.ki_setBack d (by lia) (by simp_all) (by lia) (by rw [c];exact⟨_,l,q⟩)
def XO (lo hi) (n):(sliceBounds lo hi u0 n).1=((HT.bh n 0 lo:Nat):Int)/\(sliceBounds lo hi u0 n).2.1=((HT.bh n n hi:Nat):Int)/\(sliceBounds lo hi u0 n).2.2=1:=by
 refine⟨?_,?_,rfl⟩
 ·cases lo with
  | none=>simp [sliceBounds,HT.bh]
  | some i=>
   simp [sliceBounds,HT.bh,if_true]
   by_cases h:i<0
   ·simp [h,if_true]<;>lia
   ·simp [h,if_false]<;>lia
 ·cases hi with
  | none=>simp [sliceBounds,HT.bh]
  | some i=>
   simp [sliceBounds,HT.bh,if_true]
   by_cases h:i<0
   ·simp [h,if_true]<;>lia
   ·simp [h,if_false]<;>lia
def zJ (a:List Value) (lo hi):slicePick a.toArray lo hi u0=((a.drop (HT.bh a.length 0 lo)).take (HT.bh a.length a.length hi-HT.bh a.length 0 lo)).toArray:=by
 obtain⟨b,d,c⟩:=XO lo hi a.toArray.size
 unfold slicePick
 rw [b,d,c]
 simp only [sliceRange_one,pick_run,Ab8]<;>rfl
def oh (K:Aa5):V->Option Int->Option Int->Hp->VK->Prop:=λx lo hi H Q=> ∃a xs,x= .ref a/\a8 K H a xs/\ ∀p,H p=u0->Q (.ref p) (aI H p (.lst (lX xs lo hi)))
def gE:g0 X (oh X.K):=by
 intro e s U H x v t u g n sl Q I f o pl m h
 obtain⟨a,j,rfl,l,q⟩:=h
 cases f
 obtain⟨k,r,d,i⟩:=I.list l
 have c:=r.length
 refine⟨"list",_,slot_list_getitem.lookup,d.isList.typeIs,?_⟩
 refine wpAny_getItem_list_slice d.isList o pl m .none (by simp) ?_ (by simp_all)
 rw [zJ,←c]
 refine⟨.ref s.heap.objs.size,_,I.laid (λb p q=>Aa2 _ q) (Aa6 _) ?_,rfl,q _ (I.aM.fresh (Aa6 _))⟩
 exact⟨Ac (ZE j g n) i,_,0,(r.drop _).take _,Ab6 _ rfl⟩
def xF:V->Bool
 | .av=>k9
 | .bl _=>k9
 | .int _=>k9
 | .str _=>k9
 | _=>y9
noncomputable def gS:V->V->Bool
 | .av,.av=>k9
 | .bl a,.bl b=>a==b
 | .bl a,.int b=>(if a then 1 else 0)==b
 | .int a,.bl b=>a==(if b then 1 else 0)
 | .int a,.int b=>a==b
 | .str a,.str b=>a==b
 | _,_=>y9
def Fu (e:RelV y u) (c:RelV x v) (f:xF y=k9) (fx:xF x=k9):SeqAt.EqAt A s u v (gS y x):=by
 cases y with
 | av=>
  cases e
  cases x with
  | av=>cases c;exact SeqAt.EqAt.same _
  | bl b=>cases c;exact SeqAt.EqAt.none_bool b
  | int b=>obtain⟨t,rfl⟩:=c;exact SeqAt.EqAt.none_int b t
  | str b=>obtain⟨t,rfl⟩:=c;exact SeqAt.EqAt.none_str b t
  | _=>exact absurd (fx) Ab9
 | bl a=>
  cases e
  cases x with
  | av=>cases c;exact SeqAt.EqAt.bool_none a
  | bl b=>cases c;exact SeqAt.EqAt.bool_bool a b
  | int b=>obtain⟨t,rfl⟩:=c;exact SeqAt.EqAt.bool_int a b t
  | str b=>obtain⟨t,rfl⟩:=c;exact SeqAt.EqAt.bool_str a b t
  | _=>exact absurd (fx) Ab9
 | int a=>
  obtain⟨d,rfl⟩:=e
  cases x with
  | av=>cases c;exact SeqAt.EqAt.int_none a d
  | bl b=>cases c;exact SeqAt.EqAt.int_bool a d b
  | int b=>obtain⟨t,rfl⟩:=c;exact SeqAt.EqAt.int_int a d b t
  | str b=>obtain⟨t,rfl⟩:=c;exact SeqAt.EqAt.int_str a d b t
  | _=>exact absurd (fx) Ab9
 | str a=>
  obtain⟨d,rfl⟩:=e
  cases x with
  | av=>cases c;exact SeqAt.EqAt.str_none a d
  | bl b=>cases c;exact SeqAt.EqAt.str_bool a d b
  | int b=>obtain⟨t,rfl⟩:=c;exact SeqAt.EqAt.str_int a d b t
  | str b=>obtain⟨t,rfl⟩:=c;exact SeqAt.EqAt.str_str a d b t
  | _=>exact absurd (fx) Ab9
 | _=>exact absurd (f) Ab9
def iX (x:V) (u:Value):Bool:=match u with
 | .none=>gS .av x
 | .bool b=>gS (.bl b) x
 | .int i _=>gS (.int i) x
 | .str z _=>gS (.str z) x
 | _=>y9
def uI (r:RelV y u) (f:xF y=k9):iX x u=gS y x:=by
 cases y with
 | av=>cases r;rfl
 | bl b=>cases r;rfl
 | int i=>obtain⟨t,rfl⟩:=r;rfl
 | str z=>obtain⟨t,rfl⟩:=r;rfl
 | _=>exact absurd (f) Ab9
theorem qE : ∀ {xs}{a},Vals xs a->xs.all xF=k9->a.any (iX x)=xs.any λy=>gS y x
 | _,_,.nil,_=>rfl
 | y::xs,u::a,.cons r t,f=>by
  rw [Ai4,Aa7]at f
  rw [Af2,Af2,uI r f.1,qE t f.2]
theorem Wu (c:RelV x v) (fx:xF x=k9): ∀ {xs}{b},Vals xs b->xs.all xF=k9-> ∀u∈b,SeqAt.EqAt A s u v (iX x u)
 | _,_,.nil,_=>λu a=>by cases a
 | y::xs,u::b,.cons r t,f=>λd a=>by
  rw [Ai4,Aa7]at f
  rcases Ab2.mp a with rfl | a
  ·rw [uI r f.1];exact Fu r c f.1 fx
  ·exact Wu c fx t f.2 d a
def iZ (x:V) (xs:List V):Bool:=xs.any λy=>gS y x
def u4 (K:Aa5) (neg:Bool):R2:=λx y H Q=> ∃p xs,y= .ref p/\(a8 K H p xs\/bI K H p xs)/\xF x=k9/\xs.all xF=k9/\Q (.bl (if neg then !iZ x xs else iZ x xs)) H
def L8:bL X (compareOp .In) (u4 X.K y9):=by
 intro d s U H x y v u Q I c g h
 obtain⟨p,i,rfl,b,fx,fs,q⟩:=h
 cases g
 obtain b | b:=b
 ·obtain⟨a,r,pl,e⟩:=I.list b
  refine SeqAt.in_listAt _ pl.isList (λw f=>Wu c fx r fs w (by simp_all)) ⟨.bl _,H,I,rfl,?_⟩
  rw [show a.toArray.any _=a.any (iX x)by simp,qE r fs]
  exact q
 ·obtain⟨a,r,pl,e⟩:=I.tuple b
  refine SeqAt.in_tupleAt _ pl (λw f=>Wu c fx r fs w (by simp_all)) ⟨.bl _,H,I,rfl,?_⟩
  rw [show a.toArray.any _=a.any (iX x)by simp,qE r fs]
  exact q
def WP:bL X (compareOp .NotIn) (u4 X.K k9):=by
 intro d s U H x y v u Q I c g h
 obtain⟨p,i,rfl,b,fx,fs,q⟩:=h
 cases g
 obtain b | b:=b
 ·obtain⟨a,r,pl,e⟩:=I.list b
  refine SeqAt.notIn_listAt _ pl.isList (λw f=>Wu c fx r fs w (by simp_all)) ⟨.bl _,H,I,rfl,?_⟩
  rw [show a.toArray.any _=a.any (iX x)by simp,qE r fs]
  exact q
 ·obtain⟨a,r,pl,e⟩:=I.tuple b
  refine SeqAt.notIn_tupleAt _ pl (λw f=>Wu c fx r fs w (by simp_all)) ⟨.bl _,H,I,rfl,?_⟩
  rw [show a.toArray.any _=a.any (iX x)by simp,qE r fs]
  exact q
def qQ:qm X (.builtin "len") (fun xs H Q=> ∃p ys,xs= [.ref p]/\(a8 X.K H p ys\/bI X.K H p ys)/\Q (.int ys.length) H):=by
 intro e s U H xs i Q I r h
 obtain⟨p,ys,rfl,b,q⟩:=h
 obtain⟨u,rfl,f⟩:=jF r
 cases f
 have hn:=zD
 obtain b | b:=b
 ·obtain⟨c,d,pl,g⟩:=I.list b
  have a:=d.length
  exact Calls.call_len_list pl.isList (by simp [Ab8]<;>lia) ⟨.int ys.length,H,I.tok _,⟨s.toks+1,by rw [Ab8,a]⟩,q⟩
 ·obtain⟨c,d,pl,g⟩:=I.tuple b
  have a:=d.length
  exact len_tuple pl (by simp [Ab8]<;>lia) ⟨.int ys.length,H,I.tok _,⟨s.toks+1,by rw [Ab8,a]⟩,q⟩
def WO:qm X (.builtin "len") (fun xs H Q=> ∃z,xs= [.str z]/\z.length<=sizeLine/\Q (.int z.length) H):=by
 intro a s U H xs b Q I r h
 obtain⟨z,rfl,c,q⟩:=h
 obtain⟨u,rfl,t,rfl⟩:=jF r
 have hn:=zD
 exact len_str (by lia) ⟨.int z.length,H,I.tok _,⟨_,rfl⟩,q⟩
def qT:qm X (.type "list") (fun xs H Q=> ∃p ys,xs= [.ref p]/\(a8 X.K H p ys\/bI X.K H p ys)/\ ∀l,H l=none->Q (.ref l) (aI H l (.lst ys))):=by
 intro j s U H xs x Q I r h
 obtain⟨p,ys,rfl,i,q⟩:=h
 obtain⟨u,rfl,w⟩:=jF r
 cases w
 have fin: ∀ a,Vals ys a->ys.length<=sizeLine-> ∀ b d,_ →
  b.get? s.heap.objs.size=some { cls:= .type "list",dict:=none,data:= .seq a.toArray d,slots:= #[] }->EP X j U Q _ { s with heap:=b }:=fun a c g b d k e=>
  ⟨.ref s.heap.objs.size,_,I.laid k (Aa6 _) (show aO X.prog X.w _ b _ (.lst ys)from⟨g,a,d,c,e⟩),rfl,q _ (I.aM.fresh (Aa6 _))⟩
 obtain i | i:=i
 ·obtain⟨a,c,pl,g⟩:=I.list i
  have f:=c.length
  obtain⟨o,v,t,n,m⟩:=pl.isList
  exact call_list_seq p (.inl rfl) v t m (λb d k e=>fin a c g b d k e) (by simp_all)
 ·obtain⟨a,c,pl,g⟩:=I.tuple i
  have f:=c.length
  obtain⟨o,v,t,n,m⟩:=pl
  exact call_list_seq p (.inr rfl) v t m (λb d k e=>fin a c g b d k e) (by simp_all)
def Jf:qm X (.type "tuple") (fun xs H Q=> ∃p ys,xs= [.ref p]/\((a8 X.K H p ys/\ ∀l,H l=none->Q (.ref l) (aI H l (.tup ys)))\/(bI X.K H p ys/\Q (.ref p) H))):=by
 intro a s U H xs v Q I r h
 obtain⟨p,ys,rfl,h⟩:=h
 obtain⟨u,rfl,m⟩:=jF r
 cases m
 obtain⟨f,q⟩ | ⟨f,q⟩:=h
 ·obtain⟨c,g,pl,k⟩:=I.list f
  have j:=g.length
  refine call_tuple_list pl.isList (λd t=> ?_) (by simp_all)
  have i:Inv X a U H { s with heap:=d }:=I.kept t
  have n:Inv X a U _ { s with heap:=d.push { cls:= .type "tuple",data:= .seq c.toArray } }:=
   i.laid (λb o e=>Aa2 _ e) (Aa6 _) (show aO X.prog X.w _ _ _ (.tup ys)from⟨k,c,g,di.new _ _⟩)
  exact⟨.ref d.objs.size,_,n,rfl,q _ (i.aM.fresh (Aa6 _))⟩
 ·obtain⟨c,g,pl,k⟩:=I.tuple f
  exact call_tuple_same pl ⟨.ref p,H,I,rfl,q⟩
def pf (K:Aa5) (T:String) (x:V) (H:Hp):Prop:=match x with
 | .str _=>T= "str"
 | .int _=>T= "int"
 | .ref p=>(T= "list" /\ ∃xs,a8 K H p xs)\/(T= "tuple" /\ ∃o,K.lookup p=some o/\o.cls= .type "tuple" /\o.dict=none) ∨
  (T= "dict" /\((∃ a,H p=some (.dK a))\/ ∃a,H p=some (.dT a)))\/(T= "set" /\ ∃S n,H p=some (.set S n))
 | _=>False
def rg (I:Inv X k8 U H s) (r:RelV x v) (ty:pf X.K T x H):
 s.TypeIs v T/\ ∀a,v= .ref a-> ∃ob,s.heap.get? a=y0 ob/\ob.dict=none:=by
 cases x with
 | str z=>
  obtain⟨t,rfl⟩:=r
  cases (ty)
  exact⟨typeIs_str s z t,λ_ e=>nomatch e⟩
 | int i=>
  obtain⟨t,rfl⟩:=r
  cases (ty)
  exact⟨typeIs_int s i t,λ_ e=>nomatch e⟩
 | ref p=>
  cases r
  obtain⟨rfl,l,h⟩ | ⟨rfl,o,b,k,f⟩ | ⟨rfl,b⟩ | ⟨rfl,S,n,b⟩:=ty
  ·obtain⟨j,_,pl,_⟩:=I.list h
   refine⟨pl.isList.typeIs,λa e=> ?_⟩
   cases e
   obtain⟨o,n,e,c,f,_⟩:=pl
   exact⟨o,e,f⟩
  ·refine⟨⟨o,I.bM p o b,k⟩,λa e=> ?_⟩
   cases e
   exact⟨o,I.bM _ o b,f⟩
  ·have z: ∃o,s.heap.get? p=y0 o/\o.ExactDict:=by
    obtain⟨g,b⟩ | ⟨g,b⟩:=b
    ·obtain⟨_,_,_,_,o,_,_,e,ex,_⟩:=I.aM p _ b
     exact⟨o,e,ex⟩
    ·obtain⟨_,_,_,_,o,_,_,e,ex,_⟩:=I.aM p _ b
     exact⟨o,e,ex⟩
   obtain⟨o,e,ex⟩:=z
   refine⟨⟨o,e,ex.1⟩,λa d=> ?_⟩
   cases d
   exact⟨o,e,ex.2.1⟩
  ·obtain⟨o,_,_,_,e,ex,_⟩:=I.aM p _ b
   refine⟨⟨o,e,ex.1⟩,λa d=> ?_⟩
   cases d
   exact⟨o,e,ex.2.1⟩
 | _=>exact False.elim ty
def LU (K:Aa5) (T:String) (r:V->List V->Hp->VK->Prop) (a:TE):TE:=λU H Q=>a U H λx H1=>pf K T x H1/\r x [] H1 Q
def yD (K:Aa5) (T:String) (r:V->List V->Hp->VK->Prop) (a:TE) (t:TA):TE:=λU H Q=>a U H λx H1=>pf K T x H1/\t U H1 λxs H2=>r x xs H2 Q
variable {o e:Expr}{es:List Expr}{to:TE}{t:TA}{name:Str}{apos k7:Pos}{T id:String}{r:V->List V->Hp->VK->Prop}
def rb (l:PlainAttrs T) (d:Slot T name id) (e:typeOf (.builtin id)=pure (.type "method_descriptor")) (i:r9 X id r) (p:PE X o to)
 (b:attributeBase o name X.env (eval o X.env)=eval o X.env:=by rfl) (c:(apos.endLine==k7.line)=true:=by rfl):PE X (.Call (.Attribute o name apos) [] [] k7) (LU X.K T r to):=by
 intro a s U H Q I h
 refine wpAny_Call_method0_late b c (aL (p a s U H _ I h) ?_)
 rintro v n ⟨x,m,f,g,ty,q⟩
 obtain⟨j,k⟩:=rg f g ty
 exact⟨T,id,l,d,e,j,k,Calls.callWith_builtin rfl (PySem.evalArgs_none (i a n U m x [] v [] Q f g .nil q))⟩
def nV (C:PlainAttrs T) (d:Slot T name id) (i:typeOf (.builtin id)=pure (.type "method_descriptor")) (l:r9 X id r) (G:PE X o to) (u:PA X (e::es) t)
 (b:attributeBase o name X.env (eval o X.env)=eval o X.env:=by rfl)
 (f:((backTo k7 (starEach (e::es) X.env)).all (λx=> !x.1)&&(backToKw k7 (keywordEach [] X.env)).all (λx=>x.1.isSome)
   &&v9 ((e::es).length+([]:List Keyword).length+(if ([]:List Keyword).isEmpty then 0 else 1)<30))=true:=by rfl)
 (c:(apos.endLine==k7.line)=true:=by rfl) (D:starEach (e::es) X.env=(y9,eval e X.env)::starEach es X.env:=by rfl) (g:(backTo k7 (starEach es X.env)).any (·.1)=false:=by rfl):
 PE X (.Call (.Attribute o name apos) (e::es) [] k7) (yD X.K T r to t):=by
 intro a s U H Q I h
 refine wpAny_Call_method_late b f c rfl (aL (G a s U H _ I h) ?_)
 rintro v F ⟨x,E,j,k,ty,J⟩
 obtain⟨A,B⟩:=rg j k ty
 refine⟨T,id,C,d,i,A,B,?_⟩
 have hA:=u k7 a F U E _ j J
 rw [D]at hA ⊢
 refine Calls.callWith_builtin (by assumption) (Calls.evalArgs_plain ?_)
 exact aL hA λw y ⟨z,n,p,q,m⟩=>l a y U n x z v w Q p k q m
end
def i5 (X:Cx) (b:String) (r:V->List V->Hp->VK->Prop):Prop:=
 ∀(k8:List (Addr×Obj)) (s:Shared) (U:St) (H:Hp) (x:V) (xs:List V) (v:Value) (a:List Value) (Q:VK),Inv X k8 U H s->RelV x v->Vals xs a->r x xs H Q →
  wpAny (model X.prog X.w) X.A (call (.builtin b) (v::a)) (EP X k8 U Q) X.xe s
def Vals.one: ∀ {x:V}{a:List Value},Vals [x] a-> ∃u,a= [u]/\RelV x u
 | _,_,.cons r .nil=>⟨_,rfl,r⟩
def Vals.zero: ∀ {a:List Value},Vals [] a->a= []
 | _,.nil=>rfl
theorem Vals.dropLast {xs:List V}{a:List Value}(h:Vals xs a):Vals xs.dropLast a.dropLast:=by
 induction h with
 | nil=>exact .nil
 | cons r t b=>
  cases t with
  | nil=>exact .nil
  | cons q c=>exact .cons r b
theorem Vals.rep {xs:List V}{a:List Value}(h:Vals xs a): ∀k:Nat,Vals (Aa8 k xs).flatten (Aa8 k a).flatten
 | 0=> .nil
 | k+1=>by
  rw [Ac7,Ac7,Aj5,Aj5]
  exact Vals.append h (Vals.rep h k)
def J9 {d:Type}(l:List d):l.eraseIdx (l.length-1)=l.dropLast:=by
 induction l with
 | nil=>rfl
 | cons a r c=>
  cases r with
  | nil=>rfl
  | cons b r=>
   have e:(a::b::r).length-1=((b::r).length-1)+1:=by
    have g:(a::b::r).length=r.length+2:=rfl
    have f:(b::r).length=r.length+1:=rfl
    lia
   rw [e,List.eraseIdx_cons_succ,c]
   all_goals rfl
theorem ZO (a:List Value): ∀(k:Nat) (b:List Value),
 List.foldl (λx1 x2=>x1++x2) b.toArray (Aa8 k a.toArray)=(b++(Aa8 k a).flatten).toArray
 | 0,b=>by simp
 | k+1,b=>by
  have e:b.toArray++a.toArray=(b++a).toArray:=by simp
  have c:(b++a)++(Aa8 k a).flatten=b++(Aa8 (k+1) a).flatten:=by
   rw [Ac7,Aj5,Ae9]
  rw [← c,←ZO a k (b++a),←e,Ac7,Ag6]
section
variable {X:Cx}{k8:List (Addr×Obj)}{U:St}{H:Hp}{s:Shared}{l b:Addr}{xs ys zs:List V}
def Inv.iU {a its':List Value}{n:Nat}{f:Array Value->Array Value}{t':Nat}(I:Inv X k8 U H s) (d:H l=y0 (.lst xs))
 (e:s.heap.get? l=y0 { cls:= .type "list",data:= .seq a.toArray n }) (b:f a.toArray=its'.toArray) (h:Vals ys its') (c:ys.length<=sizeLine):
 Inv X k8 U (aI H l (.lst ys)) { s with heap:=s.heap.update l (Obj.mapSeq f),toks:=t' }:=by
 have q:=PySem.IsL.update e f
 rw [b]at q
 refine I.write (x:=l) (e:=l) (by rw [d];exact trivial) (.inl rfl) (λj u i g=>(Aj3 s.heap _ (Ne.symm i)).trans g) ⟨_,q⟩ ?_
 exact⟨c,its',_,h,q⟩
def Inv.lS {a:List Value}{t':Nat}(I:Inv X k8 U H s) (c:Vals ys a) (b:ys.length<=sizeLine):
 Inv X k8 U (aI H s.heap.objs.size (.lst ys)) { s with heap:=s.heap.push { cls:= .type "list",data:= .seq a.toArray },toks:=t' }:=
 I.laid (λ_ _ q=>Aa2 _ q) (Aa6 _) ⟨b,a,0,c,Ab6 _ rfl⟩
theorem Inv.fresh (I:Inv X k8 U H s):H s.heap.objs.size=none:=I.aM.fresh (Aa6 _)
def Inv.gK (I:Inv X k8 U H s) (b:H l=y0 (.lst xs)):xs.length<=sizeLine/\ ∃(a:List Value) (n:Nat),Vals xs a/\xs.length=a.length/\s.heap.get? l=y0 { cls:= .type "list",data:= .seq a.toArray n }:=by
 obtain⟨z,a,n,r,e⟩:=I.aM l _ b
 exact⟨z,a,n,r,r.length,e⟩
def W7 {n:Nat}(h:n<=sizeLine):Builtin.List.listTooLong n=false:=by
 exact decide_eq_false (by lia)
end
section
variable {X:Cx}
def AF:V->List V->Hp->VK->Prop:=λx a H Q=> ∃l xs y,x= .ref l/\a= [y]/\H l=y0 (.lst xs)/\xs.length<sizeLine/\Q .av (aI H l (.lst (xs++ [y])))
def xU:i5 X "list.append" AF:=by
 intro b s U H x m v g Q I d rv h
 obtain⟨l,k,y,rfl,rfl,c,i,q⟩:=h
 cases d
 obtain⟨u,rfl,f⟩:=rv.one
 obtain⟨z,a,n,r,j,e⟩:=I.gK c
 refine call_meets F.slot_list_append ⟨_,e,rfl⟩ F.entry_list_append (F.args_list_append_2 _ _) (PySem.list_append l a.toArray n u (by simp_all)) ⟨e,?_⟩
 refine⟨.av,_,I.iU (its':=a++ [u]) c e (by simp) (r.append (.cons f .nil)) ?_,rfl,q⟩
 rw [Ab0,Ag]
 lia
def yC:V->List V->Hp->VK->Prop:=λx a H Q=> ∃l b xs zs,x= .ref l/\a= [.ref b]/\H l=y0 (.lst xs)/\H b=y0 (.lst zs)/\xs.length+zs.length<=sizeLine/\Q .av (aI H l (.lst (xs++zs)))
def Iu:i5 X "list.extend" yC:=by
 intro g s U H x C v w Q I j rv h
 obtain⟨l,b,B,D,rfl,rfl,i,hB,y,q⟩:=h
 cases j
 obtain⟨u,rfl,o⟩:=rv.one
 cases o
 obtain⟨z,c,n,r,A,e⟩:=I.gK i
 obtain⟨E,a,t,k,p,m⟩:=I.gK hB
 have f:c.toArray.size+a.toArray.size<=sizeLine:=by rw [Ab8,Ab8];lia
 have d: ¬(!c.toArray.isEmpty&&Builtin.List.listTooLong (c.toArray.size+a.toArray.size))=true:=by
  rw [W7 f,Bool.and_false]
  exact Ab9
 refine call_meets F.slot_list_extend ⟨_,e,rfl⟩ F.entry_list_extend (F.args_list_extend_2 _ _)
  (AutoSeq1.list_extend_list_list_0 l c.toArray n b a.toArray t d (by simp_all) (by lia)) ⟨e,m,?_⟩
 refine⟨.av,_,I.iU (its':=c++a) i e (by simp) (r.append k) ?_,rfl,q⟩
 rw [Ab0]
 lia
def IJ:V->List V->Hp->VK->Prop:=λx a H Q=> ∃l xs y,x= .ref l/\a= []/\H l=y0 (.lst xs)/\xs[xs.length-1]? =y0 y/\Q y (aI H l (.lst xs.dropLast))
def vJ:i5 X "list.pop" IJ:=by
 intro d s U H x t v o Q I g rv h
 obtain⟨l,p,y,rfl,rfl,f,i,q⟩:=h
 cases g
 have c:=rv.zero
 subst c
 obtain⟨z,a,n,r,j,e⟩:=I.gK f
 obtain⟨u,k,m⟩:=r.get i
 have b:a.toArray[a.toArray.size-1]? =y0 u:=by
  show a.toArray[a.length-1]? =y0 u
  rw [← Array.getElem?_toList,←j]
  exact k
 refine call_meets F.slot_list_pop ⟨_,e,rfl⟩ F.entry_list_pop (F.args_list_pop_1 _) (MeetsSeq.list_pop_last l a.toArray n u b (by simp_all)) ⟨e,?_⟩
 refine⟨y,_,I.iU (its':=a.dropLast) f e ?_ r.dropLast ?_,m,q⟩
 ·show a.toArray.eraseIdxIfInBounds _=a.dropLast.toArray
  rw [Ab8,List.eraseIdxIfInBounds_toArray,J9]
 ·rw [List.length_dropLast]
  lia
def AS {b:Type}(xs:List b) (k:Nat):(Aa8 k xs).flatten.length=k*xs.length:=by
 induction k with
 | zero=>simp
 | succ k a=>rw [Ac7,Aj5,Ab0,a,Ao3,Am7]
end
end L2
namespace Att
open PySem PySem.W PySem.Calls PyProof.Rows
def JC {P:Params}{h:Heap}: ∀(c:List Int) (d:List Value),WellAll P h d (c.map WData.int)->IntsAre d c:=by
 intro c
 induction c with
 | nil=>
  intro d w
  cases w
  exact .nil
 | cons n c e=>
  intro d w
  cases w with
  | cons a b=>
   cases a
   exact .cons _ _ (e _ b)
def DQ {l:OpenLaw}{n:Nat}(u:l.most=y0 n){P:Params}{h:Heap}{b:List WData}{e:List Value}
 (f:l.row.toRowW.claim.pre b=k9) (o:WellAll P h e b):
 ∃a p c,e= [Value.ref a]/\b= [WData.list (c.map WData.int)]/\h.get? a=y0 { cls:= .type "list",data:= .seq p.toArray }/\IntsAre p c/\c.length<=n:=by
 have m:=(pre_splitW f).1
 have y:=(pre_splitW f).2
 obtain⟨d,r,rfl,v,w⟩:=hasAllW_cons m
 obtain rfl:=hasAllW_nil w
 obtain⟨B,rfl,x⟩:=hasW_list v
 obtain⟨c,rfl⟩:=items_int x
 have g:c.length<=n:=by
  have j:=by
   have j:=(holds_andW y).1
   rw [u]at j
   exact j
  have k:=condW_of j (w_not (w_lt w_lit (w_len_list (w_arg rfl))))
  rw [Aa]at k
  refine Nat.le_of_not_lt λq=> ?_
  have t: n<((c.length:Nat):Int):=by omega
  first
   | (rw [decide_eq_true t]at k;exact absurd k (by decide))
   | (simp at k)
 cases o with
 | cons s A=>
  cases A
  cases s with
  | list z i=>exact⟨_,_,c,rfl,rfl,z,JC c _ i,g⟩
def DB (l:OpenLaw) (a:List WData):l.row.toRowW.claim.post a (.bool k9) a=true:=
 postW_of (r:=l.row.toRowW) (X:=(k9==k9))
  (show WShape.has [] _ .bool=k9 by first | rfl | decide | simp [WShape.armsAll])
  (show (WTm.eq .res _).value [] { args:=a,res:=y0 _,after:=a }=y0 (.bool _)from w_eq_bool (w_res rfl) w_lit) rfl
def dS {l:OpenLaw}{n:Nat}{q:Program}{c:List Str}{B:(Str->Option Value)->Heap->Prop}{z:World->Heap->Prop}{d:DefRec}
 (M:l.most=y0 n) (v:d.params.defaults= [])
 (call: ∀(w:World) (e b:Shared) (mg x:Str->Option Value) (k:Addr) (o:Obj) (pm cd g:Value) (a:Addr) (i:List Value) (s:List Int),
   Ground q c [] B w e mg x b.heap->z w b.heap →
   b.heap.get? k=y0 o->o.data= .func (docDef d.name d.params d.body d.scope pm cd g)->b.heap.CodeRec cd d.name->mg d.name=y0 (.ref k) →
   b.heap.get? a=y0 { cls:= .type "list",data:= .seq i.toArray }->IntsAre i s->s.length<=n->b.gens= #[] →
   codeAny (model l.prog w) callerA (.call (.ref k) ⟨[.ref a],[]⟩) (λr s'=>r= .ok (.ret (.bool k9))/\OldK b.heap s'.heap/\s'.os=b.os/\AllBare s'.gens) b):
 WalkO q c B z l.row.toRowW d [] (λf i=>PySem.call f i):=by
 intro w e b mg x G Y k o pm cd g P kV R K t A u L D C S p E I y Q
 obtain rfl:P= .none:=Dflts.none A v
 obtain rfl:kV= .none:=Dflts.noKw A
 obtain⟨a,i,s,rfl,rfl,m,h,j⟩:=DQ M p y
 refine enter_call (codeAny_mono (call w e b mg x k o pm cd g a i s G Y R (fd_plain K) t u m h j L) λr s' J=> ?_)
 obtain⟨rfl,N,O,H⟩:=J
 exact⟨.inl ⟨.bool k9,.bool k9,[],rfl,λ_=>rfl,.bool k9,DB l _,λ_=>⟨List.Pairwise.nil,λ_ F=>(nomatch F)⟩⟩,N,O,H⟩
end Att
namespace L2
open PySem PySem.Spec PyProof.Rows
theorem JP: ∀ {a:List Value}{b:List Int},IntsAre a b->Vals (b.map V.int) a
 | _,_,.nil=> .nil
 | _,_,.cons n t h=> .cons ⟨t,rfl⟩ (JP h)
def oN (H:Hp):Prop:= ∀b,H b=u0\/ ∃o xs,H b=y0 (.d4 o (.lst xs))
def LH {P:Program}{w:World}{K:Aa5}{mg R:Str->Option Value}{Z:gs}{k:Nat}{O a:Addr}{X:FuncData}{x:Str}{W:Sp}{c:Shared}{j:List Value}{t:List Int}
 (KX:K.In c.heap) (y:c.heap.Ns mainGlobals mg) (f:c.heap.Ns builtinsNs R) (M: ∀x:Str,x≠ "__name__" ->R x=bootBuiltins x) (C:c.heap.NoLimit) (hg:c.gens= #[])
 (L:c.heap.get? a=y0 { cls:= .type "list",data:= .seq j.toArray }) (hi:IntsAre j t) (hl:t.length<=sizeLine) (hr:bg k callerA)
 (F: ∀base:Heap,K.In base->base.Ns mainGlobals mg->bp P w K mg base Z k O X [x] W) (l: ∀(s:Shared) (u:Value),BindsTo s X ⟨[u],[]⟩ [(x,u)])
 (Q: ∀H:Hp,oN H->a8 K H a (t.map V.int)->W [.ref a] H (λv _=>v= .bl k9) λ_ _ _=>False)
 (T: ∀H e s',Z [] H c (λ_ _ _=>False) e s'->False):
 codeAny (model P w) callerA (.call (.ref O) ⟨[.ref a],[]⟩) (λr s'=>r= .ok (.ret (.bool k9))/\OldK c.heap s'.heap/\s'.os=c.os/\AllBare s'.gens) c:=by
 have rv:=JP hi
 have p:=hi.length
 have i: ∀H:Hp,oN H->a8 K H a (t.map V.int)->cN P w H c.heap->(∀ b,H b≠u0->b=a)->(H a≠u0->K.lookup a=u0) →
  codeAny (model P w) callerA (.call (.ref O) ⟨[.ref a],[]⟩) (λr s'=>r= .ok (.ret (.bool k9))/\OldK c.heap s'.heap/\s'.os=c.os/\AllBare s'.gens) c:=by
  intro H hO hS G hA hK
  have bW: ∀ {b:Addr}{o:Obj},c.heap.get? b=y0 o->H b=u0->(kR c.heap H).get? b=y0 o:=λe n=>L3 e n
  have U: ∀ {b:Addr}{o:Obj}{D:Array DictEntry}{E:Nat},c.heap.get? b=y0 o->o.data= .dict D E->H b=none:=λ{b o D E} e d=>by
   cases q:H b with
   | none=>rfl
   | some u=>
    have N:b=a:=hA b (by rw [q];simp)
    subst N
    rw [L]at e;cases e
    have d':Data.seq j.toArray _=Data.dict D E:=d
    cases d'
  have g: ∀ {b:Addr}{m:Str->Option Value},c.heap.Ns b m->(kR c.heap H).Ns b m:=λ{b m} ⟨o,D,E,e,d,r⟩=>⟨o,D,E,bW e (U e d),d,r⟩
  have J:K.In _:=λb o e=>bW (KX b o e) (by
   cases q:H b with
   | none=>rfl
   | some u=>
    have N:b=a:=hA b (by rw [q];simp)
    subst N
    rw [hK (by rw [q];simp)]at e;cases e)
  have hM:Mod K mg _:=⟨J,g y,⟨R,g f,M⟩,let ⟨mc,h1,h2⟩:=C; ⟨mc,g h1,h2⟩⟩
  have e0:eA P w K mg _ callerA [] c H:=⟨rfl,hM,λb o e=>AX e,Nat.le_of_eq (BY _ _),trivial,λb f=>absurd (show b∈([]:List Addr)from f) (by simp),G,.of_eq hg⟩
  refine codeAny_mono ((F _ J (g y)).run callerA [] c H ⟨[.ref a],[]⟩ [.ref a] [.ref a] _ _ hr e0 (l c (.ref a)) (.cons rfl .nil) (Q H hO hS)) λr s' h=> ?_
  cases r with
  | error e=>exact(T H e s' h).elim
  | ok fl=>
   cases fl with
   | next=>exact False.elim h
   | brk=>exact False.elim h
   | cont=>exact False.elim h
   | ret u=>
    obtain⟨v,H',os,B,un,A,r',q⟩:=h
    have q':v= .bl true:=q
    subst q'
    obtain rfl:u=Value.bool true:=r'
    refine⟨rfl,OldK.of_keep λb o e=> ?_,os,B⟩
    cases q:H b with
    | none=>exact un.keep b o e q (by intro z;exact absurd (show b∈([]:List Addr)from z) (by simp)) (by simp)
    | some u=>
     rcases hO b with z | ⟨ob,xs,z⟩
     ·rw [q]at z;cases z
     ·have z2:=un.cu b ob _ z
      obtain⟨Y,_⟩:=G b _ z
      obtain⟨e2,_⟩:=A b _ z2
      rw [e]at Y;cases Y
      exact e2
 cases S:K.lookup a with
 | some o=>
  have e:=KX a o S
  rw [L]at e
  cases e
  refine i (λ_=>u0) (λ_=> .inl rfl) (.inr ⟨_,j.toArray,_,S,rfl,rfl,rfl,by rw [Ab8,p];exact hl,by simpa using rv⟩) (λb u z=>by have I:(none:Option HO)=y0 u:=z;cases I) (λb z=>absurd rfl z) λz=>absurd rfl z
 | none=>
  refine i (fun b=>if b=a then some (.d4 { cls:= .type "list",data:= .seq j.toArray } (.lst (t.map V.int)))else none) (fun b=> ?_) (.inl (.inr ⟨{ cls:= .type "list",data:= .seq j.toArray },if_pos rfl⟩)) (fun b u z=> ?_) (fun b z=> ?_) fun _=>S
  ·by_cases f:b=a
   ·exact .inr ⟨_,_,if_pos f⟩
   ·exact .inl (if_neg f)
  ·by_cases f:b=a
   ·have I:=(if_pos f).symm.trans z
    cases I
    subst f
    exact⟨L,by rw [Aa];exact hl,j,_,rv,L⟩
   ·have I:=(if_neg f).symm.trans z
    cases I
  ·by_cases f:b=a
   ·exact f
   ·exact absurd (if_neg f) z
abbrev Mr {K:Aa5}{h:Heap}(_:K.In h):Aa5:=K
def gG {l:PySem.W.OpenLaw}{n k:Nat}{q:Program}{c:List Str}{U:(Str->Option Value)->Heap->Prop}{B:World->Heap->Prop}{d:DefRec}{K:Params->Aa5}{I:World->gs}{J:World->Sp}{x:Str}
 (R:l.most=y0 n) (r:n<=sizeLine) (A:d.params.defaults= []) (P:bg k callerA)
 (M: ∀(w:World) (h:Heap),B w h->(K w.params).In h)
 (F: ∀(w:World) (mg:Str->Option Value) (p:Addr) (h:Heap),(K w.params).In h->h.Ns mainGlobals mg->mg d.name=y0 (.ref p) →
   ∃fd:FuncData,(∀ (s:Shared) (u:Value),BindsTo s fd ⟨[u],[]⟩ [(x,u)]) ∧
    ∀base:Heap,(K w.params).In base->base.Ns mainGlobals mg->bp l.prog w (K w.params) mg base (I w) k p fd [x] (J w))
 (y: ∀(w:World) (H:Hp) (a:Addr) (m:List Int),m.length<=n->oN H->a8 (K w.params) H a (m.map V.int)->J w [.ref a] H (λv _=>v= .bl k9) λ_ _ _=>False)
 (t: ∀(w:World) (H:Hp) (s:Shared) (e:Value) (s':Shared),I w [] H s (λ_ _ _=>False) e s'->False):
 PySem.W.WalkO q c U B l.row.toRowW d [] (λf C=>PySem.call f C):=by
 refine Att.dS R A λw E j mg Z p o pm cd N a C m G Y ho X L z i g b Q=> ?_
 have D:=M w _ Y
 obtain⟨fd,O,S⟩:=F w mg p _ D G.T.g z
 exact LH D G.T.g G.T.b G.T.builtins G.T.nolimit Q i g (Ac b r) P S O (λH W T=>y w H a m b W T) λH e s'=>t w H j e s'
noncomputable def wZ (s:Stmt) (j:Nat):Stmt:=match s with
 | .ClassDef _ _ _ a _ _ _ _ _ _ _=>a.getD j (.Pass ⟨0,0,0,0⟩)
 | _=> .Pass ⟨0,0,0,0⟩
noncomputable def Wn (s:Stmt):Arguments:=match s with
 | .FunctionDef _ a _ _ _ _ _ _ _ _=>a
 | _=> { posonlyargs:= [],args:= [],vararg:=u0,kwonlyargs:= [],kw_defaults:= [],kwarg:=u0,defaults:= [] }
def Xe (s:Stmt):List Stmt:=match s with
 | .FunctionDef _ _ b _ _ _ _ _ _ _=>b
 | _=> []
noncomputable def Qb (s:Stmt):Scope:=match s with
 | .FunctionDef _ _ _ _ _ _ a _ _ _=>a
 | _=> { kind:= .function,names:= [],isGenerator:=y9,isCoroutine:=y9 }
abbrev lY:gs:=λ_ _ _ _ _ _=>False
abbrev E0:XK:=λ_ _ _=>False
structure gD (K:Aa5) (x y8:Str) (st:Stmt) (f:Addr) (fd:FuncData):Prop where
 ex: ∃(oc:Value) (od:Option Addr) (kV doc pm:Value) (an:Option Addr) (cdv ct:Value) (osl:Array (Option Value)),
  fd=Ai x y8 (Wn st) (Xe st) (Qb st) .none kV doc pm an cdv ct/\K.lookup f=y0 ⟨oc,od,.func fd,osl⟩/\Ak7 K cdv y8=k9
 kp:Ae0 K (.ref f)=k9
section
variable {P:Program}{w:World}{K:Aa5}{mg:Str->Option Value}{base:Heap}
def gD.binds {st:Stmt}(F:gD K x y8 st f fd)
 (h: ∀ kV a pm e b g c,c.length=ps.length->bindArgs (Ai x y8 (Wn st) (Xe st) (Qb st) .none kV a pm e b g) ⟨c,[]⟩=pure (ps.zip c)):Binds K fd ps []:=by
 obtain⟨k,j,kV,a,pm,e,b,g,i,rfl,l,d⟩:=F.ex
 exact .all (h kV a pm e b g)
def n8 {st:Stmt}{kV b pm a d:Value}(l:K.lookup f=y0 ⟨oc,od,.func (Ai x y8 (Wn st) (Xe st) (Qb st) .none kV b pm an a d),osl⟩)
 (c:Ak7 K a y8=k9) (k:Ae0 K (.ref f)=k9):gD K x y8 st f (Ai x y8 (Wn st) (Xe st) (Qb st) .none kV b pm an a d):=⟨⟨oc,od,kV,b,pm,an,a,d,osl,rfl,l,c⟩,k⟩
end
def zm (h:n<=1000):n<sizeLine:=An8 h (by decide)
section
variable {X:Cx}
def pv (i)(c:X.N[i]? =some x:=by rfl) (b:iL X.env.scope x:=by first | exact Or.inl rfl | exact Or.inr (Or.inl rfl) | exact Or.inr (Or.inr rfl)) (d:(x==("__debug__" :Str))=false:=by decide)
 (a:(x==("__classdict__" :Str))=false:=by decide):PE X (.Name x pos) (mY i):=Ql c b d a
end
def m1 {A B:Prop}(h:B):if y9=k9 then A else B:=by
 exact h
def mu {A B:Prop}(h:A):if k9=k9 then A else B:=by
 exact h
end L2
set_option maxHeartbeats 4000000
namespace L2
open PySem PySem.Spec PyProof.Rows
noncomputable def ze (env:Env) (a:List (Str×Addr)) (y:Str×NameKind):List (Str×Addr):=
 if y.2== .free then(match env.cells.lookup y.1 with | some c=>(y.1,c)::a | none=>a)else a
def xE (a:Scope) (env:Env):List (Str×Addr):=a.names.foldl (ze env) []
theorem vI : ∀(b:List (Str×NameKind)) a,(∀ y∈b,y.2= .free-> ∃c,env.cells.lookup y.1=y0 c) →
 (do
   let mut f:=a
   for (name,kind) in b do
    if kind== .free then f:=(name,←cellOf env name)::f
   return f:Sem (List (Str×Addr)))=pure (b.foldl (ze env) a)
 | [],a,_=>by simp
 | (n,k)::r,a,h=>by
  have i:=λf=>vI r f λy j=>h y (Aa1 _ j)
  by_cases g:k= .free
  ·subst g
   obtain⟨c,d⟩:=h (n,.free) Aa3 rfl
   have d:=d
   have e:ze env a (n,.free)=(n,c)::a:=by
    show(if (NameKind.free==NameKind.free)=k9 then(match env.cells.lookup n with | some c=>(n,c)::a | none=>a)else a)=_
    rw [if_pos (show (NameKind.free==NameKind.free)=k9 from rfl),d]
   rw [Ag6,e,←i]
   simp [cellOf,d]
  ·have l:(k==NameKind.free)=false:=by simpa using g
   have e:ze env a (n,k)=a:=by
    show(if (k==NameKind.free)=k9 then _ else a)=_
    rw [l,if_neg Ab9]
   rw [Ag6,e,←i]
   simp [g]
def XL (h: ∀y∈scope.names,y.2= .free-> ∃c,env.cells.lookup y.1=y0 c):closureFor scope env=pure (xE scope env):=
 vI scope.names [] h
theorem QC : ∀(a:List (Str×NameKind)) b,(∀ x c,b.lookup x=y0 c->env.cells.lookup x=y0 c)-> ∀x c,(a.foldl (ze env) b).lookup x=y0 c->env.cells.lookup x=y0 c
 | [],_,h=>h
 | (n,k)::r,b,h=>by
  refine QC r (ze env b (n,k)) λx c e=> ?_
  unfold ze at e
  split at e
  ·split at e
   ·rename_i g f
    rw [Ad0]at e
    cases d:x==n with
    | true=>
     rw [d]at e
     have:x=n:=by simpa using d
     subst this
     cases e
     exact f
    | false=>rw [d]at e;exact h x c e
   ·exact h x c e
  ·exact h x c e
theorem jU (d:env.cells.lookup x=y0 c): ∀(b:List (Str×NameKind)) f,((x,.free)∈b\/ ∃a,f.lookup x=y0 a)-> ∃a,(b.foldl (ze env) f).lookup x=y0 a
 | [],f,h=>h.elim (λz=>absurd z (by simp)) id
 | (n,k)::r,f,h=>by
  refine jU d r (ze env f (n,k)) ?_
  have grow:(∃ a,f.lookup x=y0 a)-> ∃a,(ze env f (n,k)).lookup x=y0 a:=by
   rintro ⟨a,e⟩
   unfold ze
   split
   ·split
    ·rw [Ad0]
     cases x==n with
     | true=>exact⟨_,rfl⟩
     | false=>exact⟨a,e⟩
    ·exact⟨a,e⟩
   ·exact⟨a,e⟩
  rcases h with h | h
  ·rcases Ab2.mp h with h | h
   ·cases h
    refine .inr ⟨c,?_⟩
    show List.lookup x (if (NameKind.free==NameKind.free)=k9 then(match env.cells.lookup x with | some c=>(x,c)::f | none=>f)else f)=_
    rw [if_pos (show (NameKind.free==NameKind.free)=k9 from rfl),d]
    simp
   ·exact .inl h
  ·exact .inr (grow h)
def xS (I:Nat->Shared->Prop)
 (t: ∀n s,I n s->wpAny (model prog w) A (pyNext it) (λr b=>match r with
   | none=>R (.ok .next) b
   | some v=>wpAny (model prog w) A (letOwnedTupleGo tg it v) (λ_ f=>wpAny (model prog w) A (assign tg env v) (λ_ i=>
    wpAny (model prog w) A (forIn ifs k9 λc r=>if r=k9 then do let ok ←isTrue c env (eval c env);pure (ForInStep.yield ok)else pure (ForInStep.yield r)) (λok g=>
     if ok=k9 then wpAny (model prog w) A (eval elt env) (λx j=>
      wpAny (model prog w) A (call (.builtin "list.append") [acc,x]) (fun _ k=> ∃m,m<n/\I m k) (notedBy (model prog w) A env fun e s'=>R (.error e) s') j) (notedBy (model prog w) A env fun e s'=>R (.error e) s') g
     else ∃m,m<n/\I m g) (notedBy (model prog w) A env λe s'=>R (.error e) s') i) (notedBy (model prog w) A env λe s'=>R (.error e) s') f) (notedBy (model prog w) A env λe s'=>R (.error e) s') b) (notedBy (model prog w) A env λe s'=>R (.error e) s') s)
 (n) (h:I n s):codeAny (model prog w) A (.compLoop (.ListComp elt [⟨tg,iter,ifs,0⟩] scope pos) 0 it acc env) R s:=by
 refine codeAny_loop rfl I (λn s y=> ?_) n h
 refine wpAny_noted ?_
 rw [compTurn_list]
 refine wpAny_bind (wpAny_standAt (wpAny_bind (wpAny_mono (t n s y) (λr b d=> ?_) λ_ _ a=>a)))
 cases r with
 | none=>exact wpAny_pure d
 | some v=>
  refine wpAny_bind (wpAny_mono d (λ_ f o=> ?_) λ_ _ a=>a)
  refine wpAny_bind (wpAny_mono o (λ_ i p=>wpAny_bind (wpAny_mono p (λok g l=> ?_) λ_ _ a=>a)) λ_ _ a=>a)
  cases ok with
  | false=>exact wpAny_pure ⟨rfl,l⟩
  | true=>
   exact wpAny_bind (wpAny_bind (wpAny_mono l (λx j u=>wpAny_bind (wpAny_mono u (λ_ k q=>wpAny_pure (wpAny_pure ⟨rfl,q⟩)) λ_ _ a=>a)) λ_ _ a=>a))
theorem XY : ∀ a n b,(x,NameKind.cell)∉a->(cellsFrom n a b).lookup x=b.lookup x
 | [],_,_,_=>rfl
 | (y,k)::r,n,b,h=>by
  unfold cellsFrom
  split
  ·rename_i c
   have c:=by simpa using c
   subst c
   rw [XY r (n+1) _ λz=>h (Aa1 _ z),Ad0]
   cases d:x==y with
   | true=>
    have:x=y:=by simpa using d
    subst this
    exact absurd Aa3 h
   | false=>rfl
  ·exact XY r n b λz=>h (Aa1 _ z)
theorem qY : ∀ a (h:Heap) f g,(f.lookup x=y0 c->g\/(h.IsCell c u0/\(x,NameKind.cell)∈a\/h.IsCell c u0/\g))-> ∀lo,lo<=h.objs.size →
 (cellsFrom h.objs.size a f).lookup x=y0 c->f.lookup x=y0 c\/(lo<=c/\(x,NameKind.cell)∈a/\(pushCells h a).IsCell c u0)
 | [],_,_,_,_,_,_,e=> .inl e
 | (y,k)::r,h,f,g,p,lo,i,e=>by
  unfold cellsFrom at e
  unfold pushCells
  split at e
  ·rename_i d
   rw [if_pos d]
   have d:=by simpa using d
   subst d
   have e:(cellsFrom (h.push { cls:= .type "cell",data:= .cell none }).objs.size r ((y,h.objs.size)::f)).lookup x=some c:=by rw [Heap.size_push];exact e
   rcases qY r (h.push { cls:= .type "cell",data:= .cell none }) _ True (fun _=> .inl trivial) lo (by rw [Heap.size_push];omega) e with q | ⟨n,l,j⟩
   ·rw [Ad0]at q
    cases m:x==y with
    | true=>
     rw [m]at q
     have:x=y:=by simpa using m
     subst this
     cases q
     exact .inr ⟨i,List.mem_cons_self,(show (h.push { cls:= .type "cell",data:= .cell none }).IsCell h.objs.size none from⟨_,Heap.get?_push_size _ rfl,rfl⟩).keeps fun b o e=>pushCells_keeps r _ b o e⟩
    | false=>
     rw [m]at q
     exact .inl q
   ·exact .inr ⟨n,Aa1 _ l,j⟩
  ·rename_i d
   rw [if_neg d]
   rcases qY r h f True (λ_=> .inl trivial) lo i e with q | ⟨n,l,j⟩
   ·exact .inl q
   ·exact .inr ⟨n,Aa1 _ l,j⟩
theorem px: ∀(b) (n) (a),(∀ x c,a.lookup x=y0 c->c<n)->(∀ x y c,a.lookup x=y0 c->a.lookup y=y0 c->x=y) →
 ∀x y c,(cellsFrom n b a).lookup x=y0 c->(cellsFrom n b a).lookup y=y0 c->x=y
 | [],_,_,_,f=>f
 | (z,k)::r,n,a,d,f=>by
  unfold cellsFrom
  split
  ·have look: ∀x c,((z,n)::a).lookup x=y0 c->(x=z/\c=n)\/(a.lookup x=y0 c):=λx c e=>by
    rw [Ad0]at e
    cases g:x==z with
    | true=>
     rw [g]at e
     cases e
     exact .inl ⟨by simpa using g,rfl⟩
    | false=>
     rw [g]at e
     exact .inr e
   refine px r (n+1) _ (λx c e=> ?_) λx y c h j=> ?_
   ·rcases look x c e with⟨_,q⟩ | q
    ·exact q▸Ag7 n
    ·exact Am1 (d x c q)
   ·rcases look x c h with⟨m,l⟩ | p<;>rcases look y c j with⟨o,i⟩ | q
    ·rw [m,o]
    ·exact absurd (l▸d y c q) (Ag9 _)
    ·exact absurd (i▸d x c p) (Ag9 _)
    ·exact f x y c p q
  ·exact px r n a d f
theorem wH : ∀(a:List (Str×NameKind)) e,(a.foldl (ze env) e).lookup x=y0 c->e.lookup x=y0 c\/(x,NameKind.free)∈a
 | [],_,h=> .inl h
 | (y,k)::r,e,h=>by
  rcases wH r _ h with q | q
  ·unfold ze at q
   split at q
   ·rename_i b
    have b:=by simpa using b
    subst b
    split at q
    ·rw [Ad0]at q
     cases d:x==y with
     | true=>
      have:x=y:=by simpa using d
      subst this
      exact .inr Aa3
     | false=>
      rw [d]at q
      exact .inl q
    ·exact .inl q
   ·exact .inl q
  ·exact .inr (Aa1 _ q)
theorem wO {env:Env}: ∀ {b:List (Str×NameKind)}{x},
 ((b.map λ(n,k)=>if(k==NameKind.free&&env.scope.kind== .function&&env.kindOf n==y0 .cell)then(n,NameKind.cell)else(n,k)).lookup x=y0 .cell ∨
   (b.map λ(n,k)=>if(k==NameKind.free&&env.scope.kind== .function&&env.kindOf n==y0 .cell)then(n,NameKind.cell)else(n,k)).lookup x=y0 .free)->(x,.free)∈b\/(x,.cell)∈b
 | [],_,h=>by simp at h
 | (n,k)::r,x,h=>by
  have e:= @wO env r x
  rw [Aa9]at h
  by_cases a:(k==NameKind.free&&env.scope.kind== .function&&env.kindOf n==y0 .cell)=k9
  ·have f:=by
    rw [Aa7,Aa7]at a
    simpa using a.1.1
   subst f
   simp only [a,if_true,Ad0]at h
   cases c:x==n with
   | true=>
    have:x=n:=by simpa using c
    subst this
    exact .inl Aa3
   | false=>
    rw [c]at h
    exact(e h).imp (Aa1 _) (Aa1 _)
  ·have d:=Aj6.mpr a
   simp only [d,Ag8,if_false,Ad0]at h
   cases c:x==n with
   | true=>
    have:x=n:=by simpa using c
    subst this
    rw [c]at h
    rcases h with h | h
    ·have:k= .cell:=by simpa using h
     subst this
     exact .inr Aa3
    ·have:k= .free:=by simpa using h
     subst this
     exact .inl Aa3
   | false=>
    rw [c]at h
    exact(e (by simpa using h)).imp (Aa1 _) (Aa1 _)
theorem sI: ∀ {a:List (Str×NameKind)}{x}{k e},(a.map Prod.fst).Nodup->(x,k)∈a->(x,e)∈a->k=e
 | (y,j)::r,x,k,e,d,g,f=>by
  rw [Aa9,Ah1]at d
  rcases Ab2.mp g with b | b<;>rcases Ab2.mp f with c | c
  ·cases b;cases c;rfl
  ·cases b;exact absurd (Ac1.mpr ⟨_,c,rfl⟩) d.1
  ·cases c;exact absurd (Ac1.mpr ⟨_,b,rfl⟩) d.1
  ·exact sI d.2 b c
theorem qZ: ∀ {a:List (Str×NameKind)}{x}{k},(a.map Prod.fst).Nodup->(x,k)∈a->a.lookup x=y0 k
 | (y,j)::r,x,k,b,h=>by
  rw [Aa9,Ah1]at b
  rw [Ad0]
  rcases Ab2.mp h with e | e
  ·cases e;simp
  ·have:(x==y)=false:=by
    cases c:x==y with
    | false=>rfl
    | true=>
     have:x=y:=by simpa using c
     subst this
     exact absurd (Ac1.mpr ⟨_,e,rfl⟩) b.1
   rw [this]
   exact qZ b.2 e
def hG (a:Scope) (C:Addr) (env:Env):List (Str×Addr):=cellsFrom (C+1) a.names (xE a env)
def Qy 
 (d:Q (newEnv scope s.heap.objs.size globals (cellsFrom (s.heap.objs.size+1) scope.names cl) y8 u0 .none (y0 env) builtinsNs) { s with heap:=pushCells (s.heap.push { cls:= .type "dict",data:= .dict #[] }) scope.names }):
 wpAny M A (newFunctionEnv scope globals cl [] y8 u0 .none (y0 env)) Q E s:=by
 simp only [newFunctionEnv,Option.isSome_some,if_true]
 refine wpAny_bind (wpAny_alloc ?_)
 refine wpAny_bind (wpAny_layCells _ (λname a b=>by cases c:a==NameKind.cell<;>simp [c]) _ _ _ _ ?_)
 rw [show ({ s with heap:=s.heap.push { cls:= .type "dict",data:= .dict #[] } }:Shared).heap.objs.size=s.heap.objs.size+1 from Heap.size_push ..]
 refine wpAny_bind ?_
 exact wpAny_pure (wpAny_pure d)
noncomputable def qd (X:Cx) (N:List Str) (a:Scope) (C:Addr) (b:List Addr) (s:Shared) (H:Hp):Cx where
 prog:=X.prog
 w:=X.w
 K:=X.K
 mg:=X.mg
 base:=X.base
 A:=X.A
 N:=N
 s₀:=s
 H₀:=H
 env:=compEnvC a (hG a C X.env) C X.env
 outer:=X.stack
 stack:=X.stack
 ex:=b
 fn:=λx=>v9 (a.names.lookup x=y0 .cell)
 calm:=X.calm
 pn:= []
 xe:=λ_ _=>False
def cx (X:Cx):List Nat->List Str->Prop
 | [],[]=>True
 | j::a,x::xs=>X.N[j]? =y0 x/\(X.env.kindOf x=y0 .cell\/X.env.kindOf x=y0 .free)/\cx X a xs
 | _,_=>False
theorem cx.get {U:St}: ∀ {aA}{xs}{i:Nat}{x}{v},cx X aA xs->xs[i]? =y0 x->(aA.map λj=>(U[j]?).join)[i]? =y0 (y0 v) →
 ∃j:Nat,X.N[j]? =y0 x/\U[j]? =y0 (y0 v)/\(X.env.kindOf x=y0 .cell\/X.env.kindOf x=y0 .free)
 | [],[],_,_,_,_,e,_=>by simp at e
 | [],_::_,_,_,_,h,_,_=>h.elim
 | _::_,[],_,_,_,h,_,_=>h.elim
 | j::d,f::xs,0,x,v,h,b,a=>by
  obtain⟨g,c,_⟩:=h
  simp at b
  subst b
  refine⟨j,g,?_,c⟩
  have a:y0 ((U[j]?).join)=y0 (y0 v):=by simpa using a
  have a:=Ae4.inj a
  cases q:U[j]? with
  | none=>rw [q]at a;cases a
  | some z=>rw [q]at a;have:z=y0 v:=a;rw [this]
 | j::d,f::xs,i+1,x,v,h,b,a=>cx.get h.2.2 (by simpa using b) (by simpa using a)
theorem cx.length : ∀ {aA}{xs},cx X aA xs->aA.length=xs.length
 | [],[],_=>rfl
 | [],_::_,h=>h.elim
 | _::_,[],h=>h.elim
 | _::_,_::_,h=>congrArg (· +1) (cx.length h.2.2)
def lr (k:Nat) (aA:List Nat) (U:St):St:=Aa8 k u0++aA.map λ(j:Nat)=>(U[j]?).join
def gy (X:Cx) (a:List Expr) (t:TT):Prop:=
 ∀(k8:List (Addr×Obj)) (s:Shared) (U:St) (H:Hp) (Q:Bool->Hp->Prop),Inv X k8 U H s->t U H Q →
  wpAny (model X.prog X.w) X.A (forIn a k9 λc r=>if r=k9 then do let ok ←isTrue c X.env (eval c X.env);pure (ForInStep.yield ok)else pure (ForInStep.yield r)) (TP X k8 U Q) X.xe s
def Hs:TT:=λ_ H Q=>Q k9 H
def rn :gy X [] Hs:=λ_ _ _ H _ I h=>wpAny_tests_nil ⟨H,I,h⟩
def uj (h:PT X c t):gy X [c] t:=λa s U H Q I b=>wpAny_tests_one (h a s U H Q I b)
def ui (J:It) (g:TG) (l:TT) (j:TE) (h:St) (n:Hp) (Q:VK):Prop:= ∃W:Nat->Nat->List V->St->Hp->Prop,(∃ m,W 0 m [] h n)/\ ∀i m ys Y H,W i m ys Y H →
 (J.stop i H/\ys.length<=sizeLine/\ ∀D,H D=u0->Q (.ref D) (aI H D (.lst ys))) ∨
 (J.go i H/\ys.length<sizeLine/\ ∃N:List V->St->Hp->Prop,(∀ a e H',N a e H'-> ∃f,f<m/\W (i+1) f a e H') ∧
   ∀x H',J.eU i H x H'->g x Y H' λc H2=>l c H2 λb d=>if b=k9 then j c d λy k=>N (ys++ [y]) c k else N ys c d)
abbrev kQ (a:Type):=Addr->List Addr->Shared->Hp->a
def mR (k:Nat) (aA:List Nat) (a:TI) (g:kQ TG) (c:kQ TT) (b:kQ TE):TE:=λU H Q=>a U H λJ H1=> ∀C fp s,ui J (g C fp s H1) (c C fp s H1) (b C fp s H1) (lr k aA U) H1 Q
def Inv.adopt (I:Inv X k8 U H s) (A:W5 X k8 H D) (C:X.s₀.heap.objs.size<=D)
 (e:s.heap.get? D=y0 { cls:= .type "list",data:= .seq its.toArray n }) (r:Vals ys its) (m:ys.length<=sizeLine):Inv X k8 U (aI H D (.lst ys)) s:=by
 obtain⟨E,y,F,G,l,w⟩:=A
 have a: ∀b o,H b=y0 o->aI H D (.lst ys) b=y0 o:=λb o q=>by rw [ja (Wa q E)];exact q
 have d: ∀b o,X.s₀.heap.get? b=y0 o->b≠D:=λb o q z=>by rw [z]at q;exact absurd (Ab (Ab4 q) C) (Ag9 _)
 refine⟨I.ok,I.os,I.bare,⟨I.base.keep,I.base.slot,λb o g j B=> ?_,I.base.there,λb h q=>a b _ (I.base.cA b h q),λb o u q=>a b _ (I.base.cu b o u q),λb t q=> ?_⟩,I.loc,I.cell,?_,λx c q=> ?_,λp i=> ?_,λb u q=> ?_,I.len⟩
 ·rw [ja (d b o g)];exact I.base.free b o g j B
 ·obtain⟨more,v⟩:=I.base.cH b t q
  exact⟨more,a b _ v⟩
 ·rw [ja (Ne.symm y)];exact I.free
 ·rw [ja (l x c q)];exact I.bz x c q
 ·obtain⟨k,a2,a3⟩:=I.pin p i
  exact⟨k,by rw [ja (w p i)];exact a2,a3⟩
 ·by_cases f:b=D
  ·subst f
   rw [wb]at q
   cases q
   exact⟨m,its,n,r,e⟩
  ·rw [ja f]at q
   exact(I.aM b u q).cn (λ_ _ _ z=>z) (λc z=>a c _ z) λc h z=>a c _ z
theorem Zi {env:Env}: ∀ {b:List (Str×NameKind)}{x},b.lookup x=y0 .free →
 ((b.map λ(n,k)=>if(k==NameKind.free&&env.scope.kind== .function&&env.kindOf n==y0 .cell)then(n,NameKind.cell)else(n,k)).lookup x=y0 .cell ∨
   (b.map λ(n,k)=>if(k==NameKind.free&&env.scope.kind== .function&&env.kindOf n==y0 .cell)then(n,NameKind.cell)else(n,k)).lookup x=y0 .free)
 | [],_,h=>by simp at h
 | (n,k)::r,x,h=>by
  have e:= @Zi env r x
  rw [Aa9]
  rw [Ad0]at h
  cases d:x==n with
  | true=>
   rw [d]at h
   have f:=by simpa using h
   subst f
   by_cases a:(NameKind.free==NameKind.free&&env.scope.kind== .function&&env.kindOf n==y0 .cell)=k9
   ·simp only [a,if_true,Ad0,d]
    first | exact .inl rfl | exact .inl trivial | simp
   ·have c:=Aj6.mpr a
    simp only [c,Ag8,if_false,Ad0,d]
    first | exact .inr rfl | exact .inr trivial | simp
  | false=>
   rw [d]at h
   have q:=e h
   by_cases a:(k==NameKind.free&&env.scope.kind== .function&&env.kindOf n==y0 .cell)=k9
   ·simp only [a,if_true,Ad0,d]
    exact q
   ·have c:=Aj6.mpr a
    simp only [c,Ag8,if_false,Ad0,d]
    exact q
structure QR (X:Cx) (scope:Scope) (N:List Str) (k:Nat) (aA:List Nat):Prop where
 kind:scope.kind= .function
 nd:(scope.names.map Prod.fst).Nodup
 names: ∀y∈scope.names,y.2= .local->scope.names.lookup y.1=y0 .local
 free: ∀y∈scope.names,y.2= .free->X.env.kindOf y.1=y0 .cell\/X.env.kindOf y.1=y0 .free
 gX: ∀x∈N.drop k,scope.names.lookup x=y0 .free
 aA:cx X aA (N.drop k)
 le:k<=N.length
structure Mp (sc scope:Scope) (N:List Str) (k:Nat):Prop where
 kind:scope.kind= .function
 nd:(scope.names.map Prod.fst).Nodup
 names: ∀y∈scope.names,y.2= .local->scope.names.lookup y.1=y0 .local
 free: ∀y∈scope.names,y.2= .free->sc.names.lookup y.1=y0 .cell\/sc.names.lookup y.1=y0 .free
 gX: ∀x∈N.drop k,scope.names.lookup x=y0 .free
 le:k<=N.length
section
variable {X:Cx}{elt tg iter:Expr}{ifs:List Expr}{scope:Scope}{pos p0:Pos}{N:List Str}{k:Nat}{aA:List Nat}{wi:TI}{g:kQ TG}{tc:kQ TT}{te:kQ TE}
def Hz (ok:QR X scope N k aA) (a:Inv X k8 U H2 s2) (H: ∀b∈fp,W5 X k8 H2 b) (P: ∀b∈fp,b<s2.heap.objs.size)
 (t:s2.heap.objs.size<=C) (K:h₁.Ns C m) (g: ∀b o,s2.heap.get? b=y0 o->h₁.get? b=y0 o)
 (d: ∀x c,(hG scope C X.env).lookup x=y0 c->(xE scope X.env).lookup x=y0 c\/(C+1<=c/\(x,NameKind.cell)∈scope.names/\h₁.IsCell c u0)):
 Inv (qd X N scope C fp s2 H2) [] (lr k aA U) H2 { s2 with heap:=h₁,toks:=tk }:=by
 have sub: ∀x c,(xE scope X.env).lookup x=y0 c->X.env.cells.lookup x=y0 c:=QC scope.names [] λx c e=>by simp at e
 have E: ∀x,(x,NameKind.free)∈scope.names-> ∃c,(xE scope X.env).lookup x=y0 c:=λx I=>by
  obtain⟨c,A⟩:=a.ok.has x (ok.free _ I rfl)
  exact jU A scope.names [] (.inl I)
 have lt: ∀x c,(xE scope X.env).lookup x=y0 c->c<C+1:=λx c e=>by
  obtain⟨v,o,G,_⟩:=a.cell x c (sub x c e)
  exact Nat.lt_succ_of_le (Ac (Ah4 (Ab4 G)) t)
 have inj:=px scope.names _ _ lt λx y c D J=>a.ok.inj x y c (sub x c D) (sub y c J)
 have keep: ∀x c,(x,NameKind.free)∈scope.names->(xE scope X.env).lookup x=y0 c->(hG scope C X.env).lookup x=y0 c:=λx c I e=>by
  unfold hG
  rw [XY scope.names _ _ λz=>by cases sI ok.nd I z]
  exact e
 have B: ∀x,_∈scope.names\/(x,NameKind.cell)∈scope.names-> ∃c,(hG scope C X.env).lookup x=y0 c:=λx s=>by
  rcases s with s | s
  ·obtain⟨c,A⟩:=E x s
   exact⟨c,keep x c s A⟩
  ·exact Ah0.mp (Am scope.names (C+1) (xE scope X.env) (.inl (qZ ok.nd s)))
 refine⟨⟨a.ok.mod,ok.kind,a.ok.glob,a.ok.blt,t,inj,λx s=>B x (wO s),λx c w e=> ?_,a.ok.hd,a.ok.frames,.inl rfl,λb n=>⟨?_,λx c e=> ?_⟩,
  λb o e=>a.bs b o e,Ac a.ok.gx a.sz,λb o e n=> ?_,λb n z=>(Ab2.mp (a.dz b z)).elim (H b n).2.1 (H b n).2.2.1,a.stack,a.cw⟩,
  rfl,a.bare,Un.kept g,⟨m,K,λi x v R h Z=> ?_⟩,λx c e=> ?_,a.aM.fresh t,λx c e=> ?_,λp V=>absurd (show p∈([]:List (Addr×Obj))from V) (by simp),a.aM.kept g,?_⟩
 ·have w:=of_decide_eq_true w
  rcases d x c e with q | q
  ·rcases wH scope.names [] q with z | z
   ·simp at z
   ·have:=qZ ok.nd z
    rw [w]at this
    cases this
  ·exact Ac t (Ac (Ah7 C) q.1)
 ·show b≠C
  exact Ac3 (Ab (P b n) t)
 ·rcases d x c e with q | q
  ·exact(H b n).2.2.2.2.1 x c (sub x c q)
  ·exact Ne.symm (Ac3 (Ab (P b n) (Ac t (Ac (Ah7 C) q.1))))
 ·rcases (H b n).2.2.2.1 with z | z
  ·exact a.ok.fR b o e z
  ·have D:=Ab4 e
   have J:=a.ok.gx
   exact absurd (Ab D (Ac J z)) (Ag9 _)
 ·have f:k<=i:=by
   by_cases f:i<k
   ·have h:(Aa8 k u0++aA.map λ(j:Nat)=>(U[j]?).join)[i]? =y0 (y0 v):=h
    rw [Af9 (by simpa using f),Am2,if_pos f]at h
    cases h
   ·omega
  have F:(N.drop k)[i-k]? =y0 x:=by
   rw [List.getElem?_drop,show k+(i-k)=i by omega];exact R
  have O:(aA.map λ(j:Nat)=>(U[j]?).join)[i-k]? =y0 (y0 v):=by
   have h:(Aa8 k u0++aA.map λ(j:Nat)=>(U[j]?).join)[i]? =y0 (y0 v):=h
   rw [Af6 (by simpa using f),Ae8]at h
   exact h
  obtain⟨j,Y,S,Q⟩:=ok.aA.get (U:=U) F O
  obtain⟨m2,hn,T⟩:=a.loc
  obtain⟨u,r,l⟩:=T j x v Y S (.inr (Q.elim (λz=> .inl z) λz=> .inr z))
  refine⟨u,r,.inr ?_⟩
  have w:=ok.gX x (Ak2 F)
  refine⟨Zi w,?_⟩
  obtain⟨c,A⟩:=E x (PySem.mem_of_lookup w)
  refine⟨c,keep x c (PySem.mem_of_lookup w) A,?_⟩
  rcases l with⟨W,_⟩ | ⟨_,c',M,o,G,L⟩
  ·rcases Q with z | z<;>(rw [W]at z;cases z)
  ·have d:=sub x c A
   rw [M]at d
   cases d
   exact⟨o,g _ o G,L⟩
 ·rcases d x c e with q | q
  ·obtain⟨v,o,G,L⟩:=a.cell x c (sub x c q)
   exact⟨v,o,g c o G,L⟩
  ·exact⟨u0,q.2.2⟩
 ·rcases d x c e with q | q
  ·exact a.bz x c (sub x c q)
  ·exact a.aM.fresh (Ac t (Ac (Ah7 C) q.1))
 ·show(Aa8 k u0++aA.map λ(j:Nat)=>(U[j]?).join).length=N.length
  have D:=ok.aA.length
  have J:=ok.le
  rw [Ab0,Ae8,Aa,D,Ai8]
  omega
def JR (use) (hc:X.calm=k9) (ok:QR X scope N k aA) (hi:PI X tg iter wi)
 (hg: ∀C fp s H,PG (qd X N scope C fp s H) tg (g C fp s H)) (ht: ∀C fp s H,gy (qd X N scope C fp s H) ifs (tc C fp s H)) (he: ∀C fp s H,PE (qd X N scope C fp s H) elt (te C fp s H))
 (hs: ∀x,foldedSetIterable iter X.env x=pure x)
 (I:Inv X k8 U H s) (h:mR k aA wi g tc te U H Q)
 (fin: ∀(D C:Addr) (oC:Obj) (m:Str->Option Value) (H4:Hp) (s4:Shared),Inv X (k8++ [(C,oC)]) U H4 s4->W5 X k8 H4 C->Q (.ref D) H4->(∀ h:Heap,h.get? C=y0 oC->h.Ns C m) →
   compPost (model X.prog X.w) X.A X.xe use Q' (.ref D) C (.ok .next) s4):
 wpAny (model X.prog X.w) X.A (comprehension (.ListComp elt [⟨tg,iter,ifs,0⟩] scope pos) scope X.env p0 (newList []) y9 (eval iter X.env) use) Q' X.xe s:=by
 have hcl:closureFor scope X.env=pure _:=XL λy hy hf=>I.ok.has y.1 (ok.free y hy hf)
 refine wpAny_comprehension_free (use:=use) rfl hs hcl ok.kind ok.names (aL (hi k8 s U H _ I h) λv s1 h1=>aL h1 λitv s2 h2=> ?_)
 obtain⟨it,fp,tn,J,H2,e,I2,T,st2,f2,hW⟩:=h2
 subst e
 refine wpAny_newObj_type (Qy ?_)
 dsimp only
 generalize hHp:s2.heap.push { cls:= .type "list",dict:=none,data:= .seq ([]:List Value).toArray }=HP
 have hCs:HP.objs.size=s2.heap.objs.size+1:=by rw [← hHp,Ag1]
 generalize hDD:s2.heap.objs.size=D at hCs ⊢
 have hns0:(HP.push { cls:= .type "dict",data:= .dict #[] }).Ns HP.objs.size fun _=>none:=Heap.Ns.new HP _
 have hlk: ∀x c,(hG scope HP.objs.size X.env).lookup x=some c->(xE scope X.env).lookup x=some c\/(HP.objs.size+1<=c/\(x,NameKind.cell)∈scope.names/\(pushCells (HP.push { cls:= .type "dict",data:= .dict #[] }) scope.names).IsCell c none):=fun x c e=>by
  refine qY scope.names (HP.push { cls:= .type "dict",data:= .dict #[] }) (xE scope X.env) True (fun _=> .inl trivial) (HP.objs.size+1) (by rw [Heap.size_push];exact Nat.le_refl _) ?_
  rw [Ag1]
  exact e
 generalize hh1:pushCells (HP.push { cls:= .type "dict",data:= .dict #[] }) scope.names=h₁ at hlk ⊢
 have hns₁:h₁.Ns HP.objs.size λ_=>none:=by rw [← hh1];exact hns0.keeps (pushCells_keeps _ _)
 have hk1: ∀b o,HP.get? b=y0 o->h₁.get? b=y0 o:=λb o e=>by
  rw [← hh1]
  exact pushCells_keeps _ _ b o (Aa2 _ e)
 generalize hCC:HP.objs.size=C at hCs hns₁ hlk ⊢
 have hDC:D≠C:=by rw [hCs];exact Ac3 (Ag7 _)
 have hle:s2.heap.objs.size<=C:=by rw [hDD,hCs];exact Ah7 _
 have hleD:s2.heap.objs.size<=D:=Nat.le_of_eq hDD
 have fo: ∀b∈fp,b<D:=λb hb=>by
  obtain⟨o,eo,_⟩:=T.obj _ _ st2 b hb
  rw [← hDD]
  exact Ab4 eo
 have old: ∀b o,s2.heap.get? b=y0 o->h₁.get? b=y0 o:=λb o e=>by
  exact hk1 b o (hHp▸Aa2 _ e)
 have hacc:h₁.get? D=y0 { cls:= .type "list",data:= .seq ([]:List Value).toArray }:=by
  refine hk1 _ _ ?_
  rw [← hHp,←hDD]
  exact Ab6 _ rfl
 obtain⟨W,⟨m0,w0⟩,turn⟩:=hW C fp s2
 have I3:Inv (qd X N scope C fp s2 H2) [] (lr k aA U) H2 { s2 with heap:=h₁,toks:=s2.toks }:=
  Hz ok I2 f2 (λb hb=>by rw [hDD];exact fo b hb) hle hns₁ old hlk
 have st3:tn 0 h₁:=T.keep _ _ _ st2 λb _ o e=>old b o e
 have hch: ∀b∈fp,(b∈X.ex\/X.s₀.heap.objs.size<=b)/\b≠X.env.locals/\(∀ x c,X.env.cells.lookup x=y0 c->c≠b)/\ ∀p∈X.pn++k8,p.1≠b:=λb hb=>⟨(f2 b hb).2.2.2.1,(f2 b hb).2.1,(f2 b hb).2.2.2.2.1,(f2 b hb).2.2.2.2.2⟩
 have FD: ∀ {H':Hp},H' D=u0->W5 X k8 H' D:=λhn=>I2.cW hleD hn
 have FC: ∀ {H':Hp},H' C=u0->W5 X k8 H' C:=λhn=>I2.cW hle hn
 have sub: ∀x c,(xE scope X.env).lookup x=y0 c->X.env.cells.lookup x=y0 c:=QC scope.names [] λx c e=>by simp at e
 have hDst:D∉bG X.stack:=λz=>(Ab2.mp (I2.dz D z)).elim (FD (H':=λ_=>u0) rfl).2.1 (FD (H':=λ_=>u0) rfl).2.2.1
 have hDc: ∀x c,(hG scope C X.env).lookup x=y0 c->c≠D:=λx c e=>by
  rcases hlk x c e with q | q
  ·exact(FD (H':=λ_=>u0) rfl).2.2.2.2.1 x c (sub x c q)
  ·exact Ne.symm (Ac3 (Ab (by rw [hCs];exact Am1 (Ag7 _)) q.1))
 have loop: ∀s₃:Shared,s₃= { s2 with heap:=h₁,toks:=s2.toks } →
  codeAny (model X.prog X.w) X.A (.compLoop (.ListComp elt [⟨tg,iter,ifs,0⟩] scope pos) 0 (.ref it) (.ref D) (compEnvC scope (hG scope C X.env) C X.env))
   (compPost (model X.prog X.w) X.A X.xe use Q' (.ref D) C) s₃:=by
  rintro s₃ rfl
  refine xS (λn s'=> ∃i ys its kk Y H',Inv (qd X N scope C fp s2 H2) [] Y H' s'/\tn i s'.heap/\(∀ b∈fp,H' b=u0)/\H' D=u0/\s'.heap.get? D=y0 { cls:= .type "list",data:= .seq (its:List Value).toArray kk }/\Vals ys its/\W i n ys Y H')
   ?_ m0 ⟨0,[],[],0,_,H2,I3,st3,λb hb=>(f2 b hb).1,I2.aM.fresh hleD,hacc,.nil,w0⟩
  rintro n s3 ⟨i,ys,its,kk,Y,H3,I3,st3,fr3,hD3,eD3,rv3,w3⟩
  have IP:Inv (qd X N scope C fp s2 H2) [(D,{ cls:= .type "list",data:= .seq its.toArray kk })] Y H3 s3:=I3.bF fun p hp=>by
   have e:p=(D,{ cls:= .type "list",data:= .seq its.toArray kk }):=by simpa using hp
   subst e
   exact⟨eD3,hD3,hDC,hDst,λv z=>by cases z⟩
  have fpok: ∀ {H':Hp},(∀ b∈fp,H' b=u0)-> ∀b∈fp,W5 (qd X N scope C fp s2 H2) [(D,{ cls:= .type "list",data:= .seq its.toArray kk })] H' b:=fun {H'} hn b hb=>by
   refine⟨hn b hb,I3.ok.mz b hb |>.1,I3.ok.fN b hb,.inl hb,I3.ok.mz b hb |>.2,λp hp=> ?_⟩
   have e:p=(D,{ cls:= .type "list",data:= .seq its.toArray kk }):=by
    have hp:p∈([]:List (Addr×Obj))++ [(D,{ cls:= .type "list",data:= .seq its.toArray kk })]:=hp
    simpa using hp
   rw [e]
   exact Ne.symm (Ac3 (fo b hb))
  rcases turn i n ys Y H3 w3 with⟨stop,hz,q⟩ | ⟨go,hz,NN,hN,step⟩
  ·refine aL (T.done (qd X N scope C fp s2 H2) rfl rfl rfl hc i _ s3 Y H3 _ IP (fpok fr3) st3 stop) ?_
   rintro r s4 ⟨hr,I4⟩
   subst hr
   have eD4:=(I4.pin _ (Ab1 _ Aa3)).1
   have I5:Inv X k8 U H3 s4:=I2.ik (ch:=fp) I4.os I4.base I4.aM I4.bare hch
   have I6:=I5.adopt (FD hD3) (Ac I2.sz hleD) eD4 rv3 hz
   obtain⟨m,⟨oC,es,ep,hoC,hdC,hr⟩,_⟩:=I4.loc
   have fC:W5 X k8 (aI H3 D (.lst ys)) C:=FC (by rw [ja (Ne.symm hDC)];exact I4.free)
   have I7:Inv X (k8++ [(C,oC)]) U (aI H3 D (.lst ys)) s4:=I6.bF λp hp=>(Af0.mp hp).elim (λz=>I6.pin p (Ab1 _ z)) λz=>by
    have e:p=(C,oC):=by simpa using z
    subst e
    exact⟨hoC,fC.1,fC.2.1,fC.2.2.1,λv z=>by rw [hdC]at z;cases z⟩
   exact fin D C oC m _ s4 I7 fC (q D hD3) λh e=>⟨oC,es,ep,e,hdC,hr⟩
  ·refine aL (T.item (qd X N scope C fp s2 H2) rfl rfl rfl hc i _ s3 Y H3 _ IP (fpok fr3) st3 go) ?_
   rintro r s4 ⟨u,hr,h4⟩
   subst hr
   refine aL h4 ?_
   rintro _ s5 ⟨x,H5,I5,r5,y5,st5,fr5⟩
   have I5':=I5.pinned (fpok fr5) (T.obj _ _ st5)
   refine wpAny_mono (hg C fp s2 H2 _ s5 Y H5 x u _ I5' r5 (step x H5 y5)) (λ_ s6 ⟨U6,H6,I6,q6⟩=> ?_) λ_ _ z=>False.elim z
   refine wpAny_mono (ht C fp s2 H2 _ s6 U6 H6 _ I6 q6) (λb s7 ⟨H7,I7,q7⟩=> ?_) λ_ _ z=>False.elim z
   have hp5: ∀b∈fp,∃o,s5.heap.get? b=y0 o:=λb hb=>let ⟨o,e,_⟩:=T.obj _ _ st5 b hb; ⟨o,e⟩
   cases b with
   | false=>
    rw [if_neg Ab9]at q7 ⊢
    obtain⟨m',hm,w7⟩:=hN _ _ _ q7
    refine⟨m',hm,i+1,ys,its,kk,U6,H7,I7.bF λp hp=>absurd hp (by simp),T.keep _ _ _ st5 λb hb o e=>(I7.pin (b,o) (Ab1 _ (Ab1 _ (Ji hb e)))).1,λb hb=> ?_,?_,?_,rv3,w7⟩
    ·obtain⟨o,e⟩:=hp5 b hb
     exact(I7.pin (b,o) (Ab1 _ (Ab1 _ (Ji hb e)))).2.1
    ·exact(I7.pin _ (Ab1 _ (Ac9 _ Aa3))).2.1
    ·exact(I7.pin _ (Ab1 _ (Ac9 _ Aa3))).1
   | true=>
    rw [if_pos rfl]at q7 ⊢
    refine wpAny_mono (he C fp s2 H2 _ s7 U6 H7 _ I7 q7) (λy s8 ⟨yv,H8,I8,r8,q8⟩=> ?_) λ_ _ z=>False.elim z
    have pD:=I8.pin _ (Ab1 _ (Ac9 _ Aa3))
    have eD8:s8.heap.get? D=y0 { cls:= .type "list",data:= .seq its.toArray kk }:=pD.1
    have hD8:H8 D=none:=pD.2.1
    have v8:=rv3.length
    refine call_meets F.slot_list_append ⟨_,eD8,rfl⟩ F.entry_list_append (F.args_list_append_2 _ _) (PySem.list_append D its.toArray kk y (by rw [Ab8];omega)) ⟨eD8,?_⟩
    obtain⟨m',hm,w8⟩:=hN _ _ _ q8
    have IQ:Inv (qd X N scope C fp s2 H2) (jG fp s5.heap) U6 H8 s8:=I8.bF λp hp=>I8.pin p (Ab1 _ (Ab1 _ hp))
    have e9:=PySem.IsL.update eD8 (·.push y)
    rw [show its.toArray.push y=(its++ [y]).toArray by simp]at e9
    have I9:Inv (qd X N scope C fp s2 H2) (jG fp s5.heap) U6 H8 { s8 with heap:=s8.heap.update D (Obj.mapSeq (·.push y)),toks:=s8.toks }:=
     IQ.turned (it:=D) (λb o hb e=>(Aj3 s8.heap (Obj.mapSeq (·.push y)) (Ne.symm hb)).trans e) hD8 hDC (.inr hleD) hDc λp hp=>by
      have hp:p∈([]:List (Addr×Obj))++jG fp s5.heap:=hp
      have:=fo p.1 (ZP (by simpa using hp)).1
      exact Ac3 this
    refine⟨m',hm,i+1,ys++ [yv],its++ [y],_,U6,H8,I9.bF λp hp=>absurd hp (by simp),T.keep _ _ _ st5 λb hb o e=>(I9.pin (b,o) (Ab1 _ (Ji hb e))).1,λb hb=> ?_,hD8,e9,rv3.append (.cons r8 .nil),w8⟩
    obtain⟨o,e⟩:=hp5 b hb
    exact(I9.pin (b,o) (Ab1 _ (Ji hb e))).2.1
 exact codeAny_compStart_list (loop _ rfl) (T.self _ 0 _ _ _ st3 (loop _ rfl))
def HH (ok:QR X scope N k aA) (t:PI X tg iter wi)
 (p: ∀C fp s H,PG (qd X N scope C fp s H) tg (g C fp s H)) (l: ∀C fp s H,gy (qd X N scope C fp s H) ifs (tc C fp s H)) (v: ∀C fp s H,PE (qd X N scope C fp s H) elt (te C fp s H))
 (w:X.calm=true:=by rfl) (u: ∀x,foldedSetIterable iter X.env x=pure x:=by intro _;rfl):PE X (.ListComp elt [⟨tg,iter,ifs,0⟩] scope pos) (mR k aA wi g tc te):=by
 intro i s U H Q I h
 refine JR u0 w ok t p l v u I h λD C y m n A f a q c=> ?_
 have r:=f.pin _ (Ab1 _ (Ab1 _ Aa3))
 refine⟨m,c _ r.1,λz d=>⟨.ref D,n,?_,rfl,q⟩⟩
 exact(f.bO).turned (λb o j e=>d.extBut b o j e) a.1 a.2.1 a.2.2.2.1 a.2.2.2.2.1 a.2.2.2.2.2
def CW (B:X.N.Nodup) (d:X.N[i]? =y0 x) (E:kN X.env.scope x) (ok:QR X scope N k aA) (G:PI X tg iter wi)
 (y: ∀C fp s H,PG (qd X N scope C fp s H) tg (g C fp s H)) (t: ∀C fp s H,gy (qd X N scope C fp s H) ifs (tc C fp s H)) (K: ∀C fp s H,PE (qd X N scope C fp s H) elt (te C fp s H))
 (f:swapsWith (.ListComp elt [⟨tg,iter,ifs,0⟩] scope p0) (y0 (.Name x pos')) pos.line X.env=pure true:=by rfl)
 (L:X.calm=true:=by rfl) (J: ∀x,foldedSetIterable iter X.env x=pure x:=by intro _;rfl) (z:X.fn x=k9\/X.env.scope.names.lookup x=y0 .local:=by first | exact .inl rfl | exact .inr rfl | assumption):
 PS X (.Assign [.Name x pos'] (.ListComp elt [⟨tg,iter,ifs,0⟩] scope p0) pos) (iq (mR k aA wi g tc te) (zQ i)):=by
 intro l s U H D I h
 rw [exec_Assign_Name_used _ _ _ _ f]
 refine wpAny_bind (wpAny_standAt (wpAny_bind ?_))
 refine wpAny_bind (wpAny_mono (JR _ L ok G y t K J I h λA C M m u P p a q c=> ?_) (λ_ Q w=>wpAny_pure (wpAny_pure w)) λ_ _ e=>e)
 refine wpAny_assign_Name (zo p B d E (v:= .ref A) rfl (λR n=> ?_) z)
 have F:=n.pin _ (Ab1 _ (Ab1 _ Aa3))
 refine⟨m,c _ F.1,λO j=>⟨_,u,?_,q⟩⟩
 exact(n.bO).turned (λb o r e=>j.extBut b o r e) a.1 a.2.1 a.2.2.2.1 a.2.2.2.2.1 a.2.2.2.2.2
end
def Qf {K:Aa5}(c:Nat->List V->St->Hp->Prop) (v:xs.length<=1000) (t:c 0 [] Y0 H1) (k: ∀i ys Y H,c i ys Y H->ys.length<=i)
 (u: ∀i ys Y H,i<=xs.length->c i ys Y H->a8 K H a xs)
 (s: ∀i ys Y H x,xs[i]? =y0 x->c i ys Y H->g x Y H λY2 H2=>tc Y2 H2 λb f=>if b=k9 then te Y2 f λy h=>c (i+1) (ys++ [y]) Y2 h else c (i+1) ys Y2 f)
 (j: ∀ys Y H,c xs.length ys Y H-> ∀D,H D=u0->Q (.ref D) (aI H D (.lst ys))):ui (kB K a) g tc te Y0 H1 Q:=by
 refine⟨λi m ys Y H=>m=xs.length-i/\i<=xs.length/\c i ys Y H,⟨xs.length,by simp,Ah5 _,t⟩,?_⟩
 rintro i m ys Y H ⟨rfl,r,p⟩
 have z:=k i ys Y H p
 have q:=u i ys Y H r p
 by_cases d:i<xs.length
 ·refine .inr ⟨⟨xs,xs[i],q,by simp [d]⟩,zm (by lia),c _,λl w n o=>⟨xs.length-(i+1),by lia,rfl,d,o⟩,λx n y=> ?_⟩
  obtain⟨e,y⟩:=y
  subst e
  exact s i ys Y _ x (y xs q) p
 ·have e:i=xs.length:=by lia
  subst e
  exact .inl ⟨⟨xs,q,Aa6 _⟩,Ah4 (zm (by lia)),j ys Y H p⟩
noncomputable def la (K:Aa5) (a:Addr) (n:Nat):It:=
 ⟨λi H=> ∃xs,a8 K H a xs/\xs.length=n/\i<n,λi H x H'=>H'=H/\ ∀xs,a8 K H a xs->xs[n-1-i]? =y0 x,λi _=>i=n⟩
def Ck {K:Aa5}(a it) (n):gY P w K tg (la K a n) [it] it (λi h=>h.IsRevIter it a ((n:Int)-1-((i:Nat):Int))) where
 mem:=by simp
 obj:=λi h f b j=>by
  have e:=by simpa using j
  subst e
  obtain⟨o,e,c,d⟩:=f
  exact⟨o,e,λv z=>by rw [d]at z;cases z⟩
 keep:=λi h t f k=>f.at λo e=>k it (by simp) o e
 item:=by
  intro X hP A r L i g s U H E I q f m
  subst hP A r
  obtain⟨G,F,hl,hi⟩:=m
  obtain⟨W,rv,p,Z⟩:=I.list F
  have J:G[n-1-i]? =y0 (G[n-1-i]'(by omega)):=Aa4 (by omega)
  obtain⟨u,S,T⟩:=rv.get J
  obtain⟨y,C,M,x,D,B⟩:=q it (by simp)
  have e: n-1- (i:Nat)=((n-1-i:Nat):Int):=by omega
  have f:=f
  rw [e]at f
  refine wpAny_pyNext_rev_item f p.isList (by simpa using S) λt l O=> ?_
  have N:Inv X g U H { s with heap:=t }:=I.turned (λb o j e=>(O.2 b j).trans e) y C x D B
  have Q: (n-1-i:Nat)-1= n-1-((i+1:Nat):Int):=by omega
  rw [Q]at l
  obtain⟨o,e,c,d⟩:=id l
  exact⟨u,rfl,Z9 e c d (by decide) ⟨_,H,N,T,⟨rfl,λY R=>by rw [I.c9 R F];exact J⟩,l,λb j=>(q b j).1⟩⟩
 done:=by
  intro X hP A r L i g s U H E I q f m
  subst hP A r
  have m:=m
  subst m
  obtain⟨y,C,M,x,D,B⟩:=q it (by simp)
  have e: i-1-((i:Nat):Int)= -1:=by omega
  have f:=f
  rw [e]at f
  exact wpAny_pyNext_rev_end (I.ok.hd L) f λt V=>⟨rfl,I.turned (λb o j e=>V b o j e) y C x D B⟩
 self:=λ_ _ _ _ _ f h=>wpAny_pyIter_revIter f h
section
variable {X:Cx}{tg:Expr}
def B8 (K:Aa5) (b:TA):TI:=λU H R=>b U H λc H1=> ∃a xs,c= [.ref a]/\a8 K H1 a xs/\R (la K a xs.length) H1
def nJ (x:Gl X "reversed") (n:X.mg "reversed" =none) (t:PA X [a] ta) (y:starEach [a] X.env= [(false,eval a X.env)]:=by rfl):PI X tg (.Call (.Name "reversed" p) [a] [] pos) (B8 X.K ta):=by
 intro g s U H R I h
 refine Call_ (zz I x n boot_reversed (PyProof.Rows.callWith_type1 (aL (t pos g s U H _ I h) λB j ⟨D,z,i,v,A⟩=> ?_) y rfl))
 obtain⟨b,d,e,w,q⟩:=A
 subst e
 cases v with
 | cons r m=>
  cases m
  cases r
  obtain⟨k,rv,pl,C⟩:=i.list w
  refine call_reversed_list pl.isList ?_
  have f:k.toArray.size=d.length:=by rw [Ab8];exact rv.length.symm
  rw [f]
  have l:(j.heap.push (revObj b (d.length-1))).IsRevIter j.heap.objs.size b (d.length-1- (0:Nat)):=by
   refine⟨_,Ab6 _ rfl,rfl,?_⟩
   rw [show d.length-1- (0:Nat)=(d.length:Int)-1 by lia]<;>rfl
  refine wpAny_pyIter_revIter l ?_
  refine⟨j.heap.objs.size,[j.heap.objs.size],_,_,z,rfl,i.kept λb o e=>Aa2 _ e,Ck b _ d.length,l,λc u=> ?_,q⟩
  have e:=by simpa using u
  subst e
  exact i.cW (Aa6 _) (i.aM.fresh (Aa6 _))
end
structure Mn (P:Program) (w:World) (K:Aa5) (mg:Str->Option Value) (base:Heap) (k:Nat) (x:Str) (ps:List Str) (sp:Sp):Prop where
 ex: ∃f fd,bp P w K mg base lY k f fd ps sp/\Binds K fd ps []/\Ae0 K (.ref f)=k9/\mg x=y0 (.ref f)
open PySem PySem.Spec PySem.Calls PySem.W PyProof.Rows
structure gd (K:Frag) (C:Addr):Prop where
 ga:findIn K (.ref C) "__getattribute__" =some (some (.builtin "BaseException.__getattribute__"))
 gn:findIn K (.ref C) "__getattr__" =some none
 cl:findIn K (.ref C) "__class__" =some (some (.builtin "object.__class__"))
 get:specialIn K (.builtin "object.__class__") "__get__" =some (some (.builtin "getset_descriptor.__get__"))
 set:takesIn K (.builtin "object.__class__")=some true
 obj:mroIn K C (.type "object")=some true
 bas:mroIn K C (.type "BaseException")=some true
 slf:kitCls K (.ref C) (.ref C)=y0 k9
 cls:(clsIn K C).isSome=k9
def ExcAt (h:Heap) (x C:Addr):Prop:= ∃o,h.get? x=y0 o/\o.cls= .ref C
def ExcAt.type (e:ExcAt h x C):Looks M h (typeOf (.ref x)) (.ref C):=by
 obtain⟨o,a,b⟩:=e
 rw [← b]
 exact(Looks.ld a).andThen Looks.now
section
variable {prog:Program}{w:World}{A:Around}{E:Value->Shared->Prop}{s:Shared}{K:Frag}{x C:Addr}
def ZV (X:K.In s.heap) (I:ExcAt s.heap x C) (Z:gd K C) (a:R (.ok (.ret (.ref C))) s):
 codeAny (model prog w) A (.call (.builtin "getset_descriptor.__get__") ⟨[.builtin "object.__class__",.ref x,tp],[]⟩) R s:=by
 obtain⟨b,g,dd,f,e⟩:=s
 have d:=I.type (M:=model prog w)
 have c:=looks_mroIn (M:=model prog w) X Z.obj
 refine codeAny_call_builtin KF.slot_gs.plain KF.entry_gs (KF.slot_gs.check _ _ _ _ _ _ _ _ KF.type_class (KF.args_gs _ _ _) ?_)
 unfold Builtin.«getset_descriptor.__get__» Builtin.Getset_descriptor.descrGet
 rw [dga_obj]
 refine wpAny_bind (wpAny_pure ?_)
 unfold Builtin.Getset_descriptor.descrGetter Builtin.Getset_descriptor.descrCheckInstance Builtin.Getset_descriptor.descrNameAndClass isInstance
 simp only [KF.owner_class]
 repeat lk
 refine⟨Code.quiet_builtin _ (by decide +kernel),codeAny_builtin KF.entry_class ?_⟩
 unfold Builtin.«object.__class__» shownTypeOf
 repeat lk
 exact a
def xO (X:K.In s.heap) (I:ExcAt s.heap x C) (Z:gd K C) (n:Q (y0 (.ref C)) { s with toks:=s.toks+1 }):
 wpAny (model prog w) A (getAttr? (.ref x) "__class__") Q E s:=by
 obtain⟨c,e,dd,z,d⟩:=s
 have h:=I.type (M:=model prog w)
 have o:=looks_findIn (M:=model prog w) X Z.ga
 have r:=looks_findIn (M:=model prog w) X Z.gn
 have y:=looks_findIn (M:=model prog w) X Z.cl
 have p:=looks_specialIn (M:=model prog w) X Z.get
 have l:=looks_takesIn (M:=model prog w) X Z.set
 have m:=looks_mroIn (M:=model prog w) X Z.bas
 have b:Looks (model prog w) c (Builtin.ObjectAttr.find (.ref x) (.ref C) "__class__") (.bind (.builtin "getset_descriptor.__get__") (.builtin "object.__class__")):=by
  unfold Builtin.ObjectAttr.find
  refine y.andThen ?_
  refine Looks.andThen (show Looks (model prog w) c (Builtin.ObjectAttr.getOf (some (.builtin "object.__class__"))) (some (.builtin "getset_descriptor.__get__"))from p) ?_
  unfold Builtin.ObjectAttr.dataDescriptor?
  refine Looks.andThen (a:=y0 (.builtin "getset_descriptor.__get__",.builtin "object.__class__")) (l.andThen ?_) (Looks.tag Looks.now)
  exact Looks.now
 have i: ∀ A j Q E t,Q (.done (.ret (.ref C))) ⟨c,e,dd,t,d⟩ →
  wpAny (model prog w) A (Builtin.«object.__getattribute__» ⟨[.ref x,.str "__class__" j],[]⟩) Q E ⟨c,e,dd,t,d⟩:=fun A j Q E t f=>by
  unfold Builtin.«object.__getattribute__»
  refine wpAny_bind (wpAny_of_eq (a:=(Value.ref x,[Value.str "__class__" j])) rfl ?_)
  dsimp only
  refine wpAny_bind (wpAny_of_eq (a:=("__class__" :Str)) rfl ?_)
  refine wpAny_bind (h.at (wpAny_bind (b.at ?_)))
  show wpAny _ _ (Builtin.ObjectAttr.bindTo _ _ _ _) _ _ _
  unfold Builtin.ObjectAttr.bindTo
  dsimp only
  exact wpAny_bind (wpAny_holding (wpAny_call (ZV X I Z (wpAny_pure f))))
 have k: ∀ A g Q E t,Q () ⟨c,e,dd,t,d⟩ →
  wpAny (model prog w) A (checkBuiltinCall "BaseException.__getattribute__" ⟨[.ref x,g],[]⟩) Q E ⟨c,e,dd,t,d⟩:=fun A g Q E t f=>by
  have v:builtinKind "BaseException.__getattribute__" =some .slot:=by decide +kernel
  have q:splitId "BaseException.__getattribute__" =some ("BaseException", "__getattribute__"):=by decide +kernel
  have u:=F.args_bexc_ga (.ref x) g
  simp only [checkBuiltinCall,v,q]
  refine wpAny_bind ((h.andThen m:Looks (model prog w) c (isInstance (.ref x) (.type "BaseException")) true).at ?_)
  rw [if_neg (by decide)]
  exact wpAny_of_eq u f
 unfold getAttr? getAttrBy? getAttrBy
 refine wpAny_bind (wpAny_mkText (wpAny_bind (wpAny_attempt (wpAny_holding (wpAny_bind (h.at (wpAny_bind (o.at ?_))))))))
 show wpAny _ _ (getAttrByItsOwn _ _ _ _ _ _) _ _ _
 unfold getAttrByItsOwn hookBefore
 refine wpAny_bind (r.at ?_)
 refine wpAny_bind (wpAny_attempt (wpAny_holding ?_))
 show wpAny _ _ (boundAndCalled (.builtin "BaseException.__getattribute__") (.ref x) _) _ _ _
 unfold boundAndCalled
 refine wpAny_bind (wpAny_of_eq (F.excAttr_ValueError.ga.bind _) ?_)
 refine wpAny_call (codeAny_call_builtin F.excAttr_ValueError.ga.plain F.entry_bexc_ga (k _ _ _ _ _ (i _ _ _ _ _ ?_)))
 show wpAny _ _ (handedOut (.ref C)) _ _ _
 exact handed_on rfl (wpAny_pure n)
end
def qJ {K:Frag}(Z:gd K C):KitX K (.ref x) (.ref C) (λh=>ExcAt h x C) where
 ty:=λ_ _ _ I=>I.type
 it:=λM h X _=>(kit_cls X Z.slf).2.1
 ne:=λh f dd d n sl X b=>by
  rw [Aj6]
  intro q
  have e:=Value.ref.inj (beq_iff_eq.mp q)
  subst e
  have z:=Z.cls
  cases a:K.lookup C with
  | none=>simp [clsIn,a]at z
  | some o=>
   have c:=X C o a
   rw [b]at c
   cases c
   simp [clsIn,a]at z
 ca:=λX I k=>xO X I Z k
noncomputable def fA (x C:Addr) (a:Option Addr):HO:= .ext λh=> ∃o,h.get? x=y0 o/\o.cls= .ref C/\notCls o=k9/\ ∀dx,a=y0 dx->o.dict=y0 dx
def BB (e:h.get? x=y0 o) (c:o.cls= .ref C) (f:notCls o=k9) (d: ∀dx,od=y0 dx->o.dict=y0 dx):aO P w H h x (fA x C od):=
 ⟨⟨o,e,c,f,d⟩,⟨o,e⟩,λi g ⟨o,a,b⟩ k=>⟨o,k o a,b⟩⟩
def sm (K:Frag):List V->Hp->VK->Prop:=λxs H Q=> ∃x C a b,gd K C/\H x=y0 (fA x C a) ∧
 ((∃ (D:Addr),xs= [.ref x,.ref D]/\kitOne K (.ref C) (.ref D)=y0 b)\/(∃ (T:String),xs= [.ref x,.ty T]/\kitOne K (.ref C) (.type T)=y0 b) ∨
   ∃(t:Addr) (ds:List Addr),xs= [.ref x,.ref t]/\H t=y0 (.tup (ds.map V.ref))/\kitAny K (.ref C) (ds.map Value.ref)=y0 b)/\Q (.bl b) H
theorem WS: ∀ {a:List Addr}{us},Vals (a.map V.ref) us->us=a.map Value.ref
 | [],_,.nil=>rfl
 | _::_,_,.cons r t=>by
  cases r
  rw [WS t]
  rfl
def Z0 :qm X (.builtin "isinstance") (sm X.K):=by
 intro g s U H F B Q I r h
 obtain⟨x,C,E,b,Z,v,w,q⟩:=h
 have ex:ExcAt s.heap x C:=let ⟨o,a,b,_⟩:=(I.aM x _ v).1; ⟨o,a,b⟩
 obtain⟨D,rfl,e⟩ | ⟨T,rfl,e⟩ | ⟨t,y,rfl,k,e⟩:=w
 ·obtain⟨u,i,rfl,c,f⟩:=WX r
  cases c
  cases f
  exact kia_one (qJ Z) I.bM ex e (λz=>nomatch z) λd=>⟨.bl b,H,I.tok d,rfl,q⟩
 ·obtain⟨u,i,rfl,c,f⟩:=WX r
  cases c
  cases f
  exact kia_one (qJ Z) I.bM ex e (λz=>nomatch z) λd=>⟨.bl b,H,I.tok d,rfl,q⟩
 ·obtain⟨u,i,rfl,c,f⟩:=WX r
  cases c
  cases f
  obtain⟨_,p,rv,o,l,m,_,n,j⟩:=I.aM t _ k
  rw [WS rv]at j
  obtain⟨J,A,G,sl⟩:=o
  subst m j
  exact kia_tup (qJ Z) I.bM ex l e (λz=>nomatch z) λd=>⟨.bl b,H,I.tok d,rfl,q⟩
def DK (h h':Heap):Prop:= ∀b o,h.get? b=y0 o-> ∃o',h'.get? b=y0 o'/\o'.dict=o.dict
def DK.refl (h):DK h h:=λ_ o e=>⟨o,e,rfl⟩
theorem DK.trans (x:DK a b) (y:DK b c):DK a c:=λi o e=>
 let ⟨g,h,j⟩:=x i o e
 let ⟨d,k,f⟩:=y i g h
 ⟨d,k,f.trans j⟩
def KD {b:Type}:Sem b->Prop
 | .pure _=>True
 | .raise _=>True
 | .unsupported _=>True
 | .finish _=>True
 | .register _ _=>True
 | .rule _ k=>KD (k ())
 | .at _ k=>KD (k ())
 | .load _ _ k=> ∀o,KD (k o)
 | .update _ _ f k=>(∀ o,(f o).dict=o.dict/\(o.isFreed=y9->(f o).isFreed=y9))/\KD (k ())
 | .alloc _ k=> ∀a,KD (k a)
 | .loadIfAlive _ k=> ∀o,KD (k o)
 | .point _ k=>KD (k ())
 | .fresh k=> ∀t,KD (k t)
 | .ask k=> ∀t,KD (k t)
 | .handled _ k=> ∀t,KD (k t)
 | .stack k=> ∀t,KD (k t)
 | .thread k=> ∀t,KD (k t)
 | _=>False
theorem KD.bind (c: ∀a,KD (f a))(h:KD m):KD (m.bind f):=by
 induction m with
 | pure a=>exact c a
 | raise _=>exact trivial
 | unsupported _=>exact trivial
 | finish _=>exact trivial
 | register _ _=>exact trivial
 | rule _ k b=>exact b () h
 | «at» _ k b=>exact b () h
 | load _ _ k b=>exact λo=>b o (h o)
 | update _ _ _ k b=>exact⟨h.1,b () h.2⟩
 | alloc _ k b=>exact λo=>b o (h o)
 | loadIfAlive _ k b=>exact λo=>b o (h o)
 | point _ k b=>exact b () h
 | fresh k b=>exact λo=>b o (h o)
 | ask k b=>exact λo=>b o (h o)
 | handled _ k b=>exact λo=>b o (h o)
 | stack k b=>exact λo=>b o (h o)
 | thread k b=>exact λo=>b o (h o)
 | _=>exact False.elim h
theorem DK.push (h) (o):DK h (h.push o):=λb u e=>⟨u,Aa2 _ e,rfl⟩
theorem DK.update (h) (a)(c: ∀o,(f o).dict=o.dict/\(o.isFreed=y9->(f o).isFreed=y9)):DK h (h.update a f):=λb u e=>by
 by_cases q:a=b
 ·subst q
  exact⟨f u,Ai0 f e ((c u).2 (Heap.get?_some_iff.mp e).2),(c u).1⟩
 ·exact⟨u,by rw [Aj3 _ _ q];exact e,rfl⟩
def DJ : ∀ {p}{s},KD t->DK h0 s.heap->Sem.wp M Γ t Q E p s →
 Sem.wp M Γ t (λa p s'=>Q a p s'/\DK h0 s'.heap) (λe p s'=>E e p s'/\DK h0 s'.heap) p s:=by
 induction t with
 | pure a=>exact λk d h=>⟨h,d⟩
 | raise _=>exact λk d h=>⟨h,d⟩
 | unsupported _=>exact λk d h=>h
 | finish _=>exact λk d h=>h
 | register _ _=>exact λk d h=>h
 | rule _ t b=>exact λk d h=>b () k d h
 | «at» _ t b=>exact λk d h=>b () k d h
 | load _ _ t b=>exact λk d ⟨o,e,h⟩=>⟨o,e,b o (k o) d h⟩
 | update a _ f t b=>exact λk d ⟨e,h⟩=>⟨e,b () k.2 (d.trans (DK.update _ _ k.1)) h⟩
 | alloc o t b=>exact λk d h=>b _ (k _) (d.trans (DK.push _ _)) h
 | loadIfAlive _ t b=>exact λk d h=>b _ (k _) d h
 | point _ t b=>exact λk d h=>b () k d h
 | fresh t b=>exact λk d h=>b _ (k _) d h
 | ask t b=>exact λk d h=>b _ (k _) d h
 | handled _ t b=>exact λk d h=>b _ (k _) d h
 | stack t b=>exact λk d h=>b _ (k _) d h
 | thread t b=>exact λk d h=>b _ (k _) d h
 | _=>exact λk=>False.elim k
def WN (k:KD t) (h:wpAny M A t Q E s):
 wpAny M A t (λa s'=>Q a s'/\DK s.heap s'.heap) (λe s'=>E e s'/\DK s.heap s'.heap) s:=λc p b=>DJ k (DK.refl _) (h c p b)
def qX (v):KD (fieldsOf v):=by
 cases v<;>first | exact trivial | skip
 refine KD.bind (λo=> ?_) λ_=>trivial
 split<;>exact trivial
def Jz (v) (i):KD (field v i):=by
 refine KD.bind (λo=> ?_) (qX v)
 split<;>exact trivial
def xV {c:Bool}(d:KD a) (e:KD b):KD (if c then a else b):=by cases c<;>assumption
def wu (v) (i) (x):KD (setField v i x):=by
 cases v<;>first | exact trivial | skip
 refine KD.bind (λo=> ?_) λ_=>trivial
 split
 ·split
  ·refine⟨λo=> ?_,trivial⟩
   obtain⟨c,d,a,sl⟩:=o
   cases a<;>exact⟨rfl,λz=>z⟩
  ·exact trivial
 ·exact trivial
def QK (f) (b):KD (entryPlaceOf f b):=by
 refine KD.bind (λo=> ?_) λ_=>trivial
 split<;>exact trivial
def XV (a b c d e) (p):KD (EntryCells.newEntry a b c d e p):=by
 have f: ∀g:Array Value,KD (if g.size>sizeLine+2 then do
  unsupported "record:memory"
  else newObjAsIs (Value.type "traceback") (Data.fields g)):=fun g=>by
  split
  ·exact trivial
  ·unfold newObjAsIs
   exact λ_=>trivial
 exact f _
theorem Z5: ∀l:List Env,KD (readyFrames l)
 | []=>trivial
 | env::outer=>by
  unfold readyFrames
  split
  ·refine KD.bind (λo=> ?_) λ_=>trivial
   refine xV trivial ?_
   refine KD.bind (λi=> ?_) ?_
   ·refine KD.bind (λb=> ?_) ?_
    ·refine KD.bind (λ_=>Z5 outer) ⟨λo=>⟨rfl,λz=> ?_⟩,trivial⟩
     obtain⟨c,d,a,sl⟩:=o
     cases a<;>exact z
    ·unfold keptBack
     split
     ·refine xV trivial ?_
      refine KD.bind (λ_=> trivial) ?_
      exact λ_=>trivial
     ·exact trivial
   ·unfold behindIsImport
    refine xV trivial (xV trivial ?_)
    exact KD.bind (λ_=> trivial) (Jz _ _)
  ·exact trivial
def Fs (env):KD (PySem.frameOf env):=by
 refine KD.bind (λl=> ?_) λ_=>trivial
 refine KD.bind (λo=> ?_) ?_
 ·split<;>exact trivial
 ·unfold frameObject
  split
  ·exact trivial
  ·exact KD.bind (λ_=> trivial) (Z5 _)
def sx (e) (env):KD (noteFrame e env):=by
 unfold noteFrame
 split
 ·refine KD.bind (λf=> ?_) (Jz _ _)
  have d:KD (do setField e 1 (← EntryCells.newEntry f (← PySem.frameOf env) .none (rawInt ‹Addr›) .none (← entryPlaceOf ‹Addr› (f != .none)))):=
   KD.bind (λa=>KD.bind (λb=>KD.bind (λc=>wu _ _ _) (XV _ _ _ _ _ _)) (QK _ _)) (Fs env)
  refine xV ?_ d
  refine KD.bind (λx=> ?_) (Jz _ _)
  refine xV trivial ?_
  exact KD.bind (λ_=>d) (wu _ _ _)
 ·exact trivial
def qD (e) (f):KD (setFlight e f):=by
 refine KD.bind (λx=> ?_) (Jz _ _)
 exact xV (wu _ _ _) trivial
def WG (env) (e):KD (leaving env e):=KD.bind (λ_=>qD e u0) (sx e env)
def aO.there (x:aO P w H h a o): ∃u,h.get? a=y0 u:=by
 cases o with
 | lst c=>exact⟨_,x.2.choose_spec.choose_spec.2⟩
 | tup c=>obtain⟨_,_,_,u,e,_⟩:=x;exact⟨u,e⟩
 | dK b=>obtain⟨_,_,_,_,u,_,_,e,_⟩:=x;exact⟨u,e⟩
 | dT b=>obtain⟨_,_,_,_,u,_,_,e,_⟩:=x;exact⟨u,e⟩
 | set S n=>obtain⟨u,_,_,_,e,_⟩:=x;exact⟨u,e⟩
 | ins C d fs=>obtain⟨_,_,_,e,_⟩:=x;exact⟨_,e⟩
 | own y=>exact x
 | xd fs=>obtain⟨_,⟨u,_,_,e,_⟩,_⟩:=x;exact⟨u,e⟩
 | gF i k=>obtain⟨_,_,_,e⟩:=x;exact⟨_,e⟩
 | d4 l u=>exact⟨_,x.1⟩
 | ia g=>exact⟨_,show h.get? a=y0 _ from x⟩
 | met f y=>exact⟨_,show h.get? a=y0 _ from x⟩
 | ext j=>exact x.2.1
def cv (P:Program) (w:World):gs:=λouter H s E e s'=> ∃(x C t:Addr) (B:Heap) (H':Hp) (a:Option Addr),e= .ref x/\s'.os=s.os/\AllBare s'.gens ∧
 Al5 B outer x (.ref C) (.ref t) s'.heap/\Un (bG outer) [] H H' s.heap s'.heap/\cN P w H' s'.heap ∧
 (∀ b o,s'.heap.get? b=y0 o->((∃ u,H' b=y0 u)\/ ∃u,s.heap.get? b=y0 u)->b∉bG outer->B.get? b=y0 o)/\s.heap.get? x=u0/\(∀ dx,a=y0 dx-> ∃o,s'.heap.get? x=y0 o/\o.dict=y0 dx)/\E (.ref C) a H'
noncomputable def fB (C t:Addr) (a:Option Addr):Obj:= { cls:= .ref C,dict:=a,data:= .fields #[.ref t,.none,.none,.none,.bool y9,.none] }
section
variable {P:Program}{w:World}{K:Frag}{mg:Str->Option Value}{base:Heap}{N:List Str}{y8:Str}{scope:Scope}{f:Addr}{cd:Value}{A:Around}{outer:List Env}{s:Shared}{H:Hp}{E:XK}
def jH (I:Inv (jO (cv P w) P w K mg base N y8 scope f cd A outer s H E) k8 U H1 s2)
 (he:s2.heap.get? e=y0 (fB C t od)) (new:s.heap.get? e=u0) (h0:H1 e=u0) (q:E (.ref C) od H1):(jO (cv P w) P w K mg base N y8 scope f cd A outer s H E).xe (.ref e) s2:=by
 have ff:=I.stack
 have fb0:=funFrames_hide (as:=e::bG (envOfC y8 scope s.heap.objs.size f cd::outer)) ff λenv he a ha=>Aa1 _ (An5.mpr ⟨env,he,ha⟩)
 have free:=I.cw
 have fe:e∉bG _:=λhm=>by
  obtain⟨_,o,ho,nf⟩:=ff.mem hm
  rw [he]at ho
  cases ho
  exact nf _ rfl
 refine wpAny_mono (WN (WG _ _) (wpAny_leaving_firstW (E:=λ_ _=>False)
  (Q:=λ_ s'=>Heap.LeftW (hideAll s2.heap (e::bG (envOfC y8 scope s.heap.objs.size f cd::outer))) (envOfC y8 scope s.heap.objs.size f cd::outer) e (.ref C) (.ref t) s2.heap s'.heap/\s'= { s2 with heap:=s'.heap })
  I.ok.frames fb0 rfl he (λb o z=>of_hideAll _ z) (hideAll_none _ (Aa3 ..)) rfl rfl rfl λh' hL=>⟨hL,rfl⟩)) (λ_ s' ⟨⟨hL,hs⟩,dk⟩=> ?_) (λ_ _ z=>z.1.elim)
 obtain⟨k1,k2,k3,x4⟩:=hL
 obtain⟨h2,g2,d2,t2,o2⟩:=s'
 simp only [Shared.mk.injEq]at hs
 obtain⟨-,rfl,rfl,rfl,rfl⟩:=hs
 have et: ∀b o,s2.heap.get? b=y0 o->b≠e->b∉bG _->(hideAll s2.heap (e::bG (envOfC y8 scope s.heap.objs.size f cd::outer))).get? b=y0 o:=λb o z ne n=>hideAll_get _ z (by rw [Ab2];exact λq=>q.elim ne n)
 have toH: ∀b o,s2.heap.get? b=y0 o->b≠e->b∉bG _->h2.get? b=y0 o:=λb o z ne n=>k1 b o (et b o z ne n)
 have slotH: ∀b o,b∈bG _->s2.heap.get? b=y0 o-> ∃sl,h2.get? b=y0 { o with slots:=sl }:=λb o hb z=>by
  obtain⟨_,o',z',nf⟩:=ff.mem hb
  rw [z]at z'
  cases z'
  exact x4 b o z nf
 have cut: ∀b,b∉bG outer->b≠s.heap.objs.size->b∉bG (envOfC y8 scope s.heap.objs.size f cd::outer):=λb n1 n2 hb=>by
  rcases Ab2.mp (show b∈s.heap.objs.size::bG outer from hb)with z | z
  ·exact n2 z
  ·exact n1 z
 have old: ∀b o,s.heap.get? b=y0 o->b≠s.heap.objs.size:=λb o z=>Ac3 (Ab4 z)
 have olde: ∀b o,s.heap.get? b=y0 o->b≠e:=λb o z q=>by rw [q,new]at z;cases z
 have d9: ∀b u,H1 b=y0 u->b≠e/\b∉bG _:=λb u z=>⟨λq=>(by rw [q,h0]at z;cases z),λhb=>(by rw [free b hb]at z;cases z)⟩
 refine⟨e,C,t,_,H1,od,rfl,I.os,I.bare,⟨k1,hideAll_none _ (Aa3 ..),k2.2.2,k3⟩,⟨λb o z n hb hx=> ?_,λb o z n hb hx=> ?_,I.base.free,λb o z hx=> ?_,I.base.cA,I.base.cu,I.base.cH⟩,λb u z=> ?_,λb o z hc hb=> ?_,new,λdx z=> ?_,q⟩
 ·exact toH b o (I.base.keep b o z n hb hx) (olde b o z) (cut b hb (old b o z))
 ·obtain⟨sl,z1⟩:=I.base.slot b o z n hb hx
  obtain⟨sl2,z2⟩:=slotH b _ (Aa1 _ hb) z1
  exact⟨sl2,z2⟩
 ·obtain⟨o',z1⟩:=I.base.there b o z hx
  by_cases hb:b∈bG (envOfC y8 scope s.heap.objs.size f cd::outer)
  ·obtain⟨sl,z2⟩:=slotH b o' hb z1
   exact⟨_,z2⟩
  ·exact⟨o',toH b o' z1 (olde b o z) hb⟩
 ·refine(I.aM b u z).cn (λc v hc z1=> ?_) (λ_ z1=>z1) λ_ _ z1=>z1
  rcases hc with rfl | hc
  ·exact toH c v z1 (d9 c u z).1 (d9 c u z).2
  ·exact toH c v z1 (d9 c _ hc).1 (d9 c _ hc).2
 ·have two: ∃o2,s2.heap.get? b=y0 o2/\b≠e/\b∉bG (envOfC y8 scope s.heap.objs.size f cd::outer):=by
   rcases hc with⟨u,hu⟩ | ⟨u,hu⟩
   ·obtain⟨o2,z2⟩:=(I.aM b u hu).there
    exact⟨o2,z2,d9 b u hu⟩
   ·obtain⟨o2,z2⟩:=I.base.there b u hu (by show b∉([]:List Addr);simp)
    exact⟨o2,z2,olde b u hu,cut b hb (old b u hu)⟩
  obtain⟨o2,z2,nb⟩:=two
  have z3:=toH b o2 z2 nb.1 nb.2
  rw [show h2.get? b=y0 o from z]at z3
  cases z3
  exact et b _ z2 nb.1 nb.2
 ·obtain⟨o',e1,e2⟩:=dk e _ he
  exact⟨o',e1,e2.trans z⟩
def XU (I:Inv (jO (cv P w) P w K mg base N y8 scope f cd A outer s H E) k8 U H1 s2)
 (b:Heap.MadeExcOf s2.heap h' e (.ref C) vs) (q:E (.ref C) u0 H1):(jO (cv P w) P w K mg base N y8 scope f cd A outer s H E).xe (.ref e) { s2 with heap:=h' }:=by
 obtain⟨t,c,_⟩:=b.there
 refine jH (I.kept b.keeps) c ?_ ?_ q
 ·cases z:s.heap.get? e with
  | none=>rfl
  | some u=>
   obtain⟨d,a⟩:=I.base.there e u z (by show e∉ [];simp)
   rw [b.new]at a
   cases a
 ·cases z:H1 e with
  | none=>rfl
  | some u=>
   obtain⟨d,a⟩:=(I.aM e u z).there
   rw [b.new]at a
   cases a
end
def Lv {K:Frag}(X:K.In h) (q:excIn K C bmB newId=k9):
 ∃k g nm e bs c sn sub ab col dd k0 k1 k2 k3 k5 mN,h.get? C=some (excClassObj nm e C g bs k c sn sub ab col dd k0 k1 k2 k3 k5 newId)/\h.Ns g mN/\mN "__init__" =none/\OwnTail h bmB k:=by
 unfold excIn at q
 split at q
 next dd cd sl p=>
  split at q
  next t r k0 k1 k2 k3 nn k5 i s=>
   simp only [Aa7,beq_iff_eq,An9]at q
   obtain⟨⟨⟨⟨⟨rfl,rfl⟩,f⟩,o⟩,a⟩,j⟩:=q
   obtain⟨nm,bs,m,d,e,c,sn,sub,ab,col,n⟩:=cd
   dsimp only at i f a j
   subst i f
   have b:sl= #[k0,k1,k2,k3,y0 (.builtin nn),k5]:=by
    cases sl with
    | mk l=>exact congrArg Array.mk s
   subst b
   exact⟨r,d,nm,e,bs,c,sn,sub,ab,col,dd,k0,k1,k2,k3,k5,_,X _ _ p,.of_isNs (isNs_of_in X a),nsMap_none_of_in X a j,tail_of_in X o⟩
  next=>cases q
 next=>cases q
section
variable {P:Program}{w:World}{K:Frag}{mg:Str->Option Value}{base:Heap}{N:List Str}{y8:Str}{scope:Scope}{f:Addr}{cd:Value}{A:Around}{outer:List Env}{s:Shared}{H:Hp}{E:XK}
abbrev zw:List Value:= [.type "ValueError",.type "Exception",.type "BaseException",.type "object"]
def tN (C:Addr) (E:XK) (t:TA):TS:=λ_ U H=>t U H λa H1=>a.length<=sizeLine/\E (.ref C) u0 H1
def E6 (S:excIn K C zw "ValueError.__new__" =true) (J:mg x=some (.ref C)) (X:Gl (jO (cv P w) P w K mg base N y8 scope f cd A outer s H E) x)
 (M:PA (jO (cv P w) P w K mg base N y8 scope f cd A outer s H E) (e::es) t)
 (F:starEach (e::es) (envOfC y8 scope s.heap.objs.size f cd)=(y9,eval e (envOfC y8 scope s.heap.objs.size f cd))::starEach es (envOfC y8 scope s.heap.objs.size f cd):=by rfl)
 (k:(backTo k7 (starEach es (envOfC y8 scope s.heap.objs.size f cd))).any (·.1)=false:=by rfl) (V:(x==("__debug__" :Str))=false:=by decide):
 PS (jO (cv P w) P w K mg base N y8 scope f cd A outer s H E) (.Raise (y0 (.Call (.Name x np) (e::es) [] k7)) u0 pos) (tN C E t):=by
 intro c m U H1 D I h
 obtain⟨bm,R,u,Y,bs,j,p,sub,o,d,dd,v,G,y,B,r,n,W,Z,l,T⟩:=Lv I.mod.kO S
 refine wpAny_Raise_call_subT (nm:=u) (q:=Y) (N:=R) (bs:=bs) (hdct:=j) (sn:=p) (sub:=sub) (ab:=o) (col:=d) (dd:=dd) (k0:=v) (k1:=G) (k2:=y) (k3:=B) (k5:=r)
  PySem.F.excBase_ValueError (mN:=n) (T.hasType PySem.F.excBase_ValueError.hasBase) (I.ok.hd rfl) ?_ l (jx I X J ⟨rfl,?_⟩ V)
 ·show(backTo k7 (starEach (e::es) (envOfC y8 scope s.heap.objs.size f cd))).any _=y9
  rw [F]
  show(y9||(backTo k7 (starEach es (envOfC y8 scope s.heap.objs.size f cd))).any _)=y9
  rw [k]
  rfl
 ·have hA:=M k7 c m U H1 _ I h
  show wpAny _ _ (evalArgs (.ref C) k9 (backTo k7 (starEach (e::es) (envOfC y8 scope s.heap.objs.size f cd))) []) _ _ m
  have b:wpAny _ _ (spliced (backTo k7 (starEach (e::es) (envOfC y8 scope s.heap.objs.size f cd)))) _ _ m:=hA
  rw [F]at b ⊢
  exact Calls.evalArgs_plain (aL b λQ s2 ⟨vs,H2,g,O,z,L⟩=>⟨rfl,by show Q.length<=sizeLine;rw [← O.length];exact z,g.bk _ _ W,Z.keeps g.bk,T.keeps g.bk,λh' a i=>XU g i L⟩)
def gD.tR {st:Stmt}(F:gD K x y8 st f fd) (S:Qp N ps (Qb st)) (len: ∀b H Q E,sp b H Q E->b.length=ps.length)
 (c: ∀ a A outer s H b Q E,bg k (A.deeper (envOfC y8 (Qb st) s.heap.objs.size f a))->sp b H Q E →
   ∃t,cK (jO (cv P w) P w K mg base N y8 (Qb st) f a A outer s H E) (Xe st) t/\t { nx:=λ_ H'=>Q .av H',rt:=Q } (start N b) H):bp P w K mg base (cv P w) (k+1) f fd ps sp:=by
 obtain⟨o,m,kV,g,pm,l,a,n,j,rfl,i,d⟩:=F.ex
 exact Fq i d S len λA outer s H b Q E h e=>c a A outer s H b Q E h e
def IT:PassesOwn (model P w) (A.deeper (envOfC y8 scope s.heap.objs.size f cd)) (envOfC y8 scope s.heap.objs.size f cd) (jO (cv P w) P w K mg base N y8 scope f cd A outer s H E).xe:=
 PassesOwn.leaving
end
section
variable {X:Cx}{k8:List (Addr×Obj)}{U:St}{H:Hp}{s:Shared}
def Inv.gU (I:Inv X k8 U H s) (d:Aj8 X.env.locals s.heap h') (m:h'.Ns X.env.locals m')
 (l: ∀(i:Nat) (x:Str) (v:V),X.N[i]? =y0 x->U'[i]? =y0 (y0 v)->iL X.env.scope x-> ∃u,RelV v u/\vG X.env h' m' x u) (len:U'.length=X.N.length):Inv X k8 U' H { s with heap:=h',toks:=t' }:=by
 have a: ∀b o,X.s₀.heap.get? b=y0 o->b≠X.env.locals:=λb o e=>Ac3 (Ab (Ab4 e) I.ok.above)
 refine⟨I.ok,I.os,I.bare,⟨λb o e n k h=>(d.2 b (a b o e)).trans (I.base.keep b o e n k h),λb o e n k h=> ?_,I.base.free,λb o e h=> ?_,I.base.cA,I.base.cu,I.base.cH⟩,⟨m',m,l⟩,λy c e=> ?_,I.free,I.bz,λp q=> ?_,λb u e=> ?_,len⟩
 ·obtain⟨sl,j⟩:=I.base.slot b o e n k h
  exact⟨sl,(d.2 b (a b o e)).trans j⟩
 ·obtain⟨t,j⟩:=I.base.there b o e h
  exact⟨t,(d.2 b (a b o e)).trans j⟩
 ·obtain⟨v,z⟩:=I.cell y c e
  exact⟨v,z.sameBut d (I.gz y c e)⟩
 ·obtain⟨e,n,ne,r⟩:=I.pin p q
  exact⟨(d.2 p.1 ne).trans e,n,ne,r⟩
 ·refine(I.aM b u e).cn (λc v f z=>(d.2 c ?_).trans z) (λ_ z=>z) λ_ _ z=>z
  intro g
  obtain f | f:=f
  ·rw [← f,g,I.free]at e;cases e
  ·rw [g,I.free]at f;cases f
def Inv.iQ (I:Inv X k8 U H s) (t:H D=u0) (h1:D≠X.env.locals) (j: ∀x c,X.env.cells.lookup x=y0 c->c≠D) (m: ∀p∈X.pn++k8,p.1≠D) (d: ∀b u,X.s₀.heap.get? b=y0 u->b≠D)
 (new:aO X.prog X.w (aI H D o) s.heap D o):Inv X k8 U (aI H D o) s:=by
 have a: ∀b u,H b=y0 u->aI H D o b=y0 u:=λb u q=>by rw [ja (Wa q t)];exact q
 refine⟨I.ok,I.os,I.bare,⟨I.base.keep,I.base.slot,λb u e n r=> ?_,I.base.there,λb g q=>a b _ (I.base.cA b g q),λb u v q=>a b _ (I.base.cu b u v q),λb k q=> ?_⟩,I.loc,I.cell,?_,λx c q=> ?_,λp h=> ?_,λb u q=> ?_,I.len⟩
 ·rw [ja (d b u e)];exact I.base.free b u e n r
 ·obtain⟨more,l⟩:=I.base.cH b k q
  exact⟨more,a b _ l⟩
 ·rw [ja (Ne.symm h1)];exact I.free
 ·rw [ja (j x c q)];exact I.bz x c q
 ·obtain⟨i,a2,a3⟩:=I.pin p h
  exact⟨i,by rw [ja (m p h)];exact a2,a3⟩
 ·by_cases f:b=D
  ·subst f
   rw [wb]at q
   cases q
   exact new
  ·rw [ja f]at q
   exact(I.aM b u q).cn (λ_ _ _ z=>z) (λc z=>a c _ z) λc g z=>a c _ z
def EE (I:Inv X k8 U H s) (C:X.N.Nodup) (t:X.N[i]? =y0 n) (q:X.env.scope.names.lookup n=y0 .local)
 (h: ∀s',Inv X k8 (U.set i u0) H s'->Q () s'):wpAny M A (do bindName X.env n .none;unbindBehindTheSuite X.env n hp) Q E s:=by
 have f:(X.env.scope.kind== .class||(X.env.scope.kind== .module&&X.env.locals != X.env.globals))=false:=by rw [I.ok.kind];rfl
 have D:X.env.kindOf n=y0 .local:=q
 have o:i<U.length:=by rw [I.len];exact(Ac0.mp t).1
 refine wpAny_bind (wpAny_bindName (zo I C t (.inl q) (v:= .av) rfl (λK w=> ?_) (.inr q)))
 obtain⟨m,hn,a⟩:=w.loc
 have d:(m n).isSome=true:=by
  obtain⟨u,_,l⟩:=a i n .av t (Ad5 o) (.inl q)
  obtain⟨_,e⟩ | ⟨z,_⟩:=l
  ·rw [e];rfl
  ·rcases z with z | z<;>(rw [D]at z;cases z)
 refine wpAny_onRaise ?_
 refine wpAny_bind (wpAny_point (wpAny_bind ?_))
 unfold deleteName
 simp only [D,f]
 refine wpAny_bind (wpAny_nsDel_keeps hn λJ v x g=> ?_)
 rw [d]
 refine wpAny_pure (wpAny_point (h _ ?_))
 refine w.gU g x (λj y G B p F=> ?_) (by rw [Ae6];exact I.len)
 have b:j≠i:=λz=>by
  subst z
  rw [Ad5 o]at p
  cases p
 rw [Ad3 (Ne.symm b)]at p
 obtain⟨u,r,l⟩:=a j y G B (by rw [Ad3 (Ne.symm b)];exact p) F
 refine⟨u,r,?_⟩
 obtain⟨k,e⟩ | ⟨k,c,e,z⟩:=l
 ·refine .inl ⟨k,?_⟩
  have:y≠n:=λe=>b (QL C B (e▸t))
  simp [this,e]
 ·exact .inr ⟨k,c,e,z.sameBut g (w.gz y c e)⟩
end
def wY {K:Frag}(X:K.In s.heap) (I:ExcAt s.heap x C) (z:kitCls K (.ref C) (.ref W)=some true) (f:mroIn K W (.type "BaseException")=some true) (c:Q true s):
 wpAny (model prog w) A (excMatches (.ref x) (.ref W)) Q E s:=by
 obtain⟨a,m,dd,k,j⟩:=s
 obtain⟨d,b,l⟩:=kit_cls X z
 have e:=looks_mroIn (M:=model prog w) X f
 have i:=I.type (M:=model prog w)
 have h:Looks (model prog w) a (isInstance _ _) false:=d.andThen (Looks.of_pure tc_notTuple)
 have g:Looks _ a (isExcClass _) true:=b.andThen e
 repeat lk
 exact c
def wV {k s':Shared}(i:Inv X k8 U H1 k) (A:s'.os=k.os) (f:AllBare s'.gens) (un:Un (bG X.stack) [] H1 H' k.heap s'.heap) (q:cN X.prog X.w H' s'.heap)
 (comp: ∀b o,s'.heap.get? b=y0 o->((∃ u,H' b=y0 u)\/ ∃u,k.heap.get? b=y0 u)->b∉bG X.stack->B.get? b=y0 o) (g:Al5 B X.stack x (.ref C) (.ref t) h6) (y:s'.heap.UpToSlots h6):Inv X k8 U H' { s' with heap:=h6 }:=by
 have d9: ∀c u,H' c=y0 u->c∉bG X.stack:=λc u z d=>by
  obtain⟨_,o,e,_⟩:=i.stack.mem d
  have:=un.free c o e (i.cw c d) (by simp)
  rw [this]at z
  cases z
 refine i.ik (s':= { s' with heap:=h6 }) (ch:= []) A ⟨λb o e n a h=> ?_,λb o e n a h=> ?_,un.free,λb o e h=> ?_,un.cA,un.cu,un.cH⟩ (λb u e=> ?_) f λb a=>absurd a (by simp)
 ·exact g.1 b o (comp b o (un.keep b o e n a h) (.inr ⟨o,e⟩) a)
 ·obtain⟨sl,p⟩:=un.slot b o e n a h
  obtain⟨_,l,j,w⟩:=i.stack.mem a
  rw [e]at j
  cases j
  obtain⟨m,r⟩:=y b _ p w
  exact⟨m,r⟩
 ·obtain⟨l,p⟩:=un.there b o e h
  by_cases a:b∈bG X.stack
  ·obtain⟨_,s,j,_⟩:=g.2.2.1.mem a
   exact⟨s,j⟩
  ·exact⟨l,g.1 b l (comp b l p (.inr ⟨o,e⟩) a)⟩
 ·refine(q b u e).cn (λc v d z=> ?_) (λ_ z=>z) λ_ _ z=>z
  obtain rfl | d:=d
  ·exact g.1 c v (comp c v z (.inl ⟨u,e⟩) (d9 c u e))
  ·exact g.1 c v (comp c v z (.inl ⟨_,d⟩) (d9 c _ d))
def XW {R:Heap->Prop}(k:KD t) (h: ∀b:Unit->Shared->Prop,(∀ h',R h'->b () { s with heap:=h' })->wpAny M A t b E s) (g: ∀h',R h'->DK s.heap h'->Q () { s with heap:=h' }):wpAny M A t Q E s:=
 wpAny_mono (WN k (h (λ_ a=> ∃h',a= { s with heap:=h' }/\R h') λh' r=>⟨h',rfl,r⟩)) (λ_ a ⟨⟨h',e,r⟩,c⟩=>by subst e;exact g h' r c) (λ_ _ z=>z.1)
def HM 
 (i:X.stack=X.env::X.outer) (hf:X.env.frame=some X.env.locals) (hex:X.ex= []) (hW:Gl X wx) (hmW:X.mg wx=some (.ref W)) (O:mroIn X.K W (.type "BaseException")=some true) (hN:X.N.Nodup) (h:X.N[N]? =some n) (f:X.env.scope.names.lookup n=some .local)
 (hiv:X.N[iv]? =some v) (F:X.env.scope.names.lookup v=some .local) (hs2:swapsWith (.Name n np) (some (.Name v vp)) ap.line X.env=pure false) (Y:(wx==("__debug__" :Str))=false) (hdn:(n==("__debug__" :Str))=false)
 (g:Inv X k8 U H1 s1) (hq:cv X.prog X.w X.stack H1 s1 (λT od H2=> ∃C,T= .ref C/\gd X.K C/\kitCls X.K (.ref C) (.ref W)=y0 k9 ∧
   ∀x,H2 x=u0->D.nx (((U.set N (y0 (.ref x))).set iv (y0 (.ref x))).set N u0) (aI H2 x (fA x C od))) ev s'):
 wpAny (model X.prog X.w) X.A (noteFrame ev X.env) (λ_ s2=>wpAny (model X.prog X.w) X.A (setFlight ev u0) (λ_ s3=>wpAny (model X.prog X.w) X.A (handleBy ev X.env [.ExceptHandler (y0 (.Name wx wp)) (y0 n) [.Assign [.Name v vp] (.Name n np) ap] hp]) (SP X k8 D) X.xe s3) X.xe s2) X.xe s':=by
 obtain⟨x,t,M,B,Q,od,rfl,os,j,fl,un,r,comp,new,g6,C,hC,Z,kc,q2⟩:=hq
 cases hC
 have V:X.A.frames=y0 (X.env::X.outer):=by rw [← i];exact g.ok.frames
 have fl0:Al5 B (X.env::X.outer) x (.ref t) (.ref M) s'.heap:=by rw [← i];exact fl
 refine XW (R:=λw=>Heap.HeldW B (X.env::X.outer) x (.ref t) (.ref M) X.env.locals w/\s'.heap.UpToSlots w) (sx _ _) (λQ' k=>wpAny_looks_onW V hf fl0 λw a b=>k w ⟨a,b⟩) ?_
 rintro w ⟨J,K⟩ dk4
 refine XW (R:=λq=>Al5 B (X.env::X.outer) x (.ref t) (.ref M) q/\w.UpToSlots q) (qD _ _) (λQ' k=>wpAny_landsW J λq a b=>k q ⟨a,b⟩) ?_
 rintro q ⟨l,A⟩ dk5
 have G:=wV g os j un r comp (by rw [i];exact l) (K.trans A)
 have P:ExcAt q x t:=l.there
 refine wpAny_handleBy_cons (codeAny_handlers_test (Calls.Name_function_global G.ok.kind hW (Calls.loadGlobal_global (by rw [G.ok.glob];exact G.mod.glob.keeps G.bk) hmW ?_) Y)) (λz=>nomatch z)
 refine wY G.bM P kc O ?_
 refine codeAny_handlers_suite_as ?_
 refine XW (R:=λs=>Al5 B (X.env::X.outer) x (.ref t) (.ref M) s/\q.UpToSlots s) (qD _ _) (λQ' k=>lands_againW l λs a b=>k s ⟨a,b⟩) ?_
 rintro s ⟨E,sm6⟩ dk6
 have I6:=wV g os j un r comp (by rw [i];exact E) ((K.trans A).trans sm6)
 have H:Q x=none:=by
  cases z:Q x with
  | none=>rfl
  | some u=>
   obtain⟨o,e1⟩:=(r x u z).there
   have nf:x∉bG X.stack:=λhx=>by
    obtain⟨_,o2,e2,_⟩:=g.stack.mem hx
    rw [new]at e2
    cases e2
   have e3:=comp x o e1 (.inl ⟨u,z⟩) nf
   rw [fl.2.1]at e3
   cases e3
 have d: ∀b o,s1.heap.get? b=y0 o->b≠x:=λb o z e=>by rw [e,new]at z;cases z
 obtain⟨o6,vs6,e6,c6,d6,_⟩:=E.first
 have I7:Inv X k8 U (aI Q x (fA x t od)) { s' with heap:=s }:=by
  refine I6.iQ H (λz=> ?_) (λy c z=> ?_) (λp hp=> ?_) (λb u z=> ?_) (BB e6 c6 (by unfold notCls;rw [d6]) λdx z=> ?_)
  ·obtain⟨m,⟨o,_,_,L,_⟩,_⟩:=g.loc
   exact d _ o L z.symm
  ·obtain⟨_,o,L,_⟩:=g.cell y c z
   exact d c o L
  ·exact d p.1 _ (g.pin p hp).1
  ·obtain⟨o,L⟩:=g.base.there b u z (by rw [hex];simp)
   exact d b o L
  ·obtain⟨o,e0,d0⟩:=g6 dx z
   obtain⟨o',e1,d1⟩:=((dk4.trans dk5).trans dk6) x o e0
   have:=e6.symm.trans e1
   cases this
   exact d1.trans d0
 refine zo I7 hN h (.inl f) (v:= .ref x) rfl (λs8 I8=> ?_) (.inr f)
 have hiU:N<U.length:=by rw [g.len];exact(Ac0.mp h).1
 obtain⟨m8,hn8,S⟩:=I8.loc
 obtain⟨u8,r8,l8⟩:=S N n (.ref x) h (Ad5 hiU) (.inl f)
 cases r8
 have I:X.env.kindOf n=y0 .local:=f
 have em:m8 n=y0 (.ref x):=by
  rcases l8 with⟨_,z⟩ | ⟨z,_⟩
  ·exact z
  ·rcases z with z | z<;>(rw [I]at z;cases z)
 refine wpAny_execs_cons (wpAny_Assign_Name (wpAny_Name (wpAny_loadName_local I8.ok.kind I hn8 em ?_) hdn) hs2)
 refine zo I8 hN hiv (.inl F) (v:= .ref x) rfl (λs9 I9=> ?_) (.inr F)
 refine wpAny_execs_nil ?_
 exact EE I9 hN h f λs10 I10=>⟨_,_,I10,q2 x H⟩
def bU (X:Cx) (g n v:Str) (k h d i j:Pos) (st:Stmt) (t:TS):Prop:=
 ∀(k8:List (Addr×Obj)) (s:Shared) (U:St) (H:Hp) (D:iz) (c:Flow->Shared->Prop),Inv X k8 U H s->t D U H->(∀ s b H',Inv X k8 b H' s->D.nx b H'->c .next s) →
  wpAny (model X.prog X.w) X.A (execs [st] X.env) c (λa s'=>wpAny (model X.prog X.w) X.A (noteFrame a X.env) (λ_ f=>wpAny (model X.prog X.w) X.A (setFlight a u0) (λ_ e=>wpAny (model X.prog X.w) X.A (handleBy a X.env [.ExceptHandler (y0 (.Name g k)) (y0 n) [.Assign [.Name v h] (.Name n d) i] j]) (SP X k8 D) X.xe e) X.xe f) X.xe s') s
def Ea (K:Aa5) (b c:TE):TE:=λU H Q=>b U H λx H1=>c U H1 λy H2=>y= .int (-1)/\ ∃a xs,x= .ref a/\a8 K H2 a xs/\ ∀p,H2 p=u0->Q (.ref p) (aI H2 p (.lst xs.reverse))
theorem X0: ∀ {xs}{a},Vals xs a->Vals xs.reverse a.reverse
 | _,_,.nil=> .nil
 | _::_,_::_,.cons r t=>by
  rw [Al9,Al9]
  exact(X0 t).append (.cons r .nil)
def Hb {e st:Expr}(C:PE X e te) (E:PE X st tk) (B: ∀l a,subscripted (.Slice u0 u0 (y0 st) p2) y9 l a=operate [l,a] (getItem l a):=by intro l a;with_unfolding_all rfl):PE X (.Subscript e (.Slice u0 u0 (y0 st) p2) pos) (Ea X.K te tk):=by
 intro c s U H Q I h
 refine Subscript_ (aL (C c s U H _ I h) ?_)
 rintro v F ⟨x,D,k,p,G⟩
 refine wpAny_Slice ?_
 refine wpAny_pure (wpAny_pure ?_)
 refine aL (E c F U D _ k G) ?_
 rintro K g ⟨y,u,n,w,m⟩
 obtain⟨rfl,a,J,rfl,A,q⟩:=m
 obtain⟨d,rfl⟩:=w
 cases p
 have f:Inv X c U u { g with heap:=g.heap.push { cls:= .type "slice",data:= .fields #[.none,.none,.int (-1) d] } }:=n.kept fun b o q=>Heap.get?_push_of_some _ q
 obtain⟨z,r,j,t⟩:=f.list A
 have i:=r.length
 refine tail_any j.isList.typeIs slot_list_getitem.lookup ?_ (B _ _)
 refine wpAny_getItem_list_slice j.isList (Heap.IsSliceOf.new ..) .none .none (.int (-1) d) (by decide) ?_ (by simp_all)
 rw [krv_pick]
 refine⟨.ref _,_,f.laid (λb o q=>Aa2 _ q) (Aa6 _) ?_,rfl,q _ (f.aM.fresh (Aa6 _))⟩
 exact⟨by rw [List.length_reverse];exact t,_,0,X0 r,Ab6 _ rfl⟩
def bp.calm {K:Frag}(F:bp P w K mg base (cv P w) k f fd ps sp)
 (h: ∀b H Q E,sp0 b H Q E->sp b H Q (λ_ _ _=>False)):bp P w K mg base lY k f fd ps sp0:=by
 refine⟨λb H Q E q=>F.len b H Q _ (h _ _ _ _ q),λA a s H d e b Q E i o g m n=>codeAny_mono (F.run A a s H d e b Q _ i o g m (h _ _ _ _ n)) λres v c=> ?_⟩
 cases res with
 | ok l=>
  cases l with
  | ret u=>exact c
  | next=>exact c
  | brk=>exact c
  | cont=>exact c
 | error r=>
  obtain⟨x,C,t,B,p,_,_,_,_,_,_,_,_,_,_,j⟩:=c
  exact j
def HU:bootBuiltins "ValueError" =some (.type "ValueError"):=by decide +kernel
noncomputable def iG (x:Str):It:=⟨λi _=> ∃c,x.cps[i]? =y0 c,λi H y H'=>H'=H/\ ∃c,x.cps[i]? =y0 c/\y= .str ⟨#[c]⟩,λi _=>x.cps[i]? =u0⟩
def Eo {K:PySem.W.Frag}(it) (x) (t):gY P w K tg (iG x) [it] it (λi h=>h.IsStrIter it "str_ascii_iterator" x t i) where
 mem:=by simp
 obj:=λi h a b g=>by
  have e:=by simpa using g
  subst e
  obtain⟨o,e,c,d⟩:=a
  exact⟨o,e,λv z=>by rw [d]at z;cases z⟩
 keep:=λi h m a k=>by
  obtain⟨o,e,c,d⟩:=a
  exact⟨o,k it (by simp) o e,c,d⟩
 item:=by
  intro X hP L G B i f s U H E I l a p
  obtain⟨c,A⟩:=p
  obtain⟨q,u,C,n,y,r⟩:=l it (by simp)
  refine wpAny_pyNext_ascii_item a A λm j F=> ?_
  have D:Inv X f U H { s with heap:=m,toks:=s.toks+1 }:=I.turned (λb o g e=>(F.2 b g).trans e) q u n y r
  obtain⟨o,e,M,d⟩:=id j
  exact⟨_,rfl,Z9 e M d (by decide) ⟨.str ⟨#[c]⟩,H,D,⟨_,rfl⟩,⟨rfl,c,A,rfl⟩,j,λb g=>(l b g).1⟩⟩
 done:=by
  intro X hP L G B i f s U H E I l a p
  obtain⟨q,u,C,n,y,r⟩:=l it (by simp)
  exact wpAny_pyNext_ascii_end (I.ok.hd B) a p λm J=>⟨rfl,I.turned (λb o g e=>J b o g e) q u n y r⟩
 self:=λ_ _ _ _ _ a h=>wpAny_pyIter_striter_ascii a h
def IF {K:PySem.W.Frag}(it) (x) (t):gY P w K tg (iG x) [it] it (λi h=>h.IsStrIter it "str_iterator" x t i) where
 mem:=by simp
 obj:=λi h a b g=>by
  have e:=by simpa using g
  subst e
  obtain⟨o,e,c,d⟩:=a
  exact⟨o,e,λv z=>by rw [d]at z;cases z⟩
 keep:=λi h m a k=>by
  obtain⟨o,e,c,d⟩:=a
  exact⟨o,k it (by simp) o e,c,d⟩
 item:=by
  intro X hP L G B i f s U H E I l a p
  obtain⟨c,A⟩:=p
  obtain⟨q,u,C,n,y,r⟩:=l it (by simp)
  refine wpAny_pyNext_wide_item a A λm j F=> ?_
  have D:Inv X f U H { s with heap:=m,toks:=s.toks+1 }:=I.turned (λb o g e=>(F.2 b g).trans e) q u n y r
  obtain⟨o,e,M,d⟩:=id j
  exact⟨_,rfl,Z9 e M d (by decide) ⟨.str ⟨#[c]⟩,H,D,⟨_,rfl⟩,⟨rfl,c,A,rfl⟩,j,λb g=>(l b g).1⟩⟩
 done:=by
  intro X hP L G B i f s U H E I l a p
  obtain⟨q,u,C,n,y,r⟩:=l it (by simp)
  exact wpAny_pyNext_wide_end (I.ok.hd B) a p λm J=>⟨rfl,I.turned (λb o g e=>J b o g e) q u n y r⟩
 self:=λ_ _ _ _ _ a h=>wpAny_pyIter_striter_wide a h
def Ee (K:Aa5) (b:TE):TI:=λU H R=>b U H λx H1=>(∃ a,x= .ref a/\(∃ xs,a8 K H1 a xs)/\R (kB K a) H1)\/(∃ a,x= .ref a/\(∃ xs,bI K H1 a xs)/\R (kG K a) H1)\/ ∃z,x= .str z/\R (iG z) H1
def oa (u:PE X l tl):PI X tg l (Ee X.K tl):=by
 intro g s U H R I h
 refine aL (u g s U H _ I h) ?_
 rintro v d ⟨x,i,c,j,y⟩
 rcases y with⟨a,e,⟨w,k⟩,q⟩ | ⟨a,e,⟨w,k⟩,q⟩ | ⟨z,e,q⟩
 ·subst e
  cases j
  obtain⟨m,rv,p,r⟩:=c.list k
  refine wpAny_pyIter_list p.isList ?_
  refine⟨d.heap.objs.size,[d.heap.objs.size],_,_,i,rfl,c.kept λb o e=>Aa2 _ e,IU a _,⟨_,Ab6 _ rfl,rfl,rfl⟩,λb f=> ?_,q⟩
  have e:=by simpa using f
  subst e
  exact c.cW (Aa6 _) (c.aM.fresh (Aa6 _))
 ·subst e
  cases j
  obtain⟨m,rv,p,r⟩:=c.tuple k
  refine wpAny_pyIter_tuple (p) ?_
  refine⟨d.heap.objs.size,[d.heap.objs.size],_,_,i,rfl,c.kept λb o e=>Aa2 _ e,CS a _,⟨_,Ab6 _ rfl,rfl,rfl⟩,λb f=> ?_,q⟩
  have e:=by simpa using f
  subst e
  exact c.cW (Aa6 _) (c.aM.fresh (Aa6 _))
 ·subst e
  obtain⟨t,rfl⟩:=j
  cases n:z.cps.all (· <128)with
  | true=>
   refine wpAny_pyIter_ascii n ?_
   refine⟨d.heap.objs.size,[d.heap.objs.size],_,_,i,rfl,c.kept λb o e=>Aa2 _ e,Eo _ z t,⟨_,Ab6 _ rfl,rfl,rfl⟩,λb f=> ?_,q⟩
   have e:=by simpa using f
   subst e
   exact c.cW (Aa6 _) (c.aM.fresh (Aa6 _))
  | false=>
   refine wpAny_pyIter_wide n ?_
   refine⟨d.heap.objs.size,[d.heap.objs.size],_,_,i,rfl,c.kept λb o e=>Aa2 _ e,IF _ z t,⟨_,Ab6 _ rfl,rfl,rfl⟩,λb f=> ?_,q⟩
   have e:=by simpa using f
   subst e
   exact c.cW (Aa6 _) (c.aM.fresh (Aa6 _))
section
variable {X:Cx}
def Vals.iT (r:Vals xs us){i:Nat}(h:us[i]? =y0 u): ∃x,xs[i]? =y0 x/\RelV x u:=by
 have e:=r.length
 have f:=(Ac0.mp h).1
 have a:i<xs.length:=by lia
 obtain⟨d,b,c⟩:=r.get (Aa4 a)
 rw [h]at b
 cases b
 exact⟨_,Aa4 a,c⟩
def Iz (bs:List Bool):(Aa0 bs.length).all (λi=>bs.getD i y9)=bs.all id:=by
 induction bs with
 | nil=>rfl
 | cons b bs a=>
  rw [Ab7,Af7,Ai4,Am5,Ai4,←a]
  rfl
def yg {bs:List Bool}(r:Vals (bs.map V.bl) its):TruthOf P w A (λi v=>its.toArray[i]? =y0 v) (λi=>bs.getD i y9):=by
 intro i v s Q E hP f
 obtain⟨x,a,d⟩:=r.iT (by simpa using hP)
 rw [Ac5]at a
 cases c:bs[i]? with
 | none=>rw [c]at a;cases a
 | some b=>
  rw [c]at a
  cases a
  cases d
  refine wpAny_truthy_bool ?_
  have e:bs.getD i y9=b:=by rw [Ab5,c];rfl
  rw [← e]
  exact f
def BQ (n:X.calm=k9):qm X (.builtin "all") (fun xs H Q=> ∃p,∃bs:List Bool,xs= [.ref p]/\a8 X.K H p (bs.map V.bl)/\Q (.bl (bs.all id)) H):=by
 intro c s U H xs w Q I r h
 obtain⟨p,bs,rfl,l,q⟩:=h
 obtain⟨u,rfl,j⟩:=jF r
 cases j
 obtain⟨f,rv,pl,x⟩:=I.list l
 have a:=rv.length
 rw [Aa]at a
 refine call_all_walk (wpAny_pyIter_list pl.isList ?_)
 have d:p≠s.heap.objs.size:=by
  obtain⟨o,v,_⟩:=pl.isList
  exact Ac3 (Ab4 v)
 refine⟨s.heap.objs.size,_,_,_,_,_,λi=>bs.getD i y9,rfl,Walks.list (A:=X.A.in1) (I.ok.hd n) _ p d f.toArray,⟨⟨_,Ab6 _ rfl,rfl,rfl⟩,pl.isList.at λo e=>Aa2 _ e⟩,yg rv,λk m t=> ?_⟩
 have g:Inv X c U H { s with heap:=k,toks:=m }:=I.kept λb o e=>t b o (by simp;exact Ac3 (Ab4 e)) (Aa2 _ e)
 refine⟨.bl _,H,g,?_,q⟩
 show _=_
 rw [Ab8,←a,Iz]
def gg:List Int->Int
 | []=>0
 | i::r=>i+gg r
theorem wR: ∀(xs) (x),gg (xs++ [x])=gg xs+x
 | [],x=>by simp [gg]
 | y::a,x=>by
  show y+gg (a++ [x])=y+gg a+x
  rw [wR a x];omega
theorem zC (a:List Int): ∀j,j<=a.length->preSum (λi=>a.getD i 0) j=gg (a.take j)
 | 0,_=>rfl
 | j+1,h=>by
  rw [preSum,zC a j (by omega),List.take_succ,Aa4 (by omega)]
  show _=gg (a.take j++ [a[j]])
  rw [wR,Ab5,Aa4 (by omega)]
  rfl
end
section
variable {X:Cx}
theorem WJ: ∀ {ss}{a},Vals (ss.map V.str) a->StrsAre a ss
 | [],a,r=>by cases r;exact .nil
 | z::ss,a,r=>by
  cases r with
  | cons h t=>
   obtain⟨k,rfl⟩:=h
   exact .cons _ _ (WJ t)
end
section
variable {X:Cx}
def LD:bL X (binaryOp .Add) (λx y H Q=> ∃a b ys,x= .ref a/\y= .ref b/\bI X.K H a []/\bI X.K H b ys/\Q (.ref b) H):=by
 intro k s U H x y v u Q I p D h
 obtain⟨a,b,ys,rfl,rfl,r,t,q⟩:=h
 cases p
 cases D
 obtain⟨C,w,F,_⟩:=I.tuple r
 obtain⟨d,J,A,_⟩:=I.tuple t
 cases w
 obtain⟨⟨B,dd,m,sl⟩,o,E,n,z⟩:=id F
 obtain⟨⟨l,j,i,e⟩,c,f,G,g⟩:=id A
 subst E z f g
 exact concat_meets ⟨_,o,rfl⟩ ⟨_,c,rfl⟩ noFill_tuple_add seq_tuple_add PySem.F.slot_tuple_add PySem.F.entry_tuple_add (PySem.F.args_tuple_add_2 _ _)
  (tuple_addW0 a b _ d.toArray n G dd j sl e rfl) ⟨o,c,.ref b,H,I,rfl,q⟩
def Iv (E:X.calm=k9):qm X (.builtin "sum") (fun xs H Q=> ∃p,∃c:List Int,xs= [.ref p]/\a8 X.K H p (c.map V.int)/\Q (.int (gg c)) H):=by
 intro g s U H xs J Q I r h
 obtain⟨p,c,rfl,z,q⟩:=h
 obtain⟨u,rfl,w⟩:=jF r
 cases w
 obtain⟨l,rv,pl,K⟩:=I.list z
 have a:=rv.length
 rw [Aa]at a
 refine call_sum_walkG (wpAny_pyIter_list pl.isList ?_)
 have f:p<s.heap.objs.size:=by
  obtain⟨o,G,_⟩:=pl.isList
  exact Ab4 G
 have k:s.heap.objs.size<(s.heap.push { cls:= .type "list_iterator",data:= .fields #[.ref p,.int 0 0] }).objs.size:=Heap.lt_size (Heap.get?_push_size _ rfl)
 refine⟨s.heap.objs.size,_,_,_,_,_,λi=>c.getD i 0,rfl,Walks.list (A:=X.A.in1) (I.ok.hd E) _ p (Ac3 f) l.toArray,⟨⟨_,Ab6 _ rfl,rfl,rfl⟩,pl.isList.at λo e=>Aa2 _ e⟩,λb d=> ?_,λi v D=> ?_,λy C n F=> ?_⟩
 ·simp [or_false]at d
  obtain rfl | rfl:=d
  ·exact k
  ·exact Nat.lt_trans f k
 ·obtain⟨x,j,B⟩:=rv.iT (by simpa using D)
  rw [Ac5]at j
  cases d:c[i]? with
  | none=>rw [d]at j;cases j
  | some b=>
   rw [d]at j
   cases j
   obtain⟨t,rfl⟩:=B
   exact⟨t,by show Value.int b t=Value.int (c.getD i 0) t;rw [Ab5,d];rfl⟩
 ·have m:Inv X g U H { s with heap:=y,toks:=C }:=I.kept λb o e=>F b o (by simp;exact Ac3 (Ab4 e)) (Aa2 _ e)
  refine⟨.int _,H,m,⟨n,?_⟩,q⟩
  rw [Ab8,←a,zC c _ (Aa6 _),Ao4]
theorem Qr: ∀ {b}{a},Vals (b.map V.int) a-> ∃ps:List (Int×Tok),a=ps.map (λp=> .int p.1 p.2)/\ps.map (·.1)=b
 | [],a,r=>by cases r;exact⟨[],rfl,rfl⟩
 | n::b,a,r=>by
  cases r with
  | cons h t=>
   obtain⟨k,rfl⟩:=h
   obtain⟨ps,c,d⟩:=Qr t
   exact⟨(n,k)::ps,by rw [c];rfl,by rw [← d];rfl⟩
def Ww (f:Int->Int->Bool):List Int->Int->Int
 | [],a=>a
 | b::r,a=>Ww f r (if f b a then b else a)
theorem JQ (f): ∀ l b a,Ww f (l++ [b]) a=if f b (Ww f l a)then b else Ww f l a
 | [],b,a=>rfl
 | c::l,b,a=>by
  show Ww f (l++ [b]) _=_
  rw [JQ f l b]
  rfl
theorem Q4 (f) (val:Nat->Int): ∀n,val (argBest (λi j=>f (val i) (val j)) n)=Ww f ((Aa0 n).map λi=>val (i+1)) (val 0)
 | 0=>rfl
 | n+1=>by
  have a:=Q4 f val n
  rw [List.range_succ,Ac8,Aa9,Ad6,JQ,←a,argBest]
  by_cases q:f (val (n+1)) (val (argBest (λi j=>f (val i) (val j)) n))=k9
  ·simp only [q,if_true]
  ·simp only [q,if_false,Ag8]
def vY {c:List (Int×Tok)}(e:c.map (·.1)=n::ns) (f)
 (h:(intItems c.toArray)[argBest (λi j=>f (numAt c.toArray i) (numAt c.toArray j)) (c.toArray.size-1)]? =y0 v): ∃t,v= .int (Ww f ns n) t:=by
 obtain⟨t,rfl⟩:=intItems_at h
 refine⟨t,?_⟩
 rw [Q4 f (numAt c.toArray)]
 have g:=by
  have:=congrArg List.length e
  simpa using this
 have d: ∀i,numAt c.toArray i=(n::ns).getD i 0:=λi=>by
  rw [← e,Ab5,Ac5]
  unfold numAt
  rw [List.getElem?_toArray]
  all_goals (cases c[i]? )
 have k:(Aa0 (c.toArray.size-1)).map (λi=>numAt c.toArray (i+1))=ns:=by
  rw [Ab8,g,Nat.add_sub_cancel]
  apply Am3
  ·simp
  ·intro i a b
   simp only [Ai9,Aj1,d]
   rw [Ab5,List.getElem?_cons_succ,Aa4 b]
   rfl
 rw [k,d 0]
 rfl
def yW (w:X.calm=k9):qm X (.builtin "max") (fun xs H Q=> ∃p n,∃c:List Int,xs= [.ref p]/\a8 X.K H p ((n::c).map V.int)/\Q (.int (Ww (fun a b=>decide (a>b)) c n)) H):=by
 intro f s U H xs y Q I r h
 obtain⟨p,n,c,rfl,j,q⟩:=h
 obtain⟨u,rfl,g⟩:=jF r
 cases g
 obtain⟨l,rv,pl,A⟩:=I.list j
 obtain⟨d,rfl,i⟩:=Qr rv
 have k:s.heap.IsList p (intItems d.toArray):=by
  have e:intItems d.toArray=(d.map λp=>Value.int p.1 p.2).toArray:=by simp [intItems]
  rw [e]
  exact pl.isList
 refine max_intList (I.ok.hd w) k (by grind) λv z B m x=> ?_
 obtain⟨t,rfl⟩:=vY i (λa b=>decide _) m
 exact⟨.int _,H,I.kept λb o e=>x b o e,⟨t,rfl⟩,q⟩
def A0 (w:X.calm=k9):qm X (.builtin "min") (fun xs H Q=> ∃p n,∃c:List Int,xs= [.ref p]/\a8 X.K H p ((n::c).map V.int)/\Q (.int (Ww (fun a b=>decide (a<b)) c n)) H):=by
 intro f s U H xs y Q I r h
 obtain⟨p,n,c,rfl,j,q⟩:=h
 obtain⟨u,rfl,g⟩:=jF r
 cases g
 obtain⟨l,rv,pl,A⟩:=I.list j
 obtain⟨d,rfl,i⟩:=Qr rv
 have k:s.heap.IsList p (intItems d.toArray):=by
  have e:intItems d.toArray=(d.map λp=>Value.int p.1 p.2).toArray:=by simp [intItems]
  rw [e]
  exact pl.isList
 refine min_intList (I.ok.hd w) k (by grind) λv z B m x=> ?_
 obtain⟨t,rfl⟩:=vY i (λa b=>decide _) m
 exact⟨.int _,H,I.kept λb o e=>x b o e,⟨t,rfl⟩,q⟩
end
open PySem PySem.Spec PyProof.Rows PySem.MeetsSeq
section
variable {X:Cx}
def LN {e:Nat->Bool}(m:IsTup s.heap a items)
 (t: ∀i y,items[i]? =y0 y->PySem.SeqAt.EqAt A.in1 s y x (e i)) (u:j<items.size) (g:e j=k9) (k: ∀i,i<j->e i=y9) (h: ∀t',Q (.int (j:Int) t') { s with toks:=s.toks+1 }):
 wpAny (model prog w) A (call (.builtin "tuple.index") [.ref a,x]) Q E s:=by
 refine wpAny_call_entry F.slot_tuple_index m.typeIs F.entry_tuple_index ?_ (F.args_tuple_index_2 _ _)
 refine wpAny_bind (wpAny_of_eq (show PySem.selfAndSome "tuple.index" "index" 1 3 ⟨[.ref a,x],[]⟩=pure (Value.ref a,[x])from rfl) ?_)
 refine wpAny_bind (tupleItemsOf_ m ?_)
 refine wpAny_bind (wpAny_pure (wpAny_bind (wpAny_pure (wpAny_bind ?_))))
 rw [Nat.min_self,Std.Legacy.Range.forIn_eq_forIn_range']
 refine wpAny_forIn_list _ (λrest b l=>l=s/\b=(u0,())/\ ∃i,i<=j/\rest=List.range' i (items.size-i)) _ ?_ ?_ _ _ ⟨rfl,rfl,0,Ah5 _,by simp⟩
 ·rintro i rest b l ⟨rfl,rfl,d,r,c⟩
  have f:items.size-d=(items.size-(d+1))+1:=by lia
  rw [f,List.range'_succ]at c
  injection c with o p
  subst o
  have n:i<items.size:=by lia
  rw [Array.getElem?_eq_getElem n]
  refine wpAny_bind (t i items[i] (Array.getElem?_eq_getElem n) prog w _ _ ?_)
  by_cases q:i=j
  ·subst q
   rw [g,if_pos rfl]
   refine wpAny_bind (wpAny_bind (wpAny_mkInt ?_))
   exact wpAny_pure (wpAny_pure (wpAny_pure ⟨_,rfl,h _⟩))
  ·rw [k i (by lia),if_neg Ab9]
   exact wpAny_pure ⟨rfl,rfl,i+1,by lia,p⟩
 ·rintro b l ⟨rfl,rfl,d,r,c⟩
  have f:items.size-d=(items.size-(d+1))+1:=by lia
  rw [f,List.range'_succ]at c
  cases c
abbrev rF:=V->Hp->Prop
def pd (X:Cx) (T:String) (ty:rF):Prop:= ∀(k8:List (Addr×Obj)) (s:Shared) (U:St) (H:Hp) (x:V) (v:Value),Inv X k8 U H s->RelV x v->ty x H->s.TypeIs v T/\ ∀a,v= .ref a-> ∃ob,s.heap.get? a=y0 ob/\ob.dict=u0
def Mg (ty:rF) (r:V->List V->Hp->VK->Prop) (a:TE) (t:TA):TE:=λU H Q=>a U H λx H1=>ty x H1/\t U H1 λxs H2=>r x xs H2 Q
def oX {T i:String}(J:PlainAttrs T) (d:Slot T name i) (j:typeOf (.builtin i)=pure (.type "method_descriptor")) (C:pd X T ty) (p:i5 X i r) (L:PE X o to) (z:PA X (e::es) t)
 (b:attributeBase o name X.env (eval o X.env)=eval o X.env)
 (f:((backTo k7 (starEach (e::es) X.env)).all (λx=> !x.1)&&(backToKw k7 (keywordEach [] X.env)).all (λx=>x.1.isSome)
   &&v9 ((e::es).length+([]:List Keyword).length+(if ([]:List Keyword).isEmpty then 0 else 1)<30))=k9)
 (c:(apos.endLine==k7.line)=k9) (K:starEach (e::es) X.env=(y9,eval e X.env)::starEach es X.env) (g:(backTo k7 (starEach es X.env)).any (·.1)=y9):
 PE X (.Call (.Attribute o name apos) (e::es) [] k7) (Mg ty r to t):=by
 intro a s U H Q I h
 refine wpAny_Call_method_late b f c rfl (aL (L a s U H _ I h) ?_)
 rintro v n ⟨x,m,k,l,B,M⟩
 obtain⟨F,G⟩:=C a n U m x v k l B
 refine⟨T,i,J,d,j,F,G,?_⟩
 have hA:=z k7 a n U m _ k M
 rw [K]at hA ⊢
 refine Calls.callWith_builtin (by assumption) (Calls.evalArgs_plain ?_)
 exact aL hA λA D ⟨E,u,w,y,q⟩=>p a D U u x E v A Q w l y q
def rA (K:PySem.W.Frag) (H:Hp) (a:Addr):Prop:=(∃ xs,H a=some (.tup xs))\/ ∃o,K.lookup a=some o/\o.cls= .type "tuple" /\o.dict=none
def HS:pd X "tuple" (fun x H=> ∃a,x= .ref a/\rA X.K H a):=by
 intro f s U H x v I r h
 obtain⟨a,rfl,h⟩:=h
 cases r
 obtain⟨l,h⟩ | ⟨o,g,k,i⟩:=h
 ·obtain⟨_,j,_,o,e,c,d,n,m⟩:=I.aM a _ h
  refine⟨⟨o,e,c⟩,λb z=> ?_⟩
  cases z
  exact⟨o,e,d⟩
 ·refine⟨⟨o,I.bM a o g,k⟩,λb z=> ?_⟩
  cases z
  exact⟨o,I.bM _ o g,i⟩
def tZ:pd X "list" (fun x H=> ∃a xs,x= .ref a/\a8 X.K H a xs):=by
 intro d s U H x v I r h
 obtain⟨a,xs,rfl,h⟩:=h
 cases r
 obtain⟨g,_,pl,_⟩:=I.list h
 refine⟨pl.isList.typeIs,λb e=> ?_⟩
 cases e
 obtain⟨o,n,e,c,f,_⟩:=pl
 exact⟨o,e,f⟩
def kT (x:Str):List Str->Option Nat
 | []=>u0
 | y::ys=>if y=x then y0 0 else(kT x ys).map (· +1)
theorem u3 : ∀ {ss}{j},kT x ss=y0 j->j<ss.length/\ss[j]? =y0 x/\ ∀i,i<j-> ∀y,ss[i]? =y0 y->y≠x
 | [],_,h=>by cases h
 | y::g,j,h=>by
  unfold kT at h
  split at h
  ·rename_i q
   cases h
   exact⟨Nat.zero_lt_succ _,by simp [q],λi b=>absurd b (Ai1 _)⟩
  ·rename_i q
   obtain⟨k,e,rfl⟩:=Af5.mp h
   obtain⟨f,c,d⟩:=u3 e
   refine⟨Nat.succ_lt_succ f,by simpa using c,λi b z a=> ?_⟩
   cases i with
   | zero=>simp at a;rw [← a];exact q
   | succ i=>exact d i (by omega) z (by simpa using a)
def yf (K:Aa5):V->List V->Hp->VK->Prop:=λx b H Q=> ∃a z j,∃ss:List Str,x= .ref a/\b= [.str z]/\bI K H a (ss.map V.str)/\kT z ss=y0 j/\Q (.int (j:Nat)) H
def BJ:i5 X "tuple.index" (yf X.K):=by
 intro C s U H x P v N Q I D rv h
 obtain⟨a,z,j,g,rfl,rfl,E,J,q⟩:=h
 cases D
 obtain⟨u,rfl,G⟩:=rv.one
 obtain⟨t,rfl⟩:=G
 obtain⟨m,r,p,O⟩:=I.tuple E
 obtain⟨R,K,M⟩:=u3 J
 have n:=r.length
 have look: ∀(i:Nat) y,m.toArray[i]? =y0 y-> ∃w d,g[i]? =y0 w/\y=Value.str w d:=λi y l=>by
  obtain⟨S,f,k⟩:=r.iT (by simpa using l)
  rw [Ac5]at f
  cases B:g[i]? with
  | none=>rw [B]at f;cases f
  | some b=>
   rw [B]at f
   cases f
   obtain⟨d,rfl⟩:=k
   exact⟨b,d,rfl,rfl⟩
 refine LN (e:=λi=>v9 (g[i]? =y0 z)) p (λi y l=> ?_) (by simp_all) (decide_eq_true K) (λi L=> ?_) λd=>⟨.int j,H,I.kept λb o e=>e,⟨d,rfl⟩,q⟩
 ·obtain⟨w,d,e,rfl⟩:=look i y l
  have:=PySem.SeqAt.EqAt.str_str (A:=X.A.in1) (s:=s) w d z t
  have k:v9 (g[i]? =y0 z)=(w==z):=by
   rw [e]
   by_cases q:w=z
   ·subst q;simp
   ·simp [q]
  rw [k]
  exact this
 ·have F:=by omega
  exact decide_eq_false λc=>M i L z c rfl
def DZ (K:Aa5):V->List V->Hp->VK->Prop:=λx c H Q=> ∃a n,∃b:List Int,x= .ref a/\c= [.int n]/\a8 K H a (b.map V.int)/\Q (.int ((b.count n:Nat):Int)) H
def Hg:i5 X "list.count" (DZ X.K):=by
 intro d s U H x K v D Q I j rv h
 obtain⟨a,n,E,rfl,rfl,m,q⟩:=h
 cases j
 obtain⟨u,rfl,z⟩:=rv.one
 obtain⟨t,rfl⟩:=z
 obtain⟨B,r,pl,G⟩:=I.list m
 obtain⟨J,rfl,l⟩:=Qr r
 obtain⟨⟨A,dd,f,sl⟩,g,C,k,w⟩:=id pl.isList
 subst C w
 refine call_meets F.slot_list_count ⟨_,g,rfl⟩ F.entry_list_count (F.args_list_count_2 _ _) (PySem.SeqAt.list_countAt a _ k dd sl _ (λy=>match y with | .int i _=>i==n | _=>y9)) ⟨g,λy c=> ?_,?_⟩
 ·simp only [List.mem_toArray,Ac1]at c
  obtain⟨p,_,rfl⟩:=c
  exact PySem.SeqAt.EqAt.int_int p.1 p.2 n t
 ·refine⟨.int _,H,I.kept λb o e=>e,⟨s.toks,?_⟩,q⟩
  rw [← l,List.count_eq_countP,List.countP_map]
  simp only [List.countP_map]
  rfl
end
section
variable {prog:Program}{w:World}{A:Around}{E:Value->Shared->Prop}{s:Shared}
def bJ (a:s.heap.IsTupleIter it t i) (f:s.heap.IsTuple t items) (h:items[i]? =y0 x)
 (j: ∀h',h'.IsTupleIter it t (i+1)->Aj8 it s.heap h'->Q x { s with heap:=h' }):wpAny (model prog w) A (Builtin.SmallTypes.nextOf (.ref it)) Q E s:=by
 obtain⟨o,c,g,b⟩:=id a
 obtain⟨l,d,_,k,e⟩:=f
 refine wpAny_bind (wpAny_callSpecial?_slot a.typeIs F.slot_tuple_iterator_next
  (wpAny_call_entry F.slot_tuple_iterator_next a.typeIs F.entry_tuple_iterator_next ?_ (F.args_tuple_iterator_next_1 _)))
 show wpAny _ _ (field _ 0 >>= _) _ _ s
 refine wpAny_bind (wpAny_field c b rfl ?_)
 refine wpAny_bind (wpAny_field c b rfl ?_)
 refine wpAny_bind (wpAny_seqItems d e ?_)
 simp [h]
 refine wpAny_bind (wpAny_setField c b (by simp) (wpAny_pure ⟨x,rfl,wpAny_pure (j _ ?_ (Aj8.update ..))⟩))
 exact⟨_,Ai0 _ c (Obj.isFreed_of_fields (Obj.data_mapFields b _)),(Obj.cls_mapFields ..).trans g,by
  rw [Obj.data_mapFields b];simp [rawInt]⟩
def bQ (g:A.handled=u0) (a:s.heap.IsTupleIter it t i) (h:s.heap.IsTuple t items) (j:items[i]? =u0)
 (k: ∀h' e,Heap.ExtBut it s.heap h'->(∃ o,h'.get? e=y0 o/\o.cls= .type "StopIteration")->E (.ref e) { s with heap:=h' }):wpAny (model prog w) A (Builtin.SmallTypes.nextOf (.ref it)) Q E s:=by
 obtain⟨o,d,l,c⟩:=id a
 obtain⟨n,b,_,m,f⟩:=h
 refine wpAny_bind (wpAny_callSpecial?_slot a.typeIs F.slot_tuple_iterator_next
  (wpAny_call_entry F.slot_tuple_iterator_next a.typeIs F.entry_tuple_iterator_next ?_ (F.args_tuple_iterator_next_1 _)))
 show wpAny _ _ (field _ 0 >>= _) _ _ s
 refine wpAny_bind (wpAny_field d c rfl ?_)
 refine wpAny_bind (wpAny_field d c rfl ?_)
 refine wpAny_bind (wpAny_seqItems b f ?_)
 simp only [Ag4,j]
 refine wpAny_bind (wpAny_rule (wpAny_bind (wpAny_setField d c (by simp) ?_)))
 refine wpAny_bind ?_
 refine wpAny_bind (wpAny_newObj_type ?_ (by size_fits))
 refine wpAny_bind (wpAny_of_eq (by first | rfl | (simp only [firstArgMember])) ?_)
 refine wpAny_newObj_type ?_ (by size_fits)
 refine wpAny_bind (wpAny_handled ?_)
 first | rw [show A.in1.handled=u0 from g] | rw [g]
 refine wpAny_bind (wpAny_pure (wpAny_throw ?_))
 exact k _ _ (((Aj8.update ..).extBut.push _).push _) ⟨_,Ab6 _ rfl,rfl⟩
def wP (m:A.handled=u0) (it t) (items) (c:t≠it):Draws prog w A it [it,t] items.size (λi x=>items[i]? =y0 x) (λi h=>h.IsTupleIter it t i/\h.IsTuple t items) where
 live:=λi h a=>let ⟨o,e,_⟩:=a.1; ⟨o,e⟩
 frame:=λi h f a k=>⟨let ⟨o,e,r⟩:=a.1; ⟨o,k it (by simp) o e,r⟩,let ⟨o,e,r⟩:=a.2; ⟨o,k t (by simp) o e,r⟩⟩
 item:=λi s Q E g a j=>bJ a.1 a.2 (x:=items[i]) (by simp [g]) λf b d=>j _ f s.toks (by simp [g]) ⟨b,a.2.extBut d.extBut c⟩ d
 done:=λs Q E a l=>bQ m a.1 a.2 (by simp) l
open PySem.AutoSeq1 (wpAny_loadPart') in
theorem Qs (l:Addr) (a:Array Value) (n:Nat) (e:Option Addr) (sl:Array (Option Value)):
 Meets (Builtin.«enumerate.__new__» ⟨[.type "enumerate",.ref l],[]⟩) (fun _ R s=>s.heap.get? l=some { cls:= .type "tuple",dict:=e,data:= .seq a n,slots:=sl } ∧
  R (.ok (.ret (.ref (s.heap.push { cls:= .type "tuple_iterator",data:= .fields #[.ref l,.int 0 0] }).objs.size)))
   { s with heap:=(s.heap.push { cls:= .type "tuple_iterator",data:= .fields #[.ref l,.int 0 0] }).push { cls:= .type "enumerate",data:= .fields #[.none,.bool false,.ref s.heap.objs.size,rawInt 0,.none,.none] } }):=
 .of_wp λprog w A R s h=>by
  obtain⟨m,g,d,k,o⟩:=s;obtain⟨b,h⟩:=h
  have i:=sub_enumerate
  have f:Heap.IsTuple _ l a:=⟨_,b,rfl,n,rfl⟩
  wp_walk using wpAny_loadPart' b
  refine wpAny_stack_any λj=>wpAny_pure ?_
  split
  ·rename_i c _ _ _ _ _
   cases (c==Value.type "enumerate")
   ·wp_walk using wpAny_loadPart' b,wpAny_pyIter_tuple f
    exact⟨_,rfl,h⟩
   ·wp_walk using wpAny_loadPart' b,wpAny_pyIter_tuple f
    exact⟨_,rfl,h⟩
  ·wp_walk using wpAny_loadPart' b,wpAny_pyIter_tuple f
   exact⟨_,rfl,h⟩
def Ju (g:s.heap.IsTuple l items)
 (h: ∀h',IsEnum h' (s.heap.objs.size+1) s.heap.objs.size 0 .none->h'.IsTupleIter s.heap.objs.size l 0->h'.objs.size=s.heap.objs.size+2 →
   (∀ b o,s.heap.get? b=y0 o->h'.get? b=y0 o)->Q (.ref (s.heap.objs.size+1)) { s with heap:=h' }):
 wpAny (model prog w) A (call (.type "enumerate") [.ref l]) Q E s:=by
 obtain⟨⟨c,a,k,sl⟩,i,f,n,j⟩:=g
 subst f j
 refine callType_new F.called_enumerate rfl (F.typeCall_enumerate_1 _) (F.newCall_enumerate_1 _) (λobj=>F.args_object_init_2 obj _) F.entry_enumerate_new
  (Qs l items n a sl) ⟨i,?_⟩
 have d:(s.heap.push { cls:= .type "tuple_iterator",data:= .fields #[.ref l,.int 0 0] }).objs.size=s.heap.objs.size+1:=Heap.size_push ..
 rw [d]
 have e:IsEnum ((s.heap.push { cls:= .type "tuple_iterator",data:= .fields #[.ref l,.int 0 0] }).push
  { cls:= .type "enumerate",data:= .fields #[.none,.bool false,.ref s.heap.objs.size,rawInt 0,.none,.none] }) (s.heap.objs.size+1) s.heap.objs.size 0 .none:=by
  have:=Heap.get?_push_size (s.heap.push { cls:= .type "tuple_iterator",data:= .fields #[.ref l,.int 0 0] })
   (o:= { cls:= .type "enumerate",data:= .fields #[.none,.bool false,.ref s.heap.objs.size,rawInt 0,.none,.none] }) rfl
  rw [d]at this;exact this
 refine⟨⟨_,e,rfl⟩,h _ e ⟨_,Aa2 _ (Ab6 _ rfl),rfl,rfl⟩ (by simp) λb o x=>Aa2 _ (Aa2 _ x)⟩
end
section
variable {X:Cx}{k8:List (Addr×Obj)}{U:St}{H:Hp}{s:Shared}{h':Heap}
def Inv.gN (I:Inv X k8 U H s) (k: ∀b o,b≠e->b≠it->s.heap.get? b=y0 o->h'.get? b=y0 o) (G:H it=u0) (w:H e=u0) (l:it≠X.env.locals) (f:e≠X.env.locals)
 (h1:it∈X.ex\/X.s₀.heap.objs.size<=it) (h:e∈X.ex\/X.s₀.heap.objs.size<=e) (h2: ∀x c,X.env.cells.lookup x=y0 c->c≠it) (i: ∀x c,X.env.cells.lookup x=y0 c->c≠e) (C: ∀p∈X.pn++k8,p.1≠it) (g: ∀p∈X.pn++k8,p.1≠e):Inv X k8 U H { s with heap:=h',toks:=t' }:=by
 have d: ∀b u,H b=y0 u->b≠e/\b≠it:=λb u q=>⟨λz=>(by simp_all),λz=>(by simp_all)⟩
 have j: ∀b o,b∉ [e,it]->s.heap.get? b=y0 o->h'.get? b=y0 o:=λb o a q=>k b o (λz=>a (by simp [z])) (λz=>a (by simp [z])) q
 refine I.step (λb A=> ?_) (λb o _ _ a e _=>j b o a e) (λb o _ _ a e _=>⟨o.slots,j b o a e⟩) (λ_ _ _ _ n=>n)
  (λb o a e=>⟨o,j b o a e⟩) (λ_ _ e=>e) (λ_ _ _ e=>e) (λb F e=>⟨#[],by rw [e];simp⟩) (λm t=> ?_) (λb u q=> ?_) I.bare
 ·obtain z | z:=Ab2.mp A
  ·rw [z];exact⟨h,f,i,g⟩
  ·rw [Af.mp z];exact⟨h1,l,h2,C⟩
 ·obtain⟨o,E,y,D,r⟩:=t
  exact⟨o,E,y,k _ o (Ne.symm f) (Ne.symm l) D,r⟩
 ·refine(I.aM b u q).cn (λc v a B=>k c v ?_ ?_ B) (λ_ q=>q) λ_ _ q=>q
  ·obtain z | z:=a
   ·rw [z];exact(d b u q).1
   ·exact(d c _ z).1
  ·obtain z | z:=a
   ·rw [z];exact(d b u q).2
   ·exact(d c _ z).2
end
noncomputable def ph (K:Aa5) (a:Addr):It:=
 ⟨λi H=> ∃xs x,bI K H a xs/\xs[i]? =y0 x,λi H x H'=> ∃p y,H p=u0/\x= .ref p/\H'=aI H p (.tup [.int (i:Int),y])/\ ∀xs,bI K H a xs->xs[i]? =y0 y,λi H=> ∃xs,bI K H a xs/\xs.length=i⟩
def Bm {K:Aa5}(a it e) (A:e≠it):gY P w K (.Tuple elts x1 tp) (ph K a) [e,it] e (λi h=>(∃ g,IsEnum h e it (i:Int) g)/\h.IsTupleIter it a i) where
 mem:=by simp
 obj:=λi h l b F=>by
  obtain⟨⟨g,q⟩,⟨o,q2,c,d⟩⟩:=l
  rcases Ab2.mp F with z | z
  ·subst z
   exact⟨_,q,λv z=>by cases z⟩
  ·rw [Af.mp z]
   exact⟨o,q2,λv z=>by rw [d]at z;cases z⟩
 keep:=λi h h' l k=>⟨let ⟨g,q⟩:=l.1; ⟨g,k e (by simp) _ q⟩,let ⟨o,q,r⟩:=l.2; ⟨o,k it (by simp) o q,r⟩⟩
 item:=by
  intro X hP hw Y T i m s U H E I M l Z
  subst hP hw Y
  obtain⟨⟨g,C⟩,f⟩:=l
  obtain⟨xs,x,O,hx⟩:=Z
  obtain⟨j,rv,p,hz⟩:=I.tuple O
  obtain⟨u,hu,ru⟩:=rv.get hx
  have B:=p
  have n:a≠it:=λz=>by
   obtain⟨o,q,c,_⟩:=B
   obtain⟨o',S,L,_⟩:=f
   rw [z,S]at q;cases q
   rw [c]at L;exact absurd L (by decide)
  have hae:a≠e:=λz=>by
   obtain⟨o,q,c,_⟩:=B
   rw [z,C]at q;cases q
   exact absurd (show Value.type "enumerate" =Value.type "tuple" from c) (by decide)
  obtain⟨f0,f1,f2,f3,f4,f5⟩:=M e (by simp)
  obtain⟨N,g1,g2,R,g4,g5⟩:=M it (by simp)
  have W:=by
   have:=Ac0.mp hu
   simpa using this.1
  have t:X.A.in1.handled=none:=I.ok.hd T
  refine wpAny_pyNext_enum_itemD (wP t it a j.toArray n) C ⟨f,B⟩ W A (by simp [A,Ne.symm hae]) λy h1 J G ho V hT hsz hk=> ?_
  have ey:y=u:=by
   rw [List.getElem?_toArray]at G
   rw [hu]at G;cases G;rfl
  subst ey
  refine⟨_,rfl,wpAny_letOwnedTupleGo_enum ho λh2 he2 Q=> ?_⟩
  have Q:=Q
  have hep:=Al7 (Ab4 C)
  have hn:=I.aM.fresh (Aa6 _)
  have I1:Inv X m U (aI H s.heap.objs.size (.tup [.int (i:Int),x])) { s with heap:=s.heap.push { cls:= .type "tuple",data:= .seq #[.int i J,y] },toks:=J+1 }:=by
   refine I.laid (λb o q=>Aa2 _ q) (Aa6 _) ⟨by simp only [Ab7,Ak5];rw [sizeLine_eq];decide,[.int i J,y],.cons ⟨_,rfl⟩ (.cons ru .nil),?_⟩
   exact⟨_,Ab6 s.heap rfl,rfl,rfl,_,rfl⟩
  have D:it<s.heap.objs.size:=by obtain⟨o,q,_⟩:=f;exact Ab4 q
  have ee:=Ab4 C
  have I2:=I1.gN (t':=J+1) (λb o b1 b2 q=>by
   refine(Q.2 b b1).trans ?_
   rcases Heap.get?_push_cases (show (s.heap.push { cls:= .type "tuple",data:= .seq #[.int i J,y] }).get? b=some o from q)with⟨z,z2⟩ | z
   ·rw [z,z2];exact hT
   ·exact hk b o b1 b2 z) (by rw [ja (Ac3 D)];exact N) (by rw [ja (Ac3 ee)];exact f0) g1 f1 R f3 g4 f4 g5 f5
  refine⟨.ref s.heap.objs.size,_,I2,rfl,⟨s.heap.objs.size,x,hn,rfl,rfl,λys G=>by rw [I.cJ G O];exact hx⟩,⟨⟨y,by simpa using he2⟩,?_⟩,λb F=> ?_⟩
  ·obtain⟨o,q,r⟩:=V.1
   exact⟨o,(Q.2 it (Ne.symm A)).trans q,r⟩
  ·rcases Ab2.mp F with z | z
   ·rw [z,ja (Ac3 ee)];exact f0
   ·rw [Af.mp z,ja (Ac3 D)];exact N
 done:=by
  intro X hP hw Y T i m s U H E I M l Z
  subst hP hw Y
  obtain⟨⟨g,C⟩,f⟩:=l
  obtain⟨xs,O,hx⟩:=Z
  obtain⟨j,rv,p,hz⟩:=I.tuple O
  have B:s.heap.IsTuple a j.toArray:=p
  have n:a≠it:=λz=>by
   obtain⟨o,q,c,_⟩:=B
   obtain⟨o',S,L,_⟩:=f
   rw [z,S]at q;cases q
   rw [c]at L;exact absurd L (by decide)
  obtain⟨N,g1,g2,R,g4,g5⟩:=M it (by simp)
  have hl:=rv.length
  have t:X.A.in1.handled=none:=I.ok.hd T
  have hi:i=j.toArray.size:=by simp;omega
  subst hi
  exact wpAny_pyNext_enum_endD (wP t it a j.toArray n) C ⟨f,B⟩ λh' eb=>⟨rfl,I.turned (λb o F q=>eb b o F q) N g1 R g4 g5⟩
 self:=λ_ _ _ _ _ l h=>wpAny_pyIter_enum l.1.choose_spec h
def Me (K:Aa5) (b:TA):TI:=λU H R=>b U H λc H1=> ∃a xs,c= [.ref a]/\bI K H1 a xs/\R (ph K a) H1
def ZF:bootBuiltins "enumerate" =some (.type "enumerate"):=by decide +kernel
def B3 (u:Gl X "enumerate") (l:X.mg "enumerate" =none) (m:PA X [a] ta) (w:starEach [a] X.env= [(false,eval a X.env)]:=by rfl):PI X (.Tuple elts x1 tp) (.Call (.Name "enumerate" p) [a] [] pos) (Me X.K ta):=by
 intro f s U H R I h
 refine Call_ (zz I u l ZF (PyProof.Rows.callWith_type1 (aL (m pos f s U H _ I h) λC g ⟨G,x,d,o,B⟩=> ?_) w rfl))
 obtain⟨b,F,e,t,q⟩:=B
 subst e
 cases o with
 | cons r k=>
  cases k
  cases r
  obtain⟨v,rv,pl,E⟩:=d.tuple t
  refine Ju (pl) λD j i y A=> ?_
  refine wpAny_pyIter_enum j ?_
  refine⟨g.heap.objs.size+1,[g.heap.objs.size+1,g.heap.objs.size],_,_,x,rfl,d.kept A,Bm b g.heap.objs.size _ (Nat.succ_ne_self _),⟨⟨_,by simpa using j⟩,i⟩,λc n=> ?_,q⟩
  obtain z | z:=Ab2.mp n
  ·rw [z];exact d.cW (Ah7 _) (d.aM.fresh (Ah7 _))
  ·rw [Af.mp z];exact d.cW (Aa6 _) (d.aM.fresh (Aa6 _))
section
variable {prog:Program}{w:World}{A:Around}{E:Value->Shared->Prop}{s:Shared}
def Hi:isSubtype (.type "tuple") (.type "set")=pure false:=by rw [isSubtype_type];kernel_rfl
def AO:isSubtype (.type "tuple") (.type "frozenset")=pure false:=by rw [isSubtype_type];kernel_rfl
abbrev fY (a:Bool):Obj:= { cls:= .type "set",dict:=none,data:= .set #[] 0 (.fresh 0 0 a) }
set_option maxHeartbeats 8000000 in
theorem ZR {b:Addr}{f:Array Value}{n:List Int}{Q:Value->Shared->Prop}
 (hh:A.handled=u0) (ht:s.heap.IsTuple b f) (hi:IntsAre f.toList n) (hb:f.size+1<scanBound)
 (q: ∀(h':Heap) (C:Nat),h'.SetOf (intKind prog w) s.heap.objs.size (λH=>(firstMet (λi=>n.getD i 0) f.size).any (· ==H)) (firstMet (λi=>n.getD i 0) f.size).length →
   (∀ c o,c<s.heap.objs.size->s.heap.get? c=y0 o->h'.get? c=y0 o)->Q (.ref s.heap.objs.size) { s with heap:=h',toks:=C }):
 wpAny (model prog w) A (call (.type "set") [.ref b]) Q E s:=by
 obtain⟨c,tl,U⟩:=F.called_set.mro
 have D:=F.called_set.made
 have W:=F.called_set.sub
 refine wpAny_call (codeAny_of_tree ?_)
 show wpAny _ _ (callAny (.type "set") _) _ _ _
 refine wpAny_pure ⟨Code.quiet_builtin _ (by decide +kernel),codeAny_builtin F.entry_type_call ?_⟩
 rw [Around.under_plain (weight_type_call_type "set" [.ref b] []) rfl]
 have h1:=F.called_set.notType
 have h2:=F.called_set.canCreate
 have hct:=F.typeCall_set_1 (.ref b)
 repeat (any_goals (first | assumption | wp_step))
 refine codeAny_mono (code_set_new_1 (.ref b) (E:=E) (Q₁:=λS h=> ∃a:Bool,S= .ref s.heap.objs.size/\h= { s with heap:=s.heap.push (fY a) }) λa=>⟨a,rfl,rfl⟩) λr h J=> ?_
 cases r with
 | error e=>exact J
 | ok fl=>
  cases fl with
  | ret S=>
   obtain⟨a,rfl,rfl⟩:=J
   have V:(s.heap.push (fY a)).get? s.heap.objs.size=y0 (fY a):=Ab6 _ rfl
   have Z:Shared.TypeIs { s with heap:=s.heap.push (fY a) } (.ref s.heap.objs.size) "set" :=⟨_,V,rfl⟩
   have hli:=F.called_set.init.lookup
   have hbi:=F.called_set.init.bind (.ref s.heap.objs.size)
   repeat (any_goals (first | assumption | wp_step))
   refine codeAny_mono (codeAny_call_builtin (R:=wants (λr g=>r= .none/\ ∃h' C,g= { s with heap:=h',toks:=C } ∧
    h'.SetOf (intKind prog w) s.heap.objs.size (λH=>(firstMet (λi=>n.getD i 0) f.size).any (· ==H)) (firstMet (λi=>n.getD i 0) f.size).length ∧
    (∀ c o,c<s.heap.objs.size->s.heap.get? c=y0 o->h'.get? c=y0 o)) E) F.called_set.init.plain F.entry_set_init (check_set_init_1 Z ?_)) λy g d=> ?_
   ·obtain⟨⟨c1,c2,c3,c4⟩,p,k,P,m⟩:=ht
    replace k:c1= .type "tuple" :=k
    replace m:c3= .seq f P:=m
    subst k;subst m
    have u:(s.heap.push (fY a)).get? b=y0 { cls:= .type "tuple",dict:=c2,data:= .seq f P,slots:=c4 }:=Heap.get?_push_of_some _ p
    have T:=Hi
    have Y:=AO
    have hne:(Value.type "tuple" ==Value.type "dict")=false:=by decide
    have x:(s.heap.push (fY a)).IsTuple b f:=⟨_,u,rfl,P,rfl⟩
    unfold Builtin.«set.__init__» noKeywords Builtin.Frozenset.updateFrom
    generalize G:pyIter=PI
    wp_walk
    subst G
    refine wpAny_pyIter_tuple x (wpAny_bind (wpAny_runValue ?_))
    have t:b<s.heap.objs.size:=Ab4 p
    have N:A.in1.in1.in1.handled=none:=by simp [hh]
    have O:(s.heap.push (fY a)).objs.size=s.heap.objs.size+1:=Ag1 ..
    have z:b≠(s.heap.push (fY a)).objs.size:=by rw [O];exact Ac3 (Am1 t)
    have I:s.heap.objs.size∉ [(s.heap.push (fY a)).objs.size,b]:=by
     rw [O];simp only [Ab2,Ac2,or_false,not_or];exact⟨Ac3 (Ag7 _),Al7 t⟩
    refine codeAny_set_update_loopS ((Walks.tuple N _ b z f).toS) s.heap.objs.size
     I (λi=>n.getD i 0) (λi v hv=>IntsAre.int_at hi i v (by rw [Array.getElem?_toList];exact hv)) hb (f.size-0) 0 _ (by omega) (Ah5 _)
     ⟨⟨_,Ab6 _ rfl,rfl,rfl⟩,(x.push _)⟩ ?hS0 ?hR
    case hS0=>exact SetOf_congr ((setObjOf_fresh (knd:=intKind prog w) a).setOf (Aa2 _ V) (by unfold scanBound;omega)) (λ_=>rfl) rfl
    case hR=>
     intro s' B j
     obtain⟨h',g',d',M,L⟩:=s'
     have eg:g'=s.gens:=B.gens
     have ed:d'=s.drawn:=B.drawn
     have eo:L=s.os:=B.os
     subst eg;subst ed;subst eo
     show wpAny _ _ _ _ _ _
     refine wpAny_pure ?_
     show wpAny _ _ (ret Value.none) _ _ _
     refine wpAny_pure ⟨rfl,h',M,rfl,j,λc o X e=>B.heap c o ?_ (Aa2 _ (Aa2 _ e))⟩
     simp only [Ab2,Ac2,or_false,not_or]
     exact⟨Ac3 X,by
      show c≠(s.heap.push (fY a)).objs.size
      rw [O];exact Ac3 (Am1 X)⟩
   ·cases y with
    | error e=>exact d
    | ok l=>
     cases l with
     | ret r=>
      obtain⟨rfl,h',C,rfl,j,K⟩:=d
      repeat (any_goals (first | assumption | wp_step))
      exact q _ _ j K
     | _=>exact d.elim
  | _=>exact J.elim
end
section
variable {X:Cx}
theorem X1: ∀ {is}{a},Vals (is.map V.int) a->IntsAre a is
 | [],_,.nil=> .nil
 | i::is,_,.cons r b=>by
  obtain⟨t,rfl⟩:=r
  exact .cons _ _ (X1 b)
def oT (is:List Int):Nat:=(firstMet (λi=>is.getD i 0) is.length).length
def AZ:qm X (.type "set") (fun xs H Q=> ∃p is,xs= [.ref p]/\X.calm=true/\is.length<1000/\bI X.K H p (is.map V.int)/\ ∀l S,H l=none->Q (.ref l) (aI H l (.set S (oT is)))):=by
 intro d s U H xs n Q I r h
 obtain⟨p,is,rfl,k,w,j,q⟩:=h
 cases r with
 | cons r i=>
  cases i
  cases r
  obtain⟨c,rv,pl,t⟩:=I.tuple j
  have a:c.length=is.length:=by have:=rv.length;rw [Aa]at this;lia
  refine ZR (I.ok.hd k) pl (by simpa using X1 rv) (by rw [Ab8,a];unfold scanBound;lia) λv x f m=> ?_
  have g:c.toArray.size=is.length:=by rw [Ab8];exact a
  rw [g]at f
  have hn:=I.aM.fresh (Aa6 _)
  exact⟨.ref s.heap.objs.size,_,I.laid (o:= .set _ _) (λb u e=>m b u (Ab4 e) e) (Aa6 _) f,rfl,q _ _ hn⟩
def EW:qm X (.builtin "len") (fun xs H Q=> ∃p S n,xs= [.ref p]/\H p=some (.set S n)/\n<1000/\Q (.int (n:Int)) H):=by
 intro b s U H xs k Q I r h
 obtain⟨p,S,n,rfl,g,hn,q⟩:=h
 cases r with
 | cons r c=>
  cases c
  cases r
  obtain⟨o,l,j,t,i,a,d,_,_,_,f,e⟩:s.heap.SetOf _ p S n:=I.aM p _ g
  subst e
  exact call_len_set i a d f (by lia) ⟨.int _,H,I.tok _,⟨_,rfl⟩,q⟩
end
def jC {e f:Option Int}(a:IsTup s.heap t vs) (g:s.heap.IsSliceOf sl vl vu .none) (pl:IsPart vl e) (i:IsPart vu f)
 (l:HT.bh vs.size 0 e=0) (h1:HT.bh vs.size vs.size f=vs.size) (h:Q (.ref t) s):wpAny (model prog w) A (getItem (.ref t) (.ref sl)) Q E s:=by
 obtain⟨j,b,c,k⟩:=id g
 have d:s.TypeIs (.ref sl) "slice" :=⟨j,b,c⟩
 unfold getItem
 try with_reducible refine wpAny_holding ?_
 refine wpAny_bind (wpAny_sequenceKey a.typeIs rfl (wpAny_bind (wpAny_callSpecial?_slot a.typeIs PyProof.Rows.slot_tuple_getitem
  (wpAny_call_entry PyProof.Rows.slot_tuple_getitem a.typeIs PyProof.Rows.entry_tuple_getitem ?_ (PyProof.Rows.args_tuple_getitem _ _)))))
 show wpAny _ _ (Builtin.Tuple.tupleItemsOf _ >>= _) _ _ s
 refine wpAny_bind (tupleItemsOf_ a (wpAny_bind (wpAny_typeOf d ?_)))
 refine wpAny_bind (HT.bE g pl i ?_)
 show wpAny _ _ (if _=k9 then _ else _) _ _ s
 rw [if_pos (by simp_all)]
 refine wpAny_bind (wpAny_bind (wpAny_typeOf a.typeIs (wpAny_pure ?_)))
 exact wpAny_bind (wpAny_rule (wpAny_pure ⟨_,rfl,wpAny_pure h⟩))
section
variable {X:Cx}
def om (K:Aa5):V->Option Int->Option Int->Hp->VK->Prop:=λx lo hi H Q=> ∃a xs,x= .ref a/\bI K H a xs/\HT.bh xs.length 0 lo=0/\HT.bh xs.length xs.length hi=xs.length/\Q (.ref a) H
def Du:g0 X (om X.K):=by
 intro e s U H x v p t n u sl Q I f l pl k h
 obtain⟨a,g,rfl,j,m,i,q⟩:=h
 cases f
 obtain⟨c,r,d,o⟩:=I.tuple j
 have b:c.toArray.size=g.length:=by rw [Ab8];exact r.length.symm
 refine⟨"tuple",_,PyProof.Rows.slot_tuple_getitem.lookup,d.typeIs,?_⟩
 exact jC d l pl k (by rw [b];exact m) (by rw [b];exact i) ⟨.ref a,H,I,rfl,q⟩
end
end L2
namespace PySem
open Sem (wp)
section
variable {prog:Program}{w:World}{A:Around}{E:Value->Shared->Prop}{s:Shared}
def WF {Q:Value->Shared->Prop}(D:ZipApart z TI TO i1 i2 l1 l2)
 (O:IsZip s.heap z TI TO .none) (hTI:IsPair s.heap TI (.ref i1) (.ref i2)) (hTO:IsPair s.heap TO a b)
 (h1:s.heap.IsListIter i1 l1 k1) (h2:s.heap.IsTupleIter i2 l2 k2) (hl1:s.heap.IsList l1 xs) (hl2:s.heap.IsTuple l2 ys) (hx:xs[k1]? =y0 x) (hy:ys[k2]? =y0 y)
 (hQ: ∀h',IsZip h' z TI TO (rawInt s.heap.objs.size)->IsPair h' TO x y->h'.IsListIter i1 l1 (k1+1)->h'.IsTupleIter i2 l2 (k2+1)->IsPair h' s.heap.objs.size x y->h'.objs.size=s.heap.objs.size+1 →
   (∀ c o,c≠z->c≠TO->c≠i1->c≠i2->s.heap.get? c=y0 o->h'.get? c=y0 o)->Q (.ref s.heap.objs.size) { s with heap:=h' }):
 wpAny (model prog w) A (Builtin.«zip.__next__» ⟨[.ref z],[]⟩) (λfin s'=> ∃v,fin= .done (.ret v)/\Q v s') E s:=by
 show wpAny _ _ (field (.ref z) 2 >>= _) _ _ _
 refine wpAny_bind (wpAny_field O rfl (x:= .bool y9) rfl ?_)
 show wpAny _ _ _ _ _ _
 refine wpAny_bind (wpAny_field O rfl (x:= .ref TI) rfl ?_)
 refine wpAny_bind (wpAny_seqItems hTI rfl ?_)
 show wpAny _ _ _ _ _ _
 refine wpAny_bind ?_
 unfold Builtin.SmallTypes.ownedTupleIsFree
 refine wpAny_bind (wpAny_field O rfl (x:= .none) rfl (wpAny_pure ?_))
 simp only [if_true]
 refine wpAny_bind (wpAny_rule ?_)
 refine wpAny_bind (wpAny_field O rfl (x:= .ref TO) rfl ?_)
 refine wpAny_bind (wpAny_setField_rec O (by simp) λP r f=> ?_)
 replace r:IsZip P z TI TO .ellipsis:=r
 refine wpAny_bind ?_
 simp only [List.zipIdx_cons,List.zipIdx_nil,List.forIn_cons,List.forIn_nil]
 refine wpAny_bind (wpAny_bind (wpAny_onRaise ?_))
 show wpAny _ _ _ _ _ _
 refine wpAny_bind (wpAny_nextOf_list_item (h1.extBut f.extBut D.i1z) (hl1.extBut f.extBut D.l1z) hx λT K i=>wpAny_pure ?_)
 have u:IsPair T TO a b:=i.extBut _ _ D.TOi1 (f.extBut _ _ D.TOz hTO)
 refine wpAny_bind (wpAny_seqItems u rfl ?_)
 refine wpAny_bind (wpAny_updateSeq_pair u λS l h=> ?_)
 replace l:IsPair S TO x b:=l
 refine wpAny_bind (wpAny_letGo (wpAny_pure ?_))
 refine wpAny_bind (wpAny_bind (wpAny_onRaise ?_))
 show wpAny _ _ (Builtin.SmallTypes.nextOf (.ref i2) >>= _) _ _ _
 refine wpAny_bind (L2.bJ (((h2.extBut f.extBut D.i2z).extBut i.extBut D.i12.symm).extBut h.extBut D.TOi2.symm)
  (((hl2.extBut f.extBut D.l2z).extBut i.extBut D.l2i1).extBut h.extBut D.l2TO) hy λW J j=>wpAny_pure ?_)
 have B:IsPair W TO x b:=j.extBut _ _ D.TOi2 l
 refine wpAny_bind (wpAny_seqItems B rfl ?_)
 refine wpAny_bind (wpAny_updateSeq_pair B λd g k=> ?_)
 replace g:IsPair d TO x y:=g
 refine wpAny_bind (wpAny_letGo (wpAny_pure (wpAny_pure ?_)))
 refine wpAny_bind (wpAny_seqItems g rfl ?_)
 refine wpAny_bind (wpAny_newTuple ?_)
 have V:d.objs.size=s.heap.objs.size:=by rw [k.1,j.1,h.1,i.1,f.1]
 have C:IsZip d z TI TO .ellipsis:=k.extBut _ _ D.TOz.symm (j.extBut _ _ D.i2z.symm (h.extBut _ _ D.TOz.symm (i.extBut _ _ D.i1z.symm r)))
 have N: ∀c o,c≠z->c≠TO->c≠i1->c≠i2->s.heap.get? c=y0 o->d.get? c=y0 o:=λc o M X c3 Z e=>
  k.extBut _ _ X (j.extBut _ _ Z (h.extBut _ _ X (i.extBut _ _ c3 (f.extBut _ _ M e))))
 have F:d.IsListIter i1 l1 (k1+1):=((K.extBut h.extBut D.TOi1.symm).extBut j.extBut D.i12).extBut k.extBut D.TOi1.symm
 have G:d.IsTupleIter i2 l2 (k2+1):=J.extBut k.extBut D.TOi2.symm
 have I:z<d.objs.size:=Ab4 C
 have hTOlt:TO<d.objs.size:=Ab4 g
 have hi1lt:i1<d.objs.size:=by obtain⟨_,e,_⟩:=F;exact Ab4 e
 have hi2lt:i2<d.objs.size:=by obtain⟨_,e,_⟩:=G;exact Ab4 e
 show wpAny _ _ (Builtin.SmallTypes.ownedTupleHandOut (.ref z) (.ref d.objs.size) >>= _) _ _ _
 refine wpAny_bind ?_
 unfold Builtin.SmallTypes.ownedTupleHandOut
 have L:IsZip (d.push { cls:= .type "tuple",data:= .seq #[x,y] }) z TI TO .ellipsis:=Heap.get?_push_of_some _ C
 refine wpAny_bind (wpAny_setField_rec L (by simp) λR q t=> ?_)
 replace q:IsZip R z TI TO (rawInt d.objs.size):=q
 refine wpAny_setField_rec q (by simp) λn m p=> ?_
 replace m:IsZip n z TI TO (rawInt d.objs.size):=m
 have Y: ∀c o,c≠z->d.get? c=y0 o->n.get? c=y0 o:=λc o M e=>p.extBut _ _ M (t.extBut _ _ M (Aa2 _ e))
 have H:IsPair n d.objs.size x y:=p.extBut _ _ (Al7 I) (t.extBut _ _ (Al7 I) (Ab6 _ rfl))
 have U:n.objs.size=d.objs.size+1:=by rw [p.1,t.1,Ag1]
 rw [V]at m H U
 refine wpAny_pure ⟨_,rfl,?_⟩
 show Q (.ref d.objs.size) _
 rw [V]
 exact hQ n m (Y _ _ D.TOz g) (F.at λo e=>Y _ o D.i1z e) (G.at λo e=>Y _ o D.i2z e) H U λc o M X c3 Z e=>Y c o M (N c o M X c3 Z e)
def XN (T:A.handled=u0) (D:ZipApart z TI TO i1 i2 l1 l2)
 (v:IsZip s.heap z TI TO .none) (O:IsPair s.heap TI (.ref i1) (.ref i2)) (P:IsPair s.heap TO a b)
 (h1:s.heap.IsListIter i1 l1 k1) (h2:s.heap.IsTupleIter i2 l2 k2) (y:s.heap.IsList l1 xs) (R:s.heap.IsTuple l2 ys) (G:xs[k1]? =u0\/ys[k2]? =u0)
 (S: ∀h' e,(∀ c o,c≠z->c≠TO->c≠i1->c≠i2->s.heap.get? c=y0 o->h'.get? c=y0 o)->(∃ o,h'.get? e=y0 o/\o.cls= .type "StopIteration")->E (.ref e) { s with heap:=h' }):
 wpAny (model prog w) A (Builtin.«zip.__next__» ⟨[.ref z],[]⟩) Q E s:=by
 show wpAny _ _ (field (.ref z) 2 >>= _) _ _ _
 refine wpAny_bind (wpAny_field v rfl (x:= .bool y9) rfl ?_)
 show wpAny _ _ _ _ _ _
 refine wpAny_bind (wpAny_field v rfl (x:= .ref TI) rfl ?_)
 refine wpAny_bind (wpAny_seqItems O rfl ?_)
 show wpAny _ _ _ _ _ _
 refine wpAny_bind ?_
 unfold Builtin.SmallTypes.ownedTupleIsFree
 refine wpAny_bind (wpAny_field v rfl (x:= .none) rfl (wpAny_pure ?_))
 simp only [if_true]
 refine wpAny_bind (wpAny_rule ?_)
 refine wpAny_bind (wpAny_field v rfl (x:= .ref TO) rfl ?_)
 refine wpAny_bind (wpAny_setField_rec v (by simp) λB i d=> ?_)
 replace i:IsZip B z TI TO .ellipsis:=i
 refine wpAny_bind ?_
 simp only [List.zipIdx_cons,List.zipIdx_nil,List.forIn_cons,List.forIn_nil]
 refine wpAny_bind (wpAny_bind (wpAny_onRaise ?_))
 show wpAny _ _ _ _ _ _
 cases L:xs[k1]? with
 | none=>
  refine wpAny_bind (wpAny_nextOf_list_end T (h1.extBut d.extBut D.i1z) (y.extBut d.extBut D.l1z) L λq e f N=> ?_)
  obtain⟨K,j,m⟩:=N
  have n:IsZip q z TI TO .ellipsis:=f _ _ D.i1z.symm i
  have u:e≠z:=λx=>by subst x;rw [n]at j;cases j;simp at m
  refine wpAny_setField_rec n (by simp) λt _ g=>S t e (λc o F _ M _ x=>g.extBut _ _ F (f _ _ M (d.extBut _ _ F x))) ⟨K,g.extBut _ _ u j,m⟩
 | some x=>
  have W:ys[k2]? =none:=by rcases G with h | h;rw [L]at h;cases h;exact h
  refine wpAny_bind (wpAny_nextOf_list_item (h1.extBut d.extBut D.i1z) (y.extBut d.extBut D.l1z) L λq J f=>wpAny_pure ?_)
  have k:IsPair q TO a b:=f.extBut _ _ D.TOi1 (d.extBut _ _ D.TOz P)
  refine wpAny_bind (wpAny_seqItems k rfl ?_)
  refine wpAny_bind (wpAny_updateSeq_pair k λt I g=> ?_)
  refine wpAny_bind (wpAny_letGo (wpAny_pure ?_))
  refine wpAny_bind (wpAny_bind (wpAny_onRaise ?_))
  show wpAny _ _ (Builtin.SmallTypes.nextOf (.ref i2) >>= _) _ _ _
  refine wpAny_bind (L2.bQ T (((h2.extBut d.extBut D.i2z).extBut f.extBut D.i12.symm).extBut g.extBut D.TOi2.symm)
   (((R.extBut d.extBut D.l2z).extBut f.extBut D.l2i1).extBut g.extBut D.l2TO) W λH e l N=> ?_)
  obtain⟨K,j,m⟩:=N
  have p:IsZip H z TI TO .ellipsis:=l _ _ D.i2z.symm (g.extBut _ _ D.TOz.symm (f.extBut _ _ D.i1z.symm i))
  have u:e≠z:=λx=>by subst x;rw [p]at j;cases j;simp at m
  refine wpAny_setField_rec p (by simp) λC _ r=>S C e (λc o F V M U x=>r.extBut _ _ F (l _ _ U (g.extBut _ _ V (f.extBut _ _ M (d.extBut _ _ F x))))) ⟨K,r.extBut _ _ u j,m⟩
def Zo (D:ZipApart z TI TO i1 i2 l1 l2)
 (i:IsZip s.heap z TI TO .none) (e:IsPair s.heap TI (.ref i1) (.ref i2)) (f:IsPair s.heap TO a b)
 (h1:s.heap.IsListIter i1 l1 k1) (h2:s.heap.IsTupleIter i2 l2 k2) (d:s.heap.IsList l1 xs) (g:s.heap.IsTuple l2 ys) (m:xs[k1]? =y0 x) (l:ys[k2]? =y0 y)
 (j: ∀h',IsZip h' z TI TO (rawInt s.heap.objs.size)->IsPair h' TO x y->h'.IsListIter i1 l1 (k1+1)->h'.IsTupleIter i2 l2 (k2+1)->IsPair h' s.heap.objs.size x y->h'.objs.size=s.heap.objs.size+1 →
   (∀ c o,c≠z->c≠TO->c≠i1->c≠i2->s.heap.get? c=y0 o->h'.get? c=y0 o)->Q (y0 (.ref s.heap.objs.size)) { s with heap:=h' }):
 wpAny (model prog w) A (pyNext (.ref z)) Q E s:=by
 have h:s.TypeIs (.ref z) "zip" :=⟨_,i,rfl⟩
 exact wpAny_bind (wpAny_attempt (wpAny_callSpecial?_slot h F.slot_zip_next
  (wpAny_call_entry F.slot_zip_next h F.entry_zip_next
    (WF D i e f h1 h2 d g m l λh' k a2 a3 a4 a5 a6 a7=>wpAny_pure (j h' k a2 a3 a4 a5 a6 a7)) (F.args_zip_next_1 _))))
def Qq (r:A.handled=u0) (D:ZipApart z TI TO i1 i2 l1 l2)
 (k:IsZip s.heap z TI TO .none) (g:IsPair s.heap TI (.ref i1) (.ref i2)) (h:IsPair s.heap TO a b)
 (h1:s.heap.IsListIter i1 l1 k1) (h2:s.heap.IsTupleIter i2 l2 k2) (f:s.heap.IsList l1 xs) (i:s.heap.IsTuple l2 ys) (d:xs[k1]? =u0\/ys[k2]? =u0)
 (l: ∀h',(∀ c o,c≠z->c≠TO->c≠i1->c≠i2->s.heap.get? c=y0 o->h'.get? c=y0 o)->Q u0 { s with heap:=h' }):wpAny (model prog w) A (pyNext (.ref z)) Q E s:=by
 have j:s.TypeIs (.ref z) "zip" :=⟨_,k,rfl⟩
 refine wpAny_bind (wpAny_attempt (wpAny_callSpecial?_slot j F.slot_zip_next
  (wpAny_call_entry F.slot_zip_next j F.entry_zip_next (XN r D k g h h1 h2 f i d λh' e p m=> ?_) (F.args_zip_next_1 _))))
 obtain⟨o,q,n⟩:=m
 refine wpAny_bind (wpAny_isInstance ⟨o,q,n⟩ isSubtype_stop ?_)
 exact wpAny_pure (l _ p)
end
abbrev mP (h:Heap) (a:Addr):Heap:=h.push { cls:= .type "list_iterator",data:= .fields #[.ref a,.int 0 0] }
noncomputable abbrev mx (h:Heap) (a l2:Addr):Heap:=(mP h a).push { cls:= .type "tuple_iterator",data:= .fields #[.ref l2,.int 0 0] }
abbrev mH (h:Heap) (a l2:Addr):Heap:=(mx h a l2).push { cls:= .type "tuple",data:= .seq #[.ref h.objs.size,.ref (mP h a).objs.size] }
abbrev mW (h:Heap) (a l2:Addr):Heap:=(mH h a l2).push { cls:= .type "tuple",data:= .seq #[.none,.none] }
abbrev QX (h:Heap) (a l2:Addr):Heap:=(mW h a l2).push { cls:= .type "zip",data:= .fields #[.none,.bool false,.bool false,.ref (mx h a l2).objs.size,.ref (mH h a l2).objs.size] }
def JF (a l2:Addr) (xs i:Array Value):
 Meets (Builtin.«zip.__new__» ⟨[.type "zip",.ref a,.ref l2],[]⟩) (fun _ R s=>s.heap.IsList a xs/\s.heap.IsTuple l2 i ∧
  R (.ok (.ret (.ref (mW s.heap a l2).objs.size))) { s with heap:=QX s.heap a l2 }):=
 .of_wp λprog w A R s h=>by
  obtain⟨l,g,d,k,m⟩:=s;obtain⟨c,f,h⟩:=h
  have j:=sub_zip
  have b:Heap.IsList _ a xs:=c
  have e:Heap.IsTuple (Shared.heap ⟨l.push { cls:= .type "list_iterator",data:= .fields #[.ref a,.int 0 0] },g,d,k,m⟩) l2 i:=Heap.IsTuple.push f _
  wp_walk using wpAny_pyIter_list b,wpAny_pyIter_tuple e
  exact⟨_,rfl,h⟩
section
variable {prog:Program}{w:World}{A:Around}{E:Value->Shared->Prop}{s:Shared}
def xW (d:s.heap.IsList l1 xs) (e:s.heap.IsTuple l2 ys)
 (h: ∀h',IsZip h' (s.heap.objs.size+4) (s.heap.objs.size+2) (s.heap.objs.size+3) .none->IsPair h' (s.heap.objs.size+2) (.ref s.heap.objs.size) (.ref (s.heap.objs.size+1)) →
   IsPair h' (s.heap.objs.size+3) .none .none->h'.IsListIter s.heap.objs.size l1 0->h'.IsTupleIter (s.heap.objs.size+1) l2 0->h'.objs.size=s.heap.objs.size+5 →
   (∀ c o,s.heap.get? c=y0 o->h'.get? c=y0 o)->Q (.ref (s.heap.objs.size+4)) { s with heap:=h' }):
 wpAny (model prog w) A (call (.type "zip") [.ref l1,.ref l2]) Q E s:=by
 refine callType_new F.called_zip (by decide) (F.typeCall_zip_2 _ _) (F.newCall_zip_2 _ _) (λobj=>F.args_object_init_3 obj _ _) F.entry_zip_new
  (JF l1 l2 xs ys) ⟨d,e,?_⟩
 have b:(mP s.heap l1).objs.size=s.heap.objs.size+1:=Ag1 ..
 have g:(mx s.heap l1 l2).objs.size=s.heap.objs.size+2:=by rw [Ag1,b]
 have i:(mH s.heap l1 l2).objs.size=s.heap.objs.size+3:=by rw [Ag1,g]
 have f:(mW s.heap l1 l2).objs.size=s.heap.objs.size+4:=by rw [Ag1,i]
 have n:(QX s.heap l1 l2).objs.size=s.heap.objs.size+5:=by rw [Ag1,f]
 have a:(QX s.heap l1 l2).get? (mW s.heap l1 l2).objs.size=y0 _:=Ab6 _ rfl
 have j:(QX s.heap l1 l2).get? (mH s.heap l1 l2).objs.size=y0 _:=Aa2 _ (Ab6 _ rfl)
 have k:(QX s.heap l1 l2).get? (mx s.heap l1 l2).objs.size=y0 _:=Aa2 _ (Aa2 _ (Ab6 _ rfl))
 have l:(QX s.heap l1 l2).get? (mP s.heap l1).objs.size=y0 _:=Aa2 _ (Aa2 _ (Aa2 _ (Ab6 _ rfl)))
 have m:(QX s.heap l1 l2).get? s.heap.objs.size=y0 _:=Aa2 _ (Aa2 _ (Aa2 _ (Aa2 _ (Ab6 _ rfl))))
 show _/\_
 rw [g,i,f]at a
 rw [b,g]at k
 rw [i]at j
 rw [b]at l
 rw [f]
 exact⟨⟨_,a,rfl⟩,h _ a k j ⟨_,m,rfl,rfl⟩ ⟨_,l,rfl,rfl⟩ n λc o x=>
  Aa2 _ (Aa2 _ (Aa2 _ (Aa2 _ (Aa2 _ x))))⟩
end
end PySem
namespace L2
open PySem PySem.Spec PyProof.Rows
section
variable {X:Cx}{k8:List (Addr×Obj)}{U:St}{H:Hp}{s:Shared}{h':Heap}
def Inv.eN {ch:List Addr}(I:Inv X k8 U H s) (k: ∀b o,b∉ch->s.heap.get? b=y0 o->h'.get? b=y0 o) (f: ∀b∈ch,W5 X k8 H b):Inv X k8 U H { s with heap:=h',toks:=t' }:=by
 have d: ∀b u,H b=y0 u->b∉ch:=λb u q z=>by rw [(f b z).1]at q;cases q
 refine I.step (λb i=> ?_) (λb o _ _ a e _=>k b o a e) (λb o _ _ a e _=>⟨o.slots,k b o a e⟩) (λ_ _ _ _ n=>n)
  (λb o a e=>⟨o,k b o a e⟩) (λ_ _ e=>e) (λ_ _ _ e=>e) (λb B e=>⟨#[],by rw [e];simp⟩) (λm g=> ?_) (λb u q=> ?_) I.bare
 ·obtain⟨C,y,A,j,w,p⟩:=f b i
  exact⟨j,y,w,p⟩
 ·obtain⟨o,x,h,t,r⟩:=g
  exact⟨o,x,h,k _ o (λz=>(f _ z).2.1 rfl) t,r⟩
 ·refine(I.aM b u q).cn (λc v a l=>k c v ?_ l) (λ_ q=>q) λ_ _ q=>q
  obtain z | z:=a
  ·rw [z];exact d b u q
  ·exact d c _ z
end
noncomputable def n7 (K:Aa5) (l a:Addr):It:=
 ⟨λi H=> ∃xs x ys y,a8 K H l xs/\xs[i]? =y0 x/\bI K H a ys/\ys[i]? =y0 y,
   λi H v H'=> ∃p x y,H p=u0/\v= .ref p/\H'=aI H p (.tup [x,y])/\(∀ xs,a8 K H l xs->xs[i]? =y0 x)/\ ∀ys,bI K H a ys->ys[i]? =y0 y,
   λi H=> ∃xs ys,a8 K H l xs/\bI K H a ys/\min xs.length ys.length=i⟩
def Bl {K:Aa5}(z TI TO i1 i2 l a) (D:ZipApart z TI TO i1 i2 l a):gY P w K (.Tuple elts x1 tp) (n7 K l a) [z,TI,TO,i1,i2] z
 (λi h=>IsZip h z TI TO .none/\IsPair h TI (.ref i1) (.ref i2)/\(∃ c d,IsPair h TO c d)/\h.IsListIter i1 l i/\h.IsTupleIter i2 a i) where
 mem:=by simp
 obj:=λi h r b g=>by
  obtain⟨A,j,⟨c,d,m⟩,⟨o1,q1,c1,d1⟩,⟨o2,T,c2,d2⟩⟩:=r
  simp only [Ab2,Ac2,or_false]at g
  rcases g with e | e | e | e | e
  ·rw [e];exact⟨_,A,λv z=>by cases z⟩
  ·rw [e];exact⟨_,j,λv z=>by cases z⟩
  ·rw [e];exact⟨_,m,λv z=>by cases z⟩
  ·rw [e];exact⟨o1,q1,λv z=>by rw [d1]at z;cases z⟩
  ·rw [e];exact⟨o2,T,λv z=>by rw [d2]at z;cases z⟩
 keep:=λi h h' r k=>by
  obtain⟨A,j,⟨c,d,m⟩,L,J⟩:=r
  exact⟨k z (by simp) _ A,k TI (by simp) _ j,⟨c,d,k TO (by simp) _ m⟩,L.at λo e=>k i1 (by simp) o e,J.at λo e=>k i2 (by simp) o e⟩
 item:=by
  intro X hP hw Y hc i B s U H E I Q r Z
  subst hP hw Y
  obtain⟨A,j,⟨c,d,m⟩,L,J⟩:=r
  obtain⟨xs,x,ys,y,R,M,t,hy⟩:=Z
  obtain⟨O,rv,p,_⟩:=I.list R
  obtain⟨n,G,p2,_⟩:=I.tuple t
  obtain⟨u,hu,ru⟩:=rv.get M
  obtain⟨u2,hu2,V⟩:=G.get hy
  refine Zo D A j m L J p.isList (show s.heap.IsTuple a n.toArray from p2) (by simpa using hu) (by simpa using hu2) λh3 a1 a2 a3 a4 a5 a6 S=> ?_
  refine⟨_,rfl,wpAny_letOwnedTupleGo_zip a1 λh4 hz4 C=> ?_⟩
  have C:Aj8 z h3 h4:=C
  have lt: ∀ {c o},s.heap.get? c=y0 o->c≠s.heap.objs.size:=λe=>Ac3 (Ab4 e)
  have hn:=I.aM.fresh (Aa6 _)
  have I1:Inv X B U (aI H s.heap.objs.size (.tup [x,y])) { s with heap:=s.heap.push { cls:= .type "tuple",data:= .seq #[u,u2] } }:=by
   refine I.laid (λb o q=>Aa2 _ q) (Aa6 _) ⟨by simp only [Ab7,Ak5];rw [sizeLine_eq];decide,[u,u2],.cons ru (.cons V .nil),?_⟩
   exact⟨_,Ab6 s.heap rfl,rfl,rfl,_,rfl⟩
  have fz: ∀b∈ [z,TI,TO,i1,i2],b≠s.heap.objs.size:=λb g=>by
   obtain⟨o1,q1,_⟩:=L
   obtain⟨o2,T,_⟩:=J
   simp only [Ab2,Ac2,or_false]at g
   rcases g with e | e | e | e | e
   ·rw [e];exact lt A
   ·rw [e];exact lt j
   ·rw [e];exact lt m
   ·rw [e];exact lt q1
   ·rw [e];exact lt T
  have I2:=I1.eN (t':=s.toks) (ch:= [z,TI,TO,i1,i2]) (λb o g q=>by
   simp only [Ab2,Ac2,or_false,not_or]at g
   obtain⟨b1,b2,b3,b4,b5⟩:=g
   refine(C.2 b b1).trans ?_
   rcases Heap.get?_push_cases (show (s.heap.push { cls:= .type "tuple",data:= .seq #[u,u2] }).get? b=some o from q)with⟨W,e2⟩ | W
   ·rw [W,e2];exact a5
   ·exact S b o b1 b3 b4 b5 W) (λb g=>by
   obtain⟨f0,f⟩:=Q b g
   exact⟨by rw [ja (fz b g)];exact f0,f⟩)
  refine⟨.ref s.heap.objs.size,_,I2,rfl,⟨s.heap.objs.size,x,y,hn,rfl,rfl,λzs F=>by rw [I.c9 F R];exact M,λzs F=>by rw [I.cJ F t];exact hy⟩,?_,λb g=>by rw [ja (fz b g)];exact(Q b g).1⟩
  exact⟨hz4,(C.2 TI D.TIz).trans (S _ _ D.TIz D.TITO D.TIi1 D.TIi2 j),⟨_,_,(C.2 TO D.TOz).trans a2⟩,a3.at λo e=>(C.2 i1 D.i1z).trans e,a4.at λo e=>(C.2 i2 D.i2z).trans e⟩
 done:=by
  intro X hP hw Y hc i B s U H E I Q r Z
  subst hP hw Y
  obtain⟨A,j,⟨c,d,m⟩,L,J⟩:=r
  obtain⟨xs,ys,R,t,M⟩:=Z
  obtain⟨O,rv,p,_⟩:=I.list R
  obtain⟨n,G,p2,_⟩:=I.tuple t
  have hl:=rv.length
  have hl2:=G.length
  have N:O.toArray[i]? =u0\/n.toArray[i]? =none:=by
   rcases Nat.le_total xs.length ys.length with q | q
   ·exact .inl (Array.getElem?_eq_none (by rw [Ab8];rw [Al0 q]at M;omega))
   ·exact .inr (Array.getElem?_eq_none (by rw [Ab8];rw [Nat.min_eq_right q]at M;omega))
  exact Qq (I.ok.hd hc) D A j m L J p.isList (show s.heap.IsTuple a n.toArray from p2) N λh3 S=>⟨rfl,I.eN (λb o g q=>by
   simp only [Ab2,Ac2,or_false,not_or]at g
   exact S b o g.1 g.2.2.1 g.2.2.2.1 g.2.2.2.2 q) Q⟩
 self:=λ_ _ _ _ _ r h=>wpAny_pyIter_zip r.1 h
def LO (n l t:Nat) (h1:l<n) (h2:t<n):ZipApart (n+4) (n+2) (n+3) n (n+1) l t:=by
 constructor<;>exact λe=>absurd (show @Eq Nat _ _ from e) (by lia)
def DM (K:Aa5) (b:TA):TI:=λU H R=>b U H λc H1=> ∃l a xs ys,c= [.ref l,.ref a]/\a8 K H1 l xs/\bI K H1 a ys/\R (n7 K l a) H1
def yl:bootBuiltins "zip" =some (.type "zip"):=by decide +kernel
def yB (E:Gl X "zip") (z:X.mg "zip" =none) (A:PA X [a,b] ta) (J:starEach [a,b] X.env= [(false,eval a X.env),(false,eval b X.env)]:=by rfl) (g:starEach [b] X.env= [(false,eval b X.env)]:=by rfl):PI X (.Tuple elts x1 tp) (.Call (.Name "zip" p) [a,b] [] pos) (DM X.K ta):=by
 intro i s U H R I h
 refine Call_ (zz I E z yl (PyProof.Rows.callWith_type1 (aL (A pos i s U H _ I h) λP d ⟨S,K,f,C,N⟩=> ?_) (by rw [J,g]) (by rw [g];rfl)))
 obtain⟨l,t,Q,O,e,D,j,q⟩:=N
 subst e
 cases C with
 | cons r y=>
  cases y with
  | cons M k=>
   cases k
   cases r
   cases M
   obtain⟨F,rv,pl,_⟩:=f.list D
   obtain⟨w,B,pt,_⟩:=f.tuple j
   have v:=pl.isList
   have m:=pt
   have G:l<d.heap.objs.size:=by obtain⟨o,e,_⟩:=v;exact Ab4 e
   have l2:t<d.heap.objs.size:=by obtain⟨o,e,_⟩:=m;exact Ab4 e
   refine xW v m λT n a2 a3 a4 a5 a6 L=> ?_
   refine wpAny_pyIter_zip n ?_
   refine⟨d.heap.objs.size+4,[d.heap.objs.size+4,d.heap.objs.size+2,d.heap.objs.size+3,d.heap.objs.size,d.heap.objs.size+1],_,_,K,rfl,f.kept L,
    Bl _ _ _ d.heap.objs.size _ l t (LO _ l t G l2),⟨n,a2,⟨_,_,a3⟩,a4,a5⟩,λc u=> ?_,q⟩
   have x:d.heap.objs.size<=c:=by
    simp [Ab2,Ac2,or_false]at u
    rcases u with e | e | e | e | e<;>rw [e]<;>first | exact Aa6 _ | exact Nat.le_add_right _ _
   exact f.cW x (f.aM.fresh x)
end L2
namespace HT
open PySem PyProof.Rows
section
open PySem.SeqAt
open PySem.AutoSeq1 (wpAny_loadPart')
open PySem.MeetsSeq PySem.MeetsSeq2 PySem.MeetsSeq3
def J4 (b:IntsAre us ns)(h): ∃t,us[i]= .int (ns.getD i 0) t/\ns.drop i=ns.getD i 0::ns.drop (i+1):=by
 obtain⟨t,e⟩:=IntsAre.int_at b i us[i] (Aa4 h)
 have a:i<ns.length:=by rw [← b.length];exact h
 refine⟨t,e,?_⟩
 rw [Al8 a,Ab5,Aa4 a]
 rfl
def E2 (l b:Addr) (j f:Array Value) (n T:Nat) (dd J:Option Addr) (sl E:Array (Option Value)) (hsz:j.size=f.size) (C D:List Int) (L:IntsAre j.toList C) (K:IntsAre f.toList D) (k:Nat):
 ∀i:Nat,j.size-i=k->Meets (Builtin.«list.__eq__.loop» ⟨[.ref l,.ref b,rawInt i,rawInt 0],[]⟩)
  (λA R s=>s.heap.get? l=some { cls:= .type "list",dict:=dd,data:= .seq j n,slots:=sl }/\s.heap.get? b=some { cls:= .type "list",dict:=J,data:= .seq f T,slots:=E } ∧
    R (.ok (.ret (.bool (lexLt (C.drop i) (D.drop i))))) s):=by
 have U:j.size=C.length:=by rw [← L.length];simp
 have V:f.size=D.length:=by rw [← K.length];simp
 induction k with
 | zero=>
  intro i S prog w A R s h
  obtain⟨H,g,d,G,I⟩:=s;obtain⟨x,v,h⟩:=h
  wp_walk using wpAny_loadPart' x,wpAny_loadPart' v
  have o:j[((i:Nat):Int).toNat]? =none:=by simp;omega
  have m:f[((i:Nat):Int).toNat]? =none:=by simp;omega
  rw [List.drop_eq_nil_of_le (by omega),List.drop_eq_nil_of_le (by omega),QJ]at h
  rw [o,m]
  wp_walk using wpAny_loadPart' x,wpAny_loadPart' v
  show R (.ok (.ret (.bool (v9 (j.size<f.size))))) _
  rw [hsz]
  simpa using h
 | succ k O=>
  intro i S prog w A R s h
  obtain⟨H,g,d,G,I⟩:=s;obtain⟨x,v,h⟩:=h
  wp_walk using wpAny_loadPart' x,wpAny_loadPart' v
  have y:i<j.size:=by omega
  have p:i<f.size:=by omega
  have o:j[((i:Nat):Int).toNat]? =y0 j[i]:=by simp [y]
  have m:f[((i:Nat):Int).toNat]? =y0 f[i]:=by simp [p]
  have Q:((i:Int)+1)=((i+1:Nat):Int):=by push_cast;rfl
  obtain⟨t,B,M⟩:=J4 L (i:=i) (by simpa using y)
  obtain⟨u,z,N⟩:=J4 K (i:=i) (by simpa using p)
  rw [Array.getElem_toList]at B z
  rw [M,N,cS]at h
  generalize C.getD i 0=a at B h
  generalize D.getD i 0=c at z h
  rw [o,m,B,z]
  obtain⟨e,P,r⟩:=EI A.in1 ⟨H,g,d,G,I⟩ a t c u
  refine wpAny_bind (P prog w _ _ ?_)
  cases e with
  | true=>
   rw [if_pos (r.mp rfl)]at h
   wp_walk
   rw [Q]
   exact⟨plainId_quiet plain_eq_loop _,codeAny_builtin entry_eq_loop (by
    rw [Around.under_plainId plain_eq_loop _]
    exact O (i+1) (by omega) prog w A R _ ⟨x,v,h⟩)⟩
  | false=>
   rw [if_neg (λq=>absurd (r.mpr q) Ab9)]at h
   have F:=Ax A.in1 ⟨H,g,d,G,I⟩ a t c u prog w
   wp_walk using wpAny_loadPart' x,wpAny_loadPart' v
   rw [o,m,B,z]
   wp_walk using F
   simpa using h
def ZT (l b) (items items2) (n n2) (dd dd2) (sl sl2) (hsz:items.size=items2.size) (a c:List Int) (j:IntsAre items.toList a) (i:IntsAre items2.toList c):
 Meets (Builtin.«list.__lt__» ⟨[.ref l,.ref b],[]⟩)
  (λA R s=>s.heap.get? l=some { cls:= .type "list",dict:=dd,data:= .seq items n,slots:=sl }/\s.heap.get? b=some { cls:= .type "list",dict:=dd2,data:= .seq items2 n2,slots:=sl2 } ∧
    R (.ok (.ret (.bool (lexLt a c)))) s):=by
 intro prog w A R s h
 obtain⟨o,g,d,m,p⟩:=s;obtain⟨f,e,h⟩:=h
 have k:=AutoSeq1.sub_list_list
 wp_walk using wpAny_loadPart' f,wpAny_loadPart' e
 exact⟨plainId_quiet plain_eq_loop _,codeAny_builtin entry_eq_loop (by
  exact E2 l b items items2 n n2 dd dd2 sl sl2 hsz a c j i _ 0 rfl prog w A R _ ⟨f,e,by simpa using h⟩)⟩
end
section
variable {prog:Program}{w:World}{A:Around}{E:Value->Shared->Prop}{s:Shared}
def eE (p:s.heap.IsList l items) (m:s.heap.IsList b items2) (hsz:items.size=items2.size) (u:IntsAre items.toList ns) (r:IntsAre items2.toList ms)
 (q:A.units<cLine) (h:Q (.bool (lexLt ns ms)) s):wpAny (model prog w) A (compareOp .Lt (.ref l) (.ref b)) Q E s:=by
 obtain⟨⟨t,dd,j,sl⟩,k,v,n,o⟩:=id p
 obtain⟨⟨i,g,f,c⟩,a,d,y,e⟩:=id m
 subst v o d e
 exact richCompare_meets_room (op:= .Lt) ⟨_,k,rfl⟩ ⟨_,a,rfl⟩ PySem.F.slot_list_lt PySem.F.entry_list_lt (PySem.F.args_list_lt_2 _ _) (ZT l b items items2 n y dd g sl c hsz ns ms u r)
  ⟨k,a,show Value.bool _≠Value.notImplemented/\Q _ s from⟨(λx=>nomatch x),h⟩⟩ q
end
end HT
namespace L2
open PySem PySem.Spec PyProof.Rows
section
variable {X:Cx}
def L6 (K:Aa5):R2:=λx y H Q=> ∃a b c d,x= .ref a/\y= .ref b/\a8 K H a (c.map V.int)/\a8 K H b (d.map V.int)/\c.length=d.length/\Q (.bl (HT.lexLt c d)) H
def uX (m:X.A.units<cLine):bL X (compareOp .Lt) (L6 X.K):=by
 intro e s U H x y v u Q I g p h
 obtain⟨a,b,t,z,rfl,rfl,i,j,w,q⟩:=h
 cases g
 cases p
 obtain⟨o,d,r,_⟩:=I.list i
 obtain⟨f,c,k,_⟩:=I.list j
 have l:=QG d
 have n:=QG c
 have A:=d.length
 have l2:=c.length
 exact HT.eE r.isList k.isList (by simp_all) l n m ⟨.bl _,H,I,rfl,q⟩
end
end L2
set_option maxHeartbeats 8000000
namespace L2
open PySem PySem.Spec PyProof.Rows
open Sem (wp)
abbrev K2:=List (Int ⊕ List Int)
section
variable (prog:Program) (w:World)
inductive jP (h:Heap):K2->List Value->Prop
 | nil:jP h [] []
 | int {i:Int}{t:Tok}{ks:K2}{vs:List Value}:jP h ks vs->jP h (.inl i::ks) (.int i t::vs)
 | tup {l:List Int}{a:Addr}{ks:K2}{vs:List Value}:IsTupleKey (intKind prog w) h l a->jP h ks vs->jP h (.inr l::ks) (.ref a::vs)
end
abbrev WK:=Int×List Int×List Int
def rV (l:List Int):Int:=reduceHash (Builtin.Tuple.tupleHashOf (l.map hashInt))
def Bd (k:WK):Int:=reduceHash (Builtin.Tuple.tupleHashOf [hashInt k.1,rV k.2.1,rV k.2.2])
def Cb (x:WK×Addr×Value):DictEntry:=⟨Bd x.1,.ref x.2.1,x.2.2⟩
noncomputable def DW (a:Addr) (xs:List (WK×Addr×Value)):HO:= .ext λh=>(a==sysModules)=y9/\xs.length<=sizeLine/\(xs.map (·.1)).Nodup/\ ∃o es b,h.get? a=y0 o/\o.ExactDict/\o.data= .dict es b/\es.toList=xs.map Cb
section
variable {X:Cx}{k8:List (Addr×Obj)}{U:St}{H:Hp}{s:Shared}{a b:Addr}{k:WK}{xs:List (WK×Addr×Value)}{r:Value}{A:Around}{E:Value->Shared->Prop}
def Dq (I:Inv X k8 U H s):sysModules<s.heap.objs.size:=by
 have h:=(I.mod.glob.keeps I.bk).lt
 exact Nat.lt_trans (by decide) h
end
open PySem.AutoSeq1 (wpAny_loadPart')
open MeetsSeq MeetsSeq2 MeetsSeq3 SeqRoads2 PySem.SeqAt
open PySem PySem.Spec PyProof.Rows PyProof.Rows.KTD PyProof.V
def AU (K:Aa5) (a:Addr) (T:List (Str×PyData)):Prop:=tabLook flatLooks (λb=>K.lookup b) a T=k9
open PySem PySem.Spec PySem.Calls PySem.W PyProof.Rows
def xL:List Value->Bool
 | []=>y9
 | x::r=>match x with
  | .ref _=>xL r
  | _=>x::r==zw
theorem Wp {P:List Value->Prop}(a:P zw) (h1: ∀c r,P r->P (.ref c::r)): ∀ {l},xL l=k9->P l
 | [],e=>by cases e
 | x::r,e=>by
  unfold xL at e
  split at e
  ·exact h1 _ _ (Wp a h1 e)
  ·rw [beq_iff_eq.mp e];exact a
def QT (self)(e:xL l=k9):refuseLoop self "__setattr__" l=pure ():=
 Wp (P:=fun l=>refuseLoop self "__setattr__" l=pure ()) (PySem.F.store_ValueError.passes self) (fun c r h=>by rw [refuseLoop_ref];exact h) e
def xP (e:xL l=true):l.contains (.type "object")=true:=
 Wp (P:=λl=>l.contains _=k9) (by decide +kernel) (λc r h=>by rw [Al3,h,Bool.or_true]) e
def Bv (e:xL l=true):l.contains (.type "BaseException")=true:=
 Wp (P:=λl=>l.contains _=k9) (by decide +kernel) (λc r h=>by rw [Al3,h,Bool.or_true]) e
def Z7 (e:xL l=k9):l.isEmpty=false:=
 Wp (P:=λl=>l.isEmpty=y9) rfl (λc r h=>rfl) e
def kv (K:Frag) (C:Addr):Bool:=(clsIn K C).any λcd=>xL cd.mro&&cd.hasDict
def va {K:Frag}(h:kv K C=k9): ∃cd,clsIn K C=y0 cd/\xL cd.mro=k9/\cd.hasDict=true:=by
 obtain⟨cd,b,a⟩:=PySem.W.any_some h
 rw [Aa7]at a
 exact⟨cd,b,a.1,a.2⟩
section
variable {prog:Program}{w:World}{A:Around}{E:Value->Shared->Prop}{s:Shared}{K:Frag}{x C t:Addr}{f:Str}{u:Value}
def Lw (X:K.In s.heap) (j:s.heap.get? x=some (fB C t none)) (N:kv K C=true) (H:findIn K (.ref C) "__setattr__" =some (some (.builtin "object.__setattr__"))) (G:findIn K (.ref C) f=some none)
 (h: ∀h',(∀ b o,b≠x->s.heap.get? b=y0 o->h'.get? b=y0 o)->h'.get? x=y0 (fB C t (y0 s.heap.objs.size))->h'.Ns1 s.heap.objs.size (λy=>if y=f then y0 u else u0)->Q () { s with heap:=h',toks:=s.toks+2 }):
 wpAny (model prog w) A (setAttr (.ref x) f u) Q E s:=by
 obtain⟨cd,q,l,B⟩:=va N
 have I:PySem.W.InstAt s.heap x _ C none:=⟨j,rfl,rfl,trivial⟩
 refine PySem.W.set_plain X I H ?_
 have i:=PySem.F.store_object
 have sub:Looks (model prog w) s.heap (isInstance (.ref x) (.type "object")) true:=I.type.andThen (looks_mroIn X (by unfold mroIn;rw [q,Option.bind_some,if_neg (by rw [Z7 l];decide),xP l]))
 have F:Looks (model prog w) s.heap (mroOf (.ref C)) cd.mro:=(looks_clsIn X q).andThen .now
 have D:=looks_findIn (M:=model prog w) X G
 refine codeAny_call_builtin i.slot.plain i.entry (@check_slot (model prog w) _ _ { s with toks:=s.toks+1 } "object.__setattr__" "object" "__setattr__" (.ref x) [.str f s.toks,u] [] _ i.kind i.split sub (i.args (.ref x) (.str f s.toks) u) ?_)
 rw [osa_eq,refuse_eq]
 refine wpAny_bind (wpAny_bind (I.type.here (s:= { s with toks:=s.toks+1 }) (wpAny_bind (F.here (s:= { s with toks:=s.toks+1 }) ?_))))
 rw [QT _ l]
 refine wpAny_pure (wpAny_bind (I.type.here (s:= { s with toks:=s.toks+1 }) (wpAny_bind (D.here (s:= { s with toks:=s.toks+1 }) (wpAny_bind (wpAny_pure ?_))))))
 have g:(s.heap.push { cls:= .type "dict",data:= .dict #[] }).get? x=some _:=Heap.get?_push_of_some _ j
 have c:=Ac3 (Ab4 j)
 refine wpAny_bind (wpAny_pure (wpAny_bind (wpAny_bind (wpAny_loadPart j (wpAny_bind (PySem.W.Looks.here (PySem.W.looks_clsIn X q) ?_))))))
 rw [B]
 have p:((s.heap.push { cls:= .type "dict",data:= .dict #[] }).update x fun o=> { o with dict:=some s.heap.objs.size }).get? s.heap.objs.size=some { cls:= .type "dict",data:= .dict #[] }:=
  (An2 _ _ _ _ c.symm).trans (Ab6 _ rfl)
 have k:((s.heap.push { cls:= .type "dict",data:= .dict #[] }).update x fun o=> { o with dict:=some s.heap.objs.size }).Ns s.heap.objs.size (fun _=>none):=
  ⟨_, #[],_,p,rfl,λe J=>absurd J (by simp),λ_=>rfl⟩
 refine wpAny_bind (wpAny_alloc (wpAny_bind (wpAny_update g (wpAny_pure ?_))))
 refine wpAny_bind (wpAny_pure (wpAny_bind (wpAny_nsSet1 (Heap.Ns1.of_empty k) λh' d a=> ?_)))
 obtain⟨O,L,v,n,r,m⟩:=d.count (PySem.Within.cons f u PySem.Within.nil)
 refine wpAny_bind (wpAny_lookBehind n (by rw [r];exact pastItsLine_dict (Ac m (by rw [Ab7,Ak5,sizeLine_eq];omega))) ?_)
 refine wpAny_pure (h h' (λb o z e=> ?_) ?_ d)
 ·exact(a.2 b (Ac3 (Ab4 e))).trans ((An2 _ _ _ _ z).trans (Aa2 _ e))
 ·exact(a.2 x c).trans (Ai0 _ g rfl)
end
noncomputable def ZG (K:Frag) (C:Addr):Bool:=match K.lookup C with
 | some ⟨.type "type",_,.cls cd,sl⟩=>(match cd.mro,sl.toList with
  | .ref c::a,[_,_,_,_,y0 (.builtin n),_]=>c==C&&(n== "ValueError.__new__" &&(!cd.hasDel&&(tailIn K zw a&&nsOkIn K cd.ns)))
  | _,_=>y9)
 | _=>y9
def qB {K:Frag}(X:K.In h) (q:ZG K C=k9):
 ∃j g nm c bs b sn sub ab col dd k0 k1 k2 k3 k5 mN,h.get? C=y0 (excClassObj nm c C g bs j b sn sub ab col dd k0 k1 k2 k3 k5 "ValueError.__new__")/\h.Ns g mN/\OwnTail h zw j:=by
 unfold ZG at q
 split at q
 next dd cd sl o=>
  split at q
  next s p k0 k1 k2 k3 nn k5 i r=>
   simp only [Aa7,beq_iff_eq,An9]at q
   obtain⟨rfl,rfl,f,n,e⟩:=q
   obtain⟨nm,bs,k,d,c,b,sn,sub,ab,col,m⟩:=cd
   dsimp only at i f e
   subst i f
   have a:sl= #[k0,k1,k2,k3,y0 (.builtin "ValueError.__new__"),k5]:=by
    cases sl with
    | mk l=>exact congrArg Array.mk r
   subst a
   exact⟨p,d,nm,c,bs,b,sn,sub,ab,col,dd,k0,k1,k2,k3,k5,_,X _ _ o,.of_isNs (isNs_of_in X e),tail_of_in X n⟩
  next=>cases q
 next=>cases q
section
variable {prog:Program}{w:World}{A:Around}{E:Value->Shared->Prop}{h:Heap}{g:Array GenState}{d:Drawn}{t:Nat}{os:OsState}{K:Frag}{C fI:Addr}
def qP (h:Heap) (C:Addr) (rest:List Value):Heap:=(h.push { cls:= .type "tuple",data:= .seq rest.toArray }).push (fB C h.objs.size none)
def xx {rest:List Value}(e:h.get? b=y0 o):(qP h C rest).get? b=y0 o:=Aa2 _ (Aa2 _ e)
def WZ {rest:List Value}:(qP h C rest).get? (h.objs.size+1)=y0 (fB C h.objs.size u0):=by
 have:=Heap.get?_push_size (h.push { cls:= .type "tuple",data:= .seq rest.toArray }) (o:=fB C h.objs.size none) rfl
 rwa [Ag1]at this
def Ar {rest:List Value}{Q:Value->Shared->Prop}(X:K.In h) (u:ZG K C=true) (s:findIn K (.ref C) "__init__" =some (some (.ref fI))) (q:typeIn K (.ref fI)=some (.type "function")) (c:rest.length<=sizeLine)
 (p:wpAny (model prog w) (A.under (.builtin "type.__call__" ⟨.ref C::rest,[]⟩)) (call (.ref fI) (.ref (h.objs.size+1)::rest)) (fun r s'=>r= .none/\Q (.ref (h.objs.size+1)) s') E ⟨qP h C rest,g,d,t,os⟩):
 wpAny (model prog w) A (call (.ref C) rest) Q E ⟨h,g,d,t,os⟩:=by
 obtain⟨v,H,L,N,bs,m,I,sub,G,y,dd,P,U,R,S,J,D,a,O,T⟩:=qB X u
 have F:=PySem.F.excBase_ValueError
 have V:=tc_lookup
 have z:=tc_bind (.ref C)
 have B:(⟨h,g,d,t,os⟩:Shared).TypeIs (.ref C) "type" :=⟨_,a,rfl⟩
 refine wpAny_call (codeAny_of_tree ?_)
 show wpAny _ _ _ _ _ _
 repeat (any_goals (first | assumption | with_reducible refine wpAny_loadPart_at a ?_ | wp_step))
 refine⟨rfl,codeAny_call_builtin_at (Code.quiet_builtin _ (by decide +kernel)) entry_typeCall (wpAny_check_type_call_sub a ?_)⟩
 repeat (first | with_reducible refine wpAny_loadPart_at a ?_ | with_reducible refine wpAny_madeBy_exc a ?_ | wp_step)
 refine codeAny_call_builtin_code (Code.quiet_builtin _ F.quiet) (wpAny_check_new_subT F T a (codeAny_exc_new_subT F T a ?_ c))
 show wpAny _ _ _ _ _ ⟨qP h C rest,g,d,t,os⟩
 have k:K.In (qP h C rest):=λb o e=>xx (X b o e)
 have f:=xx (C:=C) (rest:=rest) a
 have i:(qP h C rest).get? (h.objs.size+1)=y0 { cls:= .ref C,data:= .fields #[.ref h.objs.size,.none,.none,.none,.bool y9,.none] }:=WZ
 have j:(Value.ref C::v).contains (.ref C)=true:=by simp
 unfold isInstance
 repeat (first | with_reducible refine wpAny_loadPart_at i ?_ | (with_reducible refine wpAny_isSubtype_exc f ?_;rw [j]) | wp_step)
 show wpAny _ _ (typeLookup (.ref C) _) _ _ _
 refine(looks_findIn (M:=model prog w) k s).at ?_
 refine wpAny_holding (wpAny_bind ((bind_fn (M:=model prog w) k (.ref (h.objs.size+1)) q).at ?_))
 refine wpAny_bind (wpAny_mono p (λr s' n=> ?_) λ_ _ x=>x)
 obtain⟨rfl,l⟩:=n
 wp_walk
 exact l
end
def fU (x C t:Addr) (a:Option Addr):HO:= .ext λh=>h.get? x=y0 (fB C t a)
def vX (e:h.get? x=y0 (fB C t od)):aO P w H h x (fU x C t od):=⟨e,⟨_,e⟩,λ_ _ z k=>k _ z⟩
def iD (H:Hp) (x:Addr):Hp:=λb=>if b=x then u0 else H b
def oj (h:b≠x):iD H x b=H b:=if_neg h
def W3 :iD H x x=none:=if_pos rfl
section
variable {X:Cx}{k8:List (Addr×Obj)}{U:St}{H:Hp}{s:Shared}
def Inv.forget (I:Inv X k8 U H s) (a:H x=y0 (.ext g)):Inv X k8 U (iD H x) s:=by
 have ne: ∀b o,H b=y0 o->(∀ g,o≠ .ext g)->iD H x b=y0 o:=λb o q n=>by
  rw [oj (λe=>by rw [e,a]at q;cases q;exact n _ rfl)];exact q
 have nn: ∀b,H b=u0->iD H x b=none:=λb q=>by
  unfold iD
  split
  ·rfl
  ·exact q
 refine⟨I.ok,I.os,I.bare,⟨I.base.keep,I.base.slot,λb u e n a=>nn b (I.base.free b u e n a),I.base.there,λb f q=>ne b _ (I.base.cA b f q) (λ_ z=>by cases z),λb u v q=>ne b _ (I.base.cu b u v q) (λ_ z=>by cases z),λb i q=> ?_⟩,
  I.loc,I.cell,nn _ I.free,λy c q=>nn _ (I.bz y c q),λp k=> ?_,λb u q=> ?_,I.len⟩
 ·obtain⟨more,j⟩:=I.base.cH b i q
  exact⟨more,ne b _ j (λ_ z=>by cases z)⟩
 ·obtain⟨h,a2,a3⟩:=I.pin p k
  exact⟨h,nn _ a2,a3⟩
 ·by_cases d:b=x
  ·rw [d,W3]at q;cases q
  ·rw [oj d]at q
   exact(I.aM b u q).cn (λ_ _ _ z=>z) (λc z=>ne c _ z (λ_ z=>by cases z)) λc f z=>ne c _ z (λ_ z=>by cases z)
def Inv.stored (I:Inv X k8 U H s) (j:H x=y0 (fU x C t u0)) (p:RelV y u) (k: ∀b o,b≠x->s.heap.get? b=y0 o->h'.get? b=y0 o)
 (e:h'.get? x=y0 (fB C t (y0 s.heap.objs.size))) (n:h'.Ns1 s.heap.objs.size (λz=>if z=f then y0 u else u0)):
 Inv X k8 U (aI (aI H s.heap.objs.size (.xd [(f,y)])) x (fU x C t (y0 s.heap.objs.size))) { s with heap:=h',toks:=t' }:=by
 have d:=(I.aM x _ j).1
 have c:=Ac3 (Ab4 d)
 have m:(h'.update x λ_=>fB C t u0).get? x=y0 _:=Ai0 _ e rfl
 have i: ∀b,b≠x->(h'.update x λ_=>fB C t u0).get? b=h'.get? b:=λb a=>An2 _ _ _ _ a
 have l:=I.laid (o:= .xd [(f,y)]) (t':=t') (λb o q=>by
  by_cases a:b=x
  ·subst a;rw [d]at q;cases q;exact m
  ·rw [i b a];exact k b o a q) (Aa6 _) ⟨_,n.at λo q=>(by rw [i _ c.symm];exact q),λg=>by
   by_cases h:g=f
   ·rw [if_pos h]
    subst h
    show dB (match g==g with | true=>y0 y | false=>u0) _
    rw [beq_self_eq_true]
    exact p
   ·rw [if_neg h]
    show dB (match g==f with | true=>y0 y | false=>u0) _
    rw [beq_eq_false_iff_ne.mpr h]
    exact trivial⟩
 refine l.write (by rw [ja c,j];exact True.intro) (.inl rfl) (λb o a q=> ?_) ⟨_,e⟩ (vX e)
 exact(i b a).symm.trans q
end
structure ni (K:Frag) (C:Addr) (f:Str):Prop where
 cls:ZG K C=k9
 ov:kv K C=k9
 sa:findIn K (.ref C) "__setattr__" =some (some (.builtin "object.__setattr__"))
 no:findIn K (.ref C) f=y0 u0
 kp:keepIn K (.ref C)=k9
def FK (K:Frag) (b c:TE) (f:Str):TS:=λD U H=>c U H λy H1=>b U H1 λx H2=> ∃a C t,x= .ref a/\H2 a=y0 (fU a C t u0)/\ni K C f/\ ∀dx,H2 dx=u0->dx≠a->D.nx U (aI (aI H2 dx (.xd [(f,y)])) a (fU a C t (y0 dx)))
def B9 (n:PE X o ta) (v:PE X value tv) (w:swapsWith value (y0 (.Attribute o f pos')) pos.line X.env=pure y9):PS X (.Assign [.Attribute o f pos'] value pos) (FK X.K ta tv f):=by
 intro b s U H D I h
 refine plainObj_wpAny_Assign_Attribute (aL (v b s U H _ I h) λu A ⟨y,z,j,p,q⟩=>aL (n b A U z _ j q) λr E ⟨x,B,g,l,a,C,t,ex,i,c,m⟩=> ?_) w
 subst ex
 obtain rfl:r=Value.ref a:=l
 have d:=(g.aM a _ i).1
 exact Lw g.bM d c.ov c.sa c.no λF k e hn=>⟨U,_,g.stored i p k e hn,m _ (g.aM.fresh (Aa6 _)) (Al7 (Ab4 d))⟩
def HL (K:Frag) (f:Str):Sp:=λb H Q _=> ∃a v C t,b= [.ref a,v]/\H a=y0 (fU a C t u0)/\ni K C f/\ ∀dx,H dx=u0->dx≠a->Q .av (aI (aI H dx (.xd [(f,v)])) a (fU a C t (y0 dx)))
structure Z1 (K:Frag) (f:Str) (fI:Addr) (fd:FuncData) (ps:List Str):Prop where
 ex: ∃x y8 st N n1 n2 p1 p2 p3 p4,gD K x y8 st fI fd/\ps= [n1,n2]/\N= [n1,n2]/\Qp N ps (Qb st)/\Xe st= [.Assign [.Attribute (.Name n1 p1) f p2] (.Name n2 p3) p4]/\(n1==("__debug__" :Str))=false/\(n2==("__debug__" :Str))=false ∧
  (n1==("__classdict__" :Str))=false/\(n2==("__classdict__" :Str))=false
 bd:Binds K fd ps []
 fn:typeIn K (.ref fI)=y0 (.type "function")
def DD {K:Frag}(Z:Z1 K f fI fd ps):bp P w K mg base (cv P w) 1 fI fd ps (HL K f):=by
 obtain⟨x,j,I,N,d,g,L,G,D,J,F,rfl,rfl,S,k,n,p,u,l⟩:=Z.ex
 refine gD.tR F S (λo H Q E ⟨a,v,C,t,e,_⟩=>by subst e;rfl) ?_
 rintro B A b s H o Q E h ⟨a,v,C,t,e,r,c,q⟩
 subst e
 rw [k]
 have y:iL _ d:=(S.par d (by simp)).elim .inl λz=> .inr (.inl z)
 have m:iL _ g:=(S.par g (by simp)).elim .inl λz=> .inr (.inl z)
 refine⟨_,ET (B9 (Ql (i:=0) rfl y n u) (Ql (i:=1) rfl m p l) rfl),?_⟩
 exact⟨v,rfl,.ref a,rfl,a,C,t,rfl,r,c,q⟩
def Mi {M:Model}{A:Around}{E:Value->Shared->Prop}{s:Shared}{env:Env}{v:Sem Value}{K:Frag}{C:Addr}{Q:Flow->Shared->Prop}(m:ZG K C=k9) (q:A.handled=u0)
 (h:wpAny M A v (λv a=> ∃e t b,v= .ref e/\K.In a.heap/\a.heap.get? e=y0 (fB C t b)/\E (.ref e) a) E s):wpAny M A (raiseStmt env (y0 v) u0) Q E s:=by
 refine wpAny_bind (wpAny_mono h (λv a l=> ?_) λ_ _ x=>x)
 obtain⟨e,t,b,rfl,X,n,k⟩:=l
 obtain⟨o,w,B,D,bs,j,y,sub,u,p,dd,I,O,J,N,z,r,i,G,T⟩:=qB X m
 have c:(Value.ref C::o).contains (.type "BaseException")=true:=by rw [List.contains_cons,T.hasType PySem.F.excBase_ValueError.hasBase,Bool.or_true]
 have f:a.heap.get? e=y0 { cls:= .ref C,dict:=b,data:= .fields #[.ref t,.none,.none,.none,.bool y9,.none] }:=n
 obtain⟨H,g,d,F,L⟩:=a
 repeat (first | with_reducible refine wpAny_loadPart_at f ?_ | with_reducible refine wpAny_loadPart_at i ?_ | (with_reducible refine wpAny_isSubtype_exc i ?_;rw [c]) | wp_step)
 exact wpAny_raiseNew_none q k
section
variable {P:Program}{w:World}{K:Frag}{mg:Str->Option Value}{base:Heap}{N:List Str}{y8:Str}{scope:Scope}{f:Addr}{cd:Value}{A:Around}{outer:List Env}{s:Shared}{H:Hp}{E:XK}
def uS (C:Addr) (a:Str) (E:XK) (t:TA):TS:=λ_ U H=>t U H λb H1=> ∃v,b= [v]/\ ∀dx,H1 dx=u0->E (.ref C) (y0 dx) (aI H1 dx (.xd [(a,v)]))
def AI (p:ni K C fl) (hi:findIn K (.ref C) "__init__" =some (some (.ref fI))) (Z:Z1 K fl fI fd ps) (R:mg x=some (.ref C)) (hg:Gl (jO (cv P w) P w K mg base N y8 scope f cd A outer s H E) x)
 (X:bg 2 (A.deeper (envOfC y8 scope s.heap.objs.size f cd))) (S:PA (jO (cv P w) P w K mg base N y8 scope f cd A outer s H E) [e] t)
 (he:starEach [e] (envOfC y8 scope s.heap.objs.size f cd)=(false,eval e (envOfC y8 scope s.heap.objs.size f cd))::starEach [] (envOfC y8 scope s.heap.objs.size f cd):=by rfl) (Y:(x==("__debug__" :Str))=false:=by decide):
 PS (jO (cv P w) P w K mg base N y8 scope f cd A outer s H E) (.Raise (y0 (.Call (.Name x np) [e] [] k7)) u0 pos) (uS C fl E t):=by
 intro l s1 U H1 D I h
 rw [arm_exec_Raise]
 refine wpAny_bind (wpAny_standAt (Mi p.cls (I.ok.hd rfl) ?_))
 refine wpAny_bind (wpAny_mono (wpAny_Call_Name_kw (jx I hg R ?_ Y)) (λv s3 h3=>wpAny_bind (wpAny_standAt (wpAny_pure h3))) λ_ _ x=>x)
 refine callWith_K I.ok.mod.kO p.kp (aL (S k7 l s1 U H1 _ I h) λV a ⟨vs,i,j,r,v,L,q⟩=>⟨j.bM,?_⟩) he rfl
 subst L
 obtain⟨u,rfl,B⟩: ∃u,V= [u]/\RelV v u:=by
  cases r with
  | cons B T=>cases T;exact⟨_,rfl,B⟩
 have y:=j.laid (h':=qP a.heap C [u]) (t':=a.toks) (λb o z=>xx z) (Ah7 _) (vX WZ)
 have d:i _=none:=j.aM.fresh (Ah7 _)
 refine Ar j.bM p.cls hi Z.fn (show 1<=sizeLine by rw [sizeLine_eq];decide) ?_
 have F:=DD (P:=P) (w:=w) (mg:=mg) (base:=base) Z
 have hl:ps.length=2:=by obtain⟨_,_,_,_,_,_,_,_,_,_,_,rfl,_⟩:=Z.ex;rfl
 refine wpAny_call (codeAny_mono (F.run _ (envOfC y8 scope s.heap.objs.size f cd::outer) _ _ ⟨[.ref (a.heap.objs.size+1),u],[]⟩ [.ref (a.heap.objs.size+1),u] [.ref (a.heap.objs.size+1),v]
  (λM J=>M= .av/\ ∃c,i c=u0/\c≠a.heap.objs.size+1/\J=aI (aI (aI i (a.heap.objs.size+1) (fU (a.heap.objs.size+1) C a.heap.objs.size u0)) c (.xd [(fl,v)])) (a.heap.objs.size+1) (fU (a.heap.objs.size+1) C a.heap.objs.size (y0 c)))
  (λ_ _ _=>False) (X.make C [u] []) (y.i8.make C [u] []) (by
    have:=Z.bd ⟨qP a.heap C [u],a.gens,a.drawn,a.toks,a.os⟩ [.ref (a.heap.objs.size+1),u] y.bM (by rw [Af1,hl];rfl)
    rwa [Af1]at this) (.cons rfl (.cons B .nil)) ⟨_,v,C,a.heap.objs.size,rfl,wb,p,λc z ne=>⟨rfl,c,by rw [ja ne]at z;exact z,ne,rfl⟩⟩) λres s' k=> ?_)
 cases res with
 | error L=>
  obtain⟨_,_,_,_,_,_,_,_,_,_,_,_,_,_,_,z⟩:=k
  exact z.elim
 | ok G=>
  cases G with
  | ret u'=>
   obtain⟨M,J,m,rv,rfl,c,z1,O,rfl⟩:=y.after k
   refine⟨rv,_,a.heap.objs.size,y0 c,rfl,m.bM,(m.aM _ _ wb).1,?_⟩
   have Q:=m.forget wb
   have W:iD (aI (aI (aI i (a.heap.objs.size+1) (fU (a.heap.objs.size+1) C a.heap.objs.size u0)) c (.xd [(fl,v)])) (a.heap.objs.size+1) (fU (a.heap.objs.size+1) C a.heap.objs.size (y0 c))) (a.heap.objs.size+1)=aI i c (.xd [(fl,v)]):=by
    funext b
    by_cases n:b=a.heap.objs.size+1
    ·rw [n,W3,ja (Ne.symm O),d]
    ·rw [oj n,ja n]
     by_cases g:b=c
     ·rw [g,wb,wb]
     ·rw [ja g,ja g,ja n]
   rw [W]at Q
   refine jH Q (m.aM _ _ wb).1 (Heap.get?_none_of_le (Ac j.sz (Ah7 _))) ?_ (q c z1)
   rw [ja (Ne.symm O),d]
  | next=>exact False.elim k
  | brk=>exact False.elim k
  | cont=>exact False.elim k
end
section
variable {prog:Program}{w:World}{A:Around}{E:Value->Shared->Prop}{s:Shared}{K:Frag}{x C dx:Addr}{fl:Str}{u:Value}{ox:Obj}{mA:Str->Option Value}
def Ih (X:K.In s.heap) (r:s.heap.get? x=y0 ox) (L:ox.cls= .ref C) (B:notCls ox=k9) (v:ox.dict=y0 dx) (p:s.heap.Ns1 dx mA) (D:mA fl=y0 u) (P:handedIn u=k9) (O:kv K C=k9) (G:findIn K (.ref C) fl=y0 u0)
 (f:findIn K (.ref C) "__getattribute__" =some (some (.builtin "BaseException.__getattribute__"))) (N:findIn K (.ref C) "__getattr__" =some none)
 (h:Q u { s with toks:=s.toks+1 }):wpAny (model prog w) A (getAttr (.ref x) fl b) Q E s:=by
 obtain⟨cd,a,c,i⟩:=va O
 obtain⟨n,g,d,t,J⟩:=s
 dsimp only at X r p h
 obtain⟨y,l,e⟩:=xQ p
 have I:PySem.W.InstAt n x ox C (y0 y):=⟨r,L,B,by rw [v];exact l⟩
 have m:findObj K C _ fl=y0 _:=PySem.W.findObj_own (by unfold hasDictIn;rw [a];exact i) G rfl (by rw [e,D])
 have o:=I.type (M:=model prog w)
 have F:=looks_findIn (M:=model prog w) X f
 have z:=looks_findIn (M:=model prog w) X N
 have H:=looks_find (M:=model prog w) X I m
 have sub:Looks (model prog w) n (isInstance (.ref x) (.type "BaseException")) true:=I.type.andThen (looks_mroIn X (by unfold mroIn;rw [a,Option.bind_some,if_neg (by rw [Z7 c];decide),Bv c]))
 have q:=PySem.F.attrBase_ValueError
 have R:=q.ga.bind (.ref x)
 have k:(b&&onTheHeap (Value.builtin "BaseException.__getattribute__"))=false:=by cases b<;>rfl
 unfold getAttr getAttrBy
 refine wpAny_bind (wpAny_mkText (wpAny_holding (wpAny_bind (o.at (wpAny_bind (F.at ?_))))))
 have j:(Value.builtin "BaseException.__getattribute__" ==Value.builtin "object.__getattribute__")=false:=by decide +kernel
 dsimp only
 rw [j,Bool.and_false,if_neg (by decide)]
 unfold getAttrByItsOwn hookBefore
 refine wpAny_bind (z.at (wpAny_bind (wpAny_attempt (wpAny_holding ?_))))
 unfold callGetattribute
 rw [k,if_neg (by decide)]
 repeat (any_goals (first | assumption | wp_step))
 refine codeAny_call_builtin q.ga.plain PySem.F.entry_bexc_ga (@check_slot (model prog w) _ _ ⟨n,g,d,t+1,J⟩ "BaseException.__getattribute__" "BaseException" "__getattribute__" (.ref x) [.str fl t] [] _ (by decide +kernel) (by decide +kernel) sub (PySem.F.args_bexc_ga (.ref x) (.str fl t)) ?_)
 refine wpAny_bind (wpAny_pure (wpAny_bind (wpAny_pure (wpAny_bind (o.at (wpAny_bind (H.at ?_)))))))
 refine wpAny_pure ?_
 show wpAny _ _ (handedOut u) _ _ _
 rw [handedOut_of P]
 exact wpAny_pure h
end
structure l4 (K:Frag) (C:Addr) (f:Str):Prop where
 ov:kv K C=k9
 no:findIn K (.ref C) f=y0 u0
 ga:findIn K (.ref C) "__getattribute__" =some (some (.builtin "BaseException.__getattribute__"))
 gh:findIn K (.ref C) "__getattr__" =some none
def BR (K:Frag) (b:TE) (f:Str):TE:=λU H Q=>b U H λx H1=> ∃a C dx v,x= .ref a/\H1 a=y0 (fA a C (y0 dx))/\H1 dx=y0 (.xd [(f,v)])/\l4 K C f/\Q v H1
def BE (A:PE X e ta) (p:attributeBase e f X.env (eval e X.env)=eval e X.env):PE X (.Attribute e f pos) (BR X.K ta f):=by
 intro b s U H Q I h
 refine Dp p (aL (A b s U H _ I h) ?_)
 rintro u E ⟨x,B,d,m,a,C,i,v,ex,z,w,c,q⟩
 subst ex
 obtain rfl:u=Value.ref a:=m
 obtain⟨o,F,D,hn,t⟩:=(d.aM a _ z).1
 obtain⟨k,n,r⟩: ∃k,E.heap.Ns1 i k/\ ∀g,dB _ _:=d.aM i _ w
 have l:=r f
 rw [show List.lookup f [_]=y0 v by simp [List.lookup]]at l
 obtain⟨G,y,j⟩:=dB.some_of l
 exact Ih d.bM F D hn (t i rfl) n y (yX j) c.ov c.no c.ga c.gh ⟨v,B,d.tok _,j,q⟩
def dI (ks:List Int):HO:= .dK (ks.map λk=>(.inl k,.bl k9))
def fk (ks:List Int):List (dG×Value):=ks.map λk=>(.inl k,.bool k9)
theorem vD: ∀ {ks}{c},KV (ks.map λk=>((.inl k:dG),V.bl k9)) c->c=fk ks
 | [],_,.nil=>rfl
 | k::ks,(a,b)::c,.cons r t=>by
  obtain⟨d,e⟩:=r
  dsimp only at d e
  subst d
  cases (e)
  rw [vD t]
  rfl
theorem vK: ∀ks:List Int,KV (ks.map λk=>((.inl k:dG),V.bl k9)) (fk ks)
 | []=> .nil
 | k::ks=> .cons ⟨rfl,rfl⟩ (vK ks)
def sg (ks) (k):(valueAt (fk ks) (.inl k)).isSome=ks.contains k:=by
 unfold valueAt fk
 rw [Option.isSome_map,List.find?_map,Option.isSome_map]
 induction ks with
 | nil=>rfl
 | cons a ks b=>
  rw [List.find?_cons,Al3]
  by_cases h:a=k
  ·subst h;simp
  ·have c:=beq_eq_false_iff_ne.mpr λe=>h e.symm
   rw [c,Bool.false_or,←b]
   simp [h]
def mS (ks:List Int) (k:Int):List Int:=if ks.contains k then ks else ks++ [k]
def Fz (ks) (k):stored (fk ks) (.inl k) (.bool k9)=fk (mS ks k):=by
 have e:(fk ks).any (λc=>c.1= .inl k)=ks.contains k:=by
  unfold fk
  rw [List.any_map]
  induction ks with
  | nil=>rfl
  | cons a ks b=>
   rw [Af2,Al3,b]
   by_cases h:a=k
   ·subst h;simp
   ·have: ¬k=a:=λe=>h e.symm
    simp [h,this]
 unfold stored mS
 rw [e]
 by_cases h:ks.contains k=k9
 ·rw [if_pos h,if_pos h]
  unfold fk
  rw [Ac6]
  refine Ae λa _=> ?_
  simp only [Function.comp]
  split<;>rfl
 ·rw [if_neg h,if_neg h]
  simp [fk]
section
variable {X:Cx}{k8:List (Addr×Obj)}{U:St}{H:Hp}{s:Shared}{a:Addr}{k:Int}{ks:List Int}{u r:Value}{A:Around}{E:Value->Shared->Prop}
def nP (I:Inv X k8 U H s) (e:H a=y0 (dI ks)):ks.length<=sizeLine/\(a==sysModules)=y9/\s.heap.DictOf (qL X.prog X.w) a (fk ks):=by
 obtain⟨z,c,d,b,dd⟩:=(show aO X.prog X.w H s.heap a (dI ks)from I.aM a _ e)
 rw [Aa]at z
 rw [vD b]at dd
 exact⟨z,c,dd⟩
def L9 (I:Inv X k8 U H s) (e:H a=y0 (dI ks)) (c:RelV (.int k) u) (h: ∀s',Inv X k8 U H s'->Q (.bool (ks.contains k)) s'):wpAny (model X.prog X.w) A (compareOp .In u (.ref a)) Q E s:=by
 obtain⟨z,b,dd⟩:=nP I e
 obtain⟨t,rfl⟩:=c
 refine wpAny_in_of (Wt _ _ k t) b dd.mapOf ?_
 rw [sg]
 exact h _ (I.tok _)
def DV (I:Inv X k8 U H s) (e:H a=y0 (dI ks)) (c:RelV (.int k) u) (h: ∀s',Inv X k8 U H s'->Q (.bool (!ks.contains k)) s'):wpAny (model X.prog X.w) A (compareOp .NotIn u (.ref a)) Q E s:=by
 obtain⟨z,b,dd⟩:=nP I e
 obtain⟨t,rfl⟩:=c
 refine wpAny_notIn_of (Wt _ _ k t) b dd.mapOf ?_
 rw [sg]
 exact h _ (I.tok _)
def HC (I:Inv X k8 U H s) (e:H a=y0 (dI ks)) (j:RelV (.int k) u) (n:ks.length<sizeLine) (h: ∀s',Inv X k8 U (aI H a (dI (mS ks k))) s'->Q () s'):wpAny (model X.prog X.w) A (setItem (.ref a) u (.bool k9)) Q E s:=by
 obtain⟨z,i,dd⟩:=nP I e
 obtain⟨t,rfl⟩:=j
 refine wpAny_setItem_pairs (hsz:=by unfold fk;rw [Aa];exact z) (Wt _ _ k t) dd λf b l=>h _ ?_
 rw [Fz]at b
 have m: ∃q,f.get? a=y0 q:=let ⟨q,_,_,g,_⟩:=b; ⟨q,g⟩
 refine I.write (by rw [e];exact True.intro) (.inl rfl) (λd q c z=>(l.2 d c).trans z) m ⟨?_,i,_,vK _,b⟩
 rw [Aa]
 unfold mS
 split
 ·exact z
 ·rw [Ab0,Ag];lia
def Bt:TE:=λ_ H Q=> ∀p,H p=u0->Q (.ref p) (aI H p (dI []))
def Ei :PE X (.Dict [] [] pos) Bt:=λa s U H Q I h=>
 wpAny_Dict_empty ⟨.ref s.heap.objs.size,_,I.laid (o:=dI []) (λ_ _ q=>Aa2 _ q) (Aa6 _) ⟨Ah5 _,beq_eq_false_iff_ne.mpr (Ne.symm (Ac3 (Dq I))),[],.nil,Heap.DictOf.new _⟩,rfl,h _ (I.aM.fresh (Aa6 _))⟩
end
def Fl (K:Frag) (W:Addr) (d:Sp) (t:TA) (i b c:Nat):TS:=λD U H=>t U H λf H1=>d f H1 (λy H2=>D.nx (U.set i (y0 y)) H2) λa e H2=> ∃C,a= .ref C/\gd K C/\kitCls K (.ref C) (.ref W)=y0 k9 ∧
 ∀x,H2 x=u0->D.nx (((U.set b (y0 (.ref x))).set c (y0 (.ref x))).set b u0) (aI H2 x (fA x C e))
def Er (a:TT) (t u:TS):TS:=λD U H=>a U H λb H1=>if b then t D U H1 else u D U H1
def Ek {X:Cx}{k:Nat}{f W:Addr}{Y:FuncData}{C:List Str}{T:Sp}{fx o n v m:Str}{i V R:Nat}{p l wp vp Z S hp gp aq:Pos}{e:Expr}{es:List Expr}{t:TA}
 (hX: ∀a b, ¬X.xe a b) (N:X.stack=X.env::X.outer) (hf:X.env.frame=y0 X.env.locals) (G:X.ex= []) (F:bp X.prog X.w X.K X.mg X.base (cv X.prog X.w) k f Y C T) (hr:bg k X.A) (hg:Gl X fx) (hm:X.mg fx=y0 (.ref f))
 (hk:keepIn X.K (.ref f)=true) (hb:Binds X.K Y C []) (ha:PA X (e::es) t) (hW:Gl X o) (L:X.mg o=some (.ref W)) (w:mroIn X.K W (.type "BaseException")=some true) (hN:X.N.Nodup) (hi:X.N[i]? =some m) (d:X.env.scope.names.lookup m=some .local) (M:X.N[V]? =some n) (K:X.env.scope.names.lookup n=some .local)
 (Q:X.N[R]? =y0 v) (x:X.env.scope.names.lookup v=y0 .local)
 (hs:swapsWith (.Call (.Name fx p) (e::es) [] l) (y0 (.Name m gp)) aq.line X.env=pure false:=by rfl) (J:swapsWith (.Name n Z) (y0 (.Name v vp)) S.line X.env=pure false:=by rfl)
 (B:(fx==("__debug__" :Str))=false:=by decide) (A:(o==("__debug__" :Str))=false:=by decide) (E:(n==("__debug__" :Str))=false:=by decide) (he:starEach (e::es) X.env=(false,eval e X.env)::starEach es X.env:=by rfl) (O:(backTo l (starEach es X.env)).any (·.1)=false:=by rfl):
 bU X o n v wp vp Z S hp (.Assign [.Name m gp] (.Call (.Name fx p) (e::es) [] l) aq) (Fl X.K W T t i V R):=by
 intro g s U H D Qn I h hQ
 refine wpAny_execs_cons (wpAny_Assign_Name ?_ hs)
 refine wpAny_Call_Name_kw (jx I hg hm ?_ B)
 refine callWith_K (h₀:=X.base) I.ok.mod.kO hk (wpAny_mono (ha l g s U H _ I h) (λP s1 ⟨vs,H1,c,r,q⟩=>⟨c.bM,?_⟩) λ_ _ z=>(hX _ _ z).elim) he O
 have hl:(P++ []).length=C.length:=by rw [Af1,←r.length];exact F.len _ _ _ _ q
 refine wpAny_call (codeAny_mono (F.run X.A X.stack s1 H1 ⟨P,[]⟩ _ vs _ _ hr c.i8 (hb s1 P c.bM hl) (by simp_all) q) λres s' j=> ?_)
 cases res with
 | ok fl=>
  cases fl with
  | ret u=>
   obtain⟨y,H2,I2,ry,q2⟩:=c.after j
   exact zo I2 hN hi (.inl d) ry (λs9 I9=>wpAny_execs_nil (hQ _ _ _ I9 q2)) (.inr d)
  | next=>exact False.elim j
  | brk=>exact False.elim j
  | cont=>exact False.elim j
 | error ev=>exact HM N hf G hW L w hN M K Q x J A E c j
def CG {X:Cx}{g n v:Str}{o i f k m F pos:Pos}{c:Expr}{a b:Stmt}{w:TT}{t u:TS}(E: ∀a b, ¬X.xe a b) (C:PT X c w) (h1:bU X g n v o i f k m a t) (h2:bU X g n v o i f k m b u):
 PS X (.Try [.If c [a] [b] F] [.ExceptHandler (y0 (.Name g o)) (y0 n) [.Assign [.Name v i] (.Name n f) k] m] [] [] pos) (Er w t u):=by
 intro e s U H D I h
 refine wpAny_Try_except ?_
 refine wpAny_execs_cons (wpAny_If (wpAny_mono (C e s U H _ I h) (λd y ⟨x,r,A⟩=> ?_) λ_ _ z=>(E _ _ z).elim))
 cases d with
 | true=>exact h1 e y U x D _ r A λB j l p q=>wpAny_execs_nil (wpAny_execs_nil ⟨j,l,p,q⟩)
 | false=>exact h2 e y U x D _ r A λB j l p q=>wpAny_execs_nil (wpAny_execs_nil ⟨j,l,p,q⟩)
end L2
set_option genSizeOfSpec false
namespace M
abbrev Tx:=List Nat
def pH: ∃n:Nat,n=1000000:=⟨_,rfl⟩
noncomputable def aZ:Nat:=Ah2 pH
def Gi:aZ=1000000:=Af8 pH
def uD: ∃n:Int,n=1073741824:=⟨_,rfl⟩
noncomputable def gi:Int:=Ah2 uD
def Kf:gi=1073741824:=Af8 uD
def vg: ∃n:Int,n=2 ^ 62:=⟨_,rfl⟩
noncomputable def gQ:Int:=Ah2 vg
def K4:gQ=2 ^ 62:=Af8 vg
def uH: ∃n:Int,n=2 ^ 64:=⟨_,rfl⟩
noncomputable def gJ:Int:=Ah2 uH
def Pd:gJ=2 ^ 64:=Af8 uH
def rQ: ∃n:Int,n=1000000:=⟨_,rfl⟩
noncomputable def BP:Int:=Ah2 rQ
def KY:BP=1000000:=Af8 rQ
def pU: ∃n:Nat,n=2 ^ 64:=⟨_,rfl⟩
noncomputable def iO:Nat:=Ah2 pU
def G7:iO=2 ^ 64:=Af8 pU
inductive D where
 | av
 | bl (b:Bool)
 | int (i:Int)
 | str (s:Tx)
 | tup (xs:List D)
 | lst (xs:List D)
 | ref (r:Nat)
 | exc (c:String) (fs:List (Tx×D))
 | err (c f:String) (d:D)
inductive W where
 | v (d:D)
 | own (xs:List D)
 | bor (xs:List D)
abbrev WK:=Int×List Int×List Int
inductive Cell where
 | lst (xs:List D)
 | g6 (ks:List WK)
 | bZ (ks:List Int)
 | obj (c:String) (fs:List (String×D))
abbrev AH:=List Cell
abbrev Sl:=List (Option W)
inductive R (α:Type) where
 | ok (a:α) (h:AH)
 | exc (d:D) (h:AH)
 | fail
def R.bind {b c:Type}:R b->(b->AH->R c)->R c
 | .ok a h,f=>f a h
 | .exc d h,_=> .exc d h
 | .fail,_=> .fail
inductive O where
 | next (Y:Sl) (h:AH)
 | ret (w:W) (h:AH)
 | brk (Y:Sl) (h:AH)
 | cont (Y:Sl) (h:AH)
 | exc (d:D) (h:AH)
 | fail
def O.seq:O->(Sl->AH->O)->O
 | .next Y h,f=>f Y h
 | o,_=>o
def R.dj {b:Type}:R b->(b->AH->O)->O
 | .ok a h,f=>f a h
 | .exc d h,_=> .exc d h
 | .fail,_=> .fail
section
variable {α β:Type}
@[simp] theorem R.aa (a) (h) (f:α->AH->R β):(R.ok a h).bind f=f a h:=rfl
@[simp] theorem R.az (a) (h) (f:α->AH->O):(R.ok a h).dj f=f a h:=rfl
@[simp] theorem O.bT (Y) (h) (f):(O.next Y h).seq f=f Y h:=rfl
@[simp] theorem O.eO (w) (h) (f):(O.ret w h).seq f= .ret w h:=rfl
@[simp] theorem O.gW (d) (h) (f):(O.exc d h).seq f= .exc d h:=rfl
end
inductive Op where
 | add | sub | mul | fdiv | mod | pow | shl | shr | band | bor | bxor
 deriving DecidableEq
inductive Cp where
 | eq | ne | lt | le | gt | ge | mem | dM | nQ
 deriving DecidableEq
inductive Ty where
 | av | bool | int | str | list | tuple
 deriving DecidableEq
inductive Mt where
 | index | count | ck
 deriving DecidableEq
inductive Bi where
 | len | int | list | tuple | sum | all | any | sorted | divmod | str | min | max | abs
 deriving DecidableEq
set_option genInjectivity false
mutual
inductive E where
 | var (i:Nat)
 | con (x:String)
 | int (i:Int)
 | bl (b:Bool)
 | av
 | str (s:Tx)
 | tup (es:Es)
 | lst (es:Es)
 | bin (o:Op) (a b:E)
 | cmp (o:Cp) (a b:E)
 | chain (o p:Cp) (a b c:E)
 | d3 (neg:Bool) (a:E)
 | neg (a:E)
 | inv (a:E)
 | not (a:E)
 | and (a b:E)
 | or (a b:E)
 | call (f:String) (es:Es)
 | bi (b:Bi) (es:Es)
 | dY (a:E) (t:Ty)
 | bY (a:E) (one:Bool) (ts:List String)
 | ix (a b:E)
 | sl (a lo hi:E)
 | fJ (a lo:E)
 | iy (a hi:E)
 | rev (a:E)
 | comp (tg:List Nat) (one:Bool) (k:Nat) (aA:List Nat) (it:It) (y7:Bool) (c elt:E)
 | dt
 | cP (neg:Bool) (a:E) (i:Nat)
 | share (a:E)
 | cE (a:E)
 | hH (a b:E)
 | da (m:Mt) (a:E) (es:Es)
 | xf (i:Nat) (f:String)
inductive Es where
 | nil
 | cons (e:E) (es:Es)
inductive It where
 | seq (e:E)
 | aw (a:E)
 | bS (a b:E)
 | rev (e:E)
 | zip (a b:E)
 | enum (e:E)
end
set_option genInjectivity true
mutual
inductive S where
 | set (i:Nat) (e:E)
 | ak (i:Nat) (e:E)
 | dN (is:List Nat) (e:E)
 | eF (i:Nat) (k e:E)
 | app (i:Nat) (e:E)
 | ext (i:Nat) (e:E)
 | mv (i j:Nat)
 | dO (i:Nat) (e:E)
 | cm (i:Nat) (e:E)
 | e8 (i j:Nat)
 | eV (i:Nat) (is:List Nat)
 | freeze (i:Nat)
 | ex (e:E)
 | ret (e:E)
 | iff (c:E) (a b:Ss)
 | k6 (n:Nat) (c:E) (b:Ss)
 | for (tg:List Nat) (one:Bool) (it:It) (b:Ss)
 | raise (c:String) (es:Es)
 | fK (c:E) (i:Nat) (f:String) (es:Es) (g:String) (es2:Es) (k:String) (nm iv:Nat)
 | cV (c f:String) (e:E)
 | iV
inductive Ss where
 | nil
 | cons (s:S) (ss:Ss)
end
noncomputable section
mutual
@[simp,reducible] noncomputable def Gc:D->Bool
 | .ref _=>y9
 | .tup xs=>Gd xs
 | .lst xs=>Gd xs
 | .exc _ _=>y9
 | .err _ _ _=>y9
 | _=>k9
@[simp,reducible] noncomputable def Gd:List D->Bool
 | []=>k9
 | x::xs=>Gc x&&Gd xs
end
mutual
@[simp,reducible] noncomputable def dep:D->Nat
 | .tup xs=>KA xs+1
 | .lst xs=>KA xs+1
 | _=>0
@[simp,reducible] noncomputable def KA:List D->Nat
 | []=>0
 | x::xs=>max (dep x) (KA xs)
end
@[reducible] def KN (a b:D):Bool:=Gc a&&Gc b&&v9 (dep a<150)
mutual
@[simp] noncomputable def res (h:AH):D->D
 | .ref r=>match h[r]? with
  | some (.lst xs)=> .lst xs
  | _=> .ref r
 | .tup xs=> .tup (KT h xs)
 | .lst xs=> .lst (KT h xs)
 | d=>d
@[simp] noncomputable def KT (h:AH):List D->List D
 | []=> []
 | x::xs=>res h x::KT h xs
end
mutual
@[simp] noncomputable def cj:D->D->Bool
 | .av,.av=>k9
 | .bl a,.bl b=>a==b
 | .int i,.int j=>i==j
 | .bl a,.int j=>(a.toNat:Int)==j
 | .int i,.bl b=>i==(b.toNat:Int)
 | .str s,.str t=>s==t
 | .tup xs,.tup ys=>Ks xs ys
 | .lst xs,.lst ys=>Ks xs ys
 | _,_=>y9
@[simp] noncomputable def Ks:List D->List D->Bool
 | [],[]=>k9
 | x::xs,y::ys=>cj x y&&Ks xs ys
 | _,_=>y9
end
def iB (s:Tx):List D:=s.map λc=> .str [c]
def W.d:W->Option D
 | .v d=>y0 d
 | .own xs=>y0 (.lst xs)
 | .bor _=>u0
def W.arg:W->W
 | .own xs=> .bor xs
 | w=>w
@[simp] theorem W.bj (d):(W.v d).arg= .v d:=rfl
@[simp] theorem W.eT (xs):(W.own xs).arg= .bor xs:=rfl
@[simp] theorem W.gR (xs):(W.bor xs).arg= .bor xs:=rfl
def W.dd (h:AH):W->D
 | .v d=>res h d
 | .own xs=> .lst (KT h xs)
 | .bor xs=> .lst (KT h xs)
noncomputable def W.br (h:AH):W->Option (List D)
 | .v (.lst xs)=>y0 xs
 | .own xs=>y0 xs
 | .bor xs=>y0 xs
 | .v (.ref r)=>match h[r]? with
  | some (.lst xs)=>y0 xs
  | _=>u0
 | _=>u0
noncomputable def W.seq? (h:AH):W->Option (List D)
 | .v (.tup xs)=>y0 xs
 | .v (.lst xs)=>y0 xs
 | .own xs=>y0 xs
 | .bor xs=>y0 xs
 | .v (.ref r)=>match h[r]? with
  | some (.lst xs)=>y0 xs
  | _=>u0
 | _=>u0
def R.of {b:Type}(h:AH):Option b->R b
 | some a=> .ok a h
 | none=> .fail
@[simp] abbrev aU (d:D) (h:AH):R W:= .ok (.v d) h
def KW (h:AH):W->Option Bool
 | .v .av=>y0 y9
 | .v (.bl b)=>y0 b
 | .v (.int i)=>y0 (i != 0)
 | .v (.str s)=>if s.length<=aZ then y0 (!s.isEmpty)else u0
 | .v (.tup xs)=>y0 (!xs.isEmpty)
 | .v (.lst xs)=>y0 (!xs.isEmpty)
 | .own xs=>y0 (!xs.isEmpty)
 | .bor xs=>y0 (!xs.isEmpty)
 | _=>u0
@[simp] theorem R.af (h) (a:α):R.of h (y0 a)= .ok a h:=rfl
@[simp] theorem W.eG (d):(W.v d).d=y0 d:=rfl
@[simp] theorem W.lO (xs):(W.own xs).d=y0 (.lst xs):=rfl
@[simp] theorem W.lI (h) (d):(W.v d).dd h=res h d:=rfl
@[simp] theorem W.pE (h) (xs):(W.own xs).dd h= .lst (KT h xs):=rfl
@[simp] theorem W.nr (h) (xs):(W.bor xs).dd h= .lst (KT h xs):=rfl
@[simp] theorem W.lJ (h) (xs):(W.v (.lst xs)).br h=y0 xs:=rfl
@[simp] theorem W.eQ (h) (xs):(W.own xs).br h=y0 xs:=rfl
@[simp] theorem G8 (h) (b):KW h (.v (.bl b))=y0 b:=rfl
@[simp] theorem xY (h) (i):KW h (.v (.int i))=y0 (i != 0):=rfl
noncomputable def Pc (i j:Int):Option Int:=
 if 0<=i then(if 0<=j then y0 ((i.toNat &&& j.toNat:Nat):Int)else y0 ((i.toNat-(i.toNat &&& (-j-1).toNat):Nat):Int))else u0
def kD (i j:Int):Option Int:=if 0<=i/\0<=j then y0 ((i.toNat ||| j.toNat:Nat):Int)else u0
def yL (i j:Int):Option Int:=if 0<=i/\0<=j then y0 ((i.toNat ^^^ j.toNat:Nat):Int)else u0
def Gn (o:Op) (i j:Int):Option Int:=match o with
 | .add=>y0 (i+j)
 | .sub=>y0 (i-j)
 | .mul=>if(-(gJ)<i/\i<gJ)\/(-(gJ)<j/\j<gJ)then y0 (i*j)else u0
 | .fdiv=>if 0<j/\j<gi then y0 (i / j)else u0
 | .mod=>if 0<j then y0 (i % j)else u0
 | .pow=>if 0<=j/\j<=BP/\i.natAbs<iO then y0 (i ^ j.toNat)else u0
 | .shl=>if 0<=j/\j<=BP/\i.natAbs<iO then y0 (i*2 ^ j.toNat)else u0
 | .shr=>if 0<=j then y0 (i / 2 ^ j.toNat)else u0
 | .band=>Pc i j
 | .bor=>kD i j
 | .bxor=>yL i j
def W.int? :W->Option Int
 | .v (.int i)=>y0 i
 | _=>u0
def W.gP :W->Option Tx
 | .v (.str s)=>y0 s
 | _=>u0
def W.dJ :W->Option (List D)
 | .v (.tup s)=>y0 s
 | _=>u0
def Pz (xs a:List D) (h:AH):R W:=if xs.length+a.length<=aZ then .ok (.own (xs++a)) h else .fail
def Pw (xs:List D) (j:Int) (h:AH):R W:=if -1000<=j/\j<=1000/\xs.length*j.toNat<=aZ then .ok (.own (Aa8 j.toNat xs).flatten) h else .fail
def PB (a b:W) (h:AH):R W:=match a.dJ,b.dJ with
 | some xs,y0 ys=>if xs.length+ys.length<=aZ then aU (.tup (xs++ys)) h else .fail
 | _,_=>match a.br h,b.br h with
  | some xs,y0 ys=>Pz xs ys h
  | _,_=> .fail
noncomputable def W.hI (h:AH):W->Option (List D)
 | .own xs=>y0 xs
 | .bor xs=>y0 xs
 | .v (.ref r)=>match h[r]? with
  | some (.lst xs)=>y0 xs
  | _=>u0
 | _=>u0
def PD (a b:W) (h:AH):R W:=match a.hI h,b.int? with
 | some xs,y0 j=>Pw xs j h
 | _,_=> .fail
def KZ (o:Op) (a b:W) (h:AH):R W:=match a.int?,b.int? with
 | some i,y0 j=>(R.of h (Gn o i j)).bind λk h=>aU (.int k) h
 | _,_=>match o with
  | .add=>PB a b h
  | .mul=>PD a b h
  | _=> .fail
def inD (x:D) (xs:List D):Bool:=xs.any λy=>cj y x
@[simp,reducible] def KR:D->Bool
 | .av=>k9
 | .bl _=>k9
 | .int _=>k9
 | .str _=>k9
 | _=>y9
def Pv (a b:W) (h:AH):Option Bool:=match b.dd h with
 | .lst ys=>if Gc (a.dd h)&&Gd ys&&v9 (KA ys<140)then y0 (inD (a.dd h) ys)else u0
 | _=>u0
def Pe (a b:W) (h:AH):Option Bool:=match a.d,b.seq? h with
 | some d,y0 xs=>if KR d&&xs.all KR then y0 (inD d xs)else Pv a b h
 | _,_=>u0
noncomputable def Pu (o:Cp) (i j:Int):Option Bool:=match o with
 | .lt=>y0 (v9 (i<j))
 | .le=>y0 (v9 (i<=j))
 | .gt=>y0 (v9 (j<i))
 | .ge=>y0 (v9 (j<=i))
 | _=>u0
def Px:W->W->Option Bool
 | .v .av,.v (.bl _)=>y0 y9
 | .v (.bl b),.v (.bl c)=>y0 (b==c)
 | _,_=>u0
def Gy (o:Cp) (a b:W) (h:AH):Option Bool:=match o with
 | .eq=>if KN (a.dd h) (b.dd h)then y0 (cj (a.dd h) (b.dd h))else u0
 | .ne=>if KN (a.dd h) (b.dd h)then y0 (!cj (a.dd h) (b.dd h))else u0
 | .mem=>Pe a b h
 | .dM=>(Pe a b h).map (!·)
 | .nQ=>Px a b
 | o=>match a.int?,b.int? with
  | some i,y0 j=>Pu o i j
  | _,_=>u0
noncomputable def d8 (n:Nat) (i:Int):Option Nat:=if 0<=i then(if i<n then y0 i.toNat else u0)else if -(n:Int)<=i then y0 (i+n).toNat else u0
def aX {a:Type}(xs:List a) (i:Int):Option a:=(d8 xs.length i).bind λj=>xs[j]?
def dU (a b:W) (h:AH):Option D:=match b.int? with
 | some i=>(a.seq? h).bind λxs=>aX xs i
 | none=>u0
def bh (n d:Nat):Option Int->Nat
 | none=>d
 | some v=>if v<0 then(v+n).toNat else min v.toNat n
noncomputable def cut {b:Type}(xs:List b) (a c:Option Int):List b:=(xs.drop (bh xs.length 0 a)).take (bh xs.length xs.length c-bh xs.length 0 a)
def gv (a:W) (b c:Option Int) (h:AH):R W:=match a.dJ with
 | some xs=>aU (.tup (cut xs b c)) h
 | none=>match a.br h with
  | some xs=> .ok (.own (cut xs b c)) h
  | none=> .fail
def Ps:List D->Option Int
 | []=>y0 0
 | .int i::r=>(Ps r).map (i+ ·)
 | _::_=>u0
def Kj:List D->Option (List Int)
 | []=>y0 []
 | .int i::r=>(Kj r).map (i:: ·)
 | _::_=>u0
def KP:List D->Option (List Tx)
 | []=>y0 []
 | .str s::r=>(KP r).map (s:: ·)
 | _::_=>u0
def Bo:List Int->Option Int
 | []=>u0
 | i::r=>y0 (r.foldl (λa b=>if b>a then b else a) i)
def pO:List Int->Option Int
 | []=>u0
 | i::r=>y0 (r.foldl (λa b=>if b<a then b else a) i)
def sC (x:Tx):List Tx->List Tx
 | []=> [x]
 | y::ys=>if y<x then y::sC x ys else x::y::ys
def sT:List Tx->List Tx
 | []=> []
 | x::xs=>sC x (sT xs)
def vH (x:Int):List Int->List Int
 | []=> [x]
 | y::ys=>if y<x then y::vH x ys else x::y::ys
def nA:List Int->List Int
 | []=> []
 | x::xs=>vH x (nA xs)
noncomputable def KU:List Int->List Int->Bool
 | [],[]=>y9
 | [],_::_=>k9
 | _::_,[]=>y9
 | x::xs,y::ys=>if x=y then KU xs ys else v9 (x<y)
def Pj (x:Tx):List Tx->Option Nat
 | []=>u0
 | y::ys=>if y=x then y0 0 else(Pj x ys).map (· +1)
def Pl:List D->Option (List Bool)
 | []=>y0 []
 | .bl b::r=>(Pl r).map (b:: ·)
 | _::_=>u0
def iW (b:Bi) (w:W) (h:AH):R W:=match b with
 | .len=>match w.gP with
  | some s=>if s.length<=aZ then aU (.int s.length) h else .fail
  | none=>(R.of h (w.seq? h)).bind λxs h=>aU (.int xs.length) h
 | .int=>match w with
  | .v (.int i)=>aU (.int i) h
  | .v (.bl b)=>aU (.int (b.toNat:Int)) h
  | _=> .fail
 | .list=>(R.of h (w.seq? h)).bind λxs h=> .ok (.own xs) h
 | .tuple=>(R.of h (w.seq? h)).bind λxs h=>aU (.tup xs) h
 | .sum=>(R.of h ((w.br h).bind λxs=>if xs.length<=aZ then Ps xs else u0)).bind λi h=>aU (.int i) h
 | .all=>(R.of h ((w.br h).bind Pl)).bind λbs h=>aU (.bl (bs.all id)) h
 | .any=>(R.of h ((w.br h).bind Pl)).bind λbs h=>aU (.bl (bs.any id)) h
 | .max=>(R.of h (((w.br h).bind Kj).bind Bo)).bind λi h=>aU (.int i) h
 | .min=>(R.of h (((w.br h).bind Kj).bind pO)).bind λi h=>aU (.int i) h
 | .sorted=>(R.of h ((w.br h).bind KP)).bind λts h=>if ts.length<64 then .ok (.own ((sT ts).map .str)) h else .fail
 | _=> .fail
noncomputable def kY (m:Mt) (x:W) (h:AH):Bool:=match m with
 | .index=>x.dJ.isSome
 | .count=>(x.br h).isSome
 | .ck=>(x.br h).isSome
@[simp] theorem rR (xs) (h):kY .index (.v (.tup xs)) h=true:=rfl
def Ph:List Int->List Int->Nat
 | _,[]=>0
 | a,x::xs=>(if a.any (· ==x)then 0 else 1)+Ph (a++ [x]) xs
def KS:Nat->List D->List D
 | _,[]=> []
 | i,d::ds=> .tup [.int (i:Int),d]::KS (i+1) ds
def Pt (d:D):List D->Option Nat
 | []=>u0
 | y::ys=>if cj y d=k9 then y0 0 else(Pt d ys).map (· +1)
def Pk (a b:W) (h:AH):Option Nat:=match b.dd h with
 | .lst ys=>if(Gc (a.dd h)&&Gd ys&&v9 (KA ys<140))&&v9 (ys.length<=aZ)then Pt (a.dd h) ys else u0
 | _=>u0
def lP (m:Mt) (x:W) (ws:List W) (h:AH):R W:=match m,ws with
 | .index,[w]=>(R.of h (x.dJ.bind KP)).bind λts h=>(R.of h w.gP).bind λt h=>(R.of h (Pj t ts)).bind λn h=>if ts.length<=aZ then aU (.int (n:Int)) h else .fail
 | .count,[w]=>(R.of h ((x.br h).bind Kj)).bind λis h=>(R.of h w.int?).bind λi h=>if is.length<=aZ then aU (.int ((is.count i:Nat):Int)) h else .fail
 | .ck,[w]=>(R.of h (Pk w x h)).bind λn h=>aU (.int (n:Int)) h
 | _,_=> .fail
def vQ (b:Bi) (i j:Int) (h:AH):R W:=match b with
 | .divmod=>if 0<j/\j<gi then aU (.tup [.int (i / j),.int (i % j)]) h else .fail
 | .min=>aU (.int (if j<i then j else i)) h
 | .max=>aU (.int (if j>i then j else i)) h
 | _=> .fail
def cI (b:Bi) (ws:List W) (h:AH):R W:=match ws with
 | [w]=>iW b w h
 | [v,w]=>(R.of h v.int?).bind λi h=>(R.of h w.int?).bind λj h=>vQ b i j h
 | _=> .fail
@[simp] theorem GA (o) (i j) (h):KZ o (.v (.int i)) (.v (.int j)) h=(R.of h (Gn o i j)).bind λk h=>aU (.int k) h:=rfl
@[simp] theorem Jc (i j):Gn .add i j=y0 (i+j):=rfl
@[simp] theorem Wm (i j):Gn .sub i j=y0 (i-j):=rfl
@[simp] theorem XA (s u) (h):KZ .add (.v (.tup s)) (.v (.tup u)) h=if s.length+u.length<=aZ then aU (.tup (s++u)) h else .fail:=rfl
@[simp] theorem EY (s u) (h):KZ .add (.v (.lst s)) (.own u) h=if s.length+u.length<=aZ then .ok (.own (s++u)) h else .fail:=rfl
@[simp] theorem oU (s u) (h):KZ .add (.own s) (.own u) h=if s.length+u.length<=aZ then .ok (.own (s++u)) h else .fail:=rfl
@[simp] theorem Qc (i j) (h):Gy .lt (.v (.int i)) (.v (.int j)) h=y0 (v9 (i<j)):=rfl
@[simp] theorem DE (i j) (h):Gy .le (.v (.int i)) (.v (.int j)) h=y0 (v9 (i<=j)):=rfl
@[simp] theorem jt (i j) (h):Gy .gt (.v (.int i)) (.v (.int j)) h=y0 (v9 (j<i)):=rfl
@[simp] theorem nK (i j) (h):Gy .ge (.v (.int i)) (.v (.int j)) h=y0 (v9 (j<=i)):=rfl
@[simp] theorem oM (a b) (h):Gy .eq a b h=if KN (a.dd h) (b.dd h)then y0 (cj (a.dd h) (b.dd h))else none:=rfl
@[simp] theorem FV (a b) (h):Gy .ne a b h=if KN (a.dd h) (b.dd h)then y0 (!cj (a.dd h) (b.dd h))else none:=rfl
@[simp] theorem int?_int (i):(W.v (.int i)).int? =y0 i:=rfl
@[simp] theorem len_str (s) (h):cI .len [.v (.str s)] h=if s.length<=aZ then aU (.int s.length) h else .fail:=rfl
@[simp] theorem Wh (s) (h):cI .len [.v (.tup s)] h=aU (.int s.length) h:=rfl
@[simp] theorem zp (s) (h):cI .len [.v (.lst s)] h=aU (.int s.length) h:=rfl
@[simp] theorem int_int (i) (h):cI .int [.v (.int i)] h=aU (.int i) h:=rfl
@[simp] theorem J6 (s) (h):cI .list [.v (.tup s)] h= .ok (.own s) h:=rfl
@[simp] theorem xC (s) (h):cI .tuple [.own s] h=aU (.tup s) h:=rfl
@[simp] theorem ZQ (s) (h):cI .tuple [.bor s] h=aU (.tup s) h:=rfl
@[simp] theorem Mq (s) (h):cI .all [.own s] h=(R.of h (Pl s)).bind λbs h=>aU (.bl (bs.all id)) h:=rfl
@[simp] theorem zV (s) (h):cI .sum [.own s] h=(R.of h (if s.length<=aZ then Ps s else u0)).bind λi h=>aU (.int i) h:=rfl
@[simp] theorem Zj (i j) (h):cI .divmod [.v (.int i),.v (.int j)] h=if 0<j/\j<gi then aU (.tup [.int (i / j),.int (i % j)]) h else .fail:=rfl
@[simp] theorem Lr (i j) (h):cI .min [.v (.int i),.v (.int j)] h=aU (.int (if j<i then j else i)) h:=rfl
@[simp] theorem LI (i j) (h):cI .max [.v (.int i),.v (.int j)] h=aU (.int (if j>i then j else i)) h:=rfl
@[simp] theorem ah (s) (i) (h):dU (.v (.tup s)) (.v (.int i)) h=aX s i:=rfl
@[simp] theorem wk (s) (i) (h):dU (.v (.lst s)) (.v (.int i)) h=aX s i:=rfl
@[simp] theorem xt (s) (i) (h):dU (.own s) (.v (.int i)) h=aX s i:=rfl
@[simp] theorem F8 (s) (lo hi) (h):gv (.v (.lst s)) lo hi h= .ok (.own (cut s lo hi)) h:=rfl
@[simp] theorem HW (s) (lo hi) (h):gv (.bor s) lo hi h= .ok (.own (cut s lo hi)) h:=rfl
abbrev eR:=List (String×String)
noncomputable def Kz (a:eR):Nat->String->List String
 | 0,_=> []
 | n+1,c=>c::match a.lookup c with
  | some b=>Kz a n b
  | none=> []
noncomputable def En:W->Option Ty
 | .v .av=>y0 .av
 | .v (.bl _)=>y0 .bool
 | .v (.int _)=>y0 .int
 | .v (.str _)=>y0 .str
 | .v (.tup _)=>y0 .tuple
 | .v (.lst _)=>y0 .list
 | .own _=>y0 .list
 | .bor _=>y0 .list
 | .v (.ref _)=>u0
 | .v (.exc _ _)=>u0
 | .v (.err _ _ _)=>u0
def Ty.le:Ty->Ty->Bool
 | .bool,.int=>k9
 | a,b=>v9 (a=b)
def dY (t:Ty) (w:W):Option Bool:=(En w).map λu=>u.le t
@[simp] theorem QW (t) (s):dY t (.v (.tup s))=y0 (Ty.le .tuple t):=rfl
@[simp] theorem Ty.dD (t):Ty.le t t=true:=by cases t<;>rfl
def bY (a:eR) (w:W) (ts:List String):Option Bool:=match w with
 | .v (.exc c [])=>y0 (ts.any (Kz a 8 c).contains)
 | .v (.err c _ _)=>y0 (ts.any (Kz a 8 c).contains)
 | _=>u0
@[simp] def Gj:Sl->Nat->Option W
 | [],_=>u0
 | x::_,0=>x
 | _::r,n+1=>Gj r n
@[simp] def GI:Sl->Nat->W->Sl
 | [],_,_=> []
 | _::r,0,w=>y0 w::r
 | x::r,n+1,w=>x::GI r n w
def Gf (Y:Sl) (i:Nat):Option W:=match Gj Y i with
 | some (.own xs)=>y0 (.bor xs)
 | o=>o
@[simp] theorem K9 (e:Gj Y i=y0 (.own xs)):Gf Y i=y0 (.bor xs):=by simp [Gf,e]
@[simp] theorem Pn (e:Gj Y i=y0 (.v d)):Gf Y i=y0 (.v d):=by simp [Gf,e]
@[simp] theorem K7 (e:Gj Y i=y0 (.bor xs)):Gf Y i=y0 (.bor xs):=by simp [Gf,e]
@[simp] noncomputable def aH:List Nat->List D->Sl->Option Sl
 | [],[],Y=>y0 Y
 | i::is,d::ds,Y=>aH is ds (GI Y i (.v d))
 | _,_,_=>u0
def Gp (a:List Nat) (one:Bool) (d:D) (Y:Sl):Option Sl:=match one with
 | true=>match a with
  | [i]=>y0 (GI Y i (.v d))
  | _=>u0
 | false=>match d with
  | .tup ds=>aH a ds Y
  | _=>u0
noncomputable def Gx (step:D->AH->R (Option D)):List D->AH->R (List D)
 | [],h=> .ok [] h
 | d::ds,h=>match step d h with
  | .ok o h1=>match Gx step ds h1 with
   | .ok r h2=> .ok (match o with | some x=>x::r | none=>r) h2
   | _=> .fail
  | _=> .fail
structure Fx where
 call:String->List W->AH->R W
 cl:eR
 con:List (String×D)
noncomputable def bw (h:AH):Option W->Option (Nat×List D)
 | some (.v (.ref r))=>match h[r]? with
  | some (.lst xs)=>y0 (r,xs)
  | _=>u0
 | _=>u0
noncomputable def Pf (h:AH):Option W->Option (Nat×List Int)
 | some (.v (.ref r))=>match h[r]? with
  | some (.bZ ks)=>y0 (r,ks)
  | _=>u0
 | _=>u0
def K0 (ks:List Int) (k:Int):List Int:=if ks.contains k then ks else ks++ [k]
noncomputable def cP (neg:Bool) (w:W) (o:Option (Nat×List Int)) (h:AH):R W:=match w,o with
 | .v (.int k),y0 (_,ks)=>aU (.bl (if neg then !ks.contains k else ks.contains k)) h
 | _,_=> .fail
mutual
@[simp] noncomputable def eval (F:Fx):E->Sl->AH->R W
 | .var i,Y,h=>match Gf Y i with
  | some w=> .ok w h
  | none=> .fail
 | .con x,_,h=>match F.con.lookup x with
  | some d=>aU d h
  | none=> .fail
 | .int i,_,h=>aU (.int i) h
 | .bl b,_,h=>aU (.bl b) h
 | .av,_,h=>aU .av h
 | .str s,_,h=>aU (.str s) h
 | .tup es,Y,h=>(Gm F es Y h).bind λds h=>aU (.tup ds) h
 | .lst es,Y,h=>(Gm F es Y h).bind λds h=> .ok (.own ds) h
 | .bin o a b,Y,h=>(eval F a Y h).bind λx h=>(eval F b Y h).bind λy h=>KZ o x y h
 | .cmp o a b,Y,h=>(eval F a Y h).bind λx h=>(eval F b Y h).bind λy h=>(R.of h (Gy o x y h)).bind λc h=>aU (.bl c) h
 | .chain o p a b c,Y,h=>(eval F a Y h).bind λx h=>(eval F b Y h).bind λy h=>(R.of h (Gy o x y h)).bind λt h=>match t with
  | true=>(eval F c Y h).bind λz h=>(R.of h (Gy p y z h)).bind λc h=>aU (.bl c) h
  | false=>aU (.bl y9) h
 | .d3 neg a,Y,h=>(eval F a Y h).bind λx h=>match x with
  | .v .av=>aU (.bl (!neg)) h
  | _=>aU (.bl neg) h
 | .neg a,Y,h=>(eval F a Y h).bind λx h=>(R.of h x.int?).bind λi h=>aU (.int (-i)) h
 | .inv a,Y,h=>(eval F a Y h).bind λx h=>(R.of h x.int?).bind λi h=>aU (.int (-i-1)) h
 | .not a,Y,h=>(eval F a Y h).bind λx h=>(R.of h (KW h x)).bind λc h=>aU (.bl (!c)) h
 | .and a b,Y,h=>(eval F a Y h).bind λx h=>(R.of h (KW h x)).bind λc h=>match c with
  | true=>eval F b Y h
  | false=> .ok x h
 | .or a b,Y,h=>(eval F a Y h).bind λx h=>(R.of h (KW h x)).bind λc h=>match c with
  | true=> .ok x h
  | false=>eval F b Y h
 | .call f es,Y,h=>(Gg F es Y h).bind λws h=>F.call f (ws.map W.arg) h
 | .bi b es,Y,h=>(Gg F es Y h).bind λws h=>cI b ws h
 | .dY a t,Y,h=>(eval F a Y h).bind λx h=>(R.of h (dY t x)).bind λc h=>aU (.bl c) h
 | .bY a _ ts,Y,h=>(eval F a Y h).bind λx h=>(R.of h (bY F.cl x ts)).bind λc h=>aU (.bl c) h
 | .ix a b,Y,h=>(eval F a Y h).bind λx h=>(eval F b Y h).bind λy h=>(R.of h (dU x y h)).bind λd h=>aU d h
 | .sl a lo hi,Y,h=>(eval F a Y h).bind λx h=>(eval F lo Y h).bind λl h=>(R.of h l.int?).bind λl h=>(eval F hi Y h).bind λu h=>(R.of h u.int?).bind λu h=>gv x (y0 l) (y0 u) h
 | .fJ a lo,Y,h=>(eval F a Y h).bind λx h=>(eval F lo Y h).bind λl h=>(R.of h l.int?).bind λl h=>gv x (y0 l) u0 h
 | .iy a hi,Y,h=>(eval F a Y h).bind λx h=>(eval F hi Y h).bind λu h=>(R.of h u.int?).bind λu h=>gv x u0 (y0 u) h
 | .rev a,Y,h=>(eval F a Y h).bind λx h=>(R.of h (x.br h)).bind λxs h=> .ok (.own xs.reverse) h
 | .comp tg one k aA it y7 c elt,Y,h=>(Gk F it Y h).bind λds h=>
  if ds.length<=aZ then
   (Gx (λd h=>match Gp tg one d (Aa8 k u0++aA.map λj=>Gf Y j)with
     | none=> .fail
     | some Y'=>(if y7 then(eval F c Y' h).bind λx h=>R.of h (KW h x)else .ok k9 h).bind λb h=>match b with
      | true=>(eval F elt Y' h).bind λy h=>(R.of h y.d).bind λy h=> .ok (y0 y) h
      | false=> .ok u0 h) ds h).bind λys h=> .ok (.own ys) h
  else .fail
 | .dt,_,h=>aU (.ref h.length) (h++ [.bZ []])
 | .cP neg a i,Y,h=>(eval F a Y h).bind λx h=>cP neg x (Pf h (Gj Y i)) h
 | .share a,Y,h=>(eval F a Y h).bind λx h=>match x with
  | .own xs=>if Gd xs then aU (.ref h.length) (h++ [.lst xs])else .fail
  | _=> .fail
 | .cE a,Y,h=>(eval F a Y h).bind λx h=>(R.of h (x.dJ.bind Kj)).bind λis h=>if is.length<1000 then aU (.int ((Ph [] is:Nat):Int)) h else .fail
 | .hH a b,Y,h=>(eval F a Y h).bind λx h=>(eval F b Y h).bind λy h=>(R.of h ((x.br h).bind Kj)).bind λis h=>(R.of h ((y.br h).bind Kj)).bind λjs h=>if is.length=js.length then aU (.bl (KU is js)) h else .fail
 | .da m a es,Y,h=>(eval F a Y h).bind λx h=>if kY m x h then(Gg F es Y h).bind λws h=>lP m x ws h else .fail
 | .xf i f,Y,h=>match Gj Y i with
  | some (.v (.err _ g d))=>if g=f then .ok (.v d) h else .fail
  | _=> .fail
@[simp] noncomputable def Gg (F:Fx):Es->Sl->AH->R (List W)
 | .nil,_,h=> .ok [] h
 | .cons e es,Y,h=>(eval F e Y h).bind λw h=>(Gg F es Y h).bind λws h=> .ok (w::ws) h
@[simp] noncomputable def Gm (F:Fx):Es->Sl->AH->R (List D)
 | .nil,_,h=> .ok [] h
 | .cons e es,Y,h=>(eval F e Y h).bind λw h=>(R.of h w.d).bind λd h=>(Gm F es Y h).bind λds h=> .ok (d::ds) h
@[simp] noncomputable def Gk (F:Fx):It->Sl->AH->R (List D)
 | .seq e,Y,h=>(eval F e Y h).bind λw h=>match w with
  | .v (.str s)=> .ok (iB s) h
  | .v (.tup xs)=> .ok xs h
  | .v (.lst xs)=> .ok xs h
  | .own xs=> .ok xs h
  | .bor xs=> .ok xs h
  | _=> .fail
 | .aw a,Y,h=>(eval F a Y h).bind λw h=>(R.of h w.int?).bind λn h=>if -(gQ)<=n/\n<gQ then .ok ((Aa0 n.toNat).map λ(i:Nat)=> .int (i:Int)) h else .fail
 | .bS a b,Y,h=>(eval F a Y h).bind λw h=>(R.of h w.int?).bind λi h=>(eval F b Y h).bind λw h=>(R.of h w.int?).bind λj h=>
  if(-(gQ)<=i/\i<gQ)/\(-(gQ)<=j/\j<gQ)then .ok ((Aa0 (j-i).toNat).map λ(k:Nat)=> .int (i+(k:Int))) h else .fail
 | .rev e,Y,h=>(eval F e Y h).bind λw h=>match w with
  | .v (.lst xs)=> .ok xs.reverse h
  | .own xs=> .ok xs.reverse h
  | .bor xs=> .ok xs.reverse h
  | _=> .fail
 | .enum e,Y,h=>(eval F e Y h).bind λw h=>match w with
  | .v (.tup xs)=> .ok (KS 0 xs) h
  | _=> .fail
 | .zip a b,Y,h=>(eval F a Y h).bind λx h=>(eval F b Y h).bind λy h=>match x,y with
  | .own xs,.v (.tup ys)=> .ok ((xs.zip ys).map λp=> .tup [p.1,p.2]) h
  | _,_=> .fail
end
noncomputable def mw:W->Option (List D)
 | .v (.str s)=>y0 (iB s)
 | .v (.tup xs)=>y0 xs
 | .v (.lst xs)=>y0 xs
 | .own xs=>y0 xs
 | _=>u0
noncomputable def ko:W->Option (List D)
 | .v (.str s)=>y0 (iB s)
 | .v (.tup xs)=>y0 xs
 | .v (.lst xs)=>y0 xs
 | .bor xs=>y0 xs
 | _=>u0
def Fg:W->Option (List D)
 | .v (.lst xs)=>y0 xs.reverse
 | .own xs=>y0 xs.reverse
 | _=>u0
def Py:W->Option (List D)
 | .v (.lst xs)=>y0 xs.reverse
 | .bor xs=>y0 xs.reverse
 | _=>u0
@[simp] theorem Pq (xs):mw (.v (.tup xs))=y0 xs:=rfl
@[simp] theorem Pp (xs):mw (.v (.lst xs))=y0 xs:=rfl
@[simp] theorem KL (xs):mw (.own xs)=y0 xs:=rfl
@[simp] theorem K5 (xs):ko (.v (.tup xs))=y0 xs:=rfl
@[simp] theorem Pm (xs):ko (.v (.lst xs))=y0 xs:=rfl
@[simp] theorem Po (xs):ko (.bor xs)=y0 xs:=rfl
@[simp] def Kc:E->Option Nat
 | .var i=>y0 i
 | _=>u0
@[simp] def Gr (F:Fx) (it:It) (Y:Sl) (h:AH):R (List D):=match it with
 | .seq e=>match Kc e with
  | some i=>R.of h ((Gj Y i).bind ko)
  | none=>(eval F e Y h).bind λw h=>R.of h (mw w)
 | .rev e=>match Kc e with
  | some i=>R.of h ((Gj Y i).bind Py)
  | none=>(eval F e Y h).bind λw h=>R.of h (Fg w)
 | it=>Gk F it Y h
noncomputable def Gq (b:D->Sl->Option Sl) (a:Sl->AH->O):List D->Sl->AH->O
 | [],Y,h=> .next Y h
 | d::ds,Y,h=>match b d Y with
  | none=> .fail
  | some e=>match a e h with
   | .next c h2=>Gq b a ds c h2
   | .cont c h2=>Gq b a ds c h2
   | .brk c h2=> .next c h2
   | o=>o
noncomputable def KO (c:Sl->AH->R Bool) (a:Sl->AH->O):Nat->Sl->AH->O
 | 0,_,_=> .fail
 | n+1,Y,h=>(c Y h).dj λb h1=>match b with
  | false=> .next Y h1
  | true=>match a Y h1 with
   | .next d h2=>KO c a n d h2
   | .cont d h2=>KO c a n d h2
   | .brk d h2=> .next d h2
   | o=>o
def Gs (F:Fx) (e:E) (Y:Sl) (h:AH):R Bool:=(eval F e Y h).bind λx h=>R.of h (KW h x)
def Pr (call:String->List W->AH->R W) (c:eR) (b:Option Nat) (f k:String) (nm a:Nat) (Y:Sl):R (List W)->O
 | .ok e h=>match call f (e.map W.arg) h with
  | .ok w h=>match b with
   | none=> .next Y h
   | some i=>match w with
    | .v d=> .next (GI Y i (.v d)) h
    | _=> .fail
  | .exc d h=>match bY c (.v d) [k]with
   | some true=> .next ((GI (GI Y nm (.v d)) a (.v d)).set nm u0) h
   | _=> .fail
  | .fail=> .fail
 | _=> .fail
mutual
@[simp] noncomputable def exec (F:Fx):S->Sl->AH->O
 | .set i e,Y,h=>(eval F e Y h).dj λw h=>match w with
  | .bor _=> .fail
  | w=> .next (GI Y i w) h
 | .ak i e,Y,h=>(eval F e Y h).dj λw h=>match w.d with
  | some d=> .next (GI Y i (.v d)) h
  | none=> .fail
 | .dN is e,Y,h=>(eval F e Y h).dj λw h=>match w with
  | .v (.tup ds)=>match aH is ds Y with
   | some Y'=> .next Y' h
   | none=> .fail
  | _=> .fail
 | .eF i k e,Y,h=>(eval F e Y h).dj λw h=>match Gj Y i with
  | some (.own xs)=>(eval F k Y h).dj λkw h=>match w,kw with
   | .v d,.v (.int j)=>if KR d then(match d8 xs.length j with
    | some n=> .next (GI Y i (.own (xs.set n d))) h
    | none=> .fail)else .fail
   | _,_=> .fail
  | _=> .fail
 | .app i e,Y,h=>match Gj Y i with
  | some (.own xs)=>(eval F e Y h).dj λw h=>match w.d with
   | some d=>if xs.length<aZ then .next (GI Y i (.own (xs++ [d]))) h else .fail
   | none=> .fail
  | _=> .fail
 | .ext i e,Y,h=>match Gj Y i with
  | some (.own xs)=>(eval F e Y h).dj λw h=>match w with
   | .own ys=>if xs.length+ys.length<aZ then .next (GI Y i (.own (xs++ys))) h else .fail
   | _=> .fail
  | _=> .fail
 | .mv i j,Y,h=>match Gj Y j with
  | some (.own xs)=> .next (GI (Y.set j u0) i (.own xs)) h
  | _=> .fail
 | .dO i e,Y,h=>match Pf h (Gj Y i)with
  | some _=>(eval F e Y h).dj λw h=>match w,Pf h (Gj Y i)with
   | .v (.int k),y0 (r,ks)=>if ks.length<aZ then .next Y (h.set r (.bZ (K0 ks k)))else .fail
   | _,_=> .fail
  | none=> .fail
 | .cm i e,Y,h=>match bw h (Gj Y i)with
  | some _=>(eval F e Y h).dj λw h=>match w.d,bw h (Gj Y i)with
   | some d,y0 (r,xs)=>if xs.length<aZ/\Gc d=k9 then .next Y (h.set r (.lst (xs++ [d])))else .fail
   | _,_=> .fail
  | none=> .fail
 | .e8 i j,Y,h=>match bw h (Gj Y i)with
  | some (r,xs)=>match xs[xs.length-1]? with
   | some d=> .next (GI Y j (.v d)) (h.set r (.lst (xs.take (xs.length-1))))
   | none=> .fail
  | none=> .fail
 | .eV i is,Y,h=>match bw h (Gj Y i)with
  | some (r,xs)=>match xs[xs.length-1]? with
   | some (.tup ds)=>match aH is ds Y with
    | some Y'=> .next Y' (h.set r (.lst (xs.take (xs.length-1))))
    | none=> .fail
   | _=> .fail
  | none=> .fail
 | .freeze i,Y,h=>match Gj Y i with
  | some (.own xs)=> .next (GI Y i (.v (.lst xs))) h
  | _=> .next Y h
 | .ex e,Y,h=>(eval F e Y h).dj λ_ h=> .next Y h
 | .ret e,Y,h=>match Kc e with
  | some i=>match Gj Y i with
   | some (.bor _)=> .fail
   | some w=> .ret w h
   | none=> .fail
  | none=>(eval F e Y h).dj λw h=>match w with
   | .bor _=> .fail
   | w=> .ret w h
 | .iff c a b,Y,h=>(Gs F c Y h).dj λt h=>match t with
  | true=>execs F a Y h
  | false=>execs F b Y h
 | .k6 n c b,Y,h=>KO (λY h=>Gs F c Y h) (λY h=>execs F b Y h) n Y h
 | .for tg one it b,Y,h=>(Gr F it Y h).dj λds h=>Gq (Gp tg one) (λY h=>execs F b Y h) ds Y h
 | .raise c es,Y,h=>(Gg F es Y h).dj λ_ h=> .exc (.exc c []) h
 | .cV c f e,Y,h=>(Gm F (.cons e .nil) Y h).dj λds h=>match ds with
  | [d]=> .exc (.err c f d) h
  | _=> .fail
 | .fK c i f es g es2 k nm iv,Y,h=>match Gs F c Y h with
  | .ok k9 h=>Pr F.call F.cl (y0 i) f k nm iv Y (Gg F es Y h)
  | .ok y9 h=>Pr F.call F.cl (y0 i) g k nm iv Y (Gg F es2 Y h)
  | _=> .fail
 | .iV,_,_=> .fail
@[simp] noncomputable def execs (F:Fx):Ss->Sl->AH->O
 | .nil,Y,h=> .next Y h
 | .cons s ss,Y,h=>(exec F s Y h).seq λY h=>execs F ss Y h
end
structure Fn where
 ps:Nat
 n:Nat
 body:Ss
structure Prog where
 fns:List (String×Fn)
 cl:eR
 con:List (String×D)
def W.keep:W->Bool
 | .v d=>Gc d
 | .own xs=>Gd xs
 | .bor _=>k9
def fin (n:Nat) (w:W) (h:AH):R W:=if h.length=n then .ok w h else if w.keep then .ok w (h.take n)else .ok w h
noncomputable def GZ (n:Nat):O->R W
 | .ret w h=>match w with
  | .bor _=> .fail
  | w=>fin n w h
 | .next _ h=>fin n (.v .av) h
 | .exc d h=> .exc d h
 | _=> .fail
@[simp] theorem Gb (d) (h h':AH) (e:h'.length=h.length):GZ h.length (.ret (.v d) h')= .ok (.v d) h':=by simp [GZ,fin,e]
@[simp] theorem Gw (xs) (h h':AH) (e:h'.length=h.length):GZ h.length (.ret (.own xs) h')= .ok (.own xs) h':=by simp [GZ,fin,e]
@[simp] theorem GK (Y) (h h':AH) (e:h'.length=h.length):GZ h.length (.next Y h')= .ok (.v .av) h':=by simp [GZ,fin,e]
@[simp] theorem Pi (d) (n) (h):GZ n (.exc d h)= .exc d h:=rfl
def run (F:Fx) (d:Fn) (ws:List W) (h:AH):R W:=if ws.length=d.ps then GZ h.length (execs F d.body (ws.map y0++Aa8 (d.n-d.ps) u0) h)else .fail
def call (p:Prog):Nat->String->List W->AH->R W
 | 0,_,_,_=> .fail
 | k+1,f,a,h=>match p.fns.lookup f with
  | some d=>run ⟨call p k,p.cl,p.con⟩ d a h
  | none=> .fail
def Ga (e:p.fns.lookup f=y0 d) (k) (ws) (h) (a:ws.length=d.ps):
 call p (k+1) f ws h=GZ h.length (execs ⟨call p k,p.cl,p.con⟩ d.body (ws.map y0++Aa8 (d.n-d.ps) u0) h):=by
 rw [call,e]
 simp [run,a]
end
end M
namespace L2.MS
open PySem PySem.Spec
structure Ge where
 K:Aa5
 ca:String->Addr
 cl:M.eR
 own:List String
 ma:String->Addr
structure fb (Γ:Ge) (c:String):Prop where
 k:gd Γ.K (Γ.ca c)
 own: ∀t∈Γ.own,Ad4 Γ.K (.ref (Γ.ca c)) (.ref (Γ.ca t))=y0 ((M.Kz Γ.cl 8 c).contains t)
 ve:PySem.W.kitOne Γ.K (.ref (Γ.ca c)) (.type "ValueError")=some ((M.Kz Γ.cl 8 c).contains "ValueError")
structure Gh where
 fz:Addr->Prop
 aV:Nat->Addr
 n:Nat
def fG (d:Ge) (G:Gh) (H:Hp) (a:Addr) (c:List V):Prop:=(G.fz a/\H a=y0 (.tup c)) ∨
 ∃(o:Obj) (b:Array Value) (n:Nat),d.K.lookup a=some o/\o.cls= .type "tuple" /\o.dict=none/\o.data= .seq b n/\b.size<=sizeLine/\Vals c b.toList
def pX (c:Ge) (a:Addr) (d:List V):Prop:= ∃(o:Obj) (b:Array Value) (n:Nat),c.K.lookup a=some o/\o.cls= .type "list" /\o.dict=none/\o.data= .seq b n/\b.size<=sizeLine/\Vals d b.toList
def iS (c:Ge) (G:Gh) (H:Hp) (a:Addr) (b:List V):Prop:=(G.fz a/\Rd H a (.lst b))\/pX c a b
def fG.sq (h:fG Γ G H a vs):bI Γ.K H a vs:=h.elim (λz=> .inl (.inl z.2)) λ⟨o,b,n,d,c,_,e⟩=> .inr ⟨o,b,n,d,c,e⟩
def fG.pl (h:fG Γ G H a vs):rA Γ.K H a:=h.elim (λz=> .inl ⟨_,z.2⟩) λ⟨o,_,_,d,b,c,_⟩=> .inr ⟨o,d,b,c⟩
def iS.sq (h:iS Γ G H a vs):a8 Γ.K H a vs:=h.elim (λz=> .inl z.2) λz=> .inr z
def cy (s:M.Tx):Str:=⟨s.toArray⟩
def Hn:M.D->PyData
 | .int i=> .int i
 | .str s=> .str (cy s)
 | .bl b=> .bool b
 | _=> .none
def yH (T:List (M.Tx×M.D)):List (Str×PyData):=T.map λp=>(cy p.1,Hn p.2)
def Az (b:Ge) (a:Addr) (T:List (M.Tx×M.D)):Prop:=AU b.K a (yH T)
mutual
def aD (Γ:Ge) (G:Gh) (H:Hp):M.D->V->Prop
 | .av,v=>v= .av
 | .bl b,v=>v= .bl b
 | .int i,v=>v= .int i
 | .str s,v=>v= .str (cy s)
 | .tup ds,v=> ∃a vs,v= .ref a/\fG Γ G H a vs/\ae Γ G H ds vs
 | .lst ds,v=> ∃a vs,v= .ref a/\iS Γ G H a vs/\ae Γ G H ds vs
 | .ref r,v=>r<G.n/\v= .ref (G.aV r)
 | .exc c fs,v=>(fs= []/\ ∃x,v= .ref x/\G.fz x/\H x=y0 (fA x (Γ.ca c) u0)/\fb Γ c)\/(fs≠ []/\ ∃a,v= .ref a/\Az Γ a fs)
 | .err c f d,v=> ∃x dx u,v= .ref x/\G.fz x/\G.fz dx/\H x=y0 (fA x (Γ.ca c) (y0 dx))/\H dx=y0 (.xd [(Str.ofString f,u)])/\fb Γ c/\l4 Γ.K (Γ.ca c) (Str.ofString f)/\aD Γ G H d u
def ae (Γ:Ge) (G:Gh) (H:Hp):List M.D->List V->Prop
 | [],vs=>vs= []
 | d::ds,vs=> ∃v r,vs=v::r/\aD Γ G H d v/\ae Γ G H ds r
end
def vP (k:M.WK):M.D:= .tup [.int k.1,.tup (k.2.1.map .int),.tup (k.2.2.map .int)]
def bx (b:Ge) (G:Gh) (H:Hp) (a:Addr):M.Cell->Prop
 | .lst xs=>M.Gd xs=k9/\ ∃d,H a=y0 (.lst d)/\ae b G H xs d
 | .g6 ks=> ∃xs,H a=y0 (DW a xs)/\xs.map (·.1)=ks/\ ∀x∈xs,aD b G H (vP x.1) (.ref x.2.1)
 | .bZ ks=>H a=y0 (dI ks)
 | .obj c fs=>M.Gd (fs.map (·.2))=k9/\ ∃dx e,H a=y0 (.ins (b.ca c) dx ((fs.map λp=>Str.ofString p.1).zip e))/\ae b G H (fs.map (·.2)) e
structure ai (Γ:Ge) (G:Gh) (h:M.AH) (H:Hp):Prop where
 len:h.length=G.n
 any: ∀r c,h[r]? =y0 c-> ¬G.fz (G.aV r)/\bx Γ G H (G.aV r) c
 inj: ∀r s,r<G.n->s<G.n->G.aV r=G.aV s->r=s
 live: ∀a,G.fz a-> ∃o,H a=y0 o
def dX (G:Gh) (a:Addr):Prop:= ∀r,r<G.n->G.aV r≠a
structure Ext (G:Gh) (H:Hp) (G':Gh) (H':Hp):Prop where
 keep: ∀a o,H a=y0 o->dX G a->H' a=y0 o
 le:G.n<=G'.n
 aV: ∀r,r<G.n->G'.aV r=G.aV r
 new: ∀r,G.n<=r->r<G'.n->H (G'.aV r)=u0
 fz: ∀a,G.fz a->G'.fz a
 old: ∀a,G'.fz a->G.fz a\/H a=u0
 cells: ∀r,r<G.n->(∃ o,H (G.aV r)=y0 o)-> ∃o,H' (G.aV r)=y0 o
def au (c:Ge) (G:Gh) (H:Hp):M.W->V->Prop
 | .v d,v=>aD c G H d v
 | .own xs,v=> ∃a b,v= .ref a/\ ¬G.fz a/\dX G a/\H a=y0 (.lst b)/\ae c G H xs b
 | .bor xs,v=> ∃a b,v= .ref a/\dX G a/\Rd H a (.lst b)/\ae c G H xs b
def gq:M.W->Bool
 | .own _=>k9
 | .bor _=>k9
 | _=>y9
structure ax (Γ:Ge) (G:Gh) (Y:M.Sl) (h:M.AH) (U:St) (H:Hp):Prop where
 len:Y.length=U.length
 slot: ∀i w,M.Gj Y i=y0 w-> ∃v,U[i]? =y0 (y0 v)/\au Γ G H w v
 apart: ∀i j xs w a,i≠j->M.Gj Y i=y0 (.own xs)->M.Gj Y j=y0 w->gq w=k9->U[i]? =y0 (y0 (.ref a))->U[j]? ≠y0 (y0 (.ref a))
 heap:ai Γ G h H
section
variable {Γ:Ge}{G G' G1 G2:Gh}{H H' H1 H2:Hp}{h h':M.AH}{Y:M.Sl}{U:St}
def ai.cell (R:ai Γ G h H) (r) (xs) (e:h[r]? =y0 (M.Cell.lst xs)): ¬G.fz (G.aV r)/\ ∃a,H (G.aV r)=y0 (.lst a)/\ae Γ G H xs a:=⟨(R.any r _ e).1,(R.any r _ e).2.2⟩
def ai.pure (R:ai Γ G h H) (r:Nat) (xs) (e:h[r]? =y0 (M.Cell.lst xs)):M.Gd xs=true:=(R.any r _ e).2.1
def ai.lt (R:ai Γ G h H)(e:h[r]? =y0 c):r<G.n:=by rw [← R.len];exact(Ac0.mp e).1
def ai.at (R:ai Γ G h H)(a:i<G.n): ∃c,h[i]? =y0 c:=⟨_,Aa4 (by rw [R.len];exact a)⟩
def bx.there (z:bx Γ G H a c): ∃o,H a=y0 o:=by
 cases c with
 | lst d=>obtain⟨_,_,z,_⟩:=z;exact⟨_,z⟩
 | g6 b=>obtain⟨_,z,_⟩:=z;exact⟨_,z⟩
 | bZ b=>exact⟨_,z⟩
 | obj c fs=>obtain⟨_,_,_,z,_⟩:=z;exact⟨_,z⟩
def ai.pw (r:ai Γ G h H)(a:i<G.n): ¬G.fz (G.aV i):=let ⟨_,e⟩:=r.at a;(r.any i _ e).1
def ai.off (r:ai Γ G h H)(c:G.fz a):dX G a:=λi b z=>r.pw b (z▸c)
theorem ai.there (r:ai Γ G h H)(a:i<G.n): ∃o,H (G.aV i)=y0 o:=let ⟨_,e⟩:=r.at a;(r.any i _ e).2.there
def Ext.refl:Ext G H G H:=⟨λ_ _ e _=>e,Aa6 _,λ_ _=>rfl,λr b a=>absurd b (Ao1.mpr a),λ_ z=>z,λ_ z=> .inl z,λ_ _ z=>z⟩
theorem Ext.none (e:Ext G H G' H') (d:ai Γ G h H)(z:H' a=u0):H a=none:=by
 cases q:H a with
 | none=>rfl
 | some o=>
  by_cases b:dX G a
  ·rw [e.keep a o q b]at z;cases z
  ·unfold dX at b
   have: ∃r,r<G.n/\G.aV r=a:=Classical.byContradiction λg=>b λr d z=>g ⟨r,d,z⟩
   obtain⟨r,c,rfl⟩:=this
   obtain⟨i,f⟩:=e.cells r c ⟨o,q⟩
   rw [z]at f;cases f
def Ext.off (e:Ext G H G' H')(d:H a=y0 o) (b:dX G a):dX G' a:=λr c z=>by
 by_cases hn:r<G.n
 ·rw [e.aV r hn]at z;exact b r hn z
 ·have:=e.new r (Am0.mp hn) c
  rw [z,d]at this;cases this
def Ext.trans (b:Ext G H G1 H1) (e:ai Γ G h H) (c:Ext G1 H1 G2 H2):Ext G H G2 H2 where
 keep:=λa o z d=>c.keep a o (b.keep a o z d) (b.off z d)
 le:=Ac b.le c.le
 aV:=λr hn=>by rw [c.aV r (Ab hn b.le),b.aV r hn]
 new:=λr g f=>by
  by_cases hn:r<G1.n
  ·rw [c.aV r hn];exact b.new r g hn
  ·exact b.none e (c.new r (Am0.mp hn) f)
 fz:=λa z=>c.fz a (b.fz a z)
 old:=λa z=>(c.old a z).elim (λz=>b.old a z) λz=> .inr (b.none e z)
 cells:=λr hn z=>by
  have:=c.cells r (Ab hn b.le) (by rw [b.aV r hn];exact b.cells r hn z)
  rwa [b.aV r hn]at this
def Ext.rd (e:Ext G H G' H')(z:Rd H a u) (b:dX G a):Rd H' a u:=z.elim (λz=> .inl (e.keep a _ z b)) λ⟨o,z⟩=> .inr ⟨o,e.keep a _ z b⟩
structure Mon (G:Gh) (H:Hp) (G':Gh) (H':Hp):Prop where
 keep: ∀a o,G.fz a->H a=y0 o->H' a=y0 o
 le:G.n<=G'.n
 aV: ∀r,r<G.n->G'.aV r=G.aV r
 fz: ∀a,G.fz a->G'.fz a
def Ext.mon (e:Ext G H G' H') (b:ai Γ G h H):Mon G H G' H':=⟨λa o z q=>e.keep a o q (b.off z),e.le,e.aV,e.fz⟩
def Mon.rd (e:Mon G H G' H')(z:Rd H a u) (b:G.fz a):Rd H' a u:=z.elim (λz=> .inl (e.keep a _ b z)) λ⟨o,z⟩=> .inr ⟨o,e.keep a _ b z⟩
mutual
theorem aD.mon (e:Mon G H G' H'): ∀ {d:M.D}{v:V},aD Γ G H d v->aD Γ G' H' d v
 | .av,_,z=>z
 | .bl _,_,z=>z
 | .int _,_,z=>z
 | .str _,_,z=>z
 | .tup _,_,⟨a,vs,z1,z2,z3⟩=>⟨a,vs,z1,z2.elim (λz=> .inl ⟨e.fz a z.1,e.keep a _ z.1 z.2⟩) λz=> .inr z,ae.mon e z3⟩
 | .lst _,_,⟨a,vs,z1,z2,z3⟩=>⟨a,vs,z1,z2.elim (λz=> .inl ⟨e.fz a z.1,e.rd z.2 z.1⟩) .inr,ae.mon e z3⟩
 | .ref r,_,⟨z1,z2⟩=>⟨Ab z1 e.le,by rw [e.aV r z1];exact z2⟩
 | .exc c fs,_,z=>z.imp (λ⟨z0,x,z1,z2,z3,z4⟩=>⟨z0,x,z1,e.fz x z2,e.keep x _ z2 z3,z4⟩) id
 | .err c f d,_,⟨x,dx,u,z1,z2,z3,z4,z5,z6,z7,z8⟩=>⟨x,dx,u,z1,e.fz x z2,e.fz dx z3,e.keep x _ z2 z4,e.keep dx _ z3 z5,z6,z7,aD.mon e z8⟩
theorem ae.mon (e:Mon G H G' H'): ∀ {ds:List M.D}{vs:List V},ae Γ G H ds vs->ae Γ G' H' ds vs
 | [],_,z=>z
 | _::_,_,⟨v,r,z1,z2,z3⟩=>⟨v,r,z1,aD.mon e z2,ae.mon e z3⟩
end
theorem bx.mon (e:Mon G H G' H')(k: ∀o,H a=y0 o->H' a=y0 o) (z:bx Γ G H a c):bx Γ G' H' a c:=by
 cases c with
 | lst g=>obtain⟨f,m,d,b⟩:=z;exact⟨f,m,k _ d,b.mon e⟩
 | g6 i=>obtain⟨g,d,b,l⟩:=z;exact⟨g,k _ d,b,λx j=>(l x j).mon e⟩
 | bZ i=>exact k _ z
 | obj c fs=>obtain⟨f,h,n,d,b⟩:=z;exact⟨f,h,n,k _ d,b.mon e⟩
def aD.ext (e:Ext G H G' H') (a:ai Γ G h H)(z:aD Γ G H d v):aD Γ G' H' d v:=z.mon (e.mon a)
def ae.ext (e:Ext G H G' H') (a:ai Γ G h H)(z:ae Γ G H d v):ae Γ G' H' d v:=z.mon (e.mon a)
theorem au.ext (e:Ext G H G' H') (g:ai Γ G h H)(z:au Γ G H w v):au Γ G' H' w v:=by
 cases w with
 | v d=>exact aD.ext e g z
 | own l=>
  obtain⟨a,j,f,k,c,b,i⟩:=z
  refine⟨a,j,f,λq=> ?_,e.off b c,e.keep a _ b c,ae.ext e g i⟩
  obtain q | q:=e.old a q
  ·exact k q
  ·rw [b]at q;cases q
 | bor l=>
  obtain⟨a,j,f,c,b,i⟩:=z
  refine⟨a,j,f,?_,e.rd b c,ae.ext e g i⟩
  obtain b | ⟨o,b⟩:=b
  ·exact e.off b c
  ·exact e.off b c
theorem ax.ext (s:ax Γ G Y h U H) (e:Ext G H G' H') (b:ai Γ G' h' H'):ax Γ G' Y h' U H' where
 len:=s.len
 slot:=λi w z=>let ⟨v,a,c⟩:=s.slot i w z; ⟨v,a,c.ext e s.heap⟩
 apart:=s.apart
 heap:=b
theorem ae.length: ∀ {ds}{a},ae Γ G H ds a->ds.length=a.length
 | [],_,rfl=>rfl
 | _::_,_,⟨_,_,rfl,_,z⟩=>congrArg (· +1) (ae.length z)
theorem ae.get: ∀ {ds}{vs}{i:Nat}{d},ae Γ G H ds vs->ds[i]? =y0 d-> ∃v,vs[i]? =y0 v/\aD Γ G H d v
 | [],_,_,_,_,e=>by simp at e
 | _::_,_,0,_,⟨v,_,rfl,z,_⟩,e=>by simp at e;subst e;exact⟨v,rfl,z⟩
 | _::_,_,i+1,_,⟨_,_,rfl,_,z⟩,e=>by
  obtain⟨v,b,a⟩:=ae.get z (by simpa using e)
  exact⟨v,by simpa using b,a⟩
theorem ae.append: ∀ {ds es}{a b},ae Γ G H ds a->ae Γ G H es b->ae Γ G H (ds++es) (a++b)
 | [],_,_,_,rfl,z=>z
 | _::_,_,_,_,⟨v,r,rfl,c,d⟩,z=>⟨v,r++_,rfl,c,ae.append d z⟩
theorem ae.drop: ∀ {ds}{a}(n),ae Γ G H ds a->ae Γ G H (ds.drop n) (a.drop n)
 | _,_,0,z=>z
 | [],_,_+1,rfl=>rfl
 | _::_,_,n+1,⟨_,_,rfl,_,z⟩=>ae.drop n z
theorem ae.take: ∀ {ds}{a}(n),ae Γ G H ds a->ae Γ G H (ds.take n) (a.take n)
 | _,_,0,_=>rfl
 | [],_,_+1,rfl=>rfl
 | _::_,_,n+1,⟨v,r,rfl,b,z⟩=>⟨v,r.take n,rfl,b,ae.take n z⟩
theorem ae.reverse: ∀ {ds}{a},ae Γ G H ds a->ae Γ G H ds.reverse a.reverse
 | [],_,rfl=>rfl
 | _::_,_,⟨v,r,rfl,b,z⟩=>by
  rw [Al9,Al9]
  exact(ae.reverse z).append ⟨v,[],rfl,b,rfl⟩
theorem ae.set (z:aD Γ G H d v): ∀ {ds}{b} i,ae Γ G H ds b->ae Γ G H (ds.set i d) (b.set i v)
 | [],_,_,rfl=>rfl
 | _::_,_,0,⟨_,r,rfl,_,a⟩=>⟨v,r,rfl,z,a⟩
 | _::_,_,i+1,⟨u,r,rfl,c,a⟩=>⟨u,r.set i v,rfl,c,ae.set z i a⟩
def Gh.more (G:Gh) (a:Addr):Gh:= { G with fz:=λb=>G.fz b\/b=a }
def WC (o) (b:H p=u0):Ext G H G (aI H p o) where
 keep:=λa u z _=>by rw [ja (Wa z b)];exact z
 le:=Aa6 _
 aV:=λ_ _=>rfl
 new:=λr d c=>absurd d (Ao1.mpr c)
 fz:=λ_ z=>z
 old:=λ_ z=> .inl z
 cells:=λr _ ⟨u,z⟩=>⟨u,by rw [ja (Wa z b)];exact z⟩
def wh (o) (b:H p=u0):Ext G H (G.more p) (aI H p o) where
 keep:=λa u z _=>by rw [ja (Wa z b)];exact z
 le:=Aa6 _
 aV:=λ_ _=>rfl
 new:=λr d c=>absurd d (Ao1.mpr c)
 fz:=λ_ z=> .inl z
 old:=λa z=>z.elim .inl λe=> .inr (e▸b)
 cells:=λr _ ⟨u,z⟩=>⟨u,by rw [ja (Wa z b)];exact z⟩
def ai.new (r:ai Γ G h H)(o) (b:H p=u0):ai Γ G h (aI H p o) where
 len:=r.len
 any:=λi c z=>⟨(r.any i c z).1,(r.any i c z).2.mon ((WC o b).mon r) λu q=>by rw [ja (Wa q b)];exact q⟩
 inj:=r.inj
 live:=λa z=>let ⟨u,q⟩:=r.live a z; ⟨u,by rw [ja (Wa q b)];exact q⟩
def ai.fj (r:ai Γ G h H)(o) (b:H p=u0):ai Γ (G.more p) h (aI H p o) where
 len:=r.len
 any:=λi c z=>by
  obtain⟨f,d⟩:=r.any i c z
  obtain⟨u,g⟩:=d.there
  exact⟨λq=>q.elim f (Wa g b),d.mon ((wh o b).mon r) λu q=>by rw [ja (Wa q b)];exact q⟩
 inj:=r.inj
 live:=λa z=>z.elim (λz=>let ⟨u,q⟩:=r.live a z; ⟨u,by rw [ja (Wa q b)];exact q⟩) λe=>⟨o,by rw [e];exact wb⟩
def wn (a):Mon G H (G.more a) H:=⟨λ_ _ _ z=>z,Aa6 _,λ_ _=>rfl,λ_ z=> .inl z⟩
theorem Ext.more (e:Ext G H G1 H1)(c:H a=Option.none):Ext G H (G1.more a) H1:=
 ⟨e.keep,e.le,e.aV,e.new,λb z=> .inl (e.fz b z),λb z=>z.elim (λz=>e.old b z) λz=> .inr (z▸c),e.cells⟩
theorem ai.more (r:ai Γ G h H)(d:dX G a) (f: ∃o,H a=y0 o):ai Γ (G.more a) h H where
 len:=r.len
 any:=λi c z=>⟨λq=>q.elim (r.any i c z).1 λe=>d i (r.lt z) e,(r.any i c z).2.mon (wn a) λ_ q=>q⟩
 inj:=r.inj
 live:=λb z=>z.elim (λz=>r.live b z) λe=>e▸f
theorem au.more (z:au Γ G H w v) (l:gq w=k9->v≠ .ref a):au Γ (G.more a) H w v:=by
 cases w with
 | v d=>exact aD.mon (wn a) z
 | own k=>
  obtain⟨b,i,c,j,h,g,f⟩:=z
  exact⟨b,i,c,λq=>q.elim j λe=>l rfl (e▸c),h,g,f.mon (wn a)⟩
 | bor k=>
  obtain⟨b,i,c,h,g,f⟩:=z
  exact⟨b,i,c,h,g,f.mon (wn a)⟩
theorem ax.more (s:ax Γ G Y h U H)(b:dX G a) (f: ∃o,H a=y0 o) (g: ∀ i w,M.Gj Y i=y0 w->gq w=k9->U[i]? ≠y0 (y0 (.ref a))):ax Γ (G.more a) Y h U H where
 len:=s.len
 slot:=λi w z=>by
  obtain⟨v,c,d⟩:=s.slot i w z
  exact⟨v,c,d.more λq e=>g i w z q (e▸c)⟩
 apart:=s.apart
 heap:=s.heap.more b f
def aG (Y:M.Sl) (U:St) (H:Hp):M.W->V->Prop
 | .v _,_=>True
 | .own _,v=> ∃a,v= .ref a/\H a=u0
 | .bor _,v=> ∃(i:Nat) (w:M.W),M.Gj Y i=y0 w/\gq w=k9/\U[i]? =y0 (y0 v)
def aG.back (e:Ext G H G1 H1) (c:ai Γ G h H)(z:aG Y U H1 w v):aG Y U H w v:=by
 cases w with
 | v d=>trivial
 | own f=>obtain⟨a,b,g⟩:=z;exact⟨a,b,e.none c g⟩
 | bor f=>exact z
def ax.cC (s:ax Γ G Y h U H)(e:M.Gj Y i=y0 w) (j:gq w=k9) (q:U[i]? =y0 (y0 (.ref a))): ∃o,H a=y0 o:=by
 obtain⟨v,f,g⟩:=s.slot i w e
 rw [q]at f
 cases f
 cases w with
 | v d=>cases j
 | own k=>obtain⟨b,l,f,_,_,c,_⟩:=g;cases f;exact⟨_,c⟩
 | bor k=>
  obtain⟨b,l,f,_,c,_⟩:=g
  cases f
  obtain c | ⟨o,c⟩:=c
  ·exact⟨_,c⟩
  ·exact⟨_,c⟩
def nU (a:Ge) (E:XK) (d:M.D) (G:Gh) (H:Hp):Prop:=(∀ c,d= .exc c []->fb a c->E (.ref (a.ca c)) u0 H) ∧
 ∀c f b,d= .err c f b->fb a c->l4 a.K (a.ca c) (Str.ofString f)-> ∀dx u,G.fz dx->H dx=y0 (.xd [(Str.ofString f,u)])->aD a G H b u->E (.ref (a.ca c)) (y0 dx) H
def ay {c:Type}(b:Ge) (E:XK) (G:Gh) (H:Hp) (r:M.R c) (P:c->M.AH->Gh->Hp->Prop):Prop:=match r with
 | .ok a h'=> ∀G' H',Ext G H G' H'->ai b G' h' H'->P a h' G' H'
 | .exc d h'=> ∀G' H',Ext G H G' H'->ai b G' h' H'->nU b E d G' H'
 | .fail=>False
def ay.on (p:ay Γ E G H r P) (e:Ext G H G1 H1) (i:ai Γ G h H):ay Γ E G1 H1 r P:=by
 cases r with
 | ok a j=>exact λg f c b=>p g f (e.trans i c) b
 | exc d j=>exact λg f c b=>p g f (e.trans i c) b
 | fail=>exact p
def tD (a:Ge) (E:XK) (m:M.Sl->M.AH->M.R M.W):TE:=λU H Q=> ∃G Y h,ax a G Y h U H/\ay a E G H (m Y h) λw h' G' H'=> ∀v,au a G' H' w v->aG Y U H w v->Q v H'
def cD (a:Ge) (E:XK) (m:M.Sl->M.AH->M.R Bool):TT:=λU H Q=> ∃G Y h,ax a G Y h U H/\ay a E G H (m Y h) λb _ _ H'=>Q b H'
def Qa (a:ai Γ G0 h0 H0) (b:Ext G0 H0 G H) (s:ax Γ G Y h U H)
 (p:ay Γ E G0 H0 ((m Y h).bind f) P)
 (k: ∀w v h1 G1 H1,Ext G0 H0 G1 H1->Ext G H G1 H1->ax Γ G1 Y h1 U H1->au Γ G1 H1 w v->aG Y U H w v->ay Γ E G0 H0 (f w h1) P->Q v H1):tD Γ E m U H Q:=by
 refine⟨G,Y,h,s,?_⟩
 cases q:m Y h with
 | ok w h1=>
  rw [q]at p
  exact λG1 H1 e g v c i=>k w v h1 G1 H1 (b.trans a e) e (s.ext e g) c i p
 | exc d h1=>rw [q]at p;exact ay.on p b a
 | fail=>rw [q]at p;exact p
def JM (a:ai Γ G0 h0 H0) (c:Ext G0 H0 G H) (s:ax Γ G Y h U H)
 (p:ay Γ E G0 H0 ((m Y h).bind f) P)
 (k: ∀b h1 G1 H1,Ext G0 H0 G1 H1->Ext G H G1 H1->ax Γ G1 Y h1 U H1->ay Γ E G0 H0 (f b h1) P->Q b H1):cD Γ E m U H Q:=by
 refine⟨G,Y,h,s,?_⟩
 cases q:m Y h with
 | ok w h1=>
  rw [q]at p
  exact λG1 H1 e g=>k w h1 G1 H1 (c.trans a e) e (s.ext e g) p
 | exc d h1=>rw [q]at p;exact ay.on p c a
 | fail=>rw [q]at p;exact p
def iE (a:Ge) (E:XK) (m:M.Sl->M.AH->M.R (List M.D)):TA:=λU H Q=> ∃G Y h,ax a G Y h U H/\ay a E G H (m Y h) λds _ G' H'=> ∀b,ae a G' H' ds b->Q b H'
def bu (b:Ge) (G:Gh) (H:Hp):List M.W->List V->Prop
 | [],a=>a= []
 | w::c,a=> ∃v r,a=v::r/\au b G H w v/\bu b G H c r
theorem bu.length: ∀ {ws}{a},bu Γ G H ws a->ws.length=a.length
 | [],_,rfl=>rfl
 | _::_,_,⟨_,_,rfl,_,z⟩=>congrArg (· +1) (bu.length z)
def gT (a:Ge) (E:XK) (m:M.Sl->M.AH->M.R (List M.W)):TA:=λU H Q=> ∃G Y h,ax a G Y h U H/\ay a E G H (m Y h) λc _ G' H'=> ∀b,bu a G' H' c b->Q b H'
def WV (b:ai Γ G0 h0 H0) (c:Ext G0 H0 G H) (s:ax Γ G Y h U H)
 (p:ay Γ E G0 H0 ((m Y h).bind f) P)
 (k: ∀ds a h1 G1 H1,Ext G0 H0 G1 H1->Ext G H G1 H1->ax Γ G1 Y h1 U H1->ae Γ G1 H1 ds a->ay Γ E G0 H0 (f ds h1) P->Q a H1):iE Γ E m U H Q:=by
 refine⟨G,Y,h,s,?_⟩
 cases q:m Y h with
 | ok w h1=>
  rw [q]at p
  exact λG1 H1 e g a z=>k w a h1 G1 H1 (c.trans b e) e (s.ext e g) z p
 | exc d h1=>rw [q]at p;exact ay.on p c b
 | fail=>rw [q]at p;exact p
def Wx (b:ai Γ G0 h0 H0) (c:Ext G0 H0 G H) (s:ax Γ G Y h U H)
 (p:ay Γ E G0 H0 ((m Y h).bind f) P)
 (k: ∀ds a h1 G1 H1,Ext G0 H0 G1 H1->Ext G H G1 H1->ax Γ G1 Y h1 U H1->bu Γ G1 H1 ds a->ay Γ E G0 H0 (f ds h1) P->Q a H1):gT Γ E m U H Q:=by
 refine⟨G,Y,h,s,?_⟩
 cases q:m Y h with
 | ok w h1=>
  rw [q]at p
  exact λG1 H1 e g a z=>k w a h1 G1 H1 (c.trans b e) e (s.ext e g) z p
 | exc d h1=>rw [q]at p;exact ay.on p c b
 | fail=>rw [q]at p;exact p
theorem ay.of (p:ay Γ E G H ((M.R.of h o).bind f) P): ∃b,o=y0 b/\ay Γ E G H (f b h) P:=by
 cases o with
 | none=>exact p.elim
 | some b=>exact⟨b,rfl,p⟩
def ay.at (p:ay Γ E G H (.ok a h) P) (e:Ext G H G1 H1) (b:ai Γ G1 h H1):P a h G1 H1:=p G1 H1 e b
def ny (e:Ext G H G1 H1) (s:ax Γ G1 Y h U H1) (p:ax Γ G Y h' U H)(r:au Γ G1 H1 w v) (f:aG Y U H w v) (c:w.d=y0 d):
 ∃G2,Ext G H G2 H1/\ax Γ G2 Y h U H1/\aD Γ G2 H1 d v/\Mon G1 H1 G2 H1:=by
 cases w with
 | v y=>cases c;exact⟨G1,e,s,r,⟨λ_ _ _ z=>z,Aa6 _,λ_ _=>rfl,λ_ z=>z⟩⟩
 | own m=>
  cases c
  obtain⟨a,n,rfl,x,u,j,t⟩:=r
  obtain⟨b,k,hn⟩:=f
  cases k
  refine⟨G1.more a,e.more hn,s.more u ⟨_,j⟩ λi w q l z=> ?_,⟨a,n,rfl,.inl ⟨.inr rfl,.inl j⟩,t.mon (wn a)⟩,wn a⟩
  obtain⟨o,g⟩:=p.cC q l z
  rw [hn]at g;cases g
 | bor m=>cases c
end
open PySem PySem.Spec PyProof.Rows
mutual
def RV (hp:Heap):M.D->Value->Prop
 | .av,u=>u= .none
 | .bl b,u=>u= .bool b
 | .int i,u=> ∃t,u= .int i t
 | .str s,u=> ∃t,u= .str (cy s) t
 | .tup ds,u=> ∃(a:Addr) (its:List Value),u= .ref a/\IsTup hp a its.toArray/\cg hp ds its
 | .lst ds,u=> ∃(a:Addr) (its:List Value),u= .ref a/\hp.IsList a its.toArray/\cg hp ds its
 | .ref _,_=>False
 | .exc _ _,_=>False
 | .err _ _ _,_=>False
def cg (hp:Heap):List M.D->List Value->Prop
 | [],us=>us= []
 | d::ds,us=> ∃u r,us=u::r/\RV hp d u/\cg hp ds r
end
theorem cg.length : ∀ {ds}{a},cg hp ds a->ds.length=a.length
 | [],_,rfl=>rfl
 | _::_,_,⟨_,_,rfl,_,z⟩=>congrArg (· +1) (cg.length z)
theorem cg.get : ∀ {ds}{us}{j:Nat}{u},cg hp ds us->us[j]? =y0 u-> ∃d,ds[j]? =y0 d/\RV hp d u
 | [],_,_,_,rfl,e=>by simp at e
 | d::_,_,0,_,⟨v,_,rfl,z,_⟩,e=>by simp at e;subst e;exact⟨d,rfl,z⟩
 | _::_,_,j+1,_,⟨_,_,rfl,_,z⟩,e=>by
  obtain⟨v,b,a⟩:=cg.get z (by simpa using e)
  exact⟨v,by simpa using b,a⟩
section
variable {X:Cx}{Γ:Ge}{G:Gh}{H:Hp}{h:M.AH}{k8:List (Addr×Obj)}{U:St}{s:Shared}
mutual
theorem aD.il (I:Inv X k8 U H s) (hK:X.K=Γ.K): ∀ {d:M.D}{x:V}{u:Value},aD Γ G H d x->RelV x u->M.Gc d=k9->RV s.heap d u
 | .av,_,_,rfl,r,_=>r
 | .bl _,_,_,rfl,r,_=>r
 | .int _,_,_,rfl,r,_=>r
 | .str _,_,_,rfl,r,_=>r
 | .tup ds,_,_,⟨a,vs,rfl,z2,z3⟩,r,n=>by
  cases r
  obtain⟨its,r1,p1,_⟩:=I.tuple (hK▸z2.sq)
  exact⟨a,its,rfl,p1,ae.il I hK z3 r1 (by simpa [M.Gc]using n)⟩
 | .lst ds,_,_,⟨a,vs,rfl,z2,z3⟩,r,n=>by
  cases r
  obtain⟨its,r1,p1,_⟩:=I.list (hK▸z2.sq)
  exact⟨a,its,rfl,p1.isList,ae.il I hK z3 r1 (by simpa [M.Gc]using n)⟩
 | .ref _,_,_,_,_,n=>by simp [M.Gc]at n
 | .exc _ _,_,_,_,_,n=>by simp [M.Gc]at n
 | .err _ _ _,_,_,_,_,n=>by simp [M.Gc]at n
theorem ae.il (I:Inv X k8 U H s) (hK:X.K=Γ.K): ∀ {ds:List M.D}{xs:List V}{us:List Value},ae Γ G H ds xs->Vals xs us->M.Gd ds=k9->cg s.heap ds us
 | [],_,_,rfl,.nil,_=>rfl
 | d::ds,_,_,⟨v,r,rfl,z1,z2⟩,.cons r1 r2,n=>by
  have n':M.Gc d=k9/\M.Gd ds=true:=by simpa [M.Gd]using n
  exact⟨_,_,rfl,aD.il I hK z1 r1 n'.1,ae.il I hK z2 r2 n'.2⟩
end
mutual
theorem aD.rv (I:Inv X k8 U H s) (hK:X.K=Γ.K) (hr:ai Γ G h H): ∀ {d:M.D}{x:V}{u:Value},aD Γ G H d x->RelV x u->M.Gc (M.res h d)=k9->RV s.heap (M.res h d) u
 | .av,_,_,rfl,r,_=>r
 | .bl _,_,_,rfl,r,_=>r
 | .int _,_,_,rfl,r,_=>r
 | .str _,_,_,rfl,r,_=>r
 | .tup ds,_,_,⟨a,vs,rfl,z2,z3⟩,r,n=>by
  cases r
  obtain⟨its,r1,p1,_⟩:=I.tuple (hK▸z2.sq)
  rw [M.res]at n ⊢
  exact⟨a,its,rfl,p1,ae.rv I hK hr z3 r1 (by simpa [M.Gc]using n)⟩
 | .lst ds,_,_,⟨a,vs,rfl,z2,z3⟩,r,n=>by
  cases r
  obtain⟨its,r1,p1,_⟩:=I.list (hK▸z2.sq)
  rw [M.res]at n ⊢
  exact⟨a,its,rfl,p1.isList,ae.rv I hK hr z3 r1 (by simpa [M.Gc]using n)⟩
 | .ref i,_,_,⟨hi,e⟩,r,n=>by
  subst e
  cases r
  rw [M.res]at n ⊢
  cases q:h[i]? with
  | none=>rw [q]at n;simp [M.Gc]at n
  | some c=>
   cases c with
   | lst xs=>
    rw [q]at n
    obtain⟨_,vs,z2,z3⟩:=hr.cell i xs q
    obtain⟨its,r1,p1,_⟩:=I.list (a8.of (K:=X.K) z2)
    exact⟨_,its,rfl,p1.isList,ae.il I hK z3 r1 (by simpa [M.Gc]using n)⟩
   | g6 ks=>rw [q]at n;simp [M.Gc]at n
   | obj c fs=>rw [q]at n;simp [M.Gc]at n
   | bZ ks=>rw [q]at n;simp [M.Gc]at n
 | .exc _ _,_,_,_,_,n=>by simp [M.res,M.Gc]at n
 | .err _ _ _,_,_,_,_,n=>by simp [M.res,M.Gc]at n
theorem ae.rv (I:Inv X k8 U H s) (hK:X.K=Γ.K) (hr:ai Γ G h H): ∀ {ds:List M.D}{xs:List V}{us:List Value},ae Γ G H ds xs->Vals xs us->M.Gd (M.KT h ds)=k9->cg s.heap (M.KT h ds) us
 | [],_,_,rfl,.nil,_=>rfl
 | d::ds,_,_,⟨v,r,rfl,z1,z2⟩,.cons r1 r2,n=>by
  rw [M.KT]at n ⊢
  have n':M.Gc (M.res h d)=k9/\M.Gd (M.KT h ds)=true:=by simpa [M.Gd]using n
  exact⟨_,_,rfl,aD.rv I hK hr z1 r1 n'.1,ae.rv I hK hr z2 r2 n'.2⟩
end
theorem au.rv (I:Inv X k8 U H s) (j:X.K=Γ.K) (e:ai Γ G h H)(z:au Γ G H w x) (r:RelV x u) (n:M.Gc (w.dd h)=k9):RV s.heap (w.dd h) u:=by
 cases w with
 | v d=>exact aD.rv I j e z r n
 | own k=>
  obtain⟨a,l,rfl,_,_,i,g⟩:=z
  cases r
  obtain⟨b,c,f,_⟩:=I.list (a8.of i)
  exact⟨a,b,rfl,f.isList,ae.rv I j e g c (by simp_all)⟩
 | bor k=>
  obtain⟨a,l,rfl,_,i,g⟩:=z
  cases r
  obtain⟨b,c,f,_⟩:=I.list (.inl i)
  exact⟨a,b,rfl,f.isList,ae.rv I j e g c (by simp_all)⟩
end
def si (h:cy a=cy b):a=b:=by
 have:=congrArg Str.cps h
 simpa [cy]using this
def zU {xs b:List Value}(h1:IsTup hp a xs.toArray) (h2:IsTup hp a b.toArray):xs=b:=by
 obtain⟨o,e,_,n,f⟩:=h1
 obtain⟨h,d,_,g,c⟩:=h2
 rw [e]at d;cases d
 rw [f]at c;cases c
 rfl
def zG {b:Heap}{xs c:List Value}(h1:b.IsList a xs.toArray) (h2:b.IsList a c.toArray):xs=c:=by
 obtain⟨o,f,_,n,g⟩:=h1
 obtain⟨i,e,_,h,d⟩:=h2
 rw [f]at e;cases e
 rw [g]at d;cases d
 rfl
def qz (h1:IsTup hp a xs) (h2:hp.IsList a ys):False:=by
 obtain⟨o,d,e,_⟩:=h1
 obtain⟨f,b,c,_⟩:=h2
 rw [d]at b;cases b
 rw [e]at c
 exact absurd c (by decide)
mutual
theorem RV.inj {hp:Heap}: ∀ {d e:M.D}{u:Value},RV hp d u->RV hp e u->d=e
 | .av,e,_,rfl,q=>by cases e<;>first | rfl | (simp [RV]at q)
 | .bl _,e,_,rfl,q=>by cases e<;>first | (simp [RV]at q;done) | (have q:=q;simp [RV]at q;try rw [q])
 | .int _,e,_,⟨t,rfl⟩,q=>by cases e<;>first | (simp [RV]at q;done) | (have q:=q;simp [RV]at q;try rw [q])
 | .str _,e,_,⟨t,rfl⟩,q=>by
  cases e with
  | str z=>
   obtain⟨t',q⟩:=q
   injection q with q1 q2
   rw [si q1]
  | _=>simp [RV]at q
 | .tup ds,e,_,⟨a,its,rfl,p,r⟩,q=>by
  cases e with
  | tup es=>
   obtain⟨b,its2,e,p2,r2⟩:=q
   cases e
   cases zU p p2
   rw [cg.inj r r2]
  | lst es=>
   obtain⟨b,its2,e,p2,r2⟩:=q
   cases e
   exact(qz p p2).elim
  | _=>simp [RV]at q
 | .lst ds,e,_,⟨a,its,rfl,p,r⟩,q=>by
  cases e with
  | lst es=>
   obtain⟨b,its2,e,p2,r2⟩:=q
   cases e
   cases zG p p2
   rw [cg.inj r r2]
  | tup es=>
   obtain⟨b,its2,e,p2,r2⟩:=q
   cases e
   exact(qz p2 p).elim
  | _=>simp [RV]at q
 | .ref _,_,_,q,_=>q.elim
 | .exc _ _,_,_,q,_=>q.elim
 | .err _ _ _,_,_,q,_=>q.elim
theorem cg.inj {hp:Heap}: ∀ {d e:List M.D}{u:List Value},cg hp d u->cg hp e u->d=e
 | [],e,_,rfl,q=>by
  cases e with
  | nil=>rfl
  | cons a b=>obtain⟨_,_,z,_⟩:=q;cases z
 | d::ds,e,_,⟨u,r,rfl,z1,z2⟩,q=>by
  cases e with
  | nil=>cases (show _::_= []from q)
  | cons a b=>
   obtain⟨_,_,z,y1,y2⟩:=q
   cases z
   rw [RV.inj z1 y1,cg.inj z2 y2]
end
mutual
theorem RV.refl {hp:Heap}: ∀ {d:M.D}{u:Value},RV hp d u->M.cj d d=k9
 | .av,_,_=>rfl
 | .bl _,_,_=>by simp
 | .int _,_,_=>by simp
 | .str _,_,_=>by simp
 | .tup ds,_,⟨_,_,_,_,r⟩=>by rw [M.cj];exact cg.refl r
 | .lst ds,_,⟨_,_,_,_,r⟩=>by rw [M.cj];exact cg.refl r
 | .ref _,_,q=>q.elim
 | .exc _ _,_,q=>q.elim
 | .err _ _ _,_,q=>q.elim
theorem cg.refl {hp:Heap}: ∀ {d:List M.D}{u:List Value},cg hp d u->M.Ks d d=k9
 | [],_,_=>rfl
 | d::ds,_,⟨_,_,_,z1,z2⟩=>by rw [M.Ks,RV.refl z1,cg.refl z2];rfl
end
def i6 (xs c:List M.D) (j:Nat):Bool:=match xs[j]?,c[j]? with
 | some a,y0 b=>M.cj a b
 | _,_=>k9
def wF (n) (e):(Aa0 (n+1)).all e=(e 0&&(Aa0 n).all λj=>e (j+1)):=by
 rw [Af7,Ai4,Am5];rfl
theorem JU: ∀(xs ys),xs.length=ys.length->(Aa0 xs.length).all (i6 xs ys)=M.Ks xs ys
 | [],[],_=>rfl
 | [],_::_,h=>by simp at h
 | _::_,[],h=>by simp at h
 | x::xs,y::ys,h=>by
  rw [Ab7,wF,M.Ks]
  have a:=JU xs ys (by simpa using h)
  rw [← a]
  rfl
theorem X3: ∀(xs ys),M.Ks xs ys=k9->xs.length=ys.length
 | [],[],_=>rfl
 | [],_::_,h=>by simp at h
 | _::_,[],h=>by simp at h
 | x::xs,y::ys,h=>by
  rw [M.Ks,Aa7]at h
  rw [Ab7,Ab7,X3 xs ys h.2]
def vW (h:xs.length≠ys.length):M.Ks xs ys=false:=by
 cases e:M.Ks xs ys with
 | false=>rfl
 | true=>exact absurd (X3 xs ys e) h
open SeqAt in
structure dE (A:Around) (s:Shared) (u v:Value) (b:Bool):Prop where
 rc:RcAt A s u v b
 ne:RcNeAt A s u v (!b)
 eq:EqAt A s u v b
section
open SeqAt
variable {A:Around}{s:Shared}
theorem wA: ∀ {ds}{j:Nat}{d},ds[j]? =y0 d->M.dep d<=M.KA ds
 | [],_,_,e=>by simp at e
 | x::a,0,d,e=>by simp at e;subst e;simp only [M.KA];omega
 | x::a,j+1,d,e=>by
  have:=wA (by simpa using e)
  simp only [M.KA]
  omega
def mE (b:Bool):((if b then(1:Int)else 0))=((b.toNat:Nat):Int):=by cases b<;>rfl
def sY (a b):(cy a==cy b)=(a==b):=by
 by_cases h:a=b
 ·subst h;simp
 ·have c:=λe=>h (si e)
  rw [beq_eq_false_iff_ne.mpr h,beq_eq_false_iff_ne.mpr c]
def AG (h:s.heap.IsList l its.toArray) (g:s.heap.IsList b its2.toArray) (i:cg s.heap xs its) (m:cg s.heap ys its2) (k:A.units<cLine)
 (y: ∀(j:Nat) a c u v,xs[j]? =y0 a->ys[j]? =y0 c->RV s.heap a u->RV s.heap c v->EqAt A.in1 s u v (M.cj a c)):dE A s (.ref l) (.ref b) (M.Ks xs ys):=by
 have q: ∀ j t (w:j<its2.toArray.size),EqAt A.in1 s its.toArray[j] its2.toArray[j] (i6 xs ys j):=λj t w=>by
  obtain⟨a,p,r⟩:=i.get (j:=j) (u:=its.toArray[j]) (by simp)
  obtain⟨c,n,z⟩:=m.get (j:=j) (u:=its2.toArray[j]) (by simp)
  have:=y j a c _ _ p n r z
  unfold i6
  rw [p,n]
  exact this
 have x:=i.length
 have l2:=m.length
 have two:RcAt A s (.ref l) (.ref b) (M.Ks xs ys)/\RcNeAt A s (.ref l) (.ref b) (!M.Ks xs ys):=by
  by_cases o:xs.length=ys.length
  ·have d:its.toArray.size=its2.toArray.size:=by simp;lia
   have e:(Aa0 its.toArray.size).all (i6 xs ys)=M.Ks xs ys:=by
    rw [Ab8,←x];exact JU xs ys o
   have a:=RcAt.lists h g d k q
   have c:=RcNeAt.lists h g d k q
   rw [e]at a c
   exact⟨a,c⟩
  ·have d:(its.toArray.size != its2.toArray.size)=true:=by simp;lia
   rw [vW o]
   exact⟨RcAt.lists_lengths h g d k,RcNeAt.lists_lengths h g d k⟩
 refine⟨two.1,two.2,?_⟩
 by_cases f:l=b
 ·subst f
  cases zG h g
  cases cg.inj i m
  rw [cg.refl i]
  exact EqAt.same _
 ·exact EqAt.of_refs f two.1
def Lq (k:IsTup s.heap l its.toArray) (i:IsTup s.heap b its2.toArray) (f:cg s.heap xs its) (h:cg s.heap ys its2) (n:A.units<cLine)
 (x: ∀(j:Nat) a c u v,xs[j]? =y0 a->ys[j]? =y0 c->RV s.heap a u->RV s.heap c v->EqAt A.in1 s u v (M.cj a c)):dE A s (.ref l) (.ref b) (M.Ks xs ys):=by
 have p: ∀ j r (t:j<its2.toArray.size),EqAt A.in1 s its.toArray[j] its2.toArray[j] (i6 xs ys j):=λj r t=>by
  obtain⟨a,o,q⟩:=f.get (j:=j) (u:=its.toArray[j]) (by simp)
  obtain⟨c,m,y⟩:=h.get (j:=j) (u:=its2.toArray[j]) (by simp)
  have:=x j a c _ _ o m q y
  unfold i6
  rw [o,m]
  exact this
 have w:=f.length
 have l2:=h.length
 have e:((Aa0 (min its.toArray.size its2.toArray.size)).all (i6 xs ys)&&its.toArray.size==its2.toArray.size)=M.Ks xs ys:=by
  rw [Ab8,Ab8,←w,←l2]
  by_cases g:xs.length=ys.length
  ·rw [← g,Nat.min_self,JU xs ys g];simp
  ·rw [vW g];simp [g]
 have a:=RcAt.tuples k i n p
 have c:=RcNeAt.tuples k i n p
 rw [e]at a c
 refine⟨a,c,?_⟩
 by_cases d:l=b
 ·subst d
  cases zU k i
  cases cg.inj f h
  rw [cg.refl f]
  exact EqAt.same _
 ·exact EqAt.of_refs d a
def dE.of (h:dE A s u v b) (e:b=b'):dE A s u v b':=e▸h
def oK: ∀(n:Nat) (d e:M.D) (A:Around) (u v:Value),M.dep d<=n->A.units+n<cLine->RV s.heap d u->RV s.heap e v->dE A s u v (M.cj d e):=by
 intro n
 induction n with
 | zero=>
  intro d e A u v B N m f
  have c:A.units<cLine:=by omega
  cases d with
  | av=>
   cases (show u= .none from m)
   cases e with
   | av=>cases (show v= .none from f);exact⟨RcAt.none_none,RcNeAt.none_none,EqAt.same _⟩
   | bl b=>cases (show v= .bool b from f);exact⟨RcAt.none_bool b,RcNeAt.none_bool b,EqAt.none_bool b⟩
   | int i=>obtain⟨t,rfl⟩:=f;exact⟨RcAt.none_int i t,RcNeAt.none_int i t,EqAt.none_int i t⟩
   | str z=>obtain⟨t,rfl⟩:=f;exact⟨RcAt.none_str _ t,RcNeAt.none_str _ t,EqAt.none_str _ t⟩
   | tup o=>obtain⟨a,k,rfl,p,_⟩:=f;exact⟨RcAt.none_tuple p c,RcNeAt.none_tuple p c,EqAt.none_tuple p c⟩
   | lst o=>obtain⟨a,k,rfl,p,_⟩:=f;exact⟨RcAt.none_list p c,RcNeAt.none_list p c,EqAt.none_list p c⟩
   | ref _=>exact f.elim
   | exc _ _=>exact f.elim
   | err _ _ _=>exact f.elim
  | bl x=>
   cases (show u= .bool x from m)
   cases e with
   | av=>cases (show v= .none from f);exact⟨RcAt.bool_none x,RcNeAt.bool_none x,EqAt.bool_none x⟩
   | bl b=>cases (show v= .bool b from f);exact⟨RcAt.bool_bool x b,RcNeAt.bool_bool x b,EqAt.bool_bool x b⟩
   | int i=>obtain⟨t,rfl⟩:=f;exact(dE.mk (RcAt.bool_int x i t) (RcNeAt.bool_int x i t) (EqAt.bool_int x i t)).of (by rw [mE];rfl)
   | str z=>obtain⟨t,rfl⟩:=f;exact⟨RcAt.bool_str x _ t,RcNeAt.bool_str x _ t,EqAt.bool_str x _ t⟩
   | tup o=>obtain⟨a,k,rfl,p,_⟩:=f;exact⟨RcAt.bool_tuple x p c,RcNeAt.bool_tuple x p c,EqAt.bool_tuple x p c⟩
   | lst o=>obtain⟨a,k,rfl,p,_⟩:=f;exact⟨RcAt.bool_list x p c,RcNeAt.bool_list x p c,EqAt.bool_list x p c⟩
   | ref _=>exact f.elim
   | exc _ _=>exact f.elim
   | err _ _ _=>exact f.elim
  | int x=>
   obtain⟨g,rfl⟩:=m
   cases e with
   | av=>cases (show v= .none from f);exact⟨RcAt.int_none x g,RcNeAt.int_none x g,EqAt.int_none x g⟩
   | bl b=>cases (show v= .bool b from f);exact(dE.mk (RcAt.int_bool x g b) (RcNeAt.int_bool x g b) (EqAt.int_bool x g b)).of (by rw [mE];rfl)
   | int i=>obtain⟨t,rfl⟩:=f;exact⟨RcAt.int_int x g i t,RcNeAt.int_int x g i t,EqAt.int_int x g i t⟩
   | str z=>obtain⟨t,rfl⟩:=f;exact⟨RcAt.int_str x g _ t,RcNeAt.int_str x g _ t,EqAt.int_str x g _ t⟩
   | tup o=>obtain⟨a,k,rfl,p,_⟩:=f;exact⟨RcAt.int_tuple x g p c,RcNeAt.int_tuple x g p c,EqAt.int_tuple x g p c⟩
   | lst o=>obtain⟨a,k,rfl,p,_⟩:=f;exact⟨RcAt.int_list x g p c,RcNeAt.int_list x g p c,EqAt.int_list x g p c⟩
   | ref _=>exact f.elim
   | exc _ _=>exact f.elim
   | err _ _ _=>exact f.elim
  | str x=>
   obtain⟨g,rfl⟩:=m
   cases e with
   | av=>cases (show v= .none from f);exact⟨RcAt.str_none _ g,RcNeAt.str_none _ g,EqAt.str_none _ g⟩
   | bl b=>cases (show v= .bool b from f);exact⟨RcAt.str_bool _ g b,RcNeAt.str_bool _ g b,EqAt.str_bool _ g b⟩
   | int i=>obtain⟨t,rfl⟩:=f;exact⟨RcAt.str_int _ g i t,RcNeAt.str_int _ g i t,EqAt.str_int _ g i t⟩
   | str z=>obtain⟨t,rfl⟩:=f;exact(dE.mk (RcAt.str_str _ g _ t) (RcNeAt.str_str _ g _ t) (EqAt.str_str _ g _ t)).of (by rw [sY];rfl)
   | tup o=>obtain⟨a,k,rfl,p,_⟩:=f;exact⟨RcAt.str_tuple _ g p c,RcNeAt.str_tuple _ g p c,EqAt.str_tuple _ g p c⟩
   | lst o=>obtain⟨a,k,rfl,p,_⟩:=f;exact⟨RcAt.str_list _ g p c,RcNeAt.str_list _ g p c,EqAt.str_list _ g p c⟩
   | ref _=>exact f.elim
   | exc _ _=>exact f.elim
   | err _ _ _=>exact f.elim
  | tup C=>simp only [M.dep]at B;omega
  | lst C=>simp only [M.dep]at B;omega
  | ref _=>exact m.elim
  | exc _ _=>exact m.elim
  | err _ _ _=>exact m.elim
 | succ n w=>
  intro d e A u v B N m f
  have c:A.units<cLine:=by omega
  cases d with
  | tup C=>
   obtain⟨l,y,rfl,h,K⟩:=m
   have r:M.KA C<=n:=by simp only [M.dep]at B;omega
   cases e with
   | av=>cases (show v= .none from f);exact⟨RcAt.tuple_none h c,RcNeAt.tuple_none h c,EqAt.tuple_none h c⟩
   | bl b=>cases (show v= .bool b from f);exact⟨RcAt.tuple_bool b h c,RcNeAt.tuple_bool b h c,EqAt.tuple_bool b h c⟩
   | int i=>obtain⟨t,rfl⟩:=f;exact⟨RcAt.tuple_int i t h c,RcNeAt.tuple_int i t h c,EqAt.tuple_int i t h c⟩
   | str z=>obtain⟨t,rfl⟩:=f;exact⟨RcAt.tuple_str _ t h c,RcNeAt.tuple_str _ t h c,EqAt.tuple_str _ t h c⟩
   | tup o=>
    obtain⟨a,k,rfl,p,q⟩:=f
    rw [M.cj]
    exact Lq h p K q c λj H J E G D L I F=>(w H J A.in1 E G (Ac (wA D) r) (by show A.units+1+n<cLine;omega) I F).eq
   | lst o=>obtain⟨a,k,rfl,p,_⟩:=f;exact⟨RcAt.tuple_list h p c,RcNeAt.tuple_list h p c,EqAt.tuple_list h p c⟩
   | ref _=>exact f.elim
   | exc _ _=>exact f.elim
   | err _ _ _=>exact f.elim
  | lst C=>
   obtain⟨l,y,rfl,h,K⟩:=m
   have r:M.KA C<=n:=by simp only [M.dep]at B;omega
   cases e with
   | av=>cases (show v= .none from f);exact⟨RcAt.list_none h c,RcNeAt.list_none h c,EqAt.list_none h c⟩
   | bl b=>cases (show v= .bool b from f);exact⟨RcAt.list_bool b h c,RcNeAt.list_bool b h c,EqAt.list_bool b h c⟩
   | int i=>obtain⟨t,rfl⟩:=f;exact⟨RcAt.list_int i t h c,RcNeAt.list_int i t h c,EqAt.list_int i t h c⟩
   | str z=>obtain⟨t,rfl⟩:=f;exact⟨RcAt.list_str _ t h c,RcNeAt.list_str _ t h c,EqAt.list_str _ t h c⟩
   | lst o=>
    obtain⟨a,k,rfl,p,q⟩:=f
    rw [M.cj]
    exact AG h p K q c λj H J E G D L I F=>(w H J A.in1 E G (Ac (wA D) r) (by show A.units+1+n<cLine;omega) I F).eq
   | tup o=>obtain⟨a,k,rfl,p,_⟩:=f;exact⟨RcAt.list_tuple h p c,RcNeAt.list_tuple h p c,EqAt.list_tuple h p c⟩
   | ref _=>exact f.elim
   | exc _ _=>exact f.elim
   | err _ _ _=>exact f.elim
  | av=>exact w .av e A u v (by simp) (by omega) m f
  | bl x=>exact w _ e A u v (by simp) (by omega) m f
  | int x=>exact w _ e A u v (by simp) (by omega) m f
  | str x=>exact w _ e A u v (by simp) (by omega) m f
  | ref _=>exact m.elim
  | exc _ _=>exact m.elim
  | err _ _ _=>exact m.elim
end
def aC (a:Ge) (E:XK) (G:Gh) (H:Hp) (r:M.R M.W) (Q:VK):Prop:=ay a E G H r λw _ G' H'=> ∀v,au a G' H' w v->aG [] [] H w v->Q v H'
section
variable {X:Cx}{Γ:Ge}{G:Gh}{H:Hp}{h:M.AH}{k8:List (Addr×Obj)}{U:St}{s:Shared}{Q:VK}{E:XK}
theorem aC.v (p:aC Γ E G H (.ok (.v d) h) Q) (a:ai Γ G h H){v:V}(z:aD Γ G H d v):Q v H:=p G H Ext.refl a v z trivial
def ai.og (b:ai Γ G h H)(c:H a=u0): ¬G.fz a:=λq=>by
 obtain⟨o,z⟩:=b.live a q
 rw [c]at z;cases z
def ai.ll (b:ai Γ G h H)(c:H a=u0):dX G a:=λr hn e=>by
 obtain⟨o,q⟩:=b.there hn
 rw [e,c]at q;cases q
theorem aC.own (p:aC Γ E G H (.ok (.own xs) h) Q) (c:ai Γ G h H) (z:ae Γ G H xs vs) (a) (b:H a=u0):Q (.ref a) (aI H a (.lst vs)):=
 p G _ (WC _ b) (c.new _ b) _ ⟨a,vs,rfl,c.og b,c.ll b,wb,z.ext (WC _ b) c⟩ ⟨a,rfl,b⟩
theorem aC.tup (p:aC Γ E G H (.ok (.v (.tup xs)) h) Q) (c:ai Γ G h H) (z:ae Γ G H xs vs) (a) (b:H a=u0):Q (.ref a) (aI H a (.tup vs)):=
 p _ _ (wh _ b) (c.fj _ b) _ ⟨a,vs,rfl,.inl ⟨.inr rfl,wb⟩,z.ext (wh _ b) c⟩ trivial
theorem aC.of (p:aC Γ E G H ((M.R.of h o).bind f) Q): ∃b,o=y0 b/\aC Γ E G H (f b h) Q:=ay.of p
def aC.mk (p:ay Γ E G0 H0 r λw _ G' H'=> ∀v,au Γ G' H' w v->aG Y U H0 w v->Q v H') (e:Ext G0 H0 G H) (f:ai Γ G0 h0 H0):aC Γ E G H r Q:=by
 cases r with
 | ok w j=>
  refine λG' H' c b v l h=>p G' H' (e.trans f c) b v l ?_
  cases w with
  | v d=>trivial
  | own k=>obtain⟨a,g,m⟩:=h;exact⟨a,g,e.none f m⟩
  | bor k=>obtain⟨i,w,g,_⟩:=h;simp at g
 | exc d j=>exact λG' H' c b=>p G' H' (e.trans f c) b
 | fail=>exact p
theorem au.lst (k:ai Γ G h H)(z:au Γ G H w v) (e:w.br h=y0 xs): ∃a b,v= .ref a/\a8 Γ.K H a b/\ae Γ G H xs b:=by
 cases w with
 | v d=>
  cases d with
  | lst j=>cases e;obtain⟨a,b,g,f,i⟩:=z;exact⟨a,b,g,f.sq,i⟩
  | ref r=>
   obtain⟨hn,g⟩:=z
   have e:(match h[r]? with | some (M.Cell.lst zs)=>y0 zs | _=>u0)=y0 xs:=e
   cases q:h[r]? with
   | none=>rw [q]at e;cases e
   | some c=>
    cases c with
    | lst j=>
     rw [q]at e
     cases e
     obtain⟨_,b,f,i⟩:=k.cell r _ q
     exact⟨_,b,g,a8.of f,i⟩
    | g6 l=>rw [q]at e;cases e
    | obj c fs=>rw [q]at e;cases e
    | bZ l=>rw [q]at e;cases e
  | av=>cases e
  | bl _=>cases e
  | int _=>cases e
  | str _=>cases e
  | tup _=>cases e
  | exc _ _=>cases e
  | err _ _ _=>cases e
 | own j=>cases e;obtain⟨a,b,g,_,_,f,i⟩:=z;exact⟨a,b,g,a8.of f,i⟩
 | bor j=>cases e;obtain⟨a,b,g,_,f,i⟩:=z;exact⟨a,b,g,.inl f,i⟩
theorem au.nG (k:ai Γ G h H)(z:au Γ G H w v) (e:w.hI h=y0 xs): ∃a b,v= .ref a/\Rd H a (.lst b)/\ae Γ G H xs b:=by
 cases w with
 | v d=>
  cases d with
  | ref r=>
   obtain⟨hn,g⟩:=z
   have e:(match h[r]? with | some (M.Cell.lst zs)=>y0 zs | _=>u0)=y0 xs:=e
   cases q:h[r]? with
   | none=>rw [q]at e;cases e
   | some c=>
    cases c with
    | lst j=>
     rw [q]at e
     cases e
     obtain⟨_,b,f,i⟩:=k.cell r _ q
     exact⟨_,b,g,.inl f,i⟩
    | g6 l=>rw [q]at e;cases e
    | obj c fs=>rw [q]at e;cases e
    | bZ l=>rw [q]at e;cases e
  | _=>cases e
 | own j=>cases e;obtain⟨a,b,g,_,_,f,i⟩:=z;exact⟨a,b,g,.inl f,i⟩
 | bor j=>cases e;obtain⟨a,b,g,_,f,i⟩:=z;exact⟨a,b,g,f,i⟩
theorem au.seq (k:ai Γ G h H)(z:au Γ G H w v) (e:w.seq? h=y0 xs): ∃a b,v= .ref a/\(a8 Γ.K H a b\/bI Γ.K H a b)/\ae Γ G H xs b:=by
 have c:w.br h=y0 xs-> ∃a b,v= .ref a/\(a8 Γ.K H a b\/bI Γ.K H a b)/\ae Γ G H xs b:=λe=>by
  obtain⟨a,b,g,f,j⟩:=z.lst k e
  exact⟨a,b,g,.inl f,j⟩
 cases w with
 | v d=>
  cases d with
  | tup i=>cases e;obtain⟨a,b,g,f,j⟩:=z;exact⟨a,b,g,.inr f.sq,j⟩
  | lst i=>exact c e
  | ref r=>exact c e
  | av=>cases e
  | bl _=>cases e
  | int _=>cases e
  | str _=>cases e
  | exc _ _=>cases e
  | err _ _ _=>cases e
 | own i=>exact c e
 | bor i=>exact c e
def FX (I:Inv X k8 U H s)(r:Rd H a (.lst vs)):vs.length<=sizeLine/\ ∃ b n,Vals vs b/\vs.length=b.length/\s.heap.get? a=y0 { cls:= .type "list",data:= .seq b.toArray n }:=by
 obtain⟨z,b,n,r,e⟩:=r.ok I.aM
 exact⟨z,b,n,r,r.length,e⟩
def Qk:M.aZ<=sizeLine:=by rw [M.Gi];decide
def Eb (K:Aa5):R2:=λx y H Q=> ∃l b xs zs,x= .ref l/\y= .ref b/\a8 K H l xs/\a8 K H b zs/\xs.length+zs.length<=sizeLine/\ ∀p,H p=u0->Q (.ref p) (aI H p (.lst (xs++zs)))
def ye:bL X (binaryOp .Add) (Eb X.K):=by
 intro m s U H x y v u Q I w D h
 obtain⟨l,b,L,M,rfl,rfl,E,hB,K,q⟩:=h
 cases w
 cases D
 obtain⟨c,r,G,_⟩:=I.list E
 obtain⟨a,k,A,_⟩:=I.list hB
 have N:=r.length
 have l2:=k.length
 have C:c.toArray++a.toArray=(c++a).toArray:=by simp
 obtain⟨⟨B,dd,p,sl⟩,t,F,n,z⟩:=id G.isList
 obtain⟨⟨o,i,j,e⟩,d,f,J,g⟩:=id A.isList
 subst F z f g
 refine concat_meets ⟨_,t,rfl⟩ ⟨_,d,rfl⟩ noFill_list_add seq_list_add PySem.F.slot_list_add PySem.F.entry_list_add (PySem.F.args_list_add_2 _ _) (list_addW l b c.toArray a.toArray n J dd i sl e (by simp_all)) ⟨t,d,?_⟩
 rw [C]
 exact⟨.ref _,_,I.lS (r.append k) (by simp_all),rfl,q _ I.fresh⟩
def Di:R2:=λx y H Q=> ∃l k xs,x= .ref l/\y= .int k/\Rd H l (.lst xs)/\ -(2 ^ 63)<=k/\k<2 ^ 63/\xs.length*k.toNat<=sizeLine ∧
 ∀p,H p=u0->Q (.ref p) (aI H p (.lst (Aa8 k.toNat xs).flatten))
def Bz:bL X (binaryOp .Mult) Di:=by
 intro o s U H x y v u Q I p G h
 obtain⟨l,k,L,rfl,rfl,J,C,D,j,q⟩:=h
 cases p
 obtain⟨t,rfl⟩:=G
 obtain⟨z,b,n,r,w,e⟩:=FX I J
 have d:b.toArray.size*k.toNat<=sizeLine:=by rw [Ab8,←w];exact j
 have g: ¬b.toArray.size*k.toNat>(2 ^ 63-1) / 8:=by
  have: sizeLine<=(2 ^ 63-1) / 8:=by decide
  lia
 have f: ¬(!Builtin.List.listFitsIndex k)=true:=by
  rw [fitsIndex_both C D]
  exact Ab9
 have c: ¬Builtin.List.listTooLong (b.toArray.size*k.toNat)=true:=by
  rw [W7 d]
  exact Ab9
 have i:List.foldl (λB E=>B++E) #[] (Aa8 (if b.toArray.isEmpty=k9 then 0 else k.toNat) b.toArray)=(Aa8 k.toNat b).flatten.toArray:=by
  have A:=λm=>by
   have:=ZO b m []
   rw [Ag5]at this
   exact this
  rw [A]
  cases b with
  | nil=>simp
  | cons a M=>rw [if_neg (by simp)]
 refine wpAny_binaryOp_repeat_ref rfl ⟨_,e,rfl⟩ (λK=>typeIs_int K k t) noFill_list_mul F.fills_int_mul F.slot_int_rmul repeat_list F.slot_int_index.lookup
  (call_meets F.slot_int_rmul (typeIs_int s k t) F.entry_int_rmul (F.args_int_rmul_2 _ _) (int___rmul___int_list k t l b.toArray n)
    ⟨e,rfl,⟨_,e,rfl⟩,call_meets F.slot_list_mul ⟨_,e,rfl⟩ F.entry_list_mul (F.args_list_mul_2 _ _) (AutoListH.list___mul___list_int_3 l b.toArray n k t f g c) ⟨e,?_⟩⟩)
 rw [i]
 exact⟨.ref _,_,I.lS (r.rep k.toNat) (by rw [AS,Ai2];exact j),rfl,q _ I.fresh⟩
theorem ae.rep (z:ae Γ G H ds vs): ∀k:Nat,ae Γ G H (Aa8 k ds).flatten (Aa8 k vs).flatten
 | 0=>rfl
 | k+1=>by
  exact z.append (ae.rep z k)
def Zp (a b:Nat):Builtin.bitAnd (a:Int) (b:Int)=((a &&& b:Nat):Int):=by
 rfl
def LF (a:Nat) (j) (b: ¬0<=j):Builtin.bitAnd (a:Int) j=((a-(a &&& (-j-1).toNat):Nat):Int):=by
 have e:(Builtin.bitNot j).toNat=(-j-1).toNat:=by unfold Builtin.bitNot;lia
 unfold Builtin.bitAnd
 rw [decide_eq_true (Int.natCast_nonneg a),decide_eq_false b]
 show a-((a &&& (Builtin.bitNot j).toNat:Nat):Int)=_
 rw [e]
 have:= @Nat.and_le_left a (-j-1).toNat
 omega
def WE (a b:Nat):Builtin.bitOr (a:Int) (b:Int)=((a ||| b:Nat):Int):=by
 have f: ¬ 0<=Builtin.bitNot a:=by unfold Builtin.bitNot;lia
 have c: ¬ 0<=Builtin.bitNot b:=by unfold Builtin.bitNot;lia
 have e:(Builtin.bitNot (Builtin.bitNot a)).toNat=a:=by unfold Builtin.bitNot;lia
 have d:(Builtin.bitNot (Builtin.bitNot b)).toNat=b:=by unfold Builtin.bitNot;lia
 unfold Builtin.bitOr Builtin.bitAnd
 rw [decide_eq_false f,decide_eq_false c]
 show Builtin.bitNot (Builtin.bitNot _)=_
 rw [e,d]
 unfold Builtin.bitNot
 lia
def Ib (h:M.Pc i j=y0 k):Builtin.bitAnd i j=k:=by
 unfold M.Pc at h
 split at h
 ·rename_i d
  obtain⟨a,rfl⟩:=Ah8 d
  split at h
  ·rename_i c
   obtain⟨b,rfl⟩:=Ah8 c
   cases h
   exact Zp a b
  ·rename_i c
   cases h
   exact LF a j c
 ·cases h
def yF (h:M.kD i j=y0 k):Builtin.bitOr i j=k:=by
 unfold M.kD at h
 split at h
 ·rename_i c
  obtain⟨a,rfl⟩:=Ah8 c.1
  obtain⟨b,rfl⟩:=Ah8 c.2
  cases h
  exact WE a b
 ·cases h
noncomputable def mI:M.Op->Operator
 | .add=> .Add | .sub=> .Sub | .mul=> .Mult | .fdiv=> .FloorDiv | .mod=> .Mod | .pow=> .Pow | .shl=> .LShift | .shr=> .RShift | .band=> .BitAnd | .bor=> .BitOr | .bxor=> .BitXor
def yj (a:Ge) (E:XK) (o:M.Op):R2:=λx y H Q=> ∃G h b c,ai a G h H/\au a G H b x/\au a G H c y/\aC a E G H (M.KZ o b c h) Q
def qs (s):(cy s).length=s.length:=by
 show s.toArray.size=s.length
 simp
def mr:M.Op->Bool
 | .bxor=>y9
 | _=>k9
def As (d:mr o=k9)(e:M.Gn o i j=y0 k)(I:Inv X k8 U H s) (a:RelV (.int i) v) (b:RelV (.int j) u) (q:Q (.int k) H):
 wpAny (model X.prog X.w) X.A (binaryOp (mI o) v u) (EP X k8 U Q) X.xe s:=by
 cases o with
 | add=>cases e;exact BS k8 s U H _ _ v u Q I a b ⟨i,j,rfl,rfl,q⟩
 | sub=>cases e;exact Hm k8 s U H _ _ v u Q I a b ⟨i,j,rfl,rfl,q⟩
 | mul=>
  simp only [M.Gn,M.Pd,M.G7]at e
  split at e
  ·rename_i c;cases e;exact DH k8 s U H _ _ v u Q I a b ⟨i,j,rfl,rfl,c,q⟩
  ·cases e
 | fdiv=>
  simp only [M.Gn,M.Kf,M.G7]at e
  split at e
  ·rename_i c;cases e;exact FY k8 s U H _ _ v u Q I a b ⟨i,j,rfl,rfl,c,q⟩
  ·cases e
 | mod=>
  simp only [M.Gn,M.G7]at e
  split at e
  ·rename_i c;cases e;exact B7 k8 s U H _ _ v u Q I a b ⟨i,j,rfl,rfl,c,q⟩
  ·cases e
 | pow=>
  simp only [M.Gn,M.KY,M.G7]at e
  split at e
  ·rename_i c;cases e;exact L0 k8 s U H _ _ v u Q I a b ⟨i,j,rfl,rfl,c,q⟩
  ·cases e
 | shl=>
  simp only [M.Gn,M.KY,M.G7]at e
  split at e
  ·rename_i c;cases e;exact HA k8 s U H _ _ v u Q I a b ⟨i,j,rfl,rfl,c,q⟩
  ·cases e
 | shr=>
  simp only [M.Gn,M.G7]at e
  split at e
  ·rename_i c;cases e;exact Hk k8 s U H _ _ v u Q I a b ⟨i,j,rfl,rfl,c,q⟩
  ·cases e
 | band=>exact H9 k8 s U H _ _ v u Q I a b ⟨i,j,rfl,rfl,by dsimp only;rw [Ib e];exact q⟩
 | bor=>exact Ld k8 s U H _ _ v u Q I a b ⟨i,j,rfl,rfl,by dsimp only;rw [yF e];exact q⟩
 | bxor=>cases d
theorem au.int (z:au Γ G H w v) (e:w.int? =y0 i):v= .int i:=by
 cases w with
 | v d=>
  cases d with
  | int j=>cases e;exact z
  | _=>cases e
 | _=>cases e
theorem au.str (z:au Γ G H w v) (e:w.gP =y0 i):v= .str (cy i):=by
 cases w with
 | v d=>
  cases d with
  | str j=>cases e;exact z
  | _=>cases e
 | _=>cases e
theorem au.tup (z:au Γ G H w v) (e:w.dJ =y0 xs): ∃a b,v= .ref a/\fG Γ G H a b/\ae Γ G H xs b:=by
 cases w with
 | v d=>
  cases d with
  | tup j=>cases e;exact z
  | _=>cases e
 | _=>cases e
def Ay (o) (O:mr o=k9) (r:X.K=Γ.K):bL X (binaryOp (mI o)) (yj Γ E o):=by
 intro d s U H x y v u Q I w C ⟨G,h,P,S,f,J,F,p⟩
 have R:=Qk
 unfold M.KZ at p
 split at p
 ·rename_i i j l m
  obtain⟨k,e,p⟩:=p.of
  cases J.int l
  cases F.int m
  exact As O e I w C (p.v f rfl)
 ·split at p
  · -- add
    unfold M.PB at p
    ·split at p
     ·rename_i L N l m
      obtain⟨a,n,rfl,q,g⟩:=J.tup l
      obtain⟨b,A,rfl,D,t⟩:=F.tup m
      split at p
      ·rename_i c
       have K:=g.length
       have l2:=t.length
       by_cases ex:n= []
       ·subst ex
        have:L= []:=Ah9 K
        subst this
        exact LD d s U H _ _ v u Q I w C ⟨a,b,A,rfl,rfl,r▸q.sq,r▸D.sq,p.v f ⟨b,A,rfl,D,t⟩⟩
       refine CM d s U H _ _ v u Q I w C ⟨a,b,n,A,rfl,rfl,r▸q.sq,r▸D.sq,ex,by lia,λe=> ?_,λe z B=>p.tup f (g.append t) z B⟩
       ·subst e
        have:N= []:=Ah9 l2
        subst this
        rw [Af1]at p
        exact p.v f ⟨a,n,rfl,q,g⟩
      ·exact p.elim
     ·split at p
      ·rename_i L N l m
       obtain⟨a,n,rfl,q,g⟩:=J.lst f l
       obtain⟨b,A,rfl,D,t⟩:=F.lst f m
       unfold M.Pz at p
       split at p
       ·have K:=g.length
        have l2:=t.length
        exact ye d s U H _ _ v u Q I w C ⟨a,b,n,A,rfl,rfl,r▸q,r▸D,by lia,λz B=>p.own f (g.append t) z B⟩
       ·exact p.elim
      ·exact p.elim
  · -- mul
    unfold M.PD at p
    split at p
    ·rename_i L j l m
     obtain⟨a,n,rfl,q,g⟩:=J.nG f l
     cases F.int m
     unfold M.Pw at p
     split at p
     ·rename_i c
      have K:=g.length
      exact Bz d s U H _ _ v u Q I w C ⟨a,j,n,rfl,rfl,q,by lia,by lia,by rw [← K];lia,λz B=>p.own f (g.rep j.toNat) z B⟩
     ·exact p.elim
    ·exact p.elim
  ·exact p.elim
noncomputable def fD:M.Cp->CmpOp
 | .eq=> .Eq | .ne=> .NotEq | .lt=> .Lt | .le=> .LtE | .gt=> .Gt | .ge=> .GtE | .mem=> .In | .dM=> .NotIn | .nQ=> .Is
def iJ (a:Ge) (o:M.Cp):R2:=λx y H Q=> ∃G h c d b,ai a G h H/\au a G H c x/\au a G H d y/\M.Gy o c d h=y0 b/\Q (.bl b) H
def QF:M.Cp->Bool
 | .mem=>k9
 | .dM=>k9
 | _=>k9
def EB (e:M.Pu o i j=y0 b)(I:Inv X k8 U H s) (a:RelV (.int i) v) (c:RelV (.int j) u) (q:Q (.bl b) H):
 wpAny (model X.prog X.w) X.A (compareOp (fD o) v u) (EP X k8 U Q) X.xe s:=by
 cases o with
 | lt=>cases e;exact Fm k8 s U H _ _ v u Q I a c ⟨i,j,rfl,rfl,q⟩
 | le=>cases e;exact Fw k8 s U H _ _ v u Q I a c ⟨i,j,rfl,rfl,q⟩
 | gt=>cases e;exact CN k8 s U H _ _ v u Q I a c ⟨i,j,rfl,rfl,q⟩
 | ge=>cases e;exact yy k8 s U H _ _ v u Q I a c ⟨i,j,rfl,rfl,q⟩
 | _=>cases e
def yJ (a:X.K=Γ.K)(m:bg k X.A):bL X (compareOp .Eq) (iJ Γ .eq):=by
 intro d s U H x y v u Q I i n ⟨G,h,o,p,b,g,l,j,e,q⟩
 simp only [M.Gy]at e
 split at e
 ·rename_i c
  cases e
  have f:=by simpa [M.KN]using c
  exact(oK 150 _ _ X.A v u (by lia) (by have:=m.un;lia) (l.rv I a g i f.1.1) (j.rv I a g n f.1.2)).rc _ _ _ _ ⟨.bl _,H,I,rfl,q⟩
 ·cases e
def yA (a:X.K=Γ.K)(m:bg k X.A):bL X (compareOp .NotEq) (iJ Γ .ne):=by
 intro d s U H x y v u Q I i n ⟨G,h,o,p,b,g,l,j,e,q⟩
 simp only [M.Gy]at e
 split at e
 ·rename_i c
  cases e
  have f:=by simpa [M.KN]using c
  exact(oK 150 _ _ X.A v u (by lia) (by have:=m.un;lia) (l.rv I a g i f.1.1) (j.rv I a g n f.1.2)).ne _ _ _ _ ⟨.bl _,H,I,rfl,q⟩
 ·cases e
end
def PE.imp (h:PE X e t) (k: ∀U H Q,t' U H Q->t U H Q):PE X e t':=λa s U H Q I q=>h a s U H Q I (k _ _ _ q)
def PT.imp (h:PT X e t) (k: ∀U H Q,t' U H Q->t U H Q):PT X e t':=λa s U H Q I q=>h a s U H Q I (k _ _ _ q)
def PA.imp (h:PA X e t) (k: ∀U H Q,t' U H Q->t U H Q):PA X e t':=λb a s U H Q I q=>h b a s U H Q I (k _ _ _ q)
section
variable {X:Cx}{Γ:Ge}{G:Gh}{H:Hp}{h:M.AH}{k8:List (Addr×Obj)}{U:St}{s:Shared}{Q:VK}{E:XK}
def bu.one (z:bu Γ G H [w] vs): ∃v,vs= [v]/\au Γ G H w v:=by
 obtain⟨v,r,rfl,a,b⟩:=z
 cases (show r= []from b)
 exact⟨v,rfl,a⟩
def bu.two (z:bu Γ G H [w,w'] vs): ∃v a,vs= [v,a]/\au Γ G H w v/\au Γ G H w' a:=by
 obtain⟨v,r,rfl,b,c⟩:=z
 obtain⟨a,rfl,d⟩:=c.one
 exact⟨v,a,rfl,b,d⟩
def oJ (a:Ge) (E:XK) (b:M.Bi):List V->Hp->VK->Prop:=λxs H Q=> ∃G h c,ai a G h H/\bu a G H c xs/\aC a E G H (M.cI b c h) Q
def m9 {K:Aa5}(h:a8 K H a vs\/bI K H a vs):a8 K H a vs\/bI K H a vs:=h
noncomputable def mO:M.Bi->Bool
 | .len=>k9 | .int=>k9 | .list=>k9 | .tuple=>k9 | .divmod=>k9 | .min=>k9 | .max=>k9 | .sum=>k9 | .all=>k9
 | _=>y9
noncomputable def ud:M.Bi->Value
 | .len=> .builtin "len" | .int=> .type "int" | .list=> .type "list" | .tuple=> .type "tuple" | .sum=> .builtin "sum" | .all=> .builtin "all" | .any=> .builtin "any"
 | .sorted=> .builtin "sorted" | .divmod=> .builtin "divmod" | .str=> .type "str" | .min=> .builtin "min" | .max=> .builtin "max" | .abs=> .builtin "abs"
def aC.of2 {f:α->β->M.AH->M.R M.W}(p:aC Γ E G H ((M.R.of h o).bind λa h=>(M.R.of h o').bind λb h=>f a b h) Q): ∃a b,o=y0 a/\o'=y0 b/\aC Γ E G H (f a b h) Q:=by
 obtain⟨a,e,p⟩:=p.of
 obtain⟨b,c,p⟩:=p.of
 exact⟨a,b,e,c,p⟩
theorem tJ : ∀ {xs}{a}{bs},M.Pl xs=y0 bs->ae Γ G H xs a->a=bs.map V.bl
 | [],_,_,e,z=>by cases e;exact z
 | x::xs,_,bs,e,⟨v,r,c,d,g⟩=>by
  subst c
  cases x with
  | bl b=>
   obtain⟨h,f,rfl⟩:=Af5.mp (e)
   cases (d)
   rw [tJ f g];rfl
  | _=>cases e
theorem vZ : ∀ {xs}{b}{n},M.Ps xs=y0 n->ae Γ G H xs b-> ∃a:List Int,b=a.map V.int/\n=gg a
 | [],_,_,e,z=>by cases e;exact⟨[],z,rfl⟩
 | x::xs,_,n,e,⟨v,r,g,h,j⟩=>by
  subst g
  cases x with
  | int i=>
   have e:=e
   obtain⟨k,c,rfl⟩:=Af5.mp e
   obtain⟨a,d,f⟩:=vZ c j
   cases (h)
   exact⟨i::a,by rw [d];rfl,by rw [f];rfl⟩
  | _=>cases e
theorem Xf : ∀ {xs}{c}{a},M.Kj xs=y0 a->ae Γ G H xs c->c=a.map V.int
 | [],_,_,e,z=>by cases e;exact z
 | x::xs,_,a,e,⟨v,r,d,f,h⟩=>by
  subst d
  cases x with
  | int b=>
   obtain⟨i,g,rfl⟩:=Af5.mp (e)
   cases (f)
   rw [Xf g h];rfl
  | _=>cases e
theorem Q2 : ∀ {xs}{c}{a},M.KP xs=y0 a->ae Γ G H xs c->c=(a.map cy).map V.str
 | [],_,_,e,z=>by cases e;exact z
 | x::xs,_,a,e,⟨v,r,d,f,h⟩=>by
  subst d
  cases x with
  | str b=>
   obtain⟨i,g,rfl⟩:=Af5.mp (e)
   cases (show v= .str (cy b)from f)
   rw [Q2 g h];rfl
  | _=>cases e
def Cz (c): ∀n:Int,Ww (λa b=>v9 (a>b)) c n=c.foldl (λa b=>if b>a then b else a) n:=by
 induction c with
 | nil=>intro n;rfl
 | cons m c d=>
  intro n
  show Ww _ c _=_
  rw [d,Ag6]
  simp only [decide_eq_true_eq]
def A8 (c): ∀n:Int,Ww (λa b=>v9 (a<b)) c n=c.foldl (λa b=>if b<a then b else a) n:=by
 induction c with
 | nil=>intro n;rfl
 | cons m c d=>
  intro n
  show Ww _ c _=_
  rw [d,Ag6]
  simp [decide_eq_true_eq]
def BX (b) (C:mO b=k9) (x:X.K=Γ.K) (J:X.calm=k9):qm X (ud b) (oJ Γ E b):=by
 intro f s U H Y u Q I r ⟨G,h,V,g,K,p⟩
 have W:=Qk
 unfold M.cI at p
 split at p
 ·rename_i w
  obtain⟨v,rfl,z⟩:=K.one
  cases b with
  | len=>
   simp only [M.iW]at p
   split at p
   ·rename_i y e
    cases z.str e
    split at p
    ·exact WO f s U H _ u Q I r ⟨_,rfl,by rw [qs];lia,by rw [qs];exact p.v g rfl⟩
    ·exact p.elim
   ·obtain⟨F,e,p⟩:=p.of
    obtain⟨a,t,rfl,m,o⟩:=z.seq g e
    refine qQ f s U H _ u Q I r ⟨a,t,rfl,x▸m9 m,?_⟩
    rw [← o.length]
    exact p.v g rfl
  | int=>
   simp [M.iW]at p
   split at p
   ·cases (z)
    exact zR f s U H _ u Q I r (.inl ⟨_,rfl,p.v g rfl⟩)
   ·rename_i k
    cases (z)
    refine zR f s U H _ u Q I r (.inr ⟨_,rfl,?_⟩)
    have:=p.v g rfl
    cases k<;>exact this
   ·exact p.elim
  | list=>
   obtain⟨F,e,p⟩:=p.of
   obtain⟨a,t,rfl,m,o⟩:=z.seq g e
   exact qT f s U H _ u Q I r ⟨a,t,rfl,x▸m9 m,λl B=>p.own g o l B⟩
  | tuple=>
   obtain⟨F,e,L⟩:=p.of
   clear p
   cases w with
   | v d=>
    cases d with
    | tup P=>
     cases e
     obtain⟨a,t,rfl,m,o⟩:=z
     exact Jf f s U H _ u Q I r ⟨a,t,rfl,.inr ⟨x▸m.sq,L.v g ⟨a,t,rfl,m,o⟩⟩⟩
    | lst P=>
     obtain⟨a,t,rfl,m,o⟩:=au.lst g z e
     exact Jf f s U H _ u Q I r ⟨a,t,rfl,.inl ⟨x▸m,λl B=>L.tup g o l B⟩⟩
    | ref q=>
     obtain⟨a,t,rfl,m,o⟩:=au.lst g z e
     exact Jf f s U H _ u Q I r ⟨a,t,rfl,.inl ⟨x▸m,λl B=>L.tup g o l B⟩⟩
    | av=>cases e
    | bl _=>cases e
    | int _=>cases e
    | str _=>cases e
    | exc _ _=>cases e
    | err _ _ _=>cases e
   | own P=>
    obtain⟨a,t,rfl,m,o⟩:=au.lst g z e
    exact Jf f s U H _ u Q I r ⟨a,t,rfl,.inl ⟨x▸m,λl B=>L.tup g o l B⟩⟩
   | bor P=>
    obtain⟨a,t,rfl,m,o⟩:=au.lst g z e
    exact Jf f s U H _ u Q I r ⟨a,t,rfl,.inl ⟨x▸m,λl B=>L.tup g o l B⟩⟩
  | divmod=>exact p.elim
  | min=>
   simp only [M.iW]at p
   obtain⟨n,e,p⟩:=p.of
   obtain⟨is,D,A⟩:=Ad2.mp e
   obtain⟨F,N,O⟩:=Ad2.mp D
   obtain⟨a,t,rfl,m,o⟩:=au.lst g z N
   cases Xf O o
   cases is with
   | nil=>cases A
   | cons i is=>
    cases A
    refine A0 J f s U H _ u Q I r ⟨a,i,is,rfl,x▸m,?_⟩
    rw [A8]
    exact p.v g rfl
  | max=>
   simp [M.iW]at p
   obtain⟨n,e,p⟩:=p.of
   obtain⟨is,D,A⟩:=Ad2.mp e
   obtain⟨F,N,O⟩:=Ad2.mp D
   obtain⟨a,t,rfl,m,o⟩:=au.lst g z N
   cases Xf O o
   cases is with
   | nil=>cases A
   | cons i is=>
    cases A
    refine yW J f s U H _ u Q I r ⟨a,i,is,rfl,x▸m,?_⟩
    rw [Cz]
    exact p.v g rfl
  | sum=>
   simp [M.iW]at p
   obtain⟨n,e,p⟩:=p.of
   obtain⟨F,D,A⟩:=Ad2.mp e
   split at A
   rotate_left
   ·cases A
   obtain⟨a,t,rfl,m,o⟩:=au.lst g z D
   obtain⟨R,rfl,rfl⟩:=vZ A o
   exact Iv J f s U H _ u Q I r ⟨a,R,rfl,x▸m,p.v g rfl⟩
  | all=>
   simp [M.iW]at p
   obtain⟨bs,e,p⟩:=p.of
   obtain⟨F,D,A⟩:=Ad2.mp e
   obtain⟨a,t,rfl,m,o⟩:=au.lst g z D
   cases tJ A o
   exact BQ J f s U H _ u Q I r ⟨a,bs,rfl,x▸m,p.v g rfl⟩
  | any=>cases C
  | sorted=>cases C
  | str=>cases C
  | abs=>cases C
 ·rename_i w Z
  obtain⟨v,v',rfl,z,T⟩:=K.two
  obtain⟨i,j,e,S,p⟩:=p.of2
  cases z.int e
  cases T.int S
  cases b with
  | divmod=>
   simp [M.vQ,M.Kf]at p
   split at p
   ·rename_i c
    exact JY f s U H _ u Q I r ⟨i,j,rfl,c,λl B=>p.tup g ⟨_,_,rfl,rfl,_,_,rfl,rfl,rfl⟩ l B⟩
   ·exact p.elim
  | min=>exact HN J f s U H _ u Q I r ⟨i,j,rfl,p.v g rfl⟩
  | max=>exact D9 J f s U H _ u Q I r ⟨i,j,rfl,p.v g rfl⟩
  | len=>exact p.elim
  | int=>exact p.elim
  | list=>exact p.elim
  | tuple=>exact p.elim
  | sum=>exact p.elim
  | all=>exact p.elim
  | any=>cases C
  | sorted=>cases C
  | str=>cases C
  | abs=>cases C
 ·exact p.elim
noncomputable def fQ:M.Ty->String
 | .av=> "NoneType" | .bool=> "bool" | .int=> "int" | .str=> "str" | .list=> "list" | .tuple=> "tuple"
def Jw (K): ∀ u t,t≠ .av->Ad4 K (.type (fQ u)) (.type (fQ t))=y0 (M.Ty.le u t):=by
 intro u t a
 cases u<;>cases t<;>first | exact absurd rfl a | kernel_rfl
def FW (a:Ge):List V->Hp->VK->Prop:=λxs H Q=> ∃G h w x t b,xs= [x,.ty (fQ t)]/\t≠ .av/\ai a G h H/\au a G H w x/\M.dY t w=y0 b/\Q (.bl b) H
def IK (E:X.K=Γ.K):qm X (.builtin "isinstance") (FW Γ):=by
 intro k s U H R O Q I r ⟨G,h,w,x,t,b,J,j,P,z,e,q⟩
 subst J
 obtain⟨u,T,rfl,g,K⟩:=WX r
 cases K
 have fin: ∀B,EP X k U Q _ { s with toks:=B }:=λB=>⟨.bl b,H,I.tok B,rfl,q⟩
 have lst: ∀ {a}{l},x= .ref a->Rd H a (.lst l)->M.Ty.le .list t=b->wpAny (model X.prog X.w) X.A (call (.builtin "isinstance") [u,.type (fQ t)]) (EP X k U Q) X.xe s:=by
  intro a l ex rd F
  subst ex F
  rcases rd with rd | ⟨o,rd⟩
  ·exact xj I g (.lst rd) (Jw _ .list t j) fin
  ·exact xj I g (.d4 rd) (Jw _ .list t j) fin
 cases w with
 | v d=>
  cases d with
  | av=>cases e;cases (z);exact xj I g .av (Jw _ .av t j) fin
  | bl c=>cases e;cases (z);exact xj I g (.bl c) (Jw _ .bool t j) fin
  | int i=>cases e;cases (z);exact xj I g (.int i) (Jw _ .int t j) fin
  | str y=>cases e;cases (z);exact xj I g (.str _) (Jw _ .str t j) fin
  | tup p=>
   cases e
   obtain⟨a,l,rfl,f,N⟩:=z
   rcases f with⟨_,f⟩ | ⟨o,A,n,D,C,L,_⟩
   ·exact xj I g (.tup f) (Jw _ .tuple t j) fin
   ·cases g
    exact Ae2 PySem.W.kitx_tuple I.bM ⟨o,I.bM a o (E▸D),C⟩ (Jw _ .tuple t j) (λz=>nomatch z) fin
  | lst p=>
   cases e
   obtain⟨a,l,m,f,N⟩:=z
   rcases f with f | ⟨o,A,n,D,C,L,_⟩
   ·exact lst m f.2 rfl
   ·subst m
    cases g
    exact Ae2 An3 I.bM ⟨o,I.bM a o (E▸D),C⟩ (Jw _ .list t j) (λz=>nomatch z) fin
  | ref S=>cases e
  | exc c fs=>cases e
  | err _ _ _=>cases e
 | own p=>cases e;obtain⟨a,l,m,_,_,f,_⟩:=z;exact lst m (.inl f) rfl
 | bor p=>cases e;obtain⟨a,l,m,_,f,_⟩:=z;exact lst m f rfl
def JZ (m:X.K=Γ.K) (o:ai Γ G h H)(z:au Γ G H w x) (e:M.KW h w=y0 b):iF X.K x H b:=by
 have lst: ∀ {a}{f}{g},x= .ref a->a8 X.K H a f->ae Γ G H g f->(!g.isEmpty)=b->iF X.K x H b:=by
  intro a f g ex rd k n
  subst ex n
  refine .inl ⟨f,rd,?_⟩
  cases g with
  | nil=>cases (show f= []from k);rfl
  | cons _ _=>obtain⟨_,_,rfl,_⟩:=k;rfl
 cases w with
 | v d=>
  cases d with
  | av=>cases e;cases (z);exact rfl
  | bl _=>cases e;cases (z);exact rfl
  | int _=>cases e;cases (z);exact rfl
  | str y=>
   cases (z)
   have e:(if y.length<=M.aZ then y0 (!y.isEmpty)else u0)=y0 b:=e
   split at e
   ·rename_i c
    cases e
    refine⟨by rw [qs];have:=Qk;lia,?_⟩
    rw [qs]
    cases y with
    | nil=>rfl
    | cons a r=>
     have:((((a::r).length:Nat):Int) != 0)=true:=by
      rw [Ab7,bne_iff_ne];lia
     rw [this];rfl
   ·cases e
  | tup g=>
   cases e
   obtain⟨a,f,rfl,i,k⟩:=z
   refine .inr (.inl ⟨f,m▸i.sq,?_⟩)
   cases g with
   | nil=>cases (show f= []from k);rfl
   | cons _ _=>obtain⟨_,_,rfl,_⟩:=k;rfl
  | lst g=>cases e;obtain⟨a,f,j,i,l⟩:=z;exact lst j (m▸i.sq) l rfl
  | ref p=>cases e
  | exc c fs=>cases e
  | err _ _ _=>cases e
 | own g=>cases e;obtain⟨a,f,j,_,_,i,l⟩:=z;exact lst j (a8.of i) l rfl
 | bor g=>cases e;obtain⟨a,f,j,_,i,l⟩:=z;exact lst j (.inl i) l rfl
end
abbrev zg (x:String):Str:=Str.ofString x
example:("len" :Str)=zg "len" :=rfl
structure kJ where
 fl:List (String×String)
 mt:List (String×String×String)
 gH:List (String×String)
 ms:List String
 er:List (String×String)
structure Cf where
 sc:Scope
 N:List Str
 fns:List String
 own:List String
 dA:List String
 dv:List String
 ob:kJ
noncomputable def jV (a:Scope) (x:Str):Bool:=match a.names.lookup x with
 | some .local=>k9
 | some .cell=>k9
 | some .free=>k9
 | _=>y9
def iK (a:Scope) (x:Str):Bool:=match a.names.lookup x with
 | some .globalImplicit=>k9
 | _=>y9
def i9 (a:Scope) (x:Str):Bool:=match a.names.lookup x with
 | some .local=>k9
 | some .cell=>k9
 | _=>y9
def cz (x:Str):Bool:= !(x==("__debug__" :Str))&& !(x==("__classdict__" :Str))
noncomputable def mh:M.Bi->String
 | .len=> "len" | .int=> "int" | .list=> "list" | .tuple=> "tuple" | .sum=> "sum" | .all=> "all" | .any=> "any" | .sorted=> "sorted" | .divmod=> "divmod" | .str=> "str" | .min=> "min" | .max=> "max" | .abs=> "abs"
noncomputable def bN:List String:= ["len", "int", "list", "tuple", "sum", "all", "any", "sorted", "divmod", "str", "min", "max", "abs", "isinstance", "bool", "range", "reversed", "zip", "enumerate", "set", "ValueError"]
def nu:Expr->Str->Bool
 | .Name y _,x=>y==x
 | _,_=>y9
def bA (a:Scope) (x:String) (e:Expr):Bool:=nu e (zg x)&&iK a (zg x)&&cz (zg x)
def pN:M.Mt->String
 | .index=> "index" | .count=> "count" | .ck=> "index"
def sh:M.Mt->Bool
 | .index=>k9 | .count=>k9 | .ck=>k9
def nC:Expr->Bool
 | .Call _ [] _ _=>y9
 | _=>k9
noncomputable def WA (cf:Cf):List String->List Expr->Bool
 | [],[]=>k9
 | t::ts,e::es=>bA cf.sc t e&&cf.own.contains t&&WA cf ts es
 | _,_=>y9
def ng:Expr->Bool
 | .UnaryOp .USub (.Constant (.int 1) _ _) _=>k9
 | _=>y9
noncomputable def Jo (cf:Cf):List Nat->List Expr->Bool
 | [],[]=>k9
 | i::is,.Name x _::es=>v9 (cf.N[i]? =y0 x)&&i9 cf.sc x&&Jo cf is es
 | _,_=>y9
def Qe (cf:Cf) (a:List Nat) (one:Bool) (e:Expr):Bool:=match one,e with
 | true,.Name x p=>(match a with | [_]=>k9 | _=>y9)&&Jo cf a [.Name x p]
 | false,.Tuple es _ _=>Jo cf a es
 | _,_=>y9
def Ja:Expr->Bool
 | .Starred .. =>y9
 | _=>k9
def qh:Expr->Bool
 | .Slice .. =>y9
 | _=>k9
def Ze:Expr->Bool
 | .Set .. =>y9
 | _=>k9
noncomputable def qF (cf:Cf):List Nat->List Str->Bool
 | [],[]=>k9
 | j::a,x::xs=>v9 (cf.N[j]? =y0 x)&&v9 (cf.sc.names.lookup x=y0 .cell\/cf.sc.names.lookup x=y0 .free)&&qF cf a xs
 | _,_=>y9
def JV (cf:Cf) (a:Scope) (N:List Str) (k:Nat) (aA:List Nat):Bool:=
 v9 (a.kind= .function)&&v9 (a.names.map Prod.fst).Nodup&&a.names.all (λy=>v9 (y.2= .local->a.names.lookup y.1=y0 .local))&&
 a.names.all (λy=>v9 (y.2= .free->cf.sc.names.lookup y.1=y0 .cell\/cf.sc.names.lookup y.1=y0 .free))&&(N.drop k).all (λx=>v9 (a.names.lookup x=y0 .free))&&
 qF cf aA (N.drop k)&&v9 (k<=N.length)&&decide N.Nodup&&decide aA.Nodup
def LG:Expr->List Str
 | .Name x _=> [x]
 | .Tuple es _ _=>es.filterMap λ| .Name x _=>y0 x | _=>u0
 | _=> []
def jw (cf:Cf) (t:Expr) (aA:List Nat):List Str:=LG t++aA.filterMap λj=>cf.N[j]?
def eZ:M.E->Bool
 | .share _=>y9
 | .not a=>eZ a
 | .and a b=>eZ a&&eZ b
 | .or a b=>eZ a&&eZ b
 | _=>k9
def nk (neg:Bool):CmpOp:=if neg then .NotIn else .In
def bK {P:Prop}(h:y9=k9):P:=nomatch h
set_option backward.match.sparseCases false
def lC {a:Type}(l:List a) (f:a->List a->Bool):Bool:=match l with
 | x::r=>f x r
 | _=>y9
def oS {a:Type}(l:Option a) (f:a->Bool):Bool:=match l with
 | some x=>f x
 | _=>y9
@[elab_as_elim] theorem kC {P:List α->Prop}(k: ∀x r,f x r=k9->P (x::r)): ∀l,lC l f=k9->P l:=by rintro (_|_)<;>first | exact bK | exact k _ _
@[elab_as_elim] theorem kS {P:Option α->Prop}(k: ∀x,f x=k9->P (y0 x)): ∀l,oS l f=k9->P l:=by rintro (_|_)<;>first | exact bK | exact k _
def jq (e:Expr) (f:Str->Bool):Bool:=match e with
 | .Name x _=>f x
 | _=>y9
@[elab_as_elim] theorem xq {P:Expr->Prop}(k: ∀x p,f x=k9->P (.Name x p)): ∀e,jq e f=k9->P e:=by rintro (_|_)<;>first | exact bK | exact k _ _
def ZI (e:Expr) (f:Const->Bool):Bool:=match e with
 | .Constant x _ _=>f x
 | _=>y9
@[elab_as_elim] theorem QO {P:Expr->Prop}(k: ∀x n p,f x=k9->P (.Constant x n p)): ∀e,ZI e f=k9->P e:=by rintro (_|_)<;>first | exact bK | exact k _ _ _
def lb (e:Expr) (f:List Expr->Bool):Bool:=match e with
 | .Tuple x _ _=>f x
 | _=>y9
@[elab_as_elim] theorem nh {P:Expr->Prop}(k: ∀x n p,f x=k9->P (.Tuple x n p)): ∀e,lb e f=k9->P e:=by rintro (_|_)<;>first | exact bK | exact k _ _ _
def rT (e:Expr) (f:List Expr->Bool):Bool:=match e with
 | .List x _=>f x
 | _=>y9
@[elab_as_elim] theorem I0 {P:Expr->Prop}(k: ∀x p,f x=k9->P (.List x p)): ∀e,rT e f=k9->P e:=by rintro (_|_)<;>first | exact bK | exact k _ _
def pJ (e:Expr) (f:Expr->Operator->Expr->Bool):Bool:=match e with
 | .BinOp x o y _=>f x o y
 | _=>y9
@[elab_as_elim] theorem Hr {P:Expr->Prop}(k: ∀x o y p,f x o y=k9->P (.BinOp x o y p)): ∀e,pJ e f=k9->P e:=by rintro (_|_)<;>first | exact bK | exact k _ _ _ _
def ke (e:Expr) (f:Expr->List CmpOp->List Expr->Bool):Bool:=match e with
 | .Compare x o y _=>f x o y
 | _=>y9
@[elab_as_elim] theorem l3 {P:Expr->Prop}(k: ∀x o y p,f x o y=k9->P (.Compare x o y p)): ∀e,ke e f=k9->P e:=by rintro (_|_)<;>first | exact bK | exact k _ _ _ _
def mK (e:Expr) (f:UnaryOp->Expr->Bool):Bool:=match e with
 | .UnaryOp o x _=>f o x
 | _=>y9
@[elab_as_elim] theorem oF {P:Expr->Prop}(k: ∀o x p,f o x=k9->P (.UnaryOp o x p)): ∀e,mK e f=k9->P e:=by rintro (_|_)<;>first | exact bK | exact k _ _ _
def nH (e:Expr) (f:BoolOp->List Expr->Pos->Bool):Bool:=match e with
 | .BoolOp o x p=>f o x p
 | _=>y9
@[elab_as_elim] theorem tq {P:Expr->Prop}(k: ∀o x p,f o x p=k9->P (.BoolOp o x p)): ∀e,nH e f=k9->P e:=by rintro (_|_)<;>first | exact bK | exact k _ _ _
def xk (e:Expr) (f:Expr->List Expr->List Keyword->Pos->Bool):Bool:=match e with
 | .Call g x l p=>f g x l p
 | _=>y9
@[elab_as_elim] theorem Qi {P:Expr->Prop}(k: ∀g x l p,f g x l p=k9->P (.Call g x l p)): ∀e,xk e f=k9->P e:=by rintro (_|_)<;>first | exact bK | exact k _ _ _ _
def hU (e:Expr) (f:Expr->Expr->Bool):Bool:=match e with
 | .Subscript x y _=>f x y
 | _=>y9
@[elab_as_elim] theorem iP {P:Expr->Prop}(k: ∀x y p,f x y=k9->P (.Subscript x y p)): ∀e,hU e f=k9->P e:=by rintro (_|_)<;>first | exact bK | exact k _ _ _
def lL (e:Expr) (f:Option Expr->Option Expr->Option Expr->Bool):Bool:=match e with
 | .Slice x y z _=>f x y z
 | _=>y9
@[elab_as_elim] theorem my {P:Expr->Prop}(k: ∀x y z p,f x y z=k9->P (.Slice x y z p)): ∀e,lL e f=k9->P e:=by rintro (_|_)<;>first | exact bK | exact k _ _ _ _
def vn (e:Expr) (f:Expr->List Comprehension->Scope->Bool):Bool:=match e with
 | .ListComp y g s _=>f y g s
 | _=>y9
@[elab_as_elim] theorem tY {P:Expr->Prop}(k: ∀y g s p,f y g s=k9->P (.ListComp y g s p)): ∀e,vn e f=k9->P e:=by rintro (_|_)<;>first | exact bK | exact k _ _ _ _
def lZ (e:Expr) (f:Expr->Str->Pos->Bool):Bool:=match e with
 | .Attribute x n p=>f x n p
 | _=>y9
@[elab_as_elim] theorem mZ {P:Expr->Prop}(k: ∀x n p,f x n p=k9->P (.Attribute x n p)): ∀e,lZ e f=k9->P e:=by rintro (_|_)<;>first | exact bK | exact k _ _ _
def sM (e:Expr) (f:List (Option Expr)->List Expr->Bool):Bool:=match e with
 | .Dict x y _=>f x y
 | _=>y9
@[elab_as_elim] theorem Av {P:Expr->Prop}(k: ∀x y p,f x y=k9->P (.Dict x y p)): ∀e,sM e f=k9->P e:=by rintro (_|_)<;>first | exact bK | exact k _ _ _
def fE (e:Stmt) (f:List Expr->Expr->Bool):Bool:=match e with
 | .Assign t v _=>f t v
 | _=>y9
@[elab_as_elim] theorem fX {P:Stmt->Prop}(k: ∀t v p,f t v=k9->P (.Assign t v p)): ∀e,fE e f=k9->P e:=by rintro (_|_)<;>first | exact bK | exact k _ _ _
def lD (e:Stmt) (f:Expr->Bool):Bool:=match e with
 | .Expr v _=>f v
 | _=>y9
@[elab_as_elim] theorem mT {P:Stmt->Prop}(k: ∀v p,f v=k9->P (.Expr v p)): ∀e,lD e f=k9->P e:=by rintro (_|_)<;>first | exact bK | exact k _ _
def vF (e:Stmt) (f:Option Expr->Bool):Bool:=match e with
 | .Return v _=>f v
 | _=>y9
@[elab_as_elim] theorem Ic {P:Stmt->Prop}(k: ∀v p,f v=k9->P (.Return v p)): ∀e,vF e f=k9->P e:=by rintro (_|_)<;>first | exact bK | exact k _ _
def nN (e:Stmt) (f:Expr->List Stmt->List Stmt->Bool):Bool:=match e with
 | .If x y z _=>f x y z
 | _=>y9
@[elab_as_elim] theorem uM {P:Stmt->Prop}(k: ∀x y z p,f x y z=k9->P (.If x y z p)): ∀e,nN e f=k9->P e:=by rintro (_|_)<;>first | exact bK | exact k _ _ _ _
def vL (e:Stmt) (f:Expr->List Stmt->List Stmt->Bool):Bool:=match e with
 | .While x y z _=>f x y z
 | _=>y9
@[elab_as_elim] theorem LC {P:Stmt->Prop}(k: ∀x y z p,f x y z=k9->P (.While x y z p)): ∀e,vL e f=k9->P e:=by rintro (_|_)<;>first | exact bK | exact k _ _ _ _
def rq (e:Stmt) (f:Expr->Expr->List Stmt->List Stmt->Bool):Bool:=match e with
 | .For t i y z _=>f t i y z
 | _=>y9
@[elab_as_elim] theorem Ha {P:Stmt->Prop}(k: ∀t i y z p,f t i y z=k9->P (.For t i y z p)): ∀e,rq e f=k9->P e:=by rintro (_|_)<;>first | exact bK | exact k _ _ _ _ _
def oi (e:Stmt) (f:Option Expr->Option Expr->Bool):Bool:=match e with
 | .Raise x y _=>f x y
 | _=>y9
@[elab_as_elim] theorem rW {P:Stmt->Prop}(k: ∀x y p,f x y=k9->P (.Raise x y p)): ∀e,oi e f=k9->P e:=by rintro (_|_)<;>first | exact bK | exact k _ _ _
set_option backward.match.sparseCases true
def vB (cf:Cf) (i:Nat) (x:Str):Bool:=v9 (cf.N[i]? =y0 x)&&jV cf.sc x&&cz x
def kZ {a:Type}(l:List a) (b:Bool):Bool:=l.isEmpty&&b
noncomputable def uC (e:Stmt) (f:List Stmt->List ExceptHandler->Bool):Bool:=match e with
 | .Try a b c d _=>kZ c (kZ d (f a b))
 | _=>y9
noncomputable def rD (e:ExceptHandler) (f:Option Expr->Option Str->List Stmt->Bool):Bool:=match e with
 | .ExceptHandler a b c _=>f a b c
mutual
noncomputable def qc (cf:Cf):M.E->Expr->Bool
 | .var i,e=>jq e (vB cf i)
 | .con c,e=>bA cf.sc c e
 | .int i,e=>ZI e λj=>v9 (j= .int i)
 | .bl i,e=>ZI e λj=>v9 (j= .bool i)
 | .av,e=>ZI e λj=>v9 (j= .none)
 | .str i,e=>ZI e λj=>v9 (j= .str (cy i))
 | .tup es,e=>lb e λxs=>v9 (xs.length<=1000)&&bf cf es xs
 | .lst es,e=>rT e λxs=>v9 (xs.length<=1000)&&bf cf es xs
 | .bin o a b,e=>pJ e λx p y=>v9 (p=mI o)&&mr o&&qc cf a x&&qc cf b y
 | .cmp o a b,e=>ke e λx p y=>lC y λy r=>v9 (p= [fD o]/\r= [])&&QF o&&Ze y&&qc cf a x&&qc cf b y
 | .chain o q a b c,e=>ke e λx p y=>lC y λy r=>lC r λz r=>v9 (p= [fD o,fD q]/\r= [])&&QF o&&QF q&&Ze z&&qc cf a x&&qc cf b y&&qc cf c z
 | .d3 neg a,e=>ke e λx p y=>lC y λy r=>ZI y λj=>v9 (p= [if neg then .IsNot else .Is]/\r= [])&&v9 (j= .none)&&qc cf a x
 | .neg a,e=>mK e λo x=>v9 (o= .USub)&&qc cf a x
 | .inv a,e=>mK e λo x=>v9 (o= .Invert)&&qc cf a x
 | .not a,e=>mK e λo x=>v9 (o= .Not)&&qc cf a x
 | .and a b,e=>nH e λo x p=>lC x λx r=>lC r λy r=>v9 (o= .And)&&qc cf a x&&bif r.isEmpty then qc cf b y else qc cf b (.BoolOp .And (y::r) p)
 | .or a b,e=>nH e λo x p=>lC x λx r=>lC r λy r=>v9 (o= .Or)&&qc cf a x&&bif r.isEmpty then qc cf b y else qc cf b (.BoolOp .Or (y::r) p)
 | .call f es,e=>xk e λg xs l _=>kZ l (bA cf.sc f g&&cf.fns.contains f&&bf cf es xs)
 | .bi b es,e=>xk e λg xs l _=>kZ l (lC xs λx r=>bA cf.sc (mh b) g&&mO b&&bf cf es (x::r))
 | .dY a t,e=>xk e λg xs l _=>kZ l (lC xs λx r=>lC r λy r=>kZ r (bA cf.sc "isinstance" g&&bA cf.sc (fQ t) y&&decide (t≠ .av)&&Ja x&&qc cf a x))
 | .bY a one ts,e=>xk e fun g xs l _=>kZ l (lC xs fun x r=>lC r fun y r=>kZ r (bA cf.sc "isinstance" g&&Ja x&&qc cf a x&&bif one then(lC ts fun t r=>kZ r (bA cf.sc t y&&(decide (t= "ValueError")||cf.own.contains t)))else(lb y fun zs=>decide (zs.length<=1000)&&WA cf ts zs)))
 | .ix a b,e=>hU e λx y=>qh y&&qc cf a x&&qc cf b y
 | .sl a lo hi,e=>hU e λx y=>lL y λl u z=>oS l λl=>oS u λu=>z.isNone&&qc cf a x&&qc cf lo l&&qc cf hi u
 | .fJ a lo,e=>hU e λx y=>lL y λl u z=>oS l λl=>u.isNone&&z.isNone&&qc cf a x&&qc cf lo l
 | .iy a hi,e=>hU e λx y=>lL y λl u z=>oS u λu=>l.isNone&&z.isNone&&qc cf a x&&qc cf hi u
 | .rev a,e=>hU e λx y=>lL y λl u z=>oS z λz=>l.isNone&&u.isNone&&ng z&&qc cf a x
 | .comp tg one k aA it y7 c elt,e=>vn e λy g scope=>lC g λg r=>
  v9 (g.is_async=0/\r= [])&&JV cf scope (jw cf g.target aA) k aA&&tg.all (λi=>v9 (i<k))&&Qe { cf with sc:=scope,N:=jw cf g.target aA } tg one g.target&&c8 cf it g.iter&&qc { cf with sc:=scope,N:=jw cf g.target aA } elt y&&
   bif y7 then(lC g.ifs λz r=>kZ r (eZ c&&qc { cf with sc:=scope,N:=jw cf g.target aA } c z))else g.ifs.isEmpty
 | .dt,e=>sM e λx y=>x.isEmpty&&y.isEmpty
 | .cP neg a i,e=>ke e λx p y=>lC y λy r=>jq y λy=>v9 (p= [nk neg]/\r= [])&&vB cf i y&&qc cf a x
 | .share a,e=>qc cf a e
 | .cE a,e=>xk e λg xs l _=>kZ l (lC xs λx r=>kZ r (xk x λg2 xs l _=>kZ l (lC xs λx r=>kZ r (bA cf.sc "len" g&&bA cf.sc "set" g2&&Ja x&&qc cf a x))))
 | .hH a b,e=>ke e λx p y=>lC y λy r=>v9 (p= [.Lt]/\r= [])&&Ze y&&qc cf a x&&qc cf b y
 | .da m a es,e=>xk e λg xs l q=>kZ l (lC xs λx r=>kZ r (lZ g λo n p=>v9 (n=zg (pN m))&&sh m&&(p.endLine==q.line)&&nC o&&qc cf a o&&bf cf es [x]))
 | .xf i f,e=>lZ e λx n _=>jq x λx=>vB cf i x&&v9 (n=zg f)
noncomputable def bf (cf:Cf):M.Es->List Expr->Bool
 | .nil,xs=>xs.isEmpty
 | .cons e es,xs=>lC xs λx xs=>Ja x&&qc cf e x&&bf cf es xs
noncomputable def c8 (cf:Cf):M.It->Expr->Bool
 | .seq a,e=>Ze e&&qc cf a e
 | .aw a,e=>xk e λg xs l _=>kZ l (lC xs λx r=>kZ r (bA cf.sc "range" g&&Ja x&&qc cf a x))
 | .bS a b,e=>xk e λg xs l _=>kZ l (lC xs λx r=>lC r λy r=>kZ r (bA cf.sc "range" g&&Ja x&&Ja y&&qc cf a x&&qc cf b y))
 | .rev a,e=>xk e λg xs l _=>kZ l (lC xs λx r=>kZ r (bA cf.sc "reversed" g&&Ja x&&qc cf a x))
 | .zip _ _,_=>y9
 | .enum _,_=>y9
end
def xu:Expr->Bool
 | .ListComp .. =>y9
 | .SetComp .. =>y9
 | .DictComp .. =>y9
 | _=>k9
def Xk:Expr->Bool
 | .Tuple .. =>y9
 | _=>k9
def wq (cf:Cf) (i:Nat) (x:Str):Bool:=v9 (cf.N[i]? =y0 x)&&v9 (cf.sc.names.lookup x=y0 .local)
def Xv (cf:Cf) (i:Nat) (x:Str):Bool:=v9 (cf.N[i]? =y0 x)&&i9 cf.sc x
def Jp (cf:Cf) (i:Nat) (m:Str) (e:Expr) (a:Pos):Bool:=lZ e λx n p=>jq x λx=>vB cf i x&&v9 (n=m)&&(p.endLine==a.line)
def oH (cf:Cf):M.It->Expr->Bool
 | .seq a,e=>Ze e&&qc cf a e
 | .aw a,e=>c8 cf (.aw a) e
 | .bS a b,e=>c8 cf (.bS a b) e
 | .rev a,e=>c8 cf (.rev a) e
 | .zip a b,e=>xk e λg xs l _=>kZ l (lC xs λx r=>lC r λy r=>kZ r (bA cf.sc "zip" g&&Ja x&&Ja y&&qc cf a x&&qc cf b y))
 | .enum a,e=>xk e λg xs l _=>kZ l (lC xs λx r=>kZ r (bA cf.sc "enumerate" g&&Ja x&&qc cf a x))
def oz:M.It->Expr->Bool
 | .enum _,e=> !Xk e
 | .zip _ _,e=> !Xk e
 | _,_=>k9
def oV:M.S->Bool
 | .freeze _=>k9
 | _=>y9
def nE (cf:Cf) (k:String) (nm c:Nat) (e:List ExceptHandler):Bool:=lC e λx r=>kZ r (rD x λw n b=>oS w λw=>oS n λn=>lC b λa r=>kZ r (fE a λts y=>lC ts λt r=>kZ r (jq t λv=>jq y λd=>
 bA cf.sc k w&&cf.dv.contains k&&v9 (d=n)&&wq cf nm n&&(cz n&&wq cf c v))))
noncomputable def lG (cf:Cf) (i:Nat) (f:String) (b:List Stmt) (q:List Expr->Bool):Bool:=lC b λs r=>kZ r (fE s λts e=>lC ts λt r=>kZ r (jq t λa=>xk e λg xs l _=>kZ l (lC xs λx r=>wq cf i a&&bA cf.sc f g&&cf.fns.contains f&&q (x::r))))
mutual
noncomputable def nT (cf:Cf):M.S->Stmt->Bool
 | .set i e,st=>fE st λts v=>lC ts λt r=>jq t λx=>kZ r (Xv cf i x&&qc cf e v)
 | .ak i e,st=>fE st λts v=>lC ts λt r=>jq t λx=>kZ r (Xv cf i x&&qc cf e v)
 | .dN is e,st=>fE st λts v=>lC ts λt r=>lb t λts=>kZ r (Jo cf is ts&&Xk v&&qc cf e v)
 | .eF i kx e,st=>fE st λts v=>lC ts λt r=>hU t λx y=>jq x λx=>kZ r (vB cf i x&&qh y&&Xk v&&xu v&&qc cf kx y&&qc cf e v)
 | .app i e,st=>lD st λc=>xk c λf xs l p=>kZ l (lC xs λv r=>kZ r (Jp cf i "append" f p&&Ja v&&qc cf e v))
 | .ext i e,st=>lD st λc=>xk c λf xs l p=>kZ l (lC xs λv r=>kZ r (Jp cf i "extend" f p&&Ja v&&qc cf e v))
 | .mv i j,st=>fE st λts c=>lC ts λt r=>jq t λx=>kZ r (jq c λy=>Xv cf i x&&vB cf j y)
 | .dO i e,st=>fE st λts v=>lC ts λt r=>hU t λx y=>jq x λx=>kZ r (vB cf i x&&qh y&&Xk v&&xu v&&qc cf e y&&qc cf (.bl k9) v)
 | .cm i e,st=>lD st λc=>xk c λf xs l p=>kZ l (lC xs λv r=>kZ r (Jp cf i "append" f p&&Ja v&&qc cf e v))
 | .e8 i j,st=>fE st λts c=>lC ts λt r=>jq t λx=>kZ r (xk c λf xs l p=>kZ l (kZ xs (Xv cf j x&&Jp cf i "pop" f p)))
 | .eV i is,st=>fE st λts c=>lC ts λt r=>lb t λts=>kZ r (xk c λf xs l p=>kZ l (kZ xs (Jo cf is ts&&Jp cf i "pop" f p)))
 | .freeze _,_=>y9
 | .ex e,st=>lD st λv=>xu v&&qc cf e v
 | .ret e,st=>vF st λv=>oS v λv=>qc cf e v
 | .iff c a b,st=>nN st λx ys zs=>eZ c&&qc cf c x&&bH cf a ys&&bH cf b zs
 | .k6 _ c b,st=>vL st λx ys zs=>kZ zs (eZ c&&qc cf c x&&bH cf b ys)
 | .for tg one it b,st=>rq st λt iter ys zs=>kZ zs (oz it t&&Qe cf tg one t&&oH cf it iter&&bH cf b ys)
 | .cV c f e,st=>oi st λa b=>oS a λa=>xk a λg xs l _=>kZ l (lC xs λx r=>kZ r (b.isNone&&bA cf.sc c g&&cf.ob.er.contains (c,f)&&bf cf (.cons e .nil) [x]))
 | .raise c es,st=>oi st λa b=>oS a λa=>xk a λg xs l _=>kZ l (lC xs λx r=>b.isNone&&bA cf.sc c g&&cf.dA.contains c&&v9 ((x::r).length<=1000)&&bf cf es (x::r))
 | .fK c i f es g es2 k nm iv,st=>uC st λb hs=>lC b λs r=>kZ r (nN s λt ys zs=>nE cf k nm iv hs&&eZ c&&qc cf c t&&lG cf i f ys (λxs=>bf cf es xs)&&lG cf i g zs (λxs=>bf cf es2 xs))
 | .iV,_=>k9
noncomputable def bH (cf:Cf):M.Ss->List Stmt->Bool
 | .nil,sts=>sts.isEmpty
 | .cons s ss,sts=>bif oV s then bH cf ss sts else lC sts λst sts=>nT cf s st&&bH cf ss sts
end
structure Ig (X:Cx) (k:Nat) (x:Str) (ps:List Str) (sp:Sp):Prop where
 ex: ∃f fd,bp X.prog X.w X.K X.mg X.base (cv X.prog X.w) k f fd ps sp/\Binds X.K fd ps []/\Ae0 X.K (.ref f)=k9/\X.mg x=y0 (.ref f)
def mB:M.W->Bool
 | .own _=>y9
 | _=>k9
def gk (a:Ge) (m:List M.W->M.AH->M.R M.W):Sp:=λc H Q E=> ∃G h b,ai a G h H/\bu a G H b c/\(∀ w∈b,mB w=k9)/\aC a E G H (m b h) Q
structure Go (Γ:Ge) (F:M.Fx) (X:Cx) (E:XK) (k:Nat) (cf:Cf):Prop where
 N:X.N=cf.N
 K:X.K=Γ.K
 cl:F.cl=Γ.cl
 ow:cf.own=Γ.own
 nd:cf.N.Nodup
 eW: ∀x,jV cf.sc x=k9->iL X.env.scope x
 kz: ∀x,cf.sc.names.lookup x=y0 .local->X.env.scope.names.lookup x=y0 .local
 gB: ∀x,i9 cf.sc x=k9->kN X.env.scope x/\(X.fn x=k9\/X.env.scope.names.lookup x=y0 .local)
 lU: ∀x,(cf.sc.names.lookup x=y0 .cell\/cf.sc.names.lookup x=y0 .free)->X.env.kindOf x=y0 .cell\/X.env.kindOf x=y0 .free
 gl: ∀x,iK cf.sc x=k9->Gl X x
 calm:X.calm=k9
 room:bg k X.A
 eK:bg (k+1) X.A
 pass:jQ (cv X.prog X.w) X E
 blt: ∀x,x∈bN->X.mg (zg x)=u0
 con: ∀x d,F.con.lookup x=y0 d-> ∃u v,X.mg (zg x)=y0 u/\RelV v u/\ ∀G H,aD Γ G H d v
 fn: ∀f,cf.fns.contains f=k9-> ∃ps,Ig X k (zg f) ps (gk Γ (F.call f))
 cls: ∀c,cf.own.contains c=k9->X.mg (zg c)=y0 (.ref (Γ.ca c))
 fld: ∀c f,cf.ob.fl.contains (c,f)=k9->eR X.K (Γ.ca c)/\rf X.K (Γ.ca c) (zg f)
 kK: ∀c m q,cf.ob.mt.contains (c,m,q)=k9->eR X.K (Γ.ca c)/\ ∃fa fd ps,uq X.K (Γ.ca c) (zg m) fa/\bp X.prog X.w X.K X.mg X.base (cv X.prog X.w) k fa fd ps (gk Γ (F.call q))/\Binds X.K fd ps []
 gH: ∀c q,cf.ob.gH.contains (c,q)=k9->X.mg (zg c)=y0 (.ref (Γ.ca c))/\ ∃fa fd ps,Mk X.K (Γ.ca c) fa/\bp X.prog X.w X.K X.mg X.base (cv X.prog X.w) k fa fd ps (gk Γ (F.call q))/\Binds X.K fd ps []
@[elab_as_elim] theorem kE {P:List α->Prop}(k:b=k9->P []): ∀l,kZ l b=k9->P l:=by rintro (_|_)<;>first | exact bK | exact k
@[elab_as_elim] theorem Dr {P:Stmt->Prop}(k: ∀a b p,f a b=k9->P (.Try a b [] [] p)): ∀e,uC e f=k9->P e:=by
 rintro (_|_)<;>first | exact bK | exact λh=>kE (λh=>kE (λh=>k _ _ _ h) _ h) _ h
@[elab_as_elim] theorem AL {P:ExceptHandler->Prop}(k: ∀a b c p,f a b c=k9->P (.ExceptHandler a b c p)): ∀e,rD e f=k9->P e
 | .ExceptHandler _ _ _ _,h=>k _ _ _ _ h
def a2 (h:(a&&b)=k9):a=k9/\b=true:=Bool.and_eq_true_iff.mp h
def a3 (h:(a&&b&&c)=k9):a=k9/\b=k9/\c=true:=⟨(a2 (a2 h).1).1,(a2 (a2 h).1).2,(a2 h).2⟩
def a4 (h:(a&&b&&c&&d)=k9):a=k9/\b=k9/\c=k9/\d=true:=⟨(a3 (a2 h).1).1,(a3 (a2 h).1).2.1,(a3 (a2 h).1).2.2,(a2 h).2⟩
def a5 (h:(a&&b&&c&&d&&e)=k9):a=k9/\b=k9/\c=k9/\d=k9/\e=true:=⟨(a2 (a4 h).1).1,(a2 (a4 h).1).2,(a4 h).2⟩
def a6 (h:(a&&b&&c&&d&&e&&f)=k9):a=k9/\b=k9/\c=k9/\d=k9/\e=k9/\f=true:=⟨(a2 (a5 h).1).1,(a2 (a5 h).1).2,(a5 h).2⟩
def a7 (h:(a&&b&&c&&d&&e&&f&&g)=k9):a=k9/\b=k9/\c=k9/\d=k9/\e=k9/\f=k9/\g=true:=⟨(a2 (a6 h).1).1,(a2 (a6 h).1).2,(a6 h).2⟩
def nn (h:o.isNone=k9):o=none:=Option.isNone_iff_eq_none.mp h
def hJ (h:vB cf i x=k9):cf.N[i]? =y0 x/\jV cf.sc x=k9/\cz x=true:=⟨of_decide_eq_true (a3 h).1,(a3 h).2⟩
def Zb (h:bA sc x e=true): ∃p,e= .Name (zg x) p/\iK sc (zg x)=true/\(zg x==("__debug__" :Str))=false:=by
 unfold bA at h
 rw [Aa7,Aa7]at h
 obtain⟨⟨b,c⟩,a⟩:=h
 unfold cz at a
 rw [Aa7]at a
 cases e with
 | Name y p=>
  have:y=zg x:=by simpa [nu]using b
  subst this
  exact⟨p,rfl,c,by simpa using a.1⟩
 | _=>simp [nu]at b
def Wk (h:x∈bN):zg x≠("__name__" :Str):=by
 have:(bN.all λx=>decide (zg x≠ "__name__"))=true:=by decide +kernel
 exact of_decide_eq_true (Ae1.mp this x h)
section
variable {Γ:Ge}{F:M.Fx}{X:Cx}{E:XK}{k:Nat}{cf:Cf}
section
variable {G:Gh}{H:Hp}{h:M.AH}{Y:M.Sl}{U:St}{Q:VK}
def ay.val (p:ay Γ E G0 H0 (.ok w h) λw _ G' H'=> ∀v,au Γ G' H' w v->aG Y U H0 w v->Q v H') (e:Ext G0 H0 G H) (a:ai Γ G h H) (z:au Γ G H w v) (f:aG Y U H0 w v):Q v H:=
 p G H e a v z f
end
def LY (c:Go Γ F X E k cf)(m:cf.N[i]? =y0 x) (t:jV cf.sc x=k9) (b:cz x=k9):PE X (.Name x pos) (tD Γ E (M.eval F (.var i))):=by
 unfold cz at b
 rw [Aa7]at b
 refine PE.imp (Ql (by rw [c.N];exact m) (c.eW x t) (by simpa using b.1) (by simpa using b.2)) λU H Q f=> ?_
 obtain⟨G,Y,h,s,p⟩:=f
 rw [M.eval]at p
 cases q:M.Gj Y i with
 | none=>simp [M.Gf,q]at p;exact p.elim
 | some w=>
  obtain⟨v,e,r⟩:=s.slot i w q
  refine⟨v,e,?_⟩
  cases w with
  | v d=>
   rw [M.Pn q]at p
   exact ay.val p Ext.refl s.heap r trivial
  | own g=>
   rw [M.K9 q]at p
   obtain⟨a,j,l,y,u,o,n⟩:=r
   exact ay.val p Ext.refl s.heap ⟨a,j,l,u,.inl o,n⟩ ⟨i,_,q,rfl,e⟩
  | bor g=>
   rw [M.K7 q]at p
   exact ay.val p Ext.refl s.heap r ⟨i,_,q,rfl,e⟩
def BH (g:Go Γ F X E k cf)(l:bA cf.sc c e=k9):PE X e (tD Γ E (M.eval F (.con c))):=by
 obtain⟨p,rfl,m,n⟩:=Zb l
 cases q:F.con.lookup c with
 | none=>
  intro b s U H Q I ⟨G,Y,h,f,a⟩
  rw [M.eval,q]at a
  exact a.elim
 | some d=>
  obtain⟨u,v,j,rv,rd⟩:=g.con c d q
  refine PE.imp (zY (g.gl _ m) j rv n) λU H Q i=> ?_
  obtain⟨G,Y,h,f,a⟩:=i
  rw [M.eval,q]at a
  exact ay.val a Ext.refl f.heap (rd G H) trivial
def Be :PE X (.Constant (.int i) j pos) (tD Γ E (M.eval F (.int i))):=PE.imp sr λU H Q ⟨G,Y,h,s,p⟩=>ay.val p Ext.refl s.heap rfl trivial
def IY :PE X (.Constant (.bool i) j pos) (tD Γ E (M.eval F (.bl i))):=PE.imp Ec λU H Q ⟨G,Y,h,s,p⟩=>ay.val p Ext.refl s.heap rfl trivial
def Ez :PE X (.Constant .none j pos) (tD Γ E (M.eval F .av)):=PE.imp B1 λU H Q ⟨G,Y,h,s,p⟩=>ay.val p Ext.refl s.heap rfl trivial
def AM :PE X (.Constant (.str (cy i)) j pos) (tD Γ E (M.eval F (.str i))):=PE.imp EV λU H Q ⟨G,Y,h,s,p⟩=>ay.val p Ext.refl s.heap rfl trivial
section
variable {a b c:M.E}{x y z:Expr}{pos:Pos}
def DX (v:Go Γ F X E k cf)(z:mr o=k9) (g:PE X x (tD Γ E (M.eval F a))) (l:PE X y (tD Γ E (M.eval F b))):PE X (.BinOp x (mI o) y pos) (tD Γ E (M.eval F (.bin o a b))):=by
 refine PE.imp (EC (Ay (E:=E) o z v.K) g l) λU H Q e=> ?_
 obtain⟨G,Y,h,s,p⟩:=e
 refine Qa s.heap Ext.refl s p λq N J L K f A d m O w=> ?_
 refine Qa s.heap f d w λB I u t D j c n i C r=> ?_
 exact⟨t,u,q,B,n.heap,m.ext c d.heap,i,aC.mk r j s.heap⟩
def wW (z:aD Γ G H d v) (f:M.KR d=k9):xF v=true:=by
 cases d with
 | av=>cases (z);rfl
 | bl _=>cases (z);rfl
 | int _=>cases (z);rfl
 | str _=>cases (z);rfl
 | _=>exact absurd (f) Ab9
theorem jM : ∀ {ds}{a},ae Γ G H ds a->ds.all M.KR=k9->a.all xF=k9
 | [],_,rfl,_=>rfl
 | d::ds,_,⟨v,r,rfl,c,b⟩,f=>by
  rw [Ai4,Aa7]at f ⊢
  exact⟨wW c f.1,jM b f.2⟩
def Le (z:aD Γ G H d v) (y:aD Γ G H e u) (f:M.KR d=k9) (c:M.KR e=k9):gS v u=M.cj d e:=by
 cases d with
 | av=>
  cases (z)
  cases e with
  | av=>cases (y);rfl
  | bl _=>cases (y);rfl
  | int _=>cases (y);rfl
  | str _=>cases (y);rfl
  | _=>exact absurd (c) Ab9
 | bl a=>
  cases (z)
  cases e with
  | av=>cases (y);rfl
  | bl _=>cases (y);rfl
  | int j=>cases (y);show(_==j)=(a.toNat==j);rw [mE]
  | str _=>cases (y);rfl
  | _=>exact absurd (c) Ab9
 | int i=>
  cases (z)
  cases e with
  | av=>cases (y);rfl
  | bl b=>cases (y);show(i==(if b then(1:Int)else 0))=(i== b.toNat);rw [mE]
  | int _=>cases (y);rfl
  | str _=>cases (y);rfl
  | _=>exact absurd (c) Ab9
 | str i=>
  cases (z)
  cases e with
  | av=>cases (y);rfl
  | bl _=>cases (y);rfl
  | int _=>cases (y);rfl
  | str j=>cases (y);exact sY i j
  | _=>exact absurd (c) Ab9
 | _=>exact absurd (f) Ab9
theorem sU (z:aD Γ G H d v) (b:M.KR d=k9): ∀ {ds}{c},ae Γ G H ds c->ds.all M.KR=k9->iZ v c=M.inD d ds
 | [],_,rfl,_=>rfl
 | e::ds,_,⟨u,r,rfl,g,h⟩,f=>by
  rw [Ai4,Aa7]at f
  have a:=sU z b h f.2
  unfold iZ M.inD at a ⊢
  rw [Af2,Af2,a,Le g z f.1 b]
def au.ly (z:au Γ G H w v) (e:w.d=y0 d) (f:M.KR d=k9):aD Γ G H d v:=by
 cases w with
 | v b=>cases e;exact z
 | own a=>cases e;exact absurd (f) Ab9
 | bor a=>cases e
theorem pQ (a: ∀c y,RV hp c y->ee y=M.cj c d): ∀ {ys}{e},cg hp ys e->e.any ee=M.inD d ys
 | [],_,rfl=>rfl
 | c::ys,_,⟨u,r,rfl,f,g⟩=>by
  have b:=pQ a g
  unfold M.inD at b ⊢
  rw [Af2,Af2,b,a c u f]
def rL (e:bg k X.A)(r:M.KA ys<140) (o:RV s.heap d v) (p:cg s.heap ys its): ∃a:Value->Bool,(∀ c y,RV s.heap c y->a y=M.cj c d)/\ ∀y,y∈its.toArray->SeqAt.EqAt X.A.in1 s y v (a y):=by
 have f: ∃a:Value->Bool,∀c y,RV s.heap c y->a y=M.cj c d:=⟨λy=> @v9 (∃ b,RV s.heap b y/\M.cj b d=k9) (Al6 _),λc y z=>by
  cases q:M.cj c d with
  | true=>exact @decide_eq_true _ (Al6 _) ⟨c,z,q⟩
  | false=>exact @decide_eq_false _ (Al6 _) λ⟨d,n,h⟩=>by rw [RV.inj n z,q]at h;cases h⟩
 obtain⟨a,i⟩:=f
 refine⟨a,i,λy l=> ?_⟩
 obtain⟨j,m⟩:=List.getElem?_of_mem (List.mem_toArray.mp l)
 obtain⟨b,g,rd⟩:=p.get m
 rw [i b y rd]
 exact(oK 140 b _ X.A.in1 y v (by have:=wA g;lia) (by have:=e.un;lia) rd o).eq
def F6 (i:X.K=Γ.K)(d:bg k X.A) (neg:Bool){x y:V}(I:Inv X k8 U H s) (t:RelV x v) (C:RelV y u){b:Bool}(l:ai Γ G h H)
 (B:au Γ G H w1 x) (z:au Γ G H w2 y) (e:M.Pv w1 w2 h=y0 b) (q:Q (.bl (if neg then !b else b)) H):wpAny (model X.prog X.w) X.A (compareOp (if neg then .NotIn else .In) v u) (EP X k8 U Q) X.xe s:=by
 unfold M.Pv at e
 split at e
 ·rename_i w A
  split at e
  ·rename_i c
   cases e
   have r:=by simpa using c
   have E:=B.rv I i l t r.1.1
   have o:=z.rv I i l C (by simp_all)
   rw [A]at o
   obtain⟨a,f,rfl,n,p⟩:=o
   obtain⟨g,D,m⟩:=rL d r.2 E p
   have j:f.toArray.any g=M.inD (w1.dd h) w:=by rw [List.any_toArray];exact pQ D p
   cases neg with
   | true=>exact SeqAt.notIn_listAt g n m ⟨.bl _,H,I,rfl,by rw [j];exact q⟩
   | false=>exact SeqAt.in_listAt g n m ⟨.bl _,H,I,rfl,by rw [j];exact q⟩
  ·cases e
 ·cases e
def vm (g:X.K=Γ.K)(i:bg k X.A) (neg:Bool){x y:V}(I:Inv X k8 U H s) (f:RelV x v) (j:RelV y u){b:Bool}(o:ai Γ G h H)
 (n:au Γ G H w1 x) (m:au Γ G H w2 y) (e:M.Pe w1 w2 h=y0 b) (q:Q (.bl (if neg then !b else b)) H):wpAny (model X.prog X.w) X.A (compareOp (if neg then .NotIn else .In) v u) (EP X k8 U Q) X.xe s:=by
 unfold M.Pe at e
 ·split at e
  ·rename_i d A t w
   split at e
   ·rename_i c
    rw [Aa7]at c
    cases e
    have z:=n.ly t c.1
    obtain⟨a,p,rfl,r,l⟩:=m.seq o w
    rw [← sU z c.1 l c.2]at q
    cases neg with
    | true=>exact WP k8 s U H _ _ v u Q I f j ⟨a,p,rfl,g▸m9 r,wW z c.1,jM l c.2,q⟩
    | false=>exact L8 k8 s U H _ _ v u Q I f j ⟨a,p,rfl,g▸m9 r,wW z c.1,jM l c.2,q⟩
   ·exact F6 g i neg I f j o n m e q
  ·cases e
def zI (p:Go Γ F X E k cf) (o) (J:QF o=k9):bL X (compareOp (fD o)) (iJ Γ o):=by
 have f: ∀ {o},(∀ a d h b,M.Gy o a d h=y0 b-> ∃i j,M.W.int? a=y0 i/\M.W.int? d=y0 j/\M.Pu o i j=y0 b)->bL X (compareOp (fD o)) (iJ Γ o):=by
  intro o C g s U H x y v u Q I l r ⟨G,h,a,d,b,z,n,m,e,q⟩
  obtain⟨i,j,A,w,B⟩:=C a d h b e
  cases n.int A
  cases m.int w
  exact EB B I l r q
 have mk: ∀ {o}{a d}{h:M.AH}{b},(match M.W.int? a,M.W.int? d with
  | some i,y0 j=>M.Pu o i j
  | _,_=>u0)=y0 b-> ∃i j,M.W.int? a=y0 i/\M.W.int? d=y0 j/\M.Pu o i j=y0 b:=by
  intro o a d h b e
  split at e
  ·rename_i i j A w;exact⟨i,j,A,w,e⟩
  ·cases e
 cases o with
 | eq=>exact yJ p.K p.room
 | ne=>exact yA p.K p.room
 | lt=>exact f λa d h b e=>mk (h:=h) e
 | le=>exact f λa d h b e=>mk (h:=h) e
 | gt=>exact f λa d h b e=>mk (h:=h) e
 | ge=>exact f λa d h b e=>mk (h:=h) e
 | mem=>
  intro g s U H x y v u Q I l r ⟨G,h,a,d,b,z,n,m,e,q⟩
  exact vm p.K p.room y9 I l r z n m e q
 | dM=>
  intro g s U H x y v u Q I l r ⟨G,h,a,d,b,z,n,m,e,q⟩
  have e:(M.Pe a d h).map (!·)=y0 b:=e
  cases w:M.Pe a d h with
  | none=>rw [w]at e;cases e
  | some c=>
   rw [w]at e
   cases e
   exact vm p.K p.room k9 I l r z n m w q
 | nQ=>
  intro g s U H x y v u Q I l r ⟨G,h,a,d,b,z,n,m,e,q⟩
  have e:M.Px a d=y0 b:=e
  unfold M.Px at e
  split at e
  ·cases e
   cases n
   cases m
   cases l
   obtain⟨t,rfl⟩:=r
   exact wpAny_is_plain rfl (sL I q rfl)
  ·cases e
   cases n
   cases m
   obtain⟨t,rfl⟩:=l
   obtain⟨D,rfl⟩:=r
   exact PyProof.Rows.is_bool (sL I q rfl)
  ·cases e
def zk (h:Ze e=k9):behindInMarks o e=false:=by
 cases e<;>first | rfl | (simp [Ze]at h)
def vR (D:Go Γ F X E k cf)(s:ax Γ G Y h U H)
 (p:ay Γ E G H ((M.eval F a Y h).bind λx h=>(M.eval F b Y h).bind λy h=>(M.R.of h (M.Gy o x y h)).bind λc h=> .ok c h) λc _ _ H'=>R (.bl c) H'):
 lV (iJ Γ o) (tD Γ E (M.eval F a)) (tD Γ E (M.eval F b)) U H R:=by
 refine Qa s.heap Ext.refl s p λq K C J I i v g n L u=> ?_
 refine Qa s.heap i g u λw B t r A m e f j z d=> ?_
 obtain⟨c,l,d⟩:=d.of
 exact⟨r,t,q,w,c,f.heap,n.ext e g.heap,j,l,d.at m f.heap⟩
def ay.map {f:α->β}(p:ay Γ E G H (r.bind λa h=> .ok (f a) h) P):ay Γ E G H r λa h G' H'=>P (f a) h G' H':=by
 cases r with
 | ok a h=>exact p
 | exc d h=>exact p
 | fail=>exact p
def We (r:M.R α) (f) (g:β->M.AH->M.R γ):(r.bind f).bind g=r.bind λa h=>(f a h).bind g:=by cases r<;>rfl
def BF (j:Go Γ F X E k cf)(A:QF o=k9) (u:Ze y=k9) (m:PE X x (tD Γ E (M.eval F a))) (n:PE X y (tD Γ E (M.eval F b))):PE X (.Compare x [fD o] [y] pos) (tD Γ E (M.eval F (.cmp o a b))):=by
 refine PE.imp (jW (zI j o A) m n (zk u)) λU H Q l=> ?_
 obtain⟨G,Y,h,s,p⟩:=l
 rw [M.eval]at p
 refine vR j s ?_
 have z:ay Γ E G H (((M.eval F a Y h).bind λx h=>(M.eval F b Y h).bind λy h=>(M.R.of h (M.Gy o x y h)).bind λc h=> .ok c h).bind λc h=> .ok (M.W.v (.bl c)) h) λw _ i g=> ∀v,au Γ i g w v->aG Y U H w v->Q v g:=by
  simpa only [We,M.R.aa]using p
 have f:=z.map
 cases q:(M.eval F a Y h).bind λx h=>(M.eval F b Y h).bind λy h=>(M.R.of h _).bind λc h=> .ok c h with
 | ok c r=>rw [q]at f;exact λi g e t=>f i g e t _ rfl trivial
 | exc d r=>rw [q]at f;exact f
 | fail=>rw [q]at f;exact f
def Ik (g:Go Γ F X E k cf)(u:QF o=k9) (r:Ze y=k9) (j:PE X x (tD Γ E (M.eval F a))) (l:PE X y (tD Γ E (M.eval F b))):PT X (.Compare x [fD o] [y] pos) (cD Γ E (M.Gs F (.cmp o a b))):=by
 refine PT.imp (jY (zI g o u) j l (zk r)) λU H Q i=> ?_
 obtain⟨G,Y,h,s,p⟩:=i
 unfold M.Gs at p
 rw [M.eval]at p
 refine vR g s ?_
 have f:=by
  simpa only [We,M.R.aa,M.G8,M.R.af]using p
 cases q:(M.eval F a Y h).bind λx h=>(M.eval F b Y h).bind λy h=>(M.R.of h _).bind λc h=> .ok c h with
 | ok c m=>rw [q]at f;exact λv t e n=>⟨c,rfl,f v t e n⟩
 | exc d m=>rw [q]at f;exact f
 | fail=>rw [q]at f;exact f
end
end
section
variable {Γ:Ge}{F:M.Fx}{X:Cx}{E:XK}{k:Nat}{cf:Cf}{a b c:M.E}{x y z:Expr}{pos:Pos}
def Zz (r:M.R α):(r.bind λw h=> .ok w h)=r:=by cases r<;>rfl
def Dh (m:Go Γ F X E k cf) (g:PE X x (tD Γ E (M.eval F a))) (n: ∀b,isTrue x X.env b=(do let v ←b;standAt x.pos;holding [v] (truthy v))):PT X x (cD Γ E (M.Gs F a)):=by
 refine PT.imp (Lb g n) λU H Q e=> ?_
 obtain⟨G,Y,h,s,p⟩:=e
 refine Qa s.heap Ext.refl s p λj w l r o f u d i y c=> ?_
 cases q:M.KW l j with
 | none=>rw [q]at c;exact c.elim
 | some t=>
  rw [q]at c
  exact⟨t,JZ m.K d.heap i q,c r o f d.heap⟩
def BG (f:PE X x ta):PE X (.UnaryOp .Not x pos) (λU H Q=>ta U H λv H1=> ∃t,iF X.K v H1 t/\Q (.bl (!t)) H1):=by
 intro a s U H Q I h
 refine UnaryOp_ (aL (f a s U H _ I h) ?_)
 rintro v k ⟨x,H1,b,i,t,l,d⟩
 exact not_of (aL (W2 a k U H1 x v (λc j=>Q (.bl (!c)) j) b i ⟨t,l,d⟩) λc m ⟨e,g,q⟩=>⟨.bl (!c),e,g,rfl,q⟩)
def yN (i:Go Γ F X E k cf) (f:PE X x (tD Γ E (M.eval F a))):PE X (.UnaryOp .Not x pos) (tD Γ E (M.eval F (.not a))):=by
 refine PE.imp (BG f) λU H Q d=> ?_
 obtain⟨G,Y,h,s,p⟩:=d
 refine Qa s.heap Ext.refl s p λl r m o n e j c g u b=> ?_
 obtain⟨t,q,b⟩:=b.of
 exact⟨t,JZ i.K c.heap g q,ay.val b e c.heap rfl trivial⟩
def E9 (f:PT X x (cD Γ E (M.Gs F a))):PT X (.UnaryOp .Not x pos) (cD Γ E (M.Gs F (.not a))):=by
 refine PT.imp (ym f) λU H Q c=> ?_
 obtain⟨G,Y,h,s,p⟩:=c
 unfold M.Gs at p
 rw [M.eval]at p
 have d:ay Γ E G H ((M.Gs F a Y h).bind λt h=> .ok (!t) h) λb _ _ e=>Q b e:=by
  unfold M.Gs
  simpa only [We,M.R.aa,M.G8,M.R.af]using p
 exact⟨G,Y,h,s,d.map⟩
def EJ {rest:List Expr}(k:PE X x ta) (l:PE X (.BoolOp .And (y::rest) pos) tb):PE X (.BoolOp .And (x::y::rest) pos) (λU H Q=>ta U H λv H1=> ∃t,iF X.K v H1 t/\if t=k9 then tb U H1 Q else Q v H1):=by
 intro a s U H Q I h
 refine BoolOp_and (aL (k a s U H _ I h) ?_)
 rintro v n ⟨x,H1,i,e,t,o,j⟩
 refine aL (W2 a n U H1 x v (λc f=>if c=k9 then tb U f Q else Q x f) i e ⟨t,o,j⟩) λc m g=> ?_
 obtain⟨b,d,q⟩:=g
 cases c with
 | true=>exact l a m U b Q d q
 | false=>exact⟨x,b,d,e,q⟩
def Hl {rest:List Expr}(k:PE X x ta) (l:PE X (.BoolOp .Or (y::rest) pos) tb):PE X (.BoolOp .Or (x::y::rest) pos) (λU H Q=>ta U H λv H1=> ∃t,iF X.K v H1 t/\if t=k9 then Q v H1 else tb U H1 Q):=by
 intro a s U H Q I h
 refine BoolOp_or (aL (k a s U H _ I h) ?_)
 rintro v n ⟨x,H1,i,e,t,o,j⟩
 refine aL (W2 a n U H1 x v (λc f=>if c=k9 then Q x f else tb U f Q) i e ⟨t,o,j⟩) λc m g=> ?_
 obtain⟨b,d,q⟩:=g
 cases c with
 | false=>exact l a m U b Q d q
 | true=>exact⟨x,b,d,e,q⟩
def sF (v:Go Γ F X E k cf){rest:List Expr}(j:PE X x (tD Γ E (M.eval F a))) (n:PE X (.BoolOp .And (y::rest) pos) (tD Γ E (M.eval F b))):PE X (.BoolOp .And (x::y::rest) pos) (tD Γ E (M.eval F (.and a b))):=by
 refine PE.imp (EJ j n) λU H Q g=> ?_
 obtain⟨G,Y,h,s,p⟩:=g
 refine Qa s.heap Ext.refl s p λC N D L K d z e f w c=> ?_
 obtain⟨t,q,c⟩:=c.of
 refine⟨t,JZ v.K e.heap f q,?_⟩
 cases t with
 | true=>
  exact Qa s.heap d e (by rw [Zz];exact c) λO B J I A m u o l i r=>ay.val r m o.heap l (i.back d s.heap)
 | false=>
  exact ay.val c d e.heap f w
def u5 (v:Go Γ F X E k cf){rest:List Expr}(j:PE X x (tD Γ E (M.eval F a))) (n:PE X (.BoolOp .Or (y::rest) pos) (tD Γ E (M.eval F b))):PE X (.BoolOp .Or (x::y::rest) pos) (tD Γ E (M.eval F (.or a b))):=by
 refine PE.imp (Hl j n) λU H Q g=> ?_
 obtain⟨G,Y,h,s,p⟩:=g
 refine Qa s.heap Ext.refl s p λC N D L K d z e f w c=> ?_
 obtain⟨t,q,c⟩:=c.of
 refine⟨t,JZ v.K e.heap f q,?_⟩
 cases t with
 | false=>
  exact Qa s.heap d e (by rw [Zz];exact c) λO B J I A m u o l i r=>ay.val r m o.heap l (i.back d s.heap)
 | true=>
  exact ay.val c d e.heap f w
def yT :M.Gs F (.and a b) Y h=(M.Gs F a Y h).bind λt h=>match t with
 | true=>M.Gs F b Y h
 | false=> .ok y9 h:=by
 unfold M.Gs
 rw [M.eval]
 simp only [We]
 congr 1
 funext w h1
 cases q:M.KW h1 w with
 | none=>rfl
 | some t=>
  cases t with
  | true=>rfl
  | false=>simp [q]
def HE :M.Gs F (.or a b) Y h=(M.Gs F a Y h).bind λt h=>match t with
 | true=> .ok k9 h
 | false=>M.Gs F b Y h:=by
 unfold M.Gs
 rw [M.eval]
 simp only [We]
 congr 1
 funext w h1
 cases q:M.KW h1 w with
 | none=>rfl
 | some t=>
  cases t with
  | false=>rfl
  | true=>simp [q]
def j7 {rest:List Expr}(j:PT X x (cD Γ E (M.Gs F a))) (l:PW X (.BoolOp .And (y::rest) pos) (cD Γ E (M.Gs F b))):PW X (.BoolOp .And (x::y::rest) pos) (cD Γ E (M.Gs F (.and a b))):=by
 intro q c r U H Q I ⟨G,Y,h,s,p⟩
 refine CI j l q c r U H Q I ?_
 rw [yT]at p
 refine JM s.heap Ext.refl s p λt B z v d A g e=> ?_
 cases t with
 | true=>
  exact JM s.heap d g (f:=λw h=> .ok w h) (by rw [Zz];exact e) λD C o i k u m n=>n o i k m.heap
 | false=>
  exact e z v d g.heap
def tS {rest:List Expr}(j:PT X x (cD Γ E (M.Gs F a))) (l:PW X (.BoolOp .Or (y::rest) pos) (cD Γ E (M.Gs F b))):PW X (.BoolOp .Or (x::y::rest) pos) (cD Γ E (M.Gs F (.or a b))):=by
 intro q c r U H Q I ⟨G,Y,h,s,p⟩
 refine DC j l q c r U H Q I ?_
 rw [HE]at p
 refine JM s.heap Ext.refl s p λt B z v d A g e=> ?_
 cases t with
 | false=>
  exact JM s.heap d g (f:=λw h=> .ok w h) (by rw [Zz];exact e) λD C o i k u m n=>n o i k m.heap
 | true=>
  exact e z v d g.heap
def Lz (e:PE X x (tD Γ E (M.eval F a))):PE X (.UnaryOp .USub x pos) (tD Γ E (M.eval F (.neg a))):=by
 refine PE.imp (pA ub e) λU H Q c=> ?_
 obtain⟨G,Y,h,s,p⟩:=c
 refine Qa s.heap Ext.refl s p λj n k m l d i g f o b=> ?_
 obtain⟨t,q,b⟩:=b.of
 exact⟨t,f.int q,ay.val b d g.heap rfl trivial⟩
def Lg (f:PE X x (tD Γ E (M.eval F a))):PE X (.UnaryOp .Invert x pos) (tD Γ E (M.eval F (.inv a))):=by
 refine PE.imp (pA Mh f) λU H Q c=> ?_
 obtain⟨G,Y,h,s,p⟩:=c
 refine Qa s.heap Ext.refl s p λk o l n m d j i g r b=> ?_
 obtain⟨t,q,b⟩:=b.of
 refine⟨t,g.int q,?_⟩
 have e:Builtin.bitNot t= -t-1:=by unfold Builtin.bitNot;lia
 exact ay.val b d i.heap rfl trivial
def ue (r:au Γ G H w v):(v= .av)↔w= .v .av:=by
 constructor
 ·intro e
  subst e
  cases w with
  | v d=>
   cases d with
   | av=>rfl
   | bl _=>cases (r)
   | int _=>cases (r)
   | str _=>cases (r)
   | tup _=>obtain⟨_,_,e,_⟩:=r;cases e
   | lst _=>obtain⟨_,_,e,_⟩:=r;cases e
   | ref _=>obtain⟨_,e⟩:=r;cases e
   | exc _ _=>rcases r with⟨_,_,e,_⟩ | ⟨_,_,e,_⟩<;>cases e
   | err _ _ _=>obtain⟨_,_,_,e,_⟩:=r;cases e
  | own _=>obtain⟨_,_,e,_⟩:=r;cases e
  | bor _=>obtain⟨_,_,e,_⟩:=r;cases e
 ·intro e
  subst e
  exact r
def pb (neg:Bool):M.W->Bool
 | .v .av=> !neg
 | _=>neg
def vz :M.eval F (.d3 neg a) Y h=(M.eval F a Y h).bind λw h=>M.aU (.bl (pb neg w)) h:=by
 rw [M.eval]
 congr 1
 funext w h1
 cases w with
 | v d=>cases d<;>rfl
 | own _=>rfl
 | bor _=>rfl
def pZ (r:au Γ G H w v) (neg:Bool):(if neg then !v9 (v= .av)else v9 (v= .av))=pb neg w:=by
 by_cases a:v= .av
 ·have b:=(ue r).mp a
  subst b a
  cases neg<;>rfl
 ·have b:=λe=>a ((ue r).mpr e)
  have c:=decide_eq_false a
  rw [c]
  have f:pb neg w=neg:=by
   cases w with
   | v d=>cases d<;>first | rfl | exact absurd rfl b
   | own _=>rfl
   | bor _=>rfl
  rw [f]
  cases neg<;>rfl
def Br (c:PE X x (tD Γ E (M.eval F a))):PE X (.Compare x [if neg then .IsNot else .Is] [.Constant .none j pos'] pos) (tD Γ E (M.eval F (.d3 neg a))):=by
 have b: ∀U H Q,tD Γ E (M.eval F (.d3 neg a)) U H Q->tD Γ E _ U H λv d=>Q (.bl (if neg then !v9 (v= .av)else decide _)) d:=λU H Q e=>by
  obtain⟨G,Y,h,s,p⟩:=e
  rw [vz]at p
  refine Qa s.heap Ext.refl s p λm q n o d f l k g r i=> ?_
  rw [pZ g neg]
  exact ay.val i f k.heap rfl trivial
 cases neg with
 | true=>exact PE.imp (vk (uY c)) b
 | false=>exact PE.imp (vk (sX c)) b
def LS (i:PE X x (tD Γ E (M.eval F a))):PT X (.Compare x [if neg then .IsNot else .Is] [.Constant .none j pos'] pos) (cD Γ E (M.Gs F (.d3 neg a))):=by
 have g: ∀U H Q,cD Γ E (M.Gs F (.d3 neg a)) U H Q->tD Γ E _ U H λv b=>Q (if neg then !v9 (v= .av)else decide _) b:=λU H Q k=>by
  obtain⟨G,Y,h,s,p⟩:=k
  unfold M.Gs at p
  rw [vz,We]at p
  refine Qa s.heap Ext.refl s p λD J I y b l C A m K z=> ?_
  rw [pZ m neg]
  exact z y b l A.heap
 have fin: ∀U H Q,cD Γ E _ U H Q->tD Γ E (M.eval F a) U H λv b=> ∃c,V.bl _= .bl c/\Q c b:=λU H Q t=>by
  obtain⟨G,Y,h,s,p⟩:=g U H Q t
  refine⟨G,Y,h,s,?_⟩
  cases q:M.eval F a Y h with
  | ok w o=>rw [q]at p;exact λB u e n v r f=>⟨_,rfl,p B u e n v r f⟩
  | exc d o=>rw [q]at p;exact p
  | fail=>rw [q]at p;exact p
 cases neg with
 | true=>exact PT.imp (ur (uY i)) fin
 | false=>exact PT.imp (ur (sX i)) fin
def q0 (h:Ze e'=k9):lastMarks [o,o'] [e,e']=false:=zk h
def Z3 (T:Go Γ F X E k cf)(s:ax Γ G Y h U H)
 (hP: ∀b h' G' H',P (.v (.bl b)) h' G' H'->R (.bl b) H') (p:ay Γ E G H (M.eval F (.chain o o' a b c) Y h) P):
 oB (iJ Γ o) (iJ Γ o') (tD Γ E (M.eval F a)) (tD Γ E (M.eval F b)) (tD Γ E (M.eval F c)) U H R:=by
 refine Qa s.heap Ext.refl s p λy v1 S Z W v J q x f1 D=> ?_
 refine Qa s.heap v q D λr N B z L m j d l K e=> ?_
 obtain⟨t,f,e⟩:=e.of
 refine⟨z,B,y,r,t,d.heap,x.ext j q.heap,l,f,t,rfl,?_⟩
 cases t with
 | true=>
  refine Qa s.heap m d e λI V C w Q u i n A O g=> ?_
  obtain⟨t,f,g⟩:=g.of
  exact⟨w,C,r,I,t,n.heap,l.ext i d.heap,A,f,hP _ _ _ _ (g.at u n.heap)⟩
 | false=>
  exact hP _ _ _ _ (e.at m d.heap)
def Ll (e:Go Γ F X E k cf)(l:QF o=k9) (d:QF o'=k9) (i:Ze z=k9) (f:PE X x (tD Γ E (M.eval F a))) (g:PE X y (tD Γ E (M.eval F b))) (j:PE X z (tD Γ E (M.eval F c))):
 PE X (.Compare x [fD o,fD o'] [y,z] pos) (tD Γ E (M.eval F (.chain o o' a b c))):=
 PE.imp (Dt (zI e o l) (zI e o' d) f g j (q0 i)) λU H Q ⟨G,Y,h,s,p⟩=>Z3 e s (λb m r n q=>q _ rfl trivial) p
def DO (i:Go Γ F X E k cf)(B:QF o=k9) (g:QF o'=k9) (t:Ze z=k9) (n:PE X x (tD Γ E (M.eval F a))) (r:PE X y (tD Γ E (M.eval F b))) (A:PE X z (tD Γ E (M.eval F c))):
 PT X (.Compare x [fD o,fD o'] [y,z] pos) (cD Γ E (M.Gs F (.chain o o' a b c))):=by
 refine PT.imp (FT (zI i o B) (zI i o' g) n r A (q0 t)) λU H Q m=> ?_
 obtain⟨G,Y,h,s,p⟩:=m
 refine Z3 i s (P:=λw _ _ f=> ∀b,w= .v (.bl b)->Q b f) (λb j l f q=>⟨b,rfl,q b rfl⟩) ?_
 unfold M.Gs at p
 cases q:M.eval F _ Y h with
 | ok w j=>rw [q]at p;exact λl f e u b v=>by subst v;exact p l f e u
 | exc d j=>rw [q]at p;exact p
 | fail=>rw [q]at p;exact p
end
def xa (h:Ja e=k9):starEach (e::es) env=(y9,eval e env)::starEach es env:=by
 cases e<;>first | rfl | (simp [Ja]at h)
def xv (h: ∀e∈es,Ja e=k9):(backTo pos (starEach es env)).any (·.1)=false:=by
 induction es with
 | nil=>rfl
 | cons e r c=>
  rw [xa (h e Aa3)]
  show(y9||(backTo pos _).any _)=y9
  rw [c λb a=>h b (Aa1 _ a)]
  rfl
section
variable {Γ:Ge}{F:M.Fx}{X:Cx}{E:XK}{k:Nat}{cf:Cf}{a b c:M.E}{x y z:Expr}{pos:Pos}{es:M.Es}{xs:List Expr}
def Bc:PA X [] (iE Γ E (M.Gm F .nil)):=PA.imp wg λU H Q ⟨G,Y,h,s,p⟩=>p G H Ext.refl s.heap [] rfl
def Lx (w:Ja x=k9) (l:PE X x (tD Γ E (M.eval F a))) (r:PA X xs (iE Γ E (M.Gm F es))):PA X (x::xs) (iE Γ E (M.Gm F (.cons a es))):=by
 refine PA.imp (Xb l r (xa w)) λU H Q i=> ?_
 obtain⟨G,Y,h,s,p⟩:=i
 refine Qa s.heap Ext.refl s p λD g I N L k B y o z c=> ?_
 obtain⟨d,q,c⟩:=c.of
 obtain⟨J,m,e,rd,_⟩:=ny k y s o z q
 refine WV s.heap m e c λC f K A u j b n v t=> ?_
 exact t A u j n.heap (g::f) ⟨g,f,rfl,rd.ext b e.heap,v⟩
def B2:PA X [] (gT Γ E (M.Gg F .nil)):=PA.imp wg λU H Q ⟨G,Y,h,s,p⟩=>p G H Ext.refl s.heap [] rfl
def ER (r:Ja x=k9) (j:PE X x (tD Γ E (M.eval F a))) (m:PA X xs (gT Γ E (M.Gg F es))):PA X (x::xs) (gT Γ E (M.Gg F (.cons a es))):=by
 refine PA.imp (Xb j m (xa r)) λU H Q f=> ?_
 obtain⟨G,Y,h,s,p⟩:=f
 refine Qa s.heap Ext.refl s p λy e z C B i v d l D t=> ?_
 refine Wx s.heap i d t λw c A u o g b k q n=> ?_
 exact n u o g k.heap (e::c) ⟨e,c,rfl,l.ext b d.heap,q⟩
def Lp (z:xs.length<=1000) (a: ∀Y h ds h',M.Gm F es Y h= .ok ds h'->ds.length=xs.length) (o:PA X xs (iE Γ E (M.Gm F es))):PE X (.Tuple xs n pos) (tD Γ E (M.eval F (.tup es))):=by
 refine PE.imp (pK o) λU H Q l=> ?_
 obtain⟨G,Y,h,s,p⟩:=l
 rw [M.eval]at p
 cases q:M.Gm F es Y h with
 | ok c k=>
  have r:=a _ _ _ _ q
  refine WV s.heap Ext.refl s (f:=λds h=>if ds.length=xs.length then M.aU (.tup ds) h else .fail) (P:=λw h' x j=> ∀v,au Γ x j w v->aG Y U H w v->Q v j) ?_ λds A B I D m y u g b=> ?_
  ·rw [q]at p ⊢
   show ay Γ E G H (if c.length=xs.length then M.aU _ k else .fail) _
   rw [if_pos r]
   exact p
  ·by_cases i:ds.length=xs.length
   ·rw [if_pos i]at b
    have C:=g.length
    exact⟨Ah4 (zm (by lia)),λt e=>aC.tup (aC.mk b m s.heap) u.heap g t e⟩
   ·rw [if_neg i]at b;exact b.elim
 | exc d k=>rw [q]at p;exact⟨G,Y,h,s,by rw [q];exact p⟩
 | fail=>rw [q]at p;exact p.elim
def AQ (y:xs.length<=1000) (a: ∀Y h ds h',M.Gm F es Y h= .ok ds h'->ds.length=xs.length) (n:PA X xs (iE Γ E (M.Gm F es))):PE X (.List xs pos) (tD Γ E (M.eval F (.lst es))):=by
 refine PE.imp (AD n) λU H Q l=> ?_
 obtain⟨G,Y,h,s,p⟩:=l
 rw [M.eval]at p
 cases q:M.Gm F es Y h with
 | ok c k=>
  have o:=a _ _ _ _ q
  refine WV s.heap Ext.refl s (f:=λds h=>if ds.length=xs.length then .ok (.own ds) h else .fail) (P:=λw h' u j=> ∀v,au Γ u j w v->aG Y U H w v->Q v j) ?_ λds z A D C m x t g b=> ?_
  ·rw [q]at p ⊢
   show ay Γ E G H (if c.length=xs.length then .ok _ k else .fail) _
   rw [if_pos o]
   exact p
  ·by_cases i:ds.length=xs.length
   ·rw [if_pos i]at b
    have B:=g.length
    exact⟨Ah4 (zm (by lia)),λr e=>aC.own (aC.mk b m s.heap) t.heap g r e⟩
   ·rw [if_neg i]at b;exact b.elim
 | exc d k=>rw [q]at p;exact⟨G,Y,h,s,by rw [q];exact p⟩
 | fail=>rw [q]at p;exact p.elim
def IB (r:au Γ G H w v):au Γ G H w.arg v:=by
 cases w with
 | v d=>exact r
 | own c=>obtain⟨a,h,b,_,g,f,e⟩:=r;exact⟨a,h,b,g,.inl f,e⟩
 | bor c=>exact r
theorem qA : ∀ {ws}{a},bu Γ G H ws a->bu Γ G H (ws.map M.W.arg) a
 | [],_,z=>z
 | _::_,_,⟨v,r,b,c,d⟩=>⟨v,r,b,IB c,qA d⟩
def zE (ws:List M.W): ∀w∈ws.map M.W.arg,mB w=true:=λw a=>by
 obtain⟨u,_,rfl⟩:=Ac1.mp a
 cases u<;>rfl
def Lu (a:Go Γ F X E k cf)(q:bA cf.sc f g=k9) (v:cf.fns.contains f=k9) (c: ∀e∈x::xs,Ja e=k9) (l:PA X (x::xs) (gT Γ E (M.Gg F es))):PE X (.Call g (x::xs) [] pos) (tD Γ E (M.eval F (.call f es))):=by
 obtain⟨p,rfl,w,y⟩:=Zb q
 obtain⟨o,J,I,b,r,t,j⟩:=(a.fn f v).imp λo h=>h.ex
 refine PE.imp (CH b a.room (a.gl _ w) j t r .nil a.pass l y (xa (c _ Aa3)) (xv λe z=>c e (Aa1 _ z))) λU H Q d=> ?_
 obtain⟨G,Y,h,s,p⟩:=d
 refine Wx s.heap Ext.refl s p λm K u A L i D C n B=> ?_
 rw [Af1]
 exact⟨A,u,_,C.heap,qA n,zE m,aC.mk B i s.heap⟩
def FR (a:Go Γ F X E k cf)(i:bA cf.sc f g=k9) (m:cf.fns.contains f=k9):PE X (.Call g [] [] pos) (tD Γ E (M.eval F (.call f .nil))):=by
 obtain⟨p,rfl,n,o⟩:=Zb i
 obtain⟨e,r,q,b,j,l,d⟩:=(a.fn f m).imp λe h=>h.ex
 refine PE.imp (F0 b a.room (a.gl _ n) d l j .nil a.pass o) λU H Q c=> ?_
 obtain⟨G,Y,h,s,p⟩:=c
 have p:=p
 exact⟨G,h,_,s.heap,qA (ws:= []) rfl,zE [],aC.mk p Ext.refl s.heap⟩
def D7 (b:M.Bi) (a:mO b=k9):bootBuiltins (zg (mh b))=y0 (ud b):=by
 cases b<;>first | (exact absurd (show y9=k9 from a) Ab9) | decide +kernel
def sG (b):mh b∈bN:=by cases b<;>decide
def Fo (c:Go Γ F X E k cf){b:M.Bi}(q:mO b=k9) (y:bA cf.sc (mh b) g=k9) (r: ∀e∈x::xs,Ja e=k9) (i:PA X (x::xs) (gT Γ E (M.Gg F es))):PE X (.Call g (x::xs) [] pos) (tD Γ E (M.eval F (.bi b es))):=by
 obtain⟨p,rfl,m,o⟩:=Zb y
 have f:=c.blt _ (sG b)
 have hn:=Wk (sG b)
 have j:=D7 b q
 have n:qm X _ (oJ Γ E b):=BX b q c.K c.calm
 have a: ∀U H Q,tD Γ E (M.eval F (.bi b es)) U H Q->nS (oJ Γ E b) (gT Γ E _) U H Q:=λU H Q t=>by
  obtain⟨G,Y,h,s,p⟩:=t
  refine Wx s.heap Ext.refl s p λv I z C J u A d w D=> ?_
  exact⟨C,z,v,d.heap,w,aC.mk D u s.heap⟩
 have d:=xa (env:=X.env) (es:=xs) (r _ Aa3)
 have l:=xv (env:=X.env) (pos:=pos) λe B=>r e (Aa1 _ B)
 cases b with
 | len=>exact PE.imp (xh n (c.gl _ m) f j i hn o d l) a
 | divmod=>exact PE.imp (xh n (c.gl _ m) f j i hn o d l) a
 | min=>exact PE.imp (xh n (c.gl _ m) f j i hn o d l) a
 | max=>exact PE.imp (xh n (c.gl _ m) f j i hn o d l) a
 | int=>exact PE.imp (jv n (c.gl _ m) f j i hn o d l) a
 | list=>exact PE.imp (jv n (c.gl _ m) f j i hn o d l) a
 | tuple=>exact PE.imp (jv n (c.gl _ m) f j i hn o d l) a
 | sum=>exact PE.imp (xh n (c.gl _ m) f j i hn o d l) a
 | all=>exact PE.imp (xh n (c.gl _ m) f j i hn o d l) a
 | any=>cases q
 | sorted=>cases q
 | str=>cases q
 | abs=>cases q
def bW (h:nC o=k9) (w):attributeBase o n env w=w:=by
 cases o with
 | Call f a b p=>
  cases a with
  | nil=>exact absurd (h) Ab9
  | cons x a=>cases f<;>rfl
 | _=>rfl
theorem sd (t): ∀ {ts}{n},M.Pj t ts=y0 n->kT (cy t) (ts.map cy)=y0 n
 | [],_,e=>by cases e
 | y::ys,n,e=>by
  unfold M.Pj at e
  rw [Aa9,kT]
  split at e
  ·rename_i q
   cases e
   rw [if_pos (by rw [q])]
  ·rename_i q
   obtain⟨k,e1,rfl⟩:=Af5.mp e
   rw [if_neg (λc=>q (by
    have:=congrArg (λs:Str=>s.cps.toList) c
    simpa [cy]using this)),sd t e1]
   rfl
theorem rN {b:Value->Bool}(f: ∀c y,RV hp c y->b y=M.cj c d): ∀ {ys}{a}{j},cg hp ys a->M.Pt d ys=y0 j-> ∃y,a[j]? =y0 y/\b y=k9/\ ∀m z,m<j->a[m]? =y0 z->b z=y9
 | [],_,_,rfl,h=>by cases h
 | c::ys,_,j,⟨u,r,rfl,l,p⟩,h=>by
  rw [M.Pt]at h
  by_cases q:M.cj c d=k9
  ·rw [if_pos q]at h
   cases h
   exact⟨u,rfl,by rw [f c u l];exact q,λm z g=>absurd g (Ai1 m)⟩
  ·rw [if_neg q]at h
   obtain⟨i,e,rfl⟩:=Af5.mp h
   obtain⟨y,n,o,s⟩:=rN f p e
   refine⟨y,n,o,λm z g k=> ?_⟩
   cases m with
   | zero=>cases k;rw [f c u l];simpa using q
   | succ m=>exact s m z (by omega) k
def DS (a:Ge):V->List V->Hp->VK->Prop:=λx d H Q=> ∃G h b c y j,d= [y]/\ai a G h H/\au a G H b x/\au a G H c y/\M.Pk c b h=y0 j/\Q (.int (j:Nat)) H
def IC (l:X.K=Γ.K)(f:bg k X.A):i5 X "list.index" (DS Γ):=by
 intro r s U H x vs v us Q I C rv ⟨G,h,w1,w2,y,j,R,p,J,D,e,q⟩
 subst R
 obtain⟨u,rfl,O⟩:=rv.one
 unfold M.Pk at e
 split at e
 ·rename_i ys E
  split at e
  ·rename_i c
   have B:=by simpa using c
   have Z:=D.rv I l p O B.1.1.1
   have t:=J.rv I l p C (by simp_all)
   rw [E]at t
   obtain⟨a,g,rfl,L,i⟩:=t
   obtain⟨T,W,K⟩:=rL f B.1.2 Z i
   obtain⟨z,P,h2,V⟩:=rN W i e
   obtain⟨⟨S,dd,w,sl⟩,A,Y,k,N⟩:=id L
   subst Y N
   have n:=i.length
   obtain⟨hj,h4⟩:=Ac0.mp P
   have hL:=M.Gi
   refine call_meets PySem.F.slot_list_index ⟨_,A,rfl⟩ PySem.F.entry_list_index (PySem.F.args_list_index_2 _ _) (PySem.SeqAt.list_indexAt a g.toArray k dd sl u T j (by simp_all) (by lia) (by simp_all) (λm hm d=> ?_)) ⟨A,K,?_⟩
   ·exact V m _ d (by simp)
   ·exact⟨.int j,H,I.kept λb o e=>e,⟨_,rfl⟩,q⟩
  ·cases e
 ·cases e
def He (l:Go Γ F X E k cf)(hm:sh m=k9) (T:(apos.endLine==k7.line)=k9) (hc:nC o=k9) (q:Ja x=k9) (P:PE X o (tD Γ E (M.eval F a))) (Z:PA X [x] (gT Γ E (M.Gg F es))):
 PE X (.Call (.Attribute o (zg (pN m)) apos) [x] [] k7) (tD Γ E (M.eval F (.da m a es))):=by
 cases m with
 | index=>
  refine PE.imp (oX PySem.F.plainAttrs_tuple PySem.F.slot_tuple_index PySem.F.type_tuple_index HS BJ P Z (bW hc _) (by rw [xa q];rfl) T (xa q) rfl) λU H Q y=> ?_
  obtain⟨G,Y,h,s,p⟩:=y
  refine Qa s.heap Ext.refl s p λS v1 h1 G1 H1 z K f g f1 e=> ?_
  split at e
  ·rename_i D
   obtain⟨xs,ex⟩:=Ah0.mp (D)
   obtain⟨b,I,rfl,r,z3⟩:=g.tup ex
   refine⟨⟨b,rfl,l.K▸r.pl⟩,?_⟩
   refine Wx s.heap z f e λC us h2 W H2 B d j A c=> ?_
   obtain⟨b',R,V,z2',z3'⟩:=au.ext (w:= .v (.tup xs)) d f.heap ⟨b,I,rfl,r,z3⟩
   cases V
   cases C with
   | nil=>exact c.elim
   | cons w wr=>
    cases wr with
    | cons _ _=>exact c.elim
    | nil=>
     obtain⟨u,rfl,J⟩:=A.one
     have c:=c
     obtain⟨ts,v,c⟩:=c.of
     obtain⟨t,O,c⟩:=c.of
     obtain⟨n,N,c⟩:=c.of
     cases J.str O
     rw [ex,Ah3]at v
     cases Q2 v z3'
     split at c
     ·exact⟨b,cy t,n,ts.map cy,rfl,rfl,l.K▸fG.sq z2',sd t N,(aC.mk c B s.heap).v j.heap rfl⟩
     ·exact c.elim
  ·exact e.elim
 | ck=>
  refine PE.imp (oX PySem.F.plainAttrs_list PySem.F.slot_list_index PySem.F.type_list_index tZ (IC l.K l.room) P Z (bW hc _) (by rw [xa q];rfl) T (xa q) rfl) λU H Q y=> ?_
  obtain⟨G,Y,h,s,p⟩:=y
  refine Qa s.heap Ext.refl s p λS v1 h1 G1 H1 z K f g f1 e=> ?_
  split at e
  ·rename_i D
   obtain⟨ys,L⟩:=Ah0.mp (D)
   obtain⟨b,I,rfl,r,z3⟩:=au.lst f.heap g L
   refine⟨⟨b,I,rfl,l.K▸r⟩,?_⟩
   refine Wx s.heap z f e λC us h2 W H2 B d j A c=> ?_
   cases C with
   | nil=>exact c.elim
   | cons w wr=>
    cases wr with
    | cons _ _=>exact c.elim
    | nil=>
     obtain⟨u,rfl,J⟩:=A.one
     have c:=c
     obtain⟨n,v,c⟩:=c.of
     exact⟨W,h2,S,w,u,n,rfl,j.heap,g.ext d f.heap,J,v,(aC.mk c B s.heap).v j.heap rfl⟩
  ·exact e.elim
 | count=>
  refine PE.imp (oX PySem.F.plainAttrs_list PySem.F.slot_list_count PySem.F.type_list_count tZ Hg P Z (bW hc _) (by rw [xa q];rfl) T (xa q) rfl) λU H Q y=> ?_
  obtain⟨G,Y,h,s,p⟩:=y
  rw [M.eval]at p
  refine Qa s.heap Ext.refl s p λS v1 h1 G1 H1 z K f g f1 e=> ?_
  split at e
  ·rename_i D
   obtain⟨ys,L⟩:=Ah0.mp (D)
   obtain⟨b,I,rfl,r,z3⟩:=au.lst f.heap g L
   refine⟨⟨b,I,rfl,l.K▸r⟩,?_⟩
   refine Wx s.heap z f e λC us h2 W H2 B d j A c=> ?_
   cases C with
   | nil=>exact c.elim
   | cons w wr=>
    cases wr with
    | cons _ _=>exact c.elim
    | nil=>
     obtain⟨u,rfl,J⟩:=A.one
     have c:=c
     obtain⟨is,v,c⟩:=c.of
     obtain⟨i,O,c⟩:=c.of
     obtain⟨ys2,N,q4⟩:=Ad2.mp v
     obtain⟨b',R,V,y2,y3⟩:=au.lst j.heap (g.ext d f.heap) N
     cases V
     cases Xf q4 y3
     cases J.int O
     split at c
     ·exact⟨b,i,is,rfl,rfl,l.K▸y2,(aC.mk c B s.heap).v j.heap rfl⟩
     ·exact c.elim
  ·exact e.elim
def vd: "set" ∈bN:=by decide
def vA: "len" ∈bN:=by decide
def Cg (is):oT is=M.Ph [] is:=by
 have j: ∀ n a rest,is=a++rest->a.length=n->(firstMet (λi=>is.getD i 0) n).length+M.Ph a rest=(firstMet (λi=>is.getD i 0) is.length).length:=by
  intro n a rest
  induction rest generalizing n a with
  | nil=>
   intro b c
   rw [Af1]at b
   rw [M.Ph,Nat.add_zero,←c,b]
  | cons x l h=>
   intro b c
   have g:is.getD n 0=x:=by
    rw [Ab5,b,Af6 (by lia),c,Nat.sub_self]
    rfl
   have d:=h (n+1) (a++ [x]) (by simp_all) (by simp [c])
   rw [← d,M.Ph,firstMet_succ,g]
   have k:(Aa0 n).map (λi=>is.getD i 0)=a:=by
    refine Am3 (by simp [c]) λi m e=> ?_
    rw [Ai9,Aj1,Ab5,b,Af9 e,Aa4 e]
    rfl
   have f:=firstMet_any (λi=>is.getD i 0) n x
   rw [k]at f
   rw [PyProof.Rows.step_length,f]
   split<;>lia
 have:=j 0 [] is rfl rfl
 rw [show (firstMet (λi=>is.getD i 0) 0).length=0 from rfl,Ag2]at this
 exact this.symm
def Ia (e:Go Γ F X E k cf)(y:bA cf.sc "len" g=true) (m:bA cf.sc "set" g2=true) (o:Ja x=true) (v:PE X x (tD Γ E (M.eval F a))):PE X (.Call g [.Call g2 [x] [] pos2] [] pos) (tD Γ E (M.eval F (.cE a))):=by
 obtain⟨p,rfl,A,B⟩:=Zb y
 obtain⟨z,rfl,j,i⟩:=Zb m
 have d:=jv (p:=z) (pos:=pos2) AZ (e.gl _ j) (e.blt _ vd) (by decide +kernel) (Xb v wg (xa o)) (Wk vd) i (xa o) rfl
 refine PE.imp (xh EW (e.gl _ A) (e.blt _ vA) (by decide +kernel) (Xb d wg rfl) (Wk vA) B rfl rfl) λU H Q q=> ?_
 obtain⟨G,Y,h,s,p⟩:=q
 rw [M.eval]at p
 refine Qa s.heap Ext.refl s p λN V R I T t D J w W f=> ?_
 obtain⟨is,K,f⟩:=f.of
 obtain⟨O,u,r⟩:=Ad2.mp K
 obtain⟨l,P,rfl,C,L⟩:=w.tup u
 cases Xf r L
 split at f
 ·rename_i c
  refine⟨l,is,rfl,e.calm,c,e.K▸C.sq,λb S n=>⟨b,S,oT is,rfl,wb,?_,?_⟩⟩
  ·exact An8 (firstMet_length_le _ _) c
  ·rw [Cg]
   exact f I _ (t.trans s.heap (WC _ n)) (J.heap.new _ n) (.int _) rfl trivial
 ·exact f.elim
theorem WU: ∀xs ys:List Int,M.KU xs ys=HT.lexLt xs ys
 | [],[]=>rfl
 | [],_::_=>rfl
 | _::_,[]=>rfl
 | x::xs,y::ys=>by rw [M.KU,HT.cS,WU xs ys]
def IW (g:Go Γ F X E k cf) (C:Ze y=k9) (t:PE X x (tD Γ E (M.eval F a))) (w:PE X y (tD Γ E (M.eval F b))):PE X (.Compare x [.Lt] [y] pos) (tD Γ E (M.eval F (.hH a b))):=by
 refine PE.imp (jW (uX (by have:=g.room.un;lia)) t w (zk C)) λU H Q m=> ?_
 obtain⟨G,Y,h,s,p⟩:=m
 refine Qa s.heap Ext.refl s p λW v1 h1 G1 H1 o P j A f1 L=> ?_
 refine Qa s.heap o j L λw2 V h2 I T v f d u R c=> ?_
 obtain⟨is,N,c⟩:=c.of
 obtain⟨K,r,c⟩:=c.of
 obtain⟨Z,q,a2⟩:=Ad2.mp N
 obtain⟨S,z,B⟩:=Ad2.mp r
 obtain⟨l,vs,rfl,J,O⟩:=au.lst d.heap (A.ext f j.heap) q
 obtain⟨l2,n,rfl,e,i⟩:=au.lst d.heap u z
 cases Xf a2 O
 cases Xf B i
 split at c
 ·rename_i D
  refine⟨l,l2,is,K,rfl,rfl,g.K▸J,g.K▸e,D,?_⟩
  rw [← WU]
  exact c I _ v d.heap _ rfl trivial
 ·exact c.elim
def HV (c) [Decidable c] (v) (h):((if c then M.aU (.bl v) h else M.R.fail).bind λx h=>M.R.of h (M.KW h x))=if c then M.R.ok v h else M.R.fail:=by
 split<;>rfl
def CU (g:Go Γ F X E k cf) (C:Ze y=k9) (t:PE X x (tD Γ E (M.eval F a))) (w:PE X y (tD Γ E (M.eval F b))):PT X (.Compare x [.Lt] [y] pos) (cD Γ E (M.Gs F (.hH a b))):=by
 refine PT.imp (jY (uX (by have:=g.room.un;lia)) t w (zk C)) λU H Q m=> ?_
 obtain⟨G,Y,h,s,p⟩:=m
 unfold M.Gs at p
 rw [M.eval]at p
 have J:=by
  simpa only [We,M.R.aa,HV]using p
 refine Qa s.heap Ext.refl s J λZ v1 h1 G1 H1 o R j A f1 N=> ?_
 refine Qa s.heap o j N λw2 W h2 I V v f d u S c=> ?_
 obtain⟨is,O,c⟩:=c.of
 obtain⟨L,r,c⟩:=c.of
 obtain⟨xs,q,a2⟩:=Ad2.mp O
 obtain⟨T,z,B⟩:=Ad2.mp r
 obtain⟨l,vs,rfl,K,P⟩:=au.lst d.heap (A.ext f j.heap) q
 obtain⟨l2,n,rfl,e,i⟩:=au.lst d.heap u z
 cases Xf a2 P
 cases Xf B i
 split at c
 ·rename_i D
  refine⟨l,l2,is,L,rfl,rfl,g.K▸K,g.K▸e,D,?_⟩
  rw [← WU]
  exact⟨_,rfl,c I _ v d.heap⟩
 ·exact c.elim
def yG (e:Go Γ F X E k cf)(i:t≠ .av) (C:bA cf.sc "isinstance" g=true) (B:bA cf.sc (fQ t) y=true) (l:Ja x=true) (r:PE X x (tD Γ E (M.eval F a))):PE X (.Call g [x,y] [] pos) (tD Γ E (M.eval F (.dY a t))):=by
 obtain⟨p,rfl,K,L⟩:=Zb C
 obtain⟨q,rfl,u,I⟩:=Zb B
 have d:fQ t∈bN:=by cases t<;>first | exact absurd rfl i | decide
 have z:bootBuiltins (zg (fQ t))=y0 (.type (fQ t)):=by cases t<;>first | exact absurd rfl i | decide +kernel
 have bi:bootBuiltins _=y0 (.builtin "isinstance"):=boot_isinstance
 have b: "isinstance" ∈bN:=by decide
 have f:PE X (.Name (zg (fQ t)) q) (tC (.ty (fQ t))):=uE (e.gl _ u) (e.blt _ d) z rfl (Wk d) I
 refine PE.imp (xh (IK e.K) (e.gl _ K) (e.blt _ b) bi (Xb r (Xb f wg) (xa l)) (Wk b) L (xa l) rfl) λU H Q n=> ?_
 obtain⟨G,Y,h,s,p⟩:=n
 rw [M.eval]at p
 refine Qa s.heap Ext.refl s p λA O J N R o P m w S j=> ?_
 obtain⟨c,D,j⟩:=j.of
 exact⟨N,J,A,O,t,c,rfl,i,m.heap,w,D,ay.val j o m.heap (v:= .bl c) rfl trivial⟩
theorem uZ (a:Go Γ F X E k cf): ∀ {ts}{zs},WA cf ts zs=k9->PA X zs (λ_ H Q=>Q (ts.map λt=> .ref (Γ.ca t)) H)/\(∀ t∈ts,t∈Γ.own)/\ts.length=zs.length
 | [],[],_=>⟨wg,λ_ h=>absurd h (by simp),rfl⟩
 | [],_::_,h=>by simp [WA]at h
 | _::_,[],h=>by simp [WA]at h
 | t::ts,z::zs,h=>by
  unfold WA at h
  rw [Aa7,Aa7]at h
  obtain⟨⟨g,c⟩,j⟩:=h
  obtain⟨p,rfl,d,e⟩:=Zb g
  obtain⟨f,i,l⟩:=uZ a j
  refine⟨?_,λu b=> ?_,congrArg (· +1) l⟩
  ·exact Xb (zY (v:= .ref (Γ.ca t)) (a.gl _ d) (a.cls t c) rfl e) f
  ·rcases Ab2.mp b with rfl | b
   ·rw [← a.ow];exact Aj7.mp c
   ·exact i u b
theorem JS {c:String}(a:fb Γ c): ∀ {ts:List String},(∀ t∈ts,t∈Γ.own)->PySem.W.kitAny Γ.K (.ref (Γ.ca c)) ((ts.map Γ.ca).map Value.ref)=y0 (ts.any (M.Kz Γ.cl 8 c).contains)
 | [],_=>rfl
 | t::ts,h=>by
  rw [Aa9,Aa9,PySem.W.kitAny,a.own t (h t Aa3),Af2]
  cases e:(M.Kz Γ.cl 8 c).contains t with
  | true=>rfl
  | false=>
   exact JS a λu b=>h u (Aa1 _ b)
def uU {b:Bool}(r:au Γ G H w v) (e:M.bY cl w ts=y0 b): ∃c x i,v= .ref x/\H x=y0 (fA x (Γ.ca c) i)/\fb Γ c/\b=ts.any (M.Kz cl 8 c).contains:=by
 unfold M.bY at e
 split at e
 ·rename_i c
  obtain⟨_,x,a,_,h,g⟩ | ⟨z,_⟩:=r
  ·exact⟨c,x,u0,a,h,g,(Ae4.inj e).symm⟩
  ·exact absurd rfl z
 ·rename_i c f d
  obtain⟨x,j,u,a,n,h,g,m,k,o,l⟩:=r
  exact⟨c,x,y0 j,a,g,k,(Ae4.inj e).symm⟩
 ·cases e
def IL (d:Go Γ F X E k cf)(l:t= "ValueError" \/cf.own.contains t=true) (K:bA cf.sc "isinstance" g=true) (J:bA cf.sc t y=true) (f:Ja x=true) (D:PE X x (tD Γ E (M.eval F a))):
 PE X (.Call g [x,y] [] pos) (tD Γ E (M.eval F (.bY a k9 [t]))):=by
 obtain⟨p,rfl,N,R⟩:=Zb K
 obtain⟨q,rfl,u,w⟩:=Zb J
 have bi:=boot_isinstance
 have j: "isinstance" ∈bN:=by decide
 have fin: ∀ v,PE X _ (tC v)->(∀ c,fb Γ c-> ∀x b,b= [t].any (M.Kz Γ.cl 8 c).contains-> ∀e H Q,H x=y0 _->Q (.bl b) H->sm X.K [.ref x,v] H Q) →
  PE X (.Call (.Name (zg "isinstance") p) [x,.Name (zg t) q] [] pos) (tD Γ E (M.eval F (.bY a true [t]))):=fun v P n=>by
  refine PE.imp (xh Z0 (d.gl _ N) (d.blt _ j) bi (Xb D (Xb P wg) (xa f)) (Wk j) R (xa f) rfl) λU H Q B=> ?_
  obtain⟨G,Y,h,s,p⟩:=B
  refine Qa s.heap Ext.refl s p λw1 v1 h1 G1 S C Z T I f1 o=> ?_
  obtain⟨b,L,o⟩:=o.of
  obtain⟨c,V,e,rfl,W,O,A⟩:=uU I L
  rw [d.cl]at A
  exact n c O V b A e S Q W (ay.val o C T.heap rfl trivial)
 by_cases r:cf.own.contains t=k9
 ·refine fin (.ref (Γ.ca t)) (zY (d.gl _ u) (d.cls t r) rfl w) λc i x b m e H Q f q=> ?_
  have n:=i.own t (by rw [← d.ow];exact Aj7.mp r)
  refine⟨x,Γ.ca c,e,b,d.K▸i.k,f,.inl ⟨Γ.ca t,rfl,?_⟩,q⟩
  rw [d.K,n,m]
  simp
 ·have l:=l.elim id λz=>absurd z r
  subst l
  have iZ: "ValueError" ∈bN:=by decide
  refine fin (.ty "ValueError") (uE (d.gl _ u) (d.blt _ iZ) HU rfl (Wk iZ) w) fun c i x b m e H Q f q=> ?_
  refine⟨x,Γ.ca c,e,b,d.K▸i.k,f,.inr (.inl ⟨"ValueError",rfl,?_⟩),q⟩
  rw [d.K,i.ve,m]
  simp
def yQ (d:Go Γ F X E k cf)(C:zs.length<=1000) (D:bA cf.sc "isinstance" g=true) (z:WA cf ts zs=true) (j:Ja x=true) (v:PE X x (tD Γ E (M.eval F a))):
 PE X (.Call g [x,.Tuple zs n p2] [] pos) (tD Γ E (M.eval F (.bY a y9 ts))):=by
 obtain⟨p,rfl,L,N⟩:=Zb D
 have bi:=boot_isinstance
 have e: "isinstance" ∈bN:=by decide
 obtain⟨J,K,r⟩:=uZ d z
 refine PE.imp (xh Z0 (d.gl _ L) (d.blt _ e) bi (Xb v (Xb (pK J) wg) (xa j)) (Wk e) N (xa j) rfl) λU H Q q=> ?_
 obtain⟨G,Y,h,s,p⟩:=q
 refine Qa s.heap Ext.refl s p λS Z T W V u R O y f1 i=> ?_
 obtain⟨b,I,i⟩:=i.of
 obtain⟨c,P,A,rfl,o,m,l⟩:=uU y I
 rw [d.cl]at l
 refine⟨?_,λt f=> ?_⟩
 ·rw [Aa,r];exact Ah4 (zm C)
 have B:=O.heap.fj (.tup (ts.map λt=> .ref (Γ.ca t))) f
 have w:=u.trans s.heap (wh (.tup (ts.map λt=> .ref (Γ.ca t))) f)
 refine⟨P,Γ.ca c,A,b,d.K▸m.k,?_,.inr (.inr ⟨t,ts.map Γ.ca,rfl,?_,?_⟩),ay.val i w B rfl trivial⟩
 ·rw [ja (Wa o f)];exact o
 ·rw [wb,Ac6];rfl
 ·rw [d.K,JS m K,l]
theorem ae.aX (z:ae Γ G H ds vs) (e:M.aX ds i=y0 d): ∃v,L2.aX vs i=y0 v/\aD Γ G H d v:=by
 unfold M.aX at e
 unfold L2.aX
 rw [z.length]at e
 cases q:M.d8 vs.length i with
 | none=>rw [q]at e;cases e
 | some j=>
  rw [q]at e
  obtain⟨v,c,a⟩:=z.get (e)
  refine⟨v,?_,a⟩
  have b:L2.d8 vs.length i=y0 j:=q
  rw [b]
  exact c
def Bp (a:qh y=k9):vw y:=by
 intro o i
 cases y<;>first | rfl | (simp [qh]at a)
def yR (t:Go Γ F X E k cf) (J:qh y=k9) (A:PE X x (tD Γ E (M.eval F a))) (D:PE X y (tD Γ E (M.eval F b))):PE X (.Subscript x y pos) (tD Γ E (M.eval F (.ix a b))):=by
 refine PE.imp (LJ EO A D (Bp J)) λU H Q w=> ?_
 obtain⟨G,Y,h,s,p⟩:=w
 refine Qa s.heap Ext.refl s p λI v1 W G1 H1 z P u g f1 N=> ?_
 refine Qa s.heap z u N λw2 V L Z T C m o B R j=> ?_
 obtain⟨d,q,j⟩:=j.of
 have g:=g.ext m u.heap
 unfold M.dU at q
 split at q
 ·rename_i i K
  cases B.int K
  ·cases f:I.seq? L with
   | none=>rw [f]at q;cases q
   | some S=>
    rw [f]at q
    obtain⟨l,r,rfl,c,O⟩:=g.seq o.heap f
    obtain⟨v,e,rd⟩:=O.aX (q)
    have n:=ay.val j C o.heap rd trivial
    obtain c | c:=c
    ·exact .inl ⟨l,r,i,v,rfl,rfl,t.K▸c,e,n⟩
    ·exact .inr (.inl ⟨l,r,i,v,rfl,rfl,t.K▸c,e,n⟩)
 ·cases q
end
section
variable {Γ:Ge}{F:M.Fx}{X:Cx}{E:XK}{k:Nat}{cf:Cf}{a b c:M.E}{x y z:Expr}{pos p2:Pos}
def yb (xs:List α) (lo hi):M.cut xs lo hi=(xs.drop (HT.bh xs.length 0 lo)).take (HT.bh xs.length xs.length hi-HT.bh xs.length 0 lo):=by
 unfold M.cut
 have e: ∀d o,M.bh xs.length d o=HT.bh xs.length d o:=λd o=>by cases o<;>rfl
 rw [e,e]
theorem ae.cut (z:ae Γ G H ds vs) (lo hi):ae Γ G H (M.cut ds lo hi) (lX vs lo hi):=by
 rw [yb]
 rw [z.length]
 exact(z.drop _).take _
def oE {d f:Option Int}(n:ai Γ G0 h0 H0) (e:Ext G0 H0 G H) (j:ai Γ G h H) (r:au Γ G H w v)
 (p:ay Γ E G0 H0 (M.gv w d f h) λw _ G' H'=> ∀v,au Γ G' H' w v->aG Y U H0 w v->Q v H'):(oh Γ.K v d f H Q\/pj Γ.K v d f H Q)\/om Γ.K v d f H Q:=by
 unfold M.gv at p
 ·split at p
  ·rename_i k q
   obtain⟨l,b,rfl,i,g⟩:=r.tup q
   by_cases c:HT.bh b.length 0 d=0/\HT.bh b.length b.length f=b.length
   ·have o:M.cut k d f=k:=by
     rw [yb,g.length,c.1,c.2,List.drop_zero,Nat.sub_zero,←g.length,Ao4]
    rw [o]at p
    exact .inr ⟨l,b,rfl,i.sq,c.1,c.2,p G H e j _ ⟨l,b,rfl,i,g⟩ trivial⟩
   ·exact .inl (.inr ⟨l,b,rfl,i.sq,c,λa m=>aC.tup (aC.mk p e n) j (g.cut d f) a m⟩)
  ·split at p
   ·rename_i k q
    obtain⟨l,b,rfl,i,g⟩:=r.lst j q
    exact .inl <| .inl ⟨l,b,rfl,i,λa m=>aC.own (aC.mk p e n) j (g.cut d f) a m⟩
   ·exact p.elim
def Hw (K:Aa5):V->Option Int->Option Int->Hp->VK->Prop:=λx lo hi H Q=>(oh K x lo hi H Q\/pj K x lo hi H Q)\/om K x lo hi H Q
def nY:g0 X (Hw X.K):=(gE.or CP).or Du
def Io (I:Go Γ F X E k cf){e g:M.E}(t:PE X x (tD Γ E (M.eval F a))) (B:PE X l (tD Γ E (M.eval F e))) (C:PE X u (tD Γ E (M.eval F g))):PE X (.Subscript x (.Slice (y0 l) (y0 u) u0 p2) pos) (tD Γ E (M.eval F (.sl a e g))):=by
 refine PE.imp (JN nY t (ZN B) (ZN C)) λU H Q n=> ?_
 obtain⟨G,Y,h,s,p⟩:=n
 refine Qa s.heap Ext.refl s p λR v1 V G1 H1 q K m z f1 J=> ?_
 refine Qa s.heap q m J λw2 P Z W N w d f v L p2=> ?_
 obtain⟨i,A,p2⟩:=p2.of
 refine⟨i,v.int A,?_⟩
 refine Qa s.heap w f p2 λw3 v3 h3 O T o c y D S b=> ?_
 obtain⟨j,r,b⟩:=b.of
 exact⟨j,D.int r,I.K▸oE s.heap o y.heap ((z.ext d m.heap).ext c f.heap) b⟩
def ES (t:Go Γ F X E k cf){c:M.E}(g:PE X x (tD Γ E (M.eval F a))) (r:PE X l (tD Γ E (M.eval F c))):PE X (.Subscript x (.Slice (y0 l) u0 u0 p2) pos) (tD Γ E (M.eval F (.fJ a c))):=by
 refine PE.imp (JN nY g (ZN r) rx) λU H Q e=> ?_
 obtain⟨G,Y,h,s,p⟩:=e
 refine Qa s.heap Ext.refl s p λA K B J I f v d n L u=> ?_
 refine Qa s.heap f d u λN z D C y m b o j w p2=> ?_
 obtain⟨i,q,p2⟩:=p2.of
 exact⟨i,j.int q,t.K▸oE s.heap m o.heap (n.ext b d.heap) p2⟩
def Iy (q:Go Γ F X E k cf)(f:PE X x (tD Γ E (M.eval F a))) (o:PE X u (tD Γ E (M.eval F hi))):PE X (.Subscript x (.Slice u0 (y0 u) u0 p2) pos) (tD Γ E (M.eval F (.iy a hi))):=by
 refine PE.imp (JN nY f rx (ZN o)) λU H Q d=> ?_
 obtain⟨G,Y,h,s,p⟩:=d
 refine Qa s.heap Ext.refl s p λz J A I D e t c l K r=> ?_
 refine Qa s.heap e c r λL y C B w j b m g v p2=> ?_
 obtain⟨i,n,p2⟩:=p2.of
 exact⟨i,g.int n,q.K▸oE s.heap j m.heap (l.ext b c.heap) p2⟩
def DU {st:Expr}(h:ng st=k9): ∃k p q,st= .UnaryOp .USub (.Constant (.int 1) k p) q:=by
 unfold ng at h
 split at h
 ·exact⟨_,_,_,rfl⟩
 ·cases h
def HG (n:Go Γ F X E k cf){st:Expr}(b:ng st=k9) (i:PE X x (tD Γ E (M.eval F a))):PE X (.Subscript x (.Slice u0 u0 (y0 st) p2) pos) (tD Γ E (M.eval F (.rev a))):=by
 obtain⟨w,I,y,rfl⟩:=DU b
 refine PE.imp (Hb i (pA ub sr)) λU H Q f=> ?_
 obtain⟨G,Y,h,s,p⟩:=f
 refine Qa s.heap Ext.refl s p λz D A C B g u e j J c=> ?_
 obtain⟨v,q,c⟩:=c.of
 obtain⟨l,m,rfl,o,t⟩:=j.lst e.heap q
 exact⟨1,rfl,rfl,l,m,rfl,n.K▸o,λr d=>aC.own (aC.mk c g s.heap) e.heap t.reverse r d⟩
def Gh.cell (G:Gh) (a:Addr):Gh:= { G with aV:=λr=>if r=G.n then a else G.aV r,n:=G.n+1 }
def QZ (a):Mon G H (G.cell a) H:=⟨λ_ _ _ z=>z,Ah7 _,λr b=>by show(if r=G.n then a else G.aV r)=_;rw [if_neg (by lia)],λ_ z=>z⟩
def w5 {a:Addr}{c:M.Cell}(d:ai Γ G h H) (m: ¬G.fz a) (l:dX G a) (z:bx Γ G H a c):ai Γ (G.cell a) (h++ [c]) H where
 len:=by rw [Ab0,d.len];rfl
 any:=λr i q=>by
  show ¬G.fz (if r=G.n then a else G.aV r)/\bx Γ (G.cell a) H (if r=G.n then a else G.aV r) i
  by_cases hn:r=G.n
  ·rw [if_pos hn]
   rw [hn,←d.len,Af6 (Aa6 _),Nat.sub_self]at q
   cases q
   exact⟨m,z.mon (QZ a) λ_ e=>e⟩
  ·rw [if_neg hn]
   have g:r<G.n:=by
    have:=(Ac0.mp q).1
    rw [Ab0,d.len]at this
    simp at this
    omega
   rw [Af9 (by rw [d.len];exact g)]at q
   exact⟨(d.any r i q).1,(d.any r i q).2.mon (QZ a) λ_ e=>e⟩
 inj:=λr s k j e=>by
  have k:r<G.n+1:=k
  have j:s<G.n+1:=j
  have e:(if r=G.n then a else G.aV r)=(if s=G.n then a else G.aV s):=e
  by_cases f:r=G.n
  ·by_cases b:s=G.n
   ·omega
   ·rw [if_pos f,if_neg b]at e
    exact absurd e.symm (l s (by omega))
  ·by_cases b:s=G.n
   ·rw [if_neg f,if_pos b]at e
    exact absurd e (l r (by omega))
   ·rw [if_neg f,if_neg b]at e
    exact d.inj r s (by omega) (by omega) e
 live:=d.live
def WQ {a:Addr}(b:ai Γ G h H) (f: ¬G.fz a) (d:dX G a) (e:H a=y0 (.lst vs)) (z:ae Γ G H xs vs) (c:M.Gd xs=k9):ai Γ (G.cell a) (h++ [.lst xs]) H:=w5 b f d ⟨c,vs,e,z⟩
def zK {a:Addr}(e:Ext G0 H0 G H) (d:H0 a=u0):Ext G0 H0 (G.cell a) H where
 keep:=e.keep
 le:=Ac e.le (Ah7 _)
 aV:=λr c=>by show(if r=G.n then a else G.aV r)=_;rw [if_neg (by have:=e.le;omega)];exact e.aV r c
 new:=λr f b=>by
  have b:r<G.n+1:=b
  show H0 (if r=G.n then a else G.aV r)=u0
  by_cases hn:r=G.n
  ·rw [if_pos hn];exact d
  ·rw [if_neg hn];exact e.new r f (by omega)
 fz:=e.fz
 old:=e.old
 cells:=e.cells
def Bg:PE X (.Dict [] [] pos) (tD Γ E (M.eval F .dt)):=by
 refine PE.imp Ei λU H Q d=> ?_
 obtain⟨G,Y,h,s,p⟩:=d
 intro a b
 have p:=p
 have e:Ext G H G (aI H a (dI [])):=WC _ b
 have c:=s.heap.new (dI []) b
 refine ay.val p (zK e b) (w5 c (λz=>by obtain⟨o,q⟩:=s.heap.live a z;rw [b]at q;cases q) (s.heap.ll b) wb) ?_ trivial
 show h.length<G.n+1/\V.ref a= .ref (if h.length=G.n then a else G.aV h.length)
 rw [s.heap.len,if_pos rfl]
 exact⟨Ag7 _,rfl⟩
def j5 (e:M.Pf h o=y0 (r,ks)):o=y0 (.v (.ref r))/\h[r]? =y0 (.bZ ks):=by
 unfold M.Pf at e
 split at e
 ·split at e
  ·rename_i q
   cases e
   exact⟨rfl,q⟩
  ·cases e
 ·cases e
def xr (s:ax Γ G Y h U H)(e:M.Pf h (M.Gj Y i)=y0 (r,ks)):U[i]? =y0 (y0 (.ref (G.aV r)))/\H (G.aV r)=y0 (dI ks):=by
 obtain⟨b,f⟩:=j5 e
 obtain⟨v,a,d⟩:=s.slot i _ b
 obtain⟨g,c⟩:=(d)
 subst c
 exact⟨a,(s.heap.any r _ f).2⟩
def y6 (neg:Bool):R2:=λx y H Q=> ∃k a ks,x= .int k/\y= .ref a/\H a=y0 (dI ks)/\Q (.bl (if neg then !ks.contains k else ks.contains k)) H
def vV (neg):bL X (compareOp (nk neg)) (y6 neg):=by
 intro d j U H x y v u Q I c g ⟨k,a,i,ex,f,e,q⟩
 subst ex f
 cases g
 cases neg with
 | false=>exact L9 I e c λh b=>⟨.bl _,H,b,rfl,q⟩
 | true=>exact DV I e c λh b=>⟨.bl _,H,b,rfl,q⟩
def Ho:V->V->V->Hp->(Hp->Prop)->Prop:=λo i v H Q=> ∃k a ks,i= .int k/\o= .ref a/\v= .bl k9/\H a=y0 (dI ks)/\ks.length<sizeLine/\Q (aI H a (dI (M.K0 ks k)))
def CQ:pq X Ho:=by
 intro b p U H o i v r n u Q I e l rv ⟨k,a,m,g,j,h,f,d,q⟩
 subst g j h
 cases e
 cases rv
 exact HC I f l d λs c=>⟨_,c,q⟩
def BZ (m:PE X x (tD Γ E (M.eval F a))):PE X x (tD Γ E (M.eval F (.share a))):=by
 refine PE.imp m λU H Q j=> ?_
 obtain⟨G,Y,h,s,p⟩:=j
 refine Qa s.heap Ext.refl s p λo I e g D k A i n z b=> ?_
 cases o with
 | own c=>
  obtain⟨l,C,rfl,w,y,u,t⟩:=n
  obtain⟨B,r,q⟩:=z
  cases r
  have b:ay Γ E G H (if M.Gd c=k9 then M.aU _ (e++ [.lst c])else .fail) _:=b
  by_cases f:M.Gd c=k9
  rotate_left
  ·rw [if_neg f]at b;exact b.elim
  rw [if_pos f]at b
  refine ay.val b (zK k q) (WQ i.heap w y u t f) ?_ trivial
  show e.length<g.n+1/\V.ref l= .ref (if e.length=g.n then l else g.aV e.length)
  rw [i.heap.len,if_pos rfl]
  exact⟨Ag7 _,rfl⟩
 | v d=>exact b.elim
 | bor c=>exact b.elim
end
structure Js (Γ:Ge) (J:It) (ds:List M.D) (C:Gh->Hp->Prop):Prop where
 go: ∀i G H,C G H->i<ds.length->J.go i H
 eU: ∀i G H x H',C G H->i<ds.length->J.eU i H x H'-> ∃G',Ext G H G' H'/\(∀ h,ai Γ G h H->ai Γ G' h H')/\ ∃d,ds[i]? =y0 d/\aD Γ G' H' d x
 stop: ∀i G H,C G H->ds.length<=i->i<=ds.length->J.stop i H
 keep: ∀G H G' H' h,C G H->Ext G H G' H'->ai Γ G h H->C G' H'
noncomputable def xi (Y:M.Sl) (U:St) (H:Hp):Hp:=λa=>open Classical in if ∃(i:Nat) (xs:List M.D),M.Gj Y i=y0 (.own xs)/\U[i]? =y0 (y0 (.ref a))then u0 else H a
def fh (a:Ge) (E:XK) (b:Bool) (m:M.Sl->M.AH->M.R (List M.D)):TI:=λU H R=> ∃G Y h,ax a G Y h U H/\ay a E G H (m Y h) λds _ G' H'=> ∀J C,Js a J ds C->C G' H'->(b=k9->C G' (xi Y U H'))->R J H'
def PI.imp (h:PI X tg e t) (k: ∀U H R,t' U H R->t U H R):PI X tg e t':=λa s U H R I q=>h a s U H R I (k _ _ _ q)
section
variable {Γ:Ge}{F:M.Fx}{X:Cx}{E:XK}{k:Nat}{cf:Cf}{a b c:M.E}{x y z tg:Expr}{pos p2:Pos}{lp:Bool}
def km (b:Ge) (G:Gh) (H:Hp) (l:Addr) (a:List V):Prop:=(Rd H l (.lst a)/\dX G l)\/pX b l a
def CL (a:Ge) (c:List M.D) (l:Addr) (b:List V) (G:Gh) (H:Hp):Prop:=km a G H l b/\ae a G H c b
def km.sq (z:km Γ G H l vs):a8 Γ.K H l vs:=z.elim (λz=> .inl z.1) .inr
def iS.mM (z:iS Γ G H l vs) (a:ai Γ G h H):km Γ G H l vs:=z.elim (λz=> .inl ⟨z.2,a.off z.1⟩) .inr
def CL.keep (z:CL Γ ds l vs G H) (e:Ext G H G' H') (c:ai Γ G h H):CL Γ ds l vs G' H':=by
 obtain⟨a,d⟩:=z
 refine⟨?_,d.ext e c⟩
 obtain⟨a,b⟩ | a:=a
 ·refine .inl ⟨e.rd a b,?_⟩
  obtain a | ⟨o,a⟩:=a
  ·exact e.off a b
  ·exact e.off a b
 ·exact .inr a
def CL.walk {K:Aa5}(d:K=Γ.K):Js Γ (kB K l) ds (CL Γ ds l vs) where
 go:=by
  rintro i G H ⟨b,c⟩ a
  obtain⟨v,e,_⟩:=c.get (Aa4 a)
  exact⟨vs,v,d▸b.sq,e⟩
 eU:=by
  rintro i G H x g ⟨b,c⟩ a ⟨e,y⟩
  subst e
  obtain⟨v,e,rd⟩:=c.get (Aa4 a)
  have:=y vs (d▸b.sq)
  rw [e]at this
  cases this
  exact⟨G,Ext.refl,λ_ q=>q,_,Aa4 a,rd⟩
 stop:=λi G H ⟨b,c⟩ a _=>⟨vs,d▸b.sq,by rw [← c.length];exact a⟩
 keep:=λG H j g h z e f=>z.keep e f
def CT (a:Ge) (c:List M.D) (l:Addr) (b:List V) (G:Gh) (H:Hp):Prop:=fG a G H l b/\ae a G H c b
def fG.mon (z:fG Γ G H l vs) (e:Mon G H G' H'):fG Γ G' H' l vs:=z.elim (λz=> .inl ⟨e.fz l z.1,e.keep l _ z.1 z.2⟩) λz=> .inr z
def CT.walk {K:Aa5}(d:K=Γ.K):Js Γ (kG K l) ds (CT Γ ds l vs) where
 go:=by
  rintro i G H ⟨b,c⟩ a
  obtain⟨v,e,_⟩:=c.get (Aa4 a)
  exact⟨vs,v,d▸b.sq,e⟩
 eU:=by
  rintro i G H x g ⟨b,c⟩ a ⟨e,y⟩
  subst e
  obtain⟨v,e,rd⟩:=c.get (Aa4 a)
  have:=y vs (d▸b.sq)
  rw [e]at this
  cases this
  exact⟨G,Ext.refl,λ_ q=>q,_,Aa4 a,rd⟩
 stop:=λi G H ⟨b,c⟩ a _=>⟨vs,d▸b.sq,by rw [← c.length];exact a⟩
 keep:=λG H j g h z e f=>⟨z.1.mon (e.mon f),z.2.ext e f⟩
def CL.fV {K:Aa5}(d:K=Γ.K):Js Γ (la K l vs.length) ds.reverse (CL Γ ds l vs) where
 go:=λi G H ⟨c,b⟩ a=>⟨vs,d▸c.sq,rfl,by rw [← b.length];simpa using a⟩
 eU:=by
  rintro i G H x j ⟨c,b⟩ a ⟨e,y⟩
  subst e
  obtain⟨v,e,rd⟩:=b.reverse.get (Aa4 a)
  have:=y vs (d▸c.sq)
  have g:i<vs.length:=by rw [← b.length];simpa using a
  rw [List.getElem?_reverse g,this]at e
  cases e
  exact⟨G,Ext.refl,λ_ q=>q,_,Aa4 a,rd⟩
 stop:=by
  rintro i G H ⟨c,b⟩ a k
  have m:=b.length
  rw [List.length_reverse]at a k
  show i=vs.length
  omega
 keep:=λG H n j h z e f=>z.keep e f
def xI {b:Int}:Js Γ (me b n) ((Aa0 n).map λ(i:Nat)=>M.D.int (b+(i:Int))) (λ_ _=>True) where
 go:=λi G H _ a=>show i<n by simpa using a
 eU:=λi G H x d _ a c=>by
  obtain⟨e,y⟩:=c
  subst e y
  have a:=by simpa using a
  exact⟨G,Ext.refl,λ_ q=>q,.int (b+i),by simp [a],rfl⟩
 stop:=λi G H _ a _=>show n<=i by simpa using a
 keep:=λ_ _ _ _ _ _ _ _=>trivial
def wC {z:M.Tx}:Js Γ (iG (cy z)) (M.iB z) (λ_ _=>True) where
 go:=λi G H _ a=>by
  have a:=by simpa [M.iB]using a
  exact⟨z[i],by simp [cy,a]⟩
 eU:=λi G H x g _ a d=>by
  obtain⟨e,c,b,f⟩:=d
  subst e f
  have a:=by simpa [M.iB]using a
  have b:=by simpa [cy]using b
  exact⟨G,Ext.refl,λ_ q=>q,.str [c],by simp [M.iB,b],rfl⟩
 stop:=λi G H _ a _=>by
  have a:=by simpa [M.iB]using a
  show(cy z).cps[i]? =u0
  simp [cy,a]
 keep:=λ_ _ _ _ _ _ _ _=>trivial
def Qj (a: ¬ ∃ i xs,M.Gj Y i=y0 (.own xs)/\U[i]? =y0 (y0 (.ref l))):xi Y U H l=H l:=by
 unfold xi
 rw [if_neg a]
def xp (s:ax Γ G Y h U H)(e:M.Gj Y i=y0 (.own xs)) (m:U[i]? =y0 (y0 (.ref l))): ¬G.fz l/\dX G l/\ ∃b,H l=y0 (.lst b)/\ae Γ G H xs b:=by
 obtain⟨v,c,a,b,d,g,f,j,k⟩:=s.slot i _ e
 rw [m]at c
 cases c
 cases d
 exact⟨g,f,b,j,k⟩
def Qu (s:ax Γ G Y h U H):Mon G H G (xi Y U H):=by
 refine⟨λa o z e=> ?_,Aa6 _,λ_ _=>rfl,λ_ z=>z⟩
 rw [Qj λ⟨i,d,b,c⟩=>(xp s b c).1 z]
 exact e
def BI (r:Go Γ F X E k cf) (I:PE X x (tD Γ E (M.eval F a))):PI X tg x (fh Γ E y9 (M.Gk F (.seq a))):=by
 refine PI.imp (oa I) λU H R D=> ?_
 obtain⟨G,Y,h,s,p⟩:=D
 refine Qa s.heap Ext.refl s p λK q L o e u N t m O c=> ?_
 have lst: ∀ {f},ay Γ E G H (.ok f L) (λf x B y=> ∀J C,Js Γ J f C->C B y->(y9=k9->C B (xi Y U y))->R J y)->(∃ l b,q= .ref l/\km Γ o e l b/\ae Γ o e f b) →
  (∃ a,q= .ref a/\(∃ w,a8 X.K e a w)/\R _ e)\/(∃ a,q= .ref a/\(∃ w,bI X.K e a w)/\R (kG X.K a) e)\/ ∃z,q= .str z/\R (iG z) e:=λ{f} p ⟨l,b,g,i,n⟩=>
  .inl ⟨l,g,⟨b,r.K▸i.sq⟩,p o e u t.heap _ _ (CL.walk r.K) ⟨i,n⟩ λz=>absurd z Ab9⟩
 cases K with
 | v d=>
  cases d with
  | tup f=>
   obtain⟨l,b,rfl,i,j⟩:=m
   exact .inr (.inl ⟨l,rfl,⟨b,r.K▸i.sq⟩,c o e u t.heap _ _ (CT.walk r.K) ⟨i,j⟩ λz=>absurd z Ab9⟩)
  | lst f=>obtain⟨l,b,g,i,j⟩:=m;exact lst c ⟨l,b,g,i.mM t.heap,j⟩
  | av=>exact c.elim
  | bl _=>exact c.elim
  | int _=>exact c.elim
  | str z=>
   cases (show q= .str (cy z)from m)
   exact .inr (.inr ⟨_,rfl,c o e u t.heap _ _ wC trivial λz=>absurd z Ab9⟩)
  | ref _=>exact c.elim
  | exc _ _=>exact c.elim
  | err _ _ _=>exact c.elim
 | own f=>obtain⟨l,b,g,_,j,n,A⟩:=m;exact lst c ⟨l,b,g,.inl ⟨.inl n,j⟩,A⟩
 | bor f=>obtain⟨l,b,g,j,n,A⟩:=m;exact lst c ⟨l,b,g,.inl ⟨n,j⟩,A⟩
def DY (n:Int):((Aa0 n.toNat).map λ(i:Nat)=>M.D.int (i:Int))=(Aa0 n.toNat).map λ(i:Nat)=>M.D.int (0+(i:Int)):=by
 congr 1;funext i;rw [Int.zero_add]
def uu: "range" ∈bN:=by decide
def QD (d:Go Γ F X E k cf)(m:bA cf.sc "range" g=true) (e:Ja x=true) (j:PE X x (tD Γ E (M.eval F a))):PI X tg (.Call g [x] [] pos) (fh Γ E lp (M.Gk F (.aw a))):=by
 obtain⟨p,rfl,o,z⟩:=Zb m
 refine PI.imp (Fe (d.gl _ o) (d.blt _ uu) (Xb j wg (xa e)) (xa e)) λU H R f=> ?_
 obtain⟨G,Y,h,s,p⟩:=f
 refine Qa s.heap Ext.refl s p λw A y t r i v u l B b=> ?_
 obtain⟨n,q,b⟩:=b.of
 split at b
 ·rename_i c
  rw [M.K4]at c
  cases l.int q
  rw [DY]at b
  exact⟨n,rfl,c.1,c.2,b t r i u.heap _ _ xI trivial λ_=>trivial⟩
 ·exact b.elim
def jD (j:Go Γ F X E k cf)(D:bA cf.sc "range" g=true) (l:Ja x=true) (e:Ja y=true) (v:PE X x (tD Γ E (M.eval F a))) (A:PE X y (tD Γ E (M.eval F b))):PI X tg (.Call g [x,y] [] pos) (fh Γ E lp (M.Gk F (.bS a b))):=by
 obtain⟨p,rfl,i,S⟩:=Zb D
 refine PI.imp (CA (j.gl _ i) (j.blt _ uu) (Xb v (Xb A wg (xa e)) (xa l)) (by rw [xa l,xa e];rfl) (xa e)) λU H R o=> ?_
 obtain⟨G,Y,h,s,p⟩:=o
 refine Qa s.heap Ext.refl s p λP W Q V T r L K B Z f=> ?_
 obtain⟨n,q,f⟩:=f.of
 refine Qa s.heap r K f λw2 O i I u z J C w N d=> ?_
 obtain⟨m,t,d⟩:=d.of
 split at d
 ·rename_i c
  rw [M.K4]at c
  cases B.int q
  cases w.int t
  exact⟨n,m,rfl,⟨c.1.1,c.1.2,c.2.1,c.2.2⟩,d I u z C.heap _ _ xI trivial λ_=>trivial⟩
 ·exact d.elim
def pC: "reversed" ∈bN:=by decide
def A5 (n:Go Γ F X E k cf)(O:bA cf.sc "reversed" g=true) (w:Ja x=true) (K:PE X x (tD Γ E (M.eval F a))):PI X tg (.Call g [x] [] pos) (fh Γ E false (M.Gk F (.rev a))):=by
 obtain⟨p,rfl,Q,T⟩:=Zb O
 refine PI.imp (nJ (n.gl _ Q) (n.blt _ pC) (Xb K wg (xa w)) (xa w)) λU H R D=> ?_
 obtain⟨G,Y,h,s,p⟩:=D
 refine Qa s.heap Ext.refl s p λL A P u j I S y q V b=> ?_
 have lst: ∀ {e},ay Γ E G H (.ok e.reverse P) (λe x B r=> ∀J C,Js Γ J e C->C B r->(y9=k9->C B (xi Y U r))->R J r)->(∃ l c,A= .ref l/\km Γ u j l c/\ae Γ u j e c) →
  ∃a N,[A]= [.ref a]/\a8 X.K j a N/\R _ j:=λ{e} p ⟨l,c,f,o,i⟩=>
  ⟨l,c,by rw [f],n.K▸o.sq,p u j I y.heap _ _ (CL.fV n.K) ⟨o,i⟩ λz=>absurd z Ab9⟩
 cases L with
 | v d=>
  cases d with
  | lst e=>obtain⟨l,c,f,o,m⟩:=q;exact lst b ⟨l,c,f,o.mM y.heap,m⟩
  | tup _=>exact b.elim
  | av=>exact b.elim
  | bl _=>exact b.elim
  | int _=>exact b.elim
  | str _=>exact b.elim
  | ref _=>exact b.elim
  | exc _ _=>exact b.elim
  | err _ _ _=>exact b.elim
 | own e=>obtain⟨l,c,f,_,m,i,t⟩:=q;exact lst b ⟨l,c,f,.inl ⟨.inl i,m⟩,t⟩
 | bor e=>obtain⟨l,c,f,m,i,t⟩:=q;exact lst b ⟨l,c,f,.inl ⟨i,m⟩,t⟩
end
section
variable {Γ:Ge}{F:M.Fx}{X:Cx}{E:XK}{k:Nat}{cf:Cf}
theorem Qd: ∀(Y) (i j) (w),M.Gj (M.GI Y i w) j=if j=i/\i<Y.length then y0 w else M.Gj Y j
 | [],i,j,w=>by simp
 | x::r,0,0,w=>by simp
 | x::r,0,j+1,w=>by simp
 | x::r,i+1,0,w=>by simp
 | x::r,i+1,j+1,w=>by
  have:=Qd r i j w
  simp only [M.GI,M.Gj,this,Ab7]
  by_cases h:j=i/\i<r.length
  ·rw [if_pos h,if_pos (by omega)]
  ·rw [if_neg h,if_neg (by omega)]
theorem Wi: ∀(Y) (i) (w),(M.GI Y i w).length=Y.length
 | [],_,_=>rfl
 | _::_,0,_=>rfl
 | _::r,i+1,w=>by simp [Wi r i w]
theorem Xn: ∀ {Y}{i}{w},M.Gj Y i=y0 w->i<Y.length
 | [],_,_,e=>by simp at e
 | _::_,0,_,_=>by simp
 | _::r,i+1,w,e=>by
  have:=Xn (by simpa using e)
  simp;omega
theorem ax.set (s:ax Γ G Y h U H)(r:au Γ G H w v)
 (o:gq w=k9-> ∀ j g,j≠i->M.Gj Y j=y0 g->gq g=k9-> ∀a,v= .ref a->U[j]? ≠y0 (y0 (.ref a))):ax Γ G (M.GI Y i w) h (U.set i (y0 v)) H where
 len:=by rw [Wi,Ae6];exact s.len
 slot:=λj g e=>by
  rw [Qd]at e
  by_cases c:j=i/\i<Y.length
  ·rw [if_pos c]at e
   cases e
   obtain⟨rfl,c⟩:=c
   exact⟨v,Ad5 (by rw [← s.len];exact c),r⟩
  ·rw [if_neg c]at e
   have y:=λz=>c ⟨z,by subst z;exact Xn e⟩
   obtain⟨B,A,C⟩:=s.slot j g e
   exact⟨B,by rw [Ad3 (Ne.symm y)];exact A,C⟩
 apart:=λp q x g a b f d n m=>by
  rw [Qd]at f d
  by_cases k:p=i/\i<Y.length
  ·rw [if_pos k]at f
   cases f
   obtain⟨rfl,k⟩:=k
   rw [if_neg (λz=>b z.1.symm)]at d
   rw [Ad5 (by rw [← s.len];exact k)]at m
   cases m
   rw [Ad3 b]
   exact o rfl q g (Ne.symm b) d n a rfl
  ·rw [if_neg k]at f
   have t:=λz=>k ⟨z,by subst z;exact Xn f⟩
   rw [Ad3 (Ne.symm t)]at m
   by_cases l:q=i/\i<Y.length
   ·rw [if_pos l]at d
    cases d
    obtain⟨rfl,l⟩:=l
    rw [Ad5 (by rw [← s.len];exact l)]
    intro z
    cases z
    exact o n p _ t f rfl a rfl m
   ·rw [if_neg l]at d
    have u:=λz=>l ⟨z,by subst z;exact Xn d⟩
    rw [Ad3 (Ne.symm u)]
    exact s.apart p q x g a b f d n m
 heap:=s.heap
def ax.dm (s:ax Γ G Y h U H)(r:aD Γ G H d v):ax Γ G (M.GI Y i (.v d)) h (U.set i (y0 v)) H:=s.set r λz=>by cases z
def g9:List Nat->List V->St->St
 | i::is,v::a,U=>g9 is a (U.set i (y0 v))
 | _,_,U=>U
theorem jI : ∀ {is}{ds}{a}{Y b}{U},M.aH is ds Y=y0 b->ae Γ G H ds a->ax Γ G Y h U H->ax Γ G b h (g9 is a U) H/\is.length=a.length
 | [],[],_,_,_,_,e,rfl,s=>by cases e;exact⟨s,rfl⟩
 | [],_::_,_,_,_,_,e,_,_=>by simp [M.aH]at e
 | _::_,[],_,_,_,_,e,_,_=>by simp [M.aH]at e
 | i::is,d::ds,_,_,_,_,e,⟨v,r,rfl,g,c⟩,s=>by
  obtain⟨j,f⟩:=jI (by simpa [M.aH]using e) c (s.dm g)
  exact⟨j,congrArg (· +1) f⟩
def gM (d:Ge) (c:List Nat) (one:Bool):TG:=λv U H Q=>match one with
 | true=> ∃i,c= [i]/\Q (U.set i (y0 v)) H
 | false=> ∃G ds b a,v= .ref a/\fG d G H a b/\ae d G H ds b/\c.length=b.length/\Q (g9 c b U) H
theorem xT (c:Go Γ F X E k cf): ∀ {is}{es},Jo cf is es=k9->l9 X es (λb U H Q=>b.length=is.length/\Q (g9 is b U) H)
 | [],[],_=>λa s U H b f Q I r h=>by
  have d:=Ah9 h.1
  subst d
  exact EG a s U H [] f Q I r ⟨rfl,h.2⟩
 | [],_::_,h=>by simp [Jo]at h
 | _::_,[],h=>by simp [Jo]at h
 | i::is,e::es,h=>by
  cases e with
  | Name x p=>
   simp only [Jo,Aa7,decide_eq_true_eq]at h
   obtain⟨⟨j,m⟩,n⟩:=h
   have l:=xT c n
   have d:=c.gB x m
   have g:=yY (rS (pos:=p) (by rw [c.N];exact c.nd) (by rw [c.N];exact j) d.1 d.2) l
   intro a s U H b f Q I r q
   refine g a s U H b f Q I r ?_
   cases b with
   | nil=>simp at q
   | cons v b=>
    refine⟨v,b,rfl,?_⟩
    exact⟨by simpa using q.1,q.2⟩
  | _=>simp [Jo]at h
theorem rp : ∀ {is}{es},Jo cf is es=k9->(assignEach es env).length=is.length/\(assignEach es env).findIdx? (·.1)=u0
 | [],[],_=>⟨rfl,rfl⟩
 | [],_::_,h=>by simp [Jo]at h
 | _::_,[],h=>by simp [Jo]at h
 | i::is,e::es,h=>by
  cases e with
  | Name x p=>
   simp only [Jo,Aa7]at h
   obtain⟨c,a⟩:=rp h.2
   have b:assignEach (.Name x p::es) env=(y9,assign (.Name x p) env)::assignEach es env:=rfl
   rw [b]
   refine⟨congrArg (· +1) c,?_⟩
   rw [List.findIdx?_cons]
   simp [a]
  | _=>simp [Jo]at h
def Xo (d:Go Γ F X E k cf)(h:Qe cf tg one e=k9):PG X e (gM Γ tg one):=by
 cases one with
 | true=>
  cases e with
  | Name x p=>
   simp [Qe,Aa7]at h
   cases tg with
   | nil=>simp at h
   | cons i r=>
    cases r with
    | cons _ _=>simp at h
    | nil=>
     simp only [Jo,Aa7,decide_eq_true_eq]at h
     obtain⟨_,⟨o,t⟩,_⟩:=h
     have g:=d.gB x t
     have c:=rS (pos:=p) (by rw [d.N];exact d.nd) (by rw [d.N];exact o) g.1 g.2
     intro b s U H v u Q I r q
     obtain⟨j,e,q⟩:=q
     cases e
     exact c b s U H v u Q I r q
  | _=>simp [Qe]at h
 | false=>
  cases e with
  | Tuple A n p=>
   have h:=h
   obtain⟨hn,f⟩:=rp h
   have c:=LB (k:=n) (pos:=p) d.calm (xT d h) hn f
   intro b s U H v u Q I r q
   obtain⟨G,y,m,a,rfl,w,z,l,q⟩:=q
   exact c b s U H _ u Q I r ⟨a,m,rfl,d.K▸w.sq,l.symm,l.symm,q⟩
  | _=>simp [Qe]at h
def jm (k) (l): ∀ i,M.Gj (Aa8 k u0++l) (k+i)=M.Gj l i:=by
 induction k with
 | zero=>intro i;simp
 | succ k a=>intro i;rw [Ac7,show k+1+i=(k+i)+1 by lia];exact a i
def Ws (k) (l): ∀ {i},i<k->M.Gj (Aa8 k u0++l) i=none:=by
 induction k with
 | zero=>intro i h;lia
 | succ k a=>
  intro i h
  cases i with
  | zero=>rfl
  | succ i=>rw [Ac7];exact a (by omega)
theorem zA: ∀(l) (i),M.Gj l i=(l[i]?).join
 | [],_=>by simp
 | _::_,0=>by simp
 | _::r,i+1=>by simpa using zA r i
def JH (s:ax Γ G Y h U H)(e:M.Gf Y j=y0 w): ∃v,U[j]? =y0 (y0 v)/\au Γ G H w v/\(gq w=k9-> ∃b,M.Gj Y j=y0 b/\gq b=k9)/\mB w=true:=by
 unfold M.Gf at e
 cases q:M.Gj Y j with
 | none=>rw [q]at e;cases e
 | some b=>
  obtain⟨v,c,f⟩:=s.slot j b q
  rw [q]at e
  cases b with
  | v d=>cases e;exact⟨v,c,f,λz=>(by cases z),rfl⟩
  | own i=>cases e;obtain⟨a,k,g,o,n,m,l⟩:=f;exact⟨v,c,⟨a,k,g,n,.inl m,l⟩,λ_=>⟨_,rfl,rfl⟩,rfl⟩
  | bor i=>cases e;exact⟨v,c,f,λ_=>⟨_,rfl,rfl⟩,rfl⟩
def g8 (k:Nat) (aA:List Nat) (Y:M.Sl):M.Sl:=Aa8 k u0++aA.map λj=>M.Gf Y j
def Aq (s:ax Γ G Y h U H) (kk) (aA)(d:Ub.length=kk+aA.length) (f: ∀i,i<aA.length->Ub[kk+i]? =y0 ((U[aA.getD i 0]?).join)):
 ax Γ G (g8 kk aA Y) h Ub H where
 len:=by unfold g8;rw [Ab0,Ae8,Aa,d]
 slot:=λi w e=>by
  unfold g8 at e
  by_cases g:i<kk
  ·rw [Ws kk _ g]at e;cases e
  ·obtain⟨j,rfl⟩: ∃j,i=kk+j:=⟨i-kk,by omega⟩
   rw [jm,zA,Ac5]at e
   cases q:aA[j]? with
   | none=>rw [q]at e;cases e
   | some c=>
    rw [q]at e
    have e:=e
    obtain⟨v,n,o,_⟩:=JH s e
    have m:=(Ac0.mp q).1
    refine⟨v,?_,o⟩
    rw [f j m,Ab5,q]
    show y0 ((U[c]?).join)=_
    rw [n]
    rfl
 apart:=λi j u w a l b r t p=>by
  exfalso
  unfold g8 at b
  by_cases g:i<kk
  ·rw [Ws kk _ g]at b;cases b
  ·obtain⟨k,rfl⟩: ∃j,i=kk+j:=⟨i-kk,by omega⟩
   rw [jm,zA,Ac5]at b
   cases q:aA[k]? with
   | none=>rw [q]at b;cases b
   | some c=>
    rw [q]at b
    have b:=b
    obtain⟨_,_,_,_,z⟩:=JH s b
    cases z
 heap:=s.heap
end
theorem Wd {env:Env}{d:NameKind}(g:d≠ .free): ∀ {b:List (Str×NameKind)}{x},b.lookup x=y0 d →
 (b.map λ(n,k)=>if(k==NameKind.free&&env.scope.kind== .function&&env.kindOf n==y0 .cell)then(n,NameKind.cell)else(n,k)).lookup x=y0 d
 | [],_,h=>by simp at h
 | (n,k)::r,x,h=>by
  have i:= @Wd env d g r x
  rw [Aa9]
  rw [Ad0]at h
  cases c:x==n with
  | true=>
   rw [c]at h
   have e:=by simpa using h
   subst e
   have j:(k==NameKind.free)=false:=by simpa using g
   simp only [j,Am9,Ag8,if_false,Ad0,c]
  | false=>
   rw [c]at h
   have q:=i h
   by_cases a:(k==NameKind.free&&env.scope.kind== .function&&env.kindOf n==y0 .cell)=k9
   ·simp only [a,if_true,Ad0,c]
    exact q
   ·have f:=Aj6.mpr a
    simp only [f,Ag8,if_false,Ad0,c]
    exact q
section
variable {Γ:Ge}{F:M.Fx}{X:Cx}{E:XK}{k:Nat}{cf:Cf}
structure kd (cf:Cf) (scope:Scope) (N:List Str) (k:Nat) (aA:List Nat):Prop where
 kind:scope.kind= .function
 A7:(scope.names.map Prod.fst).Nodup
 names: ∀y∈scope.names,y.2= .local->scope.names.lookup y.1=y0 .local
 free: ∀y∈scope.names,y.2= .free->cf.sc.names.lookup y.1=y0 .cell\/cf.sc.names.lookup y.1=y0 .free
 gX: ∀x∈N.drop k,scope.names.lookup x=y0 .free
 aA:qF cf aA (N.drop k)=k9
 le:k<=N.length
 nd:N.Nodup
def JD (h:JV cf scope N kk aA=k9):kd cf scope N kk aA:=by
 simp only [JV,Aa7,decide_eq_true_eq,Ae1]at h
 obtain⟨⟨⟨⟨⟨⟨⟨⟨i,c⟩,e⟩,j⟩,g⟩,b⟩,k⟩,f⟩,l⟩:=h
 exact⟨i,c,λy a=>e y a,λy a=>j y a,λx d=>g x d,b,k,f⟩
theorem ZU (a:Go Γ F X E k cf): ∀ {aA}{xs},qF cf aA xs=k9->cx X aA xs
 | [],[],_=>trivial
 | [],_::_,h=>by simp [qF]at h
 | _::_,[],h=>by simp [qF]at h
 | j::e,x::xs,h=>by
  simp only [qF,Aa7,decide_eq_true_eq]at h
  obtain⟨⟨d,b⟩,c⟩:=h
  exact⟨by rw [a.N];exact d,a.lU x b,ZU a c⟩
def qR (a:Go Γ F X E k cf)(h:kd cf scope N kk aA):QR X scope N kk aA:=
 ⟨h.kind,h.A7,h.names,λy b c=>a.lU y.1 (h.free y b c),h.gX,ZU a h.aA,h.le⟩
def Z8 (h:jV sc x=k9):sc.names.lookup x=y0 .local\/sc.names.lookup x=y0 .cell\/sc.names.lookup x=y0 .free:=by
 unfold jV at h
 split at h
 ·rename_i q;exact .inl q
 ·rename_i q;exact .inr (.inl q)
 ·rename_i q;exact .inr (.inr q)
 ·cases h
def j9 (h:i9 sc x=k9):sc.names.lookup x=y0 .local\/sc.names.lookup x=y0 .cell:=by
 unfold i9 at h
 split at h
 ·rename_i q;exact .inl q
 ·rename_i q;exact .inr q
 ·cases h
def jL (h:iK sc x=k9):sc.names.lookup x=y0 .globalImplicit:=by
 unfold iK at h
 split at h
 ·rename_i q;exact q
 ·cases h
def Xx (a:Go Γ F X E k cf)(h:kd cf scope N kk aA) (C:Addr) (i:List Addr) (s:Shared) (H:Hp):Go Γ F (qd X N scope C i s H) E0 k { cf with sc:=scope,N:=N } where
 N:=rfl
 K:=a.K
 cl:=a.cl
 ow:=a.ow
 nd:=h.nd
 eW:=λx b=>by
  rcases Z8 b with q | q | q
  ·exact .inl (Wd (by decide) q)
  ·exact .inr (.inl (Wd (by decide) q))
  ·exact .inr (Zi q)
 kz:=λx b=>Wd (by decide) b
 gB:=λx b=>by
  rcases j9 b with q | q
  ·exact⟨.inl (Wd (by decide) q),.inr (Wd (by decide) q)⟩
  ·exact⟨.inr (Wd (by decide) q),.inl (decide_eq_true q)⟩
 lU:=λx b=>by
  rcases b with q | q
  ·exact .inl (Wd (by decide) q)
  ·exact Zi q
 gl:=λx b=>Wd (by decide) (jL b)
 calm:=a.calm
 room:=a.room
 eK:=a.eK
 pass:=λd U z A e v _ l=>by
  obtain⟨x,w,t,B,y,_,_,_,_,_,_,_,_,_,_,m⟩:=l
  exact m.elim
 blt:=a.blt
 con:=a.con
 fn:=λf p=>by
  obtain⟨c,n,g,o,r,u,j⟩:=(a.fn f p).imp λc h=>h.ex
  exact⟨c,⟨n,g,o,r,u,j⟩⟩
 cls:=a.cls
 fld:=a.fld
 kK:=a.kK
 gH:=a.gH
theorem Z6: ∀(is) (a) (U) (j),j∉is->(g9 is a U)[j]? =U[j]?
 | [],_,_,_,_=>rfl
 | _::_,[],_,_,_=>rfl
 | i::is,v::a,U,j,h=>by
  show(g9 is a (U.set i (y0 v)))[j]? =U[j]?
  rw [Z6 is a _ j λz=>h (Aa1 _ z),Ad3 (λz:i=j=>h (by rw [z];exact Aa3))]
theorem xB: ∀(is) (a) (U),(g9 is a U).length=U.length
 | [],_,_=>rfl
 | _::_,[],_=>rfl
 | i::is,v::a,U=>by
  show(g9 is a (U.set i (y0 v))).length=U.length
  rw [xB is a,Ae6]
def aa (e:M.Gp tg one d Y=y0 Y') (r:aD Γ G H d x) (s:ax Γ G Y h U H)
 (g: ∀b,ax Γ G Y' h b H->(∀ j,j∉tg->b[j]? =U[j]?)->b.length=U.length->Q b H):gM Γ tg one x U H Q:=by
 cases one with
 | true=>
  cases tg with
  | nil=>cases e
  | cons i o=>
   cases o with
   | cons _ _=>cases e
   | nil=>
    cases e
    exact⟨i,rfl,g _ (s.dm r) (λj f=>Ad3 λz=>f (by simp [z])) (Ae6 ..)⟩
 | false=>
  cases d with
  | tup l=>
   obtain⟨a,c,rfl,n,k⟩:=r
   obtain⟨p,m⟩:=jI (e) k s
   exact⟨G,l,c,a,rfl,n,k,m,g _ p (λj f=>Z6 tg c U j f) (xB tg c U)⟩
  | _=>cases e
def JT {step:M.D->M.AH->M.R (Option M.D)}: ∀ {ds}{h}{d}{h'},M.Gx step ds h≠ .exc d h'
 | [],_,_,_=>λe=>by cases e
 | x::ds,h,d,h'=>λe=>by
  rw [M.Gx]at e
  split at e
  ·split at e<;>cases e
  ·cases e
def zW {step:M.D->M.AH->M.R (Option M.D)}(e:M.Gx step (x::ds) h= .ok ys hf): ∃o h1 r,step x h= .ok o h1/\M.Gx step ds h1= .ok r hf/\ys=(match o with | some y=>y::r | none=>r):=by
 rw [M.Gx]at e
 split at e
 ·rename_i o h1 a
  split at e
  ·rename_i r c b
   cases e
   exact⟨o,h1,r,a,b,rfl⟩
  ·cases e
 ·cases e
def lz (F:M.Fx) (f:List Nat) (one:Bool) (g:M.Sl) (a:Bool) (c elt:M.E):M.D->M.AH->M.R (Option M.D):=λd h=>match M.Gp f one d g with
 | none=> .fail
 | some e=>(if a then(M.eval F c e h).bind λx h=>M.R.of h (M.KW h x)else .ok k9 h).bind λb h=>match b with
  | true=>(M.eval F elt e h).bind λy h=>(M.R.of h y.d).bind λy h=> .ok (y0 y) h
  | false=> .ok u0 h
def Ft :M.eval F (.comp tg one kk aA it y7 c elt) Y h=(M.Gk F it Y h).bind λds h=>
 if ds.length<=M.aZ then(M.Gx (lz F tg one (g8 kk aA Y) y7 c elt) ds h).bind λys h=> .ok (.own ys) h else .fail:=by
 rw [M.eval];rfl
noncomputable def kI (F:M.Fx) (a:Bool) (c:M.E):M.Sl->M.AH->M.R Bool:=λY h=>if a then M.Gs F c Y h else .ok k9 h
def Jd {r:M.R α}(e:r.bind f= .ok b h): ∃a h1,r= .ok a h1/\f a h1= .ok b h:=by
 cases r with
 | ok a h1=>exact⟨a,h1,rfl,e⟩
 | exc d h1=>cases e
 | fail=>cases e
def jX (a:Ze iter=k9): ∀v,foldedSetIterable iter env v=pure v:=λv=>by cases iter<;>first | rfl | (simp [Ze]at a)
def sA (htk: ∀i∈tg,i<kk)(h0:tD Γ E (M.eval F (.comp tg one kk aA it y7 c elt)) U H Q):
 mR kk aA (fh Γ E y9 (M.Gk F it)) (λ_ _ _ _=>gM Γ tg one) (λ_ _ _ _=>cD Γ E0 (kI F y7 c)) (λ_ _ _ _=>tD Γ E0 (M.eval F elt)) U H Q:=by
 obtain⟨G,Y,h,s,p⟩:=h0
 rw [Ft]at p
 refine⟨G,Y,h,s,?_⟩
 cases qi:M.Gk F it Y h with
 | exc d k=>rw [qi]at p;exact p
 | fail=>rw [qi]at p;exact p
 | ok f h1=>
  rw [qi]at p
  intro G1 H1 e1 y J C L c0 _ Ca fp st
  have p:ay Γ E G H (if f.length<=M.aZ then(M.Gx (lz F tg one (g8 kk aA Y) y7 c elt) f h1).bind λX h=> .ok (.own X) h else .fail) λw k q g=> ∀v,au Γ q g w v->aG Y U H w v->Q v g:=p
  by_cases hL:f.length<=M.aZ
  rotate_left
  ·rw [if_neg hL]at p;exact p.elim
  rw [if_pos hL]at p
  cases Z:M.Gx (lz F tg one (g8 kk aA Y) y7 c elt) f h1 with
  | exc d k=>exact absurd Z JT
  | fail=>rw [Z]at p;exact p.elim
  | ok X hf=>
   rw [Z]at p
   have p:=p
   have hLs:=Qk
   refine⟨λi m yv Ub g=> ∃q k done rest,(m=f.length-i/\i<=f.length/\done.length<=i)/\Ext G1 H1 q g/\ai Γ q k g/\C q g/\ae Γ q g done yv ∧
    M.Gx (lz F tg one (g8 kk aA Y) y7 c elt) (f.drop i) k= .ok rest hf/\X=done++rest/\Ub.length=kk+aA.length/\ ∀j,j<aA.length->Ub[kk+j]? =y0 ((U[aA.getD j 0]?).join),⟨f.length,?_⟩,?_⟩
   ·refine⟨G1,h1,[],X,⟨by simp,Ah5 _,Aa6 _⟩,Ext.refl,y,c0,rfl,Z,rfl,?_,λj hj=> ?_⟩
    ·unfold lr;rw [Ab0,Ae8,Aa]
    ·unfold lr
     rw [Af6 (by simp),Ae8,Nat.add_sub_cancel_left,Ac5,Aa4 hj,Ab5,Aa4 hj]
     rfl
   ·rintro i m yv Ub g ⟨q,k,done,rest,⟨rfl,hi',hd⟩,N,e,K,rd,qg,u,l,A⟩
    have ldone:=rd.length
    by_cases t:i<f.length
    ·refine .inr ⟨L.go i q g K t,by omega,_,λyv' Ub' R w=>⟨f.length-(i+1),by omega,w⟩,λx R hy=> ?_⟩
     obtain⟨G4,x4,hx4,d,ed,rdx⟩:=L.eU i q g x R K t hy
     have K:=L.keep _ _ _ _ k K x4 e
     have rd:=rd.ext x4 e
     have N:=N.trans y x4
     have e:=hx4 _ e
     have edr:f.drop i=d::f.drop (i+1):=by
      rw [Al8 t]
      rw [Aa4 t]at ed
      cases ed
      rfl
     rw [edr]at qg
     obtain⟨o,h2,r,T,O,er⟩:=zW qg
     unfold lz at T
     cases qb:M.Gp tg one d (g8 kk aA Y)with
     | none=>rw [qb]at T;cases T
     | some Y'=>
      rw [qb]at T
      have so:=s.ext (e1.trans s.heap N) e
      have sb:=Aq so kk aA l A
      refine aa qb rdx sb λU2 s2 same V=> ?_
      have n: ∀j,j<aA.length->U2[kk+j]? =y0 _:=λj hj=>by
       rw [same _ λz=>by have:=htk _ z;omega];exact A j hj
      obtain⟨b,h3,I,a⟩:=Jd (show (kI F y7 c Y' k).bind _=_ from T)
      refine⟨G4,Y',k,s2,?_⟩
      rw [I]
      intro G3 H3 S P
      have s3:=s2.ext S P
      cases b with
      | false=>
       refine m1 ?_
       have a:=a
       cases a
       exact⟨G3,_,done,r,⟨rfl,by omega,by omega⟩,N.trans y S,P,L.keep _ _ _ _ k K S e,rd.ext S e,O,by rw [u,er],by rw [V];exact l,n⟩
      | true=>
       refine mu ?_
       obtain⟨w,h4,qe,a⟩:=Jd (a)
       refine⟨G3,Y',h3,s3,?_⟩
       rw [qe]
       intro G4 H4 e4 hr4 v rw' fw
       obtain⟨dd,h5,W,a⟩:=Jd (a)
       cases qw:w.d with
       | none=>rw [qw]at W;cases W
       | some d'=>
        rw [qw]at W
        cases W
        cases (a)
        have s4:=s3.ext e4 hr4
        obtain⟨G5,e5,s5,rdv,m5⟩:=ny e4 s4 s3 rw' fw qw
        have B:=S.trans e e5
        refine⟨G5,_,done++ [dd],r,⟨rfl,by omega,by rw [Ab0,Ag];omega⟩,N.trans y B,s5.heap,L.keep _ _ _ _ k K B e,(rd.ext B e).append ⟨v,[],rfl,rdv,rfl⟩,O,?_,by rw [V];exact l,n⟩
        rw [u,er]
        simp
    ·have ei:i=f.length:=by omega
     subst ei
     rw [List.drop_length]at qg
     cases (qg)
     rw [Af1]at u
     subst u
     exact .inl ⟨L.stop _ q g K (Aa6 _) (Aa6 _),by omega,λD hD=>aC.own (aC.mk p (e1.trans s.heap N) s.heap) e rd D hD⟩
def D5 (e:Go Γ F X E k cf)(a:kd cf scope N kk aA)
 (m:aA.length=(N.drop kk).length) (f:Qe { cf with sc:=scope,N:=N } tg one t=k9) (d: ∀i∈tg,i<kk) (b:Ze iter=k9)
 (l:PI X t iter (fh Γ E y9 (M.Gk F it)))
 (h: ∀C fp s H,PE (qd X N scope C fp s H) y (tD Γ E0 (M.eval F elt)))
 (j: ∀C fp s H,gy (qd X N scope C fp s H) ifs (cD Γ E0 (kI F y7 c))):
 PE X (.ListComp y [⟨t,iter,ifs,0⟩] scope pos) (tD Γ E (M.eval F (.comp tg one kk aA it y7 c elt))):=
 PE.imp (HH (qR e a) l (λC fp s H=>Xo (Xx e a C fp s H) f) j h e.calm (jX b)) λU H Q g=>sA d g
def jZ (a:Go Γ F X E k cf)(o:cf.N[i]? =y0 x) (p:i9 cf.sc x=k9)(h:swapsWith (.ListComp y [⟨t,iter,ifs,0⟩] scope p0) (y0 (.Name x pos2)) pos.line X.env=pure k9) (b:kd cf scope N kk aA)
 (n:aA.length=(N.drop kk).length) (g:Qe { cf with sc:=scope,N:=N } tg one t=k9) (f: ∀i∈tg,i<kk) (e:Ze iter=k9)
 (r:PI X t iter (fh Γ E y9 (M.Gk F it)))
 (u: ∀C fp s H,PE (qd X N scope C fp s H) y (tD Γ E0 (M.eval F elt)))
 (m: ∀C fp s H,gy (qd X N scope C fp s H) ifs (cD Γ E0 (kI F y7 c))):
 PS X (.Assign [.Name x pos2] (.ListComp y [⟨t,iter,ifs,0⟩] scope p0) pos) (iq (tD Γ E (M.eval F (.comp tg one kk aA it y7 c elt))) (zQ i)):=by
 have l:=a.gB x p
 have j:=CW (by rw [a.N];exact a.nd) (by rw [a.N];exact o) l.1 (qR a b) r (λC fp s H=>Xo (Xx a b C fp s H) g) m u h a.calm (jX e) l.2
 exact λd s U H D I q=>j d s U H D I (sA f q)
def Xw (e:M.bw h o=y0 (r,xs)):o=y0 (.v (.ref r))/\h[r]? =y0 (.lst xs):=by
 unfold M.bw at e
 split at e
 ·split at e
  ·rename_i q
   cases e
   exact⟨rfl,q⟩
  ·cases e
 ·cases e
def ww (s:ax Γ G Y h U H)(e:M.bw h (M.Gj Y i)=y0 (r,xs)):U[i]? =y0 (y0 (.ref (G.aV r)))/\ ∃a,H (G.aV r)=y0 (.lst a)/\ae Γ G H xs a:=by
 obtain⟨d,j⟩:=Xw e
 obtain⟨v,c,b⟩:=s.slot i _ d
 obtain⟨k,f⟩:=(b)
 subst f
 obtain⟨_,a,g,rv⟩:=s.heap.cell r xs j
 exact⟨c,a,g,rv⟩
def ZM (b:Go Γ F X E k cf)(h1:cf.N[i]? =y0 x) (h2:jV cf.sc x=k9) (a:cz x=k9):PE X (.Name x p) (mY i):=by
 unfold cz at a
 rw [Aa7]at a
 exact Ql (by rw [b.N];exact h1) (b.eW x h2) (by simpa using a.1) (by simpa using a.2)
def LL (m:Go Γ F X E k cf)(h1:cf.N[i]? =y0 y) (h2:jV cf.sc y=k9) (n:cz y=k9) (j:PE X x (tD Γ E (M.eval F a))):PE X (.Compare x [nk neg] [.Name y b] pos) (tD Γ E (M.eval F (.cP neg a i))):=by
 refine PE.imp (jW (vV neg) j (ZM m h1 h2 n) (zk rfl)) λU H Q e=> ?_
 obtain⟨G,Y,h,s,p⟩:=e
 refine Qa s.heap Ext.refl s p λu w h1 q v g t c l z b=> ?_
 unfold M.cP at b
 split at b
 ·rename_i o r f d
  cases l
  exact⟨_,(xr c d).1,o,_,f,rfl,rfl,(xr c d).2,b q _ g c.heap _ rfl trivial⟩
 ·exact b.elim
def DI (m:Go Γ F X E k cf)(h1:cf.N[i]? =y0 y) (h2:jV cf.sc y=k9) (n:cz y=k9) (j:PE X x (tD Γ E (M.eval F a))):PT X (.Compare x [nk neg] [.Name y b] pos) (cD Γ E (M.Gs F (.cP neg a i))):=by
 refine PT.imp (jY (vV neg) j (ZM m h1 h2 n) (zk rfl)) λU H Q e=> ?_
 obtain⟨G,Y,h,s,p⟩:=e
 unfold M.Gs at p
 rw [M.eval,We]at p
 refine Qa s.heap Ext.refl s p λu w h1 q v g t c l z b=> ?_
 unfold M.cP at b
 split at b
 ·rename_i o r f d
  cases l
  exact⟨_,(xr c d).1,o,_,f,rfl,rfl,(xr c d).2,_,rfl,b q _ g c.heap⟩
 ·exact b.elim
def FA (a:Go Γ F X E k cf)(h1:cf.N[i]? =y0 x) (h2:jV cf.sc x=k9) (r:cz x=k9):PE X (.Attribute (.Name x p1) (zg f) pos) (tD Γ E (M.eval F (.xf i f))):=by
 refine PE.imp (BE (ZM a h1 h2 r) rfl) λU H Q b=> ?_
 obtain⟨G,Y,h,s,p⟩:=b
 rw [M.eval]at p
 split at p
 ·rename_i c g d q
  split at p
  ·rename_i e
   subst e
   obtain⟨v,l,t,j,u,rfl,y,A,o,n,z,w,m⟩:=s.slot i _ q
   exact⟨_,l,t,Γ.ca c,j,u,rfl,o,n,a.K▸w,ay.val p Ext.refl s.heap m trivial⟩
  ·exact p.elim
 ·exact p.elim
end
def PW.eI (h:PT X (.BoolOp op vs pos) t):PW X (.BoolOp op vs pos) t:=λb a s U H Q I q=>by
 have:=h a s U H Q I q
 exact this
theorem Jx : ∀ {es}{xs}{Y}{h}{ds}{h'},bf cf es xs=k9->M.Gm F es Y h= .ok ds h'->ds.length=xs.length
 | .nil,xs,_,_,_,_,c,e=>by
  cases Af4.mp c
  rw [M.Gm]at e;cases e;rfl
 | .cons a es,xs,Y,h,ds,h',c,e=>by
  refine kC (λx r c=> ?_) xs c
  obtain⟨w,i,f,e⟩:=Jd e
  obtain⟨d,j,g,e⟩:=Jd e
  obtain⟨r,k,b,e⟩:=Jd e
  cases e
  rw [Ab7,Ab7,Jx (a2 c).2 b]
theorem Je : ∀ {es}{xs},bf cf es xs=k9-> ∀e∈xs,Ja e=k9
 | .nil,xs,c=>by
  cases Af4.mp c
  intro e b;cases b
 | .cons a es,xs,c=>by
  refine kC (λx r c=> ?_) xs c
  intro e b
  rcases Ab2.mp b with rfl | b
  ·exact(a3 c).1
  ·exact Je (a2 c).2 e b
theorem ZD : ∀ {aA}{xs},qF cf aA xs=k9->aA.length=xs.length
 | [],[],_=>rfl
 | [],_::_,h=>by simp [qF]at h
 | _::_,[],h=>by simp [qF]at h
 | j::a,x::xs,h=>by
  simp only [qF,Aa7]at h
  exact congrArg (· +1) (ZD h.2)
def JK (h:xk e f=k9):Ze e=true:=by
 refine Qi (λg x l p h=> ?_) e h
 rfl
def XQ (h:c8 cf it e=k9):Ze e=true:=by
 cases it with
 | seq a=>exact(a2 h).1
 | aw a=>exact JK h
 | bS a b=>exact JK h
 | rev a=>exact JK h
 | zip a b=>exact bK h
 | enum a=>exact bK h
section
variable {Γ:Ge}{F:M.Fx}{k:Nat}
def bo (c:Go Γ F X E k cf) (r:PE X x (tD Γ E (M.eval F m))) (b: ∀a,isTrue x X.env a=(do let v ←a;standAt x.pos;holding [v] (truthy v))):PE X x (tD Γ E (M.eval F m))/\(eZ m=k9->PT X x (cD Γ E (M.Gs F m))):=⟨r,λ_=>Dh c r b⟩
mutual
theorem zc: ∀(m:M.E){X:Cx}{E:XK}{cf:Cf}{e:Expr},Go Γ F X E k cf->qc cf m e=k9->PE X e (tD Γ E (M.eval F m))/\(eZ m=k9->PT X e (cD Γ E (M.Gs F m)))
 | .var i,X,E,cf,e,go,h=>by
  refine xq (λx p h=> ?_) e h
  obtain⟨h1,h2,h3⟩:=hJ h
  exact bo go (LY go h1 h2 h3) λ_=>rfl
 | .con c,X,E,cf,e,go,h=>by
  have r:=BH go h
  obtain⟨p,rfl,_,_⟩:=Zb h
  exact bo go r λ_=>rfl
 | .int i,X,E,cf,e,go,h=>by
  refine QO (λx n p h=> ?_) e h
  cases of_decide_eq_true h;exact bo go Be λ_=>rfl
 | .bl i,X,E,cf,e,go,h=>by
  refine QO (λx n p h=> ?_) e h
  cases of_decide_eq_true h;exact bo go IY λ_=>rfl
 | .av,X,E,cf,e,go,h=>by
  refine QO (λx n p h=> ?_) e h
  cases of_decide_eq_true h;exact bo go Ez λ_=>rfl
 | .str i,X,E,cf,e,go,h=>by
  refine QO (λx n p h=> ?_) e h
  cases of_decide_eq_true h;exact bo go AM λ_=>rfl
 | .tup es,X,E,cf,e,go,h=>by
  refine nh (λx n p h=> ?_) e h
  obtain⟨h1,h2⟩:=a2 h
  exact bo go (Lp (of_decide_eq_true h1) (λY hh ds h' q=>Jx h2 q) (gI es go h2)) λ_=>rfl
 | .lst es,X,E,cf,e,go,h=>by
  refine I0 (λx p h=> ?_) e h
  obtain⟨h1,h2⟩:=a2 h
  exact bo go (AQ (of_decide_eq_true h1) (λY hh ds h' q=>Jx h2 q) (gI es go h2)) λ_=>rfl
 | .bin o a b,X,E,cf,e,go,h=>by
  refine Hr (λx o y p h=> ?_) e h
  obtain⟨h0,ho,h1,h2⟩:=a4 h
  cases of_decide_eq_true h0
  exact bo go (DX go ho (zc a go h1).1 (zc b go h2).1) λ_=>rfl
 | .cmp o a b,X,E,cf,e,go,h=>by
  refine l3 (λx o y p h=> ?_) e h
  refine kC (λy r h=> ?_) y h
  obtain⟨h0,ho,hs,h1,h2⟩:=a5 h
  obtain⟨rfl,rfl⟩:=of_decide_eq_true h0
  exact⟨BF go ho hs (zc a go h1).1 (zc b go h2).1,λ_=>Ik go ho hs (zc a go h1).1 (zc b go h2).1⟩
 | .chain o q a b c,X,E,cf,e,go,h=>by
  refine l3 (λx o y p h=> ?_) e h
  refine kC (λy r h=> ?_) y h
  refine kC (λz r h=> ?_) r h
  obtain⟨h0,ho,hq,hs,h1,h2,h3⟩:=a7 h
  obtain⟨rfl,rfl⟩:=of_decide_eq_true h0
  exact⟨Ll go ho hq hs (zc a go h1).1 (zc b go h2).1 (zc c go h3).1,λ_=>DO go ho hq hs (zc a go h1).1 (zc b go h2).1 (zc c go h3).1⟩
 | .d3 neg a,X,E,cf,e,go,h=>by
  refine l3 (λx o y p h=> ?_) e h
  refine kC (λy r h=> ?_) y h
  refine QO (λj n p h=> ?_) y h
  obtain⟨h0,h1,h2⟩:=a3 h
  obtain⟨rfl,rfl⟩:=of_decide_eq_true h0
  cases of_decide_eq_true h1
  exact⟨Br (zc a go h2).1,λ_=>LS (zc a go h2).1⟩
 | .neg a,X,E,cf,e,go,h=>by
  refine oF (λo x p h=> ?_) e h
  cases of_decide_eq_true (a2 h).1
  exact bo go (Lz (zc a go (a2 h).2).1) λ_=>rfl
 | .inv a,X,E,cf,e,go,h=>by
  refine oF (λo x p h=> ?_) e h
  cases of_decide_eq_true (a2 h).1
  exact bo go (Lg (zc a go (a2 h).2).1) λ_=>rfl
 | .not a,X,E,cf,e,go,h=>by
  refine oF (λo x p h=> ?_) e h
  cases of_decide_eq_true (a2 h).1
  exact⟨yN go (zc a go (a2 h).2).1,λt=>E9 ((zc a go (a2 h).2).2 t)⟩
 | .and a b,X,E,cf,e,go,h=>by
  refine tq (λo x p h=> ?_) e h
  refine kC (λx r h=> ?_) x h
  refine kC (λy r h=> ?_) r h
  obtain⟨h0,h1,h2⟩:=a3 h
  cases of_decide_eq_true h0
  cases r with
  | nil=>exact⟨sF go (zc a go h1).1 (vM (zc b go h2).1),λt=>(j7 ((zc a go h1).2 (a2 t).1) (Cr ((zc b go h2).2 (a2 t).2))).pt⟩
  | cons z r=>exact⟨sF go (zc a go h1).1 (zc b go h2).1,λt=>(j7 ((zc a go h1).2 (a2 t).1) (PW.eI ((zc b go h2).2 (a2 t).2))).pt⟩
 | .or a b,X,E,cf,e,go,h=>by
  refine tq (λo x p h=> ?_) e h
  refine kC (λx r h=> ?_) x h
  refine kC (λy r h=> ?_) r h
  obtain⟨h0,h1,h2⟩:=a3 h
  cases of_decide_eq_true h0
  cases r with
  | nil=>exact⟨u5 go (zc a go h1).1 (vM (zc b go h2).1),λt=>(tS ((zc a go h1).2 (a2 t).1) (Bq ((zc b go h2).2 (a2 t).2))).pt⟩
  | cons z r=>exact⟨u5 go (zc a go h1).1 (zc b go h2).1,λt=>(tS ((zc a go h1).2 (a2 t).1) (PW.eI ((zc b go h2).2 (a2 t).2))).pt⟩
 | .call f es,X,E,cf,e,go,h=>by
  refine Qi (λg x l p h=> ?_) e h
  refine kE (λh=> ?_) l h
  obtain⟨h1,h2,h3⟩:=a3 h
  cases x with
  | nil=>
   cases es with
   | cons _ _=>exact bK h3
   | nil=>
    have r:=FR (pos:=p) go h1 h2
    obtain⟨p,rfl,_,_⟩:=Zb h1
    exact bo go r λ_=>rfl
  | cons x r=>
   have r:=Lu (pos:=p) go h1 h2 (Je h3) (du es go h3)
   obtain⟨p,rfl,_,_⟩:=Zb h1
   exact bo go r λ_=>rfl
 | .bi b es,X,E,cf,e,go,h=>by
  refine Qi (λg x l p h=> ?_) e h
  refine kE (λh=> ?_) l h
  refine kC (λx r h=> ?_) x h
  obtain⟨h1,h2,h3⟩:=a3 h
  have r:=Fo (pos:=p) go h2 h1 (Je h3) (du es go h3)
  obtain⟨p,rfl,_,_⟩:=Zb h1
  exact bo go r λ_=>rfl
 | .dY a t,X,E,cf,e,go,h=>by
  refine Qi (λg x l p h=> ?_) e h
  refine kE (λh=> ?_) l h
  refine kC (λx r h=> ?_) x h
  refine kC (λy r h=> ?_) r h
  refine kE (λh=> ?_) r h
  obtain⟨h1,h2,h3,h4,h5⟩:=a5 h
  have r:=yG (pos:=p) go (of_decide_eq_true h3) h1 h2 h4 (zc a go h5).1
  obtain⟨p,rfl,_,_⟩:=Zb h1
  exact bo go r λ_=>rfl
 | .bY a one ts,X,E,cf,e,go,h=>by
  refine Qi (λg x l p h=> ?_) e h
  refine kE (λh=> ?_) l h
  refine kC (λx r h=> ?_) x h
  refine kC (λy r h=> ?_) r h
  refine kE (λh=> ?_) r h
  obtain⟨h1,h2,h3,h4⟩:=a4 h
  have fin:PE X (.Call g [x,y] [] p) (tD Γ E (M.eval F (.bY a one ts))):=by
   cases one with
   | true=>
    refine kC (λt r h=> ?_) ts h4
    refine kE (λh=> ?_) r h
    obtain⟨h5,h6⟩:=a2 h
    simp only [Am6,decide_eq_true_eq]at h6
    exact IL go h6 h1 h5 h2 (zc a go h3).1
   | false=>
    refine nh (λzs n p h=> ?_) y h4
    exact yQ go (of_decide_eq_true (a2 h).1) h1 (a2 h).2 h2 (zc a go h3).1
  obtain⟨p,rfl,_,_⟩:=Zb h1
  exact bo go fin λ_=>rfl
 | .ix a b,X,E,cf,e,go,h=>by
  refine iP (λx y p h=> ?_) e h
  obtain⟨h1,h2,h3⟩:=a3 h
  exact bo go (yR go h1 (zc a go h2).1 (zc b go h3).1) λ_=>rfl
 | .sl a lo hi,X,E,cf,e,go,h=>by
  refine iP (λx y p h=> ?_) e h
  refine my (λl u z p2 h=> ?_) y h
  refine kS (λl h=> ?_) l h
  refine kS (λu h=> ?_) u h
  obtain⟨h0,h1,h2,h3⟩:=a4 h
  cases nn h0
  exact bo go (Io go (zc a go h1).1 (zc lo go h2).1 (zc hi go h3).1) λ_=>rfl
 | .fJ a lo,X,E,cf,e,go,h=>by
  refine iP (λx y p h=> ?_) e h
  refine my (λl u z p2 h=> ?_) y h
  refine kS (λl h=> ?_) l h
  obtain⟨h0,h1,h2,h3⟩:=a4 h
  cases nn h0;cases nn h1
  exact bo go (ES go (zc a go h2).1 (zc lo go h3).1) λ_=>rfl
 | .iy a hi,X,E,cf,e,go,h=>by
  refine iP (λx y p h=> ?_) e h
  refine my (λl u z p2 h=> ?_) y h
  refine kS (λu h=> ?_) u h
  obtain⟨h0,h1,h2,h3⟩:=a4 h
  cases nn h0;cases nn h1
  exact bo go (Iy go (zc a go h2).1 (zc hi go h3).1) λ_=>rfl
 | .rev a,X,E,cf,e,go,h=>by
  refine iP (λx y p h=> ?_) e h
  refine my (λl u z p2 h=> ?_) y h
  refine kS (λz h=> ?_) z h
  obtain⟨h0,h1,h2,h3⟩:=a4 h
  cases nn h0;cases nn h1
  exact bo go (HG go h2 (zc a go h3).1) λ_=>rfl
 | .comp tg one kk aA it y7 c elt,X,E,cf,e,go,h=>by
  refine tY (λy g s p h=> ?_) e h
  refine kC (λg r h=> ?_) g h
  obtain⟨t,iter,ifs,z⟩:=g
  obtain⟨h0,h1,h2,h3,h4,h5,h6⟩:=a7 h
  obtain⟨rfl,rfl⟩:=of_decide_eq_true h0
  simp only [Ae1,decide_eq_true_eq]at h2
  have sc:=JD h1
  have ht: ∀C fp w H,gy (qd X (jw cf t aA) s C fp w H) ifs (cD Γ E0 (kI F y7 c)):=λC fp w H=>by
   have gc:=Xx go sc C fp w H
   cases y7 with
   | true=>
    refine kC (λz r h=> ?_) ifs h6
    refine kE (λh=> ?_) r h
    exact uj ((zc c gc (a2 h).2).2 (a2 h).1)
   | false=>
    cases Af4.mp h6
    intro k8 s1 U H1 Q I ⟨G,Y,h,st,p⟩
    exact rn k8 s1 U H1 Q I (p G H1 Ext.refl st.heap)
  exact bo go (D5 go sc (ZD sc.aA) h3 h2 (XQ h4) (l6 it go h4) (λC fp s H=>(zc elt (Xx go sc C fp s H) h5).1) ht) λ_=>rfl
 | .dt,X,E,cf,e,go,h=>by
  refine Av (λx y p h=> ?_) e h
  cases Af4.mp (a2 h).1
  cases Af4.mp (a2 h).2
  exact bo go Bg λ_=>rfl
 | .cP neg a i,X,E,cf,e,go,h=>by
  refine l3 (λx o y p h=> ?_) e h
  refine kC (λy r h=> ?_) y h
  refine xq (λy p1 h=> ?_) y h
  obtain⟨h0,h1,h4⟩:=a3 h
  obtain⟨rfl,rfl⟩:=of_decide_eq_true h0
  obtain⟨h1,h2,h3⟩:=hJ h1
  exact⟨LL go h1 h2 h3 (zc a go h4).1,λ_=>DI go h1 h2 h3 (zc a go h4).1⟩
 | .share a,X,E,cf,e,go,h=>⟨BZ (zc a go h).1,λt=>bK t⟩
 | .cE a,X,E,cf,e,go,h=>by
  refine Qi (λg x l p h=> ?_) e h
  refine kE (λh=> ?_) l h
  refine kC (λx r h=> ?_) x h
  refine kE (λh=> ?_) r h
  refine Qi (λg2 x l p2 h=> ?_) x h
  refine kE (λh=> ?_) l h
  refine kC (λx r h=> ?_) x h
  refine kE (λh=> ?_) r h
  obtain⟨h1,h2,h3,h4⟩:=a4 h
  exact bo go (Ia go h1 h2 h3 (zc a go h4).1) λ_=>rfl
 | .hH a b,X,E,cf,e,go,h=>by
  refine l3 (λx o y p h=> ?_) e h
  refine kC (λy r h=> ?_) y h
  obtain⟨h0,hs,h1,h2⟩:=a4 h
  obtain⟨rfl,rfl⟩:=of_decide_eq_true h0
  exact⟨IW go hs (zc a go h1).1 (zc b go h2).1,λ_=>CU go hs (zc a go h1).1 (zc b go h2).1⟩
 | .xf i f,X,E,cf,e,go,h=>by
  refine mZ (λx n q h=> ?_) e h
  refine xq (λx p h=> ?_) x h
  obtain⟨h,h0⟩:=a2 h
  obtain⟨h1,h2,h3⟩:=hJ h
  cases of_decide_eq_true h0
  exact bo go (FA go h1 h2 h3) λ_=>rfl
 | .da m a es,X,E,cf,e,go,h=>by
  refine Qi (λg x l p h=> ?_) e h
  refine kE (λh=> ?_) l h
  refine kC (λx r h=> ?_) x h
  refine kE (λh=> ?_) r h
  refine mZ (λo n q h=> ?_) g h
  obtain⟨h1,h2,h3,h4,h5,h6⟩:=a6 h
  cases of_decide_eq_true h1
  exact bo go (He go h2 h3 h4 (Je h6 _ Aa3) (zc a go h5).1 (du es go h6)) λ_=>rfl
theorem gI: ∀(es:M.Es){X:Cx}{E:XK}{cf:Cf}{xs:List Expr},Go Γ F X E k cf->bf cf es xs=k9->PA X xs (iE Γ E (M.Gm F es))
 | .nil,X,E,cf,xs,go,h=>by
  cases Af4.mp h
  exact Bc
 | .cons a es,X,E,cf,xs,go,h=>by
  refine kC (λx r h=> ?_) xs h
  obtain⟨h1,h2,h3⟩:=a3 h
  exact Lx h1 (zc a go h2).1 (gI es go h3)
theorem du: ∀(es:M.Es){X:Cx}{E:XK}{cf:Cf}{xs:List Expr},Go Γ F X E k cf->bf cf es xs=k9->PA X xs (gT Γ E (M.Gg F es))
 | .nil,X,E,cf,xs,go,h=>by
  cases Af4.mp h
  exact B2
 | .cons a es,X,E,cf,xs,go,h=>by
  refine kC (λx r h=> ?_) xs h
  obtain⟨h1,h2,h3⟩:=a3 h
  exact ER h1 (zc a go h2).1 (du es go h3)
theorem l6: ∀(it:M.It){X:Cx}{E:XK}{cf:Cf}{tg e:Expr},Go Γ F X E k cf->c8 cf it e=k9->PI X tg e (fh Γ E y9 (M.Gk F it))
 | .seq a,X,E,cf,tg,e,go,h=>BI go (zc a go (a2 h).2).1
 | .aw a,X,E,cf,tg,e,go,h=>by
  refine Qi (λg x l p h=> ?_) e h
  refine kE (λh=> ?_) l h
  refine kC (λx r h=> ?_) x h
  refine kE (λh=> ?_) r h
  obtain⟨h1,h2,h3⟩:=a3 h
  exact QD go h1 h2 (zc a go h3).1
 | .bS a b,X,E,cf,tg,e,go,h=>by
  refine Qi (λg x l p h=> ?_) e h
  refine kE (λh=> ?_) l h
  refine kC (λx r h=> ?_) x h
  refine kC (λy r h=> ?_) r h
  refine kE (λh=> ?_) r h
  obtain⟨h1,h2,h3,h4,h5⟩:=a5 h
  exact jD go h1 h2 h3 (zc a go h4).1 (zc b go h5).1
 | .rev a,X,E,cf,tg,e,go,h=>by
  refine Qi (λg x l p h=> ?_) e h
  refine kE (λh=> ?_) l h
  refine kC (λx r h=> ?_) x h
  refine kE (λh=> ?_) r h
  obtain⟨h1,h2,h3⟩:=a3 h
  exact A5 go h1 h2 (zc a go h3).1
 | .zip a b,X,E,cf,tg,e,go,h=>bK h
 | .enum a,X,E,cf,tg,e,go,h=>bK h
end
end
structure Bs where
 G:Gh
 H:Hp
 h:M.AH
structure aW (Γ:Ge) (B:Bs) (G:Gh) (Y:M.Sl) (h:M.AH) (U:St) (H:Hp):Prop where
 st:ax Γ G Y h U H
 ext:Ext B.G B.H G H
 hr:ai Γ B.G B.h B.H
 own: ∀i xs a,M.Gj Y i=y0 (.own xs)->U[i]? =y0 (y0 (.ref a))->B.H a=u0
def aS (a:Ge) (E:XK) (B:Bs) (o:M.O) (D:iz):Prop:=match o with
 | .next Y h=> ∀G U H,aW a B G Y h U H->D.nx U H
 | .ret w h=> ∀G v H,Ext B.G B.H G H->ai a G h H->au a G H w v->aG [] [] B.H w v->D.rt v H
 | .brk Y h=> ∀G U H,aW a B G Y h U H->D.bk U H
 | .cont Y h=> ∀G U H,aW a B G Y h U H->D.ct U H
 | .exc d h=> ∀G H,Ext B.G B.H G H->ai a G h H->nU a E d G H
 | .fail=>False
def cc (a:Ge) (E:XK) (m:M.Sl->M.AH->M.O):TS:=λD U H=> ∃B G Y h,aW a B G Y h U H/\aS a E B (m Y h) D
def PS.imp {st:Stmt}(h:PS X st t) (k: ∀D U H,t' D U H->t D U H):PS X st t':=λa s U H D I q=>h a s U H D I (k _ _ _ q)
def cK.imp {st:List Stmt}(h:cK X st t) (k: ∀D U H,t' D U H->t D U H):cK X st t':=λa s U H D I q=>h a s U H D I (k _ _ _ q)
section
variable {Γ:Ge}{E:XK}{B:Bs}{G G1:Gh}{Y:M.Sl}{h h1:M.AH}{U:St}{H H1:Hp}{D:iz}
def aW.on (s:aW Γ B G Y h U H) (e:Ext G H G1 H1) (a:ai Γ G1 h1 H1):aW Γ B G1 Y h1 U H1:=⟨s.st.ext e a,s.ext.trans s.hr e,s.hr,s.own⟩
theorem aS.exc (s:aW Γ B G Y h U H) (p:aS Γ E B (.exc d h1) D):ay Γ E G H (.exc d h1) P:=λc b e a=>p c b (s.ext.trans s.hr e) a
def Xi (s:aW Γ B G Y h U H) (p:aS Γ E B ((m Y h).dj f) D)
 (k: ∀w v h1 G1 H1,Ext G H G1 H1->aW Γ B G1 Y h1 U H1->au Γ G1 H1 w v->aG Y U H w v->aS Γ E B (f w h1) D->Q v H1):tD Γ E m U H Q:=by
 refine⟨G,Y,h,s.st,?_⟩
 cases q:m Y h with
 | ok w h1=>rw [q]at p;exact λG1 H1 e b v a c=>k w v h1 G1 H1 e (s.on e b) a c p
 | exc d h1=>rw [q]at p;exact aS.exc s p
 | fail=>rw [q]at p;exact p
def Z4 (s:aW Γ B G Y h U H) (p:aS Γ E B ((m Y h).dj f) D)
 (k: ∀b h1 G1 H1,Ext G H G1 H1->aW Γ B G1 Y h1 U H1->aS Γ E B (f b h1) D->Q b H1):cD Γ E m U H Q:=by
 refine⟨G,Y,h,s.st,?_⟩
 cases q:m Y h with
 | ok w h1=>rw [q]at p;exact λG1 H1 e a=>k w h1 G1 H1 e (s.on e a) p
 | exc d h1=>rw [q]at p;exact aS.exc s p
 | fail=>rw [q]at p;exact p
theorem aW.set (m:aW Γ B G Y h U H) (e:Ext G H G1 H1) (s:aW Γ B G1 Y h1 U H1) (r:au Γ G1 H1 w v) (f:aG Y U H w v) (t: ∀xs,w≠ .bor xs):aW Γ B G1 (M.GI Y i w) h1 (U.set i (y0 v)) H1:=by
 refine⟨s.st.set r λu j y p g n a x z=> ?_,s.ext,s.hr,λj xs a g k=> ?_⟩
 ·cases w with
  | v d=>cases u
  | bor xs=>exact t xs rfl
  | own xs=>
   obtain⟨b,l,hn⟩:=f
   subst x
   cases l
   obtain⟨o,q⟩:=m.st.cC g n z
   rw [hn]at q;cases q
 ·rw [Qd]at g
  by_cases c:j=i/\i<Y.length
  ·rw [if_pos c]at g
   cases g
   obtain⟨rfl,c⟩:=c
   rw [Ad5 (by rw [← s.st.len];exact c)]at k
   cases k
   obtain⟨b,l,hn⟩:=f
   cases l
   exact m.ext.none m.hr hn
  ·rw [if_neg c]at g
   have p:=λz=>c ⟨z,by subst z;exact Xn g⟩
   rw [Ad3 (Ne.symm p)]at k
   exact s.own j xs a g k
def aW.fz (a:aW Γ B G Y h U H) (e:Ext G H G1 H1) (s:aW Γ B G1 Y h1 U H1) (r:au Γ G1 H1 w v) (f:aG Y U H w v) (g:w.d=y0 d): ∃G2,Ext G H G2 H1/\aW Γ B G2 Y h1 U H1/\aD Γ G2 H1 d v:=by
 obtain⟨G2,b,c,rd,_⟩:=ny e s.st a.st r f g
 exact⟨G2,b,⟨c,a.ext.trans a.hr b,s.hr,s.own⟩,rd⟩
def aW.dm (s:aW Γ B G Y h U H) (r:aD Γ G H d v):aW Γ B G (M.GI Y i (.v d)) h (U.set i (y0 v)) H:=aW.set s Ext.refl s r trivial λa z=>by cases z
theorem aW.aH: ∀ {is}{ds}{a}{Y b}{U},M.aH is ds Y=y0 b->ae Γ G H ds a->aW Γ B G Y h U H->aW Γ B G b h (g9 is a U) H/\is.length=a.length
 | [],[],_,_,_,_,e,rfl,s=>by cases e;exact⟨s,rfl⟩
 | [],_::_,_,_,_,_,e,_,_=>by simp [M.aH]at e
 | _::_,[],_,_,_,_,e,_,_=>by simp [M.aH]at e
 | i::is,d::ds,_,_,_,_,e,⟨v,r,rfl,g,c⟩,s=>by
  obtain⟨j,f⟩:=aW.aH (by simpa [M.aH]using e) c (s.dm g)
  exact⟨j,congrArg (· +1) f⟩
def nX (e:M.Gp tg one d Y=y0 Y') (r:aD Γ G H d x) (s:aW Γ B G Y h U H) (b: ∀c,aW Γ B G Y' h c H->Q c H):gM Γ tg one x U H Q:=by
 cases one with
 | true=>
  cases tg with
  | nil=>cases e
  | cons i m=>
   cases m with
   | cons _ _=>cases e
   | nil=>
    cases e
    exact⟨i,rfl,b _ (s.dm r)⟩
 | false=>
  cases d with
  | tup j=>
   obtain⟨a,n,rfl,g,f⟩:=r
   obtain⟨k,l⟩:=aW.aH (e) f s
   exact⟨G,j,n,a,rfl,g,f,l,b _ k⟩
  | _=>cases e
def aW.write (s:aW Γ B G Y h U H) (f:M.Gj Y i=y0 (.own xs)) (n:U[i]? =y0 (y0 (.ref a))) (r:ae Γ G H ys us):aW Γ B G (M.GI Y i (.own ys)) h U (aI H a (.lst us)):=by
 obtain⟨I,of,Z,X,_⟩:=xp s.st f n
 have hB:=s.own i xs a f n
 have mon:Mon G H G (aI H a (.lst us)):=⟨λb o z q=>by rw [ja (λe:b=a=>I (e▸z))];exact q,Aa6 _,λ_ _=>rfl,λ_ z=>z⟩
 have R:=Xn f
 have F:ai Γ G h (aI H a (.lst us)):=by
  refine⟨s.st.heap.len,λq c e=>⟨(s.st.heap.any q c e).1,(s.st.heap.any q c e).2.mon mon λo z=>by rw [ja (of q (s.st.heap.lt e))];exact z⟩,s.st.heap.inj,λb z=> ?_⟩
  obtain⟨o,q⟩:=s.st.heap.live b z
  exact⟨o,by rw [ja (λe:b=a=>I (e▸z))];exact q⟩
 refine⟨⟨by rw [Wi];exact s.st.len,λj w e=> ?_,λp q D w b L m g T Q=> ?_,F⟩,⟨λb o q N=> ?_,s.ext.le,s.ext.aV,s.ext.new,s.ext.fz,s.ext.old,λq A z=> ?_⟩,s.hr,λj D b m g=> ?_⟩
 ·rw [Qd]at e
  by_cases c:j=i/\i<Y.length
  ·rw [if_pos c]at e
   cases e
   obtain⟨rfl,_⟩:=c
   exact⟨.ref a,n,a,us,rfl,I,of,wb,r.mon mon⟩
  ·rw [if_neg c]at e
   have P:=λz=>c ⟨z,by subst z;exact Xn e⟩
   obtain⟨v,C,K⟩:=s.st.slot j w e
   refine⟨v,C,?_⟩
   cases w with
   | v d=>exact aD.mon mon K
   | own S=>
    obtain⟨b,bs,rfl,W,J,k,y⟩:=K
    have t:b≠a:=λz=>s.st.apart i j xs _ a (Ne.symm P) f e rfl n (z▸C)
    exact⟨b,bs,rfl,W,J,by rw [ja t];exact k,y.mon mon⟩
   | bor S=>
    obtain⟨b,bs,rfl,J,k,y⟩:=K
    have t:b≠a:=λz=>s.st.apart i j xs _ a (Ne.symm P) f e rfl n (z▸C)
    refine⟨b,bs,rfl,J,?_,y.mon mon⟩
    obtain k | ⟨o,k⟩:=k
    ·exact .inl (by rw [ja t];exact k)
    ·exact .inr ⟨o,by rw [ja t];exact k⟩
 ·rw [Qd]at m g
  have O: ∃l,M.Gj Y p=y0 (.own l):=by
   by_cases c:p=i/\i<Y.length
   ·exact⟨xs,by rw [c.1];exact f⟩
   ·rw [if_neg c]at m;exact⟨D,m⟩
  have x: ∃u,M.Gj Y q=y0 u/\gq u=true:=by
   by_cases c:q=i/\i<Y.length
   ·exact⟨.own xs,by rw [c.1];exact f,rfl⟩
   ·rw [if_neg c]at g;exact⟨w,g,T⟩
  obtain⟨l,O⟩:=O
  obtain⟨u,x,E⟩:=x
  exact s.st.apart p q l u b L O x E Q
 ·rw [ja (λe:b=a=>by rw [e,hB]at q;cases q)]
  exact s.ext.keep b o q N
 ·obtain⟨o,V⟩:=s.ext.cells q A z
  have:B.G.aV q≠a:=λe=>by
   have:=of q (Ab A s.ext.le)
   rw [s.ext.aV q A]at this
   exact this e
  exact⟨o,by rw [ja this];exact V⟩
 ·rw [Qd]at m
  by_cases c:j=i/\i<Y.length
  ·obtain⟨rfl,_⟩:=c
   rw [n]at g
   cases g
   exact hB
  ·rw [if_neg c]at m;exact s.own j D b m g
def aW.ig (s:aW Γ B G Y h U H) (p:h[r]? =y0 c0) (z:bx Γ G (aI H (G.aV r) o1) (G.aV r) c1):aW Γ B G Y (h.set r c1) U (aI H (G.aV r) o1):=by
 have A:=(Ac0.mp p).1
 have f:=s.st.heap.lt p
 have m:=s.st.heap.pw f
 have mon:Mon G H G (aI H _ o1):=⟨λb o w q=>by rw [ja (λe:b=G.aV r=>m (e▸w))];exact q,Aa6 _,λ_ _=>rfl,λ_ w=>w⟩
 have l:ai Γ G (h.set r c1) (aI H (G.aV r) o1):=by
  refine⟨by rw [Ae6];exact s.st.heap.len,λq c e=> ?_,s.st.heap.inj,λb w=> ?_⟩
  ·by_cases c:q=r
   ·subst c
    rw [Ad5 A]at e
    cases e
    exact⟨m,z⟩
   ·rw [Ad3 (Ne.symm c)]at e
    exact⟨(s.st.heap.any q _ e).1,(s.st.heap.any q _ e).2.mon mon λo w=>by rw [ja λx=>c (s.st.heap.inj q r (s.st.heap.lt e) f x)];exact w⟩
  ·obtain⟨o,q⟩:=s.st.heap.live b w
   exact⟨o,by rw [ja (λe:b=G.aV r=>m (e▸w))];exact q⟩
 refine⟨⟨s.st.len,λj w e=> ?_,s.st.apart,l⟩,⟨λb o q i=> ?_,s.ext.le,s.ext.aV,s.ext.new,s.ext.fz,s.ext.old,λq y w=> ?_⟩,s.hr,s.own⟩
 ·obtain⟨v,D,n⟩:=s.st.slot j w e
  refine⟨v,D,?_⟩
  cases w with
  | v d=>exact aD.mon mon n
  | own u=>
   obtain⟨b,bs,rfl,E,g,a,k⟩:=n
   exact⟨b,bs,rfl,E,g,by rw [ja (Ne.symm (g r f))];exact a,k.mon mon⟩
  | bor u=>
   obtain⟨b,bs,rfl,g,a,k⟩:=n
   refine⟨b,bs,rfl,g,?_,k.mon mon⟩
   obtain a | ⟨o,a⟩:=a
   ·exact .inl (by rw [ja (Ne.symm (g r f))];exact a)
   ·exact .inr ⟨o,by rw [ja (Ne.symm (g r f))];exact a⟩
 ·have t:b≠G.aV r:=λe=>by
   by_cases c:r<B.G.n
   ·exact i r c (by rw [← s.ext.aV r c];exact e.symm)
   ·have:=s.ext.new r (Am0.mp c) f
    rw [← e,q]at this
    cases this
  rw [ja t]
  exact s.ext.keep b o q i
 ·by_cases c:B.G.aV q=G.aV r
  ·exact⟨_,by rw [c];exact wb⟩
  ·obtain⟨o,C⟩:=s.ext.cells q y w
   exact⟨o,by rw [ja c];exact C⟩
def FI (a:ai Γ G h H) (c:r<G.n) (o):Mon G H G (aI H (G.aV r) o):=⟨λb o w q=>by rw [ja (λe:b=G.aV r=>a.pw c (e▸w))];exact q,Aa6 _,λ_ _=>rfl,λ_ w=>w⟩
def aW.cell (s:aW Γ B G Y h U H) (a:h[r]? =y0 (.lst xs)) (b:M.Gd ys=k9) (z:ae Γ G H ys us):aW Γ B G Y (h.set r (.lst ys)) U (aI H (G.aV r) (.lst us)):=
 s.ig a ⟨b,us,wb,z.mon (FI s.st.heap (s.st.heap.lt a) _)⟩
def aW.freeze (s:aW Γ B G Y h U H) (k:M.Gj Y i=y0 (.own xs)): ∃G',aW Γ B G' (M.GI Y i (.v (.lst xs))) h U H:=by
 obtain⟨v,l,a,x,rfl,E,of,o,D⟩:=s.st.slot i _ k
 have hB:=s.own i xs a k l
 refine⟨G.more a,⟨⟨by rw [Wi];exact s.st.len,λj w e=> ?_,λp q m w b n d f g u=> ?_,s.st.heap.more of ⟨_,o⟩⟩,s.ext.more hB,s.hr,λj m b d f=> ?_⟩⟩
 ·rw [Qd]at e
  by_cases c:j=i/\i<Y.length
  ·rw [if_pos c]at e
   cases e
   obtain⟨rfl,_⟩:=c
   exact⟨.ref a,l,a,x,rfl,.inl ⟨.inr rfl,.inl o⟩,D.mon (wn a)⟩
  ·rw [if_neg c]at e
   have y:=λz=>c ⟨z,by subst z;exact Xn e⟩
   obtain⟨v,r,C⟩:=s.st.slot j w e
   exact⟨v,r,C.more λg A=>s.st.apart i j xs w a (Ne.symm y) k e g l (A▸r)⟩
 ·rw [Qd]at d f
  by_cases c:p=i/\i<Y.length
  ·rw [if_pos c]at d;cases d
  ·rw [if_neg c]at d
   by_cases t:q=i/\i<Y.length
   ·rw [if_pos t]at f;cases f;cases g
   ·rw [if_neg t]at f;exact s.st.apart p q m w b n d f g u
 ·rw [Qd]at d
  by_cases c:j=i/\i<Y.length
  ·rw [if_pos c]at d;cases d
  ·rw [if_neg c]at d;exact s.own j m b d f
end
structure gO (Γ:Ge) (F:M.Fx) (X:Cx) (E:XK) (k:Nat) (cf:Cf):Prop extends Go Γ F X E k cf where
 i3:PassesOwn (model X.prog X.w) X.A X.env X.xe
 ka:X.stack=X.env::X.outer
 rB:X.env.frame=y0 X.env.locals
 ex:X.ex= []
 dA: ∀c,cf.dA.contains c=true->iK cf.sc (zg c)=true->(zg c==("__debug__" :Str))=false->fb Γ c/\ ∀(np k7 pos:Pos) (e:Expr) (es:List Expr) (t:TA),PA X (e::es) t->(∀ e'∈e::es,Ja e'=true) →
  PS X (.Raise (y0 (.Call (.Name (zg c) np) (e::es) [] k7)) u0 pos) (tN (Γ.ca c) E t)
 mV: ∀c f,cf.ob.er.contains (c,f)=true->iK cf.sc (zg c)=true->(zg c==("__debug__" :Str))=false->fb Γ c/\l4 Γ.K (Γ.ca c) (zg f)/\ ∀(np k7 pos:Pos) (e:Expr) (t:TA),PA X [e] t->Ja e=true →
  PS X (.Raise (y0 (.Call (.Name (zg c) np) [e] [] k7)) u0 pos) (uS (Γ.ca c) (zg f) E t)
 dv: ∀c,cf.dv.contains c=true->PySem.W.mroIn X.K (Γ.ca c) (.type "BaseException")=some true/\cf.own.contains c=true
section
variable {Γ:Ge}{F:M.Fx}{X:Cx}{E:XK}{k:Nat}{cf:Cf}
def wv (h:Xv cf i x=k9):cf.N[i]? =y0 x/\i9 cf.sc x=true:=by
 simpa [Xv]using h
def xy (h:wq cf i x=k9):cf.N[i]? =y0 x/\cf.sc.names.lookup x=y0 .local:=by
 simpa [wq]using h
def Cj (u:tD Γ E (M.eval F (.share a)) U H Q):tD Γ E (M.eval F a) U H Q:=by
 obtain⟨G,Y,h,s,p⟩:=u
 refine Qa s.heap Ext.refl s p λm C e g B j y i k x b=> ?_
 cases m with
 | own c=>
  obtain⟨l,A,rfl,t,w,r,q⟩:=k
  obtain⟨z,o,n⟩:=x
  cases o
  have b:ay Γ E G H (if M.Gd c=k9 then M.aU _ (e++ [.lst c])else .fail) _:=b
  by_cases f:M.Gd c=k9
  rotate_left
  ·rw [if_neg f]at b;exact b.elim
  rw [if_pos f]at b
  refine ay.val b (zK j n) (WQ i.heap t w r q f) ?_ trivial
  show e.length<g.n+1/\V.ref l= .ref (if e.length=g.n then l else g.aV e.length)
  rw [i.heap.len,if_pos rfl]
  exact⟨Ag7 _,rfl⟩
 | v d=>exact b.elim
 | bor c=>exact b.elim
def zd (h:xu v=k9):swapsWith v t l env=pure false:=by
 cases v<;>first | rfl | (simp [xu]at h)
def xR (a:Go Γ F X E k cf)(b:Xv cf i x=k9) (f:PE X v (tD Γ E (M.eval F m))) (c:swapsWith v (y0 (.Name x p)) pos.line X.env=pure y9):
 PS X (.Assign [.Name x p] v pos) (iq (tD Γ E (M.eval F m)) (zQ i)):=by
 obtain⟨e,d⟩:=wv b
 have b:=a.gB x d
 exact oY (by rw [a.N];exact a.nd) (by rw [a.N];exact e) b.1 f c b.2
def rY:M.E->Bool
 | .share _=>k9
 | .comp .. =>k9
 | _=>y9
def yd (h:qc cf m v=k9) (a:rY m=y9):xu v=true:=by
 cases v with
 | ListComp _ _ _ _=>cases m<;>first | exact bK h | (exact absurd (a) Ao5)
 | SetComp _ _ _ _=>cases m<;>first | exact bK h | (exact absurd (a) Ao5)
 | DictComp _ _ _ _ _=>cases m<;>first | exact bK h | (exact absurd (a) Ao5)
 | _=>rfl
def Hv (d:Cf) (a:Bool) (b:List Expr) (c:M.E):Bool:=bif a then(lC b λz r=>kZ r (eZ c&&qc d c z))else b.isEmpty
def Cs (h:qc cf (.comp tg one kk aA it y7 c elt) v=k9): ∃y t iter ifs scope p0,v= .ListComp y [⟨t,iter,ifs,0⟩] scope p0 ∧
 kd cf scope (jw cf t aA) kk aA/\(∀ i∈tg,i<kk)/\Qe { cf with sc:=scope,N:=jw cf t aA } tg one t=k9/\c8 cf it iter=k9/\qc { cf with sc:=scope,N:=jw cf t aA } elt y=k9 ∧
 Hv { cf with sc:=scope,N:=jw cf t aA } y7 ifs c=true:=by
 refine tY (λy g s p h=> ?_) v h
 refine kC (λg r h=> ?_) g h
 obtain⟨t,iter,ifs,z⟩:=g
 obtain⟨k,f,a,j,b,e,d⟩:=a7 h
 obtain⟨rfl,rfl⟩:=of_decide_eq_true k
 simp [decide_eq_true_eq]at a
 exact⟨y,t,iter,ifs,s,p,rfl,JD f,a,j,b,e,d⟩
def Ed (e:Go Γ F X E k cf)(q:Xv cf i x=k9)(h:qc cf (.comp tg one kk aA it y7 c elt) v=k9):
 PS X (.Assign [.Name x p] v pos) (iq (tD Γ E (M.eval F (.comp tg one kk aA it y7 c elt))) (zQ i)):=by
 have O:=(zc _ e h).1
 obtain⟨y,t,f,d,a,L,rfl,l,K,N,m,B,o⟩:=Cs h
 obtain⟨b,n⟩: ∃b,swapsWith (.ListComp y [⟨t,f,d,0⟩] a L) (y0 (.Name x p)) pos.line X.env=pure b:=⟨_,rfl⟩
 cases b with
 | false=>exact xR e q O n
 | true=>
  obtain⟨w,D⟩:=wv q
  have A: ∀C g s H,gy (qd X _ a C g s H) d (cD Γ E0 (kI F y7 c)):=λC g s H=>by
   have R:=Xx e l C g s H
   cases y7 with
   | true=>
    refine kC (λz r h=> ?_) d o
    refine kE (λh=> ?_) r h
    exact uj ((zc c R (a2 h).2).2 (a2 h).1)
   | false=>
    cases Af4.mp o
    intro j P U u Q I ⟨G,Y,h,J,p⟩
    exact rn j P U u Q I (p G u Ext.refl J.heap)
  exact jZ e w D n l (ZD l.aA) N K (XQ m) (l6 it e m) (λC g s H=>(zc elt (Xx e l C g s H) B).1) A
def Jb (a:Go Γ F X E k cf)(b:Xv cf i x=k9)(h:qc cf m v=k9) (c:rY m=y9):PS X (.Assign [.Name x p] v pos) (iq (tD Γ E (M.eval F m)) (zQ i)):=
 xR a b (zc m a h).1 (zd (yd h c))
theorem pz (b:Go Γ F X E k cf)(c:Xv cf i x=k9): ∀ m,qc cf m v=k9->PS X (.Assign [.Name x p] v pos) (iq (tD Γ E (M.eval F m)) (zQ i))
 | .share a,h=>PS.imp (pz b c a h) λD U H q=>Cj q
 | .comp ..,h=>Ed b c h
 | .dt,h=>Jb b c h rfl
 | .cP ..,h=>Jb b c h rfl
 | .var _,h=>Jb b c h rfl
 | .con _,h=>Jb b c h rfl
 | .int _,h=>Jb b c h rfl
 | .bl _,h=>Jb b c h rfl
 | .av,h=>Jb b c h rfl
 | .str _,h=>Jb b c h rfl
 | .tup _,h=>Jb b c h rfl
 | .lst _,h=>Jb b c h rfl
 | .bin ..,h=>Jb b c h rfl
 | .cmp ..,h=>Jb b c h rfl
 | .chain ..,h=>Jb b c h rfl
 | .d3 ..,h=>Jb b c h rfl
 | .neg _,h=>Jb b c h rfl
 | .inv _,h=>Jb b c h rfl
 | .not _,h=>Jb b c h rfl
 | .and ..,h=>Jb b c h rfl
 | .or ..,h=>Jb b c h rfl
 | .call ..,h=>Jb b c h rfl
 | .bi ..,h=>Jb b c h rfl
 | .dY ..,h=>Jb b c h rfl
 | .bY ..,h=>Jb b c h rfl
 | .ix ..,h=>Jb b c h rfl
 | .sl ..,h=>Jb b c h rfl
 | .fJ ..,h=>Jb b c h rfl
 | .iy ..,h=>Jb b c h rfl
 | .rev _,h=>Jb b c h rfl
 | .cE _,h=>Jb b c h rfl
 | .hH ..,h=>Jb b c h rfl
 | .da ..,h=>Jb b c h rfl
 | .xf ..,h=>Jb b c h rfl
def AW (q:Go Γ F X E k cf)(o:Xv cf i x=k9)(h:qc cf m v=k9):PS X (.Assign [.Name x p] v pos) (cc Γ E (M.exec F (.set i m))):=by
 refine PS.imp (pz q o m h) λD U H n=> ?_
 obtain⟨B,G,Y,h,s,p⟩:=n
 refine Xi s p λw v t g f b j c l a=> ?_
 cases w with
 | bor e=>exact a.elim
 | v d=>exact a g _ f (aW.set s b j c l λe z=>by cases z)
 | own r=>exact a g _ f (aW.set s b j c l λe z=>by cases z)
def D0 (l:Go Γ F X E k cf)(g:Xv cf i x=k9)(h:qc cf m v=k9):PS X (.Assign [.Name x p] v pos) (cc Γ E (M.exec F (.ak i m))):=by
 refine PS.imp (pz l g m h) λD U H b=> ?_
 obtain⟨B,G,Y,h,s,p⟩:=b
 refine Xi s p λw v u y n c o e r a=> ?_
 cases q:w.d with
 | none=>rw [q]at a;exact a.elim
 | some d=>
  rw [q]at a
  obtain⟨j,t,f,rd⟩:=aW.fz s c o e r q
  exact a j _ n (f.dm rd)
def QS :swapsWithSole [.Tuple ts n p] v l env=pure false:=by
 cases v<;>rfl
def XE (h:Xk v=k9):swappedStores [.Tuple ts n p] v env=pure none:=by
 cases v<;>first | rfl | (simp [Xk]at h)
def HI (e:Go Γ F X E k cf)(g:Jo cf is ts=k9) (l:Xk v=k9)(h:qc cf m v=k9):PS X (.Assign [.Tuple ts n p] v pos) (cc Γ E (M.exec F (.dN is m))):=by
 refine PS.imp (J1 (zc m e h).1 (Xo e (one:=y9) g) QS (XE l) rfl) λD U H f=> ?_
 obtain⟨B,G,Y,h,s,p⟩:=f
 refine Xi s p λw v o t r y u i z a=> ?_
 cases w with
 | v d=>
  cases d with
  | tup b=>
   have a:aS Γ E B (match M.aH is b Y with | some c=> .next c o | none=> .fail) D:=a
   cases q:M.aH is b Y with
   | none=>rw [q]at a;exact a.elim
   | some c=>
    rw [q]at a
    exact nX (show M.Gp is y9 (.tup b) Y=y0 c from q) i u λj x=>a t j r x
  | _=>exact a.elim
 | own _=>exact a.elim
 | bor _=>exact a.elim
def XS :swapsWithSole [.Subscript x y p] v l env=pure false:=by
 cases v<;>rfl
def zH :swappedStores [.Subscript x y p] v env=pure none:=by
 cases v<;>rfl
def uB (c:qh y=k9) (v):assign (.Subscript x y p) env v=(do
 let a ←holding [v] (eval x env)
 let b ←holding [v,a] (eval y env)
 standAt p
 holding [v,a,b] (setItem a b v)
 release [v,a,b] []):=by
 cases y<;>first | rfl | (simp [qh]at c)
def Ds (a:M.KR d=k9) (z:aD Γ G H d v):aD Γ G' H' d v:=by
 cases d with
 | av=>exact z
 | bl _=>exact z
 | int _=>exact z
 | str _=>exact z
 | _=>exact absurd (a) Ab9
def Xu (h:Jp cf i m e k7=k9): ∃x p apos,e= .Attribute (.Name x p) m apos/\cf.N[i]? =y0 x/\jV cf.sc x=k9/\cz x=k9/\(apos.endLine==k7.line)=true:=by
 refine mZ (λx n q h=> ?_) e h
 refine xq (λx p h=> ?_) x h
 obtain⟨h,a,d⟩:=a3 h
 obtain⟨f,b,c⟩:=hJ h
 cases of_decide_eq_true a
 exact⟨_,_,_,rfl,f,b,c,d⟩
def EM (n:Go Γ F X E k cf)(P:Jp cf i "append" f k7=true) (o:Ja v=true)(h:qc cf m v=true):PS X (.Expr (.Call f [v] [] k7) pos) (cc Γ E (M.exec F (.app i m))):=by
 obtain⟨x,p,r,rfl,j,Q,c,J⟩:=Xu P
 unfold cz at c
 rw [Aa7]at c
 have pv:=Ql (pos:=p) (by rw [n.N];exact j) (n.eW x Q) (by simpa using c.1) (by simpa using c.2)
 refine PS.imp (WI (nV PySem.F.plainAttrs_list PySem.F.slot_list_append PySem.F.type_list_append xU pv (Xb (zc m n h).1 wg (xa o)) rfl (by rw [xa o];rfl) J (xa o) rfl) (zd rfl)) λD U H A=> ?_
 obtain⟨B,G,Y,h,s,p⟩:=A
 rw [M.exec]at p
 cases q:M.Gj Y i with
 | none=>rw [q]at p;exact p.elim
 | some S=>
  rw [q]at p
  cases S with
  | v d=>exact p.elim
  | bor e=>exact p.elim
  | own e=>
   obtain⟨Z,l,a,N,rfl,z2,z3,R,z5⟩:=s.st.slot i _ q
   refine⟨.ref a,l,.inl ⟨rfl,N,a8.of R⟩,?_⟩
   refine Xi s p λw v j G1 H1 C T L V b=> ?_
   cases g:w.d with
   | none=>rw [g]at b;exact b.elim
   | some d=>
    rw [g]at b
    obtain⟨O,W,u,rd⟩:=aW.fz s C T L V g
    have b:aS Γ E B (if e.length<M.aZ then .next _ j else .fail) D:=b
    by_cases y:e.length<M.aZ
    ·rw [if_pos y]at b
     obtain⟨nf,of,K,I,z⟩:=xp u.st q l
     have t:=z.length
     exact⟨a,K,v,rfl,rfl,I,by have:=Qk;omega,b O U _ (u.write q l (z.append ⟨v,[],rfl,rd,rfl⟩))⟩
    ·rw [if_neg y]at b;exact b.elim
def E4 (t:Go Γ F X E k cf)(S:Jp cf i "extend" f k7=true) (u:Ja v=true)(h:qc cf m v=true):PS X (.Expr (.Call f [v] [] k7) pos) (cc Γ E (M.exec F (.ext i m))):=by
 obtain⟨x,p,z,rfl,n,T,g,N⟩:=Xu S
 unfold cz at g
 rw [Aa7]at g
 have pv:=Ql (pos:=p) (by rw [t.N];exact n) (t.eW x T) (by simpa using g.1) (by simpa using g.2)
 refine PS.imp (WI (nV PySem.F.plainAttrs_list PySem.F.slot_list_extend PySem.F.type_list_extend Iu pv (Xb (zc m t h).1 wg (xa u)) rfl (by rw [xa u];rfl) N (xa u) rfl) (zd rfl)) λD U H K=> ?_
 obtain⟨B,G,Y,h,s,p⟩:=K
 rw [M.exec]at p
 cases q:M.Gj Y i with
 | none=>rw [q]at p;exact p.elim
 | some W=>
  rw [q]at p
  cases W with
  | v d=>exact p.elim
  | bor l=>exact p.elim
  | own l=>
   obtain⟨v0,o,a,R,rfl,z2,z3,V,z5⟩:=s.st.slot i _ q
   refine⟨.ref a,o,.inl ⟨rfl,R,a8.of V⟩,?_⟩
   refine Xi s p λw v n Z H1 e1 I Q f1 c=> ?_
   cases w with
   | v d=>exact c.elim
   | bor r=>exact c.elim
   | own r=>
    obtain⟨b,j,rfl,_,_,O,e⟩:=Q
    have c:aS Γ E B (if l.length+r.length<M.aZ then .next _ n else .fail) D:=c
    by_cases C:l.length+r.length<M.aZ
    ·rw [if_pos C]at c
     obtain⟨nf,of,P,L,J⟩:=xp I.st q o
     have A:=J.length
     have y:=e.length
     exact⟨a,b,P,j,rfl,rfl,L,O,by have:=Qk;lia,c Z U _ (I.write q o (J.append e))⟩
    ·rw [if_neg C]at c;exact c.elim
def tj (r:ae Γ G H D vs)(e:D[D.length-1]? =y0 d): ∃v,vs[vs.length-1]? =y0 v/\aD Γ G H d v/\ae Γ G H (D.take (D.length-1)) vs.dropLast:=by
 obtain⟨v,b,c⟩:=ae.get r e
 have a:=r.length
 rw [a]at b
 refine⟨v,b,c,?_⟩
 rw [List.dropLast_eq_take,←a]
 exact r.take _
theorem Zs: ∀ {xs ys},M.Gd xs=k9->M.Gd ys=k9->M.Gd (xs++ys)=k9
 | [],_,_,h=>h
 | x::xs,ys,h,a=>by
  have h:=h
  rw [Aa7]at h
  show(M.Gc x&&M.Gd (xs++ys))=k9
  rw [h.1,Zs h.2 a];rfl
theorem zu: ∀ {xs}(n),M.Gd xs=k9->M.Gd (xs.take n)=k9
 | _,0,_=>by rw [List.take_zero]
 | [],n+1,_=>rfl
 | x::xs,n+1,h=>by
  have h:=h
  rw [Aa7]at h
  show(M.Gc x&&M.Gd (xs.take n))=k9
  rw [h.1,zu n h.2];rfl
def Em (j:Go Γ F X E k cf)(W:Jp cf i "append" f k7=true) (n:Ja v=true)(h:qc cf m v=true):PS X (.Expr (.Call f [v] [] k7) pos) (cc Γ E (M.exec F (.cm i m))):=by
 obtain⟨x,p,t,rfl,A,h2,c,P⟩:=Xu W
 unfold cz at c
 rw [Aa7]at c
 have pv:=Ql (pos:=p) (by rw [j.N];exact A) (j.eW x h2) (by simpa using c.1) (by simpa using c.2)
 refine PS.imp (WI (nV PySem.F.plainAttrs_list PySem.F.slot_list_append PySem.F.type_list_append xU pv (Xb (zc m j h).1 wg (xa n)) rfl (by rw [xa n];rfl) P (xa n) rfl) (zd rfl)) λD U H K=> ?_
 obtain⟨B,G,Y,h,s,p⟩:=K
 rw [M.exec]at p
 cases q:M.bw h (M.Gj Y i)with
 | none=>rw [q]at p;exact p.elim
 | some L=>
  obtain⟨r0,S⟩:=L
  rw [q]at p
  obtain⟨I,l,e,_⟩:=ww s.st q
  refine⟨_,I,.inl ⟨rfl,l,a8.of e⟩,?_⟩
  refine Xi s p λw v A G1 H1 N s1 R f1 a=> ?_
  split at a
  ·rename_i d r z O J
   obtain⟨V,e2,g,rd⟩:=aW.fz s N s1 R f1 O
   by_cases y:z.length<M.aZ/\M.Gc d=k9
   ·rw [if_pos y]at a
    obtain⟨b,Q,T,C⟩:=ww g.st J
    obtain⟨q1,o⟩:=Xw J
    have u:=C.length
    have Z:=by rw [I]at b;exact Ae4.inj (Ae4.inj b)
    exact⟨_,Q,v,Z,rfl,T,by have:=Qk;omega,a V U _ (g.cell o (Zs (g.st.heap.pure r z o) (by simp_all)) (C.append ⟨v,[],rfl,rd,rfl⟩))⟩
   ·rw [if_neg y]at a;exact a.elim
  ·exact a.elim
def aW.bw (s:aW Γ B G Y h U H)(a:h[r]? =y0 (.lst xs))(rd:aD Γ G H d v):aD Γ G (aI H (G.aV r) (.lst us)) d v:=by
 obtain⟨c,f,g,_⟩:=s.st.heap.cell r xs a
 exact rd.mon ⟨λb o w q=>by rw [ja (λe:b=G.aV r=>c (e▸w))];exact q,Aa6 _,λ_ _=>rfl,λ_ w=>w⟩
def DT (a:Go Γ F X E k cf)(b:Xv cf j x0=true) (I:Jp cf i "pop" f k7=true):PS X (.Assign [.Name x0 p0] (.Call f [] [] k7) pos) (cc Γ E (M.exec F (.e8 i j))):=by
 obtain⟨x,p,m,rfl,C,K,c,w⟩:=Xu I
 unfold cz at c
 rw [Aa7]at c
 have pv:=Ql (pos:=p) (by rw [a.N];exact C) (a.eW x K) (by simpa using c.1) (by simpa using c.2)
 obtain⟨u,A⟩:=wv b
 have b:=a.gB x0 A
 refine PS.imp (oY (by rw [a.N];exact a.nd) (by rw [a.N];exact u) b.1 (rb PySem.F.plainAttrs_list PySem.F.slot_list_pop PySem.F.type_list_pop vJ pv rfl w) (zd rfl) b.2) λD U H t=> ?_
 obtain⟨B,G,Y,h,s,p⟩:=t
 rw [M.exec]at p
 cases q:M.bw h (M.Gj Y i)with
 | none=>rw [q]at p;exact p.elim
 | some v=>
  obtain⟨r,e⟩:=v
  rw [q]at p
  obtain⟨J,n,o,rv⟩:=ww s.st q
  obtain⟨N,g⟩:=Xw q
  refine⟨_,J,.inl ⟨rfl,n,a8.of o⟩,?_⟩
  cases l:e[e.length-1]? with
  | none=>simp only [l]at p;exact p.elim
  | some d=>
   simp only [l]at p
   obtain⟨y,z,rd,L⟩:=tj rv l
   exact⟨_,n,y,rfl,rfl,o,z,p G _ _ ((s.cell g (zu _ (s.st.heap.pure r e g)) L).dm (s.bw g rd))⟩
def D4 (m:Go Γ F X E k cf)(A:Jo cf is ts=true) (K:Jp cf i "pop" f k7=true):PS X (.Assign [.Tuple ts n p0] (.Call f [] [] k7) pos) (cc Γ E (M.exec F (.eV i is))):=by
 obtain⟨x,p,o,rfl,J,N,a,z⟩:=Xu K
 unfold cz at a
 rw [Aa7]at a
 have pv:=Ql (pos:=p) (by rw [m.N];exact J) (m.eW x N) (by simpa using a.1) (by simpa using a.2)
 refine PS.imp (J1 (rb PySem.F.plainAttrs_list PySem.F.slot_list_pop PySem.F.type_list_pop vJ pv rfl z) (Xo m (one:=y9) A) QS (XE rfl) rfl) λD U H v=> ?_
 obtain⟨B,G,Y,h,s,p⟩:=v
 rw [M.exec]at p
 cases q:M.bw h (M.Gj Y i)with
 | none=>rw [q]at p;exact p.elim
 | some w=>
  obtain⟨r,e⟩:=w
  rw [q]at p
  obtain⟨L,t,u,rv⟩:=ww s.st q
  obtain⟨Q,g⟩:=Xw q
  refine⟨_,L,.inl ⟨rfl,t,a8.of u⟩,?_⟩
  cases j:e[e.length-1]? with
  | none=>simp [j]at p;exact p.elim
  | some d=>
   simp [j]at p
   cases d with
   | tup b=>
    have p:aS Γ E B (match M.aH is b Y with
     | some l=> .next l _
     | none=> .fail) D:=p
    cases c:M.aH is b Y with
    | none=>rw [c]at p;exact p.elim
    | some l=>
     rw [c]at p
     obtain⟨y,C,rd,O⟩:=tj rv j
     refine⟨_,t,y,rfl,rfl,u,C,?_⟩
     exact nX (show M.Gp is y9 (.tup b) Y=y0 l from c) (s.bw g rd) (s.cell g (zu _ (s.st.heap.pure r e g)) O) λI P=>p G I _ P
   | av=>exact p.elim
   | bl _=>exact p.elim
   | int _=>exact p.elim
   | str _=>exact p.elim
   | lst _=>exact p.elim
   | ref _=>exact p.elim
   | exc _ _=>exact p.elim
   | err _ _ _=>exact p.elim
def X9 (e:Go Γ F X E k cf)(h1:cf.N[i]? =y0 x) (h2:jV cf.sc x=k9) (C:cz x=k9) (z:qh y=k9)(J:qc cf kx y=k9) (h:qc cf (.bl k9) v=k9):PS X (.Assign [.Subscript (.Name x p) y p2] v pos) (cc Γ E (M.exec F (.dO i kx))):=by
 refine PS.imp (J1 (zc _ e h).1 (ra (ZM e h1 h2 C) (zc kx e J).1 CQ (uB z)) XS zH rfl) λD U H m=> ?_
 obtain⟨B,G,Y,h,s,p⟩:=m
 rw [M.exec]at p
 refine⟨G,Y,h,s.st,?_⟩
 intro V S A f Q il _
 have j:=s.on A f
 cases q:M.Pf h (M.Gj Y i)with
 | none=>rw [q]at p;exact p.elim
 | some o=>
  obtain⟨L,t⟩:=o
  rw [q]at p
  have sl:=(xr j.st q).1
  refine⟨_,sl,?_⟩
  refine Xi j p λw O h1 K R N l u T b=> ?_
  split at b
  ·rename_i I r n g
   split at b
   ·rename_i P
    obtain⟨a,d⟩:=xr l.st g
    have c:=by rw [sl]at a;exact Ae4.inj (Ae4.inj a)
    cases u
    exact⟨I,_,n,rfl,c,il,d,by have:=Qk;lia,b K U _ (l.ig (j5 g).2 wb)⟩
   ·exact b.elim
  ·exact b.elim
def Ce (c:Go Γ F X E k cf)(h1:cf.N[i]? =y0 x) (h2:jV cf.sc x=k9) (e:cz x=k9) (K:qh y=k9)(O:qc cf kx y=k9) (h:qc cf m v=k9):PS X (.Assign [.Subscript (.Name x p) y p2] v pos) (cc Γ E (M.exec F (.eF i kx m))):=by
 unfold cz at e
 rw [Aa7]at e
 have pv:=Ql (pos:=p) (by rw [c.N];exact h1) (c.eW x h2) (by simpa using e.1) (by simpa using e.2)
 refine PS.imp (J1 (zc m c h).1 (ra pv (zc kx c O).1 LR (uB K)) XS zH rfl) λD U H t=> ?_
 obtain⟨B,G,Y,h,s,p⟩:=t
 refine Xi s p λw v h1 G1 H1 R o J f1 b=> ?_
 cases q:M.Gj Y i with
 | none=>rw [q]at b;exact b.elim
 | some P=>
  rw [q]at b
  cases P with
  | v d=>exact b.elim
  | bor u=>exact b.elim
  | own u=>
   obtain⟨W,f,a,V,rfl,z2,z3,z4,Z⟩:=o.st.slot i _ q
   refine⟨.ref a,f,?_⟩
   refine Xi o b λkw T h2 l z S g C Q p2=> ?_
   split at p2
   ·rename_i d j
    split at p2
    ·rename_i L
     split at p2
     ·rename_i n N
      cases (C)
      have rd:aD Γ l z d v:=Ds L J
      obtain⟨nf,of,I,A,r⟩:=xp g.st q f
      refine⟨_,I,j,n,rfl,rfl,A,by rw [← r.length];exact N,?_⟩
      exact p2 l U _ (g.write q f (ae.set rd n r))
     ·exact p2.elim
    ·exact p2.elim
   ·exact p2.elim
end
section
variable {Γ:Ge}{E:XK}{B:Bs}{G:Gh}{Y:M.Sl}{h:M.AH}{U:St}{H:Hp}{D:iz}
def La (c:M.Gj Y i=y0 (.own xs)) (b:U[i]? =y0 (y0 (.ref a))):xi Y U H a=none:=by
 unfold xi
 rw [if_pos ⟨i,xs,c,b⟩]
def J3 (e:xi Y U H a=y0 o):H a=y0 o:=by
 unfold xi at e
 split at e
 ·cases e
 ·exact e
def HZ (s:ax Γ G Y h U H):ai Γ G h (xi Y U H) where
 len:=s.heap.len
 any:=λr c e=>⟨(s.heap.any r c e).1,(s.heap.any r c e).2.mon (Qu s) λo z=>by rw [Qj λ⟨i,f,b,d⟩=>(xp s b d).2.1 r (s.heap.lt e) rfl];exact z⟩
 inj:=s.heap.inj
 live:=λa z=>by
  obtain⟨o,q⟩:=s.heap.live a z
  exact⟨o,by rw [Qj λ⟨i,f,b,d⟩=>(xp s b d).1 z];exact q⟩
def nq (G:Gh) (Y:M.Sl) (h:M.AH) (U:St) (H:Hp):Bs:=⟨G,xi Y U H,h⟩
def ZB (s:aW Γ B G Y h U H):Ext B.G B.H G (xi Y U H) where
 keep:=λa o e b=>by
  rw [Qj λ⟨i,c,d,f⟩=>by rw [s.own i c a d f]at e;cases e]
  exact s.ext.keep a o e b
 le:=s.ext.le
 aV:=s.ext.aV
 new:=s.ext.new
 fz:=s.ext.fz
 old:=s.ext.old
 cells:=λr j z=>by
  obtain⟨o,q⟩:=s.ext.cells r j z
  refine⟨o,?_⟩
  rw [Qj λg=>by
   obtain⟨i,c,d,f⟩:=g
   obtain⟨u,z⟩:=z
   rw [s.own i c _ d f]at z
   cases z]
  exact q
def Il (s:aW Γ B G Y h U H):aW Γ (nq G Y h U H) G Y h U H where
 st:=s.st
 ext:=⟨λa o e _=>J3 e,Aa6 _,λ_ _=>rfl,λr h1 h2=>absurd h1 (Ao1.mpr h2),λ_ z=>z,λ_ z=> .inl z,λr hr ⟨o,z⟩=>⟨o,J3 z⟩⟩
 hr:=HZ s.st
 own:=λi xs a e1 e2=>La e1 e2
def QM (s:aW Γ B G Y h U H)(b:aW Γ (nq G Y h U H) G2 Y2 h2 U2 H2):aW Γ B G2 Y2 h2 U2 H2:=
 ⟨b.st,(ZB s).trans s.hr b.ext,s.hr,λi c a d e=>(ZB s).none s.hr (b.own i c a d e)⟩
def LZ (s:aW Γ B G Y h U H)(p:aS Γ E B o D):aS Γ E (nq G Y h U H) o D:=by
 cases o with
 | next l j=>exact λc g b i=>p c g b (QM s i)
 | brk l j=>exact λc g b i=>p c g b (QM s i)
 | cont l j=>exact λc g b i=>p c g b (QM s i)
 | ret w j=>
  refine λc v b e k r f=>p c v b ((ZB s).trans s.hr e) k r ?_
  cases w with
  | v d=>trivial
  | own m=>obtain⟨a,n,q⟩:=f;exact⟨a,n,(ZB s).none s.hr q⟩
  | bor m=>exact f
 | exc d j=>exact λc b e k=>p c b ((ZB s).trans s.hr e) k
 | fail=>exact p
end
section
variable {Γ:Ge}{F:M.Fx}{X:Cx}{E:XK}{k:Nat}{cf:Cf}
def CL.hide (s:ax Γ G Y h U H) (c:CL Γ ds l vs G H) (b: ¬ ∃ i xs,M.Gj Y i=y0 (.own xs)/\U[i]? =y0 (y0 (.ref l))):CL Γ ds l vs G (xi Y U H):=by
 obtain⟨a,e⟩:=c
 refine⟨?_,e.mon (Qu s)⟩
 obtain⟨a,d⟩ | a:=a
 ·refine .inl ⟨?_,d⟩
  obtain a | ⟨o,a⟩:=a
  ·exact .inl (by rw [Qj b];exact a)
  ·exact .inr ⟨o,by rw [Qj b];exact a⟩
 ·exact .inr a
def CL.iA (s:ax Γ G Y h U H) (a:iS Γ G H l vs) (b:ae Γ G H ds vs):CL Γ ds l vs G (xi Y U H):=by
 refine⟨?_,b.mon (Qu s)⟩
 obtain a | a:=a
 ·exact(CL.hide s ⟨.inl ⟨a.2,s.heap.off a.1⟩,b⟩ λ⟨j,e,c,d⟩=>(xp s c d).1 a.1).1
 ·exact .inr a
def CT.hide (s:ax Γ G Y h U H) (c:CT Γ ds l vs G H):CT Γ ds l vs G (xi Y U H):=⟨c.1.mon (Qu s),c.2.mon (Qu s)⟩
def ZC (h:M.Kc a=y0 i):a= .var i:=by
 cases a<;>first | (cases h;rfl) | cases h
def D1 (h:qc cf (.var i) e=k9): ∃x p,e= .Name x p/\cf.N[i]? =y0 x/\jV cf.sc x=k9/\cz x=true:=by
 refine xq (λx p h=> ?_) e h
 exact⟨_,_,rfl,hJ h⟩
def nL (b:Go Γ F X E k cf)(h:qc cf (.var i) e=k9):PE X e (mY i):=by
 obtain⟨x,p,rfl,d,c,a⟩:=D1 h
 unfold cz at a
 rw [Aa7]at a
 exact Ql (by rw [b.N];exact d) (b.eW x c) (by simpa using a.1) (by simpa using a.2)
def jT (s:ax Γ G Y h U H)(e:M.Gj Y i=y0 w) (o:w= .v (.lst xs)\/w= .bor xs):
 ∃l a,U[i]? =y0 (y0 (.ref l))/\CL Γ xs l a G H/\CL Γ xs l a G (xi Y U H):=by
 obtain⟨v,g,r⟩:=s.slot i w e
 obtain rfl | rfl:=o
 ·obtain⟨l,a,rfl,b,d⟩:=r
  exact⟨l,a,g,⟨b.mM s.heap,d⟩,CL.iA s b d⟩
 ·obtain⟨l,a,rfl,b,d,p⟩:=r
  have c:CL Γ xs l a G H:=⟨.inl ⟨d,b⟩,p⟩
  refine⟨l,a,g,c,c.hide s λ⟨j,m,k,n⟩=> ?_⟩
  have f:j≠i:=λz=>by rw [z,e]at k;cases k
  exact s.apart j i m _ l f k e rfl n g
def zB (i:ax Γ G0 Y h0 U H0) (s:ax Γ G Y h U H)(r:au Γ G H w v) (f:aG Y U H0 w v) (g:w= .v (.lst xs)\/w= .own xs):
 ∃l a,v= .ref l/\CL Γ xs l a G H/\CL Γ xs l a G (xi Y U H):=by
 obtain rfl | rfl:=g
 ·obtain⟨l,a,rfl,d,b⟩:=r
  exact⟨l,a,rfl,⟨d.mM s.heap,b⟩,CL.iA s d b⟩
 ·obtain⟨l,a,rfl,d,b,n,m⟩:=r
  obtain⟨q,k,hn⟩:=f
  cases k
  have c:CL Γ xs l a G H:=⟨.inl ⟨.inl n,b⟩,m⟩
  refine⟨l,a,rfl,c,c.hide s λ⟨j,t,p,e⟩=> ?_⟩
  obtain⟨o,z⟩:=i.cC p rfl e
  rw [hn]at z;cases z
def yz (j:Go Γ F X E k cf)(T:qc cf a e=k9):PI X tg e (fh Γ E k9 (M.Gr F (.seq a))):=by
 cases q:M.Kc a with
 | some i=>
  cases ZC q
  refine PI.imp (oa (nL j T)) λU H R K=> ?_
  obtain⟨G,Y,h,s,p⟩:=K
  have p:ay Γ E G H (M.R.of h ((M.Gj Y i).bind M.ko)) λu _ o f=> ∀J C,Js Γ J u C->C o f->(k9=k9->C o (xi Y U f))->R J f:=p
  cases B:M.Gj Y i with
  | none=>rw [B]at p;exact p.elim
  | some w=>
   rw [B]at p
   have lst: ∀ {b},_->ay Γ E G H (.ok b h) (λu _ o f=> ∀J C,Js Γ J u C->C o f->(k9=k9->C o (xi Y U f))->R J f) →
    ∃v,U[i]? =y0 (y0 v)/\((∃ a,v= .ref a/\(∃ b,a8 X.K H a b)/\R (kB X.K a) H)\/(∃ a,v= .ref a/\(∃ b,bI X.K H a b)/\R (kG X.K a) H)\/ ∃z,v= .str z/\R (iG z) H):=λ{b} Q p=>by
    obtain⟨l,m,t,y,N⟩:=jT s B Q
    exact⟨_,t,.inl ⟨l,rfl,⟨m,j.K▸y.1.sq⟩,p G H Ext.refl s.heap _ _ (CL.walk j.K) y λ_=>N⟩⟩
   cases w with
   | v d=>
    cases d with
    | lst b=>exact lst (.inl rfl) p
    | tup b=>
     obtain⟨v,t,l,m,rfl,x,S⟩:=s.slot i _ B
     have c:CT Γ b l m G H:=⟨x,S⟩
     exact⟨_,t,.inr (.inl ⟨l,rfl,⟨m,j.K▸x.sq⟩,p G H Ext.refl s.heap _ _ (CT.walk j.K) c λ_=>c.hide s⟩)⟩
    | av=>exact p.elim
    | bl _=>exact p.elim
    | int _=>exact p.elim
    | str z=>
     obtain⟨v,t,r⟩:=s.slot i _ B
     cases (show v= .str (cy z)from r)
     exact⟨_,t,.inr (.inr ⟨_,rfl,p G H Ext.refl s.heap _ _ wC trivial λ_=>trivial⟩)⟩
    | ref _=>exact p.elim
    | exc _ _=>exact p.elim
    | err _ _ _=>exact p.elim
   | bor b=>exact lst (.inr rfl) p
   | own b=>exact p.elim
 | none=>
  refine PI.imp (oa (zc a j T).1) λU H R K=> ?_
  obtain⟨G,Y,h,s,p⟩:=K
  have p:=by
   unfold M.Gr at p
   dsimp only at p
   rw [q]at p
   exact p
  refine Qa s.heap Ext.refl s p λP I V D n L Z A O W g=> ?_
  have lst: ∀ {b},(P= .v (.lst b)\/P= .own b)->ay Γ E G H (.ok b V) (λu _ o f=> ∀J C,Js Γ J u C->C o f->(k9=k9->C o (xi Y U f))->R J f) →
   ((∃ a,I= .ref a/\(∃ b,a8 X.K n a b)/\R (kB X.K a) n)\/(∃ a,I= .ref a/\(∃ b,bI X.K n a b)/\R (kG X.K a) n)\/ ∃z,I= .str z/\R (iG z) n):=λ{b} Q p=>by
   obtain⟨l,m,t,y,N⟩:=zB s A O W Q
   exact .inl ⟨l,t,⟨m,j.K▸y.1.sq⟩,p D n L A.heap _ _ (CL.walk j.K) y λ_=>N⟩
  cases P with
  | v d=>
   cases d with
   | lst b=>exact lst (.inl rfl) g
   | tup b=>
    obtain⟨l,m,rfl,x,S⟩:=O
    have c:CT Γ b l m D n:=⟨x,S⟩
    exact .inr (.inl ⟨l,rfl,⟨m,j.K▸x.sq⟩,g D n L A.heap _ _ (CT.walk j.K) c λ_=>c.hide A⟩)
   | av=>exact g.elim
   | bl _=>exact g.elim
   | int _=>exact g.elim
   | str z=>
    cases (show I= .str (cy z)from O)
    exact .inr (.inr ⟨_,rfl,g D n L A.heap _ _ wC trivial λ_=>trivial⟩)
   | ref _=>exact g.elim
   | exc _ _=>exact g.elim
   | err _ _ _=>exact g.elim
  | own b=>exact lst (.inr rfl) g
  | bor b=>exact g.elim
def HY (f:Go Γ F X E k cf)(P:bA cf.sc "reversed" g=true) (o:Ja x=true) (K:qc cf a x=true):PI X tg (.Call g [x] [] pos) (fh Γ E true (M.Gr F (.rev a))):=by
 obtain⟨Z,rfl,I,h3⟩:=Zb P
 cases q:M.Kc a with
 | some i=>
  cases ZC q
  refine PI.imp (nJ (f.gl _ I) (f.blt _ pC) (Xb (nL f K) wg (xa o)) (xa o)) λU H R r=> ?_
  obtain⟨G,Y,h,s,p⟩:=r
  have p:ay Γ E G H (M.R.of h ((M.Gj Y i).bind M.Py)) λm _ j c=> ∀J C,Js Γ J m C->C j c->(k9=k9->C j (xi Y U c))->R J c:=p
  cases D:M.Gj Y i with
  | none=>rw [D]at p;exact p.elim
  | some w=>
   rw [D]at p
   have lst: ∀ {b},(w= .v (.lst b)\/w= .bor b)->ay Γ E G H (.ok b.reverse h) (λm _ j c=> ∀J C,Js Γ J m C->C j c->(k9=k9->C j (xi Y U c))->R J c) →
    ∃v,U[i]? =y0 (y0 v)/\ ∃a b,[v]= [.ref a]/\a8 X.K H a b/\R (la X.K a b.length) H:=λ{b} A p=>by
    obtain⟨l,z,t,n,u⟩:=jT s D A
    exact⟨_,t,l,z,rfl,f.K▸n.1.sq,p G H Ext.refl s.heap _ _ (CL.fV f.K) n λ_=>u⟩
   cases w with
   | v d=>
    cases d with
    | lst b=>exact lst (.inl rfl) p
    | tup _=>exact p.elim
    | av=>exact p.elim
    | bl _=>exact p.elim
    | int _=>exact p.elim
    | str _=>exact p.elim
    | ref _=>exact p.elim
    | exc _ _=>exact p.elim
    | err _ _ _=>exact p.elim
   | bor b=>exact lst (.inr rfl) p
   | own b=>exact p.elim
 | none=>
  refine PI.imp (nJ (f.gl _ I) (f.blt _ pC) (Xb (zc a f K).1 wg (xa o)) (xa o)) λU H R r=> ?_
  obtain⟨G,Y,h,s,p⟩:=r
  have p:=by
   unfold M.Gr at p
   dsimp only at p
   rw [q]at p
   exact p
  refine Qa s.heap Ext.refl s p λy T Q S B N W L O V e=> ?_
  have lst: ∀ {b},(y= .v (.lst b)\/y= .own b)->ay Γ E G H (.ok b.reverse Q) (λm _ j c=> ∀J C,Js Γ J m C->C j c->(k9=k9->C j (xi Y U c))->R J c) →
   ∃a b,[T]= [.ref a]/\a8 X.K B a b/\R (la X.K a b.length) B:=λ{b} A p=>by
   obtain⟨l,z,t,n,u⟩:=zB s L O V A
   exact⟨l,z,by rw [t],f.K▸n.1.sq,p S B N L.heap _ _ (CL.fV f.K) n λ_=>u⟩
  cases y with
  | v d=>
   cases d with
   | lst b=>exact lst (.inl rfl) e
   | tup _=>exact e.elim
   | av=>exact e.elim
   | bl _=>exact e.elim
   | int _=>exact e.elim
   | str _=>exact e.elim
   | ref _=>exact e.elim
   | exc _ _=>exact e.elim
   | err _ _ _=>exact e.elim
  | own b=>exact lst (.inr rfl) e
  | bor b=>exact e.elim
theorem JA: ∀(ds) (i),(M.KS i ds).length=ds.length
 | [],_=>rfl
 | d::ds,i=>congrArg (· +1) (JA ds (i+1))
theorem X7: ∀(ds) (j i) (h:i<ds.length),(M.KS j ds)[i]? =y0 (.tup [.int ((j+i:Nat):Int),ds[i]])
 | d::ds,j,0,_=>rfl
 | d::ds,j,i+1,h=>by
  have:=X7 ds (j+1) i (by simpa using h)
  rw [show j+1+i=j+(i+1)by omega]at this
  simpa [M.KS]using this
def Ln: "enumerate" ∈bN:=by decide
def CT.lW {K:Aa5}(g:K=Γ.K):Js Γ (ph K l) (M.KS 0 ds) (CT Γ ds l vs) where
 go:=by
  rintro i G H ⟨c,d⟩ b
  rw [JA]at b
  obtain⟨v,e,_⟩:=d.get (Aa4 b)
  exact⟨vs,v,g▸c.sq,e⟩
 eU:=by
  rintro i G H x m ⟨c,d⟩ b ⟨p,y,j,ex,t,k⟩
  rw [JA]at b
  subst ex t
  obtain⟨v,e,rd⟩:=d.get (Aa4 b)
  have:=k vs (g▸c.sq)
  rw [e]at this
  cases this
  refine⟨G.more p,wh _ j,λh f=>f.fj _ j,.tup [.int i,ds[i]],by rw [X7 ds 0 i b,Ag2],⟨p,[.int i,y],rfl,.inl ⟨.inr rfl,wb⟩,⟨.int i,[y],rfl,rfl,⟨y,[],rfl,?_,rfl⟩⟩⟩⟩
  have s:Mon G H (G.more p) (aI H p (.tup [.int i,y])):=⟨λa o u q=>by rw [ja (Wa q j)];exact q,Aa6 _,λ_ _=>rfl,λ_ z=>Or.inl z⟩
  exact rd.mon s
 stop:=by
  rintro i G H ⟨c,d⟩ n r
  rw [JA]at n r
  exact⟨vs,g▸c.sq,by rw [← d.length];omega⟩
 keep:=λG H w m h z e f=>⟨z.1.mon (e.mon f),z.2.ext e f⟩
def Dd (e:Go Γ F X E k cf)(z:bA cf.sc "enumerate" g=true) (j:Ja x=true) (u:PE X x (tD Γ E (M.eval F a))):PI X (.Tuple elts x1 tp) (.Call g [x] [] pos) (fh Γ E true (M.Gr F (.enum a))):=by
 obtain⟨I,rfl,A,J⟩:=Zb z
 refine PI.imp (B3 (e.gl _ A) (e.blt _ Ln) (Xb u wg (xa j)) (xa j)) λU H R r=> ?_
 obtain⟨G,Y,h,s,p⟩:=r
 have p:=p
 refine Qa s.heap Ext.refl s p λy K D o n t C q w L b=> ?_
 cases y with
 | v d=>
  cases d with
  | tup f=>
   obtain⟨l,i,rfl,m,B⟩:=w
   have c:CT Γ f l i o n:=⟨m,B⟩
   exact⟨l,i,rfl,e.K▸m.sq,b o n t q.heap _ _ (CT.lW e.K) c λ_=>c.hide q⟩
  | av=>exact b.elim
  | bl _=>exact b.elim
  | int _=>exact b.elim
  | str _=>exact b.elim
  | lst _=>exact b.elim
  | ref _=>exact b.elim
  | exc _ _=>exact b.elim
  | err _ _ _=>exact b.elim
 | own f=>exact b.elim
 | bor f=>exact b.elim
def Fy: "zip" ∈bN:=by decide
theorem CZ.walk {K:Aa5}(d:K=Γ.K):Js Γ (n7 K l a) ((xs.zip ys).map λp=> .tup [p.1,p.2]) (λG H=>CL Γ xs l vs G H/\CT Γ ys a us G H) where
 go:=by
  rintro i G H ⟨c,b⟩ j
  rw [Aa,Ak4]at j
  obtain⟨v,e,_⟩:=c.2.get (Aa4 (show i<xs.length by omega))
  obtain⟨w,k,_⟩:=b.2.get (Aa4 (show i<ys.length by omega))
  exact⟨vs,v,us,w,d▸c.1.sq,e,d▸b.1.sq,k⟩
 eU:=by
  rintro i G H x y ⟨c,b⟩ j ⟨p,m,g,t,ex,F,n,r⟩
  rw [Aa,Ak4]at j
  subst ex F
  have C:i<xs.length:=by omega
  have D:i<ys.length:=by omega
  obtain⟨v,e,rd⟩:=c.2.get (Aa4 C)
  obtain⟨w,k,s⟩:=b.2.get (Aa4 D)
  have B:=n vs (d▸c.1.sq)
  rw [e]at B
  cases B
  have u:=r us (d▸b.1.sq)
  rw [k]at u
  cases u
  have A:Mon G H (G.more p) (aI H p (.tup [m,g])):=⟨λa o I q=>by rw [ja (Wa q t)];exact q,Aa6 _,λ_ _=>rfl,λ_ z=>Or.inl z⟩
  refine⟨G.more p,wh _ t,λh f=>f.fj _ t,.tup [xs[i],ys[i]],?_,⟨p,[m,g],rfl,.inl ⟨.inr rfl,wb⟩,⟨m,[g],rfl,rd.mon A,⟨g,[],rfl,s.mon A,rfl⟩⟩⟩⟩
  rw [Ac5,Aa4 (by rw [Ak4];exact j),List.getElem_zip]
  rfl
 stop:=by
  rintro i G H ⟨c,b⟩ n r
  rw [Aa,Ak4]at n r
  exact⟨vs,us,d▸c.1.sq,d▸b.1.sq,by rw [← c.2.length,←b.2.length];omega⟩
 keep:=λG H E y h ⟨c,b⟩ e f=>⟨(CL.walk d).keep G H E y h c e f,⟨b.1.mon (e.mon f),b.2.ext e f⟩⟩
def EU (e:Go Γ F X E k cf)(Q:bA cf.sc "zip" g=true) (u:Ja x=true) (i:Ja y=true) (I:PE X x (tD Γ E (M.eval F a))) (L:PE X y (tD Γ E (M.eval F b))):PI X (.Tuple elts x1 tp) (.Call g [x,y] [] pos) (fh Γ E true (M.Gr F (.zip a b))):=by
 obtain⟨p0,rfl,t,h3⟩:=Zb Q
 refine PI.imp (yB (e.gl _ t) (e.blt _ Fy) (Xb I (Xb L wg (xa i)) (xa u)) (by rw [xa u,xa i];rfl) (by rw [xa i];rfl)) λU H R B=> ?_
 obtain⟨G,Y,h,s,p⟩:=B
 have p:=p
 refine Qa s.heap Ext.refl s p λO v1 h1 G1 H1 C Z A N W T=> ?_
 refine Qa s.heap C A T λw2 v2 t r n K j f J f2 c=> ?_
 cases O with
 | v d=>exact c.elim
 | bor P=>exact c.elim
 | own P=>
  cases w2 with
  | own _=>exact c.elim
  | bor _=>exact c.elim
  | v d=>
   cases d with
   | tup D=>
    obtain⟨l,S,rfl,z,m⟩:=zB s f (N.ext j A.heap) W (.inr rfl)
    obtain⟨l2,o,rfl,w,V⟩:=J
    have q:CT Γ D l2 o r n:=⟨w,V⟩
    exact⟨l,l2,S,o,rfl,e.K▸z.1.sq,e.K▸w.sq,c r n K f.heap _ _ (CZ.walk e.K) ⟨z,q⟩ λ_=>⟨m,q.hide f⟩⟩
   | av=>exact c.elim
   | bl _=>exact c.elim
   | int _=>exact c.elim
   | str _=>exact c.elim
   | lst _=>exact c.elim
   | ref _=>exact c.elim
   | exc _ _=>exact c.elim
   | err _ _ _=>exact c.elim
def LP (c:Go Γ F X E k cf)(o:oz it tg=k9) (h:oH cf it e=k9):PI X tg e (fh Γ E k9 (M.Gr F it))/\Ze e=true:=by
 cases it with
 | seq a=>exact⟨yz c (a2 h).2,(a2 h).1⟩
 | aw a=>
  refine Qi (λg x l p h=> ?_) e h
  refine kE (λh=> ?_) l h
  refine kC (λx r h=> ?_) x h
  refine kE (λh=> ?_) r h
  obtain⟨d,f,i⟩:=a3 h
  exact⟨QD c d f (zc a c i).1,rfl⟩
 | bS a b=>
  refine Qi (λg x l p h=> ?_) e h
  refine kE (λh=> ?_) l h
  refine kC (λx r h=> ?_) x h
  refine kC (λy r h=> ?_) r h
  refine kE (λh=> ?_) r h
  obtain⟨d,f,i,m,n⟩:=a5 h
  exact⟨jD c d f i (zc a c m).1 (zc b c n).1,rfl⟩
 | rev a=>
  refine Qi (λg x l p h=> ?_) e h
  refine kE (λh=> ?_) l h
  refine kC (λx r h=> ?_) x h
  refine kE (λh=> ?_) r h
  obtain⟨d,f,i⟩:=a3 h
  exact⟨HY c d f i,rfl⟩
 | zip a b=>
  cases tg with
  | Tuple j q s=>
   refine Qi (λg x l p h=> ?_) e h
   refine kE (λh=> ?_) l h
   refine kC (λx r h=> ?_) x h
   refine kC (λy r h=> ?_) r h
   refine kE (λh=> ?_) r h
   obtain⟨d,f,i,m,n⟩:=a5 h
   exact⟨EU c d f i (zc a c m).1 (zc b c n).1,rfl⟩
  | _=>exact bK o
 | enum a=>
  cases tg with
  | Tuple j q s=>
   refine Qi (λg x l p h=> ?_) e h
   refine kE (λh=> ?_) l h
   refine kC (λx r h=> ?_) x h
   refine kE (λh=> ?_) r h
   obtain⟨d,f,i⟩:=a3 h
   exact⟨Dd c d f (zc a c i).1,rfl⟩
  | _=>exact bK o
end
section
variable {Γ:Ge}{F:M.Fx}{X:Cx}{E:XK}{k:Nat}{cf:Cf}
def Hx (c:Go Γ F X E k cf)(b:xu v=k9)(h:qc cf m v=k9):PS X (.Expr v pos) (cc Γ E (M.exec F (.ex m))):=by
 refine PS.imp (WI (zc m c h).1 (zd b)) λD U H a=> ?_
 obtain⟨B,G,Y,h,s,p⟩:=a
 exact Xi s p λw v l e d i g j n f=>f e U d g
def El (s:aW Γ B G Y h U H)(f:aG Y U H w v) (e: ∀xs,w≠ .bor xs):aG [] [] B.H w v:=by
 cases w with
 | v d=>trivial
 | own xs=>obtain⟨a,b,c⟩:=f;exact⟨a,b,s.ext.none s.hr c⟩
 | bor xs=>exact absurd rfl (e xs)
def yp (n:Go Γ F X E k cf)(h:qc cf m v=k9):PS X (.Return (y0 v) pos) (cc Γ E (M.exec F (.ret m))):=by
 cases q:M.Kc m with
 | some i=>
  cases ZC q
  refine PS.imp (v7 (nL n h)) λD U H f=> ?_
  obtain⟨B,G,Y,h,s,p⟩:=f
  rw [M.exec,q]at p
  dsimp only at p
  cases e:M.Gj Y i with
  | none=>rw [e]at p;exact p.elim
  | some w=>
   rw [e]at p
   obtain⟨v,j,r⟩:=s.st.slot i w e
   refine⟨v,j,?_⟩
   cases w with
   | bor b=>exact p.elim
   | v d=>exact p G v H s.ext s.st.heap r trivial
   | own b=>
    have u:=r
    obtain⟨a,A,rfl,_⟩:=u
    exact p G _ H s.ext s.st.heap r ⟨a,rfl,s.own i b a e j⟩
 | none=>
  refine PS.imp (v7 (zc m n h).1) λD U H f=> ?_
  obtain⟨B,G,Y,h,s,p⟩:=f
  have p:aS Γ E B ((M.eval F m Y h).dj λw h=>match w with
   | .bor _=> .fail
   | w=> .ret w h) D:=by
   rw [M.exec,q]at p;exact p
  refine Xi s p λw v C t o y c l x g=> ?_
  cases w with
  | bor b=>exact g.elim
  | v d=>exact g t v o c.ext c.st.heap l trivial
  | own b=>exact g t v o c.ext c.st.heap l (El s x λb z=>by cases z)
def Dg (l:PT X x (cD Γ E (M.Gs F c))) (j:cK X ys (cc Γ E (M.execs F a))) (k:cK X zs (cc Γ E (M.execs F b))):PS X (.If x ys zs pos) (cc Γ E (M.exec F (.iff c a b))):=by
 refine PS.imp (IG l j k) λD U H i=> ?_
 obtain⟨B,G,Y,h,s,p⟩:=i
 refine Z4 s p λt d e n m g f=> ?_
 cases t with
 | true=>exact mu ⟨B,e,Y,d,g,f⟩
 | false=>exact m1 ⟨B,e,Y,d,g,f⟩
def yO {st:Stmt}(h1:PS X st (cc Γ E (M.exec F s))) (h2:cK X sts (cc Γ E (M.execs F ss))):cK X (st::sts) (cc Γ E (M.execs F (.cons s ss))):=by
 refine cK.imp (yi h1 h2) λD U H c=> ?_
 obtain⟨B,G,Y,h,g,p⟩:=c
 rw [M.execs]at p
 refine⟨B,G,Y,h,g,?_⟩
 cases q:M.exec F s Y h with
 | next b a=>rw [q]at p;exact λf i j e=>⟨B,f,b,a,e,p⟩
 | ret w a=>rw [q]at p;exact p
 | brk b a=>rw [q]at p;exact p
 | cont b a=>rw [q]at p;exact p
 | exc d a=>rw [q]at p;exact p
 | fail=>rw [q]at p;exact p
def BD:cK X [] (cc Γ E (M.execs F .nil)):=cK.imp LW λD U H ⟨B,G,Y,h,s,p⟩=>p G U H s
def WR (h2:cK X sts (cc Γ E (M.execs F ss))):cK X sts (cc Γ E (M.execs F (.cons (.freeze i) ss))):=by
 refine cK.imp h2 λD U H a=> ?_
 obtain⟨B,G,Y,h,s,p⟩:=a
 rw [M.execs,M.exec]at p
 cases q:M.Gj Y i with
 | none=>rw [q]at p;exact⟨B,G,Y,h,s,p⟩
 | some w=>
  rw [q]at p
  cases w with
  | v d=>exact⟨B,G,Y,h,s,p⟩
  | bor c=>exact⟨B,G,Y,h,s,p⟩
  | own c=>
   obtain⟨e,b⟩:=s.freeze q
   exact⟨B,e,_,h,b,p⟩
def yo (I:gO Γ F X E k cf)(J:PT X x (cD Γ E (M.Gs F c))) (C:cK X ys (cc Γ E (M.execs F b))):PS X (.While x ys [] pos) (cc Γ E (M.exec F (.k6 n c b))):=by
 refine PS.imp (Ef I.i3 J C) λD U H A=> ?_
 obtain⟨B,G,Y,h,s,p⟩:=A
 refine⟨λm U H=> ∃G Y h,aW Γ B G Y h U H/\aS Γ E B (M.KO (λY h=>M.Gs F c Y h) (λY h=>M.execs F b Y h) m Y h) D,⟨n,G,Y,h,s,p⟩,?_⟩
 rintro m U H ⟨G,Y,h,s,p⟩
 cases m with
 | zero=>exact p.elim
 | succ m=>
  refine Z4 s p λt l y K L z a=> ?_
  cases t with
  | false=>exact m1 (a y U K z)
  | true=>
   refine mu ⟨_,λu v w=>⟨m,Ag7 _,w⟩,B,y,Y,l,z,?_⟩
   have a:aS Γ E B (match M.execs F b Y l with
    | .next f g=>M.KO (λY h=>M.Gs F c Y h) (λY h=>M.execs F b Y h) m f g
    | .cont f g=>M.KO (λY h=>M.Gs F c Y h) (λY h=>M.execs F b Y h) m f g
    | .brk f g=> .next f g
    | o=>o) D:=a
   cases q:M.execs F b Y l with
   | next i e=>rw [q]at a;exact λr u v j=>⟨r,i,e,j,a⟩
   | cont i e=>rw [q]at a;exact λr u v j=>⟨r,i,e,j,a⟩
   | ret w e=>rw [q]at a;exact a
   | brk i e=>rw [q]at a;exact a
   | exc d e=>rw [q]at a;exact a
   | fail=>rw [q]at a;exact a
def Hc (z:gO Γ F X E k cf)(he:oz it t=k9) (ht:Qe cf tg one t=k9) (hi:oH cf it iter=k9) (hb:cK X ys (cc Γ E (M.execs F b))):
 PS X (.For t iter ys [] pos) (cc Γ E (M.exec F (.for tg one it b))):=by
 obtain⟨li,ls⟩:=LP z.toGo he hi
 refine PS.imp (De z.i3 z.calm li (Xo z.toGo ht) hb (jX ls)) λD U H qq=> ?_
 obtain⟨B,G,Y,h,s,p⟩:=qq
 rw [M.exec]at p
 refine⟨G,Y,h,s.st,?_⟩
 cases q:M.Gr F it Y h with
 | exc d W=>rw [q]at p;exact aS.exc s p
 | fail=>rw [q]at p;exact p
 | ok j W=>
  rw [q]at p
  intro G1 H1 e hr J C v c0 K
  have Z:=s.on e hr
  have p1:=LZ Z p
  have cB:=K rfl
  have s2:=Il Z
  refine⟨λi m L r=> ∃u y n,(m=j.length-i/\i<=j.length)/\aW Γ _ u y n L r/\aS Γ E _ (M.Gq _ (λY h=>M.execs F b Y h) (j.drop i) y n) D,
   ⟨j.length,G1,Y,W,⟨by simp,Ah5 _⟩,s2,p1⟩,?_⟩
  rintro i m L r ⟨u,y,n,⟨rfl,hi'⟩,l,a⟩
  have Q:=v.keep _ _ _ _ _ cB l.ext l.hr
  by_cases g:i<j.length
  ·refine .inr ⟨v.go i u r Q g,_,λU2 H2 w=>⟨j.length-(i+1),by omega,w⟩,λx R hy=> ?_⟩
   obtain⟨G4,x4,T,d,V,P⟩:=v.eU i u r x R Q g hy
   have l:=l.on x4 (T _ l.st.heap)
   have I:j.drop i=d::j.drop (i+1):=by
    rw [Al8 g]
    rw [Aa4 g]at V
    cases V
    rfl
   rw [I,M.Gq]at a
   cases O:M.Gp tg one d y with
   | none=>rw [O]at a;exact a.elim
   | some A=>
    rw [O]at a
    refine nX O P l λU2 s3=>⟨_,G4,A,n,s3,?_⟩
    have a:aS Γ E _ (match M.execs F b A n with
     | .next f c=>M.Gq _ (λY h=>M.execs F b Y h) _ f c
     | .cont f c=>M.Gq _ (λY h=>M.execs F b Y h) _ f c
     | .brk f c=> .next f c
     | o=>o) D:=a
    cases q:M.execs F b A n with
    | next f c=>rw [q]at a;exact λS U3 H3 N=>⟨S,f,c,⟨rfl,by omega⟩,N,a⟩
    | cont f c=>rw [q]at a;exact λS U3 H3 N=>⟨S,f,c,⟨rfl,by omega⟩,N,a⟩
    | ret w c=>rw [q]at a;exact a
    | brk f c=>rw [q]at a;exact a
    | exc d c=>rw [q]at a;exact a
    | fail=>rw [q]at a;exact a
  ·have ei:i=j.length:=by lia
   subst ei
   rw [List.drop_length]at a
   exact .inl ⟨v.stop _ u r Q (Aa6 _) (Aa6 _),a u L r l⟩
theorem qI: ∀ {es}{xs}{Y}{h}{ds}{h'},bf cf es xs=k9->M.Gg F es Y h= .ok ds h'->ds.length=xs.length
 | .nil,xs,_,_,_,_,c,e=>by
  cases Af4.mp c
  rw [M.Gg]at e;cases e;rfl
 | .cons a es,xs,Y,h,ds,h',c,e=>by
  refine kC (λx r c=> ?_) xs c
  obtain⟨w,g,f,e⟩:=Jd e
  obtain⟨r,d,b,e⟩:=Jd e
  cases e
  rw [Ab7,Ab7,qI (a2 c).2 b]
theorem Zy: ∀(Y) (i j),M.Gj (Y.set i u0) j=if j=i then u0 else M.Gj Y j
 | [],i,j=>by simp
 | x::r,0,0=>by simp
 | x::r,0,j+1=>by simp
 | x::r,i+1,0=>by simp
 | x::r,i+1,j+1=>by simpa using Zy r i j
def aW.clear (s:aW Γ B G Y h U H):aW Γ B G (Y.set i u0) h (U.set i u0) H:=by
 have ne: ∀ {j w},M.Gj _ j=y0 w->j≠i/\M.Gj Y j=y0 w:=λ{j w} e=>by
  rw [Zy]at e
  split at e
  ·cases e
  ·rename_i c;exact⟨c,e⟩
 have f: ∀ {j},j≠i->(U.set i u0)[j]? =U[j]? :=λ{j} c=>Ad3 (Ne.symm c)
 refine⟨⟨by rw [Ae6,Ae6];exact s.st.len,λj w e=> ?_,λp q g w a k b d n l=> ?_,s.st.heap⟩,s.ext,s.hr,λj g a b d=> ?_⟩
 ·obtain⟨c,e⟩:=ne e
  obtain⟨v,o,t⟩:=s.st.slot j w e
  exact⟨v,by rw [f c];exact o,t⟩
 ·obtain⟨r,b⟩:=ne b
  obtain⟨m,d⟩:=ne d
  rw [f r]at l
  rw [f m]
  exact s.st.apart p q g w a k b d n l
 ·obtain⟨c,b⟩:=ne b
  rw [f c]at d
  exact s.own j g a b d
def aW.mv (s:aW Γ B G Y h U H)(e:M.Gj Y j=y0 (.own xs)) (t:U[j]? =y0 (y0 (.ref a))):aW Γ B G (M.GI (Y.set j u0) i (.own xs)) h (U.set i (y0 (.ref a))) H:=by
 have d: ∀ {k w},M.Gj (M.GI _ i (.own xs)) k=y0 w->(k=i/\i<Y.length/\w= .own xs)\/(k≠i/\k≠j/\M.Gj Y k=y0 w):=λ{k w} q=>by
  rw [Qd]at q
  by_cases c:k=i/\i<(Y.set j u0).length
  ·rw [if_pos c]at q
   cases q
   exact .inl ⟨c.1,by have:=c.2;rw [Ae6]at this;exact this,rfl⟩
  ·rw [if_neg c,Zy]at q
   split at q
   ·cases q
   ·rename_i F
    refine .inr ⟨λz=>c ⟨z,?_⟩,F,q⟩
    rw [Ae6,←z]
    exact Xn q
 have m: ∀ {k},k≠i->(U.set i (y0 (V.ref a)))[k]? =U[k]? :=λ{k} F=>Ad3 (Ne.symm F)
 have y:i<Y.length->(U.set i (y0 (V.ref a)))[i]? =y0 _:=λf=>Ad5 (by rw [← s.st.len];exact f)
 refine⟨⟨by rw [Wi,Ae6,Ae6];exact s.st.len,λk w q=> ?_,λp q r w b o I g K l=> ?_,s.st.heap⟩,s.ext,s.hr,λk r b I g=> ?_⟩
 ·obtain⟨rfl,f,rfl⟩ | ⟨n,C,q⟩:=d q
  ·obtain⟨v,x,D⟩:=s.st.slot j _ e
   rw [t]at x
   cases x
   exact⟨_,y f,D⟩
  ·obtain⟨v,x,D⟩:=s.st.slot k w q
   exact⟨v,by rw [m n];exact x,D⟩
 ·obtain⟨rfl,f,z⟩ | ⟨n,C,u⟩:=d I
  ·obtain⟨rfl,_,_⟩ | ⟨E,J,A⟩:=d g
   ·exact absurd rfl o
   ·rw [y f]at l
    cases l
    rw [m E]
    exact s.st.apart j q xs w a (Ne.symm J) e A K t
  ·rw [m n]at l
   obtain⟨rfl,f,z⟩ | ⟨E,J,A⟩:=d g
   ·rw [y f]
    intro L
    cases L
    exact s.st.apart p j r _ a C u e rfl l t
   ·rw [m E]
    exact s.st.apart p q r w b o u A K l
 ·obtain⟨rfl,f,z⟩ | ⟨n,C,u⟩:=d I
  ·rw [y f]at g
   cases g
   exact s.own j xs a e t
  ·rw [m n]at g
   exact s.own k r b u g
def HX (b:Go Γ F X E k cf)(c:Xv cf i x=k9) (h1:cf.N[j]? =y0 y) (h2:jV cf.sc y=k9) (f:cz y=k9):PS X (.Assign [.Name x p] (.Name y p') pos) (cc Γ E (M.exec F (.mv i j))):=by
 unfold cz at f
 rw [Aa7]at f
 have pv:=Ql (pos:=p') (by rw [b.N];exact h1) (b.eW y h2) (by simpa using f.1) (by simpa using f.2)
 obtain⟨m,o⟩:=wv c
 have c:=b.gB x o
 refine PS.imp (oY (by rw [b.N];exact b.nd) (by rw [b.N];exact m) c.1 pv (zd rfl) c.2) λD U H l=> ?_
 obtain⟨B,G,Y,h,s,q⟩:=l
 rw [M.exec]at q
 cases e:M.Gj Y j with
 | none=>rw [e]at q;exact q.elim
 | some r=>
  rw [e]at q
  cases r with
  | v d=>exact q.elim
  | bor n=>exact q.elim
  | own n=>
   obtain⟨u,g,a,t,rfl,A,C,z,w⟩:=s.st.slot j _ e
   exact⟨.ref a,g,q G _ H (s.mv e g)⟩
def HR (b:gO Γ F X E k cf)(n:bA cf.sc c g=k9) (v:cf.dA.contains c=k9) (m:(x::xs).length<=1000) (a:bf cf es (x::xs)=k9):
 PS X (.Raise (y0 (.Call g (x::xs) [] k7)) u0 pos) (cc Γ E (M.exec F (.raise c es))):=by
 obtain⟨C,rfl,t,u⟩:=Zb n
 obtain⟨i,l⟩:=b.dA c v t u
 refine PS.imp (l _ _ _ _ _ _ (du es b.toGo a) (Je a)) λD U H f=> ?_
 obtain⟨B,G,Y,h,s,p⟩:=f
 rw [M.exec]at p
 refine⟨G,Y,h,s.st,?_⟩
 cases q:M.Gg F es Y h with
 | exc d o=>rw [q]at p;exact aS.exc s p
 | fail=>rw [q]at p;exact p
 | ok z o=>
  rw [q]at p
  intro y w e j A r
  refine⟨?_,(p y w (s.ext.trans s.hr e) j).1 c rfl i⟩
  rw [← r.length,qI a q]
  exact Ah4 (zm m)
def L5 (j:gO Γ F X E k cf)(u:bA cf.sc c g=k9) (I:cf.ob.er.contains (c,f)=k9) (l:bf cf (.cons e .nil) [x]=k9):
 PS X (.Raise (y0 (.Call g [x] [] k7)) u0 pos) (cc Γ E (M.exec F (.cV c f e))):=by
 obtain⟨K,rfl,z,C⟩:=Zb u
 obtain⟨o,w,t⟩:=j.mV c f I z C
 refine PS.imp (t _ _ _ _ _ (gI _ j.toGo l) (Je l _ Aa3)) λD U H m=> ?_
 obtain⟨B,G,Y,h,s,p⟩:=m
 rw [M.exec]at p
 refine⟨G,Y,h,s.st,?_⟩
 cases q:M.Gm F _ Y h with
 | exc d y=>rw [q]at p;exact aS.exc s p
 | fail=>rw [q]at p;exact p
 | ok b y=>
  rw [q]at p
  intro N L n i J r
  cases b with
  | nil=>exact p.elim
  | cons d b=>
   cases b with
   | cons _ _=>exact p.elim
   | nil=>
    obtain⟨v,O,rfl,rd,rfl⟩:=r
    refine⟨v,rfl,λA a=> ?_⟩
    exact(p _ _ ((s.ext.trans s.hr n).trans s.hr (wh _ a)) (i.fj _ a)).2 c f d rfl o w A v (.inr rfl) wb (rd.ext (wh _ a) i)
def Ff (a:fb Γ c) (d:w∈Γ.own) (b:(M.Kz Γ.cl 8 c).contains w=k9):PySem.W.kitCls Γ.K (.ref (Γ.ca c)) (.ref (Γ.ca w))=y0 true:=by
 have h:=a.own w d
 rw [b]at h
 unfold Ad4 at h
 split at h
 ·rename_i e
  have e:=by simpa using e
  rw [← e]
  exact a.k.slf
 ·exact h
theorem Go.fm (a:Go Γ F X E k cf):Go Γ F X.fm E0 k cf:=⟨a.N,a.K,a.cl,a.ow,a.nd,a.eW,a.kz,a.gB,a.lU,a.gl,a.calm,a.room,a.eK,λc U H s e u _ i=>by
 obtain⟨x,r,t,B,q,_,_,_,_,_,_,_,_,_,_,j⟩:=i
 exact j.elim,a.blt,a.con,λf n=>by
 obtain⟨b,l,d,m,o,p,g⟩:=(a.fn f n).imp λb h=>h.ex
 exact⟨b,⟨l,d,m,o,p,g⟩⟩,a.cls,a.fld,a.kK,a.gH⟩
theorem PS.fm {st:Stmt}(h:PS X.fm st t):PS X st t:=λa s U H D I q=>wpAny_mono (h a s U H D (I.dh _) q) (λ_ _ z=>SP.bR z) λ_ _ z=>False.elim z
def bU.imp {st:Stmt}(h:bU X wx n v wp vp np ap hp st t) (k: ∀D U H,t' D U H->t D U H):bU X wx n v wp vp np ap hp st t':=λa s U H D c I q b=>h a s U H D c I (k _ _ _ q) b
def BU (i:gO Γ F X E k cf)(G:cf.own.contains c=k9) (A:aW Γ B G1 Y h1 U H1) (r:Ext G1 H1 G2 H2) (f:ai Γ G2 h2 H2)
 (p:aS Γ E B (match M.bY F.cl (.v d) [c]with
   | some true=> .next ((M.GI (M.GI Y nm (.v d)) o (.v d)).set nm u0) h2
   | _=> .fail) D):
 nU Γ (λn g H2=> ∃C,n= .ref C/\gd X.fm.K C/\PySem.W.kitCls X.fm.K (.ref C) (.ref (Γ.ca c))=y0 k9/\ ∀x,H2 x=u0->D.nx (((U.set nm (y0 (.ref x))).set o (y0 (.ref x))).set nm u0) (aI H2 x (fA x C g))) d G2 H2:=by
 have h: ∀ a g,M.bY F.cl _ [c]=y0 ([c].any (M.Kz F.cl 8 a).contains)->fb Γ a->(∀ y,H2 y=u0->aD Γ _ _ d _) →
  ∃C,Value.ref _= .ref C/\gd X.fm.K C/\PySem.W.kitCls X.fm.K _ _=y0 k9/\ ∀y,H2 y=u0->D.nx (((U.set nm (y0 (.ref y))).set o (y0 (.ref y))).set nm u0) (aI H2 y (fA y C g)):=λa g ix b j=>by
  rw [ix]at p
  cases m: [c].any (M.Kz F.cl 8 a).contains with
  | false=>rw [m]at p;exact p.elim
  | true=>
   rw [m]at p
   have z:(M.Kz Γ.cl 8 a).contains c=true:=by rw [← i.cl];simpa using m
   refine⟨_,rfl,i.K▸b.k,i.K▸Ff b (by rw [← i.ow];exact Aj7.mp G) z,λy e=> ?_⟩
   have s:=(A.on r f).on (wh _ e) (f.fj (fA y (Γ.ca a) g) e)
   have rd:=j y e
   exact p _ _ _ ((s.dm rd).dm rd).clear
 refine⟨λa l b=> ?_,λa I J l b t w u v q H=> ?_⟩
 ·subst l
  exact h a u0 rfl b λy e=> .inl ⟨rfl,y,rfl,.inr rfl,wb,b⟩
 ·subst l
  exact h a _ rfl b λy e=>⟨y,w,u,rfl,.inr rfl,.inl v,wb,by rw [ja (Wa q e)];exact q,b,t,H.ext (wh _ e) f⟩
def sP (b:gO Γ F X E k cf)(Z:bA cf.sc f g=k9) (hf:cf.fns.contains f=k9) (r:bf cf es (x::xs)=k9)
 (hw:bA cf.sc c (.Name (zg c) p1)=k9) (hc:cf.dv.contains c=k9) (P:wq cf i a=k9) (hn:wq cf nm n=k9) (l:cz n=k9) (hv:wq cf iv v=k9):
 bU X.fm (zg c) n v p1 vp np ap hp (.Assign [.Name a gp] (.Call g (x::xs) [] cp) aq) (cc Γ E λY h=>M.Pr F.call F.cl (y0 i) f c nm iv Y (M.Gg F es Y h)):=by
 obtain⟨p0,rfl,y,h3⟩:=Zb Z
 obtain⟨_,_,Q,h5⟩:=Zb hw
 obtain⟨W,fa,fd,w,bd,kp,O⟩:=(b.fn f hf).imp λW h=>h.ex
 obtain⟨R,K⟩:=b.dv c hc
 obtain⟨N,a2⟩:=xy P
 obtain⟨n1,n2⟩:=xy hn
 obtain⟨v1,S⟩:=xy hv
 have m:=Je r
 unfold cz at l
 rw [Aa7]at l
 refine bU.imp (Ek (λ_ _ z=>z) b.ka b.rB b.ex w b.room (b.gl _ y) O kp bd (du es b.toGo.fm r) (b.gl _ Q) (b.cls c K) R (by show X.N.Nodup;rw [b.N];exact b.nd) (by show X.N[i]? =_;rw [b.N];exact N) (b.kz a a2) (by show X.N[nm]? =_;rw [b.N];exact n1) (b.kz n n2) (by show X.N[iv]? =_;rw [b.N];exact v1) (b.kz v S)
  (zd rfl) (zd rfl) h3 h5 (by simpa using l.1) (xa (m _ Aa3)) (xv λe r=>m e (Aa1 _ r))) λD U H ⟨B,G,Y,h,s,p⟩=> ?_
 refine⟨G,Y,h,s.st,?_⟩
 dsimp only at p
 cases q:M.Gg F es Y h with
 | exc d u=>rw [q]at p;exact p.elim
 | fail=>rw [q]at p;exact p.elim
 | ok T u=>
  rw [q]at p
  intro G1 H1 L o vs V
  have J:=s.on L o
  refine⟨G1,u,_,o,qA V,zE T,?_⟩
  unfold M.Pr at p
  dsimp only at p
  cases A:F.call f _ u with
  | fail=>rw [A]at p;exact p.elim
  | ok w' y=>
   rw [A]at p
   intro I C t j v' rv _
   cases w' with
   | own _=>exact p.elim
   | bor _=>exact p.elim
   | v d=>exact p I _ C ((J.on t j).dm rv)
  | exc d y=>
   rw [A]at p
   exact λI C t j=>BU b K J t j p
def CK (h:nE cf c nm iv hs=k9): ∃w n v i e j m,hs= [.ExceptHandler (y0 w) (y0 n) [.Assign [.Name v i] (.Name n e) j] m]/\bA cf.sc c w=k9/\cf.dv.contains c=k9/\wq cf nm n=k9/\cz n=k9/\wq cf iv v=true:=by
 refine kC (λx r h=> ?_) hs h
 refine kE (λh=> ?_) r h
 refine AL (λw n b p h=> ?_) x h
 refine kS (λw h=> ?_) w h
 refine kS (λn h=> ?_) n h
 refine kC (λa r h=> ?_) b h
 refine kE (λh=> ?_) r h
 refine fX (λo y p h=> ?_) a h
 refine kC (λt r h=> ?_) o h
 refine kE (λh=> ?_) r h
 refine xq (λv p h=> ?_) t h
 refine xq (λs p h=> ?_) y h
 obtain⟨k,l,q,f,d⟩:=a5 h
 obtain⟨d,g⟩:=a2 d
 cases of_decide_eq_true q
 exact⟨_,_,_,_,_,_,_,rfl,k,l,f,d,g⟩
def tX (h:lG cf i f ys q=k9): ∃a g x xs c b j,ys= [.Assign [.Name a c] (.Call g (x::xs) [] b) j]/\wq cf i a=k9/\bA cf.sc f g=k9/\cf.fns.contains f=k9/\q (x::xs)=true:=by
 refine kC (λs r h=> ?_) ys h
 refine kE (λh=> ?_) r h
 refine fX (λd e p h=> ?_) s h
 refine kC (λt r h=> ?_) d h
 refine kE (λh=> ?_) r h
 refine xq (λa p h=> ?_) t h
 refine Qi (λg xs l p h=> ?_) e h
 refine kE (λh=> ?_) l h
 refine kC (λx r h=> ?_) xs h
 exact⟨_,_,_,_,_,_,_,rfl,a4 h⟩
def Bb (l:gO Γ F X E k cf)(T:nE cf j nm iv hs=k9) (K:eZ c=k9) (Q:qc cf c t=k9) (h1:lG cf i f ys (λxs=>bf cf es xs)=k9) (h2:lG cf i g zs (λxs=>bf cf es2 xs)=k9):
 PS X (.Try [.If t ys zs ip] hs [] [] pos) (cc Γ E (M.exec F (.fK c i f es g es2 j nm iv))):=by
 obtain⟨w,n,v,vp,Z,ap,hp,rfl,m,y,u,o,A⟩:=CK T
 obtain⟨_,W,x,xs,_,_,_,rfl,S,L,P,N⟩:=tX h1
 obtain⟨_,g7,x2,V,_,_,_,rfl,I,O,R,J⟩:=tX h2
 have a:=m
 obtain⟨p1,rfl,_,_⟩:=Zb m
 refine PS.fm (PS.imp (CG (λ_ _ z=>z) ((zc c l.toGo.fm Q).2 K) (sP l L P N a y S u o A) (sP l O R J a y I u o A)) ?_)
 rintro D U H ⟨B,G,Y,h,s,p⟩
 rw [M.exec]at p
 refine⟨G,Y,h,s.st,?_⟩
 cases q:M.Gs F c Y h with
 | exc d h1=>rw [q]at p;exact p.elim
 | fail=>rw [q]at p;exact p.elim
 | ok b h1=>
  rw [q]at p
  intro C H1 r e
  cases b with
  | true=>exact mu ⟨B,C,Y,h1,s.on r e,p⟩
  | false=>exact m1 ⟨B,C,Y,h1,s.on r e,p⟩
end
section
variable {Γ:Ge}{F:M.Fx}{k:Nat}{X:Cx}{E:XK}{cf:Cf}
mutual
theorem L7 (go:gO Γ F X E k cf): ∀(m:M.S){st:Stmt},nT cf m st=k9->PS X st (cc Γ E (M.exec F m))
 | .set i e,st,h=>by
  refine fX (λts v p h=> ?_) st h
  refine kC (λt r h=> ?_) ts h
  refine xq (λx p1 h=> ?_) t h
  refine kE (λh=> ?_) r h
  exact AW go.toGo (a2 h).1 (a2 h).2
 | .ak i e,st,h=>by
  refine fX (λts v p h=> ?_) st h
  refine kC (λt r h=> ?_) ts h
  refine xq (λx p1 h=> ?_) t h
  refine kE (λh=> ?_) r h
  exact D0 go.toGo (a2 h).1 (a2 h).2
 | .dN is e,st,h=>by
  refine fX (λts v p h=> ?_) st h
  refine kC (λt r h=> ?_) ts h
  refine nh (λx n p1 h=> ?_) t h
  refine kE (λh=> ?_) r h
  obtain⟨h1,h2,h3⟩:=a3 h
  exact HI go.toGo h1 h2 h3
 | .eF i kx e,st,h=>by
  refine fX (λts v p h=> ?_) st h
  refine kC (λt r h=> ?_) ts h
  refine iP (λx y p1 h=> ?_) t h
  refine xq (λx p2 h=> ?_) x h
  refine kE (λh=> ?_) r h
  obtain⟨h0,h4,_,h5,h6,h7⟩:=a6 h
  obtain⟨h1,h2,h3⟩:=hJ h0
  exact Ce go.toGo h1 h2 h3 h4 h6 h7
 | .dO i e,st,h=>by
  refine fX (λts v p h=> ?_) st h
  refine kC (λt r h=> ?_) ts h
  refine iP (λx y p1 h=> ?_) t h
  refine xq (λx p2 h=> ?_) x h
  refine kE (λh=> ?_) r h
  obtain⟨h0,h4,_,h5,h6,h7⟩:=a6 h
  obtain⟨h1,h2,h3⟩:=hJ h0
  exact X9 go.toGo h1 h2 h3 h4 h6 h7
 | .app i e,st,h=>by
  refine mT (λc p h=> ?_) st h
  refine Qi (λf x l q h=> ?_) c h
  refine kE (λh=> ?_) l h
  refine kC (λv r h=> ?_) x h
  refine kE (λh=> ?_) r h
  obtain⟨h1,h2,h3⟩:=a3 h
  exact EM go.toGo h1 h2 h3
 | .ext i e,st,h=>by
  refine mT (λc p h=> ?_) st h
  refine Qi (λf x l q h=> ?_) c h
  refine kE (λh=> ?_) l h
  refine kC (λv r h=> ?_) x h
  refine kE (λh=> ?_) r h
  obtain⟨h1,h2,h3⟩:=a3 h
  exact E4 go.toGo h1 h2 h3
 | .cm i e,st,h=>by
  refine mT (λc p h=> ?_) st h
  refine Qi (λf x l q h=> ?_) c h
  refine kE (λh=> ?_) l h
  refine kC (λv r h=> ?_) x h
  refine kE (λh=> ?_) r h
  obtain⟨h1,h2,h3⟩:=a3 h
  exact Em go.toGo h1 h2 h3
 | .e8 i j,st,h=>by
  refine fX (λts v p h=> ?_) st h
  refine kC (λt r h=> ?_) ts h
  refine xq (λx p1 h=> ?_) t h
  refine kE (λh=> ?_) r h
  refine Qi (λf x l q h=> ?_) v h
  refine kE (λh=> ?_) l h
  refine kE (λh=> ?_) x h
  exact DT go.toGo (a2 h).1 (a2 h).2
 | .eV i is,st,h=>by
  refine fX (λts v p h=> ?_) st h
  refine kC (λt r h=> ?_) ts h
  refine nh (λx n p1 h=> ?_) t h
  refine kE (λh=> ?_) r h
  refine Qi (λf y l q h=> ?_) v h
  refine kE (λh=> ?_) l h
  refine kE (λh=> ?_) y h
  exact D4 go.toGo (a2 h).1 (a2 h).2
 | .mv i j,st,h=>by
  refine fX (λts v p h=> ?_) st h
  refine kC (λt r h=> ?_) ts h
  refine xq (λx p1 h=> ?_) t h
  refine kE (λh=> ?_) r h
  refine xq (λy p2 h=> ?_) v h
  obtain⟨h1,h2,h3⟩:=hJ (a2 h).2
  exact HX go.toGo (a2 h).1 h1 h2 h3
 | .iV,st,h=>λk8 s U H D I ⟨B,G,Y,h,s',p⟩=>p.elim
 | .freeze _,st,h=>bK h
 | .ex e,st,h=>by
  refine mT (λv p h=> ?_) st h
  exact Hx go.toGo (a2 h).1 (a2 h).2
 | .ret e,st,h=>by
  refine Ic (λv p h=> ?_) st h
  refine kS (λv h=> ?_) v h
  exact yp go.toGo h
 | .iff c a b,st,h=>by
  refine uM (λx y z p h=> ?_) st h
  obtain⟨h0,h1,h2,h3⟩:=a4 h
  exact Dg ((zc c go.toGo h1).2 h0) (cX go a h2) (cX go b h3)
 | .k6 n c b,st,h=>by
  refine LC (λx y z p h=> ?_) st h
  refine kE (λh=> ?_) z h
  obtain⟨h0,h1,h2⟩:=a3 h
  exact yo go ((zc c go.toGo h1).2 h0) (cX go b h2)
 | .for tg one it b,st,h=>by
  refine Ha (λt i y z p h=> ?_) st h
  refine kE (λh=> ?_) z h
  obtain⟨h1,h2,h3,h4⟩:=a4 h
  exact Hc go h1 h2 h3 (cX go b h4)
 | .cV c f e,st,h=>by
  refine rW (λx y p h=> ?_) st h
  refine kS (λx h=> ?_) x h
  refine Qi (λg x l q h=> ?_) x h
  refine kE (λh=> ?_) l h
  refine kC (λx r h=> ?_) x h
  refine kE (λh=> ?_) r h
  obtain⟨h0,h1,h2,h3⟩:=a4 h
  cases nn h0
  exact L5 go h1 h2 h3
 | .raise c es,st,h=>by
  refine rW (λx y p h=> ?_) st h
  refine kS (λx h=> ?_) x h
  refine Qi (λg x l q h=> ?_) x h
  refine kE (λh=> ?_) l h
  refine kC (λx r h=> ?_) x h
  obtain⟨h0,h1,h2,h3,h4⟩:=a5 h
  cases nn h0
  exact HR go h1 h2 (of_decide_eq_true h3) h4
 | .fK c i f es g es2 k nm iv,st,h=>by
  refine Dr (λb hs p h=> ?_) st h
  refine kC (λa r h=> ?_) b h
  refine kE (λh=> ?_) r h
  refine uM (λt ys zs q h=> ?_) a h
  obtain⟨h0,h1,h2,h3,h4⟩:=a5 h
  exact Bb go h0 h1 h2 h3 h4
theorem cX (go:gO Γ F X E k cf): ∀(m:M.Ss){sts:List Stmt},bH cf m sts=k9->cK X sts (cc Γ E (M.execs F m))
 | .nil,sts,h=>by
  cases Af4.mp h
  exact BD
 | .cons s ss,sts,h=>by
  cases q:oV s with
  | true=>
   cases s with
   | freeze i=>exact WR (cX go ss h)
   | _=>cases q
  | false=>
   have h:(bif oV s then bH cf ss sts else lC sts λst sts=>nT cf s st&&bH cf ss sts)=true:=h
   rw [q]at h
   refine kC (λst r h=> ?_) sts h
   exact yO (L7 go s (a2 h).1) (cX go ss (a2 h).2)
end
end
section
variable {P:Program}{w:World}{K:Aa5}{mg:Str->Option Value}{base:Heap}{N:List Str}{y8:Str}{scope:Scope}{f:Addr}{cd:Value}{A:Around}{outer:List Env}{s:Shared}{H:Hp}{E:XK}
def LX:jQ (cv P w) (jO (cv P w) P w K mg base N y8 scope f cd A outer s H E) E:=by
 intro k8 U H1 s1 ev s' I hq
 obtain⟨x,C,t,B,H',od,rfl,os,bare,fl,un,aM,comp,new,hd,hE⟩:=hq
 have I':=wV I os bare un aM comp fl λb o z _=>⟨o.slots,z⟩
 have ff:=fl.2.2.1
 refine wpAny_mono (WN (WG _ _) (wpAny_leaves_onW (Q:=λ_ s2=> ∃h2,s2= { s' with heap:=h2 }/\Al5 B outer x (.ref C) (.ref t) h2/\s'.heap.UpToSlots h2) (E:=λ_ _=>False) I.ok.frames rfl fl λh2 x1 x4=>⟨h2,rfl,x1,x4⟩)) (λ_ s2 z=> ?_) λ_ _ z=>z.1.elim
 obtain⟨⟨h2,rfl,x1,x4⟩,dk⟩:=z
 have free:=I'.cw
 have slotH: ∀b o,b∈bG _->s'.heap.get? b=y0 o-> ∃sl,h2.get? b=y0 { o with slots:=sl }:=λb o hb z=>by
  obtain⟨_,o',z',nf⟩:=ff.mem hb
  rw [z]at z'
  cases z'
  exact x4 b o z nf
 have toH:=λb o z c n=>x1.1 b o (comp b o z c n)
 have cut: ∀b,b∉bG outer->b≠s.heap.objs.size->b∉bG (envOfC y8 scope s.heap.objs.size f cd::outer):=λb n1 n2 hb=>by
  rcases Ab2.mp (hb)with z | z
  ·exact n2 z
  ·exact n1 z
 have old: ∀b o,s.heap.get? b=y0 o->b≠s.heap.objs.size:=λb o z=>Ac3 (Ab4 z)
 have d9: ∀b u,H' b=y0 u->b∉bG _:=λb u z hb=>by rw [free b hb]at z;cases z
 have in1:=λb o z=>I.base.there b o z (by show b∉ [];simp)
 refine⟨x,C,t,B,H',od,rfl,os.trans I.os,bare,x1,⟨λb o z n hb hx=> ?_,λb o z n hb hx=> ?_,I'.base.free,λb o z hx=> ?_,I'.base.cA,I'.base.cu,I'.base.cH⟩,λb u z=> ?_,λb o z hc hb=> ?_,?_,λdx z=> ?_,hE⟩
 ·exact toH b o (I'.base.keep b o z n hb hx) (.inr (in1 b o z)) (cut b hb (old b o z))
 ·obtain⟨sl,z1⟩:=I'.base.slot b o z n hb hx
  obtain⟨sl2,z2⟩:=slotH b _ (Aa1 _ hb) z1
  exact⟨sl2,z2⟩
 ·obtain⟨o',z1⟩:=I'.base.there b o z hx
  by_cases hb:b∈bG (envOfC y8 scope s.heap.objs.size f cd::outer)
  ·obtain⟨sl,z2⟩:=slotH b o' hb z1
   exact⟨_,z2⟩
  ·exact⟨o',toH b o' z1 (.inr (in1 b o z)) hb⟩
 ·refine(aM b u z).cn (λc v hc z1=> ?_) (λ_ z1=>z1) λ_ _ z1=>z1
  rcases hc with rfl | hc
  ·exact toH c v z1 (.inl ⟨u,z⟩) (d9 c u z)
  ·exact toH c v z1 (.inl ⟨_,hc⟩) (d9 c _ hc)
 ·have two: ∃o2,s'.heap.get? b=y0 o2/\((∃ u,H' b=y0 u)\/ ∃u,s1.heap.get? b=y0 u)/\b∉bG (envOfC y8 scope s.heap.objs.size f cd::outer):=by
   rcases hc with⟨u,hu⟩ | ⟨u,hu⟩
   ·obtain⟨o2,z2⟩:=(aM b u hu).there
    exact⟨o2,z2,.inl ⟨u,hu⟩,d9 b u hu⟩
   ·obtain⟨o2,z2⟩:=I'.base.there b u hu (by show b∉ [];simp)
    exact⟨o2,z2,.inr (in1 b u hu),cut b hb (old b u hu)⟩
  obtain⟨o2,z2,c2,nb⟩:=two
  have z3:=toH b o2 z2 c2 nb
  rw [show h2.get? b=y0 o from z]at z3
  cases z3
  exact comp b _ z2 c2 nb
 ·cases z:s.heap.get? x with
  | none=>rfl
  | some u=>
   obtain⟨o2,z2⟩:=in1 x u z
   rw [new]at z2
   cases z2
 ·obtain⟨o,e1,e2⟩:=hd dx z
  obtain⟨o',e3,e4⟩:=dk x o e1
  exact⟨o',e3,e4.trans e2⟩
end
section
variable {Γ:Ge}{G G0:Gh}{H H0:Hp}{h:M.AH}
def Gh.cut (G:Gh) (n:Nat):Gh:= { G with n:=n }
mutual
theorem aD.cut (n:Nat): ∀ {d:M.D}{v:V},M.Gc d=k9->aD Γ G H d v->aD Γ (G.cut n) H d v
 | .av,_,_,z=>z
 | .bl _,_,_,z=>z
 | .int _,_,_,z=>z
 | .str _,_,_,z=>z
 | .tup _,_,q,⟨a,vs,z1,z2,z3⟩=>⟨a,vs,z1,z2,ae.fc n (by simpa [M.Gc]using q) z3⟩
 | .lst _,_,q,⟨a,vs,z1,z2,z3⟩=>⟨a,vs,z1,z2,ae.fc n (by simpa [M.Gc]using q) z3⟩
 | .ref r,_,q,_=>by simp [M.Gc]at q
 | .exc c fs,_,q,z=>by simp [M.Gc]at q
 | .err c f d,_,q,z=>by simp [M.Gc]at q
theorem ae.fc (n:Nat): ∀ {ds:List M.D}{vs:List V},M.Gd ds=k9->ae Γ G H ds vs->ae Γ (G.cut n) H ds vs
 | [],_,_,z=>z
 | d::ds,_,q,⟨v,r,z1,z2,z3⟩=>by
  have q':M.Gc d=k9/\M.Gd ds=true:=by simpa [M.Gd]using q
  exact⟨v,r,z1,aD.cut n q'.1 z2,ae.fc n q'.2 z3⟩
end
theorem XI: ∀l:List Int,M.Gd (l.map M.D.int)=k9
 | []=>rfl
 | _::l=>XI l
def ED (k):M.Gc (vP k)=true:=by
 show(k9&&(M.Gd _&&(M.Gd _&&k9)))=k9
 rw [XI,XI];rfl
theorem ai.cut (r:ai Γ G h H)(g:n<=G.n):ai Γ (G.cut n) (h.take n) H where
 len:=by rw [Ag0,r.len];exact Al0 g
 any:=λi c e=>by
  have w:i<n:=by
   have:=(Ac0.mp e).1
   rw [Ag0]at this
   omega
  rw [List.getElem?_take_of_lt w]at e
  obtain⟨s,f⟩:=r.any i c e
  refine⟨s,?_⟩
  cases c with
  | lst k=>obtain⟨b,o,d,a⟩:=f;exact⟨b,o,d,ae.fc n b a⟩
  | g6 l=>obtain⟨k,d,a,v⟩:=f;exact⟨k,d,a,λx u=>aD.cut n (ED x.1) (v x u)⟩
  | bZ l=>exact f
  | obj c fs=>obtain⟨b,t,m,d,a⟩:=f;exact⟨b,t,m,d,ae.fc n b a⟩
 inj:=λi j p q e=>r.inj i j (Ab p g) (Ab q g) e
 live:=r.live
theorem Ext.cut (e:Ext G0 H0 G H):Ext G0 H0 (G.cut G0.n) H:=⟨e.keep,Aa6 _,e.aV,λr a b=>absurd a (Ao1.mpr b),e.fz,e.old,e.cells⟩
theorem au.cut (n) (g:n<=G.n)(q:w.keep=k9) (f: ∀xs,w≠ .bor xs) (z:au Γ G H w v):au Γ (G.cut n) H w v:=by
 cases w with
 | v d=>exact aD.cut n q z
 | own xs=>
  obtain⟨a,k,c,b,j,i,h⟩:=z
  exact⟨a,k,c,b,λr e=>j r (Ab e g),i,ae.fc n q h⟩
 | bor xs=>exact absurd rfl (f xs)
end
structure kn (K:Aa5) (mg:Str->Option Value) (f:String) where
 st:Stmt
 fa:Addr
 fd:FuncData
 N:List Str
 ps:List Str
structure lg {K:Aa5}{mg:Str->Option Value}{f:String}(t:kn K mg f) (d:M.Fn) (fns own dA dv:List String) (ob:kJ):Prop where
 fn: ∃x y8,gD K x y8 t.st t.fa t.fd
 bd:Binds K t.fd t.ps []
 sc:Qp t.N t.ps (Qb t.st)
 n:t.N.length=d.n
 p:t.ps.length=d.ps
 le:d.ps<=d.n
 DL:bH ⟨Qb t.st,t.N,fns,own,dA,dv,ob⟩ d.body (Xe t.st)=k9
structure oR (Γ:Ge) (p:M.Prog) (mg:Str->Option Value) (own dA dv:List String) (ob:kJ):Prop where
 cl:p.cl=Γ.cl
 ow:own=Γ.own
 blt: ∀x,x∈bN->mg (zg x)=u0
 con: ∀x d,p.con.lookup x=y0 d-> ∃u v,mg (zg x)=y0 u/\RelV v u/\ ∀G H,aD Γ G H d v
 cls: ∀c,own.contains c=k9->mg (zg c)=y0 (.ref (Γ.ca c))
 dA: ∀c,dA.contains c=true->fb Γ c/\PySem.W.excIn Γ.K (Γ.ca c) zw "ValueError.__new__" =true/\mg (zg c)=some (.ref (Γ.ca c))
 mV: ∀c f,ob.er.contains (c,f)=true->fb Γ c/\l4 Γ.K (Γ.ca c) (zg f)/\ni Γ.K (Γ.ca c) (zg f)/\mg (zg c)=some (.ref (Γ.ca c))/\ ∃fI fd ps,PySem.W.findIn Γ.K (.ref (Γ.ca c)) "__init__" =some (some (.ref fI))/\Z1 Γ.K (zg f) fI fd ps
 dv: ∀c,dv.contains c=true->PySem.W.mroIn Γ.K (Γ.ca c) (.type "BaseException")=some true/\own.contains c=true
 fld: ∀c f,ob.fl.contains (c,f)=k9->eR Γ.K (Γ.ca c)/\rf Γ.K (Γ.ca c) (zg f)
 kK: ∀c m q,ob.mt.contains (c,m,q)=k9->eR Γ.K (Γ.ca c)/\ob.ms.contains q=k9/\uq Γ.K (Γ.ca c) (zg m) (Γ.ma q)
 gH: ∀c q,ob.gH.contains (c,q)=k9->mg (zg c)=y0 (.ref (Γ.ca c))/\ob.ms.contains q=k9/\Mk Γ.K (Γ.ca c) (Γ.ma q)
section
variable {P:Program}{w:World}{Γ:Ge}{mg:Str->Option Value}{base:Heap}{p:M.Prog}{own dA dv fns:List String}{ob:kJ}
def BW (o:ai Γ G h H) (r:bu Γ G H ws c) (p: ∀w∈ws,mB w=k9) (u:N.length=n):aW Γ ⟨G,H,h⟩ G (ws.map y0++Aa8 (n-ws.length) u0) h (start N c) H:=by
 have s:=r.length
 have get: ∀ {i}{w},M.Gj (ws.map y0++Aa8 (n-ws.length) u0) i=y0 w->ws[i]? =y0 w:=λ{i w} e=>by
  rw [zA]at e
  by_cases l:i<ws.length
  ·rw [Af9 (by simpa using l),Ac5]at e
   cases q:ws[i]? with
   | none=>rw [q]at e;cases e
   | some E=>rw [q]at e;exact e
  ·rw [Af6 (by simpa using l),Am2]at e
   split at e<;>cases e
 have g: ∀ {ws}{c}{i:Nat}{w},bu Γ G H ws c->ws[i]? =y0 w-> ∃v,c[i]? =y0 v/\au Γ G H w v:=by
  intro ws
  induction ws with
  | nil=>intro c i w _ e;simp at e
  | cons a r y=>
   intro c i w ⟨v,D,d,z,B⟩ e
   subst d
   cases i with
   | zero=>simp at e;subst e;exact⟨v,rfl,z⟩
   | succ i=>
    obtain⟨C,x,A⟩:=y B (by assumption)
    exact⟨C,by simpa using x,A⟩
 have b: ∀ {i}{f},M.Gj _ i≠y0 (.own f):=λ{i f} e=>by
  have:=p _ (Ak2 (get e))
  cases this
 refine⟨⟨?_,λi w e=> ?_,λi j f w a t d=>absurd d b,o⟩,Ext.refl,o,λi f a d=>absurd d b⟩
 ·unfold start
  rw [Ab0,Ab0,Aa,Aa,Ae8,Ae8,u,s]
 ·obtain⟨v,m,k⟩:=g r (get e)
  refine⟨v,?_,k⟩
  unfold start
  have l:=(Ac0.mp m).1
  rw [Af9 (by simp_all),Ac5,m]
  rfl
def Fh (m:ai Γ G h H) (p:aC Γ E G H (M.GZ h.length o) Q):aS Γ E ⟨G,H,h⟩ o { nx:=λ_ H'=>Q .av H',rt:=Q }:=by
 have g: ∀ {w}{c}{b}{H'}{v},_->aC Γ E G H (M.fin h.length w c) Q->Ext G H b H'->ai Γ b c H'->au Γ b H' w v->aG [] [] H w v->Q v H':=λ{w c b H' v} k p e a r f=>by
  unfold M.fin at p
  split at p
  ·exact p b H' e a v r f
  ·split at p
   ·rename_i n
    have l:=e.cut
    rw [m.len]at p
    exact p _ H' l (a.cut e.le) v (r.cut G.n e.le n k) f
   ·exact p b H' e a v r f
 cases o with
 | next Y c=>exact λb q H' j=>g (λi z=>by cases z) p j.ext j.st.heap rfl trivial
 | ret w c=>
  cases w with
  | bor i=>exact p.elim
  | v d=>exact λb v H' e a r f=>g (λi z=>by cases z) p e a r f
  | own i=>exact λb v H' e a r f=>g (λi z=>by cases z) p e a r f
 | exc d c=>exact p
 | brk Y c=>exact p.elim
 | cont Y c=>exact p.elim
 | fail=>exact p.elim
end
section
variable {P:Program}{w:World}{Γ:Ge}{mg:Str->Option Value}{base:Heap}{p:M.Prog}{own dA dv fns:List String}{ob:kJ}
def sV (P:Program) (w:World) (a:Ge) (mg:Str->Option Value) (base:Heap) (p:M.Prog) (k:Nat) (f:String):Prop:=
 ∃ps b fd,bp P w a.K mg base (cv P w) (2*k+1) b fd ps (gk a (M.call p k f))/\Binds a.K fd ps []/\Ae0 a.K (.ref b)=k9/\mg (zg f)=y0 (.ref b)
def uk (P:Program) (w:World) (a:Ge) (mg:Str->Option Value) (base:Heap) (p:M.Prog) (k:Nat) (q:String):Prop:=
 ∃ps fd,bp P w a.K mg base (cv P w) (2*k+1) (a.ma q) fd ps (gk a (M.call p k q))/\Binds a.K fd ps []
def oy (pr:oR Γ p mg own dA dv ob){t:kn Γ.K mg f}(ok:lg t d fns own dA dv ob) (hf:p.fns.lookup f=y0 d) (k) (ih: ∀g,fns.contains g=k9->sV P w Γ mg base p k g) (im: ∀q,ob.ms.contains q=k9->uk P w Γ mg base p k q):
 bp P w Γ.K mg base (cv P w) (2*(k+1)+1) t.fa t.fd t.ps (gk Γ (M.call p (k+1) f)):=by
 have a: ∀ {i}{h},i.length≠d.ps->M.call p (k+1) f i h= .fail:=λ{i h} hn=>by
  rw [M.call,hf]
  simp [M.run,hn]
 have j:=λ{i h} hn=>M.Ga hf k i h hn
 obtain⟨x,y8,F⟩:=ok.fn
 refine gD.tR F ok.sc (λvs H Q E ⟨G,h,i,J,W,Y,q⟩=> ?_) λcdv A R s H vs Q E b ⟨G,h,i,J,W,Y,q⟩=> ?_
 ·by_cases r:i.length=d.ps
  ·rw [← W.length,r,ok.p]
  ·rw [a r]at q;exact q.elim
 ·by_cases r:i.length=d.ps
  rotate_left
  ·rw [a r]at q;exact q.elim
  rw [j r]at q
  refine⟨cc Γ E (M.execs ⟨M.call p k,p.cl,p.con⟩ d.body),cX (k:=2*k+1) ?_ d.body ok.DL,?_⟩
  ·refine { N:=rfl,K:=rfl,cl:=pr.cl,ow:=pr.ow,nd:=ok.sc.nd,eW:=λx l=>Z8 l,kz:=λx l=>l,gB:=λx l=>⟨j9 l,.inl rfl⟩,lU:=λx l=>l,gl:=λx l=>jL l,calm:=rfl,room:=b.mono (by omega),eK:=b,pass:=LX,blt:=pr.blt,con:=pr.con,fn:=λg u=> ?_,cls:=pr.cls,fld:=pr.fld,kK:=λc m q L=> ?_,gH:=λc q L=> ?_,i3:=IT,ka:=rfl,rB:=rfl,ex:=rfl,dA:=λc U u O=> ?_,mV:=λc f U u O=> ?_,dv:=pr.dv }
   ·obtain⟨o,fa,n,v,y,h3,h4⟩:=ih g u
    exact⟨o,⟨fa,n,v,y,h3,h4⟩⟩
   ·obtain⟨S,T,X⟩:=pr.kK c m q L
    obtain⟨o,n,v,y⟩:=im q T
    exact⟨S,_,n,o,X,v,y⟩
   ·obtain⟨S,T,X⟩:=pr.gH c q L
    obtain⟨o,n,v,y⟩:=im q T
    exact⟨S,_,n,o,X,v,y⟩
   ·obtain⟨D,ei,C⟩:=pr.dA c U
    refine⟨D,λnp z V e es t I B=> ?_⟩
    exact E6 ei C (jL u) I (xa (B _ Aa3)) (xv λe he=>B e (Aa1 _ he)) O
   ·obtain⟨D,xg,xe,C,fI,n,o,hi,Z⟩:=pr.mV c f U
    exact⟨D,xg,λnp z V e t I B=>AI xe hi Z C (jL u) (b.mono (by omega)) I (xa B) O⟩
  ·refine⟨⟨G,H,h⟩,G,i.map y0++Aa8 _ u0,h,?_,Fh J q⟩
   have:=BW J W Y ok.n
   rw [r]at this
   exact this
def ua (f) (fa) (fd) (ps):bp P w Γ.K mg base (cv P w) (2*0+1) fa fd ps (gk Γ (M.call p 0 f)):=
 ⟨λe H Q E ⟨G,h,d,c,g,i,q⟩=>q.elim,λA a s H b j e Q E _ _ _ _ ⟨G,h,d,c,g,i,q⟩=>q.elim⟩
def EL (pr:oR Γ p mg own dA dv ob) (all: ∀f,fns.contains f=k9-> ∃d,p.fns.lookup f=y0 d/\ ∃t:kn Γ.K mg f,lg t d fns own dA dv ob/\Ae0 Γ.K (.ref t.fa)=k9/\mg (zg f)=y0 (.ref t.fa))
 (a: ∀q,ob.ms.contains q=k9-> ∃d,p.fns.lookup q=y0 d/\ ∃t:kn Γ.K mg q,lg t d fns own dA dv ob/\t.fa=Γ.ma q): ∀k,(∀ f,fns.contains f=k9->sV P w Γ mg base p k f)/\ ∀q,ob.ms.contains q=k9->uk P w Γ mg base p k q:=by
 intro k
 induction k with
 | zero=>
  refine⟨λf i=> ?_,λq e=> ?_⟩
  ·obtain⟨d,b,t,ok,g,h⟩:=all f i
   exact⟨t.ps,t.fa,t.fd,ua f _ _ _,ok.bd,g,h⟩
  ·obtain⟨d,b,t,ok,j⟩:=a q e
   exact⟨t.ps,t.fd,ua q _ _ _,ok.bd⟩
 | succ k c=>
  refine⟨λf i=> ?_,λq e=> ?_⟩
  ·obtain⟨d,b,t,ok,g,h⟩:=all f i
   exact⟨t.ps,t.fa,t.fd,oy pr ok b k c.1 c.2,ok.bd,g,h⟩
  ·obtain⟨d,b,t,ok,j⟩:=a q e
   exact⟨t.ps,t.fd,j▸oy pr ok b k c.1 c.2,ok.bd⟩
def BO {K:Aa5}(h:PySem.W.clsIn K C=y0 ci):(PySem.W.clsIn K C).isSome=true:=by rw [h];rfl
def yk {K:PySem.W.Frag}(h1:PySem.W.clsIn K C=some ci) (h2:PySem.W.typeIn K (.ref C)=some (.type "type")) (a:PySem.W.subIn K (.ref C) (.ref C)=some true):PySem.W.kitCls K (.ref C) (.ref C)=some true:=by
 show(if _ then _ else _)=_
 rw [h1,h2,if_pos (by first | rfl | simp | decide),a]
def ou (K:Aa5):Sp:=λc H Q _=> ∃(a:Addr) (b:List Int),c= [.ref a]/\a8 K H a (b.map V.int)/\b.length<=63/\ ∀H',Q (.bl k9) H'
theorem Q3 : ∀(a:List Int),ae Γ G H (a.map M.D.int) (a.map V.int)
 | []=>rfl
 | n::a=>⟨_,_,rfl,rfl,Q3 a⟩
def Dl (F:bp P w Γ.K mg base (cv P w) n fa fd ps (gk Γ (M.call p k "law"))) (iH: ∀f:List Int,f.length<=63-> ∃h',M.call p k "law" [.v (.lst (f.map .int))] []= .ok (.v (.bl true)) h'):
 bp P w Γ.K mg base lY n fa fd ps (ou Γ.K):=by
 refine bp.calm F ?_
 rintro x H Q E ⟨a,f,t,d,hn,q⟩
 subst t
 obtain⟨h',u⟩:=iH f hn
 have fin: ∀G:Gh,ai Γ G [] H->iS Γ G H a _->gk Γ (M.call p k "law") [.ref a] H Q (fun _ _ _=>False):=fun G i l=>by
  refine⟨G,[],[.v (.lst _)],i,⟨.ref a,[],rfl,⟨a,f.map V.int,rfl,l,Q3 f⟩,rfl⟩,λw m=> ?_,?_⟩
  ·cases Af.mp m;rfl
  ·rw [u]
   intro y j _ _ v r _
   cases (r)
   exact q j
 obtain d | d:=d
 ·refine fin ⟨λb=>b=a,λ_=>0,0⟩ ⟨rfl,λr c e=>by simp at e,λr s h=>absurd h (Ai1 _),λb g=> ?_⟩ (.inl ⟨rfl,d⟩)
  subst g
  obtain z | ⟨o,z⟩:=d
  ·exact⟨_,z⟩
  ·exact⟨_,z⟩
 ·exact fin ⟨λ_=>False,λ_=>0,0⟩ ⟨rfl,λr c e=>by simp at e,λr s h=>absurd h (Ai1 _),λb g=>g.elim⟩ (.inr d)
def walk {l:PySem.W.OpenLaw}{K:Params->Aa5}(k) (o:bg k callerA) (j:l.most=y0 63) (b:d.params.defaults= [])
 (e: ∀ w h,YP w h->(K w.params).In h)
 (F: ∀ w mg c h,(K w.params).In h->h.Ns mainGlobals mg->mg d.name=y0 (.ref c) →
   ∃fd:FuncData,(∀ s u,BindsTo s fd ⟨[u],[]⟩ [(x,u)])/\ ∀base:Heap,(K w.params).In base->base.Ns mainGlobals mg->bp l.prog w (K w.params) mg base lY k c fd [x] (ou (K w.params))):
 PySem.W.WalkO q loose XP YP l.row.toRowW d [] (λf m=>PySem.call f m):=
 L2.gG j (by decide) b o e F (λ_ _ a g i _ n=>⟨a,g,rfl,n,i,λ_=>rfl⟩) λ_ _ _ _ _ z=>z
end
end L2.MS
namespace Wf
def bq (t n:Nat):List Bool:=(Aa0 n).map t.testBit
def dF (t n):(bq t n).length=n:=by simp [bq]
def eX (h:k<n):(bq t n)[k]? =y0 (t.testBit k):=by
 unfold bq;rw [Ac5,List.getElem?_range h];rfl
def eM (t k):t / 2 ^ k % 2=(t.testBit k).toNat:=(Nat.toNat_testBit t k).symm
theorem JG: ∀(n a b:Nat),a<=n->(a ||| b)+(a &&& b)=a+b
 | 0,a,b,h=>by
  have:a=0:=by omega
  subst this;simp
 | n+1,a,b,h=>by
  by_cases c:a=0
  ·subst c;simp
  have j:=JG n (a / 2) (b / 2) (by omega)
  have i:=Al1 (a ||| b) 2
  have g:=Al1 (a &&& b) 2
  rw [Nat.or_div_two]at i
  rw [Nat.and_div_two]at g
  have d:(a ||| b) % 2=1↔a % 2=1\/b % 2=1:=Nat.or_mod_two_eq_one
  have e:(a &&& b) % 2=1↔a % 2=1/\b % 2=1:=Nat.and_mod_two_eq_one
  have l:=Al1 a 2
  have m:=Al1 b 2
  have k:(a ||| b) % 2<2:=Ao2 _ (by decide)
  have o:(a &&& b) % 2<2:=Ao2 _ (by decide)
  generalize (a ||| b) % 2=p at*
  generalize (a &&& b) % 2=q at*
  by_cases c:a % 2=1<;>by_cases f:b % 2=1
  ·have:p=1:=d.mpr (.inl c)
   have:q=1:=e.mpr ⟨c,f⟩
   omega
  ·have:p=1:=d.mpr (.inl c)
   have: ¬q=1:=λh=>f (e.mp h).2
   omega
  ·have:p=1:=d.mpr (.inr f)
   have: ¬q=1:=λh=>c (e.mp h).1
   omega
  ·have: ¬p=1:=λh=>(d.mp h).elim c f
   have: ¬q=1:=λh=>c (e.mp h).1
   omega
def yS (a b:Nat):a-(a &&& b)=a ^^^ (a &&& b):=by
 have h:=JG _ (a ^^^ (a &&& b)) (a &&& b) (Aa6 _)
 have d:(a ^^^ (a &&& b)) ||| (a &&& b)=a:=Af3 λk=>by
  simp [Ak9]
  cases a.testBit k<;>cases b.testBit k<;>rfl
 have c:(a ^^^ (a &&& b)) &&& (a &&& b)=0:=Af3 λk=>by
  simp only [Nat.testBit_xor,Ak9,Nat.zero_testBit]
  cases a.testBit k<;>cases b.testBit k<;>rfl
 lia
def bB (a b k:Nat):(a-(a &&& b)).testBit k=(a.testBit k&& !b.testBit k):=by
 rw [yS]
 simp [Ak9]
 cases a.testBit k<;>cases b.testBit k<;>rfl
def ar (n t:Nat):List (Nat×Nat):=((Aa0 (n*n)).filter t.testBit).map λk=>(k / n,k % n)
def cY (n:Nat) (a:List (Nat×Nat)):Nat:=a.foldl (λt p=>t ||| 2 ^ (p.1*n+p.2)) 0
def et (n:Nat) (a:List (Nat×Nat)):Prop:= ∀p∈a,p.1<n/\p.2<n
def place_lt {n a b:Nat}(c:a<n) (d:b<n):a*n+b<n*n:=by
 have:a*n+n<=n*n:=by
  have:=Am8 n (Nat.succ_le_of_lt c)
  rwa [Ao3]at this
 omega
def aE {n a b:Nat}(c:b<n):(a*n+b) / n=a:=by
 rw [Ai2,Nat.mul_add_div (by lia),Nat.div_eq_of_lt c,Nat.add_zero]
def aF {n a b:Nat}(c:b<n):(a*n+b) % n=b:=by
 rw [Ai2,Nat.mul_add_mod,Am4 c]
def aR {n k:Nat}(h:k<n*n):k / n<n:=Nat.div_lt_of_lt_mul h
def aJ {n k:Nat}(h:k<n*n):k % n<n:=Ao2 _ (by
 cases n with
 | zero=>simp at h
 | succ m=>lia)
def aT (n k:Nat):k / n*n+k % n=k:=by rw [Ai2];exact Al1 k n
theorem vS (n): ∀(a:List (Nat×Nat)) (t k:Nat),(a.foldl (λt p=>t ||| 2 ^ (p.1*n+p.2)) t).testBit k=(t.testBit k||a.any λp=>v9 (p.1*n+p.2=k))
 | [],t,k=>by simp
 | p::r,t,k=>by
  rw [Ag6,vS n r,Ah,Ak8,Af2,Bool.or_assoc]
def bP (n) (ps) (k):(cY n ps).testBit k=ps.any λp=>v9 (p.1*n+p.2=k):=by
 unfold cY;rw [vS];simp
def cQ (h:et n ps):cY n ps<2 ^ (n*n):=by
 refine Ai7 _ λi b=> ?_
 rw [bP,Ag3]
 intro p a
 have:=h p a
 have:=place_lt this.1 this.2
 simp;omega
def bb :p∈ar n t↔ ∃k,k<n*n/\t.testBit k=k9/\p=(k / n,k % n):=by
 unfold ar
 simp [Ab3]
 constructor
 ·rintro ⟨k,⟨a,b⟩,rfl⟩;exact⟨k,a,b,rfl⟩
 ·rintro ⟨k,a,b,rfl⟩;exact⟨k,⟨a,b⟩,rfl⟩
def aQ (n t):et n (ar n t):=λp b=>by
 obtain⟨k,a,c,rfl⟩:=bb.mp b
 exact⟨aR a,aJ a⟩
def m3 (a:List (Nat×Nat)):List (Nat×Nat):=a.map λp=>(p.2,p.1)
def eJ (h:et n ps):et n (m3 ps):=λp b=>by
 obtain⟨q,a,rfl⟩:=Ac1.mp b
 exact⟨(h q a).2,(h q a).1⟩
def dw (n t:Nat):Nat:=cY n (m3 (ar n t))
def fW (n t):dw n t<2 ^ (n*n):=cQ (eJ (aQ n t))
def fi (f:k<n*n):(dw n t).testBit k=t.testBit (k % n*n+k / n):=by
 unfold dw
 rw [bP]
 have c:=aR f
 have i:=aJ f
 by_cases h:t.testBit (k % n*n+k / n)=k9
 ·rw [h,Ae7]
  refine⟨(k / n,k % n),?_,?_⟩
  ·refine Ac1.mpr ⟨(k % n,k / n),bb.mpr ⟨k % n*n+k / n,place_lt i c,h,?_⟩,rfl⟩
   rw [aE c,aF c]
  ·simp [decide_eq_true_eq];exact aT n k
 ·have d:=by simpa using h
  rw [d,Ag3]
  intro p m
  obtain⟨q,l,rfl⟩:=Ac1.mp m
  obtain⟨j,a,b,rfl⟩:=bb.mp l
  simp [decide_eq_true_eq]
  intro e
  subst e
  have g:=aR a
  have a2:=aJ a
  rw [aE g,aF g,aT]at d
  rw [d]at b
  cases b
def cZ (n:Nat):Nat:=cY n ((Aa0 n).map λa=>(a,a))
def dR (n):et n ((Aa0 n).map λa=>(a,a)):=λp c=>by
 obtain⟨a,b,rfl⟩:=Ac1.mp c
 exact⟨Ab3.mp b,Ab3.mp b⟩
def Mb (c:k<n*n):(cZ n).testBit k=v9 (k / n=k % n):=by
 unfold cZ
 rw [bP]
 have f:=aR c
 have g:=aJ c
 by_cases h:k / n=k % n
 ·rw [decide_eq_true h,Ae7]
  refine⟨_,Ac1.mpr ⟨k / n,Ab3.mpr f,rfl⟩,?_⟩
  simp [decide_eq_true_eq]
  have:=aT n k
  rw [← h]at this
  exact this
 ·rw [decide_eq_false h,Ag3]
  intro p d
  obtain⟨a,b,rfl⟩:=Ac1.mp d
  simp [decide_eq_true_eq]
  intro e
  subst e
  have b:=Ab3.mp b
  exact h (by rw [aE b,aF b])
def cG (n p b:Nat):Nat:=p / 2 ^ (b*n) % 2 ^ n
def joinM (n o p:Nat):Nat:=(ar n o).foldl (λt q=>t ||| cG n p q.2*2 ^ (q.1*n)) 0
def dy (n p b):cG n p b<2 ^ n:=Ao2 _ (Ah6 (by decide))
def W4 (a:c<n):(cG n p b).testBit c=p.testBit (b*n+c):=by
 unfold cG
 rw [Nat.testBit_mod_two_pow,decide_eq_true a,Ai5,Nat.testBit_div_two_pow,Am7]
def Bf (c:x<2 ^ n) (d:0<n):(x*2 ^ (a*n)).testBit k=(v9 (k / n=a)&&x.testBit (k % n)):=by
 rw [Nat.testBit_mul_two_pow]
 have e:=aT n k
 by_cases h:k / n=a
 ·subst h
  rw [decide_eq_true rfl,Ai5]
  have:k / n*n<=k:=by lia
  rw [decide_eq_true (this),Ai5]
  rw [show k-k / n*n=k % n by lia]
 ·rw [decide_eq_false h,Am9]
  by_cases b:k>=a*n
  ·rw [decide_eq_true b,Ai5]
   refine Ae5 (Ab c (Ad (by decide) ?_))
   have f:a<k / n:=by
    have:a<=k / n:=(Nat.le_div_iff_mul_le d).mpr b
    lia
   have g:=Am8 n f
   lia
  ·rw [decide_eq_false b,Am9]
theorem Q6 (n p) (b:0<n): ∀(a:List (Nat×Nat)) t k,(a.foldl (λt q=>t ||| cG n p q.2*2 ^ (q.1*n)) t).testBit k=(t.testBit k||a.any λq=>v9 (k / n=q.1)&&(cG n p q.2).testBit (k % n))
 | [],t,k=>by simp
 | q::r,t,k=>by
  rw [Ag6,Q6 n p b r,Ah,Bf (dy n p q.2) b,Af2,Bool.or_assoc]
def dr (h:k<n*n):0<n:=by
 cases n with
 | zero=>simp at h
 | succ m=>omega
def JB (n o p k:Nat):Bool:=(Aa0 n).any λb=>o.testBit (k / n*n+b)&&p.testBit (b*n+k % n)
def cF (c:k<n*n):(joinM n o p).testBit k=JB n o p k:=by
 have hn:=dr c
 have l:=aR c
 have h:=aJ c
 unfold joinM JB
 rw [Q6 n p hn]
 simp [Bool.false_or]
 rw [Ad8,Ae7,Ae7]
 constructor
 ·rintro ⟨q,i,a⟩
  obtain⟨j,d,f,rfl⟩:=bb.mp i
  rw [Aa7,decide_eq_true_eq]at a
  obtain⟨e,a⟩:=a
  refine⟨j % n,Ab3.mpr (aJ d),?_⟩
  rw [W4 h]at a
  have e:=e
  rw [e,aT,f,a];rfl
 ·rintro ⟨b,a,g⟩
  have a:=Ab3.mp a
  rw [Aa7]at g
  refine⟨_,bb.mpr ⟨k / n*n+b,place_lt l a,g.1,by rw [aE a,aF a]⟩,?_⟩
  rw [W4 h,g.2]
  simp
def dP (n o p):joinM n o p<2 ^ (n*n):=by
 have c: ∀(a:List (Nat×Nat)) t,(∀ q∈a,q.1<n)->t<2 ^ (n*n)->a.foldl (λt q=>t ||| cG n p q.2*2 ^ (q.1*n)) t<2 ^ (n*n):=by
  intro a
  induction a with
  | nil=>intro t _ h;exact h
  | cons q r i=>
   intro t d g
   refine i _ (λz f=>d z (Aa1 _ f)) (Ao0 g ?_)
   have b:=d q Aa3
   have:=dy n p q.2
   have e:2 ^ n*2 ^ (q.1*n)<=2 ^ (n*n):=by
    rw [← Al]
    refine Ad (by decide) ?_
    have:=Am8 n (Nat.succ_le_of_lt b)
    lia
   exact Ab (Nat.mul_lt_mul_of_pos_right this (Ah6 (by decide))) e
 exact c _ _ (λq b=>(aQ n o q b).1) (Ah6 (by decide))
def eD (c:s<2 ^ n) (a:t<2 ^ n) (h: ∀k,k<n->s.testBit k=t.testBit k):s=t:=
 Af3 λk=>by
  by_cases b:k<n
  ·exact h k b
  ·rw [Ae5 (Ab c (Ad (by decide) (by lia))),Ae5 (Ab a (Ad (by decide) (by lia)))]
def eC (d:a<n) (c:b<n):(cZ n).testBit (a*n+b)=v9 (a=b):=by
 rw [Mb (place_lt d c),aE c,aF c]
def fL (n):cZ n<2 ^ (n*n):=cQ (dR n)
inductive TC (n t a:Nat):Nat->Prop
 | step {b:Nat}:a<n->b<n->t.testBit (a*n+b)=k9->TC n t a b
 | more {b c:Nat}:TC n t a b->b<n->c<n->t.testBit (b*n+c)=k9->TC n t a c
def TC.trans (h1:TC n t a b) (h2:TC n t b c):TC n t a c:=by
 induction h2 with
 | step x y z=>exact .more h1 x y z
 | more _ x y z d=>exact .more d x y z
structure fM (n t r:Nat):Prop where
 lt:r<2 ^ (n*n)
 bit: ∀a b,a<n->b<n->(r.testBit (a*n+b)=k9↔TC n t a b)
structure fP (n t r:Nat):Prop where
 lt:r<2 ^ (n*n)
 sub: ∀a b,a<n->b<n->r.testBit (a*n+b)=k9->TC n t a b
 sup: ∀k,t.testBit k=k9->r.testBit k=k9
def fP.start (h:t<2 ^ (n*n)):fP n t t:=⟨h,λ_ _ a b h=> .step a b h,λ_ h=>h⟩
def cT (d:c<n):JB n o p (a*n+c)=(Aa0 n).any λb=>o.testBit (a*n+b)&&p.testBit (b*n+c):=by
 unfold JB
 rw [aE d,aF d]
def fP.next (h:fP n t r):fP n t (r ||| joinM n r r):=by
 refine⟨Ao0 h.lt (dP _ _ _),λa b g f d=> ?_,λk i=> ?_⟩
 ·rw [Ah,Am6]at d
  obtain d | d:=d
  ·exact h.sub a b g f d
  ·rw [cF (place_lt g f),cT f,Ae7]at d
   obtain⟨c,e,d⟩:=d
   have e:=Ab3.mp e
   rw [Aa7]at d
   exact(h.sub a c g e d.1).trans (h.sub c b e f d.2)
 ·rw [Ah,h.sup k i,Bool.true_or]
def EN {a b:Nat}(h:a ||| b=a) (k) (c:b.testBit k=k9):a.testBit k=true:=by
 rw [← h,Ah,c,Bool.or_true]
def fP.done (h:fP n t r) (e:r ||| joinM n r r=r):fM n t r:=by
 refine⟨h.lt,λa b j k=>⟨h.sub a b j k,λi=> ?_⟩⟩
 induction i with
 | step f d g=>exact h.sup _ g
 | more i f d g c=>
  have c:=c f
  refine EN e _ ?_
  rw [cF (place_lt j d),cT d,Ae7]
  exact⟨_,Ab3.mpr f,by rw [c,h.sup _ g];rfl⟩
def fP.grow (h:fP n t r) (ne:r ||| joinM n r r≠r):r<r ||| joinM n r r:=by
 have:= @Nat.left_le_or r (joinM n r r)
 lia
structure Mm (n t a:Nat) (re wa:List Nat):Prop where
 an:a<n
 nd:re.Nodup
 tc: ∀x∈re,TC n t a x
 wl: ∀x∈wa,x<n/\(x=a\/x∈re)
 cl: ∀x,(x=a\/x∈re)->x∉wa-> ∀b,b<n->t.testBit (x*n+b)=k9->b∈re
structure Lk (n t a:Nat) (re wa:List Nat) (h b:Nat):Prop where
 an:a<n
 nd:re.Nodup
 tc: ∀x∈re,TC n t a x
 wl: ∀x∈wa,x<n/\(x=a\/x∈re)
 cl: ∀x,(x=a\/x∈re)->x∉wa->x≠h-> ∀b,b<n->t.testBit (x*n+b)=k9->b∈re
 hn:h<n
 hr:h=a\/h∈re
 hb: ∀b',b'<b->t.testBit (h*n+b')=k9->b'∈re
end Wf
namespace M
def KB:Fn:=⟨1,1,.cons (.ret (.and (.dY (.var 0) .int) (.not (.dY (.var 0) .bool)))) .nil⟩
def GX:Fn:=⟨2,2,.cons (.ret (.and (.call "is_whole" (.cons (.var 0) .nil)) (.chain .le .lt (.int 0) (.var 0) (.var 1)))) .nil⟩
noncomputable def Wy:E:= .comp [0] k9 1 [1,0] (.aw (.bin .mul (.var 0) (.var 0))) k9 (.bin .band (.bin .shr (.var 1) (.var 0)) (.int 1)) (.bi .divmod (.cons (.var 0) (.cons (.var 2) .nil)))
def Kl:Fn:=⟨2,2,.cons (.ret Wy) .nil⟩
noncomputable def Zh:Ss:= .cons (.ak 2 (.bin .bor (.var 2) (.bin .shl (.int 1) (.bin .add (.bin .mul (.var 3) (.var 0)) (.var 4))))) .nil
def Km:Fn:=⟨2,5,.cons (.ak 2 (.int 0)) (.cons (.for [3,4] y9 (.seq (.var 1)) Zh) (.cons (.ret (.var 2)) .nil))⟩
def KM:Fn:=⟨2,2,.cons (.ret (.bin .band (.var 0) (.var 1))) .nil⟩
def KJ:Fn:=⟨2,2,.cons (.ret (.bin .bor (.var 0) (.var 1))) .nil⟩
def Kr:Fn:=⟨2,2,.cons (.ret (.bin .band (.var 0) (.inv (.var 1)))) .nil⟩
def zx:E:= .comp [0,1] false 2 [] (.seq (.call "pairs_of" (.cons (.var 0) (.cons (.var 1) .nil)))) false (.bl true) (.tup (.cons (.var 1) (.cons (.var 0) .nil)))
def KI:Fn:=⟨2,2,.cons (.ret (.call "gathered" (.cons (.var 0) (.cons zx .nil)))) .nil⟩
noncomputable def Wr:Ss:= .cons (.ak 7 (.bin .band (.bin .shr (.var 2) (.bin .mul (.var 6) (.var 0))) (.var 3))) (.cons (.ak 4 (.bin .bor (.var 4) (.bin .shl (.var 7) (.bin .mul (.var 5) (.var 0))))) .nil)
def KG:Fn:=⟨3,8,.cons (.ak 3 (.bin .sub (.bin .shl (.int 1) (.var 0)) (.int 1))) (.cons (.ak 4 (.int 0)) (.cons (.for [5,6] y9 (.seq (.call "pairs_of" (.cons (.var 0) (.cons (.var 1) .nil)))) Wr) (.cons (.ret (.var 4)) .nil)))⟩
def Zr:E:= .cmp .ne (.var 3) (.var 2)
def Wq:Ss:= .cons (.ak 2 (.var 3)) (.cons (.ak 3 (.call "either" (.cons (.var 2) (.cons (.call "joined" (.cons (.var 0) (.cons (.var 2) (.cons (.var 2) .nil)))) .nil)))) .nil)
def KH:Fn:=⟨2,4,.cons (.ak 2 (.var 1)) (.cons (.ak 3 (.call "either" (.cons (.var 2) (.cons (.call "joined" (.cons (.var 0) (.cons (.var 2) (.cons (.var 2) .nil)))) .nil)))) (.cons (.k6 100000 Zr Wq) (.cons (.ret (.var 2)) .nil)))⟩
def zM:E:= .comp [0] k9 1 [] (.aw (.var 0)) y9 (.bl k9) (.tup (.cons (.var 0) (.cons (.var 0) .nil)))
def K3:Fn:=⟨1,1,.cons (.ret (.call "gathered" (.cons (.var 0) (.cons zM .nil)))) .nil⟩
def KQ:Fn:=⟨1,1,.cons (.ret (.bin .sub (.bin .shl (.int 1) (.bin .mul (.var 0) (.var 0))) (.int 1))) .nil⟩
def Ku:Fn:=⟨1,1,.cons (.ret (.call "is_below" (.cons (.var 0) (.cons (.bin .add (.con "GREATEST_SIZE") (.int 1)) .nil)))) .nil⟩
noncomputable def KC:Fn:=⟨2,2,.cons (.ret (.bin .add (.bin .mul (.lst (.cons (.var 1) .nil)) (.bi .len (.cons (.ix (.var 0) (.int 0)) .nil))) (.bin .mul (.lst (.cons (.bin .mul (.var 1) (.var 1)) .nil)) (.bi .len (.cons (.ix (.var 0) (.int 1)) .nil))))) .nil⟩
def K1:Fn:=⟨2,2,.cons (.ret (.bi .sum (.cons (.call "widths" (.cons (.var 0) (.cons (.var 1) .nil))) .nil))) .nil⟩
def GE:Fn:=⟨1,1,.cons (.iff (.not (.call "is_size" (.cons (.var 0) .nil))) (.cons (.raise "NoSize" (.cons (.str [97,32,115,105,122,101,32,105,115,32,97,32,119,104,111,108,101,32,110,117,109,98,101,114,32,102,114,111,109,32,48,32,116,111,32,52]) .nil)) .nil) .nil) .nil⟩
def GF:Fn:=⟨3,4,.cons (.ex (.call "check_size" (.cons (.var 1) .nil))) (.cons (.ak 3 (.call "bits" (.cons (.var 0) (.cons (.var 1) .nil)))) (.cons (.iff (.cmp .gt (.var 3) (.var 2)) (.cons (.cV "TooBig" "bits" (.var 3)) .nil) .nil) .nil))⟩
noncomputable def zN:Ss:= .cons (.ak 2 (.bin .bor (.var 2) (.bin .shl (.var 5) (.var 3)))) (.cons (.ak 3 (.bin .add (.var 3) (.var 4))) .nil)
def K8:Fn:=⟨2,6,.cons (.ak 2 (.int 0)) (.cons (.ak 3 (.int 0)) (.cons (.for [4,5] y9 (.zip (.call "widths" (.cons (.var 0) (.cons (.ix (.var 1) (.int 0)) .nil))) (.bin .add (.ix (.var 1) (.int 1)) (.ix (.var 1) (.int 2)))) zN) (.cons (.ret (.var 2)) .nil)))⟩
noncomputable def zq:Ss:= .cons (.app 3 (.bin .band (.var 4) (.bin .sub (.bin .shl (.int 1) (.var 5)) (.int 1)))) (.cons (.ak 4 (.bin .shr (.var 4) (.var 5))) .nil)
def Kk:Fn:=⟨3,7,.cons (.ex (.call "check_size" (.cons (.var 1) .nil))) (.cons (.iff (.not (.call "is_below" (.cons (.var 2) (.cons (.bin .shl (.int 1) (.call "bits" (.cons (.var 0) (.cons (.var 1) .nil)))) .nil)))) (.cons (.raise "NoCode" (.cons (.str [97,32,99,111,100,101,32,105,115,32,97,32,119,104,111,108,101,32,110,117,109,98,101,114,32,102,114,111,109,32,48,32,116,111,32,50,32,116,111,32,116,104,101,32,98,105,116,115,32,108,101,115,115,32,49]) .nil)) .nil) .nil) (.cons (.set 3 (.lst .nil)) (.cons (.ak 4 (.var 2)) (.cons (.for [5] true (.seq (.call "widths" (.cons (.var 0) (.cons (.var 1) .nil)))) zq) (.cons (.ak 6 (.bi .len (.cons (.ix (.var 0) (.int 0)) .nil))) (.cons (.ret (.tup (.cons (.var 1) (.cons (.bi .tuple (.cons (.iy (.var 3) (.var 6)) .nil)) (.cons (.bi .tuple (.cons (.fJ (.var 3) (.var 6)) .nil)) .nil))))) .nil))))))⟩
noncomputable def Qg:E:= .comp [0] k9 1 [3] (.aw (.var 1)) k9 (.cmp .dM (.var 0) (.var 1)) (.bin .add (.var 1) (.tup (.cons (.var 0) .nil)))
def Jg:Ss:= .cons (.ext 2 Qg) .nil
def GT:Fn:=⟨2,4,.cons (.set 2 (.lst .nil)) (.cons (.for [3] k9 (.seq (.var 0)) Jg) (.cons (.ret (.var 2)) .nil))⟩
def Xm:Ss:= .cons (.set 1 (.call "longer_by_one" (.cons (.var 1) (.cons (.var 0) .nil)))) .nil
def Kv:Fn:=⟨1,3,.cons (.ex (.call "check_size" (.cons (.var 0) .nil))) (.cons (.set 1 (.lst (.cons (.tup .nil) .nil))) (.cons (.for [2] true (.aw (.var 0)) Xm) (.cons (.ret (.var 1)) .nil)))⟩
def Xj:E:= .comp [0] k9 1 [1] (.seq (.var 0)) y9 (.bl k9) (.call "is_below" (.cons (.var 0) (.cons (.var 1) .nil)))
noncomputable def GQ:Fn:=⟨2,2,.cons (.iff (.or (.not (.dY (.var 0) .tuple)) (.cmp .ne (.bi .len (.cons (.var 0) .nil)) (.var 1))) (.cons (.ret (.bl y9)) .nil) .nil) (.cons (.ret (.and (.bi .all (.cons Xj .nil)) (.cmp .eq (.cE (.var 0)) (.var 1)))) .nil)⟩
noncomputable def Jh:Ss:= .cons (.iff (.bin .band (.bin .shr (.var 0) (.var 3)) (.int 1)) (.cons (.ak 2 (.bin .bor (.var 2) (.bin .shl (.int 1) (.var 4)))) .nil) .nil) .nil
def G6:Fn:=⟨2,5,.cons (.ak 2 (.int 0)) (.cons (.for [3,4] y9 (.enum (.var 1)) Jh) (.cons (.ret (.var 2)) .nil))⟩
def qj:E:= .comp [0,1] false 2 [1] (.seq (.call "pairs_of" (.cons (.var 2) (.cons (.var 0) .nil)))) false (.bl true) (.tup (.cons (.ix (.var 2) (.var 0)) (.cons (.ix (.var 2) (.var 1)) .nil)))
def GS:Fn:=⟨2,3,.cons (.ak 2 (.bi .len (.cons (.var 1) .nil))) (.cons (.ret (.call "gathered" (.cons (.var 2) (.cons qj .nil)))) .nil)⟩
def qu:E:= .comp [0] k9 1 [2] (.seq (.var 5)) y9 (.bl k9) (.call "renamed_tie" (.cons (.var 0) (.cons (.var 1) .nil)))
def Xt:E:= .comp [0] k9 1 [2] (.seq (.var 4)) y9 (.bl k9) (.call "renamed_kind" (.cons (.var 0) (.cons (.var 1) .nil)))
def Kw:Fn:=⟨3,8,.cons (.dN [3,4,5] (.var 1)) (.cons (.iff (.not (.call "is_renaming" (.cons (.var 2) (.cons (.var 3) .nil)))) (.cons (.raise "NoRenaming" (.cons (.str [97,32,114,101,110,97,109,105,110,103,32,105,115,32,97,32,116,117,112,108,101,32,111,102,32,97,108,108,32,116,104,105,110,103,115,32,111,102,32,116,104,101,32,115,105,122,101,44,32,101,97,99,104,32,111,110,99,101]) .nil)) .nil) .nil) (.cons (.ak 6 (.bi .tuple (.cons Xt .nil))) (.cons (.ak 7 (.bi .tuple (.cons qu .nil))) (.cons (.ret (.tup (.cons (.var 3) (.cons (.var 6) (.cons (.var 7) .nil))))) .nil))))⟩
def jp:E:= .comp [0] true 1 [0,1] (.seq (.call "renamings" (.cons (.ix (.var 1) (.int 0)) .nil))) false (.bl true) (.call "code" (.cons (.var 1) (.cons (.call "renamed" (.cons (.var 1) (.cons (.var 2) (.cons (.var 0) .nil)))) .nil)))
def GL:Fn:=⟨2,2,.cons (.ret jp) .nil⟩
def Pa:Fn:=⟨2,2,.cons (.ret (.call "world_of" (.cons (.var 0) (.cons (.ix (.var 1) (.int 0)) (.cons (.bi .min (.cons (.call "codes_alike" (.cons (.var 0) (.cons (.var 1) .nil))) .nil)) .nil))))) .nil⟩
noncomputable def Zg:E:= .comp [0] k9 1 [4] (.aw (.var 3)) k9 (.bin .band (.bin .shr (.var 1) (.var 0)) (.int 1)) (.tup (.cons (.var 0) (.cons (.var 0) .nil)))
def GD:Fn:=⟨3,5,.cons (.iff (.cmp .mem (.var 2) (.ix (.var 0) (.int 1))) (.cons (.ret (.ix (.ix (.var 1) (.int 2)) (.da .index (.ix (.var 0) (.int 1)) (.cons (.var 2) .nil)))) .nil) .nil) (.cons (.ak 3 (.ix (.var 1) (.int 0))) (.cons (.ak 4 (.ix (.ix (.var 1) (.int 1)) (.da .index (.ix (.var 0) (.int 0)) (.cons (.var 2) .nil)))) (.cons (.ret (.call "gathered" (.cons (.var 3) (.cons Zg .nil)))) .nil)))⟩
def GW:Fn:=⟨3,3,.cons (.iff (.cmp .eq (.var 1) (.str [115,97,109,101])) (.cons (.ret (.call "same" (.cons (.var 0) .nil))) .nil) .nil) (.cons (.iff (.cmp .eq (.var 1) (.str [97,108,108])) (.cons (.ret (.call "every" (.cons (.var 0) .nil))) .nil) .nil) (.cons (.iff (.cmp .eq (.var 1) (.str [110,111,110,101])) (.cons (.ret (.int 0)) .nil) .nil) (.cons (.iff (.cmp .eq (.var 1) (.str [112,108,117,115])) (.cons (.ret (.call "either" (.cons (.ix (.var 2) (.int 0)) (.cons (.ix (.var 2) (.int 1)) .nil)))) .nil) .nil) (.cons (.iff (.cmp .eq (.var 1) (.str [108,101,115,115])) (.cons (.ret (.call "without" (.cons (.ix (.var 2) (.int 0)) (.cons (.ix (.var 2) (.int 1)) .nil)))) .nil) .nil) (.cons (.iff (.cmp .eq (.var 1) (.str [98,111,116,104])) (.cons (.ret (.call "common" (.cons (.ix (.var 2) (.int 0)) (.cons (.ix (.var 2) (.int 1)) .nil)))) .nil) .nil) (.cons (.iff (.cmp .eq (.var 1) (.str [106,111,105,110,101,100])) (.cons (.ret (.call "joined" (.cons (.var 0) (.cons (.ix (.var 2) (.int 0)) (.cons (.ix (.var 2) (.int 1)) .nil))))) .nil) .nil) (.cons (.iff (.cmp .eq (.var 1) (.str [116,117,114,110,101,100])) (.cons (.ret (.call "turned" (.cons (.var 0) (.cons (.ix (.var 2) (.int 0)) .nil)))) .nil) .nil) (.cons (.ret (.call "closed" (.cons (.var 0) (.cons (.ix (.var 2) (.int 0)) .nil)))) .nil))))))))⟩
def QP:E:= .comp [0] k9 1 [0,1] (.seq (.fJ (.var 2) (.int 1))) y9 (.bl k9) (.call "value" (.cons (.var 1) (.cons (.var 2) (.cons (.var 0) .nil))))
def Kt:Fn:=⟨3,4,.cons (.iff (.cmp .eq (.ix (.var 2) (.int 0)) (.str [110,97,109,101])) (.cons (.ret (.call "value_of_name" (.cons (.var 0) (.cons (.var 1) (.cons (.ix (.var 2) (.int 1)) .nil))))) .nil) .nil) (.cons (.ak 3 QP) (.cons (.ret (.call "made" (.cons (.ix (.var 1) (.int 0)) (.cons (.ix (.var 2) (.int 0)) (.cons (.var 3) .nil))))) .nil))⟩
def Jy:E:= .comp [0] k9 1 [4] (.aw (.var 0)) y9 (.bl k9) (.da .count (.var 1) (.cons (.var 0) .nil))
def qx:E:= .comp [0,1] y9 2 [] (.seq (.var 3)) y9 (.bl k9) (.var 0)
def KK:Fn:=⟨3,5,.cons (.ak 3 (.call "pairs_of" (.cons (.var 0) (.cons (.var 2) .nil)))) (.cons (.iff (.cmp .mem (.var 1) (.tup (.cons (.str [108,101,97,115,116]) (.cons (.str [109,111,115,116]) .nil)))) (.cons (.ret (.lst (.cons (.bi .len (.cons (.var 3) .nil)) .nil))) .nil) .nil) (.cons (.ak 4 qx) (.cons (.ret Jy) .nil)))⟩
def Wj:E:= .comp [0] k9 1 [3] (.seq (.var 4)) y9 (.bl k9) (.cmp .le (.var 0) (.var 1))
def zj:E:= .comp [0] k9 1 [3] (.seq (.var 4)) y9 (.bl k9) (.cmp .ge (.var 0) (.var 1))
def GR:Fn:=⟨3,5,.cons (.ak 3 (.ix (.var 2) (.int 1))) (.cons (.ak 4 (.call "counts" (.cons (.ix (.var 1) (.int 0)) (.cons (.ix (.var 2) (.int 0)) (.cons (.call "value" (.cons (.var 0) (.cons (.var 1) (.cons (.ix (.var 2) (.int 2)) .nil)))) .nil))))) (.cons (.iff (.cmp .mem (.ix (.var 2) (.int 0)) (.tup (.cons (.str [108,101,97,115,116]) (.cons (.str [101,97,99,104,108,101,97,115,116]) .nil)))) (.cons (.ret (.bi .all (.cons zj .nil))) .nil) .nil) (.cons (.ret (.bi .all (.cons Wj .nil))) .nil)))⟩
def a9:Fn:=⟨3,4,.cons (.ak 3 (.ix (.var 2) (.int 0))) (.cons (.iff (.cmp .eq (.var 3) (.str [110,111,116])) (.cons (.ret (.not (.call "keeps" (.cons (.var 0) (.cons (.var 1) (.cons (.ix (.var 2) (.int 1)) .nil)))))) .nil) .nil) (.cons (.iff (.cmp .eq (.var 3) (.str [97,110,100])) (.cons (.ret (.and (.call "keeps" (.cons (.var 0) (.cons (.var 1) (.cons (.ix (.var 2) (.int 1)) .nil)))) (.call "keeps" (.cons (.var 0) (.cons (.var 1) (.cons (.ix (.var 2) (.int 2)) .nil)))))) .nil) .nil) (.cons (.iff (.cmp .eq (.var 3) (.str [111,114])) (.cons (.ret (.or (.call "keeps" (.cons (.var 0) (.cons (.var 1) (.cons (.ix (.var 2) (.int 1)) .nil)))) (.call "keeps" (.cons (.var 0) (.cons (.var 1) (.cons (.ix (.var 2) (.int 2)) .nil)))))) .nil) .nil) (.cons (.iff (.cmp .eq (.var 3) (.str [105,110])) (.cons (.ret (.cmp .eq (.call "without" (.cons (.call "value" (.cons (.var 0) (.cons (.var 1) (.cons (.ix (.var 2) (.int 1)) .nil)))) (.cons (.call "value" (.cons (.var 0) (.cons (.var 1) (.cons (.ix (.var 2) (.int 2)) .nil)))) .nil))) (.int 0))) .nil) .nil) (.cons (.iff (.cmp .eq (.var 3) (.str [101,113,117,97,108])) (.cons (.ret (.cmp .eq (.call "value" (.cons (.var 0) (.cons (.var 1) (.cons (.ix (.var 2) (.int 1)) .nil)))) (.call "value" (.cons (.var 0) (.cons (.var 1) (.cons (.ix (.var 2) (.int 2)) .nil)))))) .nil) .nil) (.cons (.iff (.cmp .eq (.var 3) (.str [115,111,109,101])) (.cons (.ret (.cmp .ne (.call "value" (.cons (.var 0) (.cons (.var 1) (.cons (.ix (.var 2) (.int 1)) .nil)))) (.int 0))) .nil) .nil) (.cons (.iff (.cmp .eq (.var 3) (.str [110,111])) (.cons (.ret (.cmp .eq (.call "value" (.cons (.var 0) (.cons (.var 1) (.cons (.ix (.var 2) (.int 1)) .nil)))) (.int 0))) .nil) .nil) (.cons (.ret (.call "keeps_count" (.cons (.var 0) (.cons (.var 1) (.cons (.var 2) .nil))))) .nil))))))))⟩
def Wb:Ss:= .cons (.iff (.not (.call "keeps" (.cons (.var 0) (.cons (.var 1) (.cons (.var 4) .nil))))) (.cons (.ret (.var 3)) .nil) .nil) .nil
def GH:Fn:=⟨3,5,.cons (.for [3,4] y9 (.enum (.var 2)) Wb) (.cons (.ret .av) .nil)⟩
def Zm:Ss:= .cons (.dO 2 (.var 6)) .nil
def zi:Ss:= .cons (.iff (.cP true (.var 4) 2) (.cons (.ak 5 (.call "world_of" (.cons (.var 0) (.cons (.var 1) (.cons (.var 4) .nil))))) (.cons (.app 3 (.var 5)) (.cons (.for [6] true (.seq (.call "codes_alike" (.cons (.var 0) (.cons (.var 5) .nil)))) Zm) .nil))) .nil) .nil
def G9:Fn:=⟨2,7,.cons (.set 2 .dt) (.cons (.set 3 (.lst .nil)) (.cons (.for [4] k9 (.aw (.bin .shl (.int 1) (.call "bits" (.cons (.var 0) (.cons (.var 1) .nil))))) zi) (.cons (.ret (.var 3)) .nil)))⟩
def XG:E:= .comp [0] true 1 [2,3] (.seq (.call "all_forms" (.cons (.var 2) (.cons (.var 1) .nil)))) true (.d3 false (.call "first_broken" (.cons (.var 1) (.cons (.var 0) (.cons (.var 2) .nil))))) (.var 0)
def Ko:Fn:=⟨2,4,.cons (.dN [2,3] (.var 0)) (.cons (.ex (.call "check_bits" (.cons (.var 2) (.cons (.var 1) (.cons (.con "MOST_LISTED_BITS") .nil))))) (.cons (.ret XG) .nil))⟩
def GJ:Fn:=⟨3,4,.cons (.ak 3 (.call "unlike" (.cons (.var 0) (.cons (.var 1) .nil)))) (.cons (.iff (.not (.call "is_below" (.cons (.var 2) (.cons (.bi .len (.cons (.var 3) .nil)) .nil)))) (.cons (.cV "NoNumber" "number" (.var 2)) .nil) .nil) (.cons (.ret (.ix (.var 3) (.var 2))) .nil))⟩
def GP:Fn:=⟨2,5,.cons (.dN [2,3] (.var 0)) (.cons (.ex (.call "check_bits" (.cons (.var 2) (.cons (.ix (.var 1) (.int 0)) (.cons (.con "MOST_LISTED_BITS") .nil))))) (.cons (.ak 4 (.call "first_broken" (.cons (.var 2) (.cons (.var 1) (.cons (.var 3) .nil))))) (.cons (.iff (.d3 true (.var 4)) (.cons (.cV "Broken" "number" (.var 4)) .nil) .nil) (.cons (.ret (.da .ck (.call "unlike" (.cons (.var 0) (.cons (.ix (.var 1) (.int 0)) .nil))) (.cons (.call "form" (.cons (.var 2) (.cons (.var 1) .nil))) .nil))) .nil))))⟩
noncomputable def Ky:Fn:=⟨2,2,.cons (.iff (.cmp .lt (.var 1) (.bi .len (.cons (.var 0) .nil))) (.cons (.ret (.ix (.var 0) (.var 1))) .nil) .nil) (.cons (.ret (.int 0)) .nil)⟩
def Kp:Fn:=⟨1,1,.cons (.ret (.and (.dY (.var 0) .int) (.not (.dY (.var 0) .bool)))) .nil⟩
def Jm:Ss:= .cons (.dN [0,4] (.bi .divmod (.cons (.var 0) (.cons (.int 2) .nil)))) (.cons (.app 2 (.var 4)) .nil)
def Ke:Fn:=⟨2,5,.cons (.set 2 (.lst .nil)) (.cons (.for [3] k9 (.aw (.var 1)) Jm) (.cons (.ret (.var 2)) .nil))⟩
noncomputable def zh:Ss:= .cons (.iff (.cmp .dM (.var 5) (.var 4)) (.cons (.app 3 (.bin .add (.var 4) (.tup (.cons (.var 5) .nil)))) .nil) .nil) .nil
def jl:Ss:= .cons (.for [5] k9 (.aw (.var 0)) zh) .nil
noncomputable def zt:Ss:= .cons (.set 3 (.lst .nil)) (.cons (.freeze 1) (.cons (.for [4] k9 (.seq (.var 1)) jl) (.cons (.mv 1 3) .nil)))
def Kn:Fn:=⟨1,6,.cons (.set 1 (.lst (.cons (.tup .nil) .nil))) (.cons (.for [2] k9 (.aw (.var 0)) zt) (.cons (.ret (.var 1)) .nil))⟩
noncomputable def Qm:Ss:= .cons (.dN [4,8] (.bi .divmod (.cons (.var 4) (.cons (.bin .shl (.int 1) (.bin .mul (.var 0) (.var 0))) .nil)))) (.cons (.app 6 (.var 8)) .nil)
noncomputable def qo:Ss:= .cons (.dN [4,8] (.bi .divmod (.cons (.var 4) (.cons (.bin .shl (.int 1) (.var 0)) .nil)))) (.cons (.app 5 (.var 8)) .nil)
def GN:Fn:=⟨4,9,.cons (.ak 4 (.bin .mod (.var 3) (.bin .shl (.int 1) (.bin .add (.bin .mul (.var 1) (.var 0)) (.bin .mul (.bin .mul (.var 2) (.var 0)) (.var 0)))))) (.cons (.set 5 (.lst .nil)) (.cons (.set 6 (.lst .nil)) (.cons (.for [7] k9 (.aw (.var 1)) qo) (.cons (.for [7] k9 (.aw (.var 2)) Qm) (.cons (.ret (.tup (.cons (.var 0) (.cons (.bi .tuple (.cons (.var 5) .nil)) (.cons (.bi .tuple (.cons (.var 6) .nil)) .nil))))) .nil)))))⟩
noncomputable def Zn:E:= .comp [0,1] y9 2 [1,2] (.seq (.var 10)) y9 (.bl k9) (.bin .shl (.int 1) (.bin .add (.bin .mul (.ix (.var 2) (.var 0)) (.var 3)) (.ix (.var 2) (.var 1))))
noncomputable def Jt:E:= .comp [0] k9 1 [7,2] (.aw (.bin .mul (.var 2) (.var 2))) k9 (.cmp .eq (.ix (.var 1) (.var 0)) (.int 1)) (.bi .divmod (.cons (.var 0) (.cons (.var 2) .nil)))
def ju:Ss:= .cons (.ak 7 (.call "_law_marks" (.cons (.var 9) (.cons (.bin .mul (.var 2) (.var 2)) .nil)))) (.cons (.ak 10 Jt) (.cons (.app 8 (.bi .sum (.cons Zn .nil))) .nil))
noncomputable def Qt:E:= .comp [0] k9 1 [7,1] (.aw (.var 2)) k9 (.cmp .eq (.ix (.var 1) (.var 0)) (.int 1)) (.bin .shl (.int 1) (.ix (.var 2) (.var 0)))
def Zt:Ss:= .cons (.ak 7 (.call "_law_marks" (.cons (.var 6) (.cons (.var 2) .nil)))) (.cons (.app 5 (.bi .sum (.cons Qt .nil))) .nil)
def Kq:Fn:=⟨2,11,.cons (.dN [2,3,4] (.var 0)) (.cons (.set 5 (.lst .nil)) (.cons (.for [6] k9 (.seq (.var 3)) Zt) (.cons (.set 8 (.lst .nil)) (.cons (.for [9] k9 (.seq (.var 4)) ju) (.cons (.ret (.tup (.cons (.var 2) (.cons (.bi .tuple (.cons (.var 5) .nil)) (.cons (.bi .tuple (.cons (.var 8) .nil)) .nil))))) .nil)))))⟩
def ji:E:= .comp [0] k9 1 [] (.seq (.ix (.var 0) (.var 2))) y9 (.bl k9) (.call "_law_whole" (.cons (.var 0) .nil))
noncomputable def zn:Ss:= .cons (.iff (.or (.not (.dY (.ix (.var 0) (.var 2)) .tuple)) (.cmp .ne (.bi .len (.cons (.ix (.var 0) (.var 2)) .nil)) (.bi .len (.cons (.ix (.var 1) (.var 2)) .nil)))) (.cons (.ret (.bl y9)) .nil) .nil) (.cons (.iff (.or (.not (.bi .all (.cons ji .nil))) (.cmp .ne (.ix (.var 0) (.var 2)) (.ix (.var 1) (.var 2)))) (.cons (.ret (.bl y9)) .nil) .nil) .nil)
def Kb:Fn:=⟨2,3,.cons (.iff (.or (.not (.dY (.var 0) .tuple)) (.or (.cmp .ne (.bi .len (.cons (.var 0) .nil)) (.int 3)) (.or (.not (.call "_law_whole" (.cons (.ix (.var 0) (.int 0)) .nil))) (.cmp .ne (.ix (.var 0) (.int 0)) (.ix (.var 1) (.int 0)))))) (.cons (.ret (.bl false)) .nil) .nil) (.cons (.for [2] true (.seq (.lst (.cons (.int 1) (.cons (.int 2) .nil)))) zn) (.cons (.ret (.bl true)) .nil))⟩
noncomputable def Kd:Fn:=⟨2,2,.cons (.ret (.tup (.cons (.iy (.tup (.cons (.str [97,103,101]) (.cons (.str [98,101,101]) (.cons (.str [99,97,112]) (.cons (.str [100,111,116]) .nil))))) (.var 0)) (.cons (.iy (.tup (.cons (.str [101,97,116]) (.cons (.str [102,101,100]) (.cons (.str [103,111]) (.cons (.str [104,117,116]) .nil))))) (.var 1)) .nil)))) .nil⟩
noncomputable def GC:Fn:=⟨2,4,.cons (.ak 2 (.bin .add (.ix (.var 0) (.int 0)) (.ix (.var 0) (.int 1)))) (.cons (.ak 3 (.bin .mod (.var 1) (.bin .add (.bi .len (.cons (.var 2) .nil)) (.int 3)))) (.cons (.iff (.cmp .lt (.var 3) (.int 3)) (.cons (.ret (.tup (.cons (.ix (.lst (.cons (.str [115,97,109,101]) (.cons (.str [97,108,108]) (.cons (.str [110,111,110,101]) .nil)))) (.var 3)) .nil))) .nil) .nil) (.cons (.ret (.tup (.cons (.str [110,97,109,101]) (.cons (.ix (.var 2) (.bin .sub (.var 3) (.int 3))) .nil)))) .nil)))⟩
noncomputable def GY:Fn:=⟨2,5,.cons (.ak 2 (.ix (.ix (.var 0) (.neg (.int 1))) (.int 0))) (.cons (.ak 3 (.ix (.ix (.var 0) (.bin .mod (.bin .fdiv (.var 1) (.int 8)) (.bi .len (.cons (.var 0) .nil)))) (.int 0))) (.cons (.ak 4 (.ix (.lst (.cons (.str [105,110]) (.cons (.str [101,113,117,97,108]) (.cons (.str [115,111,109,101]) (.cons (.str [110,111]) (.cons (.str [108,101,97,115,116]) (.cons (.str [109,111,115,116]) (.cons (.str [101,97,99,104,108,101,97,115,116]) (.cons (.str [101,97,99,104,109,111,115,116]) .nil))))))))) (.bin .mod (.var 1) (.int 8)))) (.cons (.iff (.cmp .lt (.bin .mod (.var 1) (.int 8)) (.int 2)) (.cons (.ret (.tup (.cons (.var 4) (.cons (.var 2) (.cons (.var 3) .nil))))) .nil) .nil) (.cons (.iff (.cmp .lt (.bin .mod (.var 1) (.int 8)) (.int 4)) (.cons (.ret (.tup (.cons (.var 4) (.cons (.var 2) .nil)))) .nil) .nil) (.cons (.ret (.tup (.cons (.var 4) (.cons (.ix (.lst (.cons (.bin .mod (.bin .fdiv (.var 1) (.int 8)) (.int 5)) (.cons (.bin .mod (.bin .fdiv (.var 1) (.int 8)) (.int 100)) .nil))) (.bin .mod (.bin .fdiv (.var 1) (.int 800)) (.int 2))) (.cons (.var 2) .nil))))) .nil)))))⟩
noncomputable def Kx:Fn:=⟨2,5,.cons (.e8 0 2) (.cons (.e8 0 3) (.cons (.ak 4 (.bin .add (.int 1) (.bi .max (.cons (.ix (.var 3) (.int 1)) (.cons (.ix (.var 2) (.int 1)) .nil))))) (.cons (.iff (.cmp .gt (.var 4) (.int 13)) (.cons (.cm 0 (.var 3)) .nil) (.cons (.cm 0 (.tup (.cons (.tup (.cons (.var 1) (.cons (.ix (.var 3) (.int 0)) (.cons (.ix (.var 2) (.int 0)) .nil)))) (.cons (.var 4) .nil)))) .nil)) .nil)))⟩
def Gu:Fn:=⟨5,8,.cons (.iff (.or (.cmp .lt (.var 3) (.int 5)) (.cmp .eq (.var 1) (.lst .nil))) (.cons (.cm 1 (.tup (.cons (.call "_law_atom" (.cons (.var 0) (.cons (.var 4) .nil))) (.cons (.int 1) .nil)))) .nil) (.cons (.iff (.cmp .lt (.var 3) (.int 7)) (.cons (.eV 1 [5,6]) (.cons (.iff (.cmp .lt (.var 6) (.int 13)) (.cons (.ak 5 (.tup (.cons (.ix (.lst (.cons (.str [116,117,114,110,101,100]) (.cons (.str [99,108,111,115,101,100]) .nil))) (.bin .sub (.var 3) (.int 5))) (.cons (.var 5) .nil)))) .nil) .nil) (.cons (.cm 1 (.tup (.cons (.var 5) (.cons (.bi .min (.cons (.int 13) (.cons (.bin .add (.var 6) (.int 1)) .nil))) .nil)))) .nil))) (.cons (.iff (.cmp .lt (.var 3) (.int 11)) (.cons (.iff (.cmp .gt (.bi .len (.cons (.var 1) .nil)) (.int 1)) (.cons (.ex (.call "_law_put" (.cons (.var 1) (.cons (.ix (.lst (.cons (.str [112,108,117,115]) (.cons (.str [108,101,115,115]) (.cons (.str [98,111,116,104]) (.cons (.str [106,111,105,110,101,100]) .nil))))) (.bin .sub (.var 3) (.int 7))) .nil)))) .nil) .nil) .nil) (.cons (.iff (.or (.cmp .lt (.var 3) (.int 14)) (.cmp .eq (.var 2) (.lst .nil))) (.cons (.cm 2 (.tup (.cons (.call "_law_fact" (.cons (.var 1) (.cons (.var 4) .nil))) (.cons (.int 1) .nil)))) .nil) (.cons (.iff (.cmp .eq (.var 3) (.int 14)) (.cons (.eV 2 [7,6]) (.cons (.iff (.cmp .lt (.var 6) (.int 13)) (.cons (.ak 7 (.tup (.cons (.str [110,111,116]) (.cons (.var 7) .nil)))) .nil) .nil) (.cons (.cm 2 (.tup (.cons (.var 7) (.cons (.bi .min (.cons (.int 13) (.cons (.bin .add (.var 6) (.int 1)) .nil))) .nil)))) .nil))) (.cons (.iff (.cmp .gt (.bi .len (.cons (.var 2) .nil)) (.int 1)) (.cons (.ex (.call "_law_put" (.cons (.var 2) (.cons (.ix (.lst (.cons (.str [97,110,100]) (.cons (.str [111,114]) .nil))) (.bin .mod (.var 4) (.int 2))) .nil)))) .nil) .nil) .nil)) .nil)) .nil)) .nil)) .nil)) .nil⟩
noncomputable def GV:Fn:=⟨1,2,.cons (.ak 1 (.bin .add (.bin .mod (.var 0) (.int 1000003)) (.int 29))) (.cons (.ret (.bin .fdiv (.bin .add (.bin .pow (.var 1) (.int 11)) (.bin .mul (.int 31) (.bin .pow (.var 1) (.int 7)))) (.int 13))) .nil)⟩
def jh:Ss:= .cons (.ak 7 (.tup (.cons (.str [97,110,100]) (.cons (.var 7) (.cons (.var 8) .nil))))) .nil
def xl:Ss:= .cons (.dN [1,5] (.bi .divmod (.cons (.var 1) (.cons (.int 16) .nil)))) (.cons (.dN [1,6] (.bi .divmod (.cons (.var 1) (.cons (.int 1600) .nil)))) (.cons (.ex (.call "_law_op" (.cons (.var 0) (.cons (.var 2) (.cons (.var 3) (.cons (.var 5) (.cons (.var 6) .nil))))))) .nil))
def GG:Fn:=⟨2,10,.cons (.set 2 (.share (.lst .nil))) (.cons (.set 3 (.share (.lst .nil))) (.cons (.for [4] true (.aw (.int 7)) xl) (.cons (.iff (.cmp .eq (.var 3) (.lst .nil)) (.cons (.dN [1,6] (.bi .divmod (.cons (.var 1) (.cons (.int 1600) .nil)))) (.cons (.cm 3 (.tup (.cons (.call "_law_fact" (.cons (.var 2) (.cons (.var 6) .nil))) (.cons (.int 1) .nil)))) .nil)) .nil) (.cons (.ak 7 (.ix (.ix (.var 3) (.int 0)) (.int 0))) (.cons (.for [8,9] false (.seq (.fJ (.var 3) (.int 1))) jh) (.cons (.ret (.var 7)) .nil))))))⟩
def Zf:E:= .comp [0] k9 1 [1] (.seq (.var 4)) y9 (.bl k9) (.call "_law_saying" (.cons (.var 1) (.cons (.var 0) .nil)))
def Jj:E:= .comp [0] k9 1 [] (.seq (.var 4)) y9 (.bl k9) (.call "_law_spread" (.cons (.var 0) .nil))
def GB:Fn:=⟨4,5,.cons (.ak 4 (.sl (.var 0) (.var 2) (.bin .add (.var 2) (.var 3)))) (.cons (.iff (.cmp .eq (.bin .mod (.call "_law_nth" (.cons (.var 0) (.cons (.int 0) .nil))) (.int 2)) (.int 1)) (.cons (.ak 4 Jj) .nil) .nil) (.cons (.ret (.bi .tuple (.cons Zf .nil))) .nil))⟩
def zT:E:= .comp [0] k9 1 [0,1] (.seq (.var 2)) y9 (.bl k9) (.call "keeps" (.cons (.var 1) (.cons (.var 2) (.cons (.var 0) .nil))))
def Kh:Fn:=⟨3,3,.cons (.ret (.bi .all (.cons zT .nil))) .nil⟩
def Xd:Ss:= .cons (.ak 6 (.call "_law_led" (.cons (.var 0) (.cons (.var 5) .nil)))) (.cons (.ak 7 (.bin .add (.rev (.bi .list (.cons (.ix (.var 6) (.int 2)) .nil))) (.rev (.bi .list (.cons (.ix (.var 6) (.int 1)) .nil))))) (.cons (.iff (.or (.d3 false (.var 4)) (.hH (.var 7) (.ix (.var 4) (.int 0)))) (.cons (.ak 4 (.tup (.cons (.var 7) (.cons (.var 6) .nil)))) .nil) .nil) .nil))
def Ka:Fn:=⟨1,8,.cons (.dN [1,2,3] (.var 0)) (.cons (.ak 4 .av) (.cons (.for [5] k9 (.seq (.call "_law_orders" (.cons (.var 1) .nil))) Xd) (.cons (.ret (.ix (.var 4) (.int 1))) .nil)))⟩
def jj:Ss:= .cons (.ak 7 (.call "_law_world" (.cons (.var 1) (.cons (.var 3) (.cons (.var 4) (.cons (.var 6) .nil)))))) (.cons (.iff (.call "_law_keep" (.cons (.var 0) (.cons (.var 7) (.cons (.var 2) .nil)))) (.cons (.app 5 (.var 7)) .nil) .nil) .nil)
def GM:Fn:=⟨3,8,.cons (.ak 3 (.bi .len (.cons (.ix (.var 0) (.int 0)) .nil))) (.cons (.ak 4 (.bi .len (.cons (.ix (.var 0) (.int 1)) .nil))) (.cons (.set 5 (.lst .nil)) (.cons (.for [6] k9 (.aw (.bin .shl (.int 1) (.bin .add (.bin .mul (.var 3) (.var 1)) (.bin .mul (.bin .mul (.var 4) (.var 1)) (.var 1))))) jj) (.cons (.ret (.var 5)) .nil))))⟩
def GO:Fn:=⟨1,2,.cons (.ak 1 (.lst (.cons (.bY (.var 0) true ["NoSize"]) (.cons (.bY (.var 0) true ["NoPair"]) (.cons (.bY (.var 0) true ["NoName"]) (.cons (.bY (.var 0) true ["NoCode"]) .nil)))))) (.cons (.ak 1 (.bin .add (.var 1) (.lst (.cons (.bY (.var 0) true ["NoText"]) (.cons (.bY (.var 0) true ["Crowded"]) (.cons (.bY (.var 0) true ["TooBig"]) (.cons (.bY (.var 0) true ["NoWorld"]) .nil))))))) (.cons (.ak 1 (.bin .add (.var 1) (.lst (.cons (.bY (.var 0) true ["NoRenaming"]) (.cons (.bY (.var 0) true ["NoNumber"]) (.cons (.bY (.var 0) true ["Broken"]) (.cons (.bY (.var 0) true ["Kept"]) .nil))))))) (.cons (.ak 1 (.bin .add (.var 1) (.lst (.cons (.bY (.var 0) true ["Unlike"]) (.cons (.bY (.var 0) true ["NoRow"]) (.cons (.bY (.var 0) true ["NoStand"]) (.cons (.bY (.var 0) true ["ValueError"]) .nil))))))) (.cons (.ret (.var 1)) .nil))))⟩
noncomputable def Wv:E:= .comp [0] k9 1 [] (.aw (.int 16)) y9 (.bl k9) (.or (.cmp .eq (.var 0) (.int 0)) (.cmp .eq (.var 0) (.int 15)))
noncomputable def Zw:E:= .comp [0] k9 1 [] (.aw (.int 16)) y9 (.bl k9) (.or (.cmp .eq (.var 0) (.int 6)) (.cmp .eq (.var 0) (.int 15)))
noncomputable def Qw:E:= .comp [0] k9 1 [] (.aw (.int 16)) y9 (.bl k9) (.or (.cmp .eq (.var 0) (.int 9)) (.cmp .eq (.var 0) (.int 15)))
noncomputable def Qv:E:= .comp [0] k9 1 [] (.aw (.int 16)) y9 (.bl k9) (.or (.cmp .eq (.var 0) (.int 10)) (.cmp .eq (.var 0) (.int 15)))
def aP:Fn:=⟨4,8,.cons (.ak 4 .av) (.cons (.ak 5 .av) (.cons (.fK (.d3 false (.var 2)) 5 "world_at" (.cons (.var 0) (.cons (.var 1) (.cons (.var 3) .nil))) "number_of" (.cons (.var 0) (.cons (.var 2) .nil)) "WorldError" 6 4) (.cons (.iff (.d3 false (.var 4)) (.cons (.ret (.lst (.cons (.str [116,111,108,100]) (.cons (.var 5) .nil)))) .nil) .nil) (.cons (.ak 7 (.call "_law_classes" (.cons (.var 4) .nil))) (.cons (.iff (.cmp .eq (.var 7) Qv) (.cons (.ret (.lst (.cons (.str [98,114,111,107,101,110]) (.cons (.xf 4 "number") .nil)))) .nil) .nil) (.cons (.iff (.cmp .eq (.var 7) Qw) (.cons (.ret (.lst (.cons (.str [110,117,109,98,101,114]) (.cons (.xf 4 "number") .nil)))) .nil) .nil) (.cons (.iff (.cmp .eq (.var 7) Zw) (.cons (.ret (.lst (.cons (.str [98,105,103]) (.cons (.xf 4 "bits") .nil)))) .nil) .nil) (.cons (.ret (.bin .mul (.lst (.cons (.str [115,105,122,101]) .nil)) (.bi .int (.cons (.cmp .eq (.var 7) Wv) .nil)))) .nil))))))))⟩
def jd:Ss:= .cons (.iff (.not (.call "keeps" (.cons (.var 0) (.cons (.var 1) (.cons (.ix (.var 2) (.var 3)) .nil))))) (.cons (.ret (.var 3)) .nil) .nil) .nil
def GU:Fn:=⟨3,4,.cons (.for [3] k9 (.aw (.bi .len (.cons (.var 2) .nil))) jd) (.cons (.ret .av) .nil)⟩
def Gz:Fn:=⟨3,7,.cons (.dN [3,4] (.var 0)) (.cons (.ak 5 (.call "_law_asked" (.cons (.var 0) (.cons (.ix (.var 1) (.int 0)) (.cons (.var 1) (.cons (.int 0) .nil)))))) (.cons (.ak 6 (.call "_law_broken" (.cons (.var 3) (.cons (.var 1) (.cons (.var 4) .nil))))) (.cons (.iff (.d3 true (.var 6)) (.cons (.ret (.and (.cmp .eq (.var 5) (.lst (.cons (.str [98,114,111,107,101,110]) (.cons (.var 6) .nil)))) (.call "_law_whole" (.cons (.ix (.var 5) (.int 1)) .nil)))) .nil) .nil) (.cons (.ret (.and (.cmp .eq (.var 5) (.lst (.cons (.str [116,111,108,100]) (.cons (.da .ck (.var 2) (.cons (.call "_law_least" (.cons (.var 1) .nil)) .nil)) .nil)))) (.call "_law_whole" (.cons (.ix (.var 5) (.int 1)) .nil)))) .nil))))⟩
def Gv:Fn:=⟨4,5,.cons (.ak 4 (.call "_law_asked" (.cons (.var 0) (.cons (.var 1) (.cons .av (.cons (.var 2) .nil)))))) (.cons (.iff (.or (.not (.call "_law_whole" (.cons (.var 2) .nil))) (.or (.cmp .lt (.var 2) (.int 0)) (.cmp .ge (.var 2) (.bi .len (.cons (.var 3) .nil))))) (.cons (.ret (.and (.cmp .eq (.var 4) (.lst (.cons (.str [110,117,109,98,101,114]) (.cons (.var 2) .nil)))) (.cmp .eq (.call "_law_whole" (.cons (.ix (.var 4) (.int 1)) .nil)) (.call "_law_whole" (.cons (.var 2) .nil))))) .nil) .nil) (.cons (.ret (.and (.cmp .eq (.ix (.var 4) (.int 0)) (.str [116,111,108,100])) (.call "_law_alike" (.cons (.ix (.var 4) (.int 1)) (.cons (.ix (.var 3) (.var 2)) .nil))))) .nil))⟩
def ZJ:Ss:= .cons (.iff (.not (.call "_law_number_right" (.cons (.var 8) (.cons (.var 5) (.cons (.var 12) (.cons (.var 9) .nil)))))) (.cons (.ret (.bl false)) .nil) .nil) .nil
def ZW:Ss:= .cons (.iff (.not (.call "_law_world_right" (.cons (.var 8) (.cons (.call "_law_world" (.cons (.var 5) (.cons (.var 3) (.cons (.var 4) (.cons (.var 1) .nil))))) (.cons (.var 9) .nil))))) (.cons (.ret (.bl false)) .nil) .nil) .nil
def xZ:E:= .comp [0] true 1 [] (.seq (.call "_law_keepers" (.cons (.var 6) (.cons (.var 5) (.cons (.ix (.var 8) (.int 1)) .nil))))) true (.cmp .eq (.call "_law_least" (.cons (.var 0) .nil)) (.var 0)) (.var 0)
def dH:Fn:=⟨1,17,.cons (.ak 1 (.bin .fdiv (.call "_law_nth" (.cons (.var 0) (.cons (.int 0) .nil))) (.int 2))) (.cons (.ak 2 (.lst (.cons (.tup (.cons (.int 0) (.cons (.int 1) (.cons (.int 2) .nil)))) (.cons (.tup (.cons (.int 1) (.cons (.int 0) (.cons (.int 3) .nil)))) (.cons (.tup (.cons (.int 1) (.cons (.int 1) (.cons (.int 1) .nil)))) (.cons (.tup (.cons (.int 2) (.cons (.int 0) (.cons (.int 2) .nil)))) (.cons (.tup (.cons (.int 2) (.cons (.int 3) (.cons (.int 1) .nil)))) (.cons (.tup (.cons (.int 1) (.cons (.int 1) (.cons (.int 2) .nil)))) (.cons (.tup (.cons (.int 0) (.cons (.int 0) (.cons (.int 3) .nil)))) (.cons (.tup (.cons (.int 1) (.cons (.int 0) (.cons (.int 2) .nil)))) .nil)))))))))) (.cons (.dN [3,4,5] (.ix (.var 2) (.bin .mod (.var 1) (.int 8)))) (.cons (.ak 6 (.call "_law_names" (.cons (.var 3) (.cons (.var 4) .nil)))) (.cons (.ak 7 (.bin .mod (.bin .fdiv (.var 1) (.int 8)) (.int 4))) (.cons (.iff (.cmp .gt (.bin .add (.bin .mul (.var 3) (.var 5)) (.bin .mul (.bin .mul (.var 4) (.var 5)) (.var 5))) (.int 5)) (.cons (.ak 7 (.bi .min (.cons (.var 7) (.cons (.int 2) .nil)))) .nil) .nil) (.cons (.ak 8 (.tup (.cons (.var 6) (.cons (.call "_law_sayings" (.cons (.var 0) (.cons (.var 6) (.cons (.int 7) (.cons (.var 7) .nil))))) .nil)))) (.cons (.ak 9 xZ) (.cons (.for [1] true (.seq (.lst (.cons (.call "_law_nth" (.cons (.var 0) (.cons (.int 2) .nil))) (.cons (.call "_law_nth" (.cons (.var 0) (.cons (.int 3) .nil))) .nil)))) ZW) (.cons (.ak 10 (.bin .mod (.bin .fdiv (.call "_law_nth" (.cons (.var 0) (.cons (.int 1) .nil))) (.int 6)) (.bin .pow (.int 10) (.int 20)))) (.cons (.ak 11 (.ix (.lst (.cons (.neg (.int 1)) (.cons (.bi .len (.cons (.var 9) .nil)) (.cons (.bin .add (.bi .len (.cons (.var 9) .nil)) (.var 10)) (.cons (.bin .sub (.neg (.int 1)) (.var 10)) (.cons (.bl true) (.cons .av .nil))))))) (.bin .mod (.call "_law_nth" (.cons (.var 0) (.cons (.int 1) .nil))) (.int 6)))) (.cons (.for [12] true (.seq (.lst (.cons (.var 11) (.cons (.bin .mod (.call "_law_nth" (.cons (.var 0) (.cons (.int 4) .nil))) (.bin .add (.bi .len (.cons (.var 9) .nil)) (.int 1))) (.cons (.bin .sub (.bi .len (.cons (.var 9) .nil)) (.int 1)) .nil))))) ZJ) (.cons (.ak 13 (.call "_law_names" (.cons (.bin .mod (.call "_law_nth" (.cons (.var 0) (.cons (.int 5) .nil))) (.int 5)) (.cons (.bin .add (.int 1) (.bin .mod (.bin .fdiv (.call "_law_nth" (.cons (.var 0) (.cons (.int 5) .nil))) (.int 5)) (.int 4))) .nil)))) (.cons (.ak 14 (.call "_law_world" (.cons (.int 4) (.cons (.bi .len (.cons (.ix (.var 13) (.int 0)) .nil)) (.cons (.bi .len (.cons (.ix (.var 13) (.int 1)) .nil)) (.cons (.call "_law_nth" (.cons (.var 0) (.cons (.int 6) .nil))) .nil)))))) (.cons (.ak 15 (.lst (.cons (.str [98,105,103]) (.cons (.bin .add (.bin .mul (.bi .len (.cons (.ix (.var 13) (.int 0)) .nil)) (.int 4)) (.bin .mul (.bi .len (.cons (.ix (.var 13) (.int 1)) .nil)) (.int 16))) .nil)))) (.cons (.iff (.cmp .ne (.call "_law_asked" (.cons (.tup (.cons (.var 13) (.cons (.tup (.cons (.tup (.cons (.str [115,111,109,101]) (.cons (.tup (.cons (.str [110,111,110,101]) .nil)) .nil))) .nil)) .nil))) (.cons (.int 4) (.cons (.var 14) (.cons (.int 0) .nil))))) (.var 15)) (.cons (.ret (.bl false)) .nil) .nil) (.cons (.ak 16 (.ix (.lst (.cons (.neg (.int 1)) (.cons (.int 5) (.cons (.bl true) (.cons .av (.cons (.str [50]) (.cons (.bin .add (.int 5) (.var 10)) .nil))))))) (.bin .mod (.bin .fdiv (.call "_law_nth" (.cons (.var 0) (.cons (.int 5) .nil))) (.int 20)) (.int 6)))) (.cons (.iff (.cmp .ne (.call "_law_asked" (.cons (.tup (.cons (.var 13) (.cons (.tup .nil) .nil))) (.cons (.var 16) (.cons .av (.cons (.var 11) .nil))))) (.lst (.cons (.str [115,105,122,101]) .nil))) (.cons (.ret (.bl false)) .nil) .nil) (.cons (.ret (.cmp .eq (.call "_law_asked" (.cons (.tup (.cons (.var 13) (.cons (.tup .nil) .nil))) (.cons (.int 4) (.cons .av (.cons (.var 11) .nil))))) (.var 15))) .nil))))))))))))))))))⟩
def prog:Prog:=⟨[("is_whole",KB),("is_below",GX),("pairs_of",Kl),("gathered",Km),("common",KM),("either",KJ),("without",Kr),("turned",KI),("joined",KG),("closed",KH),("same",K3),("every",KQ),("is_size",Ku),("widths",KC),("bits",K1),("check_size",GE),("check_bits",GF),("code",K8),("world_of",Kk),("longer_by_one",GT),("renamings",Kv),("is_renaming",GQ),("renamed_kind",G6),("renamed_tie",GS),("renamed",Kw),("codes_alike",GL),("form",Pa),("value_of_name",GD),("made",GW),("value",Kt),("counts",KK),("keeps_count",GR),("keeps",a9),("first_broken",GH),("all_forms",G9),("unlike",Ko),("world_at",GJ),("number_of",GP),("_law_nth",Ky),("_law_whole",Kp),("_law_marks",Ke),("_law_orders",Kn),("_law_world",GN),("_law_led",Kq),("_law_alike",Kb),("_law_names",Kd),("_law_atom",GC),("_law_fact",GY),("_law_put",Kx),("_law_op",Gu),("_law_spread",GV),("_law_saying",GG),("_law_sayings",GB),("_law_keep",Kh),("_law_least",Ka),("_law_keepers",GM),("_law_classes",GO),("_law_asked",aP),("_law_broken",GU),("_law_world_right",Gz),("_law_number_right",Gv),("law",dH)],[("WorldError", "ValueError"),("NoSize", "WorldError"),("NoPair", "WorldError"),("NoName", "WorldError"),("NoCode", "WorldError"),("NoText", "WorldError"),("Crowded", "WorldError"),("TooBig", "WorldError"),("NoWorld", "WorldError"),("NoRenaming", "WorldError"),("NoNumber", "WorldError"),("Broken", "WorldError"),("Kept", "WorldError"),("Unlike", "WorldError"),("NoRow", "WorldError"),("NoStand", "WorldError")],[("GREATEST_SIZE",.int 4),("MOST_LISTED_BITS",.int 9)]⟩
abbrev u9 (m:Nat):Fx:=⟨call prog m,prog.cl,prog.con⟩
theorem qy (f): ∀ ds,(∀ d∈ds,step d h= .ok (f d) h)->Gx step ds h= .ok (ds.filterMap f) h
 | [],_=>rfl
 | d::ds,a=>by
  have b:=qy f ds λd c=>a d (Aa1 _ c)
  rw [Gx,a d Aa3]
  simp only [b]
  cases q:f d<;>simp [q]
def qW (f) (q:Gk F it Y h= .ok ds h) (m:ds.length<=aZ)
 (r: ∀d∈ds,∃a b,Gp tg one d (Aa8 k u0++aA.map λj=>Gf Y j)=y0 a/\Gs F c a h= .ok b h/\(if b=k9 then ∃w y,eval F elt a h= .ok w h/\w.d=y0 y/\f d=y0 y else f d=u0)):
 eval F (.comp tg one k aA it k9 c elt) Y h= .ok (.own (ds.filterMap f)) h:=by
 rw [eval,q,R.aa,if_pos m,qy f]
 ·rfl
 intro d l
 obtain⟨a,b,p,g,e⟩:=r d l
 rw [p]
 show((Gs F c a h).bind _)=_
 rw [g]
 cases b with
 | true=>
  obtain⟨w,y,n,o,i⟩:=e
  simp [n,o,i]
 | false=>
  rw [if_neg (by simp)]at e
  simp [e]
def wy (f) (i:Gk F it Y h= .ok ds h) (e:ds.length<=aZ)
 (n: ∀d∈ds,∃a,Gp tg one d (Aa8 k u0++aA.map λj=>Gf Y j)=y0 a/\ ∃w,eval F elt a h= .ok w h/\w.d=y0 (f d)):
 eval F (.comp tg one k aA it y9 c elt) Y h= .ok (.own (ds.map f)) h:=by
 rw [eval,i,R.aa,if_pos e,qy (λd=>y0 (f d))]
 ·simp [List.filterMap_eq_map']
 intro d b
 obtain⟨a,l,w,g,m⟩:=n d b
 rw [l]
 simp [g,m]
def Zx (bnd) (body) (d) (ds) (Y) (h):Gq bnd body (d::ds) Y h=match bnd d Y with
 | none=> .fail
 | some c=>match body c h with
  | .next b a=>Gq bnd body ds b a
  | .cont b a=>Gq bnd body ds b a
  | .brk b a=> .next b a
  | o=>o:=rfl
@[simp] theorem WD (bnd) (body) (Y) (h):Gq bnd body [] Y h= .next Y h:=rfl
def qa (b:bnd d Y=y0 Y1) (a:body Y1 h= .next Y2 h2):Gq bnd body (d::ds) Y h=Gq bnd body ds Y2 h2:=by
 rw [Zx,b];simp [a]
@[simp] theorem Pb (i) (d) (Y):Gp [i] k9 d Y=y0 (GI Y i (.v d)):=rfl
@[simp] theorem K6 (tg) (ds) (Y):Gp tg y9 (.tup ds) Y=aH tg ds Y:=rfl
def Zp (a b:Nat):Pc (a:Int) (b:Int)=y0 ((a &&& b:Nat):Int):=by simp [Pc]
def WE (a b:Nat):kD (a:Int) (b:Int)=y0 ((a ||| b:Nat):Int):=by simp [kD]
@[simp] theorem xo (i j):Gn .band i j=Pc i j:=rfl
@[simp] theorem qC (i j):Gn .bor i j=kD i j:=rfl
def Zc (a b:Nat) (h:a<2 ^ 64):Gn .mul (a:Int) (b:Int)=y0 ((a*b:Nat):Int):=by
 have c:(-gJ< a/\ a<gJ)\/(-gJ< b/\ b<gJ):=by rw [Pd];omega
 show(if _ then _ else _)=_
 rw [if_pos c,Int.natCast_mul]
def fg (k:Nat) (h:k<=1000000):Gn .shl 1 (k:Int)=y0 ((2 ^ k:Nat):Int):=by
 have a: 0<=(k:Int)/\ k<=BP/\(1:Int).natAbs<iO:=by rw [KY,G7];exact⟨by lia,by lia,by decide⟩
 show(if _ then _ else _)=_
 rw [if_pos a,Int.one_mul,Ag4]
 simp
def jE (t k:Nat):Gn .shr (t:Int) (k:Int)=y0 ((t / 2 ^ k:Nat):Int):=by
 simp [Gn,Int.natCast_pow]
def JL (t k):(t / 2 ^ k &&& 1)=(t.testBit k).toNat:=by
 have:=Aj9 (t / 2 ^ k) 1
 rw [this]
 exact Wf.eM t k
def pD (p:Nat×Nat):D:= .tup [.int (p.1:Nat),.int (p.2:Nat)]
def CJ (n t:Nat) (m):(((Aa0 m).map λ(i:Nat)=>D.int (i:Int)).filterMap λd=>match d with
 | .int i=>if t.testBit i.toNat then y0 (.tup [.int (i / (n:Int)),.int (i % (n:Int))])else u0
 | _=>u0)=(((Aa0 m).filter t.testBit).map λk=>(k / n,k % n)).map pD:=by
 induction Aa0 m with
 | nil=>rfl
 | cons x c a=>
  by_cases b:t.testBit x=k9
  ·simp [b,pD,a]
  ·simp [b,a]
def gF (m)(a:d∈(Aa0 m).map λ(i:Nat)=>D.int (i:Int)): ∃i:Nat,i<m/\d= .int (i:Int):=by
 obtain⟨i,b,rfl⟩:=Ac1.mp a
 exact⟨i,Ab3.mp b,rfl⟩
def ql (a:n<=20):n*n<=400:=Ac (Ad7 a a) (by decide)
def tM (a:n<=20):n*n<=aZ:=Ac (ql a) (by rw [Gi];decide)
def wd {m:Nat}(e:eval F a Y h= .ok (.v (.int (m:Int))) h) (c:m<=1000000):Gk F (.aw a) Y h= .ok ((Aa0 m).map λ(i:Nat)=> .int (i:Int)) h:=by
 have b: -gQ<= m/\ m<gQ:=by rw [K4];lia
 rw [Gk,e,R.aa,int?_int,R.af,R.aa,if_pos b,Ag4]
def yP {n i j:Nat}(b:n<=20) (e:Gf Y i=y0 (.v (.int (n:Int)))/\Gf Y j=y0 (.v (.int (n:Int)))):Gk F (.aw (.bin .mul (.var i) (.var j))) Y h= .ok ((Aa0 (n*n)).map λ(i:Nat)=> .int (i:Int)) h:=by
 have c:=ql b
 refine wd ?_ (by lia)
 have a:=Zc n n (by lia)
 simp [e.1,e.2,a]
def Xq (k n t:Nat) (h) (e:n<=20):call prog (k+1) "pairs_of" [.v (.int (n:Int)),.v (.int (t:Int))] h= .ok (.own ((Wf.ar n t).map pD)) h:=by
 rw [Ga rfl _ _ _ rfl]
 simp only [Kl,execs,exec,Wy,Kc]
 rw [qW (λd=>match d with
  | .int i=>if t.testBit i.toNat then y0 (.tup [.int _,.int (i % n)])else u0
  | _=>u0) (yP e (by simp [Gf])) (by simpa using tM e)]
 ·rw [CJ]
  simp [Wf.ar]
 ·intro d f
  obtain⟨i,g,rfl⟩:=gF _ f
  have a:0<n:=by cases n with
   | zero=>simp at g
   | succ m=>lia
  have b:0< n/\ n<gi:=by rw [Kf];lia
  have j:Pc ((t / 2 ^ i:Nat)) 1=y0 (((t.testBit i).toNat:Nat):Int):=by
   rw [show 1=((1:Nat):Int)from rfl,Zp,JL]
  refine⟨_,t.testBit i,rfl,?_,?_⟩
  ·unfold Gs
   simp only [eval,Gf,Ac7,Ak3,Aa9,Aj,Ag5,GI,Gj,R.aa,GA,jE,xo,j,R.af,xY]
   cases t.testBit i<;>rfl
  ·by_cases c:t.testBit i=k9
   ·simp [c,Gf,b,a]
   ·simp [c]
def AJ (e:n<=20){t:Nat}{a b:Nat}(g:a<n) (i:b<n) (h):
 execs F Zh [y0 (.v (.int (n:Int))),y0 l,y0 (.v (.int (t:Int))),y0 (.v (.int (a:Int))),y0 (.v (.int (b:Int)))] h=
  .next [y0 (.v (.int (n:Int))),y0 l,y0 (.v (.int ((t ||| 2 ^ (a*n+b):Nat):Int))),y0 (.v (.int (a:Int))),y0 (.v (.int (b:Int)))] h:=by
 have f:=Zc a n (by lia)
 have c:Gn .shl 1 _=y0 ((2 ^ (a*n+b):Nat):Int):=fg _ (by
  have:=Wf.place_lt g i
  have:=ql e
  lia)
 have d:=WE t (2 ^ (a*n+b))
 rw [Int.natCast_add]at c
 simp only [Zh,execs,exec,eval,Gf,Gj,R.aa,R.af,R.az,O.bT,GA,f,Jc,c,qC,d,W.eG,GI]
theorem sW (d:n<=20)(h): ∀ ps (t:Nat) r x y,Wf.et n ps-> ∃a b,
 Gq (Gp [3,4] y9) (λY h=>execs F Zh Y h) (ps.map pD++r) [y0 (.v (.int (n:Int))),y0 l,y0 (.v (.int (t:Int))),x,y] h=
  Gq (Gp [3,4] y9) (λY h=>execs F Zh Y h) r [y0 (.v (.int (n:Int))),y0 l,y0 (.v (.int ((ps.foldl (λt p=>t ||| 2 ^ (p.1*n+p.2)) t:Nat):Int))),a,b] h
 | [],t,r,x,y,_=>⟨x,y,rfl⟩
 | p::ps,t,r,x,y,c=>by
  have f:=c p Aa3
  obtain⟨a,b,e⟩:=sW d h ps (t ||| 2 ^ (p.1*n+p.2)) r (y0 (.v (.int p.1))) (y0 (.v (.int p.2))) λq g=>c q (Aa1 _ g)
  refine⟨a,b,?_⟩
  rw [Aa9,Aj,qa rfl (AJ d f.1 f.2 h),e]
  rfl
def tx (k n) (ps) (l) (a:ko l=y0 (ps.map pD)) (h) (c:n<=20) (b:Wf.et n ps):call prog (k+1) "gathered" [.v (.int (n:Int)),l] h= .ok (.v (.int ((Wf.cY n ps:Nat):Int))) h:=by
 rw [Ga rfl _ _ _ rfl]
 obtain⟨d,f,e⟩:=sW c h ps 0 [] u0 u0 b
 rw [Af1,WD]at e
 simp [Km,a,R.af]
 rw [show (0)=((0:Nat):Int)from rfl,e]
 simp [Wf.cY]
def XB (k n) (ps) (h) (a:n<=20) (b:Wf.et n ps):call prog (k+3) "gathered" [.v (.int (n:Int)),.bor (ps.map pD)] h= .ok (.v (.int ((Wf.cY n ps:Nat):Int))) h:=tx _ n ps _ rfl h a b
end M
local macro_rules | `(tactic| simp_all [$xs,*]) => `(tactic| simp only [M.exec, M.execs, M.Gs, M.eval, M.Gg, M.Gm, M.Gk, M.Gr, M.Kc, M.Gf, M.Gj, M.GI, M.aH, M.R.aa, M.R.az, M.R.af, M.O.bT, M.O.eO, M.O.gW, M.W.eG, M.W.lO, M.W.bj, M.W.eT, M.W.gR, Aa9, Ad6, Aj, Ag5, Nat.reduceSub, Ac7, Ak3, M.G8, Bool.not_true, Bool.not_false, M.GA, Ah3, M.Pm, M.Po, M.K5, M.KL, M.Pp, M.Pq, M.int?_int, M.Gb, M.Gw, M.Pi, M.GK, M.Pb, M.K6, $xs,*])
namespace M
def wL (k s t:Nat) (h):call prog (k+1) "either" [.v (.int (s:Int)),.v (.int (t:Int))] h= .ok (.v (.int ((s ||| t:Nat):Int))) h:=by
 rw [Ga rfl _ _ _ rfl]
 simp_all [KJ,qC,WE]
def CC (k s t:Nat) (h):call prog (k+1) "common" [.v (.int (s:Int)),.v (.int (t:Int))] h= .ok (.v (.int ((s &&& t:Nat):Int))) h:=by
 rw [Ga rfl _ _ _ rfl]
 simp_all [KM,xo,Zp]
def E1 (s t:Nat):Pc (s:Int) (-(t:Int)-1)=y0 ((s-(s &&& t):Nat):Int):=by
 have c: ¬(0<= -(t:Int)-1):=by lia
 have a: 0<=(s:Int):=by lia
 have b:(-(-(t:Int)-1)-1).toNat=t:=by lia
 rw [Pc,if_pos a,if_neg c,b,Ag4]
def wQ (k s t:Nat) (h):call prog (k+1) "without" [.v (.int (s:Int)),.v (.int (t:Int))] h= .ok (.v (.int ((s-(s &&& t):Nat):Int))) h:=by
 rw [Ga rfl _ _ _ rfl]
 simp_all [Kr,xo,E1]
def XR (q:eval F e Y h= .ok (.own xs) h):Gk F (.seq e) Y h= .ok xs h:=by
 rw [Gk,q];rfl
def oG (q:eval F e Y h= .ok (.v (.lst xs)) h):Gk F (.seq e) Y h= .ok xs h:=by
 rw [Gk,q];rfl
def kq (q:eval F e Y h= .ok (.v (.tup xs)) h):Gk F (.seq e) Y h= .ok xs h:=by
 rw [Gk,q];rfl
def XD (n t) (a:n<=20):((Wf.ar n t).map pD).length<=aZ:=by
 refine Ac ?_ (tM a)
 simp only [Wf.ar,Aa]
 exact Ac (Ad9 _ _) (by simp)
def IA (k n t:Nat) (h) (a:n<=20):call prog (k+4) "turned" [.v (.int (n:Int)),.v (.int (t:Int))] h= .ok (.v (.int ((Wf.dw n t:Nat):Int))) h:=by
 rw [Ga rfl _ _ _ rfl]
 have b: ∀h,eval (u9 (k+3)) zx [y0 (.v (.int n)),y0 (.v (.int t))] h= .ok (.own ((Wf.m3 (Wf.ar n t)).map pD)) h:=by
  intro h
  rw [zx,wy (λd=>match d with | .tup [x,y]=> .tup [y,x] | d=>d) (XR ?_) (XD n t a)]
  ·simp [Wf.m3,pD,Function.comp_def]
  ·intro d c
   obtain⟨p,e,rfl⟩:=Ac1.mp c
   exact⟨_,rfl,_,rfl,rfl⟩
  ·simp_all [Xq _ n t h a]
 simp_all [KI,b,XB k n _ h a (Wf.eJ (Wf.aQ n t))]
 rfl
def FJ (k n:Nat) (h) (c:n<=20):call prog (k+4) "same" [.v (.int (n:Int))] h= .ok (.v (.int ((Wf.cZ n:Nat):Int))) h:=by
 rw [Ga rfl _ _ _ rfl]
 have b: ∀h,eval (u9 (k+3)) zM [y0 (.v (.int n))] h= .ok (.own (((Aa0 n).map λa=>(a,a)).map pD)) h:=by
  intro h
  rw [zM,wy (λd=> .tup [d,d]) (wd (m:=n) (by simp_all []) (by lia)) (by simp;rw [Gi];lia)]
  ·simp [pD,Function.comp_def]
  ·intro d e
   exact⟨_,rfl,_,rfl,rfl⟩
 simp_all [K3,b,XB k n _ h c (Wf.dR n)]
 rfl
def yr (k n:Nat) (h) (a:n<=20):call prog (k+1) "every" [.v (.int (n:Int))] h= .ok (.v (.int ((2 ^ (n*n)-1:Nat):Int))) h:=by
 rw [Ga rfl _ _ _ rfl]
 have b:=Zc n n (by lia)
 have d:=fg (n*n) (by have:=ql a;lia)
 have c:((2 ^ (n*n):Nat))-1=((2 ^ (n*n)-1:Nat):Int):=by
  have:=Aj2 (n*n)
  omega
 simp_all [KQ,b,d,Wm,c]
def vj (x k:Nat) (a:x<2 ^ 64) (h:k<=1000000):Gn .shl (x:Int) (k:Int)=y0 ((x*2 ^ k:Nat):Int):=by
 have b: 0<=(k:Int)/\ k<=BP/\(x:Int).natAbs<iO:=by rw [KY,G7];exact⟨by lia,by lia,by simpa using a⟩
 show(if _ then _ else _)=_
 rw [if_pos b,Ag4,Int.natCast_mul,Int.natCast_pow]
 rfl
def Hq {n o p t a b:Nat}(d:n<=20) (i:a<n) (k:b<n)(h):
 execs F Wr [y0 (.v (.int (n:Int))),y0 (.v (.int (o:Int))),y0 (.v (.int (p:Int))),y0 (.v (.int ((2 ^ n-1:Nat):Int))),y0 (.v (.int (t:Int))),y0 (.v (.int (a:Int))),y0 (.v (.int (b:Int))),x7] h=
  .next [y0 (.v (.int (n:Int))),y0 (.v (.int (o:Int))),y0 (.v (.int (p:Int))),y0 (.v (.int ((2 ^ n-1:Nat):Int))),y0 (.v (.int ((t ||| Wf.cG n p b*2 ^ (a*n):Nat):Int))),y0 (.v (.int (a:Int))),y0 (.v (.int (b:Int))),y0 (.v (.int ((Wf.cG n p b:Nat):Int)))] h:=by
 have g:=Zc a n (by lia)
 have c:=Zc b n (by lia)
 have e:(p / 2 ^ (b*n) &&& (2 ^ n-1))=Wf.cG n p b:=by rw [Aj9];rfl
 have f:=Ac (Ad7 (Ah4 i) (Aa6 n)) (ql d)
 have j:=vj _ (a*n) (Ab (Wf.dy n p b) (Ac (Ad (by decide) d) (by decide))) (by lia)
 simp_all [Wr,g,c,jE,xo,Zp,e,j,qC,WE]
theorem vt {n o p:Nat}(d:n<=20) (h): ∀ ps (t:Nat) x y z,Wf.et n ps-> ∃b c a,
 Gq (Gp [5,6] y9) (λY h=>execs F Wr Y h) (ps.map pD) [y0 (.v (.int (n:Int))),y0 (.v (.int (o:Int))),y0 (.v (.int (p:Int))),y0 (.v (.int ((2 ^ n-1:Nat):Int))),y0 (.v (.int (t:Int))),x,y,z] h=
  .next [y0 (.v (.int (n:Int))),y0 (.v (.int (o:Int))),y0 (.v (.int (p:Int))),y0 (.v (.int ((2 ^ n-1:Nat):Int))),y0 (.v (.int ((ps.foldl (λt q=>t ||| Wf.cG n p q.2*2 ^ (q.1*n)) t:Nat):Int))),b,c,a] h
 | [],t,x,y,z,_=>⟨x,y,z,rfl⟩
 | q::ps,t,x,y,z,g=>by
  have f:=g q Aa3
  obtain⟨b,c,a,e⟩:=vt d h ps (t ||| Wf.cG n p q.2*2 ^ (q.1*n)) (y0 (.v (.int q.1))) (y0 (.v (.int q.2))) (y0 (.v (.int ((Wf.cG n p q.2:Nat))))) λq i=>g q (Aa1 _ i)
  refine⟨b,c,a,?_⟩
  rw [Aa9,qa rfl (Hq d f.1 f.2 h),e]
  rfl
def wJ (k n o p:Nat) (h) (a:n<=20):call prog (k+2) "joined" [.v (.int (n:Int)),.v (.int (o:Int)),.v (.int (p:Int))] h= .ok (.v (.int ((Wf.joinM n o p:Nat):Int))) h:=by
 rw [Ga rfl _ _ _ rfl]
 have c:=fg n (by lia)
 have b:((2 ^ n:Nat))-1=((2 ^ n-1:Nat):Int):=by
  have:=Aj2 n
  lia
 obtain⟨d,g,f,e⟩:=vt a h _ 0 u0 u0 u0 (Wf.aQ n o)
 simp_all [KG,c,Wm,b,Xq k n o h a]
 rw [show (0)=((0:Nat):Int)from rfl,e]
 simp_all []
 rfl
theorem jS (g:n<=20) (h): ∀ f r,2 ^ (n*n)-r<f->Wf.fP n t r-> ∃c,Wf.fM n t c ∧
 KO (λY h=>Gs (u9 (k+2)) Zr Y h) (λY h=>execs (u9 (k+2)) Wq Y h) f [y0 (.v (.int (n:Int))),y0 (.v (.int (t:Int))),y0 (.v (.int (r:Int))),y0 (.v (.int ((r ||| Wf.joinM n r r:Nat):Int)))] h=
  .next [y0 (.v (.int (n:Int))),y0 (.v (.int (t:Int))),y0 (.v (.int (c:Int))),y0 (.v (.int (c:Int)))] h
 | 0,r,i,_=>absurd i (Ai1 _)
 | f+1,r,i,d=>by
  have m: ∀(a b:Nat),Gs (u9 (k+2)) Zr [y0 (.v (.int n)),y0 (.v (.int t)),y0 (.v (.int a)),y0 (.v (.int b))] h= .ok (!v9 (b=a)) h:=by
   intro a b
   simp [Gs,Zr,Gf,KN]
   by_cases q:b=a
   ·simp [q]
   ·have: ¬(b=(a:Int)):=by omega
    simp [q,this]
  rw [KO,m,R.az]
  by_cases e:r ||| Wf.joinM n r r=r
  ·refine⟨r,d.done e,?_⟩
   simp only [e,decide_true,Bool.not_true]
  ·have s:=d.grow e
   have j:=d.next.lt
   obtain⟨c,o,p⟩:=jS g h f (r ||| Wf.joinM n r r) (by omega) d.next
   refine⟨c,o,?_⟩
   simp only [e,decide_false,Bool.not_false]
   have l:execs (u9 (k+2)) Wq [y0 (.v (.int n)),y0 (.v (.int t)),y0 (.v (.int r)),y0 (.v (.int ((r ||| Wf.joinM n r r:Nat))))] h=
    .next [y0 (.v (.int n)),y0 (.v (.int t)),y0 (.v (.int ((r ||| Wf.joinM n r r:Nat)))),y0 (.v (.int (((r ||| Wf.joinM n r r) ||| Wf.joinM n (r ||| Wf.joinM n r r) (r ||| Wf.joinM n r r):Nat))))] h:=by
    simp_all [Wq,wJ k n _ _ h g,wL (k+1) _ _ h]
   simp only [l]
   exact p
def EK (k n t) (h) (b:n<=4) (c:t<2 ^ (n*n)): ∃r,Wf.fM n t r/\call prog (k+3) "closed" [.v (.int (n:Int)),.v (.int (t:Int))] h= .ok (.v (.int (r:Int))) h:=by
 rw [Ga rfl _ _ _ rfl]
 have e:2 ^ (n*n)-t<100000:=by
  have:n*n<=16:=Ad7 b b
  have:2 ^ _<=2 ^ 16:=Ad (by decide) this
  lia
 obtain⟨r,d,a⟩:=jS (by lia) h 100000 t e (Wf.fP.start c)
 refine⟨r,d,?_⟩
 simp [Gs]at a
 simp_all [KH,wJ k n _ _ h (by lia),wL _ _ _ h]
 rw [a]
 simp_all []
def za (e:exec F s Y h= .next Y1 h1):execs F (.cons s ss) Y h=execs F ss Y1 h1:=by rw [execs,e,O.bT]
def fx (e:exec F s Y h= .next Y1 h1) (g:GZ n (execs F ss Y1 h1)=r):GZ n (execs F (.cons s ss) Y h)=r:=by rw [za e];exact g
def jb (e:exec F s Y h= .ret w h1):execs F (.cons s ss) Y h= .ret w h1:=by rw [execs,e,O.eO]
def qr (e:Gs F c Y h= .ok k9 h1):exec F (.iff c a b) Y h=execs F a Y h1:=by rw [exec,e,R.az]
def QU (e:Gs F c Y h= .ok y9 h1):exec F (.iff c a b) Y h=execs F b Y h1:=by rw [exec,e,R.az]
def wm (a:Kc e=u0) (q:eval F e Y h= .ok (.own xs) h1):exec F (.ret e) Y h= .ret (.own xs) h1:=by
 rw [exec,a];simp [q,R.az]
def xc (a:Kc e=u0) (q:eval F e Y h= .ok (.v d) h1):exec F (.ret e) Y h= .ret (.v d) h1:=by
 rw [exec,a];simp [q,R.az]
def Za (e:Gs F c Y h= .ok y9 h):execs F (.cons (.iff c a .nil) ss) Y h=execs F ss Y h:=za (QU e)
def qk (e:Gs F c Y h= .ok k9 h) (r:exec F s Y h= .ret w h):execs F (.cons (.iff c (.cons s .nil) .nil) ss) Y h= .ret w h:=jb ((qr e).trans (jb r))
def Xa :execs F (.cons s .nil) Y h=exec F s Y h:=by
 rw [execs]
 cases exec F s Y h<;>rfl
abbrev ag (l:List Nat):List D:=l.map λ(x:Nat)=> .int (x:Int)
abbrev wc (n:Nat) (ks ts:List Nat):D:= .tup [.int (n:Int),.tup (ag ks),.tup (ag ts)]
structure II (n K T:Nat) (ks ts:List Nat):Prop where
 n4:n<=4
 lk:ks.length=K
 lt:ts.length=T
 bk: ∀x∈ks,x<2 ^ n
 bt: ∀x∈ts,x<2 ^ (n*n)
def Qh (xs:List α) (i) (h:i<xs.length):aX xs (i:Int)=xs[i]? :=by
 have:(i)< xs.length:=by omega
 simp [aX,d8,this]
def nW (l) (i:Nat) (h:i<l.length):aX (ag l) (i:Int)=y0 (.int ((l.getD i 0:Nat):Int)):=by
 rw [Qh _ _ (by simp_all),Ac5,Aa4 h,Ab5,Aa4 h]
 rfl
def Xy (n t):(Wf.ar n t).length<=n*n:=by
 unfold Wf.ar
 rw [Aa]
 exact Ac (Ad9 _ _) (by simp)
def XF (x y:D):aX [x,y] 0=y0 x:=rfl
def xz (x y:D):aX [x,y] 1=y0 y:=rfl
def CV (x:D):aX [x] 0=y0 x:=rfl
def Jq (x) (r:List α):aX (x::r) 0=y0 x:=by
 have: 0< (x::r).length:=by simp
 simp [aX,d8,this]
def Xs (x y z:D):aX [x,y,z] 0=y0 x:=rfl
mutual
theorem xA: ∀ {d:D},Gc d=k9->cj d d=k9
 | .av,_=>rfl
 | .bl b,_=>by simp
 | .int i,_=>by simp
 | .str s,_=>by simp
 | .tup xs,h=>by
  rw [cj];exact Kg (by simpa [Gc]using h)
 | .lst xs,h=>by
  rw [cj];exact Kg (by simpa [Gc]using h)
 | .ref _,h=>by simp at h
 | .exc _ _,h=>by simp at h
theorem Kg: ∀ {xs:List D},Gd xs=k9->Ks xs xs=k9
 | [],_=>rfl
 | x::xs,h=>by
  have h':Gc x=k9/\Gd xs=true:=by simpa [Gd]using h
  rw [Ks,xA h'.1,Kg h'.2];rfl
end
mutual
theorem ZH {h:AH}: ∀ {d:D},Gc d=k9->res h d=d
 | .av,_=>rfl
 | .bl b,_=>rfl
 | .int i,_=>rfl
 | .str s,_=>rfl
 | .tup xs,q=>by
  rw [res,Ki (by simpa [Gc]using q)]
 | .lst xs,q=>by
  rw [res,Ki (by simpa [Gc]using q)]
 | .ref _,q=>by simp at q
 | .exc _ _,q=>by simp at q
theorem Ki {h:AH}: ∀ {xs:List D},Gd xs=k9->KT h xs=xs
 | [],_=>rfl
 | x::xs,q=>by
  have h':Gc x=k9/\Gd xs=true:=by simpa [Gd]using q
  rw [KT,ZH h'.1,Ki h'.2]
end
theorem Xl (f) (a: ∀x,Gc (f x)=k9): ∀l:List α,Gd (l.map f)=k9
 | []=>rfl
 | x::l=>by simp [a x,Xl f a l]
theorem xJ (f) (k) (a: ∀x,dep (f x)<=k): ∀l:List α,KA (l.map f)<=k
 | []=>Ah5 _
 | x::l=>by
  have c:=a x
  have b:=xJ f k a l
  exact Nat.max_le.mpr ⟨c,b⟩
theorem xK: ∀l:List Nat,Ps (ag l)=y0 ((l.sum:Nat):Int)
 | []=>rfl
 | x::l=>by
  have:=xK l
  simp only [Aa9,Ps]at this ⊢
  rw [this,Ai3]
  simp
theorem rk: ∀bs:List Bool,Pl (bs.map .bl)=y0 bs
 | []=>rfl
 | b::bs=>by simp [Pl,rk bs]
def qv {bs:List Bool}(q:eval F e Y h= .ok (.own (bs.map .bl)) h):eval F (.bi .all (.cons e .nil)) Y h= .ok (.v (.bl (bs.all id))) h:=by
 rw [eval,Gg,q]
 simp [rk,R.af]
def Z2 (p) (l:List α):(l.map p).all id=l.all p:=by
 rw [Am5];rfl
def Aw (d) (a:Gc d=k9) (b:dep d<150) (h):Gy .ne (.v d) (.v d) h=y0 false:=by
 show(if KN (res h d) (res h d)then y0 (!cj (res h d) (res h d))else u0)=_
 rw [ZH a,if_pos (by simp_all),xA a];rfl
def Dm (d) (a:Gc d=k9) (b:dep d<150) (h):Gy .eq (.v d) (.v d) h=y0 true:=by
 show(if KN (res h d) (res h d)then y0 (cj (res h d) (res h d))else u0)=_
 rw [ZH a,if_pos (by simp_all),xA a]
def Qf (g f) (l:List α) (i:Gk F it Y h= .ok (l.map g) h) (n:l.length<=1000) (m: ∀x∈l,∃w,eval F elt (y0 (.v (g x))::aA.map λj=>Gf Y j) h= .ok w h/\w.d=y0 (f x)):eval F (.comp [0] k9 1 aA it y9 (.bl k9) elt) Y h= .ok (.own (l.map f)) h:=by
 rw [eval,i,R.aa,if_pos (by rw [Gi,Aa];lia)]
 have d: ∀ step (l:List α),(∀ x∈l,step (g x) h= .ok (y0 (f x)) h)->Gx step (l.map g) h= .ok (l.map f) h:=λstep l=>by
  induction l with
  | nil=>intro _;rfl
  | cons x l b=>
   intro a
   rw [Aa9,Gx,a x Aa3]
   simp [b λy c=>a y (Aa1 _ c),Aa9]
 rw [d _ l λx a=> ?_]
 ·rfl
 ·obtain⟨w,e,k⟩:=m x a
  show(eval F elt (y0 _::aA.map λj=>Gf Y j) h).bind _=_
  rw [e]
  simp [k,R.af]
def X5 {n:Nat}(f) (a:eval F e Y h= .ok (.v (.int (n:Int))) h) (m:n<=1000)
 (l: ∀i,i<n-> ∃w,eval F elt (y0 (.v (.int (i:Int)))::aA.map λj=>Gf Y j) h= .ok w h/\w.d=y0 (f i)):eval F (.comp [0] k9 1 aA (.aw e) y9 (.bl k9) elt) Y h= .ok (.own ((Aa0 n).map f)) h:=by
 rw [wy (λd=>match d with | .int i=>f i.toNat | d=>d) (wd a (by lia)) (by simp;rw [Gi];lia)]
 ·simp [Function.comp_def]
 ·intro d c
  obtain⟨i,k,rfl⟩:=gF _ c
  obtain⟨w,g,b⟩:=l i k
  exact⟨_,rfl,w,g,by simpa using b⟩
def qp (i j) (h):Gy .eq (.v (.int i)) (.v (.int j)) h=y0 (v9 (i=j)):=by
 rfl
def Jv (s t) (h):Gy .eq (.v (.str s)) (.v (.str t)) h=y0 (s==t):=by simp [KN]
def BN (F) (Y) (h):Gg F .nil Y h= .ok [] h:=rfl
def uO (a:eval F e Y h= .ok w h1) (b:Gg F es Y h1= .ok ws h2):Gg F (.cons e es) Y h= .ok (w::ws) h2:=by
 rw [Gg,a,R.aa,b];rfl
def ux (a:Gg F es Y h= .ok ws h1) (b:F.call f (ws.map W.arg) h1= .ok w h2):eval F (.call f es) Y h= .ok w h2:=by
 rw [eval,a,R.aa,b]
def sZ (a:eval F e Y h= .ok w h1) (b:w.d=y0 d):exec F (.ak i e) Y h= .next (GI Y i (.v d)) h1:=by
 rw [exec,a,R.az]
 simp [b]
def zP (x y z:D):aX [x,y,z] 2=y0 z:=rfl
def pm (o:List Nat) (a:Nat):Nat:=o.getD a 0
structure Od (n:Nat) (o:List Nat):Prop where
 p:o.Perm (Aa0 n)
section
variable {n:Nat}{o:List Nat}
def Od.len (h:Od n o):o.length=n:=by rw [h.p.length_eq,Aj4]
def wt (h):pm o a=o[a]:=by
 rw [pm,Ab5,Aa4 h];rfl
def Od.lt (h:Od n o)(c:a<n):pm o a<n:=by
 have b:a<o.length:=by rw [h.len];exact c
 rw [wt b]
 exact Ab3.mp (h.p.mem_iff.mp (Ak0 b))
def Od.inj (h:Od n o)(e:a<n) (f:b<n):pm o a=pm o b↔a=b:=by
 have c:a<o.length:=by rw [h.len];exact e
 have d:b<o.length:=by rw [h.len];exact f
 rw [wt c,wt d]
 exact List.getElem_inj (h.p.nodup_iff.mpr Ak)
def Od.cU (h:Od n o)(c:y<n): ∃a,a<n/\pm o a=y:=by
 obtain⟨a,b,e⟩:=List.getElem_of_mem (h.p.mem_iff.mpr (Ab3.mpr c))
 exact⟨a,by rw [← h.len];exact b,by rw [wt b];exact e⟩
theorem Od.map (h:Od n o):o=(Aa0 n).map (pm o):=by
 refine Am3 (by simp [h.len]) λi a b=> ?_
 rw [Ai9,Aj1,wt a]
end
def Dc (h:m.testBit p=y9):m+2 ^ p=m ||| 2 ^ p:=by
 have a:(m ||| 2 ^ p) &&& 2 ^ p=2 ^ p:=Af3 λk=>by
  rw [Ak9,Ah]
  cases (2 ^ p).testBit k<;>simp
 have b:(m ||| 2 ^ p)-(_ &&& 2 ^ p)=m:=Af3 λk=>by
  rw [Wf.bB,Ah,Ak8]
  by_cases q:p=k
  ·subst q;simp [h]
  ·simp [q]
 rw [a]at b
 have:2 ^ p<=m ||| 2 ^ p:=by
  have:= @Nat.and_le_left (m ||| 2 ^ p) (2 ^ p)
  rw [a]at this;exact this
 omega
theorem zO (g:Nat->Bool) (q:Nat->Nat): ∀l:List Nat,(∀ a∈l,∀b∈l,q a=q b->a=b)->l.Nodup-> ∀k,(l.map λa=>(g a).toNat*2 ^ q a).sum.testBit k=l.any λa=>g a&&v9 (q a=k)
 | [],_,_,k=>by simp
 | a::l,f,hn,k=>by
  have c:=Ah1.mp hn
  have e:=zO g q l (λx m y j=>f x (Aa1 _ m) y (Aa1 _ j)) c.2
  rw [Aa9,Ai3,Af2,←e k]
  cases n:g a
  ·simp
  ·have i:((l.map λa=>(g a).toNat*2 ^ q a).sum).testBit (q a)=false:=by
    rw [e,Ag3]
    intro b d h
    rw [Aa7,decide_eq_true_eq]at h
    have:=f b (Aa1 _ d) a Aa3 h.2
    exact c.1 (this▸d)
   rw [Bool.toNat_true,Nat.one_mul,Am7,Dc i,Ah,Ak8,Bool.or_comm,Ai5]
def kM (n:Nat) (o:List Nat) (x:Nat):Nat:=((Aa0 n).map λa=>(x.testBit a).toNat*2 ^ pm o a).sum
section
variable {n:Nat}{o:List Nat}(h:Od n o)
include h
def rG (x k):(kM n o x).testBit k=(Aa0 n).any λa=>x.testBit a&&v9 (pm o a=k):=
 zO _ _ _ (λa c b d e=>(h.inj (Ab3.mp c) (Ab3.mp d)).mp e) Ak k
def lE (x)(c:a<n):(kM n o x).testBit (pm o a)=x.testBit a:=by
 rw [rG h,Ad8,Ae7]
 constructor
 ·rintro ⟨b,d,e⟩
  rw [Aa7,decide_eq_true_eq,h.inj (Ab3.mp d) c]at e
  exact e.2▸e.1
 ·exact λe=>⟨a,Ab3.mpr c,by simp [e]⟩
def nc (x):kM n o x<2 ^ n:=by
 refine Ai7 _ λi c=> ?_
 rw [rG h,Ag3]
 intro a b e
 have:=h.lt (Ab3.mp b)
 lia
end
def tP (n:Nat) (o:List Nat) (p:Nat×Nat):Nat:=pm o p.1*n+pm o p.2
def xD {n a b c d:Nat}(i:b<n) (h:d<n) (e:a*n+b=c*n+d):a=c/\b=d:=by
 have g:=Wf.aE (a:=a) i
 have f:=Wf.aF (a:=a) i
 rw [e]at g f
 rw [Wf.aE h]at g
 rw [Wf.aF h]at f
 exact⟨g.symm,f.symm⟩
def tK (n:Nat) (o:List Nat) (t:Nat):Nat:=((Aa0 (n*n)).map λk=>(t.testBit k).toNat*2 ^ tP n o (k / n,k % n)).sum
section
variable {n:Nat}{o p:List Nat}(h:Od n o)
include h
def rO (t k):(tK n o t).testBit k=(Aa0 (n*n)).any λj=>t.testBit j&&v9 (tP n o (j / n,j % n)=k):=
 zO _ _ _ (λa c b d e=>by
  have c:=Ab3.mp c
  have d:=Ab3.mp d
  have m:=Wf.aR c
  have a2:=Wf.aJ c
  have l:=Wf.aR d
  have f:=Wf.aJ d
  obtain⟨i,g⟩:=xD (h.lt a2) (h.lt f) e
  rw [h.inj m l]at i
  rw [h.inj a2 f]at g
  rw [← Wf.aT (k:=a),←Wf.aT (k:=b),i,g]) Ak k
def l5 (t)(g:a<n) (d:b<n):(tK n o t).testBit (pm o a*n+pm o b)=t.testBit (a*n+b):=by
 rw [rO h,Ad8,Ae7]
 constructor
 ·rintro ⟨j,c,e⟩
  have c:=Ab3.mp c
  rw [Aa7,decide_eq_true_eq]at e
  obtain⟨f,i⟩:=xD (h.lt (Wf.aJ c)) (h.lt d) e.2
  rw [h.inj (Wf.aR c) g]at f
  rw [h.inj (Wf.aJ c) d]at i
  rw [← f,←i,Wf.aT];exact e.1
 ·exact λe=>⟨a*n+b,Ab3.mpr (Wf.place_lt g d),by simp [e,tP,Wf.aE d,Wf.aF d]⟩
def mJ (t):tK n o t<2 ^ (n*n):=by
 refine Ai7 _ λi b=> ?_
 rw [rO h,Ag3]
 intro j a e
 have a:=Ab3.mp a
 rw [Aa7,decide_eq_true_eq]at e
 have:=Wf.place_lt (h.lt (Wf.aR a)) (h.lt (Wf.aJ a))
 have c:pm o (j / n)*n+pm o (j % n)=i:=e.2
 lia
def oW (d:v<2 ^ n) (e: ∀a,a<n->v.testBit (pm o a)=x.testBit a):v=kM n o x:=by
 refine Af3 λk=> ?_
 by_cases b:k<n
 ·obtain⟨a,c,rfl⟩:=h.cU b
  rw [e a c,lE h x c]
 ·rw [Ae5 (Ab d (Ad (by decide) (Am0.mp b))),Ae5 (Ab (nc h x) (Ad (by decide) (Am0.mp b)))]
def nM (i:v<2 ^ (n*n)) (e: ∀a b,a<n->b<n->v.testBit (pm o a*n+pm o b)=x.testBit (a*n+b)):v=tK n o x:=by
 refine Af3 λk=> ?_
 by_cases c:k<n*n
 ·obtain⟨a,d,g⟩:=h.cU (Wf.aR c)
  obtain⟨b,f,j⟩:=h.cU (Wf.aJ c)
  have:=e a b d f
  rw [← l5 h x d f,g,j,Wf.aT]at this
  exact this
 ·rw [Ae5 (Ab i (Ad (by decide) (Am0.mp c))),Ae5 (Ab (mJ h x) (Ad (by decide) (Am0.mp c)))]
def Od.then (q:Od n p):Od n (p.map (pm o)):=⟨(q.p.map (pm o)).trans (h.map▸h.p)⟩
theorem QY (q:Od n p)(b:a<n):pm (p.map (pm o)) a=pm o (pm p a):=by
 have c:a<p.length:=by rw [q.len];exact b
 rw [wt (by simp_all),Ai9,wt c]
def yx (q:Od n p) (x):kM n o (kM n p x)=kM n (p.map (pm o)) x:=oW (h.then q) (nc h _) λa b=>by
 rw [QY h q b,lE h _ (q.lt b),lE q x b]
def D2 (q:Od n p) (x):tK n o (tK n p x)=tK n (p.map (pm o)) x:=nM (h.then q) (mJ h _) λa b c d=>by
 rw [QY h q c,QY h q d,l5 h _ (q.lt c) (q.lt d),l5 q x c d]
def Od.inv (b:p.length=n) (c: ∀a,a<n->pm p (pm o a)=a):Od n p:=⟨by
 have e:p=(Aa0 n).map (pm p):=Am3 (by simp [b]) λi f g=>by rw [Ai9,Aj1,wt f]
 have j:(Aa0 n).map _=(Aa0 n).map (pm p):=rfl
 rw [e]
 refine((h.p.symm).map _).trans ?_
 rw [h.map,Ac6]
 have:(Aa0 n).map (pm p∘pm o)=Aa0 n:=by
  refine(Ae λa d=> ?_).trans (List.map_id _)
  exact c a (Ab3.mp d)
 rw [this]⟩
def Ij (q:Od n p) (e: ∀a,a<n->pm p (pm o a)=a)(d:x<2 ^ n):kM n p (kM n o x)=x:=(oW q d λb f=>by
 obtain⟨a,c,rfl⟩:=h.cU f
 rw [e a c,lE h x c]).symm
def Eh (q:Od n p) (f: ∀a,a<n->pm p (pm o a)=a)(j:x<2 ^ (n*n)):tK n p (tK n o x)=x:=(nM q j λb c k i=>by
 obtain⟨a,g,rfl⟩:=h.cU k
 obtain⟨d,e,rfl⟩:=h.cU i
 rw [f a g,f d e,l5 h x g e]).symm
end
def qt:D->Bool
 | .int _=>k9
 | _=>y9
def zf (d:D) (e:Int):Bool:=match d with
 | .int i=>v9 (0<=i)&&v9 (i<e)
 | _=>y9
def Fb (k) (d) (h) (a:Gc d=k9):call prog (k+1) "is_whole" [.v d] h= .ok (.v (.bl (qt d))) h:=by
 cases d<;>first | exact Gb _ _ _ rfl | cases a
def Jl (k) (d) (e) (h) (a:Gc d=k9):call prog (k+2) "is_below" [.v d,.v (.int e)] h= .ok (.v (.bl (zf d e))) h:=by
 rw [Ga rfl _ _ _ rfl]
 have b:=Fb k d h a
 cases d with
 | int i=>
  simp [b,GX,qt,zf,Gf]
  by_cases c:0<=i<;>simp [c]
 | _=>first | (simp [b,GX,qt,zf,Gf]) | (simp at a)
def X8 (g f) (l:List α) (n:Gk F it Y h= .ok (l.map g) h) (q:l.length<=1000) (p: ∀x∈l,∃b w,Gp tg one (g x) (Aa8 k u0++aA.map λj=>Gf Y j)=y0 b/\eval F elt b h= .ok w h/\w.d=y0 (f x)):eval F (.comp tg one k aA it y9 (.bl k9) elt) Y h= .ok (.own (l.map f)) h:=by
 rw [eval,n,R.aa,if_pos (by rw [Gi,Aa];lia)]
 have m: ∀ step (l:List α),(∀ x∈l,step (g x) h= .ok (y0 (f x)) h)->Gx step (l.map g) h= .ok (l.map f) h:=λstep l=>by
  induction l with
  | nil=>intro _;rfl
  | cons x l c=>
   intro a
   rw [Aa9,Gx,a x Aa3]
   simp [c λy d=>a y (Aa1 _ d),Aa9]
 rw [m _ l λx a=> ?_]
 ·rfl
 ·obtain⟨b,w,e,i,o⟩:=p x a
  simp only [e]
  show((eval F elt b h).bind _)=_
  rw [i]
  simp [o,R.af]
def XM {n:Nat}(b) (f) (t:eval F e Y h= .ok (.v (.int (n:Int))) h) (v:n<=1000)
 (s: ∀i,i<n->Gs F c (y0 (.v (.int (i:Int)))::aA.map λj=>Gf Y j) h= .ok (b i) h/\ ∃w,eval F elt (y0 (.v (.int (i:Int)))::aA.map λj=>Gf Y j) h= .ok w h/\w.d=y0 (f i)):eval F (.comp [0] k9 1 aA (.aw e) k9 c elt) Y h= .ok (.own (((Aa0 n).filter b).map f)) h:=by
 rw [qW (λd=>match d with | .int i=>if b i.toNat then y0 (f i.toNat)else u0 | _=>u0) (wd t (by lia)) (by simp;rw [Gi];lia)]
 ·congr 2
  have e: ∀l:List Nat,((l.map λ(i:Nat)=>D.int i).filterMap λd=>match d with | .int i=>if b i.toNat then y0 (f i.toNat)else u0 | _=>u0)=(l.filter b).map f:=λl=>by
   induction l with
   | nil=>rfl
   | cons x u k=>by_cases o:b x=k9<;>simp [o,k]
  exact e _
 ·intro d a
  obtain⟨i,p,rfl⟩:=gF _ a
  obtain⟨g,w,m,r⟩:=s i p
  refine⟨_,b i,rfl,g,?_⟩
  by_cases q:b i=k9
  ·rw [if_pos q];exact⟨w,_,m,r,by simp [q]⟩
  ·rw [if_neg q];simp [q]
theorem rX: ∀(xs a),xs.Nodup->(∀ x∈xs,x∉a)->Ph a xs=xs.length
 | [],_,_,_=>rfl
 | x::xs,a,hn,c=>by
  have hn:=Ah1.mp hn
  have d:a.any (· ==x)=false:=by
   rw [Ag3]
   intro y b e
   exact c x Aa3 (eq_of_beq e▸b)
  rw [Ph,d,rX xs _ hn.2 λy b=> ?_,Ab7]
  ·simp;omega
  ·rw [Af0,Af]
   rintro (h | h)
   ·exact c y (Aa1 _ b) h
   ·exact hn.1 (h▸b)
theorem QE: ∀l:List Nat,Kj (ag l)=y0 (l.map λ(x:Nat)=>(x:Int))
 | []=>rfl
 | x::l=>by
  have:=QE l
  simp only [Aa9,Kj]at this ⊢
  rw [this];rfl
def i4 {l:List Nat}:(l.map λ(x:Nat)=>(x:Int)).Nodup↔l.Nodup:=by
 rw [List.Nodup,List.pairwise_map,List.Nodup]
 exact⟨λh=>h.imp λ{a b} q e=>q (by rw [e]),λh=>h.imp λ{a b} q e=>q (by lia)⟩
theorem qG: ∀ {xs},Gd xs=k9-> ∀x∈xs,Gc x=k9
 | x::xs,h,y,a=>by
  have b:=by simpa [Gd]using h
  rcases Ab2.mp a with rfl | a
  ·exact b.1
  ·exact qG b.2 y a
def j0 (l):Gd (ag l)=true:=Xl _ (λ_=>rfl) l
def oo (l):KA (ag l)<=0:=xJ _ 0 (λ_=>Aa6 _) l
def XX (i j) (h):Gy .ne (.v (.int i)) (.v (.int j)) h=y0 (!v9 (i=j)):=by
 rfl
def B0 (a:Gd xs=k9) (b:xs.length<=1000) (h):eval (u9 (k+2)) (.bi .all (.cons Xj .nil)) [y0 (.v (.tup xs)),y0 (.v (.int (n:Int)))] h= .ok (.v (.bl (xs.all (zf · n)))) h:=by
 rw [← Z2]
 refine qv ?_
 rw [Ac6,Xj]
 have e:=Qf (F:=(u9 (k+2))) (aA:= [1]) (it:= .seq (.var 0)) (elt:= .call "is_below" (.cons (.var 0) (.cons (.var 1) .nil))) (Y:= [some (.v _),some (.v (.int n))]) (h:=h) id (fun x=> .bl (zf x n)) xs (by rw [List.map_id];exact kq rfl) b fun x c=>⟨.v _,by
  have:=Jl k x n h (qG a x c)
  simp_all [id,this],rfl⟩
 exact e
def E5 (k)(q:Od n o) (i:n<=4) (h):call prog (k+3) "is_renaming" [.v (.tup (ag o)),.v (.int (n:Int))] h= .ok (.v (.bl true)) h:=by
 rw [Ga rfl _ _ _ rfl]
 have d:(ag o).length=n:=by rw [Aa,q.len]
 have g:(ag o).all (zf · n)=true:=by
  rw [Am5,Ae1]
  intro x c
  have:=Ab3.mp (q.p.mem_iff.mp c)
  simp [zf,this]
 have a:=B0 (k:=k) (n:=n) (j0 o) (by omega) h
 rw [g]at a
 have e:Ph [] (o.map λ(x:Nat)=> x)=n:=by
  rw [rX _ _ (i4.mpr (q.p.nodup_iff.mpr Ak)) (λ_ _=>Ac2),Aa,q.len]
 have b:(o.map λ(x:Nat)=>(x:Int)).length<1000:=by rw [Aa,q.len];omega
 simp only [GQ]
 rw [Za (by simp_all [QW,Ty.dD,Wh,d,XX,decide_true]),jb (xc rfl ?_)]
 ·exact Gb _ _ _ rfl
 ·rw [eval]
  have a:eval (u9 _) _ (An6 y0 [W.v _,W.v _]++Aa8 (2-2) u0) h=_:=a
  rw [a]
  have f:(W.v (D.tup (ag o))).dJ =y0 _:=rfl
  simp_all [f,QE,b,if_true,e,qp,decide_true]
noncomputable def kF (x:Nat):Nat->List Nat->Nat->Nat
 | _,[],v=>v
 | i,p::ps,v=>kF x (i+1) ps (if x.testBit i then v ||| 2 ^ p else v)
theorem ot (x k): ∀ ps i v,(kF x i ps v).testBit k=k9↔(v.testBit k=k9\/ ∃j,ps[j]? =y0 k/\x.testBit (i+j)=k9)
 | [],i,v=>by simp [kF]
 | p::ps,i,v=>by
  rw [kF,ot x k ps]
  have e:(if x.testBit i=k9 then v ||| 2 ^ p else v).testBit k=k9↔(v.testBit k=k9\/(p=k/\x.testBit i=k9)):=by
   by_cases q:x.testBit i=k9
   ·simp [q,Ak8]
   ·simp [q]
  rw [e,or_assoc]
  refine or_congr Iff.rfl ⟨?_,?_⟩
  ·rintro (⟨b,a⟩ | ⟨j,b,a⟩)
   ·exact⟨0,by simp [b],by simpa using a⟩
   ·exact⟨j+1,by simpa using b,by rw [show i+(j+1)=i+1+j by omega];exact a⟩
  ·rintro ⟨j,b,a⟩
   cases j with
   | zero=>exact .inl ⟨by simpa using b,by simpa using a⟩
   | succ j=>exact .inr ⟨j,by simpa using b,by rw [show i+1+j=i+(j+1)by omega];exact a⟩
def r6 (h:a<o.length):o[a]? =y0 (pm o a):=by
 rw [wt h,Aa4 h]
def EA (q:Od n o) (x):kF x 0 o 0=kM n o x:=by
 have f: ∀k,(0:Nat).testBit k=k9↔False:=λk=>by simp
 refine oW q (Ai7 _ λk h=> ?_) λa g=> ?_
 ·refine eq_false_of_ne_true λe=> ?_
  rw [ot,f,false_or]at e
  obtain⟨j,b,c⟩:=e
  have:=Ab3.mp (q.p.mem_iff.mp (Ak2 b))
  lia
 ·rw [Ad8,ot,f,false_or]
  constructor
  ·rintro ⟨j,b,c⟩
   have d:=(Ac0.mp b).1
   rw [r6 d,Ae4.injEq,q.inj (by rw [← q.len];exact d) g]at b
   rw [Ag2,b]at c
   exact c
  ·exact λe=>⟨a,r6 (by rw [q.len];exact g),by rw [Ag2];exact e⟩
theorem tU {x:Nat}(h): ∀ c (i v:Nat) a b,(∀ p∈c,p<=1000)-> ∃g f,
 Gq (Gp [3,4] y9) (λY h=>execs F Jh Y h) (KS i (ag c)) [y0 (.v (.int (x:Int))),y0 w,y0 (.v (.int (v:Int))),a,b] h= .next [y0 (.v (.int (x:Int))),y0 w,y0 (.v (.int ((kF x i c v:Nat):Int))),g,f] h
 | [],i,v,a,b,_=>⟨a,b,rfl⟩
 | p::c,i,v,a,b,j=>by
  obtain⟨g,f,e⟩:=tU h c (i+1) (if x.testBit i then v ||| 2 ^ p else v) (y0 (.v (.int i))) (y0 (.v (.int p))) λq l=>j q (Aa1 _ l)
  refine⟨g,f,?_⟩
  have k:Pc ((x / 2 ^ i:Nat)) 1=y0 (((x.testBit i).toNat:Nat):Int):=by
   rw [show 1=((1:Nat):Int)from rfl,Zp,JL]
  have m:=fg p (by have:=j p Aa3;omega)
  have n:=WE v (2 ^ p)
  have d:Gs F (.bin .band (.bin .shr (.var 0) (.var 3)) (.int 1)) [y0 (.v (.int x)),y0 w,y0 (.v (.int v)),y0 (.v (.int i)),y0 (.v (.int p))] h= .ok (x.testBit i) h:=by
   unfold Gs
   simp only [eval,Gf,Gj,R.aa,GA,jE,xo,k,R.af,xY]
   cases x.testBit i<;>rfl
  rw [show KS i (ag (p::c))= .tup [.int i,.int p]::KS (i+1) (ag c)from rfl]
  rw [qa (Y1:= [y0 (.v (.int x)),y0 w,y0 (.v (.int v)),y0 (.v (.int i)),y0 (.v (.int p))]) rfl ?_,e]
  ·rfl
  ·simp only [Jh]
   rw [Xa]
   by_cases q:x.testBit i=k9
   ·rw [q]at d
    rw [qr d,if_pos q]
    simp_all [m,qC,n]
   ·rw [eq_false_of_ne_true q]at d
    rw [QU d,if_neg q]
    rfl
def Od.small (q:Od n o) (b:n<=4): ∀p∈o,p<=1000:=λp a=>by
 have:=Ab3.mp (q.p.mem_iff.mp a)
 lia
def EF (k)(q:Od n o) (a:n<=4) (x:Nat) (h):call prog (k+1) "renamed_kind" [.v (.int (x:Int)),.v (.tup (ag o))] h= .ok (.v (.int ((kM n o x:Nat):Int))) h:=by
 obtain⟨c,b,e⟩:=tU h o 0 0 u0 u0 (q.small a)
 rw [EA q]at e
 refine fx (by simp_all [];rfl) ?_
 rw [za (by
  show R.dj (.ok _ h) _=_
  rw [R.az];exact e)]
 simp_all []
def EX (q:Od n o) (t):Wf.cY n ((Wf.ar n t).map λp=>(pm o p.1,pm o p.2))=tK n o t:=by
 have c:Wf.et n ((Wf.ar n t).map λp=>(pm o p.1,pm o p.2)):=λr f=>by
  obtain⟨p,d,rfl⟩:=Ac1.mp f
  have:=Wf.aQ n t p d
  exact⟨q.lt this.1,q.lt this.2⟩
 refine nM q (Wf.cQ c) λa b j c=> ?_
 rw [Wf.bP,Ad8,Ae7]
 constructor
 ·rintro ⟨r,f,e⟩
  obtain⟨p,d,rfl⟩:=Ac1.mp f
  have g:=Wf.aQ n t p d
  obtain⟨i,h⟩:=xD (q.lt g.2) (q.lt c) (of_decide_eq_true e)
  rw [q.inj g.1 j]at i
  rw [q.inj g.2 c]at h
  obtain⟨k,m,l,rfl⟩:=Wf.bb.mp d
  rw [← i,←h,Wf.aT];exact l
 ·exact λe=>⟨_,Ac1.mpr ⟨_,Wf.bb.mpr ⟨a*n+b,Wf.place_lt j c,e,by rw [Wf.aE c,Wf.aF c]⟩,rfl⟩,decide_eq_true rfl⟩
def lR (q:Od n o)(b:a<n):aX (ag o) (a:Int)=y0 (.int ((pm o a:Nat):Int)):=nW o a (by rw [q.len];exact b)
def A2 (k)(q:Od n o) (m:n<=4) (t:Nat) (h):call prog (k+2) "renamed_tie" [.v (.int (t:Int)),.v (.tup (ag o))] h= .ok (.v (.int ((tK n o t:Nat):Int))) h:=by
 rw [Ga rfl _ _ _ rfl]
 have l:(ag o).length=n:=by rw [Aa,q.len]
 simp only [GS]
 refine fx (by simp_all [Wh,l];rfl) ?_
 have i:Wf.et n ((Wf.ar n t).map λp=>(pm o p.1,pm o p.2)):=λr j=>by
  obtain⟨p,a,rfl⟩:=Ac1.mp j
  have:=Wf.aQ n t p a
  exact⟨q.lt this.1,q.lt this.2⟩
 have f:eval (u9 (k+1)) qj [y0 (.v (.int (t:Int))),y0 (.v (.tup (ag o))),y0 (.v (.int (n:Int)))] h= .ok (.own ((Wf.ar n t).map λp=>pD (pm o p.1,pm o p.2))) h:=by
  rw [qj]
  refine X8 pD _ _ (XR (by
   have:=Xq k n t h (by omega)
   simp_all [this])) ?_ λp a=> ?_
  ·have b:=Xy n t
   have s:=ql (n:=n) (by omega)
   omega
  ·have c:=Wf.aQ n t p a
   exact⟨[y0 _,y0 _,y0 _],.v _,rfl,by
    have d:=lR q c.1
    have g:=lR q c.2
    simp_all [ah,d,g]
    rfl,rfl⟩
 rw [jb (h1:=h) (xc rfl ?_)]
 ·exact Gb _ _ _ rfl
 ·rw [← EX q t]
  refine ux (uO (e:= .var 2) (h1:=h) rfl (uO f (BN _ _ _))) ?_
  exact tx k n _ _ (by rw [Ac6];rfl) h (by omega) i
def Od.mem (q:Od n o){p:Nat}(a:p∈o):p<n:=Ab3.mp (q.p.mem_iff.mp a)
def Ap (k)(q:Od n o) (a:n<=4) (ks ts) (c:ks.length<=1000) (b:ts.length<=1000) (nm) (h):call prog (k+4) "renamed" [.v nm,.v (wc n ks ts),.v (.tup (ag o))] h= .ok (.v (wc n (ks.map (kM n o)) (ts.map (tK n o)))) h:=by
 rw [Ga rfl _ _ _ rfl]
 simp only [Kw]
 have d:=E5 k q a h
 refine fx (by simp_all [];rfl) ?_
 rw [Za (by simp_all [d])]
 have e:eval (u9 (k+3)) Xt [y0 (.v nm),y0 (.v (wc n ks ts)),y0 (.v (.tup (ag o))),y0 (.v (.int (n:Int))),y0 (.v (.tup (ag ks))),y0 (.v (.tup (ag ts))),u0,u0] h= .ok (.own (ks.map λx=> .int ((kM n o x:Nat):Int))) h:=by
  rw [Xt]
  refine Qf (λ(x:Nat)=> .int (x:Int)) _ ks (kq rfl) c λx _=>⟨.v _,?_,rfl⟩
  have:=EF (k+2) q a x h
  simp_all [this]
 refine fx (by simp_all [e,xC];rfl) ?_
 have f:eval (u9 (k+3)) qu [y0 (.v nm),y0 (.v (wc n ks ts)),y0 (.v (.tup (ag o))),y0 (.v (.int (n:Int))),y0 (.v (.tup (ag ks))),y0 (.v (.tup (ag ts))),y0 (.v (.tup (ks.map λx=> .int ((kM n o x:Nat):Int)))),u0] h= .ok (.own (ts.map λx=> .int ((tK n o x:Nat):Int))) h:=by
  rw [qu]
  refine Qf (λ(x:Nat)=> .int (x:Int)) _ ts (kq rfl) b λx _=>⟨.v (.int ((tK n o x:Nat):Int)),?_,rfl⟩
  have:=A2 (k+1) q a x h
  simp_all [this]
 refine fx (by simp_all [f,xC];rfl) ?_
 rw [jb (w:= .v (wc n (ks.map (kM n o)) (ts.map (tK n o)))) (h1:=h) (xc rfl (by
  simp_all []
  simp only [wc,ag,Ac6,Function.comp_def]))]
 exact Gb _ _ _ rfl
def bD (b:Bool):D:= .int (b.toNat:Nat)
theorem X2 (h) (w): ∀(m t:Nat) i a x y,a.length+m<=1000000-> ∃z b c,
 Gq (Gp [3] k9) (λY h=>execs F Jm Y h) (((Aa0 m).map λj=>D.int ((i+j:Nat):Int))) [y0 (.v (.int (t:Int))),y0 w,y0 (.own a),x,y] h=
  .next [z,y0 w,y0 (.own (a++(Wf.bq t m).map bD)),b,c] h
 | 0,t,i,a,x,y,_=>⟨y0 (.v (.int t)),x,y,by simp [Wf.bq]⟩
 | m+1,t,i,a,x,y,n=>by
  obtain⟨z,b,c,e⟩:=X2 h w m (t / 2) (i+1) (a++ [bD (t.testBit 0)]) (y0 (.v (.int i))) (y0 (.v (bD (t.testBit 0)))) (by simp;omega)
  refine⟨z,b,c,?_⟩
  have g:((Aa0 (m+1)).map λj=>D.int (i+j:Nat))=D.int i::((Aa0 m).map λj=>D.int (i+1+j:Nat)):=by
   rw [Af7]
   simp [Function.comp_def,Int.add_comm,Int.add_left_comm]
  rw [g,qa rfl ?_,e]
  ·have:(Wf.bq t (m+1))=t.testBit 0::Wf.bq (t / 2) m:=by
    unfold Wf.bq
    rw [Af7]
    simp [Function.comp_def,Nat.testBit_succ]
   rw [this]
   simp
  ·have l:(0:Int)<2/\ 2<gi:=by rw [Kf];decide
   have k:a.length<aZ:=by rw [Gi];omega
   have d: t / 2=((t / 2:Nat):Int):=rfl
   have f:D.int (t % 2)=bD (t.testBit 0):=by
    have:t % 2=(t.testBit 0).toNat:=by have:=Wf.eM t 0;simpa using this
    unfold bD
    rw [← this];rfl
   simp only [Jm,execs,exec,eval,Gg,Gf,Gj,R.aa,Zj,l,and_self,if_true,R.az,aH,GI,O.bT,W.eG,k,d,f]
def zF (k t m:Nat) (h) (c:m<=1000):call prog (k+1) "_law_marks" [.v (.int (t:Int)),.v (.int (m:Int))] h= .ok (.own ((Wf.bq t m).map bD)) h:=by
 rw [Ga rfl _ _ _ rfl]
 obtain⟨z,a,b,e⟩:=X2 h _ m t 0 [] u0 u0 (by simp;lia)
 simp only [Ke,execs,exec,Kc,eval,Gm,R.aa,R.az,O.bT,Gr,Aa9,Ad6,Aj,Ag5,Ac7,Ak3,GI]
 rw [wd (m:=m) (by simp [Gf]) (by lia),R.az]
 simp [Ag2]at e
 rw [e]
 simp
def w6 (xs:List α) (a:Nat):cut xs u0 (y0 (a:Int))=xs.take a:=by
 have b: ¬((a:Int)<0):=by lia
 have e:cut xs u0 (y0 a)=xs.take (min a xs.length):=by simp [cut,bh,b]
 rw [e]
 by_cases h:a<=xs.length
 ·rw [Al0 h]
 ·rw [Nat.min_eq_right (by lia),Ao4,List.take_of_length_le (by lia)]
def Fd (xs:List α) (a) (h:a<=xs.length):cut xs (y0 (a:Int)) u0=xs.drop a:=by
 have b: ¬((a:Int)<0):=by lia
 simp [cut,bh,b,Al0 h,←Ai8]
def jf (i) (m) (h:0<m): ∃a:Nat,a<m/\i % (m:Int)=(a:Int):=by
 have d:=Int.emod_nonneg i (b:= m) (by lia)
 have c:=Int.emod_lt_of_pos i (b:= m) (by lia)
 exact⟨(i % m).toNat,by lia,by lia⟩
def jz (i j) (a:0<j) (h1:j<1000):Gn .fdiv i j=y0 (i / j):=by
 have:0<j/\j<gi:=by rw [Kf];lia
 show(if _ then _ else _)=_
 rw [if_pos this]
def Qo (i j) (a:0<j):Gn .mod i j=y0 (i % j):=by
 show(if _ then _ else _)=_
 rw [if_pos a]
def wB (k) (x) (h):call prog (k+1) "_law_whole" [.v (.int (x:Int))] h= .ok (.v (.bl true)) h:=by
 exact Gb _ _ _ rfl
def uw (k) (a:List Int) (i:Nat) (h):call prog (k+1) "_law_nth" [.v (.lst (a.map .int)),.v (.int (i:Int))] h= .ok (.v (.int (a.getD i 0))) h:=by
 rw [Ga rfl _ _ _ rfl]
 simp only [Ky]
 by_cases q:i<a.length
 ·have e:=Qh (a.map D.int) i (by simpa using q)
  rw [Ac5,Aa4 q]at e
  have b: i<((a.map D.int).length:Int):=by rw [Aa];omega
  have e:aX _ i=y0 _:=e
  rw [qk (w:= .v (.int a[i])) (by simp_all [zp,Qc,decide_eq_true b]) (by simp_all [wk,e]),Ab5,Aa4 q]
  exact Gb _ _ _ rfl
 ·have b: ¬ i<((a.map D.int).length:Int):=by rw [Aa];omega
  rw [Za (by simp_all [zp,Qc,decide_eq_false b]),Ab5,List.getElem?_eq_none (by omega)]
  simp_all []
  rfl
def Zk (i m):((Aa0 (m+1)).map λj=>D.int ((i+j:Nat):Int))=D.int (i:Nat)::((Aa0 m).map λj=>D.int ((i+1+j:Nat):Int)):=by
 rw [Af7]
 simp [Function.comp_def,Int.add_comm,Int.add_left_comm]
theorem zy (g) (f): ∀l:List Nat,((l.filter g).map f).sum=(l.map λa=>(g a).toNat*f a).sum
 | []=>rfl
 | a::l=>by
  rw [Ak1,Aa9,Ai3,←zy g f l]
  cases g a<;>simp
def W0 (t m i) (a:i<m):aX ((Wf.bq t m).map bD) (i:Int)=y0 (bD (t.testBit i)):=by
 rw [Qh _ _ (by simpa [Wf.dF]using a),Ac5,Wf.eX a];rfl
def sf (b) (h):Gy .eq (.v (bD b)) (.v (.int 1)) h=y0 b:=by
 cases b<;>simp [bD]
noncomputable abbrev gr (n:Nat) (ks ts:List Nat) (o:List Nat) (d f e b c a:Option W):Sl:= [y0 (.v (wc n ks ts)),y0 (.v (.tup (ag o))),y0 (.v (.int (n:Int))),y0 (.v (.tup (ag ks))),y0 (.v (.tup (ag ts))),d,f,e,b,c,a]
section
variable {n:Nat}{o:List Nat}(q:Od n o) (hn:n<=4)
include q hn
theorem tQ (h): ∀ l b f c,b.length+l.length<=1000-> ∃g m,
 Gq (Gp [6] k9) (λY h=>execs (u9 (k+1)) Zt Y h) (ag l) (gr n ks ts o (y0 (.own (ag b))) f c u0 u0 u0) h= .next (gr n ks ts o (y0 (.own (ag (b++l.map (kM n o))))) g m u0 u0 u0) h
 | [],b,f,c,_=>⟨f,c,by simp⟩
 | x::l,b,f,c,u=>by
  rw [Ab7]at u
  obtain⟨g,m,e⟩:=tQ h l (b++ [kM n o x]) (y0 (.v (.int x))) (y0 (.v (.lst ((Wf.bq x n).map bD)))) (by simp;omega)
  refine⟨g,m,?_⟩
  have v:=zF k x n h (by omega)
  have t:(ag b).length<aZ:=by rw [Gi,Aa];omega
  rw [show ag (x::l)= .int x::ag l from rfl,qa rfl ?_,e,Ae9]
  ·rfl
  ·simp only [Zt]
   refine(za (by simp_all [v];rfl)).trans ?_
   have r:eval (u9 (k+1)) Qt (gr n ks ts o (y0 (.own (ag b))) (y0 (.v (.int x))) (y0 (.v (.lst ((Wf.bq x n).map bD)))) u0 u0 u0) h= .ok (.own (((Aa0 n).filter x.testBit).map λa=> .int ((2 ^ pm o a:Nat)))) h:=by
    rw [Qt]
    refine XM x.testBit _ rfl (by omega) λi p=>⟨?_,.v (.int ((2 ^ pm o i:Nat))),?_,rfl⟩
    ·have d:=W0 x n i p
     simp_all [wk,d,sf]
    ·have d:=lR q p
     have s:=fg (pm o i) (by have:=q.lt p;omega)
     simp_all [ah,d,s]
   have eq:(((Aa0 n).filter x.testBit).map λa=>D.int ((2 ^ pm o a:Nat)))=ag (((Aa0 n).filter x.testBit).map λa=>2 ^ pm o a):=by rw [ag,Ac6];rfl
   have j:(ag (((Aa0 n).filter x.testBit).map λa=>2 ^ pm o a)).length<=aZ:=by
    rw [Gi,Aa,Aa]
    exact Ac (Ad9 _ _) (by simp;omega)
   rw [eq]at r
   have w:(((Aa0 n).filter x.testBit).map λa=>2 ^ pm o a).sum=kM n o x:=zy _ _ _
   have y:ag (b++ [kM n o x])=ag b++ [.int ((kM n o x:Nat))]:=by simp
   rw [y]
   simp_all [r,zV,j,if_true,xK,w,t]
theorem tH (h): ∀ l a f g b,a.length+l.length<=1000-> ∃u y c,
 Gq (Gp [9] k9) (λY h=>execs (u9 (k+1)) ju Y h) (ag l) (gr n ks ts o x5 x6 f (y0 (.own (ag a))) g b) h= .next (gr n ks ts o x5 x6 u (y0 (.own (ag (a++l.map (tK n o))))) y c) h
 | [],a,f,g,b,_=>⟨f,g,b,by simp⟩
 | t::l,a,f,g,b,C=>by
  rw [Ab7]at C
  obtain⟨u,y,c,e⟩:=tH h l (a++ [tK n o t]) (y0 (.v (.lst ((Wf.bq t (n*n)).map bD)))) (y0 (.v (.int (t:Int)))) (y0 (.v (.lst ((Wf.ar n t).map pD)))) (by simp;omega)
  refine⟨u,y,c,?_⟩
  have x:=ql (n:=n) (by omega)
  have E:=zF k t (n*n) h (by omega)
  have v:=Zc n n (by omega)
  have B:(ag a).length<aZ:=by rw [Gi,Aa];omega
  rw [show ag (t::l)= .int (t:Int)::ag l from rfl,qa (Y1:=gr n ks ts o x5 x6 f (y0 (.own (ag a))) (y0 (.v (.int (t:Int)))) b) rfl ?_,e,Ae9]
  ·rfl
  ·simp only [ju]
   refine(za (by simp_all [v,E];rfl)).trans ?_
   have r:eval (u9 (k+1)) Jt (gr n ks ts o x5 x6 (y0 (.v (.lst ((Wf.bq t (n*n)).map bD)))) (y0 (.own (ag a))) (y0 (.v (.int (t:Int)))) b) h= .ok (.own ((Wf.ar n t).map pD)) h:=by
    rw [Jt,Wf.ar,Ac6]
    refine XM t.testBit _ (by simp_all [v]) (by omega) λi w=>⟨?_,.v (pD (i / n,i % n)),?_,rfl⟩
    ·have m:=W0 t (n*n) i w
     simp_all [wk,m,sf]
    ·have J:(0:Int)<(n:Int)/\(n:Int)<gi:=by
      rw [Kf]
      have:=Wf.dr w
      omega
     simp_all [Zj,J,and_self,if_true]
     rfl
   rw [za (sZ r rfl)]
   have d:eval (u9 (k+1)) Zn (gr n ks ts o x5 x6 (y0 (.v (.lst ((Wf.bq t (n*n)).map bD)))) (y0 (.own (ag a))) (y0 (.v (.int (t:Int)))) (y0 (.v (.lst ((Wf.ar n t).map pD))))) h= .ok (.own ((Wf.ar n t).map λp=> .int ((2 ^ tP n o p:Nat):Int))) h:=by
    rw [Zn]
    refine X8 pD _ (Wf.ar n t) (oG rfl) (by have:=Xy n t;omega) λp F=> ?_
    have j:=Wf.aQ n t p F
    refine⟨[y0 (.v (.int (p.1:Nat))),y0 (.v (.int (p.2:Nat))),y0 (.v (.tup (ag o))),y0 (.v (.int (n:Int)))],.v (.int ((2 ^ tP n o p:Nat):Int)),rfl,?_,rfl⟩
    have m:=lR q j.1
    have r:=lR q j.2
    have H:=q.lt j.1
    have l2:=q.lt j.2
    have G:Gn .mul ((pm o p.1:Nat):Int) (n:Int)=y0 ((pm o p.1*n:Nat):Int):=Zc _ n (by omega)
    have z:((pm o p.1*n:Nat):Int)+((pm o p.2:Nat):Int)=((tP n o p:Nat):Int):=rfl
    have A:=fg (tP n o p) (by
     have:=Wf.place_lt H l2
     unfold tP
     omega)
    simp_all [ah,m,r,G,Jc,z,A]
   have eq:((Wf.ar n t).map λp=>D.int ((2 ^ tP n o p:Nat):Int))=ag ((Wf.ar n t).map λp=>2 ^ tP n o p):=by rw [ag,Ac6];rfl
   have s:(ag ((Wf.ar n t).map λp=>2 ^ tP n o p)).length<=aZ:=by
    rw [Gi,Aa,Aa]
    have:=Xy n t
    omega
   rw [eq]at d
   have I:((Wf.ar n t).map λp=>2 ^ tP n o p).sum=tK n o t:=by
    rw [Wf.ar,Ac6]
    exact zy _ _ _
   have K:ag (a++ [tK n o t])=ag a++ [.int ((tK n o t:Nat):Int)]:=by simp
   rw [K,Xa]
   have d:eval (u9 (k+1)) Zn (GI (gr n ks ts o x5 x6 (y0 (.v (.lst ((Wf.bq t (n*n)).map bD)))) (y0 (.own (ag a))) (y0 (.v (.int (t:Int)))) b) 10 (.v (.lst ((Wf.ar n t).map pD)))) h=_:=d
   simp only [GI]at d ⊢
   simp_all [d,zV,s,if_true,xK,I,B]
def rH (k) (ks ts) (c:ks.length<=1000) (b:ts.length<=1000) (h):call prog (k+2) "_law_led" [.v (wc n ks ts),.v (.tup (ag o))] h= .ok (.v (wc n (ks.map (kM n o)) (ts.map (tK n o)))) h:=by
 rw [Ga rfl _ _ _ rfl]
 obtain⟨d,g,f⟩:=tQ q hn h ks [] u0 u0 (by simpa using c)
 obtain⟨i,e,a,j⟩:=tH q hn h ts [] g u0 u0 (by simpa using b)
 simp only [Kq]
 refine fx (by simp_all [];rfl) ?_
 refine fx (by simp_all [];rfl) ?_
 rw [za (by
  simp only [exec,R.az]
  exact f)]
 refine fx (by simp_all [];rfl) ?_
 rw [za (Y1:=gr n ks ts o (y0 (.own (ag ([]++ks.map _)))) d i _ e a) (by
  simp only [exec,Gj,Ah3,K5,R.af,R.az]
  exact j)]
 rw [Ag5,Ag5]
 simp_all [ZQ]
end
theorem Zs: ∀(xs ys),Gd (xs++ys)=(Gd xs&&Gd ys)
 | [],ys=>by simp [Gd]
 | x::xs,ys=>by simp only [Aj,Gd,Zs xs ys,Bool.and_assoc]
abbrev mF (n:Nat) (ks ts:List Nat) (x:Option W):Sl:= [y0 (.v (wc n ks ts)),y0 (.v (wc n ks ts)),x]
def JI {k n:Nat}(j) (a:l.length<=1000) (e:aX [D.int (n:Int),D.tup (ag ks),D.tup (ag ts)] j=y0 (.tup (ag l))) (h):execs (u9 (k+1)) zn (mF n ks ts (y0 (.v (.int j)))) h= .next (mF n ks ts (y0 (.v (.int j)))) h:=by
 simp only [zn]
 have c:eval (u9 (k+1)) (.bi .all (.cons ji .nil)) (mF n ks ts (y0 (.v (.int j)))) h= .ok (.v (.bl k9)) h:=by
  have d:eval (u9 (k+1)) ji (mF n ks ts (y0 (.v (.int j)))) h= .ok (.own ((l.map λ_=>k9).map .bl)) h:=by
   rw [ji,Ac6]
   refine Qf (λ(x:Nat)=> .int x) _ l (kq (by simp_all [ah,e])) a λx _=>⟨.v (.bl k9),?_,rfl⟩
   have:=wB k x h
   simp_all [this]
  rw [qv d]
  simp
 have b:=Aw (.tup _) (by simpa using j0 l) (by have:=oo l;simp only [dep];omega) h
 rw [Za (by simp_all [ah,e,QW,Ty.dD,Wh,XX,decide_true]),Za ?_]
 ·rfl
 ·unfold Gs
  rw [eval,eval,c]
  simp_all [ah,e,b]
def Hh (k n) (ks ts) (b:ks.length<=1000) (a:ts.length<=1000) (h):call prog (k+2) "_law_alike" [.v (wc n ks ts),.v (wc n ks ts)] h= .ok (.v (.bl true)) h:=by
 rw [Ga rfl _ _ _ rfl]
 simp only [Kb]
 have d:=wB k n h
 have c:(([D.int (n:Int),D.tup (ag ks),D.tup (ag ts)].length:Nat):Int)=3:=rfl
 rw [Za (by simp_all [QW,Ty.dD,Wh,c,XX,decide_true,ah,Xs,d])]
 refine fx (by
  simp only [exec,Gr,Kc,eval,Gm,R.aa,W.eG,R.af,KL,R.az]
  rw [qa rfl (JI 1 b rfl h),qa rfl (JI 2 a rfl h)]
  rfl) ?_
 simp_all []
def Ep (xs) (lo hi) (h):gv (.v (.tup xs)) lo hi h=aU (.tup (cut xs lo hi)) h:=rfl
inductive Ex where
 | name (t:Tx)
 | same
 | all
 | none
 | turned (a:Ex)
 | closed (a:Ex)
 | plus (a b:Ex)
 | less (a b:Ex)
 | both (a b:Ex)
 | joined (a b:Ex)
abbrev j8:Tx:= [110,97,109,101]
abbrev wT:Tx:= [115,97,109,101]
abbrev lM:Tx:= [97,108,108]
abbrev q9:Tx:= [110,111,110,101]
abbrev QH:Tx:= [112,108,117,115]
abbrev xH:Tx:= [108,101,115,115]
abbrev xG:Tx:= [98,111,116,104]
abbrev jr:Tx:= [106,111,105,110,101,100]
abbrev Wz:Tx:= [116,117,114,110,101,100]
abbrev Qz:Tx:= [99,108,111,115,101,100]
noncomputable def aN:Ex->D
 | .name t=> .tup [.str j8,.str t]
 | .same=> .tup [.str wT]
 | .all=> .tup [.str lM]
 | .none=> .tup [.str q9]
 | .turned a=> .tup [.str Wz,aN a]
 | .closed a=> .tup [.str Qz,aN a]
 | .plus a b=> .tup [.str QH,aN a,aN b]
 | .less a b=> .tup [.str xH,aN a,aN b]
 | .both a b=> .tup [.str xG,aN a,aN b]
 | .joined a b=> .tup [.str jr,aN a,aN b]
def Ex.wf (N:List Tx):Ex->Prop
 | .name t=>t∈N
 | .turned a=>a.wf N
 | .closed a=>a.wf N
 | .plus a b=>a.wf N/\b.wf N
 | .less a b=>a.wf N/\b.wf N
 | .both a b=>a.wf N/\b.wf N
 | .joined a b=>a.wf N/\b.wf N
 | _=>True
noncomputable def Ex.dp:Ex->Nat
 | .turned a=>a.dp+1
 | .closed a=>a.dp+1
 | .plus a b=>max a.dp b.dp+1
 | .less a b=>max a.dp b.dp+1
 | .both a b=>max a.dp b.dp+1
 | .joined a b=>max a.dp b.dp+1
 | _=>0
def Fj (x y z:D):aX [x,y,z] 1=y0 y:=rfl
def Et (x y z:D):aX [x,y,z] 2=y0 z:=rfl
theorem WJ: ∀ts:List Tx,KP (ts.map .str)=y0 ts
 | []=>rfl
 | t::ts=>by simp [KP,WJ ts]
def FN (ts:List Tx):(ts.map D.str).all KR=true:=by simp
theorem tT (s): ∀ts:List Tx,inD (.str s) (ts.map .str)=v9 (s∈ts)
 | []=>rfl
 | t::ts=>by
  have a:=tT s ts
  simp only [inD]at a
  by_cases q:t=s
  ·subst q
   simp [inD]
  ·have b: ¬s=t:=λe=>q e.symm
   simp only [inD,Aa9,Af2,a,Ab2,b,false_or]
   simp [q]
def F4 (xs:List α) (n:Nat):cut xs (y0 (n:Int)) u0=xs.drop n:=by
 have a: ¬((n:Int)<0):=by lia
 simp [cut,bh,a,Ag4]
 by_cases q:n<=xs.length
 ·rw [Al0 q,List.take_of_length_le (by simp)]
 ·rw [Nat.min_eq_right (by lia),List.drop_of_length_le (Aa6 _),List.drop_of_length_le (by lia),List.take_nil]
def ZK (i j:Nat) (h):Gy .eq (.v (.int (i:Int))) (.v (.int (j:Int))) h=y0 (v9 (i=j)):=by
 rw [qp]
 congr 1
 exact decide_eq_decide.mpr (by lia)
def qS (s) (ts:List Tx) (w) (h) (a:w.seq? h=y0 (ts.map .str)) (h2:w.gP =u0):Pe (.v (.str s)) w h=y0 (v9 (s∈ts)):=by
 unfold Pe
 simp only [W.eG,a,FN,Ai5,if_true,tT]
structure Nm (ts:List Tx):Prop where
 nd:ts.Nodup
abbrev cR (ts:List Tx):D:= .tup (ts.map .str)
abbrev wD (K T:List Tx):D:= .tup [cR K,cR T]
end M
namespace Wf
def wr (g:Nat->Nat->Bool):Nat->Nat->Nat->Bool
 | 0,a,b=>g a b
 | k+1,a,b=>wr g k a b||(wr g k a k&&wr g k k b)
end Wf
namespace M
def fS (t:Tx) (ts:List Tx):Nat:=(Pj t ts).getD 0
theorem Jr : ∀ {ts},t∈ts->Pj t ts=y0 (fS t ts)/\fS t ts<ts.length
 | y::b,h=>by
  unfold fS
  by_cases q:y=t
  ·simp [Pj,q]
  ·have a:t∈b:=by
    rcases Ab2.mp h with e | e
    ·exact absurd e.symm q
    ·exact e
   obtain⟨e,l⟩:=Jr a
   simp only [Pj,q,if_false,e,Option.map_some,Option.getD_some,Ab7]at l ⊢
   exact⟨trivial,by omega⟩
structure Wo where
 n:Nat
 K:List Tx
 T:List Tx
 ks:List Nat
 ts:List Nat
structure Wo.Ok (w:Wo):Prop where
 hK:w.K.length<=4
 hT:w.T.length<=4
 nm:Nm (w.K++w.T)
 wl:II w.n w.K.length w.T.length w.ks w.ts
def Wo.at (w:Wo) (t:Tx) (a b:Nat):Prop:=if t∈w.T then(w.ts.getD (fS t w.T) 0).testBit (a*w.n+b)=k9 else a=b/\(w.ks.getD (fS t w.K) 0).testBit a=k9
def eH (w:Wo):Ex->Nat->Nat->Prop
 | .name t,a,b=>w.at t a b
 | .same,a,b=>a=b
 | .all,_,_=>True
 | .none,_,_=>False
 | .turned e,a,b=>eH w e b a
 | .closed e,a,b=> ∃t,t<2 ^ (w.n*w.n)/\(∀ x y,x<w.n->y<w.n->(t.testBit (x*w.n+y)=k9↔eH w e x y))/\Wf.TC w.n t a b
 | .plus e f,a,b=>eH w e a b\/eH w f a b
 | .less e f,a,b=>eH w e a b/\ ¬eH w f a b
 | .both e f,a,b=>eH w e a b/\eH w f a b
 | .joined e f,a,b=> ∃c,c<w.n/\eH w e a c/\eH w f c b
def Is (w:Wo) (e:Ex) (v:Nat):Prop:=v<2 ^ (w.n*w.n)/\ ∀a b,a<w.n->b<w.n->(v.testBit (a*w.n+b)=k9↔eH w e a b)
def qV (c:s<2 ^ (n*n)) (b:t<2 ^ (n*n)) (h: ∀x y,x<n->y<n->(s.testBit (x*n+y)=k9↔t.testBit (x*n+y)=k9)):s=t:=by
 refine Wf.eD c b λk a=> ?_
 have:=h _ _ (Wf.aR a) (Wf.aJ a)
 rw [Wf.aT]at this
 exact Ad8.mpr this
def jy {w:Wo}{e:Ex}{v:Nat}(h:Is w e v){a b:Nat}:eH w (.closed e) a b↔Wf.TC w.n v a b:=by
 refine⟨λ⟨t,lt,g,c⟩=> ?_,λc=>⟨v,h.1,h.2,c⟩⟩
 have:t=v:=qV lt h.1 λx y f d=>(g x y f d).trans (h.2 x y f d).symm
 exact this▸c
def AB (b:s<2 ^ n) (a:t<2 ^ n):s ||| t<2 ^ n:=Ao0 b a
theorem Is.plus {w:Wo}{e f:Ex}{s t:Nat}(h:Is w e s) (g:Is w f t):Is w (.plus e f) (s ||| t):=⟨AB h.1 g.1,λa b c d=>by
 rw [Ah,Am6,h.2 a b c d,g.2 a b c d];rfl⟩
theorem Is.both {w:Wo}{e f:Ex}{s t:Nat}(h:Is w e s) (g:Is w f t):Is w (.both e f) (s &&& t):=⟨Nat.and_lt_two_pow s g.1,λa b c d=>by
 rw [Ak9,Aa7,h.2 a b c d,g.2 a b c d];rfl⟩
theorem Is.less {w:Wo}{e f:Ex}{s t:Nat}(h:Is w e s) (g:Is w f t):Is w (.less e f) (s-(s &&& t)):=⟨An8 (Nat.sub_le _ _) h.1,λa b c d=>by
 rw [Wf.bB,Aa7,h.2 a b c d,An9,←Bool.not_eq_true,g.2 a b c d];rfl⟩
theorem Is.turned {w:Wo}{e:Ex}{s:Nat}(h:Is w e s):Is w (.turned e) (Wf.dw w.n s):=⟨Wf.fW _ _,λa b d c=>by
 rw [Wf.fi (Wf.place_lt d c),Wf.aE c,Wf.aF c,h.2 b a c d];rfl⟩
theorem Is.joined {w:Wo}{e f:Ex}{s t:Nat}(h:Is w e s) (g:Is w f t):Is w (.joined e f) (Wf.joinM w.n s t):=⟨Wf.dP _ _ _,λa b j i=>by
 rw [Wf.cF (Wf.place_lt j i),Wf.cT i,Ae7]
 refine⟨λ⟨c,d,q⟩=> ?_,λ⟨c,d,k,l⟩=> ?_⟩
 ·have d:=Ab3.mp d
  rw [Aa7]at q
  exact⟨c,d,(h.2 a c j d).mp q.1,(g.2 c b d i).mp q.2⟩
 ·refine⟨c,Ab3.mpr d,?_⟩
  rw [Aa7]
  exact⟨(h.2 a c j d).mpr k,(g.2 c b d i).mpr l⟩⟩
theorem Is.closed {w:Wo}{e:Ex}{s r:Nat}(h:Is w e s) (g:Wf.fM w.n s r):Is w (.closed e) r:=⟨g.lt,λa b c d=>(g.bit a b c d).trans (jy h).symm⟩
theorem Is.same (w:Wo):Is w .same (Wf.cZ w.n):=⟨Wf.fL _,λa b c d=>by rw [Wf.eC c d,decide_eq_true_eq];rfl⟩
theorem Is.all (w:Wo):Is w .all (2 ^ (w.n*w.n)-1):=⟨Nat.sub_lt (Aj2 _) (by decide),λa b c d=>by
 rw [Nat.testBit_two_pow_sub_one,decide_eq_true (Wf.place_lt c d)]
 exact⟨λ_=>trivial,λ_=>rfl⟩⟩
theorem Is.none (w:Wo):Is w .none 0:=⟨Aj2 _,λa b c d=>by
 rw [Nat.zero_testBit]
 exact⟨λh=>absurd h (by decide),λh=>h.elim⟩⟩
def Wo.words (w:Wo):D:=wD w.K w.T
def Wo.aB (w:Wo):D:=wc w.n w.ks w.ts
def QQ (ts) (t) (h) (a:t∈ts) (b:ts.length<=1000):lP .index (.v (cR ts)) [.v (.str t)] h= .ok (.v (.int ((fS t ts:Nat):Int))) h:=by
 show(R.of h ((y0 _).bind KP)).bind _=_
 rw [Ah3,WJ,R.af,R.aa]
 show(R.of h (y0 t)).bind _=_
 rw [R.af,R.aa,(Jr a).1,R.af,R.aa,if_pos (by rw [Gi];lia)]
def l7 (n x:Nat):List (Nat×Nat):=((Aa0 n).filter x.testBit).map λa=>(a,a)
def J2 (n x):Wf.et n (l7 n x):=λp b=>by
 obtain⟨a,c,rfl⟩:=Ac1.mp b
 have:=Ab3.mp (Ae3.mp c).1
 exact⟨this,this⟩
def Bu (l:a<n) (i:b<n):(Wf.cY n (l7 n x)).testBit (a*n+b)=k9↔a=b/\x.testBit a=true:=by
 rw [Wf.bP,Ae7]
 refine⟨λ⟨p,k,e⟩=> ?_,λ⟨e,j⟩=> ?_⟩
 ·obtain⟨c,d,rfl⟩:=Ac1.mp k
  have g:=Ae3.mp d
  have d:=Ab3.mp g.1
  have e:=of_decide_eq_true e
  have f:=congrArg (· / n) e
  have h:=congrArg (· % n) e
  simp [Wf.aE d,Wf.aE i,Wf.aF d,Wf.aF i]at f h
  subst f
  exact⟨h,g.2⟩
 ·subst e
  exact⟨_,Ac1.mpr ⟨a,Ae3.mpr ⟨Ab3.mpr l,j⟩,rfl⟩,decide_eq_true rfl⟩
def LM (n x:Nat) (l:n<=4) (h):eval F Zg [a,b,c,y0 (.v (.int (n:Int))),y0 (.v (.int (x:Int)))] h= .ok (.own ((l7 n x).map pD)) h:=by
 rw [Zg,qW (λd=>match d with
  | .int i=>if x.testBit i.toNat then y0 (.tup [.int i,.int i])else u0
  | _=>u0) (wd (m:=n) (by simp_all []) (by lia)) (by simp;rw [Gi];lia)]
 ·congr 2
  rw [List.filterMap_map,l7,Ac6]
  induction Aa0 n with
  | nil=>rfl
  | cons y k f=>
   by_cases e:x.testBit y=k9
   ·simp [e,pD,f]
   ·simp [e,f]
 ·intro d g
  obtain⟨i,o,rfl⟩:=gF _ g
  have j:Pc ((x / 2 ^ i:Nat)) 1=y0 (((x.testBit i).toNat:Nat):Int):=by
   rw [show 1=((1:Nat):Int)from rfl,Zp,JL]
  refine⟨[y0 _,y0 _],x.testBit i,rfl,?_,?_⟩
  ·unfold Gs
   simp only [eval,Gf,Gj,R.aa,GA,jE,xo,j,R.af,xY]
   cases x.testBit i<;>rfl
  ·by_cases e:x.testBit i=k9
   ·simp [e,Gf]
   ·simp [e]
def sk (t) (ts) (h):Gy .mem (.v (.str t)) (.v (cR ts)) h=y0 (v9 (t∈ts)):=qS t ts (.v (cR ts)) h rfl rfl
def WB (k)(ok:w.Ok) (t) (g:t∈w.K++w.T) (h): ∃v,Is w (.name t) v/\call prog (k+4) "value_of_name" [.v w.words,.v w.aB,.v (.str t)] h= .ok (.v (.int (v:Int))) h:=by
 rw [Ga rfl _ _ _ rfl]
 simp only [GD]
 show ∃v,_/\GZ _ (execs _ _ [y0 (.v (wD w.K w.T)),y0 (.v (wc w.n w.ks w.ts)),y0 (.v (.str t)),u0,u0] h)=_
 have l:=ok.hK
 have j:=ok.hT
 by_cases q:t∈w.T
 ·have c:=(Jr q).2
  refine⟨w.ts.getD (fS t w.T) 0,⟨?_,λa b e f=> ?_⟩,?_⟩
  ·rw [Ab5,Aa4 (by rw [ok.wl.lt];exact c)]
   exact ok.wl.bt _ (Ak0 _)
  ·show _↔w.at t a b
   rw [Wo.at,if_pos q]
  ·rw [jb,Gb _ _ _ rfl]
   rw [qr (h1:=h) (by simp_all [ah,xz,sk,decide_eq_true q])]
   exact jb (xc rfl (by simp only [eval,Gg,Gf,Gj,R.aa,ah,xz,Et,R.af,rR,if_true,QQ w.T t h q (by omega)];rw [nW _ _ (by rw [ok.wl.lt];exact c)];rfl))
 ·have d:=(Af0.mp g).resolve_right q
  have c:=(Jr d).2
  have i:=ok.wl.n4
  refine⟨Wf.cY w.n (l7 w.n (w.ks.getD (fS t w.K) 0)),⟨Wf.cQ (J2 _ _),λa b e f=> ?_⟩,?_⟩
  ·show _↔w.at t a b
   rw [Wo.at,if_neg q]
   exact Bu e f
  ·rw [za (Y1:= [y0 (.v (wD w.K w.T)),y0 (.v (wc w.n w.ks w.ts)),y0 (.v (.str t)),u0,u0]) (h1:=h) (by simp_all [ah,xz,sk,decide_eq_false q])]
   rw [za (Y1:= [y0 (.v (wD w.K w.T)),y0 (.v (wc w.n w.ks w.ts)),y0 (.v (.str t)),y0 (.v (.int w.n)),u0]) rfl]
   rw [za (Y1:= [y0 (.v (wD w.K w.T)),y0 (.v (wc w.n w.ks w.ts)),y0 (.v (.str t)),y0 (.v (.int w.n)),y0 (.v (.int ((w.ks.getD (fS t w.K) 0:Nat))))]) (by simp only [exec,eval,Gg,Gf,Gj,R.aa,ah,XF,Fj,R.af,rR,if_true,QQ w.K t h d (by omega)];rw [nW _ _ (by rw [ok.wl.lk];exact c)];rfl)]
   rw [jb (xc rfl ?_),Gb _ _ _ rfl]
   simp only [eval,Gg,Gf,Gj,R.aa,LM w.n _ i h,Aa9,Ad6,W.bj,W.eT,XB k w.n _ h (by omega) (J2 _ _)]
def xb (s X) (h):Gs F (.cmp .eq (.var 1) (.str X)) [a,y0 (.v (.str s)),c] h= .ok (s==X) h:=by
 simp only [Gs,eval,Gf,Gj,R.aa,Jv,R.af,G8]
abbrev iw (n:Nat) (s:Tx) (l:List D):Sl:= [y0 (.v (.int (n:Int))),y0 (.v (.str s)),y0 (.v (.lst l))]
def B4 (k n:Nat) (l) (h) (a:n<=4):call prog (k+5) "made" [.v (.int (n:Int)),.v (.str wT),.v (.lst l)] h= .ok (.v (.int ((Wf.cZ n:Nat):Int))) h:=by
 rw [Ga rfl _ _ _ rfl]
 simp only [GW]
 show GZ _ (execs _ _ (iw n wT l) h)=_
 rw [qk (xb _ _ _) (xc rfl (by simp only [eval,Gg,Gf,Gj,R.aa,Aa9,Ad6,W.bj,FJ k n h (by lia)];rfl)),Gb _ _ _ rfl]
def E7 (k n:Nat) (l) (h) (a:n<=4):call prog (k+5) "made" [.v (.int (n:Int)),.v (.str lM),.v (.lst l)] h= .ok (.v (.int ((2 ^ (n*n)-1:Nat):Int))) h:=by
 rw [Ga rfl _ _ _ rfl]
 simp only [GW]
 show GZ _ (execs _ _ (iw n lM l) h)=_
 rw [Za (xb _ _ _),qk (xb _ _ _) (xc rfl (by simp only [eval,Gg,Gf,Gj,R.aa,Aa9,Ad6,W.bj,yr _ n h (by lia)];rfl)),Gb _ _ _ rfl]
def IZ (k n:Nat) (l) (h):call prog (k+5) "made" [.v (.int (n:Int)),.v (.str q9),.v (.lst l)] h= .ok (.v (.int ((0:Nat):Int))) h:=by
 rw [Ga rfl _ _ _ rfl]
 simp only [GW]
 rw [Za (xb _ _ _),Za (xb _ _ _),qk (xb _ _ _) _,Gb _ _ _ rfl]
 rfl
abbrev l2 (s t:Nat):List D:= [.int (s:Int),.int (t:Int)]
def Bn (k n s t:Nat) (h):call prog (k+5) "made" [.v (.int (n:Int)),.v (.str QH),.v (.lst (l2 s t))] h= .ok (.v (.int ((s ||| t:Nat):Int))) h:=by
 rw [Ga rfl _ _ _ rfl]
 simp only [GW]
 show GZ _ (execs _ _ (iw n QH _) h)=_
 rw [Za (xb _ _ _),Za (xb _ _ _),Za (xb _ _ _),qk (xb _ _ _) (xc rfl (by simp only [eval,Gg,Gf,Gj,R.aa,wk,XF,xz,R.af,Aa9,Ad6,W.bj,wL _ s t h];rfl)),Gb _ _ _ rfl]
def Hf (k n s t:Nat) (h):call prog (k+5) "made" [.v (.int (n:Int)),.v (.str xH),.v (.lst (l2 s t))] h= .ok (.v (.int ((s-(s &&& t):Nat):Int))) h:=by
 rw [Ga rfl _ _ _ rfl]
 simp only [GW]
 show GZ _ (execs _ _ (iw n xH _) h)=_
 rw [Za (xb _ _ _),Za (xb _ _ _),Za (xb _ _ _),Za (xb _ _ _),qk (xb _ _ _) (xc rfl (by simp only [eval,Gg,Gf,Gj,R.aa,wk,XF,xz,R.af,Aa9,Ad6,W.bj,wQ _ s t h];rfl)),Gb _ _ _ rfl]
def CB (k n s t:Nat) (h):call prog (k+5) "made" [.v (.int (n:Int)),.v (.str xG),.v (.lst (l2 s t))] h= .ok (.v (.int ((s &&& t:Nat):Int))) h:=by
 rw [Ga rfl _ _ _ rfl]
 simp only [GW]
 show GZ _ (execs _ _ (iw n xG _) h)=_
 rw [Za (xb _ _ _),Za (xb _ _ _),Za (xb _ _ _),Za (xb _ _ _),Za (xb _ _ _),qk (xb _ _ _) (xc rfl (by simp only [eval,Gg,Gf,Gj,R.aa,wk,XF,xz,R.af,Aa9,Ad6,W.bj,CC _ s t h];rfl)),Gb _ _ _ rfl]
def zZ (k n s t:Nat) (h) (a:n<=4):call prog (k+5) "made" [.v (.int (n:Int)),.v (.str jr),.v (.lst (l2 s t))] h= .ok (.v (.int ((Wf.joinM n s t:Nat):Int))) h:=by
 rw [Ga rfl _ _ _ rfl]
 simp only [GW]
 show GZ _ (execs _ _ (iw n jr _) h)=_
 rw [Za (xb _ _ _),Za (xb _ _ _),Za (xb _ _ _),Za (xb _ _ _),Za (xb _ _ _),Za (xb _ _ _),qk (xb _ _ _) (xc rfl (by simp only [eval,Gg,Gf,Gj,R.aa,wk,XF,xz,R.af,Aa9,Ad6,W.bj,wJ _ n s t h (by lia)];rfl)),Gb _ _ _ rfl]
def WW (k n s:Nat) (h) (a:n<=4):call prog (k+5) "made" [.v (.int (n:Int)),.v (.str Wz),.v (.lst [.int (s:Int)])] h= .ok (.v (.int ((Wf.dw n s:Nat):Int))) h:=by
 rw [Ga rfl _ _ _ rfl]
 simp only [GW]
 show GZ _ (execs _ _ (iw n Wz [.int s]) h)=_
 rw [Za (xb _ _ _),Za (xb _ _ _),Za (xb _ _ _),Za (xb _ _ _),Za (xb _ _ _),Za (xb _ _ _),Za (xb _ _ _),qk (xb _ _ _) (xc rfl (by simp only [eval,Gg,Gf,Gj,R.aa,wk,CV,R.af,Aa9,Ad6,W.bj,IA k n s h (by lia)];rfl)),Gb _ _ _ rfl]
def JX (k n s) (h) (b:n<=4) (c:s<2 ^ (n*n)): ∃r,Wf.fM n s r/\call prog (k+5) "made" [.v (.int (n:Int)),.v (.str Qz),.v (.lst [.int (s:Int)])] h= .ok (.v (.int (r:Int))) h:=by
 obtain⟨r,a,e⟩:=EK (k+1) n s h b c
 refine⟨r,a,?_⟩
 rw [Ga rfl _ _ _ rfl]
 simp only [GW]
 show GZ _ (execs _ _ (iw n Qz [.int s]) h)=_
 rw [Za (xb _ _ _),Za (xb _ _ _),Za (xb _ _ _),Za (xb _ _ _),Za (xb _ _ _),Za (xb _ _ _),Za (xb _ _ _),Za (xb _ _ _),jb (xc rfl (by assumption)),Gb _ _ _ rfl]
def pF (a:Gk F it Y h= .ok [] h):eval F (.comp tg one k aA it y9 c elt) Y h= .ok (.own []) h:=by
 rw [eval,a,R.aa,if_pos (show [].length<=aZ from Ah5 _)]
 rfl
def rE (b:Gk F it Y h= .ok [d] h) (e:eval F elt (GI (Aa8 k u0++aA.map λj=>Gf Y j) 0 (.v d)) h= .ok (.v y) h):eval F (.comp [0] k9 k aA it y9 c elt) Y h= .ok (.own [y]) h:=by
 have a: [d].length<=aZ:=by rw [Gi];simp
 rw [eval,b,R.aa,if_pos a]
 simp [Gx,e,R.af]
def Q5 (d:Gk F it Y h= .ok [d1,d2] h) (b:eval F elt (GI (Aa8 k u0++aA.map λj=>Gf Y j) 0 (.v d1)) h= .ok (.v y1) h) (e:eval F elt (GI (Aa8 k u0++aA.map λj=>Gf Y j) 0 (.v d2)) h= .ok (.v y2) h):eval F (.comp [0] k9 k aA it y9 c elt) Y h= .ok (.own [y1,y2]) h:=by
 have a: [d1,d2].length<=aZ:=by rw [Gi];simp
 rw [eval,d,R.aa,if_pos a]
 simp [Gx,b,e,R.af]
abbrev ir (w:Wo) (d:D) (x:Option W):Sl:= [y0 (.v w.words),y0 (.v w.aB),y0 (.v d),x]
def zv :Gk F (.seq (.fJ (.var 2) (.int 1))) (ir w (.tup (s::ds)) x) h= .ok ds h:=by
 have e:cut (s::ds) (y0 1) u0=ds:=F4 (s::ds) 1
 refine kq ?_
 show(if bh (s::ds).length 0 (y0 1)=0/\bh (s::ds).length (s::ds).length u0=(s::ds).length then R.fail else R.ok _ h)=_
 rw [if_neg (λc=>by have:=c.1;simp [bh]at this),e]
def Jn (a:aN e= .tup (.str s::ds)) (d:(s==j8)=y9)
 (h1:eval (u9 m) QP (ir w (.tup (.str s::ds)) u0) h= .ok (.own ys) h) (h2:call prog m "made" [.v (.int (w.n:Int)),.v (.str s),.v (.lst ys)] h= .ok (.v v) h):call prog (m+1) "value" [.v w.words,.v w.aB,.v (aN e)] h= .ok (.v v) h:=by
 rw [Ga rfl _ _ _ rfl,a]
 simp only [Kt]
 show GZ _ (execs _ _ (ir w _ u0) h)=_
 have b:Gs (u9 m) (.cmp .eq (.ix (.var 2) (.int 0)) (.str j8)) (ir w (.tup (.str s::ds)) u0) h= .ok y9 h:=by
  simp only [Gs,eval,Gf,Gj,R.aa,ah,Jq,R.af,Jv,d,G8]
 rw [Za b,za (Y1:=ir w _ _) (by rw [exec,h1];rfl)]
 have c:dU (.v w.aB) (.v (.int 0)) h=y0 _:=rfl
 rw [jb (xc rfl (by simp only [eval,Gg,Gf,Gj,R.aa,c,ah,Jq,R.af,Aa9,Ad6,W.bj,h2];rfl)),Gb _ _ _ rfl]
def Zl (q:call prog m "value" [.v w.words,.v w.aB,.v d] h= .ok (.v y) h):eval (u9 m) (.call "value" (.cons (.var 1) (.cons (.var 2) (.cons (.var 0) .nil)))) (GI (List.replicate 1 none++ [0,1].map fun j=>Gf (ir w v none) j) 0 (.v d)) h= .ok (.v y) h:=by simp_all
def qO {w:Wo}(ok:w.Ok) (h:AH): ∀(e:Ex) (m:Nat),e.dp+6<=m->e.wf (w.K++w.T)-> ∃v,Is w e v/\call prog m "value" [.v w.words,.v w.aB,.v (aN e)] h= .ok (.v (.int (v:Int))) h:=by
 have o:=ok.wl.n4
 intro e
 induction e with
 | name t=>
  intro m f wf
  obtain⟨k,rfl⟩: ∃k,m=k+5:=⟨m-5,by omega⟩
  obtain⟨v,x,e⟩:=WB k ok t wf h
  refine⟨v,x,?_⟩
  rw [Ga (d:=Kt) rfl _ _ _ rfl]
  simp only [Kt]
  show GZ _ (execs _ _ (ir w (aN (.name t)) u0) h)=_
  have p:Gs (u9 (k+4)) (.cmp .eq (.ix (.var 2) (.int 0)) (.str j8)) (ir w (aN (.name t)) u0) h= .ok k9 h:=by
   simp only [Gs,eval,aN,Gf,Gj,R.aa,ah,Jq,R.af,Jv,G8]
   rfl
  rw [qk p (xc rfl (by simp only [eval,Gg,aN,Gf,Gj,R.aa,ah,xz,R.af,Aa9,Ad6,W.bj,e];rfl)),Gb _ _ _ rfl]
 | same=>
  intro m f wf
  obtain⟨k,rfl⟩: ∃k,m=k+5+1:=⟨m-6,by simp [Ex.dp]at f;omega⟩
  exact⟨_,Is.same w,Jn (e:= .same) rfl rfl (pF zv) (B4 k w.n _ h o)⟩
 | all=>
  intro m f wf
  obtain⟨k,rfl⟩: ∃k,m=k+5+1:=⟨m-6,by simp [Ex.dp]at f;omega⟩
  exact⟨_,Is.all w,Jn (e:= .all) rfl rfl (pF zv) (E7 k w.n _ h o)⟩
 | none=>
  intro m f wf
  obtain⟨k,rfl⟩: ∃k,m=k+5+1:=⟨m-6,by simp [Ex.dp]at f;omega⟩
  exact⟨_,Is.none w,Jn (e:= .none) rfl rfl (pF zv) (IZ k w.n _ h)⟩
 | turned a c=>
  intro m f wf
  simp only [Ex.dp]at f
  obtain⟨k,rfl⟩: ∃k,m=k+5+1:=⟨m-6,by omega⟩
  obtain⟨s,i,j⟩:=c (k+5) (by omega) wf
  exact⟨_,i.turned,Jn (e:= .turned a) rfl rfl (rE zv (Zl j)) (WW k w.n s h o)⟩
 | closed a c=>
  intro m f wf
  simp only [Ex.dp]at f
  obtain⟨k,rfl⟩: ∃k,m=k+5+1:=⟨m-6,by omega⟩
  obtain⟨s,i,j⟩:=c (k+5) (by omega) wf
  obtain⟨r,q,u⟩:=JX k w.n s h o i.1
  exact⟨_,i.closed q,Jn (e:= .closed a) rfl rfl (rE zv (Zl j)) u⟩
 | plus a b c g=>
  intro m f wf
  simp only [Ex.dp]at f
  obtain⟨k,rfl⟩: ∃k,m=k+5+1:=⟨m-6,by omega⟩
  obtain⟨s,i,j⟩:=c (k+5) (by omega) wf.1
  obtain⟨t,l,n⟩:=g (k+5) (by omega) wf.2
  exact⟨_,i.plus l,Jn (e:= .plus a b) rfl rfl (Q5 zv (Zl j) (Zl n)) (Bn k w.n s t h)⟩
 | less a b c g=>
  intro m f wf
  simp only [Ex.dp]at f
  obtain⟨k,rfl⟩: ∃k,m=k+5+1:=⟨m-6,by omega⟩
  obtain⟨s,i,j⟩:=c (k+5) (by omega) wf.1
  obtain⟨t,l,n⟩:=g (k+5) (by omega) wf.2
  exact⟨_,i.less l,Jn (e:= .less a b) rfl rfl (Q5 zv (Zl j) (Zl n)) (Hf k w.n s t h)⟩
 | both a b c g=>
  intro m f wf
  simp only [Ex.dp]at f
  obtain⟨k,rfl⟩: ∃k,m=k+5+1:=⟨m-6,by omega⟩
  obtain⟨s,i,j⟩:=c (k+5) (by omega) wf.1
  obtain⟨t,l,n⟩:=g (k+5) (by omega) wf.2
  exact⟨_,i.both l,Jn (e:= .both a b) rfl rfl (Q5 zv (Zl j) (Zl n)) (CB k w.n s t h)⟩
 | joined a b c g=>
  intro m f wf
  simp only [Ex.dp]at f
  obtain⟨k,rfl⟩: ∃k,m=k+5+1:=⟨m-6,by omega⟩
  obtain⟨s,i,j⟩:=c (k+5) (by omega) wf.1
  obtain⟨t,l,n⟩:=g (k+5) (by omega) wf.2
  exact⟨_,i.joined l,Jn (e:= .joined a b) rfl rfl (Q5 zv (Zl j) (Zl n)) (zZ k w.n s t h o)⟩
def JE (x y) (r:List D):aX (x::y::r) 1=y0 y:=by
 have:=Qh (x::y::r) 1 (by simp)
 exact this
def Wo.mv (w:Wo) (o:List Nat):Wo:=⟨w.n,w.K,w.T,w.ks.map (kM w.n o),w.ts.map (tK w.n o)⟩
theorem Wo.Ok.mv {w:Wo}(ok:w.Ok)(h:Od w.n o):(w.mv o).Ok:=⟨ok.hK,ok.hT,ok.nm,⟨ok.wl.n4,by simp [Wo.mv,ok.wl.lk],by simp [Wo.mv,ok.wl.lt],λx a=>by
 obtain⟨y,_,rfl⟩:=Ac1.mp a
 exact nc h y,λx a=>by
 obtain⟨y,_,rfl⟩:=Ac1.mp a
 exact mJ h y⟩⟩
def j6 (f) (l:List Nat) (i) (h:i<l.length):(l.map f).getD i 0=f (l.getD i 0):=by
 rw [Ab5,Ab5,Ac5,Aa4 h];rfl
def EH {w:Wo}(ok:w.Ok){o:List Nat}(h:Od w.n o){t:Tx}(e:t∈w.K++w.T){a b:Nat}(c:a<w.n) (d:b<w.n):(w.mv o).at t (pm o a) (pm o b)↔w.at t a b:=by
 unfold Wo.at
 show(if t∈w.T then((w.ts.map _).getD (fS t w.T) 0).testBit (pm o a*w.n+pm o b)=k9 else pm o a=pm o b/\((w.ks.map _).getD (fS t w.K) 0).testBit _=k9)↔_
 by_cases q:t∈w.T
 ·rw [if_pos q,if_pos q,j6 _ _ _ (by rw [ok.wl.lt];exact(Jr q).2),l5 h _ c d]
 ·have f:=(Af0.mp e).resolve_right q
  rw [if_neg q,if_neg q,j6 _ _ _ (by rw [ok.wl.lk];exact(Jr f).2),lE h _ c,h.inj c d]
def Fv {n v q:Nat}{o:List Nat}(h:Od n o) (k: ∀a b,a<n->b<n->(q.testBit (pm o a*n+pm o b)=k9↔v.testBit (a*n+b)=k9)){a b:Nat}(i:a<n) (s:b<n):Wf.TC n q (pm o a) (pm o b)↔Wf.TC n v a b:=by
 constructor
 ·have: ∀x y,Wf.TC n q x y-> ∀a b,a<n->b<n->pm o a=x->pm o b=y->Wf.TC n v a b:=by
   intro x y f
   induction f with
   | step d e g=>
    intro a b i j p l
    subst p l
    exact .step i j ((k a b i j).mp g)
   | more f d e g m=>
    intro a b i j p l
    subst p l
    obtain⟨c,r,rfl⟩:=h.cU d
    exact .more (m a c i r rfl rfl) r j ((k c b r j).mp g)
  exact λf=>this _ _ f a b i s rfl rfl
 ·intro f
  induction f with
  | step d e g=>exact .step (h.lt d) (h.lt e) ((k _ _ d e).mpr g)
  | more f d e g m=>exact .more (m d) (h.lt d) (h.lt e) ((k _ _ d e).mpr g)
def A4 {w:Wo}(ok:w.Ok){o:List Nat}(h:Od w.n o) (s:AH): ∀(e:Ex),e.wf (w.K++w.T)-> ∀a b,a<w.n->b<w.n->(eH (w.mv o) e (pm o a) (pm o b)↔eH w e a b):=by
 intro e
 induction e with
 | name t=>intro wf a b f g;exact EH ok h wf f g
 | same=>intro wf a b f g;exact h.inj f g
 | all=>intro wf a b f g;exact Iff.rfl
 | none=>intro wf a b f g;exact Iff.rfl
 | turned x p=>intro wf a b f g;exact p wf b a g f
 | closed x p=>
  intro wf a b f g
  obtain⟨v,r,_⟩:=qO ok s x _ (Aa6 _) wf
  obtain⟨u,l,_⟩:=qO (ok.mv h) s x _ (Aa6 _) wf
  rw [jy r,jy l]
  exact Fv h (λa b f g=>by rw [r.2 a b f g,←p wf a b f g];exact l.2 _ _ (h.lt f) (h.lt g)) f g
 | plus x y j i=>intro wf a b f g;exact or_congr (j wf.1 a b f g) (i wf.2 a b f g)
 | less x y j i=>intro wf a b f g;exact and_congr (j wf.1 a b f g) (not_congr (i wf.2 a b f g))
 | both x y j i=>intro wf a b f g;exact and_congr (j wf.1 a b f g) (i wf.2 a b f g)
 | joined x y j i=>
  intro wf a b f g
  constructor
  ·rintro ⟨c,k,n,q⟩
   obtain⟨d,m,rfl⟩:=h.cU k
   exact⟨d,m,(j wf.1 a d f m).mp n,(i wf.2 d b m g).mp q⟩
  ·rintro ⟨c,k,n,q⟩
   exact⟨pm o c,h.lt k,(j wf.1 a c f k).mpr n,(i wf.2 c b k g).mpr q⟩
def Mv (n:Nat) (o:List Nat) (v c:Nat):Prop:=v<2 ^ (n*n)/\c<2 ^ (n*n)/\ ∀a b,a<n->b<n->(c.testBit (pm o a*n+pm o b)=k9↔v.testBit (a*n+b)=k9)
def F7 (ok:w.Ok)(h:Od w.n o) (i:AH) (e) (wf:e.wf (w.K++w.T))(g:Is w e v) (c:Is (w.mv o) e v'):Mv w.n o v v':=⟨g.1,c.1,λa b d f=>by
 rw [g.2 a b d f,←A4 ok h i e wf a b d f];exact c.2 _ _ (h.lt d) (h.lt f)⟩
abbrev tb (n v:Nat) (a b:Nat):Bool:=v.testBit (a*n+b)
def wU (n:Nat) (g:Nat->Nat->Bool) (a:Nat):Nat:=((Aa0 n).map λb=>(g a b).toNat).sum
theorem Qx (g): ∀l:List Nat,(l.filter g).length=(l.map λb=>(g b).toNat).sum
 | []=>rfl
 | x::l=>by
  have a:=Qx g l
  by_cases q:g x=k9
  ·rw [List.filter_cons_of_pos q,Ab7,Aa9,Ai3,a,q];simp;omega
  ·have c:=by simpa using q
   rw [List.filter_cons_of_neg q,Aa9,Ai3,a,c];simp
def wG (m n):Aa0 ((m+1)*n)=Aa0 (m*n)++(Aa0 n).map (m*n+ ·):=by
 rw [Ao3,List.range_add]
def Ma {b:Nat}(a:b<n):(m*n+b) / n=m:=Wf.aE a
theorem w4 (n v) (a): ∀m,((((Aa0 (m*n)).filter v.testBit).map (· / n)).count a)=if a<m then wU n (tb n v) a else 0
 | 0=>by simp
 | m+1=>by
  have d:=w4 n v a m
  rw [wG,An7,Ac8,List.count_append,d,List.filter_map,Ac6]
  have e:((Aa0 n).filter (v.testBit∘(m*n+ ·))).map ((· / n)∘(m*n+ ·))=Aa8 ((Aa0 n).filter (v.testBit∘(m*n+ ·))).length m:=by
   rw [List.eq_replicate_iff]
   refine⟨by simp,λx f=> ?_⟩
   obtain⟨b,h,rfl⟩:=Ac1.mp f
   exact Ma (Ab3.mp (Ae3.mp h).1)
  rw [e,List.count_replicate,Qx]
  by_cases q:a=m
  ·subst q
   simp [wU,tb]
  ·have g: ¬(m==a)=true:=by simp;exact λe=>q e.symm
   rw [if_neg g]
   by_cases c:a<m
   ·rw [if_pos c,if_pos (by omega)];omega
   ·rw [if_neg c,if_neg (by omega)]
def Bh (b:a<n):((Wf.ar n v).map (·.1)).count a=wU n (tb n v) a:=by
 have:=w4 n v a n
 rw [if_pos b]at this
 rw [← this,Wf.ar,Ac6]
 rfl
theorem J0 (n v): ∀m,((Aa0 (m*n)).filter v.testBit).length=((Aa0 m).map (wU n (tb n v))).sum
 | 0=>by simp
 | m+1=>by
  have a:=J0 n v m
  rw [wG,An7,Ab0,a,List.filter_map,Aa,Qx,List.range_succ,Ac8,List.sum_append]
  simp [wU,tb]
def Ci (n v):(Wf.ar n v).length=((Aa0 n).map (wU n (tb n v))).sum:=by
 rw [Wf.ar,Aa,J0]
abbrev je:Tx:= [108,101,97,115,116]
abbrev Jk:Tx:= [109,111,115,116]
abbrev Zd:Tx:= [101,97,99,104,108,101,97,115,116]
abbrev Xh:Tx:= [101,97,99,104,109,111,115,116]
abbrev fH:Tx:= [105,110]
abbrev wj:Tx:= [101,113,117,97,108]
abbrev Xp:Tx:= [115,111,109,101]
abbrev fO:Tx:= [110,111]
def qM (s a b) (h):Gy .mem (.v (.str s)) (.v (.tup [.str a,.str b])) h=y0 (v9 (s∈ [a,b])):=qS s [a,b] (.v (.tup [.str a,.str b])) h rfl rfl
def rows (n v:Nat):List Nat:=(Aa0 n).map (wU n (tb n v))
def fF (n v:Nat) (s:Tx):List Nat:=if s∈ [je,Jk]then [(rows n v).sum]else rows n v
def Eg (l:List Nat) (a:Nat):(l.map λ(x:Nat)=>(x:Int)).count (a:Int)=l.count a:=by
 induction l with
 | nil=>rfl
 | cons x l b=>
  rw [Aa9,List.count_cons,List.count_cons,b]
  by_cases q:x=a
  ·simp [q]
  ·have: ¬(x=(a:Int)):=by lia
   simp [q,this]
def CY (k n v:Nat) (s) (l:n<=4) (h):call prog (k+2) "counts" [.v (.int (n:Int)),.v (.str s),.v (.int (v:Int))] h= .ok (.own (ag (fF n v s))) h:=by
 rw [Ga rfl _ _ _ rfl]
 simp only [KK]
 show GZ _ (execs _ _ [y0 (.v (.int (n:Int))),y0 (.v (.str s)),y0 (.v (.int (v:Int))),u0,u0] h)=_
 refine fx (by simp_all [Xq k n v h (by omega)];rfl) ?_
 by_cases q:s∈ [je,Jk]
 ·rw [jb,Gw _ _ _ rfl]
  rw [qr (h1:=h) (by simp_all [qM,decide_eq_true q])]
  refine jb (wm rfl ?_)
  simp only [eval,Gm,Gg,Gf,Gj,R.aa,zp,W.eG,R.af,Aa,Ci]
  rw [fF,if_pos q]
  rfl
 ·refine fx (by simp_all [qM,decide_eq_false q];rfl) ?_
  have i:eval (u9 (k+1)) qx [y0 (.v (.int (n:Int))),y0 (.v (.str s)),y0 (.v (.int (v:Int))),y0 (.v (.lst ((Wf.ar n v).map pD))),u0] h= .ok (.own (ag ((Wf.ar n v).map (·.1)))) h:=by
   rw [qx,wy (λd=>match d with | .tup [x,_]=>x | d=>d) (by simp_all []) (XD n v (by omega))]
   ·simp [pD,ag,Function.comp_def]
   ·intro d b
    obtain⟨p,_,rfl⟩:=Ac1.mp b
    exact⟨_,rfl,_,rfl,rfl⟩
  have c:eval (u9 (k+1)) Jy [y0 (.v (.int (n:Int))),y0 (.v (.str s)),y0 (.v (.int (v:Int))),y0 (.v (.lst ((Wf.ar n v).map pD))),y0 (.v (.lst (ag ((Wf.ar n v).map (·.1)))))] h= .ok (.own (ag (rows n v))) h:=by
   rw [Jy,X5 (λa=> .int ((wU n (tb n v) a:Nat):Int)) rfl (by omega) λa g=>⟨.v (.int ((wU n (tb n v) a:Nat):Int)),?_,rfl⟩]
   ·rw [ag,rows,Ac6];rfl
   ·have e:((((Wf.ar n v).map (·.1)).map λ(x:Nat)=>(x:Int))).length<=aZ:=by
     have:=XD n v (show n<=20 by omega)
     simpa using this
    have j:lP .count (.v (.lst (ag ((Wf.ar n v).map (·.1))))) [.v (.int (a:Int))] h= .ok (.v (.int ((wU n (tb n v) a:Nat):Int))) h:=by
     show(R.of h ((y0 (ag ((Wf.ar n v).map (·.1)))).bind Kj)).bind _=_
     rw [Ah3,QE,R.af,R.aa]
     show(R.of h (y0 (a:Int))).bind _=_
     rw [R.af,R.aa,if_pos e,Eg,Bh g]
    have f:kY .count (.v (.lst (ag ((Wf.ar n v).map (·.1))))) h=true:=rfl
    simp only [eval,Gg,Gf,Gj,Aa9,Ad6,R.aa,f,if_true,j]
  rw [za (Y1:= [y0 (.v (.int (n:Int))),y0 (.v (.str s)),y0 (.v (.int (v:Int))),y0 (.v (.lst ((Wf.ar n v).map pD))),y0 (.v (.lst (ag ((Wf.ar n v).map (·.1)))))]) (h1:=h) (by rw [exec,i];rfl)]
  rw [jb (wm rfl c),Gw _ _ _ rfl,fF,if_neg q]
inductive Fc where
 | ic (a b:Ex)
 | hV (a b:Ex)
 | hZ (a:Ex)
 | av (a:Ex)
 | cnt (s:Tx) (k:Nat) (a:Ex)
def eh:Fc->D
 | .ic a b=> .tup [.str fH,aN a,aN b]
 | .hV a b=> .tup [.str wj,aN a,aN b]
 | .hZ a=> .tup [.str Xp,aN a]
 | .av a=> .tup [.str fO,aN a]
 | .cnt s k a=> .tup [.str s,.int (k:Int),aN a]
def Fc.wf (N:List Tx):Fc->Prop
 | .ic a b=>a.wf N/\b.wf N
 | .hV a b=>a.wf N/\b.wf N
 | .hZ a=>a.wf N
 | .av a=>a.wf N
 | .cnt s _ a=>s∈ [je,Jk,Zd,Xh]/\a.wf N
def Fc.dp:Fc->Nat
 | .ic a b=>max a.dp b.dp
 | .hV a b=>max a.dp b.dp
 | .hZ a=>a.dp
 | .av a=>a.dp
 | .cnt _ _ a=>a.dp
def Xr {p:Nat->Nat->Bool}:((Aa0 n).all λa=>(Aa0 n).all λb=>p a b)=k9↔ ∀a b,a<n->b<n->p a b=true:=by
 simp [Ab3]
 exact⟨λh a b c d=>h a c b d,λh a c b d=>h a b c d⟩
def J8 (c:s<2 ^ (n*n)):v9 (s-(s &&& t)=0)=(Aa0 n).all λa=>(Aa0 n).all λb=>(tb n s a b&&tb n t a b)==tb n s a b:=by
 rw [Ad8,decide_eq_true_eq,Xr]
 constructor
 ·intro e a b d f
  have:=Wf.bB s t (a*n+b)
  cases q:s.testBit (a*n+b)<;>cases r:t.testBit (a*n+b)<;>simp_all
 ·intro e
  refine Af3 λk=> ?_
  rw [Wf.bB,Nat.zero_testBit]
  by_cases q:k<n*n
  ·have:=e _ _ (Wf.aR q) (Wf.aJ q)
   simp only [tb,Wf.aT]at this
   cases a:s.testBit k<;>cases b:t.testBit k<;>simp_all
  ·have:s.testBit k=false:=Ae5 (Ab c (Ad (by decide) (by omega)))
   rw [this];rfl
def j4 (g:s<2 ^ (n*n)) (c:t<2 ^ (n*n)):v9 (s=t)=(Aa0 n).all λa=>(Aa0 n).all λb=>tb n s a b==tb n t a b:=by
 rw [Ad8,decide_eq_true_eq,Xr]
 constructor
 ·rintro rfl a b _ _
  simp
 ·intro e
  exact qV g c λx y f d=>by
   have:=e x y f d
   rw [beq_iff_eq]at this
   exact Ad8.mp this
def zb (s X) (h):Gs F (.cmp .eq (.var 3) (.str X)) [a,b,c,y0 (.v (.str s))] h= .ok (s==X) h:=by
 simp only [Gs,eval,Gf,Gj,R.aa,Jv,R.af,G8]
abbrev uG (w:Wo) (d:D) (s:Tx):Sl:= [y0 (.v w.words),y0 (.v w.aB),y0 (.v d),y0 (.v (.str s))]
def zl 
 (q:execs (u9 m) (match a9.body with | .cons _ r=>r | r=>r) (uG w (.tup (.str s::ds)) s) h= .ret (.v (.bl b)) h):call prog (m+1) "keeps" [.v w.words,.v w.aB,.v (.tup (.str s::ds))] h= .ok (.v (.bl b)) h:=by
 rw [Ga rfl _ _ _ rfl]
 simp only [a9]at q ⊢
 show GZ _ (execs _ _ [y0 _,y0 _,y0 _,u0] h)=_
 rw [za (Y1:=uG w (.tup (.str s::ds)) s) (h1:=h) (by simp_all [ah,Jq]),q,Gb _ _ _ rfl]
section
variable {m:Nat}{w:Wo}{h:AH}
def yc {s t:Nat}(c:call prog (m+1) "value" [.v w.words,.v w.aB,.v (aN a)] h= .ok (.v (.int (s:Int))) h) (d:call prog (m+1) "value" [.v w.words,.v w.aB,.v (aN b)] h= .ok (.v (.int (t:Int))) h):
 call prog (m+2) "keeps" [.v w.words,.v w.aB,.v (eh (.ic a b))] h= .ok (.v (.bl (decide (s-(s &&& t)=0)))) h:=by
 refine zl ?_
 simp only [a9]
 have e:Gy .eq _ (.v (.int 0)) h=y0 (v9 (s-(s &&& t)=0)):=ZK _ 0 h
 rw [Za (zb _ _ _),Za (zb _ _ _),Za (zb _ _ _),qk (zb _ _ _) (xc rfl (by simp only [eval,Gg,Gf,Gj,R.aa,ah,JE,zP,R.af,Aa9,Ad6,W.bj,c,d,wQ m s t h,e];rfl))]
def vq {s t:Nat}(d:call prog (m+1) "value" [.v w.words,.v w.aB,.v (aN a)] h= .ok (.v (.int (s:Int))) h) (c:call prog (m+1) "value" [.v w.words,.v w.aB,.v (aN b)] h= .ok (.v (.int (t:Int))) h):
 call prog (m+2) "keeps" [.v w.words,.v w.aB,.v (eh (.hV a b))] h= .ok (.v (.bl (decide (s=t)))) h:=by
 refine zl ?_
 simp only [a9]
 rw [Za (zb _ _ _),Za (zb _ _ _),Za (zb _ _ _),Za (zb _ _ _),qk (zb _ _ _) (xc rfl (by simp only [eval,Gg,Gf,Gj,R.aa,ah,JE,zP,R.af,Aa9,Ad6,W.bj,d,c,ZK];rfl))]
def rM {s:Nat}(b:call prog (m+1) "value" [.v w.words,.v w.aB,.v (aN a)] h= .ok (.v (.int (s:Int))) h):
 call prog (m+2) "keeps" [.v w.words,.v w.aB,.v (eh (.hZ a))] h= .ok (.v (.bl (!decide (s=0)))) h:=by
 refine zl ?_
 simp only [a9]
 have d:Gy .ne (.v (.int s)) (.v (.int 0)) h=y0 (!v9 (s=0)):=by
  have this:Gy .eq _ (.v (.int 0)) h=y0 _:=ZK s 0 h
  rw [oM]at this
  rw [FV]
  split at this
  ·rename_i c
   rw [if_pos c]
   have:=Ae4.inj this
   rw [← this]
  ·cases this
 rw [Za (zb _ _ _),Za (zb _ _ _),Za (zb _ _ _),Za (zb _ _ _),Za (zb _ _ _),qk (zb _ _ _) (xc rfl (by simp only [eval,Gg,Gf,Gj,R.aa,ah,JE,R.af,Aa9,Ad6,W.bj,b,d];rfl))]
def vc {s:Nat}(b:call prog (m+1) "value" [.v w.words,.v w.aB,.v (aN a)] h= .ok (.v (.int (s:Int))) h):
 call prog (m+2) "keeps" [.v w.words,.v w.aB,.v (eh (.av a))] h= .ok (.v (.bl (decide (s=0)))) h:=by
 refine zl ?_
 simp only [a9]
 have c:Gy .eq _ (.v (.int 0)) h=y0 _:=ZK s 0 h
 rw [Za (zb _ _ _),Za (zb _ _ _),Za (zb _ _ _),Za (zb _ _ _),Za (zb _ _ _),Za (zb _ _ _),qk (zb _ _ _) (xc rfl (by simp only [eval,Gg,Gf,Gj,R.aa,ah,JE,R.af,Aa9,Ad6,W.bj,b,c];rfl))]
end
def gC (s:Tx) (k:Nat) (l:List Nat):Bool:=if s∈ [je,Zd]then l.all λx=>v9 (k<=x)else l.all λx=>v9 (x<=k)
def yn (n v) (s) (a:n<=4):(ag (fF n v s)).length<=aZ:=by
 rw [Gi,ag,Aa,fF]
 split
 ·simp
 ·simp [rows];lia
noncomputable abbrev sv (w:Wo) (d:D) (k:Nat) (l:List Nat):Sl:= [y0 (.v w.words),y0 (.v w.aB),y0 (.v d),y0 (.v (.int (k:Int))),y0 (.v (.lst (ag l)))]
def Cv (b:(ag l).length<=aZ):eval F zj (sv w d k l) h= .ok (.own ((l.map λx=>v9 (k<=x)).map .bl)) h:=by
 rw [zj,wy (λd=>match d with | .int x=> .bl (v9 (k<=x)) | d=>d) (by simp_all []) b]
 ·simp [Function.comp_def]
 ·intro d a
  obtain⟨x,_,rfl⟩:=Ac1.mp a
  refine⟨[y0 _,y0 _],rfl,.v _,?_,rfl⟩
  simp_all [nK]
def Ip (b:(ag l).length<=aZ):eval F Wj (sv w d k l) h= .ok (.own ((l.map λx=>v9 (x<=k)).map .bl)) h:=by
 rw [Wj,wy (λd=>match d with | .int x=> .bl (v9 (x<= k)) | d=>d) (by simp_all []) b]
 ·simp [Function.comp_def]
 ·intro d a
  obtain⟨x,_,rfl⟩:=Ac1.mp a
  refine⟨[y0 _,y0 _],rfl,.v _,?_,rfl⟩
  simp_all [DE]
def jN {w:Wo}(b:w.n<=4){k v:Nat}(d:call prog (m+2) "value" [.v w.words,.v w.aB,.v (aN a)] h= .ok (.v (.int (v:Int))) h):
 call prog (m+3) "keeps_count" [.v w.words,.v w.aB,.v (eh (.cnt s k a))] h= .ok (.v (.bl (gC s k (fF w.n v s)))) h:=by
 rw [Ga rfl _ _ _ rfl]
 simp only [GR,eh]
 show GZ _ _=_
 have e:dU (.v w.aB) (.v (.int 0)) h=y0 _:=rfl
 have c:=yn w.n v s b
 rw [za (Y1:= [y0 _,y0 _,y0 _,y0 _,u0]) (h1:=h) rfl]
 refine fx (by simp_all [e,ah,Jq,zP,d,CY m w.n v s b h];rfl) ?_
 by_cases q:s∈ [je,Zd]
 ·rw [jb (w:= .v _) (h1:=h),Gb _ _ _ rfl]
  rw [qr (h1:=h) (by simp_all [ah,Jq,qM,decide_eq_true q])]
  refine jb (xc rfl ?_)
  rw [qv (Cv c),Z2,gC,if_pos q]
 ·refine fx (by simp_all [ah,Jq,qM,decide_eq_false q];rfl) ?_
  rw [jb (w:= .v _) (h1:=h) (xc rfl ?_),Gb _ _ _ rfl]
  rw [qv (Ip c),Z2,gC,if_neg q]
def uo {m:Nat}{w:Wo}(c:w.n<=4){h:AH}{s:Tx}(f:s∈ [je,Jk,Zd,Xh]){k v:Nat}{a:Ex}(d:call prog (m+2) "value" [.v w.words,.v w.aB,.v (aN a)] h= .ok (.v (.int (v:Int))) h):
 call prog (m+4) "keeps" [.v w.words,.v w.aB,.v (eh (.cnt s k a))] h= .ok (.v (.bl (gC s k (fF w.n v s)))) h:=by
 refine zl (m:=m+3) ?_
 have b:=jN (m:=m) c (s:=s) (k:=k) d
 simp only [eh]at b
 have ne: ∀X,X∈ [[110,111,116],[97,110,100],[111,114],fH,wj,Xp,fO]->(s==X)=false:=by
  intro X e
  have: ∀s,s∈ [je,Jk,Zd,Xh]-> ∀X,X∈ [([110,111,116]:Tx),[97,110,100],[111,114],fH,wj,Xp,fO]->(s==X)=false:=by decide
  exact this s f X e
 simp only [a9]
 rw [Za ((zb _ _ _).trans (by rw [ne _ (by decide)])),Za ((zb _ _ _).trans (by rw [ne _ (by decide)])),Za ((zb _ _ _).trans (by rw [ne _ (by decide)])),Za ((zb _ _ _).trans (by rw [ne _ (by decide)])),Za ((zb _ _ _).trans (by rw [ne _ (by decide)])),Za ((zb _ _ _).trans (by rw [ne _ (by decide)])),Za ((zb _ _ _).trans (by rw [ne _ (by decide)])),jb (xc rfl (by assumption))]
abbrev oe:Tx:= [110,111,116]
abbrev mQ:Tx:= [97,110,100]
abbrev mi:Tx:= [111,114]
inductive Sy where
 | fact (f:Fc)
 | neg (a:Sy)
 | dq (a b:Sy)
 | eB (a b:Sy)
def aK:Sy->D
 | .fact f=>eh f
 | .neg a=> .tup [.str oe,aK a]
 | .dq a b=> .tup [.str mQ,aK a,aK b]
 | .eB a b=> .tup [.str mi,aK a,aK b]
def Sy.wf (N:List Tx):Sy->Prop
 | .fact f=>f.wf N
 | .neg a=>a.wf N
 | .dq a b=>a.wf N/\b.wf N
 | .eB a b=>a.wf N/\b.wf N
def Sy.dp:Sy->Nat
 | .fact f=>f.dp
 | .neg a=>a.dp+1
 | .dq a b=>max a.dp b.dp+1
 | .eB a b=>max a.dp b.dp+1
section
variable {m:Nat}{w:Wo}{h:AH}{d e:D}{a b:Bool}
def tO (b:call prog m "keeps" [.v w.words,.v w.aB,.v d] h= .ok (.v (.bl a)) h):call prog (m+1) "keeps" [.v w.words,.v w.aB,.v (.tup [.str oe,d])] h= .ok (.v (.bl (!a))) h:=by
 refine zl ?_
 simp only [a9]
 rw [qk (zb _ _ _) (xc rfl (by simp only [eval,Gg,Gf,Gj,R.aa,ah,JE,R.af,Aa9,Ad6,W.bj,b,G8];rfl))]
def tF (f:call prog m "keeps" [.v w.words,.v w.aB,.v d] h= .ok (.v (.bl a)) h) (c:call prog m "keeps" [.v w.words,.v w.aB,.v e] h= .ok (.v (.bl b)) h):call prog (m+1) "keeps" [.v w.words,.v w.aB,.v (.tup [.str mQ,d,e])] h= .ok (.v (.bl (a&&b))) h:=by
 refine zl ?_
 simp only [a9]
 rw [Za (zb _ _ _),qk (zb _ _ _) (xc rfl ?_)]
 cases a<;>simp only [eval,Gg,Gf,Gj,R.aa,ah,JE,zP,R.af,Aa9,Ad6,W.bj,f,c,G8,Am9]<;>rfl
def rC (f:call prog m "keeps" [.v w.words,.v w.aB,.v d] h= .ok (.v (.bl a)) h) (c:call prog m "keeps" [.v w.words,.v w.aB,.v e] h= .ok (.v (.bl b)) h):call prog (m+1) "keeps" [.v w.words,.v w.aB,.v (.tup [.str mi,d,e])] h= .ok (.v (.bl (a||b))) h:=by
 refine zl ?_
 simp only [a9]
 rw [Za (zb _ _ _),Za (zb _ _ _),qk (zb _ _ _) (xc rfl ?_)]
 cases a<;>simp only [eval,Gg,Gf,Gj,R.aa,ah,JE,zP,R.af,Aa9,Ad6,W.bj,f,c,G8,Bool.false_or]<;>rfl
end
def vr (h:Od n o) (p:Nat->Nat->Bool):((Aa0 n).all λa=>(Aa0 n).all λb=>p a b)=(Aa0 n).all λa=>(Aa0 n).all λb=>p (pm o a) (pm o b):=by
 rw [Ad8,Xr,Xr]
 constructor
 ·exact λk a b c d=>k _ _ (h.lt c) (h.lt d)
 ·intro k x y f e
  obtain⟨a,c,rfl⟩:=h.cU f
  obtain⟨b,d,rfl⟩:=h.cU e
  exact k a b c d
theorem Mv.tb (m:Mv n o v v')(c:a<n) (d:b<n):tb n v' (pm o a) (pm o b)=tb n v a b:=Ad8.mpr (m.2.2 a b c d)
def J7 {p q:Nat->Nat->Bool}(h: ∀a b,a<n->b<n->p a b=q a b):((Aa0 n).all λa=>(Aa0 n).all λb=>p a b)=(Aa0 n).all λa=>(Aa0 n).all λb=>q a b:=by
 rw [Ad8,Xr,Xr]
 exact⟨λk a b c d=>(h a b c d)▸k a b c d,λk a b c d=>(h a b c d).symm▸k a b c d⟩
def DR (h:Od n o)(m:Mv n o v v') (k:Mv n o u u'):v9 (v'-(v' &&& u')=0)=v9 (v-(v &&& u)=0):=by
 rw [J8 m.2.1,J8 m.1,vr h]
 exact J7 λa b c d=>by rw [m.tb c d,k.tb c d]
def ri (h:Od n o)(m:Mv n o v v') (k:Mv n o u u'):v9 (v'=u')=v9 (v=u):=by
 rw [j4 m.2.1 k.2.1,j4 m.1 k.1,vr h]
 exact J7 λa b c d=>by rw [m.tb c d,k.tb c d]
def vC (h:Od n o)(m:Mv n o v v'):v9 (v'=0)=v9 (v=0):=by
 have z:Mv n o 0 0:=⟨Aj2 _,Aj2 _,λa b _ _=>by simp⟩
 exact ri h m z
def Od.lj (h:Od n o)(f:Nat->α):o.map f=(Aa0 n).map λb=>f (pm o b):=by
 have:=congrArg (An6 f) h.map
 rw [Ac6]at this
 exact this
def Ie (h:Od n o)(m:Mv n o v v')(c:a<n):wU n (tb n v') (pm o a)=wU n (tb n v) a:=by
 rw [wU,wU]
 have p:((Aa0 n).map λb=>(tb n v' (pm o a) b).toNat).Perm _:=(h.p.map _).symm
 rw [p.sum_nat,h.lj]
 congr 1
 refine Ae λb d=> ?_
 rw [m.tb c (Ab3.mp d)]
def IH (h:Od n o)(m:Mv n o v v'):(rows n v').Perm (rows n v):=by
 rw [rows,rows]
 have p:((Aa0 n).map (wU n (tb n v'))).Perm _:=(h.p.map _).symm
 refine p.trans ?_
 have e:o.map (wU n (tb n v'))=(Aa0 n).map (wU n (tb n v)):=by
  rw [h.lj]
  exact Ae λa b=>Ie h m (Ab3.mp b)
 rw [e]
def B6 (h:Od n o)(m:Mv n o v v') (s) (j):gC s j (fF n v' s)=gC s j (fF n v s):=by
 have p:=IH h m
 rw [fF,fF]
 split
 ·rw [p.sum_nat]
 ·rw [gC,gC]
  split
  ·exact p.all_eq
  ·exact p.all_eq
def X4 (ok:w.Ok) (h) (e) (wf:e.wf (w.K++w.T)): ∃v,Is w e v/\ ∀m,e.dp+6<=m->call prog m "value" [.v w.words,.v w.aB,.v (aN e)] h= .ok (.v (.int (v:Int))) h:=by
 obtain⟨v,c,_⟩:=qO ok h e _ (Aa6 _) wf
 refine⟨v,c,λm j=> ?_⟩
 obtain⟨u,d,i⟩:=qO ok h e m j wf
 rw [i,qV d.1 c.1 λa b f g=>by rw [d.2 a b f g,c.2 a b f g]]
def Cy {w:Wo}(ok:w.Ok)(l:Od w.n o) (h) (f) (wf:f.wf (w.K++w.T)): ∃b,∀m,f.dp+6<=m->call prog (m+2) "keeps" [.v w.words,.v w.aB,.v (eh f)] h= .ok (.v (.bl b)) h/\call prog (m+2) "keeps" [.v (w.mv o).words,.v (w.mv o).aB,.v (eh f)] h= .ok (.v (.bl b)) h:=by
 have z:=ok.wl.n4
 have q:=ok.mv l
 have both: ∀e:Ex,e.wf (w.K++w.T)-> ∃v g,Mv w.n o v g/\(∀ m,e.dp+6<=m->call prog m "value" [.v w.words,.v w.aB,.v (aN e)] h= .ok (.v (.int (v:Int))) h)/\(∀ m,e.dp+6<=m->call prog m "value" [.v (w.mv o).words,.v (w.mv o).aB,.v (aN e)] h= .ok (.v (.int (g:Int))) h):=by
  intro e r
  obtain⟨v,B,c⟩:=X4 ok h e r
  obtain⟨g,t,n⟩:=X4 q h e r
  exact⟨v,g,F7 ok l h e r B t,c,n⟩
 cases f with
 | ic x y=>
  obtain⟨v,g,mv,c,a⟩:=both x wf.1
  obtain⟨u,A,p,n,i⟩:=both y wf.2
  refine⟨v9 (v-(v &&& u)=0),λm d=> ?_⟩
  simp only [Fc.dp]at d
  refine⟨yc (c _ (by omega)) (n _ (by omega)),?_⟩
  rw [← DR l mv p]
  exact yc (a _ (by omega)) (i _ (by omega))
 | hV x y=>
  obtain⟨v,g,mv,c,a⟩:=both x wf.1
  obtain⟨u,A,p,n,i⟩:=both y wf.2
  refine⟨v9 (v=u),λm d=> ?_⟩
  simp only [Fc.dp]at d
  refine⟨vq (c _ (by omega)) (n _ (by omega)),?_⟩
  rw [← ri l mv p]
  exact vq (a _ (by omega)) (i _ (by omega))
 | hZ x=>
  obtain⟨v,g,mv,c,a⟩:=both x wf
  refine⟨!v9 (v=0),λm d=> ?_⟩
  simp only [Fc.dp]at d
  refine⟨rM (c _ (by omega)),?_⟩
  rw [← vC l mv]
  exact rM (a _ (by omega))
 | av x=>
  obtain⟨v,g,mv,c,a⟩:=both x wf
  refine⟨v9 (v=0),λm d=> ?_⟩
  simp only [Fc.dp]at d
  refine⟨vc (c _ (by omega)),?_⟩
  rw [← vC l mv]
  exact vc (a _ (by omega))
 | cnt s j x=>
  obtain⟨v,g,mv,c,a⟩:=both x wf.2
  refine⟨gC s j (fF w.n v s),λm d=> ?_⟩
  simp only [Fc.dp]at d
  obtain⟨k,rfl⟩: ∃k,m=k+2:=⟨m-2,by omega⟩
  refine⟨uo z wf.1 (c _ (by omega)),?_⟩
  rw [← B6 l mv]
  exact uo (w:=w.mv o) z wf.1 (a _ (by omega))
def yK {w:Wo}(ok:w.Ok){o:List Nat}(u:Od w.n o) (h:AH): ∀(s:Sy),s.wf (w.K++w.T)-> ∃b,∀m,s.dp+6<=m->call prog (m+2) "keeps" [.v w.words,.v w.aB,.v (aK s)] h= .ok (.v (.bl b)) h/\call prog (m+2) "keeps" [.v (w.mv o).words,.v (w.mv o).aB,.v (aK s)] h= .ok (.v (.bl b)) h:=by
 intro s
 induction s with
 | fact f=>intro wf;exact Cy ok u h f wf
 | neg a t=>
  intro wf
  obtain⟨b,e⟩:=t wf
  refine⟨!b,λm n=> ?_⟩
  simp [Sy.dp]at n
  obtain⟨k,rfl⟩: ∃k,m=k+1:=⟨m-1,by lia⟩
  have⟨l,p⟩:=e k (by lia)
  exact⟨tO l,tO p⟩
 | dq a c g i=>
  intro wf
  obtain⟨b,e⟩:=g wf.1
  obtain⟨q,r⟩:=i wf.2
  refine⟨b&&q,λm n=> ?_⟩
  simp [Sy.dp]at n
  obtain⟨k,rfl⟩: ∃k,m=k+1:=⟨m-1,by lia⟩
  have⟨l,p⟩:=e k (by lia)
  have⟨j,d⟩:=r k (by lia)
  exact⟨tF l j,tF p d⟩
 | eB a c g i=>
  intro wf
  obtain⟨b,e⟩:=g wf.1
  obtain⟨q,r⟩:=i wf.2
  refine⟨b||q,λm n=> ?_⟩
  simp [Sy.dp]at n
  obtain⟨k,rfl⟩: ∃k,m=k+1:=⟨m-1,by lia⟩
  have⟨l,p⟩:=e k (by lia)
  have⟨j,d⟩:=r k (by lia)
  exact⟨rC l j,rC p d⟩
def wz (n:Nat) (rows:List (List Nat)):List (List Nat):=rows.flatMap λr=>((Aa0 n).filter λx=> !v9 (x∈r)).map λx=>r++ [x]
def xm (n:Nat):Nat->List (List Nat)
 | 0=> [[]]
 | j+1=>wz n (xm n j)
abbrev bV (rows:List (List Nat)):List D:=rows.map λr=> .tup (ag r)
def Xc (r:List Nat):List Int:=r.map λ(x:Nat)=>(x:Int)
def pT (n:Nat):Bool:=v9 ((xm n n).length= [1,1,2,6,24].getD n 0)&&((xm n n).all λr=>v9 (nA (Xc r)=Xc (Aa0 n))&&v9 (r.length=n))&&((Aa0 ((xm n n).length-1)).all λk=>KU (Xc ((xm n n).getD k [])) (Xc ((xm n n).getD (k+1) [])))&&((Aa0 (n+1)).all λj=>v9 ((xm n j).length<=24)&&(xm n j).all λr=>v9 (r.length<=4))
def Li: ∀n,n<5->pT n=true:=by decide +kernel
structure IV (n:Nat):Prop where
 len:(xm n n).length= [1,1,2,6,24].getD n 0
 Mj: ∀r∈xm n n,nA (Xc r)=Xc (Aa0 n)
 ln: ∀r∈xm n n,r.length=n
 lex: ∀k,k+1<(xm n n).length->KU (Xc ((xm n n).getD k [])) (Xc ((xm n n).getD (k+1) []))=k9
 nt: ∀j,j<=n->(xm n j).length<=24
 sR: ∀j,j<=n-> ∀r∈xm n j,r.length<=4
def mC (n) (i:n<=4):IV n:=by
 have h:=Li n (by lia)
 unfold pT at h
 simp only [Aa7,decide_eq_true_eq,Ae1]at h
 obtain⟨⟨⟨f,b⟩,e⟩,c⟩:=h
 exact⟨f,λr a=>(b r a).1,λr a=>(b r a).2,λk g=>e k (Ab3.mpr (by lia)),λj d=>(c j (Ab3.mpr (by lia))).1,λj d r a=>(c j (Ab3.mpr (by lia))).2 r a⟩
def rm (k) (d) (h) (a:Gc d=k9):call prog (k+3) "is_size" [.v d] h= .ok (.v (.bl (zf d 5))) h:=by
 rw [Ga rfl _ _ _ rfl]
 have e:=Jl k d 5 h a
 have b:prog.con.lookup "GREATEST_SIZE" =some _:=rfl
 have c:(4:Int)+1=5:=rfl
 simp only [Ku]
 simp_all [b,Jc,c,e]
def JW (k) (d) (h) (b:Gc d=k9) (c:zf d 5=k9):call prog (k+4) "check_size" [.v d] h= .ok (.v .av) h:=by
 rw [Ga rfl _ _ _ rfl]
 have a:=rm k d h b
 rw [c]at a
 simp only [GE]
 rw [Za (by simp_all [a])]
 simp_all []
def w9 (k) (d) (h) (b:Gc d=k9) (c:zf d 5=y9):call prog (k+4) "check_size" [.v d] h= .exc (.exc "NoSize" []) h:=by
 rw [Ga rfl _ _ _ rfl]
 have a:=rm k d h b
 rw [c]at a
 simp only [GE]
 rw [execs,qr (h1:=h) (by simp_all [a]),Xa]
 simp_all []
theorem tL (b:Nat): ∀l:List Nat,inD (.int (b:Int)) (ag l)=v9 (b∈l)
 | []=>rfl
 | x::l=>by
  have:=tL b l
  simp only [inD,Aa9,Af2,cj,Ab2]at this ⊢
  rw [this,Ad8]
  simp only [Am6,beq_iff_eq,decide_eq_true_eq]
  constructor
  ·rintro (h | h)
   ·exact .inl (by omega)
   ·exact .inr h
  ·rintro (h | h)
   ·exact .inl (by omega)
   ·exact .inr h
def DF (l):(ag l).all KR=true:=by
 rw [Am5,Ae1];exact λ_ _=>rfl
def vo (b:Nat) (l) (h):Gy .dM (.v (.int (b:Int))) (.v (.tup (ag l))) h=y0 (!v9 (b∈l)):=by
 show(Pe _ _ h).map _=_
 have:Pe (.v (.int b)) (.v (.tup (ag l))) h=y0 (v9 (b∈l)):=by
  show(if KR _&&(ag l).all KR then y0 (inD _ _)else Pv _ _ h)=_
  rw [DF,tL];rfl
 rw [this];rfl
def QB (F) (a) (Y) (h):Gr F (.aw a) Y h=Gk F (.aw a) Y h:=rfl
theorem pI {n:Nat}(g:n<=4) (h): ∀ rows a x,(∀ r∈rows,r.length<=4)->a.length+rows.length*4<=1000-> ∃c,
 Gq (Gp [3] k9) (λY h=>execs F Jg Y h) (bV rows) [y0 w,y0 (.v (.int (n:Int))),y0 (.own (bV a)),x] h= .next [y0 w,y0 (.v (.int (n:Int))),y0 (.own (bV (a++wz n rows))),c] h
 | [],a,x,_,_=>⟨x,by simp [wz]⟩
 | r::rows,a,x,f,k=>by
  have p:((Aa0 n).filter λx=> !v9 (x∈r)).length<=4:=Ac (Ad9 _ _) (by simp;exact g)
  rw [Ab7]at k
  obtain⟨c,e⟩:=pI g h rows (a++((Aa0 n).filter λx=> !v9 (x∈r)).map λx=>r++ [x]) (y0 (.v (.tup (ag r)))) (λq j=>f q (Aa1 _ j)) (by rw [Ab0,Aa];omega)
  refine⟨c,?_⟩
  have d:eval F Qg [y0 w,y0 (.v (.int n)),y0 (.own (bV a)),y0 (.v (.tup (ag r)))] h= .ok (.own (((Aa0 n).filter λx=> !v9 (x∈r)).map λx=> .tup (ag (r++ [x])))) h:=by
   rw [Qg]
   refine XM _ _ rfl (by omega) λi s=>⟨?_,.v (.tup (ag (r++ [i]))),?_,rfl⟩
   ·have:=vo i r h
    simp_all [this]
   ·have b:(ag r).length+ [D.int i].length<=aZ:=by
     have:=f r Aa3
     rw [Gi,Aa,Ag];omega
    have o:ag (r++ [i])=ag r++ [.int i]:=by simp
    rw [o]
    simp_all [XA,b,if_true]
  have eq:(((Aa0 n).filter λx=> !v9 (x∈r)).map λx=>D.tup (ag (r++ [x])))=bV (((Aa0 n).filter λx=> !v9 (x∈r)).map λx=>r++ [x]):=by rw [bV,Ac6];rfl
  rw [eq]at d
  have b:(bV a).length+(bV (((Aa0 n).filter λx=> !v9 (x∈r)).map λx=>r++ [x])).length<aZ:=by
   rw [Gi,Aa,Aa,Aa];omega
  have m:bV (a++((Aa0 n).filter λx=> !v9 (x∈r)).map λx=>r++ [x])=bV a++bV (((Aa0 n).filter λx=> !v9 (x∈r)).map λx=>r++ [x]):=Ac8 ..
  have l:wz n (r::rows)=(((Aa0 n).filter λx=> !v9 (x∈r)).map λx=>r++ [x])++wz n rows:=rfl
  rw [show bV (r::rows)= .tup (ag r)::bV rows from rfl,qa rfl ?_,e,l,Ae9]
  rw [m]
  simp_all [Jg,d,b,if_true]
def FH (k n:Nat) (rows) (h) (a:n<=4) (h1: ∀r∈rows,r.length<=4) (h2:rows.length<=24):call prog (k+1) "longer_by_one" [.bor (bV rows),.v (.int (n:Int))] h= .ok (.own (bV (wz n rows))) h:=by
 obtain⟨b,e⟩:=pI a h rows [] u0 h1 (by simp;lia)
 refine fx (by simp_all [];rfl) ?_
 rw [za (by
  exact e)]
 simp_all []
theorem pY (hn:n<=4) (h): ∀(m j:Nat) x,j+m=n-> ∃x',
 Gq (Gp [2] k9) (λY h=>execs (u9 (k+1)) Xm Y h) ((Aa0 m).map λi=>D.int ((j+i:Nat):Int)) [y0 (.v (.int (n:Int))),y0 (.own (bV (xm n j))),x] h= .next [y0 (.v (.int (n:Int))),y0 (.own (bV (xm n n))),x'] h
 | 0,j,x,e=>⟨x,by obtain rfl:j=n:=by omega
                  rfl⟩
 | m+1,j,x,e=>by
  have Rn:=mC n hn
  have ec:=FH k n (xm n j) h hn (Rn.sR j (by omega)) (Rn.nt j (by omega))
  obtain⟨x',q⟩:=pY hn h m (j+1) (y0 (.v (.int j))) (by omega)
  refine⟨x',?_⟩
  rw [Zk,qa rfl ?_,q]
  simp_all [Xm,ec]
  rfl
def ZX (k n:Nat) (h) (b:n<=4):call prog (k+5) "renamings" [.v (.int (n:Int))] h= .ok (.own (bV (xm n n))) h:=by
 rw [Ga rfl _ _ _ rfl]
 have a:=JW k (.int n) h rfl (by simp [zf];lia)
 obtain⟨c,e⟩:=pY b h n 0 u0 (by lia)
 refine fx (by simp_all [a];rfl) ?_
 refine fx (by simp_all [];rfl) ?_
 rw [za (by
  rw [exec,QB,wd rfl (by lia),R.az]
  simp [Ag2]at e
  exact e)]
 simp_all []
def cd:List (Nat×Nat)->Nat
 | []=>0
 | q::r=>q.2+2 ^ q.1*cd r
def fZ (a:List (Nat×Nat)):Prop:= ∀q∈a,q.2<2 ^ q.1/\q.1<=16
def wS (a:List (Nat×Nat)):Nat:=(a.map (·.1)).sum
theorem nZ: ∀ {ps},fZ ps->cd ps<2 ^ wS ps
 | [],_=>by simp [cd,wS]
 | q::r,h=>by
  have c:=(h q Aa3).1
  have a:=nZ λx b=>h x (Aa1 _ b)
  show q.2+2 ^ q.1*cd r<2 ^ (q.1+wS r)
  rw [Al]
  have:2 ^ q.1*(cd r+1)<=2 ^ q.1*2 ^ wS r:=Ad7 (Aa6 _) a
  rw [An4,Nat.mul_one]at this
  omega
def lF:Nat->Nat->List (Nat×Nat)->Nat
 | t,_,[]=>t
 | t,pl,q::r=>lF (t ||| q.2*2 ^ pl) (pl+q.1) r
def Cn (h:t<2 ^ pl):t ||| p*2 ^ pl=t+p*2 ^ pl:=by
 have:=Nat.two_pow_add_eq_or_of_lt h p
 rw [Ai2]at this
 rw [Nat.or_comm,←this,Am7]
theorem rj: ∀(ps) (t pl),fZ ps->t<2 ^ pl->lF t pl ps=t+2 ^ pl*cd ps
 | [],t,pl,_,_=>by simp [lF,cd]
 | q::r,t,pl,h,b=>by
  have d:=(h q Aa3).1
  have a:t+q.2*2 ^ pl<2 ^ (pl+q.1):=by
   rw [Al]
   have:2 ^ pl*(q.2+1)<=2 ^ pl*2 ^ q.1:=Ad7 (Aa6 _) d
   rw [An4,Nat.mul_one,Ai2 (2 ^ pl) q.2]at this
   omega
  rw [lF,Cn b,rj r _ _ (λx c=>h x (Aa1 _ c)) a,cd,Al,An4,Nat.mul_assoc,Ai2 q.2]
  omega
def dg:List Nat->Nat->List Nat
 | [],_=> []
 | w::a,c=>c % 2 ^ w::dg a (c / 2 ^ w)
theorem mU: ∀(ws ps),ws.length=ps.length->fZ (ws.zip ps)->dg ws (cd (ws.zip ps))=ps
 | [],[],_,_=>rfl
 | w::ws,p::ps,c,h=>by
  have a:=(h (w,p) Aa3).1
  have d:(p+2 ^ w*cd (ws.zip ps)) % 2 ^ w=p:=by rw [Nat.add_mul_mod_self_left,Am4 a]
  have e:(p+2 ^ w*cd (ws.zip ps)) / 2 ^ w=cd (ws.zip ps):=by
   rw [Nat.add_mul_div_left _ _ (Ah6 (by decide)),Nat.div_eq_of_lt a,Ag2]
  show(p+2 ^ w*cd (ws.zip ps)) % 2 ^ w::dg ws ((p+2 ^ w*cd (ws.zip ps)) / 2 ^ w)=p::ps
  rw [d,e,mU ws ps (by simpa using c) λx b=>h x (Aa1 _ b)]
def sS {ws a b:List Nat}(h1:ws.length=a.length) (h2:ws.length=b.length) (k1:fZ (ws.zip a)) (k2:fZ (ws.zip b)) (e:cd (ws.zip a)=cd (ws.zip b)):a=b:=by
 rw [← mU ws a h1 k1,e,mU ws b h2 k2]
theorem XZ (x y): ∀ a b,a.length=b.length->KU (a++ [x]) (b++ [y])=if a=b then v9 (x<y)else KU a b
 | [],[],_=>by
  show(if x=y then y9 else v9 (x<y))=_
  rw [if_pos rfl]
  by_cases q:x=y
  ·rw [if_pos q,q];simp
  ·rw [if_neg q]
 | c::a,d::b,h=>by
  have f:=XZ x y a b (by simpa using h)
  show(if c=d then KU (a++ [x]) (b++ [y])else v9 (c<d))=_
  rw [f]
  by_cases q:c=d
  ·subst q
   by_cases e:a=b
   ·rw [if_pos rfl,if_pos e,if_pos (by rw [e])]
   ·rw [if_pos rfl,if_neg e,if_neg (λz=>e (List.cons.inj z).2)]
    show _=(if c=c then KU a b else _)
    rw [if_pos rfl]
  ·rw [if_neg q,if_neg (λz=>q (List.cons.inj z).1)]
   show _=(if c=d then KU a b else _)
   rw [if_neg q]
def gL :Xc a=Xc b↔a=b:=by
 constructor
 ·intro h
  refine List.map_inj_right (λx y e=>by have e:=e;lia) |>.mp h
 ·rintro rfl;rfl
theorem ro: ∀(ws c b:List Nat),ws.length=c.length->ws.length=b.length->fZ (ws.zip c)->fZ (ws.zip b)->KU (Xc c.reverse) (Xc b.reverse)=v9 (cd (ws.zip c)<cd (ws.zip b))
 | [],[],[],_,_,_,_=>by simp [Xc,KU,cd]
 | w::ws,p::c,q::b,m,o,i,g=>by
  have s:p<2 ^ w:=(i (w,p) Aa3).1
  have r:q<2 ^ w:=(g (w,q) Aa3).1
  have h:=by simpa using m
  have l2:=by simpa using o
  have j:=λx d=>i x (Aa1 _ d)
  have f:=λx d=>g x (Aa1 _ d)
  have n:=ro ws c b h l2 j f
  have k:Xc (p::c).reverse=Xc c.reverse++ [(p:Int)]:=by simp [Xc]
  have l:Xc (q::b).reverse=Xc b.reverse++ [(q:Int)]:=by simp [Xc]
  rw [k,l,XZ _ _ _ _ (by simp [Xc];omega),n]
  show _=v9 (p+2 ^ w*cd (ws.zip c)<q+2 ^ w*cd (ws.zip b))
  by_cases e:Xc c.reverse=Xc b.reverse
  ·rw [if_pos e]
   have:c=b:=List.reverse_inj.mp (gL.mp e)
   rw [this]
   exact decide_eq_decide.mpr (by omega)
  ·rw [if_neg e]
   have ne:=λz=>e (by rw [sS h l2 j f z])
   refine decide_eq_decide.mpr ⟨λz=> ?_,λz=> ?_⟩
   ·have:2 ^ w*(cd (ws.zip c)+1)<=2 ^ w*cd (ws.zip b):=Ad7 (Aa6 _) z
    rw [An4,Nat.mul_one]at this
    omega
   ·rcases Nat.lt_or_gt_of_ne ne with a | a
    ·exact a
    ·have:2 ^ w*(cd (ws.zip b)+1)<=2 ^ w*cd (ws.zip c):=Ad7 (Aa6 _) a
     rw [An4,Nat.mul_one]at this
     omega
def bC (n K T:Nat):List Nat:=Aa8 K n++Aa8 T (n*n)
def Cw (n:Nat) (ks ts:List Nat):Nat:=cd ((bC n ks.length ts.length).zip (ks++ts))
structure Wl (n:Nat) (ks ts:List Nat):Prop where
 n4:n<=4
 k4:ks.length<=4
 t4:ts.length<=4
 bk: ∀x∈ks,x<2 ^ n
 bt: ∀x∈ts,x<2 ^ (n*n)
def Zq (n K T):(bC n K T).length=K+T:=by simp [bC]
def uQ (n) (ks ts:List Nat):(bC n ks.length ts.length).zip (ks++ts)=ks.map (λx=>(n,x))++ts.map (λx=>(n*n,x)):=by
 have h: ∀(w:Nat) (l:List Nat),(Aa8 l.length w).zip l=l.map λx=>(w,x):=λw l=>by
  induction l with
  | nil=>rfl
  | cons x l a=>simp [Ac7,a]
 rw [bC,List.zip_append (by simp),h,h]
def Wl.ok (g:Wl n ks ts):fZ ((bC n ks.length ts.length).zip (ks++ts)):=by
 rw [uQ]
 have hn:=g.n4
 have c:=Ad7 hn hn
 intro q a
 obtain a | a:=Af0.mp a
 ·obtain⟨x,b,rfl⟩:=Ac1.mp a
  exact⟨g.bk x b,by lia⟩
 ·obtain⟨x,b,rfl⟩:=Ac1.mp a
  exact⟨g.bt x b,c⟩
def Wl.mv (g:Wl n ks ts) (q:Od n o):Wl n (ks.map (kM n o)) (ts.map (tK n o)):=
 ⟨g.n4,by rw [Aa];exact g.k4,by rw [Aa];exact g.t4,λx a=>by
   obtain⟨y,_,rfl⟩:=Ac1.mp a
   exact nc q y,λx a=>by
   obtain⟨y,_,rfl⟩:=Ac1.mp a
   exact mJ q y⟩
def ya (g:Wl n ks ts) (c:Wl n ks' ts') (h1:ks.length=ks'.length) (h2:ts.length=ts'.length) (e:Cw n ks ts=Cw n ks' ts'):ks=ks'/\ts=ts':=by
 unfold Cw at e
 have b:=g.ok
 have a:=c.ok
 rw [← h1,←h2]at e a
 have:=sS (by rw [Zq];simp) (by rw [Zq];simp;lia) b a e
 exact List.append_inj this h1
theorem pL (n): ∀ j l,l.length=j->l.Nodup->(∀ x∈l,x<n)->l∈xm n j
 | 0,l,a,_,_=>by
  rw [Ah9 a];simp [xm]
 | j+1,l,a,hn,c=>by
  rcases List.eq_nil_or_concat l with rfl | ⟨r,x,rfl⟩
  ·simp at a
  ·rw [List.concat_eq_append]at*
   have b:=List.nodup_append.mp hn
   have e:=pL n j r (by simpa using a) b.1 λy d=>c y (Ac9 _ d)
   show r++ [x]∈wz n (xm n j)
   unfold wz
   rw [List.mem_flatMap]
   refine⟨r,e,Ac1.mpr ⟨x,Ae3.mpr ⟨Ab3.mpr (c x (by simp)),?_⟩,rfl⟩⟩
   have:x∉r:=λz=>b.2.2 x z x (by simp) rfl
   simpa using this
def A9: ∀n,n<5->((xm n n).all λr=>r.isPerm (Aa0 n))=true:=by decide +kernel
def Wg (b:n<=4) (r):r∈xm n n↔Od n r:=by
 constructor
 ·intro h
  exact⟨List.isPerm_iff.mp (Ae1.mp (A9 n (by lia)) r h)⟩
 ·intro q
  exact pL n n r q.len (q.p.nodup_iff.mpr Ak) λx a=>q.mem a
structure Ls (n:Nat) (ks ts ks' ts':List Nat):Prop where
 o: ∃r,Od n r/\ks'=ks.map (kM n r)/\ts'=ts.map (tK n r)
 le: ∀r,Od n r->Cw n ks' ts'<=Cw n (ks.map (kM n r)) (ts.map (tK n r))
def Ls.wl (h:Ls n ks ts ks' ts') (g:Wl n ks ts):Wl n ks' ts':=by
 obtain⟨r,q,rfl,rfl⟩:=h.o
 exact g.mv q
def Ls.uniq (g:Wl n ks ts) (h:Ls n ks ts a b) (h':Ls n ks ts a' b'):a=a'/\b=b':=by
 obtain⟨r,q,e,i⟩:=h.o
 obtain⟨k,j,d,c⟩:=h'.o
 have f:=h.le k j
 have l2:=h'.le r q
 rw [← d,←c]at f
 rw [← e,←i]at l2
 refine ya (h.wl g) (h'.wl g) ?_ ?_ (Nat.le_antisymm f l2)
 ·rw [e,d,Aa,Aa]
 ·rw [i,c,Aa,Aa]
def mX {ks ts r o:List Nat}(q:Od n r) (p:Od n o):(ks.map (kM n o)).map (kM n r)=ks.map (kM n (o.map (pm r)))/\(ts.map (tK n o)).map (tK n r)=ts.map (tK n (o.map (pm r))):=
 ⟨by rw [Ac6];exact Ae λx _=>yx q p x,by rw [Ac6];exact Ae λx _=>D2 q p x⟩
def Od.rev (q:Od n o): ∃p,Od n p/\ ∀a,a<n->pm p (pm o a)=a:=by
 have i: ∀b,∃a,b<n->a<n/\pm o a=b:=λb=>by
  by_cases c:b<n
  ·obtain⟨a,h⟩:=q.cU c
   exact⟨a,λ_=>h⟩
  ·exact⟨0,λz=>absurd z c⟩
 let f:=λb=>Ah2 (i b)
 have e:=λb c=>Af8 (i b) c
 have g:((Aa0 n).map f).length=n:=by simp
 have c: ∀a,a<n->pm _ _=a:=λa j=>by
  have d:=q.lt j
  rw [wt (by rw [g];exact d),Ai9,Aj1]
  exact(q.inj (e _ d).1 j).mp (e _ d).2
 exact⟨_,Od.inv q g c,c⟩
def qK (g:Wl n ks ts) (q:Od n o) (r:Od n p) (h: ∀a,a<n->pm p (pm o a)=a):(ks.map (kM n o)).map (kM n p)=ks/\(ts.map (tK n o)).map (tK n p)=ts:=by
 constructor
 ·rw [Ac6]
  exact(Ae λx b=>Ij q r h (g.bk x b)).trans (List.map_id _)
 ·rw [Ac6]
  exact(Ae λx b=>Eh q r h (g.bt x b)).trans (List.map_id _)
def Ls.mv {ks ts a b o:List Nat}(g:Wl n ks ts) (q:Od n o) (h:Ls n ks ts a b):Ls n (ks.map (kM n o)) (ts.map (tK n o)) a b:=by
 obtain⟨p,c,k⟩:=q.rev
 obtain⟨r,d,rfl,rfl⟩:=h.o
 obtain⟨i,j⟩:=qK g q c k
 refine⟨⟨p.map _,Od.then d c,?_,?_⟩,λs e=> ?_⟩
 ·rw [← (mX (ts:= []) d c).1,i]
 ·rw [← (mX (ks:= []) d c).2,j]
 ·obtain⟨f,l⟩:=mX e q
  rw [f,l]
  exact h.le _ (Od.then e q)
def Ls.self (g:Wl n ks ts) (h:Ls n ks ts a b):Ls n a b a b:=by
 obtain⟨r,q,rfl,rfl⟩:=h.o
 exact h.mv g q
abbrev fq (A B:List D):D:= .tup [.tup A,.tup B]
def Hu (x:D) (m):(Aa8 m [x]).flatten=Aa8 m x:=by
 induction m with
 | zero=>rfl
 | succ m a=>rw [Ac7,Aj5,a];rfl
def vf (x) (m:Nat) (a:m<=1000) (h):KZ .mul (.own [x]) (.v (.int (m:Int))) h= .ok (.own (Aa8 m x)) h:=by
 show Pw [x] m h=_
 have c: -1000<=(m:Int)/\(m:Int)<=1000/\ [x].length*(m:Int).toNat<=aZ:=by rw [Gi,Ag4];simp;lia
 rw [Pw,if_pos c,Ag4,Hu]
def FL (n K T):ag (bC n K T)=Aa8 K (.int (n:Int))++Aa8 T (.int ((n*n:Nat):Int)):=by simp [bC]
def wK (k n:Nat) (A B) (h) (f:n<=4) (g:A.length<=4) (e:B.length<=4):call prog (k+1) "widths" [.v (fq A B),.v (.int (n:Int))] h= .ok (.own (ag (bC n A.length B.length))) h:=by
 rw [Ga rfl _ _ _ rfl]
 have c:=Zc n n (by lia)
 have b:=vf (.int n) A.length (by lia) h
 have d:=vf (.int (n*n:Nat)) B.length (by lia) h
 have a:(Aa8 A.length (D.int n)).length+(Aa8 B.length (D.int (n*n:Nat))).length<=aZ:=by rw [Gi];simp;lia
 rw [FL]
 simp only [KC]
 simp_all [ah,XF,xz,Wh,b,c,d,oU,a,if_true]
theorem ZY (x): ∀m,(Aa8 m x).sum=m*x
 | 0=>by simp
 | m+1=>by rw [Ac7,Ai3,ZY x m,Ao3,Am7]
def uz (n K T):(bC n K T).sum=K*n+T*(n*n):=by rw [bC,List.sum_append,ZY,ZY]
def pB (k n:Nat) (A B) (h) (c:n<=4) (d:A.length<=4) (b:B.length<=4):call prog (k+2) "bits" [.v (fq A B),.v (.int (n:Int))] h= .ok (.v (.int (((bC n A.length B.length).sum:Nat):Int))) h:=by
 rw [Ga rfl _ _ _ rfl]
 have e:=wK k n A B h c d b
 have a:(ag (bC n A.length B.length)).length<=aZ:=by rw [Gi,Aa,Zq];lia
 simp only [K1]
 simp_all [e,zV,a,if_true,xK]
abbrev kr (a:List (Nat×Nat)):List D:=a.map λq=> .tup [.int (q.1:Nat),.int (q.2:Nat)]
theorem uA (h): ∀ b (t pl:Nat) f c,fZ b->pl+b.length*16<=1000-> ∃a i g,
 Gq (Gp [4,5] y9) (λY h=>execs F zN Y h) (kr b) [x0,x1,y0 (.v (.int (t:Int))),y0 (.v (.int (pl:Int))),f,c] h= .next [x0,x1,y0 (.v (.int ((lF t pl b:Nat):Int))),a,i,g] h
 | [],t,pl,f,c,_,_=>⟨_,f,c,rfl⟩
 | q::r,t,pl,f,c,ok,j=>by
  obtain⟨l,p⟩:=ok q Aa3
  rw [Ab7]at j
  obtain⟨a,i,g,e⟩:=uA h r (t ||| q.2*2 ^ pl) (pl+q.1) (y0 (.v (.int q.1))) (y0 (.v (.int q.2))) (λx m=>ok x (Aa1 _ m)) (by omega)
  refine⟨a,i,g,?_⟩
  have n:q.2<2 ^ 64:=Ab l (Ad (by decide) (by omega))
  have k:=vj q.2 pl n (by omega)
  have d:=WE t (q.2*2 ^ pl)
  have o: pl+ (q.1:Nat)=((pl+q.1:Nat):Int):=rfl
  rw [show kr (q::r)= .tup [.int q.1,.int q.2]::kr r from rfl,qa rfl ?_,e]
  ·rfl
  ·simp_all [zN,k,qC,d,Jc,o]
def Bj (ws ps):((ag ws).zip (ag ps)).map (λp=>D.tup [p.1,p.2])=kr (ws.zip ps):=by
 rw [ag,ag,List.zip_map,Ac6,kr]
 rfl
def BM (k n) (A B) (ks ts) (h) (g:Wl n ks ts) (c:A.length=ks.length) (a:B.length=ts.length):call prog (k+2) "code" [.v (fq A B),.v (wc n ks ts)] h= .ok (.v (.int ((Cw n ks ts:Nat):Int))) h:=by
 rw [Ga rfl _ _ _ rfl]
 have s:=g.k4
 have t:=g.t4
 have l:=wK k n A B h g.n4 (by omega) (by omega)
 have i:(ag ks).length+(ag ts).length<=aZ:=by rw [Gi,Aa,Aa];omega
 have p:KZ .add (.v (.tup (ag ks))) (.v (.tup (ag ts))) h= .ok (.v (.tup (ag (ks++ts)))) h:=by rw [XA,if_pos i,←Ac8]
 obtain⟨o,r,q,e⟩:=uA h _ 0 0 u0 u0 g.ok (by
  rw [Ak4,Zq]
  have:min (ks.length+ts.length) (ks++ts).length<=8:=by simp;omega
  omega)
 rw [rj _ _ _ g.ok (by decide)]at e
 have j:0+2 ^ 0*cd ((bC n ks.length ts.length).zip (ks++ts))=Cw n ks ts:=by unfold Cw;omega
 rw [j]at e
 simp only [K8]
 refine fx (by simp_all [];rfl) ?_
 refine fx (by simp_all [];rfl) ?_
 have m:Gr (u9 (k+1)) (.zip (.call "widths" (.cons (.var 0) (.cons (.ix (.var 1) (.int 0)) .nil))) (.bin .add (.ix (.var 1) (.int 1)) (.ix (.var 1) (.int 2)))) [some (.v (fq A B)),some (.v (wc n ks ts)),some (.v (.int 0)),some (.v (.int 0)),none,none] h= .ok (kr ((bC n ks.length ts.length).zip (ks++ts))) h:=by
  have b:eval (u9 (k+1)) (.call "widths" (.cons (.var 0) (.cons (.ix (.var 1) (.int 0)) .nil))) [some (.v (fq A B)),some (.v (wc n ks ts)),some (.v (.int 0)),some (.v (.int 0)),none,none] h= .ok (.own (ag (bC n ks.length ts.length))) h:=by
   rw [← c,←a]
   simp_all [ah,Xs,l]
  have a2:eval (u9 (k+1)) (.bin .add (.ix (.var 1) (.int 1)) (.ix (.var 1) (.int 2))) [y0 (.v (fq A B)),y0 (.v (wc n ks ts)),y0 (.v (.int 0)),y0 (.v (.int 0)),u0,u0] h= .ok (.v (.tup (ag (ks++ts)))) h:=by
   have d:aX [D.int (n:Int),D.tup (ag ks),D.tup (ag ts)] 1=y0 (.tup (ag ks)):=rfl
   have f:aX [D.int (n:Int),D.tup (ag ks),D.tup (ag ts)] 2=y0 (.tup (ag ts)):=rfl
   simp_all [ah,d,f,p]
  rw [← Bj]
  show(eval _ _ _ h).bind _=_
  rw [b,R.aa,a2]
  rfl
 rw [za (by
  rw [exec,m,R.az]
  exact e)]
 simp_all []
theorem rh (h): ∀ ws (c:Nat) a b,(∀ w∈ws,w<=16)->a.length+ws.length<=1000-> ∃g f,
 Gq (Gp [5] k9) (λY h=>execs F zq Y h) (ag ws) [x0,x1,x2,y0 (.own (ag a)),y0 (.v (.int (c:Int))),b,x6] h= .next [x0,x1,x2,y0 (.own (ag (a++dg ws c))),g,f,x6] h
 | [],c,a,b,_,_=>⟨y0 (.v (.int c)),b,by simp [dg]⟩
 | w::ws,c,a,b,i,l=>by
  rw [Ab7]at l
  have n:=i w Aa3
  obtain⟨g,f,e⟩:=rh h ws (c / 2 ^ w) (a++ [c % 2 ^ w]) (y0 (.v (.int w))) (λx o=>i x (Aa1 _ o)) (by simp;omega)
  refine⟨g,f,?_⟩
  have m:=fg w (by omega)
  have r:0<2 ^ w:=Ah6 (by decide)
  have p:((2 ^ w:Nat))-1=((2 ^ w-1:Nat):Int):=by omega
  have d:=Zp c (2 ^ w-1)
  rw [Aj9]at d
  have k:=jE c w
  have j:(ag a).length<aZ:=by rw [Gi,Aa];omega
  have q:ag (a++ [c % 2 ^ w])=ag a++ [.int ((c % 2 ^ w:Nat))]:=by simp
  rw [show ag (w::ws)= .int w::ag ws from rfl,qa rfl ?_,e,Ae9]
  ·rfl
  ·rw [q]
   simp_all [zq,m,Wm,p,xo,d,j,if_true,k]
def wI (k n) (A B) (ks ts) (h) (g:Wl n ks ts) (c:A.length=ks.length) (m:B.length=ts.length):call prog (k+5) "world_of" [.v (fq A B),.v (.int (n:Int)),.v (.int ((Cw n ks ts:Nat):Int))] h= .ok (.v (wc n ks ts)) h:=by
 rw [Ga rfl _ _ _ rfl]
 have hn:=g.n4
 have f:=g.k4
 have t:=g.t4
 have b:n*n<=16:=Ad7 hn hn
 have u:=JW k (.int (n:Int)) h rfl (by simp [zf];omega)
 have d:=pB (k+2) n A B h hn (by omega) (by omega)
 have a:=wK (k+3) n A B h hn (by omega) (by omega)
 rw [c,m]at d a
 have z:(bC n ks.length ts.length).sum<=100:=by
  rw [uz]
  have x:ks.length*n<=4*4:=Ad7 f hn
  have a2:ts.length*(n*n)<=4*16:=Ad7 t b
  omega
 have s:=fg (bC n ks.length ts.length).sum (by omega)
 have lt:Cw n ks ts<2 ^ (bC n ks.length ts.length).sum:=by
  have:=nZ g.ok
  have e:wS ((bC n ks.length ts.length).zip (ks++ts))=(bC n ks.length ts.length).sum:=by
   rw [wS,←List.unzip_fst,List.unzip_zip_left (by rw [Zq];simp)]
  rw [e]at this
  exact this
 have l:=Jl (k+2) (.int ((Cw n ks ts:Nat):Int)) ((2 ^ (bC n ks.length ts.length).sum:Nat):Int) h rfl
 have q:zf (.int ((Cw n ks ts:Nat):Int)) ((2 ^ (bC n ks.length ts.length).sum:Nat):Int)=true:=by
  simp only [zf,Aa7,decide_eq_true_eq];omega
 rw [q]at l
 obtain⟨y,v,e⟩:=rh h (bC n ks.length ts.length) (Cw n ks ts) [] u0 (λw a=>by
  rcases Af0.mp a with a | a
  ·rw [(Al2.mp a).2];omega
  ·rw [(Al2.mp a).2];exact b) (by rw [Zq];simp;omega)
 rw [Ag5,show dg (bC n ks.length ts.length) (Cw n ks ts)=ks++ts from mU _ _ (by rw [Zq];simp) g.ok]at e
 simp only [Kk]
 refine fx (by simp_all [u];rfl) ?_
 rw [Za (by simp_all [d,s,l])]
 refine fx (by simp_all [];rfl) ?_
 refine fx (by simp_all [];rfl) ?_
 have r:eval (u9 (k+4)) (.call "widths" (.cons (.var 0) (.cons (.var 1) .nil))) [some (.v (fq A B)),some (.v (.int (n:Int))),some (.v (.int ((Cw n ks ts:Nat):Int))),some (.own []),some (.v (.int ((Cw n ks ts:Nat):Int))),none,none] h= .ok (.own (ag (bC n ks.length ts.length))) h:=by
  simp_all [a]
 rw [za (by
  simp only [exec,Gr,Kc,r,R.aa,KL,R.af,R.az]
  exact e)]
 have j:=w6 (ag (ks++ts)) A.length
 have i:=Fd (ag (ks++ts)) A.length (by simp;omega)
 have o:(ag (ks++ts)).take A.length=ag ks:=by rw [c,ag,Ac8,List.take_left' (by simp)]
 have p:(ag (ks++ts)).drop A.length=ag ts:=by rw [c,ag,Ac8,List.drop_left' (by simp)]
 rw [o]at j
 rw [p]at i
 refine fx (by simp_all [ah,XF,Wh];rfl) ?_
 rw [jb (w:= .v (wc n ks ts)) (h1:=h) (xc rfl (by simp_all [HW,j,i,xC]))]
 exact Gb _ _ _ rfl
theorem nO: ∀(l:List Nat) (a),∃m,(m=a\/m∈l)/\m<=a/\(∀ x∈l,m<=x)/\(l.map λ(x:Nat)=>(x:Int)).foldl (λa b=>if b<a then b else a) (a:Int)=(m)
 | [],a=>⟨a,.inl rfl,Aa6 _,(λ_ h=>by cases h),rfl⟩
 | y::l,a=>by
  by_cases q:y<a
  ·obtain⟨m,c,e,f,g⟩:=nO l y
   refine⟨m,.inr ?_,by omega,λx d=> ?_,?_⟩
   ·rcases c with rfl | c
    ·exact Aa3
    ·exact Aa1 _ c
   ·rcases Ab2.mp d with rfl | d
    ·exact e
    ·exact f x d
   ·rw [Aa9,Ag6,if_pos (by omega),g]
  ·obtain⟨m,c,e,f,g⟩:=nO l a
   refine⟨m,?_,e,λx d=> ?_,?_⟩
   ·rcases c with c | c
    ·exact .inl c
    ·exact .inr (Aa1 _ c)
   ·rcases Ab2.mp d with rfl | d
    ·omega
    ·exact f x d
   ·rw [Aa9,Ag6,if_neg (by omega),g]
def HJ (l) (e:l≠ []): ∃m∈l,(∀ x∈l,m<=x)/\(Kj (ag l)).bind pO=y0 (m:Int):=by
 cases l with
 | nil=>exact absurd rfl e
 | cons a l=>
  obtain⟨m,c,d,f,g⟩:=nO l a
  refine⟨m,?_,λx b=> ?_,?_⟩
  ·obtain rfl | c:=c
   ·exact Aa3
   ·exact Aa1 _ c
  ·obtain rfl | b:=Ab2.mp b
   ·exact d
   ·exact f x b
  ·rw [QE]
   exact congrArg y0 g
section
variable {n:Nat}{ks ts:List Nat}{A B:List D}(g:Wl n ks ts) (hA:A.length=ks.length) (hB:B.length=ts.length)
include g
def pV:xm n n≠ []:=λz=>by
 have hn:=g.n4
 have:Aa0 n∈xm n n:=(Wg hn _).mpr ⟨List.Perm.refl _⟩
 rw [z]at this
 cases this
include hA hB
def sE (k) (h):call prog (k+6) "codes_alike" [.v (fq A B),.v (wc n ks ts)] h= .ok (.own (ag ((xm n n).map fun r=>Cw n (ks.map (kM n r)) (ts.map (tK n r))))) h:=by
 rw [Ga rfl _ _ _ rfl]
 have hn:=g.n4
 have i:=g.k4
 have f:=g.t4
 have a:=ZX k n h hn
 have b:=(mC n hn).nt n (Aa6 _)
 have c:eval (u9 (k+5)) jp [y0 (.v (fq A B)),y0 (.v (wc n ks ts))] h= .ok (.own ((xm n n).map λr=> .int ((Cw n (ks.map (kM n r)) (ts.map (tK n r)):Nat)))) h:=by
  refine Qf (λr=> .tup (ag r)) _ _ (XR (by simp_all [ah,Xs,a])) (by omega) λr e=>⟨.v _,?_,rfl⟩
  have q:=(Wg hn r).mp e
  have d:=Ap (k+1) q hn ks ts (by omega) (by omega) (fq A B) h
  have a2:=BM (k+3) n A B _ _ h (g.mv q) (by rw [Aa];exact hA) (by rw [Aa];exact hB)
  simp_all [d,a2]
 simp only [GL]
 rw [jb (w:= .own (ag ((xm n n).map λr=>Cw n (ks.map (kM n r)) (ts.map (tK n r))))) (wm rfl (by rw [ag,Ac6];exact c))]
 exact Gw _ _ _ rfl
def Ej (k) (h): ∃a b,Ls n ks ts a b/\call prog (k+7) "form" [.v (fq A B),.v (wc n ks ts)] h= .ok (.v (wc n a b)) h:=by
 have hn:=g.n4
 have d:=sE g hA hB k h
 obtain⟨m,j,c,i⟩:=HJ _ (λz=>pV g (Aj0.mp z))
 obtain⟨r,e,rfl⟩:=Ac1.mp j
 have q:=(Wg hn r).mp e
 have l:=wI (k+1) n A B _ _ h (g.mv q) (by rw [Aa];exact hA) (by simp_all)
 refine⟨_,_,⟨⟨r,q,rfl,rfl⟩,λo f=>c _ (Ac1.mpr ⟨o,(Wg hn o).mpr f,rfl⟩)⟩,?_⟩
 rw [Ga rfl _ _ _ rfl]
 have p:cI .min [.own (ag ((xm n n).map λr=>Cw n (ks.map (kM n r)) (ts.map (tK n r))))] h=aU (.int ((Cw n (ks.map (kM n r)) (ts.map (tK n r)):Nat))) h:=by
  show(R.of h _).bind _=_
  rw [W.eQ,Ah3,i]
  rfl
 simp only [Pa]
 simp_all [ah,Xs,d,p,l]
end
theorem oO: ∀a b:List Nat,Ks (ag a) (ag b)=v9 (a=b)
 | [],[]=>rfl
 | [],_::_=>rfl
 | _::_,[]=>rfl
 | x::a,y::b=>by
  show((x==(y:Int))&&Ks (ag a) (ag b))=_
  rw [oO a b,Ad8]
  simp only [Aa7,beq_iff_eq,decide_eq_true_eq,List.cons.injEq]
  exact and_congr (by omega) Iff.rfl
def xn (n) (ks ts):Gc (wc n ks ts)=true:=by
 show(k9&&(Gd _&&(Gd _&&k9)))=k9
 rw [j0,j0];rfl
def vx (n) (ks ts):dep (wc n ks ts)<=2:=by
 have a:=oo ks
 have b:=oo ts
 lia
def yV (n a) (ks ts ks' ts') (h):Gy .eq (.v (wc n ks ts)) (.v (wc a ks' ts')) h=y0 (v9 (n=a/\ks=ks'/\ts=ts')):=by
 have d:=vx n ks ts
 rw [oM,W.lI,W.lI,ZH (xn ..),ZH (xn ..),if_pos (by rw [KN,xn,xn,decide_eq_true (by lia)];rfl)]
 congr 1
 show((n==(a:Int))&&(Ks _ _&&(Ks _ _&&k9)))=_
 rw [oO,oO,Bool.and_true,Ad8]
 simp only [Aa7,beq_iff_eq,decide_eq_true_eq]
 exact and_congr (by lia) Iff.rfl
noncomputable abbrev gu (n:Nat) (x1:Option W) (x2:Option W) (a:List (List Nat)) (c b:Option W):Sl:= [y0 (.v (.int (n:Int))),x1,x2,y0 (.own (bV a)),c,b]
theorem nI (g:r.length<=4) (h): ∀ m i a c,i+m=n->a.length+m<=1000-> ∃b,
 Gq (Gp [5] k9) (λY h=>execs F zh Y h) ((Aa0 m).map λj=>D.int ((i+j:Nat):Int)) (gu n x1 x2 a (y0 (.v (.tup (ag r)))) c) h= .next (gu n x1 x2 (a++(((Aa0 m).map (i+ ·)).filter λx=> !v9 (x∈r)).map λx=>r++ [x]) (y0 (.v (.tup (ag r)))) b) h
 | 0,i,a,c,_,_=>⟨c,by simp⟩
 | m+1,i,a,c,e,s=>by
  have l:=vo i r h
  have k:(Aa0 (m+1)).map (i+ ·)=i::(Aa0 m).map (i+1+ ·):=by
   rw [Af7,Aa9,Ac6]
   congr 1
   exact Ae λx _=>by show i+(x+1)=i+1+x;omega
  have d:Gs F (.cmp .dM (.var 5) (.var 4)) (gu n x1 x2 a (y0 (.v (.tup (ag r)))) (y0 (.v (.int (i:Int))))) h= .ok (!v9 (i∈r)) h:=by
   simp_all [l]
  by_cases q:i∈r
  ·obtain⟨b,z⟩:=nI (n:=n) g h m (i+1) a (y0 (.v (.int (i:Int)))) (by omega) (by omega)
   refine⟨b,?_⟩
   rw [decide_eq_true q]at d
   rw [k,List.filter_cons_of_neg (by simpa using q),Zk,qa (Y1:=gu n x1 x2 a (y0 (.v (.tup (ag r)))) (y0 (.v (.int (i:Int))))) rfl ?_,z]
   simp only [zh]
   rw [Za d]
   rfl
  ·obtain⟨b,z⟩:=nI (n:=n) (x1:=x1) (x2:=x2) g h m (i+1) (a++ [r++ [i]]) (y0 (.v (.int (i:Int)))) (by omega) (by simp;omega)
   refine⟨b,?_⟩
   rw [decide_eq_false q]at d
   have o:(ag r).length+ [D.int (i:Int)].length<=aZ:=by rw [Gi,Aa,Ag];omega
   have f:(bV a).length<aZ:=by rw [Gi,Aa];omega
   have p:bV (a++ [r++ [i]])=bV a++ [.tup (ag r++ [.int (i:Int)])]:=by simp
   rw [k,List.filter_cons_of_pos (by simpa using q),Aa9,Zk,qa (Y1:=gu n x1 x2 a (y0 (.v (.tup (ag r)))) (y0 (.v (.int (i:Int))))) (Y2:=gu n x1 x2 (a++ [r++ [i]]) (y0 (.v (.tup (ag r)))) (y0 (.v (.int (i:Int))))) (h2:=h) rfl ?_,z,Ae9]
   ·rfl
   ·simp only [zh,Xa]
    rw [qr d]
    simp only [gu,p]
    simp_all [XA,o,if_true,f]
theorem td (g:n<=4) (h): ∀ rows a c b,(∀ r∈rows,r.length<=4)->a.length+rows.length*4<=1000-> ∃j f,
 Gq (Gp [4] k9) (λY h=>execs F jl Y h) (bV rows) (gu n x1 x2 a c b) h= .next (gu n x1 x2 (a++wz n rows) j f) h
 | [],a,c,b,_,_=>⟨c,b,by simp [wz]⟩
 | r::rows,a,c,b,d,i=>by
  rw [Ab7]at i
  have t:((Aa0 n).filter λx=> !v9 (x∈r)).length<=4:=Ac (Ad9 _ _) (by simp;exact g)
  obtain⟨f,e⟩:=nI (n:=n) (d r Aa3) h n 0 a b (by omega) (by omega)
  have k:(Aa0 n).map (0+ ·)=Aa0 n:=(Ae λx _=>Ag2 x).trans (List.map_id _)
  rw [k]at e
  obtain⟨o,m,q⟩:=td g h rows (a++((Aa0 n).filter λx=> !v9 (x∈r)).map λx=>r++ [x]) (y0 (.v (.tup (ag r)))) f (λs p=>d s (Aa1 _ p)) (by rw [Ab0,Aa];omega)
  refine⟨o,m,?_⟩
  have l:wz n (r::rows)=(((Aa0 n).filter λx=> !v9 (x∈r)).map λx=>r++ [x])++wz n rows:=rfl
  rw [show bV (r::rows)= .tup (ag r)::bV rows from rfl,qa rfl (by
   simp only [jl,Xa]
   rw [exec,QB,wd rfl (by omega),R.az]
   simp only [Ag2]at e
   exact e),q,l,Ae9]
theorem pG (hn:n<=4) (h): ∀(m j:Nat) x2 x3 x4 x5,j+m=n-> ∃y2 y3 y4 y5,
 Gq (Gp [2] k9) (λY h=>execs (u9 k) zt Y h) ((Aa0 m).map λi=>D.int ((j+i:Nat):Int)) [y0 (.v (.int (n:Int))),y0 (.own (bV (xm n j))),x2,x3,x4,x5] h= .next [y0 (.v (.int (n:Int))),y0 (.own (bV (xm n n))),y2,y3,y4,y5] h
 | 0,j,x2,x3,x4,x5,e=>⟨x2,x3,x4,x5,by obtain rfl:j=n:=by omega
                                      rfl⟩
 | m+1,j,x2,x3,x4,x5,e=>by
  have Rn:=mC n hn
  obtain⟨y4,y5,q⟩:=td hn h (xm n j) [] x4 x5 (Rn.sR j (by omega)) (by have:=Rn.nt j (by omega);simp;omega)
  obtain⟨z2,z3,z4,z5,q2⟩:=pG hn h m (j+1) (y0 (.v (.int j))) u0 y4 y5 (by omega)
  refine⟨z2,z3,z4,z5,?_⟩
  rw [Zk,qa rfl ?_,q2]
  refine(za (by simp_all [];rfl)).trans ?_
  refine(za (by simp_all [];rfl)).trans ?_
  rw [za (by
   exact q)]
  rfl
def ID (k n:Nat) (h) (a:n<=4):call prog (k+1) "_law_orders" [.v (.int (n:Int))] h= .ok (.own (bV (xm n n))) h:=by
 obtain⟨f,d,c,b,e⟩:=pG a h n 0 u0 u0 u0 u0 (by lia)
 refine fx (by simp_all [];rfl) ?_
 rw [za (by
  rw [exec,QB,wd rfl (by lia),R.az]
  simp [Ag2]at e
  exact e)]
 simp_all []
section
variable {n:Nat}{ks ts:List Nat}(g:Wl n ks ts){n2:Nat}{ks2 ts2:List Nat}
include g
def WL (ks ts:List Nat):List D:=ag (ks++ts).reverse
omit g in
theorem tV (a b:List Nat):(ag b).reverse++(ag a).reverse=WL a b:=by
 unfold WL
 rw [List.reverse_append,ag,ag,ag,Ac8,List.map_reverse,List.map_reverse]
theorem JJ (h): ∀ rows f l j i,(∀ r∈rows,Od n r)->Od n f-> ∃r o p y,Od n r/\Cw n (ks.map (kM n r)) (ts.map (tK n r))<=Cw n (ks.map (kM n f)) (ts.map (tK n f))/\(∀ s∈rows,Cw n (ks.map (kM n r)) (ts.map (tK n r))<=Cw n (ks.map (kM n s)) (ts.map (tK n s))) ∧
 Gq (Gp [5] k9) (λY h=>execs (u9 (k+2)) Xd Y h) (bV rows) [y0 (.v (wc n ks ts)),x1,x2,x3,y0 (.v (.tup [.lst (WL (ks.map (kM n f)) (ts.map (tK n f))),wc n (ks.map (kM n f)) (ts.map (tK n f))])),l,j,i] h= .next [y0 (.v (wc n ks ts)),x1,x2,x3,y0 (.v (.tup [.lst (WL (ks.map (kM n r)) (ts.map (tK n r))),wc n (ks.map (kM n r)) (ts.map (tK n r))])),o,p,y] h
 | [],f,l,j,i,_,w=>⟨f,l,j,i,w,Aa6 _,(λ_ h=>by cases h),rfl⟩
 | s::rows,f,l,j,i,A,w=>by
  have C:=g.k4
  have O:=g.t4
  have z:=A s Aa3
  have F:=rH z g.n4 k ks ts (by omega) (by omega) h
  have I:aX [D.int (n:Int),D.tup (ag (ks.map (kM n s))),D.tup (ag (ts.map (tK n s)))] 1=y0 (.tup (ag (ks.map (kM n s)))):=rfl
  have J:aX [D.int (n:Int),D.tup (ag (ks.map (kM n s))),D.tup (ag (ts.map (tK n s)))] 2=y0 (.tup (ag (ts.map (tK n s)))):=rfl
  have L:(ag (ts.map (tK n s))).reverse.length+(ag (ks.map (kM n s))).reverse.length<=aZ:=by rw [Gi];simp;omega
  have B:=ro (bC n ks.length ts.length) (ks.map (kM n s)++ts.map (tK n s)) (ks.map (kM n f)++ts.map (tK n f)) (by rw [Zq];simp) (by rw [Zq];simp) (by have:=(g.mv z).ok;rw [Aa,Aa]at this;exact this) (by have:=(g.mv w).ok;rw [Aa,Aa]at this;exact this)
  have H:cd ((bC n ks.length ts.length).zip (ks.map (kM n s)++ts.map (tK n s)))=Cw n (ks.map (kM n s)) (ts.map (tK n s)):=by unfold Cw;rw [Aa,Aa]
  have N:cd ((bC n ks.length ts.length).zip (ks.map (kM n f)++ts.map (tK n f)))=Cw n (ks.map (kM n f)) (ts.map (tK n f)):=by unfold Cw;rw [Aa,Aa]
  rw [H,N]at B
  have step: ∀l j i:Option W,execs (u9 (k+2)) Xd [y0 (.v (wc n ks ts)),x1,x2,x3,y0 (.v (.tup [.lst (WL (ks.map (kM n f)) (ts.map (tK n f))),wc n (ks.map (kM n f)) (ts.map (tK n f))])),y0 (.v (.tup (ag s))),j,i] h= .next [y0 (.v (wc n ks ts)),x1,x2,x3,y0 (.v (if Cw n (ks.map (kM n s)) (ts.map (tK n s))<Cw n (ks.map (kM n f)) (ts.map (tK n f))then .tup [.lst (WL (ks.map (kM n s)) (ts.map (tK n s))),wc n (ks.map (kM n s)) (ts.map (tK n s))]else .tup [.lst (WL (ks.map (kM n f)) (ts.map (tK n f))),wc n (ks.map (kM n f)) (ts.map (tK n f))])),y0 (.v (.tup (ag s))),y0 (.v (wc n (ks.map (kM n s)) (ts.map (tK n s)))),y0 (.v (.lst (WL (ks.map (kM n s)) (ts.map (tK n s)))))] h:=λl j i=>by
   simp only [Xd]
   rw [za (Y1:= [y0 (.v (wc n ks ts)),x1,x2,x3,y0 (.v (.tup [.lst (WL (ks.map (kM n f)) (ts.map (tK n f))),wc n (ks.map (kM n f)) (ts.map (tK n f))])),y0 (.v (.tup (ag s))),y0 (.v (wc n (ks.map (kM n s)) (ts.map (tK n s)))),i]) (h1:=h) (by simp_all [F])]
   rw [za (Y1:= [y0 (.v (wc n ks ts)),x1,x2,x3,y0 (.v (.tup [.lst (WL (ks.map (kM n f)) (ts.map (tK n f))),wc n (ks.map (kM n f)) (ts.map (tK n f))])),y0 (.v (.tup (ag s))),y0 (.v (wc n (ks.map (kM n s)) (ts.map (tK n s)))),y0 (.v (.lst (WL (ks.map (kM n s)) (ts.map (tK n s)))))]) (h1:=h) (by
    rw [← tV (ks.map (kM n s)) (ts.map (tK n s))]
    have E: ∀u,(W.own u).br h=y0 u:=λ_=>rfl
    simp_all [ah,I,J,J6,E,oU,L,if_true])]
   have K: ∀u,(W.v (D.lst u)).br h=y0 u:=λ_=>rfl
   have M:(Xc (ks.map (kM n s)++ts.map (tK n s)).reverse).length=(Xc (ks.map (kM n f)++ts.map (tK n f)).reverse).length:=by simp [Xc]
   have G: ∀a b:List Nat,Kj (WL a b)=y0 (Xc (a++b).reverse):=λa b=>QE _
   have x:Gs (u9 (k+2)) (.or (.d3 y9 (.var 4)) (.hH (.var 7) (.ix (.var 4) (.int 0)))) [y0 (.v (wc n ks ts)),x1,x2,x3,y0 (.v (.tup [.lst (WL (ks.map (kM n f)) (ts.map (tK n f))),wc n (ks.map (kM n f)) (ts.map (tK n f))])),y0 (.v (.tup (ag s))),y0 (.v (wc n (ks.map (kM n s)) (ts.map (tK n s)))),y0 (.v (.lst (WL (ks.map (kM n s)) (ts.map (tK n s)))))] h= .ok (v9 (Cw n (ks.map (kM n s)) (ts.map (tK n s))<Cw n (ks.map (kM n f)) (ts.map (tK n f)))) h:=by
    simp_all [ah,XF,K,G,M,if_true,B]
   rw [Xa]
   by_cases c:Cw n (ks.map (kM n s)) (ts.map (tK n s))<Cw n (ks.map (kM n f)) (ts.map (tK n f))
   ·rw [decide_eq_true c]at x
    rw [qr x,if_pos c]
    simp_all []
   ·rw [decide_eq_false c]at x
    rw [QU x,if_neg c]
    rfl
  rw [show bV (s::rows)= .tup (ag s)::bV rows from rfl]
  by_cases c:Cw n (ks.map (kM n s)) (ts.map (tK n s))<Cw n (ks.map (kM n f)) (ts.map (tK n f))
  ·obtain⟨r,o,p,y,q,m,le,e⟩:=JJ h rows s (y0 (.v (.tup (ag s)))) (y0 (.v (wc n (ks.map (kM n s)) (ts.map (tK n s))))) (y0 (.v (.lst (WL (ks.map (kM n s)) (ts.map (tK n s)))))) (λt d=>A t (Aa1 _ d)) z
   have v:=step l j i
   rw [if_pos c]at v
   refine⟨r,o,p,y,q,by omega,λt d=> ?_,by rw [qa rfl v,e]⟩
   rcases Ab2.mp d with rfl | d
   ·exact m
   ·exact le t d
  ·obtain⟨r,o,p,y,q,m,le,e⟩:=JJ h rows f (y0 (.v (.tup (ag s)))) (y0 (.v (wc n (ks.map (kM n s)) (ts.map (tK n s))))) (y0 (.v (.lst (WL (ks.map (kM n s)) (ts.map (tK n s)))))) (λt d=>A t (Aa1 _ d)) w
   have v:=step l j i
   rw [if_neg c]at v
   refine⟨r,o,p,y,q,m,λt d=> ?_,by rw [qa rfl v,e]⟩
   rcases Ab2.mp d with rfl | d
   ·omega
   ·exact le t d
end
section
variable {n:Nat}{ks ts:List Nat}(g:Wl n ks ts)
include g
def QV (k) (h): ∃a b,Ls n ks ts a b/\call prog (k+3) "_law_least" [.v (wc n ks ts)] h= .ok (.v (wc n a b)) h:=by
 have hn:=g.n4
 have i:=g.k4
 have C:=g.t4
 have p:=ID (k+1) n h hn
 have all: ∀r∈xm n n,Od n r:=λr c=>(Wg hn r).mp c
 have f:=pV g
 cases d:xm n n with
 | nil=>exact absurd d f
 | cons s rows=>
  rw [d]at all p
  have l:=all s Aa3
  obtain⟨r,F,G,H,q,j,le,e⟩:=JJ g h rows s _ _ _ (λt y=>all t (Aa1 _ y)) l
  refine⟨_,_,⟨⟨r,q,rfl,rfl⟩,λo B=> ?_⟩,?_⟩
  ·have c:=(Wg hn o).mpr B
   rw [d]at c
   rcases Ab2.mp c with rfl | c
   ·exact j
   ·exact le o c
  ·rw [Ga rfl _ _ _ rfl]
   have v:=rH l g.n4 k ks ts (by omega) (by omega) h
   have x:aX [D.int (n:Int),D.tup _,D.tup (ag (ts.map (tK n s)))] 1=y0 (.tup (ag (ks.map (kM n s)))):=rfl
   have z:aX [D.int (n:Int),D.tup (ag (ks.map (kM n s))),D.tup _] 2=y0 (.tup (ag (ts.map (tK n s)))):=rfl
   have A:(ag (ts.map (tK n s))).reverse.length+(ag (ks.map (kM n s))).reverse.length<=aZ:=by rw [Gi];simp;omega
   have step:execs (u9 (k+2)) Xd [y0 (.v (wc n ks ts)),y0 (.v (.int (n:Int))),y0 (.v (.tup (ag ks))),y0 (.v (.tup (ag ts))),y0 (.v .av),y0 (.v (.tup (ag s))),u0,u0] h= .next [y0 (.v (wc n ks ts)),y0 (.v (.int (n:Int))),y0 (.v (.tup (ag ks))),y0 (.v (.tup (ag ts))),y0 (.v (.tup [.lst (WL (ks.map (kM n s)) (ts.map (tK n s))),wc n (ks.map (kM n s)) (ts.map (tK n s))])),y0 (.v (.tup (ag s))),y0 (.v (wc n (ks.map (kM n s)) (ts.map (tK n s)))),y0 (.v (.lst (WL (ks.map (kM n s)) (ts.map (tK n s)))))] h:=by
    simp only [Xd]
    refine(za (by simp_all [v];rfl)).trans ?_
    rw [za (Y1:= [y0 (.v (wc n ks ts)),y0 (.v (.int (n:Int))),y0 (.v (.tup (ag ks))),y0 (.v (.tup (ag ts))),y0 (.v .av),y0 (.v (.tup (ag s))),y0 (.v (wc n (ks.map (kM n s)) (ts.map (tK n s)))),y0 (.v (.lst (WL (ks.map (kM n s)) (ts.map (tK n s)))))]) (h1:=h) (by
     rw [← tV (ks.map (kM n s)) (ts.map (tK n s))]
     have u: ∀m,(W.own m).br h=y0 m:=λ_=>rfl
     simp_all [ah,x,z,J6,u,oU,A,if_true])]
    rw [Xa,qr (h1:=h) (by simp_all [])]
    simp_all []
   have E:eval (u9 (k+2)) (.call "_law_orders" (.cons (.var 1) .nil)) [some (.v (wc n ks ts)),some (.v (.int (n:Int))),some (.v (.tup (ag ks))),some (.v (.tup (ag ts))),some (.v .av),none,none,none] h= .ok (.own (bV (s::rows))) h:=by simp_all [p]
   simp only [Ka]
   refine fx (by simp_all [];rfl) ?_
   refine fx (by simp_all [];rfl) ?_
   rw [za (by
    simp only [exec,Gr,Kc,E,R.aa,KL,R.af,R.az]
    rw [show bV (s::rows)= .tup (ag s)::bV rows from rfl,qa (Y1:= [y0 (.v (wc n ks ts)),y0 (.v (.int (n:Int))),y0 (.v (.tup (ag ks))),y0 (.v (.tup (ag ts))),y0 (.v .av),y0 (.v (.tup (ag s))),u0,u0]) (h2:=h) rfl step]
    exact e)]
   rw [jb (w:= .v (wc n (ks.map (kM n r)) (ts.map (tK n r)))) (h1:=h) (xc rfl (by simp_all [ah,xz]))]
   exact Gb _ _ _ rfl
end
theorem qf: ∀e:Ex,Gc (aN e)=k9
 | .name _=>rfl
 | .same=>rfl
 | .all=>rfl
 | .none=>rfl
 | .turned a=>by show(k9&&(Gc (aN a)&&k9))=k9;rw [qf a];rfl
 | .closed a=>by show(k9&&(Gc (aN a)&&k9))=k9;rw [qf a];rfl
 | .plus a b=>by show(k9&&(Gc (aN a)&&(Gc (aN b)&&k9)))=k9;rw [qf a,qf b];rfl
 | .less a b=>by show(k9&&(Gc (aN a)&&(Gc (aN b)&&k9)))=k9;rw [qf a,qf b];rfl
 | .both a b=>by show(k9&&(Gc (aN a)&&(Gc (aN b)&&k9)))=k9;rw [qf a,qf b];rfl
 | .joined a b=>by show(k9&&(Gc (aN a)&&(Gc (aN b)&&k9)))=k9;rw [qf a,qf b];rfl
theorem jg: ∀e:Ex,dep (aN e)<=e.dp+1
 | .name _=>Aa6 _
 | .same=>Aa6 _
 | .all=>Aa6 _
 | .none=>Aa6 _
 | .turned a=>by
  have:=jg a
  show max 0 (max (dep (aN a)) 0)+1<=a.dp+1+1
  omega
 | .closed a=>by
  have:=jg a
  show max 0 (max (dep (aN a)) 0)+1<=a.dp+1+1
  omega
 | .plus a b=>by
  have:=jg a;have:=jg b
  show max 0 (max (dep (aN a)) (max (dep (aN b)) 0))+1<=max a.dp b.dp+1+1
  omega
 | .less a b=>by
  have:=jg a;have:=jg b
  show max 0 (max (dep (aN a)) (max (dep (aN b)) 0))+1<=max a.dp b.dp+1+1
  omega
 | .both a b=>by
  have:=jg a;have:=jg b
  show max 0 (max (dep (aN a)) (max (dep (aN b)) 0))+1<=max a.dp b.dp+1+1
  omega
 | .joined a b=>by
  have:=jg a;have:=jg b
  show max 0 (max (dep (aN a)) (max (dep (aN b)) 0))+1<=max a.dp b.dp+1+1
  omega
def DP (f):Gc (eh f)=true:=by
 cases f with
 | ic a b=>show(k9&&(Gc _&&(Gc _&&k9)))=k9;rw [qf a,qf b];rfl
 | hV a b=>show(k9&&(Gc _&&(Gc _&&k9)))=k9;rw [qf a,qf b];rfl
 | hZ a=>show(k9&&(Gc _&&k9))=k9;rw [qf a];rfl
 | av a=>show(k9&&(Gc _&&k9))=k9;rw [qf a];rfl
 | cnt s k a=>show(k9&&(k9&&(Gc _&&k9)))=k9;rw [qf a];rfl
def Lo (f):dep (eh f)<=f.dp+2:=by
 cases f with
 | ic a b=>
  have:=jg a;have:=jg b
  show max 0 (max _ (max _ 0))+1<=max a.dp b.dp+2
  lia
 | hV a b=>
  have:=jg a;have:=jg b
  show max 0 (max _ (max _ 0))+1<=max a.dp b.dp+2
  lia
 | hZ a=>
  have:=jg a
  show max 0 (max _ 0)+1<=a.dp+2
  lia
 | av a=>
  have:=jg a
  show max 0 (max _ 0)+1<=a.dp+2
  lia
 | cnt s k a=>
  have:=jg a
  show max 0 (max 0 (max _ 0))+1<=a.dp+2
  lia
theorem Zv: ∀s:Sy,Gc (aK s)=k9
 | .fact f=>DP f
 | .neg a=>by show(k9&&(Gc (aK a)&&k9))=k9;rw [Zv a];rfl
 | .dq a b=>by show(k9&&(Gc (aK a)&&(Gc (aK b)&&k9)))=k9;rw [Zv a,Zv b];rfl
 | .eB a b=>by show(k9&&(Gc (aK a)&&(Gc (aK b)&&k9)))=k9;rw [Zv a,Zv b];rfl
theorem QI: ∀s:Sy,dep (aK s)<=s.dp+2
 | .fact f=>Lo f
 | .neg a=>by
  have:=QI a
  show max 0 (max (dep (aK a)) 0)+1<=a.dp+1+2
  omega
 | .dq a b=>by
  have:=QI a;have:=QI b
  show max 0 (max (dep (aK a)) (max (dep (aK b)) 0))+1<=max a.dp b.dp+1+2
  omega
 | .eB a b=>by
  have:=QI a;have:=QI b
  show max 0 (max (dep (aK a)) (max (dep (aK b)) 0))+1<=max a.dp b.dp+1+2
  omega
abbrev pr (d:D) (n:Nat):D:= .tup [d,.int (n:Int)]
def pP (p:Ex×Nat):D:=pr (aN p.1) p.2
def pS (p:Sy×Nat):D:=pr (aK p.1) p.2
structure kf (N:List Tx) (p:Ex×Nat):Prop where
 wf:p.1.wf N
 dp:p.1.dp+1<=p.2
 le:p.2<=13
structure iN (N:List Tx) (p:Sy×Nat):Prop where
 wf:p.1.wf N
 dp:p.1.dp<=p.2+11
 po:1<=p.2
 le:p.2<=13
def uN (p):Gc (pP p)=true:=by show(Gc _&&(k9&&k9))=k9;rw [qf];rfl
def W1 (p):Gc (pS p)=true:=by show(Gc _&&(k9&&k9))=k9;rw [Zv];rfl
theorem xM (f) (k): ∀l:List α,(∀ x∈l,dep (f x)<=k)->KA (l.map f)<=k
 | [],_=>Ah5 _
 | x::l,h=>by
  exact Nat.max_le.mpr ⟨h x Aa3,xM f k l λy a=>h y (Aa1 _ a)⟩
def F5 (h:kf N p):dep (pP p)<=20:=by
 have:=jg p.1;have:=h.dp;have:=h.le
 show max _ (max 0 0)+1<=20
 lia
def sN (h:iN N p):dep (pS p)<=40:=by
 have:=QI p.1;have:=h.dp;have:=h.le
 show max _ (max 0 0)+1<=40
 lia
def zL (a:h[r]? =y0 (.lst xs)) (h1:Gd xs=k9) (h2:KA xs<=100) (c:xs≠ []):Gy .eq (.v (.ref r)) (.own []) h=y0 false:=by
 have b:(W.v (D.ref r)).dd h= .lst xs:=by
  show(match h[r]? with | some (.lst xs)=>D.lst xs | _=> .ref r)=_
  rw [a]
 have d:(W.own []).dd h= .lst []:=rfl
 rw [oM,b,d,if_pos (by
  unfold KN
  rw [show Gc (.lst xs)=k9 from h1,decide_eq_true (show dep _<150 by show KA xs+1<150;lia)];rfl)]
 cases xs with
 | nil=>exact absurd rfl c
 | cons x xs=>rfl
def Dz (k) (K T) (u:(K++T).length<=100) (x) (h): ∃e:Ex,e.wf (K++T)/\e.dp=0/\call prog (k+1) "_law_atom" [.v (wD K T),.v (.int x)] h= .ok (.v (aN e)) h:=by
 obtain⟨p,z,o⟩:=jf x ((K++T).length+3) (by omega)
 have t:KZ .add (.v (cR K)) (.v (cR T)) h= .ok (.v (cR (K++T))) h:=by
  rw [XA,if_pos (by rw [Gi,Aa,Aa];rw [Ab0]at u;omega),←Ac8]
 have r:cI .len [.v (cR (K++T))] h=aU (.int ((K++T).length:Int)) h:=by rw [Wh,Aa]
 have y:Gn .mod x (((K++T).length:Int)+3)=y0 (p:Int):=by rw [Qo _ _ (by omega)];exact congrArg y0 o
 have l: ∀ j,execs (u9 k) (.cons (.ak 2 (.bin .add (.ix (.var 0) (.int 0)) (.ix (.var 0) (.int 1)))) (.cons (.ak 3 (.bin .mod (.var 1) (.bin .add (.bi .len (.cons (.var 2) .nil)) (.int 3)))) j)) (An6 y0 [W.v (wD K T),.v (.int x)]++Aa8 (4-2) u0) h=execs (u9 k) j [y0 _,y0 _,y0 _,y0 _] h:=λj=>by
  rw [za (h1:=h) (Y1:= [y0 (.v (wD K T)),y0 (.v (.int x)),y0 (.v (cR (K++T))),u0]) (by simp only [exec,eval,Gf,Gj,R.aa,ah,XF,xz,R.af,t,R.az,W.eG,GI,Aa9,Ad6,Aj,Ag5,Ac7,Ak3,Nat.reduceSub])]
  rw [za (h1:=h) (Y1:= [y0 (.v (wD K T)),y0 (.v (.int x)),y0 (.v (cR (K++T))),y0 (.v (.int (p:Int)))]) (by simp only [exec,eval,Gg,Gf,Gj,R.aa,r,GA,Jc,R.af,y,R.az,W.eG,GI])]
 have a: ∀ {d},GZ h.length _= .ok (.v d) h:=λ{d}=>Gb _ _ _ rfl
 by_cases c:p<3
 ·have f:v9 ((p:Int)<(3:Int))=true:=decide_eq_true (by omega)
  have g: ∀ e s,aN e= .tup [.str s]->aX [D.str wT,.str lM,.str q9] (p:Int)=y0 (.str s)->call prog (k+1) "_law_atom" [.v (wD K T),.v (.int x)] h= .ok (.v (aN e)) h:=fun e s v q=>by
   rw [Ga (d:=GC) rfl _ _ _ rfl]
   simp only [GC]
   rw [l,qk (w:= .v (aN e)) (by simp_all [Qc,f]) (xc rfl (by rw [v];simp only [eval,Gm,Gf,Gj,R.aa,W.eG,R.af,xt,q]))]
   exact a
  have b:p=0\/p=1\/p=2:=by omega
  rcases b with rfl | rfl | rfl
  ·exact⟨.same,trivial,rfl,g .same wT rfl rfl⟩
  ·exact⟨.all,trivial,rfl,g .all lM rfl rfl⟩
  ·exact⟨.none,trivial,rfl,g .none q9 rfl rfl⟩
 ·have f:v9 ((p:Int)<(3:Int))=false:=decide_eq_false (by omega)
  have i:p-3<(K++T).length:=by omega
  have m:(p:Int)-3=((p-3:Nat):Int):=by omega
  have n:dU (.v (cR (K++T))) (.v (.int ((p-3:Nat):Int))) h=y0 (.str (K++T)[p-3]):=by
   show aX ((K++T).map D.str) _=_
   rw [Qh _ _ (by rw [Aa];exact i),Ac5,Aa4 i];rfl
  refine⟨.name (K++T)[p-3],Ak0 i,rfl,?_⟩
  rw [Ga (d:=GC) rfl _ _ _ rfl]
  simp only [GC]
  rw [l,Za (by simp_all [Qc,f])]
  rw [jb (w:= .v (aN (.name (K++T)[p-3]))) (h1:=h) (xc rfl (by simp only [eval,Gm,Gf,Gj,R.aa,W.eG,R.af,GA,Wm,m,n];rfl))]
  exact a
def yM {x:D}(h) (e:xs.getLast h=x):aX xs (-1)=y0 x:=by
 have a:=An0.mpr h
 have:d8 xs.length (-1)=y0 (xs.length-1):=by
  unfold d8
  rw [if_neg (by decide),if_pos (by lia)]
  exact congrArg y0 (by lia)
 unfold aX
 rw [this,Ah3,Aa4 (by lia),←e,List.getLast_eq_getElem]
def xN {xs:List D}(x) (c:0<xs.length): ∃d∈xs,aX xs (x % ((xs.length:Nat):Int))=y0 d:=by
 obtain⟨a,b,e⟩:=jf x xs.length c
 exact⟨xs[a],Ak0 b,by rw [e,Qh _ _ b,Aa4 b]⟩
def n9 (a:h[r]? =y0 (.lst xs)) (i):dU (.v (.ref r)) (.v (.int i)) h=aX xs i:=by
 show((match h[r]? with | some (.lst xs)=>y0 xs | _=>u0).bind λxs=>aX xs i)=_
 rw [a];rfl
def zX (a:h[r]? =y0 (.lst xs)):cI .len [.v (.ref r)] h=aU (.int (xs.length:Int)) h:=by
 show(R.of h (match h[r]? with | some (.lst xs)=>y0 xs | _=>u0)).bind _=_
 rw [a];rfl
noncomputable def HD (j m:Nat) (a b:Ex):Fc:=match j with
 | 0=> .ic a b
 | 1=> .hV a b
 | 2=> .hZ a
 | 3=> .av a
 | 4=> .cnt je m a
 | 5=> .cnt Jk m a
 | 6=> .cnt Zd m a
 | _=> .cnt Xh m a
def vN (k) (N) (ps) (L: ∀p∈ps,kf N p) (C:ps≠ []) (x) (h:AH) (y:h[0]? =y0 (.lst (ps.map pP))): ∃f:Fc,f.wf N/\f.dp<=12/\call prog (k+1) "_law_fact" [.v (.ref 0),.v (.int x)] h= .ok (.v (eh f)) h:=by
 have s:ps.map pP≠ []:=λz=>C (Aj0.mp z)
 obtain⟨a,T,ea⟩: ∃p∈ps,aX _ (-1)=y0 _:=⟨ps.getLast C,List.getLast_mem C,yM s (by rw [List.getLast_map])⟩
 obtain⟨d,md,X⟩:=xN (xs:=ps.map pP) _ (An0.mpr s)
 obtain⟨b,mb,rfl⟩:=Ac1.mp md
 have B:=jz x 8 (by decide) (by decide)
 have Z:=Qo (x / 8) (((ps.map pP).length:Nat):Int) (by have:=An0.mpr s;omega)
 obtain⟨j,o,t⟩:=jf x 8 (by decide)
 have t:x % 8=(j:Int):=t
 have n:=Qo x 8 (by decide)
 rw [t]at n
 have g:=L a T
 have q:=L b mb
 have O:=n9 y (-1)
 rw [ea]at O
 have P:=n9 y (x / 8 % (((ps.map pP).length:Nat):Int))
 rw [X]at P
 have a0:dU (.v (pP a)) (.v (.int 0)) h=y0 (aN a.1):=rfl
 have b0:dU (.v (pP b)) (.v (.int 0)) h=y0 (aN b.1):=rfl
 have Q:=zX y
 obtain⟨m,U⟩: ∃m:Nat,eval (u9 k) (.ix (.lst (.cons (.bin .mod (.bin .fdiv (.var 1) (.int 8)) (.int 5)) (.cons (.bin .mod (.bin .fdiv (.var 1) (.int 8)) (.int 100)) .nil))) (.bin .mod (.bin .fdiv (.var 1) (.int 800)) (.int 2))) [y0 (.v (.ref 0)),y0 (.v (.int x)),y0 (.v (aN a.1)),y0 (.v (aN b.1)),y0 (.v (.str ([fH,wj,Xp,fO,je,Jk,Zd,Xh].getD j [])))] h= .ok (.v (.int (m:Int))) h:=by
  have J:=Qo (x / 8) 5 (by decide)
  have e:=Qo (x / 8) 100 (by decide)
  have l:=jz x 800 (by decide) (by decide)
  have K:=Qo (x / 800) 2 (by decide)
  obtain⟨u,hu,A⟩:=jf (x / 8) 5 (by decide)
  obtain⟨v,hv,G⟩:=jf (x / 8) 100 (by decide)
  obtain⟨z,hz,r⟩:=jf (x / 800) 2 (by decide)
  have A:x / 8 % 5=(u:Int):=A
  have G:x / 8 % 100=(v:Int):=G
  have r:x / 800 % 2=(z:Int):=r
  rw [A]at J
  rw [G]at e
  rw [r]at K
  have H:z=0\/z=1:=by omega
  rcases H with rfl | rfl
  ·exact⟨u,by simp only [eval,Gm,Gf,Gj,R.aa,GA,B,R.af,J,e,l,K,W.eG,xt];rfl⟩
  ·exact⟨v,by simp only [eval,Gm,Gf,Gj,R.aa,GA,B,R.af,J,e,l,K,W.eG,xt];rfl⟩
 have Y:aX [D.str fH,.str wj,.str Xp,.str fO,.str je,.str Jk,.str Zd,.str Xh] (j:Int)=y0 (.str ([fH,wj,Xp,fO,je,Jk,Zd,Xh].getD j [])):=by
  rw [Qh _ _ (by show j<8;exact o)]
  have: ∀j,j<8-> [D.str fH,.str wj,.str Xp,.str fO,.str je,.str Jk,.str Zd,.str Xh][j]? =y0 (.str ([fH,wj,Xp,fO,je,Jk,Zd,Xh].getD j [])):=λj o=>by
   match j,o with
   | 0,_=>rfl
   | 1,_=>rfl
   | 2,_=>rfl
   | 3,_=>rfl
   | 4,_=>rfl
   | 5,_=>rfl
   | 6,_=>rfl
   | 7,_=>rfl
  exact this j o
 have i:a.1.dp<=12:=by have:=g.dp;have:=g.le;omega
 have M:b.1.dp<=12:=by have:=q.dp;have:=q.le;omega
 refine⟨HD j m a.1 b.1,?_,?_,?_⟩
 ·match j,o with
  | 0,_=>exact⟨g.wf,q.wf⟩
  | 1,_=>exact⟨g.wf,q.wf⟩
  | 2,_=>exact g.wf
  | 3,_=>exact g.wf
  | 4,_=>exact⟨by simp,g.wf⟩
  | 5,_=>exact⟨by simp,g.wf⟩
  | 6,_=>exact⟨by simp,g.wf⟩
  | 7,_=>exact⟨by simp,g.wf⟩
 ·match j,o with
  | 0,_=>exact Nat.max_le.mpr ⟨i,M⟩
  | 1,_=>exact Nat.max_le.mpr ⟨i,M⟩
  | 2,_=>exact i
  | 3,_=>exact i
  | 4,_=>exact i
  | 5,_=>exact i
  | 6,_=>exact i
  | 7,_=>exact i
 ·have c: ∀ {d:D},GZ h.length (.ret (.v d) h)= .ok (.v d) h:=λ{d}=>Gb _ _ _ rfl
  rw [Ga (d:=GY) rfl _ _ _ rfl]
  simp only [GY]
  have n1:Gn .mul (-1) 1=Gn .mul (-1) 1:=rfl
  refine fx (by simp_all [O,a0];rfl) ?_
  refine fx (by simp_all [B,Q,Z,P,b0];rfl) ?_
  refine fx (by simp_all [n,xt,Y];rfl) ?_
  by_cases S:j<2
  ·have E:v9 ((j:Int)<(2:Int))=true:=decide_eq_true (by omega)
   rw [qk (w:= .v (.tup [.str ([fH,wj,Xp,fO,je,Jk,Zd,Xh].getD j []),aN a.1,aN b.1])) (by simp_all [n,Qc,E]) (xc rfl (by simp_all [])),c]
   match j,S with
   | 0,_=>rfl
   | 1,_=>rfl
  have E:v9 ((j:Int)<(2:Int))=false:=decide_eq_false (by omega)
  rw [Za (by simp_all [n,Qc,E])]
  by_cases c4:j<4
  ·have I:v9 ((j:Int)<(4:Int))=true:=decide_eq_true (by omega)
   rw [qk (w:= .v (.tup [.str ([fH,wj,Xp,fO,je,Jk,Zd,Xh].getD j []),aN a.1])) (by simp_all [n,Qc,I]) (xc rfl (by simp_all [])),c]
   have F:j=2\/j=3:=by omega
   rcases F with rfl | rfl<;>rfl
  have I:v9 ((j:Int)<(4:Int))=false:=decide_eq_false (by omega)
  rw [Za (by simp_all [n,Qc,I])]
  rw [jb (w:= .v (.tup [.str ([fH,wj,Xp,fO,je,Jk,Zd,Xh].getD j []),.int (m:Int),aN a.1])) (h1:=h) (xc rfl (by rw [eval,Gm,eval];simp only [Gf,Gj,R.aa,W.eG,R.af];rw [Gm,U];simp only [R.aa,W.eG,R.af,Gm,eval,Gf,Gj])),c]
  have V:j=4\/j=5\/j=6\/j=7:=by omega
  rcases V with rfl | rfl | rfl | rfl<;>rfl
def Xg (a:h[r]? =y0 (.lst xs)):bw h (y0 (.v (.ref r)))=y0 (r,xs):=by
 show(match h[r]? with | some (.lst xs)=>y0 _ | _=>u0)=_
 rw [a]
def tm {h:AH}(a:h[r]? =y0 c):(h.set r c')[r]? =y0 c':=Ad5 (Ac0.mp a).1
def QA (xs) (x:D):(xs++ [x])[(xs++ [x]).length-1]? =y0 x:=by simp
def Zu (xs) (x:D):(xs++ [x]).take ((xs++ [x]).length-1)=xs:=by
 rw [Ab0,Ag,Nat.add_sub_cancel,List.take_left'];rfl
def Df (c:Gc a=k9) (d:Gc b=k9) (t) (n):Gc (pr (.tup [.str t,a,b]) n)=true:=by
 show((k9&&(Gc a&&(Gc b&&k9)))&&(k9&&k9))=k9
 rw [c,d];rfl
def Ir (a b:Nat) (h):cI .max [.v (.int (a:Int)),.v (.int (b:Int))] h=aU (.int ((max a b:Nat):Int)) h:=by
 rw [LI]
 by_cases c: b>(a:Int)
 ·rw [if_pos c,show max a b=b by lia]
 ·rw [if_neg c,show max a b=a by lia]
def kh (t:Tx) (a b:D) (m n:Nat):D:=if 13<1+max m n then pr a m else pr (.tup [.str t,a,b]) (1+max m n)
def sH (k r) (h) (xs) (a b) (m n) (t) (f:h[r]? =y0 (.lst (xs++ [pr a m]++ [pr b n]))) (i:Gc a=k9) (p:Gc b=k9) (y:xs.length<=1000):
 call prog (k+1) "_law_put" [.v (.ref r),.v (.str t)] h= .ok (.v .av) (h.set r (.lst (xs++ [kh t a b m n]))):=by
 rw [Ga rfl _ _ _ rfl]
 simp only [Kx]
 have l:xs.length<aZ:=by rw [Gi];omega
 have q:(h.set r (.lst (xs++ [pr a m])))[r]? =y0 _:=tm f
 have j:(h.set r (.lst xs))[r]? =y0 _:=tm f
 have d:h.length=(h.set r (.lst (xs++ [kh t a b m n]))).length:=by rw [Ae6]
 refine fx (by
  simp_all [Xg f,QA,Zu]
  rfl) ?_
 refine fx (by
  simp_all [Xg q,QA,Zu,List.set_set]
  rfl) ?_
 have v: ∀h,dU (.v (pr a m)) (.v (.int 1)) h=y0 _:=λ_=>rfl
 have w: ∀h,dU (.v (pr b n)) (.v (.int 1)) h=y0 (.int (n:Int)):=λ_=>rfl
 have x: ∀h,dU (.v (pr a m)) (.v (.int 0)) h=y0 a:=λ_=>rfl
 have u: ∀h,dU (.v (pr b n)) (.v (.int 0)) h=y0 b:=λ_=>rfl
 have o:(1:Int)+((max m n:Nat):Int)=((1+max m n:Nat):Int):=by omega
 refine fx (by
  simp_all [v,w,Ir,Jc,o]
  rfl) ?_
 rw [Xa]
 have s:Gc (pr a m)=true:=by show(Gc a&&(k9&&k9))=k9;rw [i];rfl
 by_cases c:13<1+max m n
 ·have g:v9 ((13:Int)<((1+max m n:Nat):Int))=true:=decide_eq_true (by omega)
  have e:kh t a b m n=pr a m:=if_pos c
  rw [qr (h1:=h.set r (.lst xs)) (by simp_all [jt,g]),Xa]
  rw [e]at d ⊢
  rw [show exec (u9 k) (.cm 0 (.var 3)) [y0 (.v (.ref r)),y0 (.v (.str t)),y0 (.v (pr b n)),y0 (.v (pr a m)),y0 (.v (.int ((1+max m n:Nat):Int)))] (h.set r (.lst xs))= .next [y0 (.v (.ref r)),y0 (.v (.str t)),y0 (.v (pr b n)),y0 (.v (pr a m)),y0 (.v (.int ((1+max m n:Nat):Int)))] (h.set r (.lst (xs++ [pr a m])))by
   simp_all [Xg j]
   rw [if_pos ⟨l,s⟩,List.set_set]]
  exact GK _ _ _ d.symm
 ·have g:v9 ((13:Int)<((1+max m n:Nat):Int))=false:=decide_eq_false (by omega)
  have e:kh t a b m n=pr (.tup [.str t,a,b]) (1+max m n):=if_neg c
  rw [QU (h1:=h.set r (.lst xs)) (by simp_all [jt,g]),Xa]
  rw [e]at d ⊢
  rw [show exec (u9 k) (.cm 0 (.tup (.cons (.tup (.cons (.var 1) (.cons (.ix (.var 3) (.int 0)) (.cons (.ix (.var 2) (.int 0)) .nil)))) (.cons (.var 4) .nil)))) [y0 (.v (.ref r)),y0 (.v (.str t)),y0 (.v (pr b n)),y0 (.v (pr a m)),y0 (.v (.int ((1+max m n:Nat):Int)))] (h.set r (.lst xs))= .next [y0 (.v (.ref r)),y0 (.v (.str t)),y0 (.v (pr b n)),y0 (.v (pr a m)),y0 (.v (.int ((1+max m n:Nat):Int)))] (h.set r (.lst (xs++ [pr (.tup [.str t,a,b]) (1+max m n)])))by
   simp_all [Xg j,x,u]
   rw [if_pos ⟨l,Df i p t _⟩,List.set_set]]
  exact GK _ _ _ d.symm
abbrev hP (b:List (Ex×Nat)) (a:List (Sy×Nat)):AH:= [.lst (b.map pP),.lst (a.map pS)]
def ZA (h:l≠ []): ∃i x,l=i++ [x]:=⟨l.dropLast,l.getLast h,(List.dropLast_concat_getLast h).symm⟩
def jR (h:1<l.length): ∃i x y,l=i++ [x]++ [y]:=by
 obtain⟨i,y,rfl⟩:=ZA (l:=l) (λz=>by rw [z]at h;exact absurd h (Ai1 _))
 obtain⟨a,x,rfl⟩:=ZA (l:=i) (λz=>by rw [z]at h;exact absurd h (Ag9 _))
 exact⟨a,x,y,rfl⟩
def wM {b:Type}(f) (a: ∀x,Gc (f x)=k9) (l:List b):Gd (l.map f)=true:=Xl f a l
def tr (d) (h):cI .min [.v (.int 13),.v (.int ((d+1:Nat):Int))] h=aU (.int ((min 13 (d+1):Nat):Int)) h:=by
 rw [Lr]
 by_cases c:((d+1:Nat):Int)<13
 ·rw [if_pos c,show min 13 _=d+1 by lia]
 ·rw [if_neg c,show min 13 _=13 by lia];rfl
structure kA (N:List Tx) (ps:List (Ex×Nat)) (ss:List (Sy×Nat)) (m:Nat):Prop where
 p: ∀p∈ps,kf N p
 s: ∀s∈ss,iN N s
 lp:ps.length<=m
 ls:ss.length<=m
def ky (i:Nat) (a b:Ex):Ex:=match i with
 | 0=> .plus a b
 | 1=> .less a b
 | 2=> .both a b
 | _=> .joined a b
def ku (i:Nat):Tx:= [QH,xH,xG,jr].getD i []
def AV (i) (c:i<4) (a b):aN (ky i a b)= .tup [.str (ku i),aN a,aN b]:=by
 match i,c with
 | 0,_=>rfl
 | 1,_=>rfl
 | 2,_=>rfl
 | 3,_=>rfl
def FO (N) (i) (e:i<4) (a b) (c:a.wf N) (d:b.wf N):(ky i a b).wf N:=by
 match i,e with
 | 0,_=>exact⟨c,d⟩
 | 1,_=>exact⟨c,d⟩
 | 2,_=>exact⟨c,d⟩
 | 3,_=>exact⟨c,d⟩
def Bk (i) (c:i<4) (a b):(ky i a b).dp=max a.dp b.dp+1:=by
 match i,c with
 | 0,_=>rfl
 | 1,_=>rfl
 | 2,_=>rfl
 | 3,_=>rfl
def zr {P:α->Prop}(h: ∀x∈l,P x) (a:P y): ∀x∈l++ [y],P x:=λx b=>(Af0.mp b).elim (h x) λz=>Af.mp z▸a
noncomputable abbrev gm (K T:List Tx) (w:Nat) (x:Int) (a c b:Option W):Sl:= [y0 (.v (wD K T)),y0 (.v (.ref 0)),y0 (.v (.ref 1)),y0 (.v (.int (w:Int))),y0 (.v (.int x)),a,c,b]
def XH (e:o= .next Y (hP ps ss)):GZ 2 o= .ok (.v .av) (hP ps ss):=by rw [e];rfl
def vT (a:eval F e Y (hP ps ss)= .ok (.v (pP q)) (hP ps ss)) (h1:Gj Y 1=y0 (.v (.ref 0))) (b:ps.length<=1000):exec F (.cm 1 e) Y (hP ps ss)= .next Y (hP (ps++ [q]) ss):=by
 simp_all [a,h1,Xg (h:=hP ps ss) (r:=0) rfl]
 rw [if_pos ⟨by rw [Gi,Aa];lia,uN q⟩]
 unfold hP
 rw [Ac8];rfl
def pM (a:eval F e Y (hP ps ss)= .ok (.v (pS q)) (hP ps ss)) (h1:Gj Y 2=y0 (.v (.ref 1))) (b:ss.length<=1000):exec F (.cm 2 e) Y (hP ps ss)= .next Y (hP ps (ss++ [q])):=by
 simp_all [a,h1,Xg (h:=hP ps ss) (r:=1) rfl]
 rw [if_pos ⟨by rw [Gi,Aa];lia,W1 q⟩]
 unfold hP
 rw [Ac8];rfl
def HF (k:Nat) (K T:List Tx) (hl:(K++T).length<=100) (g:List (Ex×Nat)) (l:List (Sy×Nat)) (m:Nat) (b:kA (K++T) g l m) (hm:m<=100) (w:Nat) (hw:w<16) (x:Int):
 ∃Q X,kA (K++T) Q X (m+1)/\Q≠ []/\call prog (k+2) "_law_op" [.v (wD K T),.v (.ref 0),.v (.ref 1),.v (.int (w:Int)),.v (.int x)] (hP g l)= .ok (.v .av) (hP Q X):=by
 have E: ∀(i:Int),(w:Int)<i->decide _=true:=λi h=>decide_eq_true h
 have u: ∀(i:Int), ¬(w:Int)<i->decide _=false:=λi h=>decide_eq_false h
 have eP:g≠ []->Gy .eq (.v (.ref 0)) _ (hP g l)=y0 false:=λB=>zL (xs:=g.map pP) rfl (wM pP uN g) (Ac (xM pP 20 g λx hx=>F5 (b.p x hx)) (by decide)) λz=>B (Aj0.mp z)
 have eS:l≠ []->Gy .eq (.v (.ref 1)) (.own []) (hP g l)=y0 false:=λns=>zL (xs:=l.map pS) rfl (wM pS W1 l) (Ac (xM pS 40 l λx hx=>sN (b.s x hx)) (by decide)) λz=>ns (Aj0.mp z)
 have lm:=b.lp
 have ls:=b.ls
 by_cases c5:w<5\/g= []
 ·obtain⟨e,we,de,ee⟩:=Dz k K T hl x (hP g l)
  have t5:Gs (u9 (k+1)) (.or (.cmp .lt (.var 3) (.int 5)) (.cmp .eq (.var 1) (.lst .nil))) (An6 y0 [W.v (wD K T),.v (.ref 0),.v (.ref 1),.v (.int (w:Int)),.v (.int x)]++Aa8 (8-5) u0) (hP g l)= .ok k9 (hP g l):=by
   by_cases c:w<5
   ·have F:=E 5 (by omega)
    simp_all [Qc,F]
   ·have F:=u 5 (by omega)
    obtain rfl:g= []:=c5.elim (λz=>absurd z c) id
    have e0:Gy .eq (.v (.ref 0)) (.own []) (hP [] l)=y0 true:=by simp [Gy,hP,W.dd,KN,res]
    simp_all [Qc,F,e0]
  refine⟨g++ [(e,1)],l,⟨zr b.p ⟨we,by show e.dp+1<=1;omega,by show 1<=13;decide⟩,b.s,by rw [Ab0];simp;omega,by omega⟩,by simp,?_⟩
  rw [Ga (d:=Gu) rfl _ _ _ rfl]
  simp only [Gu]
  rw [Xa,qr (h1:=hP g l) t5,Xa]
  exact XH (vT (q:=(e,1)) (by simp_all [ee];rfl) rfl (by omega))
 have B:g≠ []:=λz=>c5 (.inr z)
 have d5:=u 5 (by have:=λz=>c5 (.inl z);omega)
 have start: ∀(a c:Ss),execs (u9 (k+1)) (.cons (.iff (.or (.cmp .lt (.var 3) (.int 5)) (.cmp .eq (.var 1) (.lst .nil))) a c) .nil) (An6 y0 [W.v (wD K T),.v (.ref 0),.v (.ref 1),.v (.int (w:Int)),.v (.int x)]++Aa8 (8-5) u0) (hP g l)=execs (u9 (k+1)) c (gm K T w x u0 u0 u0) (hP g l):=λa c=>by
  rw [Xa,QU (h1:=hP g l) (by simp_all [Qc,d5,eP B])]
  rfl
 by_cases c7:w<7
 ·have d7:=E 7 (by omega)
  obtain⟨i,⟨e,d⟩,rfl⟩:=ZA B
  have Y:=b.p (e,d) (Ab1 _ Aa3)
  have bi: ∀p∈i,kf (K++T) p:=λp I=>b.p p (Ac9 _ I)
  have li:i.length+1<=m:=by have:=lm;rw [Ab0]at this;exact this
  have w56:w=5\/w=6:=by omega
  have L:(d:Int)+1=((d+1:Nat):Int):=rfl
  have mn:=tr d
  obtain⟨V,we,de,ee⟩: ∃V:Ex,V.wf (K++T)/\V.dp+1<=min 13 (d+1)/\ ∀h,exec (u9 (k+1)) (.iff (.cmp .lt (.var 6) (.int 13)) (.cons (.ak 5 (.tup (.cons (.ix (.lst (.cons (.str Wz) (.cons (.str Qz) .nil))) (.bin .sub (.var 3) (.int 5))) (.cons (.var 5) .nil)))) .nil) .nil) (gm K T w x (y0 (.v (aN e))) (y0 (.v (.int (d:Int)))) u0) h= .next (gm K T w x (y0 (.v (aN V))) (y0 (.v (.int (d:Int)))) u0) h:=by
   have q1:e.dp+1<=d:=Y.dp
   have q2:d<=13:=Y.le
   by_cases c:d<13
   ·have dd:v9 ((d:Int)<(13:Int))=true:=decide_eq_true (by omega)
    rcases w56 with rfl | rfl
    ·refine⟨.turned e,Y.wf,by show e.dp+1+1<=_;omega,λh=> ?_⟩
     rw [qr (h1:=h) (by simp_all [Qc,dd]),Xa]
     simp_all [Wm,xt]
     rfl
    ·refine⟨.closed e,Y.wf,by show e.dp+1+1<=_;omega,λh=> ?_⟩
     rw [qr (h1:=h) (by simp_all [Qc,dd]),Xa]
     simp_all [Wm,xt]
     rfl
   ·have dd:v9 ((d:Int)<(13:Int))=false:=decide_eq_false (by omega)
    refine⟨e,Y.wf,by omega,λh=> ?_⟩
    rw [QU (h1:=h) (by simp_all [Qc,dd])]
    rfl
  refine⟨i++ [(V,min 13 (d+1))],l,⟨zr bi ⟨we,de,Nat.min_le_left _ _⟩,b.s,by rw [Ab0];simp;omega,by omega⟩,by simp,?_⟩
  rw [Ga (d:=Gu) rfl _ _ _ rfl]
  simp only [Gu]
  rw [start,Xa,qr (h1:=hP (i++ [(e,d)]) l) (by simp_all [Qc,d7])]
  have cd:bw (hP (i++ [(e,d)]) l) (y0 (.v (.ref 0)))=y0 (0,i.map pP++ [pr (aN e) d]):=by
   show y0 (0,(i++ [(e,d)]).map pP)=_
   rw [Ac8];rfl
  refine fx (by
   simp_all [cd,QA,Zu]
   rfl) ?_
  rw [za (ee _),Xa]
  exact XH (vT (q:=(V,min 13 (d+1))) (by simp_all [Jc,L,mn];rfl) rfl (by omega))
 have d7:=u 7 (by omega)
 by_cases c11:w<11
 ·have N:=E 11 (by omega)
  have M:=zX (h:=hP g l) (r:=0) (xs:=g.map pP) rfl
  rw [Aa]at M
  rw [Ga (d:=Gu) rfl _ _ _ rfl]
  simp only [Gu]
  rw [start,Xa,QU (h1:=hP g l) (by simp_all [Qc,d7]),Xa,qr (h1:=hP g l) (by simp_all [Qc,N]),Xa]
  by_cases c1:1<g.length
  ·have O:v9 ((1:Int)<(g.length:Int))=true:=decide_eq_true (by omega)
   rw [qr (h1:=hP g l) (by simp_all [M,jt,O]),Xa]
   obtain⟨i,⟨e,d⟩,⟨A,n⟩,rfl⟩:=jR c1
   have P:=b.p (e,d) (Ac9 _ (Ab1 _ Aa3))
   have Z:=b.p (A,n) (Ab1 _ Aa3)
   have bi: ∀p∈i,kf (K++T) p:=λp I=>b.p p (Ac9 _ (Ac9 _ I))
   have li:i.length+2<=m:=by have:=lm;rw [Ab0,Ab0]at this;exact this
   have S:w-7<4:=by omega
   have ej:(w:Int)-7=((w-7:Nat):Int):=by omega
   have aj:aX [D.str QH,.str xH,.str xG,.str jr] ((w-7:Nat):Int)=y0 (.str (ku (w-7))):=by
    rw [Qh _ _ (by show w-7<4;exact S)]
    have: ∀j,j<4-> [D.str QH,.str xH,.str xG,.str jr][j]? =y0 (.str (ku j)):=λj S=>by
     match j,S with
     | 0,_=>rfl
     | 1,_=>rfl
     | 2,_=>rfl
     | 3,_=>rfl
    exact this _ S
   have C:=sH k 0 (hP (i++ [(e,d)]++ [(A,n)]) l) (i.map pP) (aN e) (aN A) d n (ku (w-7)) (by show y0 (Cell.lst ((i++ [(e,d)]++ [(A,n)]).map pP))=_;rw [Ac8,Ac8];rfl) (qf e) (qf A) (by rw [Aa];omega)
   obtain⟨q,oq,eq⟩: ∃q:Ex×Nat,kf (K++T) q/\kh (ku (w-7)) (aN e) (aN A) d n=pP q:=by
    by_cases c:13<1+max d n
    ·exact⟨(e,d),P,if_pos c⟩
    ·refine⟨(ky (w-7) e A,1+max d n),⟨FO _ _ S _ _ P.wf Z.wf,?_,by show 1+max d n<=13;omega⟩,?_⟩
     ·show(ky (w-7) e A).dp+1<=1+max d n
      rw [Bk _ S]
      have q1:e.dp+1<=d:=P.dp
      have q2:A.dp+1<=n:=Z.dp
      omega
     ·show(if 13<1+max d n then _ else _)=pr (aN (ky (w-7) e A)) (1+max d n)
      rw [if_neg c,AV _ S]
   rw [eq]at C
   have C:call prog (k+1) "_law_put" [.v (.ref 0),.v (.str (ku (w-7)))] (hP (i++ [(e,d)]++ [(A,n)]) l)= .ok (.v .av) (hP (i++ [q]) l):=by
    rw [C]
    show R.ok (W.v .av) [.lst (i.map pP++ [pP q]),.lst (l.map pS)]= .ok (.v .av) [.lst ((i++ [q]).map pP),.lst (l.map pS)]
    rw [Ac8];rfl
   refine⟨i++ [q],l,⟨zr bi oq,b.s,by rw [Ab0];simp;omega,by omega⟩,by simp,?_⟩
   exact XH (by simp_all [Wm,ej,xt,aj,C];rfl)
  ·have O:v9 ((1:Int)<(g.length:Int))=false:=decide_eq_false (by omega)
   refine⟨g,l,⟨b.p,b.s,by omega,by omega⟩,B,?_⟩
   rw [QU (h1:=hP g l) (by simp_all [M,jt,O])]
   exact GK _ _ _ rfl
 have N:=u 11 (by omega)
 have J: ∀(a c e:Ss),execs (u9 (k+1)) (.cons (.iff (.cmp .lt (.var 3) (.int 7)) a (.cons (.iff (.cmp .lt (.var 3) (.int 11)) c e) .nil)) .nil) (gm K T w x u0 u0 u0) (hP g l)=execs (u9 (k+1)) e (gm K T w x u0 u0 u0) (hP g l):=λa c e=>by
  rw [Xa,QU (h1:=hP g l) (by simp_all [Qc,d7]),Xa,QU (h1:=hP g l) (by simp_all [Qc,N])]
 by_cases G:w<14\/l= []
 ·obtain⟨f,wf,df,ef⟩:=vN k (K++T) g b.p B x (hP g l) rfl
  have hY:Gs (u9 (k+1)) (.or (.cmp .lt (.var 3) (.int 14)) (.cmp .eq (.var 2) (.lst .nil))) (gm K T w x u0 u0 u0) (hP g l)= .ok k9 (hP g l):=by
   by_cases c:w<14
   ·have F:=E 14 (by omega)
    simp_all [Qc,F]
   ·have F:=u 14 (by omega)
    obtain rfl:l= []:=G.elim (λz=>absurd z c) id
    have e0:Gy .eq (.v (.ref 1)) (.own []) (hP g [])=y0 true:=by simp [Gy,hP,W.dd,KN,res]
    simp_all [Qc,F,e0]
  refine⟨g,l++ [(.fact f,1)],⟨b.p,zr (y:=(Sy.fact f,1)) b.s ⟨wf,by show f.dp<=1+11;omega,Aa6 1,by show 1<=13;decide⟩,by omega,by rw [Ab0];simp;omega⟩,B,?_⟩
  rw [Ga (d:=Gu) rfl _ _ _ rfl]
  simp only [Gu]
  rw [start,J,Xa,qr (h1:=hP g l) hY,Xa]
  exact XH (pM (q:=(.fact f,1)) (by simp_all [ef];rfl) rfl (by omega))
 have ns:l≠ []:=λz=>G (.inr z)
 have d14:=u 14 (by have:=λz=>G (.inl z);omega)
 have H: ∀(a e:Ss),execs (u9 (k+1)) (.cons (.iff (.or (.cmp .lt (.var 3) (.int 14)) (.cmp .eq (.var 2) (.lst .nil))) a e) .nil) (gm K T w x u0 u0 u0) (hP g l)=execs (u9 (k+1)) e (gm K T w x u0 u0 u0) (hP g l):=λa e=>by
  rw [Xa,QU (h1:=hP g l) (by simp_all [Qc,d14,eS ns])]
 have w14: ¬w<14:=λz=>G (.inl z)
 by_cases c15:w=14
 ·have F:Gy .eq (.v (.int (w:Int))) (.v (.int 14)) (hP g l)=y0 true:=by rw [qp,decide_eq_true (by omega)]
  obtain⟨i,⟨s,d⟩,rfl⟩:=ZA ns
  have os:=b.s (s,d) (Ab1 _ Aa3)
  have bi: ∀p∈i,iN (K++T) p:=λp I=>b.s p (Ac9 _ I)
  have li:i.length+1<=m:=by have:=ls;rw [Ab0]at this;exact this
  have L:(d:Int)+1=((d+1:Nat):Int):=rfl
  have mn:=tr d
  obtain⟨U,ws,ds,es⟩: ∃U:Sy,U.wf (K++T)/\U.dp<=min 13 (d+1)+11/\ ∀h,exec (u9 (k+1)) (.iff (.cmp .lt (.var 6) (.int 13)) (.cons (.ak 7 (.tup (.cons (.str oe) (.cons (.var 7) .nil)))) .nil) .nil) (gm K T w x u0 (y0 (.v (.int (d:Int)))) (y0 (.v (aK s)))) h= .next (gm K T w x u0 (y0 (.v (.int (d:Int)))) (y0 (.v (aK U)))) h:=by
   have q1:s.dp<=d+11:=os.dp
   have q2:d<=13:=os.le
   by_cases c:d<13
   ·have dd:v9 ((d:Int)<(13:Int))=true:=decide_eq_true (by omega)
    refine⟨.neg s,os.wf,by show s.dp+1<=_;omega,λh=> ?_⟩
    rw [qr (h1:=h) (by simp_all [Qc,dd]),Xa]
    simp_all []
    rfl
   ·have dd:v9 ((d:Int)<(13:Int))=false:=decide_eq_false (by omega)
    refine⟨s,os.wf,by omega,λh=> ?_⟩
    rw [QU (h1:=h) (by simp_all [Qc,dd])]
    rfl
  refine⟨g,i++ [(U,min 13 (d+1))],⟨b.p,zr bi ⟨ws,ds,by show 1<=min 13 (d+1);omega,Nat.min_le_left _ _⟩,by omega,by rw [Ab0];simp;omega⟩,B,?_⟩
  rw [Ga (d:=Gu) rfl _ _ _ rfl]
  simp only [Gu]
  rw [start,J,H,Xa,qr (h1:=hP g (i++ [(s,d)])) (by simp_all [F])]
  have cd:bw (hP g (i++ [(s,d)])) (y0 (.v (.ref 1)))=y0 (1,i.map pS++ [pr (aK s) d]):=by
   show y0 (1,(i++ [(s,d)]).map pS)=_
   rw [Ac8];rfl
  refine fx (by
   simp_all [cd,QA,Zu]
   rfl) ?_
  rw [za (es _),Xa]
  exact XH (pM (q:=(U,min 13 (d+1))) (by simp_all [Jc,L,mn];rfl) rfl (by omega))
 have d15:Gy .eq (.v (.int (w:Int))) (.v (.int 14)) (hP g l)=y0 false:=by rw [qp,decide_eq_false (by omega)]
 have M:=zX (h:=hP g l) (r:=1) (xs:=l.map pS) rfl
 rw [Aa]at M
 rw [Ga (d:=Gu) rfl _ _ _ rfl]
 simp only [Gu]
 rw [start,J,H,Xa,QU (h1:=hP g l) (by simp_all [d15]),Xa]
 by_cases c1:1<l.length
 ·have O:v9 ((1:Int)<(l.length:Int))=true:=decide_eq_true (by omega)
  rw [qr (h1:=hP g l) (by simp_all [M,jt,O]),Xa]
  obtain⟨i,⟨s,d⟩,⟨v,n⟩,rfl⟩:=jR c1
  have P:=b.s (s,d) (Ac9 _ (Ab1 _ Aa3))
  have Z:=b.s (v,n) (Ab1 _ Aa3)
  have bi: ∀p∈i,iN (K++T) p:=λp I=>b.s p (Ac9 _ (Ac9 _ I))
  have li:i.length+2<=m:=by have:=ls;rw [Ab0,Ab0]at this;exact this
  have m2:=Qo x 2 (by decide)
  obtain⟨z,hz,ez⟩:=jf x 2 (by decide)
  have ez:x % 2=(z:Int):=ez
  rw [ez]at m2
  obtain⟨t,f,ft,at2,fw,fd⟩: ∃(t:Tx) (f:Sy->Sy->Sy),(∀ a b,aK (f a b)= .tup [.str t,aK a,aK b])/\aX [D.str mQ,.str mi] (z:Int)=y0 (.str t)/\(∀ a b,a.wf (K++T)->b.wf (K++T)->(f a b).wf (K++T))/\ ∀a b,(f a b).dp=max a.dp b.dp+1:=by
   have z01:z=0\/z=1:=by omega
   rcases z01 with rfl | rfl
   ·exact⟨mQ,.dq,λ_ _=>rfl,rfl,λ_ _ o h2=>⟨o,h2⟩,λ_ _=>rfl⟩
   ·exact⟨mi,.eB,λ_ _=>rfl,rfl,λ_ _ o h2=>⟨o,h2⟩,λ_ _=>rfl⟩
  have C:=sH k 1 (hP g (i++ [(s,d)]++ [(v,n)])) (i.map pS) (aK s) (aK v) d n t (by show y0 (Cell.lst ((i++ [(s,d)]++ [(v,n)]).map pS))=_;rw [Ac8,Ac8];rfl) (Zv s) (Zv v) (by rw [Aa];omega)
  obtain⟨q,oq,eq⟩: ∃q:Sy×Nat,iN (K++T) q/\kh t (aK s) (aK v) d n=pS q:=by
   by_cases c:13<1+max d n
   ·exact⟨(s,d),P,if_pos c⟩
   ·refine⟨(f s v,1+max d n),⟨fw _ _ P.wf Z.wf,?_,by show 1<=1+max d n;omega,by show 1+max d n<=13;omega⟩,?_⟩
    ·show(f s v).dp<=1+max d n+11
     rw [fd]
     have q1:s.dp<=d+11:=P.dp
     have q2:v.dp<=n+11:=Z.dp
     omega
    ·show(if 13<1+max d n then _ else _)=pr (aK (f s v)) (1+max d n)
     rw [if_neg c,ft]
  rw [eq]at C
  have C:call prog (k+1) "_law_put" [.v (.ref 1),.v (.str t)] (hP g (i++ [(s,d)]++ [(v,n)]))= .ok (.v .av) (hP g (i++ [q])):=by
   rw [C]
   show R.ok (W.v .av) [.lst (g.map pP),.lst (i.map pS++ [pS q])]= .ok (.v .av) [.lst (g.map pP),.lst ((i++ [q]).map pS)]
   rw [Ac8];rfl
  refine⟨g,i++ [q],⟨b.p,zr bi oq,by omega,by rw [Ab0];simp;omega⟩,B,?_⟩
  exact XH (by simp_all [m2,xt,at2,C];rfl)
 ·have O:v9 ((1:Int)<(l.length:Int))=false:=decide_eq_false (by omega)
  refine⟨g,l,⟨b.p,b.s,by omega,by omega⟩,B,?_⟩
  rw [QU (h1:=hP g l) (by simp_all [M,jt,O])]
  exact GK _ _ _ rfl
def nR (i j:Int) (a:0<j) (h1:j<2000) (h:AH):cI .divmod [.v (.int i),.v (.int j)] h=aU (.tup [.int (i / j),.int (i % j)]) h:=by
 rw [Zj,if_pos (by rw [Kf];lia)]
noncomputable abbrev dW (K T:List Tx) (x:Int) (f c e d a b:Option W):Sl:= [y0 (.v (wD K T)),y0 (.v (.int x)),y0 (.v (.ref 0)),y0 (.v (.ref 1)),f,c,e,d,a,b]
def Co (k) (K T) (i:(K++T).length<=100) (ps) (ss) (m) (b:kA (K++T) ps ss m) (n:m<=100) (x) (x4 x5 x6):
 ∃a c y l h,kA (K++T) a c (m+1)/\a≠ []/\execs (u9 (k+2)) xl (dW K T x x4 x5 x6 u0 u0 u0) (hP ps ss)= .next (dW K T y x4 l h u0 u0 u0) (hP a c):=by
 obtain⟨w,p,d⟩:=jf x 16 (by decide)
 have d:x % 16= w:=d
 have e:=nR x 16 (by decide) (by decide) (hP ps ss)
 rw [d]at e
 have j:=nR (x / 16) 1600 (by decide) (by decide) (hP ps ss)
 obtain⟨a,c,f,o,g⟩:=HF k K T i ps ss m b n w p (x / 16 % 1600)
 refine⟨a,c,x / 16 / 1600,y0 (.v (.int w)),y0 (.v (.int (x / 16 % 1600))),f,o,?_⟩
 refine(za (by simp_all [e];rfl)).trans ?_
 refine(za (by simp_all [j];rfl)).trans ?_
 simp_all [g]
theorem vi (k:Nat) (K T:List Tx) (A:(K++T).length<=100): ∀(l:List Nat) (a:List (Ex×Nat)) (f:List (Sy×Nat)) (m:Nat) (x:Int) (j d e:Option W),kA (K++T) a f m->(l= []->a≠ [])->m+l.length<=100 →
 ∃c g y F o r,kA (K++T) c g (m+l.length)/\c≠ []/\Gq (Gp [4] k9) (λY h=>execs (u9 (k+2)) xl Y h) (l.map λ(i:Nat)=> .int (i:Int)) (dW K T x j d e u0 u0 u0) (hP a f)= .next (dW K T y F o r u0 u0 u0) (hP c g)
 | [],a,f,m,x,j,d,e,b,w,v=>⟨a,f,x,j,d,e,b,w rfl,rfl⟩
 | i::l,a,f,m,x,j,d,e,b,w,v=>by
  rw [Ab7]at v
  obtain⟨t,n,y,o,r,D,q,B⟩:=Co k K T A a f m b (by omega) x (y0 (.v (.int (i:Int)))) d e
  obtain⟨u,p,z,H,G,I,E,s,C⟩:=vi k K T A l t n (m+1) y (y0 (.v (.int (i:Int)))) o r D (λ_=>q) (by omega)
  refine⟨u,p,z,H,G,I,by rw [Ab7,show m+(l.length+1)=m+1+l.length by omega];exact E,s,?_⟩
  rw [Aa9,qa (Y1:=dW K T x (y0 (.v (.int (i:Int)))) d e u0 u0 u0) rfl B,C]
theorem sD {F:Fx}(K T:List Tx){N:List Tx}(x:Int) (d a b:Option W) (h:AH): ∀(l:List (Sy×Nat)) (s:Sy) (f g:Option W) (c:Nat),(∀ p∈l,iN N p)->s.wf N->s.dp<=c->24<=c →
 ∃s' i m,s'.wf N/\s'.dp<=c+l.length/\Gq (Gp [8,9] y9) (λY h=>execs F jh Y h) (l.map pS) (dW K T x d a b (y0 (.v (aK s))) f g) h= .next (dW K T x d a b (y0 (.v (aK s'))) i m) h
 | [],s,f,g,c,_,j,n,_=>⟨s,f,g,j,n,rfl⟩
 | p::l,s,f,g,c,o,j,n,y=>by
  have k:=o p Aa3
  have z:=k.dp
  have v:=k.le
  have t:(Sy.dq s p.1).dp<=c+1:=by
   show max s.dp p.1.dp+1<=c+1
   omega
  obtain⟨s',i,m,u,w,e⟩:=sD (F:=F) K T x d a b h l (.dq s p.1) (y0 (.v (aK p.1))) (y0 (.v (.int (p.2:Int)))) (c+1) (λq r=>o q (Aa1 _ r)) ⟨j,k.wf⟩ t (by omega)
  refine⟨s',i,m,u,by rw [Ab7];omega,?_⟩
  rw [Aa9,qa (Y1:=dW K T x d a b (y0 (.v (aK s))) (y0 (.v (aK p.1))) (y0 (.v (.int (p.2:Int))))) (Y2:=dW K T x d a b (y0 (.v (aK (.dq s p.1)))) (y0 (.v (aK p.1))) (y0 (.v (.int (p.2:Int))))) rfl (by
   simp only [jh]
   rw [Xa]
   simp_all []
   rfl),e]
def BV {h:AH}{r:Nat}{x:D}{xs:List D}(b:h[r]? =y0 (.lst (x::xs))):gv (.v (.ref r)) (y0 1) u0 h= .ok (.own xs) h:=by
 have e:(W.v (.ref r)).br h=y0 (x::xs):=by simp [W.br,b]
 show(match (W.v _).br h with
  | some xs=>R.ok _ h
  | none=> .fail)=_
 rw [e]
 show R.ok _ h=_
 rw [show cut (x::xs) _ u0=xs from by
  have c:bh (x::xs).length 0 (y0 1)=1:=by simp [bh]
  have a:bh (x::xs).length (x::xs).length u0=(x::xs).length:=rfl
  unfold cut
  rw [c,a]
  simp]
def Q1 (k) (K T) (A:(K++T).length<=100) (x): ∃s:Sy,s.wf (K++T)/\s.dp<=40/\call prog (k+3) "_law_saying" [.v (wD K T),.v (.int x)] []= .ok (.v (aK s)) []:=by
 obtain⟨a,c,y,n,j,i,b,G,e⟩:=vi k K T A (Aa0 7) [] [] 0 x u0 u0 u0 ⟨λ_ h=>absurd h Ac2,λ_ h=>absurd h Ac2,Ah5 _,Ah5 _⟩ (λh=>by cases h) (by decide)
 have u: ∀ c y i,(∀ p∈c,iN (K++T) p)->c≠ []->c.length<=10-> ∃s:Sy,s.wf (K++T)/\s.dp<=40/\GZ 0 (execs (u9 (k+2)) (.cons (.ak 7 (.ix (.ix (.var 3) (.int 0)) (.int 0))) (.cons (.for [8,9] y9 (.seq (.fJ (.var 3) (.int 1))) jh) (.cons (.ret (.var 7)) .nil))) (dW K T y n j i u0 u0 u0) (hP a c))= .ok (.v (aK s)) []:=by
  intro c y i o H A
  cases c with
  | nil=>exact absurd rfl H
  | cons p l=>
   have E:=o p Aa3
   have X:=E.dp
   have U:=E.le
   obtain⟨t,P,S,g,v,e⟩:=sD K T y n j i _ l p.1 u0 u0 24 (λq I=>o q (Aa1 _ I)) E.wf (by omega) (Aa6 _)
   rw [Ab7]at A
   refine⟨t,g,by omega,?_⟩
   have F:=n9 (h:=hP a (p::l)) (r:=1) (xs:=(p::l).map pS) rfl 0
   have J: ∀h,dU (.v (pS p)) (.v (.int 0)) h=y0 (aK p.1):=λ_=>rfl
   have L:aX ((p::l).map pS) 0=y0 (pS p):=by rw [Aa9,Jq]
   rw [L]at F
   refine fx (by simp_all [F,J];rfl) ?_
   have sl:=BV (h:=hP a (p::l)) (r:=1) (x:=pS p) (xs:=l.map pS) rfl
   rw [za (h1:=hP a (p::l)) (Y1:=dW K T y n j i (y0 (.v (aK t))) P S) (by
    rw [exec,show Gr (u9 (k+2)) (.seq (.fJ (.var 3) (.int 1))) (dW K T y n j i (y0 (.v (aK p.1))) u0 u0) (hP a (p::l))= .ok (l.map pS) (hP a (p::l))by simp_all [sl],R.az]
    exact e)]
   rw [jb (w:= .v (aK t)) (h1:=hP a (p::l)) rfl]
   show fin 0 (.v (aK t)) (hP a (p::l))=_
   unfold fin
   rw [if_neg (by show ¬(2:Nat)=0;decide),if_pos (show (W.v (aK t)).keep=k9 from Zv t)]
   rfl
 rw [Ga (d:=GG) rfl _ _ _ rfl]
 simp only [GG]
 rw [za (h1:= [.lst []]) (Y1:= [y0 (.v (wD K T)),y0 (.v (.int x)),y0 (.v (.ref 0)),u0,u0,u0,u0,u0,u0,u0]) (by simp_all [Gd,if_true];rfl)]
 rw [za (h1:=hP [] []) (Y1:=dW K T x u0 u0 u0 u0 u0 u0) (by simp_all [Gd,if_true];rfl)]
 rw [za (h1:=hP a c) (Y1:=dW K T y n j i u0 u0 u0) (by
  rw [exec,QB,wd (m:=7) (by rw [eval];rfl) (by decide),R.az]
  exact e)]
 by_cases o:c= []
 ·subst o
  have N:=nR y 1600 (by decide) (by decide) (hP a [])
  obtain⟨f,wf,V,D⟩:=vN (k+1) (K++T) a b.p G (y % 1600) (hP a []) rfl
  have D:call prog (k+2) "_law_fact" [.v (.ref 0),.v (.int (y % 1600))] (hP a [])= .ok (.v (eh f)) (hP a []):=D
  have Q:Gc (pr (aK (.fact f)) 1)=true:=W1 (.fact f,1)
  have B:Gy .eq (.v (.ref 1)) (.own []) (hP a [])=y0 true:=by simp [Gy,hP,W.dd,KN,res]
  obtain⟨s,g,v,C⟩:=u [(.fact f,1)] (y / 1600) (y0 (.v (.int (y % 1600)))) (λp O=>by
   obtain rfl:=Af.mp O
   exact⟨wf,by show f.dp<=1+11;omega,Aa6 1,by show 1<=13;decide⟩) (by simp) (show 1<=10 by decide)
  refine⟨s,g,v,?_⟩
  rw [za (h1:=hP a [(.fact f,1)]) (Y1:=dW K T (y / 1600) n j (y0 (.v (.int (y % 1600)))) u0 u0 u0) (by
   rw [qr (h1:=hP a []) (by simp_all [B])]
   rw [za (h1:=hP a []) (Y1:=dW K T (y / 1600) n j (y0 (.v (.int (y % 1600)))) u0 u0 u0) (by simp_all [N])]
   rw [Xa]
   simp_all [Xg (h:=hP a []) (r:=1) rfl,D]
   rw [if_pos ⟨by rw [Gi];decide,Q⟩]
   rfl)]
  exact C
 ·have B:Gy .eq (.v (.ref 1)) (.own []) (hP a c)=y0 false:=zL (xs:=c.map pS) rfl (wM pS W1 c) (Ac (xM pS 40 c λx M=>sN (b.s x M)) (by decide)) λz=>o (Aj0.mp z)
  have bl:=b.ls
  rw [Aj4]at bl
  obtain⟨s,g,v,C⟩:=u c y i b.s o (by omega)
  refine⟨s,g,v,?_⟩
  refine fx (by
   rw [QU (h1:=hP a c) (by simp_all [B])]
   rfl) ?_
  exact C
def uR (i:Nat) (j:Nat) (h:i<2000000) (a:j<100):Gn .pow (i:Int) (j:Int)=y0 ((i:Int) ^ j):=by
 have: 0<=(j:Int)/\ j<=BP/\((i:Int)).natAbs<iO:=by rw [KY,G7];refine⟨by lia,by lia,?_⟩;rw [Int.natAbs_natCast];lia
 show(if _ then _ else _)=_
 rw [if_pos this];rfl
def Q7 (k) (x) (h): ∃y:Int,call prog (k+1) "_law_spread" [.v (.int x)] h= .ok (.v (.int y)) h:=by
 have c:=Qo x 1000003 (by decide)
 obtain⟨u,i,a⟩:=jf x 1000003 (by decide)
 have a:x % 1000003= u:=a
 rw [a]at c
 have b: u+29=((u+29:Nat):Int):=rfl
 have d:Gn .pow _ 11=y0 _:=uR (u+29) 11 (by omega) (by decide)
 have e:Gn .pow _ 7=y0 _:=uR (u+29) 7 (by omega) (by decide)
 have f:Gn .mul 31 (((u+29:Nat):Int) ^ 7)=y0 (31*((u+29:Nat):Int) ^ 7):=by
  show(if _ then _ else _)=_
  rw [if_pos (.inl (by rw [Pd];decide))]
 have g:=jz (((u+29:Nat):Int) ^ 11+31*((u+29:Nat):Int) ^ 7) 13 (by decide) (by decide)
 refine⟨(((u+29:Nat):Int) ^ 11+31*((u+29:Nat):Int) ^ 7) / 13,?_⟩
 rw [Ga rfl _ _ _ rfl]
 simp only [GV]
 refine fx (by simp_all [c,Jc,b];rfl) ?_
 rw [jb (w:= .v (.int ((((u+29:Nat):Int) ^ 11+31*((u+29:Nat):Int) ^ 7) / 13))) (h1:=h) (xc rfl (by simp_all [d,e,f,Jc,g]))]
 exact Gb _ _ _ rfl
def AN (f:α->β) (xs) (lo hi):cut (xs.map f) lo hi=(cut xs lo hi).map f:=by
 unfold cut
 rw [Aa,List.map_take,List.map_drop]
def Ey (xs:List α) (lo hi):(cut xs lo hi).length<=xs.length:=by
 unfold cut
 rw [Ag0,Ai8]
 lia
def AR (k) (a:List Int) (v:a.length<=63) (K T) (p:(K++T).length<=100) (b u:Nat): ∃ss:List Sy,ss.length<=63/\(∀ s∈ss,s.wf (K++T)/\s.dp<=40)/\call prog (k+4) "_law_sayings" [.v (.lst (a.map .int)),.v (wD K T),.v (.int (b:Int)),.v (.int (u:Int))] []= .ok (.v (.tup (ss.map aK))) []:=by
 have fin: ∀f:List Int,f.length<=63-> ∃ss:List Sy,ss.length<=63/\(∀ s∈ss,s.wf (K++T)/\s.dp<=40)/\exec (u9 (k+3)) (.ret (.bi .tuple (.cons Zf .nil))) [y0 (.v (.lst (a.map .int))),y0 (.v (wD K T)),y0 (.v (.int (b:Int))),y0 (.v (.int (u:Int))),y0 (.v (.lst (f.map .int)))] []= .ret (.v (.tup (ss.map aK))) []:=λf j=>by
  obtain⟨g,h⟩: ∃g:Int->Sy,∀x,(g x).wf _/\(g x).dp<=40/\call prog _ "_law_saying" [.v _,.v (.int x)] []= .ok (.v (aK (g x))) []:=⟨fun x=>Classical.choose (Q1 k K T p x),fun x=>Classical.choose_spec (Q1 k K T p x)⟩
  refine⟨f.map g,by rw [Aa];exact j,λs y=> ?_,?_⟩
  ·obtain⟨x,_,rfl⟩:=Ac1.mp y
   exact⟨(h x).1,(h x).2.1⟩
  ·refine xc rfl ?_
   have e:eval (u9 (k+3)) Zf [y0 (.v (.lst (a.map .int))),y0 (.v (wD K T)),y0 (.v (.int (b:Int))),y0 (.v (.int (u:Int))),y0 (.v (.lst (f.map .int)))] []= .ok (.own (f.map λx=>aK (g x))) []:=by
    unfold Zf
    refine Qf D.int (λx=>aK (g x)) f (oG (by simp_all [])) (by omega) λx w=>⟨.v (aK (g x)),?_,rfl⟩
    have m:=(h x).2.2
    simp_all [m]
   rw [Ac6]
   simp_all [e]
   rfl
 have l:=uw (k+2) a 0 []
 have q:=Qo (a.getD 0 0) 2 (by decide)
 have r:(b:Int)+(u:Int)=((b+u:Nat):Int):=rfl
 rw [Ga (d:=GB) rfl _ _ _ rfl]
 simp only [GB]
 have j:(cut a (y0 (b:Int)) (y0 ((b+u:Nat):Int))).length<=63:=Ac (Ey _ _ _) v
 rw [za (h1:= []) (Y1:= [y0 (.v (.lst (a.map .int))),y0 (.v (wD K T)),y0 (.v (.int (b:Int))),y0 (.v (.int (u:Int))),y0 (.v (.lst ((cut a (y0 (b:Int)) (y0 ((b+u:Nat):Int))).map .int)))]) (by
  simp_all [Jc,int?_int,F8,AN,r])]
 generalize cut a (y0 (b:Int)) (y0 ((b+u:Nat):Int))=f at j
 have l:call prog (k+3) "_law_nth" [.v (.lst (a.map .int)),.v (.int 0)] []= .ok (.v (.int (a.getD 0 0))) []:=l
 obtain⟨g,h⟩: ∃g:Int->Int,∀x,call prog (k+3) "_law_spread" [.v (.int x)] []= .ok (.v (.int (g x))) []:=⟨fun x=>Classical.choose (Q7 (k+2) x []),fun x=>Classical.choose_spec (Q7 (k+2) x [])⟩
 by_cases c:a.getD 0 0 % 2=1
 ·have t:eval (u9 (k+3)) Jj [y0 (.v (.lst (a.map .int))),y0 (.v (wD K T)),y0 (.v (.int (b:Int))),y0 (.v (.int (u:Int))),y0 (.v (.lst (f.map .int)))] []= .ok (.own ((f.map g).map .int)) []:=by
   rw [Ac6]
   unfold Jj
   refine Qf D.int (λx=> .int (g x)) f (oG (by simp_all [])) (by omega) λx w=>⟨.v (.int (g x)),?_,rfl⟩
   have m:=h x
   simp_all [m]
  obtain⟨ss,i,n,o⟩:=fin (f.map g) (by rw [Aa];exact j)
  refine⟨ss,i,n,?_⟩
  refine fx (by
   rw [qr (h1:= []) (by simp_all [l,q,qp,c,decide_true])]
   rw [Xa]
   simp_all [t]
   rfl) ?_
  rw [jb o]
  exact Gb _ _ _ rfl
 ·obtain⟨ss,i,n,o⟩:=fin f j
  refine⟨ss,i,n,?_⟩
  rw [Za (by simp_all [l,q,qp,c,decide_false])]
  rw [jb o]
  exact Gb _ _ _ rfl
theorem sj: ∀(ws) (c),(dg ws c).length=ws.length
 | [],_=>rfl
 | w::ws,c=>by rw [dg,Ab7,sj ws,Ab7]
theorem uh: ∀(ws:List Nat) (c),(∀ w∈ws,w<=16)->fZ (ws.zip (dg ws c))
 | [],_,_=>λq h=>by cases h
 | w::ws,c,a=>λq h=>by
  rcases Ab2.mp (show q∈(w,c % 2 ^ w)::ws.zip (dg ws (c / 2 ^ w))from h)with rfl | h
  ·exact⟨Ao2 _ (Ah6 (by decide)),a w Aa3⟩
  ·exact uh ws _ (λx b=>a x (Aa1 _ b)) q h
theorem rJ: ∀(ws:List Nat) (c),c<2 ^ ws.sum->cd (ws.zip (dg ws c))=c
 | [],c,h=>by
  have:c=0:=by simpa using h
  rw [this];rfl
 | w::ws,c,h=>by
  show c % 2 ^ w+2 ^ w*cd (ws.zip (dg ws (c / 2 ^ w)))=c
  rw [rJ ws (c / 2 ^ w) ?_,Nat.mod_add_div]
  rw [Ai3,Al,Ai2]at h
  exact Nat.div_lt_of_lt_mul (by rw [Ai2];exact h)
def Pg (g:n<=4) (l:K<=4) (j:T<=4) (i:c<2 ^ (bC n K T).sum): ∃ks ts,ks.length=K/\ts.length=T/\Wl n ks ts/\Cw n ks ts=c/\ks++ts=dg (bC n K T) c:=by
 have h:=Ad7 g g
 have k:=sj (bC n K T) c
 rw [Zq]at k
 have ok:=uh (bC n K T) c λw a=>by
  obtain a | a:=Af0.mp a
  ·rw [(Al2.mp a).2];lia
  ·rw [(Al2.mp a).2];exact h
 have e:=rJ _ c i
 have b:((dg (bC n K T) c).take K).length=K:=by rw [Ag0];lia
 have l2:((dg (bC n K T) c).drop K).length=T:=by rw [Ai8];lia
 have f:=List.take_append_drop K (dg (bC n K T) c)
 have z:=uQ n ((dg (bC n K T) c).take K) ((dg (bC n K T) c).drop K)
 rw [b,l2,f]at z
 rw [z]at ok
 refine⟨_,_,b,l2,⟨g,by rw [b];exact l,by rw [l2];exact j,λx d=> ?_,λx d=> ?_⟩,?_,f⟩
 ·exact(ok _ (Ac9 _ (Ac1.mpr ⟨x,d,rfl⟩))).1
 ·exact(ok _ (Ab1 _ (Ac1.mpr ⟨x,d,rfl⟩))).1
 ·unfold Cw
  rw [b,l2,f]
  exact e
theorem tW: ∀(a b) (c),dg (a++b) c=dg a c++dg b (c / 2 ^ a.sum)
 | [],b,c=>by simp [dg]
 | w::a,b,c=>by
  show c % 2 ^ w::dg (a++b) (c / 2 ^ w)=c % 2 ^ w::(dg a (c / 2 ^ w)++dg b (c / 2 ^ (w+a.sum)))
  rw [tW a b,Nat.div_div_eq_div_mul,Al]
def gj (B:Nat):Nat->Nat->List Nat
 | 0,_=> []
 | m+1,y=>y % B::gj B m (y / B)
def kP (B:Nat):Nat->Nat->Nat
 | 0,y=>y
 | m+1,y=>kP B m (y / B)
theorem uJ (B): ∀m y,(gj B m y).length=m
 | 0,_=>rfl
 | m+1,y=>by rw [gj,Ab7,uJ B m]
def cL (n K T x:Nat):List Nat:=gj (2 ^ n) K (x % 2 ^ (K*n+T*n*n))
def cM (n K T x:Nat):List Nat:=gj (2 ^ (n*n)) T (kP (2 ^ n) K (x % 2 ^ (K*n+T*n*n)))
theorem xX (B) (mk:Nat->List D->Option W->Option W->Sl) (body) (h)
 (d: ∀ y c a b i,c.length<1000-> ∃Y1,Gp [7] k9 (.int (i:Int)) (mk y (ag c) a b)=y0 Y1/\execs F body Y1 h= .next (mk (y / B) (ag (c++ [y % B])) (y0 (.v (.int (i:Int)))) (y0 (.v (.int ((y % B:Nat):Int))))) h):
 ∀ m i y c a b,c.length+m<=1000-> ∃g f,
 Gq (Gp [7] k9) (λY h=>execs F body Y h) ((Aa0 m).map λj=>D.int ((i+j:Nat):Int)) (mk y (ag c) a b) h= .next (mk (kP B m y) (ag (c++gj B m y)) g f) h
 | 0,i,y,c,a,b,_=>⟨a,b,by rw [gj,Af1];rfl⟩
 | m+1,i,y,c,a,b,n=>by
  obtain⟨Y1,k,l⟩:=d y c a b i (by omega)
  obtain⟨g,f,e⟩:=xX B mk body h d m (i+1) (y / B) (c++ [y % B]) (y0 (.v (.int i))) (y0 (.v (.int ((y % B:Nat))))) (by simp;omega)
  refine⟨g,f,?_⟩
  rw [Zk,qa k l,e,Ae9]
  rfl
def jK (k n K T y:Nat) (x) (h) (f:n<=4) (t:K<=4) (r:T<=4) (N:x % ((2 ^ (K*n+T*n*n):Nat):Int)=(y:Int)):call prog (k+1) "_law_world" [.v (.int (n:Int)),.v (.int (K:Int)),.v (.int (T:Int)),.v (.int x)] h= .ok (.v (wc n (cL n K T y) (cM n K T y))) h:=by
 have D:=ql (n:=n) (by omega)
 have X:2 ^ n<=2 ^ 4:=Ad (by decide) f
 have Z:2 ^ _<=2 ^ 16:=Ad (by decide) (Ad7 f f)
 have p1:0<2 ^ n:=Ah6 (by decide)
 have p2:0<2 ^ (n*n):=Ah6 (by decide)
 have S:=fg n (by omega)
 have G:=fg (n*n) (by omega)
 have A:Gn .mul (n:Int) (n:Int)=y0 _:=Zc n n (by omega)
 have P:Gn .mul (K:Int) (n:Int)=y0 _:=Zc K n (by omega)
 have Q:Gn .mul (T:Int) (n:Int)=y0 _:=Zc T n (by omega)
 have V:K*n<=4*4:=Ad7 t f
 have C:T*n<=4*4:=Ad7 r f
 have t3:T*n*n<=4*4*4:=Ad7 C f
 have E:Gn .mul ((T*n:Nat):Int) (n:Int)=y0 ((T*n*n:Nat):Int):=Zc (T*n) n (by omega)
 have H:=fg (K*n+T*n*n) (by omega)
 have p3:0<2 ^ (K*n+T*n*n):=Ah6 (by decide)
 have O:((K*n:Nat):Int)+((T*n*n:Nat):Int)=((K*n+T*n*n:Nat):Int):=rfl
 have w:=Qo x ((2 ^ (K*n+T*n*n):Nat):Int) (by omega)
 rw [N]at w
 have I:y % 2 ^ (K*n+T*n*n)=y:=Am4 (by have:=Int.emod_lt_of_pos x (b:=((2 ^ (K*n+T*n*n):Nat):Int)) (by omega);omega)
 have J:(0:Int)<((2 ^ n:Nat):Int)/\((2 ^ n:Nat):Int)<gi:=by rw [Kf];omega
 have U:(0:Int)<((2 ^ (n*n):Nat):Int)/\((2 ^ (n*n):Nat):Int)<gi:=by rw [Kf];omega
 obtain⟨B,g,s⟩:=xX (F:=(u9 k)) (2 ^ n) (λy l a b=> [y0 (.v (.int (n:Int))),y0 (.v (.int (K:Int))),y0 (.v (.int (T:Int))),y0 (.v (.int x)),y0 (.v (.int (y:Int))),y0 (.own l),y0 (.own []),a,b]) qo h (λy c a b i L=>⟨_,rfl,by
  have o:(ag c).length<aZ:=by rw [Gi,Aa];omega
  have q:ag (c++ [y % 2 ^ n])=ag c++ [.int ((y % 2 ^ n:Nat):Int)]:=by rw [ag,Ac8];rfl
  have p:(y:Int) / ((2 ^ n:Nat):Int)=((y / 2 ^ n:Nat):Int):=rfl
  have j:(y:Int) % ((2 ^ n:Nat):Int)=((y % 2 ^ n:Nat):Int):=rfl
  rw [q]
  simp_all [qo,S,Zj,J,and_self,if_true,o,p,j]⟩) K 0 y [] u0 u0 (by simp;omega)
 obtain⟨a2,M,u⟩:=xX (F:=(u9 k)) (2 ^ (n*n)) (λz l a b=> [y0 (.v (.int (n:Int))),y0 (.v (.int (K:Int))),y0 (.v (.int (T:Int))),y0 (.v (.int x)),y0 (.v (.int (z:Int))),y0 (.own (ag (gj (2 ^ n) K y))),y0 (.own l),a,b]) Qm h (λy c a b i L=>⟨_,rfl,by
  have o:(ag c).length<aZ:=by rw [Gi,Aa];omega
  have q:ag (c++ [y % 2 ^ (n*n)])=ag c++ [.int ((y % 2 ^ (n*n):Nat):Int)]:=by rw [ag,Ac8];rfl
  have p:(y:Int) / ((2 ^ (n*n):Nat):Int)=((y / 2 ^ (n*n):Nat):Int):=rfl
  have j:(y:Int) % ((2 ^ (n*n):Nat):Int)=((y % 2 ^ (n*n):Nat):Int):=rfl
  rw [q]
  simp_all [Qm,A,G,Zj,U,and_self,if_true,o,p,j]⟩) T 0 (kP (2 ^ n) K y) [] B g (by simp;omega)
 rw [Ga (d:=GN) rfl _ _ _ rfl]
 simp only [GN]
 simp only [Ag2,Ag5]at s u
 refine fx (by simp_all [P,Q,E,Jc,O,H,w];rfl) ?_
 refine fx (by simp_all [];rfl) ?_
 refine fx (by simp_all [];rfl) ?_
 have v: ∀(i:Nat) (m:Nat) (Y:Sl),m<=4->Gf Y i=y0 (.v (.int (m:Int)))->Gr (u9 k) (.aw (.var i)) Y h= .ok ((Aa0 m).map λ(i:Nat)=> .int (i:Int)) h:=λi m Y W e=>wd (m:=m) (by rw [eval,e]) (by omega)
 rw [za (by
  rw [exec,v 1 K _ t rfl,R.az]
  exact s)]
 rw [za (by
  rw [exec,v 2 T _ r rfl,R.az]
  exact u)]
 unfold cL cM
 rw [I]
 simp_all [ZQ]
def Fi (k n K T x:Nat) (h) (b:n<=4) (c:K<=4) (a:T<=4):call prog (k+1) "_law_world" [.v (.int (n:Int)),.v (.int (K:Int)),.v (.int (T:Int)),.v (.int (x:Int))] h= .ok (.v (wc n (cL n K T x) (cM n K T x))) h:=by
 have e:=jK k n K T _ x h b c a (Int.natCast_emod _ _).symm
 unfold cL cM at e ⊢
 rwa [Nat.mod_mod]at e
theorem pa (w): ∀m c,dg (Aa8 m w) c=gj (2 ^ w) m c
 | 0,_=>rfl
 | m+1,c=>by rw [Ac7,dg,gj,pa w m]
theorem uT (w): ∀m c,c / 2 ^ (Aa8 m w).sum=kP (2 ^ w) m c
 | 0,c=>by show c / 2 ^ 0=c;rw [Nat.pow_zero,Nat.div_one]
 | m+1,c=>by rw [Ac7,Ai3,Al,←Nat.div_div_eq_div_mul,uT w m,kP]
def WM (n K T):(bC n K T).sum=K*n+T*n*n:=by rw [uz,Nat.mul_assoc]
structure At (n K T c:Nat) (ks ts:List Nat):Prop where
 lk:ks.length=K
 lt:ts.length=T
 wl:Wl n ks ts
 cd:Cw n ks ts=c
def Bx (i:n<=4) (k:K<=4) (f:T<=4) (a:c<2 ^ (K*n+T*n*n)):At n K T c (cL n K T c) (cM n K T c):=by
 obtain⟨o,p,b,d,g,l,j⟩:=Pg i k f (by rw [WM];exact a)
 have e:cL n K T c++cM n K T c=dg (bC n K T) c:=by
  unfold cL cM bC
  rw [Am4 a,tW,pa,pa,uT]
 rw [← j]at e
 obtain⟨h,m⟩:=List.append_inj e (by rw [b];exact uJ _ _ _)
 rw [h,m]
 exact⟨b,d,g,l⟩
def At.pe (a:At n K T c ks ts):c<2 ^ (K*n+T*n*n):=by
 have h:=nZ a.wl.ok
 rw [← a.cd,←WM]
 have e:wS ((bC n ks.length ts.length).zip (ks++ts))=(bC n K T).sum:=by
  unfold wS
  rw [List.map_fst_zip (by rw [Zq,Ab0];lia),a.lk,a.lt]
 rw [e]at h
 exact h
def At.uniq (a:At n K T c ks ts) (b:At n K T c ks' ts'):ks=ks'/\ts=ts':=ya a.wl b.wl (a.lk.trans b.lk.symm) (a.lt.trans b.lt.symm) (a.cd.trans b.cd.symm)
theorem At.mv (a:At n K T c ks ts) (q:Od n o):At n K T (Cw n (ks.map (kM n o)) (ts.map (tK n o))) (ks.map (kM n o)) (ts.map (tK n o)):=⟨by rw [Aa];exact a.lk,by rw [Aa];exact a.lt,a.wl.mv q,rfl⟩
structure Ct (n:Nat) (K T:List Tx) (ss:List Sy):Prop where
 hn:n<=4
 hK:K.length<=4
 hT:T.length<=4
 nd:(K++T).Nodup
 hs: ∀s∈ss,s.wf (K++T)/\s.dp<=40
 hl:ss.length<=63
 hb:K.length*n+T.length*n*n<=9
abbrev nB (n:Nat) (K T:List Tx):Nat:=2 ^ (K.length*n+T.length*n*n)
def dZ (n:Nat) (K T:List Tx) (ks ts:List Nat) (s:Sy):Bool:=open Classical in v9 (call prog 56 "keeps" [.v (wD K T),.v (wc n ks ts),.v (aK s)] []= .ok (.v (.bl true)) [])
def gb (n:Nat) (K T:List Tx) (a:List Sy) (ks ts:List Nat):Bool:=a.all (dZ n K T ks ts)
def Od.one (n):Od n (Aa0 n):=⟨List.Perm.refl _⟩
section
variable {n:Nat}{K T:List Tx}{ss:List Sy}(C:Ct n K T ss)
include C
def Ct.n5:nB n K T<=512:=by
 have h:nB n K T<=2 ^ 9:=Ad (by decide) C.hb
 exact h
def Ct.wo (a:At n K.length T.length c ks ts):(Wo.mk n K T ks ts).Ok:=⟨C.hK,C.hT,⟨C.nd⟩,⟨C.hn,a.lk,a.lt,a.wl.bk,a.wl.bt⟩⟩
def xw (a:At n K.length T.length c ks ts) (i:Od n o)(l:s∈ss):dZ n K T (ks.map (kM n o)) (ts.map (tK n o)) s=dZ n K T ks ts s/\ ∀m,48<=m->call prog m "keeps" [.v (wD K T),.v (wc n ks ts),.v (aK s)] []= .ok (.v (.bl (dZ n K T ks ts s))) []:=by
 obtain⟨h,q⟩:=C.hs s l
 obtain⟨b,d⟩:=yK (C.wo a) i [] s h
 have k:call prog 56 "keeps" [.v (wD K T),.v (wc n ks ts),.v _] []= .ok _ []:=(d 54 (by lia)).1
 have g:call prog 56 "keeps" [.v (wD K T),.v (wc n (ks.map _) (ts.map _)),.v _] []= .ok _ []:=(d 54 (by lia)).2
 have e:dZ n K T ks ts s=b:=by
  unfold dZ
  rw [k]
  cases b<;>simp
 have j:dZ n K T (ks.map (kM n o)) (ts.map (tK n o)) s=b:=by
  unfold dZ
  rw [g]
  cases b<;>simp
 refine⟨j.trans e.symm,λm p=> ?_⟩
 rw [e]
 have f:=(d (m-2) (by lia)).1
 rw [show m-2+2=m by lia]at f
 exact f
def CO (a:At n K.length T.length c ks ts) (d:Od n o):gb n K T ss (ks.map (kM n o)) (ts.map (tK n o))=gb n K T ss ks ts:=by
 unfold gb
 rw [Ad8,Ae1,Ae1]
 exact⟨λh s b=>(xw C a d b).1▸h s b,λh s b=>((xw C a d b).1).symm▸h s b⟩
def Mf (a:At n K.length T.length c ks ts) (m) (b:48<=m):call prog (m+1) "_law_keep" [.v (wD K T),.v (wc n ks ts),.v (.tup (ss.map aK))] []= .ok (.v (.bl (gb n K T ss ks ts))) []:=by
 rw [Ga rfl _ _ _ rfl]
 simp only [Kh]
 rw [jb (w:= .v (.bl (gb n K T ss ks ts))) (xc rfl (by
  unfold gb
  rw [← Z2]
  refine qv ?_
  rw [Ac6]
  refine Qf aK (λs=> .bl _) ss (kq (by simp_all [])) (by have:=C.hl;lia) λs d=>⟨.v _,?_,rfl⟩
  have e:=(xw C a (Od.one n) d).2 m b
  simp_all [e]))]
 exact Gb _ _ _ rfl
omit C in
theorem LK (i:Nat) (d:D) (a:List D):KS i (d::a)= .tup [.int (i:Int),d]::KS (i+1) a:=rfl
abbrev ij (n:Nat) (K T:List Tx) (ks ts:List Nat) (b:List Sy) (a c:Option W):Sl:= [y0 (.v (wD K T)),y0 (.v (wc n ks ts)),y0 (.v (.tup (b.map aK))),a,c]
def e7 (p:Sy->Bool):List Sy->Nat->Option Nat
 | [],_=>u0
 | s::l,i=>if p s then e7 p l (i+1)else y0 i
def HK:Option Nat->D
 | none=> .av
 | some j=> .int (j:Int)
omit C in
theorem vO (p:Sy->Bool): ∀(l:List Sy) (i:Nat),(e7 p l i).isNone=l.all p
 | [],_=>rfl
 | s::l,i=>by
  rw [e7,Ai4]
  cases q:p s with
  | true=>rw [if_pos rfl,vO p l,Ai5]
  | false=>rfl
abbrev hF (n:Nat) (K T:List Tx) (a:List Sy) (ks ts:List Nat):D:=HK (e7 (dZ n K T ks ts) a 0)
theorem vE (a:At n K.length T.length c ks ts) (m) (d:48<=m): ∀ l i b f,(∀ s∈l,s∈ss) →
 (∃ r o,e7 (dZ n K T ks ts) l i=u0/\Gq (Gp [3,4] y9) (λY h=>execs (u9 m) Wb Y h) (KS i (l.map aK)) (ij n K T ks ts ss b f) []= .next (ij n K T ks ts ss r o) []) ∨
 ∃j:Nat,e7 (dZ n K T ks ts) l i=y0 j/\Gq (Gp [3,4] y9) (λY h=>execs (u9 m) Wb Y h) (KS i (l.map aK)) (ij n K T ks ts ss b f) []= .ret (.v (.int (j:Int))) []
 | [],i,b,f,_=> .inl ⟨b,f,rfl,rfl⟩
 | s::l,i,b,f,g=>by
  have e:=(xw C a (Od.one n) (g s Aa3)).2 m d
  rw [Aa9,LK,e7]
  cases q:dZ n K T ks ts s with
  | true=>
   rw [q]at e
   rw [qa (Y1:=ij n K T ks ts ss (y0 (.v (.int i))) (y0 (.v (aK s)))) rfl (by
    simp only [Wb]
    rw [Za (by simp_all [e])]
    rfl),if_pos rfl]
   exact vE a m d l (i+1) _ _ λt k=>g t (Aa1 _ k)
  | false=>
   rw [q]at e
   refine .inr ⟨i,rfl,?_⟩
   rw [Zx,show Gp [3,4] y9 (.tup [.int i,aK s]) (ij n K T ks ts ss b f)=y0 (ij n K T ks ts ss (y0 (.v (.int i))) (y0 (.v (aK s))))from rfl]
   have p:execs (u9 m) Wb (ij n K T ks ts ss (y0 (.v (.int i))) (y0 (.v (aK s)))) []= .ret (.v (.int i)) []:=by
    simp only [Wb]
    rw [qk (by simp_all [e]) rfl]
   simp only [p]
def ZL (a:At n K.length T.length c ks ts) (m) (e:48<=m):call prog (m+1) "first_broken" [.v (wD K T),.v (wc n ks ts),.v (.tup (ss.map aK))] []= .ok (.v (hF n K T ss ks ts)) []:=by
 have g:Gr (u9 m) (.enum (.var 2)) (ij n K T ks ts ss u0 u0) []= .ok (KS 0 (ss.map aK)) []:=by
  simp_all []
 rw [Ga rfl _ _ _ rfl]
 simp only [GH]
 unfold hF
 rcases vE C a m e ss 0 u0 u0 (λs f=>f)with⟨i,h,b,d⟩ | ⟨j,b,d⟩
 ·rw [b]
  refine fx (by
   exact d) ?_
  exact Gb _ _ _ rfl
 ·rw [b,jb (by
   exact d)]
  exact Gb _ _ _ rfl
abbrev iu (n:Nat) (K T:List Tx) (ks ts:List Nat) (b:List Sy) (a:Option W):Sl:= [y0 (.v (wD K T)),y0 (.v (wc n ks ts)),y0 (.v (.tup (b.map aK))),a]
theorem uy (a:At n K.length T.length c ks ts) (m) (f:48<=m): ∀ l p b,p++l=ss →
 (∃ g,e7 (dZ n K T ks ts) l p.length=u0/\Gq (Gp [3] k9) (λY h=>execs (u9 m) jd Y h) ((Aa0 l.length).map λj=>D.int ((p.length+j:Nat):Int)) (iu n K T ks ts ss b) []= .next (iu n K T ks ts ss g) []) ∨
 ∃j:Nat,e7 (dZ n K T ks ts) l p.length=y0 j/\Gq (Gp [3] k9) (λY h=>execs (u9 m) jd Y h) ((Aa0 l.length).map λj=>D.int ((p.length+j:Nat):Int)) (iu n K T ks ts ss b) []= .ret (.v (.int (j:Int))) []
 | [],p,b,_=> .inl ⟨b,rfl,rfl⟩
 | s::l,p,b,d=>by
  have e:=(xw C a (Od.one n) (s:=s) (by rw [← d];simp)).2 m f
  have ix:aX (ss.map aK) (p.length:Nat)=y0 (aK s):=by
   rw [Qh _ _ (by rw [← d];simp),←d]
   simp
  rw [Ab7,Zk,e7]
  cases q:dZ n K T ks ts s with
  | true=>
   rw [q]at e
   rw [qa (Y1:=iu n K T ks ts ss (y0 (.v (.int p.length)))) rfl (by
    simp only [jd]
    rw [Za (by simp_all [ah,ix,e])]
    rfl),if_pos rfl]
   have:=uy a m f l (p++ [s]) (y0 (.v (.int p.length))) (by rw [Ae9];exact d)
   rw [Ab0]at this
   exact this
  | false=>
   rw [q]at e
   refine .inr ⟨p.length,rfl,?_⟩
   rw [Zx,show Gp [3] k9 (.int p.length) (iu n K T ks ts ss b)=y0 (iu n K T ks ts ss (y0 (.v (.int p.length))))from rfl]
   have i:execs (u9 m) jd (iu n K T ks ts ss (y0 (.v (.int p.length)))) []= .ret (.v (.int p.length)) []:=by
    simp only [jd]
    rw [qk (by simp_all [ah,ix,e]) rfl]
   simp only [i]
def IS (a:At n K.length T.length c ks ts) (m) (f:48<=m):call prog (m+1) "_law_broken" [.v (wD K T),.v (wc n ks ts),.v (.tup (ss.map aK))] []= .ok (.v (hF n K T ss ks ts)) []:=by
 have e:Gr (u9 m) (.aw (.bi .len (.cons (.var 2) .nil))) (iu n K T ks ts ss u0) []= .ok ((Aa0 ss.length).map λj=>D.int ((([]:List Sy).length+j:Nat))) []:=by
  rw [QB,wd (by simp_all [Wh,Aa]) (Ac C.hl (by decide))]
  simp only [Ak5,Ag2]
 rw [Ga rfl _ _ _ rfl]
 simp only [GU]
 unfold hF
 rcases uy C a m f ss [] u0 rfl with⟨g,b,d⟩ | ⟨j,b,d⟩
 ·rw [show e7 _ ss 0=u0 from b]
  refine fx (by
   rw [exec,show Gr (u9 m) _ (An6 y0 [W.v (wD K T),.v (wc n ks ts),.v (.tup (ss.map aK))]++Aa8 (4-3) u0) []=_ from e,R.az]
   exact d) ?_
  rw [jb (xc rfl rfl)]
  exact Gb _ _ _ rfl
 ·rw [show e7 _ ss 0=y0 j from b,jb (by
   rw [exec,show Gr (u9 m) (.aw (.bi .len (.cons (.var 2) .nil))) (An6 y0 [W.v (wD K T),.v (wc n ks ts),.v (.tup (ss.map aK))]++Aa8 (4-3) u0) []=_ from e,R.az]
   exact d)]
  exact Gb _ _ _ rfl
abbrev wX (n:Nat) (K T:List Tx) (c:Nat):D:=wc n (cL n K.length T.length c) (cM n K.length T.length c)
def kc (n:Nat) (K T:List Tx) (a:List Sy) (c:Nat):Bool:=gb n K T a (cL n K.length T.length c) (cM n K.length T.length c)
omit C in
theorem Ct.at (C:Ct n K T ss){c:Nat}(a:c<nB n K T):At n K.length T.length c (cL n K.length T.length c) (cM n K.length T.length c):=Bx C.hn C.hK C.hT a
abbrev kg (n:Nat) (K T:List Tx) (c:List Sy) (a:List Nat) (d b:Option W):Sl:= [y0 (.v (wD K T)),y0 (.v (.int (n:Int))),y0 (.v (.tup (c.map aK))),y0 (.v (.int ((K.length:Nat):Int))),y0 (.v (.int ((T.length:Nat):Int))),y0 (.own (a.map (wX n K T))),d,b]
theorem vU (m) (o:49<=m): ∀ j i a f b,i+j=nB n K T->a.length<=i-> ∃g k,
 Gq (Gp [6] k9) (λY h=>execs (u9 m) jj Y h) ((Aa0 j).map λx=>D.int ((i+x:Nat):Int)) (kg n K T ss a f b) []= .next (kg n K T ss (a++((Aa0 j).map (i+ ·)).filter (kc n K T ss)) g k) []
 | 0,i,a,f,b,_,_=>⟨f,b,by simp [Gq]⟩
 | j+1,i,a,f,b,h,s=>by
  have n5:=C.n5
  have l:=Fi (m-1) n K.length T.length i [] C.hn C.hK C.hT
  rw [show m-1+1=m by omega]at l
  have d:=Mf C (C.at (c:=i) (by omega)) (m-1) (by omega)
  rw [show m-1+1=m by omega]at d
  have r:((Aa0 (j+1)).map (i+ ·))=i::(Aa0 j).map (i+1+ ·):=by
   rw [Af7,Aa9,Ac6]
   exact congrArg (i:: ·) (Ae λx _=>by show i+(x+1)=i+1+x;omega)
  rw [r,Zk]
  obtain⟨g,k,e⟩:=vU m o j (i+1) (a++ [i].filter (kc n K T ss)) (y0 (.v (.int i))) (y0 (.v (wX n K T i))) (by omega) (by
   rw [Ab0]
   have:=Ad9 (kc n K T ss) [i]
   simp only [Ag]at this
   omega)
  refine⟨g,k,?_⟩
  rw [qa (Y1:=kg n K T ss a (y0 (.v (.int i))) b) (Y2:=kg n K T ss (a++ [i].filter (kc n K T ss)) (y0 (.v (.int i))) (y0 (.v (wX n K T i)))) (h2:= []) rfl (by
   simp only [jj]
   refine(za (by simp_all [l];rfl)).trans ?_
   cases q:kc n K T ss i with
   | true=>
    rw [show gb n K T ss (cL n K.length T.length i) (cM n K.length T.length i)=k9 from q]at d
    have p:(a.map (wX n K T)).length<aZ:=by rw [Gi,Aa];omega
    rw [Xa,qr (h1:= []) (by simp_all [d]),Xa]
    simp_all [p,if_true]
    simp [q]
   | false=>
    rw [show gb n K T ss (cL n K.length T.length i) (cM n K.length T.length i)=y9 from q]at d
    rw [Za (by simp_all [d])]
    simp [q,execs]),e,Ae9,Ak1,Ak1]
  simp only [List.filter_nil]
  split<;>simp
def Lc (m) (i:49<=m):call prog (m+1) "_law_keepers" [.v (wD K T),.v (.int (n:Int)),.v (.tup (ss.map aK))] []= .ok (.own (((List.range (nB n K T)).filter (kc n K T ss)).map (wX n K T))) []:=by
 have hn:=C.hn
 have o:=C.hK
 have a:=C.hT
 have j:Gn .mul _ (n:Int)=y0 _:=Zc K.length n (by omega)
 have b:Gn .mul _ (n:Int)=y0 _:=Zc T.length n (by omega)
 have p:T.length*n<=4*4:=Ad7 a hn
 have l:Gn .mul _ (n:Int)=y0 _:=Zc (T.length*n) n (by omega)
 have d:((K.length*n:Nat):Int)+((T.length*n*n:Nat):Int)=((K.length*n+T.length*n*n:Nat):Int):=rfl
 have k:=fg (K.length*n+T.length*n*n) (by have:=C.hb;omega)
 have n5:=C.n5
 have f: ∀h,cI .len [.v (cR K)] h=aU _ h:=λh=>by rw [Wh,Aa]
 have lt: ∀h,cI .len [.v (cR T)] h=aU (.int ((T.length:Nat):Int)) h:=λh=>by rw [Wh,Aa]
 obtain⟨c,g,e⟩:=vU C m i (nB n K T) 0 [] u0 u0 (by omega) (Aa6 _)
 rw [Ga rfl _ _ _ rfl]
 simp only [GM]
 refine fx (by simp_all [ah,XF,f];rfl) ?_
 refine fx (by simp_all [ah,xz,lt];rfl) ?_
 rw [za (Y1:=kg n K T ss [] u0 u0) (by simp_all [];rfl)]
 rw [za (Y1:=kg n K T ss ((Aa0 (nB n K T)).filter (kc n K T ss)) c g) (by
  rw [exec,QB,wd (m:=nB n K T) (by simp_all [j,b,l,Jc,d,k]) (by omega),R.az]
  simpa using e)]
 rw [jb (w:= .own (((Aa0 (nB n K T)).filter (kc n K T ss)).map (wX n K T))) (h1:= []) rfl]
 exact Gw _ _ _ rfl
end
def bX (n K T c:Nat):Bool:=(xm n n).all λr=>v9 (c<=Cw n ((cL n K T c).map (kM n r)) ((cM n K T c).map (tK n r)))
def yI (g:Wl n ks ts): ∃r,Od n r/\ks.map (kM n r)=ks/\ts.map (tK n r)=ts:=by
 have q:=Od.one n
 obtain⟨p,a,b⟩:=q.rev
 obtain⟨d,c⟩:=qK g q a b
 obtain⟨e,f⟩:=mX a q
 exact⟨(Aa0 n).map _,a.then q,e.symm.trans d,f.symm.trans c⟩
def uF {b:Type}(g) (p) (l:List b) (k:Gk F it Y h= .ok (l.map g) h) (o:l.length<=1000)
 (n: ∀x∈l,Gs F c (y0 (.v (g x))::aA.map λj=>Gf Y j) h= .ok (p x) h/\eval F elt (y0 (.v (g x))::aA.map λj=>Gf Y j) h= .ok (.v (g x)) h):eval F (.comp [0] k9 1 aA it k9 c elt) Y h= .ok (.own ((l.filter p).map g)) h:=by
 rw [eval,k,R.aa,if_pos (by rw [Gi,Aa];lia)]
 have f: ∀ step (l:List b),(∀ x∈l,step (g x) h= .ok (if p x then y0 (g x)else u0) h)->Gx step (l.map g) h= .ok ((l.filter p).map g) h:=λstep l=>by
  induction l with
  | nil=>intro _;rfl
  | cons x l d=>
   intro a
   rw [Aa9,Gx,a x Aa3,Ak1]
   simp only [d λy e=>a y (Aa1 _ e)]
   cases p x<;>rfl
 rw [f _ l λx a=> ?_]
 ·rfl
 ·obtain⟨i,m⟩:=n x a
  show(R.bind (Gs F c (y0 _::aA.map λj=>Gf Y j) h) _)=_
  rw [i]
  cases p x with
  | true=>
   show(eval F elt (y0 _::aA.map λj=>Gf Y j) h).bind _=_
   rw [m]
   rfl
  | false=>rfl
section
variable {n:Nat}{K T:List Tx}{ss:List Sy}(C:Ct n K T ss)
include C
def nv (G:c<nB n K T): ∃e,e<nB n K T/\e<=c/\kc n K T ss e=kc n K T ss c/\bX n K.length T.length e=k9/\(bX n K.length T.length c=k9↔e=c)/\(∃ r,Od n r/\c=Cw n ((cL n K.length T.length e).map (kM n r)) ((cM n K.length T.length e).map (tK n r))) ∧
 ∀ a b,Ls n (cL n K.length T.length c) (cM n K.length T.length c) a b->wc n a b=wX n K T e:=by
 have d:=C.at G
 obtain⟨a,b,m,_⟩:=QV d.wl 0 []
 obtain⟨r,j,q,o⟩:=m.o
 have f:=d.mv j
 rw [← q,←o]at f
 have g:Cw n a b<nB n K T:=f.pe
 obtain⟨k,l⟩:=f.uniq (C.at g)
 obtain⟨i,D,z,A⟩:=yI d.wl
 have t:=by
  have:=m.le i D
  rw [z,A,d.cd]at this
  exact this
 have v:bX n K.length T.length (Cw n a b)=true:=by
  unfold bX
  rw [Ae1]
  intro s E
  have:=(m.self d.wl).le s ((Wg C.hn s).mp E)
  rw [← k,←l]
  exact decide_eq_true this
 refine⟨Cw n a b,g,t,?_,v,⟨λh=> ?_,λh=> ?_⟩,?_,λJ I y=> ?_⟩
 ·unfold kc
  rw [← k,←l,q,o]
  exact CO C d j
 ·unfold bX at h
  rw [Ae1]at h
  have:=of_decide_eq_true (h r ((Wg C.hn r).mpr j))
  rw [← q,←o]at this
  lia
 ·rw [← h];exact v
 ·obtain⟨p,u,H⟩:=j.rev
  obtain⟨w,x⟩:=qK d.wl j u H
  refine⟨p,u,?_⟩
  rw [← k,←l,q,o,w,x,d.cd]
 ·obtain⟨F,B⟩:=Ls.uniq d.wl y m
  rw [F,B]
  show wc n a b=wc n _ _
  rw [← k,←l]
def FG (d:c<nB n K T) (k) (h): ∃f,f<nB n K T/\kc n K T ss f=kc n K T ss c/\bX n K.length T.length f=k9/\(bX n K.length T.length c=k9↔f=c)/\call prog (k+3) "_law_least" [.v (wX n K T c)] h= .ok (.v (wX n K T f)) h:=by
 obtain⟨f,m,_,g,j,o,_,l⟩:=nv C d
 obtain⟨a,b,i,e⟩:=QV (C.at d).wl k h
 refine⟨f,m,g,j,o,?_⟩
 rw [e,l a b i]
def EZ (a:c<nB n K T) (e:d<nB n K T):(cL n K.length T.length c=cL n K.length T.length d/\cM n K.length T.length c=cM n K.length T.length d)↔c=d:=by
 refine⟨λ⟨f,b⟩=> ?_,λh=>by rw [h];exact⟨rfl,rfl⟩⟩
 rw [← (C.at a).cd,←(C.at e).cd,f,b]
def FF (b:c<nB n K T) (a:d<nB n K T) (h):Gy .eq (.v (wX n K T c)) (.v (wX n K T d)) h=y0 (v9 (c=d)):=by
 rw [yV]
 congr 1
 rw [decide_eq_decide,←EZ C b a]
 simp
abbrev kL (n:Nat) (K T:List Tx) (a:List Sy):List Nat:=(Aa0 (nB n K T)).filter (kc n K T a)
abbrev dL (n:Nat) (K T:List Tx) (a:List Sy):List Nat:=(kL n K T a).filter (bX n K.length T.length)
theorem uP (h:c∈kL n K T ss):c<nB n K T/\kc n K T ss c=true:=⟨Ab3.mp (Ae3.mp h).1,(Ae3.mp h).2⟩
def u7:(kL n K T ss).length<=512:=Ac (Ad9 _ _) (by rw [Aj4];exact C.n5)
abbrev ib (n K T c:Nat):List Nat:=(xm n n).map λr=>Cw n ((cL n K T c).map (kM n r)) ((cM n K T c).map (tK n r))
def iY (S:List Int) (l:List Nat):List Int:=l.foldl (λS (x:Nat)=>K0 S (x:Int)) S
omit C in
theorem Eu (S:List Int) (k x:Int):x∈K0 S k↔x∈S\/x=k:=by
 unfold K0
 split
 ·rename_i h
  exact⟨.inl,λz=>z.elim id λe=>by rw [e];simpa using h⟩
 ·rw [Af0,Af]
omit C in
theorem Q8 (S:List Int) (k:Int):(K0 S k).length<=S.length+1:=by
 unfold K0
 split
 ·lia
 ·rw [Ab0];exact Aa6 _
omit C in
theorem W6: ∀(l:List Nat) (S:List Int) (x:Int),x∈iY S l↔x∈S\/ ∃y∈l,x=(y:Int)
 | [],S,x=>⟨.inl,λz=>z.elim id λ⟨y,h,_⟩=>absurd h Ac2⟩
 | y::l,S,x=>by
  show x∈iY (K0 S (y:Int)) l↔_
  rw [W6 l,Eu]
  constructor
  ·rintro ((h | h) | ⟨z,a,e⟩)
   ·exact .inl h
   ·exact .inr ⟨y,Aa3,h⟩
   ·exact .inr ⟨z,Aa1 _ a,e⟩
  ·rintro (h | ⟨z,a,e⟩)
   ·exact .inl (.inl h)
   ·rcases Ab2.mp a with rfl | a
    ·exact .inl (.inr e)
    ·exact .inr ⟨z,a,e⟩
omit C in
theorem X6: ∀(l:List Nat) (S:List Int),(iY S l).length<=S.length+l.length
 | [],S=>Aa6 _
 | y::l,S=>by
  have b:=X6 l (K0 S (y:Int))
  have a:=Q8 S (y:Int)
  show(iY (K0 S (y:Int)) l).length<=_
  rw [Ab7]
  omega
noncomputable abbrev eY (n:Nat) (K T:List Tx) (a:List Nat) (d b c:Option W):Sl:= [y0 (.v (wD K T)),y0 (.v (.int (n:Int))),y0 (.v (.ref 0)),y0 (.own (a.map (wX n K T))),d,b,c]
omit C in
theorem um {F:Fx}(a:List Nat) (c b:Option W): ∀(l:List Nat) (S:List Int) (d:Option W),S.length+l.length<=20000-> ∃f,
 Gq (Gp [6] k9) (λY h=>execs F Zm Y h) (ag l) (eY n K T a c b d) [.bZ S]= .next (eY n K T a c b f) [.bZ (iY S l)]
 | [],S,d,_=>⟨d,rfl⟩
 | y::l,S,d,j=>by
  rw [Ab7]at j
  have g:=Q8 S (y:Int)
  obtain⟨f,e⟩:=um a c b l (K0 S (y:Int)) (y0 (.v (.int (y:Int)))) (by omega)
  refine⟨f,?_⟩
  have dd:Pf [.bZ S] (y0 (.v (.ref 0)))=y0 (0,S):=rfl
  have i:S.length<aZ:=by rw [Gi];omega
  show Gq _ _ (D.int (y:Int)::ag l) _ _=_
  rw [qa (Y1:=eY n K T a c b (y0 (.v (.int (y:Int))))) (Y2:=eY n K T a c b (y0 (.v (.int (y:Int))))) (h2:= [.bZ (K0 S (y:Int))]) rfl (by
   simp only [Zm]
   rw [Xa]
   simp_all [dd,i,if_true]
   rfl),e]
  rfl
def Ii (n:Nat) (K T:List Tx) (i:Nat) (S:List Int):Prop:= ∀x:Nat,(x:Int)∈S↔ ∃c,c<i/\bX n K.length T.length c=k9/\x∈ib n K.length T.length c
theorem oD (k): ∀ j i S I g f,i+j=nB n K T->S.length<=i*24->Ii n K T i S-> ∃H G s u,
 Gq (Gp [4] k9) (λY h=>execs (u9 (k+6)) zi Y h) ((Aa0 j).map λx=>D.int ((i+x:Nat):Int)) (eY n K T ((Aa0 i).filter (bX n K.length T.length)) I g f) [.bZ S]= .next (eY n K T ((Aa0 (nB n K T)).filter (bX n K.length T.length)) G s u) [.bZ H]
 | 0,i,S,I,g,f,h,_,_=>⟨S,I,g,f,by rw [← show i=nB n K T by omega];simp [Gq]⟩
 | j+1,i,S,I,g,f,h,hS,M=>by
  have n5:=C.n5
  have Q:i<nB n K T:=by omega
  have a:=C.at Q
  have rl:(xm n n).length<=24:=by
   have:=(mC n C.hn).len
   have J:=C.hn
   rw [this]
   match n,J with
   | 0,_=>decide
   | 1,_=>decide
   | 2,_=>decide
   | 3,_=>decide
   | 4,_=>decide
  have d:S.contains (i:Int)= !bX n K.length T.length i:=by
   have:(S.contains (i:Int)=k9)↔bX n K.length T.length i=false:=by
    rw [Aj7,M i]
    constructor
    ·rintro ⟨c,m,b,o⟩
     obtain⟨r,v,e⟩:=Ac1.mp o
     have l:=C.at (c:=c) (by omega)
     have t:=l.mv ((Wg C.hn r).mp v)
     have e:Cw n ((cL n K.length T.length c).map (kM n r)) ((cM n K.length T.length c).map (tK n r))=i:=e
     rw [e]at t
     obtain⟨u1,u2⟩:=a.uniq t
     cases q:bX n K.length T.length i with
     | false=>rfl
     | true=>
      obtain⟨p,O,he⟩:=((Wg C.hn r).mp v).rev
      obtain⟨Z,b2⟩:=qK l.wl ((Wg C.hn r).mp v) O he
      unfold bX at q
      rw [Ae1]at q
      have:=of_decide_eq_true (q p ((Wg C.hn p).mpr O))
      rw [u1,u2,Z,b2,l.cd]at this
      omega
    ·intro q
     obtain⟨V,m,b,o,J,h5,⟨r,v,e⟩,_⟩:=nv C Q
     have hne:V≠i:=λz=>by
      have:=h5.mpr z
      rw [q]at this
      cases this
     exact⟨V,by omega,J,Ac1.mpr ⟨r,(Wg C.hn r).mpr v,e.symm⟩⟩
   cases q:bX n K.length T.length i with
   | false=>rw [this.mpr q];rfl
   | true=>
    cases X:S.contains (i:Int)with
    | false=>rfl
    | true=>rw [this.mp X]at q;cases q
  have dd:Pf [.bZ S] (y0 (.v (.ref 0)))=y0 (0,S):=rfl
  have N:cP k9 (.v (.int (i:Int))) (y0 (0,S)) [.bZ S]=aU (.bl (!S.contains (i:Int))) [.bZ S]:=rfl
  have P:(Aa0 (i+1)).filter (bX n K.length T.length)=(Aa0 i).filter (bX n K.length T.length)++ [i].filter (bX n K.length T.length):=by rw [List.range_succ,An7]
  have fl:=Ad9 (bX n K.length T.length) (Aa0 i)
  rw [Aj4]at fl
  rw [Zk]
  cases q:bX n K.length T.length i with
  | false=>
   rw [q]at d
   obtain⟨H,G,s,u,e⟩:=oD k j (i+1) S (y0 (.v (.int (i:Int)))) g f (by omega) (by omega) (λx=>by
    rw [M x]
    constructor
    ·rintro ⟨c,m,b⟩
     exact⟨c,by omega,b⟩
    ·rintro ⟨c,m,b,o⟩
     refine⟨c,?_,b,o⟩
     have:c≠i:=λz=>by rw [z,q]at b;cases b
     omega)
   refine⟨H,G,s,u,?_⟩
   rw [qa (Y1:=eY n K T ((Aa0 i).filter (bX n K.length T.length)) (y0 (.v (.int (i:Int)))) g f) (Y2:=eY n K T ((Aa0 i).filter (bX n K.length T.length)) (y0 (.v (.int (i:Int)))) g f) (h2:= [.bZ S]) rfl (by
    simp only [zi]
    rw [Za (by simp_all [dd,N,d])]
    rfl)]
   rw [P]at e
   simp only [Ak1,q,List.filter_nil,Af1,Ag8,if_false]at e
   exact e
  | true=>
   rw [q]at d
   have w:=wI (k+1) n (K.map D.str) (T.map D.str) (cL n K.length T.length i) (cM n K.length T.length i) [.bZ S] a.wl (by rw [Aa,a.lk]) (by rw [Aa,a.lt])
   rw [a.cd]at w
   have w:call prog (k+6) "world_of" [.v (wD K T),.v (.int (n:Int)),.v (.int (i:Int))] [.bZ S]= .ok (.v (wX n K T i)) [.bZ S]:=w
   have E:=sE a.wl (A:=K.map D.str) (B:=T.map D.str) (by rw [Aa,a.lk]) (by rw [Aa,a.lt]) k [.bZ S]
   have E:call prog (k+6) "codes_alike" [.v (wD K T),.v (wX n K T i)] [.bZ S]= .ok (.own (ag (ib n K.length T.length i))) [.bZ S]:=E
   have ol:(ib n K.length T.length i).length<=24:=by rw [Aa];exact rl
   obtain⟨U,W⟩:=um (F:=(u9 (k+6))) (n:=n) (K:=K) (T:=T) ((Aa0 (i+1)).filter (bX n K.length T.length)) (y0 (.v (.int (i:Int)))) (y0 (.v (wX n K T i))) (ib n K.length T.length i) S f (by omega)
   have pl:=X6 (ib n K.length T.length i) S
   obtain⟨H,G,s,u,e⟩:=oD k j (i+1) (iY S (ib n K.length T.length i)) (y0 (.v (.int (i:Int)))) (y0 (.v (wX n K T i))) U (by omega) (by omega) (λx=>by
    rw [W6,M x]
    constructor
    ·rintro (⟨c,m,b⟩ | ⟨y,hy,e⟩)
     ·exact⟨c,by omega,b⟩
     ·obtain rfl:x=y:=Int.ofNat.inj e
      exact⟨i,by omega,q,hy⟩
    ·rintro ⟨c,m,b,o⟩
     by_cases L:c=i
     ·exact .inr ⟨x,L▸o,rfl⟩
     ·exact .inl ⟨c,by omega,b,o⟩)
   refine⟨H,G,s,u,?_⟩
   have hL:(((Aa0 i).filter (bX n K.length T.length)).map (wX n K T)).length<aZ:=by rw [Gi,Aa];omega
   rw [qa (Y1:=eY n K T ((Aa0 i).filter (bX n K.length T.length)) (y0 (.v (.int (i:Int)))) g f) (Y2:=eY n K T ((Aa0 (i+1)).filter (bX n K.length T.length)) (y0 (.v (.int (i:Int)))) (y0 (.v (wX n K T i))) U) (h2:= [.bZ (iY S (ib n K.length T.length i))]) rfl (by
    simp only [zi]
    rw [Xa,qr (h1:= [.bZ S]) (by simp_all [dd,N,d])]
    refine(za (by simp_all [w];rfl)).trans ?_
    rw [za (h1:= [.bZ S]) (Y1:=eY n K T ((Aa0 (i+1)).filter (bX n K.length T.length)) (y0 (.v (.int (i:Int)))) (y0 (.v (wX n K T i))) f) (by
     simp_all [hL,if_true]
     rw [P]
     simp [q])]
    rw [Xa,exec,show Gr (u9 (k+6)) (.seq (.call "codes_alike" (.cons (.var 0) (.cons (.var 5) .nil)))) (eY n K T ((List.range (i+1)).filter (bX n K.length T.length)) (some (.v (.int (i:Int)))) (some (.v (wX n K T i))) f) [.bZ S]= .ok (ag (ib n K.length T.length i)) [.bZ S]by simp_all [E],R.az]
    exact W),e]
def Hy (k):call prog (k+7) "all_forms" [.v (wD K T),.v (.int (n:Int))] []= .ok (.own (((List.range (nB n K T)).filter (bX n K.length T.length)).map (wX n K T))) []:=by
 have n5:=C.n5
 have a:=pB (k+4) n (K.map D.str) (T.map D.str) [.bZ []] C.hn (by rw [Aa];exact C.hK) (by rw [Aa];exact C.hT)
 rw [Aa,Aa,WM]at a
 have a:=a
 have b:=fg (K.length*n+T.length*n*n) (by have:=C.hb;omega)
 obtain⟨i,g,f,d,e⟩:=oD C k (nB n K T) 0 [] u0 u0 u0 (by omega) (Aa6 _) (λx=>⟨λh=>absurd h Ac2,λ⟨c,h,_⟩=>absurd h (Ai1 _)⟩)
 rw [Ga rfl _ _ _ rfl]
 simp only [G9]
 refine fx (by simp_all [];rfl) ?_
 rw [za (Y1:=eY n K T [] u0 u0 u0) (by simp_all [];rfl)]
 rw [za (by
  rw [exec,QB,wd (m:=nB n K T) (by simp_all [a,b]) (by omega),R.az]
  simpa using e)]
 rw [jb rfl]
 show fin 0 _ _=_
 unfold fin
 rw [if_neg (by simp),if_pos (show (W.own _).keep=k9 from Xl _ (λ_=>xn ..) _)]
 rfl
end
def rz (k K T) (c:K<=4) (b:T<=4) (h): ∃A B:List Tx,A.length=K/\B.length=T/\(A++B).Nodup/\call prog (k+1) "_law_names" [.v (.int (K:Int)),.v (.int (T:Int))] h= .ok (.v (wD A B)) h:=by
 have a: ∀K,K<5-> ∀T,T<5->(([[97,103,101],[98,101,101],[99,97,112],[100,111,116]].take K)++([[101,97,116],[102,101,100],[103,111],[104,117,116]].take T)).Nodup:=by decide +kernel
 refine⟨[[97,103,101],[98,101,101],[99,97,112],[100,111,116]].take K,[[101,97,116],[102,101,100],[103,111],[104,117,116]].take T,by rw [Ag0];simp;lia,by rw [Ag0];simp;lia,a K (by lia) T (by lia),?_⟩
 rw [Ga rfl _ _ _ rfl]
 simp only [Kd]
 simp_all [Ep,w6]
 rw [wD,cR,cR,List.map_take,List.map_take]
 rfl
def ml (k n:Nat) (A B) (h) (g:n<=4) (i:A.length<=4) (f:B.length<=4):call prog (k+5) "check_bits" [.v (wD A B),.v (.int (n:Int)),.v (.int 9)] h=if A.length*n+B.length*n*n<=9 then .ok (.v .av) h else .exc (.err "TooBig" "bits" (.int ((A.length*n+B.length*n*n:Nat):Int))) h:=by
 have e:=JW k (.int (n:Int)) h rfl (by show(v9 ((0:Int)<=(n:Int))&&decide _)=k9;rw [decide_eq_true (by omega),decide_eq_true (by omega)];rfl)
 have a:=pB (k+2) n (A.map D.str) (B.map D.str) h g (by rw [Aa];exact i) (by rw [Aa];exact f)
 rw [Aa,Aa,WM]at a
 have a:=a
 generalize A.length*n+B.length*n*n=b at a
 rw [Ga rfl _ _ _ rfl]
 simp only [GF]
 refine fx (by simp_all [e];rfl) ?_
 refine fx (by simp_all [a];rfl) ?_
 by_cases c:b<=9
 ·have d:v9 ((9:Int)<(b:Int))=false:=decide_eq_false (by omega)
  rw [if_pos c,Za (by simp_all [jt,d])]
  exact GK _ _ _ rfl
 ·have d:v9 ((9:Int)<(b:Int))=true:=decide_eq_true (by omega)
  rw [if_neg c,Xa,qr (h1:=h) (by simp_all [jt,d]),Xa]
  simp_all []
def DA (k) (nm d) (h) (a:Gc d=k9) (c:zf d 5=y9):call prog (k+5) "check_bits" [.v nm,.v d,.v (.int 9)] h= .exc (.exc "NoSize" []) h:=by
 have b:=w9 k d h a c
 rw [Ga rfl _ _ _ rfl]
 simp only [GF]
 rw [execs,show exec (u9 _) _ _ h= .exc _ h by simp_all [b];rfl]
 rfl
def lH:prog.con.lookup "MOST_LISTED_BITS" =some (.int 9):=rfl
def Im (k) (nm sy d e) (h) (a:call prog k "check_bits" [.v nm,.v d,.v (.int 9)] h= .exc e h):call prog (k+1) "unlike" [.v (.tup [nm,sy]),.v d] h= .exc e h:=by
 rw [Ga rfl _ _ _ rfl]
 simp only [Ko]
 refine fx (by simp_all [];rfl) ?_
 rw [execs,show exec (u9 k) _ [y0 _,y0 _,y0 _,y0 _] h= .exc e h by simp_all [lH,a];rfl]
 rfl
def nz (n) (K T) (ss) (c):(kc n K T ss c=k9->hF n K T ss (cL n K.length T.length c) (cM n K.length T.length c)= .av)/\(kc n K T ss c=y9-> ∃i:Nat,hF n K T ss (cL n K.length T.length c) (cM n K.length T.length c)= .int (i:Int)):=by
 have e:=vO (dZ n K T (cL n K.length T.length c) (cM n K.length T.length c)) ss 0
 unfold hF kc gb
 rw [← e]
 cases e7 _ ss 0 with
 | none=>exact⟨λ_=>rfl,λz=>by cases z⟩
 | some j=>exact⟨λz=>(by cases z),λ_=>⟨j,rfl⟩⟩
section
variable {n:Nat}{K T:List Tx}{ss:List Sy}(C:Ct n K T ss)
include C
def wN (m) (k:55<=m):call prog (m+1) "unlike" [.v (.tup [wD K T,.tup (ss.map aK)]),.v (.int (n:Int))] []= .ok (.own ((dL n K T ss).map (wX n K T))) []:=by
 have d:=ml (m-5) n K T [] C.hn C.hK C.hT
 rw [if_pos C.hb,show m-5+5=m by omega]at d
 have e:=Hy C (m-7)
 rw [show m-7+7=m by omega]at e
 have n5:=C.n5
 rw [Ga rfl _ _ _ rfl]
 simp only [Ko]
 refine fx (by simp_all [];rfl) ?_
 refine fx (by simp_all [lH,d];rfl) ?_
 have j:dL n K T ss=((Aa0 (nB n K T)).filter (bX n K.length T.length)).filter (kc n K T ss):=by
  unfold dL kL
  rw [List.filter_filter,List.filter_filter]
  exact List.filter_congr λx _=>Bool.and_comm _ _
 rw [jb (w:= .own ((dL n K T ss).map _)) (wm rfl (by
  rw [j]
  unfold XG
  refine uF (wX n K T) _ _ (XR (by simp_all [e])) (Ac (Ad9 _ _) (by rw [Aj4];omega)) λc f=> ?_
  have b:=Ab3.mp (Ae3.mp f).1
  have a:=ZL C (C.at b) (m-1) (by omega)
  rw [show m-1+1=m by omega]at a
  refine⟨?_,by simp_all []⟩
  obtain⟨g,h⟩:=nz n K T ss c
  cases q:kc n K T ss c with
  | true=>
   rw [g q]at a
   simp_all [a]
  | false=>
   obtain⟨i,z⟩:=h q
   rw [z]at a
   simp_all [a]))]
 exact Gw _ _ _ rfl
end
section
variable {n:Nat}{K T:List Tx}{ss:List Sy}(C:Ct n K T ss)
theorem tI : ∀ {l:List Nat},c∈l-> ∃j:Nat,Pt (wX n K T c) (l.map (wX n K T))=y0 j
 | [],h=>by cases h
 | x::l,h=>by
  rw [Aa9,Pt]
  by_cases q:cj (wX n K T x) (wX n K T c)=k9
  ·exact⟨0,if_pos q⟩
  ·rcases Ab2.mp h with rfl | h
   ·exact absurd (xA (xn ..)) q
   ·obtain⟨j,e⟩:=tI h
    exact⟨j+1,by rw [if_neg q,e];rfl⟩
def E8 {l:List Nat}(b:c∈l) (i:l.length<=512): ∃j:Nat,Pk (.v (wX n K T c)) (.v (.lst (l.map (wX n K T)))) []=y0 j/\Pk (.v (wX n K T c)) (.own (l.map (wX n K T))) []=y0 j:=by
 obtain⟨j,e⟩:=tI b
 have a:Gd (l.map (wX n K T))=true:=Xl _ (λ_=>xn ..) l
 have d:(W.v _).dd []=wX n K T c:=ZH (xn ..)
 have a2:KT [] _=l.map _:=Ki a
 have dp:KA (l.map (wX n K T))<=2:=xJ _ 2 (λ_=>vx ..) l
 have f:((Gc (wX n K T c)&&Gd (l.map (wX n K T))&&v9 (KA (l.map (wX n K T))<140))&&v9 ((l.map (wX n K T)).length<=aZ))=true:=by
  rw [show Gc _=k9 from xn ..,a,decide_eq_true (by lia),decide_eq_true (by rw [Gi,Aa];lia)]
  rfl
 have g: ∀w:W,w.dd []= .lst _->Pk (.v _) w []=y0 j:=λw h=>by
  unfold Pk
  rw [h,d]
  show(if _ then _ else _)=_
  rw [if_pos f,e]
 exact⟨j,g _ (congrArg D.lst a2),g _ (congrArg D.lst a2)⟩
include C
def tG:(dL n K T ss).length<=512:=Ac (Ad9 _ _) (u7 C)
def LV (m) (e:55<=m)(a:i<(dL n K T ss).length):call prog (m+2) "world_at" [.v (.tup [wD K T,.tup (ss.map aK)]),.v (.int (n:Int)),.v (.int (i:Int))] []= .ok (.v (wX n K T ((dL n K T ss).getD i 0))) []:=by
 have c:=wN C m e
 have b:=Jl (m-1) (.int i) ((dL n K T ss).length) [] rfl
 rw [show m-1+2=m+1 by omega,show zf _ _=k9 by
  show(v9 (0<= i)&&decide _)=k9
  rw [decide_eq_true (by omega),decide_eq_true (by omega)];rfl]at b
 have d:aX ((dL n K T ss).map (wX n K T)) (i:Int)=y0 (wX n K T ((dL n K T ss).getD i 0)):=by
  rw [Qh _ _ (by rw [Aa];exact a),Ac5,Ab5,Aa4 a];rfl
 rw [Ga rfl _ _ _ rfl]
 simp only [GJ]
 refine fx (by simp_all [c];rfl) ?_
 rw [Za (by simp_all [zp,Aa,b])]
 rw [jb (xc rfl (by simp_all [wk,d];rfl))]
 exact Gb _ _ _ rfl
def yt (m) (e:55<=m) (d) (b:Gc d=k9) (f:zf d (((dL n K T ss).length:Nat):Int)=y9):call prog (m+2) "world_at" [.v (.tup [wD K T,.tup (ss.map aK)]),.v (.int (n:Int)),.v d] []= .exc (.err "NoNumber" "number" d) []:=by
 have c:=wN C m e
 have a:=Jl (m-1) d ((dL n K T ss).length) [] b
 rw [show m-1+2=m+1 by lia,f]at a
 rw [Ga rfl _ _ _ rfl]
 simp only [GJ]
 refine fx (by simp_all [c];rfl) ?_
 rw [execs,qr (h1:= []) (by simp_all [zp,Aa,a]),Xa]
 simp_all []
def Hd (m) (E:56<=m)(p:c<nB n K T) (q:kc n K T ss c=true): ∃g j:Nat,call prog (m+1) "number_of" [.v (.tup [wD K T,.tup (ss.map aK)]),.v (wX n K T c)] []= .ok (.v (.int (j:Int))) []/\(∀ k,call prog (k+3) "_law_least" [.v (wX n K T c)] []= .ok (.v (wX n K T g)) [])/\Pk (.v (wX n K T g)) (.v (.lst ((dL n K T ss).map (wX n K T)))) []=some j:=by
 obtain⟨g,v,_,x,y,_,_,l⟩:=nv C p
 have d:=C.at p
 have e: ∀k,call prog _ "_law_least" [.v _] []= .ok _ []:=fun k=>by
  obtain⟨a,b,t,e⟩:=QV d.wl k []
  rw [l a b t]at e
  exact e
 obtain⟨z,s,h,f⟩:=Ej d.wl (A:=K.map D.str) (B:=T.map D.str) (by rw [Aa];exact d.lk.symm) (by rw [Aa];exact d.lt.symm) _ []
 rw [l z s h,show m-7+7=m by omega]at f
 have f:=f
 obtain⟨j,u,w⟩:=E8 (Ae3.mpr ⟨Ae3.mpr ⟨Ab3.mpr v,by rw [x];exact q⟩,y⟩) (tG C)
 refine⟨g,j,?_,e,u⟩
 have o:=ml (m-5) n K T [] C.hn C.hK C.hT
 rw [if_pos C.hb,show m-5+5=m by omega]at o
 have r:=ZL C d (m-1) (by omega)
 rw [(nz n K T ss c).1 q,show m-1+1=m by omega]at r
 have i:=wN C (m-1) (by omega)
 rw [show m-1+1=m by omega]at i
 rw [Ga rfl _ _ _ rfl]
 simp only [GP]
 refine fx (by simp_all [];rfl) ?_
 refine fx (by simp_all [ah,Xs,lH,o];rfl) ?_
 refine fx (by simp_all [r];rfl) ?_
 rw [Za (by simp_all [])]
 rw [jb (xc rfl (by
  rw [eval,ux (by simp_all [ah,Xs];rfl) i,R.aa]
  simp_all [kY,W.eQ,f,lP,w];rfl))]
 exact Gb _ _ _ rfl
def F9 (m) (g:56<=m)(e:c<nB n K T)(f:hF n K T ss (cL n K.length T.length c) (cM n K.length T.length c)= .int (i:Int)):call prog (m+1) "number_of" [.v (.tup [wD K T,.tup (ss.map aK)]),.v (wX n K T c)] []= .exc (.err "Broken" "number" (.int (i:Int))) []:=by
 have a:=C.at e
 have d:=ml (m-5) n K T [] C.hn C.hK C.hT
 rw [if_pos C.hb,show m-5+5=m by omega]at d
 have b:=ZL C a (m-1) (by omega)
 rw [f,show m-1+1=m by omega]at b
 rw [Ga rfl _ _ _ rfl]
 simp only [GP]
 refine fx (by simp_all [];rfl) ?_
 refine fx (by simp_all [ah,Xs,lH,d];rfl) ?_
 refine fx (by simp_all [b];rfl) ?_
 rw [execs,qr (h1:= []) (by simp_all []),Xa]
 simp_all []
end
def FE (k n:Nat) (nm sy e) (ks ts) (c:call prog k "check_bits" [.v nm,.v (.int (n:Int)),.v (.int 9)] []= .exc e []):call prog (k+1) "number_of" [.v (.tup [nm,sy]),.v (wc n ks ts)] []= .exc e []:=by
 refine fx (by simp_all [];rfl) ?_
 rw [execs,(show ∀Y:Sl,Gj Y 1=y0 _->Gj Y 2=y0 _->exec (u9 k) _ Y []= .exc e []from λY b a=>by simp_all [b,a,ah,Xs,lH,c];rfl) _ rfl rfl]
 rfl
def v5 (k) (nm sy d x e) (b:call prog k "check_bits" [.v nm,.v d,.v (.int 9)] []= .exc e []):call prog (k+2) "world_at" [.v (.tup [nm,sy]),.v d,.v x] []= .exc e []:=by
 have a:=Im k nm sy d e [] b
 rw [Ga rfl _ _ _ rfl]
 simp only [GJ]
 rw [execs,show exec (u9 _) _ _ []= .exc e []by simp_all [a];rfl]
 rfl
abbrev WT:Tx:= [116,111,108,100]
abbrev Q0:Tx:= [98,114,111,107,101,110]
abbrev Xz:Tx:= [110,117,109,98,101,114]
abbrev uf:Tx:= [98,105,103]
abbrev x9:Tx:= [115,105,122,101]
noncomputable def Dy:List String:= ["NoSize", "NoPair", "NoName", "NoCode", "NoText", "Crowded", "TooBig", "NoWorld", "NoRenaming", "NoNumber", "Broken", "Kept", "Unlike", "NoRow", "NoStand", "ValueError"]
def fv (c:String):List D:=Dy.map λx=> .bl ([x].any (Kz prog.cl 8 c).contains)
def el (a:Nat):List D:=(Aa0 16).map λ(i:Nat)=> .bl (v9 ((i:Int)=(a:Int))||v9 ((i:Int)=15))
def oQ (h:xs.length+ys.length<=16):KZ .add (.v (.lst xs)) (.own ys) []= .ok (.own (xs++ys)) []:=by rw [EY,if_pos (by rw [Gi];lia)]
def Lj (k) (e) (c) (a: ∀ts,bY prog.cl (.v e) ts=y0 (ts.any (Kz prog.cl 8 c).contains)):call prog (k+1) "_law_classes" [.v e] []= .ok (.v (.lst (fv c))) []:=by
 rw [Ga rfl _ _ _ rfl]
 simp only [GO]
 refine fx (by simp_all [a];rfl) ?_
 refine fx (by simp_all [a];rw [oQ (by simp)];rfl) ?_
 refine fx (by simp_all [a];rw [oQ (by simp)];rfl) ?_
 refine fx (by simp_all [a];rw [oQ (by simp)];rfl) ?_
 rw [jb rfl]
 exact Gb _ _ _ rfl
def QN (F) (a:Nat) (Y):eval F (.comp [0] k9 1 [] (.aw (.int 16)) y9 (.bl k9) (.or (.cmp .eq (.var 0) (.int (a:Int))) (.cmp .eq (.var 0) (.int 15)))) Y []= .ok (.own (el a)) []:=by
 refine X5 (λi=> .bl _) rfl (by decide) λi c=>⟨.v _,?_,rfl⟩
 have q:=qp i a []
 have b:=qp i 15 []
 cases z:v9 (i=(a:Int))<;>(rw [z]at q;simp_all [q,b];try rfl)
def mm:Gy .eq (.v (.lst (fv "NoNumber"))) (.own (el 10)) []=some false/\Gy .eq (.v (.lst (fv "NoNumber"))) (.own (el 9)) []=some true/\Gy .eq (.v (.lst (fv "Broken"))) (.own (el 10)) []=some true/\Gy .eq (.v (.lst (fv "TooBig"))) (.own (el 10)) []=some false/\Gy .eq (.v (.lst (fv "TooBig"))) (.own (el 9)) []=some false/\Gy .eq (.v (.lst (fv "TooBig"))) (.own (el 6)) []=some true/\Gy .eq (.v (.lst (fv "NoSize"))) (.own (el 10)) []=some false/\Gy .eq (.v (.lst (fv "NoSize"))) (.own (el 9)) []=some false/\Gy .eq (.v (.lst (fv "NoSize"))) (.own (el 6)) []=some false/\Gy .eq (.v (.lst (fv "NoSize"))) (.own (el 0)) []=some true:=by decide +kernel
def WY:Nat->Ss->Ss
 | 0,s=>s
 | n+1,.cons _ r=>WY n r
 | _+1,.nil=> .nil
def rP (a:(w= .av/\call prog k "world_at" [.v th,.v sz,.v nb] []= .ok (.v v) [])\/ ∃ts,w= .tup ts/\call prog k "number_of" [.v th,.v w] []= .ok (.v v) []):call prog (k+1) "_law_asked" [.v th,.v sz,.v w,.v nb] []= .ok (.own [.str WT,v]) []:=by
 refine fx (by simp_all [];rfl) ?_
 refine fx (by simp_all [];rfl) ?_
 refine fx (Y1:= [y0 _,y0 _,y0 (.v w),y0 _,y0 _,y0 _,u0,u0]) (by rcases a with⟨rfl,a⟩ | ⟨ts,rfl,a⟩<;>(simp_all [Pr,a];try rfl)) ?_
 rw [jb (by rw [qr (h1:= []) (by simp_all []),Xa];exact wm rfl (by simp_all [];rfl))]
 exact Gw _ _ _ rfl
def E3 (e:D) (c:String):Prop:=e= .exc c []\/ ∃f d,e= .err c f d
def m7 (a:(w= .av/\call prog (k+1) "world_at" [.v th,.v sz,.v nb] []= .exc e [])\/ ∃ts,w= .tup ts/\call prog (k+1) "number_of" [.v th,.v w] []= .exc e []) (b:E3 e c) (i: ["WorldError"].any (Kz prog.cl 8 c).contains=true)
 (g:GZ 0 (execs (u9 (k+1)) (WY 5 aP.body) [y0 (.v th),y0 (.v sz),y0 (.v w),y0 (.v nb),y0 (.v e),y0 (.v .av),u0,y0 (.v (.lst (fv c)))] [])=r):call prog (k+2) "_law_asked" [.v th,.v sz,.v w,.v nb] []=r:=by
 have h: ∀ts,bY prog.cl (.v e) ts=y0 (ts.any (Kz prog.cl 8 c).contains):=λts=>by
  rcases b with rfl | ⟨f,d,rfl⟩<;>rfl
 have j:=Lj k e c h
 rw [Ga rfl _ _ _ rfl,←g]
 simp only [aP,WY]
 refine fx (by simp_all [];rfl) ?_
 refine fx (by simp_all [];rfl) ?_
 refine fx (Y1:= [y0 _,y0 _,y0 (.v w),y0 _,y0 _,y0 _,u0,u0]) (by rcases a with⟨rfl,a⟩ | ⟨ts,rfl,a⟩<;>(simp_all [Pr,a,h,i];try rfl)) ?_
 rw [Za (by rcases b with rfl | ⟨f,d,rfl⟩<;>simp_all [])]
 exact fx (by simp_all [j]) rfl
def wE:(["WorldError"].any (Kz prog.cl 8 "NoNumber").contains=true/\ ["WorldError"].any (Kz prog.cl 8 "Broken").contains=true)/\ ["WorldError"].any (Kz prog.cl 8 "TooBig").contains=true/\ ["WorldError"].any (Kz prog.cl 8 "NoSize").contains=true:=by decide +kernel
section
variable (F:Fx) (Y:Sl)
def mf:eval F Qv Y []= .ok (.own (el 10)) []:=QN F 10 Y
def oI:eval F Qw Y []= .ok (.own (el 9)) []:=QN F 9 Y
def uK:eval F Zw Y []= .ok (.own (el 6)) []:=QN F 6 Y
def IM:eval F Wv Y []= .ok (.own (el 0)) []:=QN F 0 Y
end
def Dv (c:call prog (k+1) "world_at" [.v th,.v sz,.v nb] []= .exc (.err "NoNumber" "number" nb) []):call prog (k+2) "_law_asked" [.v th,.v sz,.v .av,.v nb] []= .ok (.own [.str Xz,nb]) []:=by
 obtain⟨b,a,_⟩:=mm
 refine m7 (.inl ⟨rfl,c⟩) (.inr ⟨_,_,rfl⟩) wE.1.1 ?_
 simp only [aP,WY]
 rw [Za (by simp_all [mf,b])]
 rw [jb (by rw [qr (h1:= []) (by simp_all [oI,a]),Xa];exact wm rfl (by simp_all [if_true];rfl))]
 exact Gw _ _ _ rfl
def FZ (b:call prog (k+1) "number_of" [.v th,.v (.tup ts)] []= .exc (.err "Broken" "number" d) []):call prog (k+2) "_law_asked" [.v th,.v sz,.v (.tup ts),.v nb] []= .ok (.own [.str Q0,d]) []:=by
 obtain⟨_,_,a,_⟩:=mm
 refine m7 (.inr ⟨ts,rfl,b⟩) (.inr ⟨_,_,rfl⟩) wE.1.2 ?_
 simp only [aP,WY]
 rw [jb (by rw [qr (h1:= []) (by simp_all [mf,a]),Xa];exact wm rfl (by simp_all [if_true];rfl))]
 exact Gw _ _ _ rfl
def vb (b:(w= .av/\call prog (k+1) "world_at" [.v th,.v sz,.v nb] []= .exc (.err "TooBig" "bits" d) [])\/ ∃ts,w= .tup ts/\call prog (k+1) "number_of" [.v th,.v w] []= .exc (.err "TooBig" "bits" d) []):call prog (k+2) "_law_asked" [.v th,.v sz,.v w,.v nb] []= .ok (.own [.str uf,d]) []:=by
 obtain⟨_,_,_,c,e,a,_⟩:=mm
 refine m7 b (.inr ⟨_,_,rfl⟩) wE.2.1 ?_
 simp only [aP,WY]
 rw [Za (by simp_all [mf,c]),Za (by simp_all [oI,e])]
 rw [jb (by rw [qr (h1:= []) (by simp_all [uK,a]),Xa];exact wm rfl (by simp_all [if_true];rfl))]
 exact Gw _ _ _ rfl
def F2 (c:call prog (k+1) "world_at" [.v th,.v sz,.v nb] []= .exc (.exc "NoSize" []) []):call prog (k+2) "_law_asked" [.v th,.v sz,.v .av,.v nb] []= .ok (.own [.str x9]) []:=by
 obtain⟨_,_,_,_,_,_,d,e,b,f⟩:=mm
 refine m7 (.inl ⟨rfl,c⟩) (.inl rfl) wE.2.2 ?_
 simp only [aP,WY]
 have a:KZ .mul (.own [.str x9]) (.v (.int 1)) []= .ok (.own [.str x9]) []:=by
  show(if _ then _ else _)=_
  rw [if_pos (by rw [Gi];decide)]
  rfl
 rw [Za (by simp_all [mf,d]),Za (by simp_all [oI,e]),Za (by simp_all [uK,b])]
 rw [jb (wm rfl (by simp_all [IM,a];first | rfl | exact a))]
 exact Gw _ _ _ rfl
def lq (xs) (a:Gd xs=k9) (c:KA xs<100):Gy .eq (.v (.lst xs)) (.own xs) []=y0 k9/\Gy .eq (.own xs) (.v (.lst xs)) []=y0 k9/\Gy .ne (.own xs) (.v (.lst xs)) []=y0 y9/\Gy .ne (.own xs) (.own xs) []=y0 false:=by
 have b:(W.v (.lst xs)).dd []= .lst xs:=congrArg D.lst (Ki a)
 have a2:(W.own xs).dd []= .lst xs:=congrArg D.lst (Ki a)
 have a3:KN (.lst xs) (.lst xs)=true:=by rw [KN,show Gc (.lst xs)=k9 from a,decide_eq_true (show KA xs+1<150 by lia)];rfl
 have a4:=Kg a
 simp [b,a2,a3,a4,and_self]
def jJ (k) (d) (h) (a:Gc d=k9):call prog (k+1) "_law_whole" [.v d] h= .ok (.v (.bl (qt d))) h:=by
 cases d<;>first | exact Gb _ _ _ rfl | cases a
section
variable {n:Nat}{K T:List Tx}{ss:List Sy}(C:Ct n K T ss)
include C
def tu (b:c<nB n K T):call prog 59 "_law_world_right" [.v (.tup [wD K T,.tup (ss.map aK)]),.v (wX n K T c),.v (.lst ((dL n K T ss).map (wX n K T)))] []= .ok (.v (.bl true)) []:=by
 have d:=C.at b
 have a:=IS C d 57 (by decide)
 rw [Ga rfl _ _ _ rfl]
 simp only [Gz]
 obtain⟨l,m⟩:=nz n K T ss c
 refine fx (by simp_all [];rfl) ?_
 cases q:kc n K T ss c with
 | true=>
  obtain⟨s,j,r,p,h⟩:=Hd C 56 (by decide) b q
  have f:=rP (sz:= .int (n:Int)) (nb:= .int 0) (.inr ⟨_,rfl,r⟩)
  rw [l q]at a
  have o:=p 55
  have g:=jJ 57 (.int (j:Int)) [] rfl
  have e:=(lq [.str WT,.int (j:Int)] rfl (by simp)).1
  refine fx (by simp_all [ah,Xs,f];rfl) ?_
  refine fx (by simp_all [a];rfl) ?_
  rw [Za (by simp_all [])]
  rw [jb (xc rfl (by simp_all [kY,lP,o,h,W.lJ,Option.isSome_some,if_true,e,wk,g];rfl))]
  exact Gb _ _ _ rfl
 | false=>
  obtain⟨i,z⟩:=m q
  have f:=FZ (k:=56) (sz:= .int (n:Int)) (nb:= .int 0) (F9 C 56 (by decide) b z)
  rw [z]at a
  have g:=jJ 57 (.int (i:Int)) [] rfl
  have e:=(lq [.str Q0,.int (i:Int)] rfl (by simp)).1
  refine fx (by simp_all [ah,Xs,f];rfl) ?_
  refine fx (by simp_all [a];rfl) ?_
  rw [jb (h1:= []) (by
   rw [qr (h1:= []) (by simp_all []),Xa]
   exact xc rfl (by simp_all [e,wk,g];rfl))]
  exact Gb _ _ _ rfl
def Au (c:Gc d=true) (j:dep d<50) (b:zf d (((dL n K T ss).length:Nat):Int)=false) (g:d= .bl true\/d= .av\/ ∃i,d= .int i):call prog 59 "_law_number_right" [.v (.tup [wD K T,.tup (ss.map aK)]),.v (.int (n:Int)),.v d,.v (.lst ((dL n K T ss).map (wX n K T)))] []= .ok (.v (.bl true)) []:=by
 have f:=Dv (yt C 55 (by decide) d c b)
 have a:=jJ 57 d [] c
 have e:=(lq [.str Xz,d] (by show(_&&(_&&_))=k9;rw [c];rfl) (by simp [KA,dep];omega)).1
 rw [Ga rfl _ _ _ rfl]
 simp only [Gv]
 refine fx (by simp_all [f];rfl) ?_
 have t:Gs (u9 58) (.or (.not (.call "_law_whole" (.cons (.var 2) .nil))) (.or (.cmp .lt (.var 2) (.int 0)) (.cmp .ge (.var 2) (.bi .len (.cons (.var 3) .nil))))) [some (.v (.tup [wD K T,.tup (ss.map aK)])),some (.v (.int (n:Int))),some (.v d),some (.v (.lst ((dL n K T ss).map (wX n K T)))),some (.v (.lst [.str Xz,d]))] []= .ok true []:=by
  rcases g with rfl | rfl | ⟨i,rfl⟩
  ·simp_all [a,qt]
  ·simp_all [a,qt]
  ·have b:(v9 ((0:Int)<=i)&&v9 (i<(((dL n K T ss).length:Nat):Int)))=false:=b
   by_cases z:i<0
   ·simp_all [a,qt,Qc,decide_eq_true z]
   ·rw [decide_eq_true (show 0<=i by omega),Ai5]at b
    have k:=of_decide_eq_false b
    simp_all [a,qt,Qc,decide_eq_false z,nK,zp,Aa,decide_eq_true (show (((dL n K T ss).length:Nat):Int)<=i by omega)]
 have h:Gy .eq _ (.v (.bl (qt d))) []=y0 true:=Dm _ rfl (by simp) []
 rw [jb (by
  rw [qr t,Xa]
  exact xc rfl (by simp_all [e,wk,show aX [D.str Xz,d] 1=y0 d from rfl,a,h];rfl))]
 exact Gb _ _ _ rfl
def Ly (b:i<(dL n K T ss).length):call prog 59 "_law_number_right" [.v (.tup [wD K T,.tup (ss.map aK)]),.v (.int (n:Int)),.v (.int (i:Int)),.v (.lst ((dL n K T ss).map (wX n K T)))] []= .ok (.v (.bl true)) []:=by
 have e:=rP (.inl ⟨rfl,LV C 55 (by decide) b⟩)
 have h:=jJ 57 (.int i) [] rfl
 have f:aX ((dL n K T ss).map (wX n K T)) i=y0 (wX n K T ((dL n K T ss).getD i 0)):=by
  rw [Qh _ _ (by rw [Aa];exact b),Ac5,Ab5,Aa4 b];rfl
 have d:(dL n K T ss).getD i 0∈dL n K T ss:=by rw [Ab5,Aa4 b];exact Ak0 b
 generalize (dL n K T ss).getD i 0=c at e f d
 have a:=C.at (uP C (Ae3.mp d).1).1
 have k:=a.wl.k4
 have j:=a.wl.t4
 have g:call prog 58 "_law_alike" [.v _,.v (wX n K T c)] []= .ok _ []:=Hh 56 n _ _ (by omega) (by omega) []
 rw [Ga rfl _ _ _ rfl]
 simp only [Gv]
 refine fx (by simp_all [e];rfl) ?_
 rw [Za (by simp_all [h,qt,Qc,decide_eq_false (show ¬(i:Int)<0 by omega),nK,zp,Aa,decide_eq_false (show ¬(((dL n K T ss).length:Nat))<=(i:Int)by omega)])]
 rw [jb (xc rfl (by simp_all [wk,show aX [D.str WT,wX n K T c] 0=y0 (.str WT)from rfl,show aX [D.str WT,wX n K T c] 1=y0 (wX n K T c)from rfl,Jv,beq_self_eq_true,f,g];rfl))]
 exact Gb _ _ _ rfl
def oZ (b:d= .bl true\/d= .av\/ ∃i,d= .int i):call prog 59 "_law_number_right" [.v (.tup [wD K T,.tup (ss.map aK)]),.v (.int (n:Int)),.v d,.v (.lst ((dL n K T ss).map (wX n K T)))] []= .ok (.v (.bl true)) []:=by
 have c:Gc d=k9/\dep d<50:=by rcases b with rfl | rfl | ⟨i,rfl⟩<;>exact⟨rfl,by simp⟩
 cases a:zf d (_)with
 | false=>exact Au C c.1 c.2 a b
 | true=>
  obtain rfl | rfl | ⟨i,rfl⟩:=b
  ·cases a
  ·cases a
  ·have a:(decide _&&decide _)=true:=a
   rw [Aa7,decide_eq_true_eq,decide_eq_true_eq]at a
   obtain⟨j,rfl⟩:=Ah8 a.1
   exact Ly C (by omega)
end
def sJ:List (Nat×Nat×Nat):= [(0,1,2),(1,0,3),(1,1,1),(2,0,2),(2,3,1),(1,1,2),(0,0,3),(1,0,2)]
abbrev yE (p:Nat×Nat×Nat):D:= .tup [.int (p.1:Int),.int (p.2.1:Int),.int (p.2.2:Int)]
def tf (p:Nat×Nat×Nat):Bool:=v9 (p.1<=4)&&v9 (p.2.1<=4)&&v9 (p.2.2<=4)&&v9 (p.1*p.2.2+p.2.1*p.2.2*p.2.2<=9)
def Cq:sJ.all tf=true:=by decide +kernel
def BK:Gn .pow 10 20=y0 (10 ^ 20):=by
 have:(0:Int)<=20/\ 20<=BP/\(10:Int).natAbs<iO:=by rw [KY,G7];decide
 show(if _ then _ else _)=_
 rw [if_pos this];rfl
def D3 {K T n:Nat}(d:K<=4) (a:T<=4) (b:n<=4):Gn .mul (K:Int) (n:Int)=y0 ((K*n:Nat):Int)/\Gn .mul (T:Int) (n:Int)=y0 ((T*n:Nat):Int)/\Gn .mul ((T*n:Nat):Int) (n:Int)=y0 ((T*n*n:Nat):Int)/\((K*n:Nat):Int)+((T*n*n:Nat):Int)=((K*n+T*n*n:Nat):Int):=by
 have c:=Ad7 a b
 exact⟨Zc K n (by lia),Zc T n (by lia),Zc _ n (by lia),rfl⟩
def Lh (u:Nat) (h): ∃a:Nat,cI .min [.v (.int (u:Int)),.v (.int 2)] h=aU (.int (a:Int)) h:=by
 show ∃a:Nat,aU _ h=_
 by_cases c: 2<(u:Int)
 ·exact⟨2,by rw [if_pos c];rfl⟩
 ·exact⟨u,by rw [if_neg c]⟩
noncomputable abbrev lw (a:List Int) (c:Int) (s:D) (K T n:Nat) (w:D) (u:Nat):Sl:= [y0 (.v (.lst (a.map .int))),y0 (.v (.int c)),y0 (.v s),y0 (.v (.int (K:Int))),y0 (.v (.int (T:Int))),y0 (.v (.int (n:Int))),y0 (.v w),y0 (.v (.int (u:Int))),u0,u0,u0,u0,u0,u0,u0,u0,u0]
def iH (l:List Int) (hl:l.length<=63): ∃h',call prog 60 "law" [.v (.lst (l.map .int))] []= .ok (.v (.bl true)) h':=by
 refine⟨[],?_⟩
 have w: ∀(i:Nat) (j:Int),j=(i:Int)->call prog 59 "_law_nth" [.v _,.v _] []= .ok _ []:=fun i j e=>by rw [e];exact uw 58 l i []
 have n0:=w 0 0 rfl
 have n1:=w 1 1 rfl
 have n2:=w 2 2 rfl
 have n3:=w 3 3 rfl
 have n4:=w 4 4 rfl
 have n5:=w 5 5 rfl
 have n6:=w 6 6 rfl
 generalize l.getD 0 0=v0 at n0
 generalize l.getD 1 0=F at n1
 generalize l.getD 2 0=v2 at n2
 generalize l.getD 3 0=v3 at n3
 generalize l.getD 4 0=S at n4
 generalize l.getD 5 0=m at n5
 generalize l.getD 6 0=v6 at n6
 have f2:=jz v0 2 (by decide) (by decide)
 generalize v0 / 2=v at f2
 have m8:=Qo v 8 (by decide)
 obtain⟨d,hd,P⟩:=xN (xs:=sJ.map yE) v (by decide)
 obtain⟨⟨K,T,n⟩,hp,rfl⟩:=Ac1.mp hd
 have ok:=Ae1.mp Cq _ hp
 simp only [tf,Aa7,decide_eq_true_eq]at ok
 obtain⟨⟨⟨X,hT⟩,hn⟩,hb⟩:=ok
 have P:aX [D.tup [.int 0,.int 1,.int 2],.tup [.int 1,.int 0,.int 3],.tup [.int 1,.int 1,.int 1],.tup [.int 2,.int 0,.int 2],.tup [.int 2,.int 3,.int 1],.tup [.int 1,.int 1,.int 2],.tup [.int 0,.int 0,.int 3],.tup [.int 1,.int 0,.int 2]] (v % 8)=y0 (.tup [.int (K:Int),.int (T:Int),.int (n:Int)]):=P
 obtain⟨g,f,lK,lT,nd,en⟩:=rz 58 K T X hT []
 have f8:=jz v 8 (by decide) (by decide)
 have m4:=Qo (v / 8) 4 (by decide)
 obtain⟨u,hu,eu⟩:=jf (v / 8) 4 (by decide)
 rw [show v / 8 % 4=(u:Int)from eu]at m4
 obtain⟨k1,k2,k3,k4⟩:=D3 X hT hn
 rw [Ga (d:=dH) rfl _ _ _ rfl]
 refine Eq.trans (congrArg (GZ 0) (?_:_=O.ret (.v (.bl k9)) [])) (Gb _ [] [] rfl)
 simp only [dH]
 refine Eq.trans (za (by simp_all [n0,f2];rfl)) ?_
 refine Eq.trans (za (by simp_all [];rfl)) ?_
 refine Eq.trans (za (by simp_all [m8,wk,P];rfl)) ?_
 refine Eq.trans (za (by simp_all [en];rfl)) ?_
 refine Eq.trans (za (by simp_all [f8,m4];rfl)) ?_
 obtain⟨G,e1⟩: ∃G:Nat,∀s,exec (u9 59) (.iff (.cmp .gt (.bin .add (.bin .mul (.var 3) (.var 5)) (.bin .mul (.bin .mul (.var 4) (.var 5)) (.var 5))) (.int 5)) (.cons (.ak 7 (.bi .min (.cons (.var 7) (.cons (.int 2) .nil)))) .nil) .nil) (lw l v s K T n (wD g f) u) []= .next (lw l v s K T n (wD g f) G) []:=by
  cases z:v9 ((5:Int)<((K*n+T*n*n:Nat):Int))with
  | true=>
   obtain⟨G,em⟩:=Lh u []
   exact⟨G,λs=>by rw [qr (h1:= []) (by simp_all [k1,k2,k3,Jc,k4,jt,z]),Xa];simp_all [em];try rfl⟩
  | false=>exact⟨u,λs=>by rw [QU (h1:= []) (by simp_all [k1,k2,k3,Jc,k4,jt,z])];rfl⟩
 refine Eq.trans (za (e1 _)) ?_
 obtain⟨q,sl,sw,ey⟩:=AR 55 l hl g f (by rw [Ab0];omega) 7 G
 have ey:call prog 59 "_law_sayings" [.v (.lst (l.map .int)),.v (wD g f),.v (.int 7),.v (.int (G:Int))] []= .ok (.v (.tup (q.map aK))) []:=ey
 have C:Ct n g f q:=⟨hn,by omega,by omega,nd,sw,sl,by rw [lK,lT];exact hb⟩
 have ek:=Lc C 58 (by decide)
 have kl:=u7 C
 have dl:=tG C
 refine Eq.trans (za (by simp_all [ey];rfl)) ?_
 have P: ∀Y:Sl,Gj Y 5=y0 (.v (.int (n:Int)))->Gj Y 6=y0 (.v (wD g f))->Gj Y 8=y0 (.v (.tup [wD g f,.tup (q.map aK)]))->eval (u9 59) xZ Y []= .ok (.own ((dL n g f q).map (wX n g f))) []:=λY h5 h6 h8=>by
  unfold xZ
  have Q:aX [wD g f,D.tup (q.map aK)] 1=y0 (.tup (q.map aK)):=rfl
  refine uF (wX n g f) (bX n g.length f.length) _ (XR (by simp_all [h5,h6,h8,ah,Q,ek])) (by omega) λc hc=> ?_
  obtain⟨r,_⟩:=uP C hc
  obtain⟨c',q1,q2,q3,q4,q5⟩:=FG C r 56 []
  have q6:=FF C q1 r []
  rw [show v9 (c'=c)=bX n g.length f.length c by
   cases z:bX n g.length f.length c with
   | true=>exact decide_eq_true (q4.mp z)
   | false=>exact decide_eq_false λe=>by rw [q4.mpr e]at z;cases z]at q6
  exact⟨by simp_all [q5,q6],by simp_all []⟩
 refine Eq.trans (za (sZ (P _ rfl rfl rfl) rfl)) ?_
 have hw: ∀x:Int,∃c,c<nB n g f/\call prog 59 "_law_world" [.v (.int (n:Int)),.v (.int (K:Int)),.v (.int (T:Int)),.v (.int x)] []= .ok (.v (wX n g f c)) []:=fun x=>by
  obtain⟨c,r,h2⟩:=jf x (2 ^ (K*n+T*n*n)) (Ah6 (by decide))
  refine⟨c,by rw [nB,lK,lT];exact r,?_⟩
  have e:=jK 58 n K T c x [] hn X hT h2
  rw [wX,lK,lT]
  exact e
 obtain⟨c2,hc2,w2⟩:=hw v2
 obtain⟨c3,Z,w3⟩:=hw v3
 have r2:=tu C hc2
 have r3:=tu C Z
 refine Eq.trans (za (by
  rw [exec,(show ∀Y:Sl,Gj Y 0=y0 (.v (.lst (l.map .int)))->Gr (u9 59) (.seq (.lst (.cons (.call "_law_nth" (.cons (.var 0) (.cons (.int 2) .nil))) (.cons (.call "_law_nth" (.cons (.var 0) (.cons (.int 3) .nil))) .nil)))) Y []= .ok [.int v2,.int v3] []from fun Y h0=>by simp_all [h0,n2,n3]) _ rfl,R.az]
  rw [qa rfl (by simp only [ZW];rw [Za (by simp_all [w2,r2])];rfl),qa rfl (by simp only [ZW];rw [Za (by simp_all [w3,r3])];rfl),WD])) ?_
 have f6:=jz F 6 (by decide) (by decide)
 have M:=Qo (F / 6) (10 ^ 20) (by decide)
 have nn:(0:Int)<=F / 6 % 10 ^ 20:=Int.emod_nonneg _ (by decide)
 generalize F / 6 % 10 ^ 20=p at M nn
 refine Eq.trans (za (by simp_all [n1,f6,BK,M];rfl)) ?_
 have m6:=Qo F 6 (by decide)
 generalize hL:(dL n g f q).length=L at dl
 have eL: ∀h,cI .len [.v (.lst ((dL n g f q).map (wX n g f)))] h=aU (.int (L:Int)) h:=λh=>by rw [zp,Aa,hL]
 obtain⟨o,N,t⟩:=xN (xs:= [D.int (-1),.int (L:Int),.int ((L:Int)+p),.int (-1-p),.bl k9,.av]) F (by simp)
 have t:aX [D.int (-1),.int (L:Int),.int ((L:Int)+p),.int (-1-p),.bl k9,.av] (F % 6)=y0 o:=t
 have V:o= .bl k9\/o= .av\/ ∃i,o= .int i:=by
  simp only [Ab2,Ac2,or_false]at N
  rcases N with rfl | rfl | rfl | rfl | rfl | rfl
  ·exact .inr (.inr ⟨_,rfl⟩)
  ·exact .inr (.inr ⟨_,rfl⟩)
  ·exact .inr (.inr ⟨_,rfl⟩)
  ·exact .inr (.inr ⟨_,rfl⟩)
  ·exact .inl rfl
  ·exact .inr (.inl rfl)
 refine Eq.trans (za (by simp_all [n1,m6,eL,Jc,Wm,int?_int,xt,t];rfl)) ?_
 have mL:=Qo S ((L:Int)+1) (by omega)
 have q1:=oZ C V
 have q2:=oZ C (d:= .int (S % ((L:Int)+1))) (.inr (.inr ⟨_,rfl⟩))
 have q3:=oZ C (d:= .int ((L:Int)-1)) (.inr (.inr ⟨_,rfl⟩))
 refine Eq.trans (za (by
  rw [exec,(show ∀Y:Sl,Gj Y 0=y0 (.v (.lst (l.map .int)))->Gj Y 11=y0 (.v o)->Gj Y 9=y0 (.v (.lst ((dL n g f q).map (wX n g f))))->Gr (u9 59) (.seq (.lst (.cons (.var 11) (.cons (.bin .mod (.call "_law_nth" (.cons (.var 0) (.cons (.int 4) .nil))) (.bin .add (.bi .len (.cons (.var 9) .nil)) (.int 1))) (.cons (.bin .sub (.bi .len (.cons (.var 9) .nil)) (.int 1)) .nil))))) Y []= .ok [o,.int (S % ((L:Int)+1)),.int ((L:Int)-1)] []from fun Y h0 r h9=>by simp_all [h0,r,h9,n4,eL,Jc,Wm,mL]) _ rfl rfl rfl,R.az]
  rw [qa rfl (by simp only [ZJ];rw [Za (by simp_all [q1])];rfl),qa rfl (by simp only [ZJ];rw [Za (by simp_all [q2])];rfl),qa rfl (by simp only [ZJ];rw [Za (by simp_all [q3])];rfl),WD])) ?_
 have m5:=Qo m 5 (by decide)
 obtain⟨a,ha,ea⟩:=jf m 5 (by decide)
 rw [show m % 5=(a:Int)from ea]at m5
 have f5:=jz m 5 (by decide) (by decide)
 have I:=Qo (m / 5) 4 (by decide)
 obtain⟨b,hb4,eb⟩:=jf (m / 5) 4 (by decide)
 rw [show m / 5 % 4=(b:Int)from eb]at I
 have W:(1:Int)+(b:Int)=((1+b:Nat):Int):=rfl
 obtain⟨A,B,lA,lB,_,en2⟩:=rz 58 a (1+b) (by omega) (by omega) []
 refine Eq.trans (za (by simp_all [n5,m5,f5,I,Jc,W,en2];rfl)) ?_
 have jA: ∀h,cI .len [.v (cR A)] h=aU (.int (a:Int)) h:=λh=>by rw [Wh,Aa,lA]
 have jB: ∀h,cI .len [.v (cR B)] h=aU (.int ((1+b:Nat):Int)) h:=λh=>by rw [Wh,Aa,lB]
 have i0:aX [cR A,cR B] 0=y0 (cR A):=rfl
 have Q:aX [cR A,cR B] 1=y0 (cR B):=rfl
 obtain⟨y,_,hy⟩:=jf v6 (2 ^ (a*4+(1+b)*4*4)) (Ah6 (by decide))
 have ew:call prog 59 "_law_world" [.v (.int 4),.v (.int (a:Int)),.v (.int ((1+b:Nat):Int)),.v (.int v6)] []= .ok (.v (wc 4 (cL 4 a (1+b) y) (cM 4 a (1+b) y))) []:=jK 58 4 a (1+b) y v6 [] (by decide) (by omega) (by omega) hy
 refine Eq.trans (za (by simp_all [ah,i0,Q,jA,jB,n6,ew];rfl)) ?_
 have j1:Gn .mul (a:Int) 4=y0 ((a*4:Nat):Int):=Zc a 4 (by omega)
 have j2:Gn .mul ((1+b:Nat):Int) 16=y0 (((1+b)*16:Nat):Int):=Zc (1+b) 16 (by omega)
 have j3:((a*4:Nat):Int)+(((1+b)*16:Nat):Int)=((a*4+(1+b)*16:Nat):Int):=rfl
 refine Eq.trans (za (by simp_all [ah,i0,Q,jA,jB,j1,j2,Jc,j3];rfl)) ?_
 have cb: ∀k,call prog (k+5) "check_bits" [.v (wD A B),.v (.int 4),.v (.int 9)] []= .exc (.err "TooBig" "bits" (.int ((a*4+(1+b)*16:Nat):Int))) []:=fun k=>by
  have z:=ml k 4 A B [] (by decide) (by omega) (by omega)
  rw [lA,lB,if_neg (by omega),show a*4+(1+b)*4*4=a*4+(1+b)*16 by omega]at z
  exact z
 have ab:=vb (k:=57) (th:= .tup [wD A B,.tup [.tup [.str [115,111,109,101],.tup [.str [110,111,110,101]]]]]) (sz:= .int 4) (nb:= .int 0) (.inr ⟨_,rfl,FE 57 4 (wD A B) (.tup [.tup [.str [115,111,109,101],.tup [.str [110,111,110,101]]]]) _ (cL 4 a (1+b) y) (cM 4 a (1+b) y) (cb 52)⟩)
 obtain⟨_,z2,z3,_⟩:=lq [.str uf,.int ((a*4+(1+b)*16:Nat):Int)] rfl (by simp)
 rw [Za (by simp_all [ab,z3])]
 have U:=jz m 20 (by decide) (by decide)
 have H:=Qo (m / 20) 6 (by decide)
 obtain⟨sz,J,E⟩:=xN (xs:= [D.int (-1),.int 5,.bl k9,.av,.str [50],.int (5+p)]) (m / 20) (by simp)
 have E:aX [D.int (-1),.int 5,.bl k9,.av,.str [50],.int (5+p)] (m / 20 % 6)=y0 sz:=E
 have dn:Gc sz=k9/\zf sz 5=false:=by
  simp only [Ab2,Ac2,or_false]at J
  rcases J with rfl | rfl | rfl | rfl | rfl | rfl
  ·exact⟨rfl,rfl⟩
  ·exact⟨rfl,rfl⟩
  ·exact⟨rfl,rfl⟩
  ·exact⟨rfl,rfl⟩
  ·exact⟨rfl,rfl⟩
  ·refine⟨rfl,?_⟩
   show(v9 ((0:Int)<=5+p)&&v9 (5+p<5))=y9
   rw [decide_eq_false (show ¬(5+p<5)by omega),Bool.and_false]
 refine Eq.trans (za (by simp_all [n5,U,H,Jc,int?_int,xt,E];rfl)) ?_
 have as:=F2 (k:=57) (v5 56 (wD A B) (.tup []) sz o _ (DA 51 (wD A B) sz [] dn.1 dn.2))
 have z5:=(lq [.str x9] rfl (by simp)).2.2.2
 rw [Za (by simp_all [as,z5])]
 have ac:=vb (k:=57) (nb:=o) (.inl ⟨rfl,v5 56 (wD A B) (.tup []) (.int 4) o _ (cb 51)⟩)
 exact jb (xc rfl (by simp_all [ac,z2]))
end M
namespace L2.MS
open PySem PyProof.Rows
def aY (i:Nat):Stmt:=PySem.Challenge.pw_worldfind_k52_numbers.main.body.getD i (.Pass ⟨0,0,0,0⟩)
noncomputable def fT:List String:= ["is_whole", "is_below", "pairs_of", "gathered", "common", "either", "without", "turned", "joined", "closed", "same", "every", "is_size", "widths", "bits", "check_size", "check_bits", "code", "world_of", "longer_by_one", "renamings", "is_renaming", "renamed_kind", "renamed_tie", "renamed", "codes_alike", "form", "value_of_name", "made", "value", "counts", "keeps_count", "keeps", "first_broken", "all_forms", "unlike", "world_at", "number_of", "_law_nth", "_law_whole", "_law_marks", "_law_orders", "_law_world", "_law_led", "_law_alike", "_law_names", "_law_atom", "_law_fact", "_law_put", "_law_op", "_law_spread", "_law_saying", "_law_sayings", "_law_keep", "_law_least", "_law_keepers", "_law_classes", "_law_asked", "_law_broken", "_law_world_right", "_law_number_right", "law"]
noncomputable def fy:List String:= ["WorldError", "NoSize", "NoPair", "NoName", "NoCode", "NoText", "Crowded", "TooBig", "NoWorld", "NoRenaming", "NoNumber", "Broken", "Kept", "Unlike", "NoRow", "NoStand"]
def lx:List String:= ["NoSize", "NoCode", "NoRenaming"]
def lu:List String:= ["WorldError"]
def lN:kJ:=⟨[],[],[],[],[("TooBig", "bits"),("NoNumber", "number"),("Broken", "number")]⟩
abbrev CF (s:Stmt) (N:List Str):Cf:=⟨Qb s,N,fT,fy,lx,lu,lN⟩
abbrev qN:Stmt:=aY 91
noncomputable abbrev sQ:List Str:= ["_law_script", "_law_cell", "_law_some", "_law_kinds", "_law_ties", "_law_size", "_law_words", "_law_upto", "_law_theory", "_law_due", "_law_far", "_law_odd", "_law_number_here", "_law_big", "_law_world_here", "_law_many", "_law_none"]
def Lf:Qp sQ ["_law_script"] (Qb qN):=by constructor<;>first | rfl | decide +kernel
def D8:bH (CF qN sQ) M.dH.body (Xe qN)=true:=by decide +kernel
structure FP (K:Aa5) (n:Str) (s:Stmt) (f:Addr) (oc:Value) (od an:Option Addr) (sl:Array (Option Value)) (kV dc pm cd ct:Value):Prop where
 a:PySem.W.nsIn K mainGlobals n=y0 (y0 (.ref f))
 l:K.lookup f=y0 ⟨oc,od,.func (Ai n n (Wn s) (Xe s) (Qb s) .none kV dc pm an cd ct),sl⟩
 c:Ak7 K cd n=k9
 k:Ae0 K (.ref f)=k9
def FQ (K:Aa5) (n:Str) (s:Stmt) (f:Addr):Prop:= ∃d b a sl kV e pm cd c,FP K n s f d b a sl kV e pm cd c
structure MP (K:Aa5) (C:Addr) (m n:Str) (s:Stmt) (f:Addr) (oc:Value) (od an:Option Addr) (sl:Array (Option Value)) (kV dc pm cd ct:Value):Prop where
 a:Ak6 K (.ref C) m=y0 (y0 (.ref f))
 i:PySem.W.isFn K (.ref f)=k9
 l:K.lookup f=y0 ⟨oc,od,.func (Ai m n (Wn s) (Xe s) (Qb s) .none kV dc pm an cd ct),sl⟩
 c:Ak7 K cd n=k9
 k:Ae0 K (.ref f)=k9
def ug {a:List Value}(h:a.length=1): ∃b,a= [b]:=by
 rcases a with _ | ⟨_,_ | ⟨_,_⟩⟩<;>first | exact⟨_,rfl⟩ | (simp at h)
def uV {a:List Value}(h:a.length=2): ∃c b,a= [c,b]:=by
 rcases a with _ | ⟨_,_ | ⟨_,_ | ⟨_,_⟩⟩⟩<;>first | exact⟨_,_,rfl⟩ | (simp at h)
def BC {a:List Value}(h:a.length=3): ∃c b a2,a= [c,b,a2]:=by
 rcases a with _ | ⟨_,_ | ⟨_,_ | ⟨_,_ | ⟨_,_⟩⟩⟩⟩<;>first | exact⟨_,_,_,rfl⟩ | (simp at h)
def Dx {a:List Value}(h:a.length=4): ∃c b a2 a3,a= [c,b,a2,a3]:=by
 rcases a with _ | ⟨_,_ | ⟨_,_ | ⟨_,_ | ⟨_,_ | ⟨_,_⟩⟩⟩⟩⟩<;>first | exact⟨_,_,_,_,rfl⟩ | (simp at h)
def yh {a:List Value}(h:a.length=5): ∃c b a2 a3 a4,a= [c,b,a2,a3,a4]:=by
 rcases a with _ | ⟨_,_ | ⟨_,_ | ⟨_,_ | ⟨_,_ | ⟨_,_ | ⟨_,_⟩⟩⟩⟩⟩⟩<;>first | exact⟨_,_,_,_,_,rfl⟩ | (simp at h)
def bc {K:Aa5}{mg:Str->Option Value}{h:Heap}(X:K.In h) (G:h.Ns mainGlobals mg){f:String}{st:Stmt}{g:Addr}(p:FQ K (zg f) st g) (N:List Str) (k:Nat) (d:M.Fn) (o:M.prog.fns.lookup f=y0 d) (r:Qp N (N.take k) (Qb st):=by constructor<;>first | rfl | decide +kernel) (i:bH (CF st N) d.body (Xe st)=true:=by decide +kernel) (n:N.length=d.n:=by rfl) (q:(N.take k).length=d.ps:=by rfl) (le:d.ps<=d.n:=by decide) (j: ∀(kV c pm:Value) (l:Option Addr) (e m:Value) (b:List Value),b.length=(N.take k).length->bindArgs (Ai (zg f) (zg f) (Wn st) (Xe st) (Qb st) .none kV c pm l e m) ⟨b,[]⟩=pure ((N.take k).zip b):=by intro _ _ _ _ _ _ b a;first | (obtain ⟨_,rfl⟩:=ug a;rfl) | (obtain ⟨_,_,rfl⟩:=uV a;rfl) | (obtain ⟨_,_,_,rfl⟩:=BC a;rfl) | (obtain ⟨_,_,_,_,rfl⟩:=Dx a;rfl) | (obtain ⟨_,_,_,_,_,rfl⟩:=yh a;rfl)): ∃d,M.prog.fns.lookup f=y0 d/\ ∃t:kn K mg f,lg t d fT fy lx lu lN/\Ae0 K (.ref t.fa)=k9/\mg (zg f)=y0 (.ref t.fa):=
 have⟨_,_,_,_,_,_,_,_,_,p⟩:=p
 have F:=n8 (st:=st) p.l p.c p.k
 ⟨d,o,⟨st,g,_,N,N.take k⟩,⟨⟨_,_,F⟩,F.binds j,r,n,q,le,i⟩,p.k,Ad1 X G p.a⟩
noncomputable def uW (f n m:Str) (b:List Stmt):Bool:=lC b λst r=>kZ r (fE st λts v=>lC ts λt r=>kZ r (lZ t λx g _=>jq x λa=>jq v λc=>v9 (a=n)&&v9 (g=f)&&v9 (c=m)))
def DG (h:uW f n m b=k9): ∃e p2 i o,b= [.Assign [.Attribute (.Name n e) f p2] (.Name m i) o]:=by
 refine kC (λq r h=> ?_) b h
 refine kE (λh=> ?_) r h
 refine fX (λk v p h=> ?_) q h
 refine kC (λt r h=> ?_) k h
 refine kE (λh=> ?_) r h
 refine mZ (λx g p h=> ?_) t h
 refine xq (λa p h=> ?_) x h
 refine xq (λc p h=> ?_) v h
 obtain⟨l,d,j⟩:=a3 h
 cases of_decide_eq_true l
 cases of_decide_eq_true d
 cases of_decide_eq_true j
 exact⟨_,_,_,_,rfl⟩
def oA {K:PySem.W.Frag}{st:Stmt}{kV v pm cd h:Value}(p:MP K C "__init__" n st fa oc od j sl kV v pm cd h) (a b) (r:Qp [a,b] [a,b] (Qb st):=by constructor<;>first | rfl | decide +kernel) (l:uW (zg f) a b (Xe st)=true:=by decide +kernel) (h1:(a==("__debug__" :Str))=false:=by decide) (h2:(b==("__debug__" :Str))=false:=by decide) (s:(a==("__classdict__" :Str))=false:=by decide) (k:(b==("__classdict__" :Str))=false:=by decide) (d: ∀ kV g pm j i h c,c.length= [a,b].length->bindArgs (PySem.W.fnOf "__init__" n (Wn st) (Xe st) (Qb st) .none kV g pm j i h) ⟨c,[]⟩=pure ([a,b].zip c):=by intro _ _ _ _ _ _ c m;(obtain ⟨_,_,rfl⟩:=uV m;rfl)): ∃fI fd ps,PySem.W.findIn K (.ref C) "__init__" =some (some (.ref fI))/\Z1 K (zg f) fI fd ps:=by
 have F:=n8 p.l p.c p.k
 obtain⟨u,o,q,t,e⟩:=DG l
 exact⟨_,_,_,p.a,⟨⟨_,_,st,_,a,b,u,o,q,t,F,rfl,rfl,r,e,h1,h2,s,k⟩,F.binds d,beq_iff_eq.mp p.i⟩⟩
theorem uv : ∀ {l:List (String×α)}{x}{d},l.lookup x=y0 d->(x,d)∈l
 | (k,v)::l,x,d,h=>by
  rw [Ad0]at h
  by_cases q:(x==k)=k9
  ·rw [q]at h;cases h;rw [eq_of_beq q];exact Aa3
  ·rw [eq_false_of_ne_true q]at h;exact Aa1 _ (uv h)
structure XC (K:Aa5) (c:Addr) (I:ClassData):Prop where
 ga:PySem.W.findIn K (.ref c) "__getattribute__" =some (some (.builtin "BaseException.__getattribute__"))
 gn:PySem.W.findIn K (.ref c) "__getattr__" =some none
 cl:PySem.W.findIn K (.ref c) "__class__" =some (some (.builtin "object.__class__"))
 ge:PySem.W.specialIn K (.builtin "object.__class__") "__get__" =some (some (.builtin "getset_descriptor.__get__"))
 se:PySem.W.takesIn K (.builtin "object.__class__")=some true
 ob:PySem.W.mroIn K c (.type "object")=some true
 ba:PySem.W.mroIn K c (.type "BaseException")=some true
 su:PySem.W.subIn K (.ref c) (.ref c)=y0 k9
 ty:PySem.W.typeIn K (.ref c)=y0 (.type "type")
 cs:PySem.W.clsIn K c=y0 I
def XC.pk {K:Aa5}{c:Addr}{I:ClassData}(x:XC K c I):gd K c:=⟨x.ga,x.gn,x.cl,x.ge,x.se,x.ob,x.ba,yk x.cs x.ty x.su,BO x.cs⟩
structure XT (K:Aa5) (c C0 C1 C2 C3 C4 C5 C6 C7 C8 C9 C10 C11 C12 C13 C14 C15:Addr) (b0 b1 b2 b3 b4 b5 b6 b7 b8 b9 b10 b11 b12 b13 b14 b15 bv:Bool):Prop where
 t0:Ad4 K (.ref c) (.ref C0)=y0 b0
 t1:Ad4 K (.ref c) (.ref C1)=y0 b1
 t2:Ad4 K (.ref c) (.ref C2)=y0 b2
 t3:Ad4 K (.ref c) (.ref C3)=y0 b3
 t4:Ad4 K (.ref c) (.ref C4)=y0 b4
 t5:Ad4 K (.ref c) (.ref C5)=y0 b5
 t6:Ad4 K (.ref c) (.ref C6)=y0 b6
 t7:Ad4 K (.ref c) (.ref C7)=y0 b7
 t8:Ad4 K (.ref c) (.ref C8)=y0 b8
 t9:Ad4 K (.ref c) (.ref C9)=y0 b9
 kW:Ad4 K (.ref c) (.ref C10)=y0 b10
 kH:Ad4 K (.ref c) (.ref C11)=y0 b11
 kU:Ad4 K (.ref c) (.ref C12)=y0 b12
 kX:Ad4 K (.ref c) (.ref C13)=y0 b13
 hY:Ad4 K (.ref c) (.ref C14)=y0 b14
 ki:Ad4 K (.ref c) (.ref C15)=y0 b15
 tv:PySem.W.kitOne K (.ref c) (.type "ValueError")=some bv
structure XJ (K:Aa5) (c:Addr) (f:Str):Prop where
 jc:ZG K c=k9
 jo:kv K c=k9
 js:PySem.W.findIn K (.ref c) "__setattr__" =some (some (.builtin "object.__setattr__"))
 jn:Ak6 K (.ref c) f=y0 u0
 jk:Ae0 K (.ref c)=k9
def all_mk {l:PySem.W.OpenLaw}{w:World}{K:PySem.W.Frag}{h:Heap}{mg:Str->Option Value}{fa:Addr}(X:K.In h) (G:h.Ns mainGlobals mg) (hfa:mg "law" =some (.ref fa))
 {f0 f1 f2 f3 f4 f5 f6 f7 f8 f9 f10 f11 f12 f13 f14 f15 f16 f17 f18 f19 f20 f21 f22 f23 f24 f25 f26 f27 f28 f29 f30 f31 f32 f33 f34 f35 f36 f37 f38 f39 f40 f41 f42 f43 f44 f45 f46 f47 f48 f49 f50 f51 f52 f53 f54 f55 f56 f57 f58 f59 f60 f61 Q J V U I R T C S N n m A r y q gi0 gi1 gi2:Addr}
 (p0:FQ K "is_whole" (aY 18) f0)
 (p1:FQ K "is_below" (aY 19) f1)
 (p2:FQ K "pairs_of" (aY 21) f2)
 (p3:FQ K "gathered" (aY 22) f3)
 (p4:FQ K "common" (aY 23) f4)
 (p5:FQ K "either" (aY 24) f5)
 (p6:FQ K "without" (aY 25) f6)
 (p7:FQ K "turned" (aY 26) f7)
 (p8:FQ K "joined" (aY 27) f8)
 (p9:FQ K "closed" (aY 28) f9)
 (p10:FQ K "same" (aY 29) f10)
 (p11:FQ K "every" (aY 30) f11)
 (p12:FQ K "is_size" (aY 33) f12)
 (p13:FQ K "widths" (aY 34) f13)
 (p14:FQ K "bits" (aY 35) f14)
 (p15:FQ K "check_size" (aY 36) f15)
 (p16:FQ K "check_bits" (aY 37) f16)
 (p17:FQ K "code" (aY 38) f17)
 (p18:FQ K "world_of" (aY 39) f18)
 (p19:FQ K "longer_by_one" (aY 41) f19)
 (p20:FQ K "renamings" (aY 42) f20)
 (p21:FQ K "is_renaming" (aY 43) f21)
 (p22:FQ K "renamed_kind" (aY 44) f22)
 (p23:FQ K "renamed_tie" (aY 45) f23)
 (p24:FQ K "renamed" (aY 46) f24)
 (p25:FQ K "codes_alike" (aY 47) f25)
 (p26:FQ K "form" (aY 48) f26)
 (p27:FQ K "value_of_name" (aY 50) f27)
 (p28:FQ K "made" (aY 51) f28)
 (p29:FQ K "value" (aY 52) f29)
 (p30:FQ K "counts" (aY 53) f30)
 (p31:FQ K "keeps_count" (aY 54) f31)
 (p32:FQ K "keeps" (aY 55) f32)
 (p33:FQ K "first_broken" (aY 56) f33)
 (p34:FQ K "all_forms" (aY 59) f34)
 (p35:FQ K "unlike" (aY 60) f35)
 (p36:FQ K "world_at" (aY 61) f36)
 (p37:FQ K "number_of" (aY 62) f37)
 (p38:FQ K "_law_nth" (aY 64) f38)
 (p39:FQ K "_law_whole" (aY 65) f39)
 (p40:FQ K "_law_marks" (aY 66) f40)
 (p41:FQ K "_law_orders" (aY 68) f41)
 (p42:FQ K "_law_world" (aY 70) f42)
 (p43:FQ K "_law_led" (aY 71) f43)
 (p44:FQ K "_law_alike" (aY 72) f44)
 (p45:FQ K "_law_names" (aY 74) f45)
 (p46:FQ K "_law_atom" (aY 75) f46)
 (p47:FQ K "_law_fact" (aY 76) f47)
 (p48:FQ K "_law_put" (aY 77) f48)
 (p49:FQ K "_law_op" (aY 78) f49)
 (p50:FQ K "_law_spread" (aY 79) f50)
 (p51:FQ K "_law_saying" (aY 80) f51)
 (p52:FQ K "_law_sayings" (aY 81) f52)
 (p53:FQ K "_law_keep" (aY 83) f53)
 (p54:FQ K "_law_least" (aY 84) f54)
 (p55:FQ K "_law_keepers" (aY 85) f55)
 (p56:FQ K "_law_classes" (aY 86) f56)
 (p57:FQ K "_law_asked" (aY 87) f57)
 (p58:FQ K "_law_broken" (aY 88) f58)
 (p59:FQ K "_law_world_right" (aY 89) f59)
 (p60:FQ K "_law_number_right" (aY 90) f60)
 (L:FP K "law" qN f61 oc61 od61 an61 sl61 kV61 dc61 pm61 cd61 ct61)
 (z0:PySem.W.nsIn K mainGlobals "len" =some none)
 (z1:PySem.W.nsIn K mainGlobals "int" =some none)
 (z2:PySem.W.nsIn K mainGlobals "list" =some none)
 (z3:PySem.W.nsIn K mainGlobals "tuple" =some none)
 (z4:PySem.W.nsIn K mainGlobals "sum" =some none)
 (z5:PySem.W.nsIn K mainGlobals "all" =some none)
 (z6:PySem.W.nsIn K mainGlobals "any" =some none)
 (z7:PySem.W.nsIn K mainGlobals "sorted" =some none)
 (z8:PySem.W.nsIn K mainGlobals "divmod" =some none)
 (z9:PySem.W.nsIn K mainGlobals "str" =some none)
 (z10:PySem.W.nsIn K mainGlobals "min" =some none)
 (z11:PySem.W.nsIn K mainGlobals "max" =some none)
 (z12:PySem.W.nsIn K mainGlobals "abs" =some none)
 (z13:PySem.W.nsIn K mainGlobals "isinstance" =some none)
 (z14:PySem.W.nsIn K mainGlobals "bool" =some none)
 (z15:PySem.W.nsIn K mainGlobals "range" =some none)
 (z16:PySem.W.nsIn K mainGlobals "reversed" =some none)
 (z17:PySem.W.nsIn K mainGlobals "zip" =some none)
 (z18:PySem.W.nsIn K mainGlobals "enumerate" =some none)
 (z19:PySem.W.nsIn K mainGlobals "set" =some none)
 (z20:PySem.W.nsIn K mainGlobals "ValueError" =some none)
 (o0:PySem.W.nsIn K mainGlobals "WorldError" =some (some (.ref Q)))
 (o1:PySem.W.nsIn K mainGlobals "NoSize" =some (some (.ref J)))
 (o2:PySem.W.nsIn K mainGlobals "NoPair" =some (some (.ref V)))
 (o3:PySem.W.nsIn K mainGlobals "NoName" =some (some (.ref U)))
 (o4:PySem.W.nsIn K mainGlobals "NoCode" =some (some (.ref I)))
 (o5:PySem.W.nsIn K mainGlobals "NoText" =some (some (.ref R)))
 (o6:PySem.W.nsIn K mainGlobals "Crowded" =some (some (.ref T)))
 (o7:PySem.W.nsIn K mainGlobals "TooBig" =some (some (.ref C)))
 (o8:PySem.W.nsIn K mainGlobals "NoWorld" =some (some (.ref S)))
 (o9:PySem.W.nsIn K mainGlobals "NoRenaming" =some (some (.ref N)))
 (o10:PySem.W.nsIn K mainGlobals "NoNumber" =some (some (.ref n)))
 (Y:PySem.W.nsIn K mainGlobals "Broken" =some (some (.ref m)))
 (o12:PySem.W.nsIn K mainGlobals "Kept" =some (some (.ref A)))
 (o13:PySem.W.nsIn K mainGlobals "Unlike" =some (some (.ref r)))
 (o14:PySem.W.nsIn K mainGlobals "NoRow" =some (some (.ref y)))
 (o15:PySem.W.nsIn K mainGlobals "NoStand" =some (some (.ref q)))
 {ck0:Tok}(cn0:PySem.W.nsIn K mainGlobals "GREATEST_SIZE" =some (some (.int 4 ck0)))
 {ck1:Tok}(cn1:PySem.W.nsIn K mainGlobals "MOST_LISTED_BITS" =some (some (.int 9 ck1)))
 {cI1:ClassData}
 (xe1:PySem.W.excIn K J zw "ValueError.__new__" =true)
 (xc1:XC K J cI1) (k:XT K J Q J V U I R T C S N n m A r y q k9 k9 y9 y9 y9 y9 y9 y9 y9 y9 y9 y9 y9 y9 y9 y9 k9)
 {cI4:ClassData}
 (xe4:PySem.W.excIn K I zw "ValueError.__new__" =true)
 (xc4:XC K I cI4) (j:XT K I Q J V U I R T C S N n m A r y q k9 y9 y9 y9 k9 y9 y9 y9 y9 y9 y9 y9 y9 y9 y9 y9 k9)
 {cI9:ClassData}
 (xe9:PySem.W.excIn K N zw "ValueError.__new__" =true)
 (xc9:XC K N cI9) (i:XT K N Q J V U I R T C S N n m A r y q k9 y9 y9 y9 y9 y9 y9 y9 y9 k9 y9 y9 y9 y9 y9 y9 k9)
 {cI7:ClassData}
 (W:XC K C cI7) (g:XT K C Q J V U I R T C S N n m A r y q k9 y9 y9 y9 y9 y9 y9 k9 y9 y9 y9 y9 y9 y9 y9 y9 k9)
 {cI10:ClassData}
 (O:XC K n cI10) (a:XT K n Q J V U I R T C S N n m A r y q k9 y9 y9 y9 y9 y9 y9 y9 y9 y9 k9 y9 y9 y9 y9 y9 k9)
 {Z:ClassData}
 (H:XC K m Z) (b:XT K m Q J V U I R T C S N n m A r y q k9 y9 y9 y9 y9 y9 y9 y9 y9 y9 y9 k9 y9 y9 y9 y9 k9)
 (B:XJ K C "bits")
 (qi0:MP K C "__init__" "TooBig.__init__" (wZ (aY 8) 0) gi0 ioc0 iod0 ian0 isl0 ikV0 idc0 ipm0 icd0 ict0)
 (p:XJ K n "number")
 (qi1:MP K n "__init__" "NoNumber.__init__" (wZ (aY 11) 0) gi1 ioc1 iod1 ian1 isl1 ikV1 idc1 ipm1 icd1 ict1)
 (o:XJ K m "number")
 (qi2:MP K m "__init__" "Broken.__init__" (wZ (aY 12) 0) gi2 ioc2 iod2 ian2 isl2 ikV2 idc2 ipm2 icd2 ict2)
 (hb0:PySem.W.mroIn K Q (.type "BaseException")=some true)
 : ∃fd:FuncData,(∀ (s:Shared) (v:Value),BindsTo s fd ⟨[v],[]⟩ [("_law_script",v)])/\ ∀base:Heap,K.In base->base.Ns mainGlobals mg->bp l.prog w K mg base lY (2*60+1) fa fd ["_law_script"] (ou K):=by
 have e:=hfa.symm.trans (Ad1 X G L.a)
 cases e
 let D:Ge:=⟨K,fun c=>([("WorldError",Q),("NoSize",J),("NoPair",V),("NoName",U),("NoCode",I),("NoText",R),("Crowded",T),("TooBig",C),("NoWorld",S),("NoRenaming",N),("NoNumber",n),("Broken",m),("Kept",A),("Unlike",r),("NoRow",y),("NoStand",q)].lookup c).getD 0,M.prog.cl,fy,fun _=>0⟩
 have pr:oR D M.prog mg fy lx lu lN:=by
  refine⟨rfl,rfl,?_,?_,?_,?_,?_,?_,λ_ _ h=>(nomatch h),λ_ _ _ h=>(nomatch h),λ_ _ h=>(nomatch h)⟩
  ·intro x hx
   simp only [bN,Ab2,Ac2,or_false]at hx
   rcases hx with rfl | rfl | rfl | rfl | rfl | rfl | rfl | rfl | rfl | rfl | rfl | rfl | rfl | rfl | rfl | rfl | rfl | rfl | rfl | rfl | rfl
   ·exact Ac4 X G z0
   ·exact Ac4 X G z1
   ·exact Ac4 X G z2
   ·exact Ac4 X G z3
   ·exact Ac4 X G z4
   ·exact Ac4 X G z5
   ·exact Ac4 X G z6
   ·exact Ac4 X G z7
   ·exact Ac4 X G z8
   ·exact Ac4 X G z9
   ·exact Ac4 X G z10
   ·exact Ac4 X G z11
   ·exact Ac4 X G z12
   ·exact Ac4 X G z13
   ·exact Ac4 X G z14
   ·exact Ac4 X G z15
   ·exact Ac4 X G z16
   ·exact Ac4 X G z17
   ·exact Ac4 X G z18
   ·exact Ac4 X G z19
   ·exact Ac4 X G z20
  ·intro x d hd
   have hm:=uv hd
   simp only [M.prog,Ab2,Ac2,or_false,Prod.mk.injEq]at hm
   rcases hm with⟨rfl,rfl⟩ | ⟨rfl,rfl⟩
   ·exact⟨_,.int 4,Ad1 X G cn0,⟨_,rfl⟩,λ_ _=>rfl⟩
   ·exact⟨_,.int 9,Ad1 X G cn1,⟨_,rfl⟩,λ_ _=>rfl⟩
  ·intro c E
   simp only [fy,Ai6,Ab2,Ac2,or_false,decide_eq_true_eq]at E
   rcases E with rfl | rfl | rfl | rfl | rfl | rfl | rfl | rfl | rfl | rfl | rfl | rfl | rfl | rfl | rfl | rfl
   ·exact Ad1 X G o0
   ·exact Ad1 X G o1
   ·exact Ad1 X G o2
   ·exact Ad1 X G o3
   ·exact Ad1 X G o4
   ·exact Ad1 X G o5
   ·exact Ad1 X G o6
   ·exact Ad1 X G o7
   ·exact Ad1 X G o8
   ·exact Ad1 X G o9
   ·exact Ad1 X G o10
   ·exact Ad1 X G Y
   ·exact Ad1 X G o12
   ·exact Ad1 X G o13
   ·exact Ad1 X G o14
   ·exact Ad1 X G o15
  ·intro c E
   simp only [lx,Ai6,Ab2,Ac2,or_false,decide_eq_true_eq]at E
   rcases E with rfl | rfl | rfl
   ·refine⟨⟨xc1.pk,?_,k.tv⟩,xe1,Ad1 X G o1⟩
    intro t u
    simp only [D,fy,Ab2,Ac2,or_false]at u
    rcases u with rfl | rfl | rfl | rfl | rfl | rfl | rfl | rfl | rfl | rfl | rfl | rfl | rfl | rfl | rfl | rfl
    exact k.t0;exact k.t1;exact k.t2;exact k.t3;exact k.t4;exact k.t5;exact k.t6;exact k.t7;exact k.t8;exact k.t9;exact k.kW;exact k.kH;exact k.kU;exact k.kX;exact k.hY;exact k.ki
   ·refine⟨⟨xc4.pk,?_,j.tv⟩,xe4,Ad1 X G o4⟩
    intro t u
    simp only [D,fy,Ab2,Ac2,or_false]at u
    rcases u with rfl | rfl | rfl | rfl | rfl | rfl | rfl | rfl | rfl | rfl | rfl | rfl | rfl | rfl | rfl | rfl
    exact j.t0;exact j.t1;exact j.t2;exact j.t3;exact j.t4;exact j.t5;exact j.t6;exact j.t7;exact j.t8;exact j.t9;exact j.kW;exact j.kH;exact j.kU;exact j.kX;exact j.hY;exact j.ki
   ·refine⟨⟨xc9.pk,?_,i.tv⟩,xe9,Ad1 X G o9⟩
    intro t u
    simp only [D,fy,Ab2,Ac2,or_false]at u
    rcases u with rfl | rfl | rfl | rfl | rfl | rfl | rfl | rfl | rfl | rfl | rfl | rfl | rfl | rfl | rfl | rfl
    exact i.t0;exact i.t1;exact i.t2;exact i.t3;exact i.t4;exact i.t5;exact i.t6;exact i.t7;exact i.t8;exact i.t9;exact i.kW;exact i.kH;exact i.kU;exact i.kX;exact i.hY;exact i.ki
  ·intro c f E
   simp only [lN,Ai6,Ab2,Ac2,or_false,decide_eq_true_eq,Prod.mk.injEq]at E
   rcases E with⟨rfl,rfl⟩ | ⟨rfl,rfl⟩ | ⟨rfl,rfl⟩
   ·refine⟨⟨W.pk,?_,g.tv⟩,⟨B.jo,B.jn,W.ga,W.gn⟩,⟨B.jc,B.jo,B.js,B.jn,B.jk⟩,PySem.W.mg_of X G o7,oA qi0 "self" "bits"⟩
    intro t u
    simp only [D,fy,Ab2,Ac2,or_false]at u
    rcases u with rfl | rfl | rfl | rfl | rfl | rfl | rfl | rfl | rfl | rfl | rfl | rfl | rfl | rfl | rfl | rfl
    exact g.t0;exact g.t1;exact g.t2;exact g.t3;exact g.t4;exact g.t5;exact g.t6;exact g.t7;exact g.t8;exact g.t9;exact g.kW;exact g.kH;exact g.kU;exact g.kX;exact g.hY;exact g.ki
   ·refine⟨⟨O.pk,?_,a.tv⟩,⟨p.jo,p.jn,O.ga,O.gn⟩,⟨p.jc,p.jo,p.js,p.jn,p.jk⟩,PySem.W.mg_of X G o10,oA qi1 "self" "number"⟩
    intro t u
    simp only [D,fy,Ab2,Ac2,or_false]at u
    rcases u with rfl | rfl | rfl | rfl | rfl | rfl | rfl | rfl | rfl | rfl | rfl | rfl | rfl | rfl | rfl | rfl
    exact a.t0;exact a.t1;exact a.t2;exact a.t3;exact a.t4;exact a.t5;exact a.t6;exact a.t7;exact a.t8;exact a.t9;exact a.kW;exact a.kH;exact a.kU;exact a.kX;exact a.hY;exact a.ki
   ·refine⟨⟨H.pk,?_,b.tv⟩,⟨o.jo,o.jn,H.ga,H.gn⟩,⟨o.jc,o.jo,o.js,o.jn,o.jk⟩,PySem.W.mg_of X G Y,oA qi2 "self" "number"⟩
    intro t u
    simp only [D,fy,Ab2,Ac2,or_false]at u
    rcases u with rfl | rfl | rfl | rfl | rfl | rfl | rfl | rfl | rfl | rfl | rfl | rfl | rfl | rfl | rfl | rfl
    exact b.t0;exact b.t1;exact b.t2;exact b.t3;exact b.t4;exact b.t5;exact b.t6;exact b.t7;exact b.t8;exact b.t9;exact b.kW;exact b.kH;exact b.kU;exact b.kX;exact b.hY;exact b.ki
  ·intro c E
   simp only [lu,Ai6,Ab2,Ac2,or_false,decide_eq_true_eq]at E
   rcases E with rfl
   ·exact⟨hb0,rfl⟩
 have all: ∀f,fT.contains f=k9-> ∃d,M.prog.fns.lookup f=y0 d/\ ∃t:kn D.K mg f,lg t d fT fy lx lu lN/\Ae0 D.K (.ref t.fa)=k9/\mg (zg f)=y0 (.ref t.fa):=by
  intro f hf
  simp only [fT,Ai6,Ab2,Ac2,or_false,decide_eq_true_eq]at hf
  rcases hf with rfl | rfl | rfl | rfl | rfl | rfl | rfl | rfl | rfl | rfl | rfl | rfl | rfl | rfl | rfl | rfl | rfl | rfl | rfl | rfl | rfl | rfl | rfl | rfl | rfl | rfl | rfl | rfl | rfl | rfl | rfl | rfl | rfl | rfl | rfl | rfl | rfl | rfl | rfl | rfl | rfl | rfl | rfl | rfl | rfl | rfl | rfl | rfl | rfl | rfl | rfl | rfl | rfl | rfl | rfl | rfl | rfl | rfl | rfl | rfl | rfl | rfl
  ·exact bc X G p0 ["thing"] 1 M.KB rfl
  ·exact bc X G p1 ["thing", "end"] 2 M.GX rfl
  ·exact bc X G p2 ["size", "tie"] 2 M.Kl rfl
  ·exact bc X G p3 ["size", "pairs", "tie", "a", "b"] 2 M.Km rfl
  ·exact bc X G p4 ["one", "other"] 2 M.KM rfl
  ·exact bc X G p5 ["one", "other"] 2 M.KJ rfl
  ·exact bc X G p6 ["one", "other"] 2 M.Kr rfl
  ·exact bc X G p7 ["size", "tie"] 2 M.KI rfl
  ·exact bc X G p8 ["size", "one", "other", "row", "tie", "a", "b", "from_b"] 3 M.KG rfl
  ·exact bc X G p9 ["size", "tie", "reached", "longer"] 2 M.KH rfl
  ·exact bc X G p10 ["size"] 1 M.K3 rfl
  ·exact bc X G p11 ["size"] 1 M.KQ rfl
  ·exact bc X G p12 ["thing"] 1 M.Ku rfl
  ·exact bc X G p13 ["words", "size"] 2 M.KC rfl
  ·exact bc X G p14 ["words", "size"] 2 M.K1 rfl
  ·exact bc X G p15 ["size"] 1 M.GE rfl
  ·exact bc X G p16 ["words", "size", "most", "number"] 3 M.GF rfl
  ·exact bc X G p17 ["words", "world", "total", "place", "width", "part"] 2 M.K8 rfl
  ·exact bc X G p18 ["words", "size", "code", "parts", "rest", "width", "first_tie"] 3 M.Kk rfl
  ·exact bc X G p19 ["rows", "size", "longer", "row"] 2 M.GT rfl
  ·exact bc X G p20 ["size", "rows", "place"] 1 M.Kv rfl
  ·exact bc X G p21 ["thing", "size"] 2 M.GQ rfl
  ·exact bc X G p22 ["kind", "renaming", "answer", "a", "thing"] 2 M.G6 rfl
  ·exact bc X G p23 ["tie", "renaming", "size"] 2 M.GS rfl
  ·exact bc X G p24 ["words", "world", "renaming", "size", "kinds", "ties", "new_kinds", "new_ties"] 3 M.Kw rfl
  ·exact bc X G p25 ["words", "world"] 2 M.GL rfl
  ·exact bc X G p26 ["words", "world"] 2 M.Pa rfl
  ·exact bc X G p27 ["words", "world", "name", "size", "kind"] 3 M.GD rfl
  ·exact bc X G p28 ["size", "sort", "ties"] 3 M.GW rfl
  ·exact bc X G p29 ["words", "world", "expression", "ties"] 3 M.Kt rfl
  ·exact bc X G p30 ["size", "sort", "tie", "pairs", "firsts"] 3 M.KK rfl
  ·exact bc X G p31 ["words", "world", "saying", "limit", "numbers"] 3 M.GR rfl
  ·exact bc X G p32 ["words", "world", "saying", "sort"] 3 M.a9 rfl
  ·exact bc X G p33 ["words", "world", "sayings", "number", "saying"] 3 M.GH rfl
  ·exact bc X G p34 ["words", "size", "seen", "forms", "number", "world", "one"] 2 M.G9 rfl
  ·exact bc X G p35 ["theory", "size", "words", "sayings"] 2 M.Ko rfl
  ·exact bc X G p36 ["theory", "size", "number", "worlds"] 3 M.GJ rfl
  ·exact bc X G p37 ["theory", "world", "words", "sayings", "broken"] 2 M.GP rfl
  ·exact bc X G p38 ["_law_script", "_law_k"] 2 M.Ky rfl
  ·exact bc X G p39 ["_law_thing"] 1 M.Kp rfl
  ·exact bc X G p40 ["_law_number_here", "_law_many", "_law_marks_here", "_law_k", "_law_mark"] 2 M.Ke rfl
  ·exact bc X G p41 ["_law_size", "_law_rows", "_law_step", "_law_longer", "_law_row", "_law_a"] 1 M.Kn rfl
  ·exact bc X G p42 ["_law_size", "_law_kinds", "_law_ties", "_law_cell", "_law_number_here", "_law_first", "_law_second", "_law_k", "_law_part"] 4 M.GN rfl
  ·exact bc X G p43 ["_law_world_here", "_law_order_here", "_law_size", "_law_kinds", "_law_ties", "_law_first", "_law_kind", "_law_marks_here", "_law_second", "_law_tie", "_law_places"] 2 M.Kq rfl
  ·exact bc X G p44 ["_law_got", "_law_due", "_law_k"] 2 M.Kb rfl
  ·exact bc X G p45 ["_law_kinds", "_law_ties"] 2 M.Kd rfl
  ·exact bc X G p46 ["_law_words", "_law_cell", "_law_names_here", "_law_pick"] 2 M.GC rfl
  ·exact bc X G p47 ["_law_parts", "_law_pick", "_law_one", "_law_other", "_law_word"] 2 M.GY rfl
  ·exact bc X G p48 ["_law_some", "_law_word", "_law_other", "_law_one", "_law_deep"] 2 M.Kx rfl
  ·exact bc X G p49 ["_law_words", "_law_parts", "_law_sayings_here", "_law_way", "_law_pick", "_law_expression", "_law_deep", "_law_saying_here"] 5 M.Gu rfl
  ·exact bc X G p50 ["_law_cell", "_law_number_here"] 1 M.GV rfl
  ·exact bc X G p51 ["_law_words", "_law_cell", "_law_parts", "_law_sayings_here", "_law_k", "_law_way", "_law_pick", "_law_whole_here", "_law_saying_here", "_law_deep"] 2 M.GG rfl
  ·exact bc X G p52 ["_law_script", "_law_words", "_law_start", "_law_most_of", "_law_cells"] 4 M.GB rfl
  ·exact bc X G p53 ["_law_words", "_law_world_here", "_law_sayings_here"] 3 M.Kh rfl
  ·exact bc X G p54 ["_law_world_here", "_law_size", "_law_kinds", "_law_ties", "_law_best", "_law_order_here", "_law_other", "_law_key"] 1 M.Ka rfl
  ·exact bc X G p55 ["_law_words", "_law_size", "_law_sayings_here", "_law_kinds", "_law_ties", "_law_worlds", "_law_number_here", "_law_world_here"] 3 M.GM rfl
  ·exact bc X G p56 ["_law_e", "_law_some"] 1 M.GO rfl
  ·exact bc X G p57 ["_law_theory", "_law_size", "_law_world_here", "_law_number_here", "_law_caught", "_law_got", "_law_e", "_law_some"] 4 M.aP rfl
  ·exact bc X G p58 ["_law_words", "_law_world_here", "_law_sayings_here", "_law_k"] 3 M.GU rfl
  ·exact bc X G p59 ["_law_theory", "_law_world_here", "_law_due", "_law_words", "_law_sayings_here", "_law_got", "_law_first"] 3 M.Gz rfl
  ·exact bc X G p60 ["_law_theory", "_law_size", "_law_number_here", "_law_due", "_law_got"] 4 M.Gv rfl
  ·exact bc X G ⟨_,_,_,_,_,_,_,_,_,L⟩ ["_law_script", "_law_cell", "_law_some", "_law_kinds", "_law_ties", "_law_size", "_law_words", "_law_upto", "_law_theory", "_law_due", "_law_far", "_law_odd", "_law_number_here", "_law_big", "_law_world_here", "_law_many", "_law_none"] 1 M.dH rfl
 refine⟨PySem.W.fnOf "law" "law" (Wn qN) (Xe qN) (Qb qN) .none kV61 dc61 pm61 an61 cd61 ct61,fun s v=> .of_eq rfl,fun base _ _=> ?_⟩
 have F:=n8 (st:=qN) L.l L.c L.k
 have ao:=EL (P:=l.prog) (w:=w) (base:=base) pr all (λ_ h=>(nomatch h)) 59
 have z:bp l.prog w K mg base (cv l.prog w) (2*60+1) fa _ ["_law_script"] (gk D (M.call M.prog 60 "law")):=oy (t:=⟨qN,fa,_,["_law_script", "_law_cell", "_law_some", "_law_kinds", "_law_ties", "_law_size", "_law_words", "_law_upto", "_law_theory", "_law_due", "_law_far", "_law_odd", "_law_number_here", "_law_big", "_law_world_here", "_law_many", "_law_none"],["_law_script"]⟩) pr ⟨⟨_,_,F⟩,F.binds (fun _ _ _ _ _ _ us hl=>by obtain⟨_,rfl⟩:=ug hl;rfl),Lf,rfl,rfl,by decide,D8⟩ rfl 59 ao.1 ao.2
 exact Dl (Γ:=D) z M.iH
end L2.MS
namespace PySem.W.Fast
def tw97234269825011805:=0
def tw10687434497314618715:=0
def tw773505782972927028:=0
def tw15817923020007186227:=0
def tw5412923804591078180:=0
def tw5813074741466028604:=0
def tw6381987884483257352:=0
def tw10280681193934174505:=0
def tw6327691852696385719:=0
def tw11483503865528372061:=0
def tw10525498771535549451:=0
def tw2575360303007839588:=0
def tw15197452723428695977:=0
def tw14816362825533922990:=0
def tw1485961913449883881:=0
def tw13888840688330583726:=0
def tw1859736343738703344:=0
def tw11080816996360193573:=0
def tw176592378110781366:=0
def tw14478877005873239821:=0
def tw13864512312775939986:=0
def tw6481448992901166496:=0
def tw3000151481680116293:=0
def tw11340922713293792096:=0
def tw13588406606569871910:=0
def tw5520621156289128623:=0
def tw12820305683331476563:=0
def tw8449017992889915082:=0
def tw7478737312889790012:=0
def tw4561412697201171777:=0
def tw14592608423365359108:=0
def tw17092160902801823232:=0
def tw14998680024319983864:=0
def tw14758648163467997619:=0
def tw16567530233515455158:=0
def tw11494889448996338415:=0
def tw1454066616080284259:=0
def tw10646066489240727212:=0
def tw7208571880670847467:=0
def tw9175031373286013848:=0
def tw15348819871000799283:=0
def tw15871726846173845910:=0
def tw4896751146547636568:=0
def tw12301255520402706686:=0
def tw18206478226983067145:=0
def tw2810864408408107337:=0
def tw16990673484802658791:=0
def tw15687820508737320014:=0
def tw12541815124517642537:=0
def tw762144019291587950:=0
def tw2222969743446468987:=0
def tw950344849858735592:=0
def tw2954857853444359356:=0
def tw11108617107413594109:=0
def tw6803450250945557727:=0
def tw6094594177441223657:=0
def tw6047614307976455907:=0
def tw1764260912878353468:=0
def tw7815035118028429214:=0
def tw16880064073802950515:=0
def tw14016921745960629253:=0
def tw4549527217218079057:=0
def tw15000397320935065303:=0
def tw7296331116368585141:=0
def tw15161756657287950506:=0
def tw6402602946639992063:=0
def tw16205233080817427736:=0
def tw13974228465474323741:=0
def tw6821300521709613272:=0
def tw7805113661298722546:=0
def tw2626777554290663006:=0
def tw3312152530880367297:=0
def tw1662329900701300679:=0
def tw12054223939045765404:=0
def tw11973717594141731667:=0
def tw3039758138547058772:=0
def tw1717692975446180703:=0
def tw10513245862012639387:=0
def tw11850880238239042375:=0
def tw16101330495319474794:=0
def tw9773591266080174988:=0
def tw8510614432342538174:=0
def tw2488509556439498850:=0
def tw12605995969099431657:=0
def tw11167154267225982082:=0
def tw12867731198831003983:=0
def tw6287857340179685424:=0
def tw771752430166427281:=0
def tw11041113114147524563:=0
def tw6187891393216404864:=0
def tw17246127111181918357:=0
def tw3770748801365598281:=0
def tw14091751206815970133:=0
def tw5096381006458625236:=0
def tw2343213930668427490:=0
def tw15755006748712340310:=0
def tw6660195473648413777:=0
def tw1653062713869534495:=0
def tw12623642961813659059:=0
def tw6688637287655574062:=0
def tw2636296171818128423:=0
def tw17699354486872960504:=0
def tw4675672218874324107:=0
def tw13163496451687715186:=0
def tw6132827165415743923:=0
def tw1957560205900171409:=0
def tw5684409898316892976:=0
def tw3322747939040409142:=0
def tw14333120451365037288:=0
def tw16008759078754665140:=0
def tw15980150982867236407:=0
def tw13821987382679310545:=0
def tw9214538662164781448:=0
def tw13801155544225247172:=0
def tw16537370172695181132:=0
def tw4177870117462916116:=0
def tw14351674263150282685:=0
def tw13455801202713664832:=0
def tw8213976218181611603:=0
def tw11659770150480607325:=0
def tw5177230009501231968:=0
def tw14323682585662109618:=0
def tw12152838779647095737:=0
def tw10753029003754693113:=0
def tw1804608407742244894:=0
def tw504372808292818891:=0
def tw14546706238983215484:=0
def tw4078589302614251358:=0
def tw15065378301640690304:=0
def tw3943060513840291888:=0
def tw12496702386416577778:=0
def tw5562389443353224070:=0
def tw12421816972948798501:=0
def tw12220299144714675638:=0
def tw14665142104553929675:=0
def tw12709366993454079546:=0
def tw16297232165399329441:=0
def tw15027658654068297510:=0
def tw16125812133505069281:=0
def tw6080147910834303541:=0
def tw3604482859678179450:=0
def tw17663689525692297191:=0
def tw11927224303781257709:=0
def tw549760882665487946:=0
def tw18400949946691052686:=0
def tw17745001360940852381:=0
def tw82803912558290270:=0
def tw11214649090596339255:=0
def tw13809890316753307076:=0
def tw6490349125627735929:=0
def tw9368814025258165668:=0
def tw10095091320324627330:=0
def tw1320779082592608044:=0
def tw87633318141867444:=0
def tw3080176632750770762:=0
def tw12333630628731324515:=0
def tw18366926149846309010:=0
def tw7171255105643674381:=0
def tw776106532929066873:=0
def tw8749460420259706961:=0
def tw7053699989265582892:=0
def tw6674736640819355018:=0
def tw749516714992761111:=0
def tw7610047932375669344:=0
def tw15457903612547452544:=0
def tw1664381846317460972:=0
def tw12707431236291078628:=0
def tw7328710339207180237:=0
def tw9621128833808316413:=0
def tw193837392564053068:=0
end PySem.W.Fast
open PySem PySem.W PyProof.Rows
set_option maxRecDepth 100000 in
set_option maxHeartbeats 0 in
theorem PySem.Challenge.cw_worldfind_k52_numbers_holds : PySem.Challenge.rw_worldfind_k52_numbers.Holds := by
 w_on;o_law;k_head;(case hw=>w_witness2)
 k_fill
 refine L2.MS.walk (l:=PySem.Challenge.rw_worldfind_k52_numbers) (x:= "_law_script") (2*60+1) ⟨rfl,by decide,by decide⟩ rfl rfl (fun w h Y=>PySem.W.kIn_of Y) ?F
 case F=>
  intro w mg fa h KX G hmg
  refine' L2.MS.all_mk KX G hmg ?p0 ?p1 ?p2 ?p3 ?p4 ?p5 ?p6 ?p7 ?p8 ?p9 ?p10 ?p11 ?p12 ?p13 ?p14 ?p15 ?p16 ?p17 ?p18 ?p19 ?p20 ?p21 ?p22 ?p23 ?p24 ?p25 ?p26 ?p27 ?p28 ?p29 ?p30 ?p31 ?p32 ?p33 ?p34 ?p35 ?p36 ?p37 ?p38 ?p39 ?p40 ?p41 ?p42 ?p43 ?p44 ?p45 ?p46 ?p47 ?p48 ?p49 ?p50 ?p51 ?p52 ?p53 ?p54 ?p55 ?p56 ?p57 ?p58 ?p59 ?p60 ?p61 ?z0 ?z1 ?z2 ?z3 ?z4 ?z5 ?z6 ?z7 ?z8 ?z9 ?z10 ?z11 ?z12 ?z13 ?z14 ?z15 ?z16 ?z17 ?z18 ?z19 ?z20 ?o0 ?o1 ?o2 ?o3 ?o4 ?o5 ?o6 ?o7 ?o8 ?o9 ?o10 ?o11 ?o12 ?o13 ?o14 ?o15 ?cn0 ?cn1 ?xe1 ?xc1 ?xt1 ?xe4 ?xc4 ?xt4 ?xe9 ?xc9 ?xt9 ?xc7 ?xt7 ?xc10 ?xt10 ?xc11 ?xt11 ?xj7 ?qi0 ?xj10 ?qi1 ?xj11 ?qi2 ?hb0
  (case p0 | p1 | p2 | p3 | p4 | p5 | p6 | p7 | p8 | p9 | p10 | p11 | p12 | p13 | p14 | p15 | p16 | p17 | p18 | p19 | p20 | p21 | p22 | p23 | p24 | p25 | p26 | p27 | p28 | p29 | p30 | p31 | p32 | p33 | p34 | p35 | p36 | p37 | p38 | p39 | p40 | p41 | p42 | p43 | p44 | p45 | p46 | p47 | p48 | p49 | p50 | p51 | p52 | p53 | p54 | p55 | p56 | p57 | p58 | p59 | p60=>exact⟨_,_,_,_,_,_,_,_,_,by constructor<;>k_is⟩)
  (case p61=>constructor<;>k_is)
  (case z0 | z1 | z2 | z3 | z4 | z5 | z6 | z7 | z8 | z9 | z10 | z11 | z12 | z13 | z14 | z15 | z16 | z17 | z18 | z19 | z20 | o0 | o1 | o2 | o3 | o4 | o5 | o6 | o7 | o8 | o9 | o10 | o11 | o12 | o13 | o14 | o15 | cn0 | cn1=>k_is)
  (case xe1=>k_exc)
  (case xc1=>constructor<;>k_is)
  (case xt1=>constructor<;>kit_is)
  (case xe4=>k_exc)
  (case xc4=>constructor<;>k_is)
  (case xt4=>constructor<;>kit_is)
  (case xe9=>k_exc)
  (case xc9=>constructor<;>k_is)
  (case xt9=>constructor<;>kit_is)
  (case xc7=>constructor<;>k_is)
  (case xt7=>constructor<;>kit_is)
  (case xc10=>constructor<;>k_is)
  (case xt10=>constructor<;>kit_is)
  (case xc11=>constructor<;>k_is)
  (case xt11=>constructor<;>kit_is)
  (case xj7=>(constructor;kernel_rfl;kernel_rfl;all_goals k_is))
  (case qi0=>constructor<;>k_is)
  (case xj10=>(constructor;kernel_rfl;kernel_rfl;all_goals k_is))
  (case qi1=>constructor<;>k_is)
  (case xj11=>(constructor;kernel_rfl;kernel_rfl;all_goals k_is))
  (case qi2=>constructor<;>k_is)
  (case hb0=>k_is)
